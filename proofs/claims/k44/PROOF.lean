import PyProof.Rows.All
import Wide.All
import OpenK.AllK
import Wide.FinOn
import HandS.ForMost
import HandS.IsInst
import HandS.Zip
import HandS.More
import KE.LtData
import HandS.DictComp
import KE.SortKeyHeap
import HandS.SortKw
import HandS.OwnEq
import HandS.Conv
import HandS.TupAny
import PySem.Challenge.RW_spoorfold_k44_motions_with_least_words
import HandS.WrittenGet
import HandS.ExcInit
import HandS.ExcField
import HandS.WordsExc
import HandS.ExcOwn
import HandS.FStr
import HandS.RaiseMore
import KE.DataFind
import KE.KTryMore
import HandS.TryOnly
import HandS.Star
import HandS.IterVal
import KE.KDictKeyed
import KE.KDictDisplayH
import HandS.Dict
import HandS.TupLen
import HandS.Conv
import HandS.Iter
import KE.KDictWalk
import HandS.Defaults
import HandS.MakeKwOnly
set_option Elab.async false
set_option linter.all false
set_option maxRecDepth 100000
set_option maxHeartbeats 4000000
namespace Sf
open PySem PySem.Spec PyProof.Rows L2
/-! the text of the law by places -/
def topS (i : Nat) : Stmt := PySem.Challenge.pw_spoorfold_k44_motions_with_least_words.main.body.getD i (.Pass ⟨0, 0, 0, 0⟩)
abbrev s__wall : Stmt := topS 0
abbrev s_SpoorError___init__ : Stmt := inClass (topS 2) 0
abbrev s_BadWord___init__ : Stmt := inClass (topS 3) 0
abbrev s_BadWorld___init__ : Stmt := inClass (topS 4) 0
abbrev s_Heavy___init__ : Stmt := inClass (topS 5) 0
abbrev s_Wide___init__ : Stmt := inClass (topS 6) 0
abbrev s_is_word : Stmt := topS 11
abbrev s_need_word : Stmt := topS 12
abbrev s_motions : Stmt := topS 16
abbrev s_need_narrow : Stmt := topS 17
abbrev s_made_in : Stmt := topS 18
abbrev s_behind : Stmt := topS 19
abbrev s_is_upto : Stmt := topS 21
abbrev s_World___init__ : Stmt := inClass (topS 24) 0
abbrev s_World_moves : Stmt := inClass (topS 24) 1
abbrev s_World_letters : Stmt := inClass (topS 24) 2
abbrev s_World_go : Stmt := inClass (topS 24) 3
abbrev s_World_motion : Stmt := inClass (topS 24) 4
abbrev s_World_seen : Stmt := inClass (topS 24) 5
abbrev s_World_ways : Stmt := inClass (topS 24) 6
abbrev s_World_is_whole : Stmt := inClass (topS 24) 7
abbrev s_World_widened : Stmt := inClass (topS 24) 8
abbrev s_World_breaks : Stmt := inClass (topS 24) 9
abbrev s_World___eq__ : Stmt := inClass (topS 24) 10
abbrev s_World___len__ : Stmt := inClass (topS 24) 11
abbrev s_World___repr__ : Stmt := inClass (topS 24) 12
abbrev s_World_need_place : Stmt := inClass (topS 24) 13
abbrev s_World_led : Stmt := inClass (topS 24) 14
abbrev s_World_come_to : Stmt := inClass (topS 24) 15
abbrev s_leads_by : Stmt := topS 25
abbrev s_is_move : Stmt := topS 26
abbrev s__law_begin : Stmt := topS 28
abbrev s__law_pull : Stmt := topS 29
abbrev s__law_world : Stmt := topS 30
abbrev s__law_narrow : Stmt := topS 31
abbrev s__law_led : Stmt := topS 32
abbrev s__law_motions : Stmt := topS 33
abbrev s__law_same : Stmt := topS 34
abbrev s__law_told : Stmt := topS 35
abbrev s_law : Stmt := topS 36
end Sf
namespace Sf
open PySem PySem.Spec PyProof.Rows L2 TL
/-! ### helpers of heaps and blocks -/
theorem same_upd {H : Hp} {p : Addr} {o : HO} (h : H p = none) : Same H (upd H p o) := fun b x e => by
  rw [upd_ne (ne_of_none e h)]
  exact e
/-- all but what stands at b stands -/
def Fx (b : Addr) (H H' : Hp) : Prop := ∀ a o, H a = some o → a ≠ b → H' a = some o
theorem Fx.refl {b : Addr} {H : Hp} : Fx b H H := fun _ _ h _ => h
theorem Fx.of {b : Addr} {H H' : Hp} (h : Same H H') : Fx b H H' := fun a o e _ => h a o e
theorem Fx.trans {b : Addr} {H H1 H2 : Hp} (h : Fx b H H1) (k : Fx b H1 H2) : Fx b H H2 := fun a o e n => k a o (h a o e n) n
theorem Fx.same {b : Addr} {H H1 H2 : Hp} (h : Fx b H H1) (k : Same H1 H2) : Fx b H H2 := h.trans (.of k)
theorem Fx.upd {b : Addr} {H H1 : Hp} {o : HO} (h : Fx b H H1) : Fx b H (upd H1 b o) := fun a u e n => by
  rw [upd_ne n]
  exact h a u e n
theorem Fx.new {b p : Addr} {H H1 : Hp} {o : HO} (h : Fx b H H1) (n : H1 p = none) : Fx b H (L2.upd H1 p o) := h.same (same_upd n)
theorem Fx.seq {b a : Addr} {H H1 : Hp} {xs : List V} {K : PySem.W.Frag} (h : Fx b H H1) (n : a ≠ b) (s : SqL K H a xs) : SqL K H1 a xs := by
  rcases s with (s | ⟨o, s⟩) | s
  · exact .inl (.inl (h _ _ s n))
  · exact .inl (.inr ⟨o, h _ _ s n⟩)
  · exact .inr s
theorem seq_by {X : Cx} {st : Stmt} {rest : List Stmt} {D : Ends} {σ : L2.St} {H : Hp} (J : L2.St → Hp → Prop) (hr : ∃ u, PSs X rest u ∧ ∀ σ' H', J σ' H' → u D σ' H')
    (hs : ∀ u : TS, (∀ σ' H', J σ' H' → u D σ' H') → ∃ t, PS X st t ∧ t { D with nx := u D } σ H) : ∃ t, PSs X (st :: rest) t ∧ t D σ H := by
  obtain ⟨u, hu, k⟩ := hr
  obtain ⟨t, ht, h⟩ := hs u k
  exact ⟨tSeq t u, pss_cons ht hu, h⟩
theorem line_of {n : Nat} (h : n ≤ 100000) : n ≤ sizeLine := Nat.le_trans h (by decide)
theorem lineLt_of {n : Nat} (h : n ≤ 100000) : n < sizeLine := Nat.lt_of_le_of_lt h (by decide)
/-! ### the bag of the laws: its list at l, three numbers -/
structure BagL (H : Hp) (b l : Addr) (ns : List Int) (k z r : Int) : Prop where
  hb : H b = some (.lst [.ref l, .int k, .int z, .int r])
  hl : H l = some (.lst (ns.map V.int))
  k0 : 0 ≤ k
  z0 : 0 ≤ z
  r0 : 0 ≤ r
  r1 : r < 2147483647
def Bag (H : Hp) (b l : Addr) : Prop := ∃ (ns : List Int) (k z r : Int), BagL H b l ns k z r
theorem bag_ne {l : Addr} {ns : List Int} {vs : List V} : HO.lst (.ref l :: vs) ≠ HO.lst (ns.map V.int) := fun e => by
  cases ns with
  | nil => cases e
  | cons x r => cases e
theorem BagL.ne {H : Hp} {b l : Addr} {ns : List Int} {k z r : Int} (h : BagL H b l ns k z r) : l ≠ b := fun e => by
  have h1 := h.hb
  have h2 := h.hl
  rw [e, h1] at h2
  exact bag_ne (Option.some.inj h2)
theorem BagL.set {H : Hp} {b l : Addr} {ns : List Int} {k z r k' z' r' : Int} (h : BagL H b l ns k z r) (hk : 0 ≤ k') (hz : 0 ≤ z') (h0 : 0 ≤ r') (h1 : r' < 2147483647) :
    BagL (upd H b (.lst [.ref l, .int k', .int z', .int r'])) b l ns k' z' r' :=
  ⟨upd_same, by rw [upd_ne h.ne]; exact h.hl, hk, hz, h0, h1⟩
theorem Bag.same {H H' : Hp} {b l : Addr} (s : Same H H') : Bag H b l → Bag H' b l
  | ⟨ns, k, z, r, h⟩ => ⟨ns, k, z, r, s _ _ h.hb, s _ _ h.hl, h.k0, h.z0, h.r0, h.r1⟩
theorem Bag.new {H : Hp} {b l p : Addr} {o : HO} (h : Bag H b l) (n : H p = none) : Bag (upd H p o) b l := h.same (same_upd n)
theorem Bag.ne {H : Hp} {b l p : Addr} (h : Bag H b l) (n : H p = none) : p ≠ b := fun e => by
  obtain ⟨ns, k, z, r, h⟩ := h
  rw [e, h.hb] at n
  cases n
theorem Bag.neL {H : Hp} {b l p : Addr} (h : Bag H b l) (n : H p = none) : p ≠ l := fun e => by
  obtain ⟨ns, k, z, r, h⟩ := h
  rw [e, h.hl] at n
  cases n
theorem len_eq {α : Type} {xs : List α} {n : Nat} (h : xs.length = n) : ((xs.length : Nat) : Int) = (n : Int) := by rw [h]
theorem int_at {ns : List Int} {k : Int} (h0 : 0 ≤ k) (h1 : k < ((ns.map V.int).length : Nat)) : ∃ v : Int, atI (ns.map V.int) k = some (.int v) := by
  rw [List.length_map] at h1
  refine ⟨ns[k.toNat]'(by omega), at_of (j := k.toNat) (by omega) ?_⟩
  rw [List.getElem?_map, List.getElem?_eq_getElem (by omega)]
  rfl
end Sf
namespace Sf
open PySem PySem.Spec PyProof.Rows L2 TL
/-! ### what stands at the top: a def of the text; a def that keeps a promise; a constant; built-in names -/
def FnAt (K : PySem.W.Frag) (mg : Str → Option Value) (x : Str) (st : Stmt) (ps : List Str) : Prop := ∃ (f : Addr) (fd : FuncData), mg x = some (.ref f) ∧ Fun K x x st f fd ∧ Binds K fd ps []
def Has (P : Program) (w : World) (K : PySem.W.Frag) (mg : Str → Option Value) (base : Heap) (k : Nat) (x : Str) (ps : List Str) (sp : Sp) : Prop :=
  ∃ (f : Addr) (fd : FuncData), mg x = some (.ref f) ∧ PySem.W.keepIn K (.ref f) = true ∧ Binds K fd ps [] ∧ FnOk P w K mg base CX0 k f fd ps sp
theorem FnAt.has {P : Program} {w : World} {K : PySem.W.Frag} {mg : Str → Option Value} {base : Heap} {k : Nat} {x : Str} {st : Stmt} {ps : List Str} {sp : Sp} (h : FnAt K mg x st ps)
    (ok : ∀ {f : Addr} {fd : FuncData}, Fun K x x st f fd → FnOk P w K mg base CX0 k f fd ps sp) : Has P w K mg base k x ps sp := by
  obtain ⟨f, fd, g, F, b⟩ := h
  exact ⟨f, fd, g, F.kp, b, ok F⟩
theorem fnAt_mk {K : PySem.W.Frag} {h : Heap} {mg : Str → Option Value} {x : Str} {st : Stmt} {ps : List Str} {f : Addr} {oc : Value} {od an : Option Addr} {osl : Array (Option Value)} {kV doc pm cdv ct : Value} (X : K.In h) (G : h.Ns mainGlobals mg)
    (a : PySem.W.nsIn K mainGlobals x = some (some (.ref f))) (l : K.lookup f = some ⟨oc, od, .func (PySem.W.fnOf x x (defArgs st) (defBody st) (defScope st) .none kV doc pm an cdv ct), osl⟩)
    (c : PySem.W.codeIn K cdv x = true) (k : PySem.W.keepIn K (.ref f) = true)
    (b : ∀ (kV doc pm : Value) (an : Option Addr) (cdv ct : Value) (us : List Value), us.length = ps.length → bindArgs (PySem.W.fnOf x x (defArgs st) (defBody st) (defScope st) .none kV doc pm an cdv ct) ⟨us, []⟩ = pure (ps.zip us)) : FnAt K mg x st ps :=
  ⟨f, _, PySem.W.mg_of X G a, fun_mk l c k, (fun_mk l c k).binds b⟩
structure Blt (mg : Str → Option Value) : Prop where
  len : mg "len" = none
  range : mg "range" = none
  isinstance : mg "isinstance" = none
  list : mg "list" = none
  tuple : mg "tuple" = none
  bool : mg "bool" = none
  int : mg "int" = none
  str : mg "str" = none
  all : mg "all" = none
  zip : mg "zip" = none
  min : mg "min" = none
  sorted : mg "sorted" = none
theorem lc_gen {J : It} {n : Nat} {g : TG} {tt : TT} {te : TE} {vs : List Nat} {σ : L2.St} {H1 : Hp} {D : Addr} {Qd : Hp → Prop} (Pv : Nat → Hp → Prop) (h0 : Pv 0 (upd H1 D (.lst [])))
    (hgo : ∀ i H, i < n → Pv i H → J.go i H) (hst : ∀ H, Pv n H → J.stop n H)
    (hs : ∀ i x H H', i < n → Pv i H → J.yld i H x H' → g x (wipe σ vs) H' fun σ2 H2 => wipe σ2 vs = wipe σ vs ∧ tt σ2 H2 fun b H3 =>
      if b = true then te σ2 H3 fun y H4 => ∃ acc, H4 D = some (.lst acc) ∧ acc.length < sizeLine ∧ Pv (i + 1) (upd H4 D (.lst (acc ++ [y]))) else Pv (i + 1) H3) (hd : ∀ H, Pv n H → Qd H) :
    ∃ W : Nat → Nat → Hp → Prop, (∃ m, W 0 m (upd H1 D (.lst []))) ∧ ∀ i m H, W i m H →
      (J.stop i H ∧ Qd H) ∨ (J.go i H ∧ ∃ Nx : Hp → Prop, (∀ H', Nx H' → ∃ m', m' < m ∧ W (i + 1) m' H') ∧ ∀ x H', J.yld i H x H' → g x (wipe σ vs) H' fun σ2 H2 => wipe σ2 vs = wipe σ vs ∧ tt σ2 H2 fun b H3 =>
        if b = true then te σ2 H3 fun y H4 => ∃ acc, H4 D = some (.lst acc) ∧ acc.length < sizeLine ∧ Nx (upd H4 D (.lst (acc ++ [y]))) else Nx H3) := by
  refine ⟨fun i m H => m = n - i ∧ i ≤ n ∧ Pv i H, ⟨n, rfl, Nat.zero_le _, h0⟩, ?_⟩
  rintro i m H ⟨rfl, hi, p⟩
  by_cases hlt : i < n
  · exact .inr ⟨hgo i H hlt p, Pv (i + 1), fun H' p' => ⟨n - (i + 1), by omega, rfl, hlt, p'⟩, fun x H' y => hs i x H H' hlt p y⟩
  · have e : i = n := by omega
    subst e
    exact .inl ⟨hst H p, hd H p⟩
theorem for_gen {J : It} {n : Nat} {g : TG} {tb : TS} {D : Ends} {σ : L2.St} {H : Hp} (Pv : Nat → L2.St → Hp → Prop) (h0 : Pv 0 σ H) (hgo : ∀ i σ H, i < n → Pv i σ H → J.go i H) (hst : ∀ σ H, Pv n σ H → J.stop n H)
    (hs : ∀ i x σ H H', i < n → Pv i σ H → J.yld i H x H' → g x σ H' fun σ2 H2 => tb { D with nx := Pv (i + 1), ct := Pv (i + 1), bk := D.nx } σ2 H2) (hd : ∀ σ H, Pv n σ H → D.nx σ H) :
    ∃ W : Nat → Nat → L2.St → Hp → Prop, (∃ m, W 0 m σ H) ∧ ∀ i m σ H, W i m σ H →
      (J.stop i H ∧ D.nx σ H) ∨ (J.go i H ∧ ∃ N : L2.St → Hp → Prop, (∀ σ' H', N σ' H' → ∃ m', m' < m ∧ W (i + 1) m' σ' H') ∧ ∀ x H', J.yld i H x H' → g x σ H' fun σ2 H2 => tb { D with nx := N, ct := N, bk := D.nx } σ2 H2) := by
  refine ⟨fun i m σ H => m = n - i ∧ i ≤ n ∧ Pv i σ H, ⟨n, rfl, Nat.zero_le _, h0⟩, ?_⟩
  rintro i m σ H ⟨rfl, hi, p⟩
  by_cases hlt : i < n
  · exact .inr ⟨hgo i σ H hlt p, Pv (i + 1), fun σ' H' p' => ⟨n - (i + 1), by omega, rfl, hlt, p'⟩, fun x H' y => hs i x σ H H' hlt p y⟩
  · have e : i = n := by omega
    subst e
    exact .inl ⟨hst σ H p, hd σ H p⟩
theorem yes_if {σ : L2.St} {H : Hp} {A B : Hp → Prop} (h : A H) : tYes σ H (fun b H3 => if b = true then A H3 else B H3) := by
  show if true = true then A H else B H
  exact iteT h
/-! ### signs and words -/
def sgn (c : Nat) : Bool := (decide (97 ≤ c) && decide (c ≤ 104)) || (decide (65 ≤ c) && decide (c ≤ 72))
theorem sgn_iff {c : Nat} : sgn c = true ↔ (97 ≤ c ∧ c ≤ 104) ∨ (65 ≤ c ∧ c ≤ 72) := by
  unfold sgn
  simp only [Bool.or_eq_true, Bool.and_eq_true, decide_eq_true_eq]
def flipC (c : Nat) : Nat := if 97 ≤ c then c - 32 else c + 32
def Wd (x : Str) : Prop := ∀ c ∈ tl x, sgn c = true
abbrev one (c : Nat) : Str := ⟨#[c]⟩
theorem tl_one (c : Nat) : tl (one c) = [c] := rfl
theorem len_one (c : Nat) : (one c).length = 1 := rfl
theorem len_app (x y : Str) : (x ++ y).length = x.length + y.length := by
  rw [len_tl, len_tl, len_tl, tl_append, List.length_append]
theorem Wd.app {x y : Str} (hx : Wd x) (hy : Wd y) : Wd (x ++ y) := fun c hc => by
  rw [tl_append, List.mem_append] at hc
  exact hc.elim (hx c) (hy c)
theorem wd_one {c : Nat} (h : sgn c = true) : Wd (one c) := fun d hd => by
  rw [tl_one, List.mem_singleton] at hd
  rw [hd]
  exact h
theorem tl_small : (Str.ofString "abcdefgh").cps.toList = [97, 98, 99, 100, 101, 102, 103, 104] := by decide +kernel
theorem tl_great : (Str.ofString "ABCDEFGH").cps.toList = [65, 66, 67, 68, 69, 70, 71, 72] := by decide +kernel
theorem tl_signs : (Str.ofString "aAbBcCdDeEfFgGhH").cps.toList = [97, 65, 98, 66, 99, 67, 100, 68, 101, 69, 102, 70, 103, 71, 104, 72] := by decide +kernel
theorem in_small {c : Nat} : (c ∈ (Str.ofString "abcdefgh").cps.toList) ↔ (97 ≤ c ∧ c ≤ 104) := by
  rw [tl_small]
  simp only [List.mem_cons, List.not_mem_nil, or_false]
  omega
theorem in_signs {c : Nat} : (c ∈ (Str.ofString "aAbBcCdDeEfFgGhH").cps.toList) ↔ sgn c = true := by
  rw [tl_signs, sgn_iff]
  simp only [List.mem_cons, List.not_mem_nil, or_false]
  omega
theorem upper_one {c : Nat} (h : 97 ≤ c ∧ c ≤ 104) : Txt.upper (one c) = one (c - 32) := by
  have : c = 97 ∨ c = 98 ∨ c = 99 ∨ c = 100 ∨ c = 101 ∨ c = 102 ∨ c = 103 ∨ c = 104 := by omega
  rcases this with rfl | rfl | rfl | rfl | rfl | rfl | rfl | rfl <;> decide +kernel
theorem lower_one {c : Nat} (h : 65 ≤ c ∧ c ≤ 72) : Txt.lower (one c) = one (c + 32) := by
  have : c = 65 ∨ c = 66 ∨ c = 67 ∨ c = 68 ∨ c = 69 ∨ c = 70 ∨ c = 71 ∨ c = 72 := by omega
  rcases this with rfl | rfl | rfl | rfl | rfl | rfl | rfl | rfl <;> decide +kernel
theorem flip_sgn {c : Nat} (h : sgn c = true) : sgn (flipC c) = true := by
  rw [sgn_iff] at h ⊢
  unfold flipC
  split <;> omega
theorem at_small {e : Int} (h0 : 0 ≤ e) (h1 : e < 8) : atI (Str.ofString "abcdefgh").cps.toList e = some (97 + e.toNat) := by
  have : e = 0 ∨ e = 1 ∨ e = 2 ∨ e = 3 ∨ e = 4 ∨ e = 5 ∨ e = 6 ∨ e = 7 := by omega
  rw [tl_small]
  rcases this with rfl | rfl | rfl | rfl | rfl | rfl | rfl | rfl <;> rfl
theorem at_great {e : Int} (h0 : 0 ≤ e) (h1 : e < 8) : atI (Str.ofString "ABCDEFGH").cps.toList e = some (65 + e.toNat) := by
  have : e = 0 ∨ e = 1 ∨ e = 2 ∨ e = 3 ∨ e = 4 ∨ e = 5 ∨ e = 6 ∨ e = 7 := by omega
  rw [tl_great]
  rcases this with rfl | rfl | rfl | rfl | rfl | rfl | rfl | rfl <;> rfl
theorem at_end {x : List Nat} (h : x ≠ []) : ∃ c, atI x (-1) = some c ∧ c ∈ x := by
  refine ⟨x.getLast h, ?_, List.getLast_mem h⟩
  have e := atI_last x.dropLast (x.getLast h)
  rw [List.dropLast_concat_getLast h] at e
  exact e
theorem str_ne {x : Str} (h : ¬ V.str x = V.str "") : tl x ≠ [] := fun e => h (by
  have : x = "" := ext_tl (by rw [e]; decide +kernel)
  rw [this])
theorem wd_nil : Wd "" := fun c hc => by
  have e : tl "" = [] := by decide +kernel
  rw [e] at hc
  cases hc
/-! ### two values of the same data -/
def flat4 : V → Bool
  | .non => true
  | .bl _ => true
  | .int _ => true
  | .str _ => true
  | _ => false
def Eqv (H : Hp) : Nat → V → V → Prop
  | 0, x, y => flat4 x = true ∧ x = y
  | n + 1, x, y => (flat4 x = true ∧ x = y) ∨ ∃ (p q : Addr) (xs ys : List V), x = .ref p ∧ y = .ref q ∧ ((H p = some (.lst xs) ∧ H q = some (.lst ys)) ∨ (H p = some (.tup xs) ∧ H q = some (.tup ys))) ∧
      xs.length = ys.length ∧ xs.length ≤ 100000 ∧ ∀ (i : Nat) (x y : V), xs[i]? = some x → ys[i]? = some y → Eqv H n x y
theorem Eqv.same {H H' : Hp} (s : Same H H') : ∀ {n : Nat} {x y : V}, Eqv H n x y → Eqv H' n x y
  | 0, _, _, h => h
  | _ + 1, _, _, .inl h => .inl h
  | _ + 1, _, _, .inr ⟨p, q, xs, ys, ex, ey, hp, hl, hz, k⟩ => .inr ⟨p, q, xs, ys, ex, ey, hp.elim (fun h => .inl ⟨s _ _ h.1, s _ _ h.2⟩) (fun h => .inr ⟨s _ _ h.1, s _ _ h.2⟩), hl, hz, fun i x y hx hy => Eqv.same s (k i x y hx hy)⟩
theorem Eqv.flat {H : Hp} {n : Nat} {x : V} (h : flat4 x = true) : Eqv H n x x := by
  cases n with
  | zero => exact ⟨h, rfl⟩
  | succ n => exact .inl ⟨h, rfl⟩
theorem flat_kit {K : PySem.W.Frag} {H : Hp} {x : V} (h : flat4 x = true) : ∃ (T : String) (b1 b2 b3 : Bool), TyX K H x (.type T) ∧ kitB T "list" = some false ∧ kitB T "tuple" = some false ∧ kitB T "bool" = some b1 ∧ kitB T "int" = some b2 ∧ kitB T "str" = some b3 := by
  cases x with
  | non => exact ⟨"NoneType", false, false, false, .base .non, by decide +kernel, by decide +kernel, by decide +kernel, by decide +kernel, by decide +kernel⟩
  | bl b => exact ⟨"bool", true, true, false, .base (.bl b), by decide +kernel, by decide +kernel, by decide +kernel, by decide +kernel, by decide +kernel⟩
  | int b => exact ⟨"int", false, true, false, .base (.int b), by decide +kernel, by decide +kernel, by decide +kernel, by decide +kernel, by decide +kernel⟩
  | str b => exact ⟨"str", false, false, true, .base (.str b), by decide +kernel, by decide +kernel, by decide +kernel, by decide +kernel, by decide +kernel⟩
  | byt b => cases h
  | flt b => cases h
  | ref b => cases h
  | ty b => cases h
theorem TyX.same {K : PySem.W.Frag} {H H' : Hp} {x : V} {T : String} (s : Same H H') (f : flat4 x = true) (h : TyX K H x (.type T)) : TyX K H' x (.type T) := by
  cases x with
  | non => cases h with | base h => cases h with | non => exact .base .non
  | bl b => cases h with | base h => cases h with | bl => exact .base (.bl b)
  | int b => cases h with | base h => cases h with | int => exact .base (.int b)
  | str b => cases h with | base h => cases h with | str => exact .base (.str b)
  | byt b => cases f
  | flt b => cases f
  | ref b => cases f
  | ty b => cases f
theorem kit2 {K : PySem.W.Frag} {T : String} (h1 : kitB T "list" = some false) (h2 : kitB T "tuple" = some false) : PySem.W.kitAny K (.type T) [.type "list", .type "tuple"] = some false :=
  kitAny_cons (kit_ty h1) (fun _ => kitAny_cons (kit_ty h2) (fun _ => kitAny_nil) (fun q => nomatch q)) (fun q => nomatch q)
theorem scal_flat {x : V} (h : flat4 x = true) : scal x x = true := by
  cases x <;> first | rfl | cases h
theorem ne_bl (b : Bool) : (!decide (V.bl b = V.bl b)) = false := by simp
end Sf
namespace Sf
open PySem PySem.Spec PyProof.Rows L2 TL
/-! ### blocks by what holds ahead and behind -/
def Stp {ι : Type} (X : Cx) (st : Stmt) (pre post : ι → L2.St → Hp → Prop) : Prop := ∃ t, PS X st t ∧ ∀ (i : ι) (D : Ends) (σ : L2.St) (H : Hp), pre i σ H → (∀ σ' H', post i σ' H' → D.nx σ' H') → t D σ H
def Blk {ι : Type} (X : Cx) (sts : List Stmt) (pre post : ι → L2.St → Hp → Prop) : Prop := ∃ t, PSs X sts t ∧ ∀ (i : ι) (D : Ends) (σ : L2.St) (H : Hp), pre i σ H → (∀ σ' H', post i σ' H' → D.nx σ' H') → t D σ H
theorem Blk.cons {ι : Type} {X : Cx} {st : Stmt} {rest : List Stmt} {pre post : ι → L2.St → Hp → Prop} (mid : ι → L2.St → Hp → Prop) (a : Stp X st pre mid) (b : Blk X rest mid post) : Blk X (st :: rest) pre post := by
  obtain ⟨t, ht, h⟩ := a
  obtain ⟨u, hu, k⟩ := b
  exact ⟨tSeq t u, pss_cons ht hu, fun i D σ H hp hq => h i _ σ H hp fun σ' H' hm => k i D σ' H' hm hq⟩
theorem Blk.one {ι : Type} {X : Cx} {st : Stmt} {pre post : ι → L2.St → Hp → Prop} (a : Stp X st pre post) : Blk X [st] pre post := by
  obtain ⟨t, ht, h⟩ := a
  exact ⟨t, pss_one ht, h⟩
/-- the same within a block -/
theorem Stp.rng {ι : Type} {X : Cx} {tg iter : Expr} {body : List Stmt} {pos : Pos} {wi : TI} {k : Nat} {pre post : ι → L2.St → Hp → Prop} (Pv : ι → Nat → Nat → L2.St → Hp → Prop) (hp : PassesOwn (model X.prog X.w) X.A X.env X.xe) (hc : X.calm = true) (hi : PI X tg iter wi) (hg : PG X tg (gName k))
    (hk : ∀ (j : ι) (σ : L2.St) (H : Hp) (R : It → Hp → Prop), pre j σ H → (∀ n H1, Pv j n 0 σ H1 → R (Itr 0 n) H1) → wi σ H R)
    (hb : Blk (ι := ι × Nat × Nat) X body (fun i σ H => i.2.2 < i.2.1 ∧ ∃ σ0, Pv i.1 i.2.1 i.2.2 σ0 H ∧ σ = σ0.set k (some (.int (0 + (i.2.2 : Int))))) (fun i σ H => Pv i.1 i.2.1 (i.2.2 + 1) σ H))
    (hr : ∀ j n σ H, Pv j n n σ H → post j σ H) (hs : ∀ x, foldedSetIterable iter X.env x = pure x := by intro _; rfl) : Stp X (.For tg iter body [] pos) pre post := by
  obtain ⟨tb, hb, kb⟩ := hb
  refine ⟨_, ps_for hp hc hi hg hb hs, fun j D σ H h0 hq => ?_⟩
  refine hk j σ H _ h0 fun n H1 h0 => ?_
  exact for_range (lo := 0) (n := n) (Pv j n) h0 (fun i σ1 H2 hlt hv => kb (j, n, i) _ _ _ ⟨hlt, σ1, hv, rfl⟩ fun σ' H' h => h) (fun σ1 H2 hv => hq σ1 H2 (hr j n σ1 H2 hv))
/-- the rest of a def's body -/
def Tl (X : Cx) (sts : List Stmt) (D : Ends) (J : L2.St → Hp → Prop) : Prop := ∃ u, PSs X sts u ∧ ∀ σ H, J σ H → u D σ H
theorem Tl.start {X : Cx} {sts : List Stmt} {D : Ends} {σ : L2.St} {H : Hp} (h : Tl X sts D (fun σ' H' => σ' = σ ∧ H' = H)) : ∃ t, PSs X sts t ∧ t D σ H := by
  obtain ⟨u, hu, k⟩ := h
  exact ⟨u, hu, k σ H ⟨rfl, rfl⟩⟩
theorem Tl.cons {X : Cx} {st : Stmt} {rest : List Stmt} {D : Ends} {J : L2.St → Hp → Prop} (mid : L2.St → Hp → Prop) (a : Stp (ι := Unit) X st (fun _ => J) (fun _ => mid)) (b : Tl X rest D mid) : Tl X (st :: rest) D J := by
  obtain ⟨t, ht, h⟩ := a
  obtain ⟨u, hu, k⟩ := b
  exact ⟨tSeq t u, pss_cons ht hu, fun σ H hj => h () _ σ H hj k⟩
end Sf
namespace Sf
open PySem PySem.Spec PyProof.Rows L2 TL
section
variable {P : Program} {w : World} {K : PySem.W.Frag} {mg : Str → Option Value} {base : Heap}
/-! ### _law_pull: some number below many -/
def spPull : Sp := fun vs H Q _ => ∃ (b l : Addr) (n : Int), vs = [.ref b, .int n] ∧ Bag H b l ∧ 0 < n ∧ n < 1073741824 ∧
  ∀ (d : Int) (H' : Hp), 0 ≤ d → d < n → Bag H' b l → Fx b H H' → Q (.int d) H'
theorem sc_pull : FnScope ["_law_bag", "_law_many", "_law_cell", "_law_digit"] ["_law_bag", "_law_many"] (defScope s__law_pull) := ⟨rfl, rfl, rfl, by decide +kernel, rfl, by decide +kernel, by decide +kernel⟩
theorem ok_pull {f : Addr} {fd : FuncData} {j : Nat} (F : Fun K "_law_pull" "_law_pull" s__law_pull f fd) (ml : mg "len" = none) : FnOk P w K mg base CX0 (j + 1) f fd ["_law_bag", "_law_many"] spPull := by
  refine F.ok sc_pull (fun vs H Q E h => ?_) (fun cdv A outer s H vs Q E hr h => ?_)
  · obtain ⟨b, l, n, rfl, _⟩ := h
    rfl
  · obtain ⟨b, l, n, rfl, ⟨ns, k, z, r, hB⟩, hn0, hn1, q⟩ := h
    refine seq_by (fun σ H1 => ∃ (y2 : Option V) (k z r : Int), σ = [some (.ref b), some (.int n), y2, none] ∧ BagL H1 b l ns k z r ∧ Fx b H H1) ?_ ?_
    · refine ⟨_, pss_cons (ps_if (pt_cmpR op_gt (pe_ix ix_list (pv 0) pe_int (fun _ _ => rfl)) pe_int (nomark _))
          (pss_cons (ps_set (i := 3) sc_pull.nd rfl (.inl rfl) (pe_op op_mod (pe_ix ix_list (pv 0) pe_int (fun _ _ => rfl)) (pv 1)))
          (pss_cons (ps_asg (pe_op op_fdiv (pe_ix ix_list (pv 0) pe_int (fun _ _ => rfl)) (pv 1)) (pg_sub (pv 0) pe_int set_list))
          (pss_one (ps_ret (pv 3))))) pss_nil)
        (pss_cons (ps_asg (pe_op op_mod (pe_op op_add (pe_op op_add (pe_op op_mul (pe_op op_mod (pe_op op_mul (pe_ix ix_list (pv 0) pe_int (fun _ _ => rfl)) (pe_ix ix_list (pv 0) pe_int (fun _ _ => rfl))) pe_int) pe_int)
            (pe_op op_mul (pe_ix ix_list (pv 0) pe_int (fun _ _ => rfl)) pe_int)) pe_int) pe_int) (pg_sub (pv 0) pe_int set_list))
        (pss_one (ps_ret (pe_op op_mod (pe_op op_add (pe_op op_fdiv (pe_ix ix_list (pv 0) pe_int (fun _ _ => rfl)) pe_int) (pe_op op_mul (pe_op op_mod (pe_ix ix_list (pv 0) pe_int (fun _ _ => rfl)) pe_int) pe_int)) (pv 1))))), ?_⟩
      rintro σ H1 ⟨y2, k, z, r, rfl, B, fx⟩
      have hS := SqL.of (K := K) B.hb
      have rr0 := B.r0
      have rr1 := B.r1
      have zz0 := B.z0
      refine ⟨_, rfl, b, _, 2, _, rfl, rfl, hS, at_of (j := 2) rfl rfl, z, 0, rfl, rfl, _, rfl, ite2 (fun e => ?_) (fun e => ?_)⟩
      · have zp : 0 < z := of_decide_eq_true e
        refine ⟨_, rfl, b, _, 2, _, rfl, rfl, hS, at_of (j := 2) rfl rfl, _, rfl, z, n, rfl, rfl, hn0, ?_⟩
        refine ⟨_, rfl, b, _, 2, _, rfl, rfl, hS, at_of (j := 2) rfl rfl, _, rfl, z, n, rfl, rfl, ⟨hn0, hn1⟩, ?_⟩
        refine ⟨_, rfl, b, _, 2, 2, rfl, rfl, B.hb, rfl, ?_⟩
        refine ⟨_, rfl, ?_⟩
        refine q _ _ (Int.emod_nonneg _ (by omega)) (Int.emod_lt_of_pos _ hn0) ⟨ns, k, z / n, r, B.set B.k0 (Int.ediv_nonneg B.z0 (by omega)) B.r0 B.r1⟩ fx.upd
      · refine ⟨_, rfl, b, _, 3, _, rfl, rfl, hS, at_of (j := 3) rfl rfl, _, rfl, b, _, 3, _, rfl, rfl, hS, at_of (j := 3) rfl rfl, r, r, rfl, rfl, .inl ⟨by omega, by omega⟩,
          _, 2147483629, rfl, rfl, (by show (0 : Int) < 2147483629; decide), _, 5, rfl, rfl, .inr ⟨by decide, by decide⟩,
          _, rfl, b, _, 3, _, rfl, rfl, hS, at_of (j := 3) rfl rfl, r, 16807, rfl, rfl, .inr ⟨by decide, by decide⟩, _, _, rfl, rfl, _, 2531011, rfl, rfl, _, 2147483647, rfl, rfl, (by show (0 : Int) < 2147483647; decide), ?_⟩
        refine ⟨_, rfl, b, _, 3, 3, rfl, rfl, B.hb, rfl, ?_⟩
        have h0 : 0 ≤ (r * r % 2147483629 * 5 + r * 16807 + 2531011) % 2147483647 := Int.emod_nonneg _ (by decide)
        have h1 : (r * r % 2147483629 * 5 + r * 16807 + 2531011) % 2147483647 < 2147483647 := Int.emod_lt_of_pos _ (by decide)
        have B' : BagL (upd H1 b (.lst [.ref l, .int k, .int z, .int ((r * r % 2147483629 * 5 + r * 16807 + 2531011) % 2147483647)])) b l ns k z ((r * r % 2147483629 * 5 + r * 16807 + 2531011) % 2147483647) := B.set B.k0 B.z0 h0 h1
        have hS' := SqL.of (K := K) B'.hb
        refine ⟨_, rfl, b, _, 3, _, rfl, rfl, hS', at_of (j := 3) rfl rfl, _, 61, rfl, rfl, ⟨by decide, by decide⟩,
          _, rfl, b, _, 3, _, rfl, rfl, hS', at_of (j := 3) rfl rfl, _, 8191, rfl, rfl, (by show (0 : Int) < 8191; decide), _, 31, rfl, rfl, .inr ⟨by decide, by decide⟩, _, _, rfl, rfl, _, rfl, _, n, rfl, rfl, hn0, ?_⟩
        exact q _ _ (Int.emod_nonneg _ (by omega)) (Int.emod_lt_of_pos _ hn0) ⟨ns, k, z, _, B'⟩ fx.upd
    · intro u hu
      have hS := SqL.of (K := K) hB.hb
      have hS2 := SqL.of (K := K) hB.hl
      have rr0 := hB.r0
      have rr1 := hB.r1
      have zz0 := hB.z0
      have kk0 := hB.k0
      refine ⟨_, ps_if (PW.pt (pw_and (pt_cmpR op_eq (pe_ix ix_list (pv 0) pe_int (fun _ _ => rfl)) pe_int (nomark _))
            (pw_and1 (pt_cmpR op_lt (pe_ix ix_list (pv 0) pe_int (fun _ _ => rfl)) (pe_callB call_len_seq (by rfl) ml PySem.boot_len (pa_cons (pe_ix ix_list (pv 0) pe_int (fun _ _ => rfl)) pa_nil)) (nomark _)))))
          (pss_cons (ps_set (i := 2) sc_pull.nd rfl (.inl rfl) (pe_ix ix_list (pe_ix ix_list (pv 0) pe_int (fun _ _ => rfl)) (pe_ix ix_list (pv 0) pe_int (fun _ _ => rfl)) (fun _ _ => rfl)))
          (pss_cons (ps_asg (pe_op op_add (pe_ix ix_list (pv 0) pe_int (fun _ _ => rfl)) pe_int) (pg_sub (pv 0) pe_int set_list))
          (pss_one (ps_if (pt_cmpR op_ge (pv 2) (pe_op op_pow pe_int pe_int) (nomark _))
            (pss_one (ps_asg (pv 2) (pg_sub (pv 0) pe_int set_list)))
            (pss_one (ps_asg (pe_op op_mod (pe_op op_add (pe_op op_add (pe_op op_mul (pe_ix ix_list (pv 0) pe_int (fun _ _ => rfl)) pe_int) (pe_op op_mul (pe_op op_mod (pv 2) pe_int) pe_int)) pe_int) pe_int) (pg_sub (pv 0) pe_int set_list)))))))
          pss_nil, ?_⟩
      refine ⟨_, rfl, b, _, 2, _, rfl, rfl, hS, at_of (j := 2) rfl rfl, rfl, _, rfl, ite2 (fun e => ?_) (fun e => ?_)⟩
      · refine ⟨_, rfl, b, _, 1, _, rfl, rfl, hS, at_of (j := 1) rfl rfl, _, rfl, b, _, 0, _, rfl, rfl, hS, at_of (j := 0) rfl rfl, l, _, rfl, .inl hS2, k, _, rfl, rfl, _, rfl, ite2 (fun e2 => ?_) (fun e2 => ?_)⟩
        · obtain ⟨v, hv⟩ := int_at (ns := ns) kk0 (of_decide_eq_true e2)
          refine ⟨_, rfl, b, _, 0, _, rfl, rfl, hS, at_of (j := 0) rfl rfl, _, rfl, b, _, 1, _, rfl, rfl, hS, at_of (j := 1) rfl rfl, l, _, k, _, rfl, rfl, hS2, hv, ?_⟩
          refine ⟨_, rfl, b, _, 1, _, rfl, rfl, hS, at_of (j := 1) rfl rfl, k, 1, rfl, rfl, _, rfl, b, _, 1, 1, rfl, rfl, hB.hb, rfl, ?_⟩
          have B' : BagL (upd H b (.lst [.ref l, .int (k + 1), .int z, .int r])) b l ns (k + 1) z r := hB.set (by omega) zz0 rr0 rr1
          have hS' := SqL.of (K := K) B'.hb
          refine ⟨_, rfl, 10, 18, rfl, rfl, ⟨by decide, by decide, by decide⟩, v, _, rfl, rfl, _, rfl, ite2 (fun e3 => ?_) (fun e3 => ?_)⟩
          · have hv0 : 0 ≤ v := by
              have := of_decide_eq_true e3
              have h18 : (10 : Int) ^ (18 : Int).toNat = 1000000000000000000 := by decide +kernel
              rw [h18] at this
              omega
            refine ⟨_, rfl, _, rfl, b, _, 2, 2, rfl, rfl, B'.hb, rfl, ?_⟩
            exact hu _ _ ⟨some (.int v), k + 1, v, r, rfl, B'.set B'.k0 hv0 rr0 rr1, Fx.refl.upd.upd⟩
          · refine ⟨_, rfl, b, _, 3, _, rfl, rfl, hS', at_of (j := 3) rfl rfl, r, 48271, rfl, rfl, .inr ⟨by decide, by decide⟩, _, rfl, v, 2147483629, rfl, rfl, (by show (0 : Int) < 2147483629; decide), _, 69621, rfl, rfl, .inr ⟨by decide, by decide⟩,
              _, _, rfl, rfl, _, 12345, rfl, rfl, _, 2147483647, rfl, rfl, (by show (0 : Int) < 2147483647; decide), ?_⟩
            refine ⟨_, rfl, b, _, 3, 3, rfl, rfl, B'.hb, rfl, ?_⟩
            exact hu _ _ ⟨some (.int v), k + 1, z, _, rfl, B'.set B'.k0 B'.z0 (Int.emod_nonneg _ (by decide)) (Int.emod_lt_of_pos _ (by decide)), Fx.refl.upd.upd⟩
        · exact hu _ _ ⟨none, k, z, r, rfl, hB, .refl⟩
      · exact iteF (hu _ _ ⟨none, k, z, r, rfl, hB, .refl⟩)
end
end Sf
namespace Sf
open PySem PySem.Spec PyProof.Rows L2 TL
section
variable {P : Program} {w : World} {K : PySem.W.Frag} {mg : Str → Option Value} {base : Heap}
abbrev HasPull (P : Program) (w : World) (K : PySem.W.Frag) (mg : Str → Option Value) (base : Heap) : Prop := Has P w K mg base 1 "_law_pull" ["_law_bag", "_law_many"] spPull
theorem has_pull (F : FnAt K mg "_law_pull" s__law_pull ["_law_bag", "_law_many"]) (B : Blt mg) : HasPull P w K mg base := F.has fun F => ok_pull F B.len
end
end Sf
namespace Sf
open PySem PySem.Spec PyProof.Rows L2 TL
section
variable {P : Program} {w : World} {K : PySem.W.Frag} {mg : Str → Option Value} {base : Heap}
/-! ### _law_begin -/
def spBegin (K : PySem.W.Frag) : Sp := fun vs H Q _ => ∃ (a : Addr) (ns : List Int), vs = [.ref a] ∧ SqL K H a (ns.map V.int) ∧ ∀ (b l : Addr) (H' : Hp), H b = none → Bag H' b l → Same H H' → Q (.ref b) H'
abbrev HasBegin (P : Program) (w : World) (K : PySem.W.Frag) (mg : Str → Option Value) (base : Heap) : Prop := Has P w K mg base 1 "_law_begin" ["_law_script"] (spBegin K)
theorem sc_begin : FnScope ["_law_script", "_law_salt", "_law_cell"] ["_law_script"] (defScope s__law_begin) := ⟨rfl, rfl, rfl, by decide +kernel, rfl, by decide +kernel, by decide +kernel⟩
theorem cut_ints (ns : List Int) (lo hi : Option Int) : ∃ ms : List Int, cutV (ns.map V.int) lo hi = ms.map V.int := by
  refine ⟨(ns.drop (HT.sIx (ns.map V.int).length 0 lo)).take (HT.sIx (ns.map V.int).length (ns.map V.int).length hi - HT.sIx (ns.map V.int).length 0 lo), ?_⟩
  unfold cutV
  rw [List.map_take, List.map_drop]
theorem has_begin (F : FnAt K mg "_law_begin" s__law_begin ["_law_script"]) (B : Blt mg) : HasBegin P w K mg base := F.has fun F => by
  refine F.ok sc_begin (fun vs H Q E h => ?_) (fun cdv A outer s H vs Q E hr h => ?_)
  · obtain ⟨a, ns, rfl, _⟩ := h
    rfl
  · obtain ⟨a, ns, rfl, hS, q⟩ := h
    refine ⟨_, pss_cons (ps_set (i := 1) sc_begin.nd rfl (.inl rfl) pe_int)
      (pss_cons (ps_for PassesOwn.never rfl (pi_list (pe_slice sl_list (pv 0) po_none (po_some pe_int))) (pg_name (i := 2) sc_begin.nd rfl (.inl rfl))
        (pss_one (ps_set (i := 1) sc_begin.nd rfl (.inl rfl) (pe_op op_mod (pe_op op_add (pe_op op_add (pe_op op_mul (pv 1) pe_int) (pe_op op_mod (pv 2) pe_int)) pe_int) pe_int))))
      (pss_one (ps_ret (pe_lst (pa_cons (pe_callTy call_list_of (by rfl) B.list (by decide +kernel) (pa_cons (pe_slice sl_list (pv 0) po_none (po_some pe_int)) pa_nil)) (pa_cons pe_int (pa_cons pe_int (pa_cons (pv 1) pa_nil)))))))), ?_⟩
    obtain ⟨ms, em⟩ := cut_ints ns none (some 63)
    refine ⟨_, rfl, 63, rfl, a, _, rfl, hS, fun p np => ?_⟩
    have s1 : Same H (upd H p (.lst (cutV (ns.map V.int) none (some 63)))) := same_upd np
    have hp : SqL K (upd H p (.lst (cutV (ns.map V.int) none (some 63)))) p (ms.map V.int) := SqL.of (by rw [upd_same, em])
    refine ⟨p, rfl, ⟨_, hp⟩, for_list (K := K) (a := p) (xs := ms.map V.int) (fun i σ H2 => ∃ (r : Int) (y : Option V), σ = [some (.ref a), some (.int r), y] ∧ 0 ≤ r ∧ r < 2147483647 ∧ H2 = upd H p (.lst (cutV (ns.map V.int) none (some 63))))
      ⟨977, none, rfl, by decide, by decide, rfl⟩ (fun i σ H2 _ ⟨_, _, _, _, _, e⟩ => by rw [e]; exact hp) ?_ ?_⟩
    · rintro i v σ H2 hi ⟨r, y, rfl, r0, r1, rfl⟩
      obtain ⟨z, rfl⟩ : ∃ z, v = V.int z := by
        rw [List.getElem?_map] at hi
        cases e : ms[i]? with
        | none =>
          rw [e] at hi
          cases hi
        | some z =>
          rw [e] at hi
          exact ⟨z, (Option.some.inj hi).symm⟩
      refine ⟨_, rfl, r, 1009, rfl, rfl, .inr ⟨by decide, by decide⟩, _, rfl, z, 2147483629, rfl, rfl, (by show (0 : Int) < 2147483629; decide), _, _, rfl, rfl, _, 7, rfl, rfl, _, 2147483629, rfl, rfl, (by show (0 : Int) < 2147483629; decide), ?_⟩
      have h0 : 0 ≤ (r * 1009 + z % 2147483629 + 7) % 2147483629 := Int.emod_nonneg _ (by decide)
      have h1 : (r * 1009 + z % 2147483629 + 7) % 2147483629 < 2147483629 := Int.emod_lt_of_pos _ (by decide)
      exact ⟨_, _, rfl, h0, by omega, rfl⟩
    · rintro σ H2 ⟨r, y, rfl, r0, r1, rfl⟩
      refine ⟨_, rfl, 63, rfl, a, _, rfl, s1.seq hS, fun p2 np2 => ?_⟩
      have hp2 : SqL K (upd (upd H p (.lst (cutV (ns.map V.int) none (some 63)))) p2 (.lst (cutV (ns.map V.int) none (some 63)))) p2 (ms.map V.int) := SqL.of (by rw [upd_same, em])
      have s2 := s1.trans (same_upd (o := .lst (cutV (ns.map V.int) none (some 63))) np2)
      refine ⟨p2, _, rfl, .inl hp2, fun l nl => ?_⟩
      have s3 := s2.trans (same_upd (o := .lst (ms.map V.int)) nl)
      refine ⟨_, rfl, (by show 4 ≤ sizeLine; decide), fun b nb => ?_⟩
      have s4 := s3.trans (same_upd (o := .lst [.ref l, .int 0, .int 0, .int r]) nb)
      refine q b l _ (s3.free nb) ⟨ms, 0, 0, r, upd_same, ?_, by decide, by decide, r0, r1⟩ s4
      have nlb : l ≠ b := fun z => by
        rw [← z, upd_same] at nb
        cases nb
      rw [upd_ne nlb, upd_same]
end
end Sf
namespace Sf
open PySem PySem.Spec PyProof.Rows L2 TL
section
variable {P : Program} {w : World} {K : PySem.W.Frag} {mg : Str → Option Value} {base : Heap}
/-! ### _law_same: True of two values of the same data -/
def spSame (n : Nat) : Sp := fun vs H Q _ => ∃ x y : V, vs = [x, y] ∧ Eqv H n x y ∧ ∀ H', Same H H' → Q (.bl true) H'
abbrev HasSame (P : Program) (w : World) (K : PySem.W.Frag) (mg : Str → Option Value) (base : Heap) (n : Nat) : Prop := Has P w K mg base (n + 1) "_law_same" ["_law_found", "_law_due"] (spSame n)
theorem sc_same : FnScope ["_law_found", "_law_due", "_law_one", "_law_other"] ["_law_found", "_law_due"] (defScope s__law_same) := ⟨rfl, rfl, rfl, by decide +kernel, rfl, by decide +kernel, by decide +kernel⟩
theorem all_true (n : Nat) : (List.replicate n true).all id = true := by
  induction n with
  | zero => rfl
  | succ n ih => rw [List.replicate_succ, List.all_cons, ih]; rfl
theorem has_same (F : FnAt K mg "_law_same" s__law_same ["_law_found", "_law_due"]) (B : Blt mg) : ∀ n, HasSame P w K mg base n := by
  intro n
  induction n with
  | zero =>
    refine F.has fun F => ?_
    refine F.ok sc_same (fun vs H Q E h => ?_) (fun cdv A outer s H vs Q E hr h => ?_)
    · obtain ⟨x, y, rfl, _⟩ := h
      rfl
    · obtain ⟨x, y, rfl, ⟨fx, rfl⟩, q⟩ := h
      obtain ⟨T, b1, b2, b3, ty, k1, k2, k3, k4, k5⟩ := flat_kit (K := K) (H := H) fx
      refine ⟨_, pss_cons (ps_if (pt_val (pe_callB call_isiT (by rfl) B.isinstance (by decide +kernel) (pa_cons (pv 1) (pa_cons (pe_tup (pa_cons (pe_bltn (v := .ty "list") (by rfl) B.list (by decide +kernel) rfl) (pa_cons (pe_bltn (v := .ty "tuple") (by rfl) B.tuple (by decide +kernel) rfl) pa_nil))) pa_nil)))) pss_never pss_nil)
        (pss_cons (ps_if (PW.pt (pw_or (pt_cmpR op_isN (pv 1) pe_non (nomark _)) (pw_or1 (pt_cmpR op_isN (pv 0) pe_non (nomark _))))) (pss_one (ps_ret (pe_and (pe_cmpR op_isN (pv 0) pe_non (nomark _)) (pe_one (pe_cmpR op_isN (pv 1) pe_non (nomark _)))))) pss_nil)
        (pss_cons (ps_if (PW.pt (pw_or (pt_cmpR op_ne (pe_callB call_isi (by rfl) B.isinstance (by decide +kernel) (pa_cons (pv 0) (pa_cons (pe_bltn (v := .ty "bool") (by rfl) B.bool (by decide +kernel) rfl) pa_nil))) (pe_callB call_isi (by rfl) B.isinstance (by decide +kernel) (pa_cons (pv 1) (pa_cons (pe_bltn (v := .ty "bool") (by rfl) B.bool (by decide +kernel) rfl) pa_nil))) (nomark _))
            (pw_or1 (pt_cmpR op_ne (pe_callB call_isi (by rfl) B.isinstance (by decide +kernel) (pa_cons (pv 0) (pa_cons (pe_bltn (v := .ty "int") (by rfl) B.int (by decide +kernel) rfl) pa_nil))) (pe_callB call_isi (by rfl) B.isinstance (by decide +kernel) (pa_cons (pv 1) (pa_cons (pe_bltn (v := .ty "int") (by rfl) B.int (by decide +kernel) rfl) pa_nil))) (nomark _))))) pss_never pss_nil)
        (pss_one (ps_ret (pe_and (pe_cmpR op_eq (pe_callB call_isi (by rfl) B.isinstance (by decide +kernel) (pa_cons (pv 0) (pa_cons (pe_bltn (v := .ty "str") (by rfl) B.str (by decide +kernel) rfl) pa_nil))) (pe_callB call_isi (by rfl) B.isinstance (by decide +kernel) (pa_cons (pv 1) (pa_cons (pe_bltn (v := .ty "str") (by rfl) B.str (by decide +kernel) rfl) pa_nil))) (nomark _)) (pe_one (pe_cmpR op_eq (pv 0) (pv 1) (nomark _)))))))), ?_⟩
      refine ⟨x, rfl, (by show 2 ≤ sizeLine; decide), fun p np => ?_⟩
      have s1 := same_upd (o := .tup [.ty "list", .ty "tuple"]) np
      have ty1 := TyX.same s1 fx ty
      refine ⟨x, p, _, _, [.type "list", .type "tuple"], false, rfl, upd_same, .cons (.ty _) (.cons (.ty _) .nil), ty1, kit2 k1 k2, _, rfl, iteF ?_⟩
      refine ⟨x, rfl, rfl, _, rfl, ite2 (fun e => ?_) (fun e => ?_)⟩
      · have ex : x = .non := of_decide_eq_true e
        subst ex
        refine iteT ⟨_, rfl, rfl, _, rfl, ite2 (fun _ => ⟨_, rfl, rfl, ?_⟩) (fun z => absurd (decide_eq_true rfl) z)⟩
        exact q _ s1
      · refine ⟨x, rfl, rfl, _, rfl, ite2 (fun e2 => absurd e2 e) (fun _ => ?_)⟩
        refine ⟨x, rfl, x, _, _, _, b1, rfl, .ty "bool", ty1, kit_ty k3, x, rfl, x, _, _, _, b1, rfl, .ty "bool", ty1, kit_ty k3, rfl, _, rfl, ite2 (fun z => ?_) (fun _ => ?_)⟩
        · rw [ne_bl] at z
          cases z
        · refine ⟨x, rfl, x, _, _, _, b2, rfl, .ty "int", ty1, kit_ty k4, x, rfl, x, _, _, _, b2, rfl, .ty "int", ty1, kit_ty k4, rfl, _, rfl, ite2 (fun z => ?_) (fun _ => ?_)⟩
          · rw [ne_bl] at z
            cases z
          · refine ⟨x, rfl, x, _, _, _, b3, rfl, .ty "str", ty1, kit_ty k5, x, rfl, x, _, _, _, b3, rfl, .ty "str", ty1, kit_ty k5, rfl, _, rfl, ite2 (fun z => ?_) (fun z => absurd (decide_eq_true rfl) z)⟩
            refine ⟨x, rfl, x, rfl, scal_flat fx, ?_⟩
            rw [decide_eq_true rfl]
            exact q _ s1
  | succ n ih =>
    obtain ⟨fR, fdR, gR, kR, bR, GR⟩ := ih
    refine F.has fun F => ?_
    refine F.ok sc_same (fun vs H Q E h => ?_) (fun cdv A outer s H vs Q E hr h => ?_)
    · obtain ⟨x, y, rfl, _⟩ := h
      rfl
    · obtain ⟨x, y, rfl, hE, q⟩ := h
      refine seq_by (fun σ H1 => σ = [some x, some x, none, none] ∧ flat4 x = true ∧ Same H H1) ?_ ?_
      · refine ⟨_, (pss_cons (ps_if (PW.pt (pw_or (pt_cmpR op_isN (pv 1) pe_non (nomark _)) (pw_or1 (pt_cmpR op_isN (pv 0) pe_non (nomark _))))) (pss_one (ps_ret (pe_and (pe_cmpR op_isN (pv 0) pe_non (nomark _)) (pe_one (pe_cmpR op_isN (pv 1) pe_non (nomark _)))))) pss_nil)
        (pss_cons (ps_if (PW.pt (pw_or (pt_cmpR op_ne (pe_callB call_isi (by rfl) B.isinstance (by decide +kernel) (pa_cons (pv 0) (pa_cons (pe_bltn (v := .ty "bool") (by rfl) B.bool (by decide +kernel) rfl) pa_nil))) (pe_callB call_isi (by rfl) B.isinstance (by decide +kernel) (pa_cons (pv 1) (pa_cons (pe_bltn (v := .ty "bool") (by rfl) B.bool (by decide +kernel) rfl) pa_nil))) (nomark _))
            (pw_or1 (pt_cmpR op_ne (pe_callB call_isi (by rfl) B.isinstance (by decide +kernel) (pa_cons (pv 0) (pa_cons (pe_bltn (v := .ty "int") (by rfl) B.int (by decide +kernel) rfl) pa_nil))) (pe_callB call_isi (by rfl) B.isinstance (by decide +kernel) (pa_cons (pv 1) (pa_cons (pe_bltn (v := .ty "int") (by rfl) B.int (by decide +kernel) rfl) pa_nil))) (nomark _))))) pss_never pss_nil)
        (pss_one (ps_ret (pe_and (pe_cmpR op_eq (pe_callB call_isi (by rfl) B.isinstance (by decide +kernel) (pa_cons (pv 0) (pa_cons (pe_bltn (v := .ty "str") (by rfl) B.str (by decide +kernel) rfl) pa_nil))) (pe_callB call_isi (by rfl) B.isinstance (by decide +kernel) (pa_cons (pv 1) (pa_cons (pe_bltn (v := .ty "str") (by rfl) B.str (by decide +kernel) rfl) pa_nil))) (nomark _)) (pe_one (pe_cmpR op_eq (pv 0) (pv 1) (nomark _)))))))), ?_⟩
        rintro σ H1 ⟨rfl, fx, s1⟩
        obtain ⟨T, b1, b2, b3, ty1, k1, k2, k3, k4, k5⟩ := flat_kit (K := K) (H := H1) fx
        refine ⟨x, rfl, rfl, _, rfl, ite2 (fun e => ?_) (fun e => ?_)⟩
        · have ex : x = .non := of_decide_eq_true e
          subst ex
          refine iteT ⟨_, rfl, rfl, _, rfl, ite2 (fun _ => ⟨_, rfl, rfl, ?_⟩) (fun z => absurd (decide_eq_true rfl) z)⟩
          exact q _ s1
        · refine ⟨x, rfl, rfl, _, rfl, ite2 (fun e2 => absurd e2 e) (fun _ => ?_)⟩
          refine ⟨x, rfl, x, _, _, _, b1, rfl, .ty "bool", ty1, kit_ty k3, x, rfl, x, _, _, _, b1, rfl, .ty "bool", ty1, kit_ty k3, rfl, _, rfl, ite2 (fun z => ?_) (fun _ => ?_)⟩
          · rw [ne_bl] at z
            cases z
          · refine ⟨x, rfl, x, _, _, _, b2, rfl, .ty "int", ty1, kit_ty k4, x, rfl, x, _, _, _, b2, rfl, .ty "int", ty1, kit_ty k4, rfl, _, rfl, ite2 (fun z => ?_) (fun _ => ?_)⟩
            · rw [ne_bl] at z
              cases z
            · refine ⟨x, rfl, x, _, _, _, b3, rfl, .ty "str", ty1, kit_ty k5, x, rfl, x, _, _, _, b3, rfl, .ty "str", ty1, kit_ty k5, rfl, _, rfl, ite2 (fun z => ?_) (fun z => absurd (decide_eq_true rfl) z)⟩
              refine ⟨x, rfl, x, rfl, scal_flat fx, ?_⟩
              rw [decide_eq_true rfl]
              exact q _ s1
      · intro u hu
        refine ⟨_, ps_if (pt_val (pe_callB call_isiT (by rfl) B.isinstance (by decide +kernel) (pa_cons (pv 1) (pa_cons (pe_tup (pa_cons (pe_bltn (v := .ty "list") (by rfl) B.list (by decide +kernel) rfl) (pa_cons (pe_bltn (v := .ty "tuple") (by rfl) B.tuple (by decide +kernel) rfl) pa_nil))) pa_nil))))
          (pss_cons (ps_if (PW.pt (pw_or (pt_cmpR op_ne (pe_callB call_isi (by rfl) B.isinstance (by decide +kernel) (pa_cons (pv 0) (pa_cons (pe_bltn (v := .ty "list") (by rfl) B.list (by decide +kernel) rfl) pa_nil))) (pe_callB call_isi (by rfl) B.isinstance (by decide +kernel) (pa_cons (pv 1) (pa_cons (pe_bltn (v := .ty "list") (by rfl) B.list (by decide +kernel) rfl) pa_nil))) (nomark _)) (pw_or1 (pt_cmpR op_ne (pe_callB call_isi (by rfl) B.isinstance (by decide +kernel) (pa_cons (pv 0) (pa_cons (pe_bltn (v := .ty "tuple") (by rfl) B.tuple (by decide +kernel) rfl) pa_nil))) (pe_callB call_isi (by rfl) B.isinstance (by decide +kernel) (pa_cons (pv 1) (pa_cons (pe_bltn (v := .ty "tuple") (by rfl) B.tuple (by decide +kernel) rfl) pa_nil))) (nomark _))))) pss_never pss_nil)
          (pss_one (ps_ret (pe_and (pe_cmpR op_eq (pe_callB call_len_seq (by rfl) B.len PySem.boot_len (pa_cons (pv 0) pa_nil)) (pe_callB call_len_seq (by rfl) B.len PySem.boot_len (pa_cons (pv 1) pa_nil)) (nomark _))
            (pe_one (pe_callB (cr_all rfl) (by rfl) B.all (by decide +kernel) (pa_cons (pe_lc (own := [("_law_one", 2), ("_law_other", 3)]) (g := gTup K 2 (gCons (gName 2) (gCons (gName 3) gNil))) (tt := tYes) (by rfl) sc_same.nd (RZ.pi_zipA (by rfl) B.zip (pa_cons (pv 0) (pa_cons (pv 1) pa_nil)))
              (blkOk_by (own := [("_law_one", 2), ("_law_other", 3)]) (N := ["_law_found", "_law_due", "_law_one", "_law_other"]) (sc := defScope s__law_same) (by decide +kernel))
              (fun _ _ _ _ _ => pg_tup rfl (pgs_cons (pg_name (i := 2) sc_same.nd rfl (.inl rfl)) (pgs_cons (pg_name (i := 3) sc_same.nd rfl (.inl rfl)) pgs_nil))) (fun _ _ _ _ _ => pts_nil)
              (fun _ _ _ _ _ => pe_call GR hr (by rfl) gR kR bR .nil pass0 (pa_cons (pv 2) (pa_cons (pv 3) pa_nil)))) pa_nil))))))) pss_nil, ?_⟩
        refine ⟨y, rfl, (by show 2 ≤ sizeLine; decide), fun p np => ?_⟩
        have s1 := same_upd (o := .tup [.ty "list", .ty "tuple"]) np
        rcases hE with ⟨fx, rfl⟩ | ⟨pa, pb, xs, ys, rfl, rfl, hxy, hlen, hsz, hEach⟩
        · obtain ⟨T, b1, b2, b3, ty, k1, k2, k3, k4, k5⟩ := flat_kit (K := K) (H := upd H p (.tup [.ty "list", .ty "tuple"])) fx
          exact ⟨x, p, _, _, [.type "list", .type "tuple"], false, rfl, upd_same, .cons (.ty _) (.cons (.ty _) .nil), ty, kit2 k1 k2, _, rfl, iteF (hu _ _ ⟨rfl, fx, s1⟩)⟩
        · obtain ⟨T, bl, bt, tyx, tyy, kany, kl, kt⟩ : ∃ (T : String) (bl bt : Bool), TyX K (upd H p (.tup [.ty "list", .ty "tuple"])) (.ref pa) (.type T) ∧ TyX K (upd H p (.tup [.ty "list", .ty "tuple"])) (.ref pb) (.type T) ∧
              PySem.W.kitAny K (.type T) [.type "list", .type "tuple"] = some true ∧ kitB T "list" = some bl ∧ kitB T "tuple" = some bt := by
            rcases hxy with ⟨ha, hb⟩ | ⟨ha, hb⟩
            · exact ⟨"list", true, false, .base (.lst (s1 _ _ ha)), .base (.lst (s1 _ _ hb)), kitAny_cons (kit_ty (b := "list") (r := true) (by decide +kernel)) (fun q => nomatch q) (fun _ => rfl), by decide +kernel, by decide +kernel⟩
            · exact ⟨"tuple", false, true, .base (.tup (s1 _ _ ha)), .base (.tup (s1 _ _ hb)), kitAny_cons (kit_ty (b := "list") (r := false) (by decide +kernel)) (fun _ => kitAny_cons (kit_ty (b := "tuple") (r := true) (by decide +kernel)) (fun q => nomatch q) (fun _ => rfl)) (fun q => nomatch q), by decide +kernel, by decide +kernel⟩
          refine ⟨_, p, _, _, [.type "list", .type "tuple"], true, rfl, upd_same, .cons (.ty _) (.cons (.ty _) .nil), tyy, kany, _, rfl, iteT ?_⟩
          refine ⟨_, rfl, _, _, _, _, bl, rfl, .ty "list", tyx, kit_ty kl, _, rfl, _, _, _, _, bl, rfl, .ty "list", tyy, kit_ty kl, rfl, _, rfl, ite2 (fun z => ?_) (fun _ => ?_)⟩
          · rw [ne_bl] at z
            cases z
          refine ⟨_, rfl, _, _, _, _, bt, rfl, .ty "tuple", tyx, kit_ty kt, _, rfl, _, _, _, _, bt, rfl, .ty "tuple", tyy, kit_ty kt, rfl, _, rfl, ite2 (fun z => ?_) (fun _ => ?_)⟩
          · rw [ne_bl] at z
            cases z
          have sqx : SqL K (upd H p (.tup [.ty "list", .ty "tuple"])) pa xs ∨ SqT K (upd H p (.tup [.ty "list", .ty "tuple"])) pa xs := hxy.elim (fun h => .inl (SqL.of (s1 _ _ h.1))) (fun h => .inr (SqT.of (s1 _ _ h.1)))
          have sqy : SqL K (upd H p (.tup [.ty "list", .ty "tuple"])) pb ys ∨ SqT K (upd H p (.tup [.ty "list", .ty "tuple"])) pb ys := hxy.elim (fun h => .inl (SqL.of (s1 _ _ h.2))) (fun h => .inr (SqT.of (s1 _ _ h.2)))
          refine ⟨_, rfl, pa, xs, rfl, sqx, _, rfl, pb, ys, rfl, sqy, rfl, _, rfl, ite2 (fun _ => ?_) (fun z => absurd (decide_eq_true (by rw [hlen])) z)⟩
          refine ⟨_, rfl, _, rfl, pa, pb, xs, ys, rfl, ?_⟩
          have turn : ∀ (i : Nat) (x y : V) (D T : Addr) (H2 : Hp), (upd H p (.tup [.ty "list", .ty "tuple"])) D = none → xs[i]? = some x → ys[i]? = some y → Same (upd H p (.tup [.ty "list", .ty "tuple"])) H2 → H2 D = some (.lst (List.replicate i (V.bl true))) → H2 T = none →
              ∃ x' y' : V, [x, y] ++ [] = [x', y'] ∧ Eqv (upd H2 T (.tup [x, y])) n x' y' ∧ ∀ H', Same (upd H2 T (.tup [x, y])) H' → ∃ acc, H' D = some (.lst acc) ∧ acc.length < sizeLine ∧ (Same (upd H p (.tup [.ty "list", .ty "tuple"])) (upd H' D (.lst (acc ++ [.bl true]))) ∧ (upd H' D (.lst (acc ++ [.bl true]))) D = some (.lst (List.replicate (i + 1) (V.bl true)))) := by
            intro i x y D T H2 nD hx hy s2 hD nT
            have s3 : Same H2 (upd H2 T (.tup [x, y])) := same_upd nT
            have hi : i < xs.length := (List.getElem?_eq_some_iff.mp hx).1
            refine ⟨x, y, rfl, (hEach i x y hx hy).same (s1.trans (s2.trans s3)), fun H' s4 => ⟨_, s4 _ _ (s3 _ _ hD), ?_, fun a o e => ?_, ?_⟩⟩
            · rw [List.length_replicate]
              exact lineLt_of (by omega)
            · rw [upd_ne (ne_of_none e nD)]
              exact s4 _ _ (s3 _ _ (s2 _ _ e))
            · rw [upd_same, List.replicate_succ']
          have fin : ∀ (D : Addr) (H2 : Hp), Same (upd H p (.tup [.ty "list", .ty "tuple"])) H2 → H2 D = some (.lst (List.replicate xs.length (V.bl true))) → ∃ (a : Addr) (bs : List Bool), [V.ref D] = [V.ref a] ∧ SqL K H2 a (bs.map V.bl) ∧ Q (.bl (bs.all id)) H2 := by
            intro D H2 s2 hD
            refine ⟨D, List.replicate xs.length true, rfl, SqL.of (by rw [hD, List.map_replicate]), ?_⟩
            rw [all_true]
            exact q _ (s1.trans s2)
          rcases hxy with ⟨ha, hb⟩ | ⟨ha, hb⟩
          · refine .inl ⟨SqL.of (s1 _ _ ha), SqL.of (s1 _ _ hb), fun D nD => ?_⟩
            refine lc_gen (n := xs.length) (fun i H2 => Same (upd H p (.tup [.ty "list", .ty "tuple"])) H2 ∧ H2 D = some (.lst (List.replicate i (V.bl true)))) ⟨same_upd nD, upd_same⟩ ?_ ?_ ?_ ?_
            · rintro i H2 hi ⟨s2, hD⟩
              exact ⟨xs, ys, _, _, SqL.of (s2 _ _ (s1 _ _ ha)), SqL.of (s2 _ _ (s1 _ _ hb)), List.getElem?_eq_getElem hi, List.getElem?_eq_getElem (by omega)⟩
            · rintro H2 ⟨s2, hD⟩
              exact ⟨xs, ys, SqL.of (s2 _ _ (s1 _ _ ha)), SqL.of (s2 _ _ (s1 _ _ hb)), .inl (Nat.le_refl _)⟩
            · rintro i v H2 H3 hi ⟨s2, hD⟩ ⟨T, x, y, rfl, nT, rfl, f1, f2⟩
              refine ⟨T, [x, y], rfl, .inl (.inl upd_same), rfl, x, [y], rfl, y, [], rfl, rfl, rfl, ?_⟩
              refine yes_if ?_
              exact ⟨_, rfl, _, rfl, turn i x y D T H2 nD (f1 xs (SqL.of (s2 _ _ (s1 _ _ ha)))) (f2 ys (SqL.of (s2 _ _ (s1 _ _ hb)))) s2 hD nT⟩
            · rintro H2 ⟨s2, hD⟩
              exact fin D H2 s2 hD
          · refine .inr ⟨SqT.of (s1 _ _ ha), SqT.of (s1 _ _ hb), fun D nD => ?_⟩
            refine lc_gen (n := xs.length) (fun i H2 => Same (upd H p (.tup [.ty "list", .ty "tuple"])) H2 ∧ H2 D = some (.lst (List.replicate i (V.bl true)))) ⟨same_upd nD, upd_same⟩ ?_ ?_ ?_ ?_
            · rintro i H2 hi ⟨s2, hD⟩
              exact ⟨xs, ys, _, _, SqT.of (s2 _ _ (s1 _ _ ha)), SqT.of (s2 _ _ (s1 _ _ hb)), List.getElem?_eq_getElem hi, List.getElem?_eq_getElem (by omega)⟩
            · rintro H2 ⟨s2, hD⟩
              exact ⟨xs, ys, SqT.of (s2 _ _ (s1 _ _ ha)), SqT.of (s2 _ _ (s1 _ _ hb)), .inl (Nat.le_refl _)⟩
            · rintro i v H2 H3 hi ⟨s2, hD⟩ ⟨T, x, y, rfl, nT, rfl, f1, f2⟩
              refine ⟨T, [x, y], rfl, .inl (.inl upd_same), rfl, x, [y], rfl, y, [], rfl, rfl, rfl, ?_⟩
              refine yes_if ?_
              exact ⟨_, rfl, _, rfl, turn i x y D T H2 nD (f1 xs (SqT.of (s2 _ _ (s1 _ _ ha)))) (f2 ys (SqT.of (s2 _ _ (s1 _ _ hb)))) s2 hD nT⟩
            · rintro H2 ⟨s2, hD⟩
              exact fin D H2 s2 hD
end
end Sf
namespace Sf
open PySem PySem.Spec PyProof.Rows L2 TL
section
variable {P : Program} {w : World} {K : PySem.W.Frag} {mg : Str → Option Value} {base : Heap}
/-! ### is_word -/
def isW (x : Str) : Bool := decide (x.length ≤ 60) && (tl x).all sgn
def spIsWord : Sp := fun vs H Q _ => ∃ x : Str, vs = [.str x] ∧ x.length ≤ 100000 ∧ ∀ H', Same H H' → Q (.bl (isW x)) H'
abbrev HasIsWord (P : Program) (w : World) (K : PySem.W.Frag) (mg : Str → Option Value) (base : Heap) : Prop := Has P w K mg base 1 "is_word" ["text"] spIsWord
theorem sc_isword : FnScope ["text", "sign"] ["text"] (defScope s_is_word) := ⟨rfl, rfl, rfl, by decide +kernel, rfl, by decide +kernel, by decide +kernel⟩
theorem dec_signs {c : Nat} : decide (c ∈ (Str.ofString "aAbBcCdDeEfFgGhH").cps.toList) = sgn c := by
  rw [Bool.eq_iff_iff, decide_eq_true_eq]
  exact in_signs
theorem getElem?_of_cps {x : Str} {i c : Nat} (h : x.cps[i]? = some c) : (tl x)[i]? = some c := by
  rw [← h]
  exact Array.getElem?_toList
theorem has_isword (F : FnAt K mg "is_word" s_is_word ["text"]) (B : Blt mg) {t1 t2 : Tok} (mM : mg "MOST_WORD" = some (.int 60 t1)) (mS : mg "SIGNS" = some (.str (Str.ofString "aAbBcCdDeEfFgGhH") t2)) : HasIsWord P w K mg base := F.has fun F => by
  refine F.ok sc_isword (fun vs H Q E h => ?_) (fun cdv A outer s H vs Q E hr h => ?_)
  · obtain ⟨x, rfl, _⟩ := h
    rfl
  · obtain ⟨x, rfl, hlen, q⟩ := h
    have hz : x.cps.size = (tl x).length := len_tl x
    refine ⟨_, pss_one (ps_ret (pe_and (pe_cmpR op_le (pe_callB call_len_str (by rfl) B.len PySem.boot_len (pa_cons (pv 0) pa_nil)) (pe_glob (v := .int 60) (by rfl) mM ⟨_, rfl⟩) (nomark _))
      (pe_one (pe_callB (cr_all rfl) (by rfl) B.all (by decide +kernel) (pa_cons (pe_lc (own := [("sign", 1)]) (g := gName 1) (tt := tYes) (by rfl) sc_isword.nd (pi_str (pv 0))
        (blkOk_by (own := [("sign", 1)]) (N := ["text", "sign"]) (sc := defScope s_is_word) (by decide +kernel)) (fun _ _ _ _ _ => pg_name (i := 1) sc_isword.nd rfl (.inl rfl)) (fun _ _ _ _ _ => pts_nil)
        (fun _ _ _ _ _ => pe_cmpR op_in_sign (pv 1) (pe_glob (v := .str (Str.ofString "aAbBcCdDeEfFgGhH")) (by rfl) mS ⟨_, rfl⟩) rfl)) pa_nil))))), ?_⟩
    refine ⟨_, rfl, x, rfl, line_of hlen, _, 60, rfl, rfl, _, rfl, ite2 (fun e => ?_) (fun e => ?_)⟩
    · refine ⟨_, rfl, x, rfl, fun D nD => ?_⟩
      refine lc_gen (n := x.cps.size) (fun i H2 => Same H H2 ∧ H2 D = some (.lst (((tl x).take i).map fun c => V.bl (sgn c)))) ⟨same_upd nD, upd_same⟩ ?_ ?_ ?_ ?_
      · rintro i H2 hi ⟨s2, hD⟩
        exact hi
      · rintro H2 ⟨s2, hD⟩
        exact Nat.le_refl _
      · rintro i v H2 H3 hi ⟨s2, hD⟩ ⟨rfl, c, hc, rfl⟩
        refine ⟨rfl, yes_if ?_⟩
        refine ⟨_, rfl, c, _, rfl, rfl, _, hD, ?_, fun a o e => ?_, ?_⟩
        · rw [List.length_map, List.length_take]
          exact lineLt_of (Nat.le_trans (Nat.min_le_right _ _) (by rw [← hz]; exact hlen))
        · rw [upd_ne (ne_of_none e nD)]
          exact s2 _ _ e
        · have ed : decide (c ∈ (Str.ofString "aAbBcCdDeEfFgGhH").cps.toList) = sgn c := dec_signs
          rw [upd_same, List.take_add_one, getElem?_of_cps hc, List.map_append, ed]
          rfl
      · rintro H2 ⟨s2, hD⟩
        refine ⟨D, (tl x).map sgn, rfl, SqL.of ?_, ?_⟩
        · rw [hD, List.take_of_length_le (by rw [hz]; exact Nat.le_refl _), List.map_map]
          rfl
        · have h1 := q H2 s2
          have e1 : decide (x.length ≤ 60) = true := decide_eq_true (by have := of_decide_eq_true e; omega)
          have e2 : ((tl x).map sgn).all id = (tl x).all sgn := by
            rw [List.all_map]
            rfl
          rw [e2]
          unfold isW at h1
          rw [e1, Bool.true_and] at h1
          exact h1
    · have h1 := q H (.refl H)
      have e1 : decide (x.length ≤ 60) = false := decide_eq_false (fun z => e (decide_eq_true (by omega)))
      unfold isW at h1
      rw [e1, Bool.false_and] at h1
      exact h1
theorem isW_true {x : Str} (h : Wd x) (hl : x.length ≤ 60) : isW x = true := by
  unfold isW
  rw [decide_eq_true hl, Bool.true_and, List.all_eq_true]
  exact h
end
end Sf
namespace Sf
open PySem PySem.Spec PyProof.Rows L2 TL
section
variable {X : Cx}
/-! ### text * int -/
theorem op_mul_str : OpR X (binaryOp .Mult) (fun x y H Q => ∃ (a : Str) (n : Int), x = .str a ∧ y = .int n ∧ 0 ≤ n ∧ n ≤ 1000 ∧ a.length ≤ 1000 ∧ Q (.str (Txt.mul a n)) H) := by
  intro pins s σ H x y v u Q I rx ry h
  obtain ⟨a, n, rfl, rfl, h0, h1, h2, q⟩ := h
  obtain ⟨t, rfl⟩ := rx
  obtain ⟨t', rfl⟩ := ry
  refine PySem.SB.mul ⟨?_, fun hn _ => ?_, fun _ _ => ?_⟩ fun t' k => ⟨.str _, H, I.tok k, ⟨t', rfl⟩, q⟩
  · rw [decide_eq_false (by omega), decide_eq_false (by omega)]
    rfl
  · have h3 : (2 ^ 63 - 1) / n ≥ 9223372036854775807 / 1000 := by
      show (9223372036854775807 : Int) / 1000 ≤ (2 ^ 63 - 1) / n
      have e : (2 ^ 63 - 1 : Int) = 9223372036854775807 := by decide
      rw [e]
      refine (Int.le_ediv_iff_mul_le (by omega)).mpr ?_
      have : (9223372036854775807 : Int) / 1000 * n ≤ (9223372036854775807 : Int) / 1000 * 1000 := Int.mul_le_mul_of_nonneg_left h1 (by decide)
      have e2 : (9223372036854775807 : Int) / 1000 * 1000 ≤ 9223372036854775807 := by decide
      omega
    have e3 : (9223372036854775807 : Int) / 1000 = 9223372036854775 := by decide
    omega
  · refine PyProof.Rows.short24 ?_
    have h5 : n.toNat ≤ 1000 := by omega
    exact Nat.le_trans (Nat.mul_le_mul h2 h5) (by decide)
theorem mul_len {a : Str} {n : Int} (h : 0 ≤ n) : (Txt.mul a n).length = a.length * n.toNat := by
  obtain ⟨m, rfl⟩ : ∃ m : Nat, n = (m : Int) := ⟨n.toNat, by omega⟩
  have h1 := PyProof.Rows.len_mul a (m : Int)
  rw [decide_eq_false (by omega)] at h1
  have e : (if false = true then (0 : Int) else (m : Int)) = (m : Int) := rfl
  rw [e, ← Int.natCast_mul] at h1
  rw [Int.toNat_natCast]
  exact Int.ofNat.inj h1
theorem foldl_app (a : Array Nat) : ∀ (k : Nat) (acc : Array Nat) (c : Nat), c ∈ ((List.replicate k a).foldl (· ++ ·) acc).toList → c ∈ acc.toList ∨ c ∈ a.toList
  | 0, acc, c, h => .inl h
  | k + 1, acc, c, h => by
    rw [List.replicate_succ, List.foldl_cons] at h
    rcases foldl_app a k (acc ++ a) c h with h | h
    · rw [Array.toList_append, List.mem_append] at h
      exact h
    · exact .inr h
theorem mul_mem {a : Str} {n : Int} {c : Nat} (h : c ∈ tl (Txt.mul a n)) : c ∈ tl a := by
  unfold Txt.mul at h
  split at h
  · cases h
  · split at h
    · exact h
    · rcases foldl_app a.cps n.toNat #[] c h with h | h
      · cases h
      · exact h
theorem Wd.mul {a : Str} {n : Int} (h : Wd a) : Wd (Txt.mul a n) := fun c hc => h c (mul_mem hc)
theorem tl_cut (z : Str) (lo hi : Option Int) : tl (cutS z lo hi) = ((tl z).drop (HT.sIx z.length 0 lo)).take (HT.sIx z.length z.length hi - HT.sIx z.length 0 lo) := by
  unfold cutS
  rfl
theorem Wd.cut {z : Str} {lo hi : Option Int} (h : Wd z) : Wd (cutS z lo hi) := fun c hc => by
  rw [tl_cut] at hc
  exact h c (List.mem_of_mem_drop (List.mem_of_mem_take hc))
end
end Sf
namespace Sf
open PySem PySem.Spec PyProof.Rows L2 TL
section
variable {X : Cx}
/-! ### text[::-1] -/
def revS (z : Str) : Str := ⟨(tl z).reverse.toArray⟩
theorem tl_revS (z : Str) : tl (revS z) = (tl z).reverse := rfl
theorem rev_picked (z : Str) : ((Builtin.Str.strSliceIndices none none (-1) z.length).filterMap (z.cps[·]?)) = (tl z).reverse := by
  rw [picked_rev]
  apply List.ext_getElem?
  intro i
  have hz : z.length = (tl z).length := len_tl z
  rw [PyProof.Rows.filterMap_get _ _ (fun k hk => by
    obtain ⟨j, hj, rfl⟩ := List.mem_map.mp hk
    have := List.mem_range.mp hj
    show z.length - 1 - j < z.length
    omega), List.map_map]
  by_cases h : i < z.length
  · rw [List.getElem?_reverse (by omega), List.getElem?_map, List.getElem?_range h]
    show some (z.cps.getD (z.length - 1 - i) 0) = _
    have h2 : z.length - 1 - i < z.cps.size := by show z.length - 1 - i < z.length; omega
    rw [← hz, Array.getElem?_toList]
    simp [Array.getD, h2]
  · rw [List.getElem?_eq_none (by rw [List.length_map, List.length_range]; omega), List.getElem?_eq_none (by rw [List.length_reverse, ← hz]; omega)]
def tRevS (te : TE) : TE := fun σ H Q => te σ H fun x H1 => ∃ z, x = .str z ∧ z.length ≤ sizeLine ∧ Q (.str (revS z)) H1
theorem pe_revS {e : Expr} {te : TE} {k : Nat} {p1 p2 p3 pos : Pos} (he : PE X e te) : PE X (.Subscript e (.Slice none none (some (.UnaryOp .USub (.Constant (.int 1) k p1) p2)) p3) pos) (tRevS te) := by
  refine ⟨fun pins s σ H Q I h => ?_⟩
  refine Subscript_ (thn (he.run pins s σ H _ I h) fun v s1 ⟨x, H1, I1, r1, q1⟩ => ?_)
  obtain ⟨z, ex, hz, q⟩ := q1
  subst ex
  obtain ⟨tz, rfl⟩ := r1
  have hst : PO X (some (.UnaryOp .USub (.Constant (.int 1) k p1) p2)) (tPart (tUn (rU fun i => .int (-i)) (tC (.int 1)))) := po_some (pe_un un_neg pe_int)
  refine wpAny_Slice (thn (po_none.run pins s1 σ H1 (fun o H2 => o = none ∧ H2 = H1) I1 ⟨rfl, rfl⟩) fun vl s2 ⟨l, H2, I2, pl, el, e2⟩ => ?_)
  subst el e2
  refine thn (po_none.run pins s2 σ H2 (fun o H3 => o = none ∧ H3 = H2) I2 ⟨rfl, rfl⟩) fun vu s3 ⟨u, H3, I3, pu, eu, e3⟩ => ?_
  subst eu e3
  refine thn (hst.run pins s3 σ H3 (fun o H4 => o = some (-1) ∧ H4 = H3) I3 ⟨1, rfl, -1, rfl, rfl, rfl⟩) fun vs s4 ⟨o, H4, I4, ps, eo, e4⟩ => ?_
  subst eo e4
  cases pl
  cases pu
  cases ps with
  | int _ ts =>
  have I5 : Inv X pins σ H4 { s4 with heap := s4.heap.push { cls := .type "slice", data := .fields #[.none, .none, .int (-1) ts] } } := I4.kept (t' := s4.toks) fun b ob q => Heap.get?_push_of_some _ q
  show wpAny (model X.prog X.w) X.A (subscriptTail e (.Slice none none (some (.UnaryOp .USub (.Constant (.int 1) k p1) p2)) p3) (.str z tz) (.ref s4.heap.objs.size)) (EP X pins σ Q) X.xe { s4 with heap := s4.heap.push { cls := .type "slice", data := .fields #[.none, .none, .int (-1) ts] } }
  refine tail_any (ops := [.str z tz, .ref s4.heap.objs.size]) (typeIs_str _ _ _) (PySem.F.slot_str_getitem.lookup) ?_ (by with_unfolding_all rfl)
  refine wpAny_getItem_str_slice (l := none) (u := none) (st := some (-1, ts)) ⟨_, Heap.get?_push_size _ rfl, rfl, rfl⟩ rfl ?_
  have e1 : sliceMade z tz none none (some (-1, ts)) = Made.str (revS z) := by
    unfold sliceMade slicePicked
    have h1 : ¬ (((((some ((-1 : Int), ts)).map (·.1)).getD 1 == 1) && ((Builtin.Str.strSliceIndices ((none : Option (Int × Tok)).map (·.1)) ((none : Option (Int × Tok)).map (·.1)) (((some ((-1 : Int), ts)).map (·.1)).getD 1) z.length).length == z.length)) = true) := by
      have : ((((some ((-1 : Int), ts)).map (·.1)).getD 1 == 1)) = false := rfl
      rw [this]
      simp
    rw [if_neg h1]
    show Made.str ⟨((Builtin.Str.strSliceIndices none none (-1) z.length).filterMap (z.cps[·]?)).toArray⟩ = _
    rw [rev_picked]
    rfl
  rw [e1]
  refine ⟨?_, .str _, H4, I5.tok _, ⟨_, rfl⟩, q⟩
  rw [len_tl, tl_revS, List.length_reverse, ← len_tl]
  exact hz
/-! ### text.swapcase() -/
theorem mt_swapcase : MtR X "str.swapcase" (fun x xs H Q => ∃ a, x = .str a ∧ xs = [] ∧ a.length ≤ 5592405 ∧ Q (.str (Txt.swapcase a)) H) :=
  mt0 (C := fun a => a.length ≤ 5592405) (g := fun a => .str (Txt.swapcase a)) fun a _ s _ hc h =>
    PySem.SC.swapcase (PyProof.Rows.fit_swapcase hc) (h _ (s.toks + 1) ⟨_, rfl⟩)
theorem pe_swapcase {o : Expr} {to : TE} {apos pos : Pos} (ho : PE X o to) (hbase : attributeBase o "swapcase" X.env (eval o X.env) = eval o X.env := by rfl) (hline : (apos.endLine == pos.line) = true := by rfl) :
    PE X (.Call (.Attribute o "swapcase" apos) [] [] pos) (tM0 (fun x xs H Q => ∃ a, x = .str a ∧ xs = [] ∧ a.length ≤ 5592405 ∧ Q (.str (Txt.swapcase a)) H) to) :=
  pe_m0 PySem.F.slot_str_swapcase PySem.F.type_str_swapcase mt_swapcase ho hbase hline
theorem case_sgn : ∀ c, c < 128 → sgn c = true → (if Unicode.isUpper c then PyProof.Rows.lo1 c else if Unicode.isLower c then PyProof.Rows.up1 c else c) = flipC c := by decide +kernel
theorem sgn_lt {c : Nat} (h : sgn c = true) : c < 128 := by
  rw [sgn_iff] at h
  omega
def flipS (x : Str) : Str := ⟨((tl x).map flipC).toArray⟩
theorem swap_wd {x : Str} (h : Wd x) : Txt.swapcase x = flipS x := by
  unfold Txt.swapcase
  rw [PyProof.Rows.placed_single x _ flipC fun i c hc => by
    have hc' : x.cps[i]? = some c := by simpa using hc
    have hs := h c (List.mem_of_getElem? hc)
    have hlt := sgn_lt hs
    have hk := case_sgn c hlt hs
    unfold Unicode.lowerAt
    rw [hc']
    have hne : (c == 0x3A3) = false := by rw [beq_eq_false_iff_ne]; omega
    simp only [hne, Bool.false_and, Bool.false_eq_true, if_false]
    rw [PyProof.Rows.lowerOf_ascii c hlt, PyProof.Rows.upperOf_ascii c hlt, ← hk]
    by_cases h1 : Unicode.isUpper c = true
    · rw [if_pos h1, if_pos h1]
    · rw [if_neg h1, if_neg h1]
      by_cases h2 : Unicode.isLower c = true
      · rw [if_pos h2, if_pos h2]
      · rw [if_neg h2, if_neg h2]]
  apply ext_tl
  show (x.cps.map flipC).toList = (tl x).map flipC
  rw [Array.toList_map]
theorem flipS_one (c : Nat) : flipS (one c) = one (flipC c) := rfl
theorem tl_flipS (x : Str) : tl (flipS x) = (tl x).map flipC := rfl
theorem rev_wd {x : Str} (h : Wd x) : Wd (revS x) := fun c hc => h c (List.mem_reverse.mp hc)
theorem revS_len (x : Str) : (revS x).length = x.length := by rw [len_tl, tl_revS, List.length_reverse, ← len_tl]
end
end Sf
namespace Sf
open PySem PySem.Spec PyProof.Rows L2 TL
/-! ### words as lists of codes; the stack of a walk (its head is the last sign) -/
abbrev Sg (l : List Nat) : Prop := ∀ c ∈ l, sgn c = true
theorem flip2 {c : Nat} (h : sgn c = true) : flipC (flipC c) = c := by
  rw [sgn_iff] at h
  unfold flipC
  by_cases h1 : 97 ≤ c
  · rw [if_pos h1, if_neg (by omega)]
    omega
  · rw [if_neg h1, if_pos (by omega)]
    omega
theorem flip_inj {c d : Nat} (hc : sgn c = true) (hd : sgn d = true) (h : flipC c = flipC d) : c = d := by
  rw [← flip2 hc, ← flip2 hd, h]
def pushS (s : List Nat) (c : Nat) : List Nat :=
  match s with
  | [] => [c]
  | x :: t => if x = flipC c then t else c :: x :: t
def RedS : List Nat → Prop
  | [] => True
  | [_] => True
  | x :: y :: t => y ≠ flipC x ∧ RedS (y :: t)
theorem RedS.tail {x : Nat} {t : List Nat} (h : RedS (x :: t)) : RedS t := by
  cases t with
  | nil => trivial
  | cons y t => exact h.2
theorem RedS.suffix : ∀ {a b : List Nat}, RedS (a ++ b) → RedS b
  | [], _, h => h
  | _ :: a, _, h => RedS.suffix (a := a) (RedS.tail h)
theorem pushS_red {s : List Nat} {c : Nat} (h : RedS s) : RedS (pushS s c) := by
  cases s with
  | nil => trivial
  | cons x t =>
    unfold pushS
    by_cases e : x = flipC c
    · simp only [if_pos e]
      exact h.tail
    · simp only [if_neg e]
      exact ⟨e, h⟩
theorem pushS_sg {s : List Nat} {c : Nat} (h : Sg s) (hc : sgn c = true) : Sg (pushS s c) := by
  cases s with
  | nil =>
    intro d hd
    rw [pushS, List.mem_singleton] at hd
    rw [hd]
    exact hc
  | cons x t =>
    unfold pushS
    by_cases e : x = flipC c
    · simp only [if_pos e]
      exact fun d hd => h d (List.mem_cons_of_mem _ hd)
    · simp only [if_neg e]
      intro d hd
      rcases List.mem_cons.mp hd with rfl | hd
      · exact hc
      · exact h d hd
theorem pushS_inv {s : List Nat} {c : Nat} (h : RedS s) (hs : Sg s) (hc : sgn c = true) : pushS (pushS s c) (flipC c) = s := by
  cases s with
  | nil =>
    show (if c = flipC (flipC c) then [] else _) = ([] : List Nat)
    rw [if_pos (flip2 hc).symm]
  | cons x t =>
    by_cases e : x = flipC c
    · have e1 : pushS (x :: t) c = t := by simp only [pushS, if_pos e]
      rw [e1, e]
      cases t with
      | nil => rfl
      | cons y t =>
        have hn : ¬ y = flipC (flipC c) := by
          rw [← e]
          exact h.1
        simp only [pushS, if_neg hn]
    · have e1 : pushS (x :: t) c = c :: x :: t := by simp only [pushS, if_neg e]
      rw [e1]
      simp only [pushS, if_pos (flip2 hc).symm]
def runS (s w : List Nat) : List Nat := w.foldl pushS s
theorem runS_cons (s : List Nat) (c : Nat) (w : List Nat) : runS s (c :: w) = runS (pushS s c) w := rfl
theorem runS_app (s u v : List Nat) : runS s (u ++ v) = runS (runS s u) v := List.foldl_append
theorem runS_red : ∀ {w s : List Nat}, RedS s → RedS (runS s w)
  | [], _, h => h
  | _ :: w, _, h => runS_red (w := w) (pushS_red h)
theorem runS_sg : ∀ {w s : List Nat}, Sg s → Sg w → Sg (runS s w)
  | [], _, h, _ => h
  | c :: w, _, h, hw => runS_sg (w := w) (pushS_sg h (hw c (List.mem_cons_self ..))) (fun d hd => hw d (List.mem_cons_of_mem _ hd))
def backL (w : List Nat) : List Nat := (w.map flipC).reverse
theorem backL_cons (c : Nat) (w : List Nat) : backL (c :: w) = backL w ++ [flipC c] := by
  unfold backL
  rw [List.map_cons, List.reverse_cons]
theorem backL_app (u v : List Nat) : backL (u ++ v) = backL v ++ backL u := by
  unfold backL
  rw [List.map_append, List.reverse_append]
theorem backL_sg {w : List Nat} (h : Sg w) : Sg (backL w) := fun c hc => by
  unfold backL at hc
  rw [List.mem_reverse, List.mem_map] at hc
  obtain ⟨d, hd, rfl⟩ := hc
  exact flip_sgn (h d hd)
theorem backL_back {w : List Nat} (h : Sg w) : backL (backL w) = w := by
  unfold backL
  rw [List.map_reverse, List.reverse_reverse, List.map_map]
  have e : w.map (flipC ∘ flipC) = w.map id := List.map_congr_left fun c hc => flip2 (h c hc)
  rw [e, List.map_id]
theorem run_back : ∀ {w s : List Nat}, RedS s → Sg s → Sg w → runS (runS s w) (backL w) = s
  | [], _, _, _, _ => rfl
  | c :: w, s, h, hs, hw => by
    have hc := hw c (List.mem_cons_self ..)
    rw [runS_cons, backL_cons, runS_app, run_back (w := w) (pushS_red h) (pushS_sg hs hc) (fun d hd => hw d (List.mem_cons_of_mem _ hd))]
    exact pushS_inv h hs hc
theorem pushS_of {s : List Nat} {c : Nat} (h : RedS (c :: s)) : pushS s c = c :: s := by
  cases s with
  | nil => rfl
  | cons x t => simp only [pushS, if_neg h.1]
theorem run_of_red : ∀ {w s : List Nat}, RedS (w.reverse ++ s) → runS s w = w.reverse ++ s
  | [], _, _ => rfl
  | c :: w, s, h => by
    rw [List.reverse_cons, List.append_assoc] at h ⊢
    rw [runS_cons, pushS_of (s := s) (RedS.suffix (b := c :: s) h)]
    exact run_of_red h
/-- a word reduced, as a list from its first sign -/
def shortL (w : List Nat) : List Nat := (runS [] w).reverse
theorem shortL_sg {w : List Nat} (h : Sg w) : Sg (shortL w) := fun c hc => runS_sg (s := []) (fun _ z => by cases z) h c (List.mem_reverse.mp hc)
def push (l : List Nat) (c : Nat) : List Nat := (pushS l.reverse c).reverse
theorem shortL_snoc (w : List Nat) (c : Nat) : shortL (w ++ [c]) = push (shortL w) c := by
  unfold shortL push
  rw [runS_app, List.reverse_reverse]
  rfl
theorem push_last {l : List Nat} {c : Nat} (x : Nat) : push (l ++ [x]) c = if x = flipC c then l else l ++ [x] ++ [c] := by
  unfold push
  rw [List.reverse_append]
  show (if x = flipC c then l.reverse else c :: x :: l.reverse).reverse = _
  by_cases e : x = flipC c
  · rw [if_pos e, if_pos e, List.reverse_reverse]
  · rw [if_neg e, if_neg e]
    simp
theorem push_nil (c : Nat) : push [] c = [c] := rfl
/-- two words put together where they meet -/
def glS : List Nat → List Nat → List Nat
  | x :: s, y :: b => if x = flipC y then glS s b else (y :: b).reverse ++ (x :: s)
  | [], b => b.reverse
  | x :: s, [] => x :: s
theorem RedS.join : ∀ {a : List Nat} {y : Nat} {s : List Nat}, RedS (a ++ [y]) → RedS (y :: s) → RedS (a ++ y :: s)
  | [], _, _, _, h => h
  | [x], y, s, h, k => ⟨h.1, k⟩
  | x :: z :: a, y, s, h, k => ⟨h.1, RedS.join (a := z :: a) h.2 k⟩
theorem glS_run : ∀ {b s : List Nat}, RedS b.reverse → RedS s → glS s b = runS s b
  | [], [], _, _ => rfl
  | [], _ :: _, _, _ => rfl
  | y :: b, [], h, _ => by
    have e := run_of_red (w := y :: b) (s := []) (by rw [List.append_nil]; exact h)
    rw [List.append_nil] at e
    exact e.symm
  | y :: b, x :: s, h, k => by
    rw [List.reverse_cons] at h
    by_cases e : x = flipC y
    · have e1 : pushS (x :: s) y = s := by simp only [pushS, if_pos e]
      rw [glS, if_pos e, runS_cons, e1]
      refine glS_run ?_ k.tail
      exact RedS.prefix h
    · have e1 : pushS (x :: s) y = y :: x :: s := by simp only [pushS, if_neg e]
      rw [glS, if_neg e, runS_cons, e1, List.reverse_cons, List.append_assoc]
      exact (run_of_red (RedS.join h (show RedS (y :: x :: s) from ⟨e, k⟩))).symm
where
  RedS.prefix : ∀ {a b : List Nat}, RedS (a ++ b) → RedS a
  | [], _, _ => trivial
  | [_], _, _ => trivial
  | _ :: y :: a, _, h => ⟨h.1, RedS.prefix (a := y :: a) h.2⟩
end Sf
namespace Sf
open PySem PySem.Spec PyProof.Rows L2 TL
/-! ### texts of words -/
def mkS (l : List Nat) : Str := ⟨l.toArray⟩
theorem tl_mkS (l : List Nat) : tl (mkS l) = l := rfl
theorem mkS_tl (x : Str) : mkS (tl x) = x := mk_tl x
theorem mkS_len (l : List Nat) : (mkS l).length = l.length := by rw [len_tl, tl_mkS]
theorem eq_mkS {x : Str} {l : List Nat} (h : tl x = l) : x = mkS l := ext_tl h
/-- a word undone, reduced, glued, as texts -/
def backT (x : Str) : Str := mkS (backL (tl x))
def shortT (x : Str) : Str := mkS (shortL (tl x))
def gluT (x y : Str) : Str := mkS (glS (tl x).reverse (tl y)).reverse
theorem glS_sg : ∀ {s b : List Nat}, Sg s → Sg b → Sg (glS s b)
  | x :: s, y :: b, hs, hb => by
    unfold glS
    by_cases e : x = flipC y
    · rw [if_pos e]
      exact glS_sg (fun c hc => hs c (List.mem_cons_of_mem _ hc)) (fun c hc => hb c (List.mem_cons_of_mem _ hc))
    · rw [if_neg e]
      intro c hc
      rcases List.mem_append.mp hc with hc | hc
      · exact hb c (List.mem_reverse.mp hc)
      · exact hs c hc
  | [], b, _, hb => fun c hc => hb c (List.mem_reverse.mp (by unfold glS at hc; exact hc))
  | x :: s, [], hs, _ => hs
theorem glS_len : ∀ {s b : List Nat}, (glS s b).length ≤ s.length + b.length
  | x :: s, y :: b => by
    unfold glS
    by_cases e : x = flipC y
    · rw [if_pos e]
      have := glS_len (s := s) (b := b)
      simp only [List.length_cons]
      omega
    · rw [if_neg e]
      simp only [List.length_append, List.length_reverse, List.length_cons]
      omega
  | [], b => by
    unfold glS
    simp
  | x :: s, [] => by
    unfold glS
    simp
theorem gluT_wd {x y : Str} (hx : Wd x) (hy : Wd y) : Wd (gluT x y) := fun c hc => by
  unfold gluT at hc
  rw [tl_mkS, List.mem_reverse] at hc
  exact glS_sg (fun d hd => hx d (List.mem_reverse.mp hd)) hy c hc
theorem gluT_len (x y : Str) : (gluT x y).length ≤ x.length + y.length := by
  unfold gluT
  rw [mkS_len, List.length_reverse, len_tl, len_tl]
  have := glS_len (s := (tl x).reverse) (b := tl y)
  rw [List.length_reverse] at this
  exact this
theorem backT_wd {x : Str} (h : Wd x) : Wd (backT x) := fun c hc => backL_sg h c hc
theorem backT_len (x : Str) : (backT x).length = x.length := by
  unfold backT backL
  rw [mkS_len, List.length_reverse, List.length_map, len_tl]
theorem backT_back {x : Str} (h : Wd x) : backT (backT x) = x := by
  unfold backT
  rw [tl_mkS, backL_back h, mkS_tl]
theorem runS_len : ∀ (w s : List Nat), (runS s w).length ≤ s.length + w.length
  | [], s => by simp [runS]
  | c :: w, s => by
    have h := runS_len w (pushS s c)
    rw [runS_cons]
    have h2 : (pushS s c).length ≤ s.length + 1 := by
      cases s with
      | nil => simp [pushS]
      | cons x t =>
        unfold pushS
        by_cases e : x = flipC c
        · simp only [if_pos e, List.length_cons]
          omega
        · simp only [if_neg e, List.length_cons]
          omega
    simp only [List.length_cons]
    omega
theorem shortL_len (w : List Nat) : (shortL w).length ≤ w.length := by
  unfold shortL
  rw [List.length_reverse]
  have := runS_len w []
  simpa using this
theorem glu_one {l : List Nat} {c : Nat} : (glS l.reverse [c]).reverse = push l c := by
  unfold push
  cases h : l.reverse with
  | nil => rfl
  | cons x t =>
    unfold glS pushS
    by_cases e : x = flipC c
    · simp only [if_pos e]
      cases t <;> rfl
    · simp only [if_neg e]
      rfl
end Sf
namespace Sf
open PySem PySem.Spec PyProof.Rows L2 TL
section
variable {P : Program} {w : World} {K : PySem.W.Frag} {mg : Str → Option Value} {base : Heap}
/-! ### need_word, turned, undone -/
def spNeed : Sp := fun vs H Q _ => ∃ x : Str, vs = [.str x] ∧ Wd x ∧ x.length ≤ 60 ∧ ∀ H', Same H H' → Q .non H'
abbrev HasNeed (P : Program) (w : World) (K : PySem.W.Frag) (mg : Str → Option Value) (base : Heap) : Prop := Has P w K mg base 2 "need_word" ["text"] spNeed
theorem sc_need : FnScope ["text"] ["text"] (defScope s_need_word) := ⟨rfl, rfl, rfl, by decide +kernel, rfl, by decide +kernel, by decide +kernel⟩
theorem has_need (F : FnAt K mg "need_word" s_need_word ["text"]) (hI : HasIsWord P w K mg base) : HasNeed P w K mg base := F.has fun F => by
  obtain ⟨fI, fdI, gI, kI, bI, GI⟩ := hI
  refine F.ok sc_need (fun vs H Q E h => ?_) (fun cdv A outer s H vs Q E hr h => ?_)
  · obtain ⟨x, rfl, _⟩ := h
    rfl
  · obtain ⟨x, rfl, hx, hl, q⟩ := h
    refine ⟨_, pss_one (ps_if (pt_not (pt_val (pe_call GI hr (by rfl) gI kI bI .nil pass0 (pa_cons (pv 0) pa_nil)))) pss_never pss_nil), ?_⟩
    refine ⟨_, rfl, x, rfl, by omega, fun H' s' => ⟨_, rfl, ?_⟩⟩
    rw [isW_true hx hl]
    exact iteF (q H' s')
end
end Sf
namespace Sf
open PySem PySem.Spec PyProof.Rows L2 TL
def MAt (K : PySem.W.Frag) (C : Addr) (m q : Str) (st : Stmt) (ps : List Str) : Prop := ∃ (f : Addr) (fd : FuncData), Meth K C m f ∧ Fun K m q st f fd ∧ Binds K fd ps []
def HasM (P : Program) (w : World) (K : PySem.W.Frag) (mg : Str → Option Value) (base : Heap) (C : Addr) (k : Nat) (m : Str) (ps : List Str) (sp : Sp) : Prop :=
  ∃ (f : Addr) (fd : FuncData), Meth K C m f ∧ Binds K fd ps [] ∧ FnOk P w K mg base CX0 k f fd ps sp
theorem MAt.has {P : Program} {w : World} {K : PySem.W.Frag} {mg : Str → Option Value} {base : Heap} {C : Addr} {k : Nat} {m q : Str} {st : Stmt} {ps : List Str} {sp : Sp} (h : MAt K C m q st ps)
    (ok : ∀ {f : Addr} {fd : FuncData}, Fun K m q st f fd → FnOk P w K mg base CX0 k f fd ps sp) : HasM P w K mg base C k m ps sp := by
  obtain ⟨f, fd, g, F, b⟩ := h
  exact ⟨f, fd, g, b, ok F⟩
theorem mAt_mk {K : PySem.W.Frag} {C : Addr} {m q : Str} {st : Stmt} {ps : List Str} {f : Addr} {oc : Value} {od an : Option Addr} {osl : Array (Option Value)} {kV doc pm cdv ct : Value}
    (a : PySem.W.findIn K (.ref C) m = some (some (.ref f))) (i : PySem.W.isFn K (.ref f) = true) (l : K.lookup f = some ⟨oc, od, .func (PySem.W.fnOf m q (defArgs st) (defBody st) (defScope st) .none kV doc pm an cdv ct), osl⟩)
    (c : PySem.W.codeIn K cdv q = true) (k : PySem.W.keepIn K (.ref f) = true)
    (b : ∀ (kV doc pm : Value) (an : Option Addr) (cdv ct : Value) (us : List Value), us.length = ps.length → bindArgs (PySem.W.fnOf m q (defArgs st) (defBody st) (defScope st) .none kV doc pm an cdv ct) ⟨us, []⟩ = pure (ps.zip us)) : MAt K C m q st ps :=
  ⟨f, _, ⟨a, i, k⟩, fun_mk l c k, (fun_mk l c k).binds b⟩
theorem dc_gen {J : It} {n : Nat} {g : TG} {tt : TT} {tk tv : TE} {vs : List Nat} {σ : L2.St} {H1 : Hp} {D : Addr} {Qd : Hp → Prop} (Pv : Nat → Hp → Prop) (h0 : Pv 0 (upd H1 D (.dK [])))
    (hgo : ∀ i H, i < n → Pv i H → J.go i H) (hst : ∀ H, Pv n H → J.stop n H)
    (hs : ∀ i x H H', i < n → Pv i H → J.yld i H x H' → g x (wipe σ vs) H' fun σ2 H2 => wipe σ2 vs = wipe σ vs ∧ tt σ2 H2 fun b H3 =>
      if b = true then tk σ2 H3 fun y H4 => tv σ2 H4 fun z H5 => ∃ kvs k, y = kV k ∧ H5 D = some (.dK kvs) ∧ kvs.length < sizeLine ∧ Pv (i + 1) (upd H5 D (.dK (putK kvs k z))) else Pv (i + 1) H3) (hd : ∀ H, Pv n H → Qd H) :
    ∃ W : Nat → Nat → Hp → Prop, (∃ m, W 0 m (upd H1 D (.dK []))) ∧ ∀ i m H, W i m H →
      (J.stop i H ∧ Qd H) ∨ (J.go i H ∧ ∃ Nx : Hp → Prop, (∀ H', Nx H' → ∃ m', m' < m ∧ W (i + 1) m' H') ∧ ∀ x H', J.yld i H x H' → g x (wipe σ vs) H' fun σ2 H2 => wipe σ2 vs = wipe σ vs ∧ tt σ2 H2 fun b H3 =>
        if b = true then tk σ2 H3 fun y H4 => tv σ2 H4 fun z H5 => ∃ kvs k, y = kV k ∧ H5 D = some (.dK kvs) ∧ kvs.length < sizeLine ∧ Nx (upd H5 D (.dK (putK kvs k z))) else Nx H3) := by
  refine ⟨fun i m H => m = n - i ∧ i ≤ n ∧ Pv i H, ⟨n, rfl, Nat.zero_le _, h0⟩, ?_⟩
  rintro i m H ⟨rfl, hi, p⟩
  by_cases hlt : i < n
  · exact .inr ⟨hgo i H hlt p, Pv (i + 1), fun H' p' => ⟨n - (i + 1), by omega, rfl, hlt, p'⟩, fun x H' y => hs i x H H' hlt p y⟩
  · have e : i = n := by omega
    subst e
    exact .inl ⟨hst H p, hd H p⟩
theorem kit_self {K : PySem.W.Frag} {t : Value} : PySem.W.kitOne K t t = some true := by
  unfold PySem.W.kitOne
  rw [if_pos (beq_self_eq_true t)]
end Sf
namespace Sf
open PySem PySem.Spec PyProof.Rows L2 TL
/-! ### ==, != and len of an own class -/
section
variable {X : Cx} {k : Nat} {f C : Addr} {fd : FuncData} {ps : List Str} {sp : Sp}
theorem run_fnA {A : Around} {Er : Value → Shared → Prop} {pins : List (Addr × Obj)} {σ : L2.St} {H : Hp} {s : Shared} {Q : VK} {us : List Value} {vs : List V} (F : FnOk X.prog X.w X.K X.mg X.base CX0 k f fd ps sp) (hr : Room k A) (e0 : Env0 X.prog X.w X.K X.mg X.base A X.stack s H) (hb : Binds X.K fd ps [])
    (I : Inv X pins σ H s) (r : Vals vs us) (h : sp vs H Q E0) : wpAny (model X.prog X.w) A (call (.ref f) us) (EP X pins σ Q) Er s := by
  have hl : (us ++ []).length = ps.length := by rw [List.append_nil, ← r.length]; exact F.len _ _ _ _ h
  have hbd := hb s us I.kIn hl
  rw [List.append_nil] at hbd
  refine wpAny_call (codeAny_mono (F.run A X.stack s H ⟨us, []⟩ us vs Q E0 hr e0 hbd r h) fun r s' hq => ?_)
  cases r with
  | error e => exact False.elim hq
  | ok fl =>
    cases fl with
    | ret u => exact I.after hq
    | next => exact False.elim hq
    | brk => exact False.elim hq
    | cont => exact False.elim hq
/-- a == b, both of the class at C, by its __eq__ -/
theorem op_eqOwn (F : FnOk X.prog X.w X.K X.mg X.base CX0 k f fd ps sp) (hs : PySem.W.findIn X.K (.ref C) "__eq__" = some (some (.ref f))) (hf : PySem.W.isFn X.K (.ref f) = true) (hb : Binds X.K fd ps []) (hr : Room k X.A) :
    OpR X (compareOp .Eq) (fun x y H Q => ∃ a b dx dy fs gs, x = .ref a ∧ y = .ref b ∧ H a = some (.ins C dx fs) ∧ H b = some (.ins C dy gs) ∧ sp [.ref a, .ref b] H (fun v H' => ∃ t, v = .bl t ∧ Q (.bl t) H') E0) := by
  intro pins s σ H x y v u Q I rx ry h
  obtain ⟨a, b, dx, dy, fs, gs, rfl, rfl, ha, hb', h⟩ := h
  cases rx
  cases ry
  obtain ⟨mA, J, _⟩ := ins_get I.hok ha
  obtain ⟨mB, J', _⟩ := ins_get I.hok hb'
  obtain ⟨od, J, _⟩ := J.look
  obtain ⟨od', J', _⟩ := J'.look
  obtain ⟨m, hF⟩ := I.fr
  refine PySem.W.cmp_K (op := .Eq) (tb := .ref C) hr.units0 hF I.ok.mod.kin J J'.type (by simp [PySem.W.notFirst]) hs hf ?_
  refine wpAny_mono (run_fnA (Er := X.xe) F hr I.env0 hb I (show Vals [V.ref a, V.ref b] [Value.ref a, Value.ref b] from .cons rfl (.cons rfl .nil)) h) (fun v s' hv => ?_) fun _ _ z => z
  obtain ⟨z, H', I', rz, t, rfl, q⟩ := hv
  cases rz
  exact ⟨.bl t, H', I', rfl, q⟩
theorem ifBound_ne {M : Model} {A : Around} {E : Value → Shared → Prop} {s : Shared} {K : PySem.W.Frag} {x : Addr} {ox : Obj} {od : Option Obj} {args : List Value} {Q : Option Value → Shared → Prop} (X : K.In s.heap) (I : PySem.W.InstAt s.heap x ox C od) (hs : PySem.W.findIn K (.ref C) "__ne__" = some (some (.builtin "object.__ne__")))
    (h : wpAny M A (call (.builtin "object.__ne__") (.ref x :: args)) (fun v => Q (some v)) E s) : wpAny M A (callSpecialIfBound? (.ref x) "__ne__" args) Q E s := by
  simp only [callSpecialIfBound?, bindSpecialIfBound?]
  refine wpAny_holding (wpAny_bind (wpAny_bind (wpAny_bind (I.type.here ((PySem.W.looks_findIn X hs).here ?_)))))
  refine wpAny_bind (wpAny_askSetting (wpAny_ite ?_))
  have fin : wpAny M A (call (.builtin "object.__ne__") ([.ref x] ++ args) >>= fun v => pure (some v)) Q E s := wpAny_bind (wpAny_mono h (fun v s' h' => wpAny_pure h') fun _ _ h' => h')
  split
  · exact wpAny_bind (wpAny_of_eq (PySem.F.cmp_object.ne.bind _) (wpAny_pure (by exact fin)))
  · exact wpAny_tryCatch (wpAny_bind (wpAny_of_eq (PySem.F.cmp_object.ne.bind _) (wpAny_pure (by exact fin))))
/-- a != b, both of the class at C, by its __eq__ -/
theorem op_neOwn (F : FnOk X.prog X.w X.K X.mg X.base CX0 k f fd ps sp) (hs : PySem.W.findIn X.K (.ref C) "__eq__" = some (some (.ref f))) (hf : PySem.W.isFn X.K (.ref f) = true) (hb : Binds X.K fd ps []) (hn : PySem.W.findIn X.K (.ref C) "__ne__" = some (some (.builtin "object.__ne__")))
    (hm : PySem.W.mroIn X.K C (.type "object") = some true) (hr : Room (k + 1) X.A) :
    OpR X (compareOp .NotEq) (fun x y H Q => ∃ a b dx dy fs gs, x = .ref a ∧ y = .ref b ∧ H a = some (.ins C dx fs) ∧ H b = some (.ins C dy gs) ∧ sp [.ref a, .ref b] H (fun v H' => ∃ t, v = .bl t ∧ Q (.bl (!t)) H') E0) := by
  intro pins s σ H x y v u Q I rx ry h
  obtain ⟨a, b, dx, dy, fs, gs, rfl, rfl, ha, hb', h⟩ := h
  cases rx
  cases ry
  obtain ⟨mA, J, _⟩ := ins_get I.hok ha
  obtain ⟨mB, J', _⟩ := ins_get I.hok hb'
  obtain ⟨od, J, _⟩ := J.look
  obtain ⟨od', J', _⟩ := J'.look
  have hu1 : X.A.in1.units < cLine := hr.in1.units0
  have one : wpAny (model X.prog X.w) X.A (tryCompare (.ref a) (cmpInfo .NotEq).2.1 (.ref b)) (fun r s' => ∃ v, r = some v ∧ EP X pins σ Q v s') X.xe s := by
    unfold tryCompare
    refine wpAny_bind (ifBound_ne I.kIn J hn ?_)
    refine wpAny_call (codeAny_call_builtin PySem.F.cmp_object.ne.plain PySem.F.cmpEntry_ne (PySem.W.check_slot PySem.F.cmpKind_ne PySem.F.cmpSplit_ne (J.type.andThen (PySem.W.looks_mroIn I.kIn hm)) (PySem.F.cmpArgs_ne _ _) ?_))
    unfold Builtin.«object.__ne__»
    refine wpAny_bind (wpAny_of_eq (a := (.ref a, [.ref b])) rfl ?_)
    dsimp only
    refine wpAny_bind (wpAny_cRoomFor hu1 ?_)
    refine wpAny_bind (PySem.W.ifBound_K I.kIn J hs hf ?_)
    refine wpAny_mono (run_fnA F hr.in1 I.env0.in1 hb I (show Vals [V.ref a, V.ref b] [Value.ref a, Value.ref b] from .cons rfl (.cons rfl .nil)) h) (fun v s' hv => ?_) fun _ _ z => z
    obtain ⟨z, H', I', rz, t, rfl, q⟩ := hv
    cases rz
    refine wpAny_bind (wpAny_truthy_bool ?_)
    exact wpAny_pure (wpAny_pure ⟨_, rfl, .bl (!t), H', I', rfl, q⟩)
  show wpAny (model X.prog X.w) X.A (richCompare .NotEq (.ref a) (.ref b)) _ _ _
  unfold richCompare
  simp only [oneThing_ref]
  refine wpAny_holding (wpAny_bind (wpAny_cRoomFor hr.units0 ?_))
  refine wpAny_bind (J.type.here (wpAny_bind (J'.type.here ?_)))
  split
  · rename_i q
    simp at q
  · refine wpAny_bind (wpAny_pure ?_)
    simp only [Bool.false_eq_true, if_false]
    refine wpAny_bind (wpAny_mono one (fun r s' z => ?_) fun _ _ e => e)
    obtain ⟨v, rfl, hq⟩ := z
    exact wpAny_pure hq
/-- len(a), a of the class at C, by its __len__ -/
theorem call_lenOwn (F : FnOk X.prog X.w X.K X.mg X.base CX0 k f fd ps sp) (hs : PySem.W.findIn X.K (.ref C) "__len__" = some (some (.ref f))) (hf : PySem.W.isFn X.K (.ref f) = true) (hb : Binds X.K fd ps []) (hr : Room (k + 1) X.A) :
    CallR X (.builtin "len") (fun xs H Q => ∃ a dx fs, xs = [.ref a] ∧ H a = some (.ins C dx fs) ∧ sp [.ref a] H (fun v H' => ∃ n : Nat, v = .int (n : Int) ∧ n ≤ sizeLine ∧ Q (.int (n : Int)) H') E0) := by
  intro pins s σ H xs us Q I r h
  obtain ⟨a, dx, fs, rfl, ha, h⟩ := h
  obtain ⟨u1, rfl, r1⟩ := vals1 r
  cases r1
  obtain ⟨mA, J, _⟩ := ins_get I.hok ha
  obtain ⟨od, J, _⟩ := J.look
  obtain ⟨m, hF⟩ := I.fr
  refine PySem.W.len_K hF I.ok.mod.kin J hs hf ?_
  refine wpAny_mono (run_fnA F hr.in1 I.env0.in1 hb I (show Vals [V.ref a] [Value.ref a] from .cons rfl .nil) h) (fun v s' hv => ?_) fun _ _ z => z
  obtain ⟨z, H', I', rz, n, rfl, hn, q⟩ := hv
  obtain ⟨t, rfl⟩ := rz
  have h63 : (n : Int) < 2 ^ 63 := by
    have := line63
    have : n < 2 ^ 63 := Nat.lt_of_le_of_lt hn this
    exact_mod_cast this
  exact ⟨⟨Int.natCast_nonneg n, h63⟩, .int (n : Int), H', I'.tok _, ⟨_, rfl⟩, q⟩
end
end Sf
namespace Sf
open PySem PySem.Spec PyProof.Rows L2 TL
section
variable {X : Cx}
/-! ### name = {k: v for ..} on one line, the name a local -/
theorem ps_setDc {i : Nat} {y : Str} {py : Pos} {kx vx tg iter : Expr} {ifs : List Expr} {scope : Scope} {own : List (Str × Nat)} {pos spos : Pos} {wi : TI} {g : TG} {tt : TT} {tk tv : TE} (hc : X.calm = true) (hN : X.N.Nodup) (hy : X.N[i]? = some y) (hyl : X.env.scope.names.lookup y = some .local)
    (hsw : swapsWith (.DictComp kx vx [⟨tg, iter, ifs, 0⟩] scope pos) (some (.Name y py)) spos.line X.env = pure true) (hi : PI X tg iter wi) (ok : BlkOk X.N X.env.scope scope own)
    (hg : ∀ (s : Shared) (H : Hp) (C : Addr) (cl : List (Str × Addr)) (fp : List Addr), PG (X.blk s H scope (compEnvC scope cl C X.env) fp) tg g) (ht : ∀ (s : Shared) (H : Hp) (C : Addr) (cl : List (Str × Addr)) (fp : List Addr), PTs (X.blk s H scope (compEnvC scope cl C X.env) fp) ifs tt)
    (hk : ∀ (s : Shared) (H : Hp) (C : Addr) (cl : List (Str × Addr)) (fp : List Addr), PE (X.blk s H scope (compEnvC scope cl C X.env) fp) kx tk)
    (he : ∀ (s : Shared) (H : Hp) (C : Addr) (cl : List (Str × Addr)) (fp : List Addr), PE (X.blk s H scope (compEnvC scope cl C X.env) fp) vx tv) (hs : ∀ x, foldedSetIterable iter X.env x = pure x := by intro _; rfl) :
    PS X (.Assign [.Name y py] (.DictComp kx vx [⟨tg, iter, ifs, 0⟩] scope pos) spos) (tAsg (tDc wi g tt tk tv (own.map (·.2))) (gName i)) := by
  refine ⟨fun pins s σ H D I h => ?_⟩
  rw [exec_Assign_Name_used _ _ _ _ hsw]
  refine wpAny_bind (wpAny_standAt (wpAny_bind ?_))
  show wpAny _ X.A (do let _ ← comprehension (.DictComp kx vx [⟨tg, iter, ifs, 0⟩] scope pos) scope X.env (firstIterPos [⟨tg, iter, ifs, 0⟩] pos) newDict false (eval iter X.env) (some (assign (.Name y py) X.env))) _ _ s
  have h : tDc wi g tt tk tv (own.map (·.2)) σ H (fun x H1 => gName i x σ H1 D.nx) := h
  refine wpAny_bind (thn (dc_core (Qf := fun _ s' => SP X pins D .next s') hc hN I hi ok hg ht hk he hs h fun L C s' m H' I' q hn f => ?_) fun _ s' hq => wpAny_pure (wpAny_pure hq))
  show wpAny _ _ (assign (.Name y py) X.env (.ref L)) _ _ _
  refine wpAny_assign_Name (store_ok2 (v := V.ref L) I' hN hy (.inl hyl) rfl (fun s2 I2 ⟨a, sb, ha⟩ => ?_) (.inr hyl))
  obtain ⟨f0, f1, f2, f3, f4, f5⟩ := f
  have haC : C ≠ a := by
    rcases ha with z | z
    · rw [z]; exact f1
    · exact fun e => f4 y a z e.symm
  refine ⟨m, hn.sameBut sb haC, fun h3 sb3 => ?_⟩
  exact ⟨_, H', I2.turned (t' := s2.toks) (fun b o hb e => (sb3.2 b hb).trans e) f0 f1 f3 f4 f5, q⟩
theorem swD_true {kx vx : Expr} {gs : List Comprehension} {scope : Scope} {pos py : Pos} {y : Str} {l : Nat} {env : Env} (hk : env.scope.kind = .function) (hy : env.scope.names.lookup y = some .local) (hl : (py.line == pos.line) = true)
    (ha : (scope.names.any fun (n, k) => n == y && (k == .local || k == .cell)) = false) : swapsWith (.DictComp kx vx gs scope pos) (some (.Name y py)) l env = pure true := by
  have ky : env.kindOf y = some .local := hy
  have hb : env.blockKind = .function := by unfold Env.blockKind; rw [hk]; rfl
  unfold swapsWith
  simp only [hb, ky, ha, Expr.pos, hl]
  rfl
end
end Sf
namespace Sf
open PySem PySem.Spec PyProof.Rows L2 TL
/-! ### the readings, step by step -/
theorem pe_gS {X : Cx} {x z : Str} {t : Tok} {pos : Pos} (hg : Gl X x) (hm : X.mg x = some (.str z t)) (hd : (x == ("__debug__" : Str)) = false := by decide) : PE X (.Name x pos) (tC (.str z)) := pe_glob (v := .str z) hg hm ⟨t, rfl⟩ hd
theorem pe_gI {X : Cx} {x : Str} {z : Int} {t : Tok} {pos : Pos} (hg : Gl X x) (hm : X.mg x = some (.int z t)) (hd : (x == ("__debug__" : Str)) = false := by decide) : PE X (.Name x pos) (tC (.int z)) := pe_glob (v := .int z) hg hm ⟨t, rfl⟩ hd
/-- a new object at p -/
structure Nw (p : Addr) (H H1 : Hp) : Prop where
  nn : H p = none
  off : ∀ a, a ≠ p → H1 a = H a
/-- all but what stands at p is as it was -/
def Of (p : Addr) (H H1 : Hp) : Prop := ∀ a, a ≠ p → H1 a = H a
theorem Nw.at {p a : Addr} {H H1 : Hp} {o : HO} (n : Nw p H H1) (h : H a = some o) : H1 a = some o := by
  rw [n.off a (ne_of_none h n.nn)]
  exact h
theorem Nw.same {p : Addr} {H H1 : Hp} (n : Nw p H H1) : Same H H1 := fun _ _ h => n.at h
theorem Nw.ne {p a : Addr} {H H1 : Hp} {o : HO} (n : Nw p H H1) (h : H a = some o) : a ≠ p := ne_of_none h n.nn
theorem _root_.L2.Same.at {a : Addr} {H H1 : Hp} {o : HO} (n : Same H H1) (h : H a = some o) : H1 a = some o := n _ _ h
theorem Of.at {p a : Addr} {H H1 : Hp} {o : HO} (n : Of p H H1) (ne : a ≠ p) (h : H a = some o) : H1 a = some o := by
  rw [n a ne]
  exact h
theorem Fx.at {b a : Addr} {H H1 : Hp} {o : HO} (n : Fx b H H1) (ne : a ≠ b) (h : H a = some o) : H1 a = some o := n _ _ h ne
theorem Nw.mk' {p : Addr} {H : Hp} {o : HO} (h : H p = none) : Nw p H (upd H p o) := ⟨h, fun _ n => upd_ne n⟩
theorem _root_.L2.Same.off {p : Addr} {H H1 H2 : Hp} (s : Same H H1) (o : Of p H1 H2) (n : H p = none) : Same H H2 := fun a u h => o.at (ne_of_none h n) (s _ _ h)
theorem _root_.L2.Same.nw {p : Addr} {H H1 H2 : Hp} (s : Same H H1) (o : Nw p H1 H2) : Same H H2 := s.trans o.same
theorem Of.mk' {p : Addr} {H : Hp} {o : HO} : Of p H (upd H p o) := fun _ n => upd_ne n
theorem Bag.nw {H H1 : Hp} {b l p : Addr} (h : Bag H b l) (n : Nw p H H1) : Bag H1 b l := h.same n.same
theorem Bag.off {H H1 : Hp} {b l p : Addr} (h : Bag H b l) (n1 : p ≠ b) (n2 : p ≠ l) (o : Of p H H1) : Bag H1 b l := by
  obtain ⟨ns, k, z, r, h⟩ := h
  exact ⟨ns, k, z, r, o.at n1.symm h.hb, o.at n2.symm h.hl, h.k0, h.z0, h.r0, h.r1⟩
theorem Fx.nw {b p : Addr} {H H1 H2 : Hp} (f : Fx b H H1) (n : Nw p H1 H2) : Fx b H H2 := f.same n.same
theorem Fx.off {b p : Addr} {H H1 H2 : Hp} (f : Fx b H H1) (o : Of p H1 H2) (n : H p = none) : Fx b H H2 := fun a u e hb => o.at (ne_of_none e n) (f a u e hb)
section
variable {σ : L2.St} {H : Hp} {Q : VK} {D : Ends} {K : PySem.W.Frag}
theorem w_var {i : Nat} {v : V} (h : σ[i]? = some (some v)) (q : Q v H) : tVar i σ H Q := ⟨v, h, q⟩
theorem w_c {v : V} (q : Q v H) : tC v σ H Q := q
theorem w_op {r : R2} {ta tb : TE} (q : ta σ H fun x H1 => tb σ H1 fun y H2 => r x y H2 Q) : tOp r ta tb σ H Q := q
theorem w_un {r : V → Hp → VK → Prop} {ta : TE} (q : ta σ H fun x H1 => r x H1 Q) : tUn r ta σ H Q := q
theorem w_i0 {g : Int → Int → V} {i j : Int} (q : Q (g i j) H) : rI0 g (.int i) (.int j) H Q := ⟨i, j, rfl, rfl, q⟩
theorem w_i {C : Int → Int → Prop} {g : Int → Int → V} {i j : Int} (c : C i j) (q : Q (g i j) H) : rI C g (.int i) (.int j) H Q := ⟨i, j, rfl, rfl, c, q⟩
theorem w_u {g : Int → V} {i : Int} (q : Q (g i) H) : rU g (.int i) H Q := ⟨i, rfl, q⟩
theorem dec_int (i j : Int) : decide (V.int i = V.int j) = decide (i = j) := by
  by_cases h : i = j
  · subst h; simp
  · rw [decide_eq_false h, decide_eq_false (fun e => h (V.int.inj e))]
theorem dec_str (i j : Str) : decide (V.str i = V.str j) = decide (i = j) := by
  by_cases h : i = j
  · subst h; simp
  · rw [decide_eq_false h, decide_eq_false (fun e => h (V.str.inj e))]
theorem dec_bl (i j : Bool) : decide (V.bl i = V.bl j) = decide (i = j) := by
  by_cases h : i = j
  · subst h; simp
  · rw [decide_eq_false h, decide_eq_false (fun e => h (V.bl.inj e))]
theorem w_eqI {i j : Int} (q : Q (.bl (decide (i = j))) H) : rEq (.int i) (.int j) H Q := ⟨rfl, by rw [dec_int]; exact q⟩
theorem w_neI {i j : Int} (q : Q (.bl (!decide (i = j))) H) : rNe (.int i) (.int j) H Q := ⟨rfl, by rw [dec_int]; exact q⟩
theorem w_eqS {i j : Str} (q : Q (.bl (decide (i = j))) H) : rEq (.str i) (.str j) H Q := ⟨rfl, by rw [dec_str]; exact q⟩
theorem w_neS {i j : Str} (q : Q (.bl (!decide (i = j))) H) : rNe (.str i) (.str j) H Q := ⟨rfl, by rw [dec_str]; exact q⟩
theorem w_eqB {i j : Bool} (q : Q (.bl (decide (i = j))) H) : rEq (.bl i) (.bl j) H Q := ⟨rfl, by rw [dec_bl]; exact q⟩
theorem w_neB {i j : Bool} (q : Q (.bl (!decide (i = j))) H) : rNe (.bl i) (.bl j) H Q := ⟨rfl, by rw [dec_bl]; exact q⟩
/-! texts -/
def rAddStr : R2 := fun x y H Q => ∃ i j, x = .str i ∧ y = .str j ∧ i.length + j.length ≤ sizeLine ∧ Q (.str (i ++ j)) H
theorem op_addS {X : Cx} : OpR X (binaryOp .Add) rAddStr := op_add_str
theorem w_addS {i j : Str} (h : i.length + j.length ≤ sizeLine) (q : Q (.str (i ++ j)) H) : rAddStr (.str i) (.str j) H Q := ⟨i, j, rfl, rfl, h, q⟩
def rInSign : R2 := fun x y H Q => ∃ (c : Nat) (z : Str), x = .str ⟨#[c]⟩ ∧ y = .str z ∧ Q (.bl (decide (c ∈ z.cps.toList))) H
theorem op_inSg {X : Cx} : OpR X (compareOp .In) rInSign := op_in_sign
theorem w_inSg {c : Nat} {z : Str} (q : Q (.bl (decide (c ∈ z.cps.toList))) H) : rInSign (.str (one c)) (.str z) H Q := ⟨c, z, rfl, rfl, q⟩
def rNotInSign : R2 := fun x y H Q => ∃ (c : Nat) (z : Str), x = .str ⟨#[c]⟩ ∧ y = .str z ∧ Q (.bl (!decide (c ∈ z.cps.toList))) H
theorem op_notInSg {X : Cx} : OpR X (compareOp .NotIn) rNotInSign := op_notIn_sign
theorem w_notInSg {c : Nat} {z : Str} (q : Q (.bl (!decide (c ∈ z.cps.toList))) H) : rNotInSign (.str (one c)) (.str z) H Q := ⟨c, z, rfl, rfl, q⟩
def rIsNone : R2 := fun x y H Q => y = .non ∧ Q (.bl (decide (x = .non))) H
theorem op_isNn {X : Cx} : OpR X (compareOp .Is) rIsNone := op_isN
theorem w_isN {x : V} (q : Q (.bl (decide (x = .non))) H) : rIsNone x .non H Q := ⟨rfl, q⟩
theorem w_isNI {i : Int} (q : Q (.bl false) H) : rIsNone (.int i) .non H Q := ⟨rfl, by rw [decide_eq_false (fun z => nomatch z)]; exact q⟩
theorem w_isNN (q : Q (.bl true) H) : rIsNone .non .non H Q := ⟨rfl, by rw [decide_eq_true rfl]; exact q⟩
def rNotNone : R2 := fun x y H Q => y = .non ∧ Q (.bl (!decide (x = .non))) H
theorem op_notNn {X : Cx} : OpR X (compareOp .IsNot) rNotNone := op_notN
theorem w_notN {x : V} (q : Q (.bl (!decide (x = .non))) H) : rNotNone x .non H Q := ⟨rfl, q⟩
theorem w_notNI {i : Int} (q : Q (.bl true) H) : rNotNone (.int i) .non H Q := ⟨rfl, by rw [decide_eq_false (fun z => nomatch z)]; exact q⟩
theorem w_notNN (q : Q (.bl false) H) : rNotNone .non .non H Q := ⟨rfl, by rw [decide_eq_true rfl]; exact q⟩
theorem w_slS {z : Str} {lo hi : Option Int} (h : z.length ≤ sizeLine) (q : Q (.str (cutS z lo hi)) H) : rSlS (.str z) lo hi H Q := ⟨z, rfl, h, q⟩
theorem w_sl {r : V → Option Int → Option Int → Hp → VK → Prop} {te : TE} {tl th : TO} (q : te σ H fun x H1 => tl σ H1 fun l H2 => th σ H2 fun u H3 => r x l u H3 Q) : tSl r te tl th σ H Q := q
theorem w_nopart {Q : Option Int → Hp → Prop} (q : Q none H) : tNoPart σ H Q := q
def kPart (Q : Option Int → Hp → Prop) : VK := fun x H1 => ∃ i, x = .int i ∧ Q (some i) H1
theorem w_part {t : TE} {Q : Option Int → Hp → Prop} (q : t σ H (kPart Q)) : tPart t σ H Q := q
theorem w_kpart {i : Int} {Q : Option Int → Hp → Prop} (q : Q (some i) H) : kPart Q (.int i) H := ⟨i, rfl, q⟩
theorem w_ixS {z : Str} {i : Int} {c : Nat} (hl : z.length ≤ sizeLine) (h : atI z.cps.toList i = some c) (q : Q (.str (one c)) H) : rIxS (.str z) (.int i) H Q := ⟨z, i, c, rfl, rfl, hl, h, q⟩
theorem w_ixL {p : Addr} {xs : List V} {i : Int} {v : V} (h : H p = some (.lst xs)) (e : atI xs i = some v) (q : Q v H) : rIxL K (.ref p) (.int i) H Q := ⟨p, xs, i, v, rfl, rfl, SqL.of h, e, q⟩
theorem w_ixT {p : Addr} {xs : List V} {i : Int} {v : V} (h : H p = some (.tup xs)) (e : atI xs i = some v) (q : Q v H) : rIxT K (.ref p) (.int i) H Q := ⟨p, xs, i, v, rfl, rfl, SqT.of h, e, q⟩
/-! truth -/
def kB (Q : Bool → Hp → Prop) : VK := fun x H' => ∃ k, x = .bl k ∧ Q k H'
theorem w_test {t : TE} {Q : Bool → Hp → Prop} (q : t σ H (kB Q)) : tTest t σ H Q := q
theorem w_tB {t : TE} {Q : Bool → Hp → Prop} (q : t σ H (kB Q)) : tB t σ H Q := q
theorem w_kB {c : Bool} {Q : Bool → Hp → Prop} (q : Q c H) : kB Q (.bl c) H := ⟨c, rfl, q⟩
def kAnd (u : TT) (σ : L2.St) (Q : Bool → Hp → Prop) : Bool → Hp → Prop := fun c H1 => if c = true then u σ H1 Q else Q false H1
theorem w_and {t u : TT} {Q : Bool → Hp → Prop} (q : t σ H (kAnd u σ Q)) : tAnd t u σ H Q := q
theorem w_andT {u : TT} {Q : Bool → Hp → Prop} (q : u σ H Q) : kAnd u σ Q true H := iteT q
theorem w_andF {u : TT} {Q : Bool → Hp → Prop} (q : Q false H) : kAnd u σ Q false H := iteF q
theorem w_and2 {p : Prop} [Decidable p] {u : TT} {Q : Bool → Hp → Prop} (h1 : p → u σ H Q) (h2 : ¬ p → Q false H) : kAnd u σ Q (decide p) H :=
  ite2 (fun e => h1 (of_decide_eq_true e)) fun e => h2 fun z => e (decide_eq_true z)
theorem w_andN2 {p : Prop} [Decidable p] {u : TT} {Q : Bool → Hp → Prop} (h1 : ¬ p → u σ H Q) (h2 : p → Q false H) : kAnd u σ Q (!decide p) H := by
  by_cases h : p
  · rw [decide_eq_true h]; exact iteF (h2 h)
  · rw [decide_eq_false h]; exact iteT (h1 h)
theorem w_andB {b : Bool} {u : TT} {Q : Bool → Hp → Prop} (h1 : b = true → u σ H Q) (h2 : b = false → Q false H) : kAnd u σ Q b H := by
  cases b with
  | true => exact iteT (h1 rfl)
  | false => exact iteF (h2 rfl)
def kOr (u : TT) (σ : L2.St) (Q : Bool → Hp → Prop) : Bool → Hp → Prop := fun c H1 => if c = true then Q true H1 else u σ H1 Q
theorem w_or {t u : TT} {Q : Bool → Hp → Prop} (q : t σ H (kOr u σ Q)) : tOr t u σ H Q := q
theorem w_orT {u : TT} {Q : Bool → Hp → Prop} (q : Q true H) : kOr u σ Q true H := iteT q
theorem w_orF {u : TT} {Q : Bool → Hp → Prop} (q : u σ H Q) : kOr u σ Q false H := iteF q
theorem w_or2 {p : Prop} [Decidable p] {u : TT} {Q : Bool → Hp → Prop} (h1 : p → Q true H) (h2 : ¬ p → u σ H Q) : kOr u σ Q (decide p) H :=
  ite2 (fun e => h1 (of_decide_eq_true e)) fun e => h2 fun z => e (decide_eq_true z)
theorem w_orN2 {p : Prop} [Decidable p] {u : TT} {Q : Bool → Hp → Prop} (h1 : ¬ p → Q true H) (h2 : p → u σ H Q) : kOr u σ Q (!decide p) H := by
  by_cases h : p
  · rw [decide_eq_true h]; exact iteF (h2 h)
  · rw [decide_eq_false h]; exact iteT (h1 h)
theorem w_orB {b : Bool} {u : TT} {Q : Bool → Hp → Prop} (h1 : b = true → Q true H) (h2 : b = false → u σ H Q) : kOr u σ Q b H := by
  cases b with
  | true => exact iteT (h1 rfl)
  | false => exact iteF (h2 rfl)
def kNot (Q : Bool → Hp → Prop) : Bool → Hp → Prop := fun c H1 => Q (!c) H1
theorem w_not {t : TT} {Q : Bool → Hp → Prop} (q : t σ H (kNot Q)) : tNot t σ H Q := q
theorem w_kNot {c : Bool} {Q : Bool → Hp → Prop} (q : Q (!c) H) : kNot Q c H := q
theorem w_kNotT {Q : Bool → Hp → Prop} (q : Q false H) : kNot Q true H := q
theorem w_kNotF {Q : Bool → Hp → Prop} (q : Q true H) : kNot Q false H := q
theorem w_kNotN {p : Prop} [Decidable p] {Q : Bool → Hp → Prop} (q : Q (decide p) H) : kNot Q (!decide p) H := by
  show Q (!!decide p) H
  rw [Bool.not_not]
  exact q
/-! truth as values -/
def kAndV (tb : TE) (σ : L2.St) (Q : VK) : VK := fun x H1 => ∃ c, x = .bl c ∧ if c = true then tb σ H1 Q else Q (.bl false) H1
theorem w_andV {ta tb : TE} (q : ta σ H (kAndV tb σ Q)) : tAndV ta tb σ H Q := q
theorem w_andVT {tb : TE} (q : tb σ H Q) : kAndV tb σ Q (.bl true) H := ⟨true, rfl, iteT q⟩
theorem w_andVF {tb : TE} (q : Q (.bl false) H) : kAndV tb σ Q (.bl false) H := ⟨false, rfl, iteF q⟩
theorem w_andV2 {p : Prop} [Decidable p] {tb : TE} (h1 : p → tb σ H Q) (h2 : ¬ p → Q (.bl false) H) : kAndV tb σ Q (.bl (decide p)) H :=
  ⟨_, rfl, ite2 (fun e => h1 (of_decide_eq_true e)) fun e => h2 fun z => e (decide_eq_true z)⟩
theorem w_andVB {b : Bool} {tb : TE} (h1 : b = true → tb σ H Q) (h2 : b = false → Q (.bl false) H) : kAndV tb σ Q (.bl b) H := by
  cases b with
  | true => exact w_andVT (h1 rfl)
  | false => exact w_andVF (h2 rfl)
def kOrV (tb : TE) (σ : L2.St) (Q : VK) : VK := fun x H1 => ∃ c, x = .bl c ∧ if c = true then Q (.bl true) H1 else tb σ H1 Q
theorem w_orV {ta tb : TE} (q : ta σ H (kOrV tb σ Q)) : tOrV ta tb σ H Q := q
theorem w_orVB {b : Bool} {tb : TE} (h1 : b = true → Q (.bl true) H) (h2 : b = false → tb σ H Q) : kOrV tb σ Q (.bl b) H := by
  cases b with
  | true => exact ⟨true, rfl, iteT (h1 rfl)⟩
  | false => exact ⟨false, rfl, iteF (h2 rfl)⟩
def kNotV (Q : VK) : VK := fun x H1 => ∃ c, x = .bl c ∧ Q (.bl (!c)) H1
theorem w_notV {ta : TE} (q : ta σ H (kNotV Q)) : tNotV ta σ H Q := q
theorem w_kNotV {c : Bool} (q : Q (.bl (!c)) H) : kNotV Q (.bl c) H := ⟨c, rfl, q⟩
theorem w_kNotVF (q : Q (.bl true) H) : kNotV Q (.bl false) H := ⟨false, rfl, q⟩
theorem w_kNotVT (q : Q (.bl false) H) : kNotV Q (.bl true) H := ⟨true, rfl, q⟩
def kIfE (ta tb : TE) (σ : L2.St) (Q : VK) : Bool → Hp → Prop := fun c H1 => if c = true then ta σ H1 Q else tb σ H1 Q
theorem w_ifE {t : TT} {ta tb : TE} (q : t σ H (kIfE ta tb σ Q)) : tIf t ta tb σ H Q := q
theorem w_ifET {ta tb : TE} (q : ta σ H Q) : kIfE ta tb σ Q true H := iteT q
theorem w_ifEF {ta tb : TE} (q : tb σ H Q) : kIfE ta tb σ Q false H := iteF q
theorem w_ifE2 {p : Prop} [Decidable p] {ta tb : TE} (h1 : p → ta σ H Q) (h2 : ¬ p → tb σ H Q) : kIfE ta tb σ Q (decide p) H :=
  ite2 (fun e => h1 (of_decide_eq_true e)) fun e => h2 fun z => e (decide_eq_true z)
theorem w_ifEN2 {p : Prop} [Decidable p] {ta tb : TE} (h1 : ¬ p → ta σ H Q) (h2 : p → tb σ H Q) : kIfE ta tb σ Q (!decide p) H := by
  by_cases h : p
  · rw [decide_eq_true h]; exact iteF (h2 h)
  · rw [decide_eq_false h]; exact iteT (h1 h)
theorem w_ifEB {b : Bool} {ta tb : TE} (h1 : b = true → ta σ H Q) (h2 : b = false → tb σ H Q) : kIfE ta tb σ Q b H := by
  cases b with
  | true => exact iteT (h1 rfl)
  | false => exact iteF (h2 rfl)
def kChain (r' : R2) (tc : TE) (y : V) (σ : L2.St) (Q : VK) : VK := fun z H3 => ∃ k, z = .bl k ∧ (if k = true then tc σ H3 fun w' H4 => r' y w' H4 Q else Q (.bl false) H3)
theorem w_chain {r r' : R2} {ta tb tc : TE} (q : ta σ H fun x H1 => tb σ H1 fun y H2 => r x y H2 (kChain r' tc y σ Q)) : tChain r r' ta tb tc σ H Q := q
theorem w_chain2 {p : Prop} [Decidable p] {r' : R2} {tc : TE} {y : V} (h1 : p → tc σ H fun w' H4 => r' y w' H4 Q) (h2 : ¬ p → Q (.bl false) H) : kChain r' tc y σ Q (.bl (decide p)) H :=
  ⟨_, rfl, ite2 (fun e => h1 (of_decide_eq_true e)) fun e => h2 fun z => e (decide_eq_true z)⟩
/-! arguments, displays -/
theorem w_nil {Q : List V → Hp → Prop} (q : Q [] H) : tNil σ H Q := q
theorem w_cons {ta : TE} {tr : TA} {Q : List V → Hp → Prop} (q : ta σ H fun x H1 => tr σ H1 fun xs H2 => Q (x :: xs) H2) : tCons ta tr σ H Q := q
def kNewL (Q : VK) : List V → Hp → Prop := fun xs H1 => xs.length ≤ sizeLine ∧ ∀ p, H1 p = none → Q (.ref p) (upd H1 p (.lst xs))
def kNewT (Q : VK) : List V → Hp → Prop := fun xs H1 => xs.length ≤ sizeLine ∧ ∀ p, H1 p = none → Q (.ref p) (upd H1 p (.tup xs))
theorem w_lst {t : TA} (q : t σ H (kNewL Q)) : tLst t σ H Q := q
theorem w_tup {t : TA} (q : t σ H (kNewT Q)) : tTup t σ H Q := q
theorem w_newL {xs : List V} (hl : xs.length ≤ sizeLine) (k : ∀ p H1, H1 p = some (.lst xs) → Nw p H H1 → Q (.ref p) H1) : kNewL Q xs H := ⟨hl, fun _ n => k _ _ upd_same (.mk' n)⟩
theorem w_newT {xs : List V} (hl : xs.length ≤ sizeLine) (k : ∀ p H1, H1 p = some (.tup xs) → Nw p H H1 → Q (.ref p) H1) : kNewT Q xs H := ⟨hl, fun _ n => k _ _ upd_same (.mk' n)⟩
theorem w_slL {p : Addr} {xs : List V} {lo hi : Option Int} (h : H p = some (.lst xs)) (k : ∀ q H1, H1 q = some (.lst (cutV xs lo hi)) → Nw q H H1 → Q (.ref q) H1) : rSlL K (.ref p) lo hi H Q :=
  ⟨p, xs, rfl, SqL.of h, fun _ n => k _ _ upd_same (.mk' n)⟩
theorem w_cat {l b : Addr} {xs zs : List V} (h1 : H l = some (.lst xs)) (h2 : H b = some (.lst zs)) (hl : xs.length + zs.length ≤ sizeLine) (k : ∀ q H1, H1 q = some (.lst (xs ++ zs)) → Nw q H H1 → Q (.ref q) H1) : rCat (.ref l) (.ref b) H Q :=
  ⟨l, b, xs, zs, rfl, rfl, h1, h2, hl, fun _ n => k _ _ upd_same (.mk' n)⟩
/-! calls -/
theorem w_cb {r : List V → Hp → VK → Prop} {t : TA} (q : t σ H fun vs H1 => r vs H1 Q) : tCB r t σ H Q := q
theorem w_call {sp : Sp} {dvs : List V} {E : XK} {t : TA} (q : t σ H fun vs H1 => sp (vs ++ dvs) H1 Q E) : tCall sp dvs E t σ H Q := q
def kMeth (C : Addr) (m : Str) (sp : Sp) (dvs : List V) (E : XK) (t : TA) (σ : L2.St) (Q : VK) : VK := fun x H1 => ∃ a dx fs, x = .ref a ∧ H1 a = some (.ins C dx fs) ∧ fs.lookup m = none ∧ t σ H1 fun vs H2 => sp (x :: (vs ++ dvs)) H2 Q E
theorem w_meth {C : Addr} {m : Str} {sp : Sp} {dvs : List V} {E : XK} {ta : TE} {t : TA} (q : ta σ H (kMeth C m sp dvs E t σ Q)) : tMeth C m sp dvs E ta t σ H Q := q
theorem w_kMeth {C a dx : Addr} {fs : List (Str × V)} {m : Str} {sp : Sp} {dvs : List V} {E : XK} {t : TA} (h : H a = some (.ins C dx fs)) (hm : fs.lookup m = none) (q : t σ H fun vs H2 => sp (.ref a :: (vs ++ dvs)) H2 Q E) : kMeth C m sp dvs E t σ Q (.ref a) H := ⟨a, dx, fs, rfl, h, hm, q⟩
def kMake (C : Addr) (sp : Sp) (dvs : List V) (E : XK) (Q : VK) : List V → Hp → Prop := fun vs H1 => ∀ x dx, H1 x = none → H1 dx = none → dx ≠ x →
  sp (.ref x :: (vs ++ dvs)) (upd (upd H1 dx (.own x)) x (.ins C dx [])) (fun v H2 => v = .non ∧ Q (.ref x) H2) E
theorem w_make {C : Addr} {sp : Sp} {dvs : List V} {E : XK} {t : TA} (q : t σ H (kMake C sp dvs E Q)) : tMake C sp dvs E t σ H Q := q
def kFld (K : PySem.W.Frag) (f : Str) (Q : VK) : VK := fun x H1 => ∃ a C dx fs v, x = .ref a ∧ H1 a = some (.ins C dx fs) ∧ Cls K C ∧ NoAttr K C f ∧ fs.lookup f = some v ∧ Q v H1
theorem w_fld {ta : TE} {f : Str} (q : ta σ H (kFld K f Q)) : tFld K ta f σ H Q := q
theorem w_kFld {a C dx : Addr} {fs : List (Str × V)} {f : Str} {v : V} (h : H a = some (.ins C dx fs)) (c : Cls K C) (n : NoAttr K C f) (e : fs.lookup f = some v) (q : Q v H) : kFld K f Q (.ref a) H := ⟨a, C, dx, fs, v, rfl, h, c, n, e, q⟩
def rLenSeq (K : PySem.W.Frag) : List V → Hp → VK → Prop := fun xs H Q => ∃ p ys, xs = [.ref p] ∧ (SqL K H p ys ∨ SqT K H p ys) ∧ Q (.int ys.length) H
theorem call_lenQ {X : Cx} : CallR X (.builtin "len") (rLenSeq X.K) := call_len_seq
theorem w_lenL {p : Addr} {ys : List V} (h : H p = some (.lst ys)) (q : Q (.int ys.length) H) : rLenSeq K [.ref p] H Q := ⟨p, ys, rfl, .inl (SqL.of h), q⟩
theorem w_lenT {p : Addr} {ys : List V} (h : H p = some (.tup ys)) (q : Q (.int ys.length) H) : rLenSeq K [.ref p] H Q := ⟨p, ys, rfl, .inr (SqT.of h), q⟩
def rLenStr : List V → Hp → VK → Prop := fun xs H Q => ∃ z, xs = [.str z] ∧ z.length ≤ sizeLine ∧ Q (.int z.length) H
theorem call_lenS {X : Cx} : CallR X (.builtin "len") rLenStr := call_len_str
theorem w_lenS {z : Str} (h : z.length ≤ sizeLine) (q : Q (.int z.length) H) : rLenStr [.str z] H Q := ⟨z, rfl, h, q⟩
def rLenDct : List V → Hp → VK → Prop := fun xs H Q => ∃ a kvs, xs = [V.ref a] ∧ H a = some (.dK kvs) ∧ Q (.int kvs.length) H
theorem call_lenDc {X : Cx} : CallR X (.builtin "len") rLenDct := call_lenD
theorem w_lenD {p : Addr} {kvs : List (Key × V)} (h : H p = some (.dK kvs)) (q : Q (.int kvs.length) H) : rLenDct [.ref p] H Q := ⟨p, kvs, rfl, h, q⟩
def rMin2 : List V → Hp → VK → Prop := fun xs H Q => ∃ i j, xs = [.int i, .int j] ∧ Q (.int (if j < i then j else i)) H
theorem call_min2N {X : Cx} (hc : X.calm = true) : CallR X (.builtin "min") rMin2 := call_min2 hc
theorem w_min2 {i j : Int} (q : Q (.int (if j < i then j else i)) H) : rMin2 [.int i, .int j] H Q := ⟨i, j, rfl, q⟩
def rMax2 : List V → Hp → VK → Prop := fun xs H Q => ∃ i j, xs = [.int i, .int j] ∧ Q (.int (if j > i then j else i)) H
theorem call_max2N {X : Cx} (hc : X.calm = true) : CallR X (.builtin "max") rMax2 := call_max2 hc
theorem w_max2 {i j : Int} (q : Q (.int (if j > i then j else i)) H) : rMax2 [.int i, .int j] H Q := ⟨i, j, rfl, q⟩
def rListOf (K : PySem.W.Frag) : List V → Hp → VK → Prop := fun xs H Q => ∃ p ys, xs = [.ref p] ∧ (SqL K H p ys ∨ SqT K H p ys) ∧ ∀ l, H l = none → Q (.ref l) (upd H l (.lst ys))
theorem call_listO {X : Cx} : CallR X (.type "list") (rListOf X.K) := call_list_of
theorem w_listL {p : Addr} {ys : List V} (h : H p = some (.lst ys)) (k : ∀ l H1, H1 l = some (.lst ys) → Nw l H H1 → Q (.ref l) H1) : rListOf K [.ref p] H Q := ⟨p, ys, rfl, .inl (SqL.of h), fun _ n => k _ _ upd_same (.mk' n)⟩
theorem w_listT {p : Addr} {ys : List V} (h : H p = some (.tup ys)) (k : ∀ l H1, H1 l = some (.lst ys) → Nw l H H1 → Q (.ref l) H1) : rListOf K [.ref p] H Q := ⟨p, ys, rfl, .inr (SqT.of h), fun _ n => k _ _ upd_same (.mk' n)⟩
def rTupOf (K : PySem.W.Frag) : List V → Hp → VK → Prop := fun xs H Q => ∃ p ys, xs = [.ref p] ∧ ((SqL K H p ys ∧ ∀ l, H l = none → Q (.ref l) (upd H l (.tup ys))) ∨ (SqT K H p ys ∧ Q (.ref p) H))
theorem call_tupO {X : Cx} : CallR X (.type "tuple") (rTupOf X.K) := call_tuple_of
theorem w_tupL {p : Addr} {ys : List V} (h : H p = some (.lst ys)) (k : ∀ l H1, H1 l = some (.tup ys) → Nw l H H1 → Q (.ref l) H1) : rTupOf K [.ref p] H Q := ⟨p, ys, rfl, .inl ⟨SqL.of h, fun _ n => k _ _ upd_same (.mk' n)⟩⟩
theorem w_all {p : Addr} {bs : List Bool} (h : H p = some (.lst (bs.map V.bl))) (q : Q (.bl (bs.all id)) H) : rAll K [.ref p] H Q := ⟨p, bs, rfl, SqL.of h, q⟩
theorem w_any {p : Addr} {bs : List Bool} (h : H p = some (.lst (bs.map V.bl))) (q : Q (.bl (bs.any id)) H) : rAny K [.ref p] H Q := ⟨p, bs, rfl, SqL.of h, q⟩
theorem w_isi_int_int {i : Int} (q : Q (.bl true) H) : rIsi K [(.int i), .ty "int"] H Q := ⟨_, _, _, _, true, rfl, .ty "int", .base (.int i), kit_ty (by decide +kernel), q⟩
theorem w_isi_int_bool {i : Int} (q : Q (.bl false) H) : rIsi K [(.int i), .ty "bool"] H Q := ⟨_, _, _, _, false, rfl, .ty "bool", .base (.int i), kit_ty (by decide +kernel), q⟩
theorem w_isi_int_str {i : Int} (q : Q (.bl false) H) : rIsi K [(.int i), .ty "str"] H Q := ⟨_, _, _, _, false, rfl, .ty "str", .base (.int i), kit_ty (by decide +kernel), q⟩
theorem w_isi_str_int {i : Str} (q : Q (.bl false) H) : rIsi K [(.str i), .ty "int"] H Q := ⟨_, _, _, _, false, rfl, .ty "int", .base (.str i), kit_ty (by decide +kernel), q⟩
theorem w_isi_str_bool {i : Str} (q : Q (.bl false) H) : rIsi K [(.str i), .ty "bool"] H Q := ⟨_, _, _, _, false, rfl, .ty "bool", .base (.str i), kit_ty (by decide +kernel), q⟩
theorem w_isi_str_str {i : Str} (q : Q (.bl true) H) : rIsi K [(.str i), .ty "str"] H Q := ⟨_, _, _, _, true, rfl, .ty "str", .base (.str i), kit_ty (by decide +kernel), q⟩
theorem w_isi_bool_int {i : Bool} (q : Q (.bl true) H) : rIsi K [(.bl i), .ty "int"] H Q := ⟨_, _, _, _, true, rfl, .ty "int", .base (.bl i), kit_ty (by decide +kernel), q⟩
theorem w_isi_bool_bool {i : Bool} (q : Q (.bl true) H) : rIsi K [(.bl i), .ty "bool"] H Q := ⟨_, _, _, _, true, rfl, .ty "bool", .base (.bl i), kit_ty (by decide +kernel), q⟩
theorem w_isi_bool_str {i : Bool} (q : Q (.bl false) H) : rIsi K [(.bl i), .ty "str"] H Q := ⟨_, _, _, _, false, rfl, .ty "str", .base (.bl i), kit_ty (by decide +kernel), q⟩
theorem w_isi_NoneType_int  (q : Q (.bl false) H) : rIsi K [.non, .ty "int"] H Q := ⟨_, _, _, _, false, rfl, .ty "int", .base .non, kit_ty (by decide +kernel), q⟩
theorem w_isi_NoneType_str  (q : Q (.bl false) H) : rIsi K [.non, .ty "str"] H Q := ⟨_, _, _, _, false, rfl, .ty "str", .base .non, kit_ty (by decide +kernel), q⟩
theorem w_isi_NoneType_bool  (q : Q (.bl false) H) : rIsi K [.non, .ty "bool"] H Q := ⟨_, _, _, _, false, rfl, .ty "bool", .base .non, kit_ty (by decide +kernel), q⟩
/-! methods of lists, texts -/
def kBM (K : PySem.W.Frag) (T : String) (r : V → List V → Hp → VK → Prop) (t : TA) (σ : L2.St) (Q : VK) : VK := fun x H1 => tyV K T x H1 ∧ t σ H1 fun xs H2 => r x xs H2 Q
theorem w_bm {T : String} {r : V → List V → Hp → VK → Prop} {to : TE} {t : TA} (q : to σ H (kBM K T r t σ Q)) : tBM K T r to t σ H Q := q
theorem w_bm0 {T : String} {r : V → List V → Hp → VK → Prop} {to : TE} (q : to σ H (kBM K T r tNil σ Q)) : tBM0 K T r to σ H Q := q
theorem w_kbmL {p : Addr} {xs : List V} {r : V → List V → Hp → VK → Prop} {t : TA} (h : H p = some (.lst xs)) (q : t σ H fun xs H2 => r (.ref p) xs H2 Q) : kBM K "list" r t σ Q (.ref p) H := ⟨.inl ⟨rfl, _, SqL.of h⟩, q⟩
theorem w_append {p : Addr} {xs : List V} {v : V} (h : H p = some (.lst xs)) (hl : xs.length < sizeLine) (k : ∀ H1, H1 p = some (.lst (xs ++ [v])) → Of p H H1 → Q .non H1) : rAppend (.ref p) [v] H Q := ⟨p, xs, v, rfl, rfl, h, hl, k _ upd_same .mk'⟩
theorem perm_erase {α : Type} : ∀ (l : List α) (i : Nat) (h : i < l.length), l.Perm (l[i] :: l.eraseIdx i)
  | x :: r, 0, _ => by exact .refl _
  | x :: r, i + 1, h => by
    have ih := perm_erase r i (by simpa using h)
    exact (ih.cons x).trans (.swap _ _ _)
theorem w_popV {p : Addr} {xs : List V} {i : Int} (h : H p = some (.lst xs)) (h0 : 0 ≤ i) (h1 : i < xs.length) (hz : xs.length ≤ 100000) (k : ∀ x ys H1, xs.Perm (x :: ys) → H1 p = some (.lst ys) → Of p H H1 → Q x H1) : rPopAt (.ref p) [.int i] H Q := by
  have hi : i.toNat < xs.length := by omega
  refine ⟨p, xs, i, i.toNat, xs[i.toNat], rfl, rfl, h, by omega, by omega, ?_, List.getElem?_eq_getElem hi, k _ (xs.eraseIdx i.toNat) _ (perm_erase xs _ hi) upd_same .mk'⟩
  unfold seqIndex?
  simp only [if_neg (show ¬ i < 0 by omega), Bool.and_eq_true, decide_eq_true_eq]
  rw [if_pos ⟨h0, h1⟩]
theorem erase_map {α β : Type} (f : α → β) : ∀ (l : List α) (i : Nat), (l.map f).eraseIdx i = (l.eraseIdx i).map f
  | [], _ => rfl
  | x :: r, 0 => rfl
  | x :: r, i + 1 => by
    show f x :: (r.map f).eraseIdx i = f x :: (r.eraseIdx i).map f
    rw [erase_map f r i]
theorem w_popI {p : Addr} {ns : List Int} {i : Int} (h : H p = some (.lst (ns.map V.int))) (h0 : 0 ≤ i) (h1 : i < ns.length) (hz : ns.length ≤ 100000) (k : ∀ x ms H1, ns.Perm (x :: ms) → H1 p = some (.lst (ms.map V.int)) → Of p H H1 → Q (.int x) H1) : rPopAt (.ref p) [.int i] H Q := by
  have hi : i.toNat < ns.length := by omega
  have e : (ns.map V.int)[i.toNat]? = some (.int ns[i.toNat]) := by rw [List.getElem?_map, List.getElem?_eq_getElem hi]; rfl
  refine ⟨p, _, i, i.toNat, .int ns[i.toNat], rfl, rfl, h, by omega, by omega, ?_, e, k _ (ns.eraseIdx i.toNat) _ (perm_erase ns _ hi) ?_ .mk'⟩
  · unfold seqIndex?
    simp only [if_neg (show ¬ i < 0 by omega), Bool.and_eq_true, decide_eq_true_eq, List.length_map]
    rw [if_pos ⟨h0, h1⟩]
  · rw [upd_same, erase_map]
theorem w_clear {p : Addr} {xs : List V} (h : H p = some (.lst xs)) (k : ∀ H1, H1 p = some (.lst []) → Of p H H1 → Q .non H1) : rClear (.ref p) [] H Q := ⟨p, xs, rfl, rfl, h, k _ upd_same .mk'⟩
def kM0 (r : V → List V → Hp → VK → Prop) (Q : VK) : VK := fun x H1 => (∃ a, x = .str a) ∧ r x [] H1 Q
theorem w_m0 {r : V → List V → Hp → VK → Prop} {to : TE} (q : to σ H (kM0 r Q)) : tM0 r to σ H Q := q
theorem w_kM0 {r : V → List V → Hp → VK → Prop} {x : Str} (q : r (.str x) [] H Q) : kM0 r Q (.str x) H := ⟨⟨x, rfl⟩, q⟩
def kM1 (r : V → List V → Hp → VK → Prop) (te : TE) (σ : L2.St) (Q : VK) : VK := fun x H1 => (∃ a, x = .str a) ∧ te σ H1 fun y H2 => r x [y] H2 Q
theorem w_m1 {r : V → List V → Hp → VK → Prop} {to te : TE} (q : to σ H (kM1 r te σ Q)) : tM1 r to te σ H Q := q
theorem w_kM1 {r : V → List V → Hp → VK → Prop} {te : TE} {x : Str} (q : te σ H fun y H2 => r (.str x) [y] H2 Q) : kM1 r te σ Q (.str x) H := ⟨⟨x, rfl⟩, q⟩
/-! methods of texts, by name -/
def rUpper : V → List V → Hp → VK → Prop := fun x xs H Q => ∃ a, x = .str a ∧ xs = [] ∧ a.length ≤ 5592405 ∧ Q (.str (Txt.upper a)) H
theorem mt_upN {X : Cx} : MtR X "str.upper" rUpper := mt_upper
theorem w_upper {a : Str} (h : a.length ≤ 5592405) (q : Q (.str (Txt.upper a)) H) : rUpper (.str a) [] H Q := ⟨a, rfl, rfl, h, q⟩
theorem w_up1 {c : Nat} (h : 97 ≤ c ∧ c ≤ 104) (q : Q (.str (one (c - 32))) H) : rUpper (.str (one c)) [] H Q := ⟨_, rfl, rfl, by rw [len_one]; decide, by rw [upper_one h]; exact q⟩
def rLower : V → List V → Hp → VK → Prop := fun x xs H Q => ∃ a, x = .str a ∧ xs = [] ∧ a.length ≤ 5592405 ∧ Q (.str (Txt.lower a)) H
theorem mt_loN {X : Cx} : MtR X "str.lower" rLower := mt_lower
theorem w_lower {a : Str} (h : a.length ≤ 5592405) (q : Q (.str (Txt.lower a)) H) : rLower (.str a) [] H Q := ⟨a, rfl, rfl, h, q⟩
theorem w_lo1 {c : Nat} (h : 65 ≤ c ∧ c ≤ 72) (q : Q (.str (one (c + 32))) H) : rLower (.str (one c)) [] H Q := ⟨_, rfl, rfl, by rw [len_one]; decide, by rw [lower_one h]; exact q⟩
def rSwap : V → List V → Hp → VK → Prop := fun x xs H Q => ∃ a, x = .str a ∧ xs = [] ∧ a.length ≤ 5592405 ∧ Q (.str (Txt.swapcase a)) H
theorem pe_swapN {X : Cx} {o : Expr} {to : TE} {apos pos : Pos} (ho : PE X o to) (hbase : attributeBase o "swapcase" X.env (eval o X.env) = eval o X.env := by rfl) (hline : (apos.endLine == pos.line) = true := by rfl) : PE X (.Call (.Attribute o "swapcase" apos) [] [] pos) (tM0 rSwap to) := pe_swapcase ho hbase hline
theorem w_swap {a : Str} (hw : Wd a) (h : a.length ≤ 5592405) (q : Q (.str (flipS a)) H) : rSwap (.str a) [] H Q := ⟨a, rfl, rfl, h, by rw [swap_wd hw]; exact q⟩
theorem w_swap1 {c : Nat} (hc : sgn c = true) (q : Q (.str (one (flipC c))) H) : rSwap (.str (one c)) [] H Q := w_swap (wd_one hc) (by rw [len_one]; decide) q
theorem w_revS {te : TE} (q : te σ H fun x H1 => ∃ z, x = .str z ∧ z.length ≤ sizeLine ∧ Q (.str (revS z)) H1) : tRevS te σ H Q := q
def rJoin (K : PySem.W.Frag) : V → List V → Hp → VK → Prop := fun x xs H Q => ∃ a p, ∃ ys : List Str, x = .str a ∧ xs = [.ref p] ∧ (SqL K H p (ys.map V.str) ∨ SqT K H p (ys.map V.str)) ∧ (ys.map (·.length)).sum + ys.length * a.length ≤ 16777216 ∧ Q (.str (Txt.join a ys)) H
theorem mt_joinN {X : Cx} : MtR X "str.join" (rJoin X.K) := mt_join
theorem w_join {a : Str} {p : Addr} {ys : List Str} (h : H p = some (.lst (ys.map V.str))) (hl : (ys.map (·.length)).sum + ys.length * a.length ≤ 16777216) (q : Q (.str (Txt.join a ys)) H) : rJoin K (.str a) [.ref p] H Q := ⟨a, p, ys, rfl, rfl, .inl (SqL.of h), hl, q⟩
def rStarts : V → List V → Hp → VK → Prop := fun x xs H Q => ∃ a b, x = .str a ∧ xs = [.str b] ∧ Q (.bl (Txt.startswith a b)) H
theorem mt_startN {X : Cx} : MtR X "str.startswith" rStarts := mt_startswith
theorem w_starts {a b : Str} (q : Q (.bl (Txt.startswith a b)) H) : rStarts (.str a) [.str b] H Q := ⟨a, b, rfl, rfl, q⟩
def rEnds : V → List V → Hp → VK → Prop := fun x xs H Q => ∃ a b, x = .str a ∧ xs = [.str b] ∧ Q (.bl (Txt.endswith a b)) H
theorem mt_endN {X : Cx} : MtR X "str.endswith" rEnds := mt_endswith
theorem w_ends {a b : Str} (q : Q (.bl (Txt.endswith a b)) H) : rEnds (.str a) [.str b] H Q := ⟨a, b, rfl, rfl, q⟩
def rMulStr : R2 := fun x y H Q => ∃ (a : Str) (n : Int), x = .str a ∧ y = .int n ∧ 0 ≤ n ∧ n ≤ 1000 ∧ a.length ≤ 1000 ∧ Q (.str (Txt.mul a n)) H
theorem op_mulS {X : Cx} : OpR X (binaryOp .Mult) rMulStr := op_mul_str
theorem w_mulS {a : Str} {n : Int} (h0 : 0 ≤ n) (h1 : n ≤ 1000) (h2 : a.length ≤ 1000) (q : Q (.str (Txt.mul a n)) H) : rMulStr (.str a) (.int n) H Q := ⟨a, n, rfl, rfl, h0, h1, h2, q⟩
/-! dicts -/
def kDGet (x y : V) (Q : VK) : Hp → Prop := fun H2 => ∃ a v, x = .ref a ∧ DGet H2 a y (some v) ∧ Q v H2
theorem w_dget {td ty : TE} (q : td σ H fun x H1 => ty σ H1 fun y H2 => kDGet x y Q H2) : tDGet td ty σ H Q := q
theorem w_kDGetI {a : Addr} {kvs : List (Key × V)} {i : Int} {v : V} (h : H a = some (.dK kvs)) (e : valV kvs (Sum.inl i) = some v) (q : Q v H) : kDGet (.ref a) (.int i) Q H := ⟨a, v, rfl, by rw [← e]; exact DGet.k (k := Sum.inl i) h, q⟩
theorem w_kDGetS {a : Addr} {kvs : List (Key × V)} {i : Str} {v : V} (h : H a = some (.dK kvs)) (e : valV kvs (Sum.inr i) = some v) (q : Q v H) : kDGet (.ref a) (.str i) Q H := ⟨a, v, rfl, by rw [← e]; exact DGet.k (k := Sum.inr i) h, q⟩
def kDIn (y x : V) (Q : VK) : Hp → Prop := fun H2 => ∃ a o, x = .ref a ∧ DGet H2 a y o ∧ Q (.bl o.isSome) H2
theorem w_din {ty td : TE} (q : ty σ H fun y H1 => td σ H1 fun x H2 => kDIn y x Q H2) : tDIn ty td σ H Q := q
theorem w_kDInI {a : Addr} {kvs : List (Key × V)} {i : Int} (h : H a = some (.dK kvs)) (q : Q (.bl (valV kvs (Sum.inl i)).isSome) H) : kDIn (.int i) (.ref a) Q H := ⟨a, _, rfl, DGet.k (k := Sum.inl i) h, q⟩
theorem w_kDInS {a : Addr} {kvs : List (Key × V)} {i : Str} (h : H a = some (.dK kvs)) (q : Q (.bl (valV kvs (Sum.inr i)).isSome) H) : kDIn (.str i) (.ref a) Q H := ⟨a, _, rfl, DGet.k (k := Sum.inr i) h, q⟩
def kDNotIn (y x : V) (Q : VK) : Hp → Prop := fun H2 => ∃ a o, x = .ref a ∧ DGet H2 a y o ∧ Q (.bl (!o.isSome)) H2
theorem w_dnotin {ty td : TE} (q : ty σ H fun y H1 => td σ H1 fun x H2 => kDNotIn y x Q H2) : tDNotIn ty td σ H Q := q
theorem w_kDNotInI {a : Addr} {kvs : List (Key × V)} {i : Int} (h : H a = some (.dK kvs)) (q : Q (.bl (!(valV kvs (Sum.inl i)).isSome)) H) : kDNotIn (.int i) (.ref a) Q H := ⟨a, _, rfl, DGet.k (k := Sum.inl i) h, q⟩
theorem w_kDNotInS {a : Addr} {kvs : List (Key × V)} {i : Str} (h : H a = some (.dK kvs)) (q : Q (.bl (!(valV kvs (Sum.inr i)).isSome)) H) : kDNotIn (.str i) (.ref a) Q H := ⟨a, _, rfl, DGet.k (k := Sum.inr i) h, q⟩
def kDGet1 (ty : TE) (σ : L2.St) (Q : VK) : VK := fun x H1 => ∃ a, x = .ref a ∧ IsD H1 a ∧ ty σ H1 fun y H2 => ∃ o, DGet H2 a y o ∧ Q (o.getD .non) H2
def kDGet1b (a : Addr) (Q : VK) : VK := fun y H2 => ∃ o, DGet H2 a y o ∧ Q (o.getD .non) H2
theorem w_dget1 {td ty : TE} (q : td σ H (kDGet1 ty σ Q)) : tDGet1 td ty σ H Q := q
theorem w_kDGet1 {a : Addr} {kvs : List (Key × V)} {ty : TE} (h : H a = some (.dK kvs)) (q : ty σ H (kDGet1b a Q)) : kDGet1 ty σ Q (.ref a) H := ⟨a, rfl, .inl ⟨kvs, .of h⟩, q⟩
theorem w_kDGet1I {a : Addr} {kvs : List (Key × V)} {i : Int} (h : H a = some (.dK kvs)) (q : Q ((valV kvs (Sum.inl i)).getD .non) H) : kDGet1b a Q (.int i) H := ⟨_, DGet.k (k := Sum.inl i) h, q⟩
theorem w_kDGet1S {a : Addr} {kvs : List (Key × V)} {i : Str} (h : H a = some (.dK kvs)) (q : Q ((valV kvs (Sum.inr i)).getD .non) H) : kDGet1b a Q (.str i) H := ⟨_, DGet.k (k := Sum.inr i) h, q⟩
theorem w_dnewK (k : ∀ p H1, H1 p = some (.dK []) → Nw p H H1 → Q (.ref p) H1) : tDNewK σ H Q := fun _ n => k _ _ upd_same (.mk' n)
def kDPut (n : L2.St → Hp → Prop) (σ : L2.St) (x y v : V) : Hp → Prop := fun H3 => ∃ a H4, x = .ref a ∧ DPut H3 a y v H4 ∧ n σ H4
theorem w_sdput {td ty tv : TE} {n : L2.St → Hp → Prop} {rt : VK} {bk ct : L2.St → Hp → Prop} (q : tv σ H fun v H1 => td σ H1 fun x H2 => ty σ H2 fun y H3 => kDPut n σ x y v H3) : sDPut td ty tv ⟨n, rt, bk, ct⟩ σ H := q
theorem w_kDPutI {a : Addr} {kvs : List (Key × V)} {i : Int} {v : V} {n : L2.St → Hp → Prop} (h : H a = some (.dK kvs)) (hl : kvs.length < sizeLine) (k : ∀ H1, H1 a = some (.dK (putK kvs (Sum.inl i) v)) → Of a H H1 → n σ H1) : kDPut n σ (.ref a) (.int i) v H := ⟨a, _, rfl, DPut.k (k := Sum.inl i) h hl, k _ upd_same .mk'⟩
theorem w_kDPutS {a : Addr} {kvs : List (Key × V)} {i : Str} {v : V} {n : L2.St → Hp → Prop} (h : H a = some (.dK kvs)) (hl : kvs.length < sizeLine) (k : ∀ H1, H1 a = some (.dK (putK kvs (Sum.inr i) v)) → Of a H H1 → n σ H1) : kDPut n σ (.ref a) (.str i) v H := ⟨a, _, rfl, DPut.k (k := Sum.inr i) h hl, k _ upd_same .mk'⟩
/-! a dict made by a comprehension -/
def kDc (g : TG) (tt : TT) (tk tv : TE) (vs : List Nat) (σ : L2.St) (Q : VK) : It → Hp → Prop := fun J H1 => ∀ D, H1 D = none → ∃ W : Nat → Nat → Hp → Prop, (∃ m, W 0 m (upd H1 D (.dK []))) ∧ ∀ i m H, W i m H →
  (J.stop i H ∧ Q (.ref D) H) ∨ (J.go i H ∧ ∃ Nx : Hp → Prop, (∀ H', Nx H' → ∃ m', m' < m ∧ W (i + 1) m' H') ∧ ∀ x H', J.yld i H x H' → g x (wipe σ vs) H' fun σ2 H2 => wipe σ2 vs = wipe σ vs ∧ tt σ2 H2 fun b H3 =>
    if b = true then tk σ2 H3 fun y H4 => tv σ2 H4 fun z H5 => ∃ kvs k, y = kV k ∧ H5 D = some (.dK kvs) ∧ kvs.length < sizeLine ∧ Nx (upd H5 D (.dK (putK kvs k z))) else Nx H3)
theorem w_dc {wi : TI} {g : TG} {tt : TT} {tk tv : TE} {vs : List Nat} (q : wi σ H (kDc g tt tk tv vs σ Q)) : tDc wi g tt tk tv vs σ H Q := q
def kItD (D : Addr) (N : Hp → Prop) (y z : V) : Hp → Prop := fun H5 => ∃ kvs k, y = kV k ∧ H5 D = some (.dK kvs) ∧ kvs.length < sizeLine ∧ N (upd H5 D (.dK (putK kvs k z)))
theorem w_kItDS {p : Addr} {N : Hp → Prop} {kvs : List (Key × V)} {y : Str} {z : V} (h : H p = some (.dK kvs)) (hl : kvs.length < sizeLine) (k : ∀ H5, H5 p = some (.dK (putK kvs (Sum.inr y) z)) → Of p H H5 → N H5) : kItD p N (.str y) z H := ⟨kvs, Sum.inr y, rfl, h, hl, k _ upd_same .mk'⟩
theorem w_kItDI {p : Addr} {N : Hp → Prop} {kvs : List (Key × V)} {y : Int} {z : V} (h : H p = some (.dK kvs)) (hl : kvs.length < sizeLine) (k : ∀ H5, H5 p = some (.dK (putK kvs (Sum.inl y) z)) → Of p H H5 → N H5) : kItD p N (.int y) z H := ⟨kvs, Sum.inl y, rfl, h, hl, k _ upd_same .mk'⟩
def kTstD (tk tv : TE) (σ : L2.St) (D : Addr) (N : Hp → Prop) : Bool → Hp → Prop := fun b H3 => if b = true then tk σ H3 fun y H4 => tv σ H4 fun z H5 => kItD D N y z H5 else N H3
theorem w_tstDT {tk tv : TE} {p : Addr} {N : Hp → Prop} (q : tk σ H fun y H4 => tv σ H4 fun z H5 => kItD p N y z H5) : kTstD tk tv σ p N true H := iteT q
theorem w_tstDB {b : Bool} {tk tv : TE} {p : Addr} {N : Hp → Prop} (h1 : b = true → tk σ H fun y H4 => tv σ H4 fun z H5 => kItD p N y z H5) (h2 : b = false → N H) : kTstD tk tv σ p N b H := by
  cases b with
  | true => exact iteT (h1 rfl)
  | false => exact iteF (h2 rfl)
def kEachD (tt : TT) (tk tv : TE) (vs : List Nat) (σ : L2.St) (D : Addr) (N : Hp → Prop) : L2.St → Hp → Prop := fun σ2 H2 => wipe σ2 vs = wipe σ vs ∧ tt σ2 H2 (kTstD tk tv σ2 D N)
theorem w_eachD {tt : TT} {tk tv : TE} {vs : List Nat} {σ σ2 : L2.St} {p : Addr} {N : Hp → Prop} (e : wipe σ2 vs = wipe σ vs) (q : tt σ2 H (kTstD tk tv σ2 p N)) : kEachD tt tk tv vs σ p N σ2 H := ⟨e, q⟩
theorem w_dcG {J : It} {n : Nat} {g : TG} {tt : TT} {tk tv : TE} {vs : List Nat} (Pv : Addr → Nat → Hp → Prop) (h0 : ∀ p H1, H1 p = some (.dK []) → Nw p H H1 → Pv p 0 H1)
    (hgo : ∀ p i H, i < n → Pv p i H → J.go i H) (hst : ∀ p H, Pv p n H → J.stop n H)
    (hs : ∀ p i x H H', i < n → Pv p i H → J.yld i H x H' → g x (wipe σ vs) H' (kEachD tt tk tv vs σ p (Pv p (i + 1)))) (hd : ∀ p H, Pv p n H → Q (.ref p) H) : kDc g tt tk tv vs σ Q J H := fun p np => by
  refine ⟨fun i m H => m = n - i ∧ i ≤ n ∧ Pv p i H, ⟨n, rfl, Nat.zero_le _, h0 p _ upd_same (.mk' np)⟩, ?_⟩
  rintro i m H ⟨rfl, hi, h⟩
  by_cases hlt : i < n
  · exact .inr ⟨hgo p i H hlt h, Pv p (i + 1), fun H' p' => ⟨n - (i + 1), by omega, rfl, hlt, p'⟩, fun x H' y => hs p i x H H' hlt h y⟩
  · have e : i = n := by omega
    subst e
    exact .inl ⟨hst p H h, hd p H h⟩
theorem w_dcS {x : Str} {g : TG} {tt : TT} {tk tv : TE} {vs : List Nat} (Pv : Addr → Nat → Hp → Prop) (h0 : ∀ p H1, H1 p = some (.dK []) → Nw p H H1 → Pv p 0 H1)
    (hs : ∀ p i c H, (tl x)[i]? = some c → Pv p i H → g (.str (one c)) (wipe σ vs) H (kEachD tt tk tv vs σ p (Pv p (i + 1)))) (hd : ∀ p H, Pv p (tl x).length H → Q (.ref p) H) : kDc g tt tk tv vs σ Q (Its x) H := by
  have hz : x.cps.size = (tl x).length := len_tl x
  refine w_dcG (n := x.cps.size) Pv h0 (fun p i H hi h => hi) (fun p H h => Nat.le_refl _) ?_ (fun p H h => hd p H (by rw [← hz]; exact h))
  rintro p i v H H' hi h ⟨rfl, c, hc, rfl⟩
  exact hs p i c H' (getElem?_of_cps hc) h
/-! list(range(n)) -/
def kRg1 (Q : Int → Int → Hp → Prop) : VK := fun x H1 => ∃ n, x = .int n ∧ Q 0 n H1
theorem w_rg1 {ta : TE} {Q : Int → Int → Hp → Prop} (q : ta σ H (kRg1 Q)) : tRg1 ta σ H Q := q
theorem w_kRg1 {n : Int} {Q : Int → Int → Hp → Prop} (q : Q 0 n H) : kRg1 Q (.int n) H := ⟨n, rfl, q⟩
def kRgL (Q : VK) (a b : Int) : Hp → Prop := fun H1 => RgOk a b ∧ ∀ q, H1 q = none → Q (.ref q) (upd H1 q (.lst (rgV a b)))
theorem w_lstRg {te : L2.St → Hp → (Int → Int → Hp → Prop) → Prop} (q : te σ H fun a b H1 => kRgL Q a b H1) : tLstRg te σ H Q := q
theorem w_kRgL {a b : Int} (h : RgOk a b) (k : ∀ p H1, H1 p = some (.lst (rgV a b)) → Nw p H H1 → Q (.ref p) H1) : kRgL Q a b H := ⟨h, fun _ n => k _ _ upd_same (.mk' n)⟩
/-! statements -/
theorem w_seq {t u : TS} {n : L2.St → Hp → Prop} {rt : VK} {bk ct : L2.St → Hp → Prop} (q : t ⟨u ⟨n, rt, bk, ct⟩, rt, bk, ct⟩ σ H) : tSeq t u ⟨n, rt, bk, ct⟩ σ H := q
/-- a statement, and what holds behind it -/
theorem w_seqJ {t u : TS} {n : L2.St → Hp → Prop} {rt : VK} {bk ct : L2.St → Hp → Prop} (J : L2.St → Hp → Prop) (q : ∀ N : L2.St → Hp → Prop, (∀ σ' H', J σ' H' → N σ' H') → t ⟨N, rt, bk, ct⟩ σ H) (hr : ∀ σ' H', J σ' H' → u ⟨n, rt, bk, ct⟩ σ' H') : tSeq t u ⟨n, rt, bk, ct⟩ σ H := q _ hr
theorem w_next {n : L2.St → Hp → Prop} {rt : VK} {bk ct : L2.St → Hp → Prop} (q : n σ H) : tNext ⟨n, rt, bk, ct⟩ σ H := q
theorem w_break {n : L2.St → Hp → Prop} {rt : VK} {bk ct : L2.St → Hp → Prop} (q : bk σ H) : tBreak ⟨n, rt, bk, ct⟩ σ H := q
theorem w_cont {n : L2.St → Hp → Prop} {rt : VK} {bk ct : L2.St → Hp → Prop} (q : ct σ H) : tCont ⟨n, rt, bk, ct⟩ σ H := q
theorem w_drop {te : TE} {n : L2.St → Hp → Prop} {rt : VK} {bk ct : L2.St → Hp → Prop} (q : te σ H fun _ H1 => n σ H1) : tDrop te ⟨n, rt, bk, ct⟩ σ H := q
theorem w_ret {te : TE} {n : L2.St → Hp → Prop} {rt : VK} {bk ct : L2.St → Hp → Prop} (q : te σ H rt) : tRet te ⟨n, rt, bk, ct⟩ σ H := q
theorem w_retN {n : L2.St → Hp → Prop} {rt : VK} {bk ct : L2.St → Hp → Prop} (q : rt .non H) : tRetN ⟨n, rt, bk, ct⟩ σ H := q
def kIf (t u : TS) (D : Ends) (σ : L2.St) : Bool → Hp → Prop := fun b H1 => if b = true then t D σ H1 else u D σ H1
theorem w_if {c : TT} {t u : TS} (q : c σ H (kIf t u D σ)) : tIfS c t u D σ H := q
theorem w_ifT {t u : TS} (q : t D σ H) : kIf t u D σ true H := iteT q
theorem w_ifF {t u : TS} (q : u D σ H) : kIf t u D σ false H := iteF q
theorem w_if2 {p : Prop} [Decidable p] {t u : TS} (h1 : p → t D σ H) (h2 : ¬ p → u D σ H) : kIf t u D σ (decide p) H :=
  ite2 (fun e => h1 (of_decide_eq_true e)) fun e => h2 fun z => e (decide_eq_true z)
theorem w_ifN2 {p : Prop} [Decidable p] {t u : TS} (h1 : ¬ p → t D σ H) (h2 : p → u D σ H) : kIf t u D σ (!decide p) H := by
  by_cases h : p
  · rw [decide_eq_true h]; exact iteF (h2 h)
  · rw [decide_eq_false h]; exact iteT (h1 h)
theorem w_ifB {b : Bool} {t u : TS} (h1 : b = true → t D σ H) (h2 : b = false → u D σ H) : kIf t u D σ b H := by
  cases b with
  | true => exact iteT (h1 rfl)
  | false => exact iteF (h2 rfl)
theorem w_asg {te : TE} {g : TG} {n : L2.St → Hp → Prop} {rt : VK} {bk ct : L2.St → Hp → Prop} (q : te σ H fun x H1 => g x σ H1 n) : tAsg te g ⟨n, rt, bk, ct⟩ σ H := q
theorem w_gn {i : Nat} {v : V} {Q : L2.St → Hp → Prop} (q : Q (σ.set i (some v)) H) : gName i v σ H Q := q
def kPar (i j : Nat) (σ : L2.St) (n : L2.St → Hp → Prop) : List V → Hp → Prop := fun vs H1 => ∃ v w, vs = [v, w] ∧ n ((σ.set i (some v)).set j (some w)) H1
theorem w_par {i j : Nat} {ta : TA} {n : L2.St → Hp → Prop} {rt : VK} {bk ct : L2.St → Hp → Prop} (q : ta σ H (kPar i j σ n)) : tPar i j ta ⟨n, rt, bk, ct⟩ σ H := q
theorem w_kPar {i j : Nat} {v w : V} {n : L2.St → Hp → Prop} (q : n ((σ.set i (some v)).set j (some w)) H) : kPar i j σ n [v, w] H := ⟨v, w, rfl, q⟩
theorem w_gtup {a : Addr} {xs : List V} {n : Nat} {t : TGs} {Q : L2.St → Hp → Prop} (h : H a = some (.tup xs)) (hl : xs.length = n) (q : t xs σ H Q) : gTup K n t (.ref a) σ H Q := ⟨a, xs, rfl, SqT.of h, hl, q⟩
theorem w_gcons {t : TG} {u : TGs} {v : V} {r : List V} {Q : L2.St → Hp → Prop} (q : t v σ H fun σ' H' => u r σ' H' Q) : gCons t u (v :: r) σ H Q := ⟨v, r, rfl, q⟩
theorem w_gnil {Q : L2.St → Hp → Prop} (q : Q σ H) : gNil [] σ H Q := ⟨rfl, q⟩
theorem w_gsub {to ti : TE} {t : TSet} {v : V} {Q : L2.St → Hp → Prop} (q : to σ H fun o H1 => ti σ H1 fun i H2 => t o i v H2 fun H3 => Q σ H3) : gSub to ti t v σ H Q := q
theorem w_setL {p : Addr} {xs : List V} {k : Int} {j : Nat} {v : V} {Q : Hp → Prop} (h : H p = some (.lst xs)) (e : ixN xs.length k = some j) (q : ∀ H1, H1 p = some (.lst (xs.set j v)) → Of p H H1 → Q H1) : rSetL (.ref p) (.int k) v H Q := ⟨p, xs, k, j, rfl, rfl, h, e, q _ upd_same .mk'⟩
def kSFld (K : PySem.W.Frag) (f : Str) (y : V) (n : L2.St → Hp → Prop) (σ : L2.St) : VK := fun x H2 => ∃ a C dx fs, x = .ref a ∧ H2 a = some (.ins C dx fs) ∧ Cls K C ∧ NoAttr K C f ∧ fs.length < 1000 ∧ n σ (upd H2 a (.ins C dx (putF f y fs)))
theorem w_sfld {ta tv : TE} {f : Str} {n : L2.St → Hp → Prop} {rt : VK} {bk ct : L2.St → Hp → Prop} (q : tv σ H fun y H1 => ta σ H1 (kSFld K f y n σ)) : sFld K ta tv f ⟨n, rt, bk, ct⟩ σ H := q
theorem w_kSFld {a C dx : Addr} {fs : List (Str × V)} {f : Str} {y : V} {n : L2.St → Hp → Prop} (h : H a = some (.ins C dx fs)) (c : Cls K C) (na : NoAttr K C f) (hl : fs.length < 1000) (k : ∀ H1, H1 a = some (.ins C dx (putF f y fs)) → Of a H H1 → n σ H1) : kSFld K f y n σ (.ref a) H :=
  ⟨a, C, dx, fs, rfl, h, c, na, hl, k _ upd_same .mk'⟩
theorem w_aug {i : Nat} {x : V} {te : TE} {ti : TIp} {n : L2.St → Hp → Prop} {rt : VK} {bk ct : L2.St → Hp → Prop} (h : σ[i]? = some (some x)) (q : te σ H fun y H1 => ti x y H1 fun z H2 => n (σ.set i (some z)) H2) : tAug i te ti ⟨n, rt, bk, ct⟩ σ H := ⟨x, h, q⟩
theorem w_ipI {f : Int → Int → Int} {i j : Int} (q : Q (.int (f i j)) H) : ipI f (.int i) (.int j) H Q := ⟨i, j, rfl, rfl, q⟩
/-! loops -/
def kFor (g : TG) (tb : TS) (D : Ends) (σ : L2.St) : It → Hp → Prop := fun J H1 => ∃ W : Nat → Nat → L2.St → Hp → Prop, (∃ m, W 0 m σ H1) ∧ ∀ i m σ H, W i m σ H →
  (J.stop i H ∧ D.nx σ H) ∨ (J.go i H ∧ ∃ N : L2.St → Hp → Prop, (∀ σ' H', N σ' H' → ∃ m', m' < m ∧ W (i + 1) m' σ' H') ∧ ∀ x H', J.yld i H x H' → g x σ H' fun σ2 H2 => tb { D with nx := N, ct := N, bk := D.nx } σ2 H2)
theorem w_for {wi : TI} {g : TG} {tb : TS} (q : wi σ H (kFor g tb D σ)) : tFor wi g tb D σ H := q
def kRng1 (R : It → Hp → Prop) : List V → Hp → Prop := fun vs H1 => ∃ j : Int, vs = [.int j] ∧ -(2 ^ 62) ≤ j ∧ j < 2 ^ 62 ∧ R (Itr 0 j.toNat) H1
theorem w_rng1 {ta : TA} {R : It → Hp → Prop} (q : ta σ H (kRng1 R)) : iRng1 ta σ H R := q
theorem w_kRng1 {j : Int} {R : It → Hp → Prop} (h0 : -(2 ^ 62) ≤ j) (h1 : j < 2 ^ 62) (q : R (Itr 0 j.toNat) H) : kRng1 R [.int j] H := ⟨j, rfl, h0, h1, q⟩
def kList (K : PySem.W.Frag) (R : It → Hp → Prop) : VK := fun x H1 => ∃ a, x = .ref a ∧ (∃ xs, SqL K H1 a xs) ∧ R (Itl K a) H1
theorem w_ilist {tl : TE} {R : It → Hp → Prop} (q : tl σ H (kList K R)) : iList K tl σ H R := q
theorem w_kList {a : Addr} {xs : List V} {R : It → Hp → Prop} (h : H a = some (.lst xs)) (q : R (Itl K a) H) : kList K R (.ref a) H := ⟨a, rfl, ⟨xs, SqL.of h⟩, q⟩
def kTupI (K : PySem.W.Frag) (R : It → Hp → Prop) : VK := fun x H1 => ∃ a, x = .ref a ∧ (∃ xs, SqT K H1 a xs) ∧ R (Itt K a) H1
theorem w_itup {tl : TE} {R : It → Hp → Prop} (q : tl σ H (kTupI K R)) : iTup K tl σ H R := q
theorem w_kTupI {a : Addr} {xs : List V} {R : It → Hp → Prop} (h : H a = some (.tup xs)) (q : R (Itt K a) H) : kTupI K R (.ref a) H := ⟨a, rfl, ⟨xs, SqT.of h⟩, q⟩
def kStr (R : It → Hp → Prop) : VK := fun v H1 => ∃ x, v = .str x ∧ R (Its x) H1
theorem w_istr {te : TE} {R : It → Hp → Prop} (q : te σ H (kStr R)) : iStr te σ H R := q
theorem w_kStr {x : Str} {R : It → Hp → Prop} (q : R (Its x) H) : kStr R (.str x) H := ⟨x, rfl, q⟩
def kEnum (K : PySem.W.Frag) (R : It → Hp → Prop) : List V → Hp → Prop := fun vs H1 => ∃ a xs, vs = [.ref a] ∧ SqL K H1 a xs ∧ R (Ite K a) H1
theorem w_ienum {ta : TA} {R : It → Hp → Prop} (q : ta σ H (kEnum K R)) : iEnum K ta σ H R := q
theorem w_kEnum {a : Addr} {xs : List V} {R : It → Hp → Prop} (h : H a = some (.lst xs)) (q : R (Ite K a) H) : kEnum K R [.ref a] H := ⟨a, xs, rfl, SqL.of h, q⟩
/-- a loop: what holds ahead of turn i -/
theorem w_range {lo : Int} {n : Nat} {g : TG} {tb : TS} {nx : L2.St → Hp → Prop} {rt : VK} {bk ct : L2.St → Hp → Prop} (Pv : Nat → L2.St → Hp → Prop) (h0 : Pv 0 σ H)
    (hs : ∀ i σ H, i < n → Pv i σ H → g (.int (lo + i)) σ H fun σ2 H2 => tb ⟨Pv (i + 1), rt, nx, Pv (i + 1)⟩ σ2 H2) (hd : ∀ σ H, Pv n σ H → nx σ H) : kFor g tb ⟨nx, rt, bk, ct⟩ σ (Itr lo n) H :=
  for_range (lo := lo) (n := n) Pv h0 hs hd
theorem w_list {a : Addr} {xs : List V} {g : TG} {tb : TS} {nx : L2.St → Hp → Prop} {rt : VK} {bk ct : L2.St → Hp → Prop} (Pv : Nat → L2.St → Hp → Prop) (h0 : Pv 0 σ H) (hl : ∀ i σ H, i ≤ xs.length → Pv i σ H → H a = some (.lst xs))
    (hs : ∀ i x σ H, xs[i]? = some x → Pv i σ H → g x σ H fun σ2 H2 => tb ⟨Pv (i + 1), rt, nx, Pv (i + 1)⟩ σ2 H2) (hd : ∀ σ H, Pv xs.length σ H → nx σ H) : kFor g tb ⟨nx, rt, bk, ct⟩ σ (Itl K a) H :=
  for_list (K := K) (a := a) (xs := xs) Pv h0 (fun i σ H hi p => SqL.of (hl i σ H hi p)) hs hd
theorem w_tupF {a : Addr} {xs : List V} {g : TG} {tb : TS} {nx : L2.St → Hp → Prop} {rt : VK} {bk ct : L2.St → Hp → Prop} (Pv : Nat → L2.St → Hp → Prop) (h0 : Pv 0 σ H) (hl : ∀ i σ H, i ≤ xs.length → Pv i σ H → H a = some (.tup xs))
    (hs : ∀ i x σ H, xs[i]? = some x → Pv i σ H → g x σ H fun σ2 H2 => tb ⟨Pv (i + 1), rt, nx, Pv (i + 1)⟩ σ2 H2) (hd : ∀ σ H, Pv xs.length σ H → nx σ H) : kFor g tb ⟨nx, rt, bk, ct⟩ σ (Itt K a) H := by
  refine for_gen (n := xs.length) Pv h0 (fun i σ H hi p => ⟨xs, xs[i], SqT.of (hl i σ H (Nat.le_of_lt hi) p), List.getElem?_eq_getElem hi⟩) (fun σ H p => ⟨xs, SqT.of (hl _ σ H (Nat.le_refl _) p), Nat.le_refl _⟩) ?_ hd
  rintro i v σ H H' hi p ⟨rfl, hx⟩
  exact hs i v σ H' (hx xs (SqT.of (hl i σ H' (Nat.le_of_lt hi) p))) p
theorem w_str {x : Str} {g : TG} {tb : TS} {nx : L2.St → Hp → Prop} {rt : VK} {bk ct : L2.St → Hp → Prop} (Pv : Nat → L2.St → Hp → Prop) (h0 : Pv 0 σ H)
    (hs : ∀ i c σ H, (tl x)[i]? = some c → Pv i σ H → g (.str (one c)) σ H fun σ2 H2 => tb ⟨Pv (i + 1), rt, nx, Pv (i + 1)⟩ σ2 H2) (hd : ∀ σ H, Pv (tl x).length σ H → nx σ H) : kFor g tb ⟨nx, rt, bk, ct⟩ σ (Its x) H := by
  have hz : x.cps.size = (tl x).length := len_tl x
  refine for_gen (n := x.cps.size) Pv h0 (fun i σ H hi _ => hi) (fun σ H _ => Nat.le_refl _) ?_ (fun σ H p => hd σ H (by rw [← hz]; exact p))
  rintro i v σ H H' hi p ⟨rfl, c, hc, rfl⟩
  exact hs i c σ H' (getElem?_of_cps hc) p
theorem w_enum {a : Addr} {xs : List V} {g : TG} {tb : TS} {nx : L2.St → Hp → Prop} {rt : VK} {bk ct : L2.St → Hp → Prop} (Pv : Nat → L2.St → Hp → Prop) (h0 : Pv 0 σ H) (hl : ∀ i σ H, i ≤ xs.length → Pv i σ H → H a = some (.lst xs))
    (hs : ∀ i x t σ H H1, xs[i]? = some x → Pv i σ H → H1 t = some (.tup [.int (i : Nat), x]) → Nw t H H1 → g (.ref t) σ H1 fun σ2 H2 => tb ⟨Pv (i + 1), rt, nx, Pv (i + 1)⟩ σ2 H2) (hd : ∀ σ H, Pv xs.length σ H → nx σ H) : kFor g tb ⟨nx, rt, bk, ct⟩ σ (Ite K a) H := by
  refine for_gen (n := xs.length) Pv h0 (fun i σ H hi p => ⟨xs, xs[i], SqL.of (hl i σ H (Nat.le_of_lt hi) p), List.getElem?_eq_getElem hi⟩) (fun σ H p => ⟨xs, SqL.of (hl _ σ H (Nat.le_refl _) p), Nat.le_refl _⟩) ?_ hd
  rintro i v σ H H' hi p ⟨t, x, rfl, nt, rfl, hx⟩
  exact hs i x t σ H _ (hx xs (SqL.of (hl i σ H (Nat.le_of_lt hi) p))) p upd_same (.mk' nt)
/-! comprehensions -/
def kLc (g : TG) (tt : TT) (te : TE) (vs : List Nat) (σ : L2.St) (Q : VK) : It → Hp → Prop := fun J H1 => ∀ D, H1 D = none → ∃ W : Nat → Nat → Hp → Prop, (∃ m, W 0 m (upd H1 D (.lst []))) ∧ ∀ i m H, W i m H →
  (J.stop i H ∧ Q (.ref D) H) ∨ (J.go i H ∧ ∃ Nx : Hp → Prop, (∀ H', Nx H' → ∃ m', m' < m ∧ W (i + 1) m' H') ∧ ∀ x H', J.yld i H x H' → g x (wipe σ vs) H' fun σ2 H2 => wipe σ2 vs = wipe σ vs ∧ tt σ2 H2 fun b H3 =>
    if b = true then te σ2 H3 fun y H4 => ∃ acc, H4 D = some (.lst acc) ∧ acc.length < sizeLine ∧ Nx (upd H4 D (.lst (acc ++ [y]))) else Nx H3)
theorem w_lc {wi : TI} {g : TG} {tt : TT} {te : TE} {vs : List Nat} (q : wi σ H (kLc g tt te vs σ Q)) : tLc wi g tt te vs σ H Q := q
/-- what an item of the list does: the item, then the list -/
def kIt (D : Addr) (N : Hp → Prop) : VK := fun y H4 => ∃ acc, H4 D = some (.lst acc) ∧ acc.length < sizeLine ∧ N (upd H4 D (.lst (acc ++ [y])))
theorem w_kIt {p : Addr} {N : Hp → Prop} {acc : List V} {y : V} (h : H p = some (.lst acc)) (hl : acc.length < sizeLine) (k : ∀ H5, H5 p = some (.lst (acc ++ [y])) → Of p H H5 → N H5) : kIt p N y H := ⟨acc, h, hl, k _ upd_same .mk'⟩
def kTst (te : TE) (σ : L2.St) (D : Addr) (N : Hp → Prop) : Bool → Hp → Prop := fun b H3 => if b = true then te σ H3 (kIt D N) else N H3
theorem w_yes {Q : Bool → Hp → Prop} (q : Q true H) : tYes σ H Q := q
theorem w_tstT {te : TE} {p : Addr} {N : Hp → Prop} (q : te σ H (kIt p N)) : kTst te σ p N true H := iteT q
theorem w_tstF {te : TE} {p : Addr} {N : Hp → Prop} (q : N H) : kTst te σ p N false H := iteF q
theorem w_tst2 {c : Prop} [Decidable c] {te : TE} {p : Addr} {N : Hp → Prop} (h1 : c → te σ H (kIt p N)) (h2 : ¬ c → N H) : kTst te σ p N (decide c) H :=
  ite2 (fun e => h1 (of_decide_eq_true e)) fun e => h2 fun z => e (decide_eq_true z)
theorem w_tstB {b : Bool} {te : TE} {p : Addr} {N : Hp → Prop} (h1 : b = true → te σ H (kIt p N)) (h2 : b = false → N H) : kTst te σ p N b H := by
  cases b with
  | true => exact iteT (h1 rfl)
  | false => exact iteF (h2 rfl)
def kEach (tt : TT) (te : TE) (vs : List Nat) (σ : L2.St) (D : Addr) (N : Hp → Prop) : L2.St → Hp → Prop := fun σ2 H2 => wipe σ2 vs = wipe σ vs ∧ tt σ2 H2 (kTst te σ2 D N)
theorem w_each {tt : TT} {te : TE} {vs : List Nat} {σ σ2 : L2.St} {p : Addr} {N : Hp → Prop} (e : wipe σ2 vs = wipe σ vs) (q : tt σ2 H (kTst te σ2 p N)) : kEach tt te vs σ p N σ2 H := ⟨e, q⟩
/-- a comprehension by what holds ahead of item i; p: where the made list stands -/
theorem w_lcG {J : It} {n : Nat} {g : TG} {tt : TT} {te : TE} {vs : List Nat} (Pv : Addr → Nat → Hp → Prop) (h0 : ∀ p H1, H1 p = some (.lst []) → Nw p H H1 → Pv p 0 H1)
    (hgo : ∀ p i H, i < n → Pv p i H → J.go i H) (hst : ∀ p H, Pv p n H → J.stop n H)
    (hs : ∀ p i x H H', i < n → Pv p i H → J.yld i H x H' → g x (wipe σ vs) H' (kEach tt te vs σ p (Pv p (i + 1)))) (hd : ∀ p H, Pv p n H → Q (.ref p) H) : kLc g tt te vs σ Q J H := fun p np =>
  lc_gen (n := n) (Pv p) (h0 p _ upd_same (.mk' np)) (hgo p) (hst p) (hs p) (hd p)
theorem w_lcL {a : Addr} {xs : List V} {g : TG} {tt : TT} {te : TE} {vs : List Nat} (Pv : Addr → Nat → Hp → Prop) (h0 : ∀ p H1, H1 p = some (.lst []) → Nw p H H1 → Pv p 0 H1)
    (hl : ∀ p i H, i ≤ xs.length → Pv p i H → H a = some (.lst xs)) (hs : ∀ p i x H, xs[i]? = some x → Pv p i H → g x (wipe σ vs) H (kEach tt te vs σ p (Pv p (i + 1)))) (hd : ∀ p H, Pv p xs.length H → Q (.ref p) H) : kLc g tt te vs σ Q (Itl K a) H := by
  refine w_lcG (n := xs.length) Pv h0 (fun p i H hi h => ⟨xs, xs[i], SqL.of (hl p i H (Nat.le_of_lt hi) h), List.getElem?_eq_getElem hi⟩) (fun p H h => ⟨xs, SqL.of (hl p _ H (Nat.le_refl _) h), Nat.le_refl _⟩) ?_ hd
  rintro p i x H H' hi h ⟨rfl, hx⟩
  exact hs p i x H' (hx xs (SqL.of (hl p i H' (Nat.le_of_lt hi) h))) h
theorem w_lcR {lo : Int} {n : Nat} {g : TG} {tt : TT} {te : TE} {vs : List Nat} (Pv : Addr → Nat → Hp → Prop) (h0 : ∀ p H1, H1 p = some (.lst []) → Nw p H H1 → Pv p 0 H1)
    (hs : ∀ p i H, i < n → Pv p i H → g (.int (lo + i)) (wipe σ vs) H (kEach tt te vs σ p (Pv p (i + 1)))) (hd : ∀ p H, Pv p n H → Q (.ref p) H) : kLc g tt te vs σ Q (Itr lo n) H := by
  refine w_lcG (n := n) Pv h0 (fun p i H hi h => hi) (fun p H h => Nat.le_refl _) ?_ hd
  rintro p i x H H' hi h ⟨rfl, rfl⟩
  exact hs p i H' hi h
theorem w_lcS {x : Str} {g : TG} {tt : TT} {te : TE} {vs : List Nat} (Pv : Addr → Nat → Hp → Prop) (h0 : ∀ p H1, H1 p = some (.lst []) → Nw p H H1 → Pv p 0 H1)
    (hs : ∀ p i c H, (tl x)[i]? = some c → Pv p i H → g (.str (one c)) (wipe σ vs) H (kEach tt te vs σ p (Pv p (i + 1)))) (hd : ∀ p H, Pv p (tl x).length H → Q (.ref p) H) : kLc g tt te vs σ Q (Its x) H := by
  have hz : x.cps.size = (tl x).length := len_tl x
  refine w_lcG (n := x.cps.size) Pv h0 (fun p i H hi h => hi) (fun p H h => Nat.le_refl _) ?_ (fun p H h => hd p H (by rw [← hz]; exact h))
  rintro p i v H H' hi h ⟨rfl, c, hc, rfl⟩
  exact hs p i c H' (getElem?_of_cps hc) h
end
end Sf
namespace Sf
open PySem PySem.Spec PyProof.Rows L2 TL
/-! ### worlds: the mathematics -/
/-- a move: the code of its letter, from, to -/
abbrev Mv := Nat × Int × Int
def sgs : List Nat := [97, 65, 98, 66, 99, 67, 100, 68, 101, 69, 102, 70, 103, 71, 104, 72]
theorem sgs_iff {c : Nat} : c ∈ sgs ↔ sgn c = true := by
  rw [sgn_iff]
  unfold sgs
  simp only [List.mem_cons, List.not_mem_nil, or_false]
  omega
theorem sgs_nd : sgs.Nodup := by decide
def mvOn (c : Nat) (m : Mv) : Option (Int × Int) := if m.1 = c then some (m.2.1, m.2.2) else if m.1 = c + 32 then some (m.2.2, m.2.1) else none
def LM (ms : List Mv) (c : Nat) : List (Int × Int) := ms.filterMap (mvOn c)
def lk (l : List (Int × Int)) (x : Int) : Option Int := (l.find? fun p => decide (p.1 = x)).map (·.2)
def kvI (l : List (Int × Int)) : List (Key × V) := l.map fun p => (Sum.inl p.1, V.int p.2)
def oV : Option Int → V
  | none => .non
  | some i => .int i
theorem kvI_len (l : List (Int × Int)) : (kvI l).length = l.length := List.length_map ..
theorem val_kvI (x : Int) : ∀ l : List (Int × Int), valV (kvI l) (Sum.inl x) = (lk l x).map V.int
  | [] => rfl
  | (a, b) :: r => by
    unfold kvI lk
    rw [List.map_cons, List.find?_cons]
    by_cases h : a = x
    · rw [valV_pos (by show (Sum.inl a : Key) = Sum.inl x; rw [h]), decide_eq_true h]
      rfl
    · rw [valV_neg (fun e => h (Sum.inl.inj e)), decide_eq_false h]
      exact val_kvI x r
theorem getD_kvI (x : Int) (l : List (Int × Int)) : (valV (kvI l) (Sum.inl x)).getD .non = oV (lk l x) := by
  rw [val_kvI]
  cases lk l x <;> rfl
theorem lk_none {l : List (Int × Int)} {x : Int} (h : ∀ p ∈ l, p.1 ≠ x) : lk l x = none := by
  unfold lk
  rw [List.find?_eq_none.mpr fun p hp => by simp [h p hp]]
  rfl
theorem lk_mem {l : List (Int × Int)} {x y : Int} (h : lk l x = some y) : (x, y) ∈ l := by
  unfold lk at h
  rw [Option.map_eq_some_iff] at h
  obtain ⟨p, hp, rfl⟩ := h
  have h1 := List.find?_some hp
  have h2 := List.mem_of_find?_eq_some hp
  rw [decide_eq_true_eq] at h1
  rw [← h1]
  exact h2
theorem lk_of {l : List (Int × Int)} {x y : Int} (hu : ∀ p ∈ l, ∀ q ∈ l, p.1 = q.1 → p = q) (h : (x, y) ∈ l) : lk l x = some y := by
  cases e : lk l x with
  | none =>
    unfold lk at e
    rw [Option.map_eq_none_iff, List.find?_eq_none] at e
    exact absurd (decide_eq_true rfl) (e _ h)
  | some z =>
    have := hu _ (lk_mem e) _ h rfl
    exact congrArg some (congrArg Prod.snd this)
structure WOk (n : Int) (ms : List Mv) : Prop where
  rg : ∀ m ∈ ms, 97 ≤ m.1 ∧ m.1 ≤ 104 ∧ 0 ≤ m.2.1 ∧ m.2.1 < n ∧ 0 ≤ m.2.2 ∧ m.2.2 < n
  pw : ms.Pairwise fun m k => m.1 = k.1 → m.2.1 ≠ k.2.1 ∧ m.2.2 ≠ k.2.2
theorem WOk.pre {n : Int} {ms : List Mv} {m : Mv} (h : WOk n (ms ++ [m])) : WOk n ms ∧ ∀ k ∈ ms, k.1 = m.1 → k.2.1 ≠ m.2.1 ∧ k.2.2 ≠ m.2.2 :=
  ⟨⟨fun k hk => h.rg k (List.mem_append_left _ hk), (List.pairwise_append.mp h.pw).1⟩, fun k hk => (List.pairwise_append.mp h.pw).2.2 k hk m (List.mem_singleton.mpr rfl)⟩
theorem WOk.take {n : Int} {ms : List Mv} (h : WOk n ms) (i : Nat) : WOk n (ms.take i) := ⟨fun m hm => h.rg m (List.mem_of_mem_take hm), h.pw.sublist (List.take_sublist i ms)⟩
theorem take_snoc {α : Type} {l : List α} {i : Nat} {x : α} (h : l[i]? = some x) : l.take (i + 1) = l.take i ++ [x] := by
  rw [List.take_add_one, h]
  rfl
theorem LM_snoc (ms : List Mv) (m : Mv) (c : Nat) : LM (ms ++ [m]) c = LM ms c ++ (mvOn c m).toList := by
  unfold LM
  rw [List.filterMap_append, List.filterMap_cons]
  cases mvOn c m <;> rfl
theorem LM_mem {ms : List Mv} {c : Nat} {p : Int × Int} : p ∈ LM ms c ↔ ∃ m ∈ ms, (m.1 = c ∧ m.2.1 = p.1 ∧ m.2.2 = p.2) ∨ (m.1 ≠ c ∧ m.1 = c + 32 ∧ m.2.2 = p.1 ∧ m.2.1 = p.2) := by
  unfold LM
  rw [List.mem_filterMap]
  constructor
  · rintro ⟨m, hm, e⟩
    refine ⟨m, hm, ?_⟩
    unfold mvOn at e
    split at e
    · rename_i h
      cases e
      exact .inl ⟨h, rfl, rfl⟩
    · rename_i h
      split at e
      · rename_i h2
        cases e
        exact .inr ⟨h, h2, rfl, rfl⟩
      · cases e
  · rintro ⟨m, hm, e⟩
    refine ⟨m, hm, ?_⟩
    unfold mvOn
    rcases e with ⟨h1, h2, h3⟩ | ⟨h0, h1, h2, h3⟩
    · rw [if_pos h1, h2, h3]
    · rw [if_neg h0, if_pos h1, h2, h3]
/-- the step at a new move: its start is free, its end too -/
theorem new_start {n : Int} {ms : List Mv} {m : Mv} (h : WOk n (ms ++ [m])) : lk (LM ms m.1) m.2.1 = none := lk_none fun p hp => by
  obtain ⟨k, hk, e⟩ := LM_mem.mp hp
  have hr := h.rg k (List.mem_append_left _ hk)
  have hm := h.rg m (List.mem_append_right _ (List.mem_singleton.mpr rfl))
  rcases e with ⟨h1, h2, _⟩ | ⟨_, h1, _⟩
  · rw [← h2]
    exact (h.pre.2 k hk h1).1
  · omega
theorem new_end {n : Int} {ms : List Mv} {m : Mv} (h : WOk n (ms ++ [m])) : lk (LM ms (m.1 - 32)) m.2.2 = none := lk_none fun p hp => by
  obtain ⟨k, hk, e⟩ := LM_mem.mp hp
  have hr := h.rg k (List.mem_append_left _ hk)
  have hm := h.rg m (List.mem_append_right _ (List.mem_singleton.mpr rfl))
  rcases e with ⟨h1, h2, _⟩ | ⟨_, h1, h2, _⟩
  · omega
  · rw [← h2]
    exact (h.pre.2 k hk (by omega)).2
theorem mvOn_self (m : Mv) : mvOn m.1 m = some (m.2.1, m.2.2) := by
  unfold mvOn
  rw [if_pos rfl]
theorem mvOn_great {m : Mv} (h : 97 ≤ m.1) : mvOn (m.1 - 32) m = some (m.2.2, m.2.1) := by
  unfold mvOn
  rw [if_neg (by omega), if_pos (by omega)]
theorem mvOn_other {m : Mv} {c : Nat} (h1 : c ≠ m.1) (h2 : c ≠ m.1 - 32) (h : 97 ≤ m.1) : mvOn c m = none := by
  unfold mvOn
  rw [if_neg (Ne.symm h1), if_neg (by omega)]
theorem LM_len (ms : List Mv) (c : Nat) : (LM ms c).length ≤ ms.length := List.length_filterMap_le ..
/-- where a word leads -/
def ledM (st : Nat → Int → Option Int) : List Nat → Int → Option Int
  | [], x => some x
  | c :: r, x => (st c x).bind (ledM st r)
theorem ledM_app (st : Nat → Int → Option Int) : ∀ (l r : List Nat) (x : Int), ledM st (l ++ r) x = (ledM st l x).bind (ledM st r)
  | [], r, x => rfl
  | c :: l, r, x => by
    show (st c x).bind (ledM st (l ++ r)) = ((st c x).bind (ledM st l)).bind (ledM st r)
    cases st c x with
    | none => rfl
    | some y => exact ledM_app st l r y
theorem ledM_snoc {st : Nat → Int → Option Int} {l : List Nat} {i c : Nat} {x : Int} (h : l[i]? = some c) : ledM st (l.take (i + 1)) x = (ledM st (l.take i) x).bind (st c) := by
  rw [take_snoc h, ledM_app]
  cases ledM st (l.take i) x with
  | none => rfl
  | some y =>
    show (st c y).bind (fun z => some z) = st c y
    cases st c y <;> rfl
theorem ledM_none {st : Nat → Int → Option Int} {l : List Nat} {i : Nat} {x : Int} (h : ledM st (l.take i) x = none) : ledM st l x = none := by
  have e := ledM_app st (l.take i) (l.drop i) x
  rw [List.take_append_drop, h] at e
  exact e
theorem one_inj {a b : Nat} (h : one a = one b) : a = b := by
  have h2 : tl (one a) = tl (one b) := by rw [h]
  exact (List.cons.inj h2).1
def stp (L : Nat → List (Int × Int)) (c : Nat) (x : Int) : Option Int := lk (L c) x
theorem val_sgs {f : Nat → V} {c : Nat} : ∀ {l : List Nat}, c ∈ l → valV (l.map fun c => ((Sum.inr (one c) : Key), f c)) (Sum.inr (one c)) = some (f c)
  | a :: r, h => by
    rw [List.map_cons]
    by_cases e : a = c
    · subst e
      exact valV_pos rfl
    · rw [valV_neg fun z => e (by
        have := Sum.inr.inj z
        have h2 : tl (one a) = tl (one c) := by rw [this]
        exact List.cons.inj h2 |>.1)]
      exact val_sgs ((List.mem_cons.mp h).resolve_left fun z => e z.symm)
theorem val_sgs_none {f : Nat → V} {c : Nat} : ∀ {l : List Nat}, c ∉ l → valV (l.map fun c => ((Sum.inr (one c) : Key), f c)) (Sum.inr (one c)) = none
  | [], _ => rfl
  | a :: r, h => by
    rw [List.map_cons, valV_neg fun z => h (by
        have := Sum.inr.inj z
        have h2 : tl (one a) = tl (one c) := by rw [this]
        rw [(List.cons.inj h2).1]
        exact List.mem_cons_self)]
    exact val_sgs_none fun z => h (List.mem_cons_of_mem _ z)
end Sf
namespace Sf
open PySem PySem.Spec PyProof.Rows L2 TL
/-! ### data: lists, tuples compared -/
section
variable {K : PySem.W.Frag} {H : Hp}
theorem lay_all {α : Type} {f : α → PyData} : ∀ {l : List α}, (∀ x ∈ l, PyData.canLay0 (f x) = true) → PyData.canLayAll0 (l.map f) = true
  | [], _ => rfl
  | x :: l, h => by
    rw [List.map_cons, PyData.canLayAll0, h x List.mem_cons_self, lay_all fun y hy => h y (List.mem_cons_of_mem _ hy)]
    rfl
theorem depth_all {α : Type} {f : α → PyData} {k : Nat} : ∀ {l : List α}, (∀ x ∈ l, (f x).depth ≤ k) → PyData.depthAll (l.map f) ≤ k
  | [], _ => Nat.zero_le _
  | x :: l, h => by
    rw [List.map_cons, PyData.depthAll]
    exact Nat.max_le.mpr ⟨h x List.mem_cons_self, depth_all fun y hy => h y (List.mem_cons_of_mem _ hy)⟩
theorem dp_map {α : Type} {f : α → PyData} {vs : List V} {l : List α} (h : Paired (fun v x => Dp K H v (f x)) vs l) : DpAll K H vs (l.map f) := by
  induction h with
  | nil => exact .nil
  | cons r _ ih => exact .cons r ih
theorem shaped_list {α : Type} {f : α → PyData} {l : List α} (h1 : ∀ x ∈ l, PyData.canLay0 (f x) = true) (h2 : ∀ x ∈ l, (f x).depth ≤ 60) : SeqAt.shaped (.list (l.map f)) = true := by
  unfold SeqAt.shaped
  rw [PyData.canLay0, lay_all h1, Bool.true_and, PyData.depth]
  have := depth_all h2
  exact decide_eq_true (by omega)
theorem strOk_wd {x : Str} (h : Wd x) : PyData.canLay0 (.str x) = true := by
  rw [PyData.canLay0]
  unfold PyData.strOk
  rw [Array.all_eq_true']
  intro c hc
  have := sgn_lt (h c (Array.mem_def.mp hc))
  exact decide_eq_true (by omega)
theorem eqv_nil {ds : List PyData} : PyData.eqv (.list ds) (.list []) = ds.isEmpty := by
  cases ds <;> simp [PyData.eqv, PyData.eqvAll]
/-- l != [] -/
theorem w_neNil {Q : VK} {p q : Addr} {ds : List PyData} {vs : List V} (h : H p = some (.lst vs)) (hd : DpAll K H vs ds) (hs : SeqAt.shaped (.list ds) = true) (hq : H q = some (.lst [])) (k : Q (.bl (!ds.isEmpty)) H) : rNeD K (.ref p) (.ref q) H Q :=
  ⟨_, _, .lst (SqL.of h) hd, .lst (SqL.of hq) .nil, hs, by decide +kernel, by rw [eqv_nil]; exact k⟩
theorem dpI : ∀ l : List Int, DpAll K H (l.map V.int) (l.map .int)
  | [] => .nil
  | _ :: l => .cons (.int _) (dpI l)
theorem shapedI (l : List Int) : SeqAt.shaped (.list (l.map .int)) = true := shaped_list (fun x _ => by rw [PyData.canLay0]) (fun x _ => by rw [PyData.depth]; omega)
theorem w_neNilI {Q : VK} {p q : Addr} {ns : List Int} (h : H p = some (.lst (ns.map V.int))) (hq : H q = some (.lst [])) (k : Q (.bl (!ns.isEmpty)) H) : rNeD K (.ref p) (.ref q) H Q :=
  w_neNil h (dpI ns) (shapedI ns) hq (by rw [List.isEmpty_map]; exact k)
/-- two lists of the same data -/
theorem w_neSame {Q : VK} {x y : V} {d : PyData} (h1 : Dp K H x d) (h2 : Dp K H y d) (hs : SeqAt.shaped d = true) (k : Q (.bl false) H) : rNeD K x y H Q :=
  ⟨d, d, h1, h2, hs, hs, by rw [SeqAt.eqv_refl d (SeqAt.canLay_of_shaped hs)]; exact k⟩
theorem w_eqSame {Q : VK} {x y : V} {d : PyData} (h1 : Dp K H x d) (h2 : Dp K H y d) (hs : SeqAt.shaped d = true) (k : Q (.bl true) H) : rEqD K x y H Q :=
  ⟨d, d, h1, h2, hs, hs, by rw [SeqAt.eqv_refl d (SeqAt.canLay_of_shaped hs)]; exact k⟩
end
end Sf
namespace Sf
open PySem PySem.Spec PyProof.Rows L2 TL
theorem passes_len {X : Cx} {W : WX} (n : Nat) (hn : X.N.length = n) (tk : Takes X W) : Passes (L2.CX X.prog X.w) X (fun cls d H => ∀ σ : L2.St, σ.length = n → W cls d σ H) := fun _ σ _ _ e s' I c => tk e s' (XE.of_call I (fun _ _ _ h => h σ (I.len.trans hn)) c)
section
variable {X : Cx} {CX : CXT} {k : Nat} {f C : Addr} {fd : FuncData} {ps : List Str} {sp : Sp} {E : XK} {x m : Str} {p pos apos : Pos} {e o : Expr} {es : List Expr} {te ta : TE} {t : TA} {mc : Value}
/-! ### C(), C an own exception whose __init__ is walked -/
theorem pmk_oex0 {fI : Addr} (T : OexC X.K C) (iC : PySem.W.findIn X.K (.ref C) "__init__" = some (some (.ref fI))) (tI : PySem.W.typeIn X.K (.ref fI) = some (.type "function"))
    (F1 : FnOk X.prog X.w X.K X.mg X.base CX k fI fd ps sp) (hr : Room (k + 1) X.A) (hb : Binds X.K fd ps []) (hx : Passes CX X (fun _ _ _ => False)) (hg : Gl X x) (hm : X.mg x = some (.ref C))
    (hdb : (x == ("__debug__" : Str)) = false := by decide) : PMk X (.Call (.Name x p) [] [] pos) (tMkO C sp [] tNil) := by
  intro pins s σ H Q I h
  obtain ⟨nm, q, N, bs, bm, sn, sub, ab, col, dd, k0, k1, k2, k3, k5, hC, hbm⟩ := T.cls
  refine wpAny_Call_Name_kw (ld_glob I hg hm ?_ hdb)
  refine PySem.W.callWith_K0 I.kIn T.kC ?_
  show wpAny _ _ (call (.ref C) []) _ _ _
  obtain ⟨hz, q1⟩ := h
  obtain ⟨hp, g, dr, tk, os⟩ := s
  have hsz : hp.objs.size ≤ hp.objs.size + 1 := Nat.le_succ _
  have hn : H (hp.objs.size + 1) = none := I.hok.fresh hsz
  have hq := q1 (hp.objs.size + 1) hn
  have kk : ∀ b o, hp.get? b = some o → ((hp.push (PySem.W.kdv_tup [])).push (PySem.HandSPX.excO C hp.objs.size)).get? b = some o := fun b o e => Heap.get?_push_of_some _ (Heap.get?_push_of_some _ e)
  have hget : ((hp.push (PySem.W.kdv_tup [])).push (PySem.HandSPX.excO C hp.objs.size)).get? (hp.objs.size + 1) = some (PySem.HandSPX.excO C hp.objs.size) := by heap_get
  have I2 : Inv X pins σ (upd H (hp.objs.size + 1) (exo (hp.objs.size + 1) C none)) ⟨(hp.push (PySem.W.kdv_tup [])).push (PySem.HandSPX.excO C hp.objs.size), g, dr, tk, os⟩ :=
    I.laid (t' := tk) (a := hp.objs.size + 1) (o := exo (hp.objs.size + 1) C none) (h' := (hp.push (PySem.W.kdv_tup [])).push (PySem.HandSPX.excO C hp.objs.size)) kk hsz (exo_ok hget)
  have r2 : Vals [V.ref (hp.objs.size + 1)] [Value.ref (hp.objs.size + 1)] := .cons rfl .nil
  have hl : [Value.ref (hp.objs.size + 1)].length = ps.length := by
    have e : [V.ref (hp.objs.size + 1)].length = ps.length := F1.len _ _ _ _ hq
    exact e
  refine wpAny_call (PySem.HandSPX.call_own F.excBase_ValueError (fun Y => PySem.HandSPX.refsVE_contains Y bm hbm) (I.kIn _ _ hC) (PySem.W.looks_findIn I.kIn iC) (fun self => PySem.W.bind_fn I.kIn self tI) (by decide)
    (codeAny_mono (F1.run _ X.stack _ _ ⟨[Value.ref (hp.objs.size + 1)], []⟩ [Value.ref (hp.objs.size + 1)] _ _ (fun _ _ _ => False) (hr.make C [] []) (I2.env0.make C [] []) (hb _ [Value.ref (hp.objs.size + 1)] I2.kIn hl) r2 hq) fun r s' hq' => ?_))
  cases r with
  | error er => exact hx pins σ _ _ er s' I2 hq'
  | ok fl =>
    cases fl with
    | ret u =>
      obtain ⟨v, H2, os2, bare2, un2, hok2, rv, ev, d, fs, ea, ed, hd1, q2⟩ := hq'
      subst ev
      obtain ⟨h2, g2, d2, t2, os'⟩ := s'
      exact ⟨rv, mk_end (raises_own T.exC T.tyC) I hsz kk un2 hok2 os2 bare2 ea ed hd1 q2⟩
    | next => exact False.elim hq'
    | brk => exact False.elim hq'
    | cont => exact False.elim hq'
/-! ### C.m(..), C an own class, m a def of it -/
def tClsFn (C : Addr) (sp : Sp) (E : XK) (ta : TE) (t : TA) : TE := fun σ H Q => ta σ H fun x H1 => x = .ref C ∧ t σ H1 fun vs H2 => sp vs H2 Q E
theorem pe_clsFn {pl : Sem Bool} (he : PE X o ta) (rd : PySem.W.readsIn X.K C mc = true) (ga : PySem.W.specialIn X.K (.ref C) "__getattribute__" = some (some (.builtin "type.__getattribute__"))) (at_ : PySem.W.findCls X.K (.ref C) mc m = some (.val (.ref f)))
    (F : FnOk X.prog X.w X.K X.mg X.base CX k f fd ps sp) (hr : Room k X.A) (kp : PySem.W.keepIn X.K (.ref f) = true) (hb : Binds X.K fd ps []) (hx : Passes CX X E) (ha : PA X (e :: es) t)
    (hst : starEach (e :: es) X.env = (false, eval e X.env) :: starEach es X.env := by rfl) (hpl : (backTo pos (starEach es X.env)).any (·.1) = false := by rfl)
    (ht : eval (.Call (.Attribute o m apos) (e :: es) [] pos) X.env = (do
      let ov ← eval o X.env
      standAt apos.atName
      let (f, first) ← holding [ov] (getMethod ov m pl)
      callWith pos f first (backTo pos (starEach (e :: es) X.env)) (backToKw pos (keywordEach [] X.env))) := by rfl) :
    PE X (.Call (.Attribute o m apos) (e :: es) [] pos) (tClsFn C sp E ta t) := by
  refine ⟨fun pins s σ H Q I h => ?_⟩
  refine PySem.W.methodCall_KW (pl := pl) (thn (he.run pins s σ H _ I h) fun u s1 ⟨x, H1, I1, rx, ex, q⟩ => ?_) ht
  subst ex
  obtain rfl : u = Value.ref C := rx
  refine PySem.W.method_cls I1.kIn ga (PySem.W.cls_value I1.kIn rd at_ rfl ?_)
  refine PySem.W.callWith_K (h₀ := X.base) I1.ok.mod.kin kp (thn (ha.run pos pins _ σ H1 _ (I1.tok _) q) fun us s3 ⟨vs, H2, I3, rv, q2⟩ => ⟨I3.kIn, ?_⟩) hst hpl
  exact run_fn F hr hb (dvs := []) .nil hx I3 rv (by rw [List.append_nil]; exact q2)
end
end Sf
namespace Sf
open PySem PySem.Spec PyProof.Rows L2 TL
/-! ### a def with defaults -/
structure FunD (K : PySem.W.Frag) (x qual : Str) (st : Stmt) (f : Addr) (fd : FuncData) : Prop where
  ex : ∃ (oc : Value) (od : Option Addr) (dV kV doc pm : Value) (an : Option Addr) (cdv ct : Value) (osl : Array (Option Value)),
    fd = PySem.W.fnOf x qual (defArgs st) (defBody st) (defScope st) dV kV doc pm an cdv ct ∧ K.lookup f = some ⟨oc, od, .func fd, osl⟩ ∧ PySem.W.codeIn K cdv qual = true
  kp : PySem.W.keepIn K (.ref f) = true
theorem FunD.ok {P : Program} {w : World} {K : PySem.W.Frag} {mg : Str → Option Value} {base : Heap} {x qual : Str} {st : Stmt} {f : Addr} {fd : FuncData} {N ps : List Str} {k : Nat} {sp : Sp} (F : FunD K x qual st f fd) (S : FnScope N ps (defScope st)) (len : ∀ vs H Q E, sp vs H Q E → vs.length = ps.length)
    (hbody : ∀ (cdv : Value) (A : Around) (outer : List Env) (s : Shared) (H : Hp) (vs : List V) (Q : VK) (E : XK), Room k (A.deeper (envOfC qual (defScope st) s.heap.objs.size f cdv)) → sp vs H Q E →
      ∃ t, PSs (cxOf CX0 P w K mg base N qual (defScope st) f cdv A outer s H E).nox (defBody st) t ∧ t { nx := fun _ H' => Q .non H', rt := Q } (start N vs) H) : FnOk P w K mg base CX0 (k + 1) f fd ps sp := by
  obtain ⟨oc, od, dV, kV, doc, pm, an, cdv, ct, osl, rfl, lk, hcd⟩ := F.ex
  refine fn_of lk hcd S len fun A outer s H vs Q E hr hsp => ?_
  obtain ⟨t, h, q⟩ := hbody cdv A outer s H vs Q E hr hsp
  exact ⟨t, h.nox, q⟩
def FbD (K : PySem.W.Frag) (x qual : Str) (st : Stmt) (f : Addr) (ps : List Str) : Prop := ∃ fd, FunD K x qual st f fd ∧ Binds K fd ps []
def Fb (K : PySem.W.Frag) (x qual : Str) (st : Stmt) (f : Addr) (ps : List Str) : Prop := ∃ fd, Fun K x qual st f fd ∧ Binds K fd ps []
theorem fbD_mk {K : PySem.W.Frag} {x qual : Str} {st : Stmt} {f T : Addr} {ps : List Str} {oc : Value} {od an : Option Addr} {osl : Array (Option Value)} {kV doc pm cdv ct : Value} (l : K.lookup f = some ⟨oc, od, .func (PySem.W.fnOf x qual (defArgs st) (defBody st) (defScope st) (.ref T) kV doc pm an cdv ct), osl⟩)
    (c : PySem.W.codeIn K cdv qual = true) (k : PySem.W.keepIn K (.ref f) = true)
    (b : ∀ (kV doc pm : Value) (an : Option Addr) (cdv ct : Value) (s : Shared) (us : List Value), K.In s.heap → us.length = ps.length → BindsTo s (PySem.W.fnOf x qual (defArgs st) (defBody st) (defScope st) (.ref T) kV doc pm an cdv ct) ⟨us, []⟩ (ps.zip us)) : FbD K x qual st f ps :=
  ⟨_, ⟨⟨oc, od, .ref T, kV, doc, pm, an, cdv, ct, osl, rfl, l, c⟩, k⟩, fun s us X hl => by
    rw [List.append_nil] at hl ⊢
    exact b kV doc pm an cdv ct s us X hl⟩
theorem se_binds {K : PySem.W.Frag} {T : Addr} {o : Obj} {v1 v2 : Value} {n : Nat} (ho : K.lookup T = some o) (hs : o.data = .seq #[v1, v2] n) (kV doc pm : Value) (an : Option Addr) (cdv ct : Value) (s : Shared) (us : List Value) (X : K.In s.heap) (hl : us.length = 3) :
    BindsTo s (PySem.W.fnOf "__init__" "SpoorError.__init__" (defArgs s_SpoorError___init__) (defBody s_SpoorError___init__) (defScope s_SpoorError___init__) (.ref T) kV doc pm an cdv ct) ⟨us, []⟩ ((["self", "word", "message"] : List Str).zip us) := by
  match us, hl with
  | [_, _, _], _ => exact PySem.W.binds_K X rfl ho hs rfl rfl
theorem fb_mk {K : PySem.W.Frag} {x qual : Str} {st : Stmt} {f : Addr} {ps : List Str} {oc : Value} {od an : Option Addr} {osl : Array (Option Value)} {kV doc pm cdv ct : Value} (l : K.lookup f = some ⟨oc, od, .func (PySem.W.fnOf x qual (defArgs st) (defBody st) (defScope st) .none kV doc pm an cdv ct), osl⟩)
    (c : PySem.W.codeIn K cdv qual = true) (k : PySem.W.keepIn K (.ref f) = true) (b : ∀ (kV doc pm : Value) (an : Option Addr) (cdv ct : Value) (us : List Value), us.length = ps.length → bindArgs (PySem.W.fnOf x qual (defArgs st) (defBody st) (defScope st) .none kV doc pm an cdv ct) ⟨us, []⟩ = pure (ps.zip us)) : Fb K x qual st f ps :=
  ⟨_, fun_mk l c k, (fun_mk l c k).binds b⟩
theorem exm_self {K : PySem.W.Frag} {C : Addr} (h0 : PySem.W.subIn K (.ref C) (.type "BaseException") = some true) (h1 : PySem.W.isClsIn K C = true) (h2 : PySem.W.typeIn K (.ref C) = some (.type "type")) (h3 : PySem.W.subIn K (.ref C) (.ref C) = some true) : PySem.W.exmOne K (.ref C) (.ref C) = some true := by
  unfold PySem.W.exmOne
  rw [if_pos (by rw [h0]; rfl)]
  unfold PySem.W.isClsIn at h1
  unfold PySem.W.kitCls
  dsimp only
  rw [h1, h2, if_pos (by simp), h3]
/-! ### the refusals -/
/-- an own refusal, the class at C, its __init__ at f -/
structure EC (K : PySem.W.Frag) (mg : Str → Option Value) (nm : Str) (C f : Addr) : Prop where
  ox : OexC K C
  iC : PySem.W.findIn K (.ref C) "__init__" = some (some (.ref f))
  tI : PySem.W.typeIn K (.ref f) = some (.type "function")
  gC : mg nm = some (.ref C)
  xf : XfC K C
  nw : PySem.W.findIn K (.ref C) "word" = some none
  te : PySem.W.exmOne K (.ref C) (.ref C) = some true
theorem oex_mk {K : PySem.W.Frag} {C : Addr} {nm q : Str} {N : Addr} {bs bm : List Value} {sn : List Str} {sub : List Value} {ab : Bool} {col : Option Bool} {dd : Option Addr} {k0 k1 k2 k3 k5 : Option Value}
    (lk : K.lookup C = some (excClassObj nm q C N bs bm true sn sub ab col dd k0 k1 k2 k3 k5 "ValueError.__new__")) (rv : PySem.HandSPX.refsVE bm = true) (sa : PySem.W.findIn K (.ref C) "__setattr__" = some (some (.builtin "object.__setattr__"))) (ex : PySem.W.subIn K (.ref C) (.type "BaseException") = some true)
    (ty : PySem.W.typeIn K (.ref C) = some (.type "type")) (kC : PySem.W.keepIn K (.ref C) = true) : OexC K C := ⟨⟨nm, q, N, bs, bm, sn, sub, ab, col, dd, k0, k1, k2, k3, k5, lk, rv⟩, sa, ex, ty, kC⟩
/-- SpoorError itself -/
structure SE (K : PySem.W.Frag) (mg : Str → Option Value) (C f : Addr) : Prop where
  gC : mg "SpoorError" = some (.ref C)
  rd : PySem.W.readsIn K C (.type "type") = true
  ga : PySem.W.specialIn K (.ref C) "__getattribute__" = some (some (.builtin "type.__getattribute__"))
  at_ : PySem.W.findCls K (.ref C) (.type "type") "__init__" = some (.val (.ref f))
  vV : PySem.W.findCls K (.type "ValueError") (.type "type") "__init__" = some (.val (.builtin "ValueError.__init__"))
  mV : mg "ValueError" = none
section
variable {P : Program} {w : World} {K : PySem.W.Frag} {mg : Str → Option Value} {base : Heap} {C CS fS : Addr}
def spSE (K : PySem.W.Frag) : Sp := fun vs H Q _ => ∃ (a C : Addr) (z m : Str), vs = [.ref a, .str z, .str m] ∧ OexC K C ∧ PySem.W.findIn K (.ref C) "word" = some none ∧ H a = some (exo a C none) ∧
  ∀ dx, H dx = none → dx ≠ a → Q .non (upd (upd H dx (exd dx [(("word" : Str), .str z)])) a (exo a C (some dx)))
theorem sc_se : FnScope ["self", "word", "message"] ["self", "word", "message"] (defScope s_SpoorError___init__) := ⟨rfl, rfl, rfl, by decide +kernel, rfl, by decide +kernel, by decide +kernel⟩
theorem ok_se {f : Addr} {fd : FuncData} {j : Nat} (F : FunD K "__init__" "SpoorError.__init__" s_SpoorError___init__ f fd) (S : SE K mg CS fS) : FnOk P w K mg base CX0 (j + 1) f fd ["self", "word", "message"] (spSE K) := by
  refine F.ok sc_se (fun vs H Q E h => ?_) (fun cdv A outer s H vs Q E hr h => ?_)
  · obtain ⟨a, C, z, m, rfl, _⟩ := h
    rfl
  · obtain ⟨a, C, z, m, rfl, ox, nw, ha, q⟩ := h
    refine ⟨_, pss_cons (ps_expr (pe_veinit (by rfl) S.mV S.vV (pa_cons (pv 0) (pa_cons (pv 2) pa_nil)))) (pss_one (ps_ost (pv 0) (pv 1))), ?_⟩
    refine ⟨_, rfl, _, rfl, a, C, _, rfl, (by show 1 ≤ 1000; decide), ox, ha, ?_⟩
    exact ⟨_, rfl, _, rfl, a, C, rfl, ox, nw, .inl ⟨ha, fun dx n ne => q dx n ne⟩⟩
/-- X.__init__(self): the word of X -/
def spEx (K : PySem.W.Frag) (z : Str) : Sp := fun vs H Q _ => ∃ (a C : Addr), vs = [.ref a] ∧ OexC K C ∧ PySem.W.findIn K (.ref C) "word" = some none ∧ H a = some (exo a C none) ∧
  ∀ dx, H dx = none → dx ≠ a → Q .non (upd (upd H dx (exd dx [(("word" : Str), .str z)])) a (exo a C (some dx)))
theorem w_mkO {H : Hp} {σ : L2.St} {W : XK} {z nm : Str} {f : Addr} (T : EC K mg nm C f) (k : ∀ (d : Addr) (H' : Hp), H d = none → H' d = some (.xd [(("word" : Str), .str z)]) → Same H H' → W (.ref C) (some d) H') : tMkO C (spEx K z) [] tNil σ H W := by
  refine ⟨by show 0 ≤ 1000; decide, fun a na => ⟨a, C, rfl, T.ox, T.nw, upd_same, fun dx n ne => ⟨rfl, dx, _, upd_same, ?_, ?_, k dx _ ?_ upd_same fun b o e => ?_⟩⟩⟩
  · rw [upd_ne ne, upd_same]
  · rw [upd_ne ne] at n
    exact n
  · rw [upd_ne ne] at n
    exact n
  · rw [upd_ne ne] at n
    rw [upd_ne (ne_of_none e n), del_ne (ne_of_none e na), upd_ne (ne_of_none e na), upd_ne (ne_of_none e n), upd_ne (ne_of_none e na)]
    exact e
end
end Sf
set_option hygiene false
/-! heap look-ups: hp; unlike addresses: ne; steps: st, go -/
local macro_rules | `(tactic| walk_at "hp") => `(tactic| first
  | assumption
  | (refine Sf.Nw.at (by assumption) ?_; walk_at "hp")
  | (refine L2.Same.at (by assumption) ?_; walk_at "hp")
  | (refine Sf.Of.at (by assumption) ?_ ?_; (case refine_1 => walk_at "ne"); (case refine_2 => walk_at "hp"))
  | (refine Sf.Fx.at (by assumption) ?_ ?_; (case refine_1 => walk_at "ne"); (case refine_2 => walk_at "hp")))
local macro_rules | `(tactic| walk_at "ne") => `(tactic| first
  | assumption
  | exact Ne.symm (by assumption)
  | exact Sf.Nw.ne (by assumption) (by walk_at "hp")
  | exact (Sf.Nw.ne (by assumption) (by walk_at "hp")).symm)
local macro_rules | `(tactic| walk_at "sm") => `(tactic| first
  | assumption
  | exact L2.Same.refl _
  | (refine L2.Same.nw ?_ (by assumption); walk_at "sm")
  | (refine L2.Same.trans ?_ (by assumption); walk_at "sm"))
local macro_rules | `(tactic| walk_at "bg") => `(tactic| first
  | assumption
  | (refine Sf.Bag.nw ?_ (by assumption); walk_at "bg")
  | (refine Sf.Bag.same (by assumption) ?_; walk_at "bg"))
local macro_rules | `(tactic| walk_at "fx") => `(tactic| first
  | assumption
  | exact Sf.Fx.refl
  | (refine Sf.Fx.nw ?_ (by assumption); walk_at "fx")
  | (refine Sf.Fx.same ?_ (by assumption); walk_at "fx")
  | (refine Sf.Fx.trans ?_ (by assumption); walk_at "fx"))
local macro_rules | `(tactic| walk_at "sz") => `(tactic| first
  | decide
  | (simp only [List.length_cons, List.length_nil, Nat.zero_add]; decide))
local macro_rules | `(tactic| walk_at "s0") => `(tactic| first
  | with_reducible refine Sf.w_var rfl ?_
  | with_reducible refine Sf.w_c ?_
  | with_reducible refine Sf.w_cons ?_
  | with_reducible refine Sf.w_nil ?_
  | with_reducible refine Sf.w_op ?_
  | with_reducible refine Sf.w_asg ?_
  | with_reducible refine Sf.w_gn ?_
  | with_reducible refine Sf.w_call ?_
  | with_reducible refine Sf.w_cb ?_
  | with_reducible refine Sf.w_if ?_
  | with_reducible refine Sf.w_test ?_
  | with_reducible refine Sf.w_tB ?_
  | with_reducible refine Sf.w_kB ?_
  | with_reducible refine Sf.w_i0 ?_
  | with_reducible refine Sf.w_eqI ?_
  | with_reducible refine Sf.w_neI ?_
  | with_reducible refine Sf.w_eqS ?_
  | with_reducible refine Sf.w_neS ?_
  | with_reducible refine Sf.w_eqB ?_
  | with_reducible refine Sf.w_neB ?_
  | with_reducible refine Sf.w_inSg ?_
  | with_reducible refine Sf.w_notInSg ?_
  | with_reducible refine Sf.w_isNI ?_
  | with_reducible refine Sf.w_isNN ?_
  | with_reducible refine Sf.w_isN ?_
  | with_reducible refine Sf.w_notNI ?_
  | with_reducible refine Sf.w_notNN ?_
  | with_reducible refine Sf.w_notN ?_
  | with_reducible refine Sf.w_un ?_
  | with_reducible refine Sf.w_u ?_
  | with_reducible refine Sf.w_sl ?_
  | with_reducible refine Sf.w_nopart ?_
  | with_reducible refine Sf.w_part ?_
  | with_reducible refine Sf.w_kpart ?_
  | with_reducible refine Sf.w_and ?_
  | with_reducible refine Sf.w_or ?_
  | with_reducible refine Sf.w_not ?_
  | with_reducible refine Sf.w_kNotT ?_
  | with_reducible refine Sf.w_kNotF ?_
  | with_reducible refine Sf.w_kNotN ?_
  | with_reducible refine Sf.w_kNot ?_
  | with_reducible refine Sf.w_andT ?_
  | with_reducible refine Sf.w_andF ?_
  | with_reducible refine Sf.w_orT ?_
  | with_reducible refine Sf.w_orF ?_
  | with_reducible refine Sf.w_andV ?_
  | with_reducible refine Sf.w_andVT ?_
  | with_reducible refine Sf.w_andVF ?_
  | with_reducible refine Sf.w_orV ?_
  | with_reducible refine Sf.w_notV ?_
  | with_reducible refine Sf.w_kNotVT ?_
  | with_reducible refine Sf.w_kNotVF ?_
  | with_reducible refine Sf.w_kNotV ?_
  | with_reducible refine Sf.w_ifE ?_
  | with_reducible refine Sf.w_ifET ?_
  | with_reducible refine Sf.w_ifEF ?_
  | with_reducible refine Sf.w_ifT ?_
  | with_reducible refine Sf.w_ifF ?_
  | with_reducible refine Sf.w_chain ?_
  | with_reducible refine Sf.w_lst ?_
  | with_reducible refine Sf.w_tup ?_
  | with_reducible refine Sf.w_drop ?_
  | with_reducible refine Sf.w_ret ?_
  | with_reducible refine Sf.w_retN ?_
  | with_reducible refine Sf.w_next ?_
  | with_reducible refine Sf.w_break ?_
  | with_reducible refine Sf.w_cont ?_
  | with_reducible refine Sf.w_meth ?_
  | with_reducible refine Sf.w_make ?_
  | with_reducible refine Sf.w_fld ?_
  | with_reducible refine Sf.w_sfld ?_
  | with_reducible refine Sf.w_bm ?_
  | with_reducible refine Sf.w_bm0 ?_
  | ((with_reducible refine' Sf.w_kbmL ?hp_ ?_); (case hp_ => walk_at "hp"))
  | with_reducible refine Sf.w_m0 ?_
  | with_reducible refine Sf.w_kM0 ?_
  | with_reducible refine Sf.w_m1 ?_
  | with_reducible refine Sf.w_kM1 ?_
  | with_reducible refine Sf.w_par ?_
  | with_reducible refine Sf.w_kPar ?_
  | with_reducible refine Sf.w_gcons ?_
  | with_reducible refine Sf.w_gnil ?_
  | with_reducible refine Sf.w_gsub ?_
  | with_reducible refine Sf.w_for ?_
  | with_reducible refine Sf.w_rng1 ?_
  | with_reducible refine Sf.w_ilist ?_
  | with_reducible refine Sf.w_itup ?_
  | with_reducible refine Sf.w_istr ?_
  | with_reducible refine Sf.w_kStr ?_
  | with_reducible refine Sf.w_ienum ?_
  | with_reducible refine Sf.w_lc ?_
  | with_reducible refine Sf.w_yes ?_
  | with_reducible refine Sf.w_tstT ?_
  | with_reducible refine Sf.w_tstF ?_
  | with_reducible refine Sf.w_each rfl ?_
  | with_reducible refine Sf.w_dget ?_
  | with_reducible refine Sf.w_din ?_
  | with_reducible refine Sf.w_dnotin ?_
  | ((with_reducible refine' Sf.w_kDInI ?hp_ ?_); (case hp_ => walk_at "hp"))
  | ((with_reducible refine' Sf.w_kDInS ?hp_ ?_); (case hp_ => walk_at "hp"))
  | ((with_reducible refine' Sf.w_kDNotInI ?hp_ ?_); (case hp_ => walk_at "hp"))
  | ((with_reducible refine' Sf.w_kDNotInS ?hp_ ?_); (case hp_ => walk_at "hp"))
  | with_reducible refine Sf.w_dget1 ?_
  | ((with_reducible refine' Sf.w_kDGet1 ?hp_ ?_); (case hp_ => walk_at "hp"))
  | ((with_reducible refine' Sf.w_kDGet1I ?hp_ ?_); (case hp_ => walk_at "hp"))
  | ((with_reducible refine' Sf.w_kDGet1S ?hp_ ?_); (case hp_ => walk_at "hp"))
  | with_reducible refine Sf.w_sdput ?_
  | with_reducible refine Sf.w_dc ?_
  | with_reducible refine Sf.w_tstDT ?_
  | with_reducible refine Sf.w_eachD rfl ?_
  | with_reducible refine Sf.w_lstRg ?_
  | with_reducible refine Sf.w_min2 ?_
  | with_reducible refine Sf.w_max2 ?_
  | with_reducible refine Sf.w_starts ?_
  | with_reducible refine Sf.w_ends ?_
  | with_reducible refine Sf.w_rg1 ?_
  | with_reducible refine Sf.w_kRg1 ?_
  | with_reducible refine Sf.w_aug rfl ?_
  | with_reducible refine Sf.w_ipI ?_
  | with_reducible refine Sf.w_isi_int_int ?_
  | with_reducible refine Sf.w_isi_int_bool ?_
  | with_reducible refine Sf.w_isi_int_str ?_
  | with_reducible refine Sf.w_isi_str_int ?_
  | with_reducible refine Sf.w_isi_str_bool ?_
  | with_reducible refine Sf.w_isi_str_str ?_
  | with_reducible refine Sf.w_isi_bool_int ?_
  | with_reducible refine Sf.w_isi_bool_bool ?_
  | with_reducible refine Sf.w_isi_bool_str ?_
  | with_reducible refine Sf.w_isi_NoneType_int ?_
  | with_reducible refine Sf.w_isi_NoneType_str ?_
  | with_reducible refine Sf.w_isi_NoneType_bool ?_
  | ((with_reducible refine' Sf.w_lenL ?hp_ ?_); (case hp_ => walk_at "hp"))
  | ((with_reducible refine' Sf.w_lenT ?hp_ ?_); (case hp_ => walk_at "hp"))
  | ((with_reducible refine' Sf.w_lenD ?hp_ ?_); (case hp_ => walk_at "hp"))
  | ((with_reducible refine' Sf.w_kList ?hp_ ?_); (case hp_ => walk_at "hp"))
  | ((with_reducible refine' Sf.w_kTupI ?hp_ ?_); (case hp_ => walk_at "hp"))
  | ((with_reducible refine' Sf.w_kEnum ?hp_ ?_); (case hp_ => walk_at "hp"))
  | ((with_reducible refine' Sf.w_ixT ?hp_ ?rf_ ?_); (case hp_ => walk_at "hp"); (case rf_ => exact rfl))
  | ((with_reducible refine' Sf.w_ixL ?hp_ ?rf_ ?_); (case hp_ => walk_at "hp"); (case rf_ => exact rfl))
  | ((with_reducible refine' Sf.w_gtup ?hp_ ?rf_ ?_); (case hp_ => walk_at "hp"); (case rf_ => exact rfl)))
local macro_rules | `(tactic| walk_at "gs") => `(tactic| repeat walk_at "s0")
local macro_rules | `(tactic| walk_at "go") => `(tactic| repeat (first | walk_at "s0" | with_reducible refine Sf.w_seq ?_))
namespace Sf
open PySem PySem.Spec PyProof.Rows L2 TL
/-! ### dicts whose keys are motions: tuples of ints and None -/
abbrev Mot := List (Option Int)
def lfO : Option Int → Leaf
  | none => .none
  | some i => .num i
theorem lfO_inj : ∀ {a b : Option Int}, lfO a = lfO b → a = b
  | none, none, _ => rfl
  | none, some _, h => by cases h
  | some _, none, h => by cases h
  | some _, some _, h => by cases h; rfl
theorem lfs_inj : ∀ {a b : Mot}, a.map lfO = b.map lfO → a = b
  | [], [], _ => rfl
  | [], _ :: _, h => by cases h
  | _ :: _, [], h => by cases h
  | x :: a, y :: b, h => by
    rw [List.map_cons, List.map_cons, List.cons.injEq] at h
    rw [lfO_inj h.1, lfs_inj h.2]
abbrev mK (P : Program) (w : World) : HeapKind P w (List Leaf) := tupleKind (leafKind P w)
/-- an entry: the key, where its tuple stands, the value -/
abbrev DE := Mot × Addr × V
def DEr (p : DE) (q : List Leaf × Addr × Value) : Prop := p.1.map lfO = q.1 ∧ p.2.1 = q.2.1 ∧ RelV p.2.2 q.2.2
def DN (P : Program) (w : World) (d : Addr) (xs : List DE) : HO := .ext fun h => xs.length ≤ sizeLine ∧ (d == sysModules) = false ∧ (xs.map (·.1)).Nodup ∧ ∃ ys, Paired DEr xs ys ∧ ∃ o es ep, h.get? d = some o ∧ o.ExactDict ∧ o.data = .dict es ep ∧ es.toList = ys.map (entryOfKey (mK P w))
/-- the keys' tuples are tracked beside the dict -/
def KeysAt (H : Hp) (xs : List DE) : Prop := ∀ x ∈ xs, H x.2.1 = some (.tup (x.1.map oV))
theorem KeysAt.tps {H H' : Hp} {xs : List DE} (h : KeysAt H xs) (t : ∀ c ys, H c = some (.tup ys) → H' c = some (.tup ys)) : KeysAt H' xs := fun x hx => t _ _ (h x hx)
theorem KeysAt.snoc {H : Hp} {xs : List DE} (h : KeysAt H xs) {m : Mot} {a : Addr} {v : V} (e : H a = some (.tup (m.map oV))) : KeysAt H (xs ++ [(m, a, v)]) := fun x hx => by
  rcases List.mem_append.mp hx with hx | hx
  · exact h x hx
  · rw [List.mem_singleton.mp hx]; exact e
theorem oV_leaf {a : Option Int} {u : Value} (r : RelV (oV a) u) : Leaf.isOf (lfO a) u = true := by
  cases a with
  | none =>
    have : u = .none := r
    subst this
    rfl
  | some i =>
    obtain ⟨t, rfl⟩ : ∃ t, u = .int i t := r
    exact decide_eq_true rfl
theorem items_leaf {P : Program} {w : World} : ∀ {m : Mot} {us : List Value}, Vals (m.map oV) us → ItemsAre (leafKind P w) (m.map lfO) us
  | [], _, r => by rw [List.map_nil] at r; cases r; exact .nil
  | _ :: _, _, r => by
    rw [List.map_cons] at r
    cases r with
    | cons h t => exact .cons (oV_leaf h) (items_leaf t)
section
variable {P : Program} {w : World} {H : Hp} {h : Heap} {a d : Addr} {m : Mot} {xs : List DE}
theorem key_mot (ok : HOk P w H h) (e : H a = some (.tup (m.map oV))) : (mK P w).is h (m.map lfO) a := by
  obtain ⟨_, its, r, o, h1, h2, n, h3⟩ := (show ObjOk P w H h a (.tup (m.map oV)) from ok a _ e)
  exact ⟨o, its.toArray, n, h1, h2, h3, by simpa using items_leaf r⟩
theorem der_keys {xs : List DE} {ys : List (List Leaf × Addr × Value)} (r : Paired DEr xs ys) : ys.map (·.1) = (xs.map (·.1)).map fun m => m.map lfO := by
  induction r with
  | nil => rfl
  | cons h t ih => rw [List.map_cons, List.map_cons, List.map_cons, ih, h.1]
theorem nodup_lf {ms : List Mot} (h : ms.Nodup) : (ms.map fun (m : Mot) => m.map lfO).Nodup := List.pairwise_map.mpr (h.imp fun ne e => ne (lfs_inj e))
theorem der_mem {xs : List DE} {ys : List (List Leaf × Addr × Value)} (r : Paired DEr xs ys) : ∀ y ∈ ys, ∃ x ∈ xs, DEr x y := by
  induction r with
  | nil => intro y hy; cases hy
  | cons h t ih =>
    intro y hy
    rcases List.mem_cons.mp hy with rfl | hy
    · exact ⟨_, List.mem_cons_self, h⟩
    · obtain ⟨x, hx, hr⟩ := ih y hy
      exact ⟨x, List.mem_cons_of_mem _ hx, hr⟩
theorem dn_of (ok : HOk P w H h) (e : H d = some (DN P w d xs)) (hk : KeysAt H xs) : xs.length ≤ sizeLine ∧ (d == sysModules) = false ∧ (xs.map (·.1)).Nodup ∧ ∃ ys, Paired DEr xs ys ∧ h.DictOfH (mK P w) d ys := by
  obtain ⟨⟨hl, hd, hn, ys, r, o, es, ep, h1, h2, h3, h4⟩, _, _⟩ := (show ObjOk P w H h d (DN P w d xs) from ok d _ e)
  refine ⟨hl, hd, hn, ys, r, o, es, ep, h1, h2, h3, h4, fun y hy => ?_, ?_⟩
  · obtain ⟨x, hx, e1, e2, _⟩ := der_mem r y hy
    rw [← e1, ← e2]
    exact key_mot ok (hk x hx)
  · rw [der_keys r]
    exact nodup_lf hn
theorem dn_ok {H' : Hp} {h' : Heap} {ys : List (List Leaf × Addr × Value)} (hl : xs.length ≤ sizeLine) (hd : (d == sysModules) = false) (hn : (xs.map (·.1)).Nodup) (r : Paired DEr xs ys) (dd : h'.DictOfH (mK P w) d ys) : ObjOk P w H' h' d (DN P w d xs) := by
  obtain ⟨o, es, ep, h1, h2, h3, h4, _, _⟩ := dd
  refine ⟨⟨hl, hd, hn, ys, r, o, es, ep, h1, h2, h3, h4⟩, ⟨o, h1⟩, fun g1 g2 ⟨a1, a2, a3, zs, a4, o', es', ep', b1, b2, b3, b4⟩ st => ⟨a1, a2, a3, zs, a4, o', es', ep', st _ b1, b2, b3, b4⟩⟩
/-- where the key stands, and its value -/
def valN (xs : List DE) (m : Mot) : Option (Addr × V) := (xs.find? fun x => decide (x.1 = m)).map (·.2)
theorem valN_rel {xs : List DE} {ys : List (List Leaf × Addr × Value)} (r : Paired DEr xs ys) (m : Mot) : (valN xs m = none ∧ atKey ys (m.map lfO) = none) ∨ ∃ p q, valN xs m = some p ∧ atKey ys (m.map lfO) = some q ∧ p.1 = q.1 ∧ RelV p.2 q.2 := by
  induction r with
  | nil => exact .inl ⟨rfl, rfl⟩
  | @cons p q ps qs h t ih =>
    obtain ⟨e1, e2, e3⟩ := h
    by_cases e : p.1 = m
    · have e' : q.1 = m.map lfO := by rw [← e1, e]
      refine .inr ⟨p.2, q.2, ?_, ?_, e2, e3⟩
      · unfold valN; rw [List.find?_cons, decide_eq_true e]; rfl
      · unfold atKey; rw [List.find?_cons, decide_eq_true e']; rfl
    · have e' : ¬ q.1 = m.map lfO := fun z => e (lfs_inj (e1.trans z))
      have v1 : valN (p :: ps) m = valN ps m := by unfold valN; rw [List.find?_cons, decide_eq_false e]
      have v2 : atKey (q :: qs) (m.map lfO) = atKey qs (m.map lfO) := by unfold atKey; rw [List.find?_cons, decide_eq_false e']
      rw [v1, v2]
      exact ih
theorem valN_none {xs : List DE} {m : Mot} : valN xs m = none ↔ m ∉ xs.map (·.1) := by
  unfold valN
  rw [Option.map_eq_none_iff, List.find?_eq_none]
  constructor
  · intro h z
    obtain ⟨x, hx, rfl⟩ := List.mem_map.mp z
    exact h x hx (decide_eq_true rfl)
  · intro h x hx z
    exact h (List.mem_map.mpr ⟨x, hx, of_decide_eq_true z⟩)
end
/-! the rules -/
section
variable {X : Cx} {pins : List (Addr × Obj)} {σ : L2.St} {H : Hp} {s : Shared} {d b : Addr} {m : Mot} {xs : List DE} {A : Around} {E : Value → Shared → Prop}
theorem d_notInN {Q : Value → Shared → Prop} (hu : A.units + 1 < cLine) (I : Inv X pins σ H s) (e : H d = some (DN X.prog X.w d xs)) (hk : KeysAt H xs) (eb : H b = some (.tup (m.map oV))) (h : ∀ s', Inv X pins σ H s' → Q (.bool (!(valN xs m).isSome)) s') :
    wpAny (model X.prog X.w) A (compareOp .NotIn (.ref b) (.ref d)) Q E s := by
  obtain ⟨hl, hd, hn, ys, r, dd⟩ := dn_of I.hok e hk
  refine wpAny_notIn_heap (tupleKind_room_in1 hu) (key_mot I.hok eb) hd dd ?_
  have := h _ (I.tok (s.toks + (mK X.prog X.w).draws (m.map lfO)))
  rcases valN_rel r m with ⟨v1, v2⟩ | ⟨p, q, v1, v2, _⟩ <;> (rw [v1] at this; rw [v2]; exact this)
theorem d_getN {Q : Value → Shared → Prop} {p : Addr × V} (hu : A.units + 1 < cLine) (I : Inv X pins σ H s) (e : H d = some (DN X.prog X.w d xs)) (hk : KeysAt H xs) (eb : H b = some (.tup (m.map oV))) (hv : valN xs m = some p) (h : ∀ u s', Inv X pins σ H s' → RelV p.2 u → Q u s') :
    wpAny (model X.prog X.w) A (getItem (.ref d) (.ref b)) Q E s := by
  obtain ⟨hl, hd, hn, ys, r, dd⟩ := dn_of I.hok e hk
  rcases valN_rel r m with ⟨v1, _⟩ | ⟨p', q, v1, v2, _, rv⟩
  · rw [v1] at hv; cases hv
  · rw [v1] at hv
    cases hv
    exact wpAny_getItem_heap (tupleKind_room_in1 hu) (key_mot I.hok eb) dd v2 (h _ _ (I.tok _) rv)
/-- d[k] = v, a new key -/
theorem d_putN {Q : Unit → Shared → Prop} {v : V} {u : Value} (hu : A.units + 1 < cLine) (I : Inv X pins σ H s) (e : H d = some (DN X.prog X.w d xs)) (hk : KeysAt H xs) (eb : H b = some (.tup (m.map oV))) (hv : valN xs m = none) (hl : xs.length < sizeLine) (rv : RelV v u)
    (h : ∀ s', Inv X pins σ (upd H d (DN X.prog X.w d (xs ++ [(m, b, v)]))) s' → Q () s') : wpAny (model X.prog X.w) A (setItem (.ref d) (.ref b) u) Q E s := by
  obtain ⟨_, hd, hn, ys, r, dd⟩ := dn_of I.hok e hk
  have v2 : atKey ys (m.map lfO) = none := by
    rcases valN_rel r m with ⟨_, v2⟩ | ⟨p, q, v1, _⟩
    · exact v2
    · rw [v1] at hv; cases hv
  have ly := Paired.length r
  refine wpAny_setItem_heap (hsz := by omega) (tupleKind_room_in1 hu) (key_mot I.hok eb) dd fun h' dd' hs => h _ ?_
  rw [storedH_new v2] at dd'
  have r' : Paired DEr (xs ++ [(m, b, v)]) (ys ++ [(m.map lfO, b, u)]) := Paired.snoc r ⟨rfl, rfl, rv⟩
  have hn' : ((xs ++ [(m, b, v)]).map (·.1)).Nodup := by
    rw [List.map_append, List.nodup_append]
    refine ⟨hn, List.pairwise_singleton _ _, fun x hx y hy z => ?_⟩
    rw [z, List.mem_singleton.mp hy] at hx
    exact valN_none.mp hv hx
  obtain ⟨q, hq⟩ : ∃ q, h'.get? d = some q := let ⟨q, _, _, hq, _⟩ := dd'; ⟨q, hq⟩
  exact d_write I (by rw [e]; exact True.intro) hs ⟨q, hq⟩ (dn_ok (by rw [List.length_append]; show xs.length + 1 ≤ _; omega) hd hn' r' dd')
end
end Sf
namespace Sf
open PySem PySem.Spec PyProof.Rows L2 TL
theorem paired_at {α β : Type} {R : α → β → Prop} : ∀ {as : List α} {bs : List β} {i : Nat} {a : α}, Paired R as bs → as[i]? = some a → ∃ b, bs[i]? = some b ∧ R a b
  | _, _, _, _, .nil, e => by simp at e
  | _, _, 0, _, .cons r _, e => by simp at e; subst e; exact ⟨_, rfl, r⟩
  | _, _, i + 1, x, .cons _ t, e => by
    obtain ⟨u, h1, h2⟩ := paired_at (i := i) (a := x) t (by simpa using e)
    exact ⟨u, by simpa using h1, h2⟩
/-! ### the rules as readings -/
def kNotInN (P : Program) (w : World) (y x : V) (Q : VK) : Hp → Prop := fun H2 => ∃ (d b : Addr) (xs : List DE) (m : Mot), x = .ref d ∧ y = .ref b ∧ H2 d = some (DN P w d xs) ∧ KeysAt H2 xs ∧ H2 b = some (.tup (m.map oV)) ∧ Q (.bl (!(valN xs m).isSome)) H2
def tNotInN (P : Program) (w : World) (ty td : TE) : TE := fun σ H Q => ty σ H fun y H1 => td σ H1 fun x H2 => kNotInN P w y x Q H2
def kGetN (P : Program) (w : World) (x y : V) (Q : VK) : Hp → Prop := fun H2 => ∃ (d b : Addr) (xs : List DE) (m : Mot) (p : Addr × V), x = .ref d ∧ y = .ref b ∧ H2 d = some (DN P w d xs) ∧ KeysAt H2 xs ∧ H2 b = some (.tup (m.map oV)) ∧ valN xs m = some p ∧ Q p.2 H2
def tGetN (P : Program) (w : World) (td ty : TE) : TE := fun σ H Q => td σ H fun x H1 => ty σ H1 fun y H2 => kGetN P w x y Q H2
def kPutN (P : Program) (w : World) (n : L2.St → Hp → Prop) (σ : L2.St) (x y v : V) : Hp → Prop := fun H3 => ∃ (d b : Addr) (xs : List DE) (m : Mot), x = .ref d ∧ y = .ref b ∧ H3 d = some (DN P w d xs) ∧ KeysAt H3 xs ∧ H3 b = some (.tup (m.map oV)) ∧ valN xs m = none ∧ xs.length < sizeLine ∧ n σ (upd H3 d (DN P w d (xs ++ [(m, b, v)])))
def sPutN (P : Program) (w : World) (td ty tv : TE) : TS := fun D σ H => tv σ H fun v H1 => td σ H1 fun x H2 => ty σ H2 fun y H3 => kPutN P w D.nx σ x y v H3
def tDispN (P : Program) (w : World) (tk tv : TE) : TE := fun σ H Q => ∀ p, H p = none → tk σ (upd H p (DN P w p [])) fun x H1 => tv σ H1 fun y H2 => H2 p = some (DN P w p []) ∧ ∃ (b : Addr) (m : Mot), x = .ref b ∧ H2 b = some (.tup (m.map oV)) ∧ Q (.ref p) (upd H2 p (DN P w p [(m, b, y)]))
section
variable {X : Cx} {o i value k v : Expr} {td ty tv tk : TE} {pos pos' : Pos}
theorem dn_type {pins : List (Addr × Obj)} {σ : L2.St} {H : Hp} {s : Shared} {d : Addr} {xs : List DE} (I : Inv X pins σ H s) (e : H d = some (DN X.prog X.w d xs)) : s.TypeIs (.ref d) "dict" := by
  obtain ⟨⟨_, _, _, _, _, o, _, _, h1, h2, _⟩, _, _⟩ := (show ObjOk X.prog X.w H s.heap d (DN X.prog X.w d xs) from I.hok d _ e)
  exact ⟨o, h1, h2.1⟩
theorem pc_notInN (hu : X.A.units + 1 < cLine) (hi : PE X i ty) (ho : PE X o td) : PC X .NotIn i o (tNotInN X.prog X.w ty td) := by
  refine ⟨fun pins s σ H Q I h => thn (hi.run pins s σ H _ I h) fun iv s1 ⟨y, H1, I1, ry, q1⟩ => thn (ho.run pins s1 σ H1 _ I1 q1) fun u s2 ⟨x, H2, I2, rx, q2⟩ => ?_⟩
  obtain ⟨d, b, xs, m, rfl, rfl, e, hk, eb, q⟩ := q2
  cases rx
  cases ry
  exact d_notInN hu I2 e hk eb fun s3 I3 => ⟨.bl _, H2, I3, rfl, q⟩
theorem pe_getN (hu : X.A.units + 1 < cLine) (ho : PE X o td) (hi : PE X i ty) (hs : NoSl i) : PE X (.Subscript o i pos) (tGetN X.prog X.w td ty) := by
  refine ⟨fun pins s σ H Q I h => subD_of PySem.F.slot_dict_getitem.lookup hs (thn (ho.run pins s σ H _ I h) fun u s1 ⟨x, H1, I1, rx, q1⟩ => thn (hi.run pins s1 σ H1 _ I1 q1) fun iv s2 ⟨y, H2, I2, ry, q2⟩ => ?_)⟩
  obtain ⟨d, b, xs, m, p, rfl, rfl, e, hk, eb, hv, q⟩ := q2
  cases rx
  cases ry
  exact ⟨dn_type I2 e, d_getN hu I2 e hk eb hv fun u s3 I3 ru => ⟨_, H2, I3, ru, q⟩⟩
theorem ps_putN (hu : X.A.units + 1 < cLine) (ho : PE X o td) (hi : PE X i ty) (hv : PE X value tv) (hs : swapsWith value (some (.Subscript o i pos')) pos.line X.env = pure false) :
    PS X (.Assign [.Subscript o i pos'] value pos) (sPutN X.prog X.w td ty tv) := by
  refine ⟨fun pins s σ H D I h => wpAny_Assign_Subscript (thn (hv.run pins s σ H _ I h) fun r s1 ⟨v, H1, I1, rv, q1⟩ => thn (ho.run pins s1 σ H1 _ I1 q1) fun u s2 ⟨x, H2, I2, rx, q2⟩ => thn (hi.run pins s2 σ H2 _ I2 q2) fun iv s3 ⟨y, H3, I3, ry, q3⟩ => ?_) hs⟩
  obtain ⟨d, b, xs, m, rfl, rfl, e, hk, eb, hn, hl, q⟩ := q3
  cases rx
  cases ry
  exact d_putN hu I3 e hk eb hn hl rv fun s4 I4 => ⟨σ, _, I4, q⟩
theorem dn_new {P : Program} {w : World} {H : Hp} (h : Heap) (hb : sysModules < h.objs.size) : ObjOk P w H (h.push { cls := .type "dict", data := .dict #[] }) h.objs.size (DN P w h.objs.size []) :=
  dn_ok (Nat.zero_le _) (beq_eq_false_iff_ne.mpr (Ne.symm (Nat.ne_of_lt hb))) List.nodup_nil .nil (Heap.DictOfH.new h)
theorem pe_dispN (hu : X.A.units + 1 < cLine) (hk : PE X k tk) (hv : PE X v tv) : PE X (.Dict [some k] [v] pos) (tDispN X.prog X.w tk tv) := by
  refine ⟨fun pins s σ H Q I q => ?_⟩
  have hn := I.hok.fresh (Nat.le_refl s.heap.objs.size)
  have I1 := I.laid (a := s.heap.objs.size) (o := DN X.prog X.w s.heap.objs.size []) (h' := s.heap.push { cls := .type "dict", data := .dict #[] }) (t' := s.toks) (fun _ _ q => Heap.get?_push_of_some _ q) (Nat.le_refl _) (dn_new s.heap I.big)
  rw [arm_eval_Dict, zip_pairTrees [some k] [v] X.env pos rfl rfl, dictDisplay_pairs (pairTrees [some k] [v] X.env pos) (fun z => by cases z) (by rw [pairTrees_length _ _ _ _ rfl rfl]; show 1 < 17; decide)]
  refine wpAny_bind (wpAny_standAt (wpAny_bind (wpAny_subDictH (knd := mK X.prog X.w) (show X.A.units < cLine by omega) (by rw [pairTrees_length _ _ _ _ rfl rfl]; show 1 ≤ 15; decide) ?_)))
  refine pairTrees_cons_walk (thn (hk.run pins _ σ _ _ I1 (q _ hn)) fun u s1 ⟨x, H1, I2, rx, q1⟩ => thn (hv.run pins s1 σ H1 _ I2 q1) fun u2 s2 ⟨y, H2, I3, ry, e, b, m, ex, eb, q2⟩ => pairTrees_nil_walk ?_)
  subst ex
  cases rx
  obtain ⟨_, hd, _, ys, r, dd⟩ := dn_of I3.hok e (fun x hx => by cases hx)
  cases r
  refine ⟨[(m.map lfO, b, u2)], ⟨rfl, rfl, key_mot I3.hok eb, trivial⟩, dd, fun h' tk dd' hs => wpAny_pure ⟨.ref s.heap.objs.size, _, ?_, rfl, q2⟩⟩
  obtain ⟨w', hw⟩ : ∃ w', h'.get? s.heap.objs.size = some w' := let ⟨w', _, _, hw, _⟩ := dd'; ⟨w', hw⟩
  exact d_write I3 (by rw [e]; exact True.intro) hs ⟨w', hw⟩ (dn_ok (xs := [(m, b, y)]) (by show 1 ≤ sizeLine; decide) hd (List.pairwise_singleton _ _) (.cons ⟨rfl, rfl, ry⟩ .nil) dd')
/-! len(d), list(d) -/
def rLenN (P : Program) (w : World) : List V → Hp → VK → Prop := fun vs H Q => ∃ (d : Addr) (xs : List DE), vs = [.ref d] ∧ H d = some (DN P w d xs) ∧ KeysAt H xs ∧ Q (.int ((xs.length : Nat) : Int)) H
theorem call_lenN : CallR X (.builtin "len") (rLenN X.prog X.w) := by
  intro pins s σ H vs us Q I r h
  obtain ⟨d, xs, rfl, e, hk, q⟩ := h
  obtain ⟨u, rfl, rx⟩ := r.one
  cases rx
  obtain ⟨hl, hd, _, ys, rr, dd⟩ := dn_of I.hok e hk
  have ly := Paired.length rr
  refine call_len_dictH hd dd (by rw [← ly]; rw [sizeLine_eq] at hl; omega) ?_
  rw [← ly]
  exact ⟨.int ((xs.length : Nat) : Int), H, I.tok _, ⟨_, rfl⟩, q⟩
def rListN (P : Program) (w : World) : List V → Hp → VK → Prop := fun vs H Q => ∃ (d : Addr) (xs : List DE), vs = [.ref d] ∧ H d = some (DN P w d xs) ∧ ∀ p, H p = none → Q (.ref p) (upd H p (.lst (xs.map fun x => .ref x.2.1)))
theorem call_listN (hc : X.calm = true) : CallR X (.type "list") (rListN X.prog X.w) := by
  intro pins s σ H vs us Q I r h
  obtain ⟨d, xs, rfl, e, q⟩ := h
  obtain ⟨u, rfl, rx⟩ := r.one
  cases rx
  obtain ⟨⟨hl, hd, _, ys, rr, o, es, ep, h1, h2, h3, h4⟩, _, _⟩ := (show ObjOk X.prog X.w H s.heap d (DN X.prog X.w d xs) from I.hok d _ e)
  have le : es.size = ys.length := by rw [← Array.length_toList, h4, List.length_map]
  have ly := Paired.length rr
  refine PySem.W.kdl_call (kdl_raw hd h2 h3) (I.ok.hd hc) h1 (by omega) fun h' tk acc' c' kp e2 it => ?_
  have ea : acc'.toList = (xs.map fun x => x.2.1).map Value.ref := by
    have hlen : acc'.toList.length = xs.length := by rw [Array.length_toList, it.1, le, ly]
    apply List.ext_getElem?
    intro j
    cases hj : acc'.toList[j]? with
    | none =>
      have := List.getElem?_eq_none_iff.mp hj
      rw [List.getElem?_eq_none (by rw [List.length_map, List.length_map]; omega)]
    | some v =>
      have hjl : j < xs.length := by rw [← hlen]; exact (List.getElem?_eq_some_iff.mp hj).1
      obtain ⟨en, hen, hv⟩ := it.2 j v (by rw [← Array.getElem?_toList]; exact hj)
      rw [← Array.getElem?_toList, h4, List.getElem?_map] at hen
      obtain ⟨y, hy, rfl⟩ := Option.map_eq_some_iff.mp hen
      have hx : xs[j]? = some xs[j] := List.getElem?_eq_getElem hjl
      obtain ⟨y', hy', hr⟩ : ∃ y', ys[j]? = some y' ∧ DEr xs[j] y' := paired_at rr hx
      rw [hy] at hy'
      cases hy'
      rw [List.getElem?_map, List.getElem?_map, hx, hv]
      show some (Value.ref y.2.1) = some (Value.ref (xs[j]).2.1)
      rw [hr.2.1]
  have rv : ∀ l : List DE, Vals (l.map fun x => V.ref x.2.1) ((l.map fun x => x.2.1).map Value.ref) := fun l => by
    induction l with
    | nil => exact .nil
    | cons x l ih => exact .cons rfl ih
  refine ⟨.ref s.heap.objs.size, _, I.laid (t' := tk) (o := .lst (xs.map fun x => V.ref x.2.1)) kp (Nat.le_refl _) ?_, rfl, q _ (I.hok.fresh (Nat.le_refl _))⟩
  exact ⟨by rw [List.length_map]; exact hl, acc'.toList, c', by rw [ea]; exact rv xs, by rw [Array.toArray_toList]; exact e2⟩
end
end Sf
namespace Sf
open PySem PySem.Spec PyProof.Rows L2 TL
/-! ### for k, v in d.items(): the dict stands frozen from then on -/
def ItN (P : Program) (w : World) (d : Addr) (o : Obj) (xs : List DE) : It :=
  ⟨fun i H => H d = some (.frz o (DN P w d xs)) ∧ i < xs.length, fun i H v H' => ∃ (T : Addr) (x : DE), xs[i]? = some x ∧ v = .ref T ∧ H T = none ∧ H' = upd H T (.tup [.ref x.2.1, x.2.2]), fun i H => H d = some (.frz o (DN P w d xs)) ∧ xs.length ≤ i⟩
theorem frz_dn {P : Program} {w : World} {H : Hp} {h : Heap} {d : Addr} {o : Obj} {xs : List DE} {es : Array DictEntry} {ep : Nat} (ok : HOk P w H h) (e : H d = some (.frz o (DN P w d xs))) (hod : o.data = .dict es ep) :
    (d == sysModules) = false ∧ h.DictRaw d es ep ∧ ∃ ys, Paired DEr xs ys ∧ es.toList = ys.map (entryOfKey (mK P w)) := by
  obtain ⟨hg, ⟨_, hd, _, ys, r, o', es', ep', h1, h2, h3, h4⟩, _, _⟩ := (show ObjOk P w H h d (.frz o (DN P w d xs)) from ok d _ e)
  rw [hg] at h1
  cases h1
  rw [hod] at h3
  cases h3
  exact ⟨hd, ⟨o, hg, h2, hod⟩, ys, r, h4⟩
theorem turn_itemsN {P : Program} {w : World} {K : PySem.W.Frag} {d : Addr} {o : Obj} {xs : List DE} {es : Array DictEntry} {ep : Nat} {elts : List Expr} {kk : Nat} {tpos : Pos} (it : Addr) (hod : o.data = .dict es ep) :
    Turn P w K (.Tuple elts kk tpos) (ItN P w d o xs) [it] it (fun i h => ∃ ok ov, IsItemIter h it d i es.size ep ok ov) where
  mem := List.mem_singleton.mpr rfl
  obj := fun i h st b hb => by
    obtain ⟨ok, ov, e⟩ := st
    rw [List.mem_singleton.mp hb]
    exact ⟨_, e, fun v z => nomatch z⟩
  keep := fun i h h' st k => let ⟨ok, ov, e⟩ := st; ⟨ok, ov, k it (List.mem_singleton.mpr rfl) _ e⟩
  item := by
    intro X hP hw hK hc i pins s σ H E I hf st hg
    subst hP hw hK
    obtain ⟨hd, hi⟩ := hg
    obtain ⟨_, hm, ys, r, h4⟩ := frz_dn I.hok hd hod
    obtain ⟨ok, ov, he⟩ := st
    have hlt : it < s.heap.objs.size := Heap.lt_size he
    have hx : xs[i]? = some xs[i] := List.getElem?_eq_getElem hi
    obtain ⟨y, hy, e1, e2, e3⟩ := paired_at r hx
    have hie : i < es.size := by
      have := congrArg List.length h4
      rw [Array.length_toList, List.length_map, ← Paired.length r] at this
      omega
    have hen : es[i] = entryOfKey (mK X.prog X.w) y := by
      have : es.toList[i]? = some (entryOfKey (mK X.prog X.w) y) := by rw [h4, List.getElem?_map, hy]; rfl
      rw [Array.getElem?_toList, Array.getElem?_eq_getElem hie] at this
      exact Option.some.inj this
    refine wpAny_pyNext_items_item_raw he hm hie fun h' ho hT hz hk => ?_
    rw [hen] at ho hT
    refine ⟨_, rfl, wpAny_letOwnedTupleGo_items (s := { s with heap := h' }) ho fun h'' he' sb => ?_⟩
    have hT2 := (sb.2 _ (Nat.ne_of_gt hlt)).trans hT
    have I1 : Inv X pins σ (upd H s.heap.objs.size (.tup [.ref (xs[i]).2.1, (xs[i]).2.2])) { s with heap := h'' } :=
      I.turnedNew (t' := s.toks) (ch := [it]) (fun b ob hb e => (sb.2 b (by simpa using hb)).trans (hk b ob (by simpa using hb) e)) hf (Nat.le_refl _)
        ⟨by show 2 ≤ sizeLine; decide, [.ref y.2.1, y.2.2], .cons (by rw [e2]; exact rfl) (.cons e3 .nil), ⟨_, hT2, rfl, _, rfl⟩⟩
    refine ⟨.ref s.heap.objs.size, _, I1, rfl, ⟨_, xs[i], hx, rfl, I.hok.fresh (Nat.le_refl _), rfl⟩, ⟨_, _, he'⟩, fun b hb => ?_⟩
    rw [List.mem_singleton.mp hb, upd_ne (Nat.ne_of_lt hlt)]
    exact (hf it (List.mem_singleton.mpr rfl)).1
  done := by
    intro X hP hw hK hc i pins s σ H E I hf st hg
    subst hP hw hK
    obtain ⟨hd, hi⟩ := hg
    obtain ⟨f0, f1, f2, f3, f4, f5⟩ := hf it (List.mem_singleton.mpr rfl)
    obtain ⟨_, hm, ys, r, h4⟩ := frz_dn I.hok hd hod
    obtain ⟨ok, ov, he⟩ := st
    have hge : es.size ≤ i := by
      have := congrArg List.length h4
      rw [Array.length_toList, List.length_map, ← Paired.length r] at this
      omega
    exact wpAny_pyNext_items_end_raw (I.ok.hd hc) he hm hge fun h' eb => ⟨rfl, I.turned (t' := s.toks) (fun b ob hb e => eb b ob hb e) f0 f1 f3 f4 f5⟩
  self := fun A i s Q E st h => let ⟨_, _, e⟩ := st; PySem.W.kcp_self e h
def iItemsN (P : Program) (w : World) (td : TE) : TI := fun σ H R => td σ H fun x H1 => ∃ (d : Addr) (xs : List DE), x = .ref d ∧ H1 d = some (DN P w d xs) ∧ ∀ o, R (ItN P w d o xs) (upd H1 d (.frz o (DN P w d xs)))
theorem pi_itemsN {X : Cx} {e : Expr} {td : TE} {apos cpos tpos : Pos} {elts : List Expr} {kk : Nat} (he : PE X e td) (hbase : attributeBase e "items" X.env (eval e X.env) = eval e X.env := by rfl) (hline : (apos.endLine == cpos.line) = true := by rfl) :
    PI X (.Tuple elts kk tpos) (.Call (.Attribute e "items" apos) [] [] cpos) (iItemsN X.prog X.w td) := by
  refine ⟨fun pins s σ H R I h => ?_⟩
  refine wpAny_Call_method (T := "dict") (id := "dict.items") hbase rfl hline PySem.F.plainAttrs_dict PySem.F.slot_dict_items PySem.F.type_dict_items (thn (he.run pins s σ H _ I h) fun u s1 ⟨x, H1, I1, rx, d, xs, ex, hd, q⟩ => ?_)
  subst ex
  obtain rfl : u = Value.ref d := rx
  obtain ⟨o, I2⟩ := I1.lock hd True.intro
  have hd2 : upd H1 d (.frz o (DN X.prog X.w d xs)) d = some (.frz o (DN X.prog X.w d xs)) := upd_same
  obtain ⟨hg, ⟨_, hsys, _, ys, r, o', es, ep, h1, h2, h3, h4⟩, _, _⟩ := (show ObjOk X.prog X.w _ s1.heap d (.frz o (DN X.prog X.w d xs)) from I2.hok d _ hd2)
  rw [hg] at h1
  cases h1
  have hm : s1.heap.DictRaw d es ep := ⟨o, hg, h2, h3⟩
  refine ⟨⟨o, hg, h2.1⟩, fun a e => by cases e; exact ⟨o, hg, h2.2.1⟩, ?_⟩
  have I3 : Inv X pins σ (upd H1 d (.frz o (DN X.prog X.w d xs))) { s1 with heap := s1.heap.push { cls := .type "dict_items", data := .fields #[.ref d] } } := I2.kept (t' := s1.toks) fun b ob q => Heap.get?_push_of_some _ q
  have fin : wpAny (model X.prog X.w) X.A (pyIter (.ref s1.heap.objs.size)) (PIE X pins σ (.Tuple elts kk tpos) R) X.xe { s1 with heap := s1.heap.push { cls := .type "dict_items", data := .fields #[.ref d] } } := by
    refine wpAny_pyIter_items_raw (d := d) ⟨_, Heap.get?_push_size _ rfl, rfl, rfl⟩ (hm.push _) (pi_one (tk := s1.toks) I3 _ (turn_itemsN _ h3) ⟨.none, .none, ?_⟩ (q o))
    exact Heap.get?_push_size _ rfl
  show wpAny _ _ (callWith cpos (.builtin "dict.items") [.ref d] [] []) _ X.xe s1
  exact method_meetsIn PySem.F.slot_dict_items PySem.F.entry_dict_items rfl (PySem.evalArgs_none ⟨rfl, ⟨o, hg, h2.1⟩, PySem.F.args_dict_items_1 _, _, meets_dict_items_raw d hsys, ⟨⟨es, ep, hm⟩, fin⟩⟩)
section
variable {σ : L2.St} {H : Hp} {Q : VK} {P : Program} {w : World} {d b : Addr} {xs : List DE} {m : Mot}
theorem w_notInN {ty td : TE} (q : ty σ H fun y H1 => td σ H1 fun x H2 => kNotInN P w y x Q H2) : tNotInN P w ty td σ H Q := q
theorem w_kNotInN (e : H d = some (DN P w d xs)) (hk : KeysAt H xs) (eb : H b = some (.tup (m.map oV))) (q : Q (.bl (!(valN xs m).isSome)) H) : kNotInN P w (.ref b) (.ref d) Q H := ⟨d, b, xs, m, rfl, rfl, e, hk, eb, q⟩
theorem w_getN {ty td : TE} (q : td σ H fun x H1 => ty σ H1 fun y H2 => kGetN P w x y Q H2) : tGetN P w td ty σ H Q := q
theorem w_kGetN {p : Addr × V} (e : H d = some (DN P w d xs)) (hk : KeysAt H xs) (eb : H b = some (.tup (m.map oV))) (hv : valN xs m = some p) (q : Q p.2 H) : kGetN P w (.ref d) (.ref b) Q H := ⟨d, b, xs, m, p, rfl, rfl, e, hk, eb, hv, q⟩
theorem w_putN {td ty tv : TE} {n : L2.St → Hp → Prop} {rt : VK} {bk ct : L2.St → Hp → Prop} (q : tv σ H fun v H1 => td σ H1 fun x H2 => ty σ H2 fun y H3 => kPutN P w n σ x y v H3) : sPutN P w td ty tv ⟨n, rt, bk, ct⟩ σ H := q
theorem w_kPutN {n : L2.St → Hp → Prop} {v : V} (e : H d = some (DN P w d xs)) (hk : KeysAt H xs) (eb : H b = some (.tup (m.map oV))) (hv : valN xs m = none) (hl : xs.length < sizeLine) (q : n σ (upd H d (DN P w d (xs ++ [(m, b, v)])))) : kPutN P w n σ (.ref d) (.ref b) v H := ⟨d, b, xs, m, rfl, rfl, e, hk, eb, hv, hl, q⟩
end
end Sf
namespace Sf
open PySem PySem.Spec PyProof.Rows L2 TL
section
variable {P : Program} {w : World} {K : PySem.W.Frag} {mg : Str → Option Value} {base : Heap}
/-! ### is_upto -/
def upB : V → Int → Bool
  | .int i, m => decide (0 ≤ i) && decide (i ≤ m)
  | _, _ => false
def flat3 : V → Prop
  | .bl _ => True
  | .int _ => True
  | .str _ => True
  | _ => False
def spUp : Sp := fun vs H Q _ => ∃ (v : V) (m : Int), vs = [v, .int m] ∧ flat3 v ∧ Q (.bl (upB v m)) H
abbrev HasUp (P : Program) (w : World) (K : PySem.W.Frag) (mg : Str → Option Value) (base : Heap) : Prop := Has P w K mg base 1 "is_upto" ["thing", "most"] spUp
theorem sc_up : FnScope ["thing", "most"] ["thing", "most"] (defScope s_is_upto) := ⟨rfl, rfl, rfl, by decide +kernel, rfl, by decide +kernel, by decide +kernel⟩
theorem has_up (F : FnAt K mg "is_upto" s_is_upto ["thing", "most"]) (B : Blt mg) : HasUp P w K mg base := F.has fun F => by
  refine F.ok sc_up (fun vs H Q E h => ?_) (fun cdv A outer s H vs Q E hr h => ?_)
  · obtain ⟨v, m, rfl, _⟩ := h
    rfl
  · obtain ⟨v, m, rfl, hv, q⟩ := h
    refine ⟨_, (pss_one (ps_ret (pe_and (pe_callB call_isi (by rfl) B.isinstance (by decide +kernel) (pa_cons (pv 0) (pa_cons (pe_bltn (v := .ty "int") (by rfl) B.int (by decide +kernel) rfl) pa_nil))) (pe_and (pe_not (pe_callB call_isi (by rfl) B.isinstance (by decide +kernel) (pa_cons (pv 0) (pa_cons (pe_bltn (v := .ty "bool") (by rfl) B.bool (by decide +kernel) rfl) pa_nil)))) (pe_one (pe_chain op_le op_le pe_int (pv 0) (pv 1))))))), ?_⟩
    cases v with
    | int i =>
      walk_at "go"
      refine w_chain2 (fun h0 => ?_) (fun h0 => ?_)
      · walk_at "go"
        rw [upB, decide_eq_true h0, Bool.true_and] at q
        exact q
      · walk_at "go"
        rw [upB, decide_eq_false h0, Bool.false_and] at q
        exact q
    | bl b =>
      walk_at "go"
      exact q
    | str x =>
      walk_at "go"
      exact q
    | non => exact hv.elim
    | byt b => exact hv.elim
    | flt b => exact hv.elim
    | ref b => exact hv.elim
    | ty b => exact hv.elim
end
end Sf
namespace Sf
open PySem PySem.Spec PyProof.Rows L2 TL
/-! ### worlds in the heap -/
def wf (pl ld : Addr) : List (Str × V) := putF "leads" (.ref ld) (putF "places" (.ref pl) [])
theorem fpl_ne : ¬ (("places" : Str) = "leads") := by decide +kernel
theorem wf_places (pl ld : Addr) : (wf pl ld).lookup ("places" : Str) = some (.ref pl) := by
  unfold wf
  rw [lookup_putF, if_neg fpl_ne, lookup_putF, if_pos rfl]
theorem wf_leads (pl ld : Addr) : (wf pl ld).lookup ("leads" : Str) = some (.ref ld) := by
  unfold wf
  rw [lookup_putF, if_pos rfl]
theorem wf_no (pl ld : Addr) {m : Str} (h1 : ¬ m = "leads") (h2 : ¬ m = "places") : (wf pl ld).lookup m = none := by
  unfold wf
  rw [lookup_putF, if_neg h1, lookup_putF, if_neg h2]
  all_goals rfl
/-- moves in the heap -/
def MvAt (H : Hp) (v : V) (m : Mv) : Prop := ∃ t, v = .ref t ∧ H t = some (.tup [.str (one m.1), .int m.2.1, .int m.2.2])
abbrev MvsAt (H : Hp) (vs : List V) (ms : List Mv) : Prop := Paired (MvAt H) vs ms
/-- tuples stand -/
def Tps (H H' : Hp) : Prop := ∀ a xs, H a = some (.tup xs) → H' a = some (.tup xs)
theorem Tps.of {H H' : Hp} (s : Same H H') : Tps H H' := fun a xs h => s _ _ h
theorem Tps.refl {H : Hp} : Tps H H := fun _ _ h => h
theorem Tps.trans {H H1 H2 : Hp} (a : Tps H H1) (b : Tps H1 H2) : Tps H H2 := fun c xs h => b c xs (a c xs h)
theorem Tps.off {H H1 H2 : Hp} {p : Addr} {ys : List V} (a : Tps H H1) (h1 : H1 p = some (.lst ys)) (b : Of p H1 H2) : Tps H H2 := fun c xs h => b.at (ne_of (a _ _ h) h1 (by intro z; cases z)) (a _ _ h)
theorem Tps.offD {H H1 H2 : Hp} {p : Addr} {ys : List (Key × V)} (a : Tps H H1) (h1 : H1 p = some (.dK ys)) (b : Of p H1 H2) : Tps H H2 := fun c xs h => b.at (ne_of (a _ _ h) h1 (by intro z; cases z)) (a _ _ h)
theorem Tps.fx {H H1 : Hp} {b l : Addr} (h : Bag H b l) (f : Fx b H H1) : Tps H H1 := fun c xs e => f _ _ e (by
  obtain ⟨ns, k, z, r, hb⟩ := h
  exact ne_of e hb.hb (by intro q; cases q))
theorem MvsAt.tps {H H' : Hp} (s : Tps H H') {vs : List V} {ms : List Mv} (h : MvsAt H vs ms) : MvsAt H' vs ms := Paired.mapP h fun v m ⟨t, e, ht⟩ => ⟨t, e, s _ _ ht⟩
theorem paired_get {α β : Type} {R : α → β → Prop} : ∀ {as : List α} {bs : List β} {i : Nat} {a : α}, Paired R as bs → as[i]? = some a → ∃ b, bs[i]? = some b ∧ R a b
  | _, _, _, _, .nil, e => by simp at e
  | _, _, 0, _, .cons r _, e => by simp at e; subst e; exact ⟨_, rfl, r⟩
  | _, _, i + 1, x, .cons _ t, e => by
    obtain ⟨u, h1, h2⟩ := paired_get (i := i) (a := x) t (by simpa using e)
    exact ⟨u, by simpa using h1, h2⟩
def leV (d : Nat → Addr) (l : List Nat) : List (Key × V) := l.map fun c => ((Sum.inr (one c) : Key), V.ref (d c))
/-- leads in the heap; those of N are not known ahead -/
structure LdAt (H : Hp) (ld : Addr) (d : Nat → Addr) (L : Nat → List (Int × Int)) : Prop where
  hd : H ld = some (.dK (leV d sgs))
  hc : ∀ c ∈ sgs, H (d c) = some (.dK (kvI (L c)))
theorem LdAt.same {H H' : Hp} {ld : Addr} {d : Nat → Addr} {L : Nat → List (Int × Int)} (h : LdAt H ld d L) (s : Same H H') : LdAt H' ld d L := ⟨s _ _ h.hd, fun c hc => s _ _ (h.hc c hc)⟩
/-- a world -/
def WAt (C : Addr) (H : Hp) (p : Addr) (n : Int) (L : Nat → List (Int × Int)) : Prop := ∃ (dx pl ld : Addr) (d : Nat → Addr), H p = some (.ins C dx (wf pl ld)) ∧ H pl = some (.lst (rgV 0 n)) ∧ LdAt H ld d L
theorem WAt.same {C : Addr} {H H' : Hp} {p : Addr} {n : Int} {L : Nat → List (Int × Int)} (s : Same H H') : WAt C H p n L → WAt C H' p n L
  | ⟨dx, pl, ld, d, h1, h2, h3⟩ => ⟨dx, pl, ld, d, s _ _ h1, s _ _ h2, h3.same s⟩
structure WC (K : PySem.W.Frag) (mg : Str → Option Value) (C : Addr) : Prop where
  cl : Cls K C
  nP : PySem.W.findIn K (.ref C) "places" = some none
  nL : PySem.W.findIn K (.ref C) "leads" = some none
  mgC : mg "World" = some (.ref C)
  ha : PySem.W.findIn K (.ref C) "__class__" = some (some (.builtin "object.__class__"))
  hn : PySem.W.specialIn K (.builtin "object.__class__") "__get__" = some (some (.builtin "getset_descriptor.__get__"))
  htk : PySem.W.takesIn K (.builtin "object.__class__") = some true
  hm : PySem.W.mroIn K C (.type "object") = some true
  ne : PySem.W.findIn K (.ref C) "__ne__" = some (some (.builtin "object.__ne__"))
section
variable {P : Program} {w : World} {K : PySem.W.Frag} {mg : Str → Option Value} {base : Heap} {C : Addr}
/-! ### is_move (a move that is one) -/
def spIm : Sp := fun vs H Q _ => ∃ (t : Addr) (m : Mv) (n : Int), vs = [.ref t, .int n] ∧ H t = some (.tup [.str (one m.1), .int m.2.1, .int m.2.2]) ∧ 97 ≤ m.1 ∧ m.1 ≤ 104 ∧ 0 ≤ m.2.1 ∧ m.2.1 < n ∧ 0 ≤ m.2.2 ∧ m.2.2 < n ∧ Q (.bl true) H
abbrev HasIm (P : Program) (w : World) (K : PySem.W.Frag) (mg : Str → Option Value) (base : Heap) : Prop := Has P w K mg base 2 "is_move" ["move", "many"] spIm
theorem sc_im : FnScope ["move", "many"] ["move", "many"] (defScope s_is_move) := ⟨rfl, rfl, rfl, by decide +kernel, rfl, by decide +kernel, by decide +kernel⟩
theorem upB_true {i m : Int} (h0 : 0 ≤ i) (h1 : i ≤ m) : upB (.int i) m = true := by
  show (decide (0 ≤ i) && decide (i ≤ m)) = true
  rw [decide_eq_true h0, decide_eq_true h1]
  rfl
theorem has_im (F : FnAt K mg "is_move" s_is_move ["move", "many"]) (B : Blt mg) (h_Up : HasUp P w K mg base) {t1 : Tok} (C_LETTERS : mg "LETTERS" = some (.str (Str.ofString "abcdefgh") t1)) : HasIm P w K mg base := F.has fun F => by
  obtain ⟨f_Up, fd_Up, g_Up, k_Up, b_Up, G_Up⟩ := h_Up
  refine F.ok sc_im (fun vs H Q E h => ?_) (fun cdv A outer s H vs Q E hr h => ?_)
  · obtain ⟨t, m, n, rfl, _⟩ := h
    rfl
  · obtain ⟨t, m, n, rfl, ht, a1, a2, a3, a4, a5, a6, q⟩ := h
    refine ⟨_, (pss_cons (ps_if (PW.pt (pw_or (pt_cmpR op_ne (pe_callB call_lenQ (by rfl) B.len PySem.boot_len (pa_cons (pv 0) pa_nil)) pe_int (nomark _)) (pw_or (pt_not (pt_val (pe_call G_Up (hr.mono (by decide)) (by rfl) g_Up k_Up b_Up .nil pass0 (pa_cons (pe_ix ix_tup (pv 0) pe_int (fun _ _ => rfl)) (pa_cons (pe_op op_sub (pv 1) pe_int) pa_nil))))) (pw_or1 (pt_not (pt_val (pe_call G_Up (hr.mono (by decide)) (by rfl) g_Up k_Up b_Up .nil pass0 (pa_cons (pe_ix ix_tup (pv 0) pe_int (fun _ _ => rfl)) (pa_cons (pe_op op_sub (pv 1) pe_int) pa_nil))))))))) (pss_one (ps_ret pe_bl)) pss_nil) (pss_one (ps_ret (pe_and (pe_callB call_isi (by rfl) B.isinstance (by decide +kernel) (pa_cons (pe_ix ix_tup (pv 0) pe_int (fun _ _ => rfl)) (pa_cons (pe_bltn (v := .ty "str") (by rfl) B.str (by decide +kernel) rfl) pa_nil))) (pe_and (pe_cmpR op_eq (pe_callB call_lenS (by rfl) B.len PySem.boot_len (pa_cons (pe_ix ix_tup (pv 0) pe_int (fun _ _ => rfl)) pa_nil)) pe_int (nomark _)) (pe_one (pe_cmpR op_inSg (pe_ix ix_tup (pv 0) pe_int (fun _ _ => rfl)) (pe_gS (by rfl) C_LETTERS) rfl))))))), ?_⟩
    walk_at "go"
    refine w_orN2 (fun z => absurd rfl z) fun _ => ?_
    walk_at "go"
    refine ⟨_, _, rfl, trivial, ?_⟩
    rw [upB_true a3 (by omega)]
    walk_at "go"
    refine ⟨_, _, rfl, trivial, ?_⟩
    rw [upB_true a5 (by omega)]
    walk_at "go"
    refine w_lenS (by rw [len_one]; decide) ?_
    walk_at "go"
    refine w_andV2 (fun _ => ?_) (fun z => absurd rfl z)
    walk_at "go"
    rw [decide_eq_true (in_small.mpr ⟨a1, a2⟩)]
    exact q
end
end Sf
namespace Sf
open PySem PySem.Spec PyProof.Rows L2 TL
theorem w_lcT {P : Program} {w : World} {K : PySem.W.Frag} {σ : L2.St} {H : Hp} {Q : VK} {a : Addr} {xs : List V} {g : TG} {tt : TT} {te : TE} {vs : List Nat} (Pv : Addr → Nat → Hp → Prop) (h0 : ∀ p H1, H1 p = some (.lst []) → Nw p H H1 → Pv p 0 H1)
    (hl : ∀ p i H, i ≤ xs.length → Pv p i H → H a = some (.tup xs)) (hs : ∀ p i x H, xs[i]? = some x → Pv p i H → g x (wipe σ vs) H (kEach tt te vs σ p (Pv p (i + 1)))) (hd : ∀ p H, Pv p xs.length H → Q (.ref p) H) : kLc g tt te vs σ Q (Itt K a) H := by
  refine w_lcG (n := xs.length) Pv h0 (fun p i H hi h => ⟨xs, xs[i], SqT.of (hl p i H (Nat.le_of_lt hi) h), List.getElem?_eq_getElem hi⟩) (fun p H h => ⟨xs, SqT.of (hl p _ H (Nat.le_refl _) h), Nat.le_refl _⟩) ?_ hd
  rintro p i x H H' hi h ⟨rfl, hx⟩
  exact hs p i x H' (hx xs (SqT.of (hl p i H' (Nat.le_of_lt hi) h))) h
/-! ### a motion and another one behind it -/
def jn (s : Mot) (i : Int) : Option Int := (s[i.toNat]?).bind id
def compM (m s : Mot) : Mot := m.map fun o => o.bind (jn s)
/-- a motion of n places -/
def MotOk (n : Nat) (m : Mot) : Prop := m.length = n ∧ ∀ i, some i ∈ m → 0 ≤ i ∧ i < n
theorem MotOk.comp {n : Nat} {m s : Mot} (h : MotOk n m) (g : MotOk n s) : MotOk n (compM m s) := by
  refine ⟨by unfold compM; rw [List.length_map]; exact h.1, fun i hi => ?_⟩
  obtain ⟨o, _, e⟩ := List.mem_map.mp hi
  obtain ⟨j, _, e2⟩ := Option.bind_eq_some_iff.mp e
  obtain ⟨o2, e3, e4⟩ := Option.bind_eq_some_iff.mp e2
  have e4 : o2 = some i := e4
  subst e4
  exact g.2 i (List.mem_of_getElem? e3)
section
variable {P : Program} {w : World} {K : PySem.W.Frag} {mg : Str → Option Value} {base : Heap} {C : Addr}
def spBh : Sp := fun vs H Q _ => ∃ (a b : Addr) (m s : Mot) (n : Nat), vs = [.ref a, .ref b] ∧ H a = some (.tup (m.map oV)) ∧ H b = some (.tup (s.map oV)) ∧ MotOk n m ∧ MotOk n s ∧ n ≤ 1000 ∧
  ∀ (t : Addr) (H' : Hp), H t = none → Same H H' → H' t = some (.tup ((compM m s).map oV)) → Q (.ref t) H'
theorem sc_bh : FnScope ["motion", "step", "place"] ["motion", "step"] (defScope s_behind) := ⟨rfl, rfl, rfl, by decide +kernel, rfl, by decide +kernel, by decide +kernel⟩
theorem has_bh (F : FnAt K mg "behind" s_behind ["motion", "step"]) (B : Blt mg) : Has P w K mg base 1 "behind" ["motion", "step"] spBh := F.has fun F => by
  refine F.ok sc_bh (fun vs H Q E h => ?_) (fun cdv A outer s H vs Q E hr h => ?_)
  · obtain ⟨a, b, m, s, n, rfl, _⟩ := h
    rfl
  · obtain ⟨a, b, m, s, n, rfl, ha, hb, hm, hs, hn, q⟩ := h
    refine ⟨_, (pss_one (ps_ret (pe_callTy call_tupO (by rfl) B.tuple (by decide +kernel) (pa_cons (pe_lc (own := [("place", 2)]) (g := gName 2) (tt := tYes) (by rfl) sc_bh.nd (pi_tup (pv 0)) (blkOk_by (own := [("place", 2)]) (N := ["motion", "step", "place"]) (sc := defScope s_behind) (by decide +kernel)) (fun _ _ _ _ _ => pg_name (i := 2) sc_bh.nd rfl (.inl rfl)) (fun _ _ _ _ _ => pts_nil) (fun _ _ _ _ _ => (pe_ifExp (pt_cmpR op_isNn (pv 2) pe_non (nomark _)) pe_non (pe_ix (r := rIxT K) ix_tup (pv 1) (pv 2) (fun _ _ => rfl))))) pa_nil)))), ?_⟩
    have hml := hm.1
    have hsl := hs.1
    walk_at "go"
    refine w_lcT (P := P) (w := w) (xs := m.map oV) (fun r i H2 => Same H H2 ∧ H r = none ∧ H2 r = some (.lst (((m.take i).map fun o => oV (o.bind (jn s)))))) (fun r H2 hr nr => ⟨nr.same, nr.nn, hr⟩) (fun r i H2 _ h => h.1.at ha) ?_ ?_
    · rintro r i v H2 hv ⟨s2, nr, hr2⟩
      obtain ⟨o, ho, rfl⟩ : ∃ o, m[i]? = some o ∧ oV o = v := by
        rw [List.getElem?_map, Option.map_eq_some_iff] at hv
        exact hv
      have hil : i < m.length := (List.getElem?_eq_some_iff.mp ho).1
      have hl : ((m.take i).map fun o => oV (o.bind (jn s))).length < sizeLine := by
        rw [List.length_map, List.length_take]
        exact lineLt_of (by omega)
      cases o with
      | none =>
        walk_at "go"
        refine w_ifE2 (fun _ => ?_) (fun z => absurd rfl z)
        walk_at "go"
        refine w_kIt hr2 hl (fun H3 h3 o3 => ⟨s2.off o3 nr, nr, ?_⟩)
        rw [h3, take_snoc ho, List.map_append]
        rfl
      | some j =>
        obtain ⟨j0, jn'⟩ := hm.2 j (List.mem_of_getElem? ho)
        obtain ⟨u, hu⟩ : ∃ u, s[j.toNat]? = some u := ⟨_, List.getElem?_eq_getElem (show j.toNat < s.length by omega)⟩
        have hat : atI (s.map oV) j = some (oV (jn s j)) := by
          unfold jn
          rw [hu]
          have := atI_nat (xs := s.map oV) (j := j.toNat) (v := oV u) (by rw [List.getElem?_map, hu]; rfl)
          rwa [show ((j.toNat : Nat) : Int) = j by omega] at this
        have hb2 := s2.at hb
        walk_at "go"
        refine w_ifE2 (fun z => nomatch z) (fun _ => ?_)
        walk_at "go"
        refine w_ixT hb2 hat ?_
        refine w_kIt hr2 hl (fun H3 h3 o3 => ⟨s2.off o3 nr, nr, ?_⟩)
        rw [h3, take_snoc ho, List.map_append]
        rfl
    · rintro r H2 ⟨s2, nr, hr2⟩
      rw [List.length_map, List.take_length] at hr2
      walk_at "go"
      refine w_tupL hr2 (fun t H3 ht3 nt3 => ?_)
      refine q t H3 (s2.free nt3.nn) (s2.nw nt3) ?_
      rw [ht3]
      unfold compM
      rw [List.map_map]
      rfl
end
end Sf
namespace Sf
open PySem PySem.Spec PyProof.Rows L2 TL
section
variable {P : Program} {w : World} {K : PySem.W.Frag} {mg : Str → Option Value} {base : Heap} {C : Addr}
/-! ### leads_by -/
def spLb : Sp := fun vs H Q _ => ∃ (n : Int) (a : Addr) (us : List V) (ms : List Mv), vs = [.int n, .ref a] ∧ H a = some (.lst us) ∧ MvsAt H us ms ∧ WOk n ms ∧ ms.length ≤ 100000 ∧
  ∀ (ld : Addr) (d : Nat → Addr) (H' : Hp), H ld = none → (∀ c ∈ sgs, H (d c) = none) → Same H H' → LdAt H' ld d (LM ms) → Q (.ref ld) H'
abbrev HasLb (P : Program) (w : World) (K : PySem.W.Frag) (mg : Str → Option Value) (base : Heap) : Prop := Has P w K mg base 3 "leads_by" ["many", "moves"] spLb
theorem sc_lb : FnScope ["many", "moves", "sign", "leads", "move", "letter", "start", "end"] ["many", "moves"] (defScope s_leads_by) := ⟨rfl, rfl, rfl, by decide +kernel, rfl, by decide +kernel, by decide +kernel⟩
/-- what stands while leads are laid -/
structure LdIn (H0 H : Hp) (ld : Addr) (d : Nat → Addr) (S : List Nat) (L : Nat → List (Int × Int)) : Prop where
  hd : H ld = some (.dK (leV d S))
  hc : ∀ c ∈ S, H (d c) = some (.dK (kvI (L c)))
  sm : Same H0 H
  nl : H0 ld = none
  nd : ∀ c ∈ S, H0 (d c) = none
  ne : ∀ c ∈ S, d c ≠ ld
  inj : ∀ c ∈ S, ∀ e ∈ S, d c = d e → c = e
theorem kvI_put {l : List (Int × Int)} {x y : Int} (h : lk l x = none) : putK (kvI l) (Sum.inl x) (.int y) = kvI (l ++ [(x, y)]) := by
  rw [putK_new _ (by rw [val_kvI, h]; rfl)]
  unfold kvI
  rw [List.map_append]
  rfl
theorem LdIn.put {H0 H H1 : Hp} {ld : Addr} {d : Nat → Addr} {L : Nat → List (Int × Int)} {c : Nat} {x y : Int} (h : LdIn H0 H ld d sgs L) (hc : c ∈ sgs) (hx : lk (L c) x = none)
    (h1 : H1 (d c) = some (.dK (putK (kvI (L c)) (Sum.inl x) (.int y)))) (o : Of (d c) H H1) : LdIn H0 H1 ld d sgs (fun e => if e = c then L c ++ [(x, y)] else L e) := by
  refine ⟨o.at (h.ne c hc).symm h.hd, fun e he => ?_, h.sm.off o (h.nd c hc), h.nl, h.nd, h.ne, h.inj⟩
  by_cases z : e = c
  · subst z
    rw [if_pos rfl, h1, kvI_put hx]
  · rw [if_neg z]
    exact o.at (fun q => z (h.inj e he c hc q)) (h.hc e he)
theorem LdIn.cong {H0 H : Hp} {ld : Addr} {d : Nat → Addr} {S : List Nat} {L L' : Nat → List (Int × Int)} (h : LdIn H0 H ld d S L) (e : ∀ c ∈ S, L c = L' c) : LdIn H0 H ld d S L' := ⟨h.hd, fun c hc => by rw [← e c hc]; exact h.hc c hc, h.sm, h.nl, h.nd, h.ne, h.inj⟩
theorem up_one {c : Nat} (h : 97 ≤ c ∧ c ≤ 104) : Txt.upper (one c) = one (c - 32) := upper_one h
theorem small_sgs {c : Nat} (h : 97 ≤ c ∧ c ≤ 104) : c ∈ sgs := sgs_iff.mpr (sgn_iff.mpr (.inl h))
theorem great_sgs {c : Nat} (h : 97 ≤ c ∧ c ≤ 104) : c - 32 ∈ sgs := sgs_iff.mpr (sgn_iff.mpr (.inr (by omega)))
theorem has_lb (F : FnAt K mg "leads_by" s_leads_by ["many", "moves"]) (B : Blt mg) (h_Im : HasIm P w K mg base) {t1 : Tok} (C_SIGNS : mg "SIGNS" = some (.str (Str.ofString "aAbBcCdDeEfFgGhH") t1)) : HasLb P w K mg base := F.has fun F => by
  obtain ⟨f_Im, fd_Im, g_Im, k_Im, b_Im, G_Im⟩ := h_Im
  refine F.ok sc_lb (fun vs H Q E h => ?_) (fun cdv A outer s H vs Q E hr h => ?_)
  · obtain ⟨n, a, us, ms, rfl, _⟩ := h
    rfl
  · obtain ⟨n, a, us, ms, rfl, ha, hm, ok, hlen, q⟩ := h
    refine ⟨_, (pss_cons (ps_setDc (i := 3) (own := [("sign", 2)]) (g := gName 2) (tt := tYes) (by rfl) sc_lb.nd rfl rfl (swD_true rfl rfl rfl (by decide +kernel)) (pi_str (pe_gS (by rfl) C_SIGNS)) (blkOk_by (own := [("sign", 2)]) (N := ["many", "moves", "sign", "leads", "move", "letter", "start", "end"]) (sc := defScope s_leads_by) (by decide +kernel)) (fun _ _ _ _ _ => pg_name (i := 2) sc_lb.nd rfl (.inl rfl)) (fun _ _ _ _ _ => pts_nil) (fun _ _ _ _ _ => (pv 2)) (fun _ _ _ _ _ => pe_dnewK)) (pss_cons (ps_for PassesOwn.never rfl (pi_list (pv 1)) (pg_name (i := 4) sc_lb.nd rfl (.inl rfl)) (pss_cons (ps_if (pt_not (pt_val (pe_call G_Im (hr.mono (by decide)) (by rfl) g_Im k_Im b_Im .nil pass0 (pa_cons (pv 4) (pa_cons (pv 0) pa_nil))))) (pss_one (ps_never)) pss_nil) (pss_cons (ps_asg (pv 4) (pg_tup rfl (pgs_cons (pg_name (i := 5) sc_lb.nd rfl (.inl rfl)) (pgs_cons (pg_name (i := 6) sc_lb.nd rfl (.inl rfl)) (pgs_cons (pg_name (i := 7) sc_lb.nd rfl (.inl rfl)) pgs_nil))))) (pss_cons (ps_if (PW.pt (pw_or (pt_cmp (pc_din (hu_of hr) (pv 6) (pe_dget (hu_of hr) (pv 3) (pv 5) (fun _ _ => rfl)))) (pw_or1 (pt_cmp (pc_din (hu_of hr) (pv 7) (pe_dget (hu_of hr) (pv 3) (pe_m0 PySem.F.slot_str_upper PySem.F.type_str_upper mt_upN (pv 5)) (fun _ _ => rfl))))))) (pss_one (ps_never)) pss_nil) (pss_cons (ps_dput (hu_of hr) (pe_dget (hu_of hr) (pv 3) (pv 5) (fun _ _ => rfl)) (pv 6) (pv 7) rfl) (pss_one (ps_dput (hu_of hr) (pe_dget (hu_of hr) (pv 3) (pe_m0 PySem.F.slot_str_upper PySem.F.type_str_upper mt_upN (pv 5)) (fun _ _ => rfl)) (pv 7) (pv 6) rfl))))))) (pss_one (ps_ret (pv 3))))), ?_⟩
    walk_at "go"
    refine w_dcS (fun p i H1 => ∃ d, LdIn H H1 p d (sgs.take i) fun _ => []) (fun p H1 hp nw => ⟨fun _ => 0, hp, fun c hc => absurd hc (by simp), nw.same, nw.nn, fun c hc => absurd hc (by simp), fun c hc => absurd hc (by simp), fun c hc => absurd hc (by simp)⟩) ?_ ?_
    · rintro p i c H1 hc ⟨d, hI⟩
      have hc' : sgs[i]? = some c := by rw [← hc]; exact congrArg (·[i]?) tl_signs.symm
      have hnd : c ∉ sgs.take i := fun z => by
        have := take_snoc hc' ▸ (sgs_nd.sublist (List.take_sublist (i + 1) sgs))
        rw [List.nodup_append] at this
        exact this.2.2 c z c (List.mem_singleton.mpr rfl) rfl
      walk_at "go"
      refine w_dnewK (fun q H2 hq nq => ?_)
      refine w_kItDS (nq.at hI.hd) (by rw [leV, List.length_map, List.length_take]; exact Nat.lt_of_le_of_lt (Nat.min_le_right _ _) (by decide)) (fun H3 h3 o3 => ?_)
      have hin : ∀ e ∈ sgs.take (i + 1), e = c ∨ (e ≠ c ∧ e ∈ sgs.take i) := fun e he => by
        by_cases z : e = c
        · exact .inl z
        · rw [take_snoc hc', List.mem_append] at he
          exact .inr ⟨z, he.resolve_right fun y => z (List.mem_singleton.mp y)⟩
      refine ⟨fun e => if e = c then q else d e, ?_, fun e he => ?_, (hI.sm.nw nq).off o3 hI.nl, hI.nl, fun e he => ?_, fun e he => ?_, fun e he f hf z => ?_⟩
      · unfold leV at h3 ⊢
        rw [h3, putK_new _ (val_sgs_none hnd), take_snoc hc', List.map_append]
        refine congrArg some (congrArg HO.dK ?_)
        refine congr (congrArg _ (List.map_congr_left fun e he => ?_)) ?_
        · show _ = (Sum.inr (one e), V.ref (if e = c then q else d e))
          rw [if_neg (show ¬ e = c from fun z => hnd (z ▸ he))]
        · show _ = [((Sum.inr (one c) : Key), V.ref (if c = c then q else d c))]
          rw [if_pos rfl]
      · rcases hin e he with rfl | ⟨z, hz⟩
        · rw [if_pos rfl]
          exact o3.at (Nw.ne nq hI.hd).symm hq
        · rw [if_neg z]
          exact o3.at (hI.ne e hz) (nq.at (hI.hc e hz))
      · rcases hin e he with rfl | ⟨z, hz⟩
        · rw [if_pos rfl]
          exact hI.sm.free nq.nn
        · rw [if_neg z]
          exact hI.nd e hz
      · rcases hin e he with rfl | ⟨z, hz⟩
        · rw [if_pos rfl]
          exact (Nw.ne nq hI.hd).symm
        · rw [if_neg z]
          exact hI.ne e hz
      · rcases hin e he with rfl | ⟨ze, hze⟩
        · rcases hin f hf with rfl | ⟨zf, hzf⟩
          · rfl
          · rw [if_pos rfl, if_neg zf] at z
            exact absurd z.symm (Nw.ne nq (hI.hc f hzf))
        · rcases hin f hf with rfl | ⟨zf, hzf⟩
          · rw [if_neg ze, if_pos rfl] at z
            exact absurd z (Nw.ne nq (hI.hc e hze))
          · rw [if_neg ze, if_neg zf] at z
            exact hI.inj e hze f hzf z
    · rintro ld H1 ⟨d, hI⟩
      have hI : LdIn H H1 ld d sgs fun _ => [] := by
        have e : sgs.take (tl (Str.ofString "aAbBcCdDeEfFgGhH")).length = sgs := by
          rw [show tl (Str.ofString "aAbBcCdDeEfFgGhH") = sgs from tl_signs]
          exact List.take_length
        rw [e] at hI
        exact hI
      have ha1 := hI.sm _ _ ha
      walk_at "go"
      refine w_list (xs := us) (fun i σ H2 => ∃ (y2 y4 y5 y6 y7 : Option V), σ = [some (.int n), some (.ref a), y2, some (.ref ld), y4, y5, y6, y7] ∧ LdIn H H2 ld d sgs (LM (ms.take i)))
        ⟨none, none, none, none, none, rfl, hI.cong fun c _ => by rw [List.take_zero]; rfl⟩ (fun i σ H2 _ ⟨_, _, _, _, _, _, h⟩ => h.sm _ _ ha) ?_ ?_
      · rintro i v σ H2 hv ⟨y2, y4, y5, y6, y7, rfl, hJ⟩
        obtain ⟨m, hmi, t, rfl, ht⟩ := paired_get hm hv
        have ht2 := hJ.sm _ _ ht
        have hok : WOk n (ms.take i ++ [m]) := by rw [← take_snoc hmi]; exact ok.take _
        have hr' := hok.rg m (List.mem_append_right _ (List.mem_singleton.mpr rfl))
        have hsm := small_sgs ⟨hr'.1, hr'.2.1⟩
        have hgr := great_sgs ⟨hr'.1, hr'.2.1⟩
        have e1 := new_start hok
        have e2 := new_end hok
        have hne : m.1 - 32 ≠ m.1 := by omega
        have len0 : ∀ c, (kvI (LM (ms.take i) c)).length < sizeLine := fun c => by
          rw [kvI_len]
          exact lineLt_of (Nat.le_trans (LM_len _ _) (Nat.le_trans (by rw [List.length_take]; exact Nat.min_le_right _ _) hlen))
        walk_at "go"
        refine ⟨t, m, n, rfl, ht2, hr'.1, hr'.2.1, hr'.2.2.1, hr'.2.2.2.1, hr'.2.2.2.2.1, hr'.2.2.2.2.2, ?_⟩
        walk_at "go"
        refine w_kDGetS hJ.hd (val_sgs hsm) ?_
        have hd1 := hJ.hc _ hsm
        have hd2 := hJ.hc _ hgr
        walk_at "go"
        rw [val_kvI, e1]
        refine w_orF ?_
        walk_at "go"
        refine w_up1 ⟨hr'.1, hr'.2.1⟩ ?_
        refine w_kDGetS hJ.hd (val_sgs hgr) ?_
        walk_at "go"
        rw [val_kvI, e2]
        refine w_ifF ?_
        walk_at "go"
        refine w_kDGetS hJ.hd (val_sgs hsm) ?_
        walk_at "go"
        refine w_kDPutI hd1 (len0 _) (fun H3 h3 o3 => ?_)
        have hJ3 := hJ.put hsm e1 h3 o3
        walk_at "go"
        refine w_up1 ⟨hr'.1, hr'.2.1⟩ ?_
        refine w_kDGetS hJ3.hd (val_sgs hgr) ?_
        walk_at "go"
        have hd3 := hJ3.hc _ hgr
        rw [if_neg hne] at hd3
        refine w_kDPutI hd3 (len0 _) (fun H4 h4 o4 => ?_)
        have hJ4 := hJ3.put hgr (by rw [if_neg hne]; exact e2) (by rw [if_neg hne]; exact h4) o4
        walk_at "go"
        refine ⟨_, _, _, _, _, rfl, hJ4.cong fun c _ => ?_⟩
        rw [take_snoc hmi, LM_snoc]
        by_cases z1 : c = m.1 - 32
        · subst z1
          rw [if_pos rfl, if_neg hne, mvOn_great hr'.1]
          rfl
        · rw [if_neg z1]
          by_cases z2 : c = m.1
          · subst z2
            rw [if_pos rfl, mvOn_self]
            rfl
          · rw [if_neg z2, mvOn_other z2 z1 hr'.1, Option.toList, List.append_nil]
      · rintro σ H2 ⟨y2, y4, y5, y6, y7, rfl, hJ⟩
        walk_at "go"
        refine q ld d H2 hJ.nl hJ.nd hJ.sm ⟨hJ.hd, fun c hc => ?_⟩
        have e : ms.take us.length = ms := by rw [Paired.length hm, List.take_length]
        have := hJ.hc c hc
        rw [e] at this
        exact this
end
end Sf
namespace Sf
open PySem PySem.Spec PyProof.Rows L2 TL
section
variable {P : Program} {w : World} {K : PySem.W.Frag} {mg : Str → Option Value} {base : Heap} {C : Addr}
/-! ### World.__init__ -/
def spWI (C : Addr) : Sp := fun vs H Q _ => ∃ (p dx a : Addr) (n : Int) (us : List V) (ms : List Mv), vs = [.ref p, .int n, .ref a] ∧ H p = some (.ins C dx []) ∧ H a = some (.lst us) ∧ MvsAt H us ms ∧ WOk n ms ∧ ms.length ≤ 100000 ∧ 1 ≤ n ∧ n ≤ 1000 ∧
  ∀ H' G : Hp, WAt C G p n (LM ms) → Same G H' → (∀ b o, G b = some o → b = p ∨ H b = none) → (∀ b o, H b = some o → b ≠ p → H' b = some o) → Q .non H'
theorem sc_wi : FnScope ["self", "many", "moves"] ["self", "many", "moves"] (defScope s_World___init__) := ⟨rfl, rfl, rfl, by decide +kernel, rfl, by decide +kernel, by decide +kernel⟩
theorem has_wi (F : MAt K C "__init__" "World.__init__" s_World___init__ ["self", "many", "moves"]) (B : Blt mg) (T : WC K mg C) (h_Up : HasUp P w K mg base) (h_Lb : HasLb P w K mg base) {t1 : Tok} (C_MOST_PLACES : mg "MOST_PLACES" = some (.int 1000 t1)) : HasM P w K mg base C 4 "__init__" ["self", "many", "moves"] (spWI C) := F.has fun F => by
  obtain ⟨f_Up, fd_Up, g_Up, k_Up, b_Up, G_Up⟩ := h_Up
  obtain ⟨f_Lb, fd_Lb, g_Lb, k_Lb, b_Lb, G_Lb⟩ := h_Lb
  refine F.ok sc_wi (fun vs H Q E h => ?_) (fun cdv A outer s H vs Q E hr h => ?_)
  · obtain ⟨p, dx, a, n, us, ms, rfl, _⟩ := h
    rfl
  · obtain ⟨p, dx, a, n, us, ms, rfl, hp, ha, hm, ok, hlen, n1, n2, q⟩ := h
    refine ⟨_, (pss_cons (ps_if (PW.pt (pw_or (pt_not (pt_val (pe_call G_Up (hr.mono (by decide)) (by rfl) g_Up k_Up b_Up .nil pass0 (pa_cons (pv 1) (pa_cons (pe_gI (by rfl) C_MOST_PLACES) pa_nil))))) (pw_or1 (pt_cmpR op_eq (pv 1) pe_int (nomark _))))) (pss_one (ps_never)) pss_nil) (pss_cons (ps_fld (pv 0) (pe_listRg rfl (by rfl) B.list (prg_1 (by rfl) B.range (pv 1))) rfl) (pss_one (ps_fld (pv 0) (pe_call G_Lb (hr.mono (by decide)) (by rfl) g_Lb k_Lb b_Lb .nil pass0 (pa_cons (pv 1) (pa_cons (pv 2) pa_nil))) rfl)))), ?_⟩
    walk_at "go"
    refine ⟨_, _, rfl, trivial, ?_⟩
    rw [upB_true (by omega) n2]
    walk_at "go"
    refine w_if2 (fun z => absurd z (by omega)) fun _ => ?_
    walk_at "go"
    refine w_kRgL (.of_le (by decide) (by omega) (by decide) (by omega)) (fun pl H1 hpl npl => ?_)
    walk_at "go"
    refine w_kSFld (npl.at hp) T.cl T.nP (by decide) (fun H2 hp2 o2 => ?_)
    have nep : a ≠ p := ne_of ha hp (by intro z; cases z)
    have hpl2 : H2 pl = some (.lst (rgV 0 n)) := o2.at (Nw.ne npl hp).symm hpl
    have t2 : Tps H H2 := fun b xs h => o2.at (ne_of h hp (by intro z; cases z)) (npl.at h)
    walk_at "go"
    refine ⟨n, a, us, ms, rfl, o2.at nep (npl.at ha), hm.tps t2, ok, hlen, fun ld d H3 nld nd s3 hL => ?_⟩
    walk_at "go"
    refine w_kSFld (s3.at hp2) T.cl T.nL (by rw [show (putF "places" (V.ref pl) [] : List (Str × V)).length = 1 from rfl]; decide) (fun H4 hp4 o4 => ?_)
    walk_at "go"
    have hpl3 := s3.at hpl2
    have npp : pl ≠ p := (Nw.ne npl hp).symm
    have nlp : ld ≠ p := fun z => by rw [z, hp2] at nld; cases nld
    have ndp : ∀ c ∈ sgs, d c ≠ p := fun c hc z => by have := nd c hc; rw [z, hp2] at this; cases this
    have hnone : ∀ b, b ≠ p → H2 b = none → H b = none := fun b hb h => by
      cases e : H b with
      | none => rfl
      | some o => rw [o2.at hb (npl.at e)] at h; cases h
    refine q H4 (fun b => if b = p ∨ b = pl ∨ b = ld ∨ ∃ c ∈ sgs, b = d c then H4 b else none) ⟨dx, pl, ld, d, ?_, ?_, ?_, fun c hc => ?_⟩ (fun b o e => ?_) (fun b o e => ?_) (fun b o e hb => ?_)
    · show (if _ then _ else _) = _
      rw [if_pos (.inl rfl)]
      exact hp4
    · show (if _ then _ else _) = _
      rw [if_pos (.inr (.inl rfl))]
      exact o4.at npp hpl3
    · show (if _ then _ else _) = _
      rw [if_pos (.inr (.inr (.inl rfl)))]
      exact o4.at nlp hL.hd
    · show (if _ then _ else _) = _
      rw [if_pos (.inr (.inr (.inr ⟨c, hc, rfl⟩)))]
      exact o4.at (ndp c hc) (hL.hc c hc)
    · have e : (if _ then _ else _) = _ := e
      split at e
      · exact e
      · cases e
    · have e : (if _ then _ else _) = _ := e
      split at e
      · rename_i h
        rcases h with h | h | h | ⟨c, hc, h⟩
        · exact .inl h
        · exact .inr (by rw [h]; exact npl.nn)
        · exact .inr (hnone b (by rw [h]; exact nlp) (by rw [h]; exact nld))
        · exact .inr (hnone b (by rw [h]; exact ndp c hc) (by rw [h]; exact nd c hc))
      · cases e
    · exact o4.at hb (s3.at (o2.at hb (npl.at e)))
/-- a new world: what stands of it, and what stood -/
theorem w_world {H : Hp} {Q : VK} {a : Addr} {n : Int} {us : List V} {ms : List Mv} {E : XK} (ha : H a = some (.lst us)) (hm : MvsAt H us ms) (ok : WOk n ms) (hlen : ms.length ≤ 100000) (n1 : 1 ≤ n) (n2 : n ≤ 1000)
    (k : ∀ (p : Addr) (H' G : Hp), WAt C G p n (LM ms) → Same G H' → (∀ b o, G b = some o → H b = none) → Same H H' → Q (.ref p) H') : kMake C (spWI C) [] E Q [.int n, .ref a] H := fun x dx nx ndx hne => by
  have sm : Same H (upd (upd H dx (.own x)) x (.ins C dx [])) := (same_upd ndx).trans (same_upd (by rw [upd_ne hne.symm]; exact nx))
  refine ⟨x, dx, a, n, us, ms, rfl, upd_same, sm.at ha, hm.tps (.of sm), ok, hlen, n1, n2, fun H' G hW sG hG hf => ⟨rfl, k x H' G hW sG (fun b o e => ?_) fun b o e => hf b o (sm _ _ e) (ne_of_none e nx)⟩⟩
  rcases hG b o e with h | h
  · rw [h]
    exact nx
  · exact sm.free h
end
end Sf
namespace Sf
open PySem PySem.Spec PyProof.Rows L2 TL
section
variable {P : Program} {w : World} {K : PySem.W.Frag} {mg : Str → Option Value} {base : Heap} {C : Addr}
/-! ### World.led -/
def spLed (C : Addr) : Sp := fun vs H Q _ => ∃ (p : Addr) (n x : Int) (L : Nat → List (Int × Int)) (z : Str), vs = [.ref p, .str z, .int x] ∧ WAt C H p n L ∧ Wd z ∧ Q (oV (ledM (stp L) (tl z) x)) H
theorem sc_led : FnScope ["self", "word", "place", "here", "sign"] ["self", "word", "place"] (defScope s_World_led) := ⟨rfl, rfl, rfl, by decide +kernel, rfl, by decide +kernel, by decide +kernel⟩
theorem has_led (F : MAt K C "led" "World.led" s_World_led ["self", "word", "place"]) (T : WC K mg C) : HasM P w K mg base C 1 "led" ["self", "word", "place"] (spLed C) := F.has fun F => by
  refine F.ok sc_led (fun vs H Q E h => ?_) (fun cdv A outer s H vs Q E hr h => ?_)
  · obtain ⟨p, n, x, L, z, rfl, _⟩ := h
    rfl
  · obtain ⟨p, n, x, L, z, rfl, ⟨dx, pl, ld, d, hp, hpl, hL⟩, hz, q⟩ := h
    refine ⟨_, (pss_cons (ps_set (i := 3) sc_led.nd rfl (.inl rfl) (pv 2)) (pss_cons (ps_for PassesOwn.never rfl (pi_str (pv 1)) (pg_name (i := 4) sc_led.nd rfl (.inl rfl)) (pss_cons (ps_set (i := 3) sc_led.nd rfl (.inl rfl) (pe_dget1 (hu_of hr) (pe_dget (hu_of hr) (pe_fld (pv 0) rfl) (pv 4) (fun _ _ => rfl)) (pv 3) ⟨rfl, rfl, rfl, rfl⟩)) (pss_one (ps_if (pt_cmpR op_isNn (pv 3) pe_non (nomark _)) (pss_one (ps_ret pe_non)) pss_nil)))) (pss_one (ps_ret (pv 3))))), ?_⟩
    have hld := hL.hd
    walk_at "go"
    refine w_str (fun i σ H2 => ∃ (y4 : Option V) (y : Int), σ = [some (.ref p), some (.str z), some (.int x), some (.int y), y4] ∧ H2 = H ∧ ledM (stp L) ((tl z).take i) x = some y) ⟨none, x, rfl, rfl, rfl⟩ ?_ ?_
    · rintro i c σ H2 hc ⟨y4, y, rfl, rfl, e⟩
      have hs : c ∈ sgs := sgs_iff.mpr (hz c (List.mem_of_getElem? hc))
      have hdc := hL.hc c hs
      have e1 := ledM_snoc (st := stp L) (x := x) hc
      rw [e] at e1
      walk_at "go"
      refine w_kFld hp T.cl T.nL (wf_leads _ _) ?_
      walk_at "go"
      refine w_kDGetS hld (val_sgs hs) ?_
      walk_at "go"
      rw [getD_kvI]
      cases e2 : lk (L c) y with
      | none =>
        walk_at "go"
        have e3 : ledM (stp L) ((tl z).take (i + 1)) x = none := by rw [e1]; exact e2
        rw [ledM_none e3] at q
        exact q
      | some y' =>
        walk_at "go"
        exact ⟨_, y', rfl, rfl, by rw [e1]; exact e2⟩
    · rintro σ H2 ⟨y4, y, rfl, rfl, e⟩
      walk_at "go"
      rw [List.take_length] at e
      rw [e] at q
      exact q
def plc (n : Int) : List Int := (List.range n.toNat).map fun i => ((i : Nat) : Int)
theorem rgV_plc (n : Int) : rgV 0 n = (plc n).map V.int := by
  unfold rgV plc
  rw [List.map_map, Int.sub_zero]
  exact List.map_congr_left fun i _ => by show V.int (0 + (i : Int)) = V.int (i : Int); rw [Int.zero_add]
theorem oV_inj {a b : Option Int} (h : oV a = oV b) : a = b := by
  cases a <;> cases b <;> first | rfl | cases h | skip
  rfl
theorem scal_oV (a b : Option Int) : scal (oV a) (oV b) = true := by
  cases a <;> cases b <;> rfl
end
end Sf
namespace Sf
open PySem PySem.Spec PyProof.Rows L2 TL
def HasMX (P : Program) (w : World) (K : PySem.W.Frag) (mg : Str → Option Value) (base : Heap) (C : Addr) (k : Nat) (m : Str) (ps : List Str) (sp : Sp) : Prop :=
  ∃ (f : Addr) (fd : FuncData), Meth K C m f ∧ Binds K fd ps [] ∧ FnOk P w K mg base (L2.CX P w) k f fd ps sp
def HasX (P : Program) (w : World) (K : PySem.W.Frag) (mg : Str → Option Value) (base : Heap) (k : Nat) (x : Str) (ps : List Str) (sp : Sp) : Prop :=
  ∃ (f : Addr) (fd : FuncData), mg x = some (.ref f) ∧ PySem.W.keepIn K (.ref f) = true ∧ Binds K fd ps [] ∧ FnOk P w K mg base (L2.CX P w) k f fd ps sp
end Sf
namespace Sf
open PySem PySem.Spec PyProof.Rows L2 TL
section
variable {P : Program} {w : World} {K : PySem.W.Frag} {mg : Str → Option Value} {base : Heap} {C : Addr}
/-! ### _law_world: some world -/
def spLw : Sp := fun vs H Q _ => ∃ (b l : Addr) (u : Int) (z : Str), vs = [.ref b, .int u, .str z] ∧ Bag H b l ∧ 1 ≤ u ∧ u ≤ 1000 ∧ (∀ c ∈ tl z, 97 ≤ c ∧ c ≤ 104) ∧ (tl z).Nodup ∧ (tl z).length ≤ 8 ∧
  ∀ (t f : Addr) (n : Int) (us : List V) (ms : List Mv) (H' : Hp), H' t = some (.tup [.int n, .ref f]) → H' f = some (.lst us) → MvsAt H' us ms → WOk n ms → 1 ≤ n → n ≤ u → ms.length ≤ 8000 → (∀ m ∈ ms, m.1 ∈ tl z) → Bag H' b l → Fx b H H' → H f = none → f ≠ b → f ≠ l → Q (.ref t) H'
abbrev HasLw (P : Program) (w : World) (K : PySem.W.Frag) (mg : Str → Option Value) (base : Heap) : Prop := Has P w K mg base 2 "_law_world" ["_law_bag", "_law_upto", "_law_letters"] spLw
theorem sc_lw : FnScope ["_law_bag", "_law_upto", "_law_letters", "_law_many", "_law_found", "_law_letter", "_law_starts", "_law_ends", "_law_turn", "_law_start"] ["_law_bag", "_law_upto", "_law_letters"] (defScope s__law_world) := ⟨rfl, rfl, rfl, by decide +kernel, rfl, by decide +kernel, by decide +kernel⟩
theorem plc_mem {n x : Int} : x ∈ plc n ↔ 0 ≤ x ∧ x < n := by
  unfold plc
  rw [List.mem_map]
  constructor
  · rintro ⟨i, hi, rfl⟩
    have := List.mem_range.mp hi
    omega
  · rintro ⟨h0, h1⟩
    exact ⟨x.toNat, List.mem_range.mpr (by omega), by omega⟩
theorem plc_nodup (n : Int) : (plc n).Nodup := by
  unfold plc
  refine List.Pairwise.map _ (fun a b h => ?_) List.nodup_range
  omega
theorem plc_len {n : Int} : (plc n).length = n.toNat := by
  unfold plc
  rw [List.length_map, List.length_range]
theorem plc_at {n : Int} {j : Nat} (h : j < n.toNat) : (plc n)[j]? = some (0 + (j : Int)) := by
  unfold plc
  rw [List.getElem?_map, List.getElem?_range h, Int.zero_add]
  rfl
theorem abc_mem {d : Int} : ∀ c ∈ tl (cutS (Str.ofString "abc") none (some d)), 97 ≤ c ∧ c ≤ 104 := fun c hc => by
  rw [tl_cut] at hc
  have := List.mem_of_mem_drop (List.mem_of_mem_take hc)
  rw [show tl (Str.ofString "abc") = [97, 98, 99] by decide +kernel] at this
  simp only [List.mem_cons, List.not_mem_nil, or_false] at this
  omega
theorem abc_nd {d : Int} : (tl (cutS (Str.ofString "abc") none (some d))).Nodup := by
  rw [tl_cut]
  refine List.Nodup.sublist ((List.take_sublist _ _).trans (List.drop_sublist _ _)) ?_
  rw [show tl (Str.ofString "abc") = [97, 98, 99] by decide +kernel]
  decide
theorem abc_len {d : Int} : (tl (cutS (Str.ofString "abc") none (some d))).length ≤ 8 := by
  rw [tl_cut, List.length_take, List.length_drop, show tl (Str.ofString "abc") = [97, 98, 99] by decide +kernel]
  exact Nat.le_trans (Nat.min_le_right _ _) (Nat.le_trans (Nat.sub_le _ _) (by decide))
/-- what is left to draw from -/
structure Left (n : Int) (S : List Int) (j : Nat) : Prop where
  nd : S.Nodup
  rg : ∀ x ∈ S, 0 ≤ x ∧ x < n
  ln : S.length + j = n.toNat
theorem Left.pop {n x : Int} {S R : List Int} {j : Nat} (h : Left n S j) (p : S.Perm (x :: R)) : Left n R (j + 1) ∧ x ∉ R ∧ x ∈ S ∧ (∀ y ∈ R, y ∈ S) := by
  have nd := p.nodup_iff.mp h.nd
  rw [List.nodup_cons] at nd
  have hl := p.length_eq
  rw [List.length_cons] at hl
  have := h.ln
  exact ⟨⟨nd.2, fun y hy => h.rg y (p.mem_iff.mpr (List.mem_cons_of_mem _ hy)), by omega⟩, nd.1, p.mem_iff.mpr List.mem_cons_self, fun y hy => p.mem_iff.mpr (List.mem_cons_of_mem _ hy)⟩
theorem WOk.snoc {n : Int} {ms : List Mv} {m : Mv} (h : WOk n ms) (hr : 97 ≤ m.1 ∧ m.1 ≤ 104 ∧ 0 ≤ m.2.1 ∧ m.2.1 < n ∧ 0 ≤ m.2.2 ∧ m.2.2 < n) (hp : ∀ k ∈ ms, k.1 = m.1 → k.2.1 ≠ m.2.1 ∧ k.2.2 ≠ m.2.2) : WOk n (ms ++ [m]) := by
  refine ⟨fun k hk => ?_, List.pairwise_append.mpr ⟨h.pw, List.pairwise_singleton _ _, fun k hk m' hm' => ?_⟩⟩
  · rcases List.mem_append.mp hk with hk | hk
    · exact h.rg k hk
    · rw [List.mem_singleton.mp hk]
      exact hr
  · rw [List.mem_singleton.mp hm']
    exact hp k hk
theorem paired_snoc {α β : Type} {R : α → β → Prop} {a : α} {b : β} (h : R a b) : ∀ {as : List α} {bs : List β}, Paired R as bs → Paired R (as ++ [a]) (bs ++ [b])
  | _, _, .nil => .cons h .nil
  | _, _, .cons r t => .cons r (paired_snoc h t)
theorem has_lw (F : FnAt K mg "_law_world" s__law_world ["_law_bag", "_law_upto", "_law_letters"]) (B : Blt mg) (h_Pu : HasPull P w K mg base) : HasLw P w K mg base := F.has fun F => by
  obtain ⟨f_Pu, fd_Pu, g_Pu, k_Pu, b_Pu, G_Pu⟩ := h_Pu
  refine F.ok sc_lw (fun vs H Q E h => ?_) (fun cdv A outer s H vs Q E hr h => ?_)
  · obtain ⟨b, l, u, z, rfl, _⟩ := h
    rfl
  · obtain ⟨b, l, u, z, rfl, hB, u0, u1, hz, hnd, hz8, q⟩ := h
    refine ⟨_, (pss_cons (ps_set (i := 3) sc_lw.nd rfl (.inl rfl) (pe_op op_add pe_int (pe_call G_Pu (hr.mono (by decide)) (by rfl) g_Pu k_Pu b_Pu .nil pass0 (pa_cons (pv 0) (pa_cons (pv 1) pa_nil))))) (pss_cons (ps_set (i := 4) sc_lw.nd rfl (.inl rfl) (pe_lst pa_nil)) (pss_cons (ps_for PassesOwn.never rfl (pi_str (pv 2)) (pg_name (i := 5) sc_lw.nd rfl (.inl rfl)) (pss_cons (ps_set (i := 6) sc_lw.nd rfl (.inl rfl) (pe_listRg rfl (by rfl) B.list (prg_1 (by rfl) B.range (pv 3)))) (pss_cons (ps_set (i := 7) sc_lw.nd rfl (.inl rfl) (pe_listRg rfl (by rfl) B.list (prg_1 (by rfl) B.range (pv 3)))) (pss_one (ps_for PassesOwn.never rfl (pi_range1 rfl B.range (pa_cons (pe_call G_Pu (hr.mono (by decide)) (by rfl) g_Pu k_Pu b_Pu .nil pass0 (pa_cons (pv 0) (pa_cons (pe_op op_add (pv 3) pe_int) pa_nil))) pa_nil)) (pg_name (i := 8) sc_lw.nd rfl (.inl rfl)) (pss_cons (ps_set (i := 9) sc_lw.nd rfl (.inl rfl) (pe_bm PySem.F.plainAttrs_list PySem.F.slot_list_pop PySem.F.type_list_pop mt_popAt (pv 6) (pa_cons (pe_call G_Pu (hr.mono (by decide)) (by rfl) g_Pu k_Pu b_Pu .nil pass0 (pa_cons (pv 0) (pa_cons (pe_callB call_lenQ (by rfl) B.len PySem.boot_len (pa_cons (pv 6) pa_nil)) pa_nil))) pa_nil))) (pss_one (ps_expr (pe_bm PySem.F.plainAttrs_list PySem.F.slot_list_append PySem.F.type_list_append mt_append (pv 4) (pa_cons (pe_tup (pa_cons (pv 5) (pa_cons (pv 9) (pa_cons (pe_bm PySem.F.plainAttrs_list PySem.F.slot_list_pop PySem.F.type_list_pop mt_popAt (pv 7) (pa_cons (pe_call G_Pu (hr.mono (by decide)) (by rfl) g_Pu k_Pu b_Pu .nil pass0 (pa_cons (pv 0) (pa_cons (pe_callB call_lenQ (by rfl) B.len PySem.boot_len (pa_cons (pv 7) pa_nil)) pa_nil))) pa_nil)) pa_nil)))) pa_nil)))))))))) (pss_one (ps_ret (pe_tup (pa_cons (pv 3) (pa_cons (pv 4) pa_nil)))))))), ?_⟩
    walk_at "go"
    refine ⟨b, l, u, rfl, hB, by omega, by omega, fun d H1 d0 d1 B1 f1 => ?_⟩
    walk_at "go"
    refine w_newL (by decide) (fun f H2 hf nf => ?_)
    have B2 := B1.nw nf
    have nfb := B1.ne nf.nn
    have nfl := B1.neL nf.nn
    have nfH : H f = none := by
      cases e : H f with
      | none => rfl
      | some o => have := nf.nn; rw [f1 _ _ e nfb] at this; cases this
    obtain ⟨n, en⟩ : ∃ n, n = 1 + d := ⟨_, rfl⟩
    rw [← en]
    walk_at "go"
    refine w_str (fun i σ H3 => ∃ (y5 y6 y7 y8 y9 : Option V) (us : List V) (ms : List Mv), σ = [some (.ref b), some (.int u), some (.str z), some (.int n), some (.ref f), y5, y6, y7, y8, y9] ∧ H3 f = some (.lst us) ∧ MvsAt H3 us ms ∧ WOk n ms ∧ Bag H3 b l ∧ Fx b H H3 ∧ (∀ m ∈ ms, m.1 ∈ (tl z).take i) ∧ ms.length ≤ i * n.toNat)
      ⟨none, none, none, none, none, [], [], rfl, hf, .nil, ⟨fun m hm => absurd hm (by simp), .nil⟩, B2, f1.nw nf, fun m hm => absurd hm (by simp), Nat.zero_le _⟩ ?_ ?_
    · rintro i c σ H3 hc ⟨y5, y6, y7, y8, y9, us, ms, rfl, hf3, hm3, ok3, B3, f3, hin3, hl3⟩
      have hi8 : i < 8 := Nat.lt_of_lt_of_le (List.getElem?_eq_some_iff.mp hc).1 hz8
      have hc97 := hz c (List.mem_of_getElem? hc)
      have hnotin : ∀ m ∈ ms, m.1 ≠ c := fun m hm e => by
        have h1 := hin3 m hm
        rw [e] at h1
        have h2 := take_snoc hc ▸ (hnd.sublist (List.take_sublist (i + 1) (tl z)))
        rw [List.nodup_append] at h2
        exact h2.2.2 c h1 c (List.mem_singleton.mpr rfl) rfl
      walk_at "go"
      refine w_kRgL (.of_le (by decide) (by omega) (by decide) (by omega)) (fun s1 H4 hs4 ns4 => ?_)
      walk_at "go"
      refine w_kRgL (.of_le (by decide) (by omega) (by decide) (by omega)) (fun e1 H5 he5 ne5 => ?_)
      have B4 := B3.nw ns4
      have B5 := B4.nw ne5
      have sb := B3.ne ns4.nn
      have sl := B3.neL ns4.nn
      have eb := B4.ne ne5.nn
      have el := B4.neL ne5.nn
      have sf : f ≠ s1 := ns4.ne hf3
      have ef : f ≠ e1 := ne5.ne (ns4.at hf3)
      have se : s1 ≠ e1 := ne5.ne hs4
      have sH : H s1 = none := by
        cases e : H s1 with
        | none => rfl
        | some o => have := ns4.nn; rw [f3 _ _ e sb] at this; cases this
      have eH : H e1 = none := by
        cases e : H e1 with
        | none => rfl
        | some o => have := ne5.nn; rw [ns4.at (f3 _ _ e eb)] at this; cases this
      walk_at "go"
      refine ⟨b, l, n + 1, rfl, B5, by omega, by omega, fun k H6 k0 k1 B6 f6 => ?_⟩
      walk_at "go"
      refine w_kRng1 (by omega) (by omega) ?_
      refine w_range (fun j σ H7 => ∃ (y8 y9 : Option V) (us' : List V) (ms' : List Mv) (S R : List Int), σ = [some (.ref b), some (.int u), some (.str z), some (.int n), some (.ref f), some (.str (one c)), some (.ref s1), some (.ref e1), y8, y9] ∧ H7 f = some (.lst us') ∧ MvsAt H7 us' ms' ∧ WOk n ms' ∧ Bag H7 b l ∧ Fx b H H7 ∧ (∀ m ∈ ms', m.1 ∈ (tl z).take (i + 1)) ∧ ms'.length ≤ i * n.toNat + j ∧
          H7 s1 = some (.lst (S.map V.int)) ∧ H7 e1 = some (.lst (R.map V.int)) ∧ Left n S j ∧ Left n R j ∧ ∀ m ∈ ms', m.1 = c → m.2.1 ∉ S ∧ m.2.2 ∉ R)
        ⟨_, _, us, ms, plc n, plc n, rfl, f6.at nfb (ne5.at (ns4.at hf3)), (hm3.tps (.of (ns4.same.trans ne5.same))).tps (.fx B5 f6), ok3, B6, ((f3.nw ns4).nw ne5).trans f6, fun m hm => by rw [take_snoc hc]; exact List.mem_append_left _ (hin3 m hm), hl3, by rw [← rgV_plc]; exact f6.at sb (ne5.at hs4), by rw [← rgV_plc]; exact f6.at eb he5, ⟨plc_nodup n, fun x hx => plc_mem.mp hx, plc_len⟩, ⟨plc_nodup n, fun x hx => plc_mem.mp hx, plc_len⟩, fun m hm e => absurd e (hnotin m hm)⟩ ?_ ?_
      · rintro j σ H7 hj ⟨y8, y9, us', ms', S, R, rfl, hf7, hm7, ok7, B7, f7, hin7, hl7, hs7, he7, LS, LR, hd7⟩
        have lS := LS.ln
        have lR := LR.ln
        walk_at "go"
        refine ⟨b, l, _, rfl, B7, by rw [List.length_map]; omega, by rw [List.length_map]; omega, fun d H8 d0 d1 B8 f8 => ?_⟩
        rw [List.length_map] at d1
        walk_at "go"
        refine w_popI (f8.at sb hs7) d0 d1 (by omega) (fun x S' H9 pS hs9 o9 => ?_)
        obtain ⟨LS', xS', xS, sS⟩ := LS.pop pS
        have B9 := B8.off sb sl o9
        have he9 : H9 e1 = some (.lst (R.map V.int)) := o9.at se.symm (f8.at eb he7)
        have hf9 : H9 f = some (.lst us') := o9.at sf (f8.at nfb hf7)
        have t9 : Tps H7 H9 := (Tps.fx B7 f8).off (f8.at sb hs7) o9
        walk_at "go"
        refine ⟨b, l, _, rfl, B9, by rw [List.length_map]; omega, by rw [List.length_map]; omega, fun d' H10 d0' d1' B10 f10 => ?_⟩
        rw [List.length_map] at d1'
        walk_at "go"
        refine w_popI (f10.at eb he9) d0' d1' (by omega) (fun y R' H11 pR he11 o11 => ?_)
        obtain ⟨LR', yR', yR, sR⟩ := LR.pop pR
        have B11 := B10.off eb el o11
        have hf11 : H11 f = some (.lst us') := o11.at ef (f10.at nfb hf9)
        have hs11 : H11 s1 = some (.lst (S'.map V.int)) := o11.at se (f10.at sb hs9)
        have t11 : Tps H7 H11 := t9.trans ((Tps.fx B9 f10).off (f10.at eb he9) o11)
        walk_at "go"
        refine w_newT (by walk_at "sz") (fun t H12 ht12 nt12 => ?_)
        have t12 : Tps H7 H12 := t11.trans (.of nt12.same)
        have hlu : us'.length = ms'.length := Paired.length hm7
        have hjn : i * n.toNat + j ≤ 8000 := Nat.le_trans (Nat.add_le_add (Nat.mul_le_mul (show i ≤ 7 by omega) (show n.toNat ≤ 1000 by omega)) (show j ≤ 1000 by omega)) (by decide)
        walk_at "go"
        refine w_append (nt12.at hf11) (lineLt_of (by omega)) (fun H13 hf13 o13 => ?_)
        have nft : f ≠ t := nt12.ne hf11
        walk_at "go"
        refine ⟨_, _, us' ++ [.ref t], ms' ++ [(c, x, y)], S', R', rfl, hf13, paired_snoc ⟨t, rfl, o13.at nft.symm ht12⟩ (hm7.tps (t12.off (nt12.at hf11) o13)), ok7.snoc ?_ ?_, (B11.nw nt12).off nfb nfl o13, ?_, ?_, ?_, o13.at sf.symm (nt12.at hs11), o13.at ef.symm (nt12.at he11), LS', LR', ?_⟩
        · exact ⟨hc97.1, hc97.2, (LS.rg x xS).1, (LS.rg x xS).2, (LR.rg y yR).1, (LR.rg y yR).2⟩
        · intro k hk e
          have := hd7 k hk e
          exact ⟨fun z => this.1 (z ▸ xS), fun z => this.2 (z ▸ yR)⟩
        · exact ((((f7.trans f8).off o9 sH).trans f10).off o11 eH |>.nw nt12).off o13 nfH
        · intro m hm
          rcases List.mem_append.mp hm with hm | hm
          · exact hin7 m hm
          · rw [List.mem_singleton.mp hm, take_snoc hc]
            exact List.mem_append_right _ (List.mem_singleton.mpr rfl)
        · rw [List.length_append]
          show ms'.length + 1 ≤ _
          omega
        · intro m hm e
          rcases List.mem_append.mp hm with hm | hm
          · have := hd7 m hm e
            exact ⟨fun z => this.1 (sS _ z), fun z => this.2 (sR _ z)⟩
          · rw [List.mem_singleton.mp hm]
            exact ⟨xS', yR'⟩
      · rintro σ H7 ⟨y8, y9, us', ms', S, R, rfl, hf7, hm7, ok7, B7, f7, hin7, hl7, hs7, he7, LS, LR, hd7⟩
        refine ⟨_, _, _, _, _, us', ms', rfl, hf7, hm7, ok7, B7, f7, hin7, ?_⟩
        have h1 : (i + 1) * n.toNat = i * n.toNat + n.toNat := Nat.succ_mul ..
        omega
    · rintro σ H3 ⟨y5, y6, y7, y8, y9, us, ms, rfl, hf3, hm3, ok3, B3, f3, hin3, hl3⟩
      walk_at "go"
      refine w_newT (by walk_at "sz") (fun t H4 ht4 nt4 => ?_)
      refine q t f n us ms H4 ht4 (nt4.at hf3) (hm3.tps (.of nt4.same)) ok3 (by omega) (by omega) ?_ (fun m hm => ?_) (B3.nw nt4) (f3.nw nt4) nfH nfb nfl
      · exact Nat.le_trans hl3 (Nat.le_trans (Nat.mul_le_mul hz8 (show n.toNat ≤ 1000 by omega)) (by decide))
      · exact List.mem_of_mem_take (hin3 m hm)
end
end Sf
namespace Sf
open PySem PySem.Spec PyProof.Rows L2 TL
/-! ### the law's own leading -/
def hitS (c : Nat) (x : Int) (m : Mv) : Option Int := if m.1 = c ∧ m.2.1 = x then some m.2.2 else none
def hitG (c : Nat) (x : Int) (m : Mv) : Option Int := if m.1 = c ∧ m.2.2 = x then some m.2.1 else none
theorem hitS_lk {c : Nat} {x : Int} : ∀ {ms : List Mv}, (∀ m ∈ ms, m.1 ≠ c + 32) → lk (LM ms c) x = (ms.filterMap (hitS c x)).head?
  | [], _ => rfl
  | m :: r, h => by
    have ih := hitS_lk (c := c) (x := x) fun k hk => h k (List.mem_cons_of_mem _ hk)
    have hm := h m List.mem_cons_self
    unfold LM at ih ⊢
    by_cases e : m.1 = c
    · have e1 : mvOn c m = some (m.2.1, m.2.2) := by unfold mvOn; rw [if_pos e]
      rw [List.filterMap_cons_some e1]
      by_cases e2 : m.2.1 = x
      · have e3 : hitS c x m = some m.2.2 := by unfold hitS; rw [if_pos ⟨e, e2⟩]
        rw [List.filterMap_cons_some e3]
        unfold lk
        rw [List.find?_cons, decide_eq_true e2]
        rfl
      · have e3 : hitS c x m = none := by unfold hitS; rw [if_neg (fun z => e2 z.2)]
        rw [List.filterMap_cons_none e3, ← ih]
        unfold lk
        rw [List.find?_cons, decide_eq_false e2]
    · have e1 : mvOn c m = none := by unfold mvOn; rw [if_neg e, if_neg hm]
      have e3 : hitS c x m = none := by unfold hitS; rw [if_neg (fun z => e z.1)]
      rw [List.filterMap_cons_none e1, List.filterMap_cons_none e3]
      exact ih
theorem hitG_lk {c : Nat} {x : Int} : ∀ {ms : List Mv}, (∀ m ∈ ms, m.1 ≠ c) → lk (LM ms c) x = (ms.filterMap (hitG (c + 32) x)).head?
  | [], _ => rfl
  | m :: r, h => by
    have ih := hitG_lk (c := c) (x := x) fun k hk => h k (List.mem_cons_of_mem _ hk)
    have hm := h m List.mem_cons_self
    unfold LM at ih ⊢
    by_cases e : m.1 = c + 32
    · have e1 : mvOn c m = some (m.2.2, m.2.1) := by unfold mvOn; rw [if_neg hm, if_pos e]
      rw [List.filterMap_cons_some e1]
      by_cases e2 : m.2.2 = x
      · have e3 : hitG (c + 32) x m = some m.2.1 := by unfold hitG; rw [if_pos ⟨e, e2⟩]
        rw [List.filterMap_cons_some e3]
        unfold lk
        rw [List.find?_cons, decide_eq_true e2]
        rfl
      · have e3 : hitG (c + 32) x m = none := by unfold hitG; rw [if_neg (fun z => e2 z.2)]
        rw [List.filterMap_cons_none e3, ← ih]
        unfold lk
        rw [List.find?_cons, decide_eq_false e2]
    · have e1 : mvOn c m = none := by unfold mvOn; rw [if_neg hm, if_neg e]
      have e3 : hitG (c + 32) x m = none := by unfold hitG; rw [if_neg (fun z => e z.1)]
      rw [List.filterMap_cons_none e1, List.filterMap_cons_none e3]
      exact ih
theorem fm_snoc {α β : Type} {f : α → Option β} {l : List α} {i : Nat} {x : α} (h : l[i]? = some x) : (l.take (i + 1)).filterMap f = (l.take i).filterMap f ++ (f x).toList := by
  rw [take_snoc h, List.filterMap_append, List.filterMap_cons]
  cases f x <;> rfl
section
variable {P : Program} {w : World} {K : PySem.W.Frag} {mg : Str → Option Value} {base : Heap} {C : Addr}
def spLld : Sp := fun vs H Q _ => ∃ (a : Addr) (us : List V) (ms : List Mv) (z : Str) (x : Int), vs = [.ref a, .str z, .int x] ∧ H a = some (.lst us) ∧ MvsAt H us ms ∧ (∀ m ∈ ms, 97 ≤ m.1 ∧ m.1 ≤ 104) ∧ ms.length ≤ 100000 ∧ Wd z ∧
  ∀ H', Same H H' → Q (oV (ledM (stp (LM ms)) (tl z) x)) H'
abbrev HasLld (P : Program) (w : World) (K : PySem.W.Frag) (mg : Str → Option Value) (base : Heap) : Prop := Has P w K mg base 1 "_law_led" ["_law_moves", "_law_word", "_law_place"] spLld
theorem sc_lld : FnScope ["_law_moves", "_law_word", "_law_place", "_law_sign", "_law_letter", "_law_start", "_law_end", "_law_ends"] ["_law_moves", "_law_word", "_law_place"] (defScope s__law_led) := ⟨rfl, rfl, rfl, by decide +kernel, rfl, by decide +kernel, by decide +kernel⟩
theorem has_lld (F : FnAt K mg "_law_led" s__law_led ["_law_moves", "_law_word", "_law_place"]) : HasLld P w K mg base := F.has fun F => by
  refine F.ok sc_lld (fun vs H Q E h => ?_) (fun cdv A outer s H vs Q E hr h => ?_)
  · obtain ⟨a, us, ms, z, x, rfl, _⟩ := h
    rfl
  · obtain ⟨a, us, ms, z, x, rfl, ha, hm, hms, hlen, hz, q⟩ := h
    refine ⟨_, (pss_cons (ps_for PassesOwn.never rfl (pi_str (pv 1)) (pg_name (i := 3) sc_lld.nd rfl (.inr rfl)) (pss_one (ps_if (PW.pt (pw_and (pt_cmpR op_notNn (pv 2) pe_non (nomark _)) (pw_and1 (pt_cmpR op_inSg (pv 3) pe_str rfl)))) (pss_cons (ps_setLc (i := 7) (own := [("_law_letter", 4), ("_law_start", 5), ("_law_end", 6)]) (g := gTup K 3 (gCons (gName 4) (gCons (gName 5) (gCons (gName 6) gNil)))) (by rfl) sc_lld.nd rfl rfl (sw_true rfl rfl rfl (by decide +kernel)) (pi_list (pv 0)) (blkOk_by (own := [("_law_letter", 4), ("_law_start", 5), ("_law_end", 6)]) (N := ["_law_moves", "_law_word", "_law_place", "_law_sign", "_law_letter", "_law_start", "_law_end", "_law_ends"]) (sc := defScope s__law_led) (by decide +kernel)) (fun _ _ _ _ _ => pg_tup rfl (pgs_cons (pg_name (i := 4) sc_lld.nd rfl (.inl rfl)) (pgs_cons (pg_name (i := 5) sc_lld.nd rfl (.inl rfl)) (pgs_cons (pg_name (i := 6) sc_lld.nd rfl (.inl rfl)) pgs_nil)))) (fun _ _ _ _ _ => pts_one (PW.pt (pw_and (pt_cmpR op_eq (pv 4) (pv 3) (nomark _)) (pw_and1 (pt_cmpR op_eq (pv 5) (pv 2) (nomark _)))))) (fun _ _ _ _ _ => (pv 6))) (pss_one (ps_set (i := 2) sc_lld.nd rfl (.inr rfl) (pe_ifExp (pt_cmpR (op_neD hr.units) (pv 7) (pe_lst pa_nil) (nomark _)) (pe_ix ix_list (pv 7) pe_int (fun _ _ => rfl)) pe_non)))) (pss_one (ps_if (pt_cmpR op_notNn (pv 2) pe_non (nomark _)) (pss_cons (ps_setLc (i := 7) (own := [("_law_letter", 4), ("_law_start", 5), ("_law_end", 6)]) (g := gTup K 3 (gCons (gName 4) (gCons (gName 5) (gCons (gName 6) gNil)))) (by rfl) sc_lld.nd rfl rfl (sw_true rfl rfl rfl (by decide +kernel)) (pi_list (pv 0)) (blkOk_by (own := [("_law_letter", 4), ("_law_start", 5), ("_law_end", 6)]) (N := ["_law_moves", "_law_word", "_law_place", "_law_sign", "_law_letter", "_law_start", "_law_end", "_law_ends"]) (sc := defScope s__law_led) (by decide +kernel)) (fun _ _ _ _ _ => pg_tup rfl (pgs_cons (pg_name (i := 4) sc_lld.nd rfl (.inl rfl)) (pgs_cons (pg_name (i := 5) sc_lld.nd rfl (.inl rfl)) (pgs_cons (pg_name (i := 6) sc_lld.nd rfl (.inl rfl)) pgs_nil)))) (fun _ _ _ _ _ => pts_one (PW.pt (pw_and (pt_cmpR op_eq (pv 4) (pe_m0 PySem.F.slot_str_lower PySem.F.type_str_lower mt_loN (pv 3)) (nomark _)) (pw_and1 (pt_cmpR op_eq (pv 6) (pv 2) (nomark _)))))) (fun _ _ _ _ _ => (pv 5))) (pss_one (ps_set (i := 2) sc_lld.nd rfl (.inr rfl) (pe_ifExp (pt_cmpR (op_neD hr.units) (pv 7) (pe_lst pa_nil) (nomark _)) (pe_ix ix_list (pv 7) pe_int (fun _ _ => rfl)) pe_non)))) pss_nil))))) (pss_one (ps_ret (pv 2)))), ?_⟩
    walk_at "go"
    refine w_str (fun i σ H2 => ∃ (y3 y4 y5 y6 y7 : Option V), σ = [some (.ref a), some (.str z), some (oV (ledM (stp (LM ms)) ((tl z).take i) x)), y3, y4, y5, y6, y7] ∧ Same H H2) ⟨none, none, none, none, none, rfl, .refl _⟩ ?_ ?_
    · rintro i c σ H2 hc ⟨y3, y4, y5, y6, y7, rfl, s2⟩
      have e1 := ledM_snoc (st := stp (LM ms)) (x := x) hc
      have ha2 := s2.at ha
      have hsg := sgn_iff.mp (hz c (List.mem_of_getElem? hc))
      have hus : us.length = ms.length := Paired.length hm
      have hlf : ∀ (f : Mv → Option Int) (j : Nat), (((ms.take j).filterMap f).map V.int).length < sizeLine := fun f j => by
        rw [List.length_map]
        exact lineLt_of (Nat.le_trans (List.length_filterMap_le ..) (Nat.le_trans (by rw [List.length_take]; exact Nat.min_le_right _ _) hlen))
      cases e2 : ledM (stp (LM ms)) ((tl z).take i) x with
      | none =>
        rw [e2] at e1
        have e1 : ledM (stp (LM ms)) ((tl z).take (i + 1)) x = none := e1
        show gName _ _ [some (V.ref a), some (V.str z), some V.non, y3, y4, y5, y6, y7] _ _
        walk_at "go"
        exact ⟨_, _, _, _, _, by rw [e1]; rfl, s2⟩
      | some y =>
        rw [e2] at e1
        have e1 : ledM (stp (LM ms)) ((tl z).take (i + 1)) x = lk (LM ms c) y := e1
        show gName _ _ [some (V.ref a), some (V.str z), some (V.int y), y3, y4, y5, y6, y7] _ _
        walk_at "go"
        refine w_if2 (fun hin => ?_) (fun hin => ?_)
        · have hs := in_small.mp hin
          rw [hitS_lk (fun m hm => by have := hms m hm; omega)] at e1
          walk_at "go"
          refine w_lcL (xs := us) (fun p j H3 => Same H2 H3 ∧ H2 p = none ∧ H3 p = some (.lst (((ms.take j).filterMap (hitS c y)).map V.int))) (fun p H3 hp np => ⟨np.same, np.nn, hp⟩) (fun p j H3 _ h => h.1.at ha2) ?_ ?_
          · rintro p j v H3 hv ⟨s3, np, hp⟩
            obtain ⟨m, hmj, t, rfl, ht⟩ := paired_get hm hv
            have ht3 := s3.at (s2.at ht)
            walk_at "go"
            refine w_and2 (fun h1 => ?_) (fun h1 => ?_)
            · walk_at "go"
              refine w_tst2 (fun h2 => ?_) (fun h2 => ?_)
              · walk_at "go"
                refine w_kIt hp (hlf _ _) (fun H4 hp4 o4 => ⟨s3.off o4 np, np, ?_⟩)
                have e3 : hitS c y m = some m.2.2 := by unfold hitS; rw [if_pos ⟨one_inj h1, h2⟩]
                rw [hp4, fm_snoc hmj, e3, List.map_append]
                rfl
              · have e3 : hitS c y m = none := by unfold hitS; rw [if_neg (fun z => h2 z.2)]
                exact ⟨s3, np, by rw [fm_snoc hmj, e3, Option.toList, List.append_nil]; exact hp⟩
            · walk_at "go"
              have e3 : hitS c y m = none := by unfold hitS; rw [if_neg (fun z => h1 (congrArg one z.1))]
              exact ⟨s3, np, by rw [fm_snoc hmj, e3, Option.toList, List.append_nil]; exact hp⟩
          · rintro p H3 ⟨s3, np, hp⟩
            rw [hus, List.take_length] at hp
            walk_at "go"
            refine w_newL (by decide) (fun p2 H4 hp4 np4 => ?_)
            refine w_neNilI (np4.at hp) hp4 ?_
            walk_at "go"
            cases e5 : ms.filterMap (hitS c y) with
            | nil =>
              rw [e5] at e1
              have e1 : ledM (stp (LM ms)) ((tl z).take (i + 1)) x = none := e1
              refine w_ifEF ?_
              walk_at "go"
              exact ⟨_, _, _, _, _, by rw [e1]; rfl, (s2.trans s3).nw np4⟩
            | cons u r =>
              rw [e5] at e1 hp
              have e1 : ledM (stp (LM ms)) ((tl z).take (i + 1)) x = some u := e1
              refine w_ifET ?_
              walk_at "go"
              refine w_ixL (np4.at hp) (at_of (j := 0) rfl rfl) ?_
              walk_at "go"
              exact ⟨_, _, _, _, _, by rw [e1]; rfl, (s2.trans s3).nw np4⟩
        · have hs : 65 ≤ c ∧ c ≤ 72 := by
            rcases hsg with h | h
            · exact absurd (in_small.mpr h) hin
            · exact h
          rw [hitG_lk (fun m hm => by have := hms m hm; omega)] at e1
          walk_at "go"
          refine w_lcL (xs := us) (fun p j H3 => Same H2 H3 ∧ H2 p = none ∧ H3 p = some (.lst (((ms.take j).filterMap (hitG (c + 32) y)).map V.int))) (fun p H3 hp np => ⟨np.same, np.nn, hp⟩) (fun p j H3 _ h => h.1.at ha2) ?_ ?_
          · rintro p j v H3 hv ⟨s3, np, hp⟩
            obtain ⟨m, hmj, t, rfl, ht⟩ := paired_get hm hv
            have ht3 := s3.at (s2.at ht)
            walk_at "go"
            refine w_lo1 hs ?_
            walk_at "go"
            refine w_and2 (fun h1 => ?_) (fun h1 => ?_)
            · walk_at "go"
              refine w_tst2 (fun h2 => ?_) (fun h2 => ?_)
              · walk_at "go"
                refine w_kIt hp (hlf _ _) (fun H4 hp4 o4 => ⟨s3.off o4 np, np, ?_⟩)
                have e3 : hitG (c + 32) y m = some m.2.1 := by unfold hitG; rw [if_pos ⟨one_inj h1, h2⟩]
                rw [hp4, fm_snoc hmj, e3, List.map_append]
                rfl
              · have e3 : hitG (c + 32) y m = none := by unfold hitG; rw [if_neg (fun z => h2 z.2)]
                exact ⟨s3, np, by rw [fm_snoc hmj, e3, Option.toList, List.append_nil]; exact hp⟩
            · walk_at "go"
              have e3 : hitG (c + 32) y m = none := by unfold hitG; rw [if_neg (fun z => h1 (congrArg one z.1))]
              exact ⟨s3, np, by rw [fm_snoc hmj, e3, Option.toList, List.append_nil]; exact hp⟩
          · rintro p H3 ⟨s3, np, hp⟩
            rw [hus, List.take_length] at hp
            walk_at "go"
            refine w_newL (by decide) (fun p2 H4 hp4 np4 => ?_)
            refine w_neNilI (np4.at hp) hp4 ?_
            walk_at "go"
            cases e5 : ms.filterMap (hitG (c + 32) y) with
            | nil =>
              rw [e5] at e1
              have e1 : ledM (stp (LM ms)) ((tl z).take (i + 1)) x = none := e1
              refine w_ifEF ?_
              walk_at "go"
              exact ⟨_, _, _, _, _, by rw [e1]; rfl, (s2.trans s3).nw np4⟩
            | cons u r =>
              rw [e5] at e1 hp
              have e1 : ledM (stp (LM ms)) ((tl z).take (i + 1)) x = some u := e1
              refine w_ifET ?_
              walk_at "go"
              refine w_ixL (np4.at hp) (at_of (j := 0) rfl rfl) ?_
              walk_at "go"
              exact ⟨_, _, _, _, _, by rw [e1]; rfl, (s2.trans s3).nw np4⟩
    · rintro σ H2 ⟨y3, y4, y5, y6, y7, rfl, s2⟩
      rw [List.take_length]
      walk_at "go"
      exact q _ s2
end
end Sf
namespace Sf
open PySem PySem.Spec PyProof.Rows L2 TL
section
variable {P : Program} {w : World} {K : PySem.W.Frag} {mg : Str → Option Value} {base : Heap} {C : Addr}
/-! ### len(world) -/
def spWLen (C : Addr) : Sp := fun vs H Q _ => ∃ (p : Addr) (n : Int) (L : Nat → List (Int × Int)), vs = [.ref p] ∧ WAt C H p n L ∧ 0 ≤ n ∧ n ≤ 100000 ∧ Q (.int n) H
theorem sc_wlen : FnScope ["self"] ["self"] (defScope s_World___len__) := ⟨rfl, rfl, rfl, by decide +kernel, rfl, by decide +kernel, by decide +kernel⟩
theorem has_wlen (F : MAt K C "__len__" "World.__len__" s_World___len__ ["self"]) (B : Blt mg) (T_World : WC K mg C) : HasM P w K mg base C 1 "__len__" ["self"] (spWLen C) := F.has fun F => by
  refine F.ok sc_wlen (fun vs H Q E h => ?_) (fun cdv A outer s H vs Q E hr h => ?_)
  · obtain ⟨p, n, L, rfl, _⟩ := h
    rfl
  · obtain ⟨p, n, L, rfl, ⟨dx, pl, ld, d, hp, hpl, hL⟩, n0, n1, q⟩ := h
    refine ⟨_, (pss_one (ps_ret (pe_callB call_lenQ (by rfl) B.len PySem.boot_len (pa_cons (pe_fld (pv 0) rfl) pa_nil)))), ?_⟩
    rw [rgV_plc] at hpl
    walk_at "go"
    refine w_kFld hp T_World.cl T_World.nP (wf_places _ _) ?_
    walk_at "go"
    rw [List.length_map, plc_len, show ((n.toNat : Nat) : Int) = n by omega]
    exact q
def rLenW (C : Addr) (sp : Sp) : List V → Hp → VK → Prop := fun xs H Q => ∃ a dx fs, xs = [.ref a] ∧ H a = some (.ins C dx fs) ∧ sp [.ref a] H (fun v H' => ∃ n : Nat, v = .int (n : Int) ∧ n ≤ sizeLine ∧ Q (.int (n : Int)) H') E0
theorem call_lenW {X : Cx} {k : Nat} {f : Addr} {fd : FuncData} {ps : List Str} {sp : Sp} (F : FnOk X.prog X.w X.K X.mg X.base CX0 k f fd ps sp) (hs : PySem.W.findIn X.K (.ref C) "__len__" = some (some (.ref f))) (hf : PySem.W.isFn X.K (.ref f) = true) (hb : Binds X.K fd ps []) (hr : Room (k + 1) X.A) : CallR X (.builtin "len") (rLenW C sp) := call_lenOwn F hs hf hb hr
theorem w_lenW {H : Hp} {Q : VK} {p : Addr} {n : Int} {L : Nat → List (Int × Int)} (hW : WAt C H p n L) (n0 : 0 ≤ n) (n1 : n ≤ 100000) (q : Q (.int n) H) : rLenW C (spWLen C) [.ref p] H Q := by
  obtain ⟨dx, pl, ld, d, hp, _⟩ := id hW
  exact ⟨p, dx, _, rfl, hp, p, n, L, rfl, hW, n0, n1, n.toNat, by rw [show ((n.toNat : Nat) : Int) = n by omega], line_of (by omega), by rw [show ((n.toNat : Nat) : Int) = n by omega]; exact q⟩
end
end Sf
namespace Sf
open PySem PySem.Spec PyProof.Rows L2 TL
section
variable {P : Program} {w : World} {K : PySem.W.Frag} {mg : Str → Option Value} {base : Heap} {C CS fS CW fW : Addr} {fdW : FuncData}
/-! ### Wide -/
theorem sc_wde : FnScope ["self"] ["self"] (defScope s_Wide___init__) := ⟨rfl, rfl, rfl, by decide +kernel, rfl, by decide +kernel, by decide +kernel⟩
theorem ok_wde {f : Addr} {fd fdS : FuncData} (F : Fun K "__init__" "Wide.__init__" s_Wide___init__ f fd) (S : SE K mg CS fS) (FS : FunD K "__init__" "SpoorError.__init__" s_SpoorError___init__ fS fdS) (bS : Binds K fdS ["self", "word", "message"] []) : FnOk P w K mg base CX0 2 f fd ["self"] (spEx K (Str.ofString "wide")) := by
  refine F.ok sc_wde (fun vs H Q E h => ?_) (fun cdv A outer s H vs Q E hr h => ?_)
  · obtain ⟨a, C, rfl, _⟩ := h
    rfl
  · obtain ⟨a, C, rfl, ox, nw, ha, q⟩ := h
    have GS : FnOk P w K mg base CX0 1 fS fdS ["self", "word", "message"] (spSE K) := ok_se FS S
    refine ⟨_, pss_one (ps_expr (pe_clsFn (pe_glob (v := .ref CS) (by rfl) S.gC rfl) S.rd S.ga S.at_ GS hr FS.kp bS pass0 (pa_cons (pv 0) (pa_cons pe_str (pa_cons pe_str pa_nil))))), ?_⟩
    exact ⟨rfl, _, rfl, a, C, _, _, rfl, ox, nw, ha, fun dx n ne => q dx n ne⟩

/-- Wide is raised -/
def XWd (CW : Addr) (H : Hp) (E : XK) : Prop := ∀ (d : Addr) (H' : Hp), H d = none → H' d = some (.xd [(("word" : Str), .str (Str.ofString "wide"))]) → Same H H' → E (.ref CW) (some d) H'
theorem XWd.same {H H1 : Hp} {E : XK} (h : XWd CW H E) (s : Same H H1) : XWd CW H1 E := fun d H' nd hd s' => h d H' (s.free nd) hd (s.trans s')
/-! ### need_narrow -/
def spNn (C CW : Addr) : Sp := fun vs H Q E => ∃ (p : Addr) (n : Int) (L : Nat → List (Int × Int)), vs = [.ref p] ∧ WAt C H p n L ∧ 0 ≤ n ∧ n ≤ 100000 ∧ (n ≤ 12 → Q .non H) ∧ (12 < n → XWd CW H E)
theorem sc_nn : FnScope ["world"] ["world"] (defScope s_need_narrow) := ⟨rfl, rfl, rfl, by decide +kernel, rfl, by decide +kernel, by decide +kernel⟩
theorem has_nn (F : FnAt K mg "need_narrow" s_need_narrow ["world"]) (B : Blt mg) {t1 : Tok} (C_MOST_WIDE : mg "MOST_WIDE" = some (.int 12 t1)) (T_World : WC K mg C) (h_Len : HasM P w K mg base C 1 "__len__" ["self"] (spWLen C)) (T_Wide : EC K mg "Wide" CW fW) (G_Wide : FnOk P w K mg base CX0 2 fW fdW ["self"] (spEx K (Str.ofString "wide"))) (b_Wide : Binds K fdW ["self"] []) : HasX P w K mg base 4 "need_narrow" ["world"] (spNn C CW) := by
  obtain ⟨f, fd, g, F, bb⟩ := F
  refine ⟨f, fd, g, F.kp, bb, ?_⟩
  obtain ⟨f_Len, fd_Len, m_Len, b_Len, G_Len⟩ := h_Len
  refine F.okX sc_nn (fun vs H Q E h => ?_) (fun cdv A outer s H vs Q E hr h => ?_)
  · obtain ⟨p, n, L, rfl, _⟩ := h
    rfl
  · obtain ⟨p, n, L, rfl, hW, n0, n1, q1, q2⟩ := h
    refine ⟨_, (pss_one (ps_if (pt_cmpR op_gt (pe_callB (call_lenW G_Len m_Len.at_ m_Len.fn b_Len (hr.mono (by decide))) (by rfl) B.len PySem.boot_len (pa_cons (pv 0) pa_nil)) (pe_gI (by rfl) C_MOST_WIDE) (nomark _)) (pss_one (ps_raise rfl (takes_of rfl rfl rfl rfl) (pmk_oex0 T_Wide.ox T_Wide.iC T_Wide.tI G_Wide (hr.mono (by decide)) b_Wide pass0 (by rfl) T_Wide.gC))) pss_nil)), ?_⟩
    walk_at "go"
    refine w_lenW hW n0 n1 ?_
    walk_at "go"
    refine w_if2 (fun h => ?_) (fun h => ?_)
    · walk_at "go"
      exact w_mkO T_Wide (q2 h)
    · walk_at "go"
      exact q1 (by omega)
end
end Sf
namespace Sf
open PySem PySem.Spec PyProof.Rows L2 TL
/-! ### lists of texts, joined -/
theorem joinL_nil : ∀ ps : List (List Nat), joinL [] ps = ps.flatten
  | [] => rfl
  | [p] => by simp [joinL]
  | p :: q :: r => by
    show p ++ ([] ++ joinL [] (q :: r)) = _
    rw [joinL_nil (q :: r), List.nil_append]
    rfl
theorem tl_empty : tl (Str.ofString "") = [] := by decide +kernel
theorem join_tl (ys : List Str) : Txt.join (Str.ofString "") ys = mkS (ys.map tl).flatten := by
  refine eq_mkS ?_
  rw [join_eq, tl_join, tl_empty, joinL_nil]
theorem join_ones (l : List Nat) : Txt.join (Str.ofString "") (l.map one) = mkS l := by
  rw [join_tl, List.map_map]
  congr 1
  induction l with
  | nil => rfl
  | cons c l ih =>
    rw [List.map_cons, List.flatten_cons, ih]
    rfl
theorem len_empty : (Str.ofString "").length = 0 := by decide +kernel
theorem ones_sum (l : List Nat) : ((l.map one).map (·.length)).sum = l.length := by
  induction l with
  | nil => rfl
  | cons c l ih =>
    rw [List.map_cons, List.map_cons, List.sum_cons, ih, len_one, List.length_cons]
    omega
theorem join_fit {l : List Nat} (h : l.length ≤ 100000) : ((l.map one).map (·.length)).sum + (l.map one).length * (Str.ofString "").length ≤ 16777216 := by
  rw [ones_sum, len_empty]
  omega
/-- data of a list of single signs -/
def dOnes (l : List Nat) : PyData := .list (l.map fun c => .str (one c))
theorem dp_all {K : PySem.W.Frag} {H : Hp} : ∀ l : List Nat, DpAll K H (l.map fun c => V.str (one c)) (l.map fun c => .str (one c))
  | [] => .nil
  | _ :: l => .cons (.str _) (dp_all l)
theorem ones_lay : ∀ {l : List Nat}, Sg l → PyData.canLayAll0 (l.map fun c => .str (one c)) = true
  | [], _ => rfl
  | c :: l, h => by
    have hc := h c (List.mem_cons_self ..)
    have e : PyData.canLay0 (.str (one c)) = true := by
      rw [sgn_iff] at hc
      have : ∀ d, d < 128 → PyData.canLay0 (.str (one d)) = true := by decide +kernel
      exact this c (by omega)
    rw [List.map_cons, PyData.canLayAll0, e, ones_lay fun d hd => h d (List.mem_cons_of_mem _ hd)]
    rfl
theorem ones_depth : ∀ l : List Nat, PyData.depthAll (l.map fun c => .str (one c)) = 0
  | [] => rfl
  | _ :: l => by
    rw [List.map_cons, PyData.depthAll, ones_depth l]
    rfl
theorem ones_shaped {l : List Nat} (h : Sg l) : SeqAt.shaped (dOnes l) = true := by
  unfold SeqAt.shaped dOnes
  rw [PyData.canLay0, ones_lay h, Bool.true_and, PyData.depth, ones_depth]
  rfl
theorem ones_nil {l : List Nat} : PyData.eqv (dOnes l) (.list []) = l.isEmpty := by
  unfold dOnes
  cases l with
  | nil => simp [PyData.eqv, PyData.eqvAll]
  | cons c l => simp [PyData.eqv, PyData.eqvAll]
theorem Fx.toSame {L : Addr} {H H' : Hp} (f : Fx L H H') (n : H L = none) : Same H H' := fun b o e => f b o e (ne_of_none e n)
theorem glu_take {l : List Nat} {i c : Nat} (h : l[i]? = some c) : gluT (mkS (shortL (l.take i))) (one c) = mkS (shortL (l.take (i + 1))) := by
  unfold gluT
  rw [tl_mkS, tl_one, glu_one, ← shortL_snoc, List.take_add_one, h]
  rfl
end Sf
namespace Sf
open PySem PySem.Spec PyProof.Rows L2 TL
section
variable {P : Program} {w : World} {K : PySem.W.Frag} {mg : Str → Option Value} {base : Heap} {C CS fS : Addr}
/-! ### a refusal with a field that is a number -/
def spExA (K : PySem.W.Frag) (z fl : Str) : Sp := fun vs H Q _ => ∃ (a C : Addr) (i : Int), vs = [.ref a, .int i] ∧ i.natAbs.log2 < 1920 ∧ OexC K C ∧ PySem.W.findIn K (.ref C) "word" = some none ∧ PySem.W.findIn K (.ref C) fl = some none ∧ H a = some (exo a C none) ∧
  ∀ (dx : Addr) (H' : Hp), H dx = none → dx ≠ a → H' a = some (exo a C (some dx)) → H' dx = some (exd dx [(fl, .int i), (("word" : Str), .str z)]) → (∀ b, b ≠ a → b ≠ dx → H' b = H b) → Q .non H'
def kMkA (C : Addr) (sp : Sp) (W : XK) : List V → Hp → Prop := fun vs H1 => vs.length ≤ 1000 ∧ ∀ a, H1 a = none → sp (.ref a :: (vs ++ [])) (upd H1 a (exo a C none))
  (fun v H2 => v = .non ∧ ∃ (d : Addr) (fs : List (Str × V)), H2 a = some (exo a C (some d)) ∧ H2 d = some (exd d fs) ∧ H1 d = none ∧ W (.ref C) (some d) (upd (del H2 a) d (.xd fs))) (fun _ _ _ => False)
theorem w_mkOA {H : Hp} {σ : L2.St} {W : XK} {sp : Sp} {ta : TA} (q : ta σ H (kMkA C sp W)) : tMkO C sp [] ta σ H W := q
theorem w_kMkA {H : Hp} {W : XK} {z fl nm : Str} {f : Addr} {i : Int} (T : EC K mg nm C f) (nf : PySem.W.findIn K (.ref C) fl = some none) (hi : i.natAbs.log2 < 1920)
    (k : ∀ (d : Addr) (H' : Hp), H d = none → H' d = some (.xd [(fl, .int i), (("word" : Str), .str z)]) → Same H H' → W (.ref C) (some d) H') : kMkA C (spExA K z fl) W [.int i] H := by
  refine ⟨by show 1 ≤ 1000; decide, fun a na => ⟨a, C, i, rfl, hi, T.ox, T.nw, nf, upd_same, fun dx H' n ne e1 e2 e3 => ⟨rfl, dx, _, e1, e2, ?_, k dx _ ?_ upd_same fun b o e => ?_⟩⟩⟩
  · rw [upd_ne ne] at n
    exact n
  · rw [upd_ne ne] at n
    exact n
  · rw [upd_ne ne] at n
    have h1 : b ≠ dx := ne_of_none e n
    have h2 : b ≠ a := ne_of_none e na
    rw [upd_ne h1, del_ne h2, e3 b h2 h1, upd_ne h2]
    exact e
theorem toStr_len {i : Int} (h : i.natAbs.log2 < 1920) : (toString i : Str).length ≤ 1921 := int_text_len_1921 h
end
end Sf
namespace Sf
open PySem PySem.Spec PyProof.Rows L2 TL
section
variable {P : Program} {w : World} {K : PySem.W.Frag} {mg : Str → Option Value} {base : Heap} {C CS fS : Addr}
/-! ### Heavy -/
theorem sc_hvy : FnScope ["self", "many"] ["self", "many"] (defScope s_Heavy___init__) := ⟨rfl, rfl, rfl, by decide +kernel, rfl, by decide +kernel, by decide +kernel⟩
theorem ok_hvy {f : Addr} {fd fdS : FuncData} (F : Fun K "__init__" "Heavy.__init__" s_Heavy___init__ f fd) (S : SE K mg CS fS) (FS : FunD K "__init__" "SpoorError.__init__" s_SpoorError___init__ fS fdS) (bS : Binds K fdS ["self", "word", "message"] []) : FnOk P w K mg base CX0 2 f fd ["self", "many"] (spExA K (Str.ofString "heavy") "many") := by
  refine F.ok sc_hvy (fun vs H Q E h => ?_) (fun cdv A outer s H vs Q E hr h => ?_)
  · obtain ⟨a, C, i, rfl, _⟩ := h
    rfl
  · obtain ⟨a, C, i, rfl, hi, ox, nw, nf, ha, q⟩ := h
    have GS : FnOk P w K mg base CX0 1 fS fdS ["self", "word", "message"] (spSE K) := ok_se FS S
    refine ⟨_, pss_cons (ps_expr (pe_clsFn (pe_glob (v := .ref CS) (by rfl) S.gC rfl) S.rd S.ga S.at_ GS hr FS.kp bS pass0 (pa_cons (pv 0) (pa_cons pe_str (pa_cons (pe_joined (.cons pe_str (.cons (pe_fmt (pv 1)) (.cons pe_str .nil)))) pa_nil))))) (pss_one (ps_ost (pv 0) (pv 1))), ?_⟩
    have l1 := toStr_len hi
    refine ⟨rfl, _, rfl, ?_⟩
    refine ⟨_, rfl, by decide +kernel, _, rfl, .inr ⟨i, rfl, hi, _, rfl, ?_, _, rfl, ?_, ?_⟩⟩
    · rw [len_app, len_app]
      have : (Str.empty.length + (Str.ofString "there are more than ").length) = 20 := by decide +kernel
      exact line_of (by omega)
    · rw [len_app, len_app, len_app]
      have : (Str.empty.length + (Str.ofString "there are more than ").length) = 20 := by decide +kernel
      have : (Str.ofString " motions").length = 8 := by decide +kernel
      exact line_of (by omega)
    · refine ⟨a, C, _, _, rfl, ox, nw, ha, fun dx n ne => ?_⟩
      refine ⟨_, rfl, _, rfl, a, C, rfl, ox, nf, .inr ⟨dx, [(("word" : Str), .str (Str.ofString "heavy"))], upd_same, by rw [upd_ne ne, upd_same], by show 1 ≤ 900; decide, ?_⟩⟩
      refine q dx _ n ne (by rw [upd_ne ne.symm, upd_same]) upd_same fun b h1 h2 => ?_
      rw [upd_ne h2, upd_ne h1, upd_ne h2]
end
end Sf
namespace Sf
open PySem PySem.Spec PyProof.Rows L2 TL
section
variable {P : Program} {w : World} {K : PySem.W.Frag} {mg : Str → Option Value} {base : Heap} {C : Addr}
/-- the motion of a word -/
def motV (L : Nat → List (Int × Int)) (n : Int) (z : Str) : List V := (plc n).map fun x => oV (ledM (stp L) (tl z) x)
theorem flat_oV (o : Option Int) : flat4 (oV o) = true := by cases o <;> rfl
theorem eqv_map {H : Hp} {t t' : Addr} {l : List V} (h : H t = some (.tup l)) (h' : H t' = some (.tup l)) (hf : ∀ x ∈ l, flat4 x = true) (hl : l.length ≤ 100000) {n : Nat} : Eqv H (n + 1) (.ref t) (.ref t') := by
  refine .inr ⟨t, t', l, l, rfl, rfl, .inr ⟨h, h'⟩, rfl, hl, fun j x y hx hy => ?_⟩
  rw [hx] at hy
  cases hy
  exact .flat (hf x (List.mem_of_getElem? hx))
theorem eqv_mot {H : Hp} {t t' : Addr} {L : Nat → List (Int × Int)} {n : Int} {z : Str} (h : H t = some (.tup (motV L n z))) (h' : H t' = some (.tup (motV L n z))) (hn : n ≤ 1000) {k : Nat} : Eqv H (k + 1) (.ref t) (.ref t') := by
  refine eqv_map h h' (fun x hx => ?_) ?_
  · obtain ⟨y, _, rfl⟩ := List.mem_map.mp hx
    exact flat_oV _
  · unfold motV
    rw [List.length_map, plc_len]
    omega
/-! ### World.motion -/
def spMo (C : Addr) : Sp := fun vs H Q _ => ∃ (p : Addr) (n : Int) (L : Nat → List (Int × Int)) (z : Str), vs = [.ref p, .str z] ∧ WAt C H p n L ∧ Wd z ∧ z.length ≤ 60 ∧ n ≤ 1000 ∧
  ∀ (t : Addr) (H' : Hp), H t = none → Same H H' → H' t = some (.tup (motV L n z)) → Q (.ref t) H'
theorem sc_mo : FnScope ["self", "word", "place"] ["self", "word"] (defScope s_World_motion) := ⟨rfl, rfl, rfl, by decide +kernel, rfl, by decide +kernel, by decide +kernel⟩
theorem has_mo (F : MAt K C "motion" "World.motion" s_World_motion ["self", "word"]) (B : Blt mg) (T_World : WC K mg C) (h_Ne : HasNeed P w K mg base) (h_Led : HasM P w K mg base C 1 "led" ["self", "word", "place"] (spLed C)) : HasM P w K mg base C 3 "motion" ["self", "word"] (spMo C) := F.has fun F => by
  obtain ⟨f_Ne, fd_Ne, g_Ne, k_Ne, b_Ne, G_Ne⟩ := h_Ne
  obtain ⟨f_Led, fd_Led, m_Led, b_Led, G_Led⟩ := h_Led
  refine F.ok sc_mo (fun vs H Q E h => ?_) (fun cdv A outer s H vs Q E hr h => ?_)
  · obtain ⟨p, n, L, z, rfl, _⟩ := h
    rfl
  · obtain ⟨p, n, L, z, rfl, hW, hz, hzl, hn, q⟩ := h
    refine ⟨_, (pss_cons (ps_expr (pe_call G_Ne (hr.mono (by decide)) (by rfl) g_Ne k_Ne b_Ne .nil pass0 (pa_cons (pv 1) pa_nil))) (pss_one (ps_ret (pe_callTy call_tupO (by rfl) B.tuple (by decide +kernel) (pa_cons (pe_lc (own := [("place", 2)]) (g := gName 2) (tt := tYes) (by rfl) sc_mo.nd (pi_list (pe_fld (pv 0) rfl)) (blkOk_by (own := [("place", 2)]) (N := ["self", "word", "place"]) (sc := defScope s_World_motion) (by decide +kernel)) (fun _ _ _ _ _ => pg_name (i := 2) sc_mo.nd rfl (.inl rfl)) (fun _ _ _ _ _ => pts_nil) (fun _ _ _ _ _ => (pe_meth (pv 0) T_World.cl m_Led G_Led (hr.mono (by decide)) b_Led .nil pass0 (pa_cons (pv 1) (pa_cons (pv 2) pa_nil))))) pa_nil))))), ?_⟩
    have hW0 := hW
    obtain ⟨dx, pl, ld, d, hp, hpl, hL⟩ := hW0
    rw [rgV_plc] at hpl
    walk_at "go"
    refine ⟨z, rfl, hz, hzl, fun H1 s1 => ?_⟩
    have hp1 := s1.at hp
    have hpl1 := s1.at hpl
    walk_at "go"
    refine w_kFld hp1 T_World.cl T_World.nP (wf_places _ _) ?_
    walk_at "go"
    refine w_lcL (xs := (plc n).map V.int) (fun r i H2 => Same H1 H2 ∧ H1 r = none ∧ H2 r = some (.lst (((plc n).take i).map fun x => oV (ledM (stp L) (tl z) x)))) (fun r H2 hr nr => ⟨nr.same, nr.nn, hr⟩) (fun r i H2 _ h => h.1.at hpl1) ?_ ?_
    · rintro r i v H2 hv ⟨s2, nr, hr2⟩
      obtain ⟨x, hx, rfl⟩ : ∃ x, (plc n)[i]? = some x ∧ V.int x = v := by
        rw [List.getElem?_map, Option.map_eq_some_iff] at hv
        exact hv
      walk_at "go"
      refine w_kMeth (s2.at hp1) (wf_no _ _ (by decide +kernel) (by decide +kernel)) ?_
      walk_at "go"
      refine ⟨p, n, x, L, z, rfl, (hW.same s1).same s2, hz, ?_⟩
      refine w_kIt hr2 ?_ (fun H3 h3 o3 => ⟨s2.off o3 nr, nr, ?_⟩)
      · rw [List.length_map, List.length_take, plc_len]
        exact lineLt_of (by omega)
      · rw [h3, take_snoc hx, List.map_append]
        rfl
    · rintro r H2 ⟨s2, nr, hr2⟩
      rw [List.length_map, List.take_length] at hr2
      walk_at "go"
      refine w_tupL hr2 (fun t H3 ht3 nt3 => ?_)
      exact q t H3 ((s1.trans s2).free nt3.nn) ((s1.trans s2).nw nt3) ht3
end
end Sf
namespace Sf
open PySem PySem.Spec PyProof.Rows L2 TL
section
variable {X : Cx}
/-! ### d != {} -/
def rNeDE : R2 := fun x y H Q => ∃ a b ks, x = .ref a ∧ y = .ref b ∧ H a = some (.dK ks) ∧ H b = some (.dK []) ∧ Q (.bl (!ks.isEmpty)) H
theorem op_neDE (hu : X.A.units < cLine) : OpR X (compareOp .NotEq) rNeDE := by
  intro pins s σ H x y v u Q I rx ry h
  obtain ⟨a, b, ks, rfl, rfl, ea, eb, q⟩ := h
  obtain rfl : v = Value.ref a := rx
  obtain rfl : u = Value.ref b := ry
  obtain ⟨_, ya, va, ra, da⟩ := (show ObjOk X.prog X.w H s.heap a (.dK ks) from I.hok a _ ea)
  obtain ⟨_, yb, vb, rb, db⟩ := (show ObjOk X.prog X.w H s.heap b (.dK []) from I.hok b _ eb)
  have l1 : ks.length = va.length := ra.length
  have l2 : (0 : Nat) = vb.length := rb.length
  refine PySem.W.keq_ne (knd := mixKind X.prog X.w) (r := true) ya yb da db hu (fun hl => ?_) (fin_bl I q ?_)
  · have hl : va.length = vb.length := by simpa using hl
    have : va = [] := List.eq_nil_of_length_eq_zero (by omega)
    rw [this]
    exact .nil
  · cases ks with
    | nil =>
      have : va = [] := List.eq_nil_of_length_eq_zero (by rw [← l1]; rfl)
      have h2 : vb = [] := List.eq_nil_of_length_eq_zero l2.symm
      rw [this, h2]
      rfl
    | cons k ks =>
      have h2 : vb = [] := List.eq_nil_of_length_eq_zero l2.symm
      rw [h2]
      cases va with
      | nil => cases l1
      | cons v va => rfl
theorem w_neDE {H : Hp} {Q : VK} {a b : Addr} {ks : List (Key × V)} (h1 : H a = some (.dK ks)) (h2 : H b = some (.dK [])) (q : Q (.bl (!ks.isEmpty)) H) : rNeDE (.ref a) (.ref b) H Q := ⟨a, b, ks, rfl, rfl, h1, h2, q⟩
end
end Sf
namespace Sf
open PySem PySem.Spec PyProof.Rows L2 TL
/-! ### World.moves -/
def smls : List Nat := [97, 98, 99, 100, 101, 102, 103, 104]
theorem smls_tl : tl (Str.ofString "abcdefgh") = smls := by decide +kernel
theorem smls_sgs : ∀ c ∈ smls, c ∈ sgs := by decide
theorem smls_iff {c : Nat} : c ∈ smls ↔ 97 ≤ c ∧ c ≤ 104 := by
  unfold smls
  simp only [List.mem_cons, List.not_mem_nil, or_false]
  omega
theorem smls_nd : smls.Nodup := by decide
theorem val_leV {d : Nat → Addr} : ∀ {l : List Nat} {c : Nat}, c ∈ l → valV (leV d l) (Sum.inr (one c)) = some (.ref (d c))
  | x :: l, c, h => by
    unfold leV
    rw [List.map_cons]
    by_cases e : x = c
    · subst e
      rw [valV_pos rfl]
    · rw [valV_neg (fun z => e (one_inj (Sum.inr.inj z)))]
      rcases List.mem_cons.mp h with z | z
      · exact absurd z.symm e
      · exact val_leV z
end Sf
namespace Sf
open PySem PySem.Spec PyProof.Rows L2 TL
section
variable {P : Program} {w : World} {K : PySem.W.Frag} {mg : Str → Option Value} {base : Heap} {C : Addr}
/-! ### World.letters -/
def ltS (L : Nat → List (Int × Int)) : Str := mkS (smls.filter fun c => !(L c).isEmpty)
def spLet (C : Addr) : Sp := fun vs H Q _ => ∃ (p : Addr) (n : Int) (L : Nat → List (Int × Int)), vs = [.ref p] ∧ WAt C H p n L ∧ ∀ H', Same H H' → Q (.str (ltS L)) H'
theorem kvI_emp (l : List (Int × Int)) : (kvI l).isEmpty = l.isEmpty := by cases l <;> rfl
theorem sc_let : FnScope ["self", "letter"] ["self"] (defScope s_World_letters) := ⟨rfl, rfl, rfl, by decide +kernel, rfl, by decide +kernel, by decide +kernel⟩
theorem has_let (F : MAt K C "letters" "World.letters" s_World_letters ["self"]) (B : Blt mg) (T_World : WC K mg C) {t1 : Tok} (C_LETTERS : mg "LETTERS" = some (.str (Str.ofString "abcdefgh") t1)) : HasM P w K mg base C 1 "letters" ["self"] (spLet C) := F.has fun F => by
  refine F.ok sc_let (fun vs H Q E h => ?_) (fun cdv A outer s H vs Q E hr h => ?_)
  · obtain ⟨p, n, L, rfl, _⟩ := h
    rfl
  · obtain ⟨p, n, L, rfl, ⟨dx, pl, ld, d, hp, hpl, hL⟩, q⟩ := h
    refine ⟨_, (pss_one (ps_ret (pe_m1 PySem.F.slot_str_join PySem.F.type_str_join mt_joinN pe_str (pe_lc (own := [("letter", 1)]) (g := gName 1) (tt := tTest (tOp rNeDE (tDGet (tFld K (tVar 0) "leads") (tVar 1)) tDNewK)) (by rfl) sc_let.nd (pi_str (pe_gS (by rfl) C_LETTERS)) (blkOk_by (own := [("letter", 1)]) (N := ["self", "letter"]) (sc := defScope s_World_letters) (by decide +kernel)) (fun _ _ _ _ _ => pg_name (i := 1) sc_let.nd rfl (.inl rfl)) (fun _ _ _ _ _ => by exact pts_one (pt_cmpR (op_neDE hr.units0) (pe_dget (hu_of hr) (pe_fld (pv 0) rfl) (pv 1) (fun _ _ => rfl)) pe_dnewK (nomark _))) (fun _ _ _ _ _ => (pv 1)))))), ?_⟩
    walk_at "go"
    refine w_lcS (fun r i H2 => Same H H2 ∧ H r = none ∧ H2 r = some (.lst ((((smls.take i).filter fun c => !(L c).isEmpty).map one).map V.str))) (fun r H2 hr nr => ⟨nr.same, nr.nn, hr⟩) ?_ ?_
    · rintro r i c H2 hc ⟨s2, nr, hr2⟩
      rw [smls_tl] at hc
      have hcs : c ∈ smls := List.mem_of_getElem? hc
      walk_at "go"
      refine w_kFld (s2.at hp) T_World.cl T_World.nL (wf_leads _ _) ?_
      walk_at "go"
      refine w_kDGetS (s2.at hL.hd) (val_leV (smls_sgs c hcs)) ?_
      refine w_dnewK (fun p2 H3 hp3 np3 => ?_)
      refine w_neDE (np3.at (s2.at (hL.hc c (smls_sgs c hcs)))) hp3 ?_
      rw [kvI_emp]
      walk_at "go"
      have s3 := s2.nw np3
      rw [take_snoc hc, List.filter_append]
      refine w_tstB (fun e => ?_) (fun e => ?_)
      · walk_at "go"
        refine w_kIt (np3.at hr2) ?_ (fun H4 h4 o4 => ⟨s3.off o4 nr, nr, ?_⟩)
        · rw [List.length_map, List.length_map]
          refine lineLt_of (Nat.le_trans (List.length_filter_le _ _) ?_)
          rw [List.length_take]
          exact Nat.le_trans (Nat.min_le_right _ _) (by decide)
        · rw [h4, List.filter_cons, if_pos e, List.filter_nil, List.map_append, List.map_append]
          rfl
      · refine ⟨s3, nr, ?_⟩
        rw [List.filter_cons, if_neg (by rw [e]; exact fun z => nomatch z), List.filter_nil, List.append_nil]
        exact np3.at hr2
    · rintro r H2 ⟨s2, nr, hr2⟩
      have hfull : smls.take (tl (Str.ofString "abcdefgh")).length = smls := by decide +kernel
      rw [hfull] at hr2
      refine w_join hr2 (join_fit (Nat.le_trans (List.length_filter_le _ _) (by decide))) ?_
      rw [join_ones]
      exact q H2 s2
end
end Sf
namespace Sf
open PySem PySem.Spec PyProof.Rows L2 TL
/-! ### going round by signs from one thing on, whatever the things are; each found with its word -/
section
variable {κ : Type} [DecidableEq κ] (nx : κ → Nat → κ) (cs : List Nat) (k0 : κ)
abbrev Fg (κ : Type) := κ × Str
def gx1 (k : Fg κ) (fs : List (Fg κ)) (c : Nat) : List (Fg κ) := if nx k.1 c ∈ fs.map (·.1) then fs else fs ++ [(nx k.1 c, k.2 ++ one c)]
def gxS (k : Fg κ) (fs : List (Fg κ)) (l : List Nat) : List (Fg κ) := l.foldl (gx1 nx k) fs
def gbfs : Nat → List (Fg κ)
  | 0 => [(k0, Str.ofString "")]
  | i + 1 => match (gbfs i)[i]? with
    | some k => gxS nx k (gbfs i) cs
    | none => gbfs i
variable {nx cs k0}
theorem gx1_pre (k : Fg κ) (fs : List (Fg κ)) (c : Nat) : fs <+: gx1 nx k fs c := by
  unfold gx1
  split
  · exact List.prefix_refl _
  · exact List.prefix_append _ _
theorem gxS_pre (k : Fg κ) : ∀ (l : List Nat) (fs : List (Fg κ)), fs <+: gxS nx k fs l
  | [], fs => List.prefix_refl _
  | c :: l, fs => (gx1_pre k fs c).trans (gxS_pre k l (gx1 nx k fs c))
theorem gxS_snoc (k : Fg κ) (fs : List (Fg κ)) (l : List Nat) (c : Nat) : gxS nx k fs (l ++ [c]) = gx1 nx k (gxS nx k fs l) c := by
  unfold gxS
  rw [List.foldl_append]
  rfl
theorem gbfs_succ {i : Nat} {k : Fg κ} (h : (gbfs nx cs k0 i)[i]? = some k) : gbfs nx cs k0 (i + 1) = gxS nx k (gbfs nx cs k0 i) cs := by
  show (match (gbfs nx cs k0 i)[i]? with | some k => gxS nx k (gbfs nx cs k0 i) cs | none => gbfs nx cs k0 i) = _
  rw [h]
theorem gbfs_stop {i : Nat} (h : (gbfs nx cs k0 i).length ≤ i) : gbfs nx cs k0 (i + 1) = gbfs nx cs k0 i := by
  show (match (gbfs nx cs k0 i)[i]? with | some k => gxS nx k (gbfs nx cs k0 i) cs | none => gbfs nx cs k0 i) = _
  rw [List.getElem?_eq_none h]
theorem gbfs_pre (i : Nat) : gbfs nx cs k0 i <+: gbfs nx cs k0 (i + 1) := by
  cases h : (gbfs nx cs k0 i)[i]? with
  | none => rw [gbfs_stop (List.getElem?_eq_none_iff.mp h)]; exact List.prefix_refl _
  | some k => rw [gbfs_succ h]; exact gxS_pre k cs _
theorem gbfs_mono {i j : Nat} (h : i ≤ j) : gbfs nx cs k0 i <+: gbfs nx cs k0 j := by
  induction j with
  | zero => rw [Nat.le_zero.mp h]; exact List.prefix_refl _
  | succ j ih =>
    by_cases e : i = j + 1
    · rw [e]; exact List.prefix_refl _
    · exact (ih (by omega)).trans (gbfs_pre j)
theorem gbfs_still {i : Nat} (h : (gbfs nx cs k0 i).length ≤ i) : ∀ m, gbfs nx cs k0 (i + m) = gbfs nx cs k0 i
  | 0 => rfl
  | m + 1 => by
    have e := gbfs_still h m
    show gbfs nx cs k0 (i + m + 1) = _
    rw [gbfs_stop (by rw [e]; omega), e]
/-- the round is whole -/
def FinG (nx : κ → Nat → κ) (cs : List Nat) (k0 : κ) (fs : List (Fg κ)) : Prop := ∃ N, fs = gbfs nx cs k0 N ∧ fs.length ≤ N
theorem FinG.one {fs gs : List (Fg κ)} : FinG nx cs k0 fs → FinG nx cs k0 gs → fs = gs
  | ⟨N, e1, h1⟩, ⟨M, e2, h2⟩ => by
    subst e1 e2
    by_cases h : N ≤ M
    · have := gbfs_still h1 (M - N)
      rw [show N + (M - N) = M by omega] at this
      exact this.symm
    · have := gbfs_still h2 (N - M)
      rw [show M + (N - M) = N by omega] at this
      exact this
theorem gx1_nd {k : Fg κ} {fs : List (Fg κ)} {c : Nat} (h : (fs.map (·.1)).Nodup) : ((gx1 nx k fs c).map (·.1)).Nodup := by
  unfold gx1
  split
  · exact h
  · rename_i hn
    rw [List.map_append, List.nodup_append]
    refine ⟨h, List.pairwise_singleton _ _, fun a ha b hb z => ?_⟩
    rw [z, List.mem_singleton.mp hb] at ha
    exact hn ha
theorem gxS_nd {k : Fg κ} : ∀ (l : List Nat) {fs : List (Fg κ)}, (fs.map (·.1)).Nodup → ((gxS nx k fs l).map (·.1)).Nodup
  | [], _, h => h
  | _ :: l, _, h => gxS_nd l (gx1_nd h)
theorem gbfs_nd : ∀ i, ((gbfs nx cs k0 i).map (·.1)).Nodup
  | 0 => List.pairwise_singleton _ _
  | i + 1 => by
    cases h : (gbfs nx cs k0 i)[i]? with
    | none => rw [gbfs_stop (List.getElem?_eq_none_iff.mp h)]; exact gbfs_nd i
    | some k => rw [gbfs_succ h]; exact gxS_nd cs (gbfs_nd i)
/-- what holds of all things that are found -/
theorem gx1_all {R : κ → Prop} {k : Fg κ} {fs : List (Fg κ)} {c : Nat} (hs : R k.1 → R (nx k.1 c)) (hk : R k.1) (h : ∀ f ∈ fs, R f.1) : ∀ f ∈ gx1 nx k fs c, R f.1 := by
  unfold gx1
  split
  · exact h
  · intro f hf
    rcases List.mem_append.mp hf with z | z
    · exact h f z
    · rw [List.mem_singleton.mp z]; exact hs hk
theorem gxS_all {R : κ → Prop} {k : Fg κ} (hk : R k.1) : ∀ (l : List Nat) {fs : List (Fg κ)}, (∀ c ∈ l, R k.1 → R (nx k.1 c)) → (∀ f ∈ fs, R f.1) → ∀ f ∈ gxS nx k fs l, R f.1
  | [], _, _, h => h
  | c :: l, fs, hs, h => gxS_all hk l (fun d hd => hs d (List.mem_cons_of_mem _ hd)) (gx1_all (fun z => hs c List.mem_cons_self z) hk h)
theorem gbfs_all {R : κ → Prop} (h0 : R k0) (hs : ∀ k c, c ∈ cs → R k → R (nx k c)) : ∀ i, ∀ f ∈ gbfs nx cs k0 i, R f.1
  | 0, f, hf => by rw [List.mem_singleton.mp hf]; exact h0
  | i + 1, f, hf => by
    cases h : (gbfs nx cs k0 i)[i]? with
    | none => rw [gbfs_stop (List.getElem?_eq_none_iff.mp h)] at hf; exact gbfs_all h0 hs i f hf
    | some k =>
      rw [gbfs_succ h] at hf
      exact gxS_all (gbfs_all h0 hs i k (List.mem_of_getElem? h)) cs (fun c hc => hs k.1 c hc) (gbfs_all h0 hs i) f hf
/-- the words: each is as long as the place in the row at most -/
theorem gbfs_wl : ∀ i, ∀ f ∈ gbfs nx cs k0 i, f.2.length + 1 ≤ (gbfs nx cs k0 i).length := by
  have one1 : ∀ (k : Fg κ) (fs : List (Fg κ)) (c : Nat), k.2.length + 1 ≤ fs.length → (∀ f ∈ fs, f.2.length + 1 ≤ fs.length) → ∀ f ∈ gx1 nx k fs c, f.2.length + 1 ≤ (gx1 nx k fs c).length := fun k fs c hk h => by
    unfold gx1
    split
    · exact h
    · intro f hf
      rw [List.length_append]
      rcases List.mem_append.mp hf with z | z
      · have := h f z
        show _ ≤ fs.length + 1
        omega
      · rw [List.mem_singleton.mp z]
        show (k.2 ++ one c).length + 1 ≤ fs.length + 1
        rw [len_app, len_one]
        omega
  have all : ∀ (l : List Nat) (k : Fg κ) (fs : List (Fg κ)), k.2.length + 1 ≤ fs.length → (∀ f ∈ fs, f.2.length + 1 ≤ fs.length) → ∀ f ∈ gxS nx k fs l, f.2.length + 1 ≤ (gxS nx k fs l).length := fun l => by
    induction l with
    | nil => intro k fs _ h; exact h
    | cons c l ih =>
      intro k fs hk h
      exact ih k (gx1 nx k fs c) (Nat.le_trans hk (gx1_pre (nx := nx) k fs c).length_le) (one1 k fs c hk h)
  intro i
  induction i with
  | zero => intro f hf; rw [List.mem_singleton.mp hf]; show (Str.ofString "").length + 1 ≤ 1; decide +kernel
  | succ i ih =>
    cases h : (gbfs nx cs k0 i)[i]? with
    | none => rw [gbfs_stop (List.getElem?_eq_none_iff.mp h)]; exact ih
    | some k => rw [gbfs_succ h]; exact all cs k _ (ih k (List.mem_of_getElem? h)) ih
end
end Sf
namespace Sf
open PySem PySem.Spec PyProof.Rows L2 TL
/-! ### how many motions a small world has -/
def allL {α : Type} (os : List α) : Nat → List (List α)
  | 0 => [[]]
  | k + 1 => (allL os k).flatMap fun l => os.map fun o => o :: l
theorem allL_len {α : Type} (os : List α) : ∀ k, (allL os k).length = os.length ^ k
  | 0 => rfl
  | k + 1 => by
    have ih := allL_len os k
    have : ∀ ll : List (List α), (ll.flatMap fun l => os.map fun o => o :: l).length = ll.length * os.length := fun ll => by
      induction ll with
      | nil => simp
      | cons l ll ih => rw [List.flatMap_cons, List.length_append, ih, List.length_map, List.length_cons, Nat.succ_mul, Nat.add_comm]
    show ((allL os k).flatMap fun l => os.map fun o => o :: l).length = _
    rw [this, ih, Nat.pow_succ]
theorem allL_mem {α : Type} {os : List α} : ∀ {k : Nat} {m : List α}, m.length = k → (∀ o ∈ m, o ∈ os) → m ∈ allL os k
  | 0, [], _, _ => List.mem_singleton.mpr rfl
  | k + 1, o :: m, hl, h => by
    refine List.mem_flatMap.mpr ⟨m, allL_mem (Nat.succ.inj hl) fun x hx => h x (List.mem_cons_of_mem _ hx), List.mem_map.mpr ⟨o, h o List.mem_cons_self, rfl⟩⟩
theorem nd_lenG {α : Type} [DecidableEq α] : ∀ (l r : List α), l.Nodup → (∀ x ∈ l, x ∈ r) → l.length ≤ r.length
  | [], r, _, _ => Nat.zero_le _
  | x :: l, r, nd, h => by
    have nd' := List.nodup_cons.mp nd
    have hx := h x List.mem_cons_self
    have ih := nd_lenG l (r.erase x) nd'.2 fun y hy => (List.mem_erase_of_ne (fun z => nd'.1 (by rw [← z]; exact hy))).mpr (h y (List.mem_cons_of_mem _ hy))
    rw [List.length_erase_of_mem hx] at ih
    have := List.length_pos_of_mem hx
    show l.length + 1 ≤ r.length
    omega
/-- motions of n places: where each leads -/
def nxM (st : Nat → Int → Option Int) (m : Mot) (c : Nat) : Mot := m.map fun o => o.bind (st c)
def idM (n : Nat) : Mot := (List.range n).map fun (x : Nat) => some ((x : Nat) : Int)
def optsM (n : Nat) : List (Option Int) := none :: (List.range n).map fun (x : Nat) => some ((x : Nat) : Int)
theorem all_small {n : Nat} {st : Nat → Int → Option Int} {cs : List Nat} (hs : ∀ c p q, c ∈ cs → st c p = some q → 0 ≤ q ∧ q < n) (i : Nat) : (gbfs (nxM st) cs (idM n) i).length ≤ (n + 1) ^ n := by
  have h0 : idM n ∈ allL (optsM n) n := allL_mem (by unfold idM; rw [List.length_map, List.length_range]) fun o ho => List.mem_cons_of_mem _ ho
  have key := gbfs_all (nx := nxM st) (cs := cs) (k0 := idM n) (R := fun m => m.length = n ∧ ∀ o ∈ m, o ∈ optsM n) ⟨by unfold idM; rw [List.length_map, List.length_range], fun o ho => List.mem_cons_of_mem _ ho⟩ (fun m c hc ⟨h1, h2⟩ => ⟨by unfold nxM; rw [List.length_map]; exact h1, fun o ho => by
    obtain ⟨o', ho', rfl⟩ := List.mem_map.mp ho
    cases o' with
    | none => exact List.mem_cons_self
    | some p =>
      show st c p ∈ _
      cases e : st c p with
      | none => exact List.mem_cons_self
      | some q =>
        obtain ⟨q0, q1⟩ := hs c p q hc e
        refine List.mem_cons_of_mem _ (List.mem_map.mpr ⟨q.toNat, List.mem_range.mpr (by omega), ?_⟩)
        show some ((q.toNat : Nat) : Int) = some q
        rw [Int.toNat_of_nonneg q0]⟩) i
  have := nd_lenG _ (allL (optsM n) n) (gbfs_nd (nx := nxM st) (cs := cs) (k0 := idM n) i) fun m hm => by
    obtain ⟨f, hf, rfl⟩ := List.mem_map.mp hm
    obtain ⟨a, b⟩ := key f hf
    exact allL_mem a b
  rw [List.length_map, allL_len] at this
  have e : (optsM n).length = n + 1 := by unfold optsM; rw [List.length_cons, List.length_map, List.length_range]
  rw [e] at this
  exact this
/-! rows of places: partial shifts -/
def shM (n a l t : Nat) : Mot := (List.range n).map fun x => if a ≤ x ∧ x < a + l then some ((x - a + t : Nat) : Int) else none
def shAll (n : Nat) : List Mot := shM n 0 0 0 :: (List.range n).flatMap fun l => (List.range (n - l)).flatMap fun a => (List.range (n - l)).map fun t => shM n a (l + 1) t
theorem sh_zero (n a t : Nat) : shM n a 0 t = shM n 0 0 0 := by
  unfold shM
  refine List.map_congr_left fun x _ => ?_
  rw [if_neg (by omega), if_neg (by omega)]
theorem sh_mem {n a l t : Nat} (h1 : a + l ≤ n) (h2 : t + l ≤ n) : shM n a l t ∈ shAll n := by
  cases l with
  | zero => rw [sh_zero]; exact List.mem_cons_self
  | succ l => exact List.mem_cons_of_mem _ (List.mem_flatMap.mpr ⟨l, List.mem_range.mpr (by omega), List.mem_flatMap.mpr ⟨a, List.mem_range.mpr (by omega), List.mem_map.mpr ⟨t, List.mem_range.mpr (by omega), rfl⟩⟩⟩)
theorem shAll_len {n : Nat} (h : n ≤ 12) : (shAll n).length ≤ 1000 := by
  have : ∀ n : Nat, (shAll n).length = 1 + ((List.range n).map fun l => (n - l) * (n - l)).sum := fun n => by
    unfold shAll
    rw [List.length_cons, List.length_flatMap, Nat.add_comm]
    congr 2
    refine List.map_congr_left fun l _ => ?_
    rw [List.length_flatMap]
    have : ∀ k m : Nat, ((List.range k).map fun _ => m).sum = k * m := fun k m => by rw [List.map_const', List.sum_replicate_nat, List.length_range]
    have e : (fun a => ((List.range (n - l)).map fun t => shM n a (l + 1) t).length) = fun _ => n - l := by funext a; rw [List.length_map, List.length_range]
    rw [show (List.map (fun a => ((List.range (n - l)).map fun t => shM n a (l + 1) t).length) (List.range (n - l))) = (List.range (n - l)).map (fun _ => n - l) from by rw [e]]
    exact this _ _
  rw [this]
  have hn : n = 0 ∨ n = 1 ∨ n = 2 ∨ n = 3 ∨ n = 4 ∨ n = 5 ∨ n = 6 ∨ n = 7 ∨ n = 8 ∨ n = 9 ∨ n = 10 ∨ n = 11 ∨ n = 12 := by omega
  rcases hn with rfl | rfl | rfl | rfl | rfl | rfl | rfl | rfl | rfl | rfl | rfl | rfl | rfl <;> decide
end Sf
namespace Sf
open PySem PySem.Spec PyProof.Rows L2 TL
/-! ### the signs of a world, and what they do to motions -/
def lowc (c : Nat) : Nat := if c ≤ 72 then c + 32 else c
def csL (L : Nat → List (Int × Int)) : List Nat := sgs.filter fun c => !(L (lowc c)).isEmpty
theorem lower_sg : ∀ c ∈ sgs, Txt.lower (one c) = one (lowc c) := by decide +kernel
theorem lowc_smls : ∀ c ∈ sgs, lowc c ∈ smls := by decide
theorem in_ltS {L : Nat → List (Int × Int)} {c : Nat} (h : c ∈ smls) : decide (c ∈ (ltS L).cps.toList) = !(L c).isEmpty := by
  have e : c ∈ (ltS L).cps.toList ↔ (!(L c).isEmpty) = true := by
    rw [show (ltS L).cps.toList = smls.filter fun c => !(L c).isEmpty from tl_mk _]
    rw [List.mem_filter]
    exact ⟨fun z => z.2, fun z => ⟨h, z⟩⟩
  cases e2 : (!(L c).isEmpty) with
  | true => exact decide_eq_true (e.mpr e2)
  | false => exact decide_eq_false fun z => by rw [e.mp z] at e2; cases e2
theorem sgs_tl' : tl (Str.ofString "aAbBcCdDeEfFgGhH") = sgs := by decide +kernel
def motM (L : Nat → List (Int × Int)) (n : Int) (z : Str) : Mot := (plc n).map fun x => ledM (stp L) (tl z) x
theorem motV_M (L : Nat → List (Int × Int)) (n : Int) (z : Str) : motV L n z = (motM L n z).map oV := by
  unfold motV motM
  rw [List.map_map]
  rfl
theorem ledM_one (st : Nat → Int → Option Int) (c : Nat) (x : Int) : ledM st [c] x = st c x := by
  show (st c x).bind (ledM st []) = st c x
  cases st c x <;> rfl
theorem jn_motM {L : Nat → List (Int × Int)} {n j : Int} {c : Nat} (h0 : 0 ≤ j) (h1 : j < n) : jn (motM L n (one c)) j = stp L c j := by
  unfold jn motM
  have e : (plc n)[j.toNat]? = some j := by
    unfold plc
    rw [List.getElem?_map, List.getElem?_range (by omega)]
    show some ((j.toNat : Nat) : Int) = some j
    rw [Int.toNat_of_nonneg h0]
  rw [List.getElem?_map, e]
  show ledM (stp L) [c] j = stp L c j
  exact ledM_one _ _ _
theorem comp_nx {L : Nat → List (Int × Int)} {n : Int} {c : Nat} {m : Mot} (hm : MotOk n.toNat m) : compM m (motM L n (one c)) = nxM (stp L) m c := by
  unfold compM nxM
  refine List.map_congr_left fun o ho => ?_
  cases o with
  | none => rfl
  | some j =>
    obtain ⟨h0, h1⟩ := hm.2 j ho
    exact jn_motM h0 (by omega)
theorem motM_id (L : Nat → List (Int × Int)) (n : Int) : motM L n (Str.ofString "") = idM n.toNat := by
  unfold motM idM plc
  rw [List.map_map]
  rfl
theorem idM_ok (n : Nat) : MotOk n (idM n) := by
  refine ⟨by unfold idM; rw [List.length_map, List.length_range], fun i hi => ?_⟩
  obtain ⟨x, hx, e⟩ := List.mem_map.mp hi
  have := List.mem_range.mp hx
  cases e
  omega
theorem motM_ok {L : Nat → List (Int × Int)} {n : Int} {c : Nat} (hL : ∀ x y, stp L c x = some y → 0 ≤ y ∧ y < n) : MotOk n.toNat (motM L n (one c)) := by
  refine ⟨by unfold motM; rw [List.length_map, plc_len], fun i hi => ?_⟩
  obtain ⟨x, _, e⟩ := List.mem_map.mp hi
  have e : ledM (stp L) [c] x = some i := e
  rw [ledM_one] at e
  have := hL x i e
  omega
/-- the motions of a world, as they are made -/
def gM (L : Nat → List (Int × Int)) (n : Int) (i : Nat) : List (Fg Mot) := gbfs (nxM (stp L)) (csL L) (idM n.toNat) i
/-- the entries of a dict, with their words -/
def EntAt (xs : List DE) (fs : List (Fg Mot)) : Prop := xs.map (fun x => (x.1, x.2.2)) = fs.map fun f => (f.1, V.str f.2)
theorem EntAt.len {xs : List DE} {fs : List (Fg Mot)} (h : EntAt xs fs) : xs.length = fs.length := by
  have := congrArg List.length h
  rwa [List.length_map, List.length_map] at this
theorem EntAt.keys {xs : List DE} {fs : List (Fg Mot)} (h : EntAt xs fs) : xs.map (·.1) = fs.map (·.1) := by
  have := congrArg (List.map (·.1)) h
  rw [List.map_map, List.map_map] at this
  exact this
theorem EntAt.snoc {xs : List DE} {fs : List (Fg Mot)} (h : EntAt xs fs) {m : Mot} {a : Addr} {z : Str} : EntAt (xs ++ [(m, a, .str z)]) (fs ++ [(m, z)]) := by
  unfold EntAt
  rw [List.map_append, List.map_append, h]
  rfl
theorem EntAt.val {xs : List DE} : ∀ {fs : List (Fg Mot)}, EntAt xs fs → (fs.map (·.1)).Nodup → ∀ f ∈ fs, ∃ a, valN xs f.1 = some (a, .str f.2) := by
  induction xs with
  | nil =>
    intro fs h _ f hf
    have := h
    cases fs with
    | nil => cases hf
    | cons g fs => cases this
  | cons x xs ih =>
    intro fs h nd f hf
    cases fs with
    | nil => cases hf
    | cons g fs =>
      obtain ⟨h1, h2⟩ := List.cons.inj h
      obtain ⟨h3, h4⟩ := Prod.mk.inj h1
      have nd' := List.nodup_cons.mp nd
      unfold valN
      rw [List.find?_cons]
      rcases List.mem_cons.mp hf with rfl | hf
      · rw [decide_eq_true h3]
        obtain ⟨m, a, v⟩ := x
        exact ⟨a, congrArg some (congrArg (Prod.mk a) h4)⟩
      · rw [decide_eq_false (fun z => nd'.1 (by show g.1 ∈ _; rw [← h3, z]; exact List.mem_map.mpr ⟨f, hf, rfl⟩))]
        exact ih h2 nd'.2 f hf
theorem EntAt.notin {xs : List DE} {fs : List (Fg Mot)} (h : EntAt xs fs) (m : Mot) : (valN xs m).isSome = decide (m ∈ fs.map (·.1)) := by
  rw [← h.keys]
  by_cases e : m ∈ xs.map (·.1)
  · rw [decide_eq_true e]
    cases e2 : valN xs m with
    | none => exact absurd e (valN_none.mp e2)
    | some p => rfl
  · rw [decide_eq_false e, valN_none.mpr e]
    rfl
end Sf
namespace Sf
open PySem PySem.Spec PyProof.Rows L2 TL
/-! ### going round a world, place by place -/
abbrev Fd := Int × Str
def ex1 (L : Nat → List (Int × Int)) (k : Fd) (fs : List Fd) (c : Nat) : List Fd :=
  match stp L c k.1 with
  | some e => if e ∈ fs.map (·.1) then fs else fs ++ [(e, k.2 ++ one c)]
  | none => fs
def exS (L : Nat → List (Int × Int)) (k : Fd) (fs : List Fd) (cs : List Nat) : List Fd := cs.foldl (ex1 L k) fs
def bfs (L : Nat → List (Int × Int)) (p : Int) : Nat → List Fd
  | 0 => [(p, Str.ofString "")]
  | i + 1 => match (bfs L p i)[i]? with
    | some k => exS L k (bfs L p i) sgs
    | none => bfs L p i
section
variable {L : Nat → List (Int × Int)} {p : Int}
theorem ex1_pre (k : Fd) (fs : List Fd) (c : Nat) : fs <+: ex1 L k fs c := by
  unfold ex1
  split
  · split
    · exact List.prefix_refl _
    · exact List.prefix_append _ _
  · exact List.prefix_refl _
theorem exS_pre (k : Fd) : ∀ (cs : List Nat) (fs : List Fd), fs <+: exS L k fs cs
  | [], fs => List.prefix_refl _
  | c :: cs, fs => (ex1_pre k fs c).trans (exS_pre k cs (ex1 L k fs c))
theorem exS_snoc (k : Fd) (fs : List Fd) (cs : List Nat) (c : Nat) : exS L k fs (cs ++ [c]) = ex1 L k (exS L k fs cs) c := by
  unfold exS
  rw [List.foldl_append]
  rfl
theorem bfs_succ {i : Nat} {k : Fd} (h : (bfs L p i)[i]? = some k) : bfs L p (i + 1) = exS L k (bfs L p i) sgs := by
  show (match (bfs L p i)[i]? with | some k => exS L k (bfs L p i) sgs | none => bfs L p i) = _
  rw [h]
theorem bfs_stop {i : Nat} (h : (bfs L p i).length ≤ i) : bfs L p (i + 1) = bfs L p i := by
  show (match (bfs L p i)[i]? with | some k => exS L k (bfs L p i) sgs | none => bfs L p i) = _
  rw [List.getElem?_eq_none h]
theorem bfs_pre (i : Nat) : bfs L p i <+: bfs L p (i + 1) := by
  cases h : (bfs L p i)[i]? with
  | none => rw [bfs_stop (List.getElem?_eq_none_iff.mp h)]; exact List.prefix_refl _
  | some k => rw [bfs_succ h]; exact exS_pre k sgs _
theorem bfs_mono {i j : Nat} (h : i ≤ j) : bfs L p i <+: bfs L p j := by
  induction j with
  | zero => rw [Nat.le_zero.mp h]; exact List.prefix_refl _
  | succ j ih =>
    by_cases e : i = j + 1
    · rw [e]; exact List.prefix_refl _
    · exact (ih (by omega)).trans (bfs_pre j)
theorem bfs_still {i : Nat} (h : (bfs L p i).length ≤ i) : ∀ m, bfs L p (i + m) = bfs L p i
  | 0 => rfl
  | m + 1 => by
    have e := bfs_still h m
    show bfs L p (i + m + 1) = _
    rw [bfs_stop (by rw [e]; omega), e]
/-- the round is whole -/
def FinB (L : Nat → List (Int × Int)) (p : Int) (fs : List Fd) : Prop := ∃ N, fs = bfs L p N ∧ fs.length ≤ N
theorem FinB.one {fs gs : List Fd} : FinB L p fs → FinB L p gs → fs = gs
  | ⟨N, e1, h1⟩, ⟨M, e2, h2⟩ => by
    subst e1 e2
    by_cases h : N ≤ M
    · have := bfs_still h1 (M - N)
      rw [show N + (M - N) = M by omega] at this
      exact this.symm
    · have := bfs_still h2 (N - M)
      rw [show M + (N - M) = N by omega] at this
      exact this
/-- what holds of all that is found -/
structure FsOk (n : Int) (fs : List Fd) : Prop where
  nd : (fs.map (·.1)).Nodup
  rg : ∀ k ∈ fs, 0 ≤ k.1 ∧ k.1 < n
  wl : ∀ k ∈ fs, k.2.length + 1 ≤ fs.length
def LRg (n : Int) (L : Nat → List (Int × Int)) : Prop := ∀ c ∈ sgs, ∀ q ∈ L c, 0 ≤ q.1 ∧ q.1 < n ∧ 0 ≤ q.2 ∧ q.2 < n
theorem len_snoc (x : Str) (c : Nat) : (x ++ one c).length = x.length + 1 := by rw [len_app, len_one]
theorem ex1_ok {n : Int} (hL : LRg n L) {k : Fd} {fs : List Fd} {c : Nat} (hc : c ∈ sgs) (hk : k ∈ fs) (h : FsOk n fs) : FsOk n (ex1 L k fs c) := by
  unfold ex1
  split
  · rename_i e he
    split
    · exact h
    · rename_i hn
      have hq := hL c hc _ (lk_mem he)
      refine ⟨?_, fun q hq' => ?_, fun q hq' => ?_⟩
      · rw [List.map_append, List.nodup_append]
        refine ⟨h.nd, by simp, fun a ha b hb => ?_⟩
        have : b = e := by simpa using hb
        rw [this]
        exact fun z => hn (by rw [← z]; exact ha)
      · rcases List.mem_append.mp hq' with z | z
        · exact h.rg q z
        · rw [List.mem_singleton.mp z]
          exact ⟨hq.2.2.1, hq.2.2.2⟩
      · rw [List.length_append]
        rcases List.mem_append.mp hq' with z | z
        · have := h.wl q z
          omega
        · rw [List.mem_singleton.mp z]
          have := h.wl k hk
          show (k.2 ++ one c).length + 1 ≤ fs.length + 1
          rw [len_snoc]
          omega
  · exact h
theorem exS_ok {n : Int} (hL : LRg n L) {k : Fd} : ∀ (cs : List Nat) (fs : List Fd), (∀ c ∈ cs, c ∈ sgs) → k ∈ fs → FsOk n fs → FsOk n (exS L k fs cs)
  | [], fs, _, _, h => h
  | c :: cs, fs, hc, hk, h => exS_ok hL cs _ (fun d hd => hc d (List.mem_cons_of_mem _ hd)) ((ex1_pre k fs c).subset hk) (ex1_ok hL (hc c List.mem_cons_self) hk h)
theorem bfs_ok {n : Int} (hL : LRg n L) (h0 : 0 ≤ p) (h1 : p < n) : ∀ i, FsOk n (bfs L p i)
  | 0 => ⟨by show [p].Nodup; simp, fun k hk => by rw [List.mem_singleton.mp hk]; exact ⟨h0, h1⟩, fun k hk => by rw [List.mem_singleton.mp hk]; show (Str.ofString "").length + 1 ≤ 1; decide +kernel⟩
  | i + 1 => by
    cases h : (bfs L p i)[i]? with
    | none => rw [bfs_stop (List.getElem?_eq_none_iff.mp h)]; exact bfs_ok hL h0 h1 i
    | some k => rw [bfs_succ h]; exact exS_ok hL sgs _ (fun _ h => h) (List.mem_of_getElem? h) (bfs_ok hL h0 h1 i)
theorem nd_len {α : Type} [DecidableEq α] : ∀ (l r : List α), l.Nodup → (∀ x ∈ l, x ∈ r) → l.length ≤ r.length
  | [], r, _, _ => Nat.zero_le _
  | x :: l, r, nd, h => by
    have nd' := List.nodup_cons.mp nd
    have hx := h x List.mem_cons_self
    have ih := nd_len l (r.erase x) nd'.2 fun y hy => (List.mem_erase_of_ne (fun z => nd'.1 (by rw [← z]; exact hy))).mpr (h y (List.mem_cons_of_mem _ hy))
    rw [List.length_erase_of_mem hx] at ih
    have := List.length_pos_of_mem hx
    show l.length + 1 ≤ r.length
    omega
theorem mem_plc {n x : Int} : x ∈ plc n ↔ 0 ≤ x ∧ x < n := by
  unfold plc
  rw [List.mem_map]
  constructor
  · rintro ⟨i, hi, rfl⟩
    have := List.mem_range.mp hi
    exact ⟨by omega, by omega⟩
  · rintro ⟨h0, h1⟩
    exact ⟨x.toNat, List.mem_range.mpr (by omega), by omega⟩
theorem FsOk.len {n : Int} {fs : List Fd} (h : FsOk n fs) : fs.length ≤ n.toNat := by
  have := nd_len (fs.map (·.1)) (plc n) h.nd fun x hx => by
    obtain ⟨k, hk, rfl⟩ := List.mem_map.mp hx
    exact mem_plc.mpr (h.rg k hk)
  rw [List.length_map] at this
  unfold plc at this
  rw [List.length_map, List.length_range] at this
  exact this
/-- where the signs have led from a place, it is found -/
theorem ex1_has {k : Fd} {fs : List Fd} {c : Nat} {e : Int} (h : stp L c k.1 = some e) : e ∈ (ex1 L k fs c).map (·.1) := by
  unfold ex1
  rw [h]
  dsimp only
  split
  · assumption
  · rw [List.map_append]
    exact List.mem_append_right _ (List.mem_singleton.mpr rfl)
theorem pre_keys {fs gs : List Fd} (h : fs <+: gs) {e : Int} (m : e ∈ fs.map (·.1)) : e ∈ gs.map (·.1) := by
  obtain ⟨q, hq, rfl⟩ := List.mem_map.mp m
  exact List.mem_map.mpr ⟨q, h.subset hq, rfl⟩
theorem exS_has {k : Fd} {e : Int} : ∀ (cs : List Nat) (fs : List Fd) {c : Nat}, c ∈ cs → stp L c k.1 = some e → e ∈ (exS L k fs cs).map (·.1)
  | x :: cs, fs, c, hc, h => by
    rcases List.mem_cons.mp hc with rfl | hc
    · exact pre_keys (exS_pre k cs _) (ex1_has h)
    · exact exS_has cs _ hc h
theorem pre_get {fs gs : List Fd} (h : fs <+: gs) {j : Nat} {k : Fd} (e : fs[j]? = some k) : gs[j]? = some k := by
  obtain ⟨t, rfl⟩ := h
  rw [List.getElem?_append_left (List.getElem?_eq_some_iff.mp e).1]
  exact e
theorem bfs_closed : ∀ (i j : Nat) {k : Fd} {c : Nat} {e : Int}, j < i → (bfs L p i)[j]? = some k → c ∈ sgs → stp L c k.1 = some e → e ∈ (bfs L p i).map (·.1)
  | i + 1, j, k, c, e, hj, hk, hc, h => by
    have pre : bfs L p i <+: bfs L p (i + 1) := bfs_pre i
    cases hi : (bfs L p i)[i]? with
    | none =>
      have hle := List.getElem?_eq_none_iff.mp hi
      rw [bfs_stop hle] at hk ⊢
      have : j < (bfs L p i).length := (List.getElem?_eq_some_iff.mp hk).1
      exact bfs_closed i j (by omega) hk hc h
    | some k' =>
      by_cases e' : j = i
      · subst e'
        have h2 : (bfs L p (j + 1))[j]? = some k' := pre_get pre hi
        rw [h2] at hk
        cases hk
        rw [bfs_succ hi]
        exact exS_has sgs _ hc h
      · have hji : j < i := by omega
        have hli : i < (bfs L p i).length := (List.getElem?_eq_some_iff.mp hi).1
        have hk' : (bfs L p i)[j]? = some k := by
          have z : (bfs L p i)[j]? = some (bfs L p i)[j] := List.getElem?_eq_getElem (by omega)
          have z2 := pre_get pre z
          rw [hk] at z2
          rw [z, ← z2]
        exact pre_keys pre (bfs_closed i j hji hk' hc h)
theorem FinB.closed {fs : List Fd} (h : FinB L p fs) {k : Fd} {c : Nat} {e : Int} (hk : k ∈ fs) (hc : c ∈ sgs) (hs : stp L c k.1 = some e) : e ∈ fs.map (·.1) := by
  obtain ⟨N, rfl, hN⟩ := h
  obtain ⟨j, hj⟩ := List.mem_iff_getElem?.mp hk
  exact bfs_closed N j (by have := (List.getElem?_eq_some_iff.mp hj).1; omega) hj hc hs
end
end Sf
namespace Sf
open PySem PySem.Spec PyProof.Rows L2 TL
section
/-! ### while -/
def kWh (W : Nat → L2.St → Hp → Prop) (tb : TS) (nx : L2.St → Hp → Prop) (rt : VK) (m : Nat) (σ : L2.St) : Bool → Hp → Prop := fun b H1 => if b = true then ∃ N : L2.St → Hp → Prop, (∀ σ' H', N σ' H' → ∃ m', m' < m ∧ W m' σ' H') ∧ tb ⟨N, rt, nx, N⟩ σ H1 else nx σ H1
theorem w_while {σ : L2.St} {H : Hp} {tc : TT} {tb : TS} {nx : L2.St → Hp → Prop} {rt : VK} {bk ct : L2.St → Hp → Prop} (W : Nat → L2.St → Hp → Prop) {m : Nat} (h0 : W m σ H) (hs : ∀ m σ H, W m σ H → tc σ H (kWh W tb nx rt m σ)) : tWhile tc tb ⟨nx, rt, bk, ct⟩ σ H := ⟨W, ⟨m, h0⟩, hs⟩
theorem w_whT {W : Nat → L2.St → Hp → Prop} {tb : TS} {nx : L2.St → Hp → Prop} {rt : VK} {m : Nat} {σ : L2.St} {H : Hp} (q : tb ⟨fun σ' H' => ∃ m', m' < m ∧ W m' σ' H', rt, nx, fun σ' H' => ∃ m', m' < m ∧ W m' σ' H'⟩ σ H) : kWh W tb nx rt m σ true H := iteT ⟨_, fun _ _ h => h, q⟩
theorem w_whF {W : Nat → L2.St → Hp → Prop} {tb : TS} {nx : L2.St → Hp → Prop} {rt : VK} {m : Nat} {σ : L2.St} {H : Hp} (q : nx σ H) : kWh W tb nx rt m σ false H := by
  unfold kWh
  rw [if_neg (by decide)]
  exact q
end
end Sf
namespace Sf
open PySem PySem.Spec PyProof.Rows L2 TL
section
variable {P : Program} {w : World} {K : PySem.W.Frag} {mg : Str → Option Value} {base : Heap} {C CH fH : Addr} {fdH : FuncData}
/-! ### made_in -/
/-- Heavy is raised -/
def XHv (CH : Addr) (most : Int) (H : Hp) (E : XK) : Prop := ∀ (d : Addr) (H' : Hp), H d = none → H' d = some (.xd [(("many" : Str), .int most), (("word" : Str), .str (Str.ofString "heavy"))]) → Same H H' → E (.ref CH) (some d) H'
def spMi (P : Program) (w : World) (C CH : Addr) : Sp := fun vs H Q E => ∃ (p : Addr) (n most : Int) (L : Nat → List (Int × Int)), vs = [.ref p, .int most] ∧ WAt C H p n L ∧ LRg n L ∧ 0 ≤ n ∧ n ≤ 12 ∧ 1 ≤ most ∧ most ≤ 1900 ∧
  (∀ (i : Nat) (d : Addr) (xs : List DE) (H' : Hp), (gM L n i).length ≤ i → (gM L n i).length ≤ most.toNat → H d = none → Same H H' → H' d = some (DN P w d xs) → KeysAt H' xs → EntAt xs (gM L n i) → Q (.ref d) H') ∧
  (∀ i, most.toNat < (gM L n i).length → XHv CH most H E)
/-- a step: a sign and its motion -/
def StpAt (L : Nat → List (Int × Int)) (n : Int) (H : Hp) (u : V) (c : Nat) : Prop := ∃ t a, u = .ref t ∧ H t = some (.tup [.str (one c), .ref a]) ∧ H a = some (.tup ((motM L n (one c)).map oV))
def StsAt (L : Nat → List (Int × Int)) (n : Int) (H : Hp) (us : List V) (cs : List Nat) : Prop := Paired (StpAt L n H) us cs
theorem StpAt.same {L : Nat → List (Int × Int)} {n : Int} {H H' : Hp} {u : V} {c : Nat} (s : Same H H') : StpAt L n H u c → StpAt L n H' u c := fun ⟨t, a, e, h1, h2⟩ => ⟨t, a, e, s.at h1, s.at h2⟩
theorem StpAt.tps {L : Nat → List (Int × Int)} {n : Int} {H H' : Hp} {u : V} {c : Nat} (T : ∀ b ys, H b = some (.tup ys) → H' b = some (.tup ys)) : StpAt L n H u c → StpAt L n H' u c := fun ⟨t, a, e, h1, h2⟩ => ⟨t, a, e, T _ _ h1, T _ _ h2⟩
theorem sgs_sgn : ∀ c ∈ sgs, sgn c = true := by decide
theorem StsAt.same {L : Nat → List (Int × Int)} {n : Int} {H H' : Hp} {us : List V} {cs : List Nat} (s : Same H H') (h : StsAt L n H us cs) : StsAt L n H' us cs := Paired.mono (fun _ _ z => z.same s) h
theorem pre_getG {α : Type} {fs gs : List α} (h : fs <+: gs) {j : Nat} {k : α} (e : fs[j]? = some k) : gs[j]? = some k := by
  obtain ⟨r, rfl⟩ := h
  rw [List.getElem?_append_left (List.getElem?_eq_some_iff.mp e).1]
  exact e
theorem w_dispN {σ : L2.St} {H : Hp} {Q : VK} {tk tv : TE} (k : ∀ p H1, H1 p = some (DN P w p []) → Nw p H H1 → tk σ H1 fun x H2 => tv σ H2 fun y H3 => H3 p = some (DN P w p []) ∧ ∃ (b : Addr) (m : Mot), x = .ref b ∧ H3 b = some (.tup (m.map oV)) ∧ Q (.ref p) (upd H3 p (DN P w p [(m, b, y)]))) : tDispN P w tk tv σ H Q := fun p hp => k p _ upd_same (.mk' hp)
theorem w_listN {H : Hp} {Q : VK} {d : Addr} {xs : List DE} (e : H d = some (DN P w d xs)) (k : ∀ p H1, H1 p = some (.lst (xs.map fun x => .ref x.2.1)) → Nw p H H1 → Q (.ref p) H1) : rListN P w [.ref d] H Q := ⟨d, xs, rfl, e, fun p hp => k p _ upd_same (.mk' hp)⟩
theorem w_lenN {H : Hp} {Q : VK} {d : Addr} {xs : List DE} (e : H d = some (DN P w d xs)) (hk : KeysAt H xs) (q : Q (.int ((xs.length : Nat) : Int)) H) : rLenN P w [.ref d] H Q := ⟨d, xs, rfl, e, hk, q⟩
theorem Tps.offN {H H1 H2 : Hp} {p : Addr} {ys : List DE} (a : Tps H H1) (h1 : H1 p = some (DN P w p ys)) (b : Of p H1 H2) : Tps H H2 := fun c xs h => b.at (ne_of (a _ _ h) h1 (by intro z; cases z)) (a _ _ h)
theorem sc_mi : FnScope ["world", "most", "sign", "steps", "made", "edge", "beyond", "motion", "step", "further"] ["world", "most"] (defScope s_made_in) := ⟨rfl, rfl, rfl, by decide +kernel, rfl, by decide +kernel, by decide +kernel⟩
theorem has_mi (F : FnAt K mg "made_in" s_made_in ["world", "most"]) (B : Blt mg) (T_World : WC K mg C) {t1 : Tok} (C_SIGNS : mg "SIGNS" = some (.str (Str.ofString "aAbBcCdDeEfFgGhH") t1)) (h_Bh : Has P w K mg base 1 "behind" ["motion", "step"] spBh) (h_Mo : HasM P w K mg base C 3 "motion" ["self", "word"] (spMo C)) (h_Lt : HasM P w K mg base C 1 "letters" ["self"] (spLet C))
    (T_Heavy : EC K mg "Heavy" CH fH) (nf : PySem.W.findIn K (.ref CH) "many" = some none) (G_Heavy : FnOk P w K mg base CX0 2 fH fdH ["self", "many"] (spExA K (Str.ofString "heavy") "many")) (b_Heavy : Binds K fdH ["self", "many"] []) : HasX P w K mg base 4 "made_in" ["world", "most"] (spMi P w C CH) := by
  obtain ⟨f, fd, g, F, bb⟩ := F
  refine ⟨f, fd, g, F.kp, bb, ?_⟩
  obtain ⟨f_Bh, fd_Bh, g_Bh, k_Bh, b_Bh, G_Bh⟩ := h_Bh
  obtain ⟨f_Mo, fd_Mo, m_Mo, b_Mo, G_Mo⟩ := h_Mo
  obtain ⟨f_Lt, fd_Lt, m_Lt, b_Lt, G_Lt⟩ := h_Lt
  refine F.okX sc_mi (fun vs H Q E h => ?_) (fun cdv A outer s H vs Q E hr h => ?_)
  · obtain ⟨p, n, most, L, rfl, _⟩ := h
    rfl
  · obtain ⟨p, n, most, L, rfl, hW, hL, n0, n12, m1, mk, q1, q2⟩ := h
    refine ⟨_, (pss_cons (ps_setLc (i := 3) (own := [("sign", 2)]) (g := gName 2) (by rfl) sc_mi.nd rfl rfl (sw_true rfl rfl rfl (by decide +kernel)) (pi_str (pe_gS (by rfl) C_SIGNS)) (blkOk_by (own := [("sign", 2)]) (N := ["world", "most", "sign", "steps", "made", "edge", "beyond", "motion", "step", "further"]) (sc := defScope s_made_in) (by decide +kernel)) (fun _ _ _ _ _ => pg_name (i := 2) sc_mi.nd rfl (.inl rfl)) (fun _ _ _ _ _ => pts_one (pt_cmpR op_inSg (pe_m0 PySem.F.slot_str_lower PySem.F.type_str_lower mt_loN (pv 2)) (pe_meth0 (pv 0) T_World.cl m_Lt G_Lt (hr.mono (by decide)) b_Lt .nil pass0) rfl)) (fun _ _ _ _ _ => (pe_tup (pa_cons (pv 2) (pa_cons (pe_meth (pv 0) T_World.cl m_Mo G_Mo (hr.mono (by decide)) b_Mo .nil pass0 (pa_cons (pv 2) pa_nil)) pa_nil))))) (pss_cons (ps_set (i := 4) sc_mi.nd rfl (.inl rfl) (pe_dispN (hu_of hr) (pe_meth (pv 0) T_World.cl m_Mo G_Mo (hr.mono (by decide)) b_Mo .nil pass0 (pa_cons pe_str pa_nil)) pe_str)) (pss_cons (ps_set (i := 5) sc_mi.nd rfl (.inl rfl) (pe_callTy (call_listN rfl) (by rfl) B.list (by decide +kernel) (pa_cons (pv 4) pa_nil))) (pss_cons (ps_while (passes_of rfl) (pt_truth (pv 5) (by intro _; rfl)) (pss_cons (ps_set (i := 6) sc_mi.nd rfl (.inl rfl) (pe_lst pa_nil)) (pss_cons (ps_for (passes_of rfl) rfl (pi_list (pv 5)) (pg_name (i := 7) sc_mi.nd rfl (.inl rfl)) (pss_one (ps_for (passes_of rfl) rfl (pi_list (pv 3)) (pg_tup rfl (pgs_cons (pg_name (i := 2) sc_mi.nd rfl (.inl rfl)) (pgs_cons (pg_name (i := 8) sc_mi.nd rfl (.inl rfl)) pgs_nil))) (pss_cons (ps_set (i := 9) sc_mi.nd rfl (.inl rfl) (pe_call G_Bh (hr.mono (by decide)) (by rfl) g_Bh k_Bh b_Bh .nil pass0 (pa_cons (pv 7) (pa_cons (pv 8) pa_nil)))) (pss_one (ps_if (pt_cmp (pc_notInN (hu_of hr) (pv 9) (pv 4))) (pss_cons (ps_if (pt_cmpR op_eq (pe_callB call_lenN (by rfl) B.len PySem.boot_len (pa_cons (pv 4) pa_nil)) (pv 1) (nomark _)) (pss_one (ps_raise rfl (takes_of rfl rfl rfl rfl) (pmk_oex T_Heavy.ox T_Heavy.iC T_Heavy.tI G_Heavy (hr.mono (by decide)) b_Heavy .nil pass0 (by rfl) T_Heavy.gC (pa_cons (pv 1) pa_nil)))) pss_nil) (pss_cons (ps_putN (hu_of hr) (pv 4) (pv 9) (pe_op op_addS (pe_getN (hu_of hr) (pv 4) (pv 7) (fun _ _ => rfl)) (pv 2)) rfl) (pss_one (ps_expr (pe_bm PySem.F.plainAttrs_list PySem.F.slot_list_append PySem.F.type_list_append mt_append (pv 6) (pa_cons (pv 9) pa_nil)))))) pss_nil)))))) (pss_one (ps_set (i := 5) sc_mi.nd rfl (.inl rfl) (pv 6)))))) (pss_one (ps_ret (pv 4))))))), ?_⟩
    obtain ⟨dx, pl, ld, d, hp, hpl, hLd⟩ := id hW
    walk_at "go"
    refine w_lcS (fun r i H2 => ∃ us, Same H H2 ∧ H r = none ∧ H2 r = some (.lst us) ∧ us.length ≤ i ∧ StsAt L n H2 us ((sgs.take i).filter fun c => !(L (lowc c)).isEmpty)) (fun r H2 hr nr => ⟨[], nr.same, nr.nn, hr, Nat.le_refl _, .nil⟩) ?_ ?_
    · rintro r i c H2 hc ⟨us, s2, nr, hr2, hul, hus⟩
      rw [sgs_tl'] at hc
      have hcs : c ∈ sgs := List.mem_of_getElem? hc
      have hi : i < sgs.length := (List.getElem?_eq_some_iff.mp hc).1
      have hi : i < 16 := hi
      have hin := in_ltS (L := L) (lowc_smls c hcs)
      walk_at "go"
      refine w_lower (by rw [len_one]; decide) ?_
      rw [lower_sg c hcs]
      walk_at "go"
      refine w_kMeth (s2.at hp) (wf_no _ _ (by decide +kernel) (by decide +kernel)) ?_
      walk_at "go"
      refine ⟨p, n, L, rfl, hW.same s2, fun H3 s3 => ?_⟩
      walk_at "go"
      have s23 := s2.trans s3
      rw [hin, take_snoc hc, List.filter_append]
      cases e : (!(L (lowc c)).isEmpty) with
      | false =>
        refine w_tstF ?_
        refine ⟨us, s23, nr, s3.at hr2, by omega, ?_⟩
        rw [List.filter_cons_of_neg (by rw [e]; decide), List.filter_nil, List.append_nil]
        exact hus.same s3
      | true =>
        refine w_tstT ?_
        walk_at "go"
        refine w_kMeth (s23.at hp) (wf_no _ _ (by decide +kernel) (by decide +kernel)) ?_
        walk_at "go"
        refine ⟨p, n, L, one c, rfl, hW.same s23, wd_one (sgs_sgn c hcs), by rw [len_one]; decide, by omega, fun t H4 nt s4 ht => ?_⟩
        walk_at "go"
        refine w_newT (by walk_at "sz") (fun t2 H5 ht2 nt2 => ?_)
        have s35 : Same H3 H5 := s4.nw nt2
        have hr5 := s35.at (s3.at hr2)
        refine w_kIt hr5 (lineLt_of (by omega)) (fun H6 h6 o6 => ?_)
        refine ⟨_, (s23.trans s35).off o6 nr, nr, h6, by rw [List.length_append]; show us.length + 1 ≤ i + 1; omega, ?_⟩
        have T : ∀ b ys, H5 b = some (.tup ys) → H6 b = some (.tup ys) := fun b ys hb => o6.at (fun z => by rw [z, hr5] at hb; cases hb) hb
        rw [show List.filter (fun c => !(L (lowc c)).isEmpty) [c] = [c] by rw [List.filter_cons_of_pos (p := fun c => !(L (lowc c)).isEmpty) e]; rfl]
        refine Paired.snoc (Paired.mono (fun _ _ z => z.tps T) (hus.same (s3.trans s35))) ?_
        rw [motV_M] at ht
        exact ⟨t2, t, rfl, T _ _ ht2, T _ _ (nt2.at ht)⟩
    · rintro sp H2 ⟨us, s2, nsp, hsp, hul, hus⟩
      rw [sgs_tl', show sgs.take sgs.length = sgs from List.take_length] at hus
      have hus : StsAt L n H2 us (csL L) := hus
      walk_at "go"
      refine w_dispN (fun md H3 hmd nmd => ?_)
      walk_at "go"
      have s3 : Same H H3 := s2.nw nmd
      refine w_kMeth (s3.at hp) (wf_no _ _ (by decide +kernel) (by decide +kernel)) ?_
      walk_at "go"
      refine ⟨p, n, L, _, rfl, hW.same s3, (fun c hc => by rw [tl_empty] at hc; cases hc), by decide +kernel, by omega, fun t H4 nt s4 ht => ?_⟩
      walk_at "go"
      rw [motV_M, motM_id] at ht
      refine ⟨s4.at hmd, t, idM n.toNat, rfl, ht, ?_⟩
      generalize hH5 : upd H4 md _ = H5
      have hm5 : H5 md = some (DN P w md [(idM n.toNat, t, .str (Str.ofString ""))]) := hH5 ▸ upd_same
      have o5 : Of md H4 H5 := hH5 ▸ .mk'
      have nmdH : H md = none := s2.free nmd.nn
      have spmd : sp ≠ md := nmd.ne hsp
      have s5 : Same H H5 := (s3.trans s4).off o5 nmdH
      have t5 : Tps H4 H5 := Tps.refl.offN (s4.at hmd) o5
      have hsp5 : H5 sp = some (.lst us) := o5.at spmd (s4.at (nmd.at hsp))
      have hus5 : StsAt L n H5 us (csL L) := Paired.mono (fun _ _ z => z.tps t5) (hus.same (nmd.same.trans s4))
      have hk5 : KeysAt H5 [(idM n.toNat, t, .str (Str.ofString ""))] := fun x hx => by
        rw [List.mem_singleton.mp hx]
        exact t5 _ _ ht
      walk_at "go"
      refine w_listN hm5 (fun ed H6 hed ned => ?_)
      walk_at "gs"
      have okg : ∀ i, ∀ f ∈ gM L n i, MotOk n.toNat f.1 := gbfs_all (idM_ok _) fun k c hc hk => by
        have hcs : c ∈ sgs := (List.mem_filter.mp hc).1
        rw [← comp_nx hk]
        exact hk.comp (motM_ok fun x y e => by have := hL c hcs _ (lk_mem e); exact ⟨this.2.2.1, this.2.2.2⟩)
      refine w_while (m := most.toNat + 1) (fun m σ H3 => ∃ (y2 y6 y7 y8 y9 : Option V) (ed : Addr) (a : Nat) (xs : List DE), σ = [some (.ref p), some (.int most), y2, some (.ref sp), some (.ref md), some (.ref ed), y6, y7, y8, y9] ∧ Same H H3 ∧ H ed = none ∧ sp ≠ ed ∧ md ≠ ed ∧ H3 sp = some (.lst us) ∧ StsAt L n H3 us (csL L) ∧ H3 md = some (DN P w md xs) ∧ KeysAt H3 xs ∧ EntAt xs (gM L n a) ∧ H3 ed = some (.lst ((xs.drop a).map fun x => .ref x.2.1)) ∧ m + a = most.toNat + 1 ∧ a ≤ xs.length ∧ xs.length ≤ most.toNat) ?_ ?_
      · refine ⟨none, none, none, none, none, ed, 0, _, rfl, s5.nw ned, s5.free ned.nn, ned.ne hsp5, ned.ne hm5, ned.at hsp5, hus5.same ned.same, ned.at hm5, hk5.tps (fun _ _ z => ned.at z), rfl, hed, rfl, Nat.zero_le _, ?_⟩
        show 1 ≤ most.toNat
        omega
      · rintro m σ H3 ⟨y2, y6, y7, y8, y9, ed, a, xs, rfl, s3, ned, sed, med, hsp3, hus3, hm3, hk3, he3, hed3, hm, hal, hxm⟩
        have hxl := he3.len
        refine ⟨_, rfl, _, .inl ⟨_, SqL.of hed3, rfl⟩, ?_⟩
        by_cases hend : xs.length = a
        · rw [List.drop_of_length_le (by omega)]
          refine w_whF ?_
          walk_at "go"
          exact q1 a md xs H3 (by omega) (by omega) nmdH s3 hm3 hk3 he3
        · have e1 : (!((xs.drop a).map fun x => V.ref x.2.1).isEmpty) = true := by
            rw [Bool.not_eq_true', List.isEmpty_eq_false_iff]
            intro z
            have := congrArg List.length z
            rw [List.length_map, List.length_drop] at this
            have z2 : (([] : List V)).length = 0 := rfl
            omega
          rw [e1]
          refine w_whT ?_
          walk_at "go"
          refine w_newL (by walk_at "sz") (fun be H4 hbe nbe => ?_)
          have nb : H be = none := s3.free nbe.nn
          have bm : be ≠ md := (nbe.ne hm3).symm
          have bsp : be ≠ sp := (nbe.ne hsp3).symm
          have bed : be ≠ ed := (nbe.ne hed3).symm
          have s4 : Same H H4 := s3.nw nbe
          walk_at "go"
          refine w_list (xs := (xs.drop a).map fun x => V.ref x.2.1) (fun i σ H5 => ∃ (y2 y7 y8 y9 : Option V) (xs5 : List DE), σ = [some (.ref p), some (.int most), y2, some (.ref sp), some (.ref md), some (.ref ed), some (.ref be), y7, y8, y9] ∧ Same H H5 ∧ H5 sp = some (.lst us) ∧ StsAt L n H5 us (csL L) ∧ H5 md = some (DN P w md xs5) ∧ KeysAt H5 xs5 ∧ EntAt xs5 (gM L n (a + i)) ∧ xs <+: xs5 ∧ H5 ed = some (.lst ((xs.drop a).map fun x => .ref x.2.1)) ∧ H5 be = some (.lst ((xs5.drop xs.length).map fun x => .ref x.2.1)) ∧ xs5.length ≤ most.toNat) ⟨y2, y7, y8, y9, xs, rfl, s4, nbe.at hsp3, hus3.same nbe.same, nbe.at hm3, hk3.tps (fun _ _ z => nbe.at z), he3, List.prefix_refl _, nbe.at hed3, by rw [List.drop_of_length_le (Nat.le_refl _)]; exact hbe, hxm⟩ (fun i σ H5 _ ⟨_, _, _, _, _, _, _, _, _, _, _, _, _, h, _⟩ => h) ?_ ?_
          · rintro i v σ H5 hv ⟨y2, y7, y8, y9, xs5, rfl, s5, hsp5, hus5, hm5, hk5, he5, pre5, hed5, hbe5, hx5⟩
            obtain ⟨x, hx, rfl⟩ : ∃ x, xs[a + i]? = some x ∧ V.ref x.2.1 = v := by
              rw [List.getElem?_map, List.getElem?_drop, Option.map_eq_some_iff] at hv
              exact hv
            have hx5' : xs5[a + i]? = some x := pre_getG pre5 hx
            obtain ⟨g, hg, eg⟩ : ∃ g, (gM L n (a + i))[a + i]? = some g ∧ (g.1, V.str g.2) = (x.1, x.2.2) := by
              have := congrArg (fun l => l[a + i]?) he5
              simp only [List.getElem?_map, hx5', Option.map_some] at this
              exact Option.map_eq_some_iff.mp this.symm
            obtain ⟨eg1, eg2⟩ := Prod.mk.inj eg
            have gin : g ∈ gM L n (a + i) := List.mem_of_getElem? hg
            have gok := okg (a + i) g gin
            walk_at "go"
            refine w_list (xs := us) (fun j σ H6 => ∃ (y2 y8 y9 : Option V) (xs6 : List DE), σ = [some (.ref p), some (.int most), y2, some (.ref sp), some (.ref md), some (.ref ed), some (.ref be), some (.ref x.2.1), y8, y9] ∧ Same H H6 ∧ H6 sp = some (.lst us) ∧ StsAt L n H6 us (csL L) ∧ H6 md = some (DN P w md xs6) ∧ KeysAt H6 xs6 ∧ EntAt xs6 (gxS (nxM (stp L)) g (gM L n (a + i)) ((csL L).take j)) ∧ xs5 <+: xs6 ∧ H6 ed = some (.lst ((xs.drop a).map fun x => .ref x.2.1)) ∧ H6 be = some (.lst ((xs6.drop xs.length).map fun x => .ref x.2.1)) ∧ xs6.length ≤ most.toNat) ⟨_, _, _, xs5, rfl, s5, hsp5, hus5, hm5, hk5, he5, List.prefix_refl _, hed5, hbe5, hx5⟩ (fun i σ H5 _ ⟨_, _, _, _, _, _, h, _⟩ => h) ?_ ?_
            · rintro j u σ H6 hu ⟨y2, y8, y9, xs6, rfl, s6, hsp6, hus6, hm6, hk6, he6, pre6, hed6, hbe6, hx6⟩
              obtain ⟨c, hc, t, sa, rfl, ht, hsa⟩ := paired_get hus6 hu
              have hcs : c ∈ sgs := (List.mem_filter.mp (List.mem_of_getElem? hc)).1
              have hxin : x ∈ xs6 := pre6.subset (List.mem_of_getElem? hx5')
              have hkx := hk6 x hxin
              have pg : gM L n (a + i) <+: gxS (nxM (stp L)) g (gM L n (a + i)) ((csL L).take j) := gxS_pre g _ _
              have ndg : ((gxS (nxM (stp L)) g (gM L n (a + i)) ((csL L).take j)).map (·.1)).Nodup := gxS_nd _ (gbfs_nd (a + i))
              have gsucc : gM L n (a + i + 1) = gxS (nxM (stp L)) g (gM L n (a + i)) (csL L) := gbfs_succ hg
              have gpre : gxS (nxM (stp L)) g (gM L n (a + i)) ((csL L).take (j + 1)) <+: gM L n (a + i + 1) := by
                rw [gsucc]
                have := gxS_pre (nx := nxM (stp L)) g ((csL L).drop (j + 1)) (gxS (nxM (stp L)) g (gM L n (a + i)) ((csL L).take (j + 1)))
                unfold gxS at this ⊢
                rwa [← List.foldl_append, List.take_append_drop] at this
              have gin6 : g ∈ gxS (nxM (stp L)) g (gM L n (a + i)) ((csL L).take j) := pg.subset gin
              have wl : g.2.length + 1 ≤ (gM L n (a + i)).length := gbfs_wl (a + i) g gin
              have pgl := pg.length_le
              have hxl6 := he6.len
              rw [take_snoc hc, gxS_snoc] at gpre ⊢
              generalize gxS (nxM (stp L)) g (gM L n (a + i)) ((csL L).take j) = fs at he6 ndg gpre gin6 pgl hxl6 ⊢
              have hmo : MotOk n.toNat (motM L n (one c)) := motM_ok fun x y e => by have := hL c hcs _ (lk_mem e); exact ⟨this.2.2.1, this.2.2.2⟩
              walk_at "go"
              refine ⟨x.2.1, sa, g.1, motM L n (one c), n.toNat, rfl, by rw [eg1]; exact hkx, hsa, gok, hmo, by omega, fun f7 H7 nf7 s7 hf7 => ?_⟩
              rw [comp_nx gok] at hf7
              have hm7 := s7.at hm6
              have hk7 : KeysAt H7 xs6 := hk6.tps fun _ _ z => s7.at z
              walk_at "go"
              refine w_notInN ?_
              walk_at "go"
              refine w_kNotInN hm7 hk7 hf7 ?_
              rw [he6.notin]
              by_cases hin : nxM (stp L) g.1 c ∈ fs.map (·.1)
              · have e3 : gx1 (nxM (stp L)) g fs c = fs := by
                  unfold gx1
                  exact if_pos hin
                rw [e3, decide_eq_true hin]
                walk_at "go"
                exact ⟨_, _, _, xs6, rfl, s6.trans s7, s7.at hsp6, hus6.same s7, hm7, hk7, he6, pre6, s7.at hed6, s7.at hbe6, hx6⟩
              · have e3 : gx1 (nxM (stp L)) g fs c = fs ++ [(nxM (stp L) g.1 c, g.2 ++ one c)] := by
                  unfold gx1
                  exact if_neg hin
                rw [e3] at gpre ⊢
                rw [decide_eq_false hin, Bool.not_false]
                walk_at "go"
                refine w_lenN hm7 hk7 ?_
                walk_at "go"
                refine w_if2 (fun h => ?_) (fun h => ?_)
                · refine w_mkOA ?_
                  walk_at "go"
                  refine w_kMkA T_Heavy nf ?_ (fun d H' nd hd s' => q2 (a + i + 1) ?_ d H' ((s6.trans s7).free nd) hd ((s6.trans s7).trans s'))
                  · have := Nat.log2_le_self most.natAbs
                    omega
                  · have := gpre.length_le
                    rw [List.length_append] at this
                    have : fs.length + 1 ≤ (gM L n (a + i + 1)).length := this
                    omega
                · walk_at "go"
                  refine w_putN ?_
                  walk_at "go"
                  refine w_getN ?_
                  walk_at "go"
                  obtain ⟨b6, hv6⟩ := he6.val ndg g gin6
                  refine w_kGetN hm7 hk7 (by rw [eg1]; exact s7.at hkx) hv6 ?_
                  walk_at "go"
                  refine w_addS (line_of (by rw [len_one]; show g.2.length + 1 ≤ _; omega)) ?_
                  walk_at "go"
                  have hvn : valN xs6 (nxM (stp L) g.1 c) = none := by
                    have := he6.notin (nxM (stp L) g.1 c)
                    rw [decide_eq_false hin] at this
                    cases e : valN xs6 (nxM (stp L) g.1 c) with
                    | none => rfl
                    | some q => rw [e] at this; cases this
                  refine w_kPutN hm7 hk7 hf7 hvn (lineLt_of (by omega)) ?_
                  generalize hH8 : upd H7 md _ = H8
                  have hm8 : H8 md = some (DN P w md (xs6 ++ [(nxM (stp L) g.1 c, f7, .str (g.2 ++ one c))])) := hH8 ▸ upd_same
                  have o8 : Of md H7 H8 := hH8 ▸ .mk'
                  have t8 : Tps H7 H8 := Tps.refl.offN hm7 o8
                  have hb7 := s7.at hbe6
                  have hb8 : H8 be = some (.lst ((xs6.drop xs.length).map fun x => .ref x.2.1)) := o8.at bm hb7
                  walk_at "go"
                  refine w_append hb8 (by rw [List.length_map, List.length_drop]; exact lineLt_of (by omega)) (fun H9 hb9 o9 => ?_)
                  walk_at "go"
                  have t9 : Tps H8 H9 := Tps.refl.off hb8 o9
                  have hk9 : KeysAt H9 (xs6 ++ [(nxM (stp L) g.1 c, f7, .str (g.2 ++ one c))]) := KeysAt.snoc (hk7.tps fun _ _ z => t9 _ _ (t8 _ _ z)) (t9 _ _ (t8 _ _ hf7))
                  refine ⟨_, _, _, _, rfl, ((s6.trans s7).off o8 nmdH).off o9 nb, o9.at bsp.symm (o8.at spmd (s7.at hsp6)), Paired.mono (fun _ _ z => z.tps (t8.trans t9)) (hus6.same s7), o9.at bm.symm hm8, hk9, he6.snoc, pre6.trans (List.prefix_append _ _), o9.at bed.symm (o8.at med.symm (s7.at hed6)), ?_, ?_⟩
                  · have lex : xs.length ≤ xs6.length := (pre5.trans pre6).length_le
                    rw [hb9, List.drop_append_of_le_length lex, List.map_append]
                    rfl
                  · rw [List.length_append]
                    show xs6.length + 1 ≤ _
                    omega
            · rintro σ H6 ⟨y2, y8, y9, xs6, rfl, s6, hsp6, hus6, hm6, hk6, he6, pre6, hed6, hbe6, hx6⟩
              have gsucc : gM L n (a + i + 1) = gxS (nxM (stp L)) g (gM L n (a + i)) (csL L) := gbfs_succ hg
              have ul : us.length = (csL L).length := Paired.length hus6
              rw [ul, List.take_length, ← gsucc] at he6
              exact ⟨_, _, _, _, xs6, rfl, s6, hsp6, hus6, hm6, hk6, he6, pre5.trans pre6, hed6, hbe6, hx6⟩
          · rintro σ H5 ⟨y2, y7, y8, y9, xs5, rfl, s5, hsp5, hus5, hm5, hk5, he5, pre5, hed5, hbe5, hx5⟩
            rw [List.length_map, List.length_drop, show a + (xs.length - a) = xs.length by omega] at he5
            walk_at "go"
            refine ⟨most.toNat + 1 - xs.length, by omega, y2, some (.ref be), y7, y8, y9, be, xs.length, xs5, rfl, s5, nb, bsp.symm, bm.symm, hsp5, hus5, hm5, hk5, he5, hbe5, by omega, pre5.length_le, hx5⟩
end
end Sf
namespace Sf
open PySem PySem.Spec PyProof.Rows L2 TL
section
variable {P : Program} {w : World} {K : PySem.W.Frag} {mg : Str → Option Value} {base : Heap} {C CH CW : Addr}
/-! ### motions -/
/-- the rows that are told: words with their motions -/
def MsAt (H : Hp) (us : List V) (fs : List (Fg Mot)) : Prop := Paired (fun u (f : Fg Mot) => ∃ t a, u = V.ref t ∧ H t = some (.tup [.str f.2, .ref a]) ∧ H a = some (.tup (f.1.map oV))) us fs
theorem MsAt.tps {H H' : Hp} {us : List V} {fs : List (Fg Mot)} (T : Tps H H') (h : MsAt H us fs) : MsAt H' us fs := Paired.mono (fun _ _ ⟨t, a, e, h1, h2⟩ => ⟨t, a, e, T _ _ h1, T _ _ h2⟩) h
def spMs (C CH CW : Addr) : Sp := fun vs H Q E => ∃ (p : Addr) (n most : Int) (L : Nat → List (Int × Int)), vs = [.ref p, .int most] ∧ WAt C H p n L ∧ LRg n L ∧ 0 ≤ n ∧ n ≤ 100000 ∧ 1 ≤ most ∧ most ≤ 1900 ∧
  (n ≤ 12 → ∀ (i : Nat) (r : Addr) (us : List V) (H' : Hp), (gM L n i).length ≤ i → (gM L n i).length ≤ most.toNat → H r = none → Same H H' → H' r = some (.lst us) → MsAt H' us (gM L n i) → Q (.ref r) H') ∧
  (n ≤ 12 → ∀ i, most.toNat < (gM L n i).length → XHv CH most H E) ∧ (12 < n → XWd CW H E)
def kItN (P : Program) (w : World) (R : It → Hp → Prop) : VK := fun x H1 => ∃ (d : Addr) (xs : List DE), x = .ref d ∧ H1 d = some (DN P w d xs) ∧ ∀ o, R (ItN P w d o xs) (upd H1 d (.frz o (DN P w d xs)))
theorem w_itemsN {σ : L2.St} {H : Hp} {td : TE} {R : It → Hp → Prop} (q : td σ H (kItN P w R)) : iItemsN P w td σ H R := q
theorem w_kItN {H : Hp} {R : It → Hp → Prop} {d : Addr} {xs : List DE} (e : H d = some (DN P w d xs)) (k : ∀ o H1, H1 d = some (.frz o (DN P w d xs)) → Of d H H1 → R (ItN P w d o xs) H1) : kItN P w R (.ref d) H := ⟨d, xs, rfl, e, fun o => k o _ upd_same .mk'⟩
theorem sc_ms : FnScope ["world", "most", "motion", "word"] ["world", "most"] (defScope s_motions) := ⟨rfl, rfl, rfl, by decide +kernel, rfl, by decide +kernel, by decide +kernel⟩
theorem ok_ms {f : Addr} {fd : FuncData} {kws : List (Str × V)} (F : L2.FunD K "motions" "motions" (defArgs s_motions) (defBody s_motions) (defScope s_motions) [] kws f fd) (h_Nn : HasX P w K mg base 4 "need_narrow" ["world"] (spNn C CW)) (h_Mi : HasX P w K mg base 4 "made_in" ["world", "most"] (spMi P w C CH)) : FnOk P w K mg base (L2.CX P w) 5 f fd ["world", "most"] (spMs C CH CW) := by
  obtain ⟨f_Nn, fd_Nn, g_Nn, k_Nn, b_Nn, G_Nn⟩ := h_Nn
  obtain ⟨f_Mi, fd_Mi, g_Mi, k_Mi, b_Mi, G_Mi⟩ := h_Mi
  refine F.ok sc_ms (fun vs H Q E h => ?_) (fun cdv A outer s H vs Q E hr h => ?_)
  · obtain ⟨p, n, most, L, rfl, _⟩ := h
    rfl
  · obtain ⟨p, n, most, L, rfl, hW, hL, n0, n1, m1, mk, q1, q2, q3⟩ := h
    refine ⟨_, (pss_cons (ps_expr (pe_call G_Nn (hr.mono (by decide)) (by rfl) g_Nn k_Nn b_Nn .nil (passes_call (takes_of rfl rfl rfl rfl) (fun _ _ _ _ h => h)) (pa_cons (pv 0) pa_nil))) (pss_one (ps_ret (pe_lc (own := [("motion", 2), ("word", 3)]) (g := gTup K 2 (gCons (gName 2) (gCons (gName 3) gNil))) (tt := tYes) (by rfl) sc_ms.nd (pi_itemsN (pe_call G_Mi (hr.mono (by decide)) (by rfl) g_Mi k_Mi b_Mi .nil (passes_call (takes_of rfl rfl rfl rfl) (fun _ _ _ _ h => h)) (pa_cons (pv 0) (pa_cons (pv 1) pa_nil)))) (blkOk_by (own := [("motion", 2), ("word", 3)]) (N := ["world", "most", "motion", "word"]) (sc := defScope s_motions) (by decide +kernel)) (fun _ _ _ _ _ => pg_tup rfl (pgs_cons (pg_name (i := 2) sc_ms.nd rfl (.inl rfl)) (pgs_cons (pg_name (i := 3) sc_ms.nd rfl (.inl rfl)) pgs_nil))) (fun _ _ _ _ _ => pts_nil) (fun _ _ _ _ _ => (pe_tup (pa_cons (pv 3) (pa_cons (pv 2) pa_nil)))))))), ?_⟩
    walk_at "go"
    refine ⟨p, n, L, rfl, hW, n0, n1, fun n12 => ?_, q3⟩
    walk_at "go"
    refine w_itemsN ?_
    walk_at "go"
    refine ⟨p, n, most, L, rfl, hW, hL, n0, n12, m1, mk, fun i d xs H1 hi him nd s1 hd hk he => ?_, q2 n12⟩
    refine w_kItN hd (fun o H2 hd2 o2 => ?_)
    have t2 : Tps H1 H2 := Tps.refl.offN hd o2
    have hk2 : KeysAt H2 xs := hk.tps t2
    have s2 : Same H H2 := s1.off o2 nd
    have hxl := he.len
    refine w_lcG (n := xs.length) (fun r i' H3 => ∃ us, Same H H3 ∧ H r = none ∧ r ≠ d ∧ H3 d = some (.frz o (DN P w d xs)) ∧ KeysAt H3 xs ∧ H3 r = some (.lst us) ∧ us.length = i' ∧ MsAt H3 us ((gM L n i).take i')) (fun r H3 hr3 nr => ⟨[], s2.nw nr, s2.free nr.nn, (nr.ne hd2).symm, nr.at hd2, hk2.tps (fun _ _ z => nr.at z), hr3, rfl, .nil⟩) (fun r i' H3 hi' ⟨us, _, _, _, h, _⟩ => ⟨h, hi'⟩) (fun r H3 ⟨us, _, _, _, h, _⟩ => ⟨h, Nat.le_refl _⟩) ?_ ?_
    · rintro r i' v H3 H4 hi' ⟨us, s3, nr, rd, hd3, hk3, hr3, hul, hms⟩ ⟨T, x, hx, rfl, nT, hH4⟩
      have hT4 : H4 T = some (.tup [.ref x.2.1, x.2.2]) := hH4 ▸ upd_same
      have nw4 : Nw T H3 H4 := hH4 ▸ .mk' nT
      obtain ⟨g, hg, eg⟩ : ∃ g, (gM L n i)[i']? = some g ∧ (g.1, V.str g.2) = (x.1, x.2.2) := by
        have := congrArg (fun l => l[i']?) he
        simp only [List.getElem?_map, hx, Option.map_some] at this
        exact Option.map_eq_some_iff.mp this.symm
      obtain ⟨eg1, eg2⟩ := Prod.mk.inj eg
      have hkx := hk3 x (List.mem_of_getElem? hx)
      rw [← eg2] at hT4
      walk_at "go"
      refine w_newT (by walk_at "sz") (fun t H5 ht nt => ?_)
      have hr5 := nt.at (nw4.at hr3)
      refine w_kIt hr5 (lineLt_of (by omega)) (fun H6 h6 o6 => ?_)
      have t6 : Tps H3 H6 := ((Tps.of nw4.same).trans (Tps.of nt.same)).off hr5 o6
      refine ⟨_, (((s3.nw nw4).nw nt)).off o6 nr, nr, rd, o6.at rd.symm (nt.at (nw4.at hd3)), hk3.tps t6, h6, by rw [List.length_append, hul]; rfl, ?_⟩
      rw [take_snoc hg]
      refine Paired.snoc (hms.tps t6) ⟨t, x.2.1, rfl, (Tps.refl.off hr5 o6) _ _ ht, ?_⟩
      rw [eg1]
      exact t6 _ _ hkx
    · rintro r H3 ⟨us, s3, nr, rd, hd3, hk3, hr3, hul, hms⟩
      rw [hxl, List.take_length] at hms
      walk_at "go"
      exact q1 n12 i r us H3 hi him nr s3 hr3 hms
end
end Sf
namespace Sf
open PySem PySem.Spec PyProof.Rows L2 TL
theorem let_eqM {c : Nat} (hc : 97 ≤ c) : ∀ {ms : List Mv}, (∀ m ∈ ms, 97 ≤ m.1 ∧ m.1 ≤ 104) → (!(LM ms c).isEmpty) = decide (c ∈ ms.map (·.1))
  | [], _ => rfl
  | m :: ms, h => by
    have ih := let_eqM hc fun x hx => h x (List.mem_cons_of_mem _ hx)
    have hm := h m List.mem_cons_self
    by_cases e : m.1 = c
    · have e1 : mvOn c m = some (m.2.1, m.2.2) := if_pos e
      unfold LM
      rw [List.filterMap_cons_some e1, decide_eq_true (by rw [List.map_cons, e]; exact List.mem_cons_self)]
      rfl
    · have e1 : mvOn c m = none := by
        unfold mvOn
        rw [if_neg e, if_neg (by omega)]
      have e2 : LM (m :: ms) c = LM ms c := List.filterMap_cons_none e1
      rw [e2, ih]
      refine decide_eq_decide.mpr ⟨fun z => List.mem_cons_of_mem _ z, fun z => ?_⟩
      rcases List.mem_cons.mp z with z | z
      · exact absurd z.symm e
      · exact z
theorem inV_ones {c : Nat} : ∀ l : List Nat, inV (.str (one c)) (l.map fun d => V.str (one d)) = decide (c ∈ l)
  | [] => rfl
  | d :: l => by
    have ih := inV_ones (c := c) l
    unfold inV at ih ⊢
    rw [List.map_cons, List.any_cons, ih, Bool.eq_iff_iff]
    simp only [Bool.or_eq_true, decide_eq_true_eq, List.mem_cons, eqV, beq_iff_eq]
    constructor
    · rintro (h | h)
      · exact .inl (one_inj h).symm
      · exact .inr h
    · rintro (h | h)
      · exact .inl (by rw [h])
      · exact .inr h
theorem w_inOnes {K : PySem.W.Frag} {H : Hp} {Q : VK} {c : Nat} {p : Addr} {l : List Nat} (h : H p = some (.lst (l.map fun d => V.str (one d)))) (q : Q (.bl (decide (c ∈ l))) H) : rIn K false (.str (one c)) (.ref p) H Q := by
  refine ⟨p, _, rfl, .inl (SqL.of h), rfl, ?_, ?_⟩
  · rw [List.all_map]
    exact List.all_eq_true.mpr fun _ _ => rfl
  · show Q (.bl (inV _ _)) H
    rw [inV_ones]
    exact q
end Sf
namespace Sf
open PySem PySem.Spec PyProof.Rows L2 TL
def dgt (a b : Str) : Bool := decide (tl b < tl a)
theorem dgt_trans {a b c : Str} (h1 : dgt a b = false) (h2 : dgt b c = false) : dgt a c = false := by
  unfold dgt at *
  rw [decide_eq_false_iff_not] at *
  rw [List.not_lt] at *
  exact List.le_trans h1 h2
theorem dgt_anti {a b : Str} (h1 : dgt a b = false) (h2 : dgt b a = false) : a = b := by
  unfold dgt at *
  rw [decide_eq_false_iff_not, List.not_lt] at *
  exact ext_tl (List.le_antisymm h1 h2)
theorem rising_pw : ∀ (r : List Str) (p : Str), PyProof.Rows.risingS p r = true → (∀ b ∈ r, dgt p b = false) ∧ r.Pairwise fun a b => dgt a b = false
  | [], p, _ => ⟨fun b hb => (by cases hb), List.Pairwise.nil⟩
  | x :: r, p, h => by
    unfold PyProof.Rows.risingS at h
    rw [Bool.and_eq_true] at h
    obtain ⟨h1, h2⟩ := h
    obtain ⟨i1, i2⟩ := rising_pw r x h2
    have hpx : dgt p x = false := by
      unfold dgt
      rw [Bool.not_eq_true', PyProof.Rows.ltCps_eq] at h1
      exact h1
    refine ⟨fun b hb => ?_, List.pairwise_cons.mpr ⟨i1, i2⟩⟩
    rcases List.mem_cons.mp hb with rfl | hb
    · exact hpx
    · exact dgt_trans hpx (i1 b hb)
theorem sorted_pw {r : List Str} (h : PyProof.Rows.sortedS r = true) : r.Pairwise fun a b => dgt a b = false := by
  cases r with
  | nil => exact .nil
  | cons x r => exact List.pairwise_cons.mpr (rising_pw r x h)
theorem sorted_one {l m : List Str} (h : l.Perm m) (hl : l.Pairwise fun a b => dgt a b = false) (hm : m.Pairwise fun a b => dgt a b = false) : l = m :=
  List.Perm.eq_of_pairwise (le := fun a b => dgt a b = false) (fun a b _ _ h1 h2 => dgt_anti h1 h2) hl hm h
theorem w_sortedOne {K : PySem.W.Frag} {H : Hp} {Q : VK} {r : Addr} {xs : List Str} (h : H r = some (.lst (xs.map V.str))) (hl : xs.length < 64) (hp : xs.Pairwise fun a b => dgt a b = false) (k : ∀ p H1, H1 p = some (.lst (xs.map V.str)) → Nw p H H1 → Q (.ref p) H1) : rSortedS K [.ref r] H Q :=
  ⟨r, xs, rfl, SqL.of h, hl, fun ys p hy hs np => by
    rw [sorted_one hy (sorted_pw hs) hp]
    exact k p _ upd_same (.mk' np)⟩
theorem smls_pw (f : Nat → Bool) : ((smls.filter f).map one).Pairwise fun a b => dgt a b = false := by
  have h : (smls.map one).Pairwise fun a b => dgt a b = false := by decide +kernel
  exact h.sublist (List.filter_sublist.map one)
end Sf
namespace Sf
open PySem PySem.Spec PyProof.Rows L2 TL
theorem valN_mem (xs : List DE) (m : Mot) : (valN xs m).isSome = decide (m ∈ xs.map (·.1)) := by
  by_cases e : m ∈ xs.map (·.1)
  · rw [decide_eq_true e]
    cases e2 : valN xs m with
    | none => exact absurd e (valN_none.mp e2)
    | some p => rfl
  · rw [decide_eq_false e, valN_none.mpr e]
    rfl
theorem fm2_len : ∀ l : List Nat, (l.flatMap fun c => [c, c - 32]).length = 2 * l.length
  | [] => rfl
  | c :: l => by
    rw [List.flatMap_cons, List.length_append, fm2_len l]
    show 2 + 2 * l.length = 2 * (l.length + 1)
    omega
theorem csL_flat (L : Nat → List (Int × Int)) : csL L = (smls.filter fun c => !(L c).isEmpty).flatMap fun c => [c, c - 32] := by
  have h : ∀ l : List Nat, (∀ c ∈ l, lowc c = c ∧ lowc (c - 32) = c) → (l.flatMap fun c => [c, c - 32]).filter (fun c => !(L (lowc c)).isEmpty) = (l.filter fun c => !(L c).isEmpty).flatMap fun c => [c, c - 32] := fun l => by
    induction l with
    | nil => intro _; rfl
    | cons c l ih =>
      intro hl
      obtain ⟨e1, e2⟩ := hl c List.mem_cons_self
      rw [List.flatMap_cons, List.filter_append, ih fun d hd => hl d (List.mem_cons_of_mem _ hd)]
      cases e : (!(L c).isEmpty) with
      | true =>
        rw [List.filter_cons_of_pos (by rw [e1]; exact e), List.filter_cons_of_pos (by rw [e2]; exact e), List.filter_nil, List.filter_cons_of_pos (p := fun c => !(L c).isEmpty) e, List.flatMap_cons]
      | false =>
        rw [List.filter_cons_of_neg (by rw [e1, e]; decide), List.filter_cons_of_neg (by rw [e2, e]; decide), List.filter_nil, List.filter_cons_of_neg (p := fun c => !(L c).isEmpty) (by rw [e]; decide), List.nil_append]
  exact h smls (by decide)
section
variable {P : Program} {w : World} {K : PySem.W.Frag} {mg : Str → Option Value} {base : Heap}
/-! ### _law_motions -/
def spLms : Sp := fun vs H Q _ => ∃ (n : Int) (a : Addr) (us : List V) (ms : List Mv), vs = [.int n, .ref a, .int 1000] ∧ H a = some (.lst us) ∧ MvsAt H us ms ∧ WOk n ms ∧ LRg n (LM ms) ∧ ms.length ≤ 100000 ∧ (∀ m ∈ ms, 97 ≤ m.1 ∧ m.1 ≤ 104) ∧ 0 ≤ n ∧ n ≤ 1000 ∧ (∀ i, (gM (LM ms) n i).length ≤ 1000) ∧
  ∀ (i : Nat) (r : Addr) (vs : List V) (H' : Hp), (gM (LM ms) n i).length ≤ i → H r = none → Same H H' → H' r = some (.lst vs) → MsAt H' vs (gM (LM ms) n i) → Q (.ref r) H'
theorem sc_lms : FnScope ["_law_many", "_law_moves", "_law_upto", "_law_letter", "_law_move", "_law_letters", "_law_signs", "_law_first", "_law_found", "_law_known", "_law_at", "_law_word", "_law_motion", "_law_sign", "_law_place", "_law_after"] ["_law_many", "_law_moves", "_law_upto"] (defScope s__law_motions) := ⟨rfl, rfl, rfl, by decide +kernel, rfl, by decide +kernel, by decide +kernel⟩
theorem has_lms (F : FnAt K mg "_law_motions" s__law_motions ["_law_many", "_law_moves", "_law_upto"]) (B : Blt mg) (h_Lld : HasLld P w K mg base) : Has P w K mg base 2 "_law_motions" ["_law_many", "_law_moves", "_law_upto"] spLms := F.has fun F => by
  obtain ⟨f_Lld, fd_Lld, g_Lld, k_Lld, b_Lld, G_Lld⟩ := h_Lld
  refine F.ok sc_lms (fun vs H Q E h => ?_) (fun cdv A outer s H vs Q E hr h => ?_)
  · obtain ⟨n, a, us, ms, rfl, _⟩ := h
    rfl
  · obtain ⟨n, a, us, ms, rfl, ha, hms, hok, hL, hml, hlet, n0, n1, few, q⟩ := h
    refine ⟨_, (pss_cons (ps_set (i := 5) sc_lms.nd rfl (.inl rfl) (pe_callB cr_sortedS (by rfl) B.sorted (by decide +kernel) (pa_cons (pe_lc (own := [("_law_letter", 3)]) (g := gName 3) (tt := tTest (tOp (rIn K false) (tVar 3) (tLc (iList K (tVar 1)) (gName 4) tYes (tOp (rIxT K) (tVar 4) (tC (.int 0))) [4]))) (by rfl) sc_lms.nd (pi_str pe_str) (blkOk_by (own := [("_law_letter", 3)]) (N := ["_law_many", "_law_moves", "_law_upto", "_law_letter", "_law_move", "_law_letters", "_law_signs", "_law_first", "_law_found", "_law_known", "_law_at", "_law_word", "_law_motion", "_law_sign", "_law_place", "_law_after"]) (sc := defScope s__law_motions) (by decide +kernel)) (fun _ _ _ _ _ => pg_name (i := 3) sc_lms.nd rfl (.inl rfl)) (fun _ _ _ _ _ => by exact pts_one (pt_cmpR op_in_seq (pv 3) (pe_lc (own := [("_law_move", 4)]) (g := gName 4) (tt := tYes) (by rfl) sc_lms.nd (pi_list (pv 1)) (blkOk_by (own := [("_law_move", 4)]) (N := ["_law_many", "_law_moves", "_law_upto", "_law_letter", "_law_move", "_law_letters", "_law_signs", "_law_first", "_law_found", "_law_known", "_law_at", "_law_word", "_law_motion", "_law_sign", "_law_place", "_law_after"]) (by kernel_rfl)) (fun _ _ _ _ _ => pg_name (i := 4) sc_lms.nd rfl (.inl rfl)) (fun _ _ _ _ _ => pts_nil) (fun _ _ _ _ _ => (pe_ix (r := rIxT K) ix_tup (pv 4) pe_int (fun _ _ => rfl)))) rfl)) (fun _ _ _ _ _ => (pv 3))) pa_nil))) (pss_cons (ps_set (i := 6) sc_lms.nd rfl (.inl rfl) (pe_lst pa_nil)) (pss_cons (ps_for PassesOwn.never rfl (pi_list (pv 5)) (pg_name (i := 3) sc_lms.nd rfl (.inl rfl)) (pss_one (ps_set (i := 6) sc_lms.nd rfl (.inl rfl) (pe_op op_cat (pv 6) (pe_lst (pa_cons (pv 3) (pa_cons (pe_m0 PySem.F.slot_str_upper PySem.F.type_str_upper mt_upN (pv 3)) pa_nil))))))) (pss_cons (ps_set (i := 7) sc_lms.nd rfl (.inl rfl) (pe_callTy call_tupO (by rfl) B.tuple (by decide +kernel) (pa_cons (pe_listRg rfl (by rfl) B.list (prg_1 (by rfl) B.range (pv 0))) pa_nil))) (pss_cons (ps_set (i := 8) sc_lms.nd rfl (.inl rfl) (pe_lst (pa_cons (pe_tup (pa_cons pe_str (pa_cons (pv 7) pa_nil))) pa_nil))) (pss_cons (ps_set (i := 9) sc_lms.nd rfl (.inl rfl) (pe_dispN (hu_of hr) (pv 7) pe_bl)) (pss_cons (ps_set (i := 10) sc_lms.nd rfl (.inl rfl) pe_int) (pss_cons (ps_while PassesOwn.never (pt_cmpR op_lt (pv 10) (pe_callB call_lenQ (by rfl) B.len PySem.boot_len (pa_cons (pv 8) pa_nil)) (nomark _)) (pss_cons (ps_asg (pe_ix ix_list (pv 8) (pv 10) (fun _ _ => rfl)) (pg_tup rfl (pgs_cons (pg_name (i := 11) sc_lms.nd rfl (.inl rfl)) (pgs_cons (pg_name (i := 12) sc_lms.nd rfl (.inl rfl)) pgs_nil)))) (pss_cons (ps_set (i := 10) sc_lms.nd rfl (.inl rfl) (pe_op op_add (pv 10) pe_int)) (pss_one (ps_for PassesOwn.never rfl (pi_list (pv 6)) (pg_name (i := 13) sc_lms.nd rfl (.inr rfl)) (pss_cons (ps_set (i := 15) sc_lms.nd rfl (.inl rfl) (pe_callTy call_tupO (by rfl) B.tuple (by decide +kernel) (pa_cons (pe_lc (own := [("_law_place", 14)]) (g := gName 14) (tt := tYes) (by rfl) sc_lms.nd (pi_tup (pv 12)) (blkOk_by (own := [("_law_place", 14)]) (N := ["_law_many", "_law_moves", "_law_upto", "_law_letter", "_law_move", "_law_letters", "_law_signs", "_law_first", "_law_found", "_law_known", "_law_at", "_law_word", "_law_motion", "_law_sign", "_law_place", "_law_after"]) (sc := defScope s__law_motions) (by decide +kernel)) (fun _ _ _ _ _ => pg_name (i := 14) sc_lms.nd rfl (.inl rfl)) (fun _ _ _ _ _ => pts_nil) (fun _ _ _ _ _ => (pe_ifExp (pt_cmpR op_notNn (pv 14) pe_non (nomark _)) (pe_call G_Lld (hr.mono (by decide)) (by rfl) g_Lld k_Lld b_Lld .nil pass0 (pa_cons (pv 1) (pa_cons (pv 13) (pa_cons (pv 14) pa_nil)))) pe_non))) pa_nil))) (pss_one (ps_if (pt_cmp (pc_notInN (hu_of hr) (pv 15) (pv 9))) (pss_cons (ps_if (pt_cmpR op_eq (pe_callB call_lenQ (by rfl) B.len PySem.boot_len (pa_cons (pv 8) pa_nil)) (pv 2) (nomark _)) (pss_one (ps_ret pe_non)) pss_nil) (pss_cons (ps_putN (hu_of hr) (pv 9) (pv 15) pe_bl rfl) (pss_one (ps_expr (pe_bm PySem.F.plainAttrs_list PySem.F.slot_list_append PySem.F.type_list_append mt_append (pv 8) (pa_cons (pe_tup (pa_cons (pe_op op_addS (pv 11) (pv 13)) (pa_cons (pv 15) pa_nil))) pa_nil)))))) pss_nil)))))))) (pss_one (ps_ret (pv 8))))))))))), ?_⟩
    walk_at "go"
    have hul : us.length = ms.length := Paired.length hms
    refine w_lcS (fun r i H2 => Same H H2 ∧ H r = none ∧ H2 r = some (.lst ((((smls.take i).filter fun c => !(LM ms c).isEmpty).map one).map V.str))) (fun r H2 hr nr => ⟨nr.same, nr.nn, hr⟩) ?_ ?_
    · rintro r i c H2 hc ⟨s2, nr, hr2⟩
      rw [smls_tl] at hc
      have hcs : c ∈ smls := List.mem_of_getElem? hc
      have hi : i < smls.length := (List.getElem?_eq_some_iff.mp hc).1
      have hi : i < 8 := hi
      walk_at "go"
      refine w_lcL (xs := us) (fun r3 j H3 => Same H2 H3 ∧ H2 r3 = none ∧ H3 r3 = some (.lst (((ms.take j).map (·.1)).map fun d => V.str (one d)))) (fun r3 H3 hr3 nr3 => ⟨nr3.same, nr3.nn, hr3⟩) (fun r3 j H3 _ h => h.1.at (s2.at ha)) ?_ ?_
      · rintro r3 j v H3 hv ⟨s3, nr3, hr3⟩
        obtain ⟨m, hm, t, rfl, ht⟩ := paired_get (hms.tps (.of (s2.trans s3))) hv
        walk_at "go"
        refine w_kIt hr3 (by rw [List.length_map, List.length_map, List.length_take]; exact lineLt_of (by omega)) (fun H4 h4 o4 => ⟨s3.off o4 nr3, nr3, ?_⟩)
        rw [h4, take_snoc hm, List.map_append, List.map_append]
        rfl
      · rintro r3 H3 ⟨s3, nr3, hr3⟩
        rw [hul, List.take_length] at hr3
        walk_at "go"
        refine w_inOnes hr3 ?_
        rw [← let_eqM (smls_iff.mp hcs).1 hlet, take_snoc hc, List.filter_append]
        have hr4 := s3.at hr2
        refine ⟨_, rfl, ?_⟩
        cases e : (!(LM ms c).isEmpty) with
        | false =>
          refine w_tstF ?_
          refine ⟨s2.trans s3, nr, ?_⟩
          rw [List.filter_cons_of_neg (by rw [e]; decide), List.filter_nil, List.append_nil]
          exact hr4
        | true =>
          refine w_tstT ?_
          walk_at "go"
          refine w_kIt hr4 ?_ (fun H4 h4 o4 => ⟨(s2.trans s3).off o4 nr, nr, ?_⟩)
          · rw [List.length_map, List.length_map]
            have := List.length_filter_le (fun c => !(LM ms c).isEmpty) (smls.take i)
            rw [List.length_take] at this
            exact lineLt_of (by omega)
          · rw [show List.filter (fun c => !(LM ms c).isEmpty) [c] = [c] by rw [List.filter_cons_of_pos (p := fun c => !(LM ms c).isEmpty) e]; rfl]
            rw [h4, List.map_append, List.map_append]
            rfl
    · rintro r H2 ⟨s2, nr, hr2⟩
      rw [smls_tl, List.take_length] at hr2
      have hfl : (smls.filter fun c => !(LM ms c).isEmpty).length ≤ 8 := List.length_filter_le _ smls
      walk_at "go"
      refine w_sortedOne hr2 (by rw [List.length_map]; omega) (smls_pw _) (fun ls H3 hls nls => ?_)
      have s3 : Same H H3 := s2.nw nls
      walk_at "go"
      refine w_newL (by walk_at "sz") (fun sg0 H4 hsg0 nsg0 => ?_)
      walk_at "go"
      refine w_list (xs := ((smls.filter fun c => !(LM ms c).isEmpty).map one).map V.str) (fun i σ H5 => ∃ (y3 : Option V) (sg : Addr), σ = [some (.int n), some (.ref a), some (.int 1000), y3, none, some (.ref ls), some (.ref sg), none, none, none, none, none, none, none, none, none] ∧ Same H H5 ∧ H sg = none ∧ H5 ls = some (.lst (((smls.filter fun c => !(LM ms c).isEmpty).map one).map V.str)) ∧ H5 sg = some (.lst ((((smls.filter fun c => !(LM ms c).isEmpty).take i).flatMap fun c => [c, c - 32]).map fun c => V.str (one c)))) ⟨none, sg0, rfl, s3.nw nsg0, s3.free nsg0.nn, nsg0.at hls, hsg0⟩ (fun i σ H5 _ ⟨_, _, _, _, _, h, _⟩ => h) ?_ ?_
      · rintro i v σ H5 hv ⟨y3, sg, rfl, s5, nsg, hls5, hsg5⟩
        obtain ⟨c, hc, rfl⟩ : ∃ c, (smls.filter fun c => !(LM ms c).isEmpty)[i]? = some c ∧ V.str (one c) = v := by
          rw [List.getElem?_map, List.getElem?_map, Option.map_map, Option.map_eq_some_iff] at hv
          exact hv
        have hi : i < (smls.filter fun c => !(LM ms c).isEmpty).length := (List.getElem?_eq_some_iff.mp hc).1
        have hcs := smls_iff.mp (List.mem_filter.mp (List.mem_of_getElem? hc)).1
        walk_at "go"
        refine w_up1 hcs ?_
        walk_at "go"
        refine w_newL (by walk_at "sz") (fun t H6 ht nt => ?_)
        refine w_cat (nt.at hsg5) ht ?_ (fun sg' H7 hsg' nsg' => ?_)
        · have := fm2_len ((smls.filter fun c => !(LM ms c).isEmpty).take i)
          rw [List.length_map, this, List.length_take]
          show _ + 2 ≤ sizeLine
          exact line_of (by omega)
        walk_at "go"
        refine ⟨_, sg', rfl, (s5.nw nt).nw nsg', s5.free (nt.same.free nsg'.nn), nsg'.at (nt.at hls5), ?_⟩
        rw [hsg', take_snoc hc, List.flatMap_append, List.map_append]
        rfl
      · rintro σ H5 ⟨y3, sg, rfl, s5, nsg, hls5, hsg5⟩
        rw [List.length_map, List.length_map, List.take_length, ← csL_flat] at hsg5
        walk_at "go"
        refine w_kRgL (.of_le (by decide) (by omega) (by decide) (by omega)) (fun rg H6 hrg nrg => ?_)
        rw [rgV_plc] at hrg
        walk_at "go"
        refine w_tupL hrg (fun t0 H7 ht0 nt0 => ?_)
        have ht0 : H7 t0 = some (.tup ((idM n.toNat).map oV)) := by
          rw [ht0]
          unfold idM plc
          rw [List.map_map, List.map_map]
          rfl
        have s7 : Same H H7 := (s5.nw nrg).nw nt0
        walk_at "go"
        refine w_newT (by walk_at "sz") (fun t1 H8 ht1 nt1 => ?_)
        walk_at "go"
        refine w_newL (by walk_at "sz") (fun fd0 H9 hfd0 nfd0 => ?_)
        walk_at "go"
        refine w_dispN (fun kn H10 hkn nkn => ?_)
        walk_at "go"
        refine ⟨hkn, t0, idM n.toNat, rfl, nkn.at (nfd0.at (nt1.at ht0)), ?_⟩
        generalize hH11 : upd H10 kn _ = H11
        have hk11 : H11 kn = some (DN P w kn [(idM n.toNat, t0, .bl true)]) := hH11 ▸ upd_same
        have o11 : Of kn H10 H11 := hH11 ▸ .mk'
        walk_at "gs"
        have few0 := few
        have nfd : H fd0 = none := (s7.nw nt1).free nfd0.nn
        have nkn' : H kn = none := ((s7.nw nt1).nw nfd0).free nkn.nn
        have fk : fd0 ≠ kn := nkn.ne hfd0
        have sgfd : sg ≠ fd0 := nfd0.ne (nt1.at (nt0.at (nrg.at hsg5)))
        have hsg9 := nfd0.at (nt1.at (nt0.at (nrg.at hsg5)))
        have t11 : Tps H10 H11 := Tps.refl.offN hkn o11
        have ht10 := nkn.at (nfd0.at (nt1.at ht0))
        have okg : ∀ i, ∀ f ∈ gM (LM ms) n i, MotOk n.toNat f.1 := gbfs_all (idM_ok _) fun k c hc hk => by
          have hcs : c ∈ sgs := (List.mem_filter.mp hc).1
          rw [← comp_nx hk]
          exact hk.comp (motM_ok fun x y e => by have := hL c hcs _ (lk_mem e); exact ⟨this.2.2.1, this.2.2.2⟩)
        refine w_while (m := 1001) (fun m σ H3 => ∃ (y3 y11 y12 y13 y14 y15 : Option V) (k : Nat) (vs : List V) (xs : List DE), σ = [some (.int n), some (.ref a), some (.int 1000), y3, none, some (.ref ls), some (.ref sg), some (.ref t0), some (.ref fd0), some (.ref kn), some (.int (k : Nat)), y11, y12, y13, y14, y15] ∧ Same H H3 ∧ H3 sg = some (.lst ((csL (LM ms)).map fun c => V.str (one c))) ∧ H3 fd0 = some (.lst vs) ∧ MsAt H3 vs (gM (LM ms) n k) ∧ H3 kn = some (DN P w kn xs) ∧ KeysAt H3 xs ∧ xs.map (·.1) = (gM (LM ms) n k).map (·.1) ∧ m + k = 1001 ∧ k ≤ (gM (LM ms) n k).length) ?_ ?_
        · refine ⟨y3, none, none, none, none, none, 0, [.ref t1], [(idM n.toNat, t0, .bl true)], rfl, (((s7.nw nt1).nw nfd0).nw nkn).off o11 nkn', o11.at (nkn.ne hsg9) (nkn.at hsg9), o11.at fk (nkn.at hfd0), ?_, hk11, fun x hx => ?_, rfl, rfl, Nat.zero_le _⟩
          · exact .cons ⟨t1, t0, rfl, t11 _ _ (nkn.at (nfd0.at ht1)), t11 _ _ ht10⟩ .nil
          · rw [List.mem_singleton.mp hx]
            exact t11 _ _ ht10
        · rintro m σ H3 ⟨y3, y11, y12, y13, y14, y15, k, vs, xs, rfl, s3, hsg3, hfd3, hms3, hkn3, hk3, hkeys, hm, hkl⟩
          have hvl : vs.length = (gM (LM ms) n k).length := Paired.length hms3
          have hfw := few k
          walk_at "go"
          by_cases hend : (gM (LM ms) n k).length ≤ k
          · rw [decide_eq_false (by omega)]
            refine w_whF ?_
            walk_at "go"
            exact q k fd0 vs H3 hend nfd s3 hfd3 hms3
          · rw [decide_eq_true (by omega)]
            refine w_whT ?_
            obtain ⟨g, hg⟩ : ∃ g, (gM (LM ms) n k)[k]? = some g := ⟨_, List.getElem?_eq_getElem (by omega)⟩
            obtain ⟨v, hv⟩ : ∃ v, vs[k]? = some v := ⟨_, List.getElem?_eq_getElem (by omega)⟩
            obtain ⟨g', hg', t, sa, rfl, ht, hsa⟩ := paired_get hms3 hv
            obtain rfl : g' = g := Option.some.inj (hg'.symm.trans hg)
            walk_at "go"
            refine w_ixL hfd3 (atI_nat hv) ?_
            walk_at "go"
            refine w_list (xs := (csL (LM ms)).map fun c => V.str (one c)) (fun j σ H4 => ∃ (y13 y14 y15 : Option V) (vs4 : List V) (xs4 : List DE), σ = [some (.int n), some (.ref a), some (.int 1000), y3, none, some (.ref ls), some (.ref sg), some (.ref t0), some (.ref fd0), some (.ref kn), some (.int ((k : Nat) + 1 : Int)), some (.str g'.2), some (.ref sa), y13, y14, y15] ∧ Same H H4 ∧ H4 sg = some (.lst ((csL (LM ms)).map fun c => V.str (one c))) ∧ H4 fd0 = some (.lst vs4) ∧ MsAt H4 vs4 (gxS (nxM (stp (LM ms))) g' (gM (LM ms) n k) ((csL (LM ms)).take j)) ∧ H4 kn = some (DN P w kn xs4) ∧ KeysAt H4 xs4 ∧ xs4.map (·.1) = (gxS (nxM (stp (LM ms))) g' (gM (LM ms) n k) ((csL (LM ms)).take j)).map (·.1) ∧ H4 sa = some (.tup (g'.1.map oV))) ⟨y13, y14, y15, vs, xs, rfl, s3, hsg3, hfd3, hms3, hkn3, hk3, hkeys, hsa⟩ (fun j σ H4 _ ⟨_, _, _, _, _, _, _, h, _⟩ => h) ?_ ?_
            · rintro j v2 σ H4 hv2 ⟨y13, y14, y15, vs4, xs4, rfl, s4, hsg4, hfd4, hms4, hkn4, hk4, hkeys4, hsa4⟩
              obtain ⟨c, hc, rfl⟩ : ∃ c, (csL (LM ms))[j]? = some c ∧ V.str (one c) = v2 := by
                rw [List.getElem?_map, Option.map_eq_some_iff] at hv2
                exact hv2
              have hcs : c ∈ sgs := (List.mem_filter.mp (List.mem_of_getElem? hc)).1
              have hgl : g'.1.length ≤ 1000 := by
                have : MotOk n.toNat g'.1 := okg k g' (List.mem_of_getElem? hg)
                have := this.1
                omega
              walk_at "go"
              refine w_lcT (P := P) (w := w) (xs := g'.1.map oV) (fun r i H5 => Same H4 H5 ∧ H4 r = none ∧ H5 r = some (.lst (((g'.1.take i).map fun o => oV (o.bind (stp (LM ms) c)))))) (fun r H5 hr nr => ⟨nr.same, nr.nn, hr⟩) (fun r i H5 _ h => h.1.at hsa4) ?_ ?_
              · rintro r i v H5 hv5 ⟨s5', nr, hr5⟩
                obtain ⟨o, ho, rfl⟩ : ∃ o, g'.1[i]? = some o ∧ oV o = v := by
                  rw [List.getElem?_map, Option.map_eq_some_iff] at hv5
                  exact hv5
                have hil : i < g'.1.length := (List.getElem?_eq_some_iff.mp ho).1
                have hl : ((g'.1.take i).map fun o => oV (o.bind (stp (LM ms) c))).length < sizeLine := by
                  rw [List.length_map, List.length_take]
                  have := hgl
                  exact lineLt_of (by omega)
                cases o with
                | none =>
                  walk_at "go"
                  refine w_ifEN2 (fun z => absurd rfl z) (fun _ => ?_)
                  walk_at "go"
                  refine w_kIt hr5 hl (fun H6 h6 o6 => ⟨s5'.off o6 nr, nr, ?_⟩)
                  rw [h6, take_snoc ho, List.map_append]
                  rfl
                | some x =>
                  have s05 : Same H H5 := s4.trans s5'
                  walk_at "go"
                  refine w_ifEN2 (fun _ => ?_) (fun z => nomatch z)
                  walk_at "go"
                  refine ⟨a, us, ms, one c, x, rfl, s05.at ha, hms.tps (.of s05), hlet, hml, wd_one (sgs_sgn c hcs), fun H6 s6 => ?_⟩
                  rw [show tl (one c) = [c] from rfl, ledM_one]
                  refine w_kIt (s6.at hr5) hl (fun H7 h7 o7 => ⟨(s5'.trans s6).off o7 nr, nr, ?_⟩)
                  rw [h7, take_snoc ho, List.map_append]
                  rfl
              · rintro r H5 ⟨s5', nr, hr5⟩
                rw [List.length_map, List.take_length] at hr5
                walk_at "go"
                refine w_tupL hr5 (fun t5 H6 ht5 nt5 => ?_)
                have hnx : H6 t5 = some (.tup ((nxM (stp (LM ms)) g'.1 c).map oV)) := by
                  rw [ht5]
                  unfold nxM
                  rw [List.map_map]
                  rfl
                have s6 : Same H4 H6 := s5'.nw nt5
                have hkn6 := s6.at hkn4
                have hk6 : KeysAt H6 xs4 := hk4.tps fun _ _ z => s6.at z
                have hfd6 := s6.at hfd4
                have pg : gM (LM ms) n k <+: gxS (nxM (stp (LM ms))) g' (gM (LM ms) n k) ((csL (LM ms)).take j) := gxS_pre g' _ _
                have gin6 := pg.subset (List.mem_of_getElem? hg)
                have gsucc : gM (LM ms) n (k + 1) = gxS (nxM (stp (LM ms))) g' (gM (LM ms) n k) (csL (LM ms)) := gbfs_succ hg
                have gpre : gxS (nxM (stp (LM ms))) g' (gM (LM ms) n k) ((csL (LM ms)).take (j + 1)) <+: gM (LM ms) n (k + 1) := by
                  rw [gsucc]
                  have := gxS_pre (nx := nxM (stp (LM ms))) g' ((csL (LM ms)).drop (j + 1)) (gxS (nxM (stp (LM ms))) g' (gM (LM ms) n k) ((csL (LM ms)).take (j + 1)))
                  unfold gxS at this ⊢
                  rwa [← List.foldl_append, List.take_append_drop] at this
                have few1 := few (k + 1)
                have gpl := gpre.length_le
                have pgl := pg.length_le
                have wl : g'.2.length + 1 ≤ (gM (LM ms) n k).length := gbfs_wl k g' (List.mem_of_getElem? hg)
                rw [take_snoc hc, gxS_snoc] at gpl ⊢
                generalize gxS (nxM (stp (LM ms))) g' (gM (LM ms) n k) ((csL (LM ms)).take j) = fs at hms4 hkeys4 gpl pgl ⊢
                have hvl4 : vs4.length = fs.length := Paired.length hms4
                have hxl4 : xs4.length = fs.length := by
                  have := congrArg List.length hkeys4
                  rwa [List.length_map, List.length_map] at this
                walk_at "go"
                refine w_notInN ?_
                walk_at "go"
                refine w_kNotInN hkn6 hk6 hnx ?_
                rw [valN_mem, hkeys4]
                by_cases hin : nxM (stp (LM ms)) g'.1 c ∈ fs.map (·.1)
                · have e3 : gx1 (nxM (stp (LM ms))) g' fs c = fs := by
                    unfold gx1
                    exact if_pos hin
                  rw [e3, decide_eq_true hin]
                  walk_at "go"
                  exact ⟨_, _, _, vs4, xs4, rfl, s4.trans s6, s6.at hsg4, hfd6, hms4.tps (.of s6), hkn6, hk6, hkeys4, s6.at hsa4⟩
                · have e3 : gx1 (nxM (stp (LM ms))) g' fs c = fs ++ [(nxM (stp (LM ms)) g'.1 c, g'.2 ++ one c)] := by
                    unfold gx1
                    exact if_neg hin
                  rw [e3] at gpl ⊢
                  rw [List.length_append] at gpl
                  have gpl : fs.length + 1 ≤ (gM (LM ms) n (k + 1)).length := gpl
                  rw [decide_eq_false hin, Bool.not_false]
                  walk_at "go"
                  refine w_if2 (fun h => ?_) (fun _ => ?_)
                  · exact absurd h (by rw [hvl4]; omega)
                  walk_at "go"
                  refine w_putN ?_
                  walk_at "go"
                  refine w_kPutN hkn6 hk6 hnx ?_ (lineLt_of (by omega)) ?_
                  · rw [valN_none, hkeys4]
                    exact hin
                  generalize hH8 : upd H6 kn _ = H8
                  have hm8 : H8 kn = some (DN P w kn (xs4 ++ [(nxM (stp (LM ms)) g'.1 c, t5, .bl true)])) := hH8 ▸ upd_same
                  have o8 : Of kn H6 H8 := hH8 ▸ .mk'
                  have t8 : Tps H6 H8 := Tps.refl.offN hkn6 o8
                  have hfd8 := o8.at fk hfd6
                  walk_at "go"
                  refine w_addS (line_of (by rw [len_one]; show g'.2.length + 1 ≤ _; omega)) ?_
                  walk_at "go"
                  refine w_newT (by walk_at "sz") (fun t9 H9' ht9 nt9 => ?_)
                  walk_at "go"
                  have hfd9 := nt9.at hfd8
                  refine w_append hfd9 (lineLt_of (by omega)) (fun H10' hfd10 o10 => ?_)
                  walk_at "go"
                  have t10 : Tps H6 H10' := (t8.trans (.of nt9.same)).off hfd9 o10
                  have hkn10 : H10' kn = some (DN P w kn (xs4 ++ [(nxM (stp (LM ms)) g'.1 c, t5, .bl true)])) := o10.at fk.symm (nt9.at hm8)
                  refine ⟨_, _, _, _, _, rfl, ((((s4.trans s6).off o8 nkn').nw nt9).off o10 nfd), o10.at sgfd (nt9.at (o8.at (ne_of (s6.at hsg4) hkn6 (by intro z; cases z)) (s6.at hsg4))), hfd10, ?_, hkn10, (hk6.tps t10).snoc (t10 _ _ hnx), by rw [List.map_append, List.map_append, hkeys4]; rfl, t10 _ _ (s6.at hsa4)⟩
                  exact Paired.snoc (hms4.tps ((Tps.of s6).trans t10)) ⟨t9, t5, rfl, (Tps.refl.off hfd9 o10) _ _ ht9, t10 _ _ hnx⟩
            · rintro σ H4 ⟨y13, y14, y15, vs4, xs4, rfl, s4, hsg4, hfd4, hms4, hkn4, hk4, hkeys4, _⟩
              have gsucc : gM (LM ms) n (k + 1) = gxS (nxM (stp (LM ms))) g' (gM (LM ms) n k) (csL (LM ms)) := gbfs_succ hg
              rw [List.length_map, List.take_length, ← gsucc] at hms4 hkeys4
              exact ⟨1001 - (k + 1), by omega, y3, _, _, y13, y14, y15, k + 1, vs4, xs4, rfl, s4, hsg4, hfd4, hms4, hkn4, hk4, hkeys4, by omega, by have := (gbfs_mono (nx := nxM (stp (LM ms))) (cs := csL (LM ms)) (k0 := idM n.toNat) (show k ≤ k + 1 by omega)).length_le; have : (gM (LM ms) n k).length ≤ (gM (LM ms) n (k + 1)).length := this; omega⟩
end
end Sf
namespace Sf
open PySem PySem.Spec PyProof.Rows L2 TL
theorem gbfs_le {κ : Type} [DecidableEq κ] {nx : κ → Nat → κ} {cs : List Nat} {k0 : κ} {S : List κ} (h0 : k0 ∈ S) (hs : ∀ k c, c ∈ cs → k ∈ S → nx k c ∈ S) (i : Nat) : (gbfs nx cs k0 i).length ≤ S.length := by
  have := nd_lenG _ S (gbfs_nd (nx := nx) (cs := cs) (k0 := k0) i) fun m hm => by
    obtain ⟨f, hf, rfl⟩ := List.mem_map.mp hm
    exact gbfs_all h0 hs i f hf
  rw [List.length_map] at this
  exact this
theorem sh_none {n : Nat} {f : Nat → Option Int} (h : ∀ x, x < n → f x = none) : (List.range n).map f = shM n 0 0 0 := by
  unfold shM
  refine List.map_congr_left fun x hx => ?_
  rw [h x (List.mem_range.mp hx), if_neg (by omega)]
/-- a row of places along a letter: forth, back -/
structure RowSt (n r : Nat) (st : Nat → Int → Option Int) (c d : Nat) : Prop where
  rn : r < n
  fo : ∀ p : Nat, p < n → st c (p : Int) = if p < r then some ((p + 1 : Nat) : Int) else none
  ba : ∀ p : Nat, p < n → st d (p : Int) = if 1 ≤ p ∧ p ≤ r then some ((p - 1 : Nat) : Int) else none
theorem row_step {n r c d : Nat} {st : Nat → Int → Option Int} (R : RowSt n r st c d) {e : Nat} (he : e = c ∨ e = d) {m : Mot} (hm : m ∈ shAll n) : nxM st m e ∈ shAll n := by
  have hz : shM n 0 0 0 ∈ shAll n := List.mem_cons_self
  have hrn := R.rn
  obtain ⟨a, l, t, h1, h2, rfl⟩ : ∃ a l t, a + l ≤ n ∧ t + l ≤ n ∧ m = shM n a l t := by
    rcases List.mem_cons.mp hm with rfl | hm
    · exact ⟨0, 0, 0, by omega, by omega, rfl⟩
    · obtain ⟨l, hl, hm⟩ := List.mem_flatMap.mp hm
      obtain ⟨a, ha, hm⟩ := List.mem_flatMap.mp hm
      obtain ⟨t, ht, rfl⟩ := List.mem_map.mp hm
      rw [List.mem_range] at hl ha ht
      exact ⟨a, l + 1, t, by omega, by omega, rfl⟩
  have at_ : ∀ x, x < n → ((if a ≤ x ∧ x < a + l then some ((x - a + t : Nat) : Int) else none : Option Int).bind (st e)) = if a ≤ x ∧ x < a + l then st e ((x - a + t : Nat) : Int) else none := fun x _ => by
    by_cases h : a ≤ x ∧ x < a + l
    · rw [if_pos h, if_pos h]; rfl
    · rw [if_neg h, if_neg h]; rfl
  have go : ∀ (a' l' t' : Nat), (∀ x, x < n → (if a ≤ x ∧ x < a + l then st e ((x - a + t : Nat) : Int) else none) = if a' ≤ x ∧ x < a' + l' then some ((x - a' + t' : Nat) : Int) else none) → (l' = 0 ∨ (a' + l' ≤ n ∧ t' + l' ≤ n)) → nxM st (shM n a l t) e ∈ shAll n := fun a' l' t' h hl => by
    have e1 : nxM st (shM n a l t) e = shM n a' l' t' := by
      unfold nxM shM
      rw [List.map_map]
      refine List.map_congr_left fun x hx => ?_
      have hx := List.mem_range.mp hx
      show ((if a ≤ x ∧ x < a + l then some ((x - a + t : Nat) : Int) else none : Option Int).bind (st e)) = _
      rw [at_ x hx, h x hx]
    rw [e1]
    rcases hl with rfl | ⟨b1, b2⟩
    · rw [sh_zero]; exact hz
    · exact sh_mem b1 b2
  rcases he with rfl | rfl
  · refine go a (min l (r - t)) (t + 1) (fun x hx => ?_) ?_
    · by_cases h : a ≤ x ∧ x < a + l
      · rw [if_pos h, R.fo _ (by omega)]
        by_cases k : x - a + t < r
        · rw [if_pos k, if_pos (by omega)]
          congr 2
        · rw [if_neg k, if_neg (by omega)]
      · rw [if_neg h, if_neg (by omega)]
    · by_cases k : t < r
      · exact .inr ⟨by omega, by omega⟩
      · exact .inl (by omega)
  · by_cases k : t = 0
    · subst k
      refine go (a + 1) (min (l - 1) r) 0 (fun x hx => ?_) ?_
      · by_cases h : a ≤ x ∧ x < a + l
        · rw [if_pos h, R.ba _ (by omega)]
          by_cases k : 1 ≤ x - a + 0 ∧ x - a + 0 ≤ r
          · rw [if_pos k, if_pos (by omega)]
            congr 2
          · rw [if_neg k, if_neg (by omega)]
        · rw [if_neg h, if_neg (by omega)]
      · by_cases k : l = 0
        · exact .inl (by omega)
        · exact .inr ⟨by omega, by omega⟩
    · refine go a (min l (r + 1 - t)) (t - 1) (fun x hx => ?_) (.inr ⟨by omega, by omega⟩)
      by_cases h : a ≤ x ∧ x < a + l
      · rw [if_pos h, R.ba _ (by omega)]
        by_cases k : 1 ≤ x - a + t ∧ x - a + t ≤ r
        · rw [if_pos k, if_pos (by omega)]
          congr 2
          omega
        · rw [if_neg k, if_neg (by omega)]
      · rw [if_neg h, if_neg (by omega)]
theorem row_few {n r c d : Nat} {st : Nat → Int → Option Int} (R : RowSt n r st c d) (hn : n ≤ 12) (i : Nat) : (gbfs (nxM st) [c, d] (idM n) i).length ≤ 1000 := by
  refine Nat.le_trans (gbfs_le (S := shAll n) ?_ (fun m e he hm => row_step R (by simpa using he) hm) i) (shAll_len hn)
  have : idM n = shM n 0 n 0 := by
    unfold idM shM
    refine List.map_congr_left fun x hx => ?_
    rw [if_pos ⟨Nat.zero_le _, by have := List.mem_range.mp hx; omega⟩]
    rfl
  rw [this]
  exact sh_mem (by omega) (by omega)
end Sf
namespace Sf
open PySem PySem.Spec PyProof.Rows L2 TL
/-! rings: every place leads on -/
def rotM (n R i j : Nat) : Mot := (List.range n).map fun x => some (((if x < R then (x + i) % R else R + (x - R + j) % (n - R) : Nat) : Nat) : Int)
def rotAll (n R : Nat) : List Mot := (List.range R).flatMap fun i => (List.range (n - R + 1)).map fun j => rotM n R i j
structure RingSt (n R : Nat) (st : Nat → Int → Option Int) (c d : Nat) : Prop where
  r1 : 1 ≤ R
  rn : R ≤ n
  fo : ∀ p : Nat, p < n → st c (p : Int) = some (((if p < R then (p + 1) % R else R + (p - R + 1) % (n - R) : Nat) : Nat) : Int)
  ba : ∀ p : Nat, p < n → st d (p : Int) = some (((if p < R then (p + (R - 1)) % R else R + (p - R + (n - R - 1)) % (n - R) : Nat) : Nat) : Int)
theorem rot_mem {n R i j : Nat} (h1 : i < R) (h2 : j < n - R + 1) : rotM n R i j ∈ rotAll n R := List.mem_flatMap.mpr ⟨i, List.mem_range.mpr h1, List.mem_map.mpr ⟨j, List.mem_range.mpr h2, rfl⟩⟩
theorem mod_go {x i k R : Nat} : ((x + i) % R + k) % R = (x + (i + k) % R) % R := by rw [Nat.mod_add_mod, Nat.add_mod_mod, Nat.add_assoc]
theorem ring_go {n R : Nat} {st : Nat → Int → Option Int} {e i j a b : Nat} (r1 : 1 ≤ R) (rn : R ≤ n) (hs : ∀ p : Nat, p < n → st e (p : Int) = some (((if p < R then (p + a) % R else R + (p - R + b) % (n - R) : Nat) : Nat) : Int)) : nxM st (rotM n R i j) e = rotM n R ((i + a) % R) ((j + b) % (n - R)) := by
  unfold nxM rotM
  rw [List.map_map]
  refine List.map_congr_left fun x hx => ?_
  have hx := List.mem_range.mp hx
  show st e (((if x < R then (x + i) % R else R + (x - R + j) % (n - R) : Nat) : Nat) : Int) = _
  by_cases h : x < R
  · have hm := Nat.mod_lt (x + i) (show 0 < R by omega)
    rw [if_pos h, if_pos h]
    rw [hs _ (by omega), if_pos hm, mod_go]
  · have h0 : 0 < n - R := by omega
    have hm := Nat.mod_lt (x - R + j) h0
    rw [if_neg h, if_neg h, hs _ (by omega), if_neg (by omega), show R + (x - R + j) % (n - R) - R = (x - R + j) % (n - R) by omega, mod_go]
theorem ring_few {n R c d : Nat} {st : Nat → Int → Option Int} (S : RingSt n R st c d) (hn : n ≤ 12) (i : Nat) : (gbfs (nxM st) [c, d] (idM n) i).length ≤ 1000 := by
  have h1 := S.r1
  have h2 := S.rn
  have step : ∀ (i j a b : Nat), rotM n R ((i + a) % R) ((j + b) % (n - R)) ∈ rotAll n R := fun i j a b => by
    by_cases h : n - R = 0
    · have : rotM n R ((i + a) % R) ((j + b) % (n - R)) = rotM n R ((i + a) % R) 0 := by
        unfold rotM
        refine List.map_congr_left fun x hx => ?_
        have hx := List.mem_range.mp hx
        rw [if_pos (by omega), if_pos (by omega)]
      rw [this]
      exact rot_mem (Nat.mod_lt _ (by omega)) (by omega)
    · exact rot_mem (Nat.mod_lt _ (by omega)) (by have := Nat.mod_lt (j + b) (show 0 < n - R by omega); omega)
  refine Nat.le_trans (gbfs_le (S := rotAll n R) ?_ (fun m e he hm => ?_) i) ?_
  · have : idM n = rotM n R 0 0 := by
      unfold idM rotM
      refine List.map_congr_left fun x hx => ?_
      have hx := List.mem_range.mp hx
      by_cases h : x < R
      · rw [if_pos h, Nat.add_zero, Nat.mod_eq_of_lt h]
      · rw [if_neg h, Nat.add_zero, Nat.mod_eq_of_lt (by omega), show R + (x - R) = x by omega]
    rw [this]
    exact rot_mem (by omega) (by omega)
  · obtain ⟨i, hi, hm⟩ := List.mem_flatMap.mp hm
    obtain ⟨j, hj, rfl⟩ := List.mem_map.mp hm
    have he : e = c ∨ e = d := by simpa using he
    rcases he with rfl | rfl
    · rw [ring_go h1 h2 S.fo]; exact step i j 1 1
    · rw [ring_go h1 h2 S.ba]; exact step i j (R - 1) (n - R - 1)
  · have : (rotAll n R).length = R * (n - R + 1) := by
      unfold rotAll
      rw [List.length_flatMap]
      have e : (fun i => ((List.range (n - R + 1)).map fun j => rotM n R i j).length) = fun _ => n - R + 1 := by funext i; rw [List.length_map, List.length_range]
      rw [show (List.map (fun i => ((List.range (n - R + 1)).map fun j => rotM n R i j).length) (List.range R)) = (List.range R).map (fun _ => n - R + 1) from by rw [e], List.map_const', List.sum_replicate_nat, List.length_range]
    rw [this]
    have : R * (n - R + 1) ≤ 12 * 13 := Nat.mul_le_mul (by omega) (by omega)
    omega
end Sf
namespace Sf
open PySem PySem.Spec PyProof.Rows L2 TL
/-! ### narrow worlds: few motions -/
theorem LM_rgN {n : Int} {ms : List Mv} (ok : WOk n ms) : LRg n (LM ms) := fun c hc q hq => by
  obtain ⟨m, hm, e⟩ := LM_mem.mp hq
  have := ok.rg m hm
  rcases e with ⟨_, e1, e2⟩ | ⟨_, _, e1, e2⟩ <;> omega
theorem gbfs_nil {κ : Type} [DecidableEq κ] {nx : κ → Nat → κ} {k0 : κ} : ∀ i, gbfs nx [] k0 i = [(k0, Str.ofString "")]
  | 0 => rfl
  | i + 1 => by
    have ih := gbfs_nil (nx := nx) (k0 := k0) i
    show (match (gbfs nx [] k0 i)[i]? with | some k => gxS nx k (gbfs nx [] k0 i) [] | none => gbfs nx [] k0 i) = _
    cases (gbfs nx [] k0 i)[i]? <;> exact ih
theorem csL_mem {L : Nat → List (Int × Int)} {c : Nat} (h : c ∈ csL L) : c ∈ sgs ∧ L (lowc c) ≠ [] := by
  unfold csL at h
  obtain ⟨h1, h2⟩ := List.mem_filter.mp h
  exact ⟨h1, fun z => by rw [z] at h2; cases h2⟩
theorem few_small {n : Int} {L : Nat → List (Int × Int)} (hL : LRg n L) (n0 : 0 ≤ n) (n4 : n ≤ 4) (i : Nat) : (gM L n i).length ≤ 1000 := by
  have h := all_small (n := n.toNat) (st := stp L) (cs := csL L) (fun c p q hc e => by
    have := hL c (csL_mem hc).1 _ (lk_mem e)
    have h1 := this.2.2.1
    have h2 := this.2.2.2
    exact ⟨h1, by show q < ((n.toNat : Nat) : Int); omega⟩) i
  refine Nat.le_trans h ?_
  have : n.toNat = 0 ∨ n.toNat = 1 ∨ n.toNat = 2 ∨ n.toNat = 3 ∨ n.toNat = 4 := by omega
  rcases this with e | e | e | e | e <;> rw [e] <;> decide
def rowMs (r : Nat) : List Mv := (List.range r).map fun (k : Nat) => (99, (k : Int), ((k + 1 : Nat) : Int))
def ringF (n R p : Nat) : Nat := if p < R then (p + 1) % R else R + (p - R + 1) % (n - R)
def ringB (n R p : Nat) : Nat := if p < R then (p + (R - 1)) % R else R + (p - R + (n - R - 1)) % (n - R)
def ringMs (n R : Nat) : List Mv := (List.range n).map fun (k : Nat) => (100, (k : Int), (ringF n R k : Int))
theorem row_ok {n r : Nat} (h : r < n) : WOk (n : Int) (rowMs r) := by
  refine ⟨fun m hm => ?_, ?_⟩
  · obtain ⟨k, hk, rfl⟩ := List.mem_map.mp hm
    have := List.mem_range.mp hk
    refine ⟨?_, ?_, ?_, ?_, ?_, ?_⟩ <;> dsimp only <;> omega
  · refine List.pairwise_map.mpr (List.Pairwise.imp (R := fun a b => a < b) (fun {a b} hab => ?_) List.pairwise_lt_range)
    intro _
    constructor <;> dsimp only <;> omega
theorem ringF_lt {n R p : Nat} (r1 : 1 ≤ R) (rn : R ≤ n) (h : p < n) : ringF n R p < n := by
  unfold ringF
  split
  · have := Nat.mod_lt (p + 1) (show 0 < R by omega); omega
  · have := Nat.mod_lt (p - R + 1) (show 0 < n - R by omega); omega
theorem ringB_lt {n R p : Nat} (r1 : 1 ≤ R) (rn : R ≤ n) (h : p < n) : ringB n R p < n := by
  unfold ringB
  split
  · have := Nat.mod_lt (p + (R - 1)) (show 0 < R by omega); omega
  · have := Nat.mod_lt (p - R + (n - R - 1)) (show 0 < n - R by omega); omega
theorem ring_FB {n R p : Nat} (r1 : 1 ≤ R) (rn : R ≤ n) (h : p < n) : ringF n R (ringB n R p) = p := by
  unfold ringB
  by_cases e : p < R
  · rw [if_pos e]
    unfold ringF
    rw [if_pos (Nat.mod_lt _ (by omega)), Nat.mod_add_mod, show p + (R - 1) + 1 = p + R by omega, Nat.add_mod_right, Nat.mod_eq_of_lt e]
  · rw [if_neg e]
    unfold ringF
    rw [if_neg (by omega), show R + (p - R + (n - R - 1)) % (n - R) - R = (p - R + (n - R - 1)) % (n - R) by omega, Nat.mod_add_mod, show p - R + (n - R - 1) + 1 = p - R + (n - R) by omega, Nat.add_mod_right, Nat.mod_eq_of_lt (by omega)]
    omega
theorem ring_BF {n R p : Nat} (r1 : 1 ≤ R) (rn : R ≤ n) (h : p < n) : ringB n R (ringF n R p) = p := by
  unfold ringF
  by_cases e : p < R
  · rw [if_pos e]
    unfold ringB
    rw [if_pos (Nat.mod_lt _ (by omega)), Nat.mod_add_mod, show p + 1 + (R - 1) = p + R by omega, Nat.add_mod_right, Nat.mod_eq_of_lt e]
  · rw [if_neg e]
    unfold ringB
    rw [if_neg (by omega), show R + (p - R + 1) % (n - R) - R = (p - R + 1) % (n - R) by omega, Nat.mod_add_mod, show p - R + 1 + (n - R - 1) = p - R + (n - R) by omega, Nat.add_mod_right, Nat.mod_eq_of_lt (by omega)]
    omega
theorem ring_ok {n R : Nat} (r1 : 1 ≤ R) (rn : R ≤ n) : WOk (n : Int) (ringMs n R) := by
  refine ⟨fun m hm => ?_, ?_⟩
  · obtain ⟨k, hk, rfl⟩ := List.mem_map.mp hm
    have := List.mem_range.mp hk
    have := ringF_lt r1 rn this
    refine ⟨?_, ?_, ?_, ?_, ?_, ?_⟩ <;> dsimp only <;> omega
  · refine List.pairwise_map.mpr ?_
    have : (List.range n).Pairwise fun a b => a ∈ List.range n ∧ b ∈ List.range n ∧ a < b := List.Pairwise.imp_of_mem (fun {a b} ha hb h => ⟨ha, hb, h⟩) List.pairwise_lt_range
    refine List.Pairwise.imp (R := fun a b => a ∈ List.range n ∧ b ∈ List.range n ∧ a < b) (fun {a b} ⟨ha, hb, hab⟩ => ?_) this
    intro _
    refine ⟨by dsimp only; omega, fun z => ?_⟩
    have ha := List.mem_range.mp ha
    have hb := List.mem_range.mp hb
    have z : ringF n R a = ringF n R b := Int.ofNat.inj z
    have := congrArg (ringB n R) z
    rw [ring_BF r1 rn ha, ring_BF r1 rn hb] at this
    omega
theorem LM_other {ms : List Mv} {c : Nat} (h : ∀ m ∈ ms, m.1 ≠ c ∧ m.1 ≠ c + 32) : LM ms c = [] := by
  unfold LM
  rw [List.filterMap_eq_nil_iff]
  intro m hm
  unfold mvOn
  rw [if_neg (h m hm).1, if_neg (h m hm).2]
theorem csL_one {ms : List Mv} {c : Nat} (hc : 97 ≤ c ∧ c ≤ 104) (h : ∀ m ∈ ms, m.1 = c) (ne : ms ≠ []) : csL (LM ms) = [c, c - 32] := by
  have e : ∀ d ∈ smls, (!(LM ms d).isEmpty) = decide (d = c) := fun d hd => by
    have hd := smls_iff.mp hd
    by_cases z : d = c
    · subst z
      rw [decide_eq_true rfl]
      cases ms with
      | nil => exact absurd rfl ne
      | cons m ms =>
        have hm : m.1 = d := h m List.mem_cons_self
        have : LM (m :: ms) d = (m.2.1, m.2.2) :: LM ms d := by
          unfold LM
          rw [List.filterMap_cons_some]
          unfold mvOn
          rw [if_pos hm]
        rw [this]
        rfl
    · rw [decide_eq_false z, LM_other (fun m hm => by rw [h m hm]; omega)]
      rfl
  have e2 : ∀ l : List Nat, (∀ d ∈ l, d ∈ sgs) → (l.filter fun d => !(LM ms (lowc d)).isEmpty) = l.filter fun d => decide (lowc d = c) := fun l hl => List.filter_congr fun d hd => e _ (lowc_smls d (hl d hd))
  unfold csL
  rw [e2 _ fun d hd => hd]
  have : c = 97 ∨ c = 98 ∨ c = 99 ∨ c = 100 ∨ c = 101 ∨ c = 102 ∨ c = 103 ∨ c = 104 := by omega
  rcases this with rfl | rfl | rfl | rfl | rfl | rfl | rfl | rfl <;> decide
theorem lk_some {n : Int} {ms : List Mv} (ok : WOk n ms) {m : Mv} (hm : m ∈ ms) : stp (LM ms) m.1 m.2.1 = some m.2.2 := by
  cases e : stp (LM ms) m.1 m.2.1 with
  | none =>
    unfold stp lk at e
    rw [Option.map_eq_none_iff, List.find?_eq_none] at e
    exact absurd (decide_eq_true rfl) (e _ (LM_mem.mpr ⟨m, hm, .inl ⟨rfl, rfl, rfl⟩⟩))
  | some z =>
    obtain ⟨k, hk, h⟩ := LM_mem.mp (lk_mem e)
    have hr := ok.rg k hk
    have hr2 := ok.rg m hm
    rcases h with ⟨h1, h2, h3⟩ | ⟨h0, h1, _⟩
    · have h2 : k.2.1 = m.2.1 := h2
      have h3 : k.2.2 = z := h3
      by_cases e2 : k = m
      · rw [← h3, e2]
      · exfalso
        have pw : ∀ (a b : Mv), a ∈ ms → b ∈ ms → a ≠ b → a.1 = b.1 → a.2.1 ≠ b.2.1 := fun a b ha hb ne e1 => by
          have hsym : ms.Pairwise fun m k => m.1 = k.1 → m.2.1 ≠ k.2.1 := ok.pw.imp fun h e => (h e).1
          exact List.Pairwise.forall_of_forall_of_flip (R := fun m k => m ≠ k → m.1 = k.1 → m.2.1 ≠ k.2.1) (fun x _ z => absurd rfl z) (hsym.imp fun h _ e => h e) (hsym.imp fun h _ e z => h e.symm z.symm) ha hb ne e1
        exact pw k m hk hm e2 h1 h2
    · omega
theorem few_row {n r : Nat} (h : r < n) (hn : n ≤ 12) (i : Nat) : (gM (LM (rowMs r)) (n : Int) i).length ≤ 1000 := by
  have ok := row_ok h
  have hl : ∀ m ∈ rowMs r, m.1 = 99 := fun m hm => by obtain ⟨k, _, rfl⟩ := List.mem_map.mp hm; rfl
  unfold gM
  by_cases e : r = 0
  · subst e
    have : csL (LM (rowMs 0)) = [] := by decide +kernel
    rw [this, gbfs_nil]
    show 1 ≤ 1000
    decide
  · rw [csL_one (by decide) hl (by intro z; have := congrArg List.length z; unfold rowMs at this; rw [List.length_map, List.length_range] at this; exact e this)]
    rw [Int.toNat_natCast]
    refine row_few (r := r) ⟨h, fun p hp => ?_, fun p hp => ?_⟩ hn i
    · by_cases k : p < r
      · rw [if_pos k]
        exact lk_some ok (m := (99, (p : Int), ((p + 1 : Nat) : Int))) (List.mem_map.mpr ⟨p, List.mem_range.mpr k, rfl⟩)
      · rw [if_neg k]
        refine lk_none fun q hq z => ?_
        obtain ⟨m, hm, h⟩ := LM_mem.mp hq
        obtain ⟨j, hj, rfl⟩ := List.mem_map.mp hm
        have := List.mem_range.mp hj
        rcases h with ⟨_, h2, _⟩ | ⟨h0, _⟩
        · dsimp only at h2; omega
        · exact h0 rfl
    · show lk (LM (rowMs r) 67) (p : Int) = _
      have mem : ∀ q ∈ LM (rowMs r) 67, ∃ j, j < r ∧ q = (((j + 1 : Nat) : Int), (j : Int)) := fun q hq => by
        obtain ⟨m, hm, h⟩ := LM_mem.mp hq
        obtain ⟨j, hj, rfl⟩ := List.mem_map.mp hm
        rcases h with ⟨h1, _, _⟩ | ⟨_, _, h2, h3⟩
        · dsimp only at h1; omega
        · exact ⟨j, List.mem_range.mp hj, Prod.ext h2.symm h3.symm⟩
      by_cases k : 1 ≤ p ∧ p ≤ r
      · rw [if_pos k]
        refine lk_of (fun a ha b hb z => ?_) (LM_mem.mpr ⟨(99, ((p - 1 : Nat) : Int), ((p - 1 + 1 : Nat) : Int)), List.mem_map.mpr ⟨p - 1, List.mem_range.mpr (by omega), rfl⟩, .inr ⟨by dsimp only; omega, rfl, by dsimp only; omega, rfl⟩⟩)
        obtain ⟨j1, _, rfl⟩ := mem a ha
        obtain ⟨j2, _, rfl⟩ := mem b hb
        have z : ((j1 + 1 : Nat) : Int) = ((j2 + 1 : Nat) : Int) := z
        have : j1 = j2 := by omega
        rw [this]
      · rw [if_neg k]
        refine lk_none fun q hq z => ?_
        obtain ⟨j, hj, rfl⟩ := mem q hq
        have z : ((j + 1 : Nat) : Int) = (p : Int) := z
        omega
theorem few_ring {n R : Nat} (r1 : 1 ≤ R) (rn : R ≤ n) (hn : n ≤ 12) (i : Nat) : (gM (LM (ringMs n R)) (n : Int) i).length ≤ 1000 := by
  have ok := ring_ok r1 rn
  have hl : ∀ m ∈ ringMs n R, m.1 = 100 := fun m hm => by obtain ⟨k, _, rfl⟩ := List.mem_map.mp hm; rfl
  unfold gM
  rw [csL_one (by decide) hl (by intro z; have := congrArg List.length z; unfold ringMs at this; rw [List.length_map, List.length_range] at this; have : n = 0 := this; omega)]
  rw [Int.toNat_natCast]
  refine ring_few (R := R) ⟨r1, rn, fun p hp => ?_, fun p hp => ?_⟩ hn i
  · exact lk_some ok (m := (100, (p : Int), (ringF n R p : Int))) (List.mem_map.mpr ⟨p, List.mem_range.mpr hp, rfl⟩)
  · show lk (LM (ringMs n R) 68) (p : Int) = some ((ringB n R p : Nat) : Int)
    have mem : ∀ q ∈ LM (ringMs n R) 68, ∃ j, j < n ∧ q = ((ringF n R j : Int), (j : Int)) := fun q hq => by
      obtain ⟨m, hm, h⟩ := LM_mem.mp hq
      obtain ⟨j, hj, rfl⟩ := List.mem_map.mp hm
      rcases h with ⟨h1, _, _⟩ | ⟨_, _, h2, h3⟩
      · dsimp only at h1; omega
      · exact ⟨j, List.mem_range.mp hj, Prod.ext h2.symm h3.symm⟩
    refine lk_of (fun a ha b hb z => ?_) (LM_mem.mpr ⟨(100, (ringB n R p : Int), (ringF n R (ringB n R p) : Int)), List.mem_map.mpr ⟨ringB n R p, List.mem_range.mpr (ringB_lt r1 rn hp), rfl⟩, .inr ⟨by dsimp only; omega, rfl, by dsimp only; rw [ring_FB r1 rn hp], rfl⟩⟩)
    obtain ⟨j1, h1, rfl⟩ := mem a ha
    obtain ⟨j2, h2, rfl⟩ := mem b hb
    have z : (ringF n R j1 : Int) = (ringF n R j2 : Int) := z
    have z : ringF n R j1 = ringF n R j2 := by omega
    have := congrArg (ringB n R) z
    rw [ring_BF r1 rn h1, ring_BF r1 rn h2] at this
    rw [this]
end Sf
namespace Sf
open PySem PySem.Spec PyProof.Rows L2 TL
section
variable {P : Program} {w : World} {K : PySem.W.Frag} {mg : Str → Option Value} {base : Heap}
/-! ### _law_narrow: a world of few motions -/
def spNa : Sp := fun vs H Q _ => ∃ (b l : Addr), vs = [.ref b] ∧ Bag H b l ∧
  ∀ (t f : Addr) (n : Int) (us : List V) (ms : List Mv) (H' : Hp), H' t = some (.tup [.int n, .ref f]) → H' f = some (.lst us) → MvsAt H' us ms → WOk n ms → 1 ≤ n → n ≤ 12 → ms.length ≤ 8000 → (∀ i, (gM (LM ms) n i).length ≤ 1000) → Bag H' b l → Fx b H H' → f ≠ b → f ≠ l → Q (.ref t) H'
abbrev HasNa (P : Program) (w : World) (K : PySem.W.Frag) (mg : Str → Option Value) (base : Heap) : Prop := Has P w K mg base 3 "_law_narrow" ["_law_bag"] spNa
theorem sc_na : FnScope ["_law_bag", "_law_many", "_law_moves", "_law_kind", "_law_size", "_law_place", "_law_ring", "_law_k", "_law_row"] ["_law_bag"] (defScope s__law_narrow) := ⟨rfl, rfl, rfl, by decide +kernel, rfl, by decide +kernel, by decide +kernel⟩
theorem has_na (F : FnAt K mg "_law_narrow" s__law_narrow ["_law_bag"]) (B : Blt mg) (h_Pu : HasPull P w K mg base) (h_Lw : HasLw P w K mg base) : HasNa P w K mg base := F.has fun F => by
  obtain ⟨f_Pu, fd_Pu, g_Pu, k_Pu, b_Pu, G_Pu⟩ := h_Pu
  obtain ⟨f_Lw, fd_Lw, g_Lw, k_Lw, b_Lw, G_Lw⟩ := h_Lw
  refine F.ok sc_na (fun vs H Q E h => ?_) (fun cdv A outer s H vs Q E hr h => ?_)
  · obtain ⟨b, l, rfl, _⟩ := h
    rfl
  · obtain ⟨b, l, rfl, hB, q⟩ := h
    refine ⟨_, (pss_cons (ps_asg (pe_call G_Lw (hr.mono (by decide)) (by rfl) g_Lw k_Lw b_Lw .nil pass0 (pa_cons (pv 0) (pa_cons (pe_ix ix_list (pe_lst (pa_cons pe_int (pa_cons pe_int (pa_cons pe_int pa_nil)))) (pe_call G_Pu (hr.mono (by decide)) (by rfl) g_Pu k_Pu b_Pu .nil pass0 (pa_cons (pv 0) (pa_cons pe_int pa_nil))) (fun _ _ => rfl)) (pa_cons (pe_slice sl_str pe_str po_none (po_some (pe_op op_add pe_int (pe_call G_Pu (hr.mono (by decide)) (by rfl) g_Pu k_Pu b_Pu .nil pass0 (pa_cons (pv 0) (pa_cons pe_int pa_nil)))))) pa_nil)))) (pg_tup rfl (pgs_cons (pg_name (i := 1) sc_na.nd rfl (.inl rfl)) (pgs_cons (pg_name (i := 2) sc_na.nd rfl (.inl rfl)) pgs_nil)))) (pss_cons (ps_set (i := 3) sc_na.nd rfl (.inl rfl) (pe_call G_Pu (hr.mono (by decide)) (by rfl) g_Pu k_Pu b_Pu .nil pass0 (pa_cons (pv 0) (pa_cons pe_int pa_nil)))) (pss_cons (ps_if (pt_cmpR op_eq (pv 3) pe_int (nomark _)) (pss_cons (ps_set (i := 4) sc_na.nd rfl (.inr rfl) (pe_op op_add pe_int (pe_call G_Pu (hr.mono (by decide)) (by rfl) g_Pu k_Pu b_Pu .nil pass0 (pa_cons (pv 0) (pa_cons pe_int pa_nil))))) (pss_one (ps_ret (pe_tup (pa_cons (pv 4) (pa_cons (pe_lc (own := [("_law_place", 5)]) (g := gName 5) (tt := tYes) (by rfl) sc_na.nd (pi_range1 rfl B.range (pa_cons (pe_call G_Pu (hr.mono (by decide)) (by rfl) g_Pu k_Pu b_Pu .nil pass0 (pa_cons (pv 0) (pa_cons (pv 4) pa_nil))) pa_nil)) (blkOk_by (own := [("_law_place", 5)]) (N := ["_law_bag", "_law_many", "_law_moves", "_law_kind", "_law_size", "_law_place", "_law_ring", "_law_k", "_law_row"]) (sc := defScope s__law_narrow) (by decide +kernel)) (fun _ _ _ _ _ => pg_name (i := 5) sc_na.nd rfl (.inl rfl)) (fun _ _ _ _ _ => pts_nil) (fun _ _ _ _ _ => (pe_tup (pa_cons pe_str (pa_cons (pv 5) (pa_cons (pe_op op_add (pv 5) pe_int) pa_nil)))))) pa_nil)))))) pss_nil) (pss_cons (ps_if (pt_cmpR op_eq (pv 3) pe_int (nomark _)) (pss_cons (ps_asg (pe_tup (pa_cons (pe_op op_add pe_int (pe_call G_Pu (hr.mono (by decide)) (by rfl) g_Pu k_Pu b_Pu .nil pass0 (pa_cons (pv 0) (pa_cons pe_int pa_nil)))) (pa_cons (pe_op op_add pe_int (pe_call G_Pu (hr.mono (by decide)) (by rfl) g_Pu k_Pu b_Pu .nil pass0 (pa_cons (pv 0) (pa_cons pe_int pa_nil)))) pa_nil))) (pg_tup rfl (pgs_cons (pg_name (i := 4) sc_na.nd rfl (.inr rfl)) (pgs_cons (pg_name (i := 6) sc_na.nd rfl (.inr rfl)) pgs_nil)))) (pss_cons (ps_set (i := 6) sc_na.nd rfl (.inr rfl) (pe_callB (call_min2N rfl) (by rfl) B.min (by decide +kernel) (pa_cons (pv 6) (pa_cons (pv 4) pa_nil)))) (pss_cons (ps_set (i := 8) sc_na.nd rfl (.inr rfl) (pe_op op_cat (pe_lc (own := [("_law_k", 7)]) (g := gName 7) (tt := tYes) (by rfl) sc_na.nd (pi_range1 rfl B.range (pa_cons (pv 6) pa_nil)) (blkOk_by (own := [("_law_k", 7)]) (N := ["_law_bag", "_law_many", "_law_moves", "_law_kind", "_law_size", "_law_place", "_law_ring", "_law_k", "_law_row"]) (sc := defScope s__law_narrow) (by decide +kernel)) (fun _ _ _ _ _ => pg_name (i := 7) sc_na.nd rfl (.inl rfl)) (fun _ _ _ _ _ => pts_nil) (fun _ _ _ _ _ => (pe_op op_mod (pe_op op_add (pv 7) pe_int) (pv 6)))) (pe_lc (own := [("_law_k", 7)]) (g := gName 7) (tt := tYes) (by rfl) sc_na.nd (pi_range1 rfl B.range (pa_cons (pe_op op_sub (pv 4) (pv 6)) pa_nil)) (blkOk_by (own := [("_law_k", 7)]) (N := ["_law_bag", "_law_many", "_law_moves", "_law_kind", "_law_size", "_law_place", "_law_ring", "_law_k", "_law_row"]) (sc := defScope s__law_narrow) (by decide +kernel)) (fun _ _ _ _ _ => pg_name (i := 7) sc_na.nd rfl (.inl rfl)) (fun _ _ _ _ _ => pts_nil) (fun _ _ _ _ _ => (pe_op op_add (pv 6) (pe_op op_mod (pe_op op_add (pv 7) pe_int) (pe_op op_sub (pv 4) (pv 6)))))))) (pss_one (ps_ret (pe_tup (pa_cons (pv 4) (pa_cons (pe_lc (own := [("_law_place", 5)]) (g := gName 5) (tt := tYes) (te := tTup (tCons (tC (.str (Str.ofString "d"))) (tCons (tVar 5) (tCons (tOp (rIxL K) (tVar 8) (tVar 5)) tNil)))) (by rfl) sc_na.nd (pi_range1 rfl B.range (pa_cons (pv 4) pa_nil)) (blkOk_by (own := [("_law_place", 5)]) (N := ["_law_bag", "_law_many", "_law_moves", "_law_kind", "_law_size", "_law_place", "_law_ring", "_law_k", "_law_row"]) (sc := defScope s__law_narrow) (by decide +kernel)) (fun _ _ _ _ _ => pg_name (i := 5) sc_na.nd rfl (.inl rfl)) (fun _ _ _ _ _ => pts_nil) (fun _ _ _ _ _ => by exact (pe_tup (pa_cons pe_str (pa_cons (pv 5) (pa_cons (pe_ix ix_list (pv 8) (pv 5) (fun _ _ => rfl)) pa_nil)))))) pa_nil)))))))) pss_nil) (pss_one (ps_ret (pe_tup (pa_cons (pv 1) (pa_cons (pv 2) pa_nil))))))))), ?_⟩
    walk_at "go"
    refine w_newL (by walk_at "sz") (fun r3 H1 hr3 nr3 => ?_)
    have B1 := hB.nw nr3
    have r3b := hB.ne nr3.nn
    walk_at "go"
    refine ⟨b, l, 3, rfl, B1, by omega, by omega, fun d1 H2 d10 d11 B2 f2 => ?_⟩
    obtain ⟨u, hu, u2, u4⟩ : ∃ u : Int, atI [V.int 2, V.int 3, V.int 4] d1 = some (.int u) ∧ 2 ≤ u ∧ u ≤ 4 := by
      have : d1 = 0 ∨ d1 = 1 ∨ d1 = 2 := by omega
      rcases this with rfl | rfl | rfl
      · exact ⟨2, rfl, by omega, by omega⟩
      · exact ⟨3, rfl, by omega, by omega⟩
      · exact ⟨4, rfl, by omega, by omega⟩
    refine w_ixL (f2.at r3b hr3) hu ?_
    walk_at "go"
    refine ⟨b, l, 2, rfl, B2, by omega, by omega, fun d2 H3 d20 d21 B3 f3 => ?_⟩
    walk_at "go"
    refine w_slS (by decide +kernel) ?_
    obtain ⟨z, hz, zl, zn, z8⟩ : ∃ z, cutS (Str.ofString "ab") none (some (1 + d2)) = z ∧ (∀ c ∈ tl z, 97 ≤ c ∧ c ≤ 104) ∧ (tl z).Nodup ∧ (tl z).length ≤ 8 := by
      have : d2 = 0 ∨ d2 = 1 := by omega
      rcases this with rfl | rfl
      · exact ⟨_, rfl, by decide +kernel, by decide +kernel, by decide +kernel⟩
      · exact ⟨_, rfl, by decide +kernel, by decide +kernel, by decide +kernel⟩
    rw [hz]
    walk_at "go"
    refine ⟨b, l, u, z, rfl, B3, by omega, by omega, zl, zn, z8, fun t f n us ms H4 ht hf hms ok n1 nu hml hlet B4 f4 nf fb fl => ?_⟩
    have f04 : Fx b H H4 := ((Fx.refl.nw nr3).trans f2).trans (f3.trans f4)
    refine w_gtup ht rfl ?_
    walk_at "go"
    refine ⟨b, l, 6, rfl, B4, by omega, by omega, fun d5 H5 d50 d51 B5 f5 => ?_⟩
    have f05 := f04.trans f5
    walk_at "go"
    refine w_if2 (fun _ => ?_) (fun _ => ?_)
    · walk_at "go"
      refine ⟨b, l, 9, rfl, B5, by omega, by omega, fun d6 H6 d60 d61 B6 f6 => ?_⟩
      obtain ⟨N, hN⟩ : ∃ N : Nat, (4 + d6 : Int) = (N : Int) := ⟨(4 + d6).toNat, by omega⟩
      walk_at "go"
      rw [hN]
      refine ⟨b, l, N, rfl, B6, by omega, by omega, fun d7 H7 d70 d71 B7 f7 => ?_⟩
      obtain ⟨M, hM⟩ : ∃ M : Nat, d7 = (M : Int) := ⟨d7.toNat, by omega⟩
      subst hM
      walk_at "go"
      refine w_kRng1 (by omega) (by omega) ?_
      rw [Int.toNat_natCast]
      refine w_lcR (fun r i H8 => ∃ us, Same H7 H8 ∧ H7 r = none ∧ H8 r = some (.lst us) ∧ MvsAt H8 us (rowMs i) ∧ us.length = i) (fun r H8 hr nr => ⟨[], nr.same, nr.nn, hr, .nil, rfl⟩) ?_ ?_
      · rintro r i H8 hi ⟨us, s8, nr, hr8, hm8, hul⟩
        walk_at "go"
        refine w_newT (by walk_at "sz") (fun t1 H9 ht1 nt1 => ?_)
        have hr9 := nt1.at hr8
        refine w_kIt hr9 (lineLt_of (by omega)) (fun H10 h10 o10 => ?_)
        have t10 : Tps H8 H10 := (Tps.of nt1.same).off hr9 o10
        refine ⟨_, (s8.nw nt1).off o10 nr, nr, h10, ?_, by rw [List.length_append, hul]; rfl⟩
        have : rowMs (i + 1) = rowMs i ++ [(99, ((i : Nat) : Int), ((i + 1 : Nat) : Int))] := by
          unfold rowMs
          rw [List.range_succ, List.map_append]
          rfl
        rw [this]
        refine Paired.snoc (hm8.tps t10) ⟨t1, rfl, ?_⟩
        have := (Tps.refl.off hr9 o10) _ _ ht1
        rw [this, Int.zero_add]
        rfl
      · rintro r H8 ⟨us, s8, nr, hr8, hm8, hul⟩
        walk_at "go"
        refine w_newT (by walk_at "sz") (fun t1 H9 ht1 nt1 => ?_)
        exact q t1 r (N : Int) us (rowMs M) H9 ht1 (nt1.at hr8) (hm8.tps (.of nt1.same)) (row_ok (by omega)) (by omega) (by omega) (by unfold rowMs; rw [List.length_map, List.length_range]; omega) (few_row (by omega) (by omega)) ((B7.same s8).nw nt1) ((((f05.trans f6).trans f7).same s8).nw nt1) (B7.ne nr) (B7.neL nr)
    · walk_at "go"
      refine w_if2 (fun _ => ?_) (fun _ => ?_)
      · walk_at "go"
        refine ⟨b, l, 11, rfl, B5, by omega, by omega, fun d6 H6 d60 d61 B6 f6 => ?_⟩
        obtain ⟨N, hN⟩ : ∃ N : Nat, (2 + d6 : Int) = (N : Int) := ⟨(2 + d6).toNat, by omega⟩
        walk_at "go"
        rw [hN]
        refine ⟨b, l, 12, rfl, B6, by omega, by omega, fun d7 H7 d70 d71 B7 f7 => ?_⟩
        walk_at "go"
        refine w_newT (by walk_at "sz") (fun t1 H8 ht1 nt1 => ?_)
        refine w_gtup ht1 rfl ?_
        walk_at "go"
        obtain ⟨R, hR, r1, rn⟩ : ∃ R : Nat, (if (N : Int) < 1 + d7 then (N : Int) else 1 + d7) = (R : Int) ∧ 1 ≤ R ∧ R ≤ N := by
          by_cases h : (N : Int) < 1 + d7
          · rw [if_pos h]
            exact ⟨N, rfl, by omega, Nat.le_refl _⟩
          · rw [if_neg h]
            exact ⟨(1 + d7).toNat, by omega, by omega, by omega⟩
        rw [hR]
        walk_at "go"
        refine w_kRng1 (by omega) (by omega) ?_
        rw [Int.toNat_natCast]
        refine w_lcR (fun r i H9 => Same H8 H9 ∧ H8 r = none ∧ H9 r = some (.lst ((List.range i).map fun (k : Nat) => V.int (ringF N R k : Int)))) (fun r H9 hr nr => ⟨nr.same, nr.nn, hr⟩) ?_ ?_
        · rintro r i H9 hi ⟨s9, nr, hr9⟩
          walk_at "go"
          refine w_i (by omega) ?_
          refine w_kIt hr9 (by rw [List.length_map, List.length_range]; exact lineLt_of (by omega)) (fun H10 h10 o10 => ⟨s9.off o10 nr, nr, ?_⟩)
          rw [h10, List.range_succ, List.map_append]
          refine congrArg (fun x => some (HO.lst (_ ++ [V.int x]))) ?_
          unfold ringF
          rw [if_pos hi, Int.zero_add]
          norm_cast
        · rintro ra H9 ⟨s9, nra, hra9⟩
          walk_at "go"
          refine w_kRng1 (by omega) (by omega) ?_
          rw [show ((N : Int) - (R : Int)).toNat = N - R by omega]
          refine w_lcR (fun r i H10 => Same H9 H10 ∧ H9 r = none ∧ H10 r = some (.lst ((List.range i).map fun (k : Nat) => V.int (ringF N R (R + k) : Int)))) (fun r H9 hr nr => ⟨nr.same, nr.nn, hr⟩) ?_ ?_
          · rintro r i H10 hi ⟨s10, nr, hr10⟩
            walk_at "go"
            refine w_i (by omega) ?_
            walk_at "go"
            refine w_kIt hr10 (by rw [List.length_map, List.length_range]; exact lineLt_of (by omega)) (fun H11 h11 o11 => ⟨s10.off o11 nr, nr, ?_⟩)
            rw [h11, List.range_succ, List.map_append]
            refine congrArg (fun x => some (HO.lst (_ ++ [V.int x]))) ?_
            unfold ringF
            rw [if_neg (by omega), Int.zero_add, show R + i - R = i by omega, show (N : Int) - (R : Int) = ((N - R : Nat) : Int) by omega]
            norm_cast
          · rintro rb H10 ⟨s10, nrb, hrb10⟩
            walk_at "go"
            refine w_cat (s10.at hra9) hrb10 (by rw [List.length_map, List.length_map, List.length_range, List.length_range]; exact line_of (by omega)) (fun rw' H11 hrw nrw => ?_)
            have hrw : H11 rw' = some (.lst ((List.range N).map fun (k : Nat) => V.int (ringF N R k : Int))) := by
              rw [hrw]
              refine congrArg (fun x => some (HO.lst x)) ?_
              rw [show List.range N = List.range (R + (N - R)) by rw [show R + (N - R) = N by omega], List.range_add, List.map_append, List.map_map]
              rfl
            walk_at "go"
            refine w_kRng1 (by omega) (by omega) ?_
            rw [Int.toNat_natCast]
            have s11 : Same H8 H11 := (s9.trans s10).nw nrw
            have B8 := B7.nw nt1
            have f8 : Fx b H H8 := ((f05.trans f6).trans f7).nw nt1
            have nrwH : H11 rw' ≠ none := by rw [hrw]; intro z; cases z
            refine w_lcR (fun r i H12 => ∃ us, Same H11 H12 ∧ H11 r = none ∧ H12 r = some (.lst us) ∧ MvsAt H12 us ((ringMs N R).take i) ∧ us.length = i) (fun r H8 hr nr => ⟨[], nr.same, nr.nn, hr, .nil, rfl⟩) ?_ ?_
            · rintro r i H12 hi ⟨us, s12, nr, hr12, hm12, hul⟩
              have hmv : (ringMs N R)[i]? = some (100, (i : Int), (ringF N R i : Int)) := by
                unfold ringMs
                rw [List.getElem?_map, List.getElem?_range hi]
                rfl
              walk_at "go"
              refine w_ixL (v := .int (ringF N R i : Int)) (s12.at hrw) ?_ ?_
              · rw [Int.zero_add]
                exact atI_nat (by rw [List.getElem?_map, List.getElem?_range hi]; rfl)
              walk_at "go"
              refine w_newT (by walk_at "sz") (fun t2 H13 ht2 nt2 => ?_)
              have hr13 := nt2.at hr12
              refine w_kIt hr13 (lineLt_of (by omega)) (fun H14 h14 o14 => ?_)
              have t14 : Tps H12 H14 := (Tps.of nt2.same).off hr13 o14
              refine ⟨_, (s12.nw nt2).off o14 nr, nr, h14, ?_, by rw [List.length_append, hul]; rfl⟩
              rw [take_snoc hmv]
              refine Paired.snoc (hm12.tps t14) ⟨t2, rfl, ?_⟩
              have := (Tps.refl.off hr13 o14) _ _ ht2
              rw [this, Int.zero_add]
              rfl
            · rintro r H12 ⟨us, s12, nr, hr12, hm12, hul⟩
              have hml : (ringMs N R).length = N := by unfold ringMs; rw [List.length_map, List.length_range]
              rw [List.take_of_length_le (by omega)] at hm12
              have s812 := s11.trans s12
              walk_at "go"
              refine w_newT (by walk_at "sz") (fun t3 H13 ht3 nt3 => ?_)
              have B11 := B8.same s11
              exact q t3 r (N : Int) us (ringMs N R) H13 ht3 (nt3.at hr12) (hm12.tps (.of nt3.same)) (ring_ok r1 rn) (by omega) (by omega) (by omega) (few_ring r1 rn (by omega)) ((B8.same s812).nw nt3) ((f8.same s812).nw nt3) (B11.ne nr) (B11.neL nr)
      · walk_at "go"
        refine w_newT (by walk_at "sz") (fun t3 H13 ht3 nt3 => ?_)
        have hf5 := f5.at fb hf
        exact q t3 f n us ms H13 ht3 (nt3.at hf5) ((hms.tps (.fx B4 f5)).tps (.of nt3.same)) ok (by omega) (by omega) hml (few_small (LM_rgN ok) (by omega) (by omega)) (B5.nw nt3) (f05.nw nt3) fb fl
end
end Sf
namespace Sf
open PySem PySem.Spec PyProof.Rows L2 TL
/-! ### several except clauses, each with a name, all the same -/
def dEnds (i : Nat) (D : Ends) : Ends := { nx := fun σ' H' => D.nx (σ'.set i none) H', rt := D.rt, bk := fun σ' H' => D.bk (σ'.set i none) H', ct := fun σ' H' => D.ct (σ'.set i none) H' }
def wManyA (K : PySem.W.Frag) (i : Nat) (Wout : WX) (D : Ends) : List (Value × (Addr → Value → Option Addr → TS)) → WX
  | [] => Wout
  | (c, ts) :: r => fun cls d σ H => ∃ b, PySem.W.exmOne K cls c = some b ∧ (b = true → ∀ a, H a = none → ts a cls d (dEnds i D) (σ.set i (some (.ref a))) H) ∧ (b = false → wManyA K i Wout D r cls d σ H)
inductive HdsA (X : Cx) (n : Str) : List ExceptHandler → List (Value × (Addr → Value → Option Addr → TS)) → Prop
  | nil : HdsA X n [] []
  | cons {x : Str} {c : Value} {ts : Addr → Value → Option Addr → TS} {b₀ : Stmt} {suite : List Stmt} {np pos' : Pos} {hds : List ExceptHandler} {l : List (Value × (Addr → Value → Option Addr → TS))} (hc : Names X x c)
      (hsu : ∀ (a : Addr) (oe : Obj) (cls : Value) (d : Option Addr) (pn : List (Addr × Obj)), Zc cls d oe → (∃ vs, oe.data = .fields vs) → PSs (X.suite a ((a, oe) :: pn)) (b₀ :: suite) (ts a cls d)) (r : HdsA X n hds l) :
      HdsA X n (.ExceptHandler (some (.Name x np)) (some n) (b₀ :: suite) pos' :: hds) ((c, ts) :: l)
section
variable {X : Cx} {body : List Stmt} {h₀ : ExceptHandler} {hds : List ExceptHandler} {l : List (Value × (Addr → Value → Option Addr → TS))} {pos : Pos} {tb : WX → TS} {Wout : WX} {i : Nat} {n : Str}
theorem ps_try_manyA (hs : X.stack = X.env :: X.outer) (hf : X.env.frame = some X.env.locals) (hN : X.N.Nodup) (hi : X.N[i]? = some n) (hln : X.env.kindOf n = some .local) (tk : Takes X Wout)
    (hb : ∀ (W : WX) (pn : List (Addr × Obj)) (xe : Value → Shared → Prop), Takes (X.tr pn xe) W → PassesOwn (model X.prog X.w) X.A X.env xe → PSs (X.tr pn xe) body (tb W))
    (hh : HdsA X n (h₀ :: hds) l) : PS X (.Try body (h₀ :: hds) [] [] pos) (fun D σ H => tb (wManyA X.K i Wout D l) D σ H) := by
  refine ⟨fun pins s σ H D I h => ?_⟩
  have ok := I.ok
  have hfr : X.A.frames = some (X.env :: X.outer) := by rw [ok.frames, hs]
  have hloc : Loc X.env.scope n := .inl hln
  refine wpAny_Try_except ?_
  refine wpAny_mono ((hb (wManyA X.K i Wout D l) (X.pn ++ pins) (fun e s₁ => wpAny (model X.prog X.w) X.A (noteFrame e X.env) (fun _ s₂ => wpAny (model X.prog X.w) X.A (setFlight e none) (fun _ s₃ =>
    wpAny (model X.prog X.w) X.A (handleBy e X.env (h₀ :: hds)) (SP X pins D) X.xe s₃) X.xe s₂) X.xe s₁) (fun u s' xx => ?_) PassesOwn.looking).run [] s σ H D (I.toTry _) h) (fun f s1 hsp => ?_) (fun e s1 he => he)
  · obtain ⟨a, B, sI, pins', σ', H', cls, d, rfl, J', nb, up, sky, na, os, ag, w⟩ := xx
    have J : Inv X pins σ' H' sI := J'.ofTry ok
    have sky' : Sky B (X.env :: X.outer) a (Zc cls d) X.env.locals s'.heap := by rw [← hs]; exact sky
    show wpAny (model X.prog X.w) X.A (noteFrame (.ref a) X.env) _ _ _
    refine Sky.land Zc.steady hfr hf sky' fun h3 fl3 up3 => ?_
    have J3 : Inv X pins σ' H' { s' with heap := h3 } := J.landed nb fl3.1 (up.trans up3) os ag
    obtain ⟨oe3, vs3, he3, hz3, hd3⟩ := fl3.there
    have notFr : ∀ {h : Heap} {o : Obj} {vs : Array Value}, h.FunFrames B (X.env :: X.outer) → h.get? a = some o → o.data = .fields vs → a ∉ frs (X.env :: X.outer) := fun {h o vs} ff e dd hm => by
      obtain ⟨_, o', e', hnf⟩ := ff.mem hm
      rw [e] at e'; cases e'
      exact hnf _ dd
    have nfr := notFr fl3.2.2.1 he3 hd3
    have nL : a ≠ X.env.locals := fun z => nfr (List.mem_filterMap.mpr ⟨X.env, List.mem_cons_self, by rw [hf, z]⟩)
    have nF : a ∉ X.fs := fun hm => by
      obtain ⟨e, he, q⟩ := List.mem_filterMap.mp hm
      exact nfr (List.mem_filterMap.mpr ⟨e, List.mem_cons_of_mem _ he, q⟩)
    have S3 := J3.suite he3 hd3 na nL nF
    have go : ∀ {hds' : List ExceptHandler} {l' : List (Value × (Addr → Value → Option Addr → TS))}, HdsA X n hds' l' → wManyA X.K i Wout D l' cls d σ' H' →
        wpAny (model X.prog X.w) X.A (handleBy (.ref a) X.env hds') (SP X pins D) X.xe { s' with heap := h3 } := by
      intro hds' l' hk
      induction hk with
      | nil =>
        intro w
        refine wpAny_handleBy_nil ?_
        obtain ⟨k1, k2, k3, oe, vs, T, oT, ts', he, hz, hd, h1, hr⟩ := id fl3
        unfold PySem.passOn
        refine wpAny_bind (wpAny_field he hd h1 ?_)
        rw [if_neg (show ¬ ((Value.ref T == Value.none) = true) from by simp)]
        have fin : wpAny (model X.prog X.w) X.A (setFlight (.ref a) X.env.frame) (fun _ s4 => wpAny (model X.prog X.w) X.A (throw (.ref a) : Sem Flow) (SP X pins D) X.xe s4) X.xe { s' with heap := h3 } := by
          rw [hf]
          refine HandSPX.setFlight_upZ fl3 fun h4 hh4 up4 => wpAny_throw (tk _ _ ?_)
          exact ⟨a, B, sI, pins, σ', H', cls, d, rfl, J, nb, (up.trans up3).trans up4, .inr (.inr (by rw [hs]; exact hh4)), na, os, ag, w⟩
        first
          | exact wpAny_bind (wpAny_pure (wpAny_bind fin))
          | exact wpAny_bind fin
      | @cons x c ts b₀ suite np pos' hds2 l2 hc hsu r ih =>
        intro w
        obtain ⟨b, hb1, hyes, hno⟩ := w
        refine wpAny_handleBy_cons (codeAny_handlers_test ?_) (by intro q; cases q)
        have LT : PySem.W.Looks (model X.prog X.w) h3 (typeOf (.ref a)) cls := fun A Q E s k q => wpAny_typeOf_ref (k _ _ he3) (by rw [hz3.1]; exact q)
        have LM := PySem.W.exm_one (M := model X.prog X.w) (J3.kIn) LT hb1
        have test : ∀ {Q : Value → Shared → Prop} {E : Value → Shared → Prop}, Q c { s' with heap := h3 } → wpAny (model X.prog X.w) (X.A.mark (some (.ref a))) (eval (.Name x np) X.env) Q E { s' with heap := h3 } := fun {Q E} q => by
          obtain ⟨hg, hdbg, hm | ⟨hm, hv, hnn⟩⟩ := hc
          · exact ld_glob (X := X.suite a ((a, oe3) :: (X.pn ++ pins))) S3 hg hm q hdbg
          · exact ld_blt (X := X.suite a ((a, oe3) :: (X.pn ++ pins))) S3 hg hm hv q hnn hdbg
        refine test (LM.here ?_)
        cases b with
        | true =>
          refine codeAny_handlers_suite_as ?_
          refine HandSPX.lands_againZ fl3 fun h4 fl4 up4 => ?_
          have J4 : Inv X pins σ' H' { s' with heap := h4 } := J.landed nb fl4.1 ((up.trans up3).trans up4) os ag
          obtain ⟨oe4, vs4, he4, hz4, hd4⟩ := fl4.there
          have S4 := J4.suite he4 hd4 na nL nF
          refine store_ok (X := X.suite a ((a, oe4) :: (X.pn ++ pins))) (v := .ref a) S4 hN hi hloc rfl (fun s5 S5 => ?_) (.inr hln)
          refine wpAny_mono ((hsu a oe4 cls d (X.pn ++ pins) hz4 ⟨_, hd4⟩).run [] s5 _ H' _ S5 (hyes rfl a na)) (fun f s6 hsp => ?_) (fun _ _ z => False.elim z)
          have end_ : ∀ {σ6 : L2.St} {H6 : Hp} {Q : Shared → Prop}, Inv (X.suite a ((a, oe4) :: (X.pn ++ pins))) [] σ6 H6 s6 → (∀ s7, Inv X pins (σ6.set i none) H6 s7 → Q s7) →
              wpAny (model X.prog X.w) X.A (do bindName X.env n .none; unbindBehindTheSuite X.env n pos') (fun _ s7 => Q s7) X.xe s6 := fun {σ6 H6 Q} S6 hq => gone_ok (S6.unsuite ok) hN hi hln hq
          cases f with
          | next =>
            obtain ⟨σ6, H6, S6, q6⟩ := hsp
            exact end_ S6 fun s7 J7 => ⟨_, _, J7, q6⟩
          | brk =>
            obtain ⟨σ6, H6, S6, q6⟩ := hsp
            exact end_ S6 fun s7 J7 => ⟨_, _, J7, q6⟩
          | cont =>
            obtain ⟨σ6, H6, S6, q6⟩ := hsp
            exact end_ S6 fun s7 J7 => ⟨_, _, J7, q6⟩
          | ret u =>
            obtain ⟨v6, σ6, H6, S6, r6, q6⟩ := hsp
            exact end_ S6 fun s7 J7 => ⟨_, _, _, J7, r6, q6⟩
        | false =>
          show wpAny _ X.A (handleBy (.ref a) X.env hds2) _ _ _
          exact ih (hno rfl)
    exact go hh w
  · cases f with
    | next =>
      obtain ⟨σ', H', J', q⟩ := hsp
      exact wpAny_execs_nil ⟨σ', H', J'.ofTry ok, q⟩
    | brk =>
      obtain ⟨σ', H', J', q⟩ := hsp
      exact ⟨σ', H', J'.ofTry ok, q⟩
    | cont =>
      obtain ⟨σ', H', J', q⟩ := hsp
      exact ⟨σ', H', J'.ofTry ok, q⟩
    | ret u =>
      obtain ⟨v, σ', H', J', r, q⟩ := hsp
      exact ⟨v, σ', H', J'.ofTry ok, r, q⟩
end
end Sf
namespace Sf
open PySem PySem.Spec PyProof.Rows L2 TL
/-! ### a def with keyword-only parameters, all of them given by name -/
theorem kbn_all {K : PySem.W.Frag} {x qual : Str} {params : Arguments} {body : List Stmt} {scope : Scope} {kws : List (Str × V)} {f : Addr} {fd : FuncData} {ps : List Str} (F : L2.FunD K x qual params body scope [] kws f fd) (n : Nat) (ks : List Str)
    (h : ∀ (kV doc pm : Value) (an : Option Addr) (cdv ct : Value) (us ws : List Value), us.length = n → ws.length = ks.length → bindArgs (PySem.W.fnOf x qual params body scope .none kV doc pm an cdv ct) ⟨us, ks.zip ws⟩ = pure (ps.zip (us ++ ws))) : KBn K fd ps n ks (fun us ws => us ++ ws) (fun vs zs => vs ++ zs) := by
  obtain ⟨oc, od, dV, kV, doc, pm, an, cdv, ct, osl, rfl, lk, hcd, hD, hK⟩ := F.ex
  rcases hD with ⟨_, rfl⟩ | ⟨e, _⟩
  · exact ⟨fun s us ws X l1 l2 => .of_eq (h kV doc pm an cdv ct us ws l1 l2), fun r1 r2 => r1.append r2⟩
  · exact absurd rfl e
section
variable {P : Program} {w : World} {K : PySem.W.Frag} {mg : Str → Option Value} {base : Heap} {C CH CW fH fW : Addr}
theorem w_callN {σ : L2.St} {H : Hp} {Q : VK} {n m : Nat} {sp : Sp} {gV : List V → List V → List V} {E : XK} {t tk : TA} (q : t σ H fun vs H1 => tk σ H1 fun zs H2 => vs.length = n ∧ zs.length = m ∧ sp (gV vs zs) H2 Q E) : tCallN n m sp gV E t tk σ H Q := q
/-! ### _law_told: the motions, or the refusal's word -/
def spTlo (C : Addr) : Sp := fun vs H Q _ => ∃ (p : Addr) (n most : Int) (L : Nat → List (Int × Int)), vs = [.ref p, .int most] ∧ WAt C H p n L ∧ LRg n L ∧ 0 ≤ n ∧ n ≤ 100000 ∧ 1 ≤ most ∧ most ≤ 1900 ∧
  (n ≤ 12 → ∀ (i : Nat) (r : Addr) (us : List V) (H' : Hp), (gM L n i).length ≤ i → (gM L n i).length ≤ most.toNat → H r = none → Same H H' → H' r = some (.lst us) → MsAt H' us (gM L n i) → Q (.ref r) H') ∧
  (n ≤ 12 → ∀ i, most.toNat < (gM L n i).length → ∀ (r : Addr) (H' : Hp), H r = none → Same H H' → H' r = some (.lst [.str (Str.ofString "heavy"), .int most]) → Q (.ref r) H') ∧
  (12 < n → ∀ (r : Addr) (H' : Hp), H r = none → Same H H' → H' r = some (.lst [.str (Str.ofString "wide")]) → Q (.ref r) H')
theorem sc_tlo : FnScope ["_law_world_here", "_law_upto", "e"] ["_law_world_here", "_law_upto"] (defScope s__law_told) := ⟨rfl, rfl, rfl, by decide +kernel, rfl, by decide +kernel, by decide +kernel⟩
theorem has_tlo {f_Ms : Addr} {fd_Ms : FuncData} (F : FnAt K mg "_law_told" s__law_told ["_law_world_here", "_law_upto"]) (g_Ms : mg "motions" = some (.ref f_Ms)) (k_Ms : PySem.W.keepIn K (.ref f_Ms) = true) (kb_Ms : KBn K fd_Ms ["world", "most"] 1 ["most"] (fun us ws => us ++ ws) (fun vs zs => vs ++ zs)) (G_Ms : FnOk P w K mg base (L2.CX P w) 5 f_Ms fd_Ms ["world", "most"] (spMs C CH CW))
    (T_Heavy : EC K mg "Heavy" CH fH) (nHeavy_many : PySem.W.findIn K (.ref CH) "many" = some none) (T_Wide : EC K mg "Wide" CW fW) (neWH : PySem.W.exmOne K (.ref CW) (.ref CH) = some false) : Has P w K mg base 6 "_law_told" ["_law_world_here", "_law_upto"] (spTlo C) := F.has fun F => by
  refine F.ok sc_tlo (fun vs H Q E h => ?_) (fun cdv A outer s H vs Q E hr h => ?_)
  · obtain ⟨p, n, most, L, rfl, _⟩ := h
    rfl
  · obtain ⟨p, n, most, L, rfl, hW, hL, n0, n1, m1, mk, q1, q2, q3⟩ := h
    refine ⟨_, pss_one (ps_try_manyA (i := 2) rfl rfl sc_tlo.nd rfl rfl takes0
      (fun W pn xe tk _ => pss_one (ps_ret (pe_callN G_Ms (hr.mono (by decide)) (by rfl) g_Ms k_Ms kb_Ms (passes_len 3 rfl tk) (pa_cons (pv 0) pa_nil) (pk_cons (pv 1) pk_nil))))
      (.cons ⟨rfl, by decide, .inl T_Heavy.gC⟩ (fun a oe cls d pn hz hf => pss_one (ps_ret (pe_lst (pa_cons (pe_xf (C := CH) T_Heavy.xf T_Heavy.nw hz hf (pv 2)) (pa_cons (pe_xf (C := CH) T_Heavy.xf nHeavy_many hz hf (pv 2)) pa_nil)))))
        (.cons ⟨rfl, by decide, .inl T_Wide.gC⟩ (fun a oe cls d pn hz hf => pss_one (ps_ret (pe_lst (pa_cons (pe_xf (C := CW) T_Wide.xf T_Wide.nw hz hf (pv 2)) pa_nil)))) .nil))), ?_⟩
    show tRet _ _ _ _
    walk_at "go"
    refine w_callN ?_
    walk_at "go"
    refine ⟨rfl, rfl, p, n, most, L, rfl, hW, hL, n0, n1, m1, mk, q1, fun n12 i hi d H' nd hd s' => ?_, fun n12 d H' nd hd s' => ?_⟩
    · intro σ hσ
      have hσ : σ.length = 3 := hσ
      match σ, hσ with
      | [s0, s1, s2], _ =>
        refine ⟨true, T_Heavy.te, fun _ a na => ?_, fun z => nomatch z⟩
        show tRet _ _ _ _
        walk_at "go"
        refine ⟨_, rfl, rfl, rfl, d, _, _, rfl, hd, rfl, ?_⟩
        walk_at "go"
        refine ⟨_, rfl, rfl, rfl, d, _, _, rfl, hd, rfl, ?_⟩
        walk_at "go"
        refine w_newL (by walk_at "sz") (fun r H2 hr2 nr => ?_)
        exact q2 n12 i hi r H2 (s'.free nr.nn) (s'.nw nr) hr2
    · intro σ hσ
      have hσ : σ.length = 3 := hσ
      match σ, hσ with
      | [s0, s1, s2], _ =>
        refine ⟨false, neWH, (fun z => nomatch z), fun _ => ⟨true, T_Wide.te, fun _ a na => ?_, fun z => nomatch z⟩⟩
        show tRet _ _ _ _
        walk_at "go"
        refine ⟨_, rfl, rfl, rfl, d, _, _, rfl, hd, rfl, ?_⟩
        walk_at "go"
        refine w_newL (by walk_at "sz") (fun r H2 hr2 nr => ?_)
        exact q3 n12 r H2 (s'.free nr.nn) (s'.nw nr) hr2
end
end Sf
namespace Sf
open PySem PySem.Spec PyProof.Rows L2 TL
theorem eqv_ref2 {H : Hp} {p q : Addr} {n : Nat} {xs ys : List V} (hp : H p = some (.lst xs)) (hq : H q = some (.lst ys)) (hl : xs.length = ys.length) (h1 : xs.length ≤ 100000) (h : ∀ (i : Nat) (x y : V), xs[i]? = some x → ys[i]? = some y → Eqv H n x y) : Eqv H (n + 1) (.ref p) (.ref q) := .inr ⟨p, q, xs, ys, rfl, rfl, .inl ⟨hp, hq⟩, hl, h1, h⟩
theorem eqv_two {H : Hp} {p q : Addr} {n : Nat} {a b c d : V} (hp : H p = some (.lst [a, b])) (hq : H q = some (.lst [c, d])) (h1 : Eqv H n a c) (h2 : Eqv H n b d) : Eqv H (n + 1) (.ref p) (.ref q) := eqv_ref2 hp hq rfl (by show 2 ≤ 100000; decide) fun i x y hx hy => by
  match i, hx, hy with
  | 0, hx, hy => cases hx; cases hy; exact h1
  | 1, hx, hy => cases hx; cases hy; exact h2
theorem eqv_three {H : Hp} {p q : Addr} {n : Nat} {a b c a' b' c' : V} (hp : H p = some (.lst [a, b, c])) (hq : H q = some (.lst [a', b', c'])) (h1 : Eqv H n a a') (h2 : Eqv H n b b') (h3 : Eqv H n c c') : Eqv H (n + 1) (.ref p) (.ref q) := eqv_ref2 hp hq rfl (by show 3 ≤ 100000; decide) fun i x y hx hy => by
  match i, hx, hy with
  | 0, hx, hy => cases hx; cases hy; exact h1
  | 1, hx, hy => cases hx; cases hy; exact h2
  | 2, hx, hy => cases hx; cases hy; exact h3
theorem eqv_single {H : Hp} {p q : Addr} {n : Nat} {a c : V} (hp : H p = some (.lst [a])) (hq : H q = some (.lst [c])) (h1 : Eqv H n a c) : Eqv H (n + 1) (.ref p) (.ref q) := eqv_ref2 hp hq rfl (by show 1 ≤ 100000; decide) fun i x y hx hy => by
  match i, hx, hy with
  | 0, hx, hy => cases hx; cases hy; exact h1
theorem vals_i {i : Int} {t : Tok} : Vals [V.int i] [Value.int i t] := .cons ⟨t, rfl⟩ .nil
end Sf
namespace Sf
open PySem PySem.Spec PyProof.Rows L2 TL
theorem eqv_ms {H : Hp} {p q : Addr} {us vs : List V} {fs : List (Fg Mot)} (hp : H p = some (.lst us)) (hq : H q = some (.lst vs)) (h1 : MsAt H us fs) (h2 : MsAt H vs fs) (hl : fs.length ≤ 100000) (hm : ∀ f ∈ fs, f.1.length ≤ 100000) {n : Nat} : Eqv H (n + 3) (.ref p) (.ref q) := by
  have l1 : us.length = fs.length := Paired.length h1
  have l2 : vs.length = fs.length := Paired.length h2
  refine eqv_ref2 hp hq (by omega) (by omega) fun i x y hx hy => ?_
  obtain ⟨f, hf, t, a, rfl, ht, ha⟩ := paired_get h1 hx
  obtain ⟨f', hf', t', a', rfl, ht', ha'⟩ := paired_get h2 hy
  cases hf.symm.trans hf'
  refine .inr ⟨t, t', _, _, rfl, rfl, .inr ⟨ht, ht'⟩, rfl, (by show 2 ≤ 100000; decide), fun j x y hx hy => ?_⟩
  match j, hx, hy with
  | 0, hx, hy => cases hx; cases hy; exact .flat rfl
  | 1, hx, hy =>
    cases hx; cases hy
    refine .inr ⟨a, a', _, _, rfl, rfl, .inr ⟨ha, ha'⟩, rfl, (by rw [List.length_map]; exact hm f (List.mem_of_getElem? hf)), fun j x y hx hy => ?_⟩
    rw [hx] at hy
    cases hy
    rw [List.getElem?_map, Option.map_eq_some_iff] at hx
    obtain ⟨o, _, rfl⟩ := hx
    cases o <;> exact .flat rfl
section
variable {P : Program} {w : World} {K : PySem.W.Frag} {mg : Str → Option Value} {base : Heap} {C CH CW : Addr} {dv : Tok}
def spLaw (K : PySem.W.Frag) : Sp := fun vs H Q _ => ∃ (a : Addr) (ns : List Int), vs = [.ref a] ∧ SqL K H a (ns.map V.int) ∧ ns.length ≤ 63 ∧ ∀ H', Q (.bl true) H'
theorem sc_law : FnScope ["_law_script", "_law_bag", "_law_turn", "_law_many", "_law_moves", "_law_world_here", "_law_due", "_law_step", "_law_found", "_law_upto", "_law_want", "_law_thirteen"] ["_law_script"] (defScope s_law) := ⟨rfl, rfl, rfl, by decide +kernel, rfl, by decide +kernel, by decide +kernel⟩
theorem ok_law {f f_Ms : Addr} {fd fd_Ms : FuncData} (F : Fun K "law" "law" s_law f fd) (B : Blt mg) (T_World : WC K mg C) (mk : PySem.W.makesIn K C = true) (kc : PySem.W.keepIn K (.ref C) = true) {t1 : Tok} (C_MOST_MOTIONS : mg "MOST_MOTIONS" = some (.int 1000 t1))
    (h_Be : HasBegin P w K mg base) (h_Pu : HasPull P w K mg base) (h_Na : HasNa P w K mg base) (h_Sa : HasSame P w K mg base 4) (h_LMs : Has P w K mg base 2 "_law_motions" ["_law_many", "_law_moves", "_law_upto"] spLms) (h_Tld : Has P w K mg base 6 "_law_told" ["_law_world_here", "_law_upto"] (spTlo C))
    (h_WI : HasM P w K mg base C 4 "__init__" ["self", "many", "moves"] (spWI C)) (g_Ms : mg "motions" = some (.ref f_Ms)) (k_Ms : PySem.W.keepIn K (.ref f_Ms) = true) (b_Ms : Binds K fd_Ms ["world", "most"] [.int 1000 dv]) (G_Ms : FnOk P w K mg base (L2.CX P w) 5 f_Ms fd_Ms ["world", "most"] (spMs C CH CW)) : FnOk P w K mg base CX0 10 f fd ["_law_script"] (spLaw K) := by
  obtain ⟨f_Be, fd_Be, g_Be, k_Be, b_Be, G_Be⟩ := h_Be
  obtain ⟨f_Pu, fd_Pu, g_Pu, k_Pu, b_Pu, G_Pu⟩ := h_Pu
  obtain ⟨f_Na, fd_Na, g_Na, k_Na, b_Na, G_Na⟩ := h_Na
  obtain ⟨f_Sa, fd_Sa, g_Sa, k_Sa, b_Sa, G_Sa⟩ := h_Sa
  obtain ⟨f_LMs, fd_LMs, g_LMs, k_LMs, b_LMs, G_LMs⟩ := h_LMs
  obtain ⟨f_Tld, fd_Tld, g_Tld, k_Tld, b_Tld, G_Tld⟩ := h_Tld
  obtain ⟨f_WI, fd_WI, m_WI, b_WI, G_WI⟩ := h_WI
  have M_WI : Mk K C f_WI := ⟨mk, m_WI.at_, m_WI.fn, kc⟩
  have g_World := T_World.mgC
  refine F.ok sc_law (fun vs H Q E h => ?_) (fun cdv A outer s H vs Q E hr h => ?_)
  · obtain ⟨a, ns, rfl, _⟩ := h
    rfl
  · obtain ⟨a, ns, rfl, hS, hlen, q⟩ := h
    refine ⟨_, (pss_cons (ps_set (i := 1) sc_law.nd rfl (.inl rfl) (pe_call G_Be (hr.mono (by decide)) (by rfl) g_Be k_Be b_Be .nil pass0 (pa_cons (pv 0) pa_nil))) (pss_cons (ps_for PassesOwn.never rfl (pi_range1 rfl B.range (pa_cons pe_int pa_nil)) (pg_name (i := 2) sc_law.nd rfl (.inl rfl)) (pss_cons (ps_asg (pe_call G_Na (hr.mono (by decide)) (by rfl) g_Na k_Na b_Na .nil pass0 (pa_cons (pv 1) pa_nil)) (pg_tup rfl (pgs_cons (pg_name (i := 3) sc_law.nd rfl (.inl rfl)) (pgs_cons (pg_name (i := 4) sc_law.nd rfl (.inl rfl)) pgs_nil)))) (pss_cons (ps_set (i := 5) sc_law.nd rfl (.inl rfl) (pe_make M_WI G_WI (hr.mono (by decide)) (by rfl) g_World b_WI .nil pass0 (pa_cons (pv 3) (pa_cons (pv 4) pa_nil)))) (pss_cons (ps_set (i := 6) sc_law.nd rfl (.inl rfl) (pe_call G_LMs (hr.mono (by decide)) (by rfl) g_LMs k_LMs b_LMs .nil pass0 (pa_cons (pv 3) (pa_cons (pv 4) (pa_cons pe_int pa_nil))))) (pss_cons (ps_for PassesOwn.never rfl (pi_range1 rfl B.range (pa_cons pe_int pa_nil)) (pg_name (i := 7) sc_law.nd rfl (.inl rfl)) (pss_cons (ps_set (i := 8) sc_law.nd rfl (.inl rfl) (pe_call G_Ms (hr.mono (by decide)) (by rfl) g_Ms k_Ms b_Ms vals_i (passes_call (E := E0) takes0 (fun _ _ _ _ h => h)) (pa_cons (pv 5) pa_nil))) (pss_cons (ps_if (pt_not (pt_val (pe_call G_Sa (hr.mono (by decide)) (by rfl) g_Sa k_Sa b_Sa .nil pass0 (pa_cons (pv 8) (pa_cons (pv 6) pa_nil))))) (pss_one (ps_ret pe_bl)) pss_nil) (pss_one (ps_expr (pe_bm0 PySem.F.plainAttrs_list PySem.F.slot_list_clear PySem.F.type_list_clear mt_clear (pv 8))))))) (pss_one (ps_for PassesOwn.never rfl (pi_list (pe_lst (pa_cons (pe_callB call_lenQ (by rfl) B.len PySem.boot_len (pa_cons (pv 6) pa_nil)) (pa_cons (pe_op op_sub (pe_callB call_lenQ (by rfl) B.len PySem.boot_len (pa_cons (pv 6) pa_nil)) pe_int) (pa_cons (pe_op op_add (pe_callB call_lenQ (by rfl) B.len PySem.boot_len (pa_cons (pv 6) pa_nil)) pe_int) (pa_cons pe_int pa_nil)))))) (pg_name (i := 9) sc_law.nd rfl (.inl rfl)) (pss_cons (ps_set (i := 10) sc_law.nd rfl (.inl rfl) (pe_ifExp (pt_cmpR op_le (pe_callB call_lenQ (by rfl) B.len PySem.boot_len (pa_cons (pv 6) pa_nil)) (pv 9) (nomark _)) (pv 6) (pe_lst (pa_cons pe_str (pa_cons (pv 9) pa_nil))))) (pss_one (ps_if (PW.pt (pw_and (pt_cmpR op_gt (pv 9) pe_int (nomark _)) (pw_and1 (pt_not (pt_val (pe_call G_Sa (hr.mono (by decide)) (by rfl) g_Sa k_Sa b_Sa .nil pass0 (pa_cons (pe_call G_Tld (hr.mono (by decide)) (by rfl) g_Tld k_Tld b_Tld .nil pass0 (pa_cons (pv 5) (pa_cons (pv 9) pa_nil))) (pa_cons (pv 10) pa_nil)))))))) (pss_one (ps_ret pe_bl)) pss_nil)))))))))) (pss_cons (ps_set (i := 11) sc_law.nd rfl (.inl rfl) (pe_make M_WI G_WI (hr.mono (by decide)) (by rfl) g_World b_WI .nil pass0 (pa_cons pe_int (pa_cons (pe_lst (pa_cons (pe_tup (pa_cons pe_str (pa_cons pe_int (pa_cons (pe_call G_Pu (hr.mono (by decide)) (by rfl) g_Pu k_Pu b_Pu .nil pass0 (pa_cons (pv 1) (pa_cons pe_int pa_nil))) pa_nil)))) pa_nil)) pa_nil)))) (pss_one (ps_ret (pe_call G_Sa (hr.mono (by decide)) (by rfl) g_Sa k_Sa b_Sa .nil pass0 (pa_cons (pe_lst (pa_cons (pe_call G_Tld (hr.mono (by decide)) (by rfl) g_Tld k_Tld b_Tld .nil pass0 (pa_cons (pv 11) (pa_cons pe_int pa_nil))) (pa_cons (pe_gI (by rfl) C_MOST_MOTIONS) (pa_cons (pe_ix ix_tup (pe_ix ix_list (pe_call G_Ms (hr.mono (by decide)) (by rfl) g_Ms k_Ms b_Ms vals_i (passes_call (E := E0) takes0 (fun _ _ _ _ h => h)) (pa_cons (pe_make M_WI G_WI (hr.mono (by decide)) (by rfl) g_World b_WI .nil pass0 (pa_cons pe_int (pa_cons (pe_lst pa_nil) pa_nil))) pa_nil)) pe_int (fun _ _ => rfl)) pe_int (fun _ _ => rfl)) pa_nil)))) (pa_cons (pe_lst (pa_cons (pe_lst (pa_cons pe_str pa_nil)) (pa_cons pe_int (pa_cons pe_str pa_nil)))) pa_nil)))))))), ?_⟩
    walk_at "go"
    refine ⟨a, ns, rfl, hS, fun b l H1 nb B1 s1 => ?_⟩
    walk_at "go"
    refine w_kRng1 (by decide) (by decide) ?_
    refine w_range (fun i σ H2 => ∃ (y2 y3 y4 y5 y6 y7 y8 y9 y10 y11 : Option V), σ = [some (.ref a), some (.ref b), y2, y3, y4, y5, y6, y7, y8, y9, y10, y11] ∧ Bag H2 b l) ⟨none, none, none, none, none, none, none, none, none, none, rfl, B1⟩ ?_ ?_
    · rintro i σ H2 hi ⟨y2, y3, y4, y5, y6, y7, y8, y9, y10, y11, rfl, B2⟩
      walk_at "go"
      refine ⟨b, l, rfl, B2, fun t f n us ms H3 ht hf hms ok n1 n12 hml few B3 f3 fb fl => ?_⟩
      refine w_gtup ht rfl ?_
      walk_at "go"
      refine w_world hf hms ok (by omega) n1 (by omega) (fun p H4 G4 hW4 sG4 hG4 s4 => ?_)
      have hW := hW4.same sG4
      have hLR := LM_rgN ok
      walk_at "go"
      refine ⟨n, f, us, ms, rfl, s4.at hf, hms.tps (.of s4), ok, hLR, by omega, fun m hm => ⟨(ok.rg m hm).1, (ok.rg m hm).2.1⟩, by omega, by omega, few, fun j r vs5 H5 hj nr s5 hr5 hm5 => ?_⟩
      have hfw := few j
      have hml5 : vs5.length = (gM (LM ms) n j).length := Paired.length hm5
      have hW5 := hW.same s5
      have B5 := (B3.same s4).same s5
      have fin : FinG (nxM (stp (LM ms))) (csL (LM ms)) (idM n.toNat) (gM (LM ms) n j) := ⟨j, rfl, hj⟩
      have hmo : ∀ f ∈ gM (LM ms) n j, f.1.length ≤ 100000 := fun f hf => by
        have : MotOk n.toNat f.1 := gbfs_all (idM_ok _) (fun k c hc hk => by
          have hcs : c ∈ sgs := (List.mem_filter.mp hc).1
          rw [← comp_nx hk]
          exact hk.comp (motM_ok fun x y e => by have := hLR c hcs _ (lk_mem e); exact ⟨this.2.2.1, this.2.2.2⟩)) j f hf
        have := this.1
        omega
      walk_at "go"
      refine w_kRng1 (by decide) (by decide) ?_
      refine w_range (fun i' σ H6 => ∃ (y6 y7 y8 y9 y10 y11 : Option V), σ = [some (.ref a), some (.ref b), some (.int (0 + (i : Int))), some (.int n), some (.ref f), some (.ref p), some (.ref r), y6, y7, y8, y9, y10] ∧ Same H5 H6) ⟨y7, y8, y9, y10, y11, none, rfl, .refl _⟩ ?_ ?_
      · rintro i' σ H6 hi' ⟨y6, y7, y8, y9, y10, y11, rfl, s6⟩
        walk_at "go"
        refine ⟨p, n, 1000, LM ms, rfl, hW5.same s6, hLR, by omega, by omega, by omega, by omega, fun _ j' r' us7 H7 hj' hjm nr' s7 hr7 hm7 => ?_, fun _ j' hj' => absurd hj' ?_, fun h => absurd h (by omega)⟩
        · have e7 := FinG.one ⟨j', rfl, hj'⟩ fin
          rw [show gM (LM ms) n j' = gM (LM ms) n j from e7] at hm7
          walk_at "go"
          refine ⟨_, _, rfl, eqv_ms hr7 ((s6.trans s7).at hr5) hm7 (hm5.tps (.of (s6.trans s7))) (by omega) hmo, fun H8 s8 => ?_⟩
          walk_at "go"
          refine w_clear (s8.at hr7) (fun H9 hr9 o9 => ?_)
          walk_at "go"
          exact ⟨_, _, _, _, _, y11, rfl, ((s6.trans s7).trans s8).off o9 (s6.free nr')⟩
        · have := few j'
          omega
      · rintro σ H6 ⟨y6, y7, y8, y9, y10, y11, rfl, s6⟩
        have hr6 := s6.at hr5
        walk_at "go"
        refine w_newL (by walk_at "sz") (fun lo H7 hlo nlo => ?_)
        rw [hml5] at hlo
        walk_at "go"
        generalize hN : (gM (LM ms) n j).length = N at hlo hfw hml5
        refine w_list (xs := [.int (N : Nat), .int ((N : Nat) - 1), .int ((N : Nat) + 1), .int 1]) (fun i' σ H8 => ∃ (z9 z10 : Option V), σ = [some (.ref a), some (.ref b), some (.int (0 + (i : Int))), some (.int n), some (.ref f), some (.ref p), some (.ref r), y6, y7, z9, z10, y10] ∧ Same H5 H8 ∧ H8 lo = some (.lst [.int (N : Nat), .int ((N : Nat) - 1), .int ((N : Nat) + 1), .int 1])) ⟨_, _, rfl, s6.nw nlo, hlo⟩ (fun i σ H19 _ ⟨_, _, _, _, h⟩ => h) ?_ ?_
        · rintro i' v σ H8 hv ⟨z9, z10, rfl, s8, hlo8⟩
          obtain ⟨u, rfl, u0, u1⟩ : ∃ u : Int, v = .int u ∧ -1 ≤ u ∧ u ≤ 1001 := by
            match i', hv with
            | 0, hv => cases hv; exact ⟨_, rfl, by omega, by omega⟩
            | 1, hv => cases hv; exact ⟨_, rfl, by omega, by omega⟩
            | 2, hv => cases hv; exact ⟨_, rfl, by omega, by omega⟩
            | 3, hv => cases hv; exact ⟨_, rfl, by omega, by omega⟩
          have hr8 := s8.at hr5
          have hm8 := hm5.tps (.of s8)
          walk_at "go"
          rw [hml5]
          have gle : ∀ i, (gM (LM ms) n i).length ≤ N := fun i => by
            by_cases h : i ≤ j
            · have := (gbfs_mono (nx := nxM (stp (LM ms))) (cs := csL (LM ms)) (k0 := idM n.toNat) h).length_le
              have : (gM (LM ms) n i).length ≤ (gM (LM ms) n j).length := this
              omega
            · have := gbfs_still (nx := nxM (stp (LM ms))) (cs := csL (LM ms)) (k0 := idM n.toNat) (i := j) hj (i - j)
              rw [show j + (i - j) = i by omega] at this
              have : gM (LM ms) n i = gM (LM ms) n j := this
              rw [this]
              omega
          refine w_ifE2 (fun hle => ?_) (fun hle => ?_)
          · walk_at "go"
            refine w_and2 (fun hu => ?_) (fun hu => ?_)
            · walk_at "go"
              refine ⟨p, n, u, LM ms, rfl, hW5.same s8, hLR, by omega, by omega, by omega, by omega, fun _ j' r' us9 H9 hj' hjm nr' s9 hr9 hm9 => ?_, fun _ j' hj' => absurd hj' ?_, fun h => absurd h (by omega)⟩
              · have e9 := FinG.one ⟨j', rfl, hj'⟩ fin
                rw [show gM (LM ms) n j' = gM (LM ms) n j from e9] at hm9
                walk_at "go"
                refine ⟨_, _, rfl, eqv_ms hr9 (s9.at hr8) hm9 (hm8.tps (.of s9)) (by omega) hmo, fun H10 s10 => ?_⟩
                walk_at "go"
                exact ⟨_, _, rfl, s8.trans (s9.trans s10), s10.at (s9.at hlo8)⟩
              · have := gle j'
                omega
            · walk_at "go"
              exact ⟨_, _, rfl, s8, hlo8⟩
          · walk_at "go"
            refine w_newL (by walk_at "sz") (fun lh H9 hlh nlh => ?_)
            walk_at "go"
            refine w_and2 (fun hu => ?_) (fun hu => ?_)
            · walk_at "go"
              refine ⟨p, n, u, LM ms, rfl, hW5.same (s8.nw nlh), hLR, by omega, by omega, by omega, by omega, fun _ j' r' us9 H9 hj' hjm nr' s9 hr9 hm9 => absurd hjm ?_, fun _ j' hj' r10 H10 nr10 s10 hr10 => ?_, fun h => absurd h (by omega)⟩
              · have e9 := FinG.one ⟨j', rfl, hj'⟩ fin
                rw [show gM (LM ms) n j' = gM (LM ms) n j from e9]
                omega
              · walk_at "go"
                refine ⟨_, _, rfl, eqv_two hr10 (s10.at hlh) (.flat rfl) (.flat rfl), fun H11 s11 => ?_⟩
                walk_at "go"
                exact ⟨_, _, rfl, (s8.nw nlh).trans (s10.trans s11), s11.at (s10.at (nlh.at hlo8))⟩
            · walk_at "go"
              exact ⟨_, _, rfl, s8.nw nlh, nlh.at hlo8⟩
        · rintro σ H8 ⟨z9, z10, rfl, s8, hlo8⟩
          walk_at "go"
          exact ⟨_, _, _, _, _, _, _, _, _, _, rfl, B5.same s8⟩
    · rintro σ H2 ⟨y2, y3, y4, y5, y6, y7, y8, y9, y10, y11, rfl, B2⟩
      walk_at "go"
      refine ⟨b, l, 13, rfl, B2, by decide, by decide, fun d H3 d0 d1 B3 f3 => ?_⟩
      walk_at "go"
      refine w_newT (by walk_at "sz") (fun t4 H4 ht4 nt4 => ?_)
      walk_at "go"
      refine w_newL (by walk_at "sz") (fun l5 H5 hl5 nl5 => ?_)
      walk_at "go"
      have ok : WOk 13 [(97, (0 : Int), d)] := ⟨fun m hm => by rw [List.mem_singleton.mp hm]; refine ⟨?_, ?_, ?_, ?_, ?_, ?_⟩ <;> dsimp only <;> omega, List.pairwise_singleton _ _⟩
      refine w_world (n := 13) (ms := [(97, (0 : Int), d)]) hl5 (.cons ⟨t4, rfl, nl5.at ht4⟩ .nil) ok (by show 1 ≤ 100000; omega) (by omega) (by omega) (fun p H6 G6 hW6 sG6 hG6 s6 => ?_)
      have hW := hW6.same sG6
      walk_at "go"
      refine ⟨p, 13, 5, _, rfl, hW, LM_rgN ok, by omega, by omega, by omega, by omega, fun h => absurd h (by omega), fun h => absurd h (by omega), fun _ r7 H7 nr7 s7 hr7 => ?_⟩
      walk_at "go"
      refine w_newL (by walk_at "sz") (fun l8 H8 hl8 nl8 => ?_)
      walk_at "go"
      have ok0 : WOk 12 [] := ⟨fun m hm => (by cases hm), .nil⟩
      refine w_world (n := 12) (ms := []) hl8 .nil ok0 (by show 0 ≤ 100000; omega) (by omega) (by omega) (fun p9 H9 G9 hW9 sG9 hG9 s9 => ?_)
      have cs0 : csL (LM []) = [] := by decide +kernel
      have g0 : ∀ i, gM (LM []) 12 i = [(idM 12, Str.ofString "")] := fun i => by
        unfold gM
        rw [cs0, gbfs_nil]
        rfl
      walk_at "go"
      refine ⟨p9, 12, 1000, _, rfl, hW9.same sG9, LM_rgN ok0, by omega, by omega, by omega, by omega, fun _ j' r10 us10 H10 hj' hjm nr10 s10 hr10 hm10 => ?_, fun _ j' hj' => absurd hj' ?_, fun h => absurd h (by omega)⟩
      · rw [g0] at hm10
        cases hm10 with
        | cons hx hrest =>
          cases hrest
          obtain ⟨t11, a11, rfl, ht11, ha11⟩ := hx
          walk_at "go"
          have hr10' := s10.at (s9.at (nl8.at hr7))
          refine w_newL (by walk_at "sz") (fun l12 H12 hl12 nl12 => ?_)
          walk_at "go"
          refine w_newL (by walk_at "sz") (fun l13 H13 hl13 nl13 => ?_)
          walk_at "go"
          refine w_newL (by walk_at "sz") (fun l14 H14 hl14 nl14 => ?_)
          walk_at "go"
          refine ⟨_, _, rfl, eqv_three (nl14.at (nl13.at hl12)) hl14 (eqv_single (nl14.at (nl13.at (nl12.at hr10'))) (nl14.at hl13) (.flat rfl)) (.flat rfl) (.flat rfl), fun H15 s15 => ?_⟩
          exact q _
      · rw [g0]
        show ¬ (1000 < 1)
        omega
end
end Sf
namespace Sf
open PySem PySem.Spec PyProof.Rows L2 TL
/-! ### a def of one parameter and a keyword-only one, which is a number by default -/
def KwAt (K : PySem.W.Frag) (mg : Str → Option Value) (x : Str) (st : Stmt) (p kw : Str) (i : Int) : Prop :=
  ∃ (f : Addr) (fd : FuncData) (t : Tok), mg x = some (.ref f) ∧ PySem.W.keepIn K (.ref f) = true ∧ L2.FunD K x x (defArgs st) (defBody st) (defScope st) [] [(kw, V.int i)] f fd ∧ Binds K fd [p, kw] [.int i t] ∧ KBn K fd [p, kw] 1 [kw] (fun us ws => us ++ ws) (fun vs zs => vs ++ zs)
theorem kwAt_mk {K : PySem.W.Frag} {h : Heap} {mg : Str → Option Value} {x : Str} {st : Stmt} {p kw : Str} {i : Int} {t : Tok} {f D : Addr} {oc : Value} {od an : Option Addr} {osl : Array (Option Value)} {doc pm cdv ct : Value} (X : K.In h) (G : h.Ns mainGlobals mg)
    (a : PySem.W.nsIn K mainGlobals x = some (some (.ref f))) (l : K.lookup f = some ⟨oc, od, .func (PySem.W.fnOf x x (defArgs st) (defBody st) (defScope st) .none (.ref D) doc pm an cdv ct), osl⟩) (c : PySem.W.codeIn K cdv x = true) (k : PySem.W.keepIn K (.ref f) = true) (d : PySem.W.nsIn K D kw = some (some (.int i t)))
    (b1 : ∀ (D : Addr) (doc pm : Value) (an : Option Addr) (cdv ct : Value) (us ks : List Value), us.length = 1 → ks.length = 1 → KwChain D (([kw] : List Str).zip ks) (bindArgs (PySem.W.fnOf x x (defArgs st) (defBody st) (defScope st) .none (.ref D) doc pm an cdv ct) ⟨us, []⟩) (([p, kw] : List Str).zip (us ++ ks)))
    (b2 : ∀ (kV doc pm : Value) (an : Option Addr) (cdv ct : Value) (us ws : List Value), us.length = 1 → ws.length = 1 → bindArgs (PySem.W.fnOf x x (defArgs st) (defBody st) (defScope st) .none kV doc pm an cdv ct) ⟨us, ([kw] : List Str).zip ws⟩ = pure (([p, kw] : List Str).zip (us ++ ws))) : KwAt K mg x st p kw i := by
  have F : L2.FunD K x x (defArgs st) (defBody st) (defScope st) [] [(kw, V.int i)] f (PySem.W.fnOf x x (defArgs st) (defBody st) (defScope st) .none (.ref D) doc pm an cdv ct) := ⟨⟨oc, od, .none, .ref D, doc, pm, an, cdv, ct, osl, rfl, l, c, .inl ⟨rfl, rfl⟩, .inr ⟨D, rfl, fun q hq => by
    rw [List.mem_singleton.mp hq]
    exact ⟨_, d, ⟨t, rfl⟩⟩⟩⟩, k⟩
  obtain ⟨ds, v, b⟩ := L2.FunD.binds0 (ps := [p, kw]) F 1 (by simp) rfl b1
  cases v with
  | cons r v =>
    cases v
    obtain ⟨t', rfl⟩ := r
    exact ⟨f, _, t', PySem.W.mg_of X G a, k, F, b, kbn_all F 1 [kw] b2⟩
theorem exm_sub {K : PySem.W.Frag} {D C : Addr} {b : Bool} (h0 : PySem.W.subIn K (.ref C) (.type "BaseException") = some true) (h1 : PySem.W.isClsIn K C = true) (h2 : PySem.W.typeIn K (.ref C) = some (.type "type")) (h3 : PySem.W.subIn K (.ref D) (.ref C) = some b) : PySem.W.exmOne K (.ref D) (.ref C) = some b := by
  unfold PySem.W.exmOne
  rw [if_pos (by rw [h0]; rfl)]
  unfold PySem.W.isClsIn at h1
  unfold PySem.W.kitCls
  dsimp only
  rw [h1, h2, if_pos (by simp), h3]
end Sf
namespace Sf
open PySem PySem.Spec PyProof.Rows L2 TL
theorem all_mk {P : Program} {w : World} {K : PySem.W.Frag} {h : Heap} {mg : Str → Option Value} {fa f : Addr} (X : K.In h) (G : h.Ns mainGlobals mg) (hfa : mg "law" = some (.ref fa))
    {od an : Option Addr} {sl : Array (Option Value)} {oc kV dc pm cd ct : Value}
    (aL : PySem.W.nsIn K mainGlobals "law" = some (some (.ref f))) (lL : K.lookup f = some ⟨oc, od, .func (PySem.W.fnOf "law" "law" (defArgs s_law) (defBody s_law) (defScope s_law) .none kV dc pm an cd ct), sl⟩) (cL : PySem.W.codeIn K cd "law" = true) (kL : PySem.W.keepIn K (.ref f) = true)
    (F_law_pull : FnAt K mg "_law_pull" s__law_pull ["_law_bag", "_law_many"])
    (F_law_begin : FnAt K mg "_law_begin" s__law_begin ["_law_script"])
    (Fis_word : FnAt K mg "is_word" s_is_word ["text"])
    (Fneed_word : FnAt K mg "need_word" s_need_word ["text"])
    (Fis_upto : FnAt K mg "is_upto" s_is_upto ["thing", "most"])
    (Fis_move : FnAt K mg "is_move" s_is_move ["move", "many"])
    (Fleads_by : FnAt K mg "leads_by" s_leads_by ["many", "moves"])
    (Fbehind : FnAt K mg "behind" s_behind ["motion", "step"])
    (Fneed_narrow : FnAt K mg "need_narrow" s_need_narrow ["world"])
    (Fmade_in : FnAt K mg "made_in" s_made_in ["world", "most"])
    (F_law_world : FnAt K mg "_law_world" s__law_world ["_law_bag", "_law_upto", "_law_letters"])
    (F_law_narrow : FnAt K mg "_law_narrow" s__law_narrow ["_law_bag"])
    (F_law_led : FnAt K mg "_law_led" s__law_led ["_law_moves", "_law_word", "_law_place"])
    (F_law_motions : FnAt K mg "_law_motions" s__law_motions ["_law_many", "_law_moves", "_law_upto"])
    (F_law_same : FnAt K mg "_law_same" s__law_same ["_law_found", "_law_due"])
    (F_law_told : FnAt K mg "_law_told" s__law_told ["_law_world_here", "_law_upto"])
    (B : Blt mg) {t_MOST_WORD : Tok} (C_MOST_WORD : mg "MOST_WORD" = some (.int 60 t_MOST_WORD)) {t_SIGNS : Tok} (C_SIGNS : mg "SIGNS" = some (.str (Str.ofString "aAbBcCdDeEfFgGhH") t_SIGNS)) {t_LETTERS : Tok} (C_LETTERS : mg "LETTERS" = some (.str (Str.ofString "abcdefgh") t_LETTERS)) {t_MOST_PLACES : Tok} (C_MOST_PLACES : mg "MOST_PLACES" = some (.int 1000 t_MOST_PLACES)) {t_MOST_WIDE : Tok} (C_MOST_WIDE : mg "MOST_WIDE" = some (.int 12 t_MOST_WIDE)) {t_MOST_MOTIONS : Tok} (C_MOST_MOTIONS : mg "MOST_MOTIONS" = some (.int 1000 t_MOST_MOTIONS)) {CWorld : Addr} (TWorld : WC K mg CWorld) (mkWorld : PySem.W.makesIn K CWorld = true) (kcWorld : PySem.W.keepIn K (.ref CWorld) = true)
    (MWorld___init__ : MAt K CWorld "__init__" "World.__init__" s_World___init__ ["self", "many", "moves"])
    (MWorld_led : MAt K CWorld "led" "World.led" s_World_led ["self", "word", "place"])
    (MWorld_motion : MAt K CWorld "motion" "World.motion" s_World_motion ["self", "word"])
    (MWorld___len__ : MAt K CWorld "__len__" "World.__len__" s_World___len__ ["self"])
    (MWorld_letters : MAt K CWorld "letters" "World.letters" s_World_letters ["self"])
    {CS fS : Addr} (S_ : SE K mg CS fS) (FS_ : FbD K "__init__" "SpoorError.__init__" s_SpoorError___init__ fS ["self", "word", "message"])
    {CWide fWide : Addr} (EWide : EC K mg "Wide" CWide fWide) (IWide : Fb K "__init__" "Wide.__init__" s_Wide___init__ fWide ["self"])
    {CHeavy fHeavy : Addr} (EHeavy : EC K mg "Heavy" CHeavy fHeavy) (IHeavy : Fb K "__init__" "Heavy.__init__" s_Heavy___init__ fHeavy ["self", "many"])
    (nHeavy_many : PySem.W.findIn K (.ref CHeavy) "many" = some none)
    (KMotions : KwAt K mg "motions" s_motions "world" "most" 1000)
    (neWH : PySem.W.exmOne K (.ref CWide) (.ref CHeavy) = some false) :
    ∃ fd : FuncData, (∀ (s : Shared) (v : Value), BindsTo s fd ⟨[v], []⟩ [("_law_script", v)]) ∧ ∀ base : Heap, K.In base → base.Ns mainGlobals mg → FnOk P w K mg base CX0 10 fa fd ["_law_script"] (spLaw K) := by
  have e := hfa.symm.trans (PySem.W.mg_of X G aL)
  cases e
  have FL := fun_mk (st := s_law) lL cL kL
  refine ⟨PySem.W.fnOf "law" "law" (defArgs s_law) (defBody s_law) (defScope s_law) .none kV dc pm an cd ct, fun s v => .of_eq rfl, fun base _ _ => ?_⟩
  obtain ⟨fdS, FS, bS⟩ := FS_
  obtain ⟨fdW, FW, bW⟩ := IWide
  have G_W := ok_wde (P := P) (w := w) (base := base) FW S_ FS bS
  obtain ⟨fdH, FH, bH⟩ := IHeavy
  have G_H := ok_hvy (P := P) (w := w) (base := base) FH S_ FS bS
  have h_Pu := has_pull (P := P) (w := w) (base := base) F_law_pull B
  have h_Be := has_begin (P := P) (w := w) (base := base) F_law_begin B
  have h_Iw := has_isword (P := P) (w := w) (base := base) Fis_word B C_MOST_WORD C_SIGNS
  have h_Ne := has_need (P := P) (w := w) (base := base) Fneed_word h_Iw
  have h_Up := has_up (P := P) (w := w) (base := base) Fis_upto B
  have h_Im := has_im (P := P) (w := w) (base := base) Fis_move B h_Up C_LETTERS
  have h_Lb := has_lb (P := P) (w := w) (base := base) Fleads_by B h_Im C_SIGNS
  have h_WI := has_wi (P := P) (w := w) (base := base) MWorld___init__ B TWorld h_Up h_Lb C_MOST_PLACES
  have h_Led := has_led (P := P) (w := w) (base := base) MWorld_led TWorld
  have h_WLen := has_wlen (P := P) (w := w) (base := base) MWorld___len__ B TWorld
  have h_Nn := has_nn (P := P) (w := w) (base := base) Fneed_narrow B C_MOST_WIDE TWorld h_WLen EWide G_W bW
  have h_Lt := has_let (P := P) (w := w) (base := base) MWorld_letters B TWorld C_LETTERS
  have h_Mo := has_mo (P := P) (w := w) (base := base) MWorld_motion B TWorld h_Ne h_Led
  have h_Bh := has_bh (P := P) (w := w) (base := base) Fbehind B
  have h_Mi := has_mi (P := P) (w := w) (base := base) Fmade_in B TWorld C_SIGNS h_Bh h_Mo h_Lt EHeavy nHeavy_many G_H bH
  have h_Lw := has_lw (P := P) (w := w) (base := base) F_law_world B h_Pu
  have h_Lld := has_lld (P := P) (w := w) (base := base) F_law_led
  have h_LMs := has_lms (P := P) (w := w) (base := base) F_law_motions B h_Lld
  have h_Na := has_na (P := P) (w := w) (base := base) F_law_narrow B h_Pu h_Lw
  have h_Sa := has_same (P := P) (w := w) (base := base) F_law_same B
  obtain ⟨f_Ms, fd_Ms, t_Ms, g_Ms, k_Ms, F_Ms, b_Ms, kb_Ms⟩ := KMotions
  have G_Ms := ok_ms F_Ms h_Nn h_Mi
  have h_Tld := has_tlo (P := P) (w := w) (base := base) F_law_told g_Ms k_Ms kb_Ms G_Ms EHeavy nHeavy_many EWide neWH
  exact ok_law FL B TWorld mkWorld kcWorld C_MOST_MOTIONS h_Be h_Pu h_Na (h_Sa 4) h_LMs h_Tld h_WI g_Ms k_Ms b_Ms G_Ms
end Sf
open PySem PySem.W PyProof.Rows
set_option maxRecDepth 100000 in
set_option maxHeartbeats 0 in
theorem PySem.Challenge.cw_spoorfold_k44_motions_with_least_words_holds : PySem.Challenge.rw_spoorfold_k44_motions_with_least_words.Holds := by
  w_on; o_law; k_head; (case hw => w_witness2)
  k_fill
  refine L2.walk_of (l := PySem.Challenge.rw_spoorfold_k44_motions_with_least_words) (n := 63) (k := 10) (x := "_law_script") (CX := fun _ => L2.CX0) (sp := fun w => Sf.spLaw _) rfl (by decide) rfl ⟨rfl, by decide, by decide⟩ (fun w h Y => PySem.W.kIn_of Y) ?F (fun _ _ a ns hl _ hS => ⟨a, ns, rfl, hS, hl, fun _ => rfl⟩) (fun _ _ _ _ _ h => h)
  case F =>
    intro w mg fa h KX G hmg
    refine' Sf.all_mk KX G hmg ?aL ?lL ?cL ?kL (Sf.fnAt_mk KX G ?a0 ?l0 ?c0 ?k0 (fun _ _ _ _ _ _ us hl => match us, hl with | [_, _], _ => rfl)) (Sf.fnAt_mk KX G ?a1 ?l1 ?c1 ?k1 (fun _ _ _ _ _ _ us hl => match us, hl with | [_], _ => rfl)) (Sf.fnAt_mk KX G ?a2 ?l2 ?c2 ?k2 (fun _ _ _ _ _ _ us hl => match us, hl with | [_], _ => rfl)) (Sf.fnAt_mk KX G ?a3 ?l3 ?c3 ?k3 (fun _ _ _ _ _ _ us hl => match us, hl with | [_], _ => rfl)) (Sf.fnAt_mk KX G ?a4 ?l4 ?c4 ?k4 (fun _ _ _ _ _ _ us hl => match us, hl with | [_, _], _ => rfl)) (Sf.fnAt_mk KX G ?a5 ?l5 ?c5 ?k5 (fun _ _ _ _ _ _ us hl => match us, hl with | [_, _], _ => rfl)) (Sf.fnAt_mk KX G ?a6 ?l6 ?c6 ?k6 (fun _ _ _ _ _ _ us hl => match us, hl with | [_, _], _ => rfl)) (Sf.fnAt_mk KX G ?a7 ?l7 ?c7 ?k7 (fun _ _ _ _ _ _ us hl => match us, hl with | [_, _], _ => rfl)) (Sf.fnAt_mk KX G ?a8 ?l8 ?c8 ?k8 (fun _ _ _ _ _ _ us hl => match us, hl with | [_], _ => rfl)) (Sf.fnAt_mk KX G ?a9 ?l9 ?c9 ?k9 (fun _ _ _ _ _ _ us hl => match us, hl with | [_, _], _ => rfl)) (Sf.fnAt_mk KX G ?a10 ?l10 ?c10 ?k10 (fun _ _ _ _ _ _ us hl => match us, hl with | [_, _, _], _ => rfl)) (Sf.fnAt_mk KX G ?a11 ?l11 ?c11 ?k11 (fun _ _ _ _ _ _ us hl => match us, hl with | [_], _ => rfl)) (Sf.fnAt_mk KX G ?a12 ?l12 ?c12 ?k12 (fun _ _ _ _ _ _ us hl => match us, hl with | [_, _, _], _ => rfl)) (Sf.fnAt_mk KX G ?a13 ?l13 ?c13 ?k13 (fun _ _ _ _ _ _ us hl => match us, hl with | [_, _, _], _ => rfl)) (Sf.fnAt_mk KX G ?a14 ?l14 ?c14 ?k14 (fun _ _ _ _ _ _ us hl => match us, hl with | [_, _], _ => rfl)) (Sf.fnAt_mk KX G ?a15 ?l15 ?c15 ?k15 (fun _ _ _ _ _ _ us hl => match us, hl with | [_, _], _ => rfl)) ⟨PySem.W.mg_none_of KX G ?z0, PySem.W.mg_none_of KX G ?z1, PySem.W.mg_none_of KX G ?z2, PySem.W.mg_none_of KX G ?z3, PySem.W.mg_none_of KX G ?z4, PySem.W.mg_none_of KX G ?z5, PySem.W.mg_none_of KX G ?z6, PySem.W.mg_none_of KX G ?z7, PySem.W.mg_none_of KX G ?z8, PySem.W.mg_none_of KX G ?z9, PySem.W.mg_none_of KX G ?z10, PySem.W.mg_none_of KX G ?z11⟩ (PySem.W.mg_of KX G ?d0) (PySem.W.mg_of KX G ?d1) (PySem.W.mg_of KX G ?d2) (PySem.W.mg_of KX G ?d3) (PySem.W.mg_of KX G ?d4) (PySem.W.mg_of KX G ?d5) (Sf.WC.mk ⟨?wWorldpg, ?wWorldhd, ?wWorldpo, ?wWorldsa⟩ ?wWorldf0 ?wWorldf1 (PySem.W.mg_of KX G ?wWorldaC) ?wWorldha ?wWorldhn ?wWorldhtk ?wWorldhm ?wWorldne) ?wWorldmk ?wWorldkc (Sf.mAt_mk ?wWorlda0 ?wWorldi0 ?wWorldl0 ?wWorldc0 ?wWorldk0 (fun _ _ _ _ _ _ us hl => match us, hl with | [_, _, _], _ => rfl)) (Sf.mAt_mk ?wWorlda1 ?wWorldi1 ?wWorldl1 ?wWorldc1 ?wWorldk1 (fun _ _ _ _ _ _ us hl => match us, hl with | [_, _, _], _ => rfl)) (Sf.mAt_mk ?wWorlda2 ?wWorldi2 ?wWorldl2 ?wWorldc2 ?wWorldk2 (fun _ _ _ _ _ _ us hl => match us, hl with | [_, _], _ => rfl)) (Sf.mAt_mk ?wWorlda3 ?wWorldi3 ?wWorldl3 ?wWorldc3 ?wWorldk3 (fun _ _ _ _ _ _ us hl => match us, hl with | [_], _ => rfl)) (Sf.mAt_mk ?wWorlda4 ?wWorldi4 ?wWorldl4 ?wWorldc4 ?wWorldk4 (fun _ _ _ _ _ _ us hl => match us, hl with | [_], _ => rfl)) (Sf.SE.mk (PySem.W.mg_of KX G ?seC) ?serd ?sega ?seat ?sevV (PySem.W.mg_none_of KX G ?semV)) (Sf.fbD_mk ?sel ?sec ?sek (Sf.se_binds ?seo ?seo2)) (Sf.EC.mk (Sf.oex_mk ?xWidelk ?xWiderv ?xWidesa ?xWideex ?xWidety ?xWidekC) ?xWideiC ?xWidetI (PySem.W.mg_of KX G ?xWidegC) ⟨?xWidega, ?xWidegg, ?xWideex2, ?xWidehd⟩ ?xWidenw (Sf.exm_self ?xWideex3 ?xWidecl ?xWidety2 ?xWidesub)) (Sf.fb_mk ?xWideil ?xWideic ?xWideik (fun _ _ _ _ _ _ us hl => match us, hl with | [_], _ => rfl)) (Sf.EC.mk (Sf.oex_mk ?xHeavylk ?xHeavyrv ?xHeavysa ?xHeavyex ?xHeavyty ?xHeavykC) ?xHeavyiC ?xHeavytI (PySem.W.mg_of KX G ?xHeavygC) ⟨?xHeavyga, ?xHeavygg, ?xHeavyex2, ?xHeavyhd⟩ ?xHeavynw (Sf.exm_self ?xHeavyex3 ?xHeavycl ?xHeavyty2 ?xHeavysub)) (Sf.fb_mk ?xHeavyil ?xHeavyic ?xHeavyik (fun _ _ _ _ _ _ us hl => match us, hl with | [_, _], _ => rfl)) ?fHeavymany (Sf.kwAt_mk KX G ?kma ?kml ?kmc ?kmk ?kmd (fun _ _ _ _ _ _ us ks h1 h2 => match us, ks, h1, h2 with | [_], [_], _, _ => ⟨_, _, _, _, _, _, rfl, rfl, rfl⟩) (fun _ _ _ _ _ _ us ws h1 h2 => match us, ws, h1, h2 with | [_], [_], _, _ => rfl)) (Sf.exm_sub ?nw0 ?nw1 ?nw2 ?nw3)
    (case aL => k_is)
    (case lL => k_is)
    (case cL => k_is)
    (case kL => k_is)
    (case a0 => k_is)
    (case l0 => k_is)
    (case c0 => k_is)
    (case k0 => k_is)
    (case a1 => k_is)
    (case l1 => k_is)
    (case c1 => k_is)
    (case k1 => k_is)
    (case a2 => k_is)
    (case l2 => k_is)
    (case c2 => k_is)
    (case k2 => k_is)
    (case a3 => k_is)
    (case l3 => k_is)
    (case c3 => k_is)
    (case k3 => k_is)
    (case a4 => k_is)
    (case l4 => k_is)
    (case c4 => k_is)
    (case k4 => k_is)
    (case a5 => k_is)
    (case l5 => k_is)
    (case c5 => k_is)
    (case k5 => k_is)
    (case a6 => k_is)
    (case l6 => k_is)
    (case c6 => k_is)
    (case k6 => k_is)
    (case a7 => k_is)
    (case l7 => k_is)
    (case c7 => k_is)
    (case k7 => k_is)
    (case a8 => k_is)
    (case l8 => k_is)
    (case c8 => k_is)
    (case k8 => k_is)
    (case a9 => k_is)
    (case l9 => k_is)
    (case c9 => k_is)
    (case k9 => k_is)
    (case a10 => k_is)
    (case l10 => k_is)
    (case c10 => k_is)
    (case k10 => k_is)
    (case a11 => k_is)
    (case l11 => k_is)
    (case c11 => k_is)
    (case k11 => k_is)
    (case a12 => k_is)
    (case l12 => k_is)
    (case c12 => k_is)
    (case k12 => k_is)
    (case a13 => k_is)
    (case l13 => k_is)
    (case c13 => k_is)
    (case k13 => k_is)
    (case a14 => k_is)
    (case l14 => k_is)
    (case c14 => k_is)
    (case k14 => k_is)
    (case a15 => k_is)
    (case l15 => k_is)
    (case c15 => k_is)
    (case k15 => k_is)
    (case z0 => k_is)
    (case z1 => k_is)
    (case z2 => k_is)
    (case z3 => k_is)
    (case z4 => k_is)
    (case z5 => k_is)
    (case z6 => k_is)
    (case z7 => k_is)
    (case z8 => k_is)
    (case z9 => k_is)
    (case z10 => k_is)
    (case z11 => k_is)
    (case d0 => k_is)
    (case d1 => k_is)
    (case d2 => k_is)
    (case d3 => k_is)
    (case d4 => k_is)
    (case d5 => k_is)
    (case wWorldaC => k_is)
    (case wWorldpg => k_is)
    (case wWorldhd => k_is)
    (case wWorldpo => k_is)
    (case wWorldsa => k_is)
    (case wWorldf0 => k_is)
    (case wWorldf1 => k_is)
    (case wWorldha => k_is)
    (case wWorldhn => k_is)
    (case wWorldhtk => k_is)
    (case wWorldhm => k_is)
    (case wWorldne => k_is)
    (case wWorldmk => k_is)
    (case wWorldkc => k_is)
    (case wWorlda0 => k_is)
    (case wWorldi0 => k_is)
    (case wWorldl0 => k_is)
    (case wWorldc0 => k_is)
    (case wWorldk0 => k_is)
    (case wWorlda1 => k_is)
    (case wWorldi1 => k_is)
    (case wWorldl1 => k_is)
    (case wWorldc1 => k_is)
    (case wWorldk1 => k_is)
    (case wWorlda2 => k_is)
    (case wWorldi2 => k_is)
    (case wWorldl2 => k_is)
    (case wWorldc2 => k_is)
    (case wWorldk2 => k_is)
    (case wWorlda3 => k_is)
    (case wWorldi3 => k_is)
    (case wWorldl3 => k_is)
    (case wWorldc3 => k_is)
    (case wWorldk3 => k_is)
    (case wWorlda4 => k_is)
    (case wWorldi4 => k_is)
    (case wWorldl4 => k_is)
    (case wWorldc4 => k_is)
    (case wWorldk4 => k_is)
    (case seC => k_is)
    (case serd => k_is)
    (case sega => k_is)
    (case seat => k_is)
    (case sevV => k_is)
    (case semV => k_is)
    (case sel => k_is)
    (case sec => k_is)
    (case sek => k_is)
    (case seo => k_is)
    (case seo2 => rfl)
    (case xWidegC => k_is)
    (case xWidelk => k_is)
    (case xWidesa => k_is)
    (case xWideex => k_is)
    (case xWidety => k_is)
    (case xWidekC => k_is)
    (case xWideiC => k_is)
    (case xWidetI => k_is)
    (case xWidega => k_is)
    (case xWidegg => k_is)
    (case xWideex2 => k_is)
    (case xWidehd => k_is)
    (case xWidenw => k_is)
    (case xWideex3 => k_is)
    (case xWidecl => k_is)
    (case xWidety2 => k_is)
    (case xWidesub => k_is)
    (case xWideil => k_is)
    (case xWideic => k_is)
    (case xWideik => k_is)
    (case xWiderv => decide +kernel)
    (case xHeavygC => k_is)
    (case xHeavylk => k_is)
    (case xHeavysa => k_is)
    (case xHeavyex => k_is)
    (case xHeavyty => k_is)
    (case xHeavykC => k_is)
    (case xHeavyiC => k_is)
    (case xHeavytI => k_is)
    (case xHeavyga => k_is)
    (case xHeavygg => k_is)
    (case xHeavyex2 => k_is)
    (case xHeavyhd => k_is)
    (case xHeavynw => k_is)
    (case xHeavyex3 => k_is)
    (case xHeavycl => k_is)
    (case xHeavyty2 => k_is)
    (case xHeavysub => k_is)
    (case xHeavyil => k_is)
    (case xHeavyic => k_is)
    (case xHeavyik => k_is)
    (case xHeavyrv => decide +kernel)
    (case fHeavymany => k_is)
    (case kma => k_is)
    (case kml => k_is)
    (case kmc => k_is)
    (case kmk => k_is)
    (case kmd => k_is)
    (case nw0 => k_is)
    (case nw1 => k_is)
    (case nw2 => k_is)
    (case nw3 => k_is)
