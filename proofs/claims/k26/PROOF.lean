import PyProof.Rows.All
import Wide.All
import OpenK.AllK
import Wide.FinOn
import HandS.ForMost
import HandS.IsInst
import HandS.Zip
import HandS.More
import KE.LtData
import HandS.DictComp
import KE.SortKeyHeap
import HandS.SortKw
import HandS.OwnEq
import HandS.Conv
import HandS.TupAny
import PySem.Challenge.RW_spoorfold_k26_claims_of_papers
import HandS.WrittenGet
import HandS.ExcInit
import HandS.ExcField
import HandS.WordsExc
import HandS.ExcOwn
import HandS.FStr
import HandS.RaiseMore
import KE.DataFind
import KE.KTryMore
import HandS.TryOnly
import HandS.Star
import HandS.IterVal
import HandS.HotCalls
import HandS.Iter
import HandS.Zip
import HandS.ExcCtx
import HandS.ExcInitHot
set_option Elab.async false
set_option linter.all false
set_option maxRecDepth 100000
set_option maxHeartbeats 4000000
namespace Sf
open PySem PySem.Spec PyProof.Rows L2
/-! the text of the law by places -/
def topS (i : Nat) : Stmt := PySem.Challenge.pw_spoorfold_k26_claims_of_papers.main.body.getD i (.Pass ⟨0, 0, 0, 0⟩)
abbrev s_SpoorError___init__ : Stmt := inClass (topS 1) 0
abbrev s_BadWord___init__ : Stmt := inClass (topS 2) 0
abbrev s_BadPaper___init__ : Stmt := inClass (topS 3) 0
abbrev s_is_upto : Stmt := topS 5
abbrev s_is_word : Stmt := topS 9
abbrev s_need_word : Stmt := topS 10
abbrev s_need_words : Stmt := topS 11
abbrev s_need_pairs : Stmt := topS 12
abbrev s_claims : Stmt := topS 14
abbrev s_Book___init__ : Stmt := inClass (topS 15) 0
abbrev s_Book_need : Stmt := inClass (topS 15) 1
abbrev s_Book_picked : Stmt := inClass (topS 15) 2
abbrev s_Book_claim : Stmt := inClass (topS 15) 3
abbrev s_by_start : Stmt := topS 16
abbrev s_by_fact : Stmt := topS 17
abbrev s_by_turn : Stmt := topS 18
abbrev s_by_on : Stmt := topS 19
abbrev s_by_home : Stmt := topS 20
abbrev s_by_like : Stmt := topS 21
abbrev s_by_part : Stmt := topS 22
abbrev s_claims_made : Stmt := topS 25
abbrev s__law_pull : Stmt := topS 27
abbrev s__law_pick : Stmt := topS 28
abbrev s__law_begin : Stmt := topS 29
abbrev s__law_sign : Stmt := topS 30
abbrev s__law_flip : Stmt := topS 31
abbrev s__law_word : Stmt := topS 32
abbrev s__law_facts : Stmt := topS 33
abbrev s__law_likenesses : Stmt := topS 34
abbrev s__law_number : Stmt := topS 35
abbrev s__law_like_claim : Stmt := topS 36
abbrev s__law_claim : Stmt := topS 37
abbrev s__law_claims : Stmt := topS 38
abbrev s__law_paper : Stmt := topS 39
abbrev s__law_same : Stmt := topS 40
abbrev s__law_told : Stmt := topS 41
abbrev s__law_bent_row : Stmt := topS 42
abbrev s_law : Stmt := topS 43
end Sf
namespace Sf
open PySem PySem.Spec PyProof.Rows L2 TL
/-! ### helpers of heaps and blocks -/
theorem same_upd {H : Hp} {p : Addr} {o : HO} (h : H p = none) : Same H (upd H p o) := fun b x e => by
  rw [upd_ne (ne_of_none e h)]
  exact e
/-- all but what stands at b stands -/
def Fx (b : Addr) (H H' : Hp) : Prop := ∀ a o, H a = some o → a ≠ b → H' a = some o
theorem Fx.refl {b : Addr} {H : Hp} : Fx b H H := fun _ _ h _ => h
theorem Fx.of {b : Addr} {H H' : Hp} (h : Same H H') : Fx b H H' := fun a o e _ => h a o e
theorem Fx.trans {b : Addr} {H H1 H2 : Hp} (h : Fx b H H1) (k : Fx b H1 H2) : Fx b H H2 := fun a o e n => k a o (h a o e n) n
theorem Fx.same {b : Addr} {H H1 H2 : Hp} (h : Fx b H H1) (k : Same H1 H2) : Fx b H H2 := h.trans (.of k)
theorem Fx.upd {b : Addr} {H H1 : Hp} {o : HO} (h : Fx b H H1) : Fx b H (upd H1 b o) := fun a u e n => by
  rw [upd_ne n]
  exact h a u e n
theorem Fx.new {b p : Addr} {H H1 : Hp} {o : HO} (h : Fx b H H1) (n : H1 p = none) : Fx b H (L2.upd H1 p o) := h.same (same_upd n)
theorem Fx.seq {b a : Addr} {H H1 : Hp} {xs : List V} {K : PySem.W.Frag} (h : Fx b H H1) (n : a ≠ b) (s : SqL K H a xs) : SqL K H1 a xs := by
  rcases s with (s | ⟨o, s⟩) | s
  · exact .inl (.inl (h _ _ s n))
  · exact .inl (.inr ⟨o, h _ _ s n⟩)
  · exact .inr s
theorem seq_by {X : Cx} {st : Stmt} {rest : List Stmt} {D : Ends} {σ : L2.St} {H : Hp} (J : L2.St → Hp → Prop) (hr : ∃ u, PSs X rest u ∧ ∀ σ' H', J σ' H' → u D σ' H')
    (hs : ∀ u : TS, (∀ σ' H', J σ' H' → u D σ' H') → ∃ t, PS X st t ∧ t { D with nx := u D } σ H) : ∃ t, PSs X (st :: rest) t ∧ t D σ H := by
  obtain ⟨u, hu, k⟩ := hr
  obtain ⟨t, ht, h⟩ := hs u k
  exact ⟨tSeq t u, pss_cons ht hu, h⟩
theorem line_of {n : Nat} (h : n ≤ 100000) : n ≤ sizeLine := Nat.le_trans h (by decide)
theorem lineLt_of {n : Nat} (h : n ≤ 100000) : n < sizeLine := Nat.lt_of_le_of_lt h (by decide)
/-! ### the bag of the laws: its list at l, three numbers -/
structure BagL (H : Hp) (b l : Addr) (ns : List Int) (k z r : Int) : Prop where
  hb : H b = some (.lst [.ref l, .int k, .int z, .int r])
  hl : H l = some (.lst (ns.map V.int))
  k0 : 0 ≤ k
  z0 : 0 ≤ z
  r0 : 0 ≤ r
  r1 : r < 2147483647
def Bag (H : Hp) (b l : Addr) : Prop := ∃ (ns : List Int) (k z r : Int), BagL H b l ns k z r
theorem bag_ne {l : Addr} {ns : List Int} {vs : List V} : HO.lst (.ref l :: vs) ≠ HO.lst (ns.map V.int) := fun e => by
  cases ns with
  | nil => cases e
  | cons x r => cases e
theorem BagL.ne {H : Hp} {b l : Addr} {ns : List Int} {k z r : Int} (h : BagL H b l ns k z r) : l ≠ b := fun e => by
  have h1 := h.hb
  have h2 := h.hl
  rw [e, h1] at h2
  exact bag_ne (Option.some.inj h2)
theorem BagL.set {H : Hp} {b l : Addr} {ns : List Int} {k z r k' z' r' : Int} (h : BagL H b l ns k z r) (hk : 0 ≤ k') (hz : 0 ≤ z') (h0 : 0 ≤ r') (h1 : r' < 2147483647) :
    BagL (upd H b (.lst [.ref l, .int k', .int z', .int r'])) b l ns k' z' r' :=
  ⟨upd_same, by rw [upd_ne h.ne]; exact h.hl, hk, hz, h0, h1⟩
theorem Bag.same {H H' : Hp} {b l : Addr} (s : Same H H') : Bag H b l → Bag H' b l
  | ⟨ns, k, z, r, h⟩ => ⟨ns, k, z, r, s _ _ h.hb, s _ _ h.hl, h.k0, h.z0, h.r0, h.r1⟩
theorem Bag.new {H : Hp} {b l p : Addr} {o : HO} (h : Bag H b l) (n : H p = none) : Bag (upd H p o) b l := h.same (same_upd n)
theorem Bag.ne {H : Hp} {b l p : Addr} (h : Bag H b l) (n : H p = none) : p ≠ b := fun e => by
  obtain ⟨ns, k, z, r, h⟩ := h
  rw [e, h.hb] at n
  cases n
theorem Bag.neL {H : Hp} {b l p : Addr} (h : Bag H b l) (n : H p = none) : p ≠ l := fun e => by
  obtain ⟨ns, k, z, r, h⟩ := h
  rw [e, h.hl] at n
  cases n
theorem len_eq {α : Type} {xs : List α} {n : Nat} (h : xs.length = n) : ((xs.length : Nat) : Int) = (n : Int) := by rw [h]
theorem int_at {ns : List Int} {k : Int} (h0 : 0 ≤ k) (h1 : k < ((ns.map V.int).length : Nat)) : ∃ v : Int, atI (ns.map V.int) k = some (.int v) := by
  rw [List.length_map] at h1
  refine ⟨ns[k.toNat]'(by omega), at_of (j := k.toNat) (by omega) ?_⟩
  rw [List.getElem?_map, List.getElem?_eq_getElem (by omega)]
  rfl
end Sf
namespace Sf
open PySem PySem.Spec PyProof.Rows L2 TL
/-! ### what stands at the top: a def of the text; a def that keeps a promise; a constant; built-in names -/
def FnAt (K : PySem.W.Frag) (mg : Str → Option Value) (x : Str) (st : Stmt) (ps : List Str) : Prop := ∃ (f : Addr) (fd : FuncData), mg x = some (.ref f) ∧ Fun K x x st f fd ∧ Binds K fd ps []
def Has (P : Program) (w : World) (K : PySem.W.Frag) (mg : Str → Option Value) (base : Heap) (k : Nat) (x : Str) (ps : List Str) (sp : Sp) : Prop :=
  ∃ (f : Addr) (fd : FuncData), mg x = some (.ref f) ∧ PySem.W.keepIn K (.ref f) = true ∧ Binds K fd ps [] ∧ FnOk P w K mg base CX0 k f fd ps sp
theorem FnAt.has {P : Program} {w : World} {K : PySem.W.Frag} {mg : Str → Option Value} {base : Heap} {k : Nat} {x : Str} {st : Stmt} {ps : List Str} {sp : Sp} (h : FnAt K mg x st ps)
    (ok : ∀ {f : Addr} {fd : FuncData}, Fun K x x st f fd → FnOk P w K mg base CX0 k f fd ps sp) : Has P w K mg base k x ps sp := by
  obtain ⟨f, fd, g, F, b⟩ := h
  exact ⟨f, fd, g, F.kp, b, ok F⟩
theorem fnAt_mk {K : PySem.W.Frag} {h : Heap} {mg : Str → Option Value} {x : Str} {st : Stmt} {ps : List Str} {f : Addr} {oc : Value} {od an : Option Addr} {osl : Array (Option Value)} {kV doc pm cdv ct : Value} (X : K.In h) (G : h.Ns mainGlobals mg)
    (a : PySem.W.nsIn K mainGlobals x = some (some (.ref f))) (l : K.lookup f = some ⟨oc, od, .func (PySem.W.fnOf x x (defArgs st) (defBody st) (defScope st) .none kV doc pm an cdv ct), osl⟩)
    (c : PySem.W.codeIn K cdv x = true) (k : PySem.W.keepIn K (.ref f) = true)
    (b : ∀ (kV doc pm : Value) (an : Option Addr) (cdv ct : Value) (us : List Value), us.length = ps.length → bindArgs (PySem.W.fnOf x x (defArgs st) (defBody st) (defScope st) .none kV doc pm an cdv ct) ⟨us, []⟩ = pure (ps.zip us)) : FnAt K mg x st ps :=
  ⟨f, _, PySem.W.mg_of X G a, fun_mk l c k, (fun_mk l c k).binds b⟩
structure Blt (mg : Str → Option Value) : Prop where
  len : mg "len" = none
  range : mg "range" = none
  isinstance : mg "isinstance" = none
  list : mg "list" = none
  tuple : mg "tuple" = none
  bool : mg "bool" = none
  int : mg "int" = none
  str : mg "str" = none
  all : mg "all" = none
  zip : mg "zip" = none
  min : mg "min" = none
  sorted : mg "sorted" = none
theorem lc_gen {J : It} {n : Nat} {g : TG} {tt : TT} {te : TE} {vs : List Nat} {σ : L2.St} {H1 : Hp} {D : Addr} {Qd : Hp → Prop} (Pv : Nat → Hp → Prop) (h0 : Pv 0 (upd H1 D (.lst [])))
    (hgo : ∀ i H, i < n → Pv i H → J.go i H) (hst : ∀ H, Pv n H → J.stop n H)
    (hs : ∀ i x H H', i < n → Pv i H → J.yld i H x H' → g x (wipe σ vs) H' fun σ2 H2 => wipe σ2 vs = wipe σ vs ∧ tt σ2 H2 fun b H3 =>
      if b = true then te σ2 H3 fun y H4 => ∃ acc, H4 D = some (.lst acc) ∧ acc.length < sizeLine ∧ Pv (i + 1) (upd H4 D (.lst (acc ++ [y]))) else Pv (i + 1) H3) (hd : ∀ H, Pv n H → Qd H) :
    ∃ W : Nat → Nat → Hp → Prop, (∃ m, W 0 m (upd H1 D (.lst []))) ∧ ∀ i m H, W i m H →
      (J.stop i H ∧ Qd H) ∨ (J.go i H ∧ ∃ Nx : Hp → Prop, (∀ H', Nx H' → ∃ m', m' < m ∧ W (i + 1) m' H') ∧ ∀ x H', J.yld i H x H' → g x (wipe σ vs) H' fun σ2 H2 => wipe σ2 vs = wipe σ vs ∧ tt σ2 H2 fun b H3 =>
        if b = true then te σ2 H3 fun y H4 => ∃ acc, H4 D = some (.lst acc) ∧ acc.length < sizeLine ∧ Nx (upd H4 D (.lst (acc ++ [y]))) else Nx H3) := by
  refine ⟨fun i m H => m = n - i ∧ i ≤ n ∧ Pv i H, ⟨n, rfl, Nat.zero_le _, h0⟩, ?_⟩
  rintro i m H ⟨rfl, hi, p⟩
  by_cases hlt : i < n
  · exact .inr ⟨hgo i H hlt p, Pv (i + 1), fun H' p' => ⟨n - (i + 1), by omega, rfl, hlt, p'⟩, fun x H' y => hs i x H H' hlt p y⟩
  · have e : i = n := by omega
    subst e
    exact .inl ⟨hst H p, hd H p⟩
theorem for_gen {J : It} {n : Nat} {g : TG} {tb : TS} {D : Ends} {σ : L2.St} {H : Hp} (Pv : Nat → L2.St → Hp → Prop) (h0 : Pv 0 σ H) (hgo : ∀ i σ H, i < n → Pv i σ H → J.go i H) (hst : ∀ σ H, Pv n σ H → J.stop n H)
    (hs : ∀ i x σ H H', i < n → Pv i σ H → J.yld i H x H' → g x σ H' fun σ2 H2 => tb { D with nx := Pv (i + 1), ct := Pv (i + 1), bk := D.nx } σ2 H2) (hd : ∀ σ H, Pv n σ H → D.nx σ H) :
    ∃ W : Nat → Nat → L2.St → Hp → Prop, (∃ m, W 0 m σ H) ∧ ∀ i m σ H, W i m σ H →
      (J.stop i H ∧ D.nx σ H) ∨ (J.go i H ∧ ∃ N : L2.St → Hp → Prop, (∀ σ' H', N σ' H' → ∃ m', m' < m ∧ W (i + 1) m' σ' H') ∧ ∀ x H', J.yld i H x H' → g x σ H' fun σ2 H2 => tb { D with nx := N, ct := N, bk := D.nx } σ2 H2) := by
  refine ⟨fun i m σ H => m = n - i ∧ i ≤ n ∧ Pv i σ H, ⟨n, rfl, Nat.zero_le _, h0⟩, ?_⟩
  rintro i m σ H ⟨rfl, hi, p⟩
  by_cases hlt : i < n
  · exact .inr ⟨hgo i σ H hlt p, Pv (i + 1), fun σ' H' p' => ⟨n - (i + 1), by omega, rfl, hlt, p'⟩, fun x H' y => hs i x σ H H' hlt p y⟩
  · have e : i = n := by omega
    subst e
    exact .inl ⟨hst σ H p, hd σ H p⟩
theorem yes_if {σ : L2.St} {H : Hp} {A B : Hp → Prop} (h : A H) : tYes σ H (fun b H3 => if b = true then A H3 else B H3) := by
  show if true = true then A H else B H
  exact iteT h
/-! ### signs and words -/
def sgn (c : Nat) : Bool := (decide (97 ≤ c) && decide (c ≤ 104)) || (decide (65 ≤ c) && decide (c ≤ 72))
theorem sgn_iff {c : Nat} : sgn c = true ↔ (97 ≤ c ∧ c ≤ 104) ∨ (65 ≤ c ∧ c ≤ 72) := by
  unfold sgn
  simp only [Bool.or_eq_true, Bool.and_eq_true, decide_eq_true_eq]
def flipC (c : Nat) : Nat := if 97 ≤ c then c - 32 else c + 32
def Wd (x : Str) : Prop := ∀ c ∈ tl x, sgn c = true
abbrev one (c : Nat) : Str := ⟨#[c]⟩
theorem tl_one (c : Nat) : tl (one c) = [c] := rfl
theorem len_one (c : Nat) : (one c).length = 1 := rfl
theorem len_app (x y : Str) : (x ++ y).length = x.length + y.length := by
  rw [len_tl, len_tl, len_tl, tl_append, List.length_append]
theorem Wd.app {x y : Str} (hx : Wd x) (hy : Wd y) : Wd (x ++ y) := fun c hc => by
  rw [tl_append, List.mem_append] at hc
  exact hc.elim (hx c) (hy c)
theorem wd_one {c : Nat} (h : sgn c = true) : Wd (one c) := fun d hd => by
  rw [tl_one, List.mem_singleton] at hd
  rw [hd]
  exact h
theorem tl_small : (Str.ofString "abcdefgh").cps.toList = [97, 98, 99, 100, 101, 102, 103, 104] := by decide +kernel
theorem tl_great : (Str.ofString "ABCDEFGH").cps.toList = [65, 66, 67, 68, 69, 70, 71, 72] := by decide +kernel
theorem tl_signs : (Str.ofString "aAbBcCdDeEfFgGhH").cps.toList = [97, 65, 98, 66, 99, 67, 100, 68, 101, 69, 102, 70, 103, 71, 104, 72] := by decide +kernel
theorem in_small {c : Nat} : (c ∈ (Str.ofString "abcdefgh").cps.toList) ↔ (97 ≤ c ∧ c ≤ 104) := by
  rw [tl_small]
  simp only [List.mem_cons, List.not_mem_nil, or_false]
  omega
theorem in_signs {c : Nat} : (c ∈ (Str.ofString "aAbBcCdDeEfFgGhH").cps.toList) ↔ sgn c = true := by
  rw [tl_signs, sgn_iff]
  simp only [List.mem_cons, List.not_mem_nil, or_false]
  omega
theorem upper_one {c : Nat} (h : 97 ≤ c ∧ c ≤ 104) : Txt.upper (one c) = one (c - 32) := by
  have : c = 97 ∨ c = 98 ∨ c = 99 ∨ c = 100 ∨ c = 101 ∨ c = 102 ∨ c = 103 ∨ c = 104 := by omega
  rcases this with rfl | rfl | rfl | rfl | rfl | rfl | rfl | rfl <;> decide +kernel
theorem lower_one {c : Nat} (h : 65 ≤ c ∧ c ≤ 72) : Txt.lower (one c) = one (c + 32) := by
  have : c = 65 ∨ c = 66 ∨ c = 67 ∨ c = 68 ∨ c = 69 ∨ c = 70 ∨ c = 71 ∨ c = 72 := by omega
  rcases this with rfl | rfl | rfl | rfl | rfl | rfl | rfl | rfl <;> decide +kernel
theorem flip_sgn {c : Nat} (h : sgn c = true) : sgn (flipC c) = true := by
  rw [sgn_iff] at h ⊢
  unfold flipC
  split <;> omega
theorem at_small {e : Int} (h0 : 0 ≤ e) (h1 : e < 8) : atI (Str.ofString "abcdefgh").cps.toList e = some (97 + e.toNat) := by
  have : e = 0 ∨ e = 1 ∨ e = 2 ∨ e = 3 ∨ e = 4 ∨ e = 5 ∨ e = 6 ∨ e = 7 := by omega
  rw [tl_small]
  rcases this with rfl | rfl | rfl | rfl | rfl | rfl | rfl | rfl <;> rfl
theorem at_great {e : Int} (h0 : 0 ≤ e) (h1 : e < 8) : atI (Str.ofString "ABCDEFGH").cps.toList e = some (65 + e.toNat) := by
  have : e = 0 ∨ e = 1 ∨ e = 2 ∨ e = 3 ∨ e = 4 ∨ e = 5 ∨ e = 6 ∨ e = 7 := by omega
  rw [tl_great]
  rcases this with rfl | rfl | rfl | rfl | rfl | rfl | rfl | rfl <;> rfl
theorem at_end {x : List Nat} (h : x ≠ []) : ∃ c, atI x (-1) = some c ∧ c ∈ x := by
  refine ⟨x.getLast h, ?_, List.getLast_mem h⟩
  have e := atI_last x.dropLast (x.getLast h)
  rw [List.dropLast_concat_getLast h] at e
  exact e
theorem str_ne {x : Str} (h : ¬ V.str x = V.str "") : tl x ≠ [] := fun e => h (by
  have : x = "" := ext_tl (by rw [e]; decide +kernel)
  rw [this])
theorem wd_nil : Wd "" := fun c hc => by
  have e : tl "" = [] := by decide +kernel
  rw [e] at hc
  cases hc
/-! ### two values of the same data -/
def flat4 : V → Bool
  | .non => true
  | .bl _ => true
  | .int _ => true
  | .str _ => true
  | _ => false
def Eqv (H : Hp) : Nat → V → V → Prop
  | 0, x, y => flat4 x = true ∧ x = y
  | n + 1, x, y => (flat4 x = true ∧ x = y) ∨ ∃ (p q : Addr) (xs ys : List V), x = .ref p ∧ y = .ref q ∧ ((H p = some (.lst xs) ∧ H q = some (.lst ys)) ∨ (H p = some (.tup xs) ∧ H q = some (.tup ys))) ∧
      xs.length = ys.length ∧ xs.length ≤ 100000 ∧ ∀ (i : Nat) (x y : V), xs[i]? = some x → ys[i]? = some y → Eqv H n x y
theorem Eqv.same {H H' : Hp} (s : Same H H') : ∀ {n : Nat} {x y : V}, Eqv H n x y → Eqv H' n x y
  | 0, _, _, h => h
  | _ + 1, _, _, .inl h => .inl h
  | _ + 1, _, _, .inr ⟨p, q, xs, ys, ex, ey, hp, hl, hz, k⟩ => .inr ⟨p, q, xs, ys, ex, ey, hp.elim (fun h => .inl ⟨s _ _ h.1, s _ _ h.2⟩) (fun h => .inr ⟨s _ _ h.1, s _ _ h.2⟩), hl, hz, fun i x y hx hy => Eqv.same s (k i x y hx hy)⟩
theorem Eqv.flat {H : Hp} {n : Nat} {x : V} (h : flat4 x = true) : Eqv H n x x := by
  cases n with
  | zero => exact ⟨h, rfl⟩
  | succ n => exact .inl ⟨h, rfl⟩
theorem flat_kit {K : PySem.W.Frag} {H : Hp} {x : V} (h : flat4 x = true) : ∃ (T : String) (b1 b2 b3 : Bool), TyX K H x (.type T) ∧ kitB T "list" = some false ∧ kitB T "tuple" = some false ∧ kitB T "bool" = some b1 ∧ kitB T "int" = some b2 ∧ kitB T "str" = some b3 := by
  cases x with
  | non => exact ⟨"NoneType", false, false, false, .base .non, by decide +kernel, by decide +kernel, by decide +kernel, by decide +kernel, by decide +kernel⟩
  | bl b => exact ⟨"bool", true, true, false, .base (.bl b), by decide +kernel, by decide +kernel, by decide +kernel, by decide +kernel, by decide +kernel⟩
  | int b => exact ⟨"int", false, true, false, .base (.int b), by decide +kernel, by decide +kernel, by decide +kernel, by decide +kernel, by decide +kernel⟩
  | str b => exact ⟨"str", false, false, true, .base (.str b), by decide +kernel, by decide +kernel, by decide +kernel, by decide +kernel, by decide +kernel⟩
  | byt b => cases h
  | flt b => cases h
  | ref b => cases h
  | ty b => cases h
theorem TyX.same {K : PySem.W.Frag} {H H' : Hp} {x : V} {T : String} (s : Same H H') (f : flat4 x = true) (h : TyX K H x (.type T)) : TyX K H' x (.type T) := by
  cases x with
  | non => cases h with | base h => cases h with | non => exact .base .non
  | bl b => cases h with | base h => cases h with | bl => exact .base (.bl b)
  | int b => cases h with | base h => cases h with | int => exact .base (.int b)
  | str b => cases h with | base h => cases h with | str => exact .base (.str b)
  | byt b => cases f
  | flt b => cases f
  | ref b => cases f
  | ty b => cases f
theorem kit2 {K : PySem.W.Frag} {T : String} (h1 : kitB T "list" = some false) (h2 : kitB T "tuple" = some false) : PySem.W.kitAny K (.type T) [.type "list", .type "tuple"] = some false :=
  kitAny_cons (kit_ty h1) (fun _ => kitAny_cons (kit_ty h2) (fun _ => kitAny_nil) (fun q => nomatch q)) (fun q => nomatch q)
theorem scal_flat {x : V} (h : flat4 x = true) : scal x x = true := by
  cases x <;> first | rfl | cases h
theorem ne_bl (b : Bool) : (!decide (V.bl b = V.bl b)) = false := by simp
end Sf
namespace Sf
open PySem PySem.Spec PyProof.Rows L2 TL
/-! ### blocks by what holds ahead and behind -/
def Stp {ι : Type} (X : Cx) (st : Stmt) (pre post : ι → L2.St → Hp → Prop) : Prop := ∃ t, PS X st t ∧ ∀ (i : ι) (D : Ends) (σ : L2.St) (H : Hp), pre i σ H → (∀ σ' H', post i σ' H' → D.nx σ' H') → t D σ H
def Blk {ι : Type} (X : Cx) (sts : List Stmt) (pre post : ι → L2.St → Hp → Prop) : Prop := ∃ t, PSs X sts t ∧ ∀ (i : ι) (D : Ends) (σ : L2.St) (H : Hp), pre i σ H → (∀ σ' H', post i σ' H' → D.nx σ' H') → t D σ H
theorem Blk.cons {ι : Type} {X : Cx} {st : Stmt} {rest : List Stmt} {pre post : ι → L2.St → Hp → Prop} (mid : ι → L2.St → Hp → Prop) (a : Stp X st pre mid) (b : Blk X rest mid post) : Blk X (st :: rest) pre post := by
  obtain ⟨t, ht, h⟩ := a
  obtain ⟨u, hu, k⟩ := b
  exact ⟨tSeq t u, pss_cons ht hu, fun i D σ H hp hq => h i _ σ H hp fun σ' H' hm => k i D σ' H' hm hq⟩
theorem Blk.one {ι : Type} {X : Cx} {st : Stmt} {pre post : ι → L2.St → Hp → Prop} (a : Stp X st pre post) : Blk X [st] pre post := by
  obtain ⟨t, ht, h⟩ := a
  exact ⟨t, pss_one ht, h⟩
/-- the same within a block -/
theorem Stp.rng {ι : Type} {X : Cx} {tg iter : Expr} {body : List Stmt} {pos : Pos} {wi : TI} {k : Nat} {pre post : ι → L2.St → Hp → Prop} (Pv : ι → Nat → Nat → L2.St → Hp → Prop) (hp : PassesOwn (model X.prog X.w) X.A X.env X.xe) (hc : X.calm = true) (hi : PI X tg iter wi) (hg : PG X tg (gName k))
    (hk : ∀ (j : ι) (σ : L2.St) (H : Hp) (R : It → Hp → Prop), pre j σ H → (∀ n H1, Pv j n 0 σ H1 → R (Itr 0 n) H1) → wi σ H R)
    (hb : Blk (ι := ι × Nat × Nat) X body (fun i σ H => i.2.2 < i.2.1 ∧ ∃ σ0, Pv i.1 i.2.1 i.2.2 σ0 H ∧ σ = σ0.set k (some (.int (0 + (i.2.2 : Int))))) (fun i σ H => Pv i.1 i.2.1 (i.2.2 + 1) σ H))
    (hr : ∀ j n σ H, Pv j n n σ H → post j σ H) (hs : ∀ x, foldedSetIterable iter X.env x = pure x := by intro _; rfl) : Stp X (.For tg iter body [] pos) pre post := by
  obtain ⟨tb, hb, kb⟩ := hb
  refine ⟨_, ps_for hp hc hi hg hb hs, fun j D σ H h0 hq => ?_⟩
  refine hk j σ H _ h0 fun n H1 h0 => ?_
  exact for_range (lo := 0) (n := n) (Pv j n) h0 (fun i σ1 H2 hlt hv => kb (j, n, i) _ _ _ ⟨hlt, σ1, hv, rfl⟩ fun σ' H' h => h) (fun σ1 H2 hv => hq σ1 H2 (hr j n σ1 H2 hv))
/-- the rest of a def's body -/
def Tl (X : Cx) (sts : List Stmt) (D : Ends) (J : L2.St → Hp → Prop) : Prop := ∃ u, PSs X sts u ∧ ∀ σ H, J σ H → u D σ H
theorem Tl.start {X : Cx} {sts : List Stmt} {D : Ends} {σ : L2.St} {H : Hp} (h : Tl X sts D (fun σ' H' => σ' = σ ∧ H' = H)) : ∃ t, PSs X sts t ∧ t D σ H := by
  obtain ⟨u, hu, k⟩ := h
  exact ⟨u, hu, k σ H ⟨rfl, rfl⟩⟩
theorem Tl.cons {X : Cx} {st : Stmt} {rest : List Stmt} {D : Ends} {J : L2.St → Hp → Prop} (mid : L2.St → Hp → Prop) (a : Stp (ι := Unit) X st (fun _ => J) (fun _ => mid)) (b : Tl X rest D mid) : Tl X (st :: rest) D J := by
  obtain ⟨t, ht, h⟩ := a
  obtain ⟨u, hu, k⟩ := b
  exact ⟨tSeq t u, pss_cons ht hu, fun σ H hj => h () _ σ H hj k⟩
end Sf
namespace Sf
open PySem PySem.Spec PyProof.Rows L2 TL
section
variable {P : Program} {w : World} {K : PySem.W.Frag} {mg : Str → Option Value} {base : Heap}
/-! ### _law_pull: some number below many -/
def spPull : Sp := fun vs H Q _ => ∃ (b l : Addr) (n : Int), vs = [.ref b, .int n] ∧ Bag H b l ∧ 0 < n ∧ n < 1073741824 ∧
  ∀ (d : Int) (H' : Hp), 0 ≤ d → d < n → Bag H' b l → Fx b H H' → Q (.int d) H'
theorem sc_pull : FnScope ["_law_bag", "_law_many", "_law_cell", "_law_digit"] ["_law_bag", "_law_many"] (defScope s__law_pull) := ⟨rfl, rfl, rfl, by decide +kernel, rfl, by decide +kernel, by decide +kernel⟩
theorem ok_pull {f : Addr} {fd : FuncData} {j : Nat} (F : Fun K "_law_pull" "_law_pull" s__law_pull f fd) (ml : mg "len" = none) : FnOk P w K mg base CX0 (j + 1) f fd ["_law_bag", "_law_many"] spPull := by
  refine F.ok sc_pull (fun vs H Q E h => ?_) (fun cdv A outer s H vs Q E hr h => ?_)
  · obtain ⟨b, l, n, rfl, _⟩ := h
    rfl
  · obtain ⟨b, l, n, rfl, ⟨ns, k, z, r, hB⟩, hn0, hn1, q⟩ := h
    refine seq_by (fun σ H1 => ∃ (y2 : Option V) (k z r : Int), σ = [some (.ref b), some (.int n), y2, none] ∧ BagL H1 b l ns k z r ∧ Fx b H H1) ?_ ?_
    · refine ⟨_, pss_cons (ps_if (pt_cmpR op_gt (pe_ix ix_list (pv 0) pe_int (fun _ _ => rfl)) pe_int (nomark _))
          (pss_cons (ps_set (i := 3) sc_pull.nd rfl (.inl rfl) (pe_op op_mod (pe_ix ix_list (pv 0) pe_int (fun _ _ => rfl)) (pv 1)))
          (pss_cons (ps_asg (pe_op op_fdiv (pe_ix ix_list (pv 0) pe_int (fun _ _ => rfl)) (pv 1)) (pg_sub (pv 0) pe_int set_list))
          (pss_one (ps_ret (pv 3))))) pss_nil)
        (pss_cons (ps_asg (pe_op op_mod (pe_op op_add (pe_op op_add (pe_op op_mul (pe_op op_mod (pe_op op_mul (pe_ix ix_list (pv 0) pe_int (fun _ _ => rfl)) (pe_ix ix_list (pv 0) pe_int (fun _ _ => rfl))) pe_int) pe_int)
            (pe_op op_mul (pe_ix ix_list (pv 0) pe_int (fun _ _ => rfl)) pe_int)) pe_int) pe_int) (pg_sub (pv 0) pe_int set_list))
        (pss_one (ps_ret (pe_op op_mod (pe_op op_add (pe_op op_fdiv (pe_ix ix_list (pv 0) pe_int (fun _ _ => rfl)) pe_int) (pe_op op_mul (pe_op op_mod (pe_ix ix_list (pv 0) pe_int (fun _ _ => rfl)) pe_int) pe_int)) (pv 1))))), ?_⟩
      rintro σ H1 ⟨y2, k, z, r, rfl, B, fx⟩
      have hS := SqL.of (K := K) B.hb
      have rr0 := B.r0
      have rr1 := B.r1
      have zz0 := B.z0
      refine ⟨_, rfl, b, _, 2, _, rfl, rfl, hS, at_of (j := 2) rfl rfl, z, 0, rfl, rfl, _, rfl, ite2 (fun e => ?_) (fun e => ?_)⟩
      · have zp : 0 < z := of_decide_eq_true e
        refine ⟨_, rfl, b, _, 2, _, rfl, rfl, hS, at_of (j := 2) rfl rfl, _, rfl, z, n, rfl, rfl, hn0, ?_⟩
        refine ⟨_, rfl, b, _, 2, _, rfl, rfl, hS, at_of (j := 2) rfl rfl, _, rfl, z, n, rfl, rfl, ⟨hn0, hn1⟩, ?_⟩
        refine ⟨_, rfl, b, _, 2, 2, rfl, rfl, B.hb, rfl, ?_⟩
        refine ⟨_, rfl, ?_⟩
        refine q _ _ (Int.emod_nonneg _ (by omega)) (Int.emod_lt_of_pos _ hn0) ⟨ns, k, z / n, r, B.set B.k0 (Int.ediv_nonneg B.z0 (by omega)) B.r0 B.r1⟩ fx.upd
      · refine ⟨_, rfl, b, _, 3, _, rfl, rfl, hS, at_of (j := 3) rfl rfl, _, rfl, b, _, 3, _, rfl, rfl, hS, at_of (j := 3) rfl rfl, r, r, rfl, rfl, .inl ⟨by omega, by omega⟩,
          _, 2147483629, rfl, rfl, (by show (0 : Int) < 2147483629; decide), _, 5, rfl, rfl, .inr ⟨by decide, by decide⟩,
          _, rfl, b, _, 3, _, rfl, rfl, hS, at_of (j := 3) rfl rfl, r, 16807, rfl, rfl, .inr ⟨by decide, by decide⟩, _, _, rfl, rfl, _, 2531011, rfl, rfl, _, 2147483647, rfl, rfl, (by show (0 : Int) < 2147483647; decide), ?_⟩
        refine ⟨_, rfl, b, _, 3, 3, rfl, rfl, B.hb, rfl, ?_⟩
        have h0 : 0 ≤ (r * r % 2147483629 * 5 + r * 16807 + 2531011) % 2147483647 := Int.emod_nonneg _ (by decide)
        have h1 : (r * r % 2147483629 * 5 + r * 16807 + 2531011) % 2147483647 < 2147483647 := Int.emod_lt_of_pos _ (by decide)
        have B' : BagL (upd H1 b (.lst [.ref l, .int k, .int z, .int ((r * r % 2147483629 * 5 + r * 16807 + 2531011) % 2147483647)])) b l ns k z ((r * r % 2147483629 * 5 + r * 16807 + 2531011) % 2147483647) := B.set B.k0 B.z0 h0 h1
        have hS' := SqL.of (K := K) B'.hb
        refine ⟨_, rfl, b, _, 3, _, rfl, rfl, hS', at_of (j := 3) rfl rfl, _, 61, rfl, rfl, ⟨by decide, by decide⟩,
          _, rfl, b, _, 3, _, rfl, rfl, hS', at_of (j := 3) rfl rfl, _, 8191, rfl, rfl, (by show (0 : Int) < 8191; decide), _, 31, rfl, rfl, .inr ⟨by decide, by decide⟩, _, _, rfl, rfl, _, rfl, _, n, rfl, rfl, hn0, ?_⟩
        exact q _ _ (Int.emod_nonneg _ (by omega)) (Int.emod_lt_of_pos _ hn0) ⟨ns, k, z, _, B'⟩ fx.upd
    · intro u hu
      have hS := SqL.of (K := K) hB.hb
      have hS2 := SqL.of (K := K) hB.hl
      have rr0 := hB.r0
      have rr1 := hB.r1
      have zz0 := hB.z0
      have kk0 := hB.k0
      refine ⟨_, ps_if (PW.pt (pw_and (pt_cmpR op_eq (pe_ix ix_list (pv 0) pe_int (fun _ _ => rfl)) pe_int (nomark _))
            (pw_and1 (pt_cmpR op_lt (pe_ix ix_list (pv 0) pe_int (fun _ _ => rfl)) (pe_callB call_len_seq (by rfl) ml PySem.boot_len (pa_cons (pe_ix ix_list (pv 0) pe_int (fun _ _ => rfl)) pa_nil)) (nomark _)))))
          (pss_cons (ps_set (i := 2) sc_pull.nd rfl (.inl rfl) (pe_ix ix_list (pe_ix ix_list (pv 0) pe_int (fun _ _ => rfl)) (pe_ix ix_list (pv 0) pe_int (fun _ _ => rfl)) (fun _ _ => rfl)))
          (pss_cons (ps_asg (pe_op op_add (pe_ix ix_list (pv 0) pe_int (fun _ _ => rfl)) pe_int) (pg_sub (pv 0) pe_int set_list))
          (pss_one (ps_if (pt_cmpR op_ge (pv 2) (pe_op op_pow pe_int pe_int) (nomark _))
            (pss_one (ps_asg (pv 2) (pg_sub (pv 0) pe_int set_list)))
            (pss_one (ps_asg (pe_op op_mod (pe_op op_add (pe_op op_add (pe_op op_mul (pe_ix ix_list (pv 0) pe_int (fun _ _ => rfl)) pe_int) (pe_op op_mul (pe_op op_mod (pv 2) pe_int) pe_int)) pe_int) pe_int) (pg_sub (pv 0) pe_int set_list)))))))
          pss_nil, ?_⟩
      refine ⟨_, rfl, b, _, 2, _, rfl, rfl, hS, at_of (j := 2) rfl rfl, rfl, _, rfl, ite2 (fun e => ?_) (fun e => ?_)⟩
      · refine ⟨_, rfl, b, _, 1, _, rfl, rfl, hS, at_of (j := 1) rfl rfl, _, rfl, b, _, 0, _, rfl, rfl, hS, at_of (j := 0) rfl rfl, l, _, rfl, .inl hS2, k, _, rfl, rfl, _, rfl, ite2 (fun e2 => ?_) (fun e2 => ?_)⟩
        · obtain ⟨v, hv⟩ := int_at (ns := ns) kk0 (of_decide_eq_true e2)
          refine ⟨_, rfl, b, _, 0, _, rfl, rfl, hS, at_of (j := 0) rfl rfl, _, rfl, b, _, 1, _, rfl, rfl, hS, at_of (j := 1) rfl rfl, l, _, k, _, rfl, rfl, hS2, hv, ?_⟩
          refine ⟨_, rfl, b, _, 1, _, rfl, rfl, hS, at_of (j := 1) rfl rfl, k, 1, rfl, rfl, _, rfl, b, _, 1, 1, rfl, rfl, hB.hb, rfl, ?_⟩
          have B' : BagL (upd H b (.lst [.ref l, .int (k + 1), .int z, .int r])) b l ns (k + 1) z r := hB.set (by omega) zz0 rr0 rr1
          have hS' := SqL.of (K := K) B'.hb
          refine ⟨_, rfl, 10, 18, rfl, rfl, ⟨by decide, by decide, by decide⟩, v, _, rfl, rfl, _, rfl, ite2 (fun e3 => ?_) (fun e3 => ?_)⟩
          · have hv0 : 0 ≤ v := by
              have := of_decide_eq_true e3
              have h18 : (10 : Int) ^ (18 : Int).toNat = 1000000000000000000 := by decide +kernel
              rw [h18] at this
              omega
            refine ⟨_, rfl, _, rfl, b, _, 2, 2, rfl, rfl, B'.hb, rfl, ?_⟩
            exact hu _ _ ⟨some (.int v), k + 1, v, r, rfl, B'.set B'.k0 hv0 rr0 rr1, Fx.refl.upd.upd⟩
          · refine ⟨_, rfl, b, _, 3, _, rfl, rfl, hS', at_of (j := 3) rfl rfl, r, 48271, rfl, rfl, .inr ⟨by decide, by decide⟩, _, rfl, v, 2147483629, rfl, rfl, (by show (0 : Int) < 2147483629; decide), _, 69621, rfl, rfl, .inr ⟨by decide, by decide⟩,
              _, _, rfl, rfl, _, 12345, rfl, rfl, _, 2147483647, rfl, rfl, (by show (0 : Int) < 2147483647; decide), ?_⟩
            refine ⟨_, rfl, b, _, 3, 3, rfl, rfl, B'.hb, rfl, ?_⟩
            exact hu _ _ ⟨some (.int v), k + 1, z, _, rfl, B'.set B'.k0 B'.z0 (Int.emod_nonneg _ (by decide)) (Int.emod_lt_of_pos _ (by decide)), Fx.refl.upd.upd⟩
        · exact hu _ _ ⟨none, k, z, r, rfl, hB, .refl⟩
      · exact iteF (hu _ _ ⟨none, k, z, r, rfl, hB, .refl⟩)
end
end Sf
namespace Sf
open PySem PySem.Spec PyProof.Rows L2 TL
section
variable {P : Program} {w : World} {K : PySem.W.Frag} {mg : Str → Option Value} {base : Heap}
abbrev HasPull (P : Program) (w : World) (K : PySem.W.Frag) (mg : Str → Option Value) (base : Heap) : Prop := Has P w K mg base 1 "_law_pull" ["_law_bag", "_law_many"] spPull
theorem has_pull (F : FnAt K mg "_law_pull" s__law_pull ["_law_bag", "_law_many"]) (B : Blt mg) : HasPull P w K mg base := F.has fun F => ok_pull F B.len
/-! ### _law_flip -/
def spFlip : Sp := fun vs H Q _ => ∃ c : Nat, vs = [.str (one c)] ∧ sgn c = true ∧ Q (.str (one (flipC c))) H
abbrev HasFlip (P : Program) (w : World) (K : PySem.W.Frag) (mg : Str → Option Value) (base : Heap) : Prop := Has P w K mg base 1 "_law_flip" ["_law_sign_here"] spFlip
theorem sc_flip : FnScope ["_law_sign_here"] ["_law_sign_here"] (defScope s__law_flip) := ⟨rfl, rfl, rfl, by decide +kernel, rfl, by decide +kernel, by decide +kernel⟩
theorem has_flip (F : FnAt K mg "_law_flip" s__law_flip ["_law_sign_here"]) : HasFlip P w K mg base := F.has fun F => by
  refine F.ok sc_flip (fun vs H Q E h => ?_) (fun cdv A outer s H vs Q E hr h => ?_)
  · obtain ⟨c, rfl, _⟩ := h
    rfl
  · obtain ⟨c, rfl, hc, q⟩ := h
    refine ⟨_, pss_one (ps_ret (pe_ifExp (pt_cmpR op_in_sign (pv 0) pe_str rfl) (pe_upper (pv 0)) (pe_lower (pv 0)))), ?_⟩
    refine ⟨_, rfl, c, _, rfl, rfl, _, rfl, ite2 (fun e => ?_) (fun e => ?_)⟩
    · have h := in_small.mp (of_decide_eq_true e)
      refine ⟨_, rfl, ⟨_, rfl⟩, _, rfl, rfl, by rw [len_one]; decide, ?_⟩
      rw [upper_one h]
      rw [flipC, if_pos h.1] at q
      exact q
    · have h : ¬ (97 ≤ c ∧ c ≤ 104) := fun z => e (decide_eq_true (in_small.mpr z))
      rw [sgn_iff] at hc
      refine ⟨_, rfl, ⟨_, rfl⟩, _, rfl, rfl, by rw [len_one]; decide, ?_⟩
      rw [lower_one (by omega)]
      rw [flipC, if_neg (by omega)] at q
      exact q
/-! ### _law_sign -/
def spSign : Sp := fun vs H Q _ => ∃ (b l : Addr) (n : Int), vs = [.ref b, .int n] ∧ Bag H b l ∧ 0 < n ∧ n ≤ 8 ∧
  ∀ (c : Nat) (H' : Hp), sgn c = true → Bag H' b l → Fx b H H' → Q (.str (one c)) H'
abbrev HasSign (P : Program) (w : World) (K : PySem.W.Frag) (mg : Str → Option Value) (base : Heap) : Prop := Has P w K mg base 2 "_law_sign" ["_law_bag", "_law_many"] spSign
theorem sc_sign : FnScope ["_law_bag", "_law_many"] ["_law_bag", "_law_many"] (defScope s__law_sign) := ⟨rfl, rfl, rfl, by decide +kernel, rfl, by decide +kernel, by decide +kernel⟩
theorem has_sign (F : FnAt K mg "_law_sign" s__law_sign ["_law_bag", "_law_many"]) (hP : HasPull P w K mg base) : HasSign P w K mg base := F.has fun F => by
  obtain ⟨fP, fdP, gP, kP, bP, GP⟩ := hP
  refine F.ok sc_sign (fun vs H Q E h => ?_) (fun cdv A outer s H vs Q E hr h => ?_)
  · obtain ⟨b, l, n, rfl, _⟩ := h
    rfl
  · obtain ⟨b, l, n, rfl, hB, hn0, hn1, q⟩ := h
    refine ⟨_, pss_one (ps_ret (pe_ix ix_str (pe_ix ix_list (pe_lst (pa_cons pe_str (pa_cons pe_str pa_nil))) (pe_call GP hr (by rfl) gP kP bP .nil pass0 (pa_cons (pv 0) (pa_cons pe_int pa_nil))) (fun _ _ => rfl))
      (pe_call GP hr (by rfl) gP kP bP .nil pass0 (pa_cons (pv 0) (pa_cons (pv 1) pa_nil))) (fun _ _ => rfl))), ?_⟩
    refine ⟨by decide, fun p np => ?_⟩
    refine ⟨_, rfl, b, l, 2, rfl, hB.new np, by decide, by decide, fun d H1 d0 d1 B1 f1 => ?_⟩
    have hp : H1 p = some (.lst [.str "abcdefgh", .str "ABCDEFGH"]) := f1 _ _ upd_same (hB.ne np)
    have hd : d = 0 ∨ d = 1 := by omega
    rcases hd with rfl | rfl
    · refine ⟨p, _, 0, _, rfl, rfl, SqL.of hp, at_of (j := 0) rfl rfl, ?_⟩
      refine ⟨_, rfl, _, rfl, b, l, n, rfl, B1, hn0, by omega, fun e H2 e0 e1 B2 f2 => ?_⟩
      refine ⟨_, e, _, rfl, rfl, (by decide +kernel), at_small e0 (by omega), ?_⟩
      exact q _ _ (sgn_iff.mpr (by omega)) B2 ((Fx.new .refl np).trans (f1.trans f2))
    · refine ⟨p, _, 1, _, rfl, rfl, SqL.of hp, at_of (j := 1) rfl rfl, ?_⟩
      refine ⟨_, rfl, _, rfl, b, l, n, rfl, B1, hn0, by omega, fun e H2 e0 e1 B2 f2 => ?_⟩
      refine ⟨_, e, _, rfl, rfl, (by decide +kernel), at_great e0 (by omega), ?_⟩
      exact q _ _ (sgn_iff.mpr (by omega)) B2 ((Fx.new .refl np).trans (f1.trans f2))
/-! ### _law_word -/
def spWord : Sp := fun vs H Q _ => ∃ (b l : Addr) (u n : Int), vs = [.ref b, .int u, .int n] ∧ Bag H b l ∧ 0 ≤ u ∧ u ≤ 1000 ∧ 0 < n ∧ n ≤ 8 ∧
  ∀ (x : Str) (H' : Hp), Wd x → x.length ≤ u.toNat → Bag H' b l → Fx b H H' → Q (.str x) H'
abbrev HasWord (P : Program) (w : World) (K : PySem.W.Frag) (mg : Str → Option Value) (base : Heap) : Prop := Has P w K mg base 3 "_law_word" ["_law_bag", "_law_upto", "_law_many"] spWord
theorem sc_word : FnScope ["_law_bag", "_law_upto", "_law_many", "_law_found", "_law_turn", "_law_sign_here"] ["_law_bag", "_law_upto", "_law_many"] (defScope s__law_word) := ⟨rfl, rfl, rfl, by decide +kernel, rfl, by decide +kernel, by decide +kernel⟩
theorem has_word (F : FnAt K mg "_law_word" s__law_word ["_law_bag", "_law_upto", "_law_many"]) (B : Blt mg) (hP : HasPull P w K mg base) (hS : HasSign P w K mg base) (hF : HasFlip P w K mg base) : HasWord P w K mg base := F.has fun F => by
  obtain ⟨fP, fdP, gP, kP, bP, GP⟩ := hP
  obtain ⟨fS, fdS, gS, kS, bS, GS⟩ := hS
  obtain ⟨fF, fdF, gF, kF, bF, GF⟩ := hF
  refine F.ok sc_word (fun vs H Q E h => ?_) (fun cdv A outer s H vs Q E hr h => ?_)
  · obtain ⟨b, l, u, n, rfl, _⟩ := h
    rfl
  · obtain ⟨b, l, u, n, rfl, hB, hu0, hu1, hn0, hn1, q⟩ := h
    have hr1 : Room 1 _ := hr.mono (by decide)
    refine ⟨_, pss_cons (ps_set (i := 3) sc_word.nd rfl (.inl rfl) pe_str)
      (pss_cons (ps_for PassesOwn.never rfl (pi_range1 rfl B.range (pa_cons (pe_call GP hr1 (by rfl) gP kP bP .nil pass0 (pa_cons (pv 0) (pa_cons (pe_op op_add (pv 1) pe_int) pa_nil))) pa_nil)) (pg_name (i := 4) sc_word.nd rfl (.inl rfl))
        (pss_cons (ps_set (i := 5) sc_word.nd rfl (.inl rfl) (pe_call GS hr (by rfl) gS kS bS .nil pass0 (pa_cons (pv 0) (pa_cons (pv 2) pa_nil))))
        (pss_cons (ps_if (PW.pt (pw_and (pt_cmpR op_ne (pv 3) pe_str (nomark _)) (pw_and1 (pt_cmpR op_eq (pe_call GP hr1 (by rfl) gP kP bP .nil pass0 (pa_cons (pv 0) (pa_cons pe_int pa_nil))) pe_int (nomark _)))))
          (pss_one (ps_set (i := 5) sc_word.nd rfl (.inl rfl) (pe_call GF hr1 (by rfl) gF kF bF .nil pass0 (pa_cons (pe_ix ix_str (pv 3) (pe_un un_neg pe_int) (fun _ _ => rfl)) pa_nil)))) pss_nil)
        (pss_one (ps_set (i := 3) sc_word.nd rfl (.inl rfl) (pe_op op_add_str (pv 3) (pv 5)))))))
      (pss_one (ps_ret (pv 3)))), ?_⟩
    refine ⟨_, rfl, _, rfl, u, 1, rfl, rfl, b, l, u + 1, rfl, hB, by omega, by omega, fun d H1 d0 d1 B1 f1 => ?_⟩
    refine ⟨d, rfl, by omega, by omega, for_range (lo := 0) (n := d.toNat) (fun i σ H2 => ∃ (x : Str) (y4 y5 : Option V), σ = [some (.ref b), some (.int u), some (.int n), some (.str x), y4, y5] ∧ Wd x ∧ x.length ≤ i ∧ Bag H2 b l ∧ Fx b H H2)
      ⟨"", none, none, rfl, wd_nil, (by decide +kernel), B1, f1⟩ ?_ ?_⟩
    · rintro i σ H2 hi ⟨x, y4, y5, rfl, hx, hlen, B2, f2⟩
      have hsz : x.length + 1 ≤ sizeLine := Nat.le_trans (Nat.add_le_add_right (Nat.le_trans hlen (by omega : i ≤ 1000)) 1) (by decide)
      refine ⟨_, rfl, _, rfl, b, l, n, rfl, B2, hn0, hn1, fun c H3 hc B3 f3 => ?_⟩
      have fin : ∀ (c : Nat) (H4 : Hp), sgn c = true → Bag H4 b l → Fx b H H4 → ∃ (x' : Str) (y4 y5 : Option V), [some (V.ref b), some (.int u), some (.int n), some (.str (x ++ one c)), some (.int (0 + i)), some (.str (one c))] = [some (.ref b), some (.int u), some (.int n), some (.str x'), y4, y5] ∧ Wd x' ∧ x'.length ≤ i + 1 ∧ Bag H4 b l ∧ Fx b H H4 :=
        fun c H4 hc B4 f4 => ⟨_, _, _, rfl, hx.app (wd_one hc), by rw [len_app, len_one]; omega, B4, f4⟩
      refine ⟨_, rfl, rfl, _, rfl, ite2 (fun e => ?_) (fun e => ?_)⟩
      · refine ⟨_, rfl, b, l, 4, rfl, B3, by decide, by decide, fun d2 H4 _ _ B4 f4 => ?_⟩
        refine ⟨rfl, _, rfl, ite2 (fun e2 => ?_) (fun e2 => ?_)⟩
        · have hne : tl x ≠ [] := str_ne fun z => by
            rw [z] at e
            simp at e
          obtain ⟨c2, hc2, hm⟩ := at_end hne
          refine ⟨_, rfl, 1, rfl, x, _, c2, rfl, rfl, by omega, hc2, c2, rfl, hx c2 hm, ?_⟩
          exact ⟨_, rfl, _, rfl, x, _, rfl, rfl, hsz, fin _ _ (flip_sgn (hx c2 hm)) B4 (f2.trans (f3.trans f4))⟩
        · exact ⟨_, rfl, _, rfl, x, _, rfl, rfl, hsz, fin _ _ hc B4 (f2.trans (f3.trans f4))⟩
      · exact iteF ⟨_, rfl, _, rfl, x, _, rfl, rfl, hsz, fin _ _ hc B3 (f2.trans f3)⟩
    · rintro σ H2 ⟨x, y4, y5, rfl, hx, hlen, B2, f2⟩
      exact ⟨_, rfl, q x H2 hx (by omega) B2 f2⟩
end
end Sf
namespace Sf
open PySem PySem.Spec PyProof.Rows L2 TL
section
variable {P : Program} {w : World} {K : PySem.W.Frag} {mg : Str → Option Value} {base : Heap}
/-! ### _law_begin -/
def spBegin (K : PySem.W.Frag) : Sp := fun vs H Q _ => ∃ (a : Addr) (ns : List Int), vs = [.ref a] ∧ SqL K H a (ns.map V.int) ∧ ∀ (b l : Addr) (H' : Hp), H b = none → Bag H' b l → Same H H' → Q (.ref b) H'
abbrev HasBegin (P : Program) (w : World) (K : PySem.W.Frag) (mg : Str → Option Value) (base : Heap) : Prop := Has P w K mg base 1 "_law_begin" ["_law_script"] (spBegin K)
theorem sc_begin : FnScope ["_law_script", "_law_salt", "_law_cell"] ["_law_script"] (defScope s__law_begin) := ⟨rfl, rfl, rfl, by decide +kernel, rfl, by decide +kernel, by decide +kernel⟩
theorem cut_ints (ns : List Int) (lo hi : Option Int) : ∃ ms : List Int, cutV (ns.map V.int) lo hi = ms.map V.int := by
  refine ⟨(ns.drop (HT.sIx (ns.map V.int).length 0 lo)).take (HT.sIx (ns.map V.int).length (ns.map V.int).length hi - HT.sIx (ns.map V.int).length 0 lo), ?_⟩
  unfold cutV
  rw [List.map_take, List.map_drop]
theorem has_begin (F : FnAt K mg "_law_begin" s__law_begin ["_law_script"]) (B : Blt mg) : HasBegin P w K mg base := F.has fun F => by
  refine F.ok sc_begin (fun vs H Q E h => ?_) (fun cdv A outer s H vs Q E hr h => ?_)
  · obtain ⟨a, ns, rfl, _⟩ := h
    rfl
  · obtain ⟨a, ns, rfl, hS, q⟩ := h
    refine ⟨_, pss_cons (ps_set (i := 1) sc_begin.nd rfl (.inl rfl) pe_int)
      (pss_cons (ps_for PassesOwn.never rfl (pi_list (pe_slice sl_list (pv 0) po_none (po_some pe_int))) (pg_name (i := 2) sc_begin.nd rfl (.inl rfl))
        (pss_one (ps_set (i := 1) sc_begin.nd rfl (.inl rfl) (pe_op op_mod (pe_op op_add (pe_op op_add (pe_op op_mul (pv 1) pe_int) (pe_op op_mod (pv 2) pe_int)) pe_int) pe_int))))
      (pss_one (ps_ret (pe_lst (pa_cons (pe_callTy call_list_of (by rfl) B.list (by decide +kernel) (pa_cons (pe_slice sl_list (pv 0) po_none (po_some pe_int)) pa_nil)) (pa_cons pe_int (pa_cons pe_int (pa_cons (pv 1) pa_nil)))))))), ?_⟩
    obtain ⟨ms, em⟩ := cut_ints ns none (some 63)
    refine ⟨_, rfl, 63, rfl, a, _, rfl, hS, fun p np => ?_⟩
    have s1 : Same H (upd H p (.lst (cutV (ns.map V.int) none (some 63)))) := same_upd np
    have hp : SqL K (upd H p (.lst (cutV (ns.map V.int) none (some 63)))) p (ms.map V.int) := SqL.of (by rw [upd_same, em])
    refine ⟨p, rfl, ⟨_, hp⟩, for_list (K := K) (a := p) (xs := ms.map V.int) (fun i σ H2 => ∃ (r : Int) (y : Option V), σ = [some (.ref a), some (.int r), y] ∧ 0 ≤ r ∧ r < 2147483647 ∧ H2 = upd H p (.lst (cutV (ns.map V.int) none (some 63))))
      ⟨977, none, rfl, by decide, by decide, rfl⟩ (fun i σ H2 _ ⟨_, _, _, _, _, e⟩ => by rw [e]; exact hp) ?_ ?_⟩
    · rintro i v σ H2 hi ⟨r, y, rfl, r0, r1, rfl⟩
      obtain ⟨z, rfl⟩ : ∃ z, v = V.int z := by
        rw [List.getElem?_map] at hi
        cases e : ms[i]? with
        | none =>
          rw [e] at hi
          cases hi
        | some z =>
          rw [e] at hi
          exact ⟨z, (Option.some.inj hi).symm⟩
      refine ⟨_, rfl, r, 1009, rfl, rfl, .inr ⟨by decide, by decide⟩, _, rfl, z, 2147483629, rfl, rfl, (by show (0 : Int) < 2147483629; decide), _, _, rfl, rfl, _, 7, rfl, rfl, _, 2147483629, rfl, rfl, (by show (0 : Int) < 2147483629; decide), ?_⟩
      have h0 : 0 ≤ (r * 1009 + z % 2147483629 + 7) % 2147483629 := Int.emod_nonneg _ (by decide)
      have h1 : (r * 1009 + z % 2147483629 + 7) % 2147483629 < 2147483629 := Int.emod_lt_of_pos _ (by decide)
      exact ⟨_, _, rfl, h0, by omega, rfl⟩
    · rintro σ H2 ⟨r, y, rfl, r0, r1, rfl⟩
      refine ⟨_, rfl, 63, rfl, a, _, rfl, s1.seq hS, fun p2 np2 => ?_⟩
      have hp2 : SqL K (upd (upd H p (.lst (cutV (ns.map V.int) none (some 63)))) p2 (.lst (cutV (ns.map V.int) none (some 63)))) p2 (ms.map V.int) := SqL.of (by rw [upd_same, em])
      have s2 := s1.trans (same_upd (o := .lst (cutV (ns.map V.int) none (some 63))) np2)
      refine ⟨p2, _, rfl, .inl hp2, fun l nl => ?_⟩
      have s3 := s2.trans (same_upd (o := .lst (ms.map V.int)) nl)
      refine ⟨_, rfl, (by show 4 ≤ sizeLine; decide), fun b nb => ?_⟩
      have s4 := s3.trans (same_upd (o := .lst [.ref l, .int 0, .int 0, .int r]) nb)
      refine q b l _ (s3.free nb) ⟨ms, 0, 0, r, upd_same, ?_, by decide, by decide, r0, r1⟩ s4
      have nlb : l ≠ b := fun z => by
        rw [← z, upd_same] at nb
        cases nb
      rw [upd_ne nlb, upd_same]
end
end Sf
namespace Sf
open PySem PySem.Spec PyProof.Rows L2 TL
section
variable {P : Program} {w : World} {K : PySem.W.Frag} {mg : Str → Option Value} {base : Heap}
/-! ### _law_same: True of two values of the same data -/
def spSame (n : Nat) : Sp := fun vs H Q _ => ∃ x y : V, vs = [x, y] ∧ Eqv H n x y ∧ ∀ H', Same H H' → Q (.bl true) H'
abbrev HasSame (P : Program) (w : World) (K : PySem.W.Frag) (mg : Str → Option Value) (base : Heap) (n : Nat) : Prop := Has P w K mg base (n + 1) "_law_same" ["_law_found", "_law_due"] (spSame n)
theorem sc_same : FnScope ["_law_found", "_law_due", "_law_one", "_law_other"] ["_law_found", "_law_due"] (defScope s__law_same) := ⟨rfl, rfl, rfl, by decide +kernel, rfl, by decide +kernel, by decide +kernel⟩
theorem all_true (n : Nat) : (List.replicate n true).all id = true := by
  induction n with
  | zero => rfl
  | succ n ih => rw [List.replicate_succ, List.all_cons, ih]; rfl
theorem has_same (F : FnAt K mg "_law_same" s__law_same ["_law_found", "_law_due"]) (B : Blt mg) : ∀ n, HasSame P w K mg base n := by
  intro n
  induction n with
  | zero =>
    refine F.has fun F => ?_
    refine F.ok sc_same (fun vs H Q E h => ?_) (fun cdv A outer s H vs Q E hr h => ?_)
    · obtain ⟨x, y, rfl, _⟩ := h
      rfl
    · obtain ⟨x, y, rfl, ⟨fx, rfl⟩, q⟩ := h
      obtain ⟨T, b1, b2, b3, ty, k1, k2, k3, k4, k5⟩ := flat_kit (K := K) (H := H) fx
      refine ⟨_, pss_cons (ps_if (pt_val (pe_callB call_isiT (by rfl) B.isinstance (by decide +kernel) (pa_cons (pv 1) (pa_cons (pe_tup (pa_cons (pe_bltn (v := .ty "list") (by rfl) B.list (by decide +kernel) rfl) (pa_cons (pe_bltn (v := .ty "tuple") (by rfl) B.tuple (by decide +kernel) rfl) pa_nil))) pa_nil)))) pss_never pss_nil)
        (pss_cons (ps_if (PW.pt (pw_or (pt_cmpR op_isN (pv 1) pe_non (nomark _)) (pw_or1 (pt_cmpR op_isN (pv 0) pe_non (nomark _))))) (pss_one (ps_ret (pe_and (pe_cmpR op_isN (pv 0) pe_non (nomark _)) (pe_one (pe_cmpR op_isN (pv 1) pe_non (nomark _)))))) pss_nil)
        (pss_cons (ps_if (PW.pt (pw_or (pt_cmpR op_ne (pe_callB call_isi (by rfl) B.isinstance (by decide +kernel) (pa_cons (pv 0) (pa_cons (pe_bltn (v := .ty "bool") (by rfl) B.bool (by decide +kernel) rfl) pa_nil))) (pe_callB call_isi (by rfl) B.isinstance (by decide +kernel) (pa_cons (pv 1) (pa_cons (pe_bltn (v := .ty "bool") (by rfl) B.bool (by decide +kernel) rfl) pa_nil))) (nomark _))
            (pw_or1 (pt_cmpR op_ne (pe_callB call_isi (by rfl) B.isinstance (by decide +kernel) (pa_cons (pv 0) (pa_cons (pe_bltn (v := .ty "int") (by rfl) B.int (by decide +kernel) rfl) pa_nil))) (pe_callB call_isi (by rfl) B.isinstance (by decide +kernel) (pa_cons (pv 1) (pa_cons (pe_bltn (v := .ty "int") (by rfl) B.int (by decide +kernel) rfl) pa_nil))) (nomark _))))) pss_never pss_nil)
        (pss_one (ps_ret (pe_and (pe_cmpR op_eq (pe_callB call_isi (by rfl) B.isinstance (by decide +kernel) (pa_cons (pv 0) (pa_cons (pe_bltn (v := .ty "str") (by rfl) B.str (by decide +kernel) rfl) pa_nil))) (pe_callB call_isi (by rfl) B.isinstance (by decide +kernel) (pa_cons (pv 1) (pa_cons (pe_bltn (v := .ty "str") (by rfl) B.str (by decide +kernel) rfl) pa_nil))) (nomark _)) (pe_one (pe_cmpR op_eq (pv 0) (pv 1) (nomark _)))))))), ?_⟩
      refine ⟨x, rfl, (by show 2 ≤ sizeLine; decide), fun p np => ?_⟩
      have s1 := same_upd (o := .tup [.ty "list", .ty "tuple"]) np
      have ty1 := TyX.same s1 fx ty
      refine ⟨x, p, _, _, [.type "list", .type "tuple"], false, rfl, upd_same, .cons (.ty _) (.cons (.ty _) .nil), ty1, kit2 k1 k2, _, rfl, iteF ?_⟩
      refine ⟨x, rfl, rfl, _, rfl, ite2 (fun e => ?_) (fun e => ?_)⟩
      · have ex : x = .non := of_decide_eq_true e
        subst ex
        refine iteT ⟨_, rfl, rfl, _, rfl, ite2 (fun _ => ⟨_, rfl, rfl, ?_⟩) (fun z => absurd (decide_eq_true rfl) z)⟩
        exact q _ s1
      · refine ⟨x, rfl, rfl, _, rfl, ite2 (fun e2 => absurd e2 e) (fun _ => ?_)⟩
        refine ⟨x, rfl, x, _, _, _, b1, rfl, .ty "bool", ty1, kit_ty k3, x, rfl, x, _, _, _, b1, rfl, .ty "bool", ty1, kit_ty k3, rfl, _, rfl, ite2 (fun z => ?_) (fun _ => ?_)⟩
        · rw [ne_bl] at z
          cases z
        · refine ⟨x, rfl, x, _, _, _, b2, rfl, .ty "int", ty1, kit_ty k4, x, rfl, x, _, _, _, b2, rfl, .ty "int", ty1, kit_ty k4, rfl, _, rfl, ite2 (fun z => ?_) (fun _ => ?_)⟩
          · rw [ne_bl] at z
            cases z
          · refine ⟨x, rfl, x, _, _, _, b3, rfl, .ty "str", ty1, kit_ty k5, x, rfl, x, _, _, _, b3, rfl, .ty "str", ty1, kit_ty k5, rfl, _, rfl, ite2 (fun z => ?_) (fun z => absurd (decide_eq_true rfl) z)⟩
            refine ⟨x, rfl, x, rfl, scal_flat fx, ?_⟩
            rw [decide_eq_true rfl]
            exact q _ s1
  | succ n ih =>
    obtain ⟨fR, fdR, gR, kR, bR, GR⟩ := ih
    refine F.has fun F => ?_
    refine F.ok sc_same (fun vs H Q E h => ?_) (fun cdv A outer s H vs Q E hr h => ?_)
    · obtain ⟨x, y, rfl, _⟩ := h
      rfl
    · obtain ⟨x, y, rfl, hE, q⟩ := h
      refine seq_by (fun σ H1 => σ = [some x, some x, none, none] ∧ flat4 x = true ∧ Same H H1) ?_ ?_
      · refine ⟨_, (pss_cons (ps_if (PW.pt (pw_or (pt_cmpR op_isN (pv 1) pe_non (nomark _)) (pw_or1 (pt_cmpR op_isN (pv 0) pe_non (nomark _))))) (pss_one (ps_ret (pe_and (pe_cmpR op_isN (pv 0) pe_non (nomark _)) (pe_one (pe_cmpR op_isN (pv 1) pe_non (nomark _)))))) pss_nil)
        (pss_cons (ps_if (PW.pt (pw_or (pt_cmpR op_ne (pe_callB call_isi (by rfl) B.isinstance (by decide +kernel) (pa_cons (pv 0) (pa_cons (pe_bltn (v := .ty "bool") (by rfl) B.bool (by decide +kernel) rfl) pa_nil))) (pe_callB call_isi (by rfl) B.isinstance (by decide +kernel) (pa_cons (pv 1) (pa_cons (pe_bltn (v := .ty "bool") (by rfl) B.bool (by decide +kernel) rfl) pa_nil))) (nomark _))
            (pw_or1 (pt_cmpR op_ne (pe_callB call_isi (by rfl) B.isinstance (by decide +kernel) (pa_cons (pv 0) (pa_cons (pe_bltn (v := .ty "int") (by rfl) B.int (by decide +kernel) rfl) pa_nil))) (pe_callB call_isi (by rfl) B.isinstance (by decide +kernel) (pa_cons (pv 1) (pa_cons (pe_bltn (v := .ty "int") (by rfl) B.int (by decide +kernel) rfl) pa_nil))) (nomark _))))) pss_never pss_nil)
        (pss_one (ps_ret (pe_and (pe_cmpR op_eq (pe_callB call_isi (by rfl) B.isinstance (by decide +kernel) (pa_cons (pv 0) (pa_cons (pe_bltn (v := .ty "str") (by rfl) B.str (by decide +kernel) rfl) pa_nil))) (pe_callB call_isi (by rfl) B.isinstance (by decide +kernel) (pa_cons (pv 1) (pa_cons (pe_bltn (v := .ty "str") (by rfl) B.str (by decide +kernel) rfl) pa_nil))) (nomark _)) (pe_one (pe_cmpR op_eq (pv 0) (pv 1) (nomark _)))))))), ?_⟩
        rintro σ H1 ⟨rfl, fx, s1⟩
        obtain ⟨T, b1, b2, b3, ty1, k1, k2, k3, k4, k5⟩ := flat_kit (K := K) (H := H1) fx
        refine ⟨x, rfl, rfl, _, rfl, ite2 (fun e => ?_) (fun e => ?_)⟩
        · have ex : x = .non := of_decide_eq_true e
          subst ex
          refine iteT ⟨_, rfl, rfl, _, rfl, ite2 (fun _ => ⟨_, rfl, rfl, ?_⟩) (fun z => absurd (decide_eq_true rfl) z)⟩
          exact q _ s1
        · refine ⟨x, rfl, rfl, _, rfl, ite2 (fun e2 => absurd e2 e) (fun _ => ?_)⟩
          refine ⟨x, rfl, x, _, _, _, b1, rfl, .ty "bool", ty1, kit_ty k3, x, rfl, x, _, _, _, b1, rfl, .ty "bool", ty1, kit_ty k3, rfl, _, rfl, ite2 (fun z => ?_) (fun _ => ?_)⟩
          · rw [ne_bl] at z
            cases z
          · refine ⟨x, rfl, x, _, _, _, b2, rfl, .ty "int", ty1, kit_ty k4, x, rfl, x, _, _, _, b2, rfl, .ty "int", ty1, kit_ty k4, rfl, _, rfl, ite2 (fun z => ?_) (fun _ => ?_)⟩
            · rw [ne_bl] at z
              cases z
            · refine ⟨x, rfl, x, _, _, _, b3, rfl, .ty "str", ty1, kit_ty k5, x, rfl, x, _, _, _, b3, rfl, .ty "str", ty1, kit_ty k5, rfl, _, rfl, ite2 (fun z => ?_) (fun z => absurd (decide_eq_true rfl) z)⟩
              refine ⟨x, rfl, x, rfl, scal_flat fx, ?_⟩
              rw [decide_eq_true rfl]
              exact q _ s1
      · intro u hu
        refine ⟨_, ps_if (pt_val (pe_callB call_isiT (by rfl) B.isinstance (by decide +kernel) (pa_cons (pv 1) (pa_cons (pe_tup (pa_cons (pe_bltn (v := .ty "list") (by rfl) B.list (by decide +kernel) rfl) (pa_cons (pe_bltn (v := .ty "tuple") (by rfl) B.tuple (by decide +kernel) rfl) pa_nil))) pa_nil))))
          (pss_cons (ps_if (PW.pt (pw_or (pt_cmpR op_ne (pe_callB call_isi (by rfl) B.isinstance (by decide +kernel) (pa_cons (pv 0) (pa_cons (pe_bltn (v := .ty "list") (by rfl) B.list (by decide +kernel) rfl) pa_nil))) (pe_callB call_isi (by rfl) B.isinstance (by decide +kernel) (pa_cons (pv 1) (pa_cons (pe_bltn (v := .ty "list") (by rfl) B.list (by decide +kernel) rfl) pa_nil))) (nomark _)) (pw_or1 (pt_cmpR op_ne (pe_callB call_isi (by rfl) B.isinstance (by decide +kernel) (pa_cons (pv 0) (pa_cons (pe_bltn (v := .ty "tuple") (by rfl) B.tuple (by decide +kernel) rfl) pa_nil))) (pe_callB call_isi (by rfl) B.isinstance (by decide +kernel) (pa_cons (pv 1) (pa_cons (pe_bltn (v := .ty "tuple") (by rfl) B.tuple (by decide +kernel) rfl) pa_nil))) (nomark _))))) pss_never pss_nil)
          (pss_one (ps_ret (pe_and (pe_cmpR op_eq (pe_callB call_len_seq (by rfl) B.len PySem.boot_len (pa_cons (pv 0) pa_nil)) (pe_callB call_len_seq (by rfl) B.len PySem.boot_len (pa_cons (pv 1) pa_nil)) (nomark _))
            (pe_one (pe_callB (cr_all rfl) (by rfl) B.all (by decide +kernel) (pa_cons (pe_lc (own := [("_law_one", 2), ("_law_other", 3)]) (g := gTup K 2 (gCons (gName 2) (gCons (gName 3) gNil))) (tt := tYes) (by rfl) sc_same.nd (RZ.pi_zipA (by rfl) B.zip (pa_cons (pv 0) (pa_cons (pv 1) pa_nil)))
              (blkOk_by (own := [("_law_one", 2), ("_law_other", 3)]) (N := ["_law_found", "_law_due", "_law_one", "_law_other"]) (sc := defScope s__law_same) (by decide +kernel))
              (fun _ _ _ _ _ => pg_tup rfl (pgs_cons (pg_name (i := 2) sc_same.nd rfl (.inl rfl)) (pgs_cons (pg_name (i := 3) sc_same.nd rfl (.inl rfl)) pgs_nil))) (fun _ _ _ _ _ => pts_nil)
              (fun _ _ _ _ _ => pe_call GR hr (by rfl) gR kR bR .nil pass0 (pa_cons (pv 2) (pa_cons (pv 3) pa_nil)))) pa_nil))))))) pss_nil, ?_⟩
        refine ⟨y, rfl, (by show 2 ≤ sizeLine; decide), fun p np => ?_⟩
        have s1 := same_upd (o := .tup [.ty "list", .ty "tuple"]) np
        rcases hE with ⟨fx, rfl⟩ | ⟨pa, pb, xs, ys, rfl, rfl, hxy, hlen, hsz, hEach⟩
        · obtain ⟨T, b1, b2, b3, ty, k1, k2, k3, k4, k5⟩ := flat_kit (K := K) (H := upd H p (.tup [.ty "list", .ty "tuple"])) fx
          exact ⟨x, p, _, _, [.type "list", .type "tuple"], false, rfl, upd_same, .cons (.ty _) (.cons (.ty _) .nil), ty, kit2 k1 k2, _, rfl, iteF (hu _ _ ⟨rfl, fx, s1⟩)⟩
        · obtain ⟨T, bl, bt, tyx, tyy, kany, kl, kt⟩ : ∃ (T : String) (bl bt : Bool), TyX K (upd H p (.tup [.ty "list", .ty "tuple"])) (.ref pa) (.type T) ∧ TyX K (upd H p (.tup [.ty "list", .ty "tuple"])) (.ref pb) (.type T) ∧
              PySem.W.kitAny K (.type T) [.type "list", .type "tuple"] = some true ∧ kitB T "list" = some bl ∧ kitB T "tuple" = some bt := by
            rcases hxy with ⟨ha, hb⟩ | ⟨ha, hb⟩
            · exact ⟨"list", true, false, .base (.lst (s1 _ _ ha)), .base (.lst (s1 _ _ hb)), kitAny_cons (kit_ty (b := "list") (r := true) (by decide +kernel)) (fun q => nomatch q) (fun _ => rfl), by decide +kernel, by decide +kernel⟩
            · exact ⟨"tuple", false, true, .base (.tup (s1 _ _ ha)), .base (.tup (s1 _ _ hb)), kitAny_cons (kit_ty (b := "list") (r := false) (by decide +kernel)) (fun _ => kitAny_cons (kit_ty (b := "tuple") (r := true) (by decide +kernel)) (fun q => nomatch q) (fun _ => rfl)) (fun q => nomatch q), by decide +kernel, by decide +kernel⟩
          refine ⟨_, p, _, _, [.type "list", .type "tuple"], true, rfl, upd_same, .cons (.ty _) (.cons (.ty _) .nil), tyy, kany, _, rfl, iteT ?_⟩
          refine ⟨_, rfl, _, _, _, _, bl, rfl, .ty "list", tyx, kit_ty kl, _, rfl, _, _, _, _, bl, rfl, .ty "list", tyy, kit_ty kl, rfl, _, rfl, ite2 (fun z => ?_) (fun _ => ?_)⟩
          · rw [ne_bl] at z
            cases z
          refine ⟨_, rfl, _, _, _, _, bt, rfl, .ty "tuple", tyx, kit_ty kt, _, rfl, _, _, _, _, bt, rfl, .ty "tuple", tyy, kit_ty kt, rfl, _, rfl, ite2 (fun z => ?_) (fun _ => ?_)⟩
          · rw [ne_bl] at z
            cases z
          have sqx : SqL K (upd H p (.tup [.ty "list", .ty "tuple"])) pa xs ∨ SqT K (upd H p (.tup [.ty "list", .ty "tuple"])) pa xs := hxy.elim (fun h => .inl (SqL.of (s1 _ _ h.1))) (fun h => .inr (SqT.of (s1 _ _ h.1)))
          have sqy : SqL K (upd H p (.tup [.ty "list", .ty "tuple"])) pb ys ∨ SqT K (upd H p (.tup [.ty "list", .ty "tuple"])) pb ys := hxy.elim (fun h => .inl (SqL.of (s1 _ _ h.2))) (fun h => .inr (SqT.of (s1 _ _ h.2)))
          refine ⟨_, rfl, pa, xs, rfl, sqx, _, rfl, pb, ys, rfl, sqy, rfl, _, rfl, ite2 (fun _ => ?_) (fun z => absurd (decide_eq_true (by rw [hlen])) z)⟩
          refine ⟨_, rfl, _, rfl, pa, pb, xs, ys, rfl, ?_⟩
          have turn : ∀ (i : Nat) (x y : V) (D T : Addr) (H2 : Hp), (upd H p (.tup [.ty "list", .ty "tuple"])) D = none → xs[i]? = some x → ys[i]? = some y → Same (upd H p (.tup [.ty "list", .ty "tuple"])) H2 → H2 D = some (.lst (List.replicate i (V.bl true))) → H2 T = none →
              ∃ x' y' : V, [x, y] ++ [] = [x', y'] ∧ Eqv (upd H2 T (.tup [x, y])) n x' y' ∧ ∀ H', Same (upd H2 T (.tup [x, y])) H' → ∃ acc, H' D = some (.lst acc) ∧ acc.length < sizeLine ∧ (Same (upd H p (.tup [.ty "list", .ty "tuple"])) (upd H' D (.lst (acc ++ [.bl true]))) ∧ (upd H' D (.lst (acc ++ [.bl true]))) D = some (.lst (List.replicate (i + 1) (V.bl true)))) := by
            intro i x y D T H2 nD hx hy s2 hD nT
            have s3 : Same H2 (upd H2 T (.tup [x, y])) := same_upd nT
            have hi : i < xs.length := (List.getElem?_eq_some_iff.mp hx).1
            refine ⟨x, y, rfl, (hEach i x y hx hy).same (s1.trans (s2.trans s3)), fun H' s4 => ⟨_, s4 _ _ (s3 _ _ hD), ?_, fun a o e => ?_, ?_⟩⟩
            · rw [List.length_replicate]
              exact lineLt_of (by omega)
            · rw [upd_ne (ne_of_none e nD)]
              exact s4 _ _ (s3 _ _ (s2 _ _ e))
            · rw [upd_same, List.replicate_succ']
          have fin : ∀ (D : Addr) (H2 : Hp), Same (upd H p (.tup [.ty "list", .ty "tuple"])) H2 → H2 D = some (.lst (List.replicate xs.length (V.bl true))) → ∃ (a : Addr) (bs : List Bool), [V.ref D] = [V.ref a] ∧ SqL K H2 a (bs.map V.bl) ∧ Q (.bl (bs.all id)) H2 := by
            intro D H2 s2 hD
            refine ⟨D, List.replicate xs.length true, rfl, SqL.of (by rw [hD, List.map_replicate]), ?_⟩
            rw [all_true]
            exact q _ (s1.trans s2)
          rcases hxy with ⟨ha, hb⟩ | ⟨ha, hb⟩
          · refine .inl ⟨SqL.of (s1 _ _ ha), SqL.of (s1 _ _ hb), fun D nD => ?_⟩
            refine lc_gen (n := xs.length) (fun i H2 => Same (upd H p (.tup [.ty "list", .ty "tuple"])) H2 ∧ H2 D = some (.lst (List.replicate i (V.bl true)))) ⟨same_upd nD, upd_same⟩ ?_ ?_ ?_ ?_
            · rintro i H2 hi ⟨s2, hD⟩
              exact ⟨xs, ys, _, _, SqL.of (s2 _ _ (s1 _ _ ha)), SqL.of (s2 _ _ (s1 _ _ hb)), List.getElem?_eq_getElem hi, List.getElem?_eq_getElem (by omega)⟩
            · rintro H2 ⟨s2, hD⟩
              exact ⟨xs, ys, SqL.of (s2 _ _ (s1 _ _ ha)), SqL.of (s2 _ _ (s1 _ _ hb)), .inl (Nat.le_refl _)⟩
            · rintro i v H2 H3 hi ⟨s2, hD⟩ ⟨T, x, y, rfl, nT, rfl, f1, f2⟩
              refine ⟨T, [x, y], rfl, .inl (.inl upd_same), rfl, x, [y], rfl, y, [], rfl, rfl, rfl, ?_⟩
              refine yes_if ?_
              exact ⟨_, rfl, _, rfl, turn i x y D T H2 nD (f1 xs (SqL.of (s2 _ _ (s1 _ _ ha)))) (f2 ys (SqL.of (s2 _ _ (s1 _ _ hb)))) s2 hD nT⟩
            · rintro H2 ⟨s2, hD⟩
              exact fin D H2 s2 hD
          · refine .inr ⟨SqT.of (s1 _ _ ha), SqT.of (s1 _ _ hb), fun D nD => ?_⟩
            refine lc_gen (n := xs.length) (fun i H2 => Same (upd H p (.tup [.ty "list", .ty "tuple"])) H2 ∧ H2 D = some (.lst (List.replicate i (V.bl true)))) ⟨same_upd nD, upd_same⟩ ?_ ?_ ?_ ?_
            · rintro i H2 hi ⟨s2, hD⟩
              exact ⟨xs, ys, _, _, SqT.of (s2 _ _ (s1 _ _ ha)), SqT.of (s2 _ _ (s1 _ _ hb)), List.getElem?_eq_getElem hi, List.getElem?_eq_getElem (by omega)⟩
            · rintro H2 ⟨s2, hD⟩
              exact ⟨xs, ys, SqT.of (s2 _ _ (s1 _ _ ha)), SqT.of (s2 _ _ (s1 _ _ hb)), .inl (Nat.le_refl _)⟩
            · rintro i v H2 H3 hi ⟨s2, hD⟩ ⟨T, x, y, rfl, nT, rfl, f1, f2⟩
              refine ⟨T, [x, y], rfl, .inl (.inl upd_same), rfl, x, [y], rfl, y, [], rfl, rfl, rfl, ?_⟩
              refine yes_if ?_
              exact ⟨_, rfl, _, rfl, turn i x y D T H2 nD (f1 xs (SqT.of (s2 _ _ (s1 _ _ ha)))) (f2 ys (SqT.of (s2 _ _ (s1 _ _ hb)))) s2 hD nT⟩
            · rintro H2 ⟨s2, hD⟩
              exact fin D H2 s2 hD
end
end Sf
namespace Sf
open PySem PySem.Spec PyProof.Rows L2 TL
section
variable {P : Program} {w : World} {K : PySem.W.Frag} {mg : Str → Option Value} {base : Heap}
/-! ### is_word -/
def isW (x : Str) : Bool := decide (x.length ≤ 60) && (tl x).all sgn
def spIsWord : Sp := fun vs H Q _ => ∃ x : Str, vs = [.str x] ∧ x.length ≤ 100000 ∧ ∀ H', Same H H' → Q (.bl (isW x)) H'
abbrev HasIsWord (P : Program) (w : World) (K : PySem.W.Frag) (mg : Str → Option Value) (base : Heap) : Prop := Has P w K mg base 1 "is_word" ["text"] spIsWord
theorem sc_isword : FnScope ["text", "sign"] ["text"] (defScope s_is_word) := ⟨rfl, rfl, rfl, by decide +kernel, rfl, by decide +kernel, by decide +kernel⟩
theorem dec_signs {c : Nat} : decide (c ∈ (Str.ofString "aAbBcCdDeEfFgGhH").cps.toList) = sgn c := by
  rw [Bool.eq_iff_iff, decide_eq_true_eq]
  exact in_signs
theorem getElem?_of_cps {x : Str} {i c : Nat} (h : x.cps[i]? = some c) : (tl x)[i]? = some c := by
  rw [← h]
  exact Array.getElem?_toList
theorem has_isword (F : FnAt K mg "is_word" s_is_word ["text"]) (B : Blt mg) {t1 t2 : Tok} (mM : mg "MOST_WORD" = some (.int 60 t1)) (mS : mg "SIGNS" = some (.str (Str.ofString "aAbBcCdDeEfFgGhH") t2)) : HasIsWord P w K mg base := F.has fun F => by
  refine F.ok sc_isword (fun vs H Q E h => ?_) (fun cdv A outer s H vs Q E hr h => ?_)
  · obtain ⟨x, rfl, _⟩ := h
    rfl
  · obtain ⟨x, rfl, hlen, q⟩ := h
    have hz : x.cps.size = (tl x).length := len_tl x
    refine ⟨_, pss_one (ps_ret (pe_and (pe_cmpR op_le (pe_callB call_len_str (by rfl) B.len PySem.boot_len (pa_cons (pv 0) pa_nil)) (pe_glob (v := .int 60) (by rfl) mM ⟨_, rfl⟩) (nomark _))
      (pe_one (pe_callB (cr_all rfl) (by rfl) B.all (by decide +kernel) (pa_cons (pe_lc (own := [("sign", 1)]) (g := gName 1) (tt := tYes) (by rfl) sc_isword.nd (pi_str (pv 0))
        (blkOk_by (own := [("sign", 1)]) (N := ["text", "sign"]) (sc := defScope s_is_word) (by decide +kernel)) (fun _ _ _ _ _ => pg_name (i := 1) sc_isword.nd rfl (.inl rfl)) (fun _ _ _ _ _ => pts_nil)
        (fun _ _ _ _ _ => pe_cmpR op_in_sign (pv 1) (pe_glob (v := .str (Str.ofString "aAbBcCdDeEfFgGhH")) (by rfl) mS ⟨_, rfl⟩) rfl)) pa_nil))))), ?_⟩
    refine ⟨_, rfl, x, rfl, line_of hlen, _, 60, rfl, rfl, _, rfl, ite2 (fun e => ?_) (fun e => ?_)⟩
    · refine ⟨_, rfl, x, rfl, fun D nD => ?_⟩
      refine lc_gen (n := x.cps.size) (fun i H2 => Same H H2 ∧ H2 D = some (.lst (((tl x).take i).map fun c => V.bl (sgn c)))) ⟨same_upd nD, upd_same⟩ ?_ ?_ ?_ ?_
      · rintro i H2 hi ⟨s2, hD⟩
        exact hi
      · rintro H2 ⟨s2, hD⟩
        exact Nat.le_refl _
      · rintro i v H2 H3 hi ⟨s2, hD⟩ ⟨rfl, c, hc, rfl⟩
        refine ⟨rfl, yes_if ?_⟩
        refine ⟨_, rfl, c, _, rfl, rfl, _, hD, ?_, fun a o e => ?_, ?_⟩
        · rw [List.length_map, List.length_take]
          exact lineLt_of (Nat.le_trans (Nat.min_le_right _ _) (by rw [← hz]; exact hlen))
        · rw [upd_ne (ne_of_none e nD)]
          exact s2 _ _ e
        · have ed : decide (c ∈ (Str.ofString "aAbBcCdDeEfFgGhH").cps.toList) = sgn c := dec_signs
          rw [upd_same, List.take_add_one, getElem?_of_cps hc, List.map_append, ed]
          rfl
      · rintro H2 ⟨s2, hD⟩
        refine ⟨D, (tl x).map sgn, rfl, SqL.of ?_, ?_⟩
        · rw [hD, List.take_of_length_le (by rw [hz]; exact Nat.le_refl _), List.map_map]
          rfl
        · have h1 := q H2 s2
          have e1 : decide (x.length ≤ 60) = true := decide_eq_true (by have := of_decide_eq_true e; omega)
          have e2 : ((tl x).map sgn).all id = (tl x).all sgn := by
            rw [List.all_map]
            rfl
          rw [e2]
          unfold isW at h1
          rw [e1, Bool.true_and] at h1
          exact h1
    · have h1 := q H (.refl H)
      have e1 : decide (x.length ≤ 60) = false := decide_eq_false (fun z => e (decide_eq_true (by omega)))
      unfold isW at h1
      rw [e1, Bool.false_and] at h1
      exact h1
theorem isW_true {x : Str} (h : Wd x) (hl : x.length ≤ 60) : isW x = true := by
  unfold isW
  rw [decide_eq_true hl, Bool.true_and, List.all_eq_true]
  exact h
end
end Sf
namespace Sf
open PySem PySem.Spec PyProof.Rows L2 TL
section
variable {X : Cx}
/-! ### text * int -/
theorem op_mul_str : OpR X (binaryOp .Mult) (fun x y H Q => ∃ (a : Str) (n : Int), x = .str a ∧ y = .int n ∧ 0 ≤ n ∧ n ≤ 1000 ∧ a.length ≤ 1000 ∧ Q (.str (Txt.mul a n)) H) := by
  intro pins s σ H x y v u Q I rx ry h
  obtain ⟨a, n, rfl, rfl, h0, h1, h2, q⟩ := h
  obtain ⟨t, rfl⟩ := rx
  obtain ⟨t', rfl⟩ := ry
  refine PySem.SB.mul ⟨?_, fun hn _ => ?_, fun _ _ => ?_⟩ fun t' k => ⟨.str _, H, I.tok k, ⟨t', rfl⟩, q⟩
  · rw [decide_eq_false (by omega), decide_eq_false (by omega)]
    rfl
  · have h3 : (2 ^ 63 - 1) / n ≥ 9223372036854775807 / 1000 := by
      show (9223372036854775807 : Int) / 1000 ≤ (2 ^ 63 - 1) / n
      have e : (2 ^ 63 - 1 : Int) = 9223372036854775807 := by decide
      rw [e]
      refine (Int.le_ediv_iff_mul_le (by omega)).mpr ?_
      have : (9223372036854775807 : Int) / 1000 * n ≤ (9223372036854775807 : Int) / 1000 * 1000 := Int.mul_le_mul_of_nonneg_left h1 (by decide)
      have e2 : (9223372036854775807 : Int) / 1000 * 1000 ≤ 9223372036854775807 := by decide
      omega
    have e3 : (9223372036854775807 : Int) / 1000 = 9223372036854775 := by decide
    omega
  · refine PyProof.Rows.short24 ?_
    have h5 : n.toNat ≤ 1000 := by omega
    exact Nat.le_trans (Nat.mul_le_mul h2 h5) (by decide)
theorem mul_len {a : Str} {n : Int} (h : 0 ≤ n) : (Txt.mul a n).length = a.length * n.toNat := by
  obtain ⟨m, rfl⟩ : ∃ m : Nat, n = (m : Int) := ⟨n.toNat, by omega⟩
  have h1 := PyProof.Rows.len_mul a (m : Int)
  rw [decide_eq_false (by omega)] at h1
  have e : (if false = true then (0 : Int) else (m : Int)) = (m : Int) := rfl
  rw [e, ← Int.natCast_mul] at h1
  rw [Int.toNat_natCast]
  exact Int.ofNat.inj h1
theorem foldl_app (a : Array Nat) : ∀ (k : Nat) (acc : Array Nat) (c : Nat), c ∈ ((List.replicate k a).foldl (· ++ ·) acc).toList → c ∈ acc.toList ∨ c ∈ a.toList
  | 0, acc, c, h => .inl h
  | k + 1, acc, c, h => by
    rw [List.replicate_succ, List.foldl_cons] at h
    rcases foldl_app a k (acc ++ a) c h with h | h
    · rw [Array.toList_append, List.mem_append] at h
      exact h
    · exact .inr h
theorem mul_mem {a : Str} {n : Int} {c : Nat} (h : c ∈ tl (Txt.mul a n)) : c ∈ tl a := by
  unfold Txt.mul at h
  split at h
  · cases h
  · split at h
    · exact h
    · rcases foldl_app a.cps n.toNat #[] c h with h | h
      · cases h
      · exact h
theorem Wd.mul {a : Str} {n : Int} (h : Wd a) : Wd (Txt.mul a n) := fun c hc => h c (mul_mem hc)
theorem tl_cut (z : Str) (lo hi : Option Int) : tl (cutS z lo hi) = ((tl z).drop (HT.sIx z.length 0 lo)).take (HT.sIx z.length z.length hi - HT.sIx z.length 0 lo) := by
  unfold cutS
  rfl
theorem Wd.cut {z : Str} {lo hi : Option Int} (h : Wd z) : Wd (cutS z lo hi) := fun c hc => by
  rw [tl_cut] at hc
  exact h c (List.mem_of_mem_drop (List.mem_of_mem_take hc))
end
end Sf
namespace Sf
open PySem PySem.Spec PyProof.Rows L2 TL
section
variable {X : Cx}
/-! ### text[::-1] -/
def revS (z : Str) : Str := ⟨(tl z).reverse.toArray⟩
theorem tl_revS (z : Str) : tl (revS z) = (tl z).reverse := rfl
theorem rev_picked (z : Str) : ((Builtin.Str.strSliceIndices none none (-1) z.length).filterMap (z.cps[·]?)) = (tl z).reverse := by
  rw [picked_rev]
  apply List.ext_getElem?
  intro i
  have hz : z.length = (tl z).length := len_tl z
  rw [PyProof.Rows.filterMap_get _ _ (fun k hk => by
    obtain ⟨j, hj, rfl⟩ := List.mem_map.mp hk
    have := List.mem_range.mp hj
    show z.length - 1 - j < z.length
    omega), List.map_map]
  by_cases h : i < z.length
  · rw [List.getElem?_reverse (by omega), List.getElem?_map, List.getElem?_range h]
    show some (z.cps.getD (z.length - 1 - i) 0) = _
    have h2 : z.length - 1 - i < z.cps.size := by show z.length - 1 - i < z.length; omega
    rw [← hz, Array.getElem?_toList]
    simp [Array.getD, h2]
  · rw [List.getElem?_eq_none (by rw [List.length_map, List.length_range]; omega), List.getElem?_eq_none (by rw [List.length_reverse, ← hz]; omega)]
def tRevS (te : TE) : TE := fun σ H Q => te σ H fun x H1 => ∃ z, x = .str z ∧ z.length ≤ sizeLine ∧ Q (.str (revS z)) H1
theorem pe_revS {e : Expr} {te : TE} {k : Nat} {p1 p2 p3 pos : Pos} (he : PE X e te) : PE X (.Subscript e (.Slice none none (some (.UnaryOp .USub (.Constant (.int 1) k p1) p2)) p3) pos) (tRevS te) := by
  refine ⟨fun pins s σ H Q I h => ?_⟩
  refine Subscript_ (thn (he.run pins s σ H _ I h) fun v s1 ⟨x, H1, I1, r1, q1⟩ => ?_)
  obtain ⟨z, ex, hz, q⟩ := q1
  subst ex
  obtain ⟨tz, rfl⟩ := r1
  have hst : PO X (some (.UnaryOp .USub (.Constant (.int 1) k p1) p2)) (tPart (tUn (rU fun i => .int (-i)) (tC (.int 1)))) := po_some (pe_un un_neg pe_int)
  refine wpAny_Slice (thn (po_none.run pins s1 σ H1 (fun o H2 => o = none ∧ H2 = H1) I1 ⟨rfl, rfl⟩) fun vl s2 ⟨l, H2, I2, pl, el, e2⟩ => ?_)
  subst el e2
  refine thn (po_none.run pins s2 σ H2 (fun o H3 => o = none ∧ H3 = H2) I2 ⟨rfl, rfl⟩) fun vu s3 ⟨u, H3, I3, pu, eu, e3⟩ => ?_
  subst eu e3
  refine thn (hst.run pins s3 σ H3 (fun o H4 => o = some (-1) ∧ H4 = H3) I3 ⟨1, rfl, -1, rfl, rfl, rfl⟩) fun vs s4 ⟨o, H4, I4, ps, eo, e4⟩ => ?_
  subst eo e4
  cases pl
  cases pu
  cases ps with
  | int _ ts =>
  have I5 : Inv X pins σ H4 { s4 with heap := s4.heap.push { cls := .type "slice", data := .fields #[.none, .none, .int (-1) ts] } } := I4.kept (t' := s4.toks) fun b ob q => Heap.get?_push_of_some _ q
  show wpAny (model X.prog X.w) X.A (subscriptTail e (.Slice none none (some (.UnaryOp .USub (.Constant (.int 1) k p1) p2)) p3) (.str z tz) (.ref s4.heap.objs.size)) (EP X pins σ Q) X.xe { s4 with heap := s4.heap.push { cls := .type "slice", data := .fields #[.none, .none, .int (-1) ts] } }
  refine tail_any (ops := [.str z tz, .ref s4.heap.objs.size]) (typeIs_str _ _ _) (PySem.F.slot_str_getitem.lookup) ?_ (by with_unfolding_all rfl)
  refine wpAny_getItem_str_slice (l := none) (u := none) (st := some (-1, ts)) ⟨_, Heap.get?_push_size _ rfl, rfl, rfl⟩ rfl ?_
  have e1 : sliceMade z tz none none (some (-1, ts)) = Made.str (revS z) := by
    unfold sliceMade slicePicked
    have h1 : ¬ (((((some ((-1 : Int), ts)).map (·.1)).getD 1 == 1) && ((Builtin.Str.strSliceIndices ((none : Option (Int × Tok)).map (·.1)) ((none : Option (Int × Tok)).map (·.1)) (((some ((-1 : Int), ts)).map (·.1)).getD 1) z.length).length == z.length)) = true) := by
      have : ((((some ((-1 : Int), ts)).map (·.1)).getD 1 == 1)) = false := rfl
      rw [this]
      simp
    rw [if_neg h1]
    show Made.str ⟨((Builtin.Str.strSliceIndices none none (-1) z.length).filterMap (z.cps[·]?)).toArray⟩ = _
    rw [rev_picked]
    rfl
  rw [e1]
  refine ⟨?_, .str _, H4, I5.tok _, ⟨_, rfl⟩, q⟩
  rw [len_tl, tl_revS, List.length_reverse, ← len_tl]
  exact hz
/-! ### text.swapcase() -/
theorem mt_swapcase : MtR X "str.swapcase" (fun x xs H Q => ∃ a, x = .str a ∧ xs = [] ∧ a.length ≤ 5592405 ∧ Q (.str (Txt.swapcase a)) H) :=
  mt0 (C := fun a => a.length ≤ 5592405) (g := fun a => .str (Txt.swapcase a)) fun a _ s _ hc h =>
    PySem.SC.swapcase (PyProof.Rows.fit_swapcase hc) (h _ (s.toks + 1) ⟨_, rfl⟩)
theorem pe_swapcase {o : Expr} {to : TE} {apos pos : Pos} (ho : PE X o to) (hbase : attributeBase o "swapcase" X.env (eval o X.env) = eval o X.env := by rfl) (hline : (apos.endLine == pos.line) = true := by rfl) :
    PE X (.Call (.Attribute o "swapcase" apos) [] [] pos) (tM0 (fun x xs H Q => ∃ a, x = .str a ∧ xs = [] ∧ a.length ≤ 5592405 ∧ Q (.str (Txt.swapcase a)) H) to) :=
  pe_m0 PySem.F.slot_str_swapcase PySem.F.type_str_swapcase mt_swapcase ho hbase hline
theorem case_sgn : ∀ c, c < 128 → sgn c = true → (if Unicode.isUpper c then PyProof.Rows.lo1 c else if Unicode.isLower c then PyProof.Rows.up1 c else c) = flipC c := by decide +kernel
theorem sgn_lt {c : Nat} (h : sgn c = true) : c < 128 := by
  rw [sgn_iff] at h
  omega
def flipS (x : Str) : Str := ⟨((tl x).map flipC).toArray⟩
theorem swap_wd {x : Str} (h : Wd x) : Txt.swapcase x = flipS x := by
  unfold Txt.swapcase
  rw [PyProof.Rows.placed_single x _ flipC fun i c hc => by
    have hc' : x.cps[i]? = some c := by simpa using hc
    have hs := h c (List.mem_of_getElem? hc)
    have hlt := sgn_lt hs
    have hk := case_sgn c hlt hs
    unfold Unicode.lowerAt
    rw [hc']
    have hne : (c == 0x3A3) = false := by rw [beq_eq_false_iff_ne]; omega
    simp only [hne, Bool.false_and, Bool.false_eq_true, if_false]
    rw [PyProof.Rows.lowerOf_ascii c hlt, PyProof.Rows.upperOf_ascii c hlt, ← hk]
    by_cases h1 : Unicode.isUpper c = true
    · rw [if_pos h1, if_pos h1]
    · rw [if_neg h1, if_neg h1]
      by_cases h2 : Unicode.isLower c = true
      · rw [if_pos h2, if_pos h2]
      · rw [if_neg h2, if_neg h2]]
  apply ext_tl
  show (x.cps.map flipC).toList = (tl x).map flipC
  rw [Array.toList_map]
theorem flipS_one (c : Nat) : flipS (one c) = one (flipC c) := rfl
theorem tl_flipS (x : Str) : tl (flipS x) = (tl x).map flipC := rfl
theorem rev_wd {x : Str} (h : Wd x) : Wd (revS x) := fun c hc => h c (List.mem_reverse.mp hc)
theorem revS_len (x : Str) : (revS x).length = x.length := by rw [len_tl, tl_revS, List.length_reverse, ← len_tl]
end
end Sf
namespace Sf
open PySem PySem.Spec PyProof.Rows L2 TL
/-! ### words as lists of codes; the stack of a walk (its head is the last sign) -/
abbrev Sg (l : List Nat) : Prop := ∀ c ∈ l, sgn c = true
theorem flip2 {c : Nat} (h : sgn c = true) : flipC (flipC c) = c := by
  rw [sgn_iff] at h
  unfold flipC
  by_cases h1 : 97 ≤ c
  · rw [if_pos h1, if_neg (by omega)]
    omega
  · rw [if_neg h1, if_pos (by omega)]
    omega
theorem flip_inj {c d : Nat} (hc : sgn c = true) (hd : sgn d = true) (h : flipC c = flipC d) : c = d := by
  rw [← flip2 hc, ← flip2 hd, h]
def pushS (s : List Nat) (c : Nat) : List Nat :=
  match s with
  | [] => [c]
  | x :: t => if x = flipC c then t else c :: x :: t
def RedS : List Nat → Prop
  | [] => True
  | [_] => True
  | x :: y :: t => y ≠ flipC x ∧ RedS (y :: t)
theorem RedS.tail {x : Nat} {t : List Nat} (h : RedS (x :: t)) : RedS t := by
  cases t with
  | nil => trivial
  | cons y t => exact h.2
theorem RedS.suffix : ∀ {a b : List Nat}, RedS (a ++ b) → RedS b
  | [], _, h => h
  | _ :: a, _, h => RedS.suffix (a := a) (RedS.tail h)
theorem pushS_red {s : List Nat} {c : Nat} (h : RedS s) : RedS (pushS s c) := by
  cases s with
  | nil => trivial
  | cons x t =>
    unfold pushS
    by_cases e : x = flipC c
    · simp only [if_pos e]
      exact h.tail
    · simp only [if_neg e]
      exact ⟨e, h⟩
theorem pushS_sg {s : List Nat} {c : Nat} (h : Sg s) (hc : sgn c = true) : Sg (pushS s c) := by
  cases s with
  | nil =>
    intro d hd
    rw [pushS, List.mem_singleton] at hd
    rw [hd]
    exact hc
  | cons x t =>
    unfold pushS
    by_cases e : x = flipC c
    · simp only [if_pos e]
      exact fun d hd => h d (List.mem_cons_of_mem _ hd)
    · simp only [if_neg e]
      intro d hd
      rcases List.mem_cons.mp hd with rfl | hd
      · exact hc
      · exact h d hd
theorem pushS_inv {s : List Nat} {c : Nat} (h : RedS s) (hs : Sg s) (hc : sgn c = true) : pushS (pushS s c) (flipC c) = s := by
  cases s with
  | nil =>
    show (if c = flipC (flipC c) then [] else _) = ([] : List Nat)
    rw [if_pos (flip2 hc).symm]
  | cons x t =>
    by_cases e : x = flipC c
    · have e1 : pushS (x :: t) c = t := by simp only [pushS, if_pos e]
      rw [e1, e]
      cases t with
      | nil => rfl
      | cons y t =>
        have hn : ¬ y = flipC (flipC c) := by
          rw [← e]
          exact h.1
        simp only [pushS, if_neg hn]
    · have e1 : pushS (x :: t) c = c :: x :: t := by simp only [pushS, if_neg e]
      rw [e1]
      simp only [pushS, if_pos (flip2 hc).symm]
def runS (s w : List Nat) : List Nat := w.foldl pushS s
theorem runS_cons (s : List Nat) (c : Nat) (w : List Nat) : runS s (c :: w) = runS (pushS s c) w := rfl
theorem runS_app (s u v : List Nat) : runS s (u ++ v) = runS (runS s u) v := List.foldl_append
theorem runS_red : ∀ {w s : List Nat}, RedS s → RedS (runS s w)
  | [], _, h => h
  | _ :: w, _, h => runS_red (w := w) (pushS_red h)
theorem runS_sg : ∀ {w s : List Nat}, Sg s → Sg w → Sg (runS s w)
  | [], _, h, _ => h
  | c :: w, _, h, hw => runS_sg (w := w) (pushS_sg h (hw c (List.mem_cons_self ..))) (fun d hd => hw d (List.mem_cons_of_mem _ hd))
def backL (w : List Nat) : List Nat := (w.map flipC).reverse
theorem backL_cons (c : Nat) (w : List Nat) : backL (c :: w) = backL w ++ [flipC c] := by
  unfold backL
  rw [List.map_cons, List.reverse_cons]
theorem backL_app (u v : List Nat) : backL (u ++ v) = backL v ++ backL u := by
  unfold backL
  rw [List.map_append, List.reverse_append]
theorem backL_sg {w : List Nat} (h : Sg w) : Sg (backL w) := fun c hc => by
  unfold backL at hc
  rw [List.mem_reverse, List.mem_map] at hc
  obtain ⟨d, hd, rfl⟩ := hc
  exact flip_sgn (h d hd)
theorem backL_back {w : List Nat} (h : Sg w) : backL (backL w) = w := by
  unfold backL
  rw [List.map_reverse, List.reverse_reverse, List.map_map]
  have e : w.map (flipC ∘ flipC) = w.map id := List.map_congr_left fun c hc => flip2 (h c hc)
  rw [e, List.map_id]
theorem run_back : ∀ {w s : List Nat}, RedS s → Sg s → Sg w → runS (runS s w) (backL w) = s
  | [], _, _, _, _ => rfl
  | c :: w, s, h, hs, hw => by
    have hc := hw c (List.mem_cons_self ..)
    rw [runS_cons, backL_cons, runS_app, run_back (w := w) (pushS_red h) (pushS_sg hs hc) (fun d hd => hw d (List.mem_cons_of_mem _ hd))]
    exact pushS_inv h hs hc
theorem pushS_of {s : List Nat} {c : Nat} (h : RedS (c :: s)) : pushS s c = c :: s := by
  cases s with
  | nil => rfl
  | cons x t => simp only [pushS, if_neg h.1]
theorem run_of_red : ∀ {w s : List Nat}, RedS (w.reverse ++ s) → runS s w = w.reverse ++ s
  | [], _, _ => rfl
  | c :: w, s, h => by
    rw [List.reverse_cons, List.append_assoc] at h ⊢
    rw [runS_cons, pushS_of (s := s) (RedS.suffix (b := c :: s) h)]
    exact run_of_red h
/-- a word reduced, as a list from its first sign -/
def shortL (w : List Nat) : List Nat := (runS [] w).reverse
theorem shortL_sg {w : List Nat} (h : Sg w) : Sg (shortL w) := fun c hc => runS_sg (s := []) (fun _ z => by cases z) h c (List.mem_reverse.mp hc)
def push (l : List Nat) (c : Nat) : List Nat := (pushS l.reverse c).reverse
theorem shortL_snoc (w : List Nat) (c : Nat) : shortL (w ++ [c]) = push (shortL w) c := by
  unfold shortL push
  rw [runS_app, List.reverse_reverse]
  rfl
theorem push_last {l : List Nat} {c : Nat} (x : Nat) : push (l ++ [x]) c = if x = flipC c then l else l ++ [x] ++ [c] := by
  unfold push
  rw [List.reverse_append]
  show (if x = flipC c then l.reverse else c :: x :: l.reverse).reverse = _
  by_cases e : x = flipC c
  · rw [if_pos e, if_pos e, List.reverse_reverse]
  · rw [if_neg e, if_neg e]
    simp
theorem push_nil (c : Nat) : push [] c = [c] := rfl
/-- two words put together where they meet -/
def glS : List Nat → List Nat → List Nat
  | x :: s, y :: b => if x = flipC y then glS s b else (y :: b).reverse ++ (x :: s)
  | [], b => b.reverse
  | x :: s, [] => x :: s
theorem RedS.join : ∀ {a : List Nat} {y : Nat} {s : List Nat}, RedS (a ++ [y]) → RedS (y :: s) → RedS (a ++ y :: s)
  | [], _, _, _, h => h
  | [x], y, s, h, k => ⟨h.1, k⟩
  | x :: z :: a, y, s, h, k => ⟨h.1, RedS.join (a := z :: a) h.2 k⟩
theorem glS_run : ∀ {b s : List Nat}, RedS b.reverse → RedS s → glS s b = runS s b
  | [], [], _, _ => rfl
  | [], _ :: _, _, _ => rfl
  | y :: b, [], h, _ => by
    have e := run_of_red (w := y :: b) (s := []) (by rw [List.append_nil]; exact h)
    rw [List.append_nil] at e
    exact e.symm
  | y :: b, x :: s, h, k => by
    rw [List.reverse_cons] at h
    by_cases e : x = flipC y
    · have e1 : pushS (x :: s) y = s := by simp only [pushS, if_pos e]
      rw [glS, if_pos e, runS_cons, e1]
      refine glS_run ?_ k.tail
      exact RedS.prefix h
    · have e1 : pushS (x :: s) y = y :: x :: s := by simp only [pushS, if_neg e]
      rw [glS, if_neg e, runS_cons, e1, List.reverse_cons, List.append_assoc]
      exact (run_of_red (RedS.join h (show RedS (y :: x :: s) from ⟨e, k⟩))).symm
where
  RedS.prefix : ∀ {a b : List Nat}, RedS (a ++ b) → RedS a
  | [], _, _ => trivial
  | [_], _, _ => trivial
  | _ :: y :: a, _, h => ⟨h.1, RedS.prefix (a := y :: a) h.2⟩
end Sf
namespace Sf
open PySem PySem.Spec PyProof.Rows L2 TL
/-! ### texts of words -/
def mkS (l : List Nat) : Str := ⟨l.toArray⟩
theorem tl_mkS (l : List Nat) : tl (mkS l) = l := rfl
theorem mkS_tl (x : Str) : mkS (tl x) = x := mk_tl x
theorem mkS_len (l : List Nat) : (mkS l).length = l.length := by rw [len_tl, tl_mkS]
theorem eq_mkS {x : Str} {l : List Nat} (h : tl x = l) : x = mkS l := ext_tl h
/-- a word undone, reduced, glued, as texts -/
def backT (x : Str) : Str := mkS (backL (tl x))
def shortT (x : Str) : Str := mkS (shortL (tl x))
def gluT (x y : Str) : Str := mkS (glS (tl x).reverse (tl y)).reverse
theorem glS_sg : ∀ {s b : List Nat}, Sg s → Sg b → Sg (glS s b)
  | x :: s, y :: b, hs, hb => by
    unfold glS
    by_cases e : x = flipC y
    · rw [if_pos e]
      exact glS_sg (fun c hc => hs c (List.mem_cons_of_mem _ hc)) (fun c hc => hb c (List.mem_cons_of_mem _ hc))
    · rw [if_neg e]
      intro c hc
      rcases List.mem_append.mp hc with hc | hc
      · exact hb c (List.mem_reverse.mp hc)
      · exact hs c hc
  | [], b, _, hb => fun c hc => hb c (List.mem_reverse.mp (by unfold glS at hc; exact hc))
  | x :: s, [], hs, _ => hs
theorem glS_len : ∀ {s b : List Nat}, (glS s b).length ≤ s.length + b.length
  | x :: s, y :: b => by
    unfold glS
    by_cases e : x = flipC y
    · rw [if_pos e]
      have := glS_len (s := s) (b := b)
      simp only [List.length_cons]
      omega
    · rw [if_neg e]
      simp only [List.length_append, List.length_reverse, List.length_cons]
      omega
  | [], b => by
    unfold glS
    simp
  | x :: s, [] => by
    unfold glS
    simp
theorem gluT_wd {x y : Str} (hx : Wd x) (hy : Wd y) : Wd (gluT x y) := fun c hc => by
  unfold gluT at hc
  rw [tl_mkS, List.mem_reverse] at hc
  exact glS_sg (fun d hd => hx d (List.mem_reverse.mp hd)) hy c hc
theorem gluT_len (x y : Str) : (gluT x y).length ≤ x.length + y.length := by
  unfold gluT
  rw [mkS_len, List.length_reverse, len_tl, len_tl]
  have := glS_len (s := (tl x).reverse) (b := tl y)
  rw [List.length_reverse] at this
  exact this
theorem backT_wd {x : Str} (h : Wd x) : Wd (backT x) := fun c hc => backL_sg h c hc
theorem backT_len (x : Str) : (backT x).length = x.length := by
  unfold backT backL
  rw [mkS_len, List.length_reverse, List.length_map, len_tl]
theorem backT_back {x : Str} (h : Wd x) : backT (backT x) = x := by
  unfold backT
  rw [tl_mkS, backL_back h, mkS_tl]
theorem runS_len : ∀ (w s : List Nat), (runS s w).length ≤ s.length + w.length
  | [], s => by simp [runS]
  | c :: w, s => by
    have h := runS_len w (pushS s c)
    rw [runS_cons]
    have h2 : (pushS s c).length ≤ s.length + 1 := by
      cases s with
      | nil => simp [pushS]
      | cons x t =>
        unfold pushS
        by_cases e : x = flipC c
        · simp only [if_pos e, List.length_cons]
          omega
        · simp only [if_neg e, List.length_cons]
          omega
    simp only [List.length_cons]
    omega
theorem shortL_len (w : List Nat) : (shortL w).length ≤ w.length := by
  unfold shortL
  rw [List.length_reverse]
  have := runS_len w []
  simpa using this
theorem glu_one {l : List Nat} {c : Nat} : (glS l.reverse [c]).reverse = push l c := by
  unfold push
  cases h : l.reverse with
  | nil => rfl
  | cons x t =>
    unfold glS pushS
    by_cases e : x = flipC c
    · simp only [if_pos e]
      cases t <;> rfl
    · simp only [if_neg e]
      rfl
end Sf
namespace Sf
open PySem PySem.Spec PyProof.Rows L2 TL
section
variable {P : Program} {w : World} {K : PySem.W.Frag} {mg : Str → Option Value} {base : Heap}
/-! ### need_word, turned, undone -/
def spNeed : Sp := fun vs H Q _ => ∃ x : Str, vs = [.str x] ∧ Wd x ∧ x.length ≤ 60 ∧ ∀ H', Same H H' → Q .non H'
abbrev HasNeed (P : Program) (w : World) (K : PySem.W.Frag) (mg : Str → Option Value) (base : Heap) : Prop := Has P w K mg base 2 "need_word" ["text"] spNeed
theorem sc_need : FnScope ["text"] ["text"] (defScope s_need_word) := ⟨rfl, rfl, rfl, by decide +kernel, rfl, by decide +kernel, by decide +kernel⟩
theorem has_need (F : FnAt K mg "need_word" s_need_word ["text"]) (hI : HasIsWord P w K mg base) : HasNeed P w K mg base := F.has fun F => by
  obtain ⟨fI, fdI, gI, kI, bI, GI⟩ := hI
  refine F.ok sc_need (fun vs H Q E h => ?_) (fun cdv A outer s H vs Q E hr h => ?_)
  · obtain ⟨x, rfl, _⟩ := h
    rfl
  · obtain ⟨x, rfl, hx, hl, q⟩ := h
    refine ⟨_, pss_one (ps_if (pt_not (pt_val (pe_call GI hr (by rfl) gI kI bI .nil pass0 (pa_cons (pv 0) pa_nil)))) pss_never pss_nil), ?_⟩
    refine ⟨_, rfl, x, rfl, by omega, fun H' s' => ⟨_, rfl, ?_⟩⟩
    rw [isW_true hx hl]
    exact iteF (q H' s')
end
end Sf
namespace Sf
open PySem PySem.Spec PyProof.Rows L2 TL
def MAt (K : PySem.W.Frag) (C : Addr) (m q : Str) (st : Stmt) (ps : List Str) : Prop := ∃ (f : Addr) (fd : FuncData), Meth K C m f ∧ Fun K m q st f fd ∧ Binds K fd ps []
def HasM (P : Program) (w : World) (K : PySem.W.Frag) (mg : Str → Option Value) (base : Heap) (C : Addr) (k : Nat) (m : Str) (ps : List Str) (sp : Sp) : Prop :=
  ∃ (f : Addr) (fd : FuncData), Meth K C m f ∧ Binds K fd ps [] ∧ FnOk P w K mg base CX0 k f fd ps sp
theorem MAt.has {P : Program} {w : World} {K : PySem.W.Frag} {mg : Str → Option Value} {base : Heap} {C : Addr} {k : Nat} {m q : Str} {st : Stmt} {ps : List Str} {sp : Sp} (h : MAt K C m q st ps)
    (ok : ∀ {f : Addr} {fd : FuncData}, Fun K m q st f fd → FnOk P w K mg base CX0 k f fd ps sp) : HasM P w K mg base C k m ps sp := by
  obtain ⟨f, fd, g, F, b⟩ := h
  exact ⟨f, fd, g, b, ok F⟩
theorem mAt_mk {K : PySem.W.Frag} {C : Addr} {m q : Str} {st : Stmt} {ps : List Str} {f : Addr} {oc : Value} {od an : Option Addr} {osl : Array (Option Value)} {kV doc pm cdv ct : Value}
    (a : PySem.W.findIn K (.ref C) m = some (some (.ref f))) (i : PySem.W.isFn K (.ref f) = true) (l : K.lookup f = some ⟨oc, od, .func (PySem.W.fnOf m q (defArgs st) (defBody st) (defScope st) .none kV doc pm an cdv ct), osl⟩)
    (c : PySem.W.codeIn K cdv q = true) (k : PySem.W.keepIn K (.ref f) = true)
    (b : ∀ (kV doc pm : Value) (an : Option Addr) (cdv ct : Value) (us : List Value), us.length = ps.length → bindArgs (PySem.W.fnOf m q (defArgs st) (defBody st) (defScope st) .none kV doc pm an cdv ct) ⟨us, []⟩ = pure (ps.zip us)) : MAt K C m q st ps :=
  ⟨f, _, ⟨a, i, k⟩, fun_mk l c k, (fun_mk l c k).binds b⟩
theorem dc_gen {J : It} {n : Nat} {g : TG} {tt : TT} {tk tv : TE} {vs : List Nat} {σ : L2.St} {H1 : Hp} {D : Addr} {Qd : Hp → Prop} (Pv : Nat → Hp → Prop) (h0 : Pv 0 (upd H1 D (.dK [])))
    (hgo : ∀ i H, i < n → Pv i H → J.go i H) (hst : ∀ H, Pv n H → J.stop n H)
    (hs : ∀ i x H H', i < n → Pv i H → J.yld i H x H' → g x (wipe σ vs) H' fun σ2 H2 => wipe σ2 vs = wipe σ vs ∧ tt σ2 H2 fun b H3 =>
      if b = true then tk σ2 H3 fun y H4 => tv σ2 H4 fun z H5 => ∃ kvs k, y = kV k ∧ H5 D = some (.dK kvs) ∧ kvs.length < sizeLine ∧ Pv (i + 1) (upd H5 D (.dK (putK kvs k z))) else Pv (i + 1) H3) (hd : ∀ H, Pv n H → Qd H) :
    ∃ W : Nat → Nat → Hp → Prop, (∃ m, W 0 m (upd H1 D (.dK []))) ∧ ∀ i m H, W i m H →
      (J.stop i H ∧ Qd H) ∨ (J.go i H ∧ ∃ Nx : Hp → Prop, (∀ H', Nx H' → ∃ m', m' < m ∧ W (i + 1) m' H') ∧ ∀ x H', J.yld i H x H' → g x (wipe σ vs) H' fun σ2 H2 => wipe σ2 vs = wipe σ vs ∧ tt σ2 H2 fun b H3 =>
        if b = true then tk σ2 H3 fun y H4 => tv σ2 H4 fun z H5 => ∃ kvs k, y = kV k ∧ H5 D = some (.dK kvs) ∧ kvs.length < sizeLine ∧ Nx (upd H5 D (.dK (putK kvs k z))) else Nx H3) := by
  refine ⟨fun i m H => m = n - i ∧ i ≤ n ∧ Pv i H, ⟨n, rfl, Nat.zero_le _, h0⟩, ?_⟩
  rintro i m H ⟨rfl, hi, p⟩
  by_cases hlt : i < n
  · exact .inr ⟨hgo i H hlt p, Pv (i + 1), fun H' p' => ⟨n - (i + 1), by omega, rfl, hlt, p'⟩, fun x H' y => hs i x H H' hlt p y⟩
  · have e : i = n := by omega
    subst e
    exact .inl ⟨hst H p, hd H p⟩
theorem kit_self {K : PySem.W.Frag} {t : Value} : PySem.W.kitOne K t t = some true := by
  unfold PySem.W.kitOne
  rw [if_pos (beq_self_eq_true t)]
end Sf
namespace Sf
open PySem PySem.Spec PyProof.Rows L2 TL
/-! ### ==, != and len of an own class -/
section
variable {X : Cx} {k : Nat} {f C : Addr} {fd : FuncData} {ps : List Str} {sp : Sp}
theorem run_fnA {A : Around} {Er : Value → Shared → Prop} {pins : List (Addr × Obj)} {σ : L2.St} {H : Hp} {s : Shared} {Q : VK} {us : List Value} {vs : List V} (F : FnOk X.prog X.w X.K X.mg X.base CX0 k f fd ps sp) (hr : Room k A) (e0 : Env0 X.prog X.w X.K X.mg X.base A X.stack s H) (hb : Binds X.K fd ps [])
    (I : Inv X pins σ H s) (r : Vals vs us) (h : sp vs H Q E0) : wpAny (model X.prog X.w) A (call (.ref f) us) (EP X pins σ Q) Er s := by
  have hl : (us ++ []).length = ps.length := by rw [List.append_nil, ← r.length]; exact F.len _ _ _ _ h
  have hbd := hb s us I.kIn hl
  rw [List.append_nil] at hbd
  refine wpAny_call (codeAny_mono (F.run A X.stack s H ⟨us, []⟩ us vs Q E0 hr e0 hbd r h) fun r s' hq => ?_)
  cases r with
  | error e => exact False.elim hq
  | ok fl =>
    cases fl with
    | ret u => exact I.after hq
    | next => exact False.elim hq
    | brk => exact False.elim hq
    | cont => exact False.elim hq
/-- a == b, both of the class at C, by its __eq__ -/
theorem op_eqOwn (F : FnOk X.prog X.w X.K X.mg X.base CX0 k f fd ps sp) (hs : PySem.W.findIn X.K (.ref C) "__eq__" = some (some (.ref f))) (hf : PySem.W.isFn X.K (.ref f) = true) (hb : Binds X.K fd ps []) (hr : Room k X.A) :
    OpR X (compareOp .Eq) (fun x y H Q => ∃ a b dx dy fs gs, x = .ref a ∧ y = .ref b ∧ H a = some (.ins C dx fs) ∧ H b = some (.ins C dy gs) ∧ sp [.ref a, .ref b] H (fun v H' => ∃ t, v = .bl t ∧ Q (.bl t) H') E0) := by
  intro pins s σ H x y v u Q I rx ry h
  obtain ⟨a, b, dx, dy, fs, gs, rfl, rfl, ha, hb', h⟩ := h
  cases rx
  cases ry
  obtain ⟨mA, J, _⟩ := ins_get I.hok ha
  obtain ⟨mB, J', _⟩ := ins_get I.hok hb'
  obtain ⟨od, J, _⟩ := J.look
  obtain ⟨od', J', _⟩ := J'.look
  obtain ⟨m, hF⟩ := I.fr
  refine PySem.W.cmp_K (op := .Eq) (tb := .ref C) hr.units0 hF I.ok.mod.kin J J'.type (by simp [PySem.W.notFirst]) hs hf ?_
  refine wpAny_mono (run_fnA (Er := X.xe) F hr I.env0 hb I (show Vals [V.ref a, V.ref b] [Value.ref a, Value.ref b] from .cons rfl (.cons rfl .nil)) h) (fun v s' hv => ?_) fun _ _ z => z
  obtain ⟨z, H', I', rz, t, rfl, q⟩ := hv
  cases rz
  exact ⟨.bl t, H', I', rfl, q⟩
theorem ifBound_ne {M : Model} {A : Around} {E : Value → Shared → Prop} {s : Shared} {K : PySem.W.Frag} {x : Addr} {ox : Obj} {od : Option Obj} {args : List Value} {Q : Option Value → Shared → Prop} (X : K.In s.heap) (I : PySem.W.InstAt s.heap x ox C od) (hs : PySem.W.findIn K (.ref C) "__ne__" = some (some (.builtin "object.__ne__")))
    (h : wpAny M A (call (.builtin "object.__ne__") (.ref x :: args)) (fun v => Q (some v)) E s) : wpAny M A (callSpecialIfBound? (.ref x) "__ne__" args) Q E s := by
  simp only [callSpecialIfBound?, bindSpecialIfBound?]
  refine wpAny_holding (wpAny_bind (wpAny_bind (wpAny_bind (I.type.here ((PySem.W.looks_findIn X hs).here ?_)))))
  refine wpAny_bind (wpAny_askSetting (wpAny_ite ?_))
  have fin : wpAny M A (call (.builtin "object.__ne__") ([.ref x] ++ args) >>= fun v => pure (some v)) Q E s := wpAny_bind (wpAny_mono h (fun v s' h' => wpAny_pure h') fun _ _ h' => h')
  split
  · exact wpAny_bind (wpAny_of_eq (PySem.F.cmp_object.ne.bind _) (wpAny_pure (by exact fin)))
  · exact wpAny_tryCatch (wpAny_bind (wpAny_of_eq (PySem.F.cmp_object.ne.bind _) (wpAny_pure (by exact fin))))
/-- a != b, both of the class at C, by its __eq__ -/
theorem op_neOwn (F : FnOk X.prog X.w X.K X.mg X.base CX0 k f fd ps sp) (hs : PySem.W.findIn X.K (.ref C) "__eq__" = some (some (.ref f))) (hf : PySem.W.isFn X.K (.ref f) = true) (hb : Binds X.K fd ps []) (hn : PySem.W.findIn X.K (.ref C) "__ne__" = some (some (.builtin "object.__ne__")))
    (hm : PySem.W.mroIn X.K C (.type "object") = some true) (hr : Room (k + 1) X.A) :
    OpR X (compareOp .NotEq) (fun x y H Q => ∃ a b dx dy fs gs, x = .ref a ∧ y = .ref b ∧ H a = some (.ins C dx fs) ∧ H b = some (.ins C dy gs) ∧ sp [.ref a, .ref b] H (fun v H' => ∃ t, v = .bl t ∧ Q (.bl (!t)) H') E0) := by
  intro pins s σ H x y v u Q I rx ry h
  obtain ⟨a, b, dx, dy, fs, gs, rfl, rfl, ha, hb', h⟩ := h
  cases rx
  cases ry
  obtain ⟨mA, J, _⟩ := ins_get I.hok ha
  obtain ⟨mB, J', _⟩ := ins_get I.hok hb'
  obtain ⟨od, J, _⟩ := J.look
  obtain ⟨od', J', _⟩ := J'.look
  have hu1 : X.A.in1.units < cLine := hr.in1.units0
  have one : wpAny (model X.prog X.w) X.A (tryCompare (.ref a) (cmpInfo .NotEq).2.1 (.ref b)) (fun r s' => ∃ v, r = some v ∧ EP X pins σ Q v s') X.xe s := by
    unfold tryCompare
    refine wpAny_bind (ifBound_ne I.kIn J hn ?_)
    refine wpAny_call (codeAny_call_builtin PySem.F.cmp_object.ne.plain PySem.F.cmpEntry_ne (PySem.W.check_slot PySem.F.cmpKind_ne PySem.F.cmpSplit_ne (J.type.andThen (PySem.W.looks_mroIn I.kIn hm)) (PySem.F.cmpArgs_ne _ _) ?_))
    unfold Builtin.«object.__ne__»
    refine wpAny_bind (wpAny_of_eq (a := (.ref a, [.ref b])) rfl ?_)
    dsimp only
    refine wpAny_bind (wpAny_cRoomFor hu1 ?_)
    refine wpAny_bind (PySem.W.ifBound_K I.kIn J hs hf ?_)
    refine wpAny_mono (run_fnA F hr.in1 I.env0.in1 hb I (show Vals [V.ref a, V.ref b] [Value.ref a, Value.ref b] from .cons rfl (.cons rfl .nil)) h) (fun v s' hv => ?_) fun _ _ z => z
    obtain ⟨z, H', I', rz, t, rfl, q⟩ := hv
    cases rz
    refine wpAny_bind (wpAny_truthy_bool ?_)
    exact wpAny_pure (wpAny_pure ⟨_, rfl, .bl (!t), H', I', rfl, q⟩)
  show wpAny (model X.prog X.w) X.A (richCompare .NotEq (.ref a) (.ref b)) _ _ _
  unfold richCompare
  simp only [oneThing_ref]
  refine wpAny_holding (wpAny_bind (wpAny_cRoomFor hr.units0 ?_))
  refine wpAny_bind (J.type.here (wpAny_bind (J'.type.here ?_)))
  split
  · rename_i q
    simp at q
  · refine wpAny_bind (wpAny_pure ?_)
    simp only [Bool.false_eq_true, if_false]
    refine wpAny_bind (wpAny_mono one (fun r s' z => ?_) fun _ _ e => e)
    obtain ⟨v, rfl, hq⟩ := z
    exact wpAny_pure hq
/-- len(a), a of the class at C, by its __len__ -/
theorem call_lenOwn (F : FnOk X.prog X.w X.K X.mg X.base CX0 k f fd ps sp) (hs : PySem.W.findIn X.K (.ref C) "__len__" = some (some (.ref f))) (hf : PySem.W.isFn X.K (.ref f) = true) (hb : Binds X.K fd ps []) (hr : Room (k + 1) X.A) :
    CallR X (.builtin "len") (fun xs H Q => ∃ a dx fs, xs = [.ref a] ∧ H a = some (.ins C dx fs) ∧ sp [.ref a] H (fun v H' => ∃ n : Nat, v = .int (n : Int) ∧ n ≤ sizeLine ∧ Q (.int (n : Int)) H') E0) := by
  intro pins s σ H xs us Q I r h
  obtain ⟨a, dx, fs, rfl, ha, h⟩ := h
  obtain ⟨u1, rfl, r1⟩ := vals1 r
  cases r1
  obtain ⟨mA, J, _⟩ := ins_get I.hok ha
  obtain ⟨od, J, _⟩ := J.look
  obtain ⟨m, hF⟩ := I.fr
  refine PySem.W.len_K hF I.ok.mod.kin J hs hf ?_
  refine wpAny_mono (run_fnA F hr.in1 I.env0.in1 hb I (show Vals [V.ref a] [Value.ref a] from .cons rfl .nil) h) (fun v s' hv => ?_) fun _ _ z => z
  obtain ⟨z, H', I', rz, n, rfl, hn, q⟩ := hv
  obtain ⟨t, rfl⟩ := rz
  have h63 : (n : Int) < 2 ^ 63 := by
    have := line63
    have : n < 2 ^ 63 := Nat.lt_of_le_of_lt hn this
    exact_mod_cast this
  exact ⟨⟨Int.natCast_nonneg n, h63⟩, .int (n : Int), H', I'.tok _, ⟨_, rfl⟩, q⟩
end
end Sf
namespace Sf
open PySem PySem.Spec PyProof.Rows L2 TL
section
variable {X : Cx}
/-! ### name = {k: v for ..} on one line, the name a local -/
theorem ps_setDc {i : Nat} {y : Str} {py : Pos} {kx vx tg iter : Expr} {ifs : List Expr} {scope : Scope} {own : List (Str × Nat)} {pos spos : Pos} {wi : TI} {g : TG} {tt : TT} {tk tv : TE} (hc : X.calm = true) (hN : X.N.Nodup) (hy : X.N[i]? = some y) (hyl : X.env.scope.names.lookup y = some .local)
    (hsw : swapsWith (.DictComp kx vx [⟨tg, iter, ifs, 0⟩] scope pos) (some (.Name y py)) spos.line X.env = pure true) (hi : PI X tg iter wi) (ok : BlkOk X.N X.env.scope scope own)
    (hg : ∀ (s : Shared) (H : Hp) (C : Addr) (cl : List (Str × Addr)) (fp : List Addr), PG (X.blk s H scope (compEnvC scope cl C X.env) fp) tg g) (ht : ∀ (s : Shared) (H : Hp) (C : Addr) (cl : List (Str × Addr)) (fp : List Addr), PTs (X.blk s H scope (compEnvC scope cl C X.env) fp) ifs tt)
    (hk : ∀ (s : Shared) (H : Hp) (C : Addr) (cl : List (Str × Addr)) (fp : List Addr), PE (X.blk s H scope (compEnvC scope cl C X.env) fp) kx tk)
    (he : ∀ (s : Shared) (H : Hp) (C : Addr) (cl : List (Str × Addr)) (fp : List Addr), PE (X.blk s H scope (compEnvC scope cl C X.env) fp) vx tv) (hs : ∀ x, foldedSetIterable iter X.env x = pure x := by intro _; rfl) :
    PS X (.Assign [.Name y py] (.DictComp kx vx [⟨tg, iter, ifs, 0⟩] scope pos) spos) (tAsg (tDc wi g tt tk tv (own.map (·.2))) (gName i)) := by
  refine ⟨fun pins s σ H D I h => ?_⟩
  rw [exec_Assign_Name_used _ _ _ _ hsw]
  refine wpAny_bind (wpAny_standAt (wpAny_bind ?_))
  show wpAny _ X.A (do let _ ← comprehension (.DictComp kx vx [⟨tg, iter, ifs, 0⟩] scope pos) scope X.env (firstIterPos [⟨tg, iter, ifs, 0⟩] pos) newDict false (eval iter X.env) (some (assign (.Name y py) X.env))) _ _ s
  have h : tDc wi g tt tk tv (own.map (·.2)) σ H (fun x H1 => gName i x σ H1 D.nx) := h
  refine wpAny_bind (thn (dc_core (Qf := fun _ s' => SP X pins D .next s') hc hN I hi ok hg ht hk he hs h fun L C s' m H' I' q hn f => ?_) fun _ s' hq => wpAny_pure (wpAny_pure hq))
  show wpAny _ _ (assign (.Name y py) X.env (.ref L)) _ _ _
  refine wpAny_assign_Name (store_ok2 (v := V.ref L) I' hN hy (.inl hyl) rfl (fun s2 I2 ⟨a, sb, ha⟩ => ?_) (.inr hyl))
  obtain ⟨f0, f1, f2, f3, f4, f5⟩ := f
  have haC : C ≠ a := by
    rcases ha with z | z
    · rw [z]; exact f1
    · exact fun e => f4 y a z e.symm
  refine ⟨m, hn.sameBut sb haC, fun h3 sb3 => ?_⟩
  exact ⟨_, H', I2.turned (t' := s2.toks) (fun b o hb e => (sb3.2 b hb).trans e) f0 f1 f3 f4 f5, q⟩
theorem swD_true {kx vx : Expr} {gs : List Comprehension} {scope : Scope} {pos py : Pos} {y : Str} {l : Nat} {env : Env} (hk : env.scope.kind = .function) (hy : env.scope.names.lookup y = some .local) (hl : (py.line == pos.line) = true)
    (ha : (scope.names.any fun (n, k) => n == y && (k == .local || k == .cell)) = false) : swapsWith (.DictComp kx vx gs scope pos) (some (.Name y py)) l env = pure true := by
  have ky : env.kindOf y = some .local := hy
  have hb : env.blockKind = .function := by unfold Env.blockKind; rw [hk]; rfl
  unfold swapsWith
  simp only [hb, ky, ha, Expr.pos, hl]
  rfl
end
end Sf
namespace Sf
open PySem PySem.Spec PyProof.Rows L2 TL
/-! ### the readings, step by step -/
theorem pe_gS {X : Cx} {x z : Str} {t : Tok} {pos : Pos} (hg : Gl X x) (hm : X.mg x = some (.str z t)) (hd : (x == ("__debug__" : Str)) = false := by decide) : PE X (.Name x pos) (tC (.str z)) := pe_glob (v := .str z) hg hm ⟨t, rfl⟩ hd
theorem pe_gI {X : Cx} {x : Str} {z : Int} {t : Tok} {pos : Pos} (hg : Gl X x) (hm : X.mg x = some (.int z t)) (hd : (x == ("__debug__" : Str)) = false := by decide) : PE X (.Name x pos) (tC (.int z)) := pe_glob (v := .int z) hg hm ⟨t, rfl⟩ hd
/-- a new object at p -/
structure Nw (p : Addr) (H H1 : Hp) : Prop where
  nn : H p = none
  off : ∀ a, a ≠ p → H1 a = H a
/-- all but what stands at p is as it was -/
def Of (p : Addr) (H H1 : Hp) : Prop := ∀ a, a ≠ p → H1 a = H a
theorem Nw.at {p a : Addr} {H H1 : Hp} {o : HO} (n : Nw p H H1) (h : H a = some o) : H1 a = some o := by
  rw [n.off a (ne_of_none h n.nn)]
  exact h
theorem Nw.same {p : Addr} {H H1 : Hp} (n : Nw p H H1) : Same H H1 := fun _ _ h => n.at h
theorem Nw.ne {p a : Addr} {H H1 : Hp} {o : HO} (n : Nw p H H1) (h : H a = some o) : a ≠ p := ne_of_none h n.nn
theorem _root_.L2.Same.at {a : Addr} {H H1 : Hp} {o : HO} (n : Same H H1) (h : H a = some o) : H1 a = some o := n _ _ h
theorem Of.at {p a : Addr} {H H1 : Hp} {o : HO} (n : Of p H H1) (ne : a ≠ p) (h : H a = some o) : H1 a = some o := by
  rw [n a ne]
  exact h
theorem Fx.at {b a : Addr} {H H1 : Hp} {o : HO} (n : Fx b H H1) (ne : a ≠ b) (h : H a = some o) : H1 a = some o := n _ _ h ne
theorem Nw.mk' {p : Addr} {H : Hp} {o : HO} (h : H p = none) : Nw p H (upd H p o) := ⟨h, fun _ n => upd_ne n⟩
theorem _root_.L2.Same.off {p : Addr} {H H1 H2 : Hp} (s : Same H H1) (o : Of p H1 H2) (n : H p = none) : Same H H2 := fun a u h => o.at (ne_of_none h n) (s _ _ h)
theorem _root_.L2.Same.nw {p : Addr} {H H1 H2 : Hp} (s : Same H H1) (o : Nw p H1 H2) : Same H H2 := s.trans o.same
theorem Of.mk' {p : Addr} {H : Hp} {o : HO} : Of p H (upd H p o) := fun _ n => upd_ne n
theorem Bag.nw {H H1 : Hp} {b l p : Addr} (h : Bag H b l) (n : Nw p H H1) : Bag H1 b l := h.same n.same
theorem Bag.off {H H1 : Hp} {b l p : Addr} (h : Bag H b l) (n1 : p ≠ b) (n2 : p ≠ l) (o : Of p H H1) : Bag H1 b l := by
  obtain ⟨ns, k, z, r, h⟩ := h
  exact ⟨ns, k, z, r, o.at n1.symm h.hb, o.at n2.symm h.hl, h.k0, h.z0, h.r0, h.r1⟩
theorem Fx.nw {b p : Addr} {H H1 H2 : Hp} (f : Fx b H H1) (n : Nw p H1 H2) : Fx b H H2 := f.same n.same
theorem Fx.off {b p : Addr} {H H1 H2 : Hp} (f : Fx b H H1) (o : Of p H1 H2) (n : H p = none) : Fx b H H2 := fun a u e hb => o.at (ne_of_none e n) (f a u e hb)
section
variable {σ : L2.St} {H : Hp} {Q : VK} {D : Ends} {K : PySem.W.Frag}
theorem w_var {i : Nat} {v : V} (h : σ[i]? = some (some v)) (q : Q v H) : tVar i σ H Q := ⟨v, h, q⟩
theorem w_c {v : V} (q : Q v H) : tC v σ H Q := q
theorem w_op {r : R2} {ta tb : TE} (q : ta σ H fun x H1 => tb σ H1 fun y H2 => r x y H2 Q) : tOp r ta tb σ H Q := q
theorem w_un {r : V → Hp → VK → Prop} {ta : TE} (q : ta σ H fun x H1 => r x H1 Q) : tUn r ta σ H Q := q
theorem w_i0 {g : Int → Int → V} {i j : Int} (q : Q (g i j) H) : rI0 g (.int i) (.int j) H Q := ⟨i, j, rfl, rfl, q⟩
theorem w_i {C : Int → Int → Prop} {g : Int → Int → V} {i j : Int} (c : C i j) (q : Q (g i j) H) : rI C g (.int i) (.int j) H Q := ⟨i, j, rfl, rfl, c, q⟩
theorem w_u {g : Int → V} {i : Int} (q : Q (g i) H) : rU g (.int i) H Q := ⟨i, rfl, q⟩
theorem dec_int (i j : Int) : decide (V.int i = V.int j) = decide (i = j) := by
  by_cases h : i = j
  · subst h; simp
  · rw [decide_eq_false h, decide_eq_false (fun e => h (V.int.inj e))]
theorem dec_str (i j : Str) : decide (V.str i = V.str j) = decide (i = j) := by
  by_cases h : i = j
  · subst h; simp
  · rw [decide_eq_false h, decide_eq_false (fun e => h (V.str.inj e))]
theorem dec_bl (i j : Bool) : decide (V.bl i = V.bl j) = decide (i = j) := by
  by_cases h : i = j
  · subst h; simp
  · rw [decide_eq_false h, decide_eq_false (fun e => h (V.bl.inj e))]
theorem w_eqI {i j : Int} (q : Q (.bl (decide (i = j))) H) : rEq (.int i) (.int j) H Q := ⟨rfl, by rw [dec_int]; exact q⟩
theorem w_neI {i j : Int} (q : Q (.bl (!decide (i = j))) H) : rNe (.int i) (.int j) H Q := ⟨rfl, by rw [dec_int]; exact q⟩
theorem w_eqS {i j : Str} (q : Q (.bl (decide (i = j))) H) : rEq (.str i) (.str j) H Q := ⟨rfl, by rw [dec_str]; exact q⟩
theorem w_neS {i j : Str} (q : Q (.bl (!decide (i = j))) H) : rNe (.str i) (.str j) H Q := ⟨rfl, by rw [dec_str]; exact q⟩
theorem w_eqB {i j : Bool} (q : Q (.bl (decide (i = j))) H) : rEq (.bl i) (.bl j) H Q := ⟨rfl, by rw [dec_bl]; exact q⟩
theorem w_neB {i j : Bool} (q : Q (.bl (!decide (i = j))) H) : rNe (.bl i) (.bl j) H Q := ⟨rfl, by rw [dec_bl]; exact q⟩
/-! texts -/
def rAddStr : R2 := fun x y H Q => ∃ i j, x = .str i ∧ y = .str j ∧ i.length + j.length ≤ sizeLine ∧ Q (.str (i ++ j)) H
theorem op_addS {X : Cx} : OpR X (binaryOp .Add) rAddStr := op_add_str
theorem w_addS {i j : Str} (h : i.length + j.length ≤ sizeLine) (q : Q (.str (i ++ j)) H) : rAddStr (.str i) (.str j) H Q := ⟨i, j, rfl, rfl, h, q⟩
def rInSign : R2 := fun x y H Q => ∃ (c : Nat) (z : Str), x = .str ⟨#[c]⟩ ∧ y = .str z ∧ Q (.bl (decide (c ∈ z.cps.toList))) H
theorem op_inSg {X : Cx} : OpR X (compareOp .In) rInSign := op_in_sign
theorem w_inSg {c : Nat} {z : Str} (q : Q (.bl (decide (c ∈ z.cps.toList))) H) : rInSign (.str (one c)) (.str z) H Q := ⟨c, z, rfl, rfl, q⟩
def rNotInSign : R2 := fun x y H Q => ∃ (c : Nat) (z : Str), x = .str ⟨#[c]⟩ ∧ y = .str z ∧ Q (.bl (!decide (c ∈ z.cps.toList))) H
theorem op_notInSg {X : Cx} : OpR X (compareOp .NotIn) rNotInSign := op_notIn_sign
theorem w_notInSg {c : Nat} {z : Str} (q : Q (.bl (!decide (c ∈ z.cps.toList))) H) : rNotInSign (.str (one c)) (.str z) H Q := ⟨c, z, rfl, rfl, q⟩
def rIsNone : R2 := fun x y H Q => y = .non ∧ Q (.bl (decide (x = .non))) H
theorem op_isNn {X : Cx} : OpR X (compareOp .Is) rIsNone := op_isN
theorem w_isN {x : V} (q : Q (.bl (decide (x = .non))) H) : rIsNone x .non H Q := ⟨rfl, q⟩
theorem w_isNI {i : Int} (q : Q (.bl false) H) : rIsNone (.int i) .non H Q := ⟨rfl, by rw [decide_eq_false (fun z => nomatch z)]; exact q⟩
theorem w_isNN (q : Q (.bl true) H) : rIsNone .non .non H Q := ⟨rfl, by rw [decide_eq_true rfl]; exact q⟩
def rNotNone : R2 := fun x y H Q => y = .non ∧ Q (.bl (!decide (x = .non))) H
theorem op_notNn {X : Cx} : OpR X (compareOp .IsNot) rNotNone := op_notN
theorem w_notN {x : V} (q : Q (.bl (!decide (x = .non))) H) : rNotNone x .non H Q := ⟨rfl, q⟩
theorem w_notNI {i : Int} (q : Q (.bl true) H) : rNotNone (.int i) .non H Q := ⟨rfl, by rw [decide_eq_false (fun z => nomatch z)]; exact q⟩
theorem w_notNN (q : Q (.bl false) H) : rNotNone .non .non H Q := ⟨rfl, by rw [decide_eq_true rfl]; exact q⟩
theorem w_slS {z : Str} {lo hi : Option Int} (h : z.length ≤ sizeLine) (q : Q (.str (cutS z lo hi)) H) : rSlS (.str z) lo hi H Q := ⟨z, rfl, h, q⟩
theorem w_sl {r : V → Option Int → Option Int → Hp → VK → Prop} {te : TE} {tl th : TO} (q : te σ H fun x H1 => tl σ H1 fun l H2 => th σ H2 fun u H3 => r x l u H3 Q) : tSl r te tl th σ H Q := q
theorem w_nopart {Q : Option Int → Hp → Prop} (q : Q none H) : tNoPart σ H Q := q
def kPart (Q : Option Int → Hp → Prop) : VK := fun x H1 => ∃ i, x = .int i ∧ Q (some i) H1
theorem w_part {t : TE} {Q : Option Int → Hp → Prop} (q : t σ H (kPart Q)) : tPart t σ H Q := q
theorem w_kpart {i : Int} {Q : Option Int → Hp → Prop} (q : Q (some i) H) : kPart Q (.int i) H := ⟨i, rfl, q⟩
theorem w_ixS {z : Str} {i : Int} {c : Nat} (hl : z.length ≤ sizeLine) (h : atI z.cps.toList i = some c) (q : Q (.str (one c)) H) : rIxS (.str z) (.int i) H Q := ⟨z, i, c, rfl, rfl, hl, h, q⟩
theorem w_ixL {p : Addr} {xs : List V} {i : Int} {v : V} (h : H p = some (.lst xs)) (e : atI xs i = some v) (q : Q v H) : rIxL K (.ref p) (.int i) H Q := ⟨p, xs, i, v, rfl, rfl, SqL.of h, e, q⟩
theorem w_ixT {p : Addr} {xs : List V} {i : Int} {v : V} (h : H p = some (.tup xs)) (e : atI xs i = some v) (q : Q v H) : rIxT K (.ref p) (.int i) H Q := ⟨p, xs, i, v, rfl, rfl, SqT.of h, e, q⟩
/-! truth -/
def kB (Q : Bool → Hp → Prop) : VK := fun x H' => ∃ k, x = .bl k ∧ Q k H'
theorem w_test {t : TE} {Q : Bool → Hp → Prop} (q : t σ H (kB Q)) : tTest t σ H Q := q
theorem w_tB {t : TE} {Q : Bool → Hp → Prop} (q : t σ H (kB Q)) : tB t σ H Q := q
theorem w_kB {c : Bool} {Q : Bool → Hp → Prop} (q : Q c H) : kB Q (.bl c) H := ⟨c, rfl, q⟩
def kAnd (u : TT) (σ : L2.St) (Q : Bool → Hp → Prop) : Bool → Hp → Prop := fun c H1 => if c = true then u σ H1 Q else Q false H1
theorem w_and {t u : TT} {Q : Bool → Hp → Prop} (q : t σ H (kAnd u σ Q)) : tAnd t u σ H Q := q
theorem w_andT {u : TT} {Q : Bool → Hp → Prop} (q : u σ H Q) : kAnd u σ Q true H := iteT q
theorem w_andF {u : TT} {Q : Bool → Hp → Prop} (q : Q false H) : kAnd u σ Q false H := iteF q
theorem w_and2 {p : Prop} [Decidable p] {u : TT} {Q : Bool → Hp → Prop} (h1 : p → u σ H Q) (h2 : ¬ p → Q false H) : kAnd u σ Q (decide p) H :=
  ite2 (fun e => h1 (of_decide_eq_true e)) fun e => h2 fun z => e (decide_eq_true z)
theorem w_andN2 {p : Prop} [Decidable p] {u : TT} {Q : Bool → Hp → Prop} (h1 : ¬ p → u σ H Q) (h2 : p → Q false H) : kAnd u σ Q (!decide p) H := by
  by_cases h : p
  · rw [decide_eq_true h]; exact iteF (h2 h)
  · rw [decide_eq_false h]; exact iteT (h1 h)
theorem w_andB {b : Bool} {u : TT} {Q : Bool → Hp → Prop} (h1 : b = true → u σ H Q) (h2 : b = false → Q false H) : kAnd u σ Q b H := by
  cases b with
  | true => exact iteT (h1 rfl)
  | false => exact iteF (h2 rfl)
def kOr (u : TT) (σ : L2.St) (Q : Bool → Hp → Prop) : Bool → Hp → Prop := fun c H1 => if c = true then Q true H1 else u σ H1 Q
theorem w_or {t u : TT} {Q : Bool → Hp → Prop} (q : t σ H (kOr u σ Q)) : tOr t u σ H Q := q
theorem w_orT {u : TT} {Q : Bool → Hp → Prop} (q : Q true H) : kOr u σ Q true H := iteT q
theorem w_orF {u : TT} {Q : Bool → Hp → Prop} (q : u σ H Q) : kOr u σ Q false H := iteF q
theorem w_or2 {p : Prop} [Decidable p] {u : TT} {Q : Bool → Hp → Prop} (h1 : p → Q true H) (h2 : ¬ p → u σ H Q) : kOr u σ Q (decide p) H :=
  ite2 (fun e => h1 (of_decide_eq_true e)) fun e => h2 fun z => e (decide_eq_true z)
theorem w_orN2 {p : Prop} [Decidable p] {u : TT} {Q : Bool → Hp → Prop} (h1 : ¬ p → Q true H) (h2 : p → u σ H Q) : kOr u σ Q (!decide p) H := by
  by_cases h : p
  · rw [decide_eq_true h]; exact iteF (h2 h)
  · rw [decide_eq_false h]; exact iteT (h1 h)
theorem w_orB {b : Bool} {u : TT} {Q : Bool → Hp → Prop} (h1 : b = true → Q true H) (h2 : b = false → u σ H Q) : kOr u σ Q b H := by
  cases b with
  | true => exact iteT (h1 rfl)
  | false => exact iteF (h2 rfl)
def kNot (Q : Bool → Hp → Prop) : Bool → Hp → Prop := fun c H1 => Q (!c) H1
theorem w_not {t : TT} {Q : Bool → Hp → Prop} (q : t σ H (kNot Q)) : tNot t σ H Q := q
theorem w_kNot {c : Bool} {Q : Bool → Hp → Prop} (q : Q (!c) H) : kNot Q c H := q
theorem w_kNotT {Q : Bool → Hp → Prop} (q : Q false H) : kNot Q true H := q
theorem w_kNotF {Q : Bool → Hp → Prop} (q : Q true H) : kNot Q false H := q
theorem w_kNotN {p : Prop} [Decidable p] {Q : Bool → Hp → Prop} (q : Q (decide p) H) : kNot Q (!decide p) H := by
  show Q (!!decide p) H
  rw [Bool.not_not]
  exact q
/-! truth as values -/
def kAndV (tb : TE) (σ : L2.St) (Q : VK) : VK := fun x H1 => ∃ c, x = .bl c ∧ if c = true then tb σ H1 Q else Q (.bl false) H1
theorem w_andV {ta tb : TE} (q : ta σ H (kAndV tb σ Q)) : tAndV ta tb σ H Q := q
theorem w_andVT {tb : TE} (q : tb σ H Q) : kAndV tb σ Q (.bl true) H := ⟨true, rfl, iteT q⟩
theorem w_andVF {tb : TE} (q : Q (.bl false) H) : kAndV tb σ Q (.bl false) H := ⟨false, rfl, iteF q⟩
theorem w_andV2 {p : Prop} [Decidable p] {tb : TE} (h1 : p → tb σ H Q) (h2 : ¬ p → Q (.bl false) H) : kAndV tb σ Q (.bl (decide p)) H :=
  ⟨_, rfl, ite2 (fun e => h1 (of_decide_eq_true e)) fun e => h2 fun z => e (decide_eq_true z)⟩
theorem w_andVB {b : Bool} {tb : TE} (h1 : b = true → tb σ H Q) (h2 : b = false → Q (.bl false) H) : kAndV tb σ Q (.bl b) H := by
  cases b with
  | true => exact w_andVT (h1 rfl)
  | false => exact w_andVF (h2 rfl)
def kOrV (tb : TE) (σ : L2.St) (Q : VK) : VK := fun x H1 => ∃ c, x = .bl c ∧ if c = true then Q (.bl true) H1 else tb σ H1 Q
theorem w_orV {ta tb : TE} (q : ta σ H (kOrV tb σ Q)) : tOrV ta tb σ H Q := q
theorem w_orVB {b : Bool} {tb : TE} (h1 : b = true → Q (.bl true) H) (h2 : b = false → tb σ H Q) : kOrV tb σ Q (.bl b) H := by
  cases b with
  | true => exact ⟨true, rfl, iteT (h1 rfl)⟩
  | false => exact ⟨false, rfl, iteF (h2 rfl)⟩
def kNotV (Q : VK) : VK := fun x H1 => ∃ c, x = .bl c ∧ Q (.bl (!c)) H1
theorem w_notV {ta : TE} (q : ta σ H (kNotV Q)) : tNotV ta σ H Q := q
theorem w_kNotV {c : Bool} (q : Q (.bl (!c)) H) : kNotV Q (.bl c) H := ⟨c, rfl, q⟩
theorem w_kNotVF (q : Q (.bl true) H) : kNotV Q (.bl false) H := ⟨false, rfl, q⟩
theorem w_kNotVT (q : Q (.bl false) H) : kNotV Q (.bl true) H := ⟨true, rfl, q⟩
def kIfE (ta tb : TE) (σ : L2.St) (Q : VK) : Bool → Hp → Prop := fun c H1 => if c = true then ta σ H1 Q else tb σ H1 Q
theorem w_ifE {t : TT} {ta tb : TE} (q : t σ H (kIfE ta tb σ Q)) : tIf t ta tb σ H Q := q
theorem w_ifET {ta tb : TE} (q : ta σ H Q) : kIfE ta tb σ Q true H := iteT q
theorem w_ifEF {ta tb : TE} (q : tb σ H Q) : kIfE ta tb σ Q false H := iteF q
theorem w_ifE2 {p : Prop} [Decidable p] {ta tb : TE} (h1 : p → ta σ H Q) (h2 : ¬ p → tb σ H Q) : kIfE ta tb σ Q (decide p) H :=
  ite2 (fun e => h1 (of_decide_eq_true e)) fun e => h2 fun z => e (decide_eq_true z)
theorem w_ifEN2 {p : Prop} [Decidable p] {ta tb : TE} (h1 : ¬ p → ta σ H Q) (h2 : p → tb σ H Q) : kIfE ta tb σ Q (!decide p) H := by
  by_cases h : p
  · rw [decide_eq_true h]; exact iteF (h2 h)
  · rw [decide_eq_false h]; exact iteT (h1 h)
theorem w_ifEB {b : Bool} {ta tb : TE} (h1 : b = true → ta σ H Q) (h2 : b = false → tb σ H Q) : kIfE ta tb σ Q b H := by
  cases b with
  | true => exact iteT (h1 rfl)
  | false => exact iteF (h2 rfl)
def kChain (r' : R2) (tc : TE) (y : V) (σ : L2.St) (Q : VK) : VK := fun z H3 => ∃ k, z = .bl k ∧ (if k = true then tc σ H3 fun w' H4 => r' y w' H4 Q else Q (.bl false) H3)
theorem w_chain {r r' : R2} {ta tb tc : TE} (q : ta σ H fun x H1 => tb σ H1 fun y H2 => r x y H2 (kChain r' tc y σ Q)) : tChain r r' ta tb tc σ H Q := q
theorem w_chain2 {p : Prop} [Decidable p] {r' : R2} {tc : TE} {y : V} (h1 : p → tc σ H fun w' H4 => r' y w' H4 Q) (h2 : ¬ p → Q (.bl false) H) : kChain r' tc y σ Q (.bl (decide p)) H :=
  ⟨_, rfl, ite2 (fun e => h1 (of_decide_eq_true e)) fun e => h2 fun z => e (decide_eq_true z)⟩
/-! arguments, displays -/
theorem w_nil {Q : List V → Hp → Prop} (q : Q [] H) : tNil σ H Q := q
theorem w_cons {ta : TE} {tr : TA} {Q : List V → Hp → Prop} (q : ta σ H fun x H1 => tr σ H1 fun xs H2 => Q (x :: xs) H2) : tCons ta tr σ H Q := q
def kNewL (Q : VK) : List V → Hp → Prop := fun xs H1 => xs.length ≤ sizeLine ∧ ∀ p, H1 p = none → Q (.ref p) (upd H1 p (.lst xs))
def kNewT (Q : VK) : List V → Hp → Prop := fun xs H1 => xs.length ≤ sizeLine ∧ ∀ p, H1 p = none → Q (.ref p) (upd H1 p (.tup xs))
theorem w_lst {t : TA} (q : t σ H (kNewL Q)) : tLst t σ H Q := q
theorem w_tup {t : TA} (q : t σ H (kNewT Q)) : tTup t σ H Q := q
theorem w_newL {xs : List V} (hl : xs.length ≤ sizeLine) (k : ∀ p H1, H1 p = some (.lst xs) → Nw p H H1 → Q (.ref p) H1) : kNewL Q xs H := ⟨hl, fun _ n => k _ _ upd_same (.mk' n)⟩
theorem w_newT {xs : List V} (hl : xs.length ≤ sizeLine) (k : ∀ p H1, H1 p = some (.tup xs) → Nw p H H1 → Q (.ref p) H1) : kNewT Q xs H := ⟨hl, fun _ n => k _ _ upd_same (.mk' n)⟩
theorem w_slL {p : Addr} {xs : List V} {lo hi : Option Int} (h : H p = some (.lst xs)) (k : ∀ q H1, H1 q = some (.lst (cutV xs lo hi)) → Nw q H H1 → Q (.ref q) H1) : rSlL K (.ref p) lo hi H Q :=
  ⟨p, xs, rfl, SqL.of h, fun _ n => k _ _ upd_same (.mk' n)⟩
theorem w_cat {l b : Addr} {xs zs : List V} (h1 : H l = some (.lst xs)) (h2 : H b = some (.lst zs)) (hl : xs.length + zs.length ≤ sizeLine) (k : ∀ q H1, H1 q = some (.lst (xs ++ zs)) → Nw q H H1 → Q (.ref q) H1) : rCat (.ref l) (.ref b) H Q :=
  ⟨l, b, xs, zs, rfl, rfl, h1, h2, hl, fun _ n => k _ _ upd_same (.mk' n)⟩
/-! calls -/
theorem w_cb {r : List V → Hp → VK → Prop} {t : TA} (q : t σ H fun vs H1 => r vs H1 Q) : tCB r t σ H Q := q
theorem w_call {sp : Sp} {dvs : List V} {E : XK} {t : TA} (q : t σ H fun vs H1 => sp (vs ++ dvs) H1 Q E) : tCall sp dvs E t σ H Q := q
def kMeth (C : Addr) (m : Str) (sp : Sp) (dvs : List V) (E : XK) (t : TA) (σ : L2.St) (Q : VK) : VK := fun x H1 => ∃ a dx fs, x = .ref a ∧ H1 a = some (.ins C dx fs) ∧ fs.lookup m = none ∧ t σ H1 fun vs H2 => sp (x :: (vs ++ dvs)) H2 Q E
theorem w_meth {C : Addr} {m : Str} {sp : Sp} {dvs : List V} {E : XK} {ta : TE} {t : TA} (q : ta σ H (kMeth C m sp dvs E t σ Q)) : tMeth C m sp dvs E ta t σ H Q := q
theorem w_kMeth {C a dx : Addr} {fs : List (Str × V)} {m : Str} {sp : Sp} {dvs : List V} {E : XK} {t : TA} (h : H a = some (.ins C dx fs)) (hm : fs.lookup m = none) (q : t σ H fun vs H2 => sp (.ref a :: (vs ++ dvs)) H2 Q E) : kMeth C m sp dvs E t σ Q (.ref a) H := ⟨a, dx, fs, rfl, h, hm, q⟩
def kMake (C : Addr) (sp : Sp) (dvs : List V) (E : XK) (Q : VK) : List V → Hp → Prop := fun vs H1 => ∀ x dx, H1 x = none → H1 dx = none → dx ≠ x →
  sp (.ref x :: (vs ++ dvs)) (upd (upd H1 dx (.own x)) x (.ins C dx [])) (fun v H2 => v = .non ∧ Q (.ref x) H2) E
theorem w_make {C : Addr} {sp : Sp} {dvs : List V} {E : XK} {t : TA} (q : t σ H (kMake C sp dvs E Q)) : tMake C sp dvs E t σ H Q := q
def kFld (K : PySem.W.Frag) (f : Str) (Q : VK) : VK := fun x H1 => ∃ a C dx fs v, x = .ref a ∧ H1 a = some (.ins C dx fs) ∧ Cls K C ∧ NoAttr K C f ∧ fs.lookup f = some v ∧ Q v H1
theorem w_fld {ta : TE} {f : Str} (q : ta σ H (kFld K f Q)) : tFld K ta f σ H Q := q
theorem w_kFld {a C dx : Addr} {fs : List (Str × V)} {f : Str} {v : V} (h : H a = some (.ins C dx fs)) (c : Cls K C) (n : NoAttr K C f) (e : fs.lookup f = some v) (q : Q v H) : kFld K f Q (.ref a) H := ⟨a, C, dx, fs, v, rfl, h, c, n, e, q⟩
def rLenSeq (K : PySem.W.Frag) : List V → Hp → VK → Prop := fun xs H Q => ∃ p ys, xs = [.ref p] ∧ (SqL K H p ys ∨ SqT K H p ys) ∧ Q (.int ys.length) H
theorem call_lenQ {X : Cx} : CallR X (.builtin "len") (rLenSeq X.K) := call_len_seq
theorem w_lenL {p : Addr} {ys : List V} (h : H p = some (.lst ys)) (q : Q (.int ys.length) H) : rLenSeq K [.ref p] H Q := ⟨p, ys, rfl, .inl (SqL.of h), q⟩
theorem w_lenT {p : Addr} {ys : List V} (h : H p = some (.tup ys)) (q : Q (.int ys.length) H) : rLenSeq K [.ref p] H Q := ⟨p, ys, rfl, .inr (SqT.of h), q⟩
def rLenStr : List V → Hp → VK → Prop := fun xs H Q => ∃ z, xs = [.str z] ∧ z.length ≤ sizeLine ∧ Q (.int z.length) H
theorem call_lenS {X : Cx} : CallR X (.builtin "len") rLenStr := call_len_str
theorem w_lenS {z : Str} (h : z.length ≤ sizeLine) (q : Q (.int z.length) H) : rLenStr [.str z] H Q := ⟨z, rfl, h, q⟩
def rLenDct : List V → Hp → VK → Prop := fun xs H Q => ∃ a kvs, xs = [V.ref a] ∧ H a = some (.dK kvs) ∧ Q (.int kvs.length) H
theorem call_lenDc {X : Cx} : CallR X (.builtin "len") rLenDct := call_lenD
theorem w_lenD {p : Addr} {kvs : List (Key × V)} (h : H p = some (.dK kvs)) (q : Q (.int kvs.length) H) : rLenDct [.ref p] H Q := ⟨p, kvs, rfl, h, q⟩
def rMin2 : List V → Hp → VK → Prop := fun xs H Q => ∃ i j, xs = [.int i, .int j] ∧ Q (.int (if j < i then j else i)) H
theorem call_min2N {X : Cx} (hc : X.calm = true) : CallR X (.builtin "min") rMin2 := call_min2 hc
theorem w_min2 {i j : Int} (q : Q (.int (if j < i then j else i)) H) : rMin2 [.int i, .int j] H Q := ⟨i, j, rfl, q⟩
def rMax2 : List V → Hp → VK → Prop := fun xs H Q => ∃ i j, xs = [.int i, .int j] ∧ Q (.int (if j > i then j else i)) H
theorem call_max2N {X : Cx} (hc : X.calm = true) : CallR X (.builtin "max") rMax2 := call_max2 hc
theorem w_max2 {i j : Int} (q : Q (.int (if j > i then j else i)) H) : rMax2 [.int i, .int j] H Q := ⟨i, j, rfl, q⟩
def rListOf (K : PySem.W.Frag) : List V → Hp → VK → Prop := fun xs H Q => ∃ p ys, xs = [.ref p] ∧ (SqL K H p ys ∨ SqT K H p ys) ∧ ∀ l, H l = none → Q (.ref l) (upd H l (.lst ys))
theorem call_listO {X : Cx} : CallR X (.type "list") (rListOf X.K) := call_list_of
theorem w_listL {p : Addr} {ys : List V} (h : H p = some (.lst ys)) (k : ∀ l H1, H1 l = some (.lst ys) → Nw l H H1 → Q (.ref l) H1) : rListOf K [.ref p] H Q := ⟨p, ys, rfl, .inl (SqL.of h), fun _ n => k _ _ upd_same (.mk' n)⟩
theorem w_listT {p : Addr} {ys : List V} (h : H p = some (.tup ys)) (k : ∀ l H1, H1 l = some (.lst ys) → Nw l H H1 → Q (.ref l) H1) : rListOf K [.ref p] H Q := ⟨p, ys, rfl, .inr (SqT.of h), fun _ n => k _ _ upd_same (.mk' n)⟩
def rTupOf (K : PySem.W.Frag) : List V → Hp → VK → Prop := fun xs H Q => ∃ p ys, xs = [.ref p] ∧ ((SqL K H p ys ∧ ∀ l, H l = none → Q (.ref l) (upd H l (.tup ys))) ∨ (SqT K H p ys ∧ Q (.ref p) H))
theorem call_tupO {X : Cx} : CallR X (.type "tuple") (rTupOf X.K) := call_tuple_of
theorem w_tupL {p : Addr} {ys : List V} (h : H p = some (.lst ys)) (k : ∀ l H1, H1 l = some (.tup ys) → Nw l H H1 → Q (.ref l) H1) : rTupOf K [.ref p] H Q := ⟨p, ys, rfl, .inl ⟨SqL.of h, fun _ n => k _ _ upd_same (.mk' n)⟩⟩
theorem w_all {p : Addr} {bs : List Bool} (h : H p = some (.lst (bs.map V.bl))) (q : Q (.bl (bs.all id)) H) : rAll K [.ref p] H Q := ⟨p, bs, rfl, SqL.of h, q⟩
theorem w_any {p : Addr} {bs : List Bool} (h : H p = some (.lst (bs.map V.bl))) (q : Q (.bl (bs.any id)) H) : rAny K [.ref p] H Q := ⟨p, bs, rfl, SqL.of h, q⟩
theorem w_isi_int_int {i : Int} (q : Q (.bl true) H) : rIsi K [(.int i), .ty "int"] H Q := ⟨_, _, _, _, true, rfl, .ty "int", .base (.int i), kit_ty (by decide +kernel), q⟩
theorem w_isi_int_bool {i : Int} (q : Q (.bl false) H) : rIsi K [(.int i), .ty "bool"] H Q := ⟨_, _, _, _, false, rfl, .ty "bool", .base (.int i), kit_ty (by decide +kernel), q⟩
theorem w_isi_int_str {i : Int} (q : Q (.bl false) H) : rIsi K [(.int i), .ty "str"] H Q := ⟨_, _, _, _, false, rfl, .ty "str", .base (.int i), kit_ty (by decide +kernel), q⟩
theorem w_isi_str_int {i : Str} (q : Q (.bl false) H) : rIsi K [(.str i), .ty "int"] H Q := ⟨_, _, _, _, false, rfl, .ty "int", .base (.str i), kit_ty (by decide +kernel), q⟩
theorem w_isi_str_bool {i : Str} (q : Q (.bl false) H) : rIsi K [(.str i), .ty "bool"] H Q := ⟨_, _, _, _, false, rfl, .ty "bool", .base (.str i), kit_ty (by decide +kernel), q⟩
theorem w_isi_str_str {i : Str} (q : Q (.bl true) H) : rIsi K [(.str i), .ty "str"] H Q := ⟨_, _, _, _, true, rfl, .ty "str", .base (.str i), kit_ty (by decide +kernel), q⟩
theorem w_isi_bool_int {i : Bool} (q : Q (.bl true) H) : rIsi K [(.bl i), .ty "int"] H Q := ⟨_, _, _, _, true, rfl, .ty "int", .base (.bl i), kit_ty (by decide +kernel), q⟩
theorem w_isi_bool_bool {i : Bool} (q : Q (.bl true) H) : rIsi K [(.bl i), .ty "bool"] H Q := ⟨_, _, _, _, true, rfl, .ty "bool", .base (.bl i), kit_ty (by decide +kernel), q⟩
theorem w_isi_bool_str {i : Bool} (q : Q (.bl false) H) : rIsi K [(.bl i), .ty "str"] H Q := ⟨_, _, _, _, false, rfl, .ty "str", .base (.bl i), kit_ty (by decide +kernel), q⟩
theorem w_isi_NoneType_int  (q : Q (.bl false) H) : rIsi K [.non, .ty "int"] H Q := ⟨_, _, _, _, false, rfl, .ty "int", .base .non, kit_ty (by decide +kernel), q⟩
theorem w_isi_NoneType_str  (q : Q (.bl false) H) : rIsi K [.non, .ty "str"] H Q := ⟨_, _, _, _, false, rfl, .ty "str", .base .non, kit_ty (by decide +kernel), q⟩
theorem w_isi_NoneType_bool  (q : Q (.bl false) H) : rIsi K [.non, .ty "bool"] H Q := ⟨_, _, _, _, false, rfl, .ty "bool", .base .non, kit_ty (by decide +kernel), q⟩
/-! methods of lists, texts -/
def kBM (K : PySem.W.Frag) (T : String) (r : V → List V → Hp → VK → Prop) (t : TA) (σ : L2.St) (Q : VK) : VK := fun x H1 => tyV K T x H1 ∧ t σ H1 fun xs H2 => r x xs H2 Q
theorem w_bm {T : String} {r : V → List V → Hp → VK → Prop} {to : TE} {t : TA} (q : to σ H (kBM K T r t σ Q)) : tBM K T r to t σ H Q := q
theorem w_bm0 {T : String} {r : V → List V → Hp → VK → Prop} {to : TE} (q : to σ H (kBM K T r tNil σ Q)) : tBM0 K T r to σ H Q := q
theorem w_kbmL {p : Addr} {xs : List V} {r : V → List V → Hp → VK → Prop} {t : TA} (h : H p = some (.lst xs)) (q : t σ H fun xs H2 => r (.ref p) xs H2 Q) : kBM K "list" r t σ Q (.ref p) H := ⟨.inl ⟨rfl, _, SqL.of h⟩, q⟩
theorem w_append {p : Addr} {xs : List V} {v : V} (h : H p = some (.lst xs)) (hl : xs.length < sizeLine) (k : ∀ H1, H1 p = some (.lst (xs ++ [v])) → Of p H H1 → Q .non H1) : rAppend (.ref p) [v] H Q := ⟨p, xs, v, rfl, rfl, h, hl, k _ upd_same .mk'⟩
theorem perm_erase {α : Type} : ∀ (l : List α) (i : Nat) (h : i < l.length), l.Perm (l[i] :: l.eraseIdx i)
  | x :: r, 0, _ => by exact .refl _
  | x :: r, i + 1, h => by
    have ih := perm_erase r i (by simpa using h)
    exact (ih.cons x).trans (.swap _ _ _)
theorem w_popV {p : Addr} {xs : List V} {i : Int} (h : H p = some (.lst xs)) (h0 : 0 ≤ i) (h1 : i < xs.length) (hz : xs.length ≤ 100000) (k : ∀ x ys H1, xs.Perm (x :: ys) → H1 p = some (.lst ys) → Of p H H1 → Q x H1) : rPopAt (.ref p) [.int i] H Q := by
  have hi : i.toNat < xs.length := by omega
  refine ⟨p, xs, i, i.toNat, xs[i.toNat], rfl, rfl, h, by omega, by omega, ?_, List.getElem?_eq_getElem hi, k _ (xs.eraseIdx i.toNat) _ (perm_erase xs _ hi) upd_same .mk'⟩
  unfold seqIndex?
  simp only [if_neg (show ¬ i < 0 by omega), Bool.and_eq_true, decide_eq_true_eq]
  rw [if_pos ⟨h0, h1⟩]
theorem erase_map {α β : Type} (f : α → β) : ∀ (l : List α) (i : Nat), (l.map f).eraseIdx i = (l.eraseIdx i).map f
  | [], _ => rfl
  | x :: r, 0 => rfl
  | x :: r, i + 1 => by
    show f x :: (r.map f).eraseIdx i = f x :: (r.eraseIdx i).map f
    rw [erase_map f r i]
theorem w_popI {p : Addr} {ns : List Int} {i : Int} (h : H p = some (.lst (ns.map V.int))) (h0 : 0 ≤ i) (h1 : i < ns.length) (hz : ns.length ≤ 100000) (k : ∀ x ms H1, ns.Perm (x :: ms) → H1 p = some (.lst (ms.map V.int)) → Of p H H1 → Q (.int x) H1) : rPopAt (.ref p) [.int i] H Q := by
  have hi : i.toNat < ns.length := by omega
  have e : (ns.map V.int)[i.toNat]? = some (.int ns[i.toNat]) := by rw [List.getElem?_map, List.getElem?_eq_getElem hi]; rfl
  refine ⟨p, _, i, i.toNat, .int ns[i.toNat], rfl, rfl, h, by omega, by omega, ?_, e, k _ (ns.eraseIdx i.toNat) _ (perm_erase ns _ hi) ?_ .mk'⟩
  · unfold seqIndex?
    simp only [if_neg (show ¬ i < 0 by omega), Bool.and_eq_true, decide_eq_true_eq, List.length_map]
    rw [if_pos ⟨h0, h1⟩]
  · rw [upd_same, erase_map]
theorem w_clear {p : Addr} {xs : List V} (h : H p = some (.lst xs)) (k : ∀ H1, H1 p = some (.lst []) → Of p H H1 → Q .non H1) : rClear (.ref p) [] H Q := ⟨p, xs, rfl, rfl, h, k _ upd_same .mk'⟩
def kM0 (r : V → List V → Hp → VK → Prop) (Q : VK) : VK := fun x H1 => (∃ a, x = .str a) ∧ r x [] H1 Q
theorem w_m0 {r : V → List V → Hp → VK → Prop} {to : TE} (q : to σ H (kM0 r Q)) : tM0 r to σ H Q := q
theorem w_kM0 {r : V → List V → Hp → VK → Prop} {x : Str} (q : r (.str x) [] H Q) : kM0 r Q (.str x) H := ⟨⟨x, rfl⟩, q⟩
def kM1 (r : V → List V → Hp → VK → Prop) (te : TE) (σ : L2.St) (Q : VK) : VK := fun x H1 => (∃ a, x = .str a) ∧ te σ H1 fun y H2 => r x [y] H2 Q
theorem w_m1 {r : V → List V → Hp → VK → Prop} {to te : TE} (q : to σ H (kM1 r te σ Q)) : tM1 r to te σ H Q := q
theorem w_kM1 {r : V → List V → Hp → VK → Prop} {te : TE} {x : Str} (q : te σ H fun y H2 => r (.str x) [y] H2 Q) : kM1 r te σ Q (.str x) H := ⟨⟨x, rfl⟩, q⟩
/-! methods of texts, by name -/
def rUpper : V → List V → Hp → VK → Prop := fun x xs H Q => ∃ a, x = .str a ∧ xs = [] ∧ a.length ≤ 5592405 ∧ Q (.str (Txt.upper a)) H
theorem mt_upN {X : Cx} : MtR X "str.upper" rUpper := mt_upper
theorem w_upper {a : Str} (h : a.length ≤ 5592405) (q : Q (.str (Txt.upper a)) H) : rUpper (.str a) [] H Q := ⟨a, rfl, rfl, h, q⟩
theorem w_up1 {c : Nat} (h : 97 ≤ c ∧ c ≤ 104) (q : Q (.str (one (c - 32))) H) : rUpper (.str (one c)) [] H Q := ⟨_, rfl, rfl, by rw [len_one]; decide, by rw [upper_one h]; exact q⟩
def rLower : V → List V → Hp → VK → Prop := fun x xs H Q => ∃ a, x = .str a ∧ xs = [] ∧ a.length ≤ 5592405 ∧ Q (.str (Txt.lower a)) H
theorem mt_loN {X : Cx} : MtR X "str.lower" rLower := mt_lower
theorem w_lower {a : Str} (h : a.length ≤ 5592405) (q : Q (.str (Txt.lower a)) H) : rLower (.str a) [] H Q := ⟨a, rfl, rfl, h, q⟩
theorem w_lo1 {c : Nat} (h : 65 ≤ c ∧ c ≤ 72) (q : Q (.str (one (c + 32))) H) : rLower (.str (one c)) [] H Q := ⟨_, rfl, rfl, by rw [len_one]; decide, by rw [lower_one h]; exact q⟩
def rSwap : V → List V → Hp → VK → Prop := fun x xs H Q => ∃ a, x = .str a ∧ xs = [] ∧ a.length ≤ 5592405 ∧ Q (.str (Txt.swapcase a)) H
theorem pe_swapN {X : Cx} {o : Expr} {to : TE} {apos pos : Pos} (ho : PE X o to) (hbase : attributeBase o "swapcase" X.env (eval o X.env) = eval o X.env := by rfl) (hline : (apos.endLine == pos.line) = true := by rfl) : PE X (.Call (.Attribute o "swapcase" apos) [] [] pos) (tM0 rSwap to) := pe_swapcase ho hbase hline
theorem w_swap {a : Str} (hw : Wd a) (h : a.length ≤ 5592405) (q : Q (.str (flipS a)) H) : rSwap (.str a) [] H Q := ⟨a, rfl, rfl, h, by rw [swap_wd hw]; exact q⟩
theorem w_swap1 {c : Nat} (hc : sgn c = true) (q : Q (.str (one (flipC c))) H) : rSwap (.str (one c)) [] H Q := w_swap (wd_one hc) (by rw [len_one]; decide) q
theorem w_revS {te : TE} (q : te σ H fun x H1 => ∃ z, x = .str z ∧ z.length ≤ sizeLine ∧ Q (.str (revS z)) H1) : tRevS te σ H Q := q
def rJoin (K : PySem.W.Frag) : V → List V → Hp → VK → Prop := fun x xs H Q => ∃ a p, ∃ ys : List Str, x = .str a ∧ xs = [.ref p] ∧ (SqL K H p (ys.map V.str) ∨ SqT K H p (ys.map V.str)) ∧ (ys.map (·.length)).sum + ys.length * a.length ≤ 16777216 ∧ Q (.str (Txt.join a ys)) H
theorem mt_joinN {X : Cx} : MtR X "str.join" (rJoin X.K) := mt_join
theorem w_join {a : Str} {p : Addr} {ys : List Str} (h : H p = some (.lst (ys.map V.str))) (hl : (ys.map (·.length)).sum + ys.length * a.length ≤ 16777216) (q : Q (.str (Txt.join a ys)) H) : rJoin K (.str a) [.ref p] H Q := ⟨a, p, ys, rfl, rfl, .inl (SqL.of h), hl, q⟩
def rStarts : V → List V → Hp → VK → Prop := fun x xs H Q => ∃ a b, x = .str a ∧ xs = [.str b] ∧ Q (.bl (Txt.startswith a b)) H
theorem mt_startN {X : Cx} : MtR X "str.startswith" rStarts := mt_startswith
theorem w_starts {a b : Str} (q : Q (.bl (Txt.startswith a b)) H) : rStarts (.str a) [.str b] H Q := ⟨a, b, rfl, rfl, q⟩
def rEnds : V → List V → Hp → VK → Prop := fun x xs H Q => ∃ a b, x = .str a ∧ xs = [.str b] ∧ Q (.bl (Txt.endswith a b)) H
theorem mt_endN {X : Cx} : MtR X "str.endswith" rEnds := mt_endswith
theorem w_ends {a b : Str} (q : Q (.bl (Txt.endswith a b)) H) : rEnds (.str a) [.str b] H Q := ⟨a, b, rfl, rfl, q⟩
def rMulStr : R2 := fun x y H Q => ∃ (a : Str) (n : Int), x = .str a ∧ y = .int n ∧ 0 ≤ n ∧ n ≤ 1000 ∧ a.length ≤ 1000 ∧ Q (.str (Txt.mul a n)) H
theorem op_mulS {X : Cx} : OpR X (binaryOp .Mult) rMulStr := op_mul_str
theorem w_mulS {a : Str} {n : Int} (h0 : 0 ≤ n) (h1 : n ≤ 1000) (h2 : a.length ≤ 1000) (q : Q (.str (Txt.mul a n)) H) : rMulStr (.str a) (.int n) H Q := ⟨a, n, rfl, rfl, h0, h1, h2, q⟩
/-! dicts -/
def kDGet (x y : V) (Q : VK) : Hp → Prop := fun H2 => ∃ a v, x = .ref a ∧ DGet H2 a y (some v) ∧ Q v H2
theorem w_dget {td ty : TE} (q : td σ H fun x H1 => ty σ H1 fun y H2 => kDGet x y Q H2) : tDGet td ty σ H Q := q
theorem w_kDGetI {a : Addr} {kvs : List (Key × V)} {i : Int} {v : V} (h : H a = some (.dK kvs)) (e : valV kvs (Sum.inl i) = some v) (q : Q v H) : kDGet (.ref a) (.int i) Q H := ⟨a, v, rfl, by rw [← e]; exact DGet.k (k := Sum.inl i) h, q⟩
theorem w_kDGetS {a : Addr} {kvs : List (Key × V)} {i : Str} {v : V} (h : H a = some (.dK kvs)) (e : valV kvs (Sum.inr i) = some v) (q : Q v H) : kDGet (.ref a) (.str i) Q H := ⟨a, v, rfl, by rw [← e]; exact DGet.k (k := Sum.inr i) h, q⟩
def kDIn (y x : V) (Q : VK) : Hp → Prop := fun H2 => ∃ a o, x = .ref a ∧ DGet H2 a y o ∧ Q (.bl o.isSome) H2
theorem w_din {ty td : TE} (q : ty σ H fun y H1 => td σ H1 fun x H2 => kDIn y x Q H2) : tDIn ty td σ H Q := q
theorem w_kDInI {a : Addr} {kvs : List (Key × V)} {i : Int} (h : H a = some (.dK kvs)) (q : Q (.bl (valV kvs (Sum.inl i)).isSome) H) : kDIn (.int i) (.ref a) Q H := ⟨a, _, rfl, DGet.k (k := Sum.inl i) h, q⟩
theorem w_kDInS {a : Addr} {kvs : List (Key × V)} {i : Str} (h : H a = some (.dK kvs)) (q : Q (.bl (valV kvs (Sum.inr i)).isSome) H) : kDIn (.str i) (.ref a) Q H := ⟨a, _, rfl, DGet.k (k := Sum.inr i) h, q⟩
def kDNotIn (y x : V) (Q : VK) : Hp → Prop := fun H2 => ∃ a o, x = .ref a ∧ DGet H2 a y o ∧ Q (.bl (!o.isSome)) H2
theorem w_dnotin {ty td : TE} (q : ty σ H fun y H1 => td σ H1 fun x H2 => kDNotIn y x Q H2) : tDNotIn ty td σ H Q := q
theorem w_kDNotInI {a : Addr} {kvs : List (Key × V)} {i : Int} (h : H a = some (.dK kvs)) (q : Q (.bl (!(valV kvs (Sum.inl i)).isSome)) H) : kDNotIn (.int i) (.ref a) Q H := ⟨a, _, rfl, DGet.k (k := Sum.inl i) h, q⟩
theorem w_kDNotInS {a : Addr} {kvs : List (Key × V)} {i : Str} (h : H a = some (.dK kvs)) (q : Q (.bl (!(valV kvs (Sum.inr i)).isSome)) H) : kDNotIn (.str i) (.ref a) Q H := ⟨a, _, rfl, DGet.k (k := Sum.inr i) h, q⟩
def kDGet1 (ty : TE) (σ : L2.St) (Q : VK) : VK := fun x H1 => ∃ a, x = .ref a ∧ IsD H1 a ∧ ty σ H1 fun y H2 => ∃ o, DGet H2 a y o ∧ Q (o.getD .non) H2
def kDGet1b (a : Addr) (Q : VK) : VK := fun y H2 => ∃ o, DGet H2 a y o ∧ Q (o.getD .non) H2
theorem w_dget1 {td ty : TE} (q : td σ H (kDGet1 ty σ Q)) : tDGet1 td ty σ H Q := q
theorem w_kDGet1 {a : Addr} {kvs : List (Key × V)} {ty : TE} (h : H a = some (.dK kvs)) (q : ty σ H (kDGet1b a Q)) : kDGet1 ty σ Q (.ref a) H := ⟨a, rfl, .inl ⟨kvs, .of h⟩, q⟩
theorem w_kDGet1I {a : Addr} {kvs : List (Key × V)} {i : Int} (h : H a = some (.dK kvs)) (q : Q ((valV kvs (Sum.inl i)).getD .non) H) : kDGet1b a Q (.int i) H := ⟨_, DGet.k (k := Sum.inl i) h, q⟩
theorem w_kDGet1S {a : Addr} {kvs : List (Key × V)} {i : Str} (h : H a = some (.dK kvs)) (q : Q ((valV kvs (Sum.inr i)).getD .non) H) : kDGet1b a Q (.str i) H := ⟨_, DGet.k (k := Sum.inr i) h, q⟩
theorem w_dnewK (k : ∀ p H1, H1 p = some (.dK []) → Nw p H H1 → Q (.ref p) H1) : tDNewK σ H Q := fun _ n => k _ _ upd_same (.mk' n)
def kDPut (n : L2.St → Hp → Prop) (σ : L2.St) (x y v : V) : Hp → Prop := fun H3 => ∃ a H4, x = .ref a ∧ DPut H3 a y v H4 ∧ n σ H4
theorem w_sdput {td ty tv : TE} {n : L2.St → Hp → Prop} {rt : VK} {bk ct : L2.St → Hp → Prop} (q : tv σ H fun v H1 => td σ H1 fun x H2 => ty σ H2 fun y H3 => kDPut n σ x y v H3) : sDPut td ty tv ⟨n, rt, bk, ct⟩ σ H := q
theorem w_kDPutI {a : Addr} {kvs : List (Key × V)} {i : Int} {v : V} {n : L2.St → Hp → Prop} (h : H a = some (.dK kvs)) (hl : kvs.length < sizeLine) (k : ∀ H1, H1 a = some (.dK (putK kvs (Sum.inl i) v)) → Of a H H1 → n σ H1) : kDPut n σ (.ref a) (.int i) v H := ⟨a, _, rfl, DPut.k (k := Sum.inl i) h hl, k _ upd_same .mk'⟩
theorem w_kDPutS {a : Addr} {kvs : List (Key × V)} {i : Str} {v : V} {n : L2.St → Hp → Prop} (h : H a = some (.dK kvs)) (hl : kvs.length < sizeLine) (k : ∀ H1, H1 a = some (.dK (putK kvs (Sum.inr i) v)) → Of a H H1 → n σ H1) : kDPut n σ (.ref a) (.str i) v H := ⟨a, _, rfl, DPut.k (k := Sum.inr i) h hl, k _ upd_same .mk'⟩
/-! a dict made by a comprehension -/
def kDc (g : TG) (tt : TT) (tk tv : TE) (vs : List Nat) (σ : L2.St) (Q : VK) : It → Hp → Prop := fun J H1 => ∀ D, H1 D = none → ∃ W : Nat → Nat → Hp → Prop, (∃ m, W 0 m (upd H1 D (.dK []))) ∧ ∀ i m H, W i m H →
  (J.stop i H ∧ Q (.ref D) H) ∨ (J.go i H ∧ ∃ Nx : Hp → Prop, (∀ H', Nx H' → ∃ m', m' < m ∧ W (i + 1) m' H') ∧ ∀ x H', J.yld i H x H' → g x (wipe σ vs) H' fun σ2 H2 => wipe σ2 vs = wipe σ vs ∧ tt σ2 H2 fun b H3 =>
    if b = true then tk σ2 H3 fun y H4 => tv σ2 H4 fun z H5 => ∃ kvs k, y = kV k ∧ H5 D = some (.dK kvs) ∧ kvs.length < sizeLine ∧ Nx (upd H5 D (.dK (putK kvs k z))) else Nx H3)
theorem w_dc {wi : TI} {g : TG} {tt : TT} {tk tv : TE} {vs : List Nat} (q : wi σ H (kDc g tt tk tv vs σ Q)) : tDc wi g tt tk tv vs σ H Q := q
def kItD (D : Addr) (N : Hp → Prop) (y z : V) : Hp → Prop := fun H5 => ∃ kvs k, y = kV k ∧ H5 D = some (.dK kvs) ∧ kvs.length < sizeLine ∧ N (upd H5 D (.dK (putK kvs k z)))
theorem w_kItDS {p : Addr} {N : Hp → Prop} {kvs : List (Key × V)} {y : Str} {z : V} (h : H p = some (.dK kvs)) (hl : kvs.length < sizeLine) (k : ∀ H5, H5 p = some (.dK (putK kvs (Sum.inr y) z)) → Of p H H5 → N H5) : kItD p N (.str y) z H := ⟨kvs, Sum.inr y, rfl, h, hl, k _ upd_same .mk'⟩
theorem w_kItDI {p : Addr} {N : Hp → Prop} {kvs : List (Key × V)} {y : Int} {z : V} (h : H p = some (.dK kvs)) (hl : kvs.length < sizeLine) (k : ∀ H5, H5 p = some (.dK (putK kvs (Sum.inl y) z)) → Of p H H5 → N H5) : kItD p N (.int y) z H := ⟨kvs, Sum.inl y, rfl, h, hl, k _ upd_same .mk'⟩
def kTstD (tk tv : TE) (σ : L2.St) (D : Addr) (N : Hp → Prop) : Bool → Hp → Prop := fun b H3 => if b = true then tk σ H3 fun y H4 => tv σ H4 fun z H5 => kItD D N y z H5 else N H3
theorem w_tstDT {tk tv : TE} {p : Addr} {N : Hp → Prop} (q : tk σ H fun y H4 => tv σ H4 fun z H5 => kItD p N y z H5) : kTstD tk tv σ p N true H := iteT q
theorem w_tstDB {b : Bool} {tk tv : TE} {p : Addr} {N : Hp → Prop} (h1 : b = true → tk σ H fun y H4 => tv σ H4 fun z H5 => kItD p N y z H5) (h2 : b = false → N H) : kTstD tk tv σ p N b H := by
  cases b with
  | true => exact iteT (h1 rfl)
  | false => exact iteF (h2 rfl)
def kEachD (tt : TT) (tk tv : TE) (vs : List Nat) (σ : L2.St) (D : Addr) (N : Hp → Prop) : L2.St → Hp → Prop := fun σ2 H2 => wipe σ2 vs = wipe σ vs ∧ tt σ2 H2 (kTstD tk tv σ2 D N)
theorem w_eachD {tt : TT} {tk tv : TE} {vs : List Nat} {σ σ2 : L2.St} {p : Addr} {N : Hp → Prop} (e : wipe σ2 vs = wipe σ vs) (q : tt σ2 H (kTstD tk tv σ2 p N)) : kEachD tt tk tv vs σ p N σ2 H := ⟨e, q⟩
theorem w_dcG {J : It} {n : Nat} {g : TG} {tt : TT} {tk tv : TE} {vs : List Nat} (Pv : Addr → Nat → Hp → Prop) (h0 : ∀ p H1, H1 p = some (.dK []) → Nw p H H1 → Pv p 0 H1)
    (hgo : ∀ p i H, i < n → Pv p i H → J.go i H) (hst : ∀ p H, Pv p n H → J.stop n H)
    (hs : ∀ p i x H H', i < n → Pv p i H → J.yld i H x H' → g x (wipe σ vs) H' (kEachD tt tk tv vs σ p (Pv p (i + 1)))) (hd : ∀ p H, Pv p n H → Q (.ref p) H) : kDc g tt tk tv vs σ Q J H := fun p np => by
  refine ⟨fun i m H => m = n - i ∧ i ≤ n ∧ Pv p i H, ⟨n, rfl, Nat.zero_le _, h0 p _ upd_same (.mk' np)⟩, ?_⟩
  rintro i m H ⟨rfl, hi, h⟩
  by_cases hlt : i < n
  · exact .inr ⟨hgo p i H hlt h, Pv p (i + 1), fun H' p' => ⟨n - (i + 1), by omega, rfl, hlt, p'⟩, fun x H' y => hs p i x H H' hlt h y⟩
  · have e : i = n := by omega
    subst e
    exact .inl ⟨hst p H h, hd p H h⟩
theorem w_dcS {x : Str} {g : TG} {tt : TT} {tk tv : TE} {vs : List Nat} (Pv : Addr → Nat → Hp → Prop) (h0 : ∀ p H1, H1 p = some (.dK []) → Nw p H H1 → Pv p 0 H1)
    (hs : ∀ p i c H, (tl x)[i]? = some c → Pv p i H → g (.str (one c)) (wipe σ vs) H (kEachD tt tk tv vs σ p (Pv p (i + 1)))) (hd : ∀ p H, Pv p (tl x).length H → Q (.ref p) H) : kDc g tt tk tv vs σ Q (Its x) H := by
  have hz : x.cps.size = (tl x).length := len_tl x
  refine w_dcG (n := x.cps.size) Pv h0 (fun p i H hi h => hi) (fun p H h => Nat.le_refl _) ?_ (fun p H h => hd p H (by rw [← hz]; exact h))
  rintro p i v H H' hi h ⟨rfl, c, hc, rfl⟩
  exact hs p i c H' (getElem?_of_cps hc) h
/-! list(range(n)) -/
def kRg1 (Q : Int → Int → Hp → Prop) : VK := fun x H1 => ∃ n, x = .int n ∧ Q 0 n H1
theorem w_rg1 {ta : TE} {Q : Int → Int → Hp → Prop} (q : ta σ H (kRg1 Q)) : tRg1 ta σ H Q := q
theorem w_kRg1 {n : Int} {Q : Int → Int → Hp → Prop} (q : Q 0 n H) : kRg1 Q (.int n) H := ⟨n, rfl, q⟩
def kRgL (Q : VK) (a b : Int) : Hp → Prop := fun H1 => RgOk a b ∧ ∀ q, H1 q = none → Q (.ref q) (upd H1 q (.lst (rgV a b)))
theorem w_lstRg {te : L2.St → Hp → (Int → Int → Hp → Prop) → Prop} (q : te σ H fun a b H1 => kRgL Q a b H1) : tLstRg te σ H Q := q
theorem w_kRgL {a b : Int} (h : RgOk a b) (k : ∀ p H1, H1 p = some (.lst (rgV a b)) → Nw p H H1 → Q (.ref p) H1) : kRgL Q a b H := ⟨h, fun _ n => k _ _ upd_same (.mk' n)⟩
/-! statements -/
theorem w_seq {t u : TS} {n : L2.St → Hp → Prop} {rt : VK} {bk ct : L2.St → Hp → Prop} (q : t ⟨u ⟨n, rt, bk, ct⟩, rt, bk, ct⟩ σ H) : tSeq t u ⟨n, rt, bk, ct⟩ σ H := q
/-- a statement, and what holds behind it -/
theorem w_seqJ {t u : TS} {n : L2.St → Hp → Prop} {rt : VK} {bk ct : L2.St → Hp → Prop} (J : L2.St → Hp → Prop) (q : ∀ N : L2.St → Hp → Prop, (∀ σ' H', J σ' H' → N σ' H') → t ⟨N, rt, bk, ct⟩ σ H) (hr : ∀ σ' H', J σ' H' → u ⟨n, rt, bk, ct⟩ σ' H') : tSeq t u ⟨n, rt, bk, ct⟩ σ H := q _ hr
theorem w_next {n : L2.St → Hp → Prop} {rt : VK} {bk ct : L2.St → Hp → Prop} (q : n σ H) : tNext ⟨n, rt, bk, ct⟩ σ H := q
theorem w_break {n : L2.St → Hp → Prop} {rt : VK} {bk ct : L2.St → Hp → Prop} (q : bk σ H) : tBreak ⟨n, rt, bk, ct⟩ σ H := q
theorem w_cont {n : L2.St → Hp → Prop} {rt : VK} {bk ct : L2.St → Hp → Prop} (q : ct σ H) : tCont ⟨n, rt, bk, ct⟩ σ H := q
theorem w_drop {te : TE} {n : L2.St → Hp → Prop} {rt : VK} {bk ct : L2.St → Hp → Prop} (q : te σ H fun _ H1 => n σ H1) : tDrop te ⟨n, rt, bk, ct⟩ σ H := q
theorem w_ret {te : TE} {n : L2.St → Hp → Prop} {rt : VK} {bk ct : L2.St → Hp → Prop} (q : te σ H rt) : tRet te ⟨n, rt, bk, ct⟩ σ H := q
theorem w_retN {n : L2.St → Hp → Prop} {rt : VK} {bk ct : L2.St → Hp → Prop} (q : rt .non H) : tRetN ⟨n, rt, bk, ct⟩ σ H := q
def kIf (t u : TS) (D : Ends) (σ : L2.St) : Bool → Hp → Prop := fun b H1 => if b = true then t D σ H1 else u D σ H1
theorem w_if {c : TT} {t u : TS} (q : c σ H (kIf t u D σ)) : tIfS c t u D σ H := q
theorem w_ifT {t u : TS} (q : t D σ H) : kIf t u D σ true H := iteT q
theorem w_ifF {t u : TS} (q : u D σ H) : kIf t u D σ false H := iteF q
theorem w_if2 {p : Prop} [Decidable p] {t u : TS} (h1 : p → t D σ H) (h2 : ¬ p → u D σ H) : kIf t u D σ (decide p) H :=
  ite2 (fun e => h1 (of_decide_eq_true e)) fun e => h2 fun z => e (decide_eq_true z)
theorem w_ifN2 {p : Prop} [Decidable p] {t u : TS} (h1 : ¬ p → t D σ H) (h2 : p → u D σ H) : kIf t u D σ (!decide p) H := by
  by_cases h : p
  · rw [decide_eq_true h]; exact iteF (h2 h)
  · rw [decide_eq_false h]; exact iteT (h1 h)
theorem w_ifB {b : Bool} {t u : TS} (h1 : b = true → t D σ H) (h2 : b = false → u D σ H) : kIf t u D σ b H := by
  cases b with
  | true => exact iteT (h1 rfl)
  | false => exact iteF (h2 rfl)
theorem w_asg {te : TE} {g : TG} {n : L2.St → Hp → Prop} {rt : VK} {bk ct : L2.St → Hp → Prop} (q : te σ H fun x H1 => g x σ H1 n) : tAsg te g ⟨n, rt, bk, ct⟩ σ H := q
theorem w_gn {i : Nat} {v : V} {Q : L2.St → Hp → Prop} (q : Q (σ.set i (some v)) H) : gName i v σ H Q := q
def kPar (i j : Nat) (σ : L2.St) (n : L2.St → Hp → Prop) : List V → Hp → Prop := fun vs H1 => ∃ v w, vs = [v, w] ∧ n ((σ.set i (some v)).set j (some w)) H1
theorem w_par {i j : Nat} {ta : TA} {n : L2.St → Hp → Prop} {rt : VK} {bk ct : L2.St → Hp → Prop} (q : ta σ H (kPar i j σ n)) : tPar i j ta ⟨n, rt, bk, ct⟩ σ H := q
theorem w_kPar {i j : Nat} {v w : V} {n : L2.St → Hp → Prop} (q : n ((σ.set i (some v)).set j (some w)) H) : kPar i j σ n [v, w] H := ⟨v, w, rfl, q⟩
theorem w_gtup {a : Addr} {xs : List V} {n : Nat} {t : TGs} {Q : L2.St → Hp → Prop} (h : H a = some (.tup xs)) (hl : xs.length = n) (q : t xs σ H Q) : gTup K n t (.ref a) σ H Q := ⟨a, xs, rfl, SqT.of h, hl, q⟩
theorem w_gcons {t : TG} {u : TGs} {v : V} {r : List V} {Q : L2.St → Hp → Prop} (q : t v σ H fun σ' H' => u r σ' H' Q) : gCons t u (v :: r) σ H Q := ⟨v, r, rfl, q⟩
theorem w_gnil {Q : L2.St → Hp → Prop} (q : Q σ H) : gNil [] σ H Q := ⟨rfl, q⟩
theorem w_gsub {to ti : TE} {t : TSet} {v : V} {Q : L2.St → Hp → Prop} (q : to σ H fun o H1 => ti σ H1 fun i H2 => t o i v H2 fun H3 => Q σ H3) : gSub to ti t v σ H Q := q
theorem w_setL {p : Addr} {xs : List V} {k : Int} {j : Nat} {v : V} {Q : Hp → Prop} (h : H p = some (.lst xs)) (e : ixN xs.length k = some j) (q : ∀ H1, H1 p = some (.lst (xs.set j v)) → Of p H H1 → Q H1) : rSetL (.ref p) (.int k) v H Q := ⟨p, xs, k, j, rfl, rfl, h, e, q _ upd_same .mk'⟩
def kSFld (K : PySem.W.Frag) (f : Str) (y : V) (n : L2.St → Hp → Prop) (σ : L2.St) : VK := fun x H2 => ∃ a C dx fs, x = .ref a ∧ H2 a = some (.ins C dx fs) ∧ Cls K C ∧ NoAttr K C f ∧ fs.length < 1000 ∧ n σ (upd H2 a (.ins C dx (putF f y fs)))
theorem w_sfld {ta tv : TE} {f : Str} {n : L2.St → Hp → Prop} {rt : VK} {bk ct : L2.St → Hp → Prop} (q : tv σ H fun y H1 => ta σ H1 (kSFld K f y n σ)) : sFld K ta tv f ⟨n, rt, bk, ct⟩ σ H := q
theorem w_kSFld {a C dx : Addr} {fs : List (Str × V)} {f : Str} {y : V} {n : L2.St → Hp → Prop} (h : H a = some (.ins C dx fs)) (c : Cls K C) (na : NoAttr K C f) (hl : fs.length < 1000) (k : ∀ H1, H1 a = some (.ins C dx (putF f y fs)) → Of a H H1 → n σ H1) : kSFld K f y n σ (.ref a) H :=
  ⟨a, C, dx, fs, rfl, h, c, na, hl, k _ upd_same .mk'⟩
theorem w_aug {i : Nat} {x : V} {te : TE} {ti : TIp} {n : L2.St → Hp → Prop} {rt : VK} {bk ct : L2.St → Hp → Prop} (h : σ[i]? = some (some x)) (q : te σ H fun y H1 => ti x y H1 fun z H2 => n (σ.set i (some z)) H2) : tAug i te ti ⟨n, rt, bk, ct⟩ σ H := ⟨x, h, q⟩
theorem w_ipI {f : Int → Int → Int} {i j : Int} (q : Q (.int (f i j)) H) : ipI f (.int i) (.int j) H Q := ⟨i, j, rfl, rfl, q⟩
/-! loops -/
def kFor (g : TG) (tb : TS) (D : Ends) (σ : L2.St) : It → Hp → Prop := fun J H1 => ∃ W : Nat → Nat → L2.St → Hp → Prop, (∃ m, W 0 m σ H1) ∧ ∀ i m σ H, W i m σ H →
  (J.stop i H ∧ D.nx σ H) ∨ (J.go i H ∧ ∃ N : L2.St → Hp → Prop, (∀ σ' H', N σ' H' → ∃ m', m' < m ∧ W (i + 1) m' σ' H') ∧ ∀ x H', J.yld i H x H' → g x σ H' fun σ2 H2 => tb { D with nx := N, ct := N, bk := D.nx } σ2 H2)
theorem w_for {wi : TI} {g : TG} {tb : TS} (q : wi σ H (kFor g tb D σ)) : tFor wi g tb D σ H := q
def kRng1 (R : It → Hp → Prop) : List V → Hp → Prop := fun vs H1 => ∃ j : Int, vs = [.int j] ∧ -(2 ^ 62) ≤ j ∧ j < 2 ^ 62 ∧ R (Itr 0 j.toNat) H1
theorem w_rng1 {ta : TA} {R : It → Hp → Prop} (q : ta σ H (kRng1 R)) : iRng1 ta σ H R := q
theorem w_kRng1 {j : Int} {R : It → Hp → Prop} (h0 : -(2 ^ 62) ≤ j) (h1 : j < 2 ^ 62) (q : R (Itr 0 j.toNat) H) : kRng1 R [.int j] H := ⟨j, rfl, h0, h1, q⟩
def kList (K : PySem.W.Frag) (R : It → Hp → Prop) : VK := fun x H1 => ∃ a, x = .ref a ∧ (∃ xs, SqL K H1 a xs) ∧ R (Itl K a) H1
theorem w_ilist {tl : TE} {R : It → Hp → Prop} (q : tl σ H (kList K R)) : iList K tl σ H R := q
theorem w_kList {a : Addr} {xs : List V} {R : It → Hp → Prop} (h : H a = some (.lst xs)) (q : R (Itl K a) H) : kList K R (.ref a) H := ⟨a, rfl, ⟨xs, SqL.of h⟩, q⟩
def kTupI (K : PySem.W.Frag) (R : It → Hp → Prop) : VK := fun x H1 => ∃ a, x = .ref a ∧ (∃ xs, SqT K H1 a xs) ∧ R (Itt K a) H1
theorem w_itup {tl : TE} {R : It → Hp → Prop} (q : tl σ H (kTupI K R)) : iTup K tl σ H R := q
theorem w_kTupI {a : Addr} {xs : List V} {R : It → Hp → Prop} (h : H a = some (.tup xs)) (q : R (Itt K a) H) : kTupI K R (.ref a) H := ⟨a, rfl, ⟨xs, SqT.of h⟩, q⟩
def kStr (R : It → Hp → Prop) : VK := fun v H1 => ∃ x, v = .str x ∧ R (Its x) H1
theorem w_istr {te : TE} {R : It → Hp → Prop} (q : te σ H (kStr R)) : iStr te σ H R := q
theorem w_kStr {x : Str} {R : It → Hp → Prop} (q : R (Its x) H) : kStr R (.str x) H := ⟨x, rfl, q⟩
def kEnum (K : PySem.W.Frag) (R : It → Hp → Prop) : List V → Hp → Prop := fun vs H1 => ∃ a xs, vs = [.ref a] ∧ SqL K H1 a xs ∧ R (Ite K a) H1
theorem w_ienum {ta : TA} {R : It → Hp → Prop} (q : ta σ H (kEnum K R)) : iEnum K ta σ H R := q
theorem w_kEnum {a : Addr} {xs : List V} {R : It → Hp → Prop} (h : H a = some (.lst xs)) (q : R (Ite K a) H) : kEnum K R [.ref a] H := ⟨a, xs, rfl, SqL.of h, q⟩
/-- a loop: what holds ahead of turn i -/
theorem w_range {lo : Int} {n : Nat} {g : TG} {tb : TS} {nx : L2.St → Hp → Prop} {rt : VK} {bk ct : L2.St → Hp → Prop} (Pv : Nat → L2.St → Hp → Prop) (h0 : Pv 0 σ H)
    (hs : ∀ i σ H, i < n → Pv i σ H → g (.int (lo + i)) σ H fun σ2 H2 => tb ⟨Pv (i + 1), rt, nx, Pv (i + 1)⟩ σ2 H2) (hd : ∀ σ H, Pv n σ H → nx σ H) : kFor g tb ⟨nx, rt, bk, ct⟩ σ (Itr lo n) H :=
  for_range (lo := lo) (n := n) Pv h0 hs hd
theorem w_list {a : Addr} {xs : List V} {g : TG} {tb : TS} {nx : L2.St → Hp → Prop} {rt : VK} {bk ct : L2.St → Hp → Prop} (Pv : Nat → L2.St → Hp → Prop) (h0 : Pv 0 σ H) (hl : ∀ i σ H, i ≤ xs.length → Pv i σ H → H a = some (.lst xs))
    (hs : ∀ i x σ H, xs[i]? = some x → Pv i σ H → g x σ H fun σ2 H2 => tb ⟨Pv (i + 1), rt, nx, Pv (i + 1)⟩ σ2 H2) (hd : ∀ σ H, Pv xs.length σ H → nx σ H) : kFor g tb ⟨nx, rt, bk, ct⟩ σ (Itl K a) H :=
  for_list (K := K) (a := a) (xs := xs) Pv h0 (fun i σ H hi p => SqL.of (hl i σ H hi p)) hs hd
theorem w_tupF {a : Addr} {xs : List V} {g : TG} {tb : TS} {nx : L2.St → Hp → Prop} {rt : VK} {bk ct : L2.St → Hp → Prop} (Pv : Nat → L2.St → Hp → Prop) (h0 : Pv 0 σ H) (hl : ∀ i σ H, i ≤ xs.length → Pv i σ H → H a = some (.tup xs))
    (hs : ∀ i x σ H, xs[i]? = some x → Pv i σ H → g x σ H fun σ2 H2 => tb ⟨Pv (i + 1), rt, nx, Pv (i + 1)⟩ σ2 H2) (hd : ∀ σ H, Pv xs.length σ H → nx σ H) : kFor g tb ⟨nx, rt, bk, ct⟩ σ (Itt K a) H := by
  refine for_gen (n := xs.length) Pv h0 (fun i σ H hi p => ⟨xs, xs[i], SqT.of (hl i σ H (Nat.le_of_lt hi) p), List.getElem?_eq_getElem hi⟩) (fun σ H p => ⟨xs, SqT.of (hl _ σ H (Nat.le_refl _) p), Nat.le_refl _⟩) ?_ hd
  rintro i v σ H H' hi p ⟨rfl, hx⟩
  exact hs i v σ H' (hx xs (SqT.of (hl i σ H' (Nat.le_of_lt hi) p))) p
theorem w_str {x : Str} {g : TG} {tb : TS} {nx : L2.St → Hp → Prop} {rt : VK} {bk ct : L2.St → Hp → Prop} (Pv : Nat → L2.St → Hp → Prop) (h0 : Pv 0 σ H)
    (hs : ∀ i c σ H, (tl x)[i]? = some c → Pv i σ H → g (.str (one c)) σ H fun σ2 H2 => tb ⟨Pv (i + 1), rt, nx, Pv (i + 1)⟩ σ2 H2) (hd : ∀ σ H, Pv (tl x).length σ H → nx σ H) : kFor g tb ⟨nx, rt, bk, ct⟩ σ (Its x) H := by
  have hz : x.cps.size = (tl x).length := len_tl x
  refine for_gen (n := x.cps.size) Pv h0 (fun i σ H hi _ => hi) (fun σ H _ => Nat.le_refl _) ?_ (fun σ H p => hd σ H (by rw [← hz]; exact p))
  rintro i v σ H H' hi p ⟨rfl, c, hc, rfl⟩
  exact hs i c σ H' (getElem?_of_cps hc) p
theorem w_enum {a : Addr} {xs : List V} {g : TG} {tb : TS} {nx : L2.St → Hp → Prop} {rt : VK} {bk ct : L2.St → Hp → Prop} (Pv : Nat → L2.St → Hp → Prop) (h0 : Pv 0 σ H) (hl : ∀ i σ H, i ≤ xs.length → Pv i σ H → H a = some (.lst xs))
    (hs : ∀ i x t σ H H1, xs[i]? = some x → Pv i σ H → H1 t = some (.tup [.int (i : Nat), x]) → Nw t H H1 → g (.ref t) σ H1 fun σ2 H2 => tb ⟨Pv (i + 1), rt, nx, Pv (i + 1)⟩ σ2 H2) (hd : ∀ σ H, Pv xs.length σ H → nx σ H) : kFor g tb ⟨nx, rt, bk, ct⟩ σ (Ite K a) H := by
  refine for_gen (n := xs.length) Pv h0 (fun i σ H hi p => ⟨xs, xs[i], SqL.of (hl i σ H (Nat.le_of_lt hi) p), List.getElem?_eq_getElem hi⟩) (fun σ H p => ⟨xs, SqL.of (hl _ σ H (Nat.le_refl _) p), Nat.le_refl _⟩) ?_ hd
  rintro i v σ H H' hi p ⟨t, x, rfl, nt, rfl, hx⟩
  exact hs i x t σ H _ (hx xs (SqL.of (hl i σ H (Nat.le_of_lt hi) p))) p upd_same (.mk' nt)
/-! comprehensions -/
def kLc (g : TG) (tt : TT) (te : TE) (vs : List Nat) (σ : L2.St) (Q : VK) : It → Hp → Prop := fun J H1 => ∀ D, H1 D = none → ∃ W : Nat → Nat → Hp → Prop, (∃ m, W 0 m (upd H1 D (.lst []))) ∧ ∀ i m H, W i m H →
  (J.stop i H ∧ Q (.ref D) H) ∨ (J.go i H ∧ ∃ Nx : Hp → Prop, (∀ H', Nx H' → ∃ m', m' < m ∧ W (i + 1) m' H') ∧ ∀ x H', J.yld i H x H' → g x (wipe σ vs) H' fun σ2 H2 => wipe σ2 vs = wipe σ vs ∧ tt σ2 H2 fun b H3 =>
    if b = true then te σ2 H3 fun y H4 => ∃ acc, H4 D = some (.lst acc) ∧ acc.length < sizeLine ∧ Nx (upd H4 D (.lst (acc ++ [y]))) else Nx H3)
theorem w_lc {wi : TI} {g : TG} {tt : TT} {te : TE} {vs : List Nat} (q : wi σ H (kLc g tt te vs σ Q)) : tLc wi g tt te vs σ H Q := q
/-- what an item of the list does: the item, then the list -/
def kIt (D : Addr) (N : Hp → Prop) : VK := fun y H4 => ∃ acc, H4 D = some (.lst acc) ∧ acc.length < sizeLine ∧ N (upd H4 D (.lst (acc ++ [y])))
theorem w_kIt {p : Addr} {N : Hp → Prop} {acc : List V} {y : V} (h : H p = some (.lst acc)) (hl : acc.length < sizeLine) (k : ∀ H5, H5 p = some (.lst (acc ++ [y])) → Of p H H5 → N H5) : kIt p N y H := ⟨acc, h, hl, k _ upd_same .mk'⟩
def kTst (te : TE) (σ : L2.St) (D : Addr) (N : Hp → Prop) : Bool → Hp → Prop := fun b H3 => if b = true then te σ H3 (kIt D N) else N H3
theorem w_yes {Q : Bool → Hp → Prop} (q : Q true H) : tYes σ H Q := q
theorem w_tstT {te : TE} {p : Addr} {N : Hp → Prop} (q : te σ H (kIt p N)) : kTst te σ p N true H := iteT q
theorem w_tstF {te : TE} {p : Addr} {N : Hp → Prop} (q : N H) : kTst te σ p N false H := iteF q
theorem w_tst2 {c : Prop} [Decidable c] {te : TE} {p : Addr} {N : Hp → Prop} (h1 : c → te σ H (kIt p N)) (h2 : ¬ c → N H) : kTst te σ p N (decide c) H :=
  ite2 (fun e => h1 (of_decide_eq_true e)) fun e => h2 fun z => e (decide_eq_true z)
theorem w_tstB {b : Bool} {te : TE} {p : Addr} {N : Hp → Prop} (h1 : b = true → te σ H (kIt p N)) (h2 : b = false → N H) : kTst te σ p N b H := by
  cases b with
  | true => exact iteT (h1 rfl)
  | false => exact iteF (h2 rfl)
def kEach (tt : TT) (te : TE) (vs : List Nat) (σ : L2.St) (D : Addr) (N : Hp → Prop) : L2.St → Hp → Prop := fun σ2 H2 => wipe σ2 vs = wipe σ vs ∧ tt σ2 H2 (kTst te σ2 D N)
theorem w_each {tt : TT} {te : TE} {vs : List Nat} {σ σ2 : L2.St} {p : Addr} {N : Hp → Prop} (e : wipe σ2 vs = wipe σ vs) (q : tt σ2 H (kTst te σ2 p N)) : kEach tt te vs σ p N σ2 H := ⟨e, q⟩
/-- a comprehension by what holds ahead of item i; p: where the made list stands -/
theorem w_lcG {J : It} {n : Nat} {g : TG} {tt : TT} {te : TE} {vs : List Nat} (Pv : Addr → Nat → Hp → Prop) (h0 : ∀ p H1, H1 p = some (.lst []) → Nw p H H1 → Pv p 0 H1)
    (hgo : ∀ p i H, i < n → Pv p i H → J.go i H) (hst : ∀ p H, Pv p n H → J.stop n H)
    (hs : ∀ p i x H H', i < n → Pv p i H → J.yld i H x H' → g x (wipe σ vs) H' (kEach tt te vs σ p (Pv p (i + 1)))) (hd : ∀ p H, Pv p n H → Q (.ref p) H) : kLc g tt te vs σ Q J H := fun p np =>
  lc_gen (n := n) (Pv p) (h0 p _ upd_same (.mk' np)) (hgo p) (hst p) (hs p) (hd p)
theorem w_lcL {a : Addr} {xs : List V} {g : TG} {tt : TT} {te : TE} {vs : List Nat} (Pv : Addr → Nat → Hp → Prop) (h0 : ∀ p H1, H1 p = some (.lst []) → Nw p H H1 → Pv p 0 H1)
    (hl : ∀ p i H, i ≤ xs.length → Pv p i H → H a = some (.lst xs)) (hs : ∀ p i x H, xs[i]? = some x → Pv p i H → g x (wipe σ vs) H (kEach tt te vs σ p (Pv p (i + 1)))) (hd : ∀ p H, Pv p xs.length H → Q (.ref p) H) : kLc g tt te vs σ Q (Itl K a) H := by
  refine w_lcG (n := xs.length) Pv h0 (fun p i H hi h => ⟨xs, xs[i], SqL.of (hl p i H (Nat.le_of_lt hi) h), List.getElem?_eq_getElem hi⟩) (fun p H h => ⟨xs, SqL.of (hl p _ H (Nat.le_refl _) h), Nat.le_refl _⟩) ?_ hd
  rintro p i x H H' hi h ⟨rfl, hx⟩
  exact hs p i x H' (hx xs (SqL.of (hl p i H' (Nat.le_of_lt hi) h))) h
theorem w_lcR {lo : Int} {n : Nat} {g : TG} {tt : TT} {te : TE} {vs : List Nat} (Pv : Addr → Nat → Hp → Prop) (h0 : ∀ p H1, H1 p = some (.lst []) → Nw p H H1 → Pv p 0 H1)
    (hs : ∀ p i H, i < n → Pv p i H → g (.int (lo + i)) (wipe σ vs) H (kEach tt te vs σ p (Pv p (i + 1)))) (hd : ∀ p H, Pv p n H → Q (.ref p) H) : kLc g tt te vs σ Q (Itr lo n) H := by
  refine w_lcG (n := n) Pv h0 (fun p i H hi h => hi) (fun p H h => Nat.le_refl _) ?_ hd
  rintro p i x H H' hi h ⟨rfl, rfl⟩
  exact hs p i H' hi h
theorem w_lcS {x : Str} {g : TG} {tt : TT} {te : TE} {vs : List Nat} (Pv : Addr → Nat → Hp → Prop) (h0 : ∀ p H1, H1 p = some (.lst []) → Nw p H H1 → Pv p 0 H1)
    (hs : ∀ p i c H, (tl x)[i]? = some c → Pv p i H → g (.str (one c)) (wipe σ vs) H (kEach tt te vs σ p (Pv p (i + 1)))) (hd : ∀ p H, Pv p (tl x).length H → Q (.ref p) H) : kLc g tt te vs σ Q (Its x) H := by
  have hz : x.cps.size = (tl x).length := len_tl x
  refine w_lcG (n := x.cps.size) Pv h0 (fun p i H hi h => hi) (fun p H h => Nat.le_refl _) ?_ (fun p H h => hd p H (by rw [← hz]; exact h))
  rintro p i v H H' hi h ⟨rfl, c, hc, rfl⟩
  exact hs p i c H' (getElem?_of_cps hc) h
end
end Sf
namespace Sf
open PySem PySem.Spec PyProof.Rows L2 TL
/-! ### worlds: the mathematics -/
/-- a move: the code of its letter, from, to -/
abbrev Mv := Nat × Int × Int
def sgs : List Nat := [97, 65, 98, 66, 99, 67, 100, 68, 101, 69, 102, 70, 103, 71, 104, 72]
theorem sgs_iff {c : Nat} : c ∈ sgs ↔ sgn c = true := by
  rw [sgn_iff]
  unfold sgs
  simp only [List.mem_cons, List.not_mem_nil, or_false]
  omega
theorem sgs_nd : sgs.Nodup := by decide
def mvOn (c : Nat) (m : Mv) : Option (Int × Int) := if m.1 = c then some (m.2.1, m.2.2) else if m.1 = c + 32 then some (m.2.2, m.2.1) else none
def LM (ms : List Mv) (c : Nat) : List (Int × Int) := ms.filterMap (mvOn c)
def lk (l : List (Int × Int)) (x : Int) : Option Int := (l.find? fun p => decide (p.1 = x)).map (·.2)
def kvI (l : List (Int × Int)) : List (Key × V) := l.map fun p => (Sum.inl p.1, V.int p.2)
def oV : Option Int → V
  | none => .non
  | some i => .int i
theorem kvI_len (l : List (Int × Int)) : (kvI l).length = l.length := List.length_map ..
theorem val_kvI (x : Int) : ∀ l : List (Int × Int), valV (kvI l) (Sum.inl x) = (lk l x).map V.int
  | [] => rfl
  | (a, b) :: r => by
    unfold kvI lk
    rw [List.map_cons, List.find?_cons]
    by_cases h : a = x
    · rw [valV_pos (by show (Sum.inl a : Key) = Sum.inl x; rw [h]), decide_eq_true h]
      rfl
    · rw [valV_neg (fun e => h (Sum.inl.inj e)), decide_eq_false h]
      exact val_kvI x r
theorem getD_kvI (x : Int) (l : List (Int × Int)) : (valV (kvI l) (Sum.inl x)).getD .non = oV (lk l x) := by
  rw [val_kvI]
  cases lk l x <;> rfl
theorem lk_none {l : List (Int × Int)} {x : Int} (h : ∀ p ∈ l, p.1 ≠ x) : lk l x = none := by
  unfold lk
  rw [List.find?_eq_none.mpr fun p hp => by simp [h p hp]]
  rfl
theorem lk_mem {l : List (Int × Int)} {x y : Int} (h : lk l x = some y) : (x, y) ∈ l := by
  unfold lk at h
  rw [Option.map_eq_some_iff] at h
  obtain ⟨p, hp, rfl⟩ := h
  have h1 := List.find?_some hp
  have h2 := List.mem_of_find?_eq_some hp
  rw [decide_eq_true_eq] at h1
  rw [← h1]
  exact h2
theorem lk_of {l : List (Int × Int)} {x y : Int} (hu : ∀ p ∈ l, ∀ q ∈ l, p.1 = q.1 → p = q) (h : (x, y) ∈ l) : lk l x = some y := by
  cases e : lk l x with
  | none =>
    unfold lk at e
    rw [Option.map_eq_none_iff, List.find?_eq_none] at e
    exact absurd (decide_eq_true rfl) (e _ h)
  | some z =>
    have := hu _ (lk_mem e) _ h rfl
    exact congrArg some (congrArg Prod.snd this)
structure WOk (n : Int) (ms : List Mv) : Prop where
  rg : ∀ m ∈ ms, 97 ≤ m.1 ∧ m.1 ≤ 104 ∧ 0 ≤ m.2.1 ∧ m.2.1 < n ∧ 0 ≤ m.2.2 ∧ m.2.2 < n
  pw : ms.Pairwise fun m k => m.1 = k.1 → m.2.1 ≠ k.2.1 ∧ m.2.2 ≠ k.2.2
theorem WOk.pre {n : Int} {ms : List Mv} {m : Mv} (h : WOk n (ms ++ [m])) : WOk n ms ∧ ∀ k ∈ ms, k.1 = m.1 → k.2.1 ≠ m.2.1 ∧ k.2.2 ≠ m.2.2 :=
  ⟨⟨fun k hk => h.rg k (List.mem_append_left _ hk), (List.pairwise_append.mp h.pw).1⟩, fun k hk => (List.pairwise_append.mp h.pw).2.2 k hk m (List.mem_singleton.mpr rfl)⟩
theorem WOk.take {n : Int} {ms : List Mv} (h : WOk n ms) (i : Nat) : WOk n (ms.take i) := ⟨fun m hm => h.rg m (List.mem_of_mem_take hm), h.pw.sublist (List.take_sublist i ms)⟩
theorem take_snoc {α : Type} {l : List α} {i : Nat} {x : α} (h : l[i]? = some x) : l.take (i + 1) = l.take i ++ [x] := by
  rw [List.take_add_one, h]
  rfl
theorem LM_snoc (ms : List Mv) (m : Mv) (c : Nat) : LM (ms ++ [m]) c = LM ms c ++ (mvOn c m).toList := by
  unfold LM
  rw [List.filterMap_append, List.filterMap_cons]
  cases mvOn c m <;> rfl
theorem LM_mem {ms : List Mv} {c : Nat} {p : Int × Int} : p ∈ LM ms c ↔ ∃ m ∈ ms, (m.1 = c ∧ m.2.1 = p.1 ∧ m.2.2 = p.2) ∨ (m.1 ≠ c ∧ m.1 = c + 32 ∧ m.2.2 = p.1 ∧ m.2.1 = p.2) := by
  unfold LM
  rw [List.mem_filterMap]
  constructor
  · rintro ⟨m, hm, e⟩
    refine ⟨m, hm, ?_⟩
    unfold mvOn at e
    split at e
    · rename_i h
      cases e
      exact .inl ⟨h, rfl, rfl⟩
    · rename_i h
      split at e
      · rename_i h2
        cases e
        exact .inr ⟨h, h2, rfl, rfl⟩
      · cases e
  · rintro ⟨m, hm, e⟩
    refine ⟨m, hm, ?_⟩
    unfold mvOn
    rcases e with ⟨h1, h2, h3⟩ | ⟨h0, h1, h2, h3⟩
    · rw [if_pos h1, h2, h3]
    · rw [if_neg h0, if_pos h1, h2, h3]
/-- the step at a new move: its start is free, its end too -/
theorem new_start {n : Int} {ms : List Mv} {m : Mv} (h : WOk n (ms ++ [m])) : lk (LM ms m.1) m.2.1 = none := lk_none fun p hp => by
  obtain ⟨k, hk, e⟩ := LM_mem.mp hp
  have hr := h.rg k (List.mem_append_left _ hk)
  have hm := h.rg m (List.mem_append_right _ (List.mem_singleton.mpr rfl))
  rcases e with ⟨h1, h2, _⟩ | ⟨_, h1, _⟩
  · rw [← h2]
    exact (h.pre.2 k hk h1).1
  · omega
theorem new_end {n : Int} {ms : List Mv} {m : Mv} (h : WOk n (ms ++ [m])) : lk (LM ms (m.1 - 32)) m.2.2 = none := lk_none fun p hp => by
  obtain ⟨k, hk, e⟩ := LM_mem.mp hp
  have hr := h.rg k (List.mem_append_left _ hk)
  have hm := h.rg m (List.mem_append_right _ (List.mem_singleton.mpr rfl))
  rcases e with ⟨h1, h2, _⟩ | ⟨_, h1, h2, _⟩
  · omega
  · rw [← h2]
    exact (h.pre.2 k hk (by omega)).2
theorem mvOn_self (m : Mv) : mvOn m.1 m = some (m.2.1, m.2.2) := by
  unfold mvOn
  rw [if_pos rfl]
theorem mvOn_great {m : Mv} (h : 97 ≤ m.1) : mvOn (m.1 - 32) m = some (m.2.2, m.2.1) := by
  unfold mvOn
  rw [if_neg (by omega), if_pos (by omega)]
theorem mvOn_other {m : Mv} {c : Nat} (h1 : c ≠ m.1) (h2 : c ≠ m.1 - 32) (h : 97 ≤ m.1) : mvOn c m = none := by
  unfold mvOn
  rw [if_neg (Ne.symm h1), if_neg (by omega)]
theorem LM_len (ms : List Mv) (c : Nat) : (LM ms c).length ≤ ms.length := List.length_filterMap_le ..
/-- where a word leads -/
def ledM (st : Nat → Int → Option Int) : List Nat → Int → Option Int
  | [], x => some x
  | c :: r, x => (st c x).bind (ledM st r)
theorem ledM_app (st : Nat → Int → Option Int) : ∀ (l r : List Nat) (x : Int), ledM st (l ++ r) x = (ledM st l x).bind (ledM st r)
  | [], r, x => rfl
  | c :: l, r, x => by
    show (st c x).bind (ledM st (l ++ r)) = ((st c x).bind (ledM st l)).bind (ledM st r)
    cases st c x with
    | none => rfl
    | some y => exact ledM_app st l r y
theorem ledM_snoc {st : Nat → Int → Option Int} {l : List Nat} {i c : Nat} {x : Int} (h : l[i]? = some c) : ledM st (l.take (i + 1)) x = (ledM st (l.take i) x).bind (st c) := by
  rw [take_snoc h, ledM_app]
  cases ledM st (l.take i) x with
  | none => rfl
  | some y =>
    show (st c y).bind (fun z => some z) = st c y
    cases st c y <;> rfl
theorem ledM_none {st : Nat → Int → Option Int} {l : List Nat} {i : Nat} {x : Int} (h : ledM st (l.take i) x = none) : ledM st l x = none := by
  have e := ledM_app st (l.take i) (l.drop i) x
  rw [List.take_append_drop, h] at e
  exact e
theorem one_inj {a b : Nat} (h : one a = one b) : a = b := by
  have h2 : tl (one a) = tl (one b) := by rw [h]
  exact (List.cons.inj h2).1
def stp (L : Nat → List (Int × Int)) (c : Nat) (x : Int) : Option Int := lk (L c) x
theorem val_sgs {f : Nat → V} {c : Nat} : ∀ {l : List Nat}, c ∈ l → valV (l.map fun c => ((Sum.inr (one c) : Key), f c)) (Sum.inr (one c)) = some (f c)
  | a :: r, h => by
    rw [List.map_cons]
    by_cases e : a = c
    · subst e
      exact valV_pos rfl
    · rw [valV_neg fun z => e (by
        have := Sum.inr.inj z
        have h2 : tl (one a) = tl (one c) := by rw [this]
        exact List.cons.inj h2 |>.1)]
      exact val_sgs ((List.mem_cons.mp h).resolve_left fun z => e z.symm)
theorem val_sgs_none {f : Nat → V} {c : Nat} : ∀ {l : List Nat}, c ∉ l → valV (l.map fun c => ((Sum.inr (one c) : Key), f c)) (Sum.inr (one c)) = none
  | [], _ => rfl
  | a :: r, h => by
    rw [List.map_cons, valV_neg fun z => h (by
        have := Sum.inr.inj z
        have h2 : tl (one a) = tl (one c) := by rw [this]
        rw [(List.cons.inj h2).1]
        exact List.mem_cons_self)]
    exact val_sgs_none fun z => h (List.mem_cons_of_mem _ z)
end Sf
namespace Sf
open PySem PySem.Spec PyProof.Rows L2 TL
/-! ### data: lists, tuples compared -/
section
variable {K : PySem.W.Frag} {H : Hp}
theorem lay_all {α : Type} {f : α → PyData} : ∀ {l : List α}, (∀ x ∈ l, PyData.canLay0 (f x) = true) → PyData.canLayAll0 (l.map f) = true
  | [], _ => rfl
  | x :: l, h => by
    rw [List.map_cons, PyData.canLayAll0, h x List.mem_cons_self, lay_all fun y hy => h y (List.mem_cons_of_mem _ hy)]
    rfl
theorem depth_all {α : Type} {f : α → PyData} {k : Nat} : ∀ {l : List α}, (∀ x ∈ l, (f x).depth ≤ k) → PyData.depthAll (l.map f) ≤ k
  | [], _ => Nat.zero_le _
  | x :: l, h => by
    rw [List.map_cons, PyData.depthAll]
    exact Nat.max_le.mpr ⟨h x List.mem_cons_self, depth_all fun y hy => h y (List.mem_cons_of_mem _ hy)⟩
theorem dp_map {α : Type} {f : α → PyData} {vs : List V} {l : List α} (h : Paired (fun v x => Dp K H v (f x)) vs l) : DpAll K H vs (l.map f) := by
  induction h with
  | nil => exact .nil
  | cons r _ ih => exact .cons r ih
theorem shaped_list {α : Type} {f : α → PyData} {l : List α} (h1 : ∀ x ∈ l, PyData.canLay0 (f x) = true) (h2 : ∀ x ∈ l, (f x).depth ≤ 60) : SeqAt.shaped (.list (l.map f)) = true := by
  unfold SeqAt.shaped
  rw [PyData.canLay0, lay_all h1, Bool.true_and, PyData.depth]
  have := depth_all h2
  exact decide_eq_true (by omega)
theorem strOk_wd {x : Str} (h : Wd x) : PyData.canLay0 (.str x) = true := by
  rw [PyData.canLay0]
  unfold PyData.strOk
  rw [Array.all_eq_true']
  intro c hc
  have := sgn_lt (h c (Array.mem_def.mp hc))
  exact decide_eq_true (by omega)
theorem eqv_nil {ds : List PyData} : PyData.eqv (.list ds) (.list []) = ds.isEmpty := by
  cases ds <;> simp [PyData.eqv, PyData.eqvAll]
/-- l != [] -/
theorem w_neNil {Q : VK} {p q : Addr} {ds : List PyData} {vs : List V} (h : H p = some (.lst vs)) (hd : DpAll K H vs ds) (hs : SeqAt.shaped (.list ds) = true) (hq : H q = some (.lst [])) (k : Q (.bl (!ds.isEmpty)) H) : rNeD K (.ref p) (.ref q) H Q :=
  ⟨_, _, .lst (SqL.of h) hd, .lst (SqL.of hq) .nil, hs, by decide +kernel, by rw [eqv_nil]; exact k⟩
theorem dpI : ∀ l : List Int, DpAll K H (l.map V.int) (l.map .int)
  | [] => .nil
  | _ :: l => .cons (.int _) (dpI l)
theorem shapedI (l : List Int) : SeqAt.shaped (.list (l.map .int)) = true := shaped_list (fun x _ => by rw [PyData.canLay0]) (fun x _ => by rw [PyData.depth]; omega)
theorem w_neNilI {Q : VK} {p q : Addr} {ns : List Int} (h : H p = some (.lst (ns.map V.int))) (hq : H q = some (.lst [])) (k : Q (.bl (!ns.isEmpty)) H) : rNeD K (.ref p) (.ref q) H Q :=
  w_neNil h (dpI ns) (shapedI ns) hq (by rw [List.isEmpty_map]; exact k)
/-- two lists of the same data -/
theorem w_neSame {Q : VK} {x y : V} {d : PyData} (h1 : Dp K H x d) (h2 : Dp K H y d) (hs : SeqAt.shaped d = true) (k : Q (.bl false) H) : rNeD K x y H Q :=
  ⟨d, d, h1, h2, hs, hs, by rw [SeqAt.eqv_refl d (SeqAt.canLay_of_shaped hs)]; exact k⟩
theorem w_eqSame {Q : VK} {x y : V} {d : PyData} (h1 : Dp K H x d) (h2 : Dp K H y d) (hs : SeqAt.shaped d = true) (k : Q (.bl true) H) : rEqD K x y H Q :=
  ⟨d, d, h1, h2, hs, hs, by rw [SeqAt.eqv_refl d (SeqAt.canLay_of_shaped hs)]; exact k⟩
end
end Sf
namespace Sf
open PySem PySem.Spec PyProof.Rows L2 TL
theorem passes_len {X : Cx} {W : WX} (n : Nat) (hn : X.N.length = n) (tk : Takes X W) : Passes (L2.CX X.prog X.w) X (fun cls d H => ∀ σ : L2.St, σ.length = n → W cls d σ H) := fun _ σ _ _ e s' I c => tk e s' (XE.of_call I (fun _ _ _ h => h σ (I.len.trans hn)) c)
section
variable {X : Cx} {CX : CXT} {k : Nat} {f C : Addr} {fd : FuncData} {ps : List Str} {sp : Sp} {E : XK} {x m : Str} {p pos apos : Pos} {e o : Expr} {es : List Expr} {te ta : TE} {t : TA} {mc : Value}
/-! ### C(), C an own exception whose __init__ is walked -/
theorem pmk_oex0 {fI : Addr} (T : OexC X.K C) (iC : PySem.W.findIn X.K (.ref C) "__init__" = some (some (.ref fI))) (tI : PySem.W.typeIn X.K (.ref fI) = some (.type "function"))
    (F1 : FnOk X.prog X.w X.K X.mg X.base CX k fI fd ps sp) (hr : Room (k + 1) X.A) (hb : Binds X.K fd ps []) (hx : Passes CX X (fun _ _ _ => False)) (hg : Gl X x) (hm : X.mg x = some (.ref C))
    (hdb : (x == ("__debug__" : Str)) = false := by decide) : PMk X (.Call (.Name x p) [] [] pos) (tMkO C sp [] tNil) := by
  intro pins s σ H Q I h
  obtain ⟨nm, q, N, bs, bm, sn, sub, ab, col, dd, k0, k1, k2, k3, k5, hC, hbm⟩ := T.cls
  refine wpAny_Call_Name_kw (ld_glob I hg hm ?_ hdb)
  refine PySem.W.callWith_K0 I.kIn T.kC ?_
  show wpAny _ _ (call (.ref C) []) _ _ _
  obtain ⟨hz, q1⟩ := h
  obtain ⟨hp, g, dr, tk, os⟩ := s
  have hsz : hp.objs.size ≤ hp.objs.size + 1 := Nat.le_succ _
  have hn : H (hp.objs.size + 1) = none := I.hok.fresh hsz
  have hq := q1 (hp.objs.size + 1) hn
  have kk : ∀ b o, hp.get? b = some o → ((hp.push (PySem.W.kdv_tup [])).push (PySem.HandSPX.excO C hp.objs.size)).get? b = some o := fun b o e => Heap.get?_push_of_some _ (Heap.get?_push_of_some _ e)
  have hget : ((hp.push (PySem.W.kdv_tup [])).push (PySem.HandSPX.excO C hp.objs.size)).get? (hp.objs.size + 1) = some (PySem.HandSPX.excO C hp.objs.size) := by heap_get
  have I2 : Inv X pins σ (upd H (hp.objs.size + 1) (exo (hp.objs.size + 1) C none)) ⟨(hp.push (PySem.W.kdv_tup [])).push (PySem.HandSPX.excO C hp.objs.size), g, dr, tk, os⟩ :=
    I.laid (t' := tk) (a := hp.objs.size + 1) (o := exo (hp.objs.size + 1) C none) (h' := (hp.push (PySem.W.kdv_tup [])).push (PySem.HandSPX.excO C hp.objs.size)) kk hsz (exo_ok hget)
  have r2 : Vals [V.ref (hp.objs.size + 1)] [Value.ref (hp.objs.size + 1)] := .cons rfl .nil
  have hl : [Value.ref (hp.objs.size + 1)].length = ps.length := by
    have e : [V.ref (hp.objs.size + 1)].length = ps.length := F1.len _ _ _ _ hq
    exact e
  refine wpAny_call (PySem.HandSPX.call_own F.excBase_ValueError (fun Y => PySem.HandSPX.refsVE_contains Y bm hbm) (I.kIn _ _ hC) (PySem.W.looks_findIn I.kIn iC) (fun self => PySem.W.bind_fn I.kIn self tI) (by decide)
    (codeAny_mono (F1.run _ X.stack _ _ ⟨[Value.ref (hp.objs.size + 1)], []⟩ [Value.ref (hp.objs.size + 1)] _ _ (fun _ _ _ => False) (hr.make C [] []) (I2.env0.make C [] []) (hb _ [Value.ref (hp.objs.size + 1)] I2.kIn hl) r2 hq) fun r s' hq' => ?_))
  cases r with
  | error er => exact hx pins σ _ _ er s' I2 hq'
  | ok fl =>
    cases fl with
    | ret u =>
      obtain ⟨v, H2, os2, bare2, un2, hok2, rv, ev, d, fs, ea, ed, hd1, q2⟩ := hq'
      subst ev
      obtain ⟨h2, g2, d2, t2, os'⟩ := s'
      exact ⟨rv, mk_end (raises_own T.exC T.tyC) I hsz kk un2 hok2 os2 bare2 ea ed hd1 q2⟩
    | next => exact False.elim hq'
    | brk => exact False.elim hq'
    | cont => exact False.elim hq'
/-! ### C.m(..), C an own class, m a def of it -/
def tClsFn (C : Addr) (sp : Sp) (E : XK) (ta : TE) (t : TA) : TE := fun σ H Q => ta σ H fun x H1 => x = .ref C ∧ t σ H1 fun vs H2 => sp vs H2 Q E
theorem pe_clsFn {pl : Sem Bool} (he : PE X o ta) (rd : PySem.W.readsIn X.K C mc = true) (ga : PySem.W.specialIn X.K (.ref C) "__getattribute__" = some (some (.builtin "type.__getattribute__"))) (at_ : PySem.W.findCls X.K (.ref C) mc m = some (.val (.ref f)))
    (F : FnOk X.prog X.w X.K X.mg X.base CX k f fd ps sp) (hr : Room k X.A) (kp : PySem.W.keepIn X.K (.ref f) = true) (hb : Binds X.K fd ps []) (hx : Passes CX X E) (ha : PA X (e :: es) t)
    (hst : starEach (e :: es) X.env = (false, eval e X.env) :: starEach es X.env := by rfl) (hpl : (backTo pos (starEach es X.env)).any (·.1) = false := by rfl)
    (ht : eval (.Call (.Attribute o m apos) (e :: es) [] pos) X.env = (do
      let ov ← eval o X.env
      standAt apos.atName
      let (f, first) ← holding [ov] (getMethod ov m pl)
      callWith pos f first (backTo pos (starEach (e :: es) X.env)) (backToKw pos (keywordEach [] X.env))) := by rfl) :
    PE X (.Call (.Attribute o m apos) (e :: es) [] pos) (tClsFn C sp E ta t) := by
  refine ⟨fun pins s σ H Q I h => ?_⟩
  refine PySem.W.methodCall_KW (pl := pl) (thn (he.run pins s σ H _ I h) fun u s1 ⟨x, H1, I1, rx, ex, q⟩ => ?_) ht
  subst ex
  obtain rfl : u = Value.ref C := rx
  refine PySem.W.method_cls I1.kIn ga (PySem.W.cls_value I1.kIn rd at_ rfl ?_)
  refine PySem.W.callWith_K (h₀ := X.base) I1.ok.mod.kin kp (thn (ha.run pos pins _ σ H1 _ (I1.tok _) q) fun us s3 ⟨vs, H2, I3, rv, q2⟩ => ⟨I3.kIn, ?_⟩) hst hpl
  exact run_fn F hr hb (dvs := []) .nil hx I3 rv (by rw [List.append_nil]; exact q2)
end
end Sf
namespace Sf
open PySem PySem.Spec PyProof.Rows L2 TL
/-! ### a def with defaults -/
structure FunD (K : PySem.W.Frag) (x qual : Str) (st : Stmt) (f : Addr) (fd : FuncData) : Prop where
  ex : ∃ (oc : Value) (od : Option Addr) (dV kV doc pm : Value) (an : Option Addr) (cdv ct : Value) (osl : Array (Option Value)),
    fd = PySem.W.fnOf x qual (defArgs st) (defBody st) (defScope st) dV kV doc pm an cdv ct ∧ K.lookup f = some ⟨oc, od, .func fd, osl⟩ ∧ PySem.W.codeIn K cdv qual = true
  kp : PySem.W.keepIn K (.ref f) = true
theorem FunD.ok {P : Program} {w : World} {K : PySem.W.Frag} {mg : Str → Option Value} {base : Heap} {x qual : Str} {st : Stmt} {f : Addr} {fd : FuncData} {N ps : List Str} {k : Nat} {sp : Sp} (F : FunD K x qual st f fd) (S : FnScope N ps (defScope st)) (len : ∀ vs H Q E, sp vs H Q E → vs.length = ps.length)
    (hbody : ∀ (cdv : Value) (A : Around) (outer : List Env) (s : Shared) (H : Hp) (vs : List V) (Q : VK) (E : XK), Room k (A.deeper (envOfC qual (defScope st) s.heap.objs.size f cdv)) → sp vs H Q E →
      ∃ t, PSs (cxOf CX0 P w K mg base N qual (defScope st) f cdv A outer s H E).nox (defBody st) t ∧ t { nx := fun _ H' => Q .non H', rt := Q } (start N vs) H) : FnOk P w K mg base CX0 (k + 1) f fd ps sp := by
  obtain ⟨oc, od, dV, kV, doc, pm, an, cdv, ct, osl, rfl, lk, hcd⟩ := F.ex
  refine fn_of lk hcd S len fun A outer s H vs Q E hr hsp => ?_
  obtain ⟨t, h, q⟩ := hbody cdv A outer s H vs Q E hr hsp
  exact ⟨t, h.nox, q⟩
def FbD (K : PySem.W.Frag) (x qual : Str) (st : Stmt) (f : Addr) (ps : List Str) : Prop := ∃ fd, FunD K x qual st f fd ∧ Binds K fd ps []
def Fb (K : PySem.W.Frag) (x qual : Str) (st : Stmt) (f : Addr) (ps : List Str) : Prop := ∃ fd, Fun K x qual st f fd ∧ Binds K fd ps []
theorem fbD_mk {K : PySem.W.Frag} {x qual : Str} {st : Stmt} {f T : Addr} {ps : List Str} {oc : Value} {od an : Option Addr} {osl : Array (Option Value)} {kV doc pm cdv ct : Value} (l : K.lookup f = some ⟨oc, od, .func (PySem.W.fnOf x qual (defArgs st) (defBody st) (defScope st) (.ref T) kV doc pm an cdv ct), osl⟩)
    (c : PySem.W.codeIn K cdv qual = true) (k : PySem.W.keepIn K (.ref f) = true)
    (b : ∀ (kV doc pm : Value) (an : Option Addr) (cdv ct : Value) (s : Shared) (us : List Value), K.In s.heap → us.length = ps.length → BindsTo s (PySem.W.fnOf x qual (defArgs st) (defBody st) (defScope st) (.ref T) kV doc pm an cdv ct) ⟨us, []⟩ (ps.zip us)) : FbD K x qual st f ps :=
  ⟨_, ⟨⟨oc, od, .ref T, kV, doc, pm, an, cdv, ct, osl, rfl, l, c⟩, k⟩, fun s us X hl => by
    rw [List.append_nil] at hl ⊢
    exact b kV doc pm an cdv ct s us X hl⟩
theorem se_binds {K : PySem.W.Frag} {T : Addr} {o : Obj} {v1 v2 : Value} {n : Nat} (ho : K.lookup T = some o) (hs : o.data = .seq #[v1, v2] n) (kV doc pm : Value) (an : Option Addr) (cdv ct : Value) (s : Shared) (us : List Value) (X : K.In s.heap) (hl : us.length = 3) :
    BindsTo s (PySem.W.fnOf "__init__" "SpoorError.__init__" (defArgs s_SpoorError___init__) (defBody s_SpoorError___init__) (defScope s_SpoorError___init__) (.ref T) kV doc pm an cdv ct) ⟨us, []⟩ ((["self", "word", "message"] : List Str).zip us) := by
  match us, hl with
  | [_, _, _], _ => exact PySem.W.binds_K X rfl ho hs rfl rfl
theorem fb_mk {K : PySem.W.Frag} {x qual : Str} {st : Stmt} {f : Addr} {ps : List Str} {oc : Value} {od an : Option Addr} {osl : Array (Option Value)} {kV doc pm cdv ct : Value} (l : K.lookup f = some ⟨oc, od, .func (PySem.W.fnOf x qual (defArgs st) (defBody st) (defScope st) .none kV doc pm an cdv ct), osl⟩)
    (c : PySem.W.codeIn K cdv qual = true) (k : PySem.W.keepIn K (.ref f) = true) (b : ∀ (kV doc pm : Value) (an : Option Addr) (cdv ct : Value) (us : List Value), us.length = ps.length → bindArgs (PySem.W.fnOf x qual (defArgs st) (defBody st) (defScope st) .none kV doc pm an cdv ct) ⟨us, []⟩ = pure (ps.zip us)) : Fb K x qual st f ps :=
  ⟨_, fun_mk l c k, (fun_mk l c k).binds b⟩
theorem exm_self {K : PySem.W.Frag} {C : Addr} (h0 : PySem.W.subIn K (.ref C) (.type "BaseException") = some true) (h1 : PySem.W.isClsIn K C = true) (h2 : PySem.W.typeIn K (.ref C) = some (.type "type")) (h3 : PySem.W.subIn K (.ref C) (.ref C) = some true) : PySem.W.exmOne K (.ref C) (.ref C) = some true := by
  unfold PySem.W.exmOne
  rw [if_pos (by rw [h0]; rfl)]
  unfold PySem.W.isClsIn at h1
  unfold PySem.W.kitCls
  dsimp only
  rw [h1, h2, if_pos (by simp), h3]
/-! ### the refusals -/
/-- an own refusal, the class at C, its __init__ at f -/
structure EC (K : PySem.W.Frag) (mg : Str → Option Value) (nm : Str) (C f : Addr) : Prop where
  ox : OexC K C
  iC : PySem.W.findIn K (.ref C) "__init__" = some (some (.ref f))
  tI : PySem.W.typeIn K (.ref f) = some (.type "function")
  gC : mg nm = some (.ref C)
  xf : XfC K C
  nw : PySem.W.findIn K (.ref C) "word" = some none
  te : PySem.W.exmOne K (.ref C) (.ref C) = some true
theorem oex_mk {K : PySem.W.Frag} {C : Addr} {nm q : Str} {N : Addr} {bs bm : List Value} {sn : List Str} {sub : List Value} {ab : Bool} {col : Option Bool} {dd : Option Addr} {k0 k1 k2 k3 k5 : Option Value}
    (lk : K.lookup C = some (excClassObj nm q C N bs bm true sn sub ab col dd k0 k1 k2 k3 k5 "ValueError.__new__")) (rv : PySem.HandSPX.refsVE bm = true) (sa : PySem.W.findIn K (.ref C) "__setattr__" = some (some (.builtin "object.__setattr__"))) (ex : PySem.W.subIn K (.ref C) (.type "BaseException") = some true)
    (ty : PySem.W.typeIn K (.ref C) = some (.type "type")) (kC : PySem.W.keepIn K (.ref C) = true) : OexC K C := ⟨⟨nm, q, N, bs, bm, sn, sub, ab, col, dd, k0, k1, k2, k3, k5, lk, rv⟩, sa, ex, ty, kC⟩
/-- SpoorError itself -/
structure SE (K : PySem.W.Frag) (mg : Str → Option Value) (C f : Addr) : Prop where
  gC : mg "SpoorError" = some (.ref C)
  rd : PySem.W.readsIn K C (.type "type") = true
  ga : PySem.W.specialIn K (.ref C) "__getattribute__" = some (some (.builtin "type.__getattribute__"))
  at_ : PySem.W.findCls K (.ref C) (.type "type") "__init__" = some (.val (.ref f))
  vV : PySem.W.findCls K (.type "ValueError") (.type "type") "__init__" = some (.val (.builtin "ValueError.__init__"))
  mV : mg "ValueError" = none
section
variable {P : Program} {w : World} {K : PySem.W.Frag} {mg : Str → Option Value} {base : Heap} {C CS fS : Addr}
def spSE (K : PySem.W.Frag) : Sp := fun vs H Q _ => ∃ (a C : Addr) (z m : Str), vs = [.ref a, .str z, .str m] ∧ OexC K C ∧ PySem.W.findIn K (.ref C) "word" = some none ∧ H a = some (exo a C none) ∧
  ∀ dx, H dx = none → dx ≠ a → Q .non (upd (upd H dx (exd dx [(("word" : Str), .str z)])) a (exo a C (some dx)))
theorem sc_se : FnScope ["self", "word", "message"] ["self", "word", "message"] (defScope s_SpoorError___init__) := ⟨rfl, rfl, rfl, by decide +kernel, rfl, by decide +kernel, by decide +kernel⟩
theorem ok_se {f : Addr} {fd : FuncData} {j : Nat} (F : FunD K "__init__" "SpoorError.__init__" s_SpoorError___init__ f fd) (S : SE K mg CS fS) : FnOk P w K mg base CX0 (j + 1) f fd ["self", "word", "message"] (spSE K) := by
  refine F.ok sc_se (fun vs H Q E h => ?_) (fun cdv A outer s H vs Q E hr h => ?_)
  · obtain ⟨a, C, z, m, rfl, _⟩ := h
    rfl
  · obtain ⟨a, C, z, m, rfl, ox, nw, ha, q⟩ := h
    refine ⟨_, pss_cons (ps_expr (pe_veinit (by rfl) S.mV S.vV (pa_cons (pv 0) (pa_cons (pv 2) pa_nil)))) (pss_one (ps_ost (pv 0) (pv 1))), ?_⟩
    refine ⟨_, rfl, _, rfl, a, C, _, rfl, (by show 1 ≤ 1000; decide), ox, ha, ?_⟩
    exact ⟨_, rfl, _, rfl, a, C, rfl, ox, nw, .inl ⟨ha, fun dx n ne => q dx n ne⟩⟩
/-- X.__init__(self): the word of X -/
def spEx (K : PySem.W.Frag) (z : Str) : Sp := fun vs H Q _ => ∃ (a C : Addr), vs = [.ref a] ∧ OexC K C ∧ PySem.W.findIn K (.ref C) "word" = some none ∧ H a = some (exo a C none) ∧
  ∀ dx, H dx = none → dx ≠ a → Q .non (upd (upd H dx (exd dx [(("word" : Str), .str z)])) a (exo a C (some dx)))
theorem w_mkO {H : Hp} {σ : L2.St} {W : XK} {z nm : Str} {f : Addr} (T : EC K mg nm C f) (k : ∀ (d : Addr) (H' : Hp), H d = none → H' d = some (.xd [(("word" : Str), .str z)]) → Same H H' → W (.ref C) (some d) H') : tMkO C (spEx K z) [] tNil σ H W := by
  refine ⟨by show 0 ≤ 1000; decide, fun a na => ⟨a, C, rfl, T.ox, T.nw, upd_same, fun dx n ne => ⟨rfl, dx, _, upd_same, ?_, ?_, k dx _ ?_ upd_same fun b o e => ?_⟩⟩⟩
  · rw [upd_ne ne, upd_same]
  · rw [upd_ne ne] at n
    exact n
  · rw [upd_ne ne] at n
    exact n
  · rw [upd_ne ne] at n
    rw [upd_ne (ne_of_none e n), del_ne (ne_of_none e na), upd_ne (ne_of_none e na), upd_ne (ne_of_none e n), upd_ne (ne_of_none e na)]
    exact e
end
end Sf
set_option hygiene false
/-! heap look-ups: hp; unlike addresses: ne; steps: st, go -/
local macro_rules | `(tactic| walk_at "hp") => `(tactic| first
  | assumption
  | (refine Sf.Nw.at (by assumption) ?_; walk_at "hp")
  | (refine L2.Same.at (by assumption) ?_; walk_at "hp")
  | (refine Sf.Of.at (by assumption) ?_ ?_; (case refine_1 => walk_at "ne"); (case refine_2 => walk_at "hp"))
  | (refine Sf.Fx.at (by assumption) ?_ ?_; (case refine_1 => walk_at "ne"); (case refine_2 => walk_at "hp")))
local macro_rules | `(tactic| walk_at "ne") => `(tactic| first
  | assumption
  | exact Ne.symm (by assumption)
  | exact Sf.Nw.ne (by assumption) (by walk_at "hp")
  | exact (Sf.Nw.ne (by assumption) (by walk_at "hp")).symm)
local macro_rules | `(tactic| walk_at "sm") => `(tactic| first
  | assumption
  | exact L2.Same.refl _
  | (refine L2.Same.nw ?_ (by assumption); walk_at "sm")
  | (refine L2.Same.trans ?_ (by assumption); walk_at "sm"))
local macro_rules | `(tactic| walk_at "bg") => `(tactic| first
  | assumption
  | (refine Sf.Bag.nw ?_ (by assumption); walk_at "bg")
  | (refine Sf.Bag.same (by assumption) ?_; walk_at "bg"))
local macro_rules | `(tactic| walk_at "fx") => `(tactic| first
  | assumption
  | exact Sf.Fx.refl
  | (refine Sf.Fx.nw ?_ (by assumption); walk_at "fx")
  | (refine Sf.Fx.same ?_ (by assumption); walk_at "fx")
  | (refine Sf.Fx.trans ?_ (by assumption); walk_at "fx"))
local macro_rules | `(tactic| walk_at "sz") => `(tactic| first
  | decide
  | (simp only [List.length_cons, List.length_nil, Nat.zero_add]; decide))
local macro_rules | `(tactic| walk_at "s0") => `(tactic| first
  | with_reducible refine Sf.w_var rfl ?_
  | with_reducible refine Sf.w_c ?_
  | with_reducible refine Sf.w_cons ?_
  | with_reducible refine Sf.w_nil ?_
  | with_reducible refine Sf.w_op ?_
  | with_reducible refine Sf.w_asg ?_
  | with_reducible refine Sf.w_gn ?_
  | with_reducible refine Sf.w_call ?_
  | with_reducible refine Sf.w_cb ?_
  | with_reducible refine Sf.w_if ?_
  | with_reducible refine Sf.w_test ?_
  | with_reducible refine Sf.w_tB ?_
  | with_reducible refine Sf.w_kB ?_
  | with_reducible refine Sf.w_i0 ?_
  | with_reducible refine Sf.w_eqI ?_
  | with_reducible refine Sf.w_neI ?_
  | with_reducible refine Sf.w_eqS ?_
  | with_reducible refine Sf.w_neS ?_
  | with_reducible refine Sf.w_eqB ?_
  | with_reducible refine Sf.w_neB ?_
  | with_reducible refine Sf.w_inSg ?_
  | with_reducible refine Sf.w_notInSg ?_
  | with_reducible refine Sf.w_isNI ?_
  | with_reducible refine Sf.w_isNN ?_
  | with_reducible refine Sf.w_isN ?_
  | with_reducible refine Sf.w_notNI ?_
  | with_reducible refine Sf.w_notNN ?_
  | with_reducible refine Sf.w_notN ?_
  | with_reducible refine Sf.w_un ?_
  | with_reducible refine Sf.w_u ?_
  | with_reducible refine Sf.w_sl ?_
  | with_reducible refine Sf.w_nopart ?_
  | with_reducible refine Sf.w_part ?_
  | with_reducible refine Sf.w_kpart ?_
  | with_reducible refine Sf.w_and ?_
  | with_reducible refine Sf.w_or ?_
  | with_reducible refine Sf.w_not ?_
  | with_reducible refine Sf.w_kNotT ?_
  | with_reducible refine Sf.w_kNotF ?_
  | with_reducible refine Sf.w_kNotN ?_
  | with_reducible refine Sf.w_kNot ?_
  | with_reducible refine Sf.w_andT ?_
  | with_reducible refine Sf.w_andF ?_
  | with_reducible refine Sf.w_orT ?_
  | with_reducible refine Sf.w_orF ?_
  | with_reducible refine Sf.w_andV ?_
  | with_reducible refine Sf.w_andVT ?_
  | with_reducible refine Sf.w_andVF ?_
  | with_reducible refine Sf.w_orV ?_
  | with_reducible refine Sf.w_notV ?_
  | with_reducible refine Sf.w_kNotVT ?_
  | with_reducible refine Sf.w_kNotVF ?_
  | with_reducible refine Sf.w_kNotV ?_
  | with_reducible refine Sf.w_ifE ?_
  | with_reducible refine Sf.w_ifET ?_
  | with_reducible refine Sf.w_ifEF ?_
  | with_reducible refine Sf.w_ifT ?_
  | with_reducible refine Sf.w_ifF ?_
  | with_reducible refine Sf.w_chain ?_
  | with_reducible refine Sf.w_lst ?_
  | with_reducible refine Sf.w_tup ?_
  | with_reducible refine Sf.w_drop ?_
  | with_reducible refine Sf.w_ret ?_
  | with_reducible refine Sf.w_retN ?_
  | with_reducible refine Sf.w_next ?_
  | with_reducible refine Sf.w_break ?_
  | with_reducible refine Sf.w_cont ?_
  | with_reducible refine Sf.w_meth ?_
  | with_reducible refine Sf.w_make ?_
  | with_reducible refine Sf.w_fld ?_
  | with_reducible refine Sf.w_sfld ?_
  | with_reducible refine Sf.w_bm ?_
  | with_reducible refine Sf.w_bm0 ?_
  | ((with_reducible refine' Sf.w_kbmL ?hp_ ?_); (case hp_ => walk_at "hp"))
  | with_reducible refine Sf.w_m0 ?_
  | with_reducible refine Sf.w_kM0 ?_
  | with_reducible refine Sf.w_m1 ?_
  | with_reducible refine Sf.w_kM1 ?_
  | with_reducible refine Sf.w_par ?_
  | with_reducible refine Sf.w_kPar ?_
  | with_reducible refine Sf.w_gcons ?_
  | with_reducible refine Sf.w_gnil ?_
  | with_reducible refine Sf.w_gsub ?_
  | with_reducible refine Sf.w_for ?_
  | with_reducible refine Sf.w_rng1 ?_
  | with_reducible refine Sf.w_ilist ?_
  | with_reducible refine Sf.w_itup ?_
  | with_reducible refine Sf.w_istr ?_
  | with_reducible refine Sf.w_kStr ?_
  | with_reducible refine Sf.w_ienum ?_
  | with_reducible refine Sf.w_lc ?_
  | with_reducible refine Sf.w_yes ?_
  | with_reducible refine Sf.w_tstT ?_
  | with_reducible refine Sf.w_tstF ?_
  | with_reducible refine Sf.w_each rfl ?_
  | with_reducible refine Sf.w_dget ?_
  | with_reducible refine Sf.w_din ?_
  | with_reducible refine Sf.w_dnotin ?_
  | ((with_reducible refine' Sf.w_kDInI ?hp_ ?_); (case hp_ => walk_at "hp"))
  | ((with_reducible refine' Sf.w_kDInS ?hp_ ?_); (case hp_ => walk_at "hp"))
  | ((with_reducible refine' Sf.w_kDNotInI ?hp_ ?_); (case hp_ => walk_at "hp"))
  | ((with_reducible refine' Sf.w_kDNotInS ?hp_ ?_); (case hp_ => walk_at "hp"))
  | with_reducible refine Sf.w_dget1 ?_
  | ((with_reducible refine' Sf.w_kDGet1 ?hp_ ?_); (case hp_ => walk_at "hp"))
  | ((with_reducible refine' Sf.w_kDGet1I ?hp_ ?_); (case hp_ => walk_at "hp"))
  | ((with_reducible refine' Sf.w_kDGet1S ?hp_ ?_); (case hp_ => walk_at "hp"))
  | with_reducible refine Sf.w_sdput ?_
  | with_reducible refine Sf.w_dc ?_
  | with_reducible refine Sf.w_tstDT ?_
  | with_reducible refine Sf.w_eachD rfl ?_
  | with_reducible refine Sf.w_lstRg ?_
  | with_reducible refine Sf.w_min2 ?_
  | with_reducible refine Sf.w_max2 ?_
  | with_reducible refine Sf.w_starts ?_
  | with_reducible refine Sf.w_ends ?_
  | with_reducible refine Sf.w_rg1 ?_
  | with_reducible refine Sf.w_kRg1 ?_
  | with_reducible refine Sf.w_aug rfl ?_
  | with_reducible refine Sf.w_ipI ?_
  | with_reducible refine Sf.w_isi_int_int ?_
  | with_reducible refine Sf.w_isi_int_bool ?_
  | with_reducible refine Sf.w_isi_int_str ?_
  | with_reducible refine Sf.w_isi_str_int ?_
  | with_reducible refine Sf.w_isi_str_bool ?_
  | with_reducible refine Sf.w_isi_str_str ?_
  | with_reducible refine Sf.w_isi_bool_int ?_
  | with_reducible refine Sf.w_isi_bool_bool ?_
  | with_reducible refine Sf.w_isi_bool_str ?_
  | with_reducible refine Sf.w_isi_NoneType_int ?_
  | with_reducible refine Sf.w_isi_NoneType_str ?_
  | with_reducible refine Sf.w_isi_NoneType_bool ?_
  | ((with_reducible refine' Sf.w_lenL ?hp_ ?_); (case hp_ => walk_at "hp"))
  | ((with_reducible refine' Sf.w_lenT ?hp_ ?_); (case hp_ => walk_at "hp"))
  | ((with_reducible refine' Sf.w_lenD ?hp_ ?_); (case hp_ => walk_at "hp"))
  | ((with_reducible refine' Sf.w_kList ?hp_ ?_); (case hp_ => walk_at "hp"))
  | ((with_reducible refine' Sf.w_kTupI ?hp_ ?_); (case hp_ => walk_at "hp"))
  | ((with_reducible refine' Sf.w_kEnum ?hp_ ?_); (case hp_ => walk_at "hp"))
  | ((with_reducible refine' Sf.w_ixT ?hp_ ?rf_ ?_); (case hp_ => walk_at "hp"); (case rf_ => exact rfl))
  | ((with_reducible refine' Sf.w_ixL ?hp_ ?rf_ ?_); (case hp_ => walk_at "hp"); (case rf_ => exact rfl))
  | ((with_reducible refine' Sf.w_gtup ?hp_ ?rf_ ?_); (case hp_ => walk_at "hp"); (case rf_ => exact rfl)))
local macro_rules | `(tactic| walk_at "gs") => `(tactic| repeat walk_at "s0")
local macro_rules | `(tactic| walk_at "go") => `(tactic| repeat (first | walk_at "s0" | with_reducible refine Sf.w_seq ?_))
namespace Sf
open PySem PySem.Spec PyProof.Rows L2 TL
section
variable {P : Program} {w : World} {K : PySem.W.Frag} {mg : Str → Option Value} {base : Heap}
/-! ### is_upto -/
def upB : V → Int → Bool
  | .int i, m => decide (0 ≤ i) && decide (i ≤ m)
  | _, _ => false
def flat3 : V → Prop
  | .bl _ => True
  | .int _ => True
  | .str _ => True
  | _ => False
def spUp : Sp := fun vs H Q _ => ∃ (v : V) (m : Int), vs = [v, .int m] ∧ flat3 v ∧ Q (.bl (upB v m)) H
abbrev HasUp (P : Program) (w : World) (K : PySem.W.Frag) (mg : Str → Option Value) (base : Heap) : Prop := Has P w K mg base 1 "is_upto" ["thing", "most"] spUp
theorem sc_up : FnScope ["thing", "most"] ["thing", "most"] (defScope s_is_upto) := ⟨rfl, rfl, rfl, by decide +kernel, rfl, by decide +kernel, by decide +kernel⟩
theorem has_up (F : FnAt K mg "is_upto" s_is_upto ["thing", "most"]) (B : Blt mg) : HasUp P w K mg base := F.has fun F => by
  refine F.ok sc_up (fun vs H Q E h => ?_) (fun cdv A outer s H vs Q E hr h => ?_)
  · obtain ⟨v, m, rfl, _⟩ := h
    rfl
  · obtain ⟨v, m, rfl, hv, q⟩ := h
    refine ⟨_, (pss_one (ps_ret (pe_and (pe_callB call_isi (by rfl) B.isinstance (by decide +kernel) (pa_cons (pv 0) (pa_cons (pe_bltn (v := .ty "int") (by rfl) B.int (by decide +kernel) rfl) pa_nil))) (pe_and (pe_not (pe_callB call_isi (by rfl) B.isinstance (by decide +kernel) (pa_cons (pv 0) (pa_cons (pe_bltn (v := .ty "bool") (by rfl) B.bool (by decide +kernel) rfl) pa_nil)))) (pe_one (pe_chain op_le op_le pe_int (pv 0) (pv 1))))))), ?_⟩
    cases v with
    | int i =>
      walk_at "go"
      refine w_chain2 (fun h0 => ?_) (fun h0 => ?_)
      · walk_at "go"
        rw [upB, decide_eq_true h0, Bool.true_and] at q
        exact q
      · walk_at "go"
        rw [upB, decide_eq_false h0, Bool.false_and] at q
        exact q
    | bl b =>
      walk_at "go"
      exact q
    | str x =>
      walk_at "go"
      exact q
    | non => exact hv.elim
    | byt b => exact hv.elim
    | flt b => exact hv.elim
    | ref b => exact hv.elim
    | ty b => exact hv.elim
end
end Sf
namespace Sf
open PySem PySem.Spec PyProof.Rows L2 TL
/-! ### worlds in the heap -/
def wf (pl ld : Addr) : List (Str × V) := putF "leads" (.ref ld) (putF "places" (.ref pl) [])
theorem fpl_ne : ¬ (("places" : Str) = "leads") := by decide +kernel
theorem wf_places (pl ld : Addr) : (wf pl ld).lookup ("places" : Str) = some (.ref pl) := by
  unfold wf
  rw [lookup_putF, if_neg fpl_ne, lookup_putF, if_pos rfl]
theorem wf_leads (pl ld : Addr) : (wf pl ld).lookup ("leads" : Str) = some (.ref ld) := by
  unfold wf
  rw [lookup_putF, if_pos rfl]
theorem wf_no (pl ld : Addr) {m : Str} (h1 : ¬ m = "leads") (h2 : ¬ m = "places") : (wf pl ld).lookup m = none := by
  unfold wf
  rw [lookup_putF, if_neg h1, lookup_putF, if_neg h2]
  all_goals rfl
/-- moves in the heap -/
def MvAt (H : Hp) (v : V) (m : Mv) : Prop := ∃ t, v = .ref t ∧ H t = some (.tup [.str (one m.1), .int m.2.1, .int m.2.2])
abbrev MvsAt (H : Hp) (vs : List V) (ms : List Mv) : Prop := Paired (MvAt H) vs ms
/-- tuples stand -/
def Tps (H H' : Hp) : Prop := ∀ a xs, H a = some (.tup xs) → H' a = some (.tup xs)
theorem Tps.of {H H' : Hp} (s : Same H H') : Tps H H' := fun a xs h => s _ _ h
theorem Tps.refl {H : Hp} : Tps H H := fun _ _ h => h
theorem Tps.trans {H H1 H2 : Hp} (a : Tps H H1) (b : Tps H1 H2) : Tps H H2 := fun c xs h => b c xs (a c xs h)
theorem Tps.off {H H1 H2 : Hp} {p : Addr} {ys : List V} (a : Tps H H1) (h1 : H1 p = some (.lst ys)) (b : Of p H1 H2) : Tps H H2 := fun c xs h => b.at (ne_of (a _ _ h) h1 (by intro z; cases z)) (a _ _ h)
theorem Tps.offD {H H1 H2 : Hp} {p : Addr} {ys : List (Key × V)} (a : Tps H H1) (h1 : H1 p = some (.dK ys)) (b : Of p H1 H2) : Tps H H2 := fun c xs h => b.at (ne_of (a _ _ h) h1 (by intro z; cases z)) (a _ _ h)
theorem Tps.fx {H H1 : Hp} {b l : Addr} (h : Bag H b l) (f : Fx b H H1) : Tps H H1 := fun c xs e => f _ _ e (by
  obtain ⟨ns, k, z, r, hb⟩ := h
  exact ne_of e hb.hb (by intro q; cases q))
theorem MvsAt.tps {H H' : Hp} (s : Tps H H') {vs : List V} {ms : List Mv} (h : MvsAt H vs ms) : MvsAt H' vs ms := Paired.mapP h fun v m ⟨t, e, ht⟩ => ⟨t, e, s _ _ ht⟩
theorem paired_get {α β : Type} {R : α → β → Prop} : ∀ {as : List α} {bs : List β} {i : Nat} {a : α}, Paired R as bs → as[i]? = some a → ∃ b, bs[i]? = some b ∧ R a b
  | _, _, _, _, .nil, e => by simp at e
  | _, _, 0, _, .cons r _, e => by simp at e; subst e; exact ⟨_, rfl, r⟩
  | _, _, i + 1, x, .cons _ t, e => by
    obtain ⟨u, h1, h2⟩ := paired_get (i := i) (a := x) t (by simpa using e)
    exact ⟨u, by simpa using h1, h2⟩
def leV (d : Nat → Addr) (l : List Nat) : List (Key × V) := l.map fun c => ((Sum.inr (one c) : Key), V.ref (d c))
/-- leads in the heap; those of N are not known ahead -/
structure LdAt (H : Hp) (ld : Addr) (d : Nat → Addr) (L : Nat → List (Int × Int)) : Prop where
  hd : H ld = some (.dK (leV d sgs))
  hc : ∀ c ∈ sgs, H (d c) = some (.dK (kvI (L c)))
theorem LdAt.same {H H' : Hp} {ld : Addr} {d : Nat → Addr} {L : Nat → List (Int × Int)} (h : LdAt H ld d L) (s : Same H H') : LdAt H' ld d L := ⟨s _ _ h.hd, fun c hc => s _ _ (h.hc c hc)⟩
/-- a world -/
def WAt (C : Addr) (H : Hp) (p : Addr) (n : Int) (L : Nat → List (Int × Int)) : Prop := ∃ (dx pl ld : Addr) (d : Nat → Addr), H p = some (.ins C dx (wf pl ld)) ∧ H pl = some (.lst (rgV 0 n)) ∧ LdAt H ld d L
theorem WAt.same {C : Addr} {H H' : Hp} {p : Addr} {n : Int} {L : Nat → List (Int × Int)} (s : Same H H') : WAt C H p n L → WAt C H' p n L
  | ⟨dx, pl, ld, d, h1, h2, h3⟩ => ⟨dx, pl, ld, d, s _ _ h1, s _ _ h2, h3.same s⟩
structure WC (K : PySem.W.Frag) (mg : Str → Option Value) (C : Addr) : Prop where
  cl : Cls K C
  nP : PySem.W.findIn K (.ref C) "places" = some none
  nL : PySem.W.findIn K (.ref C) "leads" = some none
  mgC : mg "World" = some (.ref C)
  ha : PySem.W.findIn K (.ref C) "__class__" = some (some (.builtin "object.__class__"))
  hn : PySem.W.specialIn K (.builtin "object.__class__") "__get__" = some (some (.builtin "getset_descriptor.__get__"))
  htk : PySem.W.takesIn K (.builtin "object.__class__") = some true
  hm : PySem.W.mroIn K C (.type "object") = some true
  ne : PySem.W.findIn K (.ref C) "__ne__" = some (some (.builtin "object.__ne__"))
section
variable {P : Program} {w : World} {K : PySem.W.Frag} {mg : Str → Option Value} {base : Heap} {C : Addr}
/-! ### is_move (a move that is one) -/
def spIm : Sp := fun vs H Q _ => ∃ (t : Addr) (m : Mv) (n : Int), vs = [.ref t, .int n] ∧ H t = some (.tup [.str (one m.1), .int m.2.1, .int m.2.2]) ∧ 97 ≤ m.1 ∧ m.1 ≤ 104 ∧ 0 ≤ m.2.1 ∧ m.2.1 < n ∧ 0 ≤ m.2.2 ∧ m.2.2 < n ∧ Q (.bl true) H
abbrev HasIm (P : Program) (w : World) (K : PySem.W.Frag) (mg : Str → Option Value) (base : Heap) : Prop := Has P w K mg base 2 "is_move" ["move", "many"] spIm
theorem upB_true {i m : Int} (h0 : 0 ≤ i) (h1 : i ≤ m) : upB (.int i) m = true := by
  show (decide (0 ≤ i) && decide (i ≤ m)) = true
  rw [decide_eq_true h0, decide_eq_true h1]
  rfl
end
end Sf
namespace Sf
open PySem PySem.Spec PyProof.Rows L2 TL
section
variable {P : Program} {w : World} {K : PySem.W.Frag} {mg : Str → Option Value} {base : Heap} {C : Addr}
/-! ### need_pairs -/
/-- pairs of words in the heap -/
def PrAt (H : Hp) (v : V) (m : Str × Str) : Prop := ∃ t, v = .ref t ∧ H t = some (.tup [.str m.1, .str m.2])
abbrev PrsAt (H : Hp) (vs : List V) (ms : List (Str × Str)) : Prop := Paired (PrAt H) vs ms
theorem PrsAt.tps {H H' : Hp} (s : Tps H H') {vs : List V} {ms : List (Str × Str)} (h : PrsAt H vs ms) : PrsAt H' vs ms := Paired.mapP h fun v m ⟨t, e, ht⟩ => ⟨t, e, s _ _ ht⟩
def WdP (B : Nat) (ms : List (Str × Str)) : Prop := ∀ m ∈ ms, Wd m.1 ∧ Wd m.2 ∧ m.1.length ≤ B ∧ m.2.length ≤ B
def spNp : Sp := fun vs H Q _ => ∃ (a : Addr) (us : List V) (ms : List (Str × Str)), vs = [.ref a] ∧ H a = some (.lst us) ∧ PrsAt H us ms ∧ WdP 60 ms ∧ ∀ H', Same H H' → Q .non H'
/-! need_words of a pair -/
def spNws : Sp := fun vs H Q _ => ∃ (a : Addr) (x y : Str), vs = [.ref a] ∧ H a = some (.tup [.str x, .str y]) ∧ Wd x ∧ Wd y ∧ x.length ≤ 60 ∧ y.length ≤ 60 ∧ ∀ H', Same H H' → Q .non H'
abbrev HasNws (P : Program) (w : World) (K : PySem.W.Frag) (mg : Str → Option Value) (base : Heap) : Prop := Has P w K mg base 3 "need_words" ["texts"] spNws
theorem sc_nws : FnScope ["texts", "text"] ["texts"] (defScope s_need_words) := ⟨rfl, rfl, rfl, by decide +kernel, rfl, by decide +kernel, by decide +kernel⟩
theorem has_nws (F : FnAt K mg "need_words" s_need_words ["texts"]) (h_Ne : HasNeed P w K mg base) : HasNws P w K mg base := F.has fun F => by
  obtain ⟨f_Ne, fd_Ne, g_Ne, k_Ne, b_Ne, G_Ne⟩ := h_Ne
  refine F.ok sc_nws (fun vs H Q E h => ?_) (fun cdv A outer s H vs Q E hr h => ?_)
  · obtain ⟨a, x, y, rfl, _⟩ := h
    rfl
  · obtain ⟨a, x, y, rfl, ha, hx, hy, lx, ly, q⟩ := h
    refine ⟨_, (pss_one (ps_for PassesOwn.never rfl (pi_tup (pv 0)) (pg_name (i := 1) sc_nws.nd rfl (.inl rfl)) (pss_one (ps_expr (pe_call G_Ne (hr.mono (by decide)) (by rfl) g_Ne k_Ne b_Ne .nil pass0 (pa_cons (pv 1) pa_nil)))))), ?_⟩
    walk_at "go"
    refine w_tupF (xs := [V.str x, V.str y]) (fun i σ H2 => ∃ (y1 : Option V), σ = [some (.ref a), y1] ∧ Same H H2) ⟨none, rfl, .refl _⟩ (fun i σ H2 _ ⟨_, _, h⟩ => h _ _ ha) ?_ ?_
    · rintro i v σ H2 hv ⟨y1, rfl, s2⟩
      have hv' : ∃ z, v = .str z ∧ Wd z ∧ z.length ≤ 60 := by
        rcases List.mem_cons.mp (List.mem_of_getElem? hv) with rfl | h
        · exact ⟨x, rfl, hx, lx⟩
        · rw [List.mem_singleton.mp h]
          exact ⟨y, rfl, hy, ly⟩
      obtain ⟨z, rfl, wz, lz⟩ := hv'
      walk_at "go"
      refine ⟨_, rfl, wz, lz, fun H3 s3 => ?_⟩
      walk_at "go"
      exact ⟨_, rfl, s2.trans s3⟩
    · rintro σ H2 ⟨y1, rfl, s2⟩
      walk_at "go"
      exact q _ s2
abbrev HasNp (P : Program) (w : World) (K : PySem.W.Frag) (mg : Str → Option Value) (base : Heap) : Prop := Has P w K mg base 4 "need_pairs" ["pairs"] spNp
theorem sc_np : FnScope ["pairs", "pair"] ["pairs"] (defScope s_need_pairs) := ⟨rfl, rfl, rfl, by decide +kernel, rfl, by decide +kernel, by decide +kernel⟩
theorem has_np (F : FnAt K mg "need_pairs" s_need_pairs ["pairs"]) (h_Nw : HasNws P w K mg base) : HasNp P w K mg base := F.has fun F => by
  obtain ⟨f_Nw, fd_Nw, g_Nw, k_Nw, b_Nw, G_Nw⟩ := h_Nw
  refine F.ok sc_np (fun vs H Q E h => ?_) (fun cdv A outer s H vs Q E hr h => ?_)
  · obtain ⟨a, us, ms, rfl, _⟩ := h
    rfl
  · obtain ⟨a, us, ms, rfl, ha, hm, hW, q⟩ := h
    refine ⟨_, (pss_one (ps_for PassesOwn.never rfl (pi_list (pv 0)) (pg_name (i := 1) sc_np.nd rfl (.inl rfl)) (pss_one (ps_expr (pe_call G_Nw (hr.mono (by decide)) (by rfl) g_Nw k_Nw b_Nw .nil pass0 (pa_cons (pv 1) pa_nil)))))), ?_⟩
    walk_at "go"
    refine w_list (xs := us) (fun i σ H2 => ∃ (y1 : Option V), σ = [some (.ref a), y1] ∧ Same H H2) ⟨none, rfl, .refl _⟩ (fun i σ H2 _ ⟨_, _, h⟩ => h _ _ ha) ?_ ?_
    · rintro i v σ H2 hv ⟨y1, rfl, s2⟩
      obtain ⟨m, hmi, t, rfl, ht⟩ := paired_get hm hv
      obtain ⟨w1, w2, l1, l2⟩ := hW m (List.mem_of_getElem? hmi)
      have ht2 := s2 _ _ ht
      walk_at "go"
      refine ⟨t, _, _, rfl, ht2, w1, w2, l1, l2, fun H3 s3 => ?_⟩
      walk_at "go"
      exact ⟨_, rfl, s2.trans s3⟩
    · rintro σ H2 ⟨y1, rfl, s2⟩
      walk_at "go"
      exact q _ s2
end
end Sf
namespace Sf
open PySem PySem.Spec PyProof.Rows L2 TL
/-! ### lists of texts, joined -/
theorem joinL_nil : ∀ ps : List (List Nat), joinL [] ps = ps.flatten
  | [] => rfl
  | [p] => by simp [joinL]
  | p :: q :: r => by
    show p ++ ([] ++ joinL [] (q :: r)) = _
    rw [joinL_nil (q :: r), List.nil_append]
    rfl
theorem tl_empty : tl (Str.ofString "") = [] := by decide +kernel
theorem join_tl (ys : List Str) : Txt.join (Str.ofString "") ys = mkS (ys.map tl).flatten := by
  refine eq_mkS ?_
  rw [join_eq, tl_join, tl_empty, joinL_nil]
theorem join_ones (l : List Nat) : Txt.join (Str.ofString "") (l.map one) = mkS l := by
  rw [join_tl, List.map_map]
  congr 1
  induction l with
  | nil => rfl
  | cons c l ih =>
    rw [List.map_cons, List.flatten_cons, ih]
    rfl
theorem len_empty : (Str.ofString "").length = 0 := by decide +kernel
theorem ones_sum (l : List Nat) : ((l.map one).map (·.length)).sum = l.length := by
  induction l with
  | nil => rfl
  | cons c l ih =>
    rw [List.map_cons, List.map_cons, List.sum_cons, ih, len_one, List.length_cons]
    omega
theorem join_fit {l : List Nat} (h : l.length ≤ 100000) : ((l.map one).map (·.length)).sum + (l.map one).length * (Str.ofString "").length ≤ 16777216 := by
  rw [ones_sum, len_empty]
  omega
/-- data of a list of single signs -/
def dOnes (l : List Nat) : PyData := .list (l.map fun c => .str (one c))
theorem dp_all {K : PySem.W.Frag} {H : Hp} : ∀ l : List Nat, DpAll K H (l.map fun c => V.str (one c)) (l.map fun c => .str (one c))
  | [] => .nil
  | _ :: l => .cons (.str _) (dp_all l)
theorem ones_lay : ∀ {l : List Nat}, Sg l → PyData.canLayAll0 (l.map fun c => .str (one c)) = true
  | [], _ => rfl
  | c :: l, h => by
    have hc := h c (List.mem_cons_self ..)
    have e : PyData.canLay0 (.str (one c)) = true := by
      rw [sgn_iff] at hc
      have : ∀ d, d < 128 → PyData.canLay0 (.str (one d)) = true := by decide +kernel
      exact this c (by omega)
    rw [List.map_cons, PyData.canLayAll0, e, ones_lay fun d hd => h d (List.mem_cons_of_mem _ hd)]
    rfl
theorem ones_depth : ∀ l : List Nat, PyData.depthAll (l.map fun c => .str (one c)) = 0
  | [] => rfl
  | _ :: l => by
    rw [List.map_cons, PyData.depthAll, ones_depth l]
    rfl
theorem ones_shaped {l : List Nat} (h : Sg l) : SeqAt.shaped (dOnes l) = true := by
  unfold SeqAt.shaped dOnes
  rw [PyData.canLay0, ones_lay h, Bool.true_and, PyData.depth, ones_depth]
  rfl
theorem ones_nil {l : List Nat} : PyData.eqv (dOnes l) (.list []) = l.isEmpty := by
  unfold dOnes
  cases l with
  | nil => simp [PyData.eqv, PyData.eqvAll]
  | cons c l => simp [PyData.eqv, PyData.eqvAll]
theorem Fx.toSame {L : Addr} {H H' : Hp} (f : Fx L H H') (n : H L = none) : Same H H' := fun b o e => f b o e (ne_of_none e n)
theorem glu_take {l : List Nat} {i c : Nat} (h : l[i]? = some c) : gluT (mkS (shortL (l.take i))) (one c) = mkS (shortL (l.take (i + 1))) := by
  unfold gluT
  rw [tl_mkS, tl_one, glu_one, ← shortL_snoc, List.take_add_one, h]
  rfl
end Sf
namespace Sf
open PySem PySem.Spec PyProof.Rows L2 TL
/-! ### claims of papers: the mathematics -/
abbrev Clm := Str × Str
def startsL (x y : Str) : Bool := decide ((tl x).take (tl y).length = tl y)
def endsL (x y : Str) : Bool := decide ((tl y).length ≤ (tl x).length ∧ (tl x).drop ((tl x).length - (tl y).length) = tl y)
theorem subAt_eq (x y : Str) (i : Nat) : Builtin.Str.subAt x y i = decide (((tl x).drop i).take (tl y).length = tl y) := by
  unfold Builtin.Str.subAt
  rw [Bool.eq_iff_iff, decide_eq_true_eq, beq_iff_eq]
  have e1 : (x.cps.extract i (i + y.length)).toList = ((tl x).drop i).take (tl y).length := by
    rw [Array.toList_extract, List.extract_eq_take_drop, show i + y.length - i = y.length by omega, len_tl]
  constructor
  · intro h
    rw [← e1, h]
  · intro h
    exact Array.toList_inj.mp (e1.trans h)
theorem starts_eq (x y : Str) : Txt.startswith x y = startsL x y := by
  unfold Txt.startswith startsL
  rw [subAt_eq, List.drop_zero, Bool.eq_iff_iff, Bool.and_eq_true]
  simp only [decide_eq_true_eq]
  constructor
  · exact And.right
  · intro h
    refine ⟨?_, h⟩
    have := congrArg List.length h
    rw [List.length_take] at this
    rw [len_tl, len_tl]
    omega
theorem ends_eq (x y : Str) : Txt.endswith x y = endsL x y := by
  unfold Txt.endswith endsL
  rw [subAt_eq, Bool.eq_iff_iff, Bool.and_eq_true]
  simp only [decide_eq_true_eq]
  rw [len_tl, len_tl]
  constructor
  · rintro ⟨h1, h2⟩
    refine ⟨by omega, ?_⟩
    rw [List.take_of_length_le (by rw [List.length_drop]; omega)] at h2
    exact h2
  · rintro ⟨h1, h2⟩
    refine ⟨by omega, ?_⟩
    rw [List.take_of_length_le (by rw [List.length_drop]; omega)]
    exact h2
def numV (v : V) (n : Nat) : Option Nat := if upB v ((n : Int) - 1) = true then (match v with | .int i => some i.toNat | _ => none) else none
theorem numV_some {v : V} {n k : Nat} (h : numV v n = some k) : v = .int (k : Int) ∧ k < n := by
  unfold numV at h
  split at h
  · rename_i hu
    cases v with
    | int i =>
      unfold upB at hu
      rw [Bool.and_eq_true, decide_eq_true_eq, decide_eq_true_eq] at hu
      have h : i.toNat = k := Option.some.inj h
      exact ⟨by congr 1; omega, by omega⟩
    | _ => cases hu
  · cases h
theorem numV_up {v : V} {n : Nat} : upB v ((n : Int) - 1) = (numV v n).isSome := by
  unfold numV
  cases e : upB v ((n : Int) - 1) with
  | false => rfl
  | true =>
    rw [if_pos rfl]
    cases v with
    | int i => rfl
    | _ => cases e
theorem numV_int {i : Int} {n : Nat} : numV (.int i) n = if 0 ≤ i ∧ i < n then some i.toNat else none := by
  have eu : upB (.int i) ((n : Int) - 1) = (decide (0 ≤ i) && decide (i ≤ (n : Int) - 1)) := rfl
  unfold numV
  rw [eu]
  by_cases h : 0 ≤ i ∧ i < n
  · rw [if_pos h, if_pos (by rw [decide_eq_true h.1, decide_eq_true (show i ≤ (n : Int) - 1 by omega)]; rfl)]
  · rw [if_neg h, if_neg]
    intro z
    rw [Bool.and_eq_true, decide_eq_true_eq, decide_eq_true_eq] at z
    exact h (by omega)
def cutB (x : Str) (k : Nat) : Str := mkS ((tl x).take k)
def cutF (x : Str) (k : Nat) : Str := mkS ((tl x).drop k)
def lastC (x : Str) : Nat := (tl x).getLastD 0
def onM (a b : Clm) : Option Clm := if startsL b.1 a.2 = true then some (a.1 ++ cutF b.1 a.2.length, b.2) else none
def homeM (a : Clm) : Option Clm := if a.1 = Str.ofString "" then none else some (a.1 ++ one (flipC (lastC a.1)), cutB a.1 (a.1.length - 1))
def oldS (l : Clm) : Bool → Str
  | true => l.1
  | false => l.2
def newS (l : Clm) : Bool → Str
  | true => l.2
  | false => l.1
def likeM (a l : Clm) (v : V) : Option Clm := match v with
  | .bl t => if endsL a.1 (oldS l t) = true then some (cutB a.1 (a.1.length - (oldS l t).length) ++ newS l t, a.2) else none
  | _ => none
def partM (a : Clm) (v : V) : Option Clm := (numV v (a.1.length + 1)).map fun k => (cutB a.1 k, cutB a.1 k)
def at1 (cs : List Clm) (v : V) : Option Clm := (numV v cs.length).bind fun k => cs[k]?
/-- the claim of a step -/
def claimM (F L cs : List Clm) (z : Str) (as : List V) : Option Clm :=
  if z = Str.ofString "start" then (match as with | [] => some (Str.ofString "", Str.ofString "") | _ => none)
  else if z = Str.ofString "fact" then (match as with | [a] => at1 F a | _ => none)
  else if z = Str.ofString "turn" then (match as with | [a] => (at1 cs a).map fun c => (c.2, c.1) | _ => none)
  else if z = Str.ofString "on" then (match as with | [a, b] => (at1 cs a).bind fun c => (at1 cs b).bind fun d => onM c d | _ => none)
  else if z = Str.ofString "home" then (match as with | [a] => (at1 cs a).bind homeM | _ => none)
  else if z = Str.ofString "like" then (match as with | [a, b, t] => (at1 cs a).bind fun c => (at1 L b).bind fun l => likeM c l t | _ => none)
  else if z = Str.ofString "part" then (match as with | [a, b] => (at1 cs a).bind fun c => partM c b | _ => none)
  else none
def Bnd (M : Nat) (cs : List Clm) : Prop := ∀ c ∈ cs, Wd c.1 ∧ Wd c.2 ∧ c.1.length ≤ M ∧ c.2.length ≤ M
theorem Bnd.mono {M N : Nat} {cs : List Clm} (h : Bnd M cs) (hn : M ≤ N) : Bnd N cs := fun c hc => by
  obtain ⟨h1, h2, h3, h4⟩ := h c hc
  exact ⟨h1, h2, by omega, by omega⟩
theorem at1_mem {cs : List Clm} {v : V} {c : Clm} (h : at1 cs v = some c) : c ∈ cs := by
  unfold at1 at h
  obtain ⟨k, _, h⟩ := Option.bind_eq_some_iff.mp h
  exact List.mem_of_getElem? h
theorem cutB_wd {x : Str} (h : Wd x) (k : Nat) : Wd (cutB x k) := fun c hc => h c (by
  unfold cutB at hc
  rw [tl_mkS] at hc
  exact List.mem_of_mem_take hc)
theorem cutF_wd {x : Str} (h : Wd x) (k : Nat) : Wd (cutF x k) := fun c hc => h c (by
  unfold cutF at hc
  rw [tl_mkS] at hc
  exact List.mem_of_mem_drop hc)
theorem cutB_len (x : Str) (k : Nat) : (cutB x k).length ≤ x.length := by
  unfold cutB
  rw [len_tl, tl_mkS, List.length_take, len_tl]
  omega
theorem cutF_len (x : Str) (k : Nat) : (cutF x k).length ≤ x.length := by
  unfold cutF
  rw [len_tl, tl_mkS, List.length_drop, len_tl]
  omega
theorem last_sg {x : Str} (h : Wd x) (hn : x ≠ Str.ofString "") : sgn (lastC x) = true ∧ (tl x).getLast? = some (lastC x) := by
  unfold lastC
  have hne : tl x ≠ [] := fun e => hn (ext_tl (by rw [e, tl_empty]))
  rw [List.getLastD_eq_getLast?, List.getLast?_eq_some_getLast hne]
  exact ⟨h _ (List.getLast_mem hne), rfl⟩
theorem likeM_some {a l : Clm} {v : V} {c : Clm} (h : likeM a l v = some c) : ∃ t, v = .bl t ∧ endsL a.1 (oldS l t) = true ∧ c = (cutB a.1 (a.1.length - (oldS l t).length) ++ newS l t, a.2) := by
  cases v with
  | bl t =>
    have h : (if endsL a.1 (oldS l t) = true then some (cutB a.1 (a.1.length - (oldS l t).length) ++ newS l t, a.2) else none) = some c := h
    by_cases e : endsL a.1 (oldS l t) = true
    · rw [if_pos e] at h
      exact ⟨t, rfl, e, (Option.some.inj h).symm⟩
    · rw [if_neg e] at h
      cases h
  | _ => cases h
theorem claim_bnd {F L cs : List Clm} {z : Str} {as : List V} {c : Clm} {M : Nat} (hF : Bnd M F) (hL : Bnd M L) (hc : Bnd M cs) (hM : 1 ≤ M) (h : claimM F L cs z as = some c) : Wd c.1 ∧ Wd c.2 ∧ c.1.length ≤ 2 * M ∧ c.2.length ≤ 2 * M := by
  have le0 : (Str.ofString "").length = 0 := len_empty
  unfold claimM at h
  split at h
  · split at h
    · cases h
      exact ⟨wd_nil, wd_nil, by rw [le0]; omega, by rw [le0]; omega⟩
    · cases h
  split at h
  · split at h
    · obtain ⟨h1, h2, h3, h4⟩ := hF c (at1_mem h)
      exact ⟨h1, h2, by omega, by omega⟩
    · cases h
  split at h
  · split at h
    · obtain ⟨d, hd, rfl⟩ := Option.map_eq_some_iff.mp h
      obtain ⟨h1, h2, h3, h4⟩ := hc d (at1_mem hd)
      exact ⟨h2, h1, by show d.2.length ≤ _; omega, by show d.1.length ≤ _; omega⟩
    · cases h
  split at h
  · split at h
    · obtain ⟨d, hd, h⟩ := Option.bind_eq_some_iff.mp h
      obtain ⟨e, he, h⟩ := Option.bind_eq_some_iff.mp h
      obtain ⟨h1, h2, h3, h4⟩ := hc d (at1_mem hd)
      obtain ⟨g1, g2, g3, g4⟩ := hc e (at1_mem he)
      unfold onM at h
      split at h
      · cases h
        have := cutF_len e.1 d.2.length
        exact ⟨h1.app (cutF_wd g1 _), g2, by show (d.1 ++ _).length ≤ _; rw [len_app]; omega, by show e.2.length ≤ _; omega⟩
      · cases h
    · cases h
  split at h
  · split at h
    · obtain ⟨d, hd, h⟩ := Option.bind_eq_some_iff.mp h
      obtain ⟨h1, h2, h3, h4⟩ := hc d (at1_mem hd)
      unfold homeM at h
      split at h
      · cases h
      · rename_i hn
        cases h
        have := cutB_len d.1 (d.1.length - 1)
        exact ⟨h1.app (wd_one (flip_sgn (last_sg h1 hn).1)), cutB_wd h1 _, by show (d.1 ++ one _).length ≤ _; rw [len_app, len_one]; omega, by show (cutB d.1 _).length ≤ _; omega⟩
    · cases h
  split at h
  · split at h
    · obtain ⟨d, hd, h⟩ := Option.bind_eq_some_iff.mp h
      obtain ⟨e, he, h⟩ := Option.bind_eq_some_iff.mp h
      obtain ⟨h1, h2, h3, h4⟩ := hc d (at1_mem hd)
      obtain ⟨g1, g2, g3, g4⟩ := hL e (at1_mem he)
      obtain ⟨t, _, _, rfl⟩ := likeM_some h
      have := cutB_len d.1 (d.1.length - (oldS e t).length)
      have hw : Wd (newS e t) ∧ (newS e t).length ≤ M := by
        cases t
        · exact ⟨g1, g3⟩
        · exact ⟨g2, g4⟩
      exact ⟨(cutB_wd h1 _).app hw.1, h2, by show (cutB d.1 _ ++ _).length ≤ _; rw [len_app]; omega, by show d.2.length ≤ _; omega⟩
    · cases h
  split at h
  · split at h
    · obtain ⟨d, hd, h⟩ := Option.bind_eq_some_iff.mp h
      obtain ⟨h1, h2, h3, h4⟩ := hc d (at1_mem hd)
      unfold partM at h
      obtain ⟨k, _, rfl⟩ := Option.map_eq_some_iff.mp h
      have := cutB_len d.1 k
      exact ⟨cutB_wd h1 _, cutB_wd h1 _, by show (cutB d.1 k).length ≤ _; omega, by show (cutB d.1 k).length ≤ _; omega⟩
    · cases h
  · cases h
/-- all claims of a paper, None where a step makes none -/
def runM (F L : List Clm) : List (Str × List V) → List Clm → Option (List Clm)
  | [], cs => some cs
  | r :: rs, cs => (claimM F L cs r.1 r.2).bind fun c => runM F L rs (cs ++ [c])
end Sf
namespace Sf
open PySem PySem.Spec PyProof.Rows L2 TL
section
variable {P : Program} {w : World} {K : PySem.W.Frag} {mg : Str → Option Value} {base : Heap} {C CS fS : Addr}
/-! ### a refusal with a field that is a number -/
def spExA (K : PySem.W.Frag) (z fl : Str) : Sp := fun vs H Q _ => ∃ (a C : Addr) (i : Int), vs = [.ref a, .int i] ∧ i.natAbs.log2 < 1920 ∧ OexC K C ∧ PySem.W.findIn K (.ref C) "word" = some none ∧ PySem.W.findIn K (.ref C) fl = some none ∧ H a = some (exo a C none) ∧
  ∀ (dx : Addr) (H' : Hp), H dx = none → dx ≠ a → H' a = some (exo a C (some dx)) → H' dx = some (exd dx [(fl, .int i), (("word" : Str), .str z)]) → (∀ b, b ≠ a → b ≠ dx → H' b = H b) → Q .non H'
def kMkA (C : Addr) (sp : Sp) (W : XK) : List V → Hp → Prop := fun vs H1 => vs.length ≤ 1000 ∧ ∀ a, H1 a = none → sp (.ref a :: (vs ++ [])) (upd H1 a (exo a C none))
  (fun v H2 => v = .non ∧ ∃ (d : Addr) (fs : List (Str × V)), H2 a = some (exo a C (some d)) ∧ H2 d = some (exd d fs) ∧ H1 d = none ∧ W (.ref C) (some d) (upd (del H2 a) d (.xd fs))) (fun _ _ _ => False)
theorem w_mkOA {H : Hp} {σ : L2.St} {W : XK} {sp : Sp} {ta : TA} (q : ta σ H (kMkA C sp W)) : tMkO C sp [] ta σ H W := q
theorem w_kMkA {H : Hp} {W : XK} {z fl nm : Str} {f : Addr} {i : Int} (T : EC K mg nm C f) (nf : PySem.W.findIn K (.ref C) fl = some none) (hi : i.natAbs.log2 < 1920)
    (k : ∀ (d : Addr) (H' : Hp), H d = none → H' d = some (.xd [(fl, .int i), (("word" : Str), .str z)]) → Same H H' → W (.ref C) (some d) H') : kMkA C (spExA K z fl) W [.int i] H := by
  refine ⟨by show 1 ≤ 1000; decide, fun a na => ⟨a, C, i, rfl, hi, T.ox, T.nw, nf, upd_same, fun dx H' n ne e1 e2 e3 => ⟨rfl, dx, _, e1, e2, ?_, k dx _ ?_ upd_same fun b o e => ?_⟩⟩⟩
  · rw [upd_ne ne] at n
    exact n
  · rw [upd_ne ne] at n
    exact n
  · rw [upd_ne ne] at n
    have h1 : b ≠ dx := ne_of_none e n
    have h2 : b ≠ a := ne_of_none e na
    rw [upd_ne h1, del_ne h2, e3 b h2 h1, upd_ne h2]
    exact e
theorem toStr_len {i : Int} (h : i.natAbs.log2 < 1920) : (toString i : Str).length ≤ 1921 := int_text_len_1921 h
end
end Sf
namespace Sf
open PySem PySem.Spec PyProof.Rows L2 TL
section
variable {P : Program} {w : World} {K : PySem.W.Frag} {mg : Str → Option Value} {base : Heap} {C CS fS CB fB : Addr} {fdB : FuncData}
/-! ### BadPaper -/
theorem sc_bpa : FnScope ["self", "at"] ["self", "at"] (defScope s_BadPaper___init__) := ⟨rfl, rfl, rfl, by decide +kernel, rfl, by decide +kernel, by decide +kernel⟩
theorem ok_bpa {f : Addr} {fd fdS : FuncData} (F : Fun K "__init__" "BadPaper.__init__" s_BadPaper___init__ f fd) (S : SE K mg CS fS) (FS : FunD K "__init__" "SpoorError.__init__" s_SpoorError___init__ fS fdS) (bS : Binds K fdS ["self", "word", "message"] []) : FnOk P w K mg base CX0 2 f fd ["self", "at"] (spExA K (Str.ofString "badpaper") "at") := by
  refine F.ok sc_bpa (fun vs H Q E h => ?_) (fun cdv A outer s H vs Q E hr h => ?_)
  · obtain ⟨a, C, i, rfl, _⟩ := h
    rfl
  · obtain ⟨a, C, i, rfl, hi, ox, nw, nf, ha, q⟩ := h
    have GS : FnOk P w K mg base CX0 1 fS fdS ["self", "word", "message"] (spSE K) := ok_se FS S
    refine ⟨_, pss_cons (ps_expr (pe_clsFn (pe_glob (v := .ref CS) (by rfl) S.gC rfl) S.rd S.ga S.at_ GS hr FS.kp bS pass0 (pa_cons (pv 0) (pa_cons pe_str (pa_cons (pe_joined (.cons pe_str (.cons (pe_fmt (pv 1)) (.cons pe_str .nil)))) pa_nil))))) (pss_one (ps_ost (pv 0) (pv 1))), ?_⟩
    have l1 := toStr_len hi
    refine ⟨rfl, _, rfl, ?_⟩
    refine ⟨_, rfl, by decide +kernel, _, rfl, .inr ⟨i, rfl, hi, _, rfl, ?_, _, rfl, ?_, ?_⟩⟩
    · rw [len_app, len_app]
      have : (Str.empty.length + (Str.ofString "step ").length) = 5 := by decide +kernel
      exact line_of (by omega)
    · rw [len_app, len_app, len_app]
      have : (Str.empty.length + (Str.ofString "step ").length) = 5 := by decide +kernel
      have : (Str.ofString " of the paper makes no claim").length = 28 := by decide +kernel
      exact line_of (by omega)
    · refine ⟨a, C, _, _, rfl, ox, nw, ha, fun dx n ne => ?_⟩
      refine ⟨_, rfl, _, rfl, a, C, rfl, ox, nf, .inr ⟨dx, [(("word" : Str), .str (Str.ofString "badpaper"))], upd_same, by rw [upd_ne ne, upd_same], by show 1 ≤ 900; decide, ?_⟩⟩
      refine q dx _ n ne (by rw [upd_ne ne.symm, upd_same]) upd_same fun b h1 h2 => ?_
      rw [upd_ne h2, upd_ne h1, upd_ne h2]
/-! ### the book -/
def bkf (a b m : Addr) : List (Str × V) := putF "made" (.ref m) (putF "likenesses" (.ref b) (putF "facts" (.ref a) []))
theorem bk_facts (a b m : Addr) : (bkf a b m).lookup ("facts" : Str) = some (.ref a) := by
  unfold bkf
  rw [lookup_putF, if_neg (by decide +kernel), lookup_putF, if_neg (by decide +kernel), lookup_putF, if_pos rfl]
theorem bk_likes (a b m : Addr) : (bkf a b m).lookup ("likenesses" : Str) = some (.ref b) := by
  unfold bkf
  rw [lookup_putF, if_neg (by decide +kernel), lookup_putF, if_pos rfl]
theorem bk_made (a b m : Addr) : (bkf a b m).lookup ("made" : Str) = some (.ref m) := by
  unfold bkf
  rw [lookup_putF, if_pos rfl]
theorem bk_no (a b m : Addr) {n : Str} (h1 : ¬ n = "made") (h2 : ¬ n = "likenesses") (h3 : ¬ n = "facts") : (bkf a b m).lookup n = none := by
  unfold bkf
  rw [lookup_putF, if_neg h1, lookup_putF, if_neg h2, lookup_putF, if_neg h3]
  all_goals rfl
structure BKC (K : PySem.W.Frag) (mg : Str → Option Value) (C : Addr) : Prop where
  cl : Cls K C
  nF : PySem.W.findIn K (.ref C) "facts" = some none
  nL : PySem.W.findIn K (.ref C) "likenesses" = some none
  nM : PySem.W.findIn K (.ref C) "made" = some none
  mgC : mg "Book" = some (.ref C)
  ha : PySem.W.findIn K (.ref C) "__class__" = some (some (.builtin "object.__class__"))
  hn : PySem.W.specialIn K (.builtin "object.__class__") "__get__" = some (some (.builtin "getset_descriptor.__get__"))
  htk : PySem.W.takesIn K (.builtin "object.__class__") = some true
  hm : PySem.W.mroIn K C (.type "object") = some true
  ne : PySem.W.findIn K (.ref C) "__ne__" = some (some (.builtin "object.__ne__"))
def XEb (CB : Addr) (n : Nat) (H : Hp) (E : XK) : Prop := ∀ (d : Addr) (H' : Hp), H d = none → H' d = some (.xd [(("at" : Str), .int (n : Int)), (("word" : Str), .str (Str.ofString "badpaper"))]) → Same H H' → E (.ref CB) (some d) H'
theorem XEb.same {n : Nat} {H H1 : Hp} {E : XK} (h : XEb CB n H E) (s : Same H H1) : XEb CB n H1 E := fun d H' nd hd s' => h d H' (s.free nd) hd (s.trans s')
def Bk (C : Addr) (H : Hp) (p : Addr) (F L cs : List Clm) : Prop := ∃ (dx a b m : Addr) (ua ub um : List V), H p = some (.ins C dx (bkf a b m)) ∧ H a = some (.lst ua) ∧ PrsAt H ua F ∧ H b = some (.lst ub) ∧ PrsAt H ub L ∧ H m = some (.lst um) ∧ PrsAt H um cs
theorem Bk.same {H H' : Hp} {p : Addr} {F L cs : List Clm} (s : Same H H') : Bk C H p F L cs → Bk C H' p F L cs
  | ⟨dx, a, b, m, ua, ub, um, h1, h2, h3, h4, h5, h6, h7⟩ => ⟨dx, a, b, m, ua, ub, um, s _ _ h1, s _ _ h2, h3.tps (.of s), s _ _ h4, h5.tps (.of s), s _ _ h6, h7.tps (.of s)⟩
def HasMX (P : Program) (w : World) (K : PySem.W.Frag) (mg : Str → Option Value) (base : Heap) (C : Addr) (k : Nat) (m : Str) (ps : List Str) (sp : Sp) : Prop :=
  ∃ (f : Addr) (fd : FuncData), Meth K C m f ∧ Binds K fd ps [] ∧ FnOk P w K mg base (L2.CX P w) k f fd ps sp
def HasX (P : Program) (w : World) (K : PySem.W.Frag) (mg : Str → Option Value) (base : Heap) (k : Nat) (x : Str) (ps : List Str) (sp : Sp) : Prop :=
  ∃ (f : Addr) (fd : FuncData), mg x = some (.ref f) ∧ PySem.W.keepIn K (.ref f) = true ∧ Binds K fd ps [] ∧ FnOk P w K mg base (L2.CX P w) k f fd ps sp
/-! ### Book.need -/
def spNd (C CB : Addr) : Sp := fun vs H Q E => ∃ (p dx a b m : Addr) (um : List V) (t : Bool), vs = [.ref p, .bl t] ∧ H p = some (.ins C dx (bkf a b m)) ∧ H m = some (.lst um) ∧ um.length ≤ 1000 ∧ (t = true → Q .non H) ∧ (t = false → XEb CB um.length H E)
theorem sc_nd : FnScope ["self", "fits"] ["self", "fits"] (defScope s_Book_need) := ⟨rfl, rfl, rfl, by decide +kernel, rfl, by decide +kernel, by decide +kernel⟩
theorem log1000 {n : Nat} (h : n ≤ 1000) : ((n : Nat) : Int).natAbs.log2 < 1920 := by
  by_cases hz : n = 0
  · rw [hz]; decide
  · refine Nat.lt_trans ((Nat.log2_lt (k := 10) (by omega)).mpr (by show ((n : Nat) : Int).natAbs < 2 ^ 10; omega)) (by decide)
theorem has_nd (F : MAt K C "need" "Book.need" s_Book_need ["self", "fits"]) (B : Blt mg) (T_Book : BKC K mg C) (T_BadPaper : EC K mg "BadPaper" CB fB) (nA : PySem.W.findIn K (.ref CB) "at" = some none) (G_BadPaper : FnOk P w K mg base CX0 2 fB fdB ["self", "at"] (spExA K (Str.ofString "badpaper") "at")) (b_BadPaper : Binds K fdB ["self", "at"] []) : HasMX P w K mg base C 4 "need" ["self", "fits"] (spNd C CB) := by
  obtain ⟨f, fd, g, F, bb⟩ := F
  refine ⟨f, fd, g, bb, ?_⟩
  refine F.okX sc_nd (fun vs H Q E h => ?_) (fun cdv A outer s H vs Q E hr h => ?_)
  · obtain ⟨p, dx, a, b, m, um, t, rfl, _⟩ := h
    rfl
  · obtain ⟨p, dx, a, b, m, um, t, rfl, hp, hm, hl, q1, q2⟩ := h
    refine ⟨_, (pss_one (ps_if (pt_not (pt_val (pv 1))) (pss_one (ps_raise rfl (takes_of rfl rfl rfl rfl) (pmk_oex T_BadPaper.ox T_BadPaper.iC T_BadPaper.tI G_BadPaper (hr.mono (by decide)) b_BadPaper .nil pass0 (by rfl) T_BadPaper.gC (pa_cons (pe_callB call_lenQ (by rfl) B.len PySem.boot_len (pa_cons (pe_fld (pv 0) rfl) pa_nil)) pa_nil)))) pss_nil)), ?_⟩
    cases t with
    | true =>
      walk_at "go"
      exact q1 rfl
    | false =>
      walk_at "go"
      refine w_mkOA ?_
      walk_at "go"
      refine w_kFld hp T_Book.cl T_Book.nM (bk_made _ _ _) ?_
      walk_at "go"
      refine w_kMkA T_BadPaper nA (log1000 hl) (fun d H' nd hd s' => ?_)
      exact q2 rfl d H' nd hd s'
/-! ### Book.picked, Book.claim -/
def spPk (C CB : Addr) : Sp := fun vs H Q E => ∃ (p x dx a b m : Addr) (um us : List V) (v : V), vs = [.ref p, .ref x, v] ∧ flat3 v ∧ H p = some (.ins C dx (bkf a b m)) ∧ H m = some (.lst um) ∧ um.length ≤ 1000 ∧ H x = some (.lst us) ∧
  (∀ k u, numV v us.length = some k → us[k]? = some u → Q u H) ∧ (numV v us.length = none → XEb CB um.length H E)
theorem sc_pk : FnScope ["self", "things", "number"] ["self", "things", "number"] (defScope s_Book_picked) := ⟨rfl, rfl, rfl, by decide +kernel, rfl, by decide +kernel, by decide +kernel⟩
theorem has_pk (F : MAt K C "picked" "Book.picked" s_Book_picked ["self", "things", "number"]) (B : Blt mg) (T_Book : BKC K mg C) (h_Up : HasUp P w K mg base) (h_BN : HasMX P w K mg base C 4 "need" ["self", "fits"] (spNd C CB)) : HasMX P w K mg base C 5 "picked" ["self", "things", "number"] (spPk C CB) := by
  obtain ⟨f, fd, g, F, bb⟩ := F
  refine ⟨f, fd, g, bb, ?_⟩
  obtain ⟨f_Up, fd_Up, g_Up, k_Up, b_Up, G_Up⟩ := h_Up
  obtain ⟨f_BN, fd_BN, m_BN, b_BN, G_BN⟩ := h_BN
  refine F.okX sc_pk (fun vs H Q E h => ?_) (fun cdv A outer s H vs Q E hr h => ?_)
  · obtain ⟨p, x, dx, a, b, m, um, us, v, rfl, _⟩ := h
    rfl
  · obtain ⟨p, x, dx, a, b, m, um, us, v, rfl, hv, hp, hm, hl, hx, q1, q2⟩ := h
    refine ⟨_, (pss_cons (ps_expr (pe_meth (pv 0) T_Book.cl m_BN G_BN (hr.mono (by decide)) b_BN .nil (passes_call (takes_of rfl rfl rfl rfl) (fun _ _ _ _ h => h)) (pa_cons (pe_call G_Up (hr.mono (by decide)) (by rfl) g_Up k_Up b_Up .nil pass0 (pa_cons (pv 2) (pa_cons (pe_op op_sub (pe_callB call_lenQ (by rfl) B.len PySem.boot_len (pa_cons (pv 1) pa_nil)) pe_int) pa_nil))) pa_nil))) (pss_one (ps_ret (pe_ix ix_list (pv 1) (pv 2) (fun _ _ => rfl))))), ?_⟩
    walk_at "go"
    refine w_kMeth hp (bk_no _ _ _ (by decide +kernel) (by decide +kernel) (by decide +kernel)) ?_
    walk_at "go"
    refine ⟨v, _, rfl, hv, ?_⟩
    walk_at "go"
    refine ⟨p, dx, a, b, m, um, _, rfl, hp, hm, hl, fun e => ?_, fun e => ?_⟩
    · rw [numV_up] at e
      obtain ⟨k, hk⟩ := Option.isSome_iff_exists.mp e
      obtain ⟨rfl, hlt⟩ := numV_some hk
      walk_at "go"
      refine w_ixL hx (at_of (j := k) (by omega) (List.getElem?_eq_getElem hlt)) ?_
      exact q1 k _ hk (List.getElem?_eq_getElem hlt)
    · rw [numV_up] at e
      have : numV v us.length = none := by
        cases h : numV v us.length with
        | none => rfl
        | some k => rw [h] at e; cases e
      exact q2 this
def spCl (C CB : Addr) : Sp := fun vs H Q E => ∃ (p : Addr) (F L cs : List Clm) (v : V), vs = [.ref p, v] ∧ flat3 v ∧ Bk C H p F L cs ∧ cs.length ≤ 1000 ∧ (∀ c t, at1 cs v = some c → H t = some (.tup [.str c.1, .str c.2]) → Q (.ref t) H) ∧ (at1 cs v = none → XEb CB cs.length H E)
theorem sc_cl : FnScope ["self", "number"] ["self", "number"] (defScope s_Book_claim) := ⟨rfl, rfl, rfl, by decide +kernel, rfl, by decide +kernel, by decide +kernel⟩
theorem has_cl (F : MAt K C "claim" "Book.claim" s_Book_claim ["self", "number"]) (T_Book : BKC K mg C) (h_BP : HasMX P w K mg base C 5 "picked" ["self", "things", "number"] (spPk C CB)) : HasMX P w K mg base C 6 "claim" ["self", "number"] (spCl C CB) := by
  obtain ⟨f, fd, g, F, bb⟩ := F
  refine ⟨f, fd, g, bb, ?_⟩
  obtain ⟨f_BP, fd_BP, m_BP, b_BP, G_BP⟩ := h_BP
  refine F.okX sc_cl (fun vs H Q E h => ?_) (fun cdv A outer s H vs Q E hr h => ?_)
  · obtain ⟨p, F, L, cs, v, rfl, _⟩ := h
    rfl
  · obtain ⟨p, F, L, cs, v, rfl, hv, ⟨dx, a, b, m, ua, ub, um, hp, ha, hF, hb, hL, hm, hc⟩, hl, q1, q2⟩ := h
    refine ⟨_, (pss_one (ps_ret (pe_meth (pv 0) T_Book.cl m_BP G_BP (hr.mono (by decide)) b_BP .nil (passes_call (takes_of rfl rfl rfl rfl) (fun _ _ _ _ h => h)) (pa_cons (pe_fld (pv 0) rfl) (pa_cons (pv 1) pa_nil))))), ?_⟩
    have el : um.length = cs.length := Paired.length hc
    walk_at "go"
    refine w_kMeth hp (bk_no _ _ _ (by decide +kernel) (by decide +kernel) (by decide +kernel)) ?_
    walk_at "go"
    refine w_kFld hp T_Book.cl T_Book.nM (bk_made _ _ _) ?_
    walk_at "go"
    refine ⟨p, m, dx, a, b, m, um, um, v, rfl, hv, hp, hm, by omega, hm, fun k u hk hu => ?_, fun hk => ?_⟩
    · obtain ⟨c, hck, t, rfl, ht⟩ := paired_get hc hu
      refine q1 c t ?_ ht
      unfold at1
      rw [← el, hk]
      exact hck
    · rw [el]
      refine q2 ?_
      unfold at1
      rw [← el, hk]
      rfl
end
end Sf
namespace Sf
open PySem PySem.Spec PyProof.Rows L2 TL
theorem cutV_take2 {x : Str} {k : Nat} (h : k ≤ x.length) : cutS x none (some (k : Int)) = cutB x k := by
  refine ext_tl ?_
  unfold cutB
  rw [tl_cut, tl_mkS]
  have e : HT.sIx x.length 0 none = 0 := rfl
  have e2 : HT.sIx x.length x.length (some (k : Int)) = k := by
    show (if (k : Int) < 0 then ((k : Int) + (x.length : Int)).toNat else min (k : Int).toNat x.length) = k
    rw [if_neg (by omega)]
    omega
  rw [e, e2, List.drop_zero, Nat.sub_zero]
theorem cutV_drop2 {x : Str} {k : Nat} (h : k ≤ x.length) : cutS x (some (k : Int)) none = cutF x k := by
  refine ext_tl ?_
  unfold cutF
  rw [tl_cut, tl_mkS]
  have e : HT.sIx x.length x.length none = x.length := rfl
  have e2 : HT.sIx x.length 0 (some (k : Int)) = k := by
    show (if (k : Int) < 0 then ((k : Int) + (x.length : Int)).toNat else min (k : Int).toNat x.length) = k
    rw [if_neg (by omega)]
    omega
  rw [e, e2]
  exact List.take_of_length_le (by rw [List.length_drop, len_tl]; omega)
theorem cutV_last {x : Str} : cutS x none (some (-1)) = cutB x (x.length - 1) := by
  refine ext_tl ?_
  unfold cutB
  rw [tl_cut, tl_mkS]
  have e : HT.sIx x.length 0 none = 0 := rfl
  have e2 : HT.sIx x.length x.length (some (-1)) = x.length - 1 := by
    show (if (-1 : Int) < 0 then ((-1 : Int) + (x.length : Int)).toNat else min (-1 : Int).toNat x.length) = _
    rw [if_pos (by decide)]
    omega
  rw [e, e2, List.drop_zero, Nat.sub_zero]
theorem at_last {x : Str} (h : Wd x) (hn : x ≠ Str.ofString "") : atI x.cps.toList (-1) = some (lastC x) := by
  obtain ⟨_, h2⟩ := last_sg h hn
  have hne : tl x ≠ [] := fun e => by rw [e] at h2; cases h2
  have e := atI_last (tl x).dropLast ((tl x).getLast hne)
  rw [List.dropLast_concat_getLast] at e
  rw [List.getLast?_eq_some_getLast hne] at h2
  rw [← Option.some.inj h2]
  exact e
theorem len2 {l : List V} (h : l.length = 2) : ∃ a b, l = [a, b] := by
  match l, h with
  | [a, b], _ => exact ⟨a, b, rfl⟩
theorem len3 {l : List V} (h : l.length = 3) : ∃ a b c, l = [a, b, c] := by
  match l, h with
  | [a, b, c], _ => exact ⟨a, b, c, rfl⟩
theorem starts_le {x y : Str} (h : startsL x y = true) : y.length ≤ x.length := by
  have := congrArg List.length (of_decide_eq_true h)
  rw [List.length_take] at this
  rw [len_tl, len_tl]
  omega
theorem ends_le {x y : Str} (h : endsL x y = true) : y.length ≤ x.length := by
  have := (of_decide_eq_true h).1
  rw [len_tl, len_tl]
  exact this
section
variable {X : Cx}
/-- x is True, x is False -/
def rIsBv : R2 := fun x y H Q => ∃ b : Bool, y = .bl b ∧ flat3 x ∧ Q (.bl (decide (x = .bl b))) H
theorem op_is_bl : OpR X (compareOp .Is) rIsBv := by
  intro pins s σ H x y v u Q I rx ry h
  obtain ⟨b, rfl, hf, q⟩ := h
  cases (show u = Value.bool b from ry)
  have no : ∀ {z : Value}, plainIs z (.bool b) = true → z ≠ .bool b → x ≠ .bl b → wpAny (model X.prog X.w) X.A (compareOp .Is z (.bool b)) (EP X pins σ Q) X.xe s := fun h1 h2 h3 => wpAny_is_other h1 h2 ⟨.bl false, H, I, rfl, by rw [decide_eq_false h3] at q; exact q⟩
  cases x with
  | bl a =>
    cases (show v = Value.bool a from rx)
    by_cases e : a = b
    · subst e
      exact wpAny_is_self rfl ⟨.bl true, H, I, rfl, by rw [decide_eq_true rfl] at q; exact q⟩
    · exact no rfl (fun z => e (Value.bool.inj z)) fun z => e (V.bl.inj z)
  | int i =>
    obtain ⟨t, rfl⟩ := rx
    exact no rfl (fun z => nomatch z) (fun z => nomatch z)
  | str i =>
    obtain ⟨t, rfl⟩ := rx
    exact no rfl (fun z => nomatch z) (fun z => nomatch z)
  | _ => exact hf.elim
theorem w_isBv {H : Hp} {Q : VK} {x : V} {b : Bool} (hf : flat3 x) (q : Q (.bl (decide (x = .bl b))) H) : rIsBv x (.bl b) H Q := ⟨b, rfl, hf, q⟩
end
section
variable {P : Program} {w : World} {K : PySem.W.Frag} {mg : Str → Option Value} {base : Heap} {C CB : Addr}
/-! ### what makes the claim of a step -/
def spBy (C CB : Addr) (z : Str) (n : Nat) : Sp := fun vs H Q E => ∃ (p : Addr) (F L cs : List Clm) (as : List V) (M : Nat), vs = .ref p :: as ∧ as.length = n ∧ (∀ v ∈ as, flat3 v) ∧ Bk C H p F L cs ∧ Bnd M F ∧ Bnd M L ∧ Bnd M cs ∧ M ≤ 8000000 ∧ cs.length ≤ 1000 ∧
  (∀ c, claimM F L cs z as = some c → ∀ t H', H t = none → H' t = some (.tup [.str c.1, .str c.2]) → Same H H' → Q (.ref t) H') ∧ (claimM F L cs z as = none → XEb CB cs.length H E)
theorem lnM {k : Nat} (h : k ≤ 16777216) : k ≤ sizeLine := by
  rw [sizeLine_eq]
  exact h
theorem sc_ys : FnScope ["book"] ["book"] (defScope s_by_start) := ⟨rfl, rfl, rfl, by decide +kernel, rfl, by decide +kernel, by decide +kernel⟩
theorem has_ys (F : FnAt K mg "by_start" s_by_start ["book"]) : HasX P w K mg base 1 "by_start" ["book"] (spBy C CB "start" 0) := by
  obtain ⟨f, fd, g, F, bb⟩ := F
  refine ⟨f, fd, g, F.kp, bb, ?_⟩
  refine F.okX sc_ys (fun vs H Q E h => ?_) (fun cdv A outer s H vs Q E hr h => ?_)
  · obtain ⟨p, F, L, cs, as, M, rfl, hn, _⟩ := h
    rw [List.length_cons, hn]
    rfl
  · obtain ⟨p, F, L, cs, as, M, rfl, hn, hf, hB, bF, bL, bc, hM, hl, q1, q2⟩ := h
    obtain rfl : as = [] := List.eq_nil_of_length_eq_zero hn
    refine ⟨_, (pss_one (ps_ret (pe_tup (pa_cons pe_str (pa_cons pe_str pa_nil))))), ?_⟩
    walk_at "go"
    refine w_newT (by walk_at "sz") (fun t H1 ht nt => ?_)
    exact q1 (Str.ofString "", Str.ofString "") rfl t H1 nt.nn ht nt.same
theorem sc_yf : FnScope ["book", "number", "one", "other"] ["book", "number"] (defScope s_by_fact) := ⟨rfl, rfl, rfl, by decide +kernel, rfl, by decide +kernel, by decide +kernel⟩
theorem has_yf (F : FnAt K mg "by_fact" s_by_fact ["book", "number"]) (T_Book : BKC K mg C) (h_BP : HasMX P w K mg base C 5 "picked" ["self", "things", "number"] (spPk C CB)) : HasX P w K mg base 6 "by_fact" ["book", "number"] (spBy C CB "fact" 1) := by
  obtain ⟨f, fd, g, F, bb⟩ := F
  refine ⟨f, fd, g, F.kp, bb, ?_⟩
  obtain ⟨f_BP, fd_BP, m_BP, b_BP, G_BP⟩ := h_BP
  refine F.okX sc_yf (fun vs H Q E h => ?_) (fun cdv A outer s H vs Q E hr h => ?_)
  · obtain ⟨p, F, L, cs, as, M, rfl, hn, _⟩ := h
    rw [List.length_cons, hn]
    rfl
  · obtain ⟨p, F, L, cs, as, M, rfl, hn, hf, ⟨dx, a, b, m, ua, ub, um, hp, ha, hF, hb, hL, hm, hc⟩, bF, bL, bc, hM, hl, q1, q2⟩ := h
    obtain ⟨v, rfl⟩ : ∃ v, as = [v] := List.length_eq_one_iff.mp hn
    refine ⟨_, (pss_cons (ps_asg (pe_meth (pv 0) T_Book.cl m_BP G_BP (hr.mono (by decide)) b_BP .nil (passes_call (takes_of rfl rfl rfl rfl) (fun _ _ _ _ h => h)) (pa_cons (pe_fld (pv 0) rfl) (pa_cons (pv 1) pa_nil))) (pg_tup rfl (pgs_cons (pg_name (i := 2) sc_yf.nd rfl (.inl rfl)) (pgs_cons (pg_name (i := 3) sc_yf.nd rfl (.inl rfl)) pgs_nil)))) (pss_one (ps_ret (pe_tup (pa_cons (pv 2) (pa_cons (pv 3) pa_nil)))))), ?_⟩
    have el : um.length = cs.length := Paired.length hc
    have eF : ua.length = F.length := Paired.length hF
    walk_at "go"
    refine w_kMeth hp (bk_no _ _ _ (by decide +kernel) (by decide +kernel) (by decide +kernel)) ?_
    walk_at "go"
    refine w_kFld hp T_Book.cl T_Book.nF (bk_facts _ _ _) ?_
    walk_at "go"
    refine ⟨p, a, dx, a, b, m, um, ua, v, rfl, hf v List.mem_cons_self, hp, hm, by omega, ha, fun k u hk hu => ?_, fun hk => ?_⟩
    · obtain ⟨c, hck, t, rfl, ht⟩ := paired_get hF hu
      walk_at "go"
      refine w_newT (by walk_at "sz") (fun t2 H1 ht2 nt2 => ?_)
      refine q1 c ?_ t2 H1 nt2.nn ht2 nt2.same
      show at1 F v = some c
      unfold at1
      rw [← eF, hk]
      exact hck
    · rw [el]
      refine q2 ?_
      show at1 F v = none
      unfold at1
      rw [← eF, hk]
      rfl
/-- the claim with a number, then -/
theorem bk_cl {H : Hp} {Q : VK} {E : XK} {p : Addr} {F L cs : List Clm} {v : V} (hB : Bk C H p F L cs) (hv : flat3 v) (hl : cs.length ≤ 1000) (q1 : ∀ c t, at1 cs v = some c → H t = some (.tup [.str c.1, .str c.2]) → Q (.ref t) H) (q2 : at1 cs v = none → XEb CB cs.length H E) : spCl C CB [.ref p, v] H Q E := ⟨p, F, L, cs, v, rfl, hv, hB, hl, q1, q2⟩
theorem sc_yt : FnScope ["book", "number", "one", "other"] ["book", "number"] (defScope s_by_turn) := ⟨rfl, rfl, rfl, by decide +kernel, rfl, by decide +kernel, by decide +kernel⟩
theorem has_yt (F : FnAt K mg "by_turn" s_by_turn ["book", "number"]) (T_Book : BKC K mg C) (h_BC : HasMX P w K mg base C 6 "claim" ["self", "number"] (spCl C CB)) : HasX P w K mg base 7 "by_turn" ["book", "number"] (spBy C CB "turn" 1) := by
  obtain ⟨f, fd, g, F, bb⟩ := F
  refine ⟨f, fd, g, F.kp, bb, ?_⟩
  obtain ⟨f_BC, fd_BC, m_BC, b_BC, G_BC⟩ := h_BC
  refine F.okX sc_yt (fun vs H Q E h => ?_) (fun cdv A outer s H vs Q E hr h => ?_)
  · obtain ⟨p, F, L, cs, as, M, rfl, hn, _⟩ := h
    rw [List.length_cons, hn]
    rfl
  · obtain ⟨p, F, L, cs, as, M, rfl, hn, hf, hB, bF, bL, bc, hM, hl, q1, q2⟩ := h
    obtain ⟨v, rfl⟩ : ∃ v, as = [v] := List.length_eq_one_iff.mp hn
    refine ⟨_, (pss_cons (ps_asg (pe_meth (pv 0) T_Book.cl m_BC G_BC (hr.mono (by decide)) b_BC .nil (passes_call (takes_of rfl rfl rfl rfl) (fun _ _ _ _ h => h)) (pa_cons (pv 1) pa_nil)) (pg_tup rfl (pgs_cons (pg_name (i := 2) sc_yt.nd rfl (.inl rfl)) (pgs_cons (pg_name (i := 3) sc_yt.nd rfl (.inl rfl)) pgs_nil)))) (pss_one (ps_ret (pe_tup (pa_cons (pv 3) (pa_cons (pv 2) pa_nil)))))), ?_⟩
    have ⟨dx, a, b, m, ua, ub, um, hp, _⟩ := hB
    have ec : claimM F L cs "turn" [v] = (at1 cs v).map fun c => (c.2, c.1) := rfl
    walk_at "go"
    refine w_kMeth hp (bk_no _ _ _ (by decide +kernel) (by decide +kernel) (by decide +kernel)) ?_
    walk_at "go"
    refine bk_cl hB (hf v List.mem_cons_self) hl (fun c t hct ht => ?_) (fun hno => ?_)
    · walk_at "go"
      refine w_newT (by walk_at "sz") (fun t2 H1 ht2 nt2 => ?_)
      exact q1 (c.2, c.1) (by rw [ec, hct]; rfl) t2 H1 nt2.nn ht2 nt2.same
    · exact q2 (by rw [ec, hno]; rfl)
theorem sc_yo : FnScope ["book", "number", "further", "one", "other", "longer", "end"] ["book", "number", "further"] (defScope s_by_on) := ⟨rfl, rfl, rfl, by decide +kernel, rfl, by decide +kernel, by decide +kernel⟩
theorem has_yo (F : FnAt K mg "by_on" s_by_on ["book", "number", "further"]) (B : Blt mg) (T_Book : BKC K mg C) (h_BN : HasMX P w K mg base C 4 "need" ["self", "fits"] (spNd C CB)) (h_BC : HasMX P w K mg base C 6 "claim" ["self", "number"] (spCl C CB)) : HasX P w K mg base 7 "by_on" ["book", "number", "further"] (spBy C CB "on" 2) := by
  obtain ⟨f, fd, g, F, bb⟩ := F
  refine ⟨f, fd, g, F.kp, bb, ?_⟩
  obtain ⟨f_BN, fd_BN, m_BN, b_BN, G_BN⟩ := h_BN
  obtain ⟨f_BC, fd_BC, m_BC, b_BC, G_BC⟩ := h_BC
  refine F.okX sc_yo (fun vs H Q E h => ?_) (fun cdv A outer s H vs Q E hr h => ?_)
  · obtain ⟨p, F, L, cs, as, M, rfl, hn, _⟩ := h
    rw [List.length_cons, hn]
    rfl
  · obtain ⟨p, F, L, cs, as, M, rfl, hn, hf, hB, bF, bL, bc, hM, hl, q1, q2⟩ := h
    obtain ⟨v, v2, rfl⟩ : ∃ v v2, as = [v, v2] := len2 hn
    refine ⟨_, (pss_cons (ps_asg (pe_meth (pv 0) T_Book.cl m_BC G_BC (hr.mono (by decide)) b_BC .nil (passes_call (takes_of rfl rfl rfl rfl) (fun _ _ _ _ h => h)) (pa_cons (pv 1) pa_nil)) (pg_tup rfl (pgs_cons (pg_name (i := 3) sc_yo.nd rfl (.inl rfl)) (pgs_cons (pg_name (i := 4) sc_yo.nd rfl (.inl rfl)) pgs_nil)))) (pss_cons (ps_asg (pe_meth (pv 0) T_Book.cl m_BC G_BC (hr.mono (by decide)) b_BC .nil (passes_call (takes_of rfl rfl rfl rfl) (fun _ _ _ _ h => h)) (pa_cons (pv 2) pa_nil)) (pg_tup rfl (pgs_cons (pg_name (i := 5) sc_yo.nd rfl (.inl rfl)) (pgs_cons (pg_name (i := 6) sc_yo.nd rfl (.inl rfl)) pgs_nil)))) (pss_cons (ps_expr (pe_meth (pv 0) T_Book.cl m_BN G_BN (hr.mono (by decide)) b_BN .nil (passes_call (takes_of rfl rfl rfl rfl) (fun _ _ _ _ h => h)) (pa_cons (pe_m1 PySem.F.slot_str_startswith PySem.F.type_str_startswith mt_startN (pv 5) (pv 4)) pa_nil))) (pss_one (ps_ret (pe_tup (pa_cons (pe_op op_addS (pv 3) (pe_slice sl_str (pv 5) (po_some (pe_callB call_lenS (by rfl) B.len PySem.boot_len (pa_cons (pv 4) pa_nil))) po_none)) (pa_cons (pv 6) pa_nil)))))))), ?_⟩
    have ⟨dx, a, b, m, ua, ub, um, hp, _, _, _, _, hm, hc⟩ := hB
    have el : um.length = cs.length := Paired.length hc
    have ec : claimM F L cs "on" [v, v2] = (at1 cs v).bind fun c => (at1 cs v2).bind fun d => onM c d := rfl
    walk_at "go"
    refine w_kMeth hp (bk_no _ _ _ (by decide +kernel) (by decide +kernel) (by decide +kernel)) ?_
    walk_at "go"
    refine bk_cl hB (hf v List.mem_cons_self) hl (fun c t hct ht => ?_) (fun hno => q2 (by rw [ec, hno]; rfl))
    obtain ⟨c1, c2, c3, c4⟩ := bc c (at1_mem hct)
    walk_at "go"
    refine w_kMeth hp (bk_no _ _ _ (by decide +kernel) (by decide +kernel) (by decide +kernel)) ?_
    walk_at "go"
    refine bk_cl hB (hf v2 (List.mem_cons_of_mem _ List.mem_cons_self)) hl (fun d t2 hdt ht2 => ?_) (fun hno => q2 (by rw [ec, hct, hno]; rfl))
    obtain ⟨d1, d2, d3, d4⟩ := bc d (at1_mem hdt)
    walk_at "go"
    refine w_kMeth hp (bk_no _ _ _ (by decide +kernel) (by decide +kernel) (by decide +kernel)) ?_
    walk_at "go"
    rw [starts_eq]
    refine ⟨p, dx, a, b, m, um, _, rfl, hp, hm, by omega, fun e => ?_, fun e => ?_⟩
    · have hle := starts_le e
      walk_at "go"
      refine w_lenS (lnM (by omega)) ?_
      walk_at "go"
      refine w_slS (lnM (by omega)) ?_
      rw [cutV_drop2 hle]
      have := cutF_len d.1 c.2.length
      refine w_addS (lnM (by omega)) ?_
      walk_at "go"
      refine w_newT (by walk_at "sz") (fun t3 H1 ht3 nt3 => ?_)
      exact q1 (c.1 ++ cutF d.1 c.2.length, d.2) (by rw [ec, hct, hdt]; show onM c d = _; unfold onM; rw [if_pos e]) t3 H1 nt3.nn ht3 nt3.same
    · rw [el]
      exact q2 (by rw [ec, hct, hdt]; show onM c d = _; unfold onM; rw [if_neg (by rw [e]; exact fun z => nomatch z)])
theorem sc_yh : FnScope ["book", "number", "word", "end"] ["book", "number"] (defScope s_by_home) := ⟨rfl, rfl, rfl, by decide +kernel, rfl, by decide +kernel, by decide +kernel⟩
theorem has_yh (F : FnAt K mg "by_home" s_by_home ["book", "number"]) (B : Blt mg) (T_Book : BKC K mg C) (h_BN : HasMX P w K mg base C 4 "need" ["self", "fits"] (spNd C CB)) (h_BC : HasMX P w K mg base C 6 "claim" ["self", "number"] (spCl C CB)) : HasX P w K mg base 7 "by_home" ["book", "number"] (spBy C CB "home" 1) := by
  obtain ⟨f, fd, g, F, bb⟩ := F
  refine ⟨f, fd, g, F.kp, bb, ?_⟩
  obtain ⟨f_BN, fd_BN, m_BN, b_BN, G_BN⟩ := h_BN
  obtain ⟨f_BC, fd_BC, m_BC, b_BC, G_BC⟩ := h_BC
  refine F.okX sc_yh (fun vs H Q E h => ?_) (fun cdv A outer s H vs Q E hr h => ?_)
  · obtain ⟨p, F, L, cs, as, M, rfl, hn, _⟩ := h
    rw [List.length_cons, hn]
    rfl
  · obtain ⟨p, F, L, cs, as, M, rfl, hn, hf, hB, bF, bL, bc, hM, hl, q1, q2⟩ := h
    obtain ⟨v, rfl⟩ : ∃ v, as = [v] := List.length_eq_one_iff.mp hn
    refine ⟨_, (pss_cons (ps_asg (pe_meth (pv 0) T_Book.cl m_BC G_BC (hr.mono (by decide)) b_BC .nil (passes_call (takes_of rfl rfl rfl rfl) (fun _ _ _ _ h => h)) (pa_cons (pv 1) pa_nil)) (pg_tup rfl (pgs_cons (pg_name (i := 2) sc_yh.nd rfl (.inl rfl)) (pgs_cons (pg_name (i := 3) sc_yh.nd rfl (.inl rfl)) pgs_nil)))) (pss_cons (ps_expr (pe_meth (pv 0) T_Book.cl m_BN G_BN (hr.mono (by decide)) b_BN .nil (passes_call (takes_of rfl rfl rfl rfl) (fun _ _ _ _ h => h)) (pa_cons (pe_cmpR op_ne (pv 2) pe_str (nomark _)) pa_nil))) (pss_one (ps_ret (pe_tup (pa_cons (pe_op op_addS (pv 2) (pe_swapN (pe_ix ix_str (pv 2) (pe_un un_neg pe_int) (fun _ _ => rfl)))) (pa_cons (pe_slice sl_str (pv 2) po_none (po_some (pe_un un_neg pe_int))) pa_nil))))))), ?_⟩
    have ⟨dx, a, b, m, ua, ub, um, hp, _, _, _, _, hm, hc⟩ := hB
    have el : um.length = cs.length := Paired.length hc
    have ec : claimM F L cs "home" [v] = (at1 cs v).bind homeM := rfl
    walk_at "go"
    refine w_kMeth hp (bk_no _ _ _ (by decide +kernel) (by decide +kernel) (by decide +kernel)) ?_
    walk_at "go"
    refine bk_cl hB (hf v List.mem_cons_self) hl (fun c t hct ht => ?_) (fun hno => q2 (by rw [ec, hno]; rfl))
    obtain ⟨c1, c2, c3, c4⟩ := bc c (at1_mem hct)
    walk_at "go"
    refine w_kMeth hp (bk_no _ _ _ (by decide +kernel) (by decide +kernel) (by decide +kernel)) ?_
    walk_at "go"
    refine ⟨p, dx, a, b, m, um, _, rfl, hp, hm, by omega, fun e => ?_, fun e => ?_⟩
    · have hne : c.1 ≠ Str.ofString "" := fun z => by
        rw [decide_eq_true z] at e
        cases e
      have hsg := (last_sg c1 hne).1
      walk_at "go"
      refine w_ixS (lnM (by omega)) (at_last c1 hne) ?_
      walk_at "go"
      refine w_swap1 hsg ?_
      refine w_addS (lnM (by rw [len_one]; omega)) ?_
      walk_at "go"
      refine w_slS (lnM (by omega)) ?_
      rw [cutV_last]
      walk_at "go"
      refine w_newT (by walk_at "sz") (fun t3 H1 ht3 nt3 => ?_)
      exact q1 (c.1 ++ one (flipC (lastC c.1)), cutB c.1 (c.1.length - 1)) (by rw [ec, hct]; show homeM c = _; unfold homeM; rw [if_neg hne]) t3 H1 nt3.nn ht3 nt3.same
    · have he : c.1 = Str.ofString "" := by
        by_cases z : c.1 = Str.ofString ""
        · exact z
        · rw [decide_eq_false z] at e
          cases e
      rw [el]
      exact q2 (by rw [ec, hct]; show homeM c = _; unfold homeM; rw [if_pos he])
theorem sc_yp : FnScope ["book", "number", "many", "word", "end"] ["book", "number", "many"] (defScope s_by_part) := ⟨rfl, rfl, rfl, by decide +kernel, rfl, by decide +kernel, by decide +kernel⟩
theorem has_yp (F : FnAt K mg "by_part" s_by_part ["book", "number", "many"]) (B : Blt mg) (T_Book : BKC K mg C) (h_Up : HasUp P w K mg base) (h_BN : HasMX P w K mg base C 4 "need" ["self", "fits"] (spNd C CB)) (h_BC : HasMX P w K mg base C 6 "claim" ["self", "number"] (spCl C CB)) : HasX P w K mg base 7 "by_part" ["book", "number", "many"] (spBy C CB "part" 2) := by
  obtain ⟨f, fd, g, F, bb⟩ := F
  refine ⟨f, fd, g, F.kp, bb, ?_⟩
  obtain ⟨f_Up, fd_Up, g_Up, k_Up, b_Up, G_Up⟩ := h_Up
  obtain ⟨f_BN, fd_BN, m_BN, b_BN, G_BN⟩ := h_BN
  obtain ⟨f_BC, fd_BC, m_BC, b_BC, G_BC⟩ := h_BC
  refine F.okX sc_yp (fun vs H Q E h => ?_) (fun cdv A outer s H vs Q E hr h => ?_)
  · obtain ⟨p, F, L, cs, as, M, rfl, hn, _⟩ := h
    rw [List.length_cons, hn]
    rfl
  · obtain ⟨p, F, L, cs, as, M, rfl, hn, hf, hB, bF, bL, bc, hM, hl, q1, q2⟩ := h
    obtain ⟨v, v2, rfl⟩ : ∃ v v2, as = [v, v2] := len2 hn
    refine ⟨_, (pss_cons (ps_asg (pe_meth (pv 0) T_Book.cl m_BC G_BC (hr.mono (by decide)) b_BC .nil (passes_call (takes_of rfl rfl rfl rfl) (fun _ _ _ _ h => h)) (pa_cons (pv 1) pa_nil)) (pg_tup rfl (pgs_cons (pg_name (i := 3) sc_yp.nd rfl (.inl rfl)) (pgs_cons (pg_name (i := 4) sc_yp.nd rfl (.inl rfl)) pgs_nil)))) (pss_cons (ps_expr (pe_meth (pv 0) T_Book.cl m_BN G_BN (hr.mono (by decide)) b_BN .nil (passes_call (takes_of rfl rfl rfl rfl) (fun _ _ _ _ h => h)) (pa_cons (pe_call G_Up (hr.mono (by decide)) (by rfl) g_Up k_Up b_Up .nil pass0 (pa_cons (pv 2) (pa_cons (pe_callB call_lenS (by rfl) B.len PySem.boot_len (pa_cons (pv 3) pa_nil)) pa_nil))) pa_nil))) (pss_one (ps_ret (pe_tup (pa_cons (pe_slice sl_str (pv 3) po_none (po_some (pv 2))) (pa_cons (pe_slice sl_str (pv 3) po_none (po_some (pv 2))) pa_nil))))))), ?_⟩
    have ⟨dx, a, b, m, ua, ub, um, hp, _, _, _, _, hm, hc⟩ := hB
    have el : um.length = cs.length := Paired.length hc
    have ec : claimM F L cs "part" [v, v2] = (at1 cs v).bind fun c => partM c v2 := rfl
    walk_at "go"
    refine w_kMeth hp (bk_no _ _ _ (by decide +kernel) (by decide +kernel) (by decide +kernel)) ?_
    walk_at "go"
    refine bk_cl hB (hf v List.mem_cons_self) hl (fun c t hct ht => ?_) (fun hno => q2 (by rw [ec, hno]; rfl))
    obtain ⟨c1, c2, c3, c4⟩ := bc c (at1_mem hct)
    walk_at "go"
    refine w_kMeth hp (bk_no _ _ _ (by decide +kernel) (by decide +kernel) (by decide +kernel)) ?_
    walk_at "go"
    refine w_lenS (lnM (by omega)) ?_
    walk_at "go"
    refine ⟨v2, _, rfl, hf v2 (List.mem_cons_of_mem _ List.mem_cons_self), ?_⟩
    have eu : upB v2 (c.1.length : Int) = (numV v2 (c.1.length + 1)).isSome := by
      rw [← numV_up]
      congr 1
      omega
    rw [eu]
    walk_at "go"
    refine ⟨p, dx, a, b, m, um, _, rfl, hp, hm, by omega, fun e => ?_, fun e => ?_⟩
    · obtain ⟨k, hk⟩ := Option.isSome_iff_exists.mp e
      obtain ⟨rfl, hlt⟩ := numV_some hk
      walk_at "go"
      refine w_slS (lnM (by omega)) ?_
      rw [cutV_take2 (by omega)]
      walk_at "go"
      refine w_slS (lnM (by omega)) ?_
      rw [cutV_take2 (by omega)]
      walk_at "go"
      refine w_newT (by walk_at "sz") (fun t3 H1 ht3 nt3 => ?_)
      exact q1 (cutB c.1 k, cutB c.1 k) (by rw [ec, hct]; show partM c _ = _; unfold partM; rw [hk]; rfl) t3 H1 nt3.nn ht3 nt3.same
    · have he : numV v2 (c.1.length + 1) = none := by
        cases h : numV v2 (c.1.length + 1) with
        | none => rfl
        | some k => rw [h] at e; cases e
      rw [el]
      exact q2 (by rw [ec, hct]; show partM c _ = _; unfold partM; rw [he]; rfl)
theorem sc_yl : FnScope ["book", "number", "which", "forth", "word", "end", "left", "right", "old", "new"] ["book", "number", "which", "forth"] (defScope s_by_like) := ⟨rfl, rfl, rfl, by decide +kernel, rfl, by decide +kernel, by decide +kernel⟩
theorem has_yl (F : FnAt K mg "by_like" s_by_like ["book", "number", "which", "forth"]) (B : Blt mg) (T_Book : BKC K mg C) (h_BN : HasMX P w K mg base C 4 "need" ["self", "fits"] (spNd C CB)) (h_BP : HasMX P w K mg base C 5 "picked" ["self", "things", "number"] (spPk C CB)) (h_BC : HasMX P w K mg base C 6 "claim" ["self", "number"] (spCl C CB)) : HasX P w K mg base 7 "by_like" ["book", "number", "which", "forth"] (spBy C CB "like" 3) := by
  obtain ⟨f, fd, g, F, bb⟩ := F
  refine ⟨f, fd, g, F.kp, bb, ?_⟩
  obtain ⟨f_BN, fd_BN, m_BN, b_BN, G_BN⟩ := h_BN
  obtain ⟨f_BP, fd_BP, m_BP, b_BP, G_BP⟩ := h_BP
  obtain ⟨f_BC, fd_BC, m_BC, b_BC, G_BC⟩ := h_BC
  refine F.okX sc_yl (fun vs H Q E h => ?_) (fun cdv A outer s H vs Q E hr h => ?_)
  · obtain ⟨p, F, L, cs, as, M, rfl, hn, _⟩ := h
    rw [List.length_cons, hn]
    rfl
  · obtain ⟨p, F, L, cs, as, M, rfl, hn, hf, hB, bF, bL, bc, hM, hl, q1, q2⟩ := h
    obtain ⟨v, v2, v3, rfl⟩ : ∃ v v2 v3, as = [v, v2, v3] := len3 hn
    refine ⟨_, (pss_cons (ps_asg (pe_meth (pv 0) T_Book.cl m_BC G_BC (hr.mono (by decide)) b_BC .nil (passes_call (takes_of rfl rfl rfl rfl) (fun _ _ _ _ h => h)) (pa_cons (pv 1) pa_nil)) (pg_tup rfl (pgs_cons (pg_name (i := 4) sc_yl.nd rfl (.inl rfl)) (pgs_cons (pg_name (i := 5) sc_yl.nd rfl (.inl rfl)) pgs_nil)))) (pss_cons (ps_asg (pe_meth (pv 0) T_Book.cl m_BP G_BP (hr.mono (by decide)) b_BP .nil (passes_call (takes_of rfl rfl rfl rfl) (fun _ _ _ _ h => h)) (pa_cons (pe_fld (pv 0) rfl) (pa_cons (pv 2) pa_nil))) (pg_tup rfl (pgs_cons (pg_name (i := 6) sc_yl.nd rfl (.inl rfl)) (pgs_cons (pg_name (i := 7) sc_yl.nd rfl (.inl rfl)) pgs_nil)))) (pss_cons (ps_expr (pe_meth (pv 0) T_Book.cl m_BN G_BN (hr.mono (by decide)) b_BN .nil (passes_call (takes_of rfl rfl rfl rfl) (fun _ _ _ _ h => h)) (pa_cons (pe_or (pe_cmpR op_is_bl (pv 3) pe_bl (nomark _)) (pe_one (pe_cmpR op_is_bl (pv 3) pe_bl (nomark _)))) pa_nil))) (pss_cons (ps_asg (pe_ifExp (pt_val (pv 3)) (pe_tup (pa_cons (pv 6) (pa_cons (pv 7) pa_nil))) (pe_tup (pa_cons (pv 7) (pa_cons (pv 6) pa_nil)))) (pg_tup rfl (pgs_cons (pg_name (i := 8) sc_yl.nd rfl (.inl rfl)) (pgs_cons (pg_name (i := 9) sc_yl.nd rfl (.inl rfl)) pgs_nil)))) (pss_cons (ps_expr (pe_meth (pv 0) T_Book.cl m_BN G_BN (hr.mono (by decide)) b_BN .nil (passes_call (takes_of rfl rfl rfl rfl) (fun _ _ _ _ h => h)) (pa_cons (pe_m1 PySem.F.slot_str_endswith PySem.F.type_str_endswith mt_endN (pv 4) (pv 8)) pa_nil))) (pss_one (ps_ret (pe_tup (pa_cons (pe_op op_addS (pe_slice sl_str (pv 4) po_none (po_some (pe_op op_sub (pe_callB call_lenS (by rfl) B.len PySem.boot_len (pa_cons (pv 4) pa_nil)) (pe_callB call_lenS (by rfl) B.len PySem.boot_len (pa_cons (pv 8) pa_nil))))) (pv 9)) (pa_cons (pv 5) pa_nil)))))))))), ?_⟩
    have ⟨dx, a, b, m, ua, ub, um, hp, _, _, hb, hL, hm, hc⟩ := hB
    have el : um.length = cs.length := Paired.length hc
    have eL : ub.length = L.length := Paired.length hL
    have ec : claimM F L cs "like" [v, v2, v3] = (at1 cs v).bind fun c => (at1 L v2).bind fun l => likeM c l v3 := rfl
    walk_at "go"
    refine w_kMeth hp (bk_no _ _ _ (by decide +kernel) (by decide +kernel) (by decide +kernel)) ?_
    walk_at "go"
    refine bk_cl hB (hf v List.mem_cons_self) hl (fun c t hct ht => ?_) (fun hno => q2 (by rw [ec, hno]; rfl))
    obtain ⟨c1, c2, c3, c4⟩ := bc c (at1_mem hct)
    walk_at "go"
    refine w_kMeth hp (bk_no _ _ _ (by decide +kernel) (by decide +kernel) (by decide +kernel)) ?_
    walk_at "go"
    refine w_kFld hp T_Book.cl T_Book.nL (bk_likes _ _ _) ?_
    walk_at "go"
    refine ⟨p, b, dx, a, b, m, um, ub, v2, rfl, hf v2 (List.mem_cons_of_mem _ List.mem_cons_self), hp, hm, by omega, hb, fun k u hk hu => ?_, fun hk => ?_⟩
    · obtain ⟨l, hlk, t2, rfl, ht2⟩ := paired_get hL hu
      have hlt : at1 L v2 = some l := by
        unfold at1
        rw [← eL, hk]
        exact hlk
      obtain ⟨l1, l2, l3, l4⟩ := bL l (List.mem_of_getElem? hlk)
      have hv3 := hf v3 (List.mem_cons_of_mem _ (List.mem_cons_of_mem _ List.mem_cons_self))
      have bad : (∀ t, v3 ≠ .bl t) → XEb CB um.length H E := fun hno => by
        rw [el]
        refine q2 ?_
        rw [ec, hct, hlt]
        show likeM c l v3 = none
        cases h : likeM c l v3 with
        | none => rfl
        | some x =>
          obtain ⟨t, e, _⟩ := likeM_some h
          exact absurd e (hno t)
      walk_at "go"
      refine w_kMeth hp (bk_no _ _ _ (by decide +kernel) (by decide +kernel) (by decide +kernel)) ?_
      walk_at "go"
      refine w_isBv hv3 ?_
      by_cases hb3 : ∃ t, v3 = .bl t
      · obtain ⟨t, rfl⟩ := hb3
        have fin : ∀ (tv : Bool), tv = t → claimM F L cs "like" [v, v2, .bl t] = likeM c l (.bl tv) := fun tv e => by rw [ec, hct, hlt, e]; rfl
        cases t with
        | true =>
          rw [decide_eq_true rfl]
          refine w_orVB (fun _ => ?_) (fun z => nomatch z)
          walk_at "go"
          refine ⟨p, dx, a, b, m, um, true, rfl, hp, hm, by omega, fun _ => ?_, fun z => nomatch z⟩
          walk_at "go"
          refine w_newT (by walk_at "sz") (fun t3 H1 ht3 nt3 => ?_)
          walk_at "go"
          refine w_kMeth (nt3.at hp) (bk_no _ _ _ (by decide +kernel) (by decide +kernel) (by decide +kernel)) ?_
          walk_at "go"
          rw [ends_eq]
          refine ⟨p, dx, a, b, m, um, _, rfl, nt3.at hp, nt3.at hm, by omega, fun e => ?_, fun e => ?_⟩
          · have hle := ends_le e
            walk_at "go"
            refine w_lenS (lnM (by omega)) ?_
            walk_at "go"
            refine w_lenS (lnM (by omega)) ?_
            walk_at "go"
            rw [show ((c.1.length : Int) - (l.1.length : Int)) = ((c.1.length - l.1.length : Nat) : Int) by omega]
            refine w_slS (lnM (by omega)) ?_
            rw [cutV_take2 (by omega)]
            have := cutB_len c.1 (c.1.length - l.1.length)
            walk_at "go"
            refine w_addS (lnM (by omega)) ?_
            walk_at "go"
            refine w_newT (by walk_at "sz") (fun t4 H2 ht4 nt4 => ?_)
            refine q1 (cutB c.1 (c.1.length - l.1.length) ++ l.2, c.2) ?_ t4 H2 (nt3.same.free nt4.nn) ht4 (nt3.same.nw nt4)
            rw [fin true rfl]
            show (if endsL c.1 l.1 = true then _ else none) = _
            rw [if_pos e]
            rfl
          · rw [el]
            refine (q2 ?_).same nt3.same
            rw [fin true rfl]
            show (if endsL c.1 l.1 = true then _ else none) = _
            rw [if_neg (by rw [e]; exact fun z => nomatch z)]
        | false =>
          rw [decide_eq_false (fun z => nomatch z)]
          refine w_orVB (fun z => nomatch z) (fun _ => ?_)
          walk_at "go"
          refine w_isBv trivial ?_
          rw [decide_eq_true rfl]
          walk_at "go"
          refine ⟨p, dx, a, b, m, um, true, rfl, hp, hm, by omega, fun _ => ?_, fun z => nomatch z⟩
          walk_at "go"
          refine w_newT (by walk_at "sz") (fun t3 H1 ht3 nt3 => ?_)
          walk_at "go"
          refine w_kMeth (nt3.at hp) (bk_no _ _ _ (by decide +kernel) (by decide +kernel) (by decide +kernel)) ?_
          walk_at "go"
          rw [ends_eq]
          refine ⟨p, dx, a, b, m, um, _, rfl, nt3.at hp, nt3.at hm, by omega, fun e => ?_, fun e => ?_⟩
          · have hle := ends_le e
            walk_at "go"
            refine w_lenS (lnM (by omega)) ?_
            walk_at "go"
            refine w_lenS (lnM (by omega)) ?_
            walk_at "go"
            rw [show ((c.1.length : Int) - (l.2.length : Int)) = ((c.1.length - l.2.length : Nat) : Int) by omega]
            refine w_slS (lnM (by omega)) ?_
            rw [cutV_take2 (by omega)]
            have := cutB_len c.1 (c.1.length - l.2.length)
            walk_at "go"
            refine w_addS (lnM (by omega)) ?_
            walk_at "go"
            refine w_newT (by walk_at "sz") (fun t4 H2 ht4 nt4 => ?_)
            refine q1 (cutB c.1 (c.1.length - l.2.length) ++ l.1, c.2) ?_ t4 H2 (nt3.same.free nt4.nn) ht4 (nt3.same.nw nt4)
            rw [fin false rfl]
            show (if endsL c.1 l.2 = true then _ else none) = _
            rw [if_pos e]
            rfl
          · rw [el]
            refine (q2 ?_).same nt3.same
            rw [fin false rfl]
            show (if endsL c.1 l.2 = true then _ else none) = _
            rw [if_neg (by rw [e]; exact fun z => nomatch z)]
      · have hno : ∀ t, v3 ≠ .bl t := fun t z => hb3 ⟨t, z⟩
        rw [decide_eq_false (hno true)]
        refine w_orVB (fun z => nomatch z) (fun _ => ?_)
        walk_at "go"
        refine w_isBv hv3 ?_
        rw [decide_eq_false (hno false)]
        walk_at "go"
        exact ⟨p, dx, a, b, m, um, false, rfl, hp, hm, by omega, (fun z => nomatch z), fun _ => bad hno⟩
    · rw [el]
      refine q2 ?_
      have : at1 L v2 = none := by
        unfold at1
        rw [← eL, hk]
        rfl
      rw [ec, hct, this]
      rfl
end
end Sf
namespace Sf
open PySem PySem.Spec PyProof.Rows L2 TL
/-! ### d.get(k), d a written dict -/
def tKGet (K : PySem.W.Frag) (w : World) (ta tb : TE) : TE := fun σ H Q => ta σ H fun x H1 => ∃ p, x = .ref p ∧ (∃ es n, K.lookup p = some ⟨.type "dict", none, .dict es n, #[]⟩) ∧ (p == sysModules) = false ∧
  tb σ H1 fun y H2 => ∃ z, y = .str z ∧ ((∃ v, KDct K w p z v ∧ Q v H2) ∨ (KMiss K w p z ∧ Q .non H2))
section
variable {X : Cx} {o e : Expr} {apos cpos : Pos} {td ty : TE}
theorem pe_kget1 (ho : PE X o td) (he : PE X e ty) (m : M1 X o "get" apos e cpos) : PE X (.Call (.Attribute o "get" apos) [e] [] cpos) (tKGet X.K X.w td ty) := by
  refine ⟨fun pins s σ H Q I h => ?_⟩
  refine wpAny_Call_method m.base m.few m.line PySem.F.plainAttrs_dict PySem.F.slot_dict_get PySem.F.type_dict_get (thn (ho.run pins s σ H _ I h) fun u s1 ⟨x, H1, I1, rx, p, ex, ⟨es, n, hl⟩, low, q1⟩ => ?_)
  subst ex
  obtain rfl : u = Value.ref p := rx
  refine ⟨⟨_, I1.kIn p _ hl, rfl⟩, fun a e => by cases e; exact ⟨_, I1.kIn p _ hl, rfl⟩, ?_⟩
  rw [m.trees]
  refine Calls.callWith_builtin rfl (Calls.evalArgs_plain (Calls.spliced_cons (thn (he.run pins s1 σ H1 _ I1 q1) fun iv s2 ⟨y, H2, I2, ry, z, ez, q2⟩ => Calls.spliced_nil ?_)))
  subst ez
  obtain ⟨t, rfl⟩ := (show ∃ t, iv = Value.str z t from ry)
  rcases q2 with ⟨v, ⟨es, n, u, hl, hk, e, ru⟩, q⟩ | ⟨⟨es, n, hl, hk, _, e⟩, q⟩
  · have hm := PySem.W.mapOf_K (prog := X.prog) (w := X.w) I2.kIn hl hk
    exact call_meetsIn PySem.F.slot_dict_get hm.typeIs PySem.F.entry_dict_get (PySem.F.args_dict_get_2 _ _) (meets_dict_get (strKind X.prog X.w) p (strKind_is X.prog X.w z t) low) ⟨_, hm, ⟨v, H2, I2.tok _, by rw [PySem.W.find_K hl e]; exact ru, q⟩⟩
  · have hm := PySem.W.mapOf_K (prog := X.prog) (w := X.w) I2.kIn hl hk
    exact call_meetsIn PySem.F.slot_dict_get hm.typeIs PySem.F.entry_dict_get (PySem.F.args_dict_get_2 _ _) (meets_dict_get (strKind X.prog X.w) p (strKind_is X.prog X.w z t) low) ⟨_, hm, ⟨.non, H2, I2.tok _, by rw [PySem.W.find_K hl e]; rfl, q⟩⟩
end
end Sf
namespace Sf
open PySem PySem.Spec PyProof.Rows L2 TL
section
variable {X : Cx} {CX : CXT} {k i : Nat} {f : Addr} {sp : Sp} {E : XK} {x : Str} {e : Expr} {es : List Expr} {t : TA} {p pos : Pos}
/-- one of two readings -/
def tAlt (t1 t2 : TE) : TE := fun σ H Q => t1 σ H Q ∨ t2 σ H Q
theorem pe_alt {e : Expr} {t1 t2 : TE} (h1 : PE X e t1) (h2 : PE X e t2) : PE X e (tAlt t1 t2) := ⟨fun pins s σ H Q I h => h.elim (h1.run pins s σ H Q I) (h2.run pins s σ H Q I)⟩
/-- x(e, .., *y), x a local name that holds a def -/
def tCVS (i : Nat) (f : Addr) (sp : Sp) (E : XK) (t : TA) : TE := fun σ H Q => σ[i]? = some (some (.ref f)) ∧ t σ H fun vs H1 => sp vs H1 Q E
theorem pe_callVS (F : FnR X.prog X.w X.K X.mg X.base CX k f sp) (hr : Room k X.A) (hk : PySem.W.keepIn X.K (.ref f) = true) (hx : Passes CX X E) (hN : X.N[i]? = some x) (hv : Vis X.env.scope x) (ha : PA X (e :: es) t)
    (hd : (x == ("__debug__" : Str)) = false := by decide) (hcd : (x == ("__classdict__" : Str)) = false := by decide) (he : starEach (e :: es) X.env = (false, eval e X.env) :: starEach es X.env := by rfl) (hst : (backTo pos (starEach es X.env)).any (·.1) = true := by rfl) : PE X (.Call (.Name x p) (e :: es) [] pos) (tCVS i f sp E t) :=
  ⟨fun pins s σ H Q I ⟨hs, h⟩ => wpAny_Call_Name_kw (thn ((pe_var (pos := p) hN hv hd hcd).run pins s σ H (fun v H1 => v = .ref f ∧ H1 = H) I ⟨_, hs, rfl, rfl⟩) fun u s1 ⟨v, H1, I1, r1, ev, eH⟩ => by
    subst ev eH
    obtain rfl : u = .ref f := r1
    exact PySem.W.callWith_S2 (h₀ := X.base) I.ok.mod.kin hk (thn (ha.run pos pins s1 σ H1 _ I1 h) fun us s2 ⟨vs, H2, I2, r, q⟩ => ⟨I2.kIn, wpAny_call (run_fnR F hr hx I2 r q)⟩) he hst)⟩
end
theorem HasX.raw {P : Program} {w : World} {K : PySem.W.Frag} {mg : Str → Option Value} {base : Heap} {k : Nat} {f : Addr} {fd : FuncData} {ps : List Str} {sp : Sp} (F : FnOk P w K mg base (L2.CX P w) k f fd ps sp) (hb : Binds K fd ps []) : FnR P w K mg base (L2.CX P w) k f sp :=
  (FnOk.raw F hb .nil).imp fun vs H Q E h => by
    rw [List.append_nil]
    exact h
/-! ### rows -/
abbrev Row := Str × List V
def wds7 : List Str := [Str.ofString "start", Str.ofString "fact", Str.ofString "turn", Str.ofString "on", Str.ofString "home", Str.ofString "like", Str.ofString "part"]
def dV : V → PyData
  | .int i => .int i
  | .bl b => .bool b
  | .str x => .str x
  | _ => .none
def argOk (v : V) : Prop := (∃ i : Int, v = .int i) ∨ ∃ b : Bool, v = .bl b
theorem argOk.flat {v : V} (h : argOk v) : flat3 v := by
  rcases h with ⟨i, rfl⟩ | ⟨b, rfl⟩ <;> trivial
/-- the written dict THINGS of papers -/
structure TP (K : PySem.W.Frag) (mg : Str → Option Value) (w : World) (p : Addr) : Prop where
  gT : mg "THINGS" = some (.ref p)
  lk : ∃ es n, K.lookup p = some ⟨.type "dict", none, .dict es n, #[]⟩
  low : (p == sysModules) = false
  k1 : KDct K w p "start" (.int 1)
  k2 : KDct K w p "fact" (.int 2)
  k3 : KDct K w p "turn" (.int 2)
  k4 : KDct K w p "on" (.int 3)
  k5 : KDct K w p "home" (.int 2)
  k6 : KDct K w p "like" (.int 4)
  k7 : KDct K w p "part" (.int 3)
/-- the written dict MAKERS -/
structure MK (K : PySem.W.Frag) (mg : Str → Option Value) (w : World) (p f1 f2 f3 f4 f5 f6 f7 : Addr) : Prop where
  gT : mg "MAKERS" = some (.ref p)
  k1 : KDct K w p "start" (.ref f1)
  k2 : KDct K w p "fact" (.ref f2)
  k3 : KDct K w p "turn" (.ref f3)
  k4 : KDct K w p "on" (.ref f4)
  k5 : KDct K w p "home" (.ref f5)
  k6 : KDct K w p "like" (.ref f6)
  k7 : KDct K w p "part" (.ref f7)
def arity (z : Str) : Nat := if z = Str.ofString "start" then 0 else if z = Str.ofString "fact" then 1 else if z = Str.ofString "turn" then 1 else if z = Str.ofString "on" then 2 else if z = Str.ofString "home" then 1 else if z = Str.ofString "like" then 3 else 2
structure RowOk (K : PySem.W.Frag) (w : World) (p : Addr) (r : Row) : Prop where
  wd : r.1 ∈ wds7 ∨ (r.1 ∉ wds7 ∧ KMiss K w p r.1)
  lay : PyData.canLay0 (.str r.1) = true
  ar : ∀ v ∈ r.2, argOk v
  ln : r.2.length ≤ 10
def RwAt (H : Hp) (v : V) (r : Row) : Prop := ∃ t, v = .ref t ∧ H t = some (.tup (.str r.1 :: r.2))
theorem claim_arity {F L cs : List Clm} {z : Str} {as : List V} (hz : z ∈ wds7) (h : as.length ≠ arity z) : claimM F L cs z as = none := by
  unfold wds7 at hz
  simp only [List.mem_cons, List.not_mem_nil, or_false] at hz
  rcases hz with rfl | rfl | rfl | rfl | rfl | rfl | rfl
  · show (match as with | [] => _ | _ => none) = none
    match as, h with
    | [], h => exact absurd rfl h
    | _ :: _, _ => rfl
  · show (match as with | [a] => at1 F a | _ => none) = none
    match as, h with
    | [], _ => rfl
    | [_], h => exact absurd rfl h
    | _ :: _ :: _, _ => rfl
  · show (match as with | [a] => (at1 cs a).map _ | _ => none) = none
    match as, h with
    | [], _ => rfl
    | [_], h => exact absurd rfl h
    | _ :: _ :: _, _ => rfl
  · show (match as with | [a, b] => (at1 cs a).bind _ | _ => none) = none
    match as, h with
    | [], _ => rfl
    | [_], _ => rfl
    | [_, _], h => exact absurd rfl h
    | _ :: _ :: _ :: _, _ => rfl
  · show (match as with | [a] => (at1 cs a).bind _ | _ => none) = none
    match as, h with
    | [], _ => rfl
    | [_], h => exact absurd rfl h
    | _ :: _ :: _, _ => rfl
  · show (match as with | [a, b, t] => (at1 cs a).bind _ | _ => none) = none
    match as, h with
    | [], _ => rfl
    | [_], _ => rfl
    | [_, _], _ => rfl
    | [_, _, _], h => exact absurd rfl h
    | _ :: _ :: _ :: _ :: _, _ => rfl
  · show (match as with | [a, b] => (at1 cs a).bind _ | _ => none) = none
    match as, h with
    | [], _ => rfl
    | [_], _ => rfl
    | [_, _], h => exact absurd rfl h
    | _ :: _ :: _ :: _, _ => rfl
theorem claim_miss {F L cs : List Clm} {z : Str} {as : List V} (hz : z ∉ wds7) : claimM F L cs z as = none := by
  unfold wds7 at hz
  simp only [List.mem_cons, List.not_mem_nil, or_false, not_or] at hz
  obtain ⟨h1, h2, h3, h4, h5, h6, h7⟩ := hz
  unfold claimM
  rw [if_neg h1, if_neg h2, if_neg h3, if_neg h4, if_neg h5, if_neg h6, if_neg h7]
theorem runM_app (F L : List Clm) : ∀ (r1 r2 : List Row) (cs : List Clm), runM F L (r1 ++ r2) cs = (runM F L r1 cs).bind fun ds => runM F L r2 ds
  | [], _, _ => rfl
  | r :: r1, r2, cs => by
    show (claimM F L cs r.1 r.2).bind (fun c => runM F L (r1 ++ r2) (cs ++ [c])) = ((claimM F L cs r.1 r.2).bind fun c => runM F L r1 (cs ++ [c])).bind _
    cases claimM F L cs r.1 r.2 with
    | none => rfl
    | some c => exact runM_app F L r1 r2 (cs ++ [c])
theorem runM_snoc {F L : List Clm} {rows : List Row} {n : Nat} {r : Row} (h : rows[n]? = some r) (cs : List Clm) : runM F L (rows.take (n + 1)) cs = (runM F L (rows.take n) cs).bind fun ds => (claimM F L ds r.1 r.2).map fun c => ds ++ [c] := by
  rw [take_snoc h, runM_app]
  congr 1
  funext ds
  show (claimM F L ds r.1 r.2).bind (fun c => some (ds ++ [c])) = _
  cases claimM F L ds r.1 r.2 <;> rfl
theorem runM_none {F L : List Clm} {rows : List Row} {n : Nat} {r : Row} {ds : List Clm} (h : rows[n]? = some r) (h1 : runM F L (rows.take n) [] = some ds) (h2 : claimM F L ds r.1 r.2 = none) : runM F L rows [] = none := by
  have e : runM F L (rows.take (n + 1)) [] = none := by rw [runM_snoc h, h1]; show (claimM F L ds r.1 r.2).map _ = none; rw [h2]; rfl
  rw [← List.take_append_drop (n + 1) rows, runM_app, e]
  rfl
section
variable {σ : L2.St} {H : Hp} {Q : VK} {K : PySem.W.Frag} {w : World} {mg : Str → Option Value}
def kPG (K : PySem.W.Frag) (w : World) (tb : TE) (σ : L2.St) (Q : VK) : VK := fun x H1 => ∃ p, x = .ref p ∧ (∃ es n, K.lookup p = some ⟨.type "dict", none, .dict es n, #[]⟩) ∧ (p == sysModules) = false ∧
  tb σ H1 fun y H2 => ∃ z, y = .str z ∧ ((∃ v, KDct K w p z v ∧ Q v H2) ∨ (KMiss K w p z ∧ Q .non H2))
def kPG2 (K : PySem.W.Frag) (w : World) (p : Addr) (Q : VK) : VK := fun y H2 => ∃ z, y = .str z ∧ ((∃ v, KDct K w p z v ∧ Q v H2) ∨ (KMiss K w p z ∧ Q .non H2))
theorem w_pget {ta tb : TE} (q : ta σ H (kPG K w tb σ Q)) : tKGet K w ta tb σ H Q := q
theorem w_kpg {tb : TE} {p : Addr} (T : TP K mg w p) (q : tb σ H (kPG2 K w p Q)) : kPG K w tb σ Q (.ref p) H := ⟨p, rfl, T.lk, T.low, q⟩
theorem w_kpg2 {p : Addr} {z : Str} {v : V} (h : KDct K w p z v) (q : Q v H) : kPG2 K w p Q (.str z) H := ⟨z, rfl, .inl ⟨v, h, q⟩⟩
theorem w_kpgM {p : Addr} {z : Str} (h : KMiss K w p z) (q : Q .non H) : kPG2 K w p Q (.str z) H := ⟨z, rfl, .inr ⟨h, q⟩⟩
theorem w_ixD {p : Addr} {z : Str} {v : V} (h : KDct K w p z v) (q : Q v H) : rIxD K w (.ref p) (.str z) H Q := ⟨p, z, v, rfl, rfl, h, q⟩
theorem w_eqNI {i : Int} (q : Q (.bl false) H) : rEq .non (.int i) H Q := ⟨rfl, by rw [decide_eq_false (fun z => nomatch z)]; exact q⟩
theorem TP.get {p : Addr} {z : Str} (T : TP K mg w p) (h : z ∈ wds7) : KDct K w p z (.int ((arity z + 1 : Nat) : Int)) := by
  unfold wds7 at h
  simp only [List.mem_cons, List.not_mem_nil, or_false] at h
  rcases h with rfl | rfl | rfl | rfl | rfl | rfl | rfl
  · exact T.k1
  · exact T.k2
  · exact T.k3
  · exact T.k4
  · exact T.k5
  · exact T.k6
  · exact T.k7
theorem w_neT0 {p q : Addr} {v : V} {vs : List V} {d : PyData} {ds : List PyData} (h : H p = some (.tup (v :: vs))) (hq : H q = some (.tup [])) (hd : DpAll K H (v :: vs) (d :: ds)) (hs : SeqAt.shaped (.tuple (d :: ds)) = true) (k : Q (.bl true) H) : rNeD K (.ref p) (.ref q) H Q :=
  ⟨_, _, .tup (SqT.of h) hd, .tup (SqT.of hq) .nil, hs, by decide +kernel, by
    rw [show PyData.eqv (.tuple (d :: ds)) (.tuple []) = false by simp [PyData.eqv, PyData.eqvAll]]
    exact k⟩
theorem dp_args : ∀ {as : List V}, (∀ v ∈ as, argOk v) → DpAll K H as (as.map dV)
  | [], _ => .nil
  | v :: as, h => by
    refine .cons ?_ (dp_args fun u hu => h u (List.mem_cons_of_mem _ hu))
    rcases h v List.mem_cons_self with ⟨i, rfl⟩ | ⟨b, rfl⟩
    · exact .int i
    · exact .bl b
theorem args_lay : ∀ {as : List V}, (∀ v ∈ as, argOk v) → PyData.canLayAll0 (as.map dV) = true ∧ PyData.depthAll (as.map dV) = 0
  | [], _ => ⟨rfl, rfl⟩
  | v :: as, h => by
    obtain ⟨h1, h2⟩ := args_lay fun u hu => h u (List.mem_cons_of_mem _ hu)
    rw [List.map_cons, PyData.canLayAll0, PyData.depthAll, h1, h2]
    rcases h v List.mem_cons_self with ⟨i, rfl⟩ | ⟨b, rfl⟩ <;> exact ⟨rfl, rfl⟩
theorem row_shaped {p : Addr} {r : Row} (h : RowOk K w p r) : SeqAt.shaped (.tuple (.str r.1 :: r.2.map dV)) = true := by
  obtain ⟨h1, h2⟩ := args_lay h.ar
  unfold SeqAt.shaped
  rw [PyData.canLay0, PyData.canLayAll0, h.lay, h1, PyData.depth, PyData.depthAll, h2]
  rfl
theorem cut1 (a : V) (l : List V) : cutV (a :: l) (some 1) none = l := by
  unfold cutV
  have e : HT.sIx (a :: l).length 0 (some 1) = 1 := by
    unfold HT.sIx
    simp
  rw [e]
  show (List.take ((a :: l).length - 1) l) = l
  simp
theorem w_slT1 {p : Addr} {a : V} {l : List V} (h : H p = some (.tup (a :: l))) (k : ∀ q H1, H1 q = some (.tup l) → Nw q H H1 → Q (.ref q) H1) : rSlA K (.ref p) (some 1) none H Q := by
  refine ⟨p, _, rfl, SqT.of h, fun z => ?_, fun _ q n => ?_⟩
  · exfalso
    have e := z.1
    unfold HT.sIx at e
    simp at e
  · rw [cut1]
    exact k q _ upd_same (.mk' n)
theorem w_star {te : TE} {t : TA} {Q : List V → Hp → Prop} (q : te σ H fun x H1 => ∃ p xs, x = V.ref p ∧ (SqT K H1 p xs ∨ SqL K H1 p xs) ∧ t σ H1 fun ys H2 => Q (xs ++ ys) H2) : StX.tStar K te t σ H Q := q
end
end Sf
namespace Sf
open PySem PySem.Spec PyProof.Rows L2 TL
def Lim (F L : List Clm) (rows : List Row) : Prop := ∀ n cs, runM F L (rows.take n) [] = some cs → Bnd 8000000 cs
theorem run_len' {F L : List Clm} : ∀ {rows : List Row} {cs ds : List Clm}, runM F L rows cs = some ds → ds.length = cs.length + rows.length
  | [], cs, ds, h => by cases h; rfl
  | x :: rows, cs, ds, h => by
    obtain ⟨c, _, h⟩ := Option.bind_eq_some_iff.mp (show (claimM F L cs x.1 x.2).bind _ = _ from h)
    have := run_len' h
    rw [List.length_append, List.length_singleton] at this
    rw [this, List.length_cons]
    omega
theorem run_len {F L : List Clm} {rows : List Row} {ds : List Clm} (h : runM F L rows [] = some ds) : ds.length = rows.length := by
  have := run_len' h
  rw [List.length_nil] at this
  omega
theorem run_bnd' {F L : List Clm} : ∀ {rows : List Row} {cs ds : List Clm} {B : Nat}, Bnd B F → Bnd B L → 1 ≤ B → Bnd B cs → runM F L rows cs = some ds → Bnd (B * 2 ^ rows.length) ds
  | [], cs, ds, B, _, _, _, h, e => by
    cases e
    exact h.mono (by rw [List.length_nil, Nat.pow_zero]; omega)
  | x :: rows, cs, ds, B, hF, hL, h1, h, e => by
    obtain ⟨c, hc, e⟩ := Option.bind_eq_some_iff.mp (show (claimM F L cs x.1 x.2).bind _ = _ from e)
    have e2 : B * 2 ^ (x :: rows).length = (2 * B) * 2 ^ rows.length := by rw [List.length_cons, Nat.pow_succ, Nat.mul_comm 2 B, Nat.mul_assoc, Nat.mul_comm 2]
    rw [e2]
    refine run_bnd' (hF.mono (by omega)) (hL.mono (by omega)) (by omega) (fun d hd => ?_) e
    rcases List.mem_append.mp hd with hd | hd
    · obtain ⟨h1, h2, h3, h4⟩ := h d hd
      exact ⟨h1, h2, by omega, by omega⟩
    · rw [List.mem_singleton.mp hd]
      exact claim_bnd hF hL h h1 hc
theorem run_bnd {F L : List Clm} {rows : List Row} {ds : List Clm} {B : Nat} (hF : Bnd B F) (hL : Bnd B L) (h1 : 1 ≤ B) (h : runM F L rows [] = some ds) : Bnd (B * 2 ^ rows.length) ds := run_bnd' hF hL h1 (fun c hc => absurd hc (by simp)) h
theorem lim_of {F L : List Clm} {rows : List Row} {B : Nat} (hF : Bnd B F) (hL : Bnd B L) (h1 : 1 ≤ B) (h : B * 2 ^ rows.length ≤ 8000000) : Lim F L rows := fun n cs e => (run_bnd hF hL h1 e).mono (Nat.le_trans (Nat.mul_le_mul_left _ (Nat.pow_le_pow_right (by decide) (by rw [List.length_take]; omega))) h)
theorem run_sub {F L : List Clm} : ∀ {rows : List Row} {cs ds : List Clm}, runM F L rows cs = some ds → ∀ c ∈ cs, c ∈ ds
  | [], cs, ds, h => by
    cases h
    exact fun c hc => hc
  | x :: rows, cs, ds, h => by
    obtain ⟨c, _, h⟩ := Option.bind_eq_some_iff.mp (show (claimM F L cs x.1 x.2).bind _ = _ from h)
    exact fun d hd => run_sub h d (List.mem_append_left _ hd)
theorem run_pre {F L : List Clm} {rows : List Row} {cs ds : List Clm} {n : Nat} (h : runM F L rows [] = some cs) (h' : runM F L (rows.take n) [] = some ds) : ∀ c ∈ ds, c ∈ cs := by
  have e := runM_app F L (rows.take n) (rows.drop n) []
  rw [List.take_append_drop, h, h'] at e
  exact run_sub e.symm
section
variable {P : Program} {w : World} {K : PySem.W.Frag} {mg : Str → Option Value} {base : Heap} {C CB pT pM f1 f2 f3 f4 f5 f6 f7 : Addr}
/-! ### Book.__init__ -/
def spBI (C : Addr) : Sp := fun vs H Q _ => ∃ (p dx a b : Addr), vs = [.ref p, .ref a, .ref b] ∧ H p = some (.ins C dx []) ∧
  ∀ (m : Addr) (H' : Hp), H m = none → m ≠ p → H' p = some (.ins C dx (bkf a b m)) → H' m = some (.lst []) → (∀ c o, H c = some o → c ≠ p → H' c = some o) → Q .non H'
theorem sc_bi : FnScope ["self", "facts", "likenesses"] ["self", "facts", "likenesses"] (defScope s_Book___init__) := ⟨rfl, rfl, rfl, by decide +kernel, rfl, by decide +kernel, by decide +kernel⟩
theorem has_bi (F : MAt K C "__init__" "Book.__init__" s_Book___init__ ["self", "facts", "likenesses"]) (T : BKC K mg C) : HasM P w K mg base C 1 "__init__" ["self", "facts", "likenesses"] (spBI C) := F.has fun F => by
  refine F.ok sc_bi (fun vs H Q E h => ?_) (fun cdv A outer s H vs Q E hr h => ?_)
  · obtain ⟨p, dx, a, b, rfl, _⟩ := h
    rfl
  · obtain ⟨p, dx, a, b, rfl, hp, q⟩ := h
    refine ⟨_, (pss_cons (ps_fld (pv 0) (pv 1) rfl) (pss_cons (ps_fld (pv 0) (pv 2) rfl) (pss_one (ps_fld (pv 0) (pe_lst pa_nil) rfl)))), ?_⟩
    walk_at "go"
    refine w_kSFld hp T.cl T.nF (by decide) (fun H1 hp1 o1 => ?_)
    walk_at "go"
    refine w_kSFld hp1 T.cl T.nL (by rw [show (putF "facts" (V.ref a) [] : List (Str × V)).length = 1 from rfl]; decide) (fun H2 hp2 o2 => ?_)
    walk_at "go"
    refine w_newL (by walk_at "sz") (fun m H3 hm nm => ?_)
    walk_at "go"
    refine w_kSFld (nm.at hp2) T.cl T.nM (by rw [show (putF "likenesses" (V.ref b) (putF "facts" (V.ref a) []) : List (Str × V)).length = 2 from rfl]; decide) (fun H4 hp4 o4 => ?_)
    walk_at "go"
    have mp : m ≠ p := (nm.ne hp2).symm
    refine q m H4 ?_ mp hp4 (o4.at mp hm) (fun c o e hc => o4.at hc (nm.at (o2.at hc (o1.at hc e))))
    cases z : H m with
    | none => rfl
    | some o =>
      have := nm.nn
      rw [o2.at mp (o1.at mp z)] at this
      cases this
theorem w_book {H : Hp} {Q : VK} {a b : Addr} {E : XK} (k : ∀ (p dx m : Addr) (H' : Hp), H p = none → H m = none → m ≠ p → H' p = some (.ins C dx (bkf a b m)) → H' m = some (.lst []) → Same H H' → Q (.ref p) H') : kMake C (spBI C) [] E Q [.ref a, .ref b] H := fun x dx nx ndx hne => by
  have sm : Same H (upd (upd H dx (.own x)) x (.ins C dx [])) := (same_upd ndx).trans (same_upd (by rw [upd_ne hne.symm]; exact nx))
  exact ⟨x, dx, a, b, rfl, upd_same, fun m H' nm mx h1 h2 h3 => ⟨rfl, k x dx m H' nx (sm.free nm) mx h1 h2 fun c o e => h3 c o (sm _ _ e) (ne_of_none e nx)⟩⟩
/-! ### claims_made -/
def spCM (K : PySem.W.Frag) (w : World) (pT CB : Addr) : Sp := fun vs H Q E => ∃ (a b r : Addr) (ua ub ur : List V) (F L : List Clm) (rows : List Row), vs = [.ref a, .ref b, .ref r] ∧ H a = some (.lst ua) ∧ PrsAt H ua F ∧ H b = some (.lst ub) ∧ PrsAt H ub L ∧ H r = some (.lst ur) ∧ Paired (RwAt H) ur rows ∧
  (∀ x ∈ rows, RowOk K w pT x) ∧ Bnd 8000000 F ∧ Bnd 8000000 L ∧ Lim F L rows ∧ rows.length ≤ 100 ∧
  (∀ cs, runM F L rows [] = some cs → ∀ (m : Addr) (um : List V) (H' : Hp), H m = none → H' m = some (.lst um) → PrsAt H' um cs → Same H H' → Q (.ref m) H') ∧
  (∀ (n : Nat) (cs : List Clm) (x : Row), rows[n]? = some x → runM F L (rows.take n) [] = some cs → claimM F L cs x.1 x.2 = none → XEb CB n H E)
theorem at0 (a : V) (l : List V) : atI (a :: l) 0 = some a := at_of (j := 0) rfl rfl
theorem pr_snoc {H : Hp} {a : V} {c : Clm} (h : PrAt H a c) : ∀ {as : List V} {cs : List Clm}, PrsAt H as cs → PrsAt H (as ++ [a]) (cs ++ [c])
  | _, _, .nil => .cons h .nil
  | _, _, .cons r t => .cons r (pr_snoc h t)
theorem rw_tps {H H' : Hp} (s : Tps H H') {vs : List V} {rs : List Row} (h : Paired (RwAt H) vs rs) : Paired (RwAt H') vs rs := Paired.mapP h fun v m ⟨t, e, ht⟩ => ⟨t, e, s _ _ ht⟩
theorem pow_le {B i n : Nat} (h : i ≤ n) : B * 2 ^ i ≤ B * 2 ^ n := Nat.mul_le_mul_left _ (Nat.pow_le_pow_right (by decide) h)
theorem alt_pick {z : Str} {ta : TA} {E : XK} (T : MK K mg w pM f1 f2 f3 f4 f5 f6 f7) (h : z ∈ wds7) : ∃ fz, KDct K w pM z (.ref fz) ∧ ∀ (σ : L2.St) (H : Hp) (Q : VK), σ[5]? = some (some (.ref fz)) → (ta σ H fun vs H1 => spBy C CB z (arity z) vs H1 Q E) →
    tAlt (tCVS 5 f1 (spBy C CB "start" 0) E ta) (tAlt (tCVS 5 f2 (spBy C CB "fact" 1) E ta) (tAlt (tCVS 5 f3 (spBy C CB "turn" 1) E ta) (tAlt (tCVS 5 f4 (spBy C CB "on" 2) E ta) (tAlt (tCVS 5 f5 (spBy C CB "home" 1) E ta) (tAlt (tCVS 5 f6 (spBy C CB "like" 3) E ta) (tCVS 5 f7 (spBy C CB "part" 2) E ta)))))) σ H Q := by
  unfold wds7 at h
  simp only [List.mem_cons, List.not_mem_nil, or_false] at h
  rcases h with rfl | rfl | rfl | rfl | rfl | rfl | rfl
  · exact ⟨f1, T.k1, fun σ H Q h1 h2 => .inl ⟨h1, h2⟩⟩
  · exact ⟨f2, T.k2, fun σ H Q h1 h2 => .inr (.inl ⟨h1, h2⟩)⟩
  · exact ⟨f3, T.k3, fun σ H Q h1 h2 => .inr (.inr (.inl ⟨h1, h2⟩))⟩
  · exact ⟨f4, T.k4, fun σ H Q h1 h2 => .inr (.inr (.inr (.inl ⟨h1, h2⟩)))⟩
  · exact ⟨f5, T.k5, fun σ H Q h1 h2 => .inr (.inr (.inr (.inr (.inl ⟨h1, h2⟩))))⟩
  · exact ⟨f6, T.k6, fun σ H Q h1 h2 => .inr (.inr (.inr (.inr (.inr (.inl ⟨h1, h2⟩)))))⟩
  · exact ⟨f7, T.k7, fun σ H Q h1 h2 => .inr (.inr (.inr (.inr (.inr (.inr ⟨h1, h2⟩)))))⟩
theorem sc_cm : FnScope ["facts", "likenesses", "rows", "book", "row", "maker", "things"] ["facts", "likenesses", "rows"] (defScope s_claims_made) := ⟨rfl, rfl, rfl, by decide +kernel, rfl, by decide +kernel, by decide +kernel⟩
theorem has_cm (F : FnAt K mg "claims_made" s_claims_made ["facts", "likenesses", "rows"]) (B : Blt mg) (T_Book : BKC K mg C) (mk : PySem.W.makesIn K C = true) (kc : PySem.W.keepIn K (.ref C) = true) (T_TP : TP K mg w pT) (T_MK : MK K mg w pM f1 f2 f3 f4 f5 f6 f7) (h_BI : HasM P w K mg base C 1 "__init__" ["self", "facts", "likenesses"] (spBI C)) (h_BN : HasMX P w K mg base C 4 "need" ["self", "fits"] (spNd C CB))
    (k_YS : PySem.W.keepIn K (.ref f1) = true) (R_YS : FnR P w K mg base (L2.CX P w) 1 f1 (spBy C CB "start" 0)) (k_YF : PySem.W.keepIn K (.ref f2) = true) (R_YF : FnR P w K mg base (L2.CX P w) 6 f2 (spBy C CB "fact" 1)) (k_YT : PySem.W.keepIn K (.ref f3) = true) (R_YT : FnR P w K mg base (L2.CX P w) 7 f3 (spBy C CB "turn" 1)) (k_YO : PySem.W.keepIn K (.ref f4) = true) (R_YO : FnR P w K mg base (L2.CX P w) 7 f4 (spBy C CB "on" 2))
    (k_YH : PySem.W.keepIn K (.ref f5) = true) (R_YH : FnR P w K mg base (L2.CX P w) 7 f5 (spBy C CB "home" 1)) (k_YL : PySem.W.keepIn K (.ref f6) = true) (R_YL : FnR P w K mg base (L2.CX P w) 7 f6 (spBy C CB "like" 3)) (k_YP : PySem.W.keepIn K (.ref f7) = true) (R_YP : FnR P w K mg base (L2.CX P w) 7 f7 (spBy C CB "part" 2)) : HasX P w K mg base 8 "claims_made" ["facts", "likenesses", "rows"] (spCM K w pT CB) := by
  obtain ⟨f, fd, g, F, bb⟩ := F
  refine ⟨f, fd, g, F.kp, bb, ?_⟩
  obtain ⟨f_BI, fd_BI, m_BI, b_BI, G_BI⟩ := h_BI
  obtain ⟨f_BN, fd_BN, m_BN, b_BN, G_BN⟩ := h_BN
  have M_BI : Mk K C f_BI := ⟨mk, m_BI.at_, m_BI.fn, kc⟩
  have g_Book := T_Book.mgC
  refine F.okX sc_cm (fun vs H Q E h => ?_) (fun cdv A outer s H vs Q E hr h => ?_)
  · obtain ⟨a, b, r, ua, ub, ur, F, L, rows, rfl, _⟩ := h
    rfl
  · obtain ⟨a, b, r, ua, ub, ur, F, L, rows, rfl, ha, hF, hb, hL, hr0, hR, rok, bF, bL, lim, hrl, q1, q2⟩ := h
    refine ⟨_, (pss_cons (ps_set (i := 3) sc_cm.nd rfl (.inl rfl) (pe_make M_BI G_BI (hr.mono (by decide)) (by rfl) g_Book b_BI .nil pass0 (pa_cons (pv 0) (pa_cons (pv 1) pa_nil)))) (pss_cons (ps_for (passes_of rfl) rfl (pi_list (pv 2)) (pg_name (i := 4) sc_cm.nd rfl (.inl rfl)) (pss_cons (ps_expr (pe_meth (pv 3) T_Book.cl m_BN G_BN (hr.mono (by decide)) b_BN .nil (passes_call (takes_of rfl rfl rfl rfl) (fun _ _ _ _ h => h)) (pa_cons (pe_and (pe_cmpR (op_neD hr.units) (pv 4) (pe_tup pa_nil) (nomark _)) (pe_one (pe_cmpR op_eq (pe_kget1 (pe_glob (v := .ref pT) (by rfl) T_TP.gT rfl) (pe_ix ix_tup (pv 4) pe_int (fun _ _ => rfl)) ⟨rfl, rfl, rfl, rfl⟩) (pe_callB call_lenQ (by rfl) B.len PySem.boot_len (pa_cons (pv 4) pa_nil)) (nomark _)))) pa_nil))) (pss_cons (ps_set (i := 5) sc_cm.nd rfl (.inl rfl) (pe_ix ix_kdict (pe_glob (v := .ref pM) (by rfl) T_MK.gT rfl) (pe_ix ix_tup (pv 4) pe_int (fun _ _ => rfl)) (fun _ _ => rfl))) (pss_cons (ps_set (i := 6) sc_cm.nd rfl (.inl rfl) (pe_slice sl_tupA (pv 4) (po_some pe_int) po_none)) (pss_one (ps_expr (pe_bm PySem.F.plainAttrs_list PySem.F.slot_list_append PySem.F.type_list_append mt_append (pe_fld (pv 3) rfl) (pa_cons (pe_alt (pe_callVS R_YS (hr.mono (by decide)) k_YS (passes_call (takes_of rfl rfl rfl rfl) (fun _ _ _ _ h => h)) (i := 5) rfl (.inl rfl) (pa_cons (pv 3) (StX.pa_star (pv 6) pa_nil))) (pe_alt (pe_callVS R_YF (hr.mono (by decide)) k_YF (passes_call (takes_of rfl rfl rfl rfl) (fun _ _ _ _ h => h)) (i := 5) rfl (.inl rfl) (pa_cons (pv 3) (StX.pa_star (pv 6) pa_nil))) (pe_alt (pe_callVS R_YT (hr.mono (by decide)) k_YT (passes_call (takes_of rfl rfl rfl rfl) (fun _ _ _ _ h => h)) (i := 5) rfl (.inl rfl) (pa_cons (pv 3) (StX.pa_star (pv 6) pa_nil))) (pe_alt (pe_callVS R_YO (hr.mono (by decide)) k_YO (passes_call (takes_of rfl rfl rfl rfl) (fun _ _ _ _ h => h)) (i := 5) rfl (.inl rfl) (pa_cons (pv 3) (StX.pa_star (pv 6) pa_nil))) (pe_alt (pe_callVS R_YH (hr.mono (by decide)) k_YH (passes_call (takes_of rfl rfl rfl rfl) (fun _ _ _ _ h => h)) (i := 5) rfl (.inl rfl) (pa_cons (pv 3) (StX.pa_star (pv 6) pa_nil))) (pe_alt (pe_callVS R_YL (hr.mono (by decide)) k_YL (passes_call (takes_of rfl rfl rfl rfl) (fun _ _ _ _ h => h)) (i := 5) rfl (.inl rfl) (pa_cons (pv 3) (StX.pa_star (pv 6) pa_nil))) (pe_callVS R_YP (hr.mono (by decide)) k_YP (passes_call (takes_of rfl rfl rfl rfl) (fun _ _ _ _ h => h)) (i := 5) rfl (.inl rfl) (pa_cons (pv 3) (StX.pa_star (pv 6) pa_nil))))))))) pa_nil)))))))) (pss_one (ps_ret (pe_fld (pv 3) rfl))))), ?_⟩
    have eur : ur.length = rows.length := Paired.length hR
    walk_at "go"
    refine w_book (fun p dx m H1 np nm mp hp hm s1 => ?_)
    walk_at "go"
    have hr1 := s1.at hr0
    walk_at "go"
    refine w_list (xs := ur) (fun i σ H2 => ∃ (y4 y5 y6 : Option V) (cs : List Clm) (um : List V), σ = [some (.ref a), some (.ref b), some (.ref r), some (.ref p), y4, y5, y6] ∧ Same H H2 ∧ H2 p = some (.ins C dx (bkf a b m)) ∧ H2 m = some (.lst um) ∧ PrsAt H2 um cs ∧ runM F L (rows.take i) [] = some cs ∧ Bnd 8000000 cs ∧ cs.length = i)
      ⟨none, none, none, [], [], rfl, s1, hp, hm, .nil, rfl, fun c hc => absurd hc (by simp), rfl⟩ (fun i σ H2 _ ⟨_, _, _, _, _, _, s2, _⟩ => s2.at hr0) ?_ ?_
    · rintro i v σ H2 hv ⟨y4, y5, y6, cs, um, rfl, s2, hp2, hm2, hc2, run2, bc2, hcl⟩
      obtain ⟨x, hx, t, rfl, ht⟩ := paired_get (rw_tps (.of s2) hR) hv
      have rx := rok x (List.mem_of_getElem? hx)
      have hil : i < rows.length := (List.getElem?_eq_some_iff.mp hx).1
      have eum : um.length = cs.length := Paired.length hc2
      have hBk : Bk C H2 p F L cs := ⟨dx, a, b, m, ua, ub, um, hp2, s2.at ha, hF.tps (.of s2), s2.at hb, hL.tps (.of s2), hm2, hc2⟩
      have bad : claimM F L cs x.1 x.2 = none → XEb CB i H2 E := fun e => (q2 i cs x hx run2 e).same s2
      walk_at "go"
      refine w_kMeth hp2 (bk_no _ _ _ (by decide +kernel) (by decide +kernel) (by decide +kernel)) ?_
      walk_at "go"
      refine w_newT (by walk_at "sz") (fun e0 H3 he0 ne0 => ?_)
      have ht3 := ne0.at ht
      refine w_neT0 ht3 he0 (.cons (.str _) (dp_args rx.ar)) (row_shaped rx) ?_
      walk_at "go"
      refine w_pget ?_
      walk_at "go"
      refine w_kpg T_TP ?_
      walk_at "go"
      refine w_ixT ht3 (at0 _ _) ?_
      rcases rx.wd with hz | ⟨hz, hmiss⟩
      · refine w_kpg2 (T_TP.get hz) ?_
        walk_at "go"
        refine ⟨p, dx, a, b, m, um, _, rfl, ne0.at hp2, ne0.at hm2, by omega, fun e => ?_, fun e => ?_⟩
        · have har : x.2.length = arity x.1 := by
            have := of_decide_eq_true e
            rw [List.length_cons] at this
            omega
          obtain ⟨fz, hfz, pick⟩ := alt_pick (C := C) (CB := CB) (E := E) (ta := tCons (tVar 3) (StX.tStar K (tVar 6) tNil)) T_MK hz
          walk_at "go"
          refine w_ixT ht3 (at0 _ _) ?_
          refine w_ixD hfz ?_
          walk_at "go"
          refine w_slT1 ht3 (fun q6 H4 hq6 nq6 => ?_)
          walk_at "go"
          have s4 : Same H2 H4 := ne0.same.nw nq6
          refine w_kFld (s4.at hp2) T_Book.cl T_Book.nM (bk_made _ _ _) ?_
          have hm4 := s4.at hm2
          walk_at "go"
          refine pick _ _ _ rfl ?_
          walk_at "go"
          refine w_star ?_
          walk_at "go"
          refine ⟨q6, x.2, rfl, .inl (SqT.of hq6), ?_⟩
          walk_at "go"
          refine ⟨p, F, L, cs, x.2, 8000000, by rw [List.append_nil], har, fun v hv => (rx.ar v hv).flat, hBk.same s4, bF, bL, bc2, Nat.le_refl _, by omega, fun c hcl' t5 H5 nt5 ht5 s5 => ?_, fun hno => ?_⟩
          · have hm5 := s5.at hm4
            walk_at "go"
            refine w_append hm5 (lineLt_of (by omega)) (fun H6 hm6 o6 => ?_)
            walk_at "go"
            have t5m : t5 ≠ m := fun z => by rw [z, hm4] at nt5; cases nt5
            have pm : p ≠ m := mp.symm
            have s5' : Same H2 H5 := s4.trans s5
            refine ⟨_, _, _, cs ++ [c], um ++ [.ref t5], rfl, (s2.trans s5').off o6 nm, o6.at pm (s5'.at hp2), hm6, ?_, ?_, ?_, by rw [List.length_append, hcl]; rfl⟩
            · exact pr_snoc ⟨t5, rfl, o6.at t5m ht5⟩ ((hc2.tps (.of s5')).tps (Tps.refl.off hm5 o6))
            · rw [runM_snoc hx, run2]
              show (claimM F L cs x.1 x.2).map _ = _
              rw [hcl']
              rfl
            · refine lim (i + 1) _ ?_
              rw [runM_snoc hx, run2]
              show (claimM F L cs x.1 x.2).map _ = _
              rw [hcl']
              rfl
          · rw [hcl]
            exact (bad hno).same s4
        · rw [eum, hcl]
          refine (bad (claim_arity hz fun z => ?_)).same ne0.same
          have := of_decide_eq_false e
          rw [List.length_cons] at this
          omega
      · refine w_kpgM hmiss ?_
        walk_at "go"
        refine w_eqNI ?_
        walk_at "go"
        refine ⟨p, dx, a, b, m, um, false, rfl, ne0.at hp2, ne0.at hm2, by omega, (fun z => nomatch z), fun _ => ?_⟩
        rw [eum, hcl]
        exact (bad (claim_miss hz)).same ne0.same
    · rintro σ H2 ⟨y4, y5, y6, cs, um, rfl, s2, hp2, hm2, hc2, run2, bc2, hcl⟩
      rw [eur, List.take_length] at run2
      walk_at "go"
      refine w_kFld hp2 T_Book.cl T_Book.nM (bk_made _ _ _) ?_
      exact q1 cs run2 m um H2 nm hm2 hc2 s2
end
/-! ### shows -/
theorem cutV_m1 (us : List V) : cutV us (some (-1)) none = us.drop (us.length - 1) := by
  unfold cutV
  have e : HT.sIx us.length us.length none = us.length := rfl
  have e2 : HT.sIx us.length 0 (some (-1)) = us.length - 1 := by
    show (if (-1 : Int) < 0 then ((-1 : Int) + (us.length : Int)).toNat else min (-1 : Int).toNat us.length) = _
    rw [if_pos (by decide)]
    omega
  rw [e, e2]
  exact List.take_of_length_le (by rw [List.length_drop]; omega)
def dC (c : Clm) : PyData := .tuple [.str c.1, .str c.2]
theorem dp_clm {K : PySem.W.Frag} {H : Hp} {v : V} {c : Clm} : PrAt H v c → Dp K H v (dC c)
  | ⟨_, e, h⟩ => by
    rw [e]
    exact .tup (SqT.of h) (.cons (.str _) (.cons (.str _) .nil))
theorem dp_clms {K : PySem.W.Frag} {H : Hp} {us : List V} {cs : List Clm} (h : PrsAt H us cs) : DpAll K H us (cs.map dC) := by
  induction h with
  | nil => exact .nil
  | cons r _ ih => exact .cons (dp_clm r) ih
theorem clm_lay {c : Clm} (h1 : Wd c.1) (h2 : Wd c.2) : PyData.canLay0 (dC c) = true := by
  unfold dC
  have a1 := strOk_wd h1
  have a2 := strOk_wd h2
  rw [PyData.canLay0, PyData.canLayAll0, a1, PyData.canLayAll0, a2, PyData.canLayAll0]
  rfl
theorem clm_dep (c : Clm) : (dC c).depth ≤ 60 := by
  unfold dC
  simp only [PyData.depth, PyData.depthAll]
  decide
theorem clms_shaped {cs : List Clm} (h : ∀ c ∈ cs, Wd c.1 ∧ Wd c.2) : SeqAt.shaped (.list (cs.map dC)) = true := shaped_list (fun c hc => clm_lay (h c hc).1 (h c hc).2) fun c _ => clm_dep c
theorem eqv_clm (a b : Clm) : PyData.eqv (dC a) (dC b) = decide (a = b) := by
  have hb : ∀ x y : Str, (x == y) = decide (x = y) := fun x y => by
    by_cases h : x = y
    · subst h; simp
    · rw [decide_eq_false h]
      exact beq_eq_false_iff_ne.mpr h
  unfold dC
  simp only [PyData.eqv, PyData.eqvAll, Bool.and_true, hb]
  by_cases h1 : a.1 = b.1
  · by_cases h2 : a.2 = b.2
    · rw [decide_eq_true h1, decide_eq_true h2, decide_eq_true (Prod.ext h1 h2)]
      rfl
    · rw [decide_eq_false h2, Bool.and_false, decide_eq_false fun z => h2 (congrArg Prod.snd z)]
  · rw [decide_eq_false h1, Bool.false_and, decide_eq_false fun z => h1 (congrArg Prod.fst z)]
theorem paired_dropC {H : Hp} : ∀ {us : List V} {cs : List Clm}, PrsAt H us cs → ∀ i, PrsAt H (us.drop i) (cs.drop i)
  | _, _, .nil, i => by
    rw [List.drop_nil, List.drop_nil]
    exact .nil
  | _, _, .cons r t, 0 => .cons r t
  | _, _, .cons r t, i + 1 => paired_dropC t i
theorem last_eqv (cs : List Clm) (x y : Str) : PyData.eqv (.list ((cs.drop (cs.length - 1)).map dC)) (.list [dC (x, y)]) = decide (cs.getLast? = some (x, y)) := by
  rcases List.eq_nil_or_concat cs with rfl | ⟨r, c, rfl⟩
  · simp [PyData.eqv, PyData.eqvAll]
  · rw [List.concat_eq_append, show (r ++ [c]).length - 1 = r.length by simp, List.drop_left, List.getLast?_concat]
    show PyData.eqv (.list [dC c]) (.list [dC (x, y)]) = _
    rw [show PyData.eqv (.list [dC c]) (.list [dC (x, y)]) = (PyData.eqv (dC c) (dC (x, y))) by simp [PyData.eqv, PyData.eqvAll], eqv_clm]
    by_cases h : c = (x, y)
    · rw [decide_eq_true h, decide_eq_true (by rw [h])]
    · rw [decide_eq_false h, decide_eq_false fun z => h (Option.some.inj z)]
section
variable {P : Program} {w : World} {K : PySem.W.Frag} {mg : Str → Option Value} {base : Heap} {CB fB pT : Addr}
def showsB (F L : List Clm) (rows : List Row) (x y : Str) : Bool := match runM F L rows [] with
  | some cs => decide (cs.getLast? = some (x, y))
  | none => false
theorem bnd_ex : ∀ {cs : List Clm}, (∀ c ∈ cs, Wd c.1 ∧ Wd c.2) → ∃ M, Bnd M cs
  | [], _ => ⟨0, fun c hc => absurd hc (by simp)⟩
  | a :: cs, h => by
    obtain ⟨M, hM⟩ := bnd_ex fun c hc => h c (List.mem_cons_of_mem _ hc)
    refine ⟨M + a.1.length + a.2.length, fun c hc => ?_⟩
    rcases List.mem_cons.mp hc with rfl | hc
    · have := h c List.mem_cons_self
      exact ⟨this.1, this.2, by omega, by omega⟩
    · obtain ⟨h1, h2, h3, h4⟩ := hM c hc
      exact ⟨h1, h2, by omega, by omega⟩
theorem run_wd {F L : List Clm} {B : Nat} (bF : Bnd B F) (bL : Bnd B L) (hB : 1 ≤ B) : ∀ {rows : List Row} {cs ds : List Clm}, (∀ c ∈ cs, Wd c.1 ∧ Wd c.2) → runM F L rows cs = some ds → ∀ c ∈ ds, Wd c.1 ∧ Wd c.2
  | [], cs, ds, h, e => by
    cases e
    exact h
  | r :: rows, cs, ds, h, e => by
    obtain ⟨c, hc, e⟩ := Option.bind_eq_some_iff.mp e
    refine run_wd bF bL hB (fun d hd => ?_) e
    rcases List.mem_append.mp hd with hd | hd
    · exact h d hd
    · rw [List.mem_singleton.mp hd]
      obtain ⟨M, hM⟩ := bnd_ex h
      have := claim_bnd (M := B + M) (bF.mono (by omega)) (bL.mono (by omega)) (hM.mono (by omega)) (by omega) hc
      exact ⟨this.1, this.2.1⟩
def spShw (K : PySem.W.Frag) (w : World) (pT : Addr) : Sp := fun vs H Q _ => ∃ (a b r : Addr) (ua ub ur : List V) (F L : List Clm) (rows : List Row) (x y : Str), vs = [.ref a, .ref b, .ref r, .str x, .str y] ∧ H a = some (.lst ua) ∧ PrsAt H ua F ∧ H b = some (.lst ub) ∧ PrsAt H ub L ∧ H r = some (.lst ur) ∧ Paired (RwAt H) ur rows ∧
  (∀ x ∈ rows, RowOk K w pT x) ∧ Bnd 60 F ∧ Bnd 60 L ∧ Lim F L rows ∧ rows.length ≤ 100 ∧ Wd x ∧ Wd y ∧ x.length ≤ 60 ∧ y.length ≤ 60 ∧ ∀ H', Same H H' → Q (.bl (showsB F L rows x y)) H'
end
end Sf
namespace Sf
open PySem PySem.Spec PyProof.Rows L2 TL
section
variable {P : Program} {w : World} {K : PySem.W.Frag} {mg : Str → Option Value} {base : Heap} {pT : Addr}
/-! ### _law_facts, _law_likenesses -/
def spLfa : Sp := fun vs H Q _ => ∃ (b l : Addr) (u sz n : Int), vs = [.ref b, .int u, .int sz, .int n] ∧ Bag H b l ∧ 0 ≤ u ∧ u ≤ 100 ∧ 0 ≤ sz ∧ sz ≤ 60 ∧ 0 < n ∧ n ≤ 8 ∧
  ∀ (f : Addr) (us : List V) (F : List Clm) (H' : Hp), H' f = some (.lst us) → PrsAt H' us F → Bnd sz.toNat F → F.length ≤ u.toNat → H f = none → f ≠ b → f ≠ l → Bag H' b l → Fx b H H' → Q (.ref f) H'
theorem sc_lfa : FnScope ["_law_bag", "_law_upto", "_law_size", "_law_many", "_law_found", "_law_turn", "_law_one"] ["_law_bag", "_law_upto", "_law_size", "_law_many"] (defScope s__law_facts) := ⟨rfl, rfl, rfl, by decide +kernel, rfl, by decide +kernel, by decide +kernel⟩
theorem has_lfa (F : FnAt K mg "_law_facts" s__law_facts ["_law_bag", "_law_upto", "_law_size", "_law_many"]) (B : Blt mg) (h_Pu : HasPull P w K mg base) (h_Wo : HasWord P w K mg base) : Has P w K mg base 4 "_law_facts" ["_law_bag", "_law_upto", "_law_size", "_law_many"] spLfa := F.has fun F => by
  obtain ⟨f_Pu, fd_Pu, g_Pu, k_Pu, b_Pu, G_Pu⟩ := h_Pu
  obtain ⟨f_Wo, fd_Wo, g_Wo, k_Wo, b_Wo, G_Wo⟩ := h_Wo
  refine F.ok sc_lfa (fun vs H Q E h => ?_) (fun cdv A outer s H vs Q E hr h => ?_)
  · obtain ⟨b, l, u, sz, n, rfl, _⟩ := h
    rfl
  · obtain ⟨b, l, u, sz, n, rfl, hB, u0, u1, s0, s1, n0, n1, q⟩ := h
    refine ⟨_, (pss_cons (ps_set (i := 4) sc_lfa.nd rfl (.inl rfl) (pe_lst pa_nil)) (pss_cons (ps_for PassesOwn.never rfl (pi_range1 rfl B.range (pa_cons (pe_call G_Pu (hr.mono (by decide)) (by rfl) g_Pu k_Pu b_Pu .nil pass0 (pa_cons (pv 0) (pa_cons (pe_op op_add (pv 1) pe_int) pa_nil))) pa_nil)) (pg_name (i := 5) sc_lfa.nd rfl (.inl rfl)) (pss_cons (ps_set (i := 6) sc_lfa.nd rfl (.inl rfl) (pe_call G_Wo (hr.mono (by decide)) (by rfl) g_Wo k_Wo b_Wo .nil pass0 (pa_cons (pv 0) (pa_cons (pv 2) (pa_cons (pv 3) pa_nil))))) (pss_one (ps_expr (pe_bm PySem.F.plainAttrs_list PySem.F.slot_list_append PySem.F.type_list_append mt_append (pv 4) (pa_cons (pe_tup (pa_cons (pv 6) (pa_cons (pe_ix ix_list (pe_lst (pa_cons (pv 6) (pa_cons (pv 6) (pa_cons (pe_call G_Wo (hr.mono (by decide)) (by rfl) g_Wo k_Wo b_Wo .nil pass0 (pa_cons (pv 0) (pa_cons (pv 2) (pa_cons (pv 3) pa_nil)))) (pa_cons pe_str pa_nil))))) (pe_call G_Pu (hr.mono (by decide)) (by rfl) g_Pu k_Pu b_Pu .nil pass0 (pa_cons (pv 0) (pa_cons pe_int pa_nil))) (fun _ _ => rfl)) pa_nil))) pa_nil)))))) (pss_one (ps_ret (pv 4))))), ?_⟩
    walk_at "go"
    refine w_newL (by walk_at "sz") (fun f H1 hf nf => ?_)
    have B1 := hB.nw nf
    have fb := hB.ne nf.nn
    have fl := hB.neL nf.nn
    walk_at "go"
    refine ⟨b, l, _, rfl, B1, by omega, by omega, fun k H2 k0 k1 B2 f2 => ?_⟩
    walk_at "go"
    refine w_kRng1 (by omega) (by omega) ?_
    refine w_range (fun i σ H3 => ∃ (y5 y6 : Option V) (us : List V) (F : List Clm), σ = [some (.ref b), some (.int u), some (.int sz), some (.int n), some (.ref f), y5, y6] ∧ H3 f = some (.lst us) ∧ PrsAt H3 us F ∧ Bnd sz.toNat F ∧ F.length = i ∧ Bag H3 b l ∧ Fx b H H3)
      ⟨none, none, [], [], rfl, f2.at fb hf, .nil, fun c hc => absurd hc (by simp), rfl, B2, (Fx.refl.nw nf).trans f2⟩ ?_ ?_
    · rintro i σ H3 hi ⟨y5, y6, us, F, rfl, hf3, hP3, bF3, hl3, B3, f3⟩
      walk_at "go"
      refine ⟨b, l, sz, n, rfl, B3, by omega, by omega, n0, n1, fun x H4 hx hxl B4 f4 => ?_⟩
      walk_at "go"
      refine ⟨b, l, sz, n, rfl, B4, by omega, by omega, n0, n1, fun y H5 hy hyl B5 f5 => ?_⟩
      walk_at "go"
      refine w_newL (by walk_at "sz") (fun l1 H6 hl1 nl1 => ?_)
      walk_at "go"
      have l1b := B5.ne nl1.nn
      refine ⟨b, l, 4, rfl, B5.nw nl1, by decide, by decide, fun d H7 d0 d1 B7 f7 => ?_⟩
      obtain ⟨z, hz0, hz, hzl⟩ : ∃ z : Str, atI [V.str x, V.str x, V.str y, V.str (Str.ofString "")] d = some (.str z) ∧ Wd z ∧ z.length ≤ sz.toNat := by
        obtain rfl | rfl | rfl | rfl : d = 0 ∨ d = 1 ∨ d = 2 ∨ d = 3 := by omega
        · exact ⟨_, at_of (j := 0) rfl rfl, hx, hxl⟩
        · exact ⟨_, at_of (j := 1) rfl rfl, hx, hxl⟩
        · exact ⟨_, at_of (j := 2) rfl rfl, hy, hyl⟩
        · exact ⟨_, at_of (j := 3) rfl rfl, wd_nil, by rw [len_empty]; omega⟩
      refine w_ixL (f7.at l1b hl1) hz0 ?_
      walk_at "go"
      refine w_newT (by walk_at "sz") (fun t H8 ht nt => ?_)
      have t7 : Tps H3 H7 := (((Tps.fx B3 f4).trans (.fx B4 f5)).trans (.of nl1.same)).trans (.fx (B5.nw nl1) f7)
      have hf7 : H7 f = some (.lst us) := f7.at fb (nl1.at (f5.at fb (f4.at fb hf3)))
      have hul : us.length = F.length := Paired.length hP3
      walk_at "go"
      refine w_append (nt.at hf7) (lineLt_of (by omega)) (fun H9 hf9 o9 => ?_)
      walk_at "go"
      have tf : t ≠ f := (nt.ne hf7).symm
      refine ⟨_, _, us ++ [.ref t], F ++ [(x, z)], rfl, hf9, pr_snoc ⟨t, rfl, o9.at tf ht⟩ ((hP3.tps (t7.trans (.of nt.same))).tps (Tps.refl.off (nt.at hf7) o9)), ?_, by rw [List.length_append, hl3]; rfl, (B7.nw nt).off fb fl o9, ?_⟩
      · intro c hc
        rcases List.mem_append.mp hc with hc | hc
        · exact bF3 c hc
        · rw [List.mem_singleton.mp hc]
          exact ⟨hx, hz, hxl, hzl⟩
      · exact (((((f3.trans f4).trans f5).nw nl1).trans f7).nw nt).off o9 nf.nn
    · rintro σ H3 ⟨y5, y6, us, F, rfl, hf3, hP3, bF3, hl3, B3, f3⟩
      walk_at "go"
      exact q f us F H3 hf3 hP3 bF3 (by omega) nf.nn fb fl B3 f3
theorem sc_lli : FnScope ["_law_bag", "_law_upto", "_law_size", "_law_many", "_law_found", "_law_turn", "_law_one"] ["_law_bag", "_law_upto", "_law_size", "_law_many"] (defScope s__law_likenesses) := ⟨rfl, rfl, rfl, by decide +kernel, rfl, by decide +kernel, by decide +kernel⟩
theorem has_lli (F : FnAt K mg "_law_likenesses" s__law_likenesses ["_law_bag", "_law_upto", "_law_size", "_law_many"]) (B : Blt mg) (h_Pu : HasPull P w K mg base) (h_Wo : HasWord P w K mg base) : Has P w K mg base 4 "_law_likenesses" ["_law_bag", "_law_upto", "_law_size", "_law_many"] spLfa := F.has fun F => by
  obtain ⟨f_Pu, fd_Pu, g_Pu, k_Pu, b_Pu, G_Pu⟩ := h_Pu
  obtain ⟨f_Wo, fd_Wo, g_Wo, k_Wo, b_Wo, G_Wo⟩ := h_Wo
  refine F.ok sc_lli (fun vs H Q E h => ?_) (fun cdv A outer s H vs Q E hr h => ?_)
  · obtain ⟨b, l, u, sz, n, rfl, _⟩ := h
    rfl
  · obtain ⟨b, l, u, sz, n, rfl, hB, u0, u1, s0, s1, n0, n1, q⟩ := h
    refine ⟨_, (pss_cons (ps_set (i := 4) sc_lli.nd rfl (.inl rfl) (pe_lst pa_nil)) (pss_cons (ps_for PassesOwn.never rfl (pi_range1 rfl B.range (pa_cons (pe_call G_Pu (hr.mono (by decide)) (by rfl) g_Pu k_Pu b_Pu .nil pass0 (pa_cons (pv 0) (pa_cons (pe_op op_add (pv 1) pe_int) pa_nil))) pa_nil)) (pg_name (i := 5) sc_lli.nd rfl (.inl rfl)) (pss_cons (ps_set (i := 6) sc_lli.nd rfl (.inl rfl) (pe_call G_Wo (hr.mono (by decide)) (by rfl) g_Wo k_Wo b_Wo .nil pass0 (pa_cons (pv 0) (pa_cons (pv 2) (pa_cons (pv 3) pa_nil))))) (pss_one (ps_expr (pe_bm PySem.F.plainAttrs_list PySem.F.slot_list_append PySem.F.type_list_append mt_append (pv 4) (pa_cons (pe_tup (pa_cons (pv 6) (pa_cons (pe_ix ix_list (pe_lst (pa_cons (pe_call G_Wo (hr.mono (by decide)) (by rfl) g_Wo k_Wo b_Wo .nil pass0 (pa_cons (pv 0) (pa_cons (pv 2) (pa_cons (pv 3) pa_nil)))) (pa_cons pe_str (pa_cons (pv 6) pa_nil)))) (pe_op op_fdiv (pe_call G_Pu (hr.mono (by decide)) (by rfl) g_Pu k_Pu b_Pu .nil pass0 (pa_cons (pv 0) (pa_cons pe_int pa_nil))) pe_int) (fun _ _ => rfl)) pa_nil))) pa_nil)))))) (pss_one (ps_ret (pv 4))))), ?_⟩
    walk_at "go"
    refine w_newL (by walk_at "sz") (fun f H1 hf nf => ?_)
    have B1 := hB.nw nf
    have fb := hB.ne nf.nn
    have fl := hB.neL nf.nn
    walk_at "go"
    refine ⟨b, l, _, rfl, B1, by omega, by omega, fun k H2 k0 k1 B2 f2 => ?_⟩
    walk_at "go"
    refine w_kRng1 (by omega) (by omega) ?_
    refine w_range (fun i σ H3 => ∃ (y5 y6 : Option V) (us : List V) (F : List Clm), σ = [some (.ref b), some (.int u), some (.int sz), some (.int n), some (.ref f), y5, y6] ∧ H3 f = some (.lst us) ∧ PrsAt H3 us F ∧ Bnd sz.toNat F ∧ F.length = i ∧ Bag H3 b l ∧ Fx b H H3)
      ⟨none, none, [], [], rfl, f2.at fb hf, .nil, fun c hc => absurd hc (by simp), rfl, B2, (Fx.refl.nw nf).trans f2⟩ ?_ ?_
    · rintro i σ H3 hi ⟨y5, y6, us, F, rfl, hf3, hP3, bF3, hl3, B3, f3⟩
      walk_at "go"
      refine ⟨b, l, sz, n, rfl, B3, by omega, by omega, n0, n1, fun x H4 hx hxl B4 f4 => ?_⟩
      walk_at "go"
      refine ⟨b, l, sz, n, rfl, B4, by omega, by omega, n0, n1, fun y H5 hy hyl B5 f5 => ?_⟩
      walk_at "go"
      refine w_newL (by walk_at "sz") (fun l1 H6 hl1 nl1 => ?_)
      walk_at "go"
      have l1b := B5.ne nl1.nn
      refine ⟨b, l, 5, rfl, B5.nw nl1, by decide, by decide, fun d H7 d0 d1 B7 f7 => ?_⟩
      walk_at "go"
      refine w_i (by unfold CDiv; omega) ?_
      obtain ⟨z, hz0, hz, hzl⟩ : ∃ z : Str, atI [V.str y, V.str (Str.ofString ""), V.str x] (d / 2) = some (.str z) ∧ Wd z ∧ z.length ≤ sz.toNat := by
        obtain h | h | h : d / 2 = 0 ∨ d / 2 = 1 ∨ d / 2 = 2 := by omega
        · rw [h]
          exact ⟨_, at_of (j := 0) rfl rfl, hy, hyl⟩
        · rw [h]
          exact ⟨_, at_of (j := 1) rfl rfl, wd_nil, by rw [len_empty]; omega⟩
        · rw [h]
          exact ⟨_, at_of (j := 2) rfl rfl, hx, hxl⟩
      refine w_ixL (f7.at l1b hl1) hz0 ?_
      walk_at "go"
      refine w_newT (by walk_at "sz") (fun t H8 ht nt => ?_)
      have t7 : Tps H3 H7 := (((Tps.fx B3 f4).trans (.fx B4 f5)).trans (.of nl1.same)).trans (.fx (B5.nw nl1) f7)
      have hf7 : H7 f = some (.lst us) := f7.at fb (nl1.at (f5.at fb (f4.at fb hf3)))
      have hul : us.length = F.length := Paired.length hP3
      walk_at "go"
      refine w_append (nt.at hf7) (lineLt_of (by omega)) (fun H9 hf9 o9 => ?_)
      walk_at "go"
      have tf : t ≠ f := (nt.ne hf7).symm
      refine ⟨_, _, us ++ [.ref t], F ++ [(x, z)], rfl, hf9, pr_snoc ⟨t, rfl, o9.at tf ht⟩ ((hP3.tps (t7.trans (.of nt.same))).tps (Tps.refl.off (nt.at hf7) o9)), ?_, by rw [List.length_append, hl3]; rfl, (B7.nw nt).off fb fl o9, ?_⟩
      · intro c hc
        rcases List.mem_append.mp hc with hc | hc
        · exact bF3 c hc
        · rw [List.mem_singleton.mp hc]
          exact ⟨hx, hz, hxl, hzl⟩
      · exact (((((f3.trans f4).trans f5).nw nl1).trans f7).nw nt).off o9 nf.nn
    · rintro σ H3 ⟨y5, y6, us, F, rfl, hf3, hP3, bF3, hl3, B3, f3⟩
      walk_at "go"
      exact q f us F H3 hf3 hP3 bF3 (by omega) nf.nn fb fl B3 f3
/-! ### _law_number -/
def spLnm : Sp := fun vs H Q _ => ∃ (v : V) (n : Nat), vs = [v, .int (n : Int)] ∧ flat3 v ∧ Q (.bl (numV v n).isSome) H
theorem sc_lnm : FnScope ["_law_thing", "_law_many"] ["_law_thing", "_law_many"] (defScope s__law_number) := ⟨rfl, rfl, rfl, by decide +kernel, rfl, by decide +kernel, by decide +kernel⟩
theorem has_lnm (F : FnAt K mg "_law_number" s__law_number ["_law_thing", "_law_many"]) (B : Blt mg) : Has P w K mg base 1 "_law_number" ["_law_thing", "_law_many"] spLnm := F.has fun F => by
  refine F.ok sc_lnm (fun vs H Q E h => ?_) (fun cdv A outer s H vs Q E hr h => ?_)
  · obtain ⟨v, n, rfl, _⟩ := h
    rfl
  · obtain ⟨v, n, rfl, hv, q⟩ := h
    refine ⟨_, (pss_one (ps_ret (pe_and (pe_callB call_isi (by rfl) B.isinstance (by decide +kernel) (pa_cons (pv 0) (pa_cons (pe_bltn (v := .ty "int") (by rfl) B.int (by decide +kernel) rfl) pa_nil))) (pe_and (pe_not (pe_callB call_isi (by rfl) B.isinstance (by decide +kernel) (pa_cons (pv 0) (pa_cons (pe_bltn (v := .ty "bool") (by rfl) B.bool (by decide +kernel) rfl) pa_nil)))) (pe_one (pe_chain op_le op_lt pe_int (pv 0) (pv 1))))))), ?_⟩
    cases v with
    | int i =>
      rw [numV_int] at q
      walk_at "go"
      refine w_chain2 (fun h0 => ?_) (fun h0 => ?_)
      · walk_at "go"
        by_cases h1 : i < (n : Int)
        · rw [if_pos ⟨h0, h1⟩] at q
          rw [decide_eq_true h1]
          exact q
        · rw [if_neg fun z => h1 z.2] at q
          rw [decide_eq_false h1]
          exact q
      · rw [if_neg fun z => h0 z.1] at q
        walk_at "go"
        exact q
    | bl b =>
      walk_at "go"
      exact q
    | str x =>
      walk_at "go"
      exact q
    | _ => exact hv.elim
end
end Sf
namespace Sf
open PySem PySem.Spec PyProof.Rows L2 TL
theorem starts_cut {x y : Str} : startsL x y = decide (cutS x none (some (y.length : Int)) = y) := by
  unfold startsL
  rw [Bool.eq_iff_iff, decide_eq_true_eq, decide_eq_true_eq]
  have e : tl (cutS x none (some (y.length : Int))) = (tl x).take (tl y).length := by
    rw [tl_cut]
    have e0 : HT.sIx x.length 0 none = 0 := rfl
    have e2 : HT.sIx x.length x.length (some (y.length : Int)) = min y.length x.length := HT.sIx_nat _ _ _
    have hx := len_tl x
    have hy := len_tl y
    rw [e0, e2, List.drop_zero, Nat.sub_zero, hx, hy, ← List.take_take, List.take_length]
  constructor
  · intro h
    exact ext_tl (e.trans h)
  · intro h
    rw [← e, h]
theorem ends_cut {x y : Str} (h : y.length ≤ x.length) : endsL x y = decide (cutS x (some ((x.length : Int) - (y.length : Int))) none = y) := by
  unfold endsL
  rw [Bool.eq_iff_iff, decide_eq_true_eq, decide_eq_true_eq, show ((x.length : Int) - (y.length : Int)) = ((x.length - y.length : Nat) : Int) by omega, cutV_drop2 (by omega)]
  have hx := len_tl x
  have hy := len_tl y
  constructor
  · rintro ⟨_, h2⟩
    refine ext_tl ?_
    unfold cutF
    rw [tl_mkS, hx, hy]
    exact h2
  · intro h2
    refine ⟨by omega, ?_⟩
    have := congrArg tl h2
    unfold cutF at this
    rw [tl_mkS, hx, hy] at this
    exact this
theorem ends_long {x y : Str} (h : x.length < y.length) : endsL x y = false := by
  unfold endsL
  refine decide_eq_false fun z => ?_
  have hx := len_tl x
  have hy := len_tl y
  omega
section
variable {P : Program} {w : World} {K : PySem.W.Frag} {mg : Str → Option Value} {base : Heap} {pT : Addr}
/-! ### _law_like_claim -/
def spLlc : Sp := fun vs H Q _ => ∃ (t b : Addr) (ub : List V) (c : Clm) (L : List Clm) (v2 v3 : V) (M : Nat), vs = [.ref t, .ref b, v2, v3] ∧ H t = some (.tup [.str c.1, .str c.2]) ∧ H b = some (.lst ub) ∧ PrsAt H ub L ∧ argOk v2 ∧ argOk v3 ∧ c.1.length ≤ M ∧ Bnd M L ∧ M ≤ 8000000 ∧
  (∀ d t' H', ((at1 L v2).bind fun l => likeM c l v3) = some d → H' t' = some (.tup [.str d.1, .str d.2]) → Same H H' → Q (.ref t') H') ∧ (((at1 L v2).bind fun l => likeM c l v3) = none → ∀ H', Same H H' → Q .non H')
theorem sc_llc : FnScope ["_law_one", "_law_likenesses_here", "_law_number_here", "_law_forth", "_law_left", "_law_right"] ["_law_one", "_law_likenesses_here", "_law_number_here", "_law_forth"] (defScope s__law_like_claim) := ⟨rfl, rfl, rfl, by decide +kernel, rfl, by decide +kernel, by decide +kernel⟩
theorem has_llc (F : FnAt K mg "_law_like_claim" s__law_like_claim ["_law_one", "_law_likenesses_here", "_law_number_here", "_law_forth"]) (B : Blt mg) (h_Lnm : Has P w K mg base 1 "_law_number" ["_law_thing", "_law_many"] spLnm) : Has P w K mg base 2 "_law_like_claim" ["_law_one", "_law_likenesses_here", "_law_number_here", "_law_forth"] spLlc := F.has fun F => by
  obtain ⟨f_Lnm, fd_Lnm, g_Lnm, k_Lnm, b_Lnm, G_Lnm⟩ := h_Lnm
  refine F.ok sc_llc (fun vs H Q E h => ?_) (fun cdv A outer s H vs Q E hr h => ?_)
  · obtain ⟨t, b, ub, c, L, v2, v3, M, rfl, _⟩ := h
    rfl
  · obtain ⟨t, b, ub, c, L, v2, v3, M, rfl, ht, hb, hL, a2, a3, hcM, bL, hM, q1, q2⟩ := h
    refine ⟨_, (pss_cons (ps_if (PW.pt (pw_or (pt_not (pt_val (pe_call G_Lnm (hr.mono (by decide)) (by rfl) g_Lnm k_Lnm b_Lnm .nil pass0 (pa_cons (pv 2) (pa_cons (pe_callB call_lenQ (by rfl) B.len PySem.boot_len (pa_cons (pv 1) pa_nil)) pa_nil))))) (pw_or1 (pt_not (pt_val (pe_callB call_isi (by rfl) B.isinstance (by decide +kernel) (pa_cons (pv 3) (pa_cons (pe_bltn (v := .ty "bool") (by rfl) B.bool (by decide +kernel) rfl) pa_nil)))))))) (pss_one (ps_ret pe_non)) pss_nil) (pss_cons (ps_asg (pe_ix ix_list (pv 1) (pv 2) (fun _ _ => rfl)) (pg_tup rfl (pgs_cons (pg_name (i := 4) sc_llc.nd rfl (.inl rfl)) (pgs_cons (pg_name (i := 5) sc_llc.nd rfl (.inl rfl)) pgs_nil)))) (pss_cons (ps_if (pt_not (pt_truth (pv 3) (by intro _; rfl))) (pss_one (ps_par (i := 4) (j := 5) (by rfl) sc_llc.nd rfl rfl (by decide) rfl rfl (pa_cons (pv 5) (pa_cons (pv 4) pa_nil)) (by rfl))) pss_nil) (pss_cons (ps_if (PW.pt (pw_or (pt_cmpR op_gt (pe_callB call_lenS (by rfl) B.len PySem.boot_len (pa_cons (pv 4) pa_nil)) (pe_callB call_lenS (by rfl) B.len PySem.boot_len (pa_cons (pe_ix ix_tup (pv 0) pe_int (fun _ _ => rfl)) pa_nil)) (nomark _)) (pw_or1 (pt_cmpR op_ne (pe_slice sl_str (pe_ix ix_tup (pv 0) pe_int (fun _ _ => rfl)) (po_some (pe_op op_sub (pe_callB call_lenS (by rfl) B.len PySem.boot_len (pa_cons (pe_ix ix_tup (pv 0) pe_int (fun _ _ => rfl)) pa_nil)) (pe_callB call_lenS (by rfl) B.len PySem.boot_len (pa_cons (pv 4) pa_nil)))) po_none) (pv 4) (nomark _))))) (pss_one (ps_ret pe_non)) pss_nil) (pss_one (ps_ret (pe_tup (pa_cons (pe_op op_addS (pe_slice sl_str (pe_ix ix_tup (pv 0) pe_int (fun _ _ => rfl)) po_none (po_some (pe_op op_sub (pe_callB call_lenS (by rfl) B.len PySem.boot_len (pa_cons (pe_ix ix_tup (pv 0) pe_int (fun _ _ => rfl)) pa_nil)) (pe_callB call_lenS (by rfl) B.len PySem.boot_len (pa_cons (pv 4) pa_nil))))) (pv 5)) (pa_cons (pe_ix ix_tup (pv 0) pe_int (fun _ _ => rfl)) pa_nil))))))))), ?_⟩
    have eL : ub.length = L.length := Paired.length hL
    walk_at "go"
    refine ⟨v2, ub.length, rfl, a2.flat, ?_⟩
    cases hk : numV v2 ub.length with
    | none =>
      walk_at "go"
      refine q2 ?_ H (.refl _)
      unfold at1
      rw [← eL, hk]
      rfl
    | some k =>
      obtain ⟨rfl, hlt⟩ := numV_some hk
      have hLk : L[k]? = some (L[k]'(by omega)) := List.getElem?_eq_getElem (by omega)
      obtain ⟨l, hl⟩ : ∃ l, L[k]? = some l := ⟨_, hLk⟩
      have hat : at1 L (.int (k : Int)) = some l := by
        unfold at1
        rw [← eL, hk]
        exact hl
      rw [hat] at q1 q2
      obtain ⟨l1, l2, l3, l4⟩ := bL l (List.mem_of_getElem? hl)
      rcases a3 with ⟨i, rfl⟩ | ⟨tv, rfl⟩
      · walk_at "go"
        refine w_orF ?_
        walk_at "go"
        exact q2 rfl H (.refl _)
      · obtain ⟨u, hu⟩ : ∃ u, ub[k]? = some u := ⟨_, List.getElem?_eq_getElem hlt⟩
        obtain ⟨l', hl', t2, rfl, ht2⟩ := paired_get hL hu
        rw [hl] at hl'
        cases hl'
        walk_at "go"
        refine w_orF ?_
        walk_at "go"
        refine w_ixL hb (at_of (j := k) rfl hu) ?_
        walk_at "go"
        have fin : ∀ (o nw' : Str), o = oldS l tv → nw' = newS l tv → o.length ≤ M → nw'.length ≤ M → True := fun _ _ _ _ _ _ => trivial
        cases tv with
        | true =>
          walk_at "go"
          refine ⟨true, rfl, ?_⟩
          walk_at "go"
          refine w_lenS (lnM (by omega)) ?_
          walk_at "go"
          refine w_lenS (lnM (by omega)) ?_
          walk_at "go"
          refine w_or2 (fun hgt => ?_) (fun hng => ?_)
          · walk_at "go"
            refine q2 ?_ H (.refl _)
            show (if endsL c.1 l.1 = true then _ else none) = _
            rw [ends_long (by omega), if_neg (fun z => nomatch z)]
          · walk_at "go"
            refine w_lenS (lnM (by omega)) ?_
            walk_at "go"
            refine w_lenS (lnM (by omega)) ?_
            walk_at "go"
            refine w_slS (lnM (by omega)) ?_
            walk_at "go"
            have hE := ends_cut (x := c.1) (y := l.1) (by omega)
            refine w_ifN2 (fun hne => ?_) (fun he => ?_)
            · walk_at "go"
              refine q2 ?_ H (.refl _)
              show (if endsL c.1 l.1 = true then _ else none) = _
              rw [hE, decide_eq_false hne, if_neg (fun z => nomatch z)]
            · walk_at "go"
              refine w_lenS (lnM (by omega)) ?_
              walk_at "go"
              refine w_lenS (lnM (by omega)) ?_
              walk_at "go"
              refine w_slS (lnM (by omega)) ?_
              rw [show ((c.1.length : Int) - (l.1.length : Int)) = ((c.1.length - l.1.length : Nat) : Int) by omega, cutV_take2 (by omega)]
              have := cutB_len c.1 (c.1.length - l.1.length)
              walk_at "go"
              refine w_addS (lnM (by omega)) ?_
              walk_at "go"
              refine w_newT (by walk_at "sz") (fun t3 H1 ht3 nt3 => ?_)
              refine q1 (cutB c.1 (c.1.length - l.1.length) ++ l.2, c.2) t3 H1 ?_ ht3 nt3.same
              show (if endsL c.1 l.1 = true then _ else none) = _
              rw [hE, decide_eq_true he, if_pos rfl]
              rfl
        | false =>
          walk_at "go"
          refine ⟨false, rfl, ?_⟩
          walk_at "go"
          refine w_lenS (lnM (by omega)) ?_
          walk_at "go"
          refine w_lenS (lnM (by omega)) ?_
          walk_at "go"
          refine w_or2 (fun hgt => ?_) (fun hng => ?_)
          · walk_at "go"
            refine q2 ?_ H (.refl _)
            show (if endsL c.1 l.2 = true then _ else none) = _
            rw [ends_long (by omega), if_neg (fun z => nomatch z)]
          · walk_at "go"
            refine w_lenS (lnM (by omega)) ?_
            walk_at "go"
            refine w_lenS (lnM (by omega)) ?_
            walk_at "go"
            refine w_slS (lnM (by omega)) ?_
            walk_at "go"
            have hE := ends_cut (x := c.1) (y := l.2) (by omega)
            refine w_ifN2 (fun hne => ?_) (fun he => ?_)
            · walk_at "go"
              refine q2 ?_ H (.refl _)
              show (if endsL c.1 l.2 = true then _ else none) = _
              rw [hE, decide_eq_false hne, if_neg (fun z => nomatch z)]
            · walk_at "go"
              refine w_lenS (lnM (by omega)) ?_
              walk_at "go"
              refine w_lenS (lnM (by omega)) ?_
              walk_at "go"
              refine w_slS (lnM (by omega)) ?_
              rw [show ((c.1.length : Int) - (l.2.length : Int)) = ((c.1.length - l.2.length : Nat) : Int) by omega, cutV_take2 (by omega)]
              have := cutB_len c.1 (c.1.length - l.2.length)
              walk_at "go"
              refine w_addS (lnM (by omega)) ?_
              walk_at "go"
              refine w_newT (by walk_at "sz") (fun t3 H1 ht3 nt3 => ?_)
              refine q1 (cutB c.1 (c.1.length - l.2.length) ++ l.1, c.2) t3 H1 ?_ ht3 nt3.same
              show (if endsL c.1 l.2 = true then _ else none) = _
              rw [hE, decide_eq_true he, if_pos rfl]
              rfl
end
end Sf
namespace Sf
open PySem PySem.Spec PyProof.Rows L2 TL
/-! ### the display of seven words -/
def kvs7 : List (Key × V) := [(Sum.inr (Str.ofString "start"), .int 1), (Sum.inr (Str.ofString "fact"), .int 2), (Sum.inr (Str.ofString "turn"), .int 2), (Sum.inr (Str.ofString "on"), .int 3), (Sum.inr (Str.ofString "home"), .int 2), (Sum.inr (Str.ofString "like"), .int 4), (Sum.inr (Str.ofString "part"), .int 3)]
theorem w_disp7 {σ : L2.St} {H : Hp} {Q : VK} (k : ∀ p H1, H1 p = some (.dK (mergeK [] kvs7)) → Nw p H H1 → Q (.ref p) H1) : tDisp
    [(tC (V.str (Str.ofString "start")), tC (V.int 1)), (tC (V.str (Str.ofString "fact")), tC (V.int 2)),
      (tC (V.str (Str.ofString "turn")), tC (V.int 2)), (tC (V.str (Str.ofString "on")), tC (V.int 3)),
      (tC (V.str (Str.ofString "home")), tC (V.int 2)), (tC (V.str (Str.ofString "like")), tC (V.int 4)),
      (tC (V.str (Str.ofString "part")), tC (V.int 3))] σ H Q := fun p hp => by
  refine ⟨upd_same, kvs7, rfl, by decide, ?_⟩
  exact k p _ upd_same ⟨hp, fun a n => (upd_ne n).trans (upd_ne n)⟩
theorem longs_in {z : Str} (h : z ∈ wds7) : valV (mergeK [] kvs7) (Sum.inr z) = some (.int ((arity z + 1 : Nat) : Int)) := by
  unfold wds7 at h
  simp only [List.mem_cons, List.not_mem_nil, or_false] at h
  rcases h with rfl | rfl | rfl | rfl | rfl | rfl | rfl <;> rfl
theorem longs_out {z : Str} (h : z ∉ wds7) : valV (mergeK [] kvs7) (Sum.inr z) = none := by
  unfold wds7 at h
  simp only [List.mem_cons, List.not_mem_nil, or_false, not_or] at h
  obtain ⟨h1, h2, h3, h4, h5, h6, h7⟩ := h
  have ne : ∀ {y : Str}, ¬ z = y → ¬ (Sum.inr y : Key) = Sum.inr z := fun n e => n (Sum.inr.inj e).symm
  have e : mergeK [] kvs7 = kvs7 := rfl
  rw [e]
  unfold kvs7
  rw [valV_neg (ne h1), valV_neg (ne h2), valV_neg (ne h3), valV_neg (ne h4), valV_neg (ne h5), valV_neg (ne h6), valV_neg (ne h7), valV_nil]
section
variable {P : Program} {w : World} {K : PySem.W.Frag} {mg : Str → Option Value} {base : Heap} {pT : Addr}
/-! ### _law_claim -/
def spLcl : Sp := fun vs H Q _ => ∃ (t a b f : Addr) (ua ub uf : List V) (F L cs : List Clm) (r : Row) (M : Nat), vs = [.ref t, .ref a, .ref b, .ref f] ∧ H t = some (.tup (.str r.1 :: r.2)) ∧ (∀ v ∈ r.2, argOk v) ∧ r.2.length ≤ 1000 ∧ H a = some (.lst ua) ∧ PrsAt H ua F ∧ H b = some (.lst ub) ∧ PrsAt H ub L ∧ H f = some (.lst uf) ∧ PrsAt H uf cs ∧ Bnd M F ∧ Bnd M L ∧ Bnd M cs ∧ M ≤ 8000000 ∧
  (∀ d t' H', claimM F L cs r.1 r.2 = some d → H' t' = some (.tup [.str d.1, .str d.2]) → Same H H' → Q (.ref t') H') ∧ (claimM F L cs r.1 r.2 = none → ∀ H', Same H H' → Q .non H')
theorem wd_nx {x : Str} (h : Wd x) : ¬ x = Str.ofString "x" := fun e => by
  subst e
  exact absurd (h 120 (by decide)) (by decide)
/-- what `_law_number` says of a row of claims -/
theorem num_at {H : Hp} {uf : List V} {cs : List Clm} {v : V} (hC : PrsAt H uf cs) : (numV v uf.length = none ∧ at1 cs v = none) ∨ ∃ (k : Nat) (c : Clm) (t2 : Addr), v = .int (k : Int) ∧ numV v uf.length = some k ∧ at1 cs v = some c ∧ c ∈ cs ∧ atI uf (k : Int) = some (.ref t2) ∧ H t2 = some (.tup [.str c.1, .str c.2]) := by
  have eL : uf.length = cs.length := Paired.length hC
  cases hk : numV v uf.length with
  | none =>
    refine .inl ⟨rfl, ?_⟩
    unfold at1
    rw [← eL, hk]
    rfl
  | some k =>
    obtain ⟨rfl, hlt⟩ := numV_some hk
    obtain ⟨u, hu⟩ : ∃ u, uf[k]? = some u := ⟨_, List.getElem?_eq_getElem hlt⟩
    obtain ⟨c, hc, t2, rfl, ht2⟩ := paired_get hC hu
    refine .inr ⟨k, c, t2, rfl, rfl, ?_, List.mem_of_getElem? hc, at_of (j := k) rfl hu, ht2⟩
    unfold at1
    rw [← eL, hk]
    exact hc
theorem at2 (a b : V) (l : List V) : atI (a :: b :: l) 1 = some b := at_of (j := 1) rfl rfl
theorem at3 (a b c : V) (l : List V) : atI (a :: b :: c :: l) 2 = some c := at_of (j := 2) rfl rfl
theorem at4 (a b c d : V) (l : List V) : atI (a :: b :: c :: d :: l) 3 = some d := at_of (j := 3) rfl rfl
theorem len1 {l : List V} (h : l.length = 1) : ∃ a, l = [a] := by
  match l, h with
  | [a], _ => exact ⟨a, rfl⟩
theorem ar_pos {z : Str} (h : z ∈ wds7) (e : ¬ z = Str.ofString "start") : 1 ≤ arity z := by
  unfold wds7 at h
  simp only [List.mem_cons, List.not_mem_nil, or_false] at h
  rcases h with rfl | rfl | rfl | rfl | rfl | rfl | rfl
  · exact absurd rfl e
  all_goals decide +kernel
theorem last7 {z : Str} (h : z ∈ wds7) (e1 : ¬ z = Str.ofString "start") (e2 : ¬ z = Str.ofString "fact") (e3 : ¬ z = Str.ofString "turn") (e4 : ¬ z = Str.ofString "on") (e5 : ¬ z = Str.ofString "home") (e6 : ¬ z = Str.ofString "like") : z = Str.ofString "part" := by
  unfold wds7 at h
  simp only [List.mem_cons, List.not_mem_nil, or_false] at h
  rcases h with h | h | h | h | h | h | h
  · exact absurd h e1
  · exact absurd h e2
  · exact absurd h e3
  · exact absurd h e4
  · exact absurd h e5
  · exact absurd h e6
  · exact h
theorem cm_none {F L cs : List Clm} {z : Str} {v : V} {as : List V} (h : z ∈ wds7) (e1 : ¬ z = Str.ofString "start") (e2 : ¬ z = Str.ofString "fact") (h2 : at1 cs v = none) : claimM F L cs z (v :: as) = none := by
  unfold claimM
  rw [if_neg e1, if_neg e2]
  repeat' split
  all_goals first
    | rfl
    | (rename_i e; cases e; rw [h2]; rfl)
    | (rename_i e _; cases e; rw [h2]; rfl)
theorem sc_lcl : FnScope ["_law_row", "_law_facts_here", "_law_likenesses_here", "_law_found", "_law_longs", "_law_one", "_law_other"] ["_law_row", "_law_facts_here", "_law_likenesses_here", "_law_found"] (defScope s__law_claim) := ⟨rfl, rfl, rfl, by decide +kernel, rfl, by decide +kernel, by decide +kernel⟩
theorem has_lcl (F : FnAt K mg "_law_claim" s__law_claim ["_law_row", "_law_facts_here", "_law_likenesses_here", "_law_found"]) (B : Blt mg) (h_Lnm : Has P w K mg base 1 "_law_number" ["_law_thing", "_law_many"] spLnm) (h_Llc : Has P w K mg base 2 "_law_like_claim" ["_law_one", "_law_likenesses_here", "_law_number_here", "_law_forth"] spLlc) (h_Fl : HasFlip P w K mg base) : Has P w K mg base 3 "_law_claim" ["_law_row", "_law_facts_here", "_law_likenesses_here", "_law_found"] spLcl := F.has fun F => by
  obtain ⟨f_Lnm, fd_Lnm, g_Lnm, k_Lnm, b_Lnm, G_Lnm⟩ := h_Lnm
  obtain ⟨f_Llc, fd_Llc, g_Llc, k_Llc, b_Llc, G_Llc⟩ := h_Llc
  obtain ⟨f_Fl, fd_Fl, g_Fl, k_Fl, b_Fl, G_Fl⟩ := h_Fl
  refine F.ok sc_lcl (fun vs H Q E h => ?_) (fun cdv A outer s H vs Q E hr h => ?_)
  · obtain ⟨t, a, b, f, ua, ub, uf, Fs, L, cs, r, M, rfl, _⟩ := h
    rfl
  · obtain ⟨t, a, b, f, ua, ub, uf, Fs, L, cs, ⟨z, as⟩, M, rfl, ht, hA, hAl, ha, hF, hb, hL, hf, hC, bF, bL, bC, hM, q1, q2⟩ := h
    refine ⟨_, (pss_cons (ps_set (i := 4) sc_lcl.nd rfl (.inl rfl) (pe_disp (pps_cons pe_str pe_int (pps_cons pe_str pe_int (pps_cons pe_str pe_int (pps_cons pe_str pe_int (pps_cons pe_str pe_int (pps_cons pe_str pe_int (pps_cons pe_str pe_int pps_nil))))))) (by rfl) (by rfl) (fun z => by cases z) (by decide))) (pss_cons (ps_if (PW.pt (pw_or (pt_cmpR op_eq (pe_callB call_lenQ (by rfl) B.len PySem.boot_len (pa_cons (pv 0) pa_nil)) pe_int (nomark _)) (pw_or (pt_cmp (pc_dnotin (hu_of hr) (pe_ix ix_tup (pv 0) pe_int (fun _ _ => rfl)) (pv 4))) (pw_or1 (pt_cmpR op_ne (pe_callB call_lenQ (by rfl) B.len PySem.boot_len (pa_cons (pv 0) pa_nil)) (pe_dget (hu_of hr) (pv 4) (pe_ix ix_tup (pv 0) pe_int (fun _ _ => rfl)) (fun _ _ => rfl)) (nomark _)))))) (pss_one (ps_ret pe_non)) pss_nil) (pss_cons (ps_if (pt_cmpR op_eq (pe_ix ix_tup (pv 0) pe_int (fun _ _ => rfl)) pe_str (nomark _)) (pss_one (ps_ret (pe_tup (pa_cons pe_str (pa_cons pe_str pa_nil))))) pss_nil) (pss_cons (ps_if (pt_cmpR op_eq (pe_ix ix_tup (pv 0) pe_int (fun _ _ => rfl)) pe_str (nomark _)) (pss_one (ps_ret (pe_ifExp (pt_val (pe_call G_Lnm (hr.mono (by decide)) (by rfl) g_Lnm k_Lnm b_Lnm .nil pass0 (pa_cons (pe_ix ix_tup (pv 0) pe_int (fun _ _ => rfl)) (pa_cons (pe_callB call_lenQ (by rfl) B.len PySem.boot_len (pa_cons (pv 1) pa_nil)) pa_nil)))) (pe_ix ix_list (pv 1) (pe_ix ix_tup (pv 0) pe_int (fun _ _ => rfl)) (fun _ _ => rfl)) pe_non))) pss_nil) (pss_cons (ps_if (pt_not (pt_val (pe_call G_Lnm (hr.mono (by decide)) (by rfl) g_Lnm k_Lnm b_Lnm .nil pass0 (pa_cons (pe_ix ix_tup (pv 0) pe_int (fun _ _ => rfl)) (pa_cons (pe_callB call_lenQ (by rfl) B.len PySem.boot_len (pa_cons (pv 3) pa_nil)) pa_nil))))) (pss_one (ps_ret pe_non)) pss_nil) (pss_cons (ps_set (i := 5) sc_lcl.nd rfl (.inl rfl) (pe_ix ix_list (pv 3) (pe_ix ix_tup (pv 0) pe_int (fun _ _ => rfl)) (fun _ _ => rfl))) (pss_cons (ps_if (pt_cmpR op_eq (pe_ix ix_tup (pv 0) pe_int (fun _ _ => rfl)) pe_str (nomark _)) (pss_one (ps_ret (pe_tup (pa_cons (pe_ix ix_tup (pv 5) pe_int (fun _ _ => rfl)) (pa_cons (pe_ix ix_tup (pv 5) pe_int (fun _ _ => rfl)) pa_nil))))) pss_nil) (pss_cons (ps_if (pt_cmpR op_eq (pe_ix ix_tup (pv 0) pe_int (fun _ _ => rfl)) pe_str (nomark _)) (pss_cons (ps_set (i := 6) sc_lcl.nd rfl (.inl rfl) (pe_ifExp (pt_val (pe_call G_Lnm (hr.mono (by decide)) (by rfl) g_Lnm k_Lnm b_Lnm .nil pass0 (pa_cons (pe_ix ix_tup (pv 0) pe_int (fun _ _ => rfl)) (pa_cons (pe_callB call_lenQ (by rfl) B.len PySem.boot_len (pa_cons (pv 3) pa_nil)) pa_nil)))) (pe_ix ix_list (pv 3) (pe_ix ix_tup (pv 0) pe_int (fun _ _ => rfl)) (fun _ _ => rfl)) (pe_tup (pa_cons pe_str (pa_cons pe_str pa_nil))))) (pss_cons (ps_if (PW.pt (pw_or (pt_cmpR op_eq (pe_ix ix_tup (pv 6) pe_int (fun _ _ => rfl)) pe_str (nomark _)) (pw_or1 (pt_cmpR op_ne (pe_slice sl_str (pe_ix ix_tup (pv 6) pe_int (fun _ _ => rfl)) po_none (po_some (pe_callB call_lenS (by rfl) B.len PySem.boot_len (pa_cons (pe_ix ix_tup (pv 5) pe_int (fun _ _ => rfl)) pa_nil)))) (pe_ix ix_tup (pv 5) pe_int (fun _ _ => rfl)) (nomark _))))) (pss_one (ps_ret pe_non)) pss_nil) (pss_one (ps_ret (pe_tup (pa_cons (pe_op op_addS (pe_ix ix_tup (pv 5) pe_int (fun _ _ => rfl)) (pe_slice sl_str (pe_ix ix_tup (pv 6) pe_int (fun _ _ => rfl)) (po_some (pe_callB call_lenS (by rfl) B.len PySem.boot_len (pa_cons (pe_ix ix_tup (pv 5) pe_int (fun _ _ => rfl)) pa_nil))) po_none)) (pa_cons (pe_ix ix_tup (pv 6) pe_int (fun _ _ => rfl)) pa_nil))))))) pss_nil) (pss_cons (ps_if (pt_cmpR op_eq (pe_ix ix_tup (pv 0) pe_int (fun _ _ => rfl)) pe_str (nomark _)) (pss_one (ps_ret (pe_ifExp (pt_cmpR op_eq (pe_ix ix_tup (pv 5) pe_int (fun _ _ => rfl)) pe_str (nomark _)) pe_non (pe_tup (pa_cons (pe_op op_addS (pe_ix ix_tup (pv 5) pe_int (fun _ _ => rfl)) (pe_call G_Fl (hr.mono (by decide)) (by rfl) g_Fl k_Fl b_Fl .nil pass0 (pa_cons (pe_ix ix_str (pe_ix ix_tup (pv 5) pe_int (fun _ _ => rfl)) (pe_un un_neg pe_int) (fun _ _ => rfl)) pa_nil))) (pa_cons (pe_slice sl_str (pe_ix ix_tup (pv 5) pe_int (fun _ _ => rfl)) po_none (po_some (pe_un un_neg pe_int))) pa_nil)))))) pss_nil) (pss_cons (ps_if (pt_cmpR op_eq (pe_ix ix_tup (pv 0) pe_int (fun _ _ => rfl)) pe_str (nomark _)) (pss_one (ps_ret (pe_call G_Llc (hr.mono (by decide)) (by rfl) g_Llc k_Llc b_Llc .nil pass0 (pa_cons (pv 5) (pa_cons (pv 2) (pa_cons (pe_ix ix_tup (pv 0) pe_int (fun _ _ => rfl)) (pa_cons (pe_ix ix_tup (pv 0) pe_int (fun _ _ => rfl)) pa_nil))))))) pss_nil) (pss_cons (ps_if (pt_not (pt_val (pe_call G_Lnm (hr.mono (by decide)) (by rfl) g_Lnm k_Lnm b_Lnm .nil pass0 (pa_cons (pe_ix ix_tup (pv 0) pe_int (fun _ _ => rfl)) (pa_cons (pe_op op_add (pe_callB call_lenS (by rfl) B.len PySem.boot_len (pa_cons (pe_ix ix_tup (pv 5) pe_int (fun _ _ => rfl)) pa_nil)) pe_int) pa_nil))))) (pss_one (ps_ret pe_non)) pss_nil) (pss_one (ps_ret (pe_tup (pa_cons (pe_slice sl_str (pe_ix ix_tup (pv 5) pe_int (fun _ _ => rfl)) po_none (po_some (pe_ix ix_tup (pv 0) pe_int (fun _ _ => rfl)))) (pa_cons (pe_slice sl_str (pe_ix ix_tup (pv 5) pe_int (fun _ _ => rfl)) po_none (po_some (pe_ix ix_tup (pv 0) pe_int (fun _ _ => rfl)))) pa_nil)))))))))))))))), ?_⟩
    have ht : H t = some (.tup (.str z :: as)) := ht
    have hAl : as.length ≤ 1000 := hAl
    have hA : ∀ v ∈ as, argOk v := hA
    have q1 : ∀ d t' H', claimM Fs L cs z as = some d → H' t' = some (.tup [.str d.1, .str d.2]) → Same H H' → Q (.ref t') H' := q1
    have q2 : claimM Fs L cs z as = none → ∀ H', Same H H' → Q .non H' := q2
    walk_at "go"
    refine w_disp7 fun p H1 hp np => ?_
    have ht1 := np.at ht
    have s1 := np.same
    walk_at "go"
    refine w_or2 (fun h => absurd h (by rw [List.length_cons]; omega)) (fun _ => ?_)
    walk_at "go"
    refine w_ixT ht1 (at0 _ _) ?_
    walk_at "go"
    by_cases hz : z ∈ wds7
    · rw [longs_in hz]
      refine w_orF ?_
      walk_at "go"
      refine w_ixT ht1 (at0 _ _) ?_
      walk_at "go"
      refine w_kDGetS hp (longs_in hz) ?_
      walk_at "go"
      refine w_ifN2 (fun hn => ?_) (fun hl => ?_)
      · walk_at "go"
        exact q2 (claim_arity hz (by rw [List.length_cons] at hn; omega)) _ s1
      · rw [List.length_cons] at hl
        have hl : as.length = arity z := by omega
        walk_at "go"
        refine w_ixT ht1 (at0 _ _) ?_
        walk_at "go"
        refine w_if2 (fun e => ?_) (fun e1 => ?_)
        · subst e
          have e : as = [] := List.eq_nil_of_length_eq_zero hl
          subst e
          walk_at "go"
          refine w_newT (by walk_at "sz") (fun t3 H2 ht3 nt3 => ?_)
          exact q1 _ t3 H2 rfl ht3 (s1.trans nt3.same)
        · walk_at "go"
          refine w_ixT ht1 (at0 _ _) ?_
          walk_at "go"
          refine w_if2 (fun e => ?_) (fun e2 => ?_)
          · subst e
            obtain ⟨v1, rfl⟩ := len1 hl
            walk_at "go"
            refine ⟨v1, ua.length, rfl, (hA v1 (by simp)).flat, ?_⟩
            rcases num_at (v := v1) hF with ⟨h1, h2⟩ | ⟨k, c, t2, rfl, h1, h2, hm, hat, ht2⟩
            · rw [h1]
              walk_at "go"
              refine w_ifEF ?_
              walk_at "go"
              exact q2 h2 _ s1
            · rw [h1]
              walk_at "go"
              refine w_ifET ?_
              walk_at "go"
              refine w_ixL (np.at ha) hat ?_
              walk_at "go"
              exact q1 c t2 H1 h2 (np.at ht2) s1
          · obtain ⟨v1, as', rfl⟩ : ∃ v1 as', as = v1 :: as' := by
              cases as with
              | nil => exact absurd hl (by have := ar_pos hz e1; rw [List.length_nil]; omega)
              | cons v1 as' => exact ⟨_, _, rfl⟩
            have a1 := hA v1 (by simp)
            walk_at "go"
            refine w_ixT ht1 (at2 _ _ _) ?_
            walk_at "go"
            refine ⟨v1, uf.length, rfl, a1.flat, ?_⟩
            rcases num_at (v := v1) hC with ⟨h1, h2⟩ | ⟨k, c, t2, rfl, h1, h2, hm, hat, ht2⟩
            · rw [h1]
              walk_at "go"
              refine w_ifT ?_
              walk_at "go"
              exact q2 (cm_none hz e1 e2 h2) _ s1
            · rw [h1]
              walk_at "go"
              refine w_ifF ?_
              obtain ⟨c1, c2, c3, c4⟩ := bC c hm
              have ht2 := np.at ht2
              walk_at "go"
              refine w_ixT ht1 (at2 _ _ _) ?_
              walk_at "go"
              refine w_ixL (np.at hf) hat ?_
              walk_at "go"
              refine w_ixT ht1 (at0 _ _) ?_
              walk_at "go"
              refine w_if2 (fun e => ?_) (fun e3 => ?_)
              · subst e
                have e : as' = [] := List.eq_nil_of_length_eq_zero (Nat.succ.inj hl)
                subst e
                walk_at "go"
                refine w_newT (by walk_at "sz") (fun t3 H2 ht3 nt3 => ?_)
                refine q1 (c.2, c.1) t3 H2 ?_ ht3 (s1.trans nt3.same)
                show (at1 cs _).map _ = _
                rw [h2]
                rfl
              · walk_at "go"
                refine w_ixT ht1 (at0 _ _) ?_
                walk_at "go"
                refine w_if2 (fun e => ?_) (fun e4 => ?_)
                · subst e
                  obtain ⟨v2, rfl⟩ := len1 (Nat.succ.inj hl)
                  have a2 := hA v2 (by simp)
                  have ec : claimM Fs L cs (Str.ofString "on") [.int (k : Int), v2] = (at1 cs v2).bind fun d => onM c d := by
                    show ((at1 cs _).bind fun c => (at1 cs v2).bind fun d => onM c d) = _
                    rw [h2]
                    rfl
                  walk_at "go"
                  refine ⟨v2, uf.length, rfl, a2.flat, ?_⟩
                  rcases num_at (v := v2) hC with ⟨g1, g2⟩ | ⟨k', d, t4, rfl, g1, g2, gm, gat, gt4⟩
                  · rw [g1]
                    walk_at "go"
                    refine w_ifEF ?_
                    walk_at "go"
                    refine w_newT (by walk_at "sz") (fun t3 H2 ht3 nt3 => ?_)
                    walk_at "go"
                    refine w_orT ?_
                    walk_at "go"
                    refine q2 ?_ _ (s1.trans nt3.same)
                    rw [ec, g2]
                    rfl
                  · rw [g1]
                    walk_at "go"
                    refine w_ifET ?_
                    obtain ⟨d1, d2, d3, d4⟩ := bC d gm
                    have gt4 := np.at gt4
                    rw [g2] at ec
                    walk_at "go"
                    refine w_ixL (np.at hf) gat ?_
                    walk_at "go"
                    refine w_or2 (fun h => absurd h (wd_nx d2)) (fun _ => ?_)
                    walk_at "go"
                    refine w_lenS (lnM (by omega)) ?_
                    walk_at "go"
                    refine w_slS (lnM (by omega)) ?_
                    walk_at "go"
                    have hE := starts_cut (x := d.1) (y := c.2)
                    have ec : claimM Fs L cs (Str.ofString "on") [.int (k : Int), .int (k' : Int)] = if startsL d.1 c.2 = true then some (c.1 ++ cutF d.1 c.2.length, d.2) else none := ec
                    refine w_ifN2 (fun hne => ?_) (fun he => ?_)
                    · walk_at "go"
                      refine q2 ?_ _ s1
                      rw [ec, hE, decide_eq_false hne, if_neg (fun z => nomatch z)]
                    · rw [hE, decide_eq_true he, if_pos rfl] at ec
                      rw [decide_eq_true he] at hE
                      have hle := starts_le hE
                      walk_at "go"
                      refine w_lenS (lnM (by omega)) ?_
                      walk_at "go"
                      refine w_slS (lnM (by omega)) ?_
                      rw [cutV_drop2 hle]
                      have := cutF_len d.1 c.2.length
                      walk_at "go"
                      refine w_addS (lnM (by omega)) ?_
                      walk_at "go"
                      refine w_newT (by walk_at "sz") (fun t3 H2 ht3 nt3 => ?_)
                      exact q1 _ t3 H2 ec ht3 (s1.trans nt3.same)
                · walk_at "go"
                  refine w_ixT ht1 (at0 _ _) ?_
                  walk_at "go"
                  refine w_if2 (fun e => ?_) (fun e5 => ?_)
                  · subst e
                    have e : as' = [] := List.eq_nil_of_length_eq_zero (Nat.succ.inj hl)
                    subst e
                    have ec : claimM Fs L cs (Str.ofString "home") [.int (k : Int)] = homeM c := by
                      show (at1 cs _).bind _ = _
                      rw [h2]
                      rfl
                    unfold homeM at ec
                    walk_at "go"
                    refine w_ifE2 (fun h => ?_) (fun h => ?_)
                    · walk_at "go"
                      rw [if_pos h] at ec
                      exact q2 ec _ s1
                    · rw [if_neg h] at ec
                      obtain ⟨x1, x2⟩ := last_sg c1 h
                      walk_at "go"
                      refine w_ixS (lnM (by omega)) (at_last c1 h) ?_
                      walk_at "go"
                      refine ⟨_, rfl, x1, ?_⟩
                      walk_at "go"
                      refine w_addS (lnM (by rw [len_one]; omega)) ?_
                      walk_at "go"
                      refine w_slS (lnM (by omega)) ?_
                      rw [cutV_last]
                      walk_at "go"
                      refine w_newT (by walk_at "sz") (fun t3 H2 ht3 nt3 => ?_)
                      exact q1 _ t3 H2 ec ht3 (s1.trans nt3.same)
                  · walk_at "go"
                    refine w_ixT ht1 (at0 _ _) ?_
                    walk_at "go"
                    refine w_if2 (fun e => ?_) (fun e6 => ?_)
                    · subst e
                      obtain ⟨v2, v3, rfl⟩ := len2 (Nat.succ.inj hl)
                      have a2 := hA v2 (by simp)
                      have a3 := hA v3 (by simp)
                      have ec : claimM Fs L cs (Str.ofString "like") [.int (k : Int), v2, v3] = (at1 L v2).bind fun l => likeM c l v3 := by
                        show ((at1 cs _).bind fun c => (at1 L v2).bind fun l => likeM c l v3) = _
                        rw [h2]
                        rfl
                      rw [ec] at q1 q2
                      walk_at "go"
                      exact ⟨t2, b, ub, c, L, v2, v3, M, rfl, ht2, np.at hb, hL.tps (.of s1), a2, a3, c3, bL, hM, fun d t' H' e h' s' => q1 d t' H' e h' (s1.trans s'), fun e H' s' => q2 e H' (s1.trans s')⟩
                    · have hp7 : z = Str.ofString "part" := last7 hz e1 e2 e3 e4 e5 e6
                      subst hp7
                      obtain ⟨v2, rfl⟩ := len1 (Nat.succ.inj hl)
                      have a2 := hA v2 (by simp)
                      have ec : claimM Fs L cs (Str.ofString "part") [.int (k : Int), v2] = partM c v2 := by
                        show ((at1 cs _).bind fun c => partM c v2) = _
                        rw [h2]
                        rfl
                      unfold partM at ec
                      walk_at "go"
                      refine w_lenS (lnM (by omega)) ?_
                      walk_at "go"
                      refine ⟨v2, c.1.length + 1, rfl, a2.flat, ?_⟩
                      cases hk : numV v2 (c.1.length + 1) with
                      | none =>
                        rw [hk] at ec
                        walk_at "go"
                        refine w_ifT ?_
                        walk_at "go"
                        exact q2 ec _ s1
                      | some m =>
                        obtain ⟨rfl, hlt⟩ := numV_some hk
                        rw [hk] at ec
                        walk_at "go"
                        refine w_ifF ?_
                        walk_at "go"
                        refine w_slS (lnM (by omega)) ?_
                        rw [cutV_take2 (by omega)]
                        walk_at "go"
                        refine w_slS (lnM (by omega)) ?_
                        rw [cutV_take2 (by omega)]
                        walk_at "go"
                        refine w_newT (by walk_at "sz") (fun t3 H2 ht3 nt3 => ?_)
                        exact q1 _ t3 H2 ec ht3 (s1.trans nt3.same)
    · rw [longs_out hz]
      refine w_orT ?_
      walk_at "go"
      exact q2 (claim_miss hz) _ s1
end
end Sf
namespace Sf
open PySem PySem.Spec PyProof.Rows L2 TL
section
variable {P : Program} {w : World} {K : PySem.W.Frag} {mg : Str → Option Value} {base : Heap} {pT : Addr}
/-! ### _law_claims -/
def spLcs : Sp := fun vs H Q _ => ∃ (a b r : Addr) (ua ub ur : List V) (F L : List Clm) (rows : List Row), vs = [.ref a, .ref b, .ref r] ∧ H a = some (.lst ua) ∧ PrsAt H ua F ∧ H b = some (.lst ub) ∧ PrsAt H ub L ∧ H r = some (.lst ur) ∧ Paired (RwAt H) ur rows ∧
  Bnd 8000000 F ∧ Bnd 8000000 L ∧ Lim F L rows ∧ rows.length ≤ 1000 ∧ (∀ x ∈ rows, (∀ v ∈ x.2, argOk v) ∧ x.2.length ≤ 1000) ∧
  (∀ cs, runM F L rows [] = some cs → ∀ m um H', H m = none → H' m = some (.lst um) → PrsAt H' um cs → Same H H' → Q (.ref m) H') ∧
  (∀ (n : Nat) (cs : List Clm) (x : Row), rows[n]? = some x → runM F L (rows.take n) [] = some cs → claimM F L cs x.1 x.2 = none → ∀ H', Same H H' → Q (.int (n : Int)) H')
theorem sc_lcs : FnScope ["_law_facts_here", "_law_likenesses_here", "_law_rows", "_law_found", "_law_at", "_law_claim_here"] ["_law_facts_here", "_law_likenesses_here", "_law_rows"] (defScope s__law_claims) := ⟨rfl, rfl, rfl, by decide +kernel, rfl, by decide +kernel, by decide +kernel⟩
theorem has_lcs (F : FnAt K mg "_law_claims" s__law_claims ["_law_facts_here", "_law_likenesses_here", "_law_rows"]) (B : Blt mg) (h_Lcl : Has P w K mg base 3 "_law_claim" ["_law_row", "_law_facts_here", "_law_likenesses_here", "_law_found"] spLcl) : Has P w K mg base 4 "_law_claims" ["_law_facts_here", "_law_likenesses_here", "_law_rows"] spLcs := F.has fun F => by
  obtain ⟨f_Lcl, fd_Lcl, g_Lcl, k_Lcl, b_Lcl, G_Lcl⟩ := h_Lcl
  refine F.ok sc_lcs (fun vs H Q E h => ?_) (fun cdv A outer s H vs Q E hr h => ?_)
  · obtain ⟨a, b, r, ua, ub, ur, Fs, L, rows, rfl, _⟩ := h
    rfl
  · obtain ⟨a, b, r, ua, ub, ur, Fs, L, rows, rfl, ha, hF, hb, hL, hr0, hR, bF, bL, lim, hrl, rok, q1, q2⟩ := h
    refine ⟨_, (pss_cons (ps_set (i := 3) sc_lcs.nd rfl (.inl rfl) (pe_lst pa_nil)) (pss_cons (ps_for PassesOwn.never rfl (pi_range1 rfl B.range (pa_cons (pe_callB call_lenQ (by rfl) B.len PySem.boot_len (pa_cons (pv 2) pa_nil)) pa_nil)) (pg_name (i := 4) sc_lcs.nd rfl (.inl rfl)) (pss_cons (ps_set (i := 5) sc_lcs.nd rfl (.inl rfl) (pe_call G_Lcl (hr.mono (by decide)) (by rfl) g_Lcl k_Lcl b_Lcl .nil pass0 (pa_cons (pe_ix ix_list (pv 2) (pv 4) (fun _ _ => rfl)) (pa_cons (pv 0) (pa_cons (pv 1) (pa_cons (pv 3) pa_nil)))))) (pss_cons (ps_if (pt_cmpR op_isNn (pv 5) pe_non (nomark _)) (pss_one (ps_ret (pv 4))) pss_nil) (pss_one (ps_expr (pe_bm PySem.F.plainAttrs_list PySem.F.slot_list_append PySem.F.type_list_append mt_append (pv 3) (pa_cons (pv 5) pa_nil))))))) (pss_one (ps_ret (pv 3))))), ?_⟩
    have eur : ur.length = rows.length := Paired.length hR
    walk_at "go"
    refine w_newL (by walk_at "sz") (fun m H1 hm nm => ?_)
    walk_at "go"
    refine w_kRng1 (by omega) (by omega) ?_
    refine w_range (fun i σ H2 => ∃ (y4 y5 : Option V) (cs : List Clm) (um : List V), σ = [some (.ref a), some (.ref b), some (.ref r), some (.ref m), y4, y5] ∧ Same H H2 ∧ H2 m = some (.lst um) ∧ PrsAt H2 um cs ∧ runM Fs L (rows.take i) [] = some cs ∧ Bnd 8000000 cs ∧ cs.length = i)
      ⟨none, none, [], [], rfl, nm.same, hm, .nil, rfl, fun c hc => absurd hc (by simp), rfl⟩ ?_ ?_
    · rintro i σ H2 hi ⟨y4, y5, cs, um, rfl, s2, hm2, hc2, run2, bc2, hcl⟩
      have hil : i < rows.length := by omega
      obtain ⟨v, hv⟩ : ∃ v, ur[i]? = some v := ⟨_, List.getElem?_eq_getElem (by omega)⟩
      obtain ⟨x, hx, t, rfl, ht⟩ := paired_get (rw_tps (.of s2) hR) hv
      obtain ⟨x1, x2⟩ := rok x (List.mem_of_getElem? hx)
      have eum : um.length = cs.length := Paired.length hc2
      walk_at "go"
      refine w_ixL (s2.at hr0) (at_of (j := i) (Int.zero_add _) hv) ?_
      walk_at "go"
      refine ⟨t, a, b, m, ua, ub, um, Fs, L, cs, x, 8000000, rfl, ht, x1, x2, s2.at ha, hF.tps (.of s2), s2.at hb, hL.tps (.of s2), hm2, hc2, bF, bL, bc2, Nat.le_refl _, fun d t' H3 hd ht' s3 => ?_, fun hd H3 s3 => ?_⟩
      · walk_at "go"
        refine w_if2 (fun z => nomatch z) (fun _ => ?_)
        walk_at "go"
        have hm3 := s3.at hm2
        refine w_append hm3 (lineLt_of (by omega)) (fun H6 hm6 o6 => ?_)
        walk_at "go"
        have t5m : t' ≠ m := fun z => by rw [z, hm3] at ht'; cases ht'
        refine ⟨_, _, cs ++ [d], um ++ [.ref t'], rfl, (s2.trans s3).off o6 nm.nn, hm6, ?_, ?_, ?_, by rw [List.length_append, hcl]; rfl⟩
        · exact pr_snoc ⟨t', rfl, o6.at t5m ht'⟩ ((hc2.tps (.of s3)).tps (Tps.refl.off hm3 o6))
        · rw [runM_snoc hx, run2]
          show (claimM Fs L cs x.1 x.2).map _ = _
          rw [hd]
          rfl
        · refine lim (i + 1) _ ?_
          rw [runM_snoc hx, run2]
          show (claimM Fs L cs x.1 x.2).map _ = _
          rw [hd]
          rfl
      · walk_at "go"
        rw [Int.zero_add]
        exact q2 i cs x hx run2 hd H3 (s2.trans s3)
    · rintro σ H2 ⟨y4, y5, cs, um, rfl, s2, hm2, hc2, run2, bc2, hcl⟩
      rw [List.take_of_length_le (by omega)] at run2
      walk_at "go"
      exact q1 cs run2 m um H2 nm.nn hm2 hc2 s2
end
end Sf
namespace Sf
open PySem PySem.Spec PyProof.Rows L2 TL
section
variable {P : Program} {w : World} {K : PySem.W.Frag} {mg : Str → Option Value} {base : Heap}
/-! ### _law_pick, of a list of things -/
def spLpk : Sp := fun vs H Q _ => ∃ (b l p : Addr) (us : List V), vs = [.ref b, .ref p] ∧ Bag H b l ∧ H p = some (.lst us) ∧ p ≠ b ∧ 1 ≤ us.length ∧ us.length ≤ 10000 ∧
  ∀ (v : V) (H' : Hp), v ∈ us → Bag H' b l → Fx b H H' → Q v H'
abbrev HasLpk (P : Program) (w : World) (K : PySem.W.Frag) (mg : Str → Option Value) (base : Heap) : Prop := Has P w K mg base 2 "_law_pick" ["_law_bag", "_law_row"] spLpk
theorem sc_lpk : FnScope ["_law_bag", "_law_row"] ["_law_bag", "_law_row"] (defScope s__law_pick) := ⟨rfl, rfl, rfl, by decide +kernel, rfl, by decide +kernel, by decide +kernel⟩
theorem has_lpk (F : FnAt K mg "_law_pick" s__law_pick ["_law_bag", "_law_row"]) (B : Blt mg) (h_Pu : HasPull P w K mg base) : HasLpk P w K mg base := F.has fun F => by
  obtain ⟨f_Pu, fd_Pu, g_Pu, k_Pu, b_Pu, G_Pu⟩ := h_Pu
  refine F.ok sc_lpk (fun vs H Q E h => ?_) (fun cdv A outer s H vs Q E hr h => ?_)
  · obtain ⟨b, l, p, us, rfl, _⟩ := h
    rfl
  · obtain ⟨b, l, p, us, rfl, hB, hp, npb, l1, l2, q⟩ := h
    refine ⟨_, (pss_one (ps_ret (pe_ix ix_list (pv 1) (pe_call G_Pu (hr.mono (by decide)) (by rfl) g_Pu k_Pu b_Pu .nil pass0 (pa_cons (pv 0) (pa_cons (pe_callB call_lenQ (by rfl) B.len PySem.boot_len (pa_cons (pv 1) pa_nil)) pa_nil))) (fun _ _ => rfl)))), ?_⟩
    walk_at "go"
    refine ⟨b, l, _, rfl, hB, by omega, by omega, fun d H1 d0 d1 B1 f1 => ?_⟩
    have hd : d.toNat < us.length := by omega
    refine w_ixL (f1.at npb hp) (at_of (j := d.toNat) (by omega) (List.getElem?_eq_getElem hd)) ?_
    exact q _ H1 (List.getElem_mem hd) B1 f1
end
end Sf
namespace Sf
open PySem PySem.Spec PyProof.Rows L2 TL
section
variable {P : Program} {w : World} {K : PySem.W.Frag} {mg : Str → Option Value} {base : Heap} {pT : Addr}
/-! ### _law_paper -/
def RwG (r : Row) : Prop := r.1 ∈ wds7 ∧ (∀ v ∈ r.2, argOk v) ∧ r.2.length ≤ 10
def Ppr (F L : List Clm) (rows : List Row) : Prop := (∀ x ∈ rows, RwG x) ∧ ∃ cs, runM F L rows [] = some cs ∧ ∀ c ∈ cs, c.1.length ≤ 60 ∧ c.2.length ≤ 60
def spLpp : Sp := fun vs H Q _ => ∃ (b l fa li : Addr) (n : Nat) (ua ub : List V) (F L : List Clm), vs = [.ref b, .ref fa, .ref li, .int (n : Int)] ∧ Bag H b l ∧ H fa = some (.lst ua) ∧ fa ≠ b ∧ PrsAt H ua F ∧ H li = some (.lst ub) ∧ li ≠ b ∧ PrsAt H ub L ∧ Bnd 60 F ∧ Bnd 60 L ∧ n ≤ 99 ∧ F.length ≤ 1000 ∧ L.length ≤ 1000 ∧
  (∀ r ur rows H', H r = none → H' r = some (.lst ur) → Paired (RwAt H') ur rows → Ppr F L rows → 1 ≤ rows.length → rows.length ≤ n + 1 → Bag H' b l → Fx b H H' → Q (.ref r) H')
def RgAt (H : Hp) (v : V) : Prop := ∃ r, RwAt H v r ∧ RwG r
theorem RgAt.tps {H H' : Hp} (s : Tps H H') {v : V} : RgAt H v → RgAt H' v
  | ⟨r, ⟨t, e, h⟩, g⟩ => ⟨r, ⟨t, e, s _ _ h⟩, g⟩
theorem rg_mk {H : Hp} {t : Addr} {z : Str} {as : List V} (h : H t = some (.tup (.str z :: as))) (hz : z ∈ wds7) (ha : ∀ v ∈ as, argOk v) (hl : as.length ≤ 10) : RgAt H (.ref t) := ⟨(z, as), ⟨t, rfl, h⟩, hz, ha, hl⟩
theorem fx_free {b p : Addr} {H H' : Hp} (f : Fx b H H') (n : p ≠ b) (h : H' p = none) : H p = none := by
  cases e : H p with
  | none => rfl
  | some o => rw [f p o e n] at h; cases h
theorem paired_snocR {α β : Type} {R : α → β → Prop} {a : α} {c : β} : ∀ {as : List α} {cs : List β}, Paired R as cs → R a c → Paired R (as ++ [a]) (cs ++ [c])
  | _, _, .nil, h => .cons h .nil
  | _, _, .cons h' t, h => .cons h' (paired_snocR t h)
theorem args0 : ∀ v ∈ ([] : List V), argOk v := fun v hv => absurd hv (by simp)
theorem args_c {a : V} {l : List V} (h : argOk a) (hl : ∀ v ∈ l, argOk v) : ∀ v ∈ a :: l, argOk v := fun v hv => by
  rcases List.mem_cons.mp hv with rfl | hv
  · exact h
  · exact hl v hv
theorem argI (i : Int) : argOk (.int i) := .inl ⟨i, rfl⟩
theorem argB (b : Bool) : argOk (.bl b) := .inr ⟨b, rfl⟩
theorem w_meetE {σ : L2.St} {H : Hp} {Q : VK} {ta tb : TE} {b : Bool} (R : V → Hp → Prop) (k : ∀ v H', R v H' → Q v H') (h : (∀ v H', R v H' → Q v H') → kIfE ta tb σ Q b H) : kIfE ta tb σ Q b H := h k
theorem sc_lpp : FnScope ["_law_bag", "_law_facts_here", "_law_likenesses_here", "_law_upto", "_law_rows", "_law_turn", "_law_found", "_law_a", "_law_b", "_law_k", "_law_fits", "_law_menu", "_law_row", "_law_claim_here"] ["_law_bag", "_law_facts_here", "_law_likenesses_here", "_law_upto"] (defScope s__law_paper) := ⟨rfl, rfl, rfl, by decide +kernel, rfl, by decide +kernel, by decide +kernel⟩
theorem has_lpp (F : FnAt K mg "_law_paper" s__law_paper ["_law_bag", "_law_facts_here", "_law_likenesses_here", "_law_upto"]) (B : Blt mg) (h_Pu : HasPull P w K mg base) (h_Lpk : HasLpk P w K mg base) (h_Lcl : Has P w K mg base 3 "_law_claim" ["_law_row", "_law_facts_here", "_law_likenesses_here", "_law_found"] spLcl) (h_Lcs : Has P w K mg base 4 "_law_claims" ["_law_facts_here", "_law_likenesses_here", "_law_rows"] spLcs) : Has P w K mg base 5 "_law_paper" ["_law_bag", "_law_facts_here", "_law_likenesses_here", "_law_upto"] spLpp := F.has fun F => by
  obtain ⟨f_Pu, fd_Pu, g_Pu, k_Pu, b_Pu, G_Pu⟩ := h_Pu
  obtain ⟨f_Lpk, fd_Lpk, g_Lpk, k_Lpk, b_Lpk, G_Lpk⟩ := h_Lpk
  obtain ⟨f_Lcl, fd_Lcl, g_Lcl, k_Lcl, b_Lcl, G_Lcl⟩ := h_Lcl
  obtain ⟨f_Lcs, fd_Lcs, g_Lcs, k_Lcs, b_Lcs, G_Lcs⟩ := h_Lcs
  refine F.ok sc_lpp (fun vs H Q E h => ?_) (fun cdv A outer s H vs Q E hr h => ?_)
  · obtain ⟨b, l, fa, li, n, ua, ub, Fs, L, rfl, _⟩ := h
    rfl
  · obtain ⟨b, l, fa, li, n, ua, ub, Fs, L, rfl, hB, hfa, fab, hF, hli, lib, hL, bF, bL, hn, hFl, hLl, q⟩ := h
    refine ⟨_, (pss_cons (ps_set (i := 4) sc_lpp.nd rfl (.inl rfl) (pe_lst (pa_cons (pe_tup (pa_cons pe_str pa_nil)) pa_nil))) (pss_cons (ps_for PassesOwn.never rfl (pi_range1 rfl B.range (pa_cons (pv 3) pa_nil)) (pg_name (i := 5) sc_lpp.nd rfl (.inl rfl)) (pss_cons (ps_set (i := 6) sc_lpp.nd rfl (.inr rfl) (pe_call G_Lcs (hr.mono (by decide)) (by rfl) g_Lcs k_Lcs b_Lcs .nil pass0 (pa_cons (pv 1) (pa_cons (pv 2) (pa_cons (pv 4) pa_nil))))) (pss_cons (ps_asg (pe_tup (pa_cons (pe_call G_Pu (hr.mono (by decide)) (by rfl) g_Pu k_Pu b_Pu .nil pass0 (pa_cons (pv 0) (pa_cons (pe_callB call_lenQ (by rfl) B.len PySem.boot_len (pa_cons (pv 4) pa_nil)) pa_nil))) (pa_cons (pe_call G_Pu (hr.mono (by decide)) (by rfl) g_Pu k_Pu b_Pu .nil pass0 (pa_cons (pv 0) (pa_cons (pe_callB call_lenQ (by rfl) B.len PySem.boot_len (pa_cons (pv 4) pa_nil)) pa_nil))) pa_nil))) (pg_tup rfl (pgs_cons (pg_name (i := 7) sc_lpp.nd rfl (.inr rfl)) (pgs_cons (pg_name (i := 8) sc_lpp.nd rfl (.inl rfl)) pgs_nil)))) (pss_cons (ps_setLc (i := 10) (own := [("_law_k", 9)]) (g := gName 9) (tt := tTest (tOp rEq (tSl rSlS (tOp (rIxT K) (tOp (rIxL K) (tVar 6) (tVar 9)) (tC (.int 0))) tNoPart (tPart (tCB rLenStr (tCons (tOp (rIxT K) (tOp (rIxL K) (tVar 6) (tVar 7)) (tC (.int 1))) tNil)))) (tOp (rIxT K) (tOp (rIxL K) (tVar 6) (tVar 7)) (tC (.int 1))))) (by rfl) sc_lpp.nd rfl rfl (sw_true rfl rfl rfl (by decide +kernel)) (pi_range1 rfl B.range (pa_cons (pe_callB call_lenQ (by rfl) B.len PySem.boot_len (pa_cons (pv 4) pa_nil)) pa_nil)) (blkOk_by (own := [("_law_k", 9)]) (N := ["_law_bag", "_law_facts_here", "_law_likenesses_here", "_law_upto", "_law_rows", "_law_turn", "_law_found", "_law_a", "_law_b", "_law_k", "_law_fits", "_law_menu", "_law_row", "_law_claim_here"]) (sc := defScope s__law_paper) (by decide +kernel)) (fun _ _ _ _ _ => pg_name (i := 9) sc_lpp.nd rfl (.inl rfl)) (fun _ _ _ _ _ => by exact pts_one (pt_cmpR op_eq (pe_slice sl_str (pe_ix ix_tup (pe_ix ix_list (pv 6) (pv 9) (fun _ _ => rfl)) pe_int (fun _ _ => rfl)) po_none (po_some (pe_callB call_lenS (by rfl) B.len PySem.boot_len (pa_cons (pe_ix ix_tup (pe_ix ix_list (pv 6) (pv 7) (fun _ _ => rfl)) pe_int (fun _ _ => rfl)) pa_nil)))) (pe_ix ix_tup (pe_ix ix_list (pv 6) (pv 7) (fun _ _ => rfl)) pe_int (fun _ _ => rfl)) (nomark _))) (fun _ _ _ _ _ => (pv 9))) (pss_cons (ps_set (i := 8) sc_lpp.nd rfl (.inl rfl) (pe_ifExp (pt_cmpR (op_neD hr.units) (pv 10) (pe_lst pa_nil) (nomark _)) (pe_ix ix_list (pv 10) (pe_op op_mod (pv 8) (pe_callB call_lenQ (by rfl) B.len PySem.boot_len (pa_cons (pv 10) pa_nil))) (fun _ _ => rfl)) (pv 8))) (pss_cons (ps_set (i := 11) sc_lpp.nd rfl (.inl rfl) (pe_lst (pa_cons (pe_tup (pa_cons pe_str (pa_cons (pe_call G_Pu (hr.mono (by decide)) (by rfl) g_Pu k_Pu b_Pu .nil pass0 (pa_cons (pv 0) (pa_cons (pe_op op_add (pe_callB call_lenQ (by rfl) B.len PySem.boot_len (pa_cons (pv 1) pa_nil)) pe_int) pa_nil))) pa_nil))) (pa_cons (pe_tup (pa_cons pe_str (pa_cons (pv 7) pa_nil))) (pa_cons (pe_tup (pa_cons pe_str (pa_cons (pv 7) (pa_cons (pv 8) pa_nil)))) (pa_cons (pe_tup (pa_cons pe_str (pa_cons (pv 7) pa_nil))) (pa_cons (pe_tup (pa_cons pe_str (pa_cons (pv 7) (pa_cons (pv 8) pa_nil)))) pa_nil))))))) (pss_cons (ps_expr (pe_bm PySem.F.plainAttrs_list PySem.F.slot_list_append PySem.F.type_list_append mt_append (pv 11) (pa_cons (pe_tup (pa_cons pe_str (pa_cons (pv 7) (pa_cons (pe_call G_Pu (hr.mono (by decide)) (by rfl) g_Pu k_Pu b_Pu .nil pass0 (pa_cons (pv 0) (pa_cons (pe_op op_add (pe_callB call_lenS (by rfl) B.len PySem.boot_len (pa_cons (pe_ix ix_tup (pe_ix ix_list (pv 6) (pv 7) (fun _ _ => rfl)) pe_int (fun _ _ => rfl)) pa_nil)) pe_int) pa_nil))) pa_nil)))) pa_nil))) (pss_cons (ps_expr (pe_bm PySem.F.plainAttrs_list PySem.F.slot_list_append PySem.F.type_list_append mt_append (pv 11) (pa_cons (pe_tup (pa_cons pe_str (pa_cons (pv 7) (pa_cons (pe_call G_Pu (hr.mono (by decide)) (by rfl) g_Pu k_Pu b_Pu .nil pass0 (pa_cons (pv 0) (pa_cons (pe_op op_add (pe_callB call_lenQ (by rfl) B.len PySem.boot_len (pa_cons (pv 2) pa_nil)) pe_int) pa_nil))) (pa_cons (pe_cmpR op_eq (pe_call G_Pu (hr.mono (by decide)) (by rfl) g_Pu k_Pu b_Pu .nil pass0 (pa_cons (pv 0) (pa_cons pe_int pa_nil))) pe_int (nomark _)) pa_nil))))) pa_nil))) (pss_cons (ps_set (i := 12) sc_lpp.nd rfl (.inl rfl) (pe_call G_Lpk (hr.mono (by decide)) (by rfl) g_Lpk k_Lpk b_Lpk .nil pass0 (pa_cons (pv 0) (pa_cons (pe_op op_cat (pv 11) (pe_lst (pa_cons (pe_tup (pa_cons pe_str (pa_cons pe_int pa_nil))) (pa_cons (pe_tup (pa_cons pe_str (pa_cons (pv 7) (pa_cons pe_int (pa_cons (pe_cmpR op_eq (pe_call G_Pu (hr.mono (by decide)) (by rfl) g_Pu k_Pu b_Pu .nil pass0 (pa_cons (pv 0) (pa_cons pe_int pa_nil))) pe_int (nomark _)) pa_nil))))) pa_nil)))) pa_nil)))) (pss_cons (ps_set (i := 13) sc_lpp.nd rfl (.inl rfl) (pe_call G_Lcl (hr.mono (by decide)) (by rfl) g_Lcl k_Lcl b_Lcl .nil pass0 (pa_cons (pv 12) (pa_cons (pv 1) (pa_cons (pv 2) (pa_cons (pv 6) pa_nil)))))) (pss_one (ps_if (PW.pt (pw_and (pt_cmpR op_notNn (pv 13) pe_non (nomark _)) (pw_and (pt_cmpR op_le (pe_callB call_lenS (by rfl) B.len PySem.boot_len (pa_cons (pe_ix ix_tup (pv 13) pe_int (fun _ _ => rfl)) pa_nil)) pe_int (nomark _)) (pw_and1 (pt_cmpR op_le (pe_callB call_lenS (by rfl) B.len PySem.boot_len (pa_cons (pe_ix ix_tup (pv 13) pe_int (fun _ _ => rfl)) pa_nil)) pe_int (nomark _)))))) (pss_one (ps_expr (pe_bm PySem.F.plainAttrs_list PySem.F.slot_list_append PySem.F.type_list_append mt_append (pv 4) (pa_cons (pv 12) pa_nil)))) pss_nil)))))))))))) (pss_one (ps_ret (pv 4))))), ?_⟩
    walk_at "go"
    refine w_newT (by walk_at "sz") (fun t0 H1 ht0 nt0 => ?_)
    walk_at "go"
    refine w_newL (by walk_at "sz") (fun r H2 hr2 nr2 => ?_)
    have B2 := (hB.nw nt0).nw nr2
    have rb := (hB.nw nt0).ne nr2.nn
    have rl := (hB.nw nt0).neL nr2.nn
    have nrH : H r = none := nt0.same.free nr2.nn
    have f20 : Fx b H H2 := (Fx.refl.nw nt0).nw nr2
    walk_at "go"
    refine w_kRng1 (by omega) (by omega) ?_
    refine w_range (fun i σ H3 => ∃ (y5 y6 y7 y8 y9 y10 y11 y12 y13 : Option V) (ur : List V) (rows : List Row), σ = [some (.ref b), some (.ref fa), some (.ref li), some (.int (n : Int)), some (.ref r), y5, y6, y7, y8, y9, y10, y11, y12, y13] ∧ H3 r = some (.lst ur) ∧ Paired (RwAt H3) ur rows ∧ Ppr Fs L rows ∧ 1 ≤ rows.length ∧ rows.length ≤ i + 1 ∧ Bag H3 b l ∧ Fx b H H3)
      ⟨none, none, none, none, none, none, none, none, none, [.ref t0], [(Str.ofString "start", [])], rfl, hr2, .cons ⟨t0, rfl, nr2.at ht0⟩ .nil, ⟨fun x hx => ?_, _, rfl, fun c hc => ?_⟩, by decide, by decide, B2, f20⟩ ?_ ?_
    · rw [List.mem_singleton.mp hx]
      exact ⟨by decide +kernel, fun v hv => absurd hv (by simp), by decide⟩
    · rw [List.mem_singleton.mp hc]
      exact ⟨by rw [len_empty]; omega, by rw [len_empty]; omega⟩
    · rintro i σ H3 hi ⟨y5, y6, y7, y8, y9, y10, y11, y12, y13, ur, rows, rfl, hr3, hR3, ⟨rok, cs, run3, c60⟩, hl1, hl2, B3, f3⟩
      have eur : ur.length = rows.length := Paired.length hR3
      have hi : i < n := by omega
      have bcs : Bnd 60 cs := fun c hc => ⟨(run_wd bF bL (by decide) (fun c hc => absurd hc (by simp)) run3 c hc).1, (run_wd bF bL (by decide) (fun c hc => absurd hc (by simp)) run3 c hc).2, (c60 c hc).1, (c60 c hc).2⟩
      have lim : Lim Fs L rows := fun n ds e c hc => (bcs.mono (by decide)) c (run_pre run3 e c hc)
      walk_at "go"
      refine ⟨fa, li, r, ua, ub, ur, Fs, L, rows, rfl, f3.at fab hfa, hF.tps (.fx hB f3), f3.at lib hli, hL.tps (.fx hB f3), hr3, hR3, bF.mono (by decide), bL.mono (by decide), lim, by omega, fun x hx => ⟨(rok x hx).2.1, by have := (rok x hx).2.2; omega⟩, fun cs' run' m um H4 nm hm hc4 s4 => ?_, fun n' cs' x hx run' bad => absurd run3 (by rw [runM_none hx run' bad]; exact fun z => nomatch z)⟩
      rw [run3] at run'
      cases run'
      have ecs : cs.length = rows.length := run_len run3
      have eum : um.length = cs.length := Paired.length hc4
      have B4 := B3.same s4
      have mb := B3.ne nm
      have mr : m ≠ r := fun z => by rw [z, hr3] at nm; cases nm
      have hr4 := s4.at hr3
      walk_at "go"
      refine ⟨b, l, _, rfl, B4, by omega, by omega, fun ja H5 a0 a1 B5 f5 => ?_⟩
      walk_at "go"
      have hr5 := f5.at rb hr4
      refine ⟨b, l, _, rfl, B5, by omega, by omega, fun jb H6 b0 b1 B6 f6 => ?_⟩
      walk_at "go"
      refine w_newT (by walk_at "sz") (fun t7 H7 ht7 nt7 => ?_)
      walk_at "go"
      have hr7 : H7 r = some (.lst ur) := nt7.at (f6.at rb hr5)
      have hm7 : H7 m = some (.lst um) := nt7.at (f6.at mb (f5.at mb hm))
      have hc7 : PrsAt H7 um cs := hc4.tps (((Tps.fx B4 f5).trans (.fx B5 f6)).trans (.of nt7.same))
      obtain ⟨ua', hua⟩ : ∃ v, um[ja.toNat]? = some v := ⟨_, List.getElem?_eq_getElem (by omega)⟩
      obtain ⟨ca, hca, ta, rfl, hta⟩ := paired_get hc7 hua
      obtain ⟨ca1, ca2, ca3, ca4⟩ := bcs ca (List.mem_of_getElem? hca)
      refine w_kRng1 (by omega) (by omega) ?_
      refine w_lcR (lo := 0) (fun g k HX => Same H7 HX ∧ H7 g = none ∧ ∃ ns : List Int, HX g = some (.lst (ns.map V.int)) ∧ ns.length ≤ k ∧ ∀ x ∈ ns, 0 ≤ x ∧ x < (rows.length : Int)) (fun g HX hg ng => ⟨ng.same, ng.nn, [], hg, by decide, fun x hx => absurd hx (by simp)⟩) ?_ ?_
      · rintro g k HX hk ⟨s8, ng, ns, hg, hnl, hns⟩
        have hk : k < rows.length := by omega
        obtain ⟨uk, huk⟩ : ∃ v, um[k]? = some v := ⟨_, List.getElem?_eq_getElem (by omega)⟩
        obtain ⟨ck, hck, tk, rfl, htk⟩ := paired_get hc7 huk
        obtain ⟨ck1, ck2, ck3, ck4⟩ := bcs ck (List.mem_of_getElem? hck)
        have hck60 := c60 ck (List.mem_of_getElem? hck)
        have hca60 := c60 ca (List.mem_of_getElem? hca)
        walk_at "go"
        refine w_ixL (s8.at hm7) (at_of (j := k) (Int.zero_add _) huk) ?_
        have htk8 := s8.at htk
        have hta8 := s8.at hta
        walk_at "go"
        refine w_ixL (s8.at hm7) (at_of (j := ja.toNat) (by omega) hua) ?_
        walk_at "go"
        refine w_lenS (lnM (by omega)) ?_
        walk_at "go"
        refine w_slS (lnM (by omega)) ?_
        walk_at "go"
        refine w_ixL (s8.at hm7) (at_of (j := ja.toNat) (by omega) hua) ?_
        walk_at "go"
        refine w_tst2 (fun _ => ?_) (fun _ => ⟨s8, ng, ns, hg, by omega, hns⟩)
        walk_at "go"
        refine w_kIt hg (by rw [List.length_map]; exact lineLt_of (by omega)) (fun H5' h5 o5 => ⟨s8.off o5 ng, ng, ns ++ [0 + (k : Int)], ?_, ?_, fun x hx => ?_⟩)
        · rw [h5, List.map_append]
          rfl
        · rw [List.length_append, List.length_singleton]
          omega
        · rcases List.mem_append.mp hx with hx | hx
          · exact hns x hx
          · rw [List.mem_singleton.mp hx]
            omega
      · rintro g HX ⟨s8, ng, ns, hg, hnl, hns⟩
        walk_at "go"
        refine w_newL (by walk_at "sz") (fun e0 H9 he0 ne0 => ?_)
        have hg9 := ne0.at hg
        refine w_neNilI hg9 he0 ?_
        walk_at "go"
        refine w_meetE (R := fun v H' => (∃ j : Int, v = .int j) ∧ H9 = H') ?_ fun key => ?_
        rotate_left
        · refine w_ifEB (fun e => ?_) (fun e => ?_)
          · have hne : 0 < ns.length := by
              cases ns with
              | nil => cases e
              | cons x xs => rw [List.length_cons]; omega
            walk_at "go"
            refine w_i (by rw [List.length_map]; omega) ?_
            have hx0 : (jb % ((ns.map V.int).length : Int)).toNat < ns.length := by
              rw [List.length_map]
              have := Int.emod_lt_of_pos jb (show (0 : Int) < ns.length by omega)
              have := Int.emod_nonneg jb (show (ns.length : Int) ≠ 0 by omega)
              omega
            refine w_ixL hg9 (at_of (j := (jb % ((ns.map V.int).length : Int)).toNat) ?_ (by rw [List.getElem?_map, List.getElem?_eq_getElem hx0]; rfl)) ?_
            · rw [List.length_map]
              have := Int.emod_nonneg jb (show (ns.length : Int) ≠ 0 by omega)
              omega
            · exact key _ _ ⟨⟨_, rfl⟩, rfl⟩
          · refine w_var rfl ?_
            exact key _ _ ⟨⟨_, rfl⟩, rfl⟩
        rintro _ _ ⟨⟨jc, rfl⟩, rfl⟩
        have s9 : Same H7 H9 := s8.trans ne0.same
        have B7 := B6.nw nt7
        have B9 := B7.same s9
        walk_at "go"
        have hfa9 : H9 fa = some (.lst ua) := s9.at (nt7.at (f6.at fab (f5.at fab (s4.at (f3.at fab hfa)))))
        have hli9 : H9 li = some (.lst ub) := s9.at (nt7.at (f6.at lib (f5.at lib (s4.at (f3.at lib hli)))))
        have eua : ua.length = Fs.length := Paired.length hF
        have eub : ub.length = L.length := Paired.length hL
        refine ⟨b, l, _, rfl, B9, by omega, by omega, fun jd H10 d0 d1 B10 f10 => ?_⟩
        walk_at "go"
        refine w_newT (by walk_at "sz") (fun w1 H11 hw1 nw1 => ?_)
        walk_at "go"
        refine w_newT (by walk_at "sz") (fun w2 H12 hw2 nw2 => ?_)
        walk_at "go"
        refine w_newT (by walk_at "sz") (fun w3 H13 hw3 nw3 => ?_)
        walk_at "go"
        refine w_newT (by walk_at "sz") (fun w4 H14 hw4 nw4 => ?_)
        walk_at "go"
        refine w_newT (by walk_at "sz") (fun w5 H15 hw5 nw5 => ?_)
        walk_at "go"
        refine w_newL (by walk_at "sz") (fun mn H16 hmn nmn => ?_)
        walk_at "go"
        have hca60 := c60 ca (List.mem_of_getElem? hca)
        have f16 : Fx b H9 H16 := (((((f10.nw nw1).nw nw2).nw nw3).nw nw4).nw nw5).nw nmn
        have B15 := ((((B10.nw nw1).nw nw2).nw nw3).nw nw4).nw nw5
        have B16 := B15.nw nmn
        have mnb := B15.ne nmn.nn
        have mnl := B15.neL nmn.nn
        have nmn9 : H9 mn = none := fx_free (((((f10.nw nw1).nw nw2).nw nw3).nw nw4).nw nw5) mnb nmn.nn
        have g1 : RgAt H16 (.ref w1) := rg_mk (nmn.at (nw5.at (nw4.at (nw3.at (nw2.at hw1))))) (by decide +kernel) (args_c (argI _) args0) (Nat.le_of_ble_eq_true rfl)
        have g2 : RgAt H16 (.ref w2) := rg_mk (nmn.at (nw5.at (nw4.at (nw3.at hw2)))) (by decide +kernel) (args_c (argI _) args0) (Nat.le_of_ble_eq_true rfl)
        have g3 : RgAt H16 (.ref w3) := rg_mk (nmn.at (nw5.at (nw4.at hw3))) (by decide +kernel) (args_c (argI _) (args_c (argI _) args0)) (Nat.le_of_ble_eq_true rfl)
        have g4 : RgAt H16 (.ref w4) := rg_mk (nmn.at (nw5.at hw4)) (by decide +kernel) (args_c (argI _) args0) (Nat.le_of_ble_eq_true rfl)
        have g5 : RgAt H16 (.ref w5) := rg_mk (nmn.at hw5) (by decide +kernel) (args_c (argI _) (args_c (argI _) args0)) (Nat.le_of_ble_eq_true rfl)
        have hm9 : H9 m = some (.lst um) := s9.at hm7
        have hta9 := s9.at hta
        have hta16 := (Tps.fx B9 f16) _ _ hta9
        refine w_ixL (f16.at mb hm9) (at_of (j := ja.toNat) (by omega) hua) ?_
        walk_at "go"
        refine w_lenS (lnM (by omega)) ?_
        walk_at "go"
        refine ⟨b, l, _, rfl, B16, by omega, by omega, fun je H17 e0 e1 B17 f17 => ?_⟩
        walk_at "go"
        refine w_newT (by walk_at "sz") (fun w6 H18 hw6 nw6 => ?_)
        walk_at "go"
        have hmn18 := nw6.at (f17.at mnb hmn)
        refine w_append hmn18 (lineLt_of (Nat.le_of_ble_eq_true rfl)) (fun H19 hmn19 o19 => ?_)
        have t19 : Tps H16 H19 := ((Tps.fx B16 f17).trans (.of nw6.same)).trans (Tps.refl.off hmn18 o19)
        have f19 : Fx b H9 H19 := ((f16.trans f17).nw nw6).off o19 nmn9
        have B19 := (B17.nw nw6).off mnb mnl o19
        have g6 : RgAt H19 (.ref w6) := rg_mk (o19.at (nw6.ne (f17.at mnb hmn)).symm hw6) (by decide +kernel) (args_c (argI _) (args_c (argI _) args0)) (Nat.le_of_ble_eq_true rfl)
        have hli19 := f19.at lib hli9
        walk_at "go"
        refine ⟨b, l, _, rfl, B19, by omega, by omega, fun jf H20 f0 f1 B20 f20' => ?_⟩
        walk_at "go"
        refine ⟨b, l, 2, rfl, B20, by decide, by decide, fun jg H21 h0 h1 B21 f21 => ?_⟩
        walk_at "go"
        refine w_newT (by walk_at "sz") (fun w7 H22 hw7 nw7 => ?_)
        walk_at "go"
        have hmn21 := f21.at mnb (f20'.at mnb hmn19)
        have hmn22 := nw7.at hmn21
        refine w_append hmn22 (lineLt_of (Nat.le_of_ble_eq_true rfl)) (fun H23 hmn23 o23 => ?_)
        have t23 : Tps H19 H23 := (((Tps.fx B19 f20').trans (.fx B20 f21)).trans (.of nw7.same)).trans (Tps.refl.off hmn22 o23)
        have f23 : Fx b H9 H23 := (((f19.trans f20').trans f21).nw nw7).off o23 nmn9
        have B23 := (B21.nw nw7).off mnb mnl o23
        have g7 : RgAt H23 (.ref w7) := rg_mk (o23.at (nw7.ne hmn21).symm hw7) (by decide +kernel) (args_c (argI _) (args_c (argI _) (args_c (argB _) args0))) (Nat.le_of_ble_eq_true rfl)
        walk_at "go"
        refine w_newT (by walk_at "sz") (fun w8 H24 hw8 nw8 => ?_)
        walk_at "go"
        have B24 := B23.nw nw8
        refine ⟨b, l, 2, rfl, B24, by decide, by decide, fun jh H25 i0 i1 B25 f25 => ?_⟩
        walk_at "go"
        refine w_newT (by walk_at "sz") (fun w9 H26 hw9 nw9 => ?_)
        walk_at "go"
        refine w_newL (by walk_at "sz") (fun e5 H27 he5 ne5 => ?_)
        walk_at "go"
        have hmn27 := ne5.at (nw9.at (f25.at mnb (nw8.at hmn23)))
        refine w_cat hmn27 he5 (lnM (Nat.le_of_ble_eq_true rfl)) (fun mm H28 hmm nmm => ?_)
        walk_at "go"
        have B27 := (B25.nw nw9).nw ne5
        have B28 := B27.nw nmm
        have mmb := B27.ne nmm.nn
        have t28 : Tps H23 H28 := ((((Tps.of nw8.same).trans (.fx B24 f25)).trans (.of nw9.same)).trans (.of ne5.same)).trans (.of nmm.same)
        have f28 : Fx b H9 H28 := ((((f23.nw nw8).trans f25).nw nw9).nw ne5).nw nmm
        have w8b := B23.ne nw8.nn
        have g8 : RgAt H28 (.ref w8) := rg_mk (nmm.at (ne5.at (nw9.at (f25.at w8b hw8)))) (by decide +kernel) (args_c (argI _) args0) (Nat.le_of_ble_eq_true rfl)
        have g9 : RgAt H28 (.ref w9) := rg_mk (nmm.at (ne5.at hw9)) (by decide +kernel) (args_c (argI _) (args_c (argI _) (args_c (argB _) args0))) (Nat.le_of_ble_eq_true rfl)
        refine ⟨b, l, mm, _, rfl, B28, hmm, mmb, Nat.le_of_ble_eq_true rfl, Nat.le_of_ble_eq_true rfl, fun v H29 hv B29 f29 => ?_⟩
        have t29 : Tps H28 H29 := .fx B28 f29
        have gv : RgAt H29 v := by
          simp only [List.cons_append, List.nil_append, List.mem_cons, List.not_mem_nil, or_false] at hv
          rcases hv with rfl | rfl | rfl | rfl | rfl | rfl | rfl | rfl | rfl
          · exact g1.tps (((t19.trans t23).trans t28).trans t29)
          · exact g2.tps (((t19.trans t23).trans t28).trans t29)
          · exact g3.tps (((t19.trans t23).trans t28).trans t29)
          · exact g4.tps (((t19.trans t23).trans t28).trans t29)
          · exact g5.tps (((t19.trans t23).trans t28).trans t29)
          · exact g6.tps ((t23.trans t28).trans t29)
          · exact g7.tps (t28.trans t29)
          · exact g8.tps t29
          · exact g9.tps t29
        obtain ⟨row, ⟨tv, rfl, htv⟩, gz, ga, gl⟩ := gv
        have f930 : Fx b H9 H29 := f28.trans f29
        have t930 : Tps H9 H29 := .fx B9 f930
        have t39 : Tps H3 H9 := (((Tps.of s4).trans (.fx B4 f5)).trans (.fx B5 f6)).trans (.of (nt7.same.trans s9))
        have hr29 : H29 r = some (.lst ur) := f930.at rb (s9.at hr7)
        have hm29 := f930.at mb hm9
        have hR29 : Paired (RwAt H29) ur rows := rw_tps (t39.trans t930) hR3
        have f29' : Fx b H H29 := ((((f3.same s4).trans f5).trans f6).same (nt7.same.trans s9)).trans f930
        walk_at "go"
        refine ⟨tv, fa, li, m, ua, ub, um, Fs, L, cs, row, 60, rfl, htv, ga, by omega, f930.at fab hfa9, hF.tps (.fx hB f29'), f930.at lib hli9, hL.tps (.fx hB f29'), hm29, (hc7.tps (.of s9)).tps t930, bF, bL, bcs, by decide, fun d t' H30 hd ht' s30 => ?_, fun hd H30 s30 => ?_⟩
        · obtain ⟨d1, d2, d3, d4⟩ := claim_bnd bF bL bcs (by decide) hd
          have B30 := B29.same s30
          walk_at "go"
          refine w_andN2 (fun _ => ?_) (fun z => nomatch z)
          walk_at "go"
          refine w_lenS (lnM (by omega)) ?_
          walk_at "go"
          refine w_and2 (fun l1 => ?_) (fun _ => ?_)
          · walk_at "go"
            refine w_lenS (lnM (by omega)) ?_
            walk_at "go"
            refine w_if2 (fun l2 => ?_) (fun _ => ?_)
            · walk_at "go"
              refine w_append (s30.at hr29) (lineLt_of (by omega)) (fun H31 hr31 o31 => ?_)
              walk_at "go"
              have tvr : tv ≠ r := fun z => by rw [z, hr29] at htv; cases htv
              refine ⟨_, _, _, _, _, _, _, _, _, ur ++ [.ref tv], rows ++ [row], rfl, hr31, paired_snocR (rw_tps (Tps.refl.off (s30.at hr29) o31) (rw_tps (.of s30) hR29)) ⟨tv, rfl, o31.at tvr (s30.at htv)⟩, ⟨fun x hx => ?_, cs ++ [d], ?_, fun c hc => ?_⟩, by rw [List.length_append]; omega, by rw [List.length_append, List.length_singleton]; omega, B30.off rb rl o31, (f29'.same s30).off o31 nrH⟩
              · rcases List.mem_append.mp hx with hx | hx
                · exact rok x hx
                · rw [List.mem_singleton.mp hx]
                  exact ⟨gz, ga, gl⟩
              · rw [runM_app, run3]
                show (claimM Fs L cs row.1 row.2).bind _ = _
                rw [hd]
                rfl
              · rcases List.mem_append.mp hc with hc | hc
                · exact c60 c hc
                · rw [List.mem_singleton.mp hc]
                  exact ⟨by omega, by omega⟩
            · walk_at "go"
              exact ⟨_, _, _, _, _, _, _, _, _, ur, rows, rfl, s30.at hr29, rw_tps (.of s30) hR29, ⟨rok, cs, run3, c60⟩, hl1, by omega, B30, f29'.same s30⟩
          · walk_at "go"
            exact ⟨_, _, _, _, _, _, _, _, _, ur, rows, rfl, s30.at hr29, rw_tps (.of s30) hR29, ⟨rok, cs, run3, c60⟩, hl1, by omega, B30, f29'.same s30⟩
        · walk_at "go"
          exact ⟨_, _, _, _, _, _, _, _, _, ur, rows, rfl, s30.at hr29, rw_tps (.of s30) hR29, ⟨rok, cs, run3, c60⟩, hl1, by omega, B29.same s30, f29'.same s30⟩
    · rintro σ H3 ⟨y5, y6, y7, y8, y9, y10, y11, y12, y13, ur, rows, rfl, hr3, hR3, pp3, hl1, hl2, B3, f3⟩
      walk_at "go"
      exact q r ur rows H3 nrH hr3 hR3 pp3 hl1 (by omega) B3 f3
end
end Sf
namespace Sf
open PySem PySem.Spec PyProof.Rows L2 TL
section
variable {P : Program} {w : World} {K : PySem.W.Frag} {mg : Str → Option Value} {base : Heap} {C CS fS CW fW : Addr} {fdW : FuncData}
/-! ### BadWord -/
theorem sc_bwd : FnScope ["self"] ["self"] (defScope s_BadWord___init__) := ⟨rfl, rfl, rfl, by decide +kernel, rfl, by decide +kernel, by decide +kernel⟩
theorem ok_bwd {f : Addr} {fd fdS : FuncData} (F : Fun K "__init__" "BadWord.__init__" s_BadWord___init__ f fd) (S : SE K mg CS fS) (FS : FunD K "__init__" "SpoorError.__init__" s_SpoorError___init__ fS fdS) (bS : Binds K fdS ["self", "word", "message"] []) : FnOk P w K mg base CX0 2 f fd ["self"] (spEx K (Str.ofString "badword")) := by
  refine F.ok sc_bwd (fun vs H Q E h => ?_) (fun cdv A outer s H vs Q E hr h => ?_)
  · obtain ⟨a, C, rfl, _⟩ := h
    rfl
  · obtain ⟨a, C, rfl, ox, nw, ha, q⟩ := h
    have GS : FnOk P w K mg base CX0 1 fS fdS ["self", "word", "message"] (spSE K) := ok_se FS S
    refine ⟨_, pss_one (ps_expr (pe_clsFn (pe_glob (v := .ref CS) (by rfl) S.gC rfl) S.rd S.ga S.at_ GS hr FS.kp bS pass0 (pa_cons (pv 0) (pa_cons pe_str (pa_cons pe_str pa_nil))))), ?_⟩
    exact ⟨rfl, _, rfl, a, C, _, _, rfl, ox, nw, ha, fun dx n ne => q dx n ne⟩
/-- BadWord is raised -/
def XEw (CW : Addr) (H : Hp) (E : XK) : Prop := ∀ (d : Addr) (H' : Hp), H d = none → H' d = some (.xd [(("word" : Str), .str (Str.ofString "badword"))]) → Same H H' → E (.ref CW) (some d) H'
theorem XEw.same {H H1 : Hp} {E : XK} (h : XEw CW H E) (s : Same H H1) : XEw CW H1 E := fun d H' nd hd s' => h d H' (s.free nd) hd (s.trans s')
def spNeX (CW : Addr) : Sp := fun vs H Q E => ∃ x : Str, vs = [.str x] ∧ x.length ≤ 100000 ∧ (isW x = true → ∀ H', Same H H' → Q .non H') ∧ (isW x = false → XEw CW H E)
theorem has_neX (F : FnAt K mg "need_word" s_need_word ["text"]) (h_Iw : HasIsWord P w K mg base) (T_BadWord : EC K mg "BadWord" CW fW) (G_BadWord : FnOk P w K mg base CX0 2 fW fdW ["self"] (spEx K (Str.ofString "badword"))) (b_BadWord : Binds K fdW ["self"] []) : HasX P w K mg base 4 "need_word" ["text"] (spNeX CW) := by
  obtain ⟨f, fd, g, F, bb⟩ := F
  refine ⟨f, fd, g, F.kp, bb, ?_⟩
  obtain ⟨f_Iw, fd_Iw, g_Iw, k_Iw, b_Iw, G_Iw⟩ := h_Iw
  refine F.okX sc_need (fun vs H Q E h => ?_) (fun cdv A outer s H vs Q E hr h => ?_)
  · obtain ⟨x, rfl, _⟩ := h
    rfl
  · obtain ⟨x, rfl, hx, q1, q2⟩ := h
    refine ⟨_, (pss_one (ps_if (pt_not (pt_val (pe_call G_Iw (hr.mono (by decide)) (by rfl) g_Iw k_Iw b_Iw .nil pass0 (pa_cons (pv 0) pa_nil)))) (pss_one (ps_raise rfl (takes_of rfl rfl rfl rfl) (pmk_oex0 T_BadWord.ox T_BadWord.iC T_BadWord.tI G_BadWord (hr.mono (by decide)) b_BadWord pass0 (by rfl) T_BadWord.gC))) pss_nil)), ?_⟩
    walk_at "go"
    refine ⟨x, rfl, hx, fun H1 s1 => ?_⟩
    cases e : isW x with
    | true =>
      walk_at "go"
      exact q1 e H1 s1
    | false =>
      walk_at "go"
      exact w_mkO T_BadWord (fun d H' nd hd s' => q2 e d H' (s1.free nd) hd (s1.trans s'))
def spNwsX (CW : Addr) : Sp := fun vs H Q E => ∃ (a : Addr) (x y : Str), vs = [.ref a] ∧ H a = some (.tup [.str x, .str y]) ∧ x.length ≤ 100000 ∧ y.length ≤ 100000 ∧ ((isW x && isW y) = true → ∀ H', Same H H' → Q .non H') ∧ ((isW x && isW y) = false → XEw CW H E)
theorem has_nwsX (F : FnAt K mg "need_words" s_need_words ["texts"]) (h_Ne : HasX P w K mg base 4 "need_word" ["text"] (spNeX CW)) : HasX P w K mg base 5 "need_words" ["texts"] (spNwsX CW) := by
  obtain ⟨f, fd, g, F, bb⟩ := F
  refine ⟨f, fd, g, F.kp, bb, ?_⟩
  obtain ⟨f_Ne, fd_Ne, g_Ne, k_Ne, b_Ne, G_Ne⟩ := h_Ne
  refine F.okX sc_nws (fun vs H Q E h => ?_) (fun cdv A outer s H vs Q E hr h => ?_)
  · obtain ⟨a, x, y, rfl, _⟩ := h
    rfl
  · obtain ⟨a, x, y, rfl, ha, lx, ly, q1, q2⟩ := h
    refine ⟨_, (pss_one (ps_for (passes_of rfl) rfl (pi_tup (pv 0)) (pg_name (i := 1) sc_nws.nd rfl (.inl rfl)) (pss_one (ps_expr (pe_call G_Ne (hr.mono (by decide)) (by rfl) g_Ne k_Ne b_Ne .nil (passes_call (takes_of rfl rfl rfl rfl) (fun _ _ _ _ h => h)) (pa_cons (pv 1) pa_nil)))))), ?_⟩
    walk_at "go"
    refine w_tupF (xs := [V.str x, V.str y]) (fun i σ H2 => ∃ (y1 : Option V), σ = [some (.ref a), y1] ∧ Same H H2 ∧ (1 ≤ i → isW x = true) ∧ (2 ≤ i → isW y = true)) ⟨none, rfl, .refl _, fun z => absurd z (by decide), fun z => absurd z (by decide)⟩ (fun i σ H2 _ ⟨_, _, h, _⟩ => h _ _ ha) ?_ ?_
    · rintro i v σ H2 hv ⟨y1, rfl, s2, i1, i2⟩
      match i, hv with
      | 0, hv =>
        cases hv
        walk_at "go"
        refine ⟨x, rfl, lx, fun e H3 s3 => ?_, fun e => (q2 (by rw [e]; rfl)).same s2⟩
        walk_at "go"
        exact ⟨_, rfl, s2.trans s3, fun _ => e, fun z => absurd z (by decide)⟩
      | 1, hv =>
        cases hv
        walk_at "go"
        refine ⟨y, rfl, ly, fun e H3 s3 => ?_, fun e => (q2 (by rw [e, Bool.and_false])).same s2⟩
        walk_at "go"
        exact ⟨_, rfl, s2.trans s3, fun _ => i1 (by decide), fun _ => e⟩
    · rintro σ H2 ⟨y1, rfl, s2, i1, i2⟩
      walk_at "go"
      exact q1 (by rw [i1 (Nat.le_of_ble_eq_true rfl), i2 (Nat.le_of_ble_eq_true rfl)]; rfl) _ s2
def okP (m : Str × Str) : Bool := isW m.1 && isW m.2
def spNpX (CW : Addr) : Sp := fun vs H Q E => ∃ (a : Addr) (us : List V) (ms : List (Str × Str)), vs = [.ref a] ∧ H a = some (.lst us) ∧ PrsAt H us ms ∧ (∀ m ∈ ms, m.1.length ≤ 100000 ∧ m.2.length ≤ 100000) ∧ (ms.all okP = true → ∀ H', Same H H' → Q .non H') ∧ (ms.all okP = false → XEw CW H E)
theorem has_npX (F : FnAt K mg "need_pairs" s_need_pairs ["pairs"]) (h_Nw : HasX P w K mg base 5 "need_words" ["texts"] (spNwsX CW)) : HasX P w K mg base 6 "need_pairs" ["pairs"] (spNpX CW) := by
  obtain ⟨f, fd, g, F, bb⟩ := F
  refine ⟨f, fd, g, F.kp, bb, ?_⟩
  obtain ⟨f_Nw, fd_Nw, g_Nw, k_Nw, b_Nw, G_Nw⟩ := h_Nw
  refine F.okX sc_np (fun vs H Q E h => ?_) (fun cdv A outer s H vs Q E hr h => ?_)
  · obtain ⟨a, us, ms, rfl, _⟩ := h
    rfl
  · obtain ⟨a, us, ms, rfl, ha, hm, hl, q1, q2⟩ := h
    refine ⟨_, (pss_one (ps_for (passes_of rfl) rfl (pi_list (pv 0)) (pg_name (i := 1) sc_np.nd rfl (.inl rfl)) (pss_one (ps_expr (pe_call G_Nw (hr.mono (by decide)) (by rfl) g_Nw k_Nw b_Nw .nil (passes_call (takes_of rfl rfl rfl rfl) (fun _ _ _ _ h => h)) (pa_cons (pv 1) pa_nil)))))), ?_⟩
    have el : us.length = ms.length := Paired.length hm
    walk_at "go"
    refine w_list (xs := us) (fun i σ H2 => ∃ (y1 : Option V), σ = [some (.ref a), y1] ∧ Same H H2 ∧ (ms.take i).all okP = true) ⟨none, rfl, .refl _, rfl⟩ (fun i σ H2 _ ⟨_, _, h, _⟩ => h _ _ ha) ?_ ?_
    · rintro i v σ H2 hv ⟨y1, rfl, s2, hi⟩
      obtain ⟨m, hm', t, rfl, ht⟩ := paired_get (hm.tps (.of s2)) hv
      obtain ⟨l1, l2⟩ := hl m (List.mem_of_getElem? hm')
      walk_at "go"
      refine ⟨t, m.1, m.2, rfl, ht, l1, l2, fun e H3 s3 => ?_, fun e => (q2 ?_).same s2⟩
      · walk_at "go"
        refine ⟨_, rfl, s2.trans s3, ?_⟩
        rw [take_snoc hm', List.all_append, hi]
        show (okP m && true) = true
        rw [Bool.and_true]
        exact e
      · rw [Bool.eq_false_iff]
        intro z
        have := List.all_eq_true.mp z m (List.mem_of_getElem? hm')
        rw [show okP m = false from e] at this
        cases this
    · rintro σ H2 ⟨y1, rfl, s2, hi⟩
      rw [el, List.take_length] at hi
      walk_at "go"
      exact q1 hi _ s2
end
end Sf
namespace Sf
open PySem PySem.Spec PyProof.Rows L2 TL
section
variable {P : Program} {w : World} {K : PySem.W.Frag} {mg : Str → Option Value} {base : Heap} {C CB fB CW pT : Addr}
theorem okP_bnd {F : List Clm} (h : Bnd 60 F) : F.all okP = true := List.all_eq_true.mpr fun c hc => by
  obtain ⟨h1, h2, h3, h4⟩ := h c hc
  unfold okP
  rw [isW_true h1 h3, isW_true h2 h4]
  rfl
/-! ### claims -/
def spCms (K : PySem.W.Frag) (w : World) (pT CB CW : Addr) : Sp := fun vs H Q E => ∃ (a b r : Addr) (ua ub : List V) (F L : List Clm), vs = [.ref a, .ref b, .ref r] ∧ H a = some (.lst ua) ∧ PrsAt H ua F ∧ H b = some (.lst ub) ∧ PrsAt H ub L ∧ (∀ m ∈ F, m.1.length ≤ 100000 ∧ m.2.length ≤ 100000) ∧
  ((F.all okP = false ∧ XEw CW H E) ∨ (Bnd 60 F ∧ Bnd 60 L ∧ ∀ H', Same H H' → spCM K w pT CB vs H' Q E))
theorem sc_cms : FnScope ["facts", "likenesses", "rows"] ["facts", "likenesses", "rows"] (defScope s_claims) := ⟨rfl, rfl, rfl, by decide +kernel, rfl, by decide +kernel, by decide +kernel⟩
theorem has_cms (F : FnAt K mg "claims" s_claims ["facts", "likenesses", "rows"]) (h_Np : HasX P w K mg base 6 "need_pairs" ["pairs"] (spNpX CW)) (h_CM : HasX P w K mg base 8 "claims_made" ["facts", "likenesses", "rows"] (spCM K w pT CB)) : HasX P w K mg base 9 "claims" ["facts", "likenesses", "rows"] (spCms K w pT CB CW) := by
  obtain ⟨f, fd, g, F, bb⟩ := F
  refine ⟨f, fd, g, F.kp, bb, ?_⟩
  obtain ⟨f_Np, fd_Np, g_Np, k_Np, b_Np, G_Np⟩ := h_Np
  obtain ⟨f_CM, fd_CM, g_CM, k_CM, b_CM, G_CM⟩ := h_CM
  refine F.okX sc_cms (fun vs H Q E h => ?_) (fun cdv A outer s H vs Q E hr h => ?_)
  · obtain ⟨a, b, r, ua, ub, Fs, L, rfl, _⟩ := h
    rfl
  · obtain ⟨a, b, r, ua, ub, Fs, L, rfl, ha, hF, hb, hL, lF, q⟩ := h
    refine ⟨_, (pss_cons (ps_expr (pe_call G_Np (hr.mono (by decide)) (by rfl) g_Np k_Np b_Np .nil (passes_call (takes_of rfl rfl rfl rfl) (fun _ _ _ _ h => h)) (pa_cons (pv 0) pa_nil))) (pss_cons (ps_expr (pe_call G_Np (hr.mono (by decide)) (by rfl) g_Np k_Np b_Np .nil (passes_call (takes_of rfl rfl rfl rfl) (fun _ _ _ _ h => h)) (pa_cons (pv 1) pa_nil))) (pss_one (ps_ret (pe_call G_CM (hr.mono (by decide)) (by rfl) g_CM k_CM b_CM .nil (passes_call (takes_of rfl rfl rfl rfl) (fun _ _ _ _ h => h)) (pa_cons (pv 0) (pa_cons (pv 1) (pa_cons (pv 2) pa_nil)))))))), ?_⟩
    walk_at "go"
    rcases q with ⟨e, x⟩ | ⟨bF, bL, q⟩
    · exact ⟨a, ua, Fs, rfl, ha, hF, lF, (fun z => by rw [e] at z; cases z), fun _ => x⟩
    · refine ⟨a, ua, Fs, rfl, ha, hF, lF, fun _ H1 s1 => ?_, (fun z => by rw [okP_bnd bF] at z; cases z)⟩
      walk_at "go"
      refine ⟨b, ub, L, rfl, s1.at hb, hL.tps (.of s1), fun m hm => ⟨by have := (bL m hm).2.2.1; omega, by have := (bL m hm).2.2.2; omega⟩, fun _ H2 s2 => ?_, (fun z => by rw [okP_bnd bL] at z; cases z)⟩
      walk_at "go"
      exact q H2 (s1.trans s2)
/-! ### _law_told -/
def spTldP (K : PySem.W.Frag) (w : World) (pT : Addr) : Sp := fun vs H Q _ => ∃ (a b r : Addr) (ua ub ur : List V) (F L : List Clm) (rows : List Row) (B : Nat), vs = [.ref a, .ref b, .ref r] ∧ H a = some (.lst ua) ∧ PrsAt H ua F ∧ H b = some (.lst ub) ∧ PrsAt H ub L ∧ H r = some (.lst ur) ∧ Paired (RwAt H) ur rows ∧
  (∀ x ∈ rows, RowOk K w pT x) ∧ Bnd B F ∧ Bnd B L ∧ 1 ≤ B ∧ B ≤ 60 ∧ B * 2 ^ rows.length ≤ 8000000 ∧ rows.length ≤ 100 ∧
  (∀ cs, runM F L rows [] = some cs → ∀ m um H', H m = none → H' m = some (.lst um) → PrsAt H' um cs → Same H H' → Q (.ref m) H') ∧
  (∀ (n : Nat) (cs : List Clm) (x : Row), rows[n]? = some x → runM F L (rows.take n) [] = some cs → claimM F L cs x.1 x.2 = none → ∀ H', Same H H' → Q (.int (n : Int)) H')
theorem sc_tldP : FnScope ["_law_facts_here", "_law_likenesses_here", "_law_rows", "e"] ["_law_facts_here", "_law_likenesses_here", "_law_rows"] (defScope s__law_told) := ⟨rfl, rfl, rfl, by decide +kernel, rfl, by decide +kernel, by decide +kernel⟩
theorem has_tldP (F : FnAt K mg "_law_told" s__law_told ["_law_facts_here", "_law_likenesses_here", "_law_rows"]) (h_Cms : HasX P w K mg base 9 "claims" ["facts", "likenesses", "rows"] (spCms K w pT CB CW)) (T_BadPaper : EC K mg "BadPaper" CB fB) (nA : PySem.W.findIn K (.ref CB) "at" = some none) : Has P w K mg base 10 "_law_told" ["_law_facts_here", "_law_likenesses_here", "_law_rows"] (spTldP K w pT) := F.has fun F => by
  obtain ⟨f_Cms, fd_Cms, g_Cms, k_Cms, b_Cms, G_Cms⟩ := h_Cms
  refine F.ok sc_tldP (fun vs H Q E h => ?_) (fun cdv A outer s H vs Q E hr h => ?_)
  · obtain ⟨a, b, r, ua, ub, ur, Fs, L, rows, Bd, rfl, _⟩ := h
    rfl
  · obtain ⟨a, b, r, ua, ub, ur, Fs, L, rows, Bd, rfl, ha, hF, hb, hL, hr0, hR, rok, bF, bL, hB1, hB60, hB2, hrl, q1, q2⟩ := h
    refine ⟨_, pss_one (ps_try_as (i := 3) rfl rfl sc_tldP.nd rfl rfl ⟨rfl, by decide, .inl T_BadPaper.gC⟩ takes0
      (fun W pn xe tk _ => pss_one (ps_ret (pe_call G_Cms (hr.mono (by decide)) (by rfl) g_Cms k_Cms b_Cms .nil (passes_len 4 rfl tk) (pa_cons (pv 0) (pa_cons (pv 1) (pa_cons (pv 2) pa_nil))))))
      (fun a oe cls d pn hz hf => pss_one (ps_ret (pe_ifExp (pt_cmpR op_eq (pe_xf (C := CB) T_BadPaper.xf T_BadPaper.nw hz hf (pv 3)) pe_str (nomark _)) (pe_xf (C := CB) T_BadPaper.xf nA hz hf (pv 3)) pe_non)))), ?_⟩
    show tRet _ _ _ _
    walk_at "go"
    refine ⟨a, b, r, ua, ub, Fs, L, rfl, ha, hF, hb, hL, fun m hm => ⟨by have := (bF m hm).2.2.1; omega, by have := (bF m hm).2.2.2; omega⟩, .inr ⟨bF.mono hB60, bL.mono hB60, fun H1 s1 => ?_⟩⟩
    refine ⟨a, b, r, ua, ub, ur, Fs, L, rows, rfl, s1.at ha, hF.tps (.of s1), s1.at hb, hL.tps (.of s1), s1.at hr0, rw_tps (.of s1) hR, rok, bF.mono (by omega), bL.mono (by omega), lim_of bF bL hB1 hB2, hrl, fun cs hcs m um H5 nm hm hum s5 => q1 cs hcs m um H5 (s1.free nm) hm hum (s1.trans s5), fun n cs z hz hrun hno => ?_⟩
    intro d H5 nd hd s5 σ hσ
    have hσ : σ.length = 4 := hσ
    match σ, hσ with
    | [s0, s1', s2, s3], _ =>
      refine ⟨true, T_BadPaper.te, fun _ a na => ?_, fun z => nomatch z⟩
      show tRet _ _ _ _
      refine w_ret (w_ifE (w_test (w_op ?_)))
      refine ⟨_, rfl, rfl, rfl, d, _, _, rfl, hd, rfl, ?_⟩
      walk_at "go"
      refine w_ifE2 (fun _ => ?_) (fun z => absurd rfl z)
      refine ⟨_, rfl, rfl, rfl, d, _, _, rfl, hd, rfl, ?_⟩
      exact q2 n cs z hz hrun hno H5 (s1.trans s5)
end
end Sf
namespace Sf
open PySem PySem.Spec PyProof.Rows L2 TL
section
variable {P : Program} {w : World} {K : PySem.W.Frag} {mg : Str → Option Value} {base : Heap} {C CB fB CW pT : Addr}
/-! ### _law_bent_row -/
def RoAt (K : PySem.W.Frag) (w : World) (pT : Addr) (H : Hp) (v : V) : Prop := ∃ r, RwAt H v r ∧ RowOk K w pT r
theorem RoAt.tps {H H' : Hp} (s : Tps H H') {v : V} : RoAt K w pT H v → RoAt K w pT H' v
  | ⟨r, ⟨t, e, h⟩, g⟩ => ⟨r, ⟨t, e, s _ _ h⟩, g⟩
theorem rg_ok {r : Row} (h : RwG r) : RowOk K w pT r := by
  refine ⟨.inl h.1, ?_, h.2.1, h.2.2⟩
  have := h.1
  unfold wds7 at this
  simp only [List.mem_cons, List.not_mem_nil, or_false] at this
  rcases this with e | e | e | e | e | e | e <;> rw [e] <;> decide +kernel
theorem ro_mk {H : Hp} {t : Addr} {z : Str} {as : List V} (h : H t = some (.tup (.str z :: as))) (hz : z ∈ wds7) (ha : ∀ v ∈ as, argOk v) (hl : as.length ≤ 10) : RoAt K w pT H (.ref t) := ⟨(z, as), ⟨t, rfl, h⟩, rg_ok ⟨hz, ha, hl⟩⟩
theorem ro_mk0 {H : Hp} {t : Addr} {z : Str} {as : List V} (h : H t = some (.tup (.str z :: as))) (hz : z ∉ wds7) (hk : KMiss K w pT z) (hy : PyData.canLay0 (.str z) = true) (ha : ∀ v ∈ as, argOk v) (hl : as.length ≤ 10) : RoAt K w pT H (.ref t) := ⟨(z, as), ⟨t, rfl, h⟩, .inr ⟨hz, hk⟩, hy, ha, hl⟩
def spBnt (K : PySem.W.Frag) (w : World) (pT : Addr) : Sp := fun vs H Q _ => ∃ (b l r : Addr) (ur : List V), vs = [.ref b, .ref r] ∧ Bag H b l ∧ H r = some (.lst ur) ∧ r ≠ b ∧ 1 ≤ ur.length ∧ ur.length ≤ 100 ∧ ∀ (v : V) (H' : Hp), RoAt K w pT H' v → Bag H' b l → Fx b H H' → Q v H'
theorem sc_bnt : FnScope ["_law_bag", "_law_rows", "_law_at", "_law_far", "_law_odd"] ["_law_bag", "_law_rows"] (defScope s__law_bent_row) := ⟨rfl, rfl, rfl, by decide +kernel, rfl, by decide +kernel, by decide +kernel⟩
theorem has_bnt (F : FnAt K mg "_law_bent_row" s__law_bent_row ["_law_bag", "_law_rows"]) (B : Blt mg) (h_Pu : HasPull P w K mg base) (h_Lpk : HasLpk P w K mg base) (m0 : KMiss K w pT (Str.ofString "")) (m1 : KMiss K w pT (Str.ofString "begin")) : Has P w K mg base 3 "_law_bent_row" ["_law_bag", "_law_rows"] (spBnt K w pT) := F.has fun F => by
  obtain ⟨f_Pu, fd_Pu, g_Pu, k_Pu, b_Pu, G_Pu⟩ := h_Pu
  obtain ⟨f_Lpk, fd_Lpk, g_Lpk, k_Lpk, b_Lpk, G_Lpk⟩ := h_Lpk
  refine F.ok sc_bnt (fun vs H Q E h => ?_) (fun cdv A outer s H vs Q E hr h => ?_)
  · obtain ⟨b, l, r, ur, rfl, _⟩ := h
    rfl
  · obtain ⟨b, l, r, ur, rfl, hB, hr0, rb, l1, l2, q⟩ := h
    refine ⟨_, (pss_cons (ps_set (i := 2) sc_bnt.nd rfl (.inl rfl) (pe_call G_Pu (hr.mono (by decide)) (by rfl) g_Pu k_Pu b_Pu .nil pass0 (pa_cons (pv 0) (pa_cons (pe_callB call_lenQ (by rfl) B.len PySem.boot_len (pa_cons (pv 1) pa_nil)) pa_nil)))) (pss_cons (ps_set (i := 3) sc_bnt.nd rfl (.inl rfl) (pe_op op_add (pe_callB call_lenQ (by rfl) B.len PySem.boot_len (pa_cons (pv 1) pa_nil)) (pe_call G_Pu (hr.mono (by decide)) (by rfl) g_Pu k_Pu b_Pu .nil pass0 (pa_cons (pv 0) (pa_cons (pe_op op_pow pe_int pe_int) pa_nil))))) (pss_cons (ps_set (i := 4) sc_bnt.nd rfl (.inl rfl) (pe_lst (pa_cons (pe_tup (pa_cons pe_str (pa_cons pe_int pa_nil))) (pa_cons (pe_tup (pa_cons pe_str (pa_cons (pe_callB call_lenQ (by rfl) B.len PySem.boot_len (pa_cons (pv 1) pa_nil)) pa_nil))) (pa_cons (pe_tup (pa_cons pe_str (pa_cons (pv 2) (pa_cons (pv 2) pa_nil)))) (pa_cons (pe_tup (pa_cons pe_str pa_nil)) (pa_cons (pe_tup (pa_cons pe_str (pa_cons (pv 3) pa_nil))) (pa_cons (pe_tup (pa_cons pe_str (pa_cons (pe_un un_neg pe_int) pa_nil))) (pa_cons (pe_tup (pa_cons pe_str (pa_cons (pv 2) pa_nil))) pa_nil))))))))) (pss_cons (ps_set (i := 4) sc_bnt.nd rfl (.inl rfl) (pe_op op_cat (pv 4) (pe_lst (pa_cons (pe_tup (pa_cons pe_str (pa_cons (pv 2) (pa_cons (pv 3) pa_nil)))) (pa_cons (pe_tup (pa_cons pe_str (pa_cons pe_bl pa_nil))) (pa_cons (pe_tup (pa_cons pe_str (pa_cons (pv 2) (pa_cons pe_int pa_nil)))) (pa_cons (pe_tup (pa_cons pe_str (pa_cons (pv 2) (pa_cons (pv 3) (pa_cons pe_bl pa_nil))))) (pa_cons (pe_tup (pa_cons pe_str (pa_cons (pv 2) (pa_cons pe_int (pa_cons pe_int pa_nil))))) (pa_cons (pe_tup (pa_cons pe_str (pa_cons (pv 2) pa_nil))) pa_nil))))))))) (pss_cons (ps_set (i := 4) sc_bnt.nd rfl (.inl rfl) (pe_op op_cat (pv 4) (pe_lst (pa_cons (pe_tup (pa_cons pe_str (pa_cons (pv 2) (pa_cons (pe_un un_neg pe_int) (pa_cons pe_bl pa_nil))))) (pa_cons (pe_tup (pa_cons pe_str (pa_cons (pv 2) (pa_cons (pv 3) pa_nil)))) (pa_cons (pe_tup (pa_cons pe_str (pa_cons (pv 2) (pa_cons (pe_un un_neg pe_int) pa_nil)))) (pa_cons (pe_tup (pa_cons pe_str (pa_cons (pe_un un_neg pe_int) pa_nil))) (pa_cons (pe_tup (pa_cons pe_str pa_nil)) pa_nil)))))))) (pss_cons (ps_set (i := 4) sc_bnt.nd rfl (.inl rfl) (pe_op op_cat (pv 4) (pe_lst (pa_cons (pe_tup (pa_cons pe_str (pa_cons pe_bl pa_nil))) (pa_cons (pe_tup (pa_cons pe_str (pa_cons (pv 2) (pa_cons pe_bl pa_nil)))) (pa_cons (pe_tup (pa_cons pe_str (pa_cons pe_bl pa_nil))) (pa_cons (pe_tup (pa_cons pe_str (pa_cons (pv 2) (pa_cons pe_bl pa_nil)))) (pa_cons (pe_tup (pa_cons pe_str (pa_cons (pv 2) (pa_cons pe_bl (pa_cons pe_bl pa_nil))))) pa_nil)))))))) (pss_one (ps_ret (pe_call G_Lpk (hr.mono (by decide)) (by rfl) g_Lpk k_Lpk b_Lpk .nil pass0 (pa_cons (pv 0) (pa_cons (pv 4) pa_nil))))))))))), ?_⟩
    walk_at "go"
    refine ⟨b, l, _, rfl, hB, by omega, by omega, fun ja H1 a0 a1 B1 f1 => ?_⟩
    walk_at "go"
    refine w_i (by unfold CPow; decide) ?_
    walk_at "go"
    refine ⟨b, l, _, rfl, B1, by decide, by decide, fun jf H2 f0' f1' B2 f2 => ?_⟩
    have hr2 := f2.at rb (f1.at rb hr0)
    walk_at "go"
    refine w_newT (by walk_at "sz") (fun w1 H3 hw1 nw1 => ?_)
    walk_at "go"
    refine w_newT (by walk_at "sz") (fun w2 H4 hw2 nw2 => ?_)
    walk_at "go"
    refine w_newT (by walk_at "sz") (fun w3 H5 hw3 nw3 => ?_)
    walk_at "go"
    refine w_newT (by walk_at "sz") (fun w4 H6 hw4 nw4 => ?_)
    walk_at "go"
    refine w_newT (by walk_at "sz") (fun w5 H7 hw5 nw5 => ?_)
    walk_at "go"
    refine w_newT (by walk_at "sz") (fun w6 H8 hw6 nw6 => ?_)
    walk_at "go"
    refine w_newT (by walk_at "sz") (fun w7 H9 hw7 nw7 => ?_)
    walk_at "go"
    refine w_newL (by walk_at "sz") (fun q0 H10 hq0 nq0 => ?_)
    walk_at "go"
    refine w_newT (by walk_at "sz") (fun w8 H11 hw8 nw8 => ?_)
    walk_at "go"
    refine w_newT (by walk_at "sz") (fun w9 H12 hw9 nw9 => ?_)
    walk_at "go"
    refine w_newT (by walk_at "sz") (fun w10 H13 hw10 nw10 => ?_)
    walk_at "go"
    refine w_newT (by walk_at "sz") (fun w11 H14 hw11 nw11 => ?_)
    walk_at "go"
    refine w_newT (by walk_at "sz") (fun w12 H15 hw12 nw12 => ?_)
    walk_at "go"
    refine w_newT (by walk_at "sz") (fun w13 H16 hw13 nw13 => ?_)
    walk_at "go"
    refine w_newL (by walk_at "sz") (fun q1 H17 hq1 nq1 => ?_)
    walk_at "go"
    refine w_cat (nq1.at (nw13.at (nw12.at (nw11.at (nw10.at (nw9.at (nw8.at (hq0)))))))) hq1 (lnM (Nat.le_of_ble_eq_true rfl)) (fun c1 H18 hc1 nc1 => ?_)
    walk_at "go"
    refine w_newT (by walk_at "sz") (fun w14 H19 hw14 nw14 => ?_)
    walk_at "go"
    refine w_newT (by walk_at "sz") (fun w15 H20 hw15 nw15 => ?_)
    walk_at "go"
    refine w_newT (by walk_at "sz") (fun w16 H21 hw16 nw16 => ?_)
    walk_at "go"
    refine w_newT (by walk_at "sz") (fun w17 H22 hw17 nw17 => ?_)
    walk_at "go"
    refine w_newT (by walk_at "sz") (fun w18 H23 hw18 nw18 => ?_)
    walk_at "go"
    refine w_newL (by walk_at "sz") (fun q2 H24 hq2 nq2 => ?_)
    walk_at "go"
    refine w_cat (nq2.at (nw18.at (nw17.at (nw16.at (nw15.at (nw14.at (hc1))))))) hq2 (lnM (Nat.le_of_ble_eq_true rfl)) (fun c2 H25 hc2 nc2 => ?_)
    walk_at "go"
    refine w_newT (by walk_at "sz") (fun w19 H26 hw19 nw19 => ?_)
    walk_at "go"
    refine w_newT (by walk_at "sz") (fun w20 H27 hw20 nw20 => ?_)
    walk_at "go"
    refine w_newT (by walk_at "sz") (fun w21 H28 hw21 nw21 => ?_)
    walk_at "go"
    refine w_newT (by walk_at "sz") (fun w22 H29 hw22 nw22 => ?_)
    walk_at "go"
    refine w_newT (by walk_at "sz") (fun w23 H30 hw23 nw23 => ?_)
    walk_at "go"
    refine w_newL (by walk_at "sz") (fun q3 H31 hq3 nq3 => ?_)
    walk_at "go"
    refine w_cat (nq3.at (nw23.at (nw22.at (nw21.at (nw20.at (nw19.at (hc2))))))) hq3 (lnM (Nat.le_of_ble_eq_true rfl)) (fun c3 H32 hc3 nc3 => ?_)
    walk_at "go"
    have g1 : RoAt K w pT H32 (.ref w1) := ro_mk (nc3.at (nq3.at (nw23.at (nw22.at (nw21.at (nw20.at (nw19.at (nc2.at (nq2.at (nw18.at (nw17.at (nw16.at (nw15.at (nw14.at (nc1.at (nq1.at (nw13.at (nw12.at (nw11.at (nw10.at (nw9.at (nw8.at (nq0.at (nw7.at (nw6.at (nw5.at (nw4.at (nw3.at (nw2.at (hw1)))))))))))))))))))))))))))))) (by decide +kernel) (args_c (argI _) args0) (Nat.le_of_ble_eq_true rfl)
    have g2 : RoAt K w pT H32 (.ref w2) := ro_mk (nc3.at (nq3.at (nw23.at (nw22.at (nw21.at (nw20.at (nw19.at (nc2.at (nq2.at (nw18.at (nw17.at (nw16.at (nw15.at (nw14.at (nc1.at (nq1.at (nw13.at (nw12.at (nw11.at (nw10.at (nw9.at (nw8.at (nq0.at (nw7.at (nw6.at (nw5.at (nw4.at (nw3.at (hw2))))))))))))))))))))))))))))) (by decide +kernel) (args_c (argI _) args0) (Nat.le_of_ble_eq_true rfl)
    have g3 : RoAt K w pT H32 (.ref w3) := ro_mk (nc3.at (nq3.at (nw23.at (nw22.at (nw21.at (nw20.at (nw19.at (nc2.at (nq2.at (nw18.at (nw17.at (nw16.at (nw15.at (nw14.at (nc1.at (nq1.at (nw13.at (nw12.at (nw11.at (nw10.at (nw9.at (nw8.at (nq0.at (nw7.at (nw6.at (nw5.at (nw4.at (hw3)))))))))))))))))))))))))))) (by decide +kernel) (args_c (argI _) (args_c (argI _) args0)) (Nat.le_of_ble_eq_true rfl)
    have g4 : RoAt K w pT H32 (.ref w4) := ro_mk (nc3.at (nq3.at (nw23.at (nw22.at (nw21.at (nw20.at (nw19.at (nc2.at (nq2.at (nw18.at (nw17.at (nw16.at (nw15.at (nw14.at (nc1.at (nq1.at (nw13.at (nw12.at (nw11.at (nw10.at (nw9.at (nw8.at (nq0.at (nw7.at (nw6.at (nw5.at (hw4))))))))))))))))))))))))))) (by decide +kernel) args0 (Nat.le_of_ble_eq_true rfl)
    have g5 : RoAt K w pT H32 (.ref w5) := ro_mk (nc3.at (nq3.at (nw23.at (nw22.at (nw21.at (nw20.at (nw19.at (nc2.at (nq2.at (nw18.at (nw17.at (nw16.at (nw15.at (nw14.at (nc1.at (nq1.at (nw13.at (nw12.at (nw11.at (nw10.at (nw9.at (nw8.at (nq0.at (nw7.at (nw6.at (hw5)))))))))))))))))))))))))) (by decide +kernel) (args_c (argI _) args0) (Nat.le_of_ble_eq_true rfl)
    have g6 : RoAt K w pT H32 (.ref w6) := ro_mk (nc3.at (nq3.at (nw23.at (nw22.at (nw21.at (nw20.at (nw19.at (nc2.at (nq2.at (nw18.at (nw17.at (nw16.at (nw15.at (nw14.at (nc1.at (nq1.at (nw13.at (nw12.at (nw11.at (nw10.at (nw9.at (nw8.at (nq0.at (nw7.at (hw6))))))))))))))))))))))))) (by decide +kernel) (args_c (argI _) args0) (Nat.le_of_ble_eq_true rfl)
    have g7 : RoAt K w pT H32 (.ref w7) := ro_mk (nc3.at (nq3.at (nw23.at (nw22.at (nw21.at (nw20.at (nw19.at (nc2.at (nq2.at (nw18.at (nw17.at (nw16.at (nw15.at (nw14.at (nc1.at (nq1.at (nw13.at (nw12.at (nw11.at (nw10.at (nw9.at (nw8.at (nq0.at (hw7)))))))))))))))))))))))) (by decide +kernel) (args_c (argI _) args0) (Nat.le_of_ble_eq_true rfl)
    have g8 : RoAt K w pT H32 (.ref w8) := ro_mk (nc3.at (nq3.at (nw23.at (nw22.at (nw21.at (nw20.at (nw19.at (nc2.at (nq2.at (nw18.at (nw17.at (nw16.at (nw15.at (nw14.at (nc1.at (nq1.at (nw13.at (nw12.at (nw11.at (nw10.at (nw9.at (hw8)))))))))))))))))))))) (by decide +kernel) (args_c (argI _) (args_c (argI _) args0)) (Nat.le_of_ble_eq_true rfl)
    have g9 : RoAt K w pT H32 (.ref w9) := ro_mk (nc3.at (nq3.at (nw23.at (nw22.at (nw21.at (nw20.at (nw19.at (nc2.at (nq2.at (nw18.at (nw17.at (nw16.at (nw15.at (nw14.at (nc1.at (nq1.at (nw13.at (nw12.at (nw11.at (nw10.at (hw9))))))))))))))))))))) (by decide +kernel) (args_c (argB _) args0) (Nat.le_of_ble_eq_true rfl)
    have g10 : RoAt K w pT H32 (.ref w10) := ro_mk (nc3.at (nq3.at (nw23.at (nw22.at (nw21.at (nw20.at (nw19.at (nc2.at (nq2.at (nw18.at (nw17.at (nw16.at (nw15.at (nw14.at (nc1.at (nq1.at (nw13.at (nw12.at (nw11.at (hw10)))))))))))))))))))) (by decide +kernel) (args_c (argI _) (args_c (argI _) args0)) (Nat.le_of_ble_eq_true rfl)
    have g11 : RoAt K w pT H32 (.ref w11) := ro_mk (nc3.at (nq3.at (nw23.at (nw22.at (nw21.at (nw20.at (nw19.at (nc2.at (nq2.at (nw18.at (nw17.at (nw16.at (nw15.at (nw14.at (nc1.at (nq1.at (nw13.at (nw12.at (hw11))))))))))))))))))) (by decide +kernel) (args_c (argI _) (args_c (argI _) (args_c (argB _) args0))) (Nat.le_of_ble_eq_true rfl)
    have g12 : RoAt K w pT H32 (.ref w12) := ro_mk (nc3.at (nq3.at (nw23.at (nw22.at (nw21.at (nw20.at (nw19.at (nc2.at (nq2.at (nw18.at (nw17.at (nw16.at (nw15.at (nw14.at (nc1.at (nq1.at (nw13.at (hw12)))))))))))))))))) (by decide +kernel) (args_c (argI _) (args_c (argI _) (args_c (argI _) args0))) (Nat.le_of_ble_eq_true rfl)
    have g13 : RoAt K w pT H32 (.ref w13) := ro_mk0 (nc3.at (nq3.at (nw23.at (nw22.at (nw21.at (nw20.at (nw19.at (nc2.at (nq2.at (nw18.at (nw17.at (nw16.at (nw15.at (nw14.at (nc1.at (nq1.at (hw13))))))))))))))))) (by decide +kernel) m0 (by decide +kernel) (args_c (argI _) args0) (Nat.le_of_ble_eq_true rfl)
    have g14 : RoAt K w pT H32 (.ref w14) := ro_mk (nc3.at (nq3.at (nw23.at (nw22.at (nw21.at (nw20.at (nw19.at (nc2.at (nq2.at (nw18.at (nw17.at (nw16.at (nw15.at (hw14)))))))))))))) (by decide +kernel) (args_c (argI _) (args_c (argI _) (args_c (argB _) args0))) (Nat.le_of_ble_eq_true rfl)
    have g15 : RoAt K w pT H32 (.ref w15) := ro_mk (nc3.at (nq3.at (nw23.at (nw22.at (nw21.at (nw20.at (nw19.at (nc2.at (nq2.at (nw18.at (nw17.at (nw16.at (hw15))))))))))))) (by decide +kernel) (args_c (argI _) (args_c (argI _) args0)) (Nat.le_of_ble_eq_true rfl)
    have g16 : RoAt K w pT H32 (.ref w16) := ro_mk (nc3.at (nq3.at (nw23.at (nw22.at (nw21.at (nw20.at (nw19.at (nc2.at (nq2.at (nw18.at (nw17.at (hw16)))))))))))) (by decide +kernel) (args_c (argI _) (args_c (argI _) args0)) (Nat.le_of_ble_eq_true rfl)
    have g17 : RoAt K w pT H32 (.ref w17) := ro_mk (nc3.at (nq3.at (nw23.at (nw22.at (nw21.at (nw20.at (nw19.at (nc2.at (nq2.at (nw18.at (hw17))))))))))) (by decide +kernel) (args_c (argI _) args0) (Nat.le_of_ble_eq_true rfl)
    have g18 : RoAt K w pT H32 (.ref w18) := ro_mk0 (nc3.at (nq3.at (nw23.at (nw22.at (nw21.at (nw20.at (nw19.at (nc2.at (nq2.at (hw18)))))))))) (by decide +kernel) m1 (by decide +kernel) args0 (Nat.le_of_ble_eq_true rfl)
    have g19 : RoAt K w pT H32 (.ref w19) := ro_mk (nc3.at (nq3.at (nw23.at (nw22.at (nw21.at (nw20.at (hw19))))))) (by decide +kernel) (args_c (argB _) args0) (Nat.le_of_ble_eq_true rfl)
    have g20 : RoAt K w pT H32 (.ref w20) := ro_mk (nc3.at (nq3.at (nw23.at (nw22.at (nw21.at (hw20)))))) (by decide +kernel) (args_c (argI _) (args_c (argB _) args0)) (Nat.le_of_ble_eq_true rfl)
    have g21 : RoAt K w pT H32 (.ref w21) := ro_mk (nc3.at (nq3.at (nw23.at (nw22.at (hw21))))) (by decide +kernel) (args_c (argB _) args0) (Nat.le_of_ble_eq_true rfl)
    have g22 : RoAt K w pT H32 (.ref w22) := ro_mk (nc3.at (nq3.at (nw23.at (hw22)))) (by decide +kernel) (args_c (argI _) (args_c (argB _) args0)) (Nat.le_of_ble_eq_true rfl)
    have g23 : RoAt K w pT H32 (.ref w23) := ro_mk (nc3.at (nq3.at (hw23))) (by decide +kernel) (args_c (argI _) (args_c (argB _) (args_c (argB _) args0))) (Nat.le_of_ble_eq_true rfl)
    have ss : Same H2 H32 := (((((((((((((((((((((((((((((nw1.same.nw nw2).nw nw3).nw nw4).nw nw5).nw nw6).nw nw7).nw nq0).nw nw8).nw nw9).nw nw10).nw nw11).nw nw12).nw nw13).nw nq1).nw nc1).nw nw14).nw nw15).nw nw16).nw nw17).nw nw18).nw nq2).nw nc2).nw nw19).nw nw20).nw nw21).nw nw22).nw nw23).nw nq3).nw nc3)
    have BE := B2.same ss
    refine ⟨b, l, c3, _, rfl, BE, hc3, (B2.same ((((((((((((((((((((((((((((nw1.same.nw nw2).nw nw3).nw nw4).nw nw5).nw nw6).nw nw7).nw nq0).nw nw8).nw nw9).nw nw10).nw nw11).nw nw12).nw nw13).nw nq1).nw nc1).nw nw14).nw nw15).nw nw16).nw nw17).nw nw18).nw nq2).nw nc2).nw nw19).nw nw20).nw nw21).nw nw22).nw nw23).nw nq3)).ne nc3.nn, Nat.le_of_ble_eq_true rfl, Nat.le_of_ble_eq_true rfl, fun v HF hv BF fF => ?_⟩
    refine q v HF (RoAt.tps (.fx BE fF) ?_) BF (((f1.trans f2).same ss).trans fF)
    simp only [List.cons_append, List.nil_append, List.mem_cons, List.not_mem_nil, or_false] at hv
    rcases hv with rfl | rfl | rfl | rfl | rfl | rfl | rfl | rfl | rfl | rfl | rfl | rfl | rfl | rfl | rfl | rfl | rfl | rfl | rfl | rfl | rfl | rfl | rfl
    · exact g1
    · exact g2
    · exact g3
    · exact g4
    · exact g5
    · exact g6
    · exact g7
    · exact g8
    · exact g9
    · exact g10
    · exact g11
    · exact g12
    · exact g13
    · exact g14
    · exact g15
    · exact g16
    · exact g17
    · exact g18
    · exact g19
    · exact g20
    · exact g21
    · exact g22
    · exact g23
end
end Sf
namespace Sf
open PySem PySem.Spec PyProof.Rows L2 HotX L2H
/-! ### the ends of walks while an exception is handled -/
abbrev StopAt (h : Heap) (e : Addr) : Prop := ∃ o, h.get? e = some o ∧ o.cls = .type "StopIteration"
theorem hot_keep {A : Around} {x1 : Addr} {h h' : Heap} (t : HotAt A x1 h) (k : ∀ o, h.get? x1 = some o → h'.get? x1 = some o) : HotAt A x1 h' := by
  obtain ⟨hh, o, vs, h1, d1, c1⟩ := t
  exact ⟨hh, o, vs, k o h1, d1, c1⟩
section
variable {prog : Program} {w : World} {A : Around} {E : Value → Shared → Prop} {s : Shared} {x1 : Addr}
theorem stop_hot {α : Type} {Q : α → Shared → Prop} (t : HotAt A x1 s.heap) (hE : ∀ h' e, (∀ b o, s.heap.get? b = some o → h'.get? b = some o) → StopAt h' e → E (.ref e) { s with heap := h' }) :
    wpAny (model prog w) A (newExc (.type "StopIteration") [] >>= fun x => (raiseNew x : Sem α)) Q E s := by
  obtain ⟨hh, o1, vs1, h1, d1, c1⟩ := t
  refine wpAny_bind ?_
  simp only [newExc, newTuple]
  refine wpAny_bind (wpAny_newObj_type ?_ (by size_fits))
  refine wpAny_bind (m := firstArgMember _ _) (wpAny_of_eq (a := Value.none) (by first | rfl | (simp only [firstArgMember]; rfl)) ?_)
  refine wpAny_newObj_type ?_ (by size_fits)
  refine raiseNew_hot (x1 := x1) ⟨hh, o1, vs1, Heap.get?_push_of_some _ (Heap.get?_push_of_some _ h1), d1, c1⟩ (Nat.ne_of_lt (Heap.lt_size (Heap.get?_push_of_some _ h1))) (Heap.get?_push_size _ rfl) rfl (by first | (simp; done) | (simp; omega) | (simp only [Array.size_append]; simp; omega)) (hE _ _ (fun b o e => ?_) ⟨_, Heap.get?_update_self _ (Heap.get?_push_size _ rfl) rfl, rfl⟩)
  rw [Heap.get?_update_other _ _ (Nat.ne_of_gt (Heap.lt_size (Heap.get?_push_of_some _ e)))]
  exact Heap.get?_push_of_some _ (Heap.get?_push_of_some _ e)
theorem li_end_hot {it l : Addr} {i : Nat} {items : Array Value} {P : Fin → Shared → Prop} (t : HotAt A x1 s.heap) (ne : x1 ≠ it) (hit : s.heap.IsListIter it l i) (hl : s.heap.IsList l items) (hx : items[i]? = none)
    (hE : ∀ h' e, Heap.ExtBut it s.heap h' → StopAt h' e → E (.ref e) { s with heap := h' }) : wpAny (model prog w) A (Builtin.«list_iterator.__next__» ⟨[.ref it], []⟩) P E s := by
  obtain ⟨o, ho, hc, hd⟩ := id hit
  obtain ⟨ol, hol, _, nl, hdl⟩ := hl
  show wpAny _ _ (field (.ref it) 0 >>= _) _ _ s
  refine wpAny_bind (wpAny_field ho hd (x := .ref l) rfl ?_)
  show wpAny _ _ (if (Value.ref l == Value.none) = true then _ else _) _ _ s
  rw [if_neg (show ¬ ((Value.ref l == Value.none) = true) from Bool.false_ne_true)]
  show wpAny _ _ (field (.ref it) 1 >>= _) _ _ s
  refine wpAny_bind (wpAny_field ho hd (x := .int i 0) rfl ?_)
  show wpAny _ _ (seqItems? (.ref l) >>= _) _ _ s
  refine wpAny_bind (wpAny_seqItems hol hdl ?_)
  simp only [Int.toNat_natCast, hx]
  have sb : Heap.SameBut it s.heap (s.heap.update it (Obj.mapFields (·.setIfInBounds 0 .none))) := Heap.SameBut.update ..
  refine wpAny_bind (wpAny_rule (wpAny_bind (wpAny_setField ho hd (by simp) ?_)))
  exact (stop_hot (s := { s with heap := s.heap.update it (Obj.mapFields (·.setIfInBounds 0 .none)) }) (x1 := x1) (hot_keep t fun o e => (sb.2 x1 ne).trans e) fun h' e k st => hE h' e (fun b o nb q => k b o ((sb.2 b nb).trans q)) st)
theorem list_end_hot {it l : Addr} {i : Nat} {items : Array Value} {Q : Option Value → Shared → Prop} (t : HotAt A x1 s.heap) (ne : x1 ≠ it) (hit : s.heap.IsListIter it l i) (hl : s.heap.IsList l items) (hx : items[i]? = none)
    (hQ : ∀ h', Heap.ExtBut it s.heap h' → Q none { s with heap := h' }) : wpAny (model prog w) A (pyNext (.ref it)) Q E s := by
  unfold pyNext
  refine wpAny_bind (wpAny_attempt (wpAny_callSpecial?_slot (name := Str.ofString "__next__") hit.typeIs slot_listiter_next
    (wpAny_call_entry slot_listiter_next hit.typeIs entry_listiter_next (li_end_hot (x1 := x1) (A := A.in1) t ne hit hl hx fun h' e k st => ?_) (args_listiter_next _))))
  obtain ⟨o, ho, hc⟩ := st
  refine wpAny_bind (wpAny_isInstance (T := "StopIteration") (b := true) ⟨o, ho, hc⟩ isSubtype_stop ?_)
  exact wpAny_pure (hQ _ k)
theorem next_end_hot {it l : Addr} {i : Nat} {items : Array Value} {Q : Value → Shared → Prop} (t : HotAt A x1 s.heap) (ne : x1 ≠ it) (hit : s.heap.IsListIter it l i) (hl : s.heap.IsList l items) (hx : items[i]? = none)
    (hE : ∀ h' e, Heap.ExtBut it s.heap h' → StopAt h' e → E (.ref e) { s with heap := h' }) : wpAny (model prog w) A (Builtin.SmallTypes.nextOf (.ref it)) Q E s := by
  unfold Builtin.SmallTypes.nextOf
  exact wpAny_bind (wpAny_callSpecial?_slot (name := Str.ofString "__next__") hit.typeIs slot_listiter_next
    (wpAny_call_entry slot_listiter_next hit.typeIs entry_listiter_next (li_end_hot (x1 := x1) (A := A.in1) t ne hit hl hx hE) (args_listiter_next _)))
theorem zip_end_hot {z TI TO i1 i2 l1 l2 : Addr} {k : Nat} {xs : Array Value} {a b : Value} {Q : Option Value → Shared → Prop} (t : HotAt A x1 s.heap) (nz : x1 ≠ z) (n1 : x1 ≠ i1) (n2 : x1 ≠ i2) (nT : x1 ≠ TO) (D : ZipApart z TI TO i1 i2 l1 l2)
    (hz : IsZip s.heap z TI TO .none) (hTI : IsPair s.heap TI (.ref i1) (.ref i2)) (hTO : IsPair s.heap TO a b) (h1 : s.heap.IsListIter i1 l1 k) (hl1 : s.heap.IsList l1 xs) (hx : xs[k]? = none)
    (hQ : ∀ h', (∀ c o, c ≠ z → c ≠ TO → c ≠ i1 → c ≠ i2 → s.heap.get? c = some o → h'.get? c = some o) → Q none { s with heap := h' }) : wpAny (model prog w) A (pyNext (.ref z)) Q E s := by
  have hT : s.TypeIs (.ref z) "zip" := ⟨_, hz, rfl⟩
  have key : ∀ {P : Fin → Shared → Prop} {E' : Value → Shared → Prop}, (∀ h' e, (∀ c o, c ≠ z → c ≠ TO → c ≠ i1 → c ≠ i2 → s.heap.get? c = some o → h'.get? c = some o) → StopAt h' e → E' (.ref e) { s with heap := h' }) → wpAny (model prog w) A.in1 (Builtin.«zip.__next__» ⟨[.ref z], []⟩) P E' s := fun {P E'} hE => by
    show wpAny _ _ (field (.ref z) 2 >>= _) _ _ _
    refine wpAny_bind (wpAny_field hz rfl (x := .bool false) rfl ?_)
    show wpAny _ _ (field (.ref z) 3 >>= _) _ _ _
    refine wpAny_bind (wpAny_field hz rfl (x := .ref TI) rfl ?_)
    refine wpAny_bind (wpAny_seqItems hTI rfl ?_)
    show wpAny _ _ (Builtin.SmallTypes.ownedTupleIsFree (.ref z) >>= _) _ _ _
    refine wpAny_bind ?_
    unfold Builtin.SmallTypes.ownedTupleIsFree
    refine wpAny_bind (wpAny_field hz rfl (x := .none) rfl (wpAny_pure ?_))
    simp only [if_true]
    refine wpAny_bind (wpAny_rule ?_)
    refine wpAny_bind (wpAny_field hz rfl (x := .ref TO) rfl ?_)
    refine wpAny_bind (wpAny_setField_rec hz (by simp) fun h₁ hz₁ hs₁ => ?_)
    replace hz₁ : IsZip h₁ z TI TO .ellipsis := hz₁
    refine wpAny_bind ?_
    simp only [List.zipIdx_cons, List.zipIdx_nil, List.forIn_cons, List.forIn_nil]
    refine wpAny_bind (wpAny_bind (wpAny_onRaise ?_))
    show wpAny _ _ (Builtin.SmallTypes.nextOf (.ref i1) >>= _) _ _ _
    refine wpAny_bind (next_end_hot (x1 := x1) (s := { s with heap := h₁ }) (hot_keep (A := A.in1) t fun o e => (hs₁.2 x1 nz).trans e) n1 (h1.extBut hs₁.extBut D.i1z) (hl1.extBut hs₁.extBut D.l1z) hx fun h₂ e hs₂ he => ?_)
    obtain ⟨oe, hoe, hce⟩ := he
    have hz₂ : IsZip h₂ z TI TO .ellipsis := hs₂ _ _ D.i1z.symm hz₁
    have hez : e ≠ z := fun q => by subst q; rw [hz₂] at hoe; cases hoe; simp at hce
    exact wpAny_setField_rec hz₂ (by simp) fun h₃ _ hs₃ => hE h₃ e (fun c o c1 _ c3 _ q => hs₃.extBut _ _ c1 (hs₂ _ _ c3 (hs₁.extBut _ _ c1 q))) ⟨oe, hs₃.extBut _ _ hez hoe, hce⟩
  unfold pyNext
  refine wpAny_bind (wpAny_attempt (wpAny_callSpecial?_slot (name := Str.ofString "__next__") hT F.slot_zip_next
    (wpAny_call_entry F.slot_zip_next hT F.entry_zip_next (key fun h' e hk he => ?_) (F.args_zip_next_1 _))))
  obtain ⟨o, ho, hc⟩ := he
  refine wpAny_bind (wpAny_isInstance (T := "StopIteration") (b := true) ⟨o, ho, hc⟩ isSubtype_stop ?_)
  exact wpAny_pure (hQ _ hk)
/-- a list's items while an exception is handled -/
theorem walks_hot {I ax : Addr} (t : HotAt A x1 s.heap) (hne : ax ≠ I) (n1 : x1 ≠ I) (items : Array Value) :
    Walks prog w A I [I, ax, x1] [I] items.size (fun i v => items[i]? = some v) (fun i h => h.IsListIter I ax i ∧ h.IsList ax items ∧ HotAt A x1 h) where
  sub := fun b hb => by simp at hb; simp [hb]
  frame := fun _ _ _ st hk => ⟨st.1.at fun o e => hk I (by simp) o e, st.2.1.at fun o e => hk ax (by simp) o e, hot_keep st.2.2 fun o e => hk x1 (by simp) o e⟩
  item := fun i s Q E hi st hQ => by
    refine wpAny_pyNext_list_item st.1 st.2.1 (x := items[i]) (by simp [hi]) fun h' hit' hs' => ?_
    exact hQ _ h' s.toks (by simp [hi]) ⟨hit', st.2.1.extBut hs'.extBut hne, hot_keep st.2.2 fun o e => (hs'.2 x1 n1).trans e⟩ fun b o hb e => hs'.extBut b o (fun h => hb (by simp [h])) e
  done := fun s Q E st hQ => list_end_hot (x1 := x1) st.2.2 n1 st.1 st.2.1 (by simp) fun h' he' => hQ h' s.toks fun b o hb e => he' b o (fun h => hb (by simp [h])) e
  self := fun _ _ _ _ st hQ => wpAny_pyIter_listiter st.1 hQ
end
/-! ### turns -/
theorem hot_of {X : Cx} {pins : List (Addr × Obj)} {σ : L2.St} {H : Hp} {s : Shared} (c : HotC X) (I : Inv X pins σ H s) : ∃ x1, HotAt X.A x1 s.heap ∧ ∀ {b : Addr}, FpOk X pins H b → x1 ≠ b := by
  obtain ⟨p, ⟨hh, v1, e1, c1⟩, hp⟩ := c
  exact ⟨p.1, ⟨hh, p.2, v1, (I.pin p (List.mem_append_left _ hp)).1, e1, c1⟩, fun {b} f => f.2.2.2.2.2 p (List.mem_append_left _ hp)⟩
theorem turn_listH {P : Program} {w : World} {K : PySem.W.Frag} {tg : Expr} (a it : Addr) : TurnH P w K tg (Itl K a) [it] it (fun i h => h.IsListIter it a i) where
  mem := (turn_list (P := P) (w := w) (K := K) (tg := tg) a it).mem
  obj := (turn_list (P := P) (w := w) (K := K) (tg := tg) a it).obj
  keep := (turn_list (P := P) (w := w) (K := K) (tg := tg) a it).keep
  item := by
    intro X hP hw hK hc i pins s σ H E I hf st hg
    subst hP hw hK
    obtain ⟨xs, x, hq, hx⟩ := hg
    obtain ⟨its, rv, p, hz⟩ := I.list hq
    obtain ⟨u, hu, ru⟩ := rv.get hx
    obtain ⟨f0, f1, f2, f3, f4, f5⟩ := hf it (by simp)
    refine wpAny_pyNext_list_item st p.isList (x := u) (by simpa using hu) fun h' st' sb => ?_
    have I1 : Inv X pins σ H { s with heap := h' } := I.turned (t' := s.toks) (fun b o hb e => (sb.2 b hb).trans e) f0 f1 f3 f4 f5
    obtain ⟨o, e, c, d⟩ := id st'
    exact ⟨u, rfl, go_of (s := { s with heap := h' }) e c d (by decide) ⟨x, H, I1, ru, ⟨rfl, fun ys hy => by rw [I.list_inj hy hq]; exact hx⟩, st', fun b hb => (hf b hb).1⟩⟩
  done := by
    intro X hP hw hK hc i pins s σ H E I hf st hg
    subst hP hw hK
    obtain ⟨xs, hq, hx⟩ := hg
    obtain ⟨its, rv, p, hz⟩ := I.list hq
    obtain ⟨x1, t, ne⟩ := hot_of hc I
    have n1 := ne (hf it (by simp))
    obtain ⟨f0, f1, f2, f3, f4, f5⟩ := hf it (by simp)
    have hl := rv.length
    exact list_end_hot t n1 st p.isList (by simp; omega) fun h' eb => ⟨rfl, I.turned (t' := s.toks) (fun b o hb e => eb b o hb e) f0 f1 f3 f4 f5⟩
  self := fun _ _ _ _ _ st h => wpAny_pyIter_listiter st h
end Sf
namespace Sf
open PySem PySem.Spec PyProof.Rows L2 HotX L2H
/-- two lists side by side, the first one done first -/
def Itz1 (K : PySem.W.Frag) (a b : Addr) : It := ⟨(Itz K a b).go, (Itz K a b).yld, fun i H => ∃ xs ys : List V, SqL K H a xs ∧ SqL K H b ys ∧ xs.length ≤ i⟩
theorem turn_zipH {P : Program} {w : World} {K : PySem.W.Frag} {elts : List Expr} {kk : Nat} {tpos : Pos} {a b z TI TO i1 i2 : Addr} (D : ZipApart z TI TO i1 i2 a b) :
    TurnH P w K (.Tuple elts kk tpos) (Itz1 K a b) [z, TI, TO, i1, i2] z (fun i h => IsZip h z TI TO .none ∧ IsPair h TI (.ref i1) (.ref i2) ∧ (∃ x y, IsPair h TO x y) ∧ h.IsListIter i1 a i ∧ h.IsListIter i2 b i) where
  mem := (turn_zip (P := P) (w := w) (K := K) (elts := elts) (kk := kk) (tpos := tpos) D).mem
  obj := (turn_zip (P := P) (w := w) (K := K) (elts := elts) (kk := kk) (tpos := tpos) D).obj
  keep := (turn_zip (P := P) (w := w) (K := K) (elts := elts) (kk := kk) (tpos := tpos) D).keep
  item := by
    intro X hP hw hK hc i pins s σ H E I hf st hg
    subst hP hw hK
    have kp := (turn_zip (P := X.prog) (w := X.w) (K := X.K) (elts := elts) (kk := kk) (tpos := tpos) D).obj _ _ st
    obtain ⟨hz, hTI, ⟨x0, y0, hTO⟩, h1, h2⟩ := st
    obtain ⟨xs, ys, x, y, hqx, hqy, hx, hy⟩ := hg
    obtain ⟨its, rv, p, _⟩ := I.list hqx
    obtain ⟨its2, rv2, p2, _⟩ := I.list hqy
    obtain ⟨u, hu, ru⟩ := rv.get hx
    obtain ⟨u2, hu2, ru2⟩ := rv2.get hy
    have hzl : z < s.heap.objs.size := Heap.lt_size hz
    refine wpAny_pyNext_zip_item D hz hTI hTO h1 h2 p.isList p2.isList (x := u) (y := u2) (by simpa using hu) (by simpa using hu2) fun h' z' TO' h1' h2' hT hsz hk => ?_
    refine ⟨_, rfl, wpAny_letOwnedTupleGo_zip (s := { s with heap := h' }) z' fun h'' z'' sb => ?_⟩
    have hT2 : h''.get? s.heap.objs.size = some { cls := .type "tuple", data := .seq #[u, u2] } := (sb.2 _ (Nat.ne_of_gt hzl)).trans hT
    have I1 : Inv X pins σ (upd H s.heap.objs.size (.tup [x, y])) { s with heap := h'' } :=
      I.turnedNew (t' := s.toks) (ch := [z, TI, TO, i1, i2]) (fun c o hb q => by
        simp only [List.mem_cons, List.not_mem_nil, or_false, not_or] at hb
        obtain ⟨b1, _, b3, b4, b5⟩ := hb
        exact (sb.2 c b1).trans (hk c o b1 b3 b4 b5 q)) hf (Nat.le_refl _) ⟨by show 2 ≤ sizeLine; decide, [u, u2], .cons ru (.cons ru2 .nil), ⟨_, hT2, rfl, _, rfl⟩⟩
    refine ⟨.ref s.heap.objs.size, _, I1, rfl, ⟨_, x, y, rfl, I.hok.fresh (Nat.le_refl _), rfl, fun l hl => by rw [I.list_inj hl hqx]; exact hx, fun l hl => by rw [I.list_inj hl hqy]; exact hy⟩, ⟨z'', (sb.2 _ D.TIz).trans (hk _ _ D.TIz D.TITO D.TIi1 D.TIi2 hTI), ⟨u, u2, (sb.2 _ D.TOz).trans TO'⟩, h1'.at fun o q => (sb.2 _ D.i1z).trans q, h2'.at fun o q => (sb.2 _ D.i2z).trans q⟩, fun c hcm => ?_⟩
    obtain ⟨o, e, _⟩ := kp c hcm
    rw [upd_ne (Nat.ne_of_lt (Heap.lt_size e))]
    exact (hf c hcm).1
  done := by
    intro X hP hw hK hc i pins s σ H E I hf st hg
    subst hP hw hK
    obtain ⟨hz, hTI, ⟨x0, y0, hTO⟩, h1, h2⟩ := st
    obtain ⟨xs, ys, hqx, hqy, hend⟩ := hg
    obtain ⟨its, rv, p, _⟩ := I.list hqx
    have l1 := rv.length
    obtain ⟨x1, t, ne⟩ := hot_of hc I
    refine zip_end_hot t (ne (hf z (by simp))) (ne (hf i1 (by simp))) (ne (hf i2 (by simp))) (ne (hf TO (by simp))) D hz hTI hTO h1 p.isList (by simp; omega) fun h' hk => ⟨rfl, I.turnedL (t' := s.toks) (ch := [z, TI, TO, i1, i2]) (fun c o hb q => ?_) hf⟩
    simp only [List.mem_cons, List.not_mem_nil, or_false, not_or] at hb
    obtain ⟨b1, _, b3, b4, b5⟩ := hb
    exact hk c o b1 b3 b4 b5 q
  self := fun A i s Q E st h => wpAny_pyIter_zip st.1 h
section
variable {X : Cx} {tg : Expr}
theorem pi_listH {l : Expr} {tl : TE} (hl : PE X l tl) : PIH X tg l (iList X.K tl) := by
  refine ⟨fun pins s σ H R I h => thn (hl.run pins s σ H _ I h) fun v s1 ⟨x, H1, I1, r1, q1⟩ => ?_⟩
  obtain ⟨a, e, ⟨xs, hq⟩, q⟩ := q1
  subst e
  cases r1
  obtain ⟨its, rv, p, hz⟩ := I1.list hq
  refine wpAny_pyIter_list p.isList ⟨s1.heap.objs.size, [s1.heap.objs.size], _, _, H1, rfl, I1.kept (t' := s1.toks) fun b o e => Heap.get?_push_of_some _ e, turn_listH a _, ⟨_, Heap.get?_push_size _ rfl, rfl, rfl⟩, fun b hb => ?_, q⟩
  rw [List.mem_singleton.mp hb]
  exact I1.fpOk (Nat.le_refl _) (I1.hok.fresh (Nat.le_refl _))
def iZip1 (K : PySem.W.Frag) (ta : TA) : TI := fun σ H R => ta σ H fun vs H1 => ∃ a b xs ys, vs = [.ref a, .ref b] ∧ SqL K H1 a xs ∧ SqL K H1 b ys ∧ R (Itz1 K a b) H1
theorem pi_zipH {e e2 : Expr} {ta : TA} {p pos tpos : Pos} {elts : List Expr} {kk : Nat} (hg : Gl X "zip") (hm : X.mg "zip" = none) (ha : PA X [e, e2] ta)
    (hs : starEach [e, e2] X.env = (false, eval e X.env) :: starEach [e2] X.env := by rfl) (hpl : (backTo pos (starEach [e2] X.env)).any (·.1) = false := by rfl) :
    PIH X (.Tuple elts kk tpos) (.Call (.Name "zip" p) [e, e2] [] pos) (iZip1 X.K ta) := by
  refine ⟨fun pins s σ H R I h => Call_ (ld_blt I hg hm PyProof.Rows.boot_zip (PyProof.Rows.callWith_type1 (thn (ha.run pos pins s σ H _ I h) fun us s1 ⟨vs, H1, I1, r1, q1⟩ => ?_) hs hpl))⟩
  obtain ⟨a, b, xs, ys, ex, hqx, hqy, q⟩ := q1
  subst ex
  cases r1 with
  | cons r rr =>
    cases rr with
    | cons r' rr =>
      cases rr
      cases r
      cases r'
      obtain ⟨its, rv, p1, _⟩ := I1.list hqx
      obtain ⟨its2, rv2, p2, _⟩ := I1.list hqy
      refine call_zip_2 p1.isList p2.isList fun h' hz hTI hTO h1 h2 hsz hk => wpAny_pyIter_zip hz ?_
      refine ⟨s1.heap.objs.size + 4, [s1.heap.objs.size + 4, s1.heap.objs.size + 2, s1.heap.objs.size + 3, s1.heap.objs.size, s1.heap.objs.size + 1], _, _, H1, rfl, I1.kept (t' := s1.toks) hk, turn_zipH (PySem.W.ktu_apart s1.heap.objs.size a b p1.lt p2.lt), ⟨hz, hTI, ⟨_, _, hTO⟩, h1, h2⟩, fun c hcm => ?_, q⟩
      have hle : s1.heap.objs.size ≤ c := by
        simp only [List.mem_cons, List.not_mem_nil, or_false] at hcm
        rcases hcm with q | q | q | q | q <;> rw [q]
        all_goals first | exact Nat.le_add_right _ _ | exact Nat.le_refl _
      exact I1.fpOk hle (I1.hok.fresh hle)
/-! ### all(list) -/
theorem cr_allH (hc : HotC X) : CallR X (.builtin "all") (rAll X.K) := by
  intro pins s σ H vs us Q I r h
  obtain ⟨a, bs, rfl, hs, q⟩ := h
  obtain ⟨its, rv, hl, _⟩ := I.list hs
  rw [Vals.ref1 r]
  have hb := rv.bls
  obtain ⟨x1, t, _⟩ := hot_of hc I
  have n1 : x1 ≠ s.heap.objs.size := by
    obtain ⟨_, o, _, e, _⟩ := t
    exact Nat.ne_of_lt (Heap.lt_size e)
  refine call_all_walk (iter_any hl.isList fun s₂ e2 st hne => ?_)
  subst e2
  have t2 : HotAt X.A x1 (s.heap.push { cls := .type "list_iterator", data := .fields #[.ref a, .int 0 0] }) := hot_keep t fun o e => Heap.get?_push_of_some _ e
  refine ⟨_, _, _, _, _, _, _, rfl, walks_hot (A := X.A.in1) (s := { s with heap := s.heap.push { cls := .type "list_iterator", data := .fields #[.ref a, .int 0 0] } }) t2 hne n1 its.toArray, ⟨st.1, st.2, t2⟩, truth_bools hb, fun h' tk hk => ⟨.bl _, H, I.kept fun b o eo => hk b o (fun hmem => ?_) (Heap.get?_push_of_some _ eo), ?_, q⟩⟩
  · exact absurd (List.mem_singleton.mp hmem ▸ Heap.lt_size eo) (Nat.lt_irrefl _)
  · show Value.bool _ = Value.bool _
    rw [← L2.all_range, hb, List.size_toArray, List.length_map]
end
/-! ### a, b = a tuple -/
section
variable {prog : Program} {w : World} {A : Around} {E : Value → Shared → Prop} {s : Shared} {x1 : Addr}
theorem tup_end_hot {it t : Addr} {i : Nat} {items : Array Value} {Q : Option Value → Shared → Prop} (ho : HotAt A x1 s.heap) (ne : x1 ≠ it) (hit : IsTupIter s.heap it t i) (ht : IsTup s.heap t items) (hx : items[i]? = none)
    (hQ : ∀ h', Heap.ExtBut it s.heap h' → Q none { s with heap := h' }) : wpAny (model prog w) A (pyNext (.ref it)) Q E s := by
  obtain ⟨o, hi, hc, hd⟩ := id hit
  obtain ⟨ol, hol, _, nl, hdl⟩ := ht
  have hT : s.TypeIs (.ref it) "tuple_iterator" := ⟨o, hi, hc⟩
  have body : ∀ {P' : Fin → Shared → Prop} {E' : Value → Shared → Prop}, (∀ h' e, Heap.ExtBut it s.heap h' → StopAt h' e → E' (.ref e) { s with heap := h' }) → wpAny (model prog w) A.in1 (Builtin.«tuple_iterator.__next__» ⟨[.ref it], []⟩) P' E' s := fun {P' E'} hE => by
    show wpAny _ _ (field (.ref it) 0 >>= _) _ _ s
    refine wpAny_bind (wpAny_field hi hd (x := .ref t) rfl ?_)
    show wpAny _ _ (if (Value.ref t == Value.none) = true then _ else _) _ _ s
    rw [if_neg (show ¬ ((Value.ref t == Value.none) = true) from Bool.false_ne_true)]
    show wpAny _ _ (field (.ref it) 1 >>= _) _ _ s
    refine wpAny_bind (wpAny_field hi hd (x := .int i 0) rfl ?_)
    show wpAny _ _ (seqItems? (.ref t) >>= _) _ _ s
    refine wpAny_bind (wpAny_seqItems hol hdl ?_)
    simp only [Int.toNat_natCast, hx]
    have sb : Heap.SameBut it s.heap (s.heap.update it (Obj.mapFields (·.setIfInBounds 0 .none))) := Heap.SameBut.update ..
    refine wpAny_bind (wpAny_rule (wpAny_bind (wpAny_setField hi hd (by simp) ?_)))
    exact stop_hot (s := { s with heap := s.heap.update it (Obj.mapFields (·.setIfInBounds 0 .none)) }) (A := A.in1) (x1 := x1) (hot_keep ho fun o e => (sb.2 x1 ne).trans e) fun h' e k st => hE h' e (fun b o nb q => k b o ((sb.2 b nb).trans q)) st
  unfold pyNext
  refine wpAny_bind (wpAny_attempt (wpAny_callSpecial?_slot (name := Str.ofString "__next__") hT PySem.F.slot_tuple_iterator_next
    (wpAny_call_entry PySem.F.slot_tuple_iterator_next hT PySem.F.entry_tuple_iterator_next (body fun h' e k st => ?_) (PySem.F.args_tuple_iterator_next_1 _))))
  obtain ⟨o, ho, hc⟩ := st
  refine wpAny_bind (wpAny_isInstance (T := "StopIteration") (b := true) ⟨o, ho, hc⟩ isSubtype_stop ?_)
  exact wpAny_pure (hQ _ k)
theorem asg_hot {env : Env} {elts : List Expr} {k : Nat} {pos : Pos} {t : Addr} {items : Array Value} {Q : Unit → Shared → Prop} (ho : HotAt A x1 s.heap) (ht : IsTup s.heap t items) (hn : (assignEach elts env).length = items.size) (hstar : (assignEach elts env).findIdx? (·.1) = none)
    (h : ∀ h', Heap.ExtBut s.heap.objs.size s.heap h' → wpAny (model prog w) A (assignInOrder ((assignEach elts env).map (·.2)) items.toList) Q E { s with heap := h' }) : wpAny (model prog w) A (assign (.Tuple elts k pos) env (.ref t)) Q E s := by
  have hlt : t ≠ s.heap.objs.size := by obtain ⟨o, ho, _⟩ := ht; exact Nat.ne_of_lt (Heap.lt_size ho)
  have n1 : x1 ≠ s.heap.objs.size := by
    obtain ⟨_, o, _, e, _⟩ := ho
    exact Nat.ne_of_lt (Heap.lt_size e)
  rw [PyProof.Rows.assign_Tuple]
  refine wpAny_bind (wpAny_standAt ?_)
  unfold unpack
  rw [hn, hstar]
  refine wpAny_bind (wpAny_holding ?_)
  unfold unpackItems
  refine wpAny_bind ?_
  unfold notIterableAtAll
  refine wpAny_bind (wpAny_specialOf ht.typeIs slot_tuple_iter.lookup (wpAny_pure ?_))
  simp only [Bool.false_eq_true, if_false]
  refine wpAny_bind (wpAny_holding (iter_tuple ht ?_))
  refine wpAny_bind (wpAny_holding (draw_tuple hlt items.size 0 _ _ ⟨_, Heap.get?_push_size _ rfl, rfl, rfl⟩ (ht.push _) (by omega) fun h₁ hit₁ hs₁ => ?_))
  rw [show List.take items.size (List.drop 0 items.toList) = items.toList by rw [List.drop_zero]; exact List.take_of_length_le (by simp), if_neg (by simp)]
  refine wpAny_bind (wpAny_holding (tup_end_hot (x1 := x1) (s := { s with heap := h₁ }) (hot_keep ho fun o e => hs₁.extBut x1 o n1 (Heap.get?_push_of_some _ e)) n1 hit₁ ((ht.push _).extBut hs₁.extBut hlt) (by simp) fun h₂ he₂ => ?_))
  simp only [Option.isSome_none, Bool.false_eq_true, if_false]
  exact wpAny_pure (h h₂ fun b o hb e => he₂ b o hb (hs₁.extBut b o hb (Heap.get?_push_of_some _ e)))
end
theorem pg_tupH {X : Cx} {pos : Pos} {es : List Expr} {k : Nat} {t : TGs} {n : Nat} (hc : HotC X) (h : PGs X es t) (hn : (assignEach es X.env).length = n := by rfl) (hst : (assignEach es X.env).findIdx? (·.1) = none := by rfl) : PG X (.Tuple es k pos) (gTup X.K n t) := by
  refine ⟨fun pins s σ H v u Q I r hw => ?_⟩
  obtain ⟨a, xs, e1, hq, hl, hw⟩ := hw
  subst e1
  cases r
  obtain ⟨its, rv, ht, hz⟩ := I.tuple hq
  obtain ⟨x1, ho, _⟩ := hot_of hc I
  refine asg_hot ho ht (by simp [hn, ← hl, rv.length]) hst fun h' hx => ?_
  exact h.run pins _ σ H xs _ Q (I.kept (t' := s.toks) fun b o e => hx b o (Nat.ne_of_lt (Heap.lt_size e)) e) (by simpa using rv) hw
end Sf
namespace Sf
open PySem PySem.Spec PyProof.Rows L2 HotX L2H
/-! ### comprehensions while an exception is handled: the block bears the exception, too -/
abbrev blkH (X : Cx) (p : Addr × Obj) (s : Shared) (H : Hp) (scope : Scope) (ce : Env) (fp : List Addr) : Cx := { X.blk s H scope ce fp with pn := [p] }
theorem with_pin {X : Cx} {p : Addr × Obj} {σ : L2.St} {H : Hp} {s : Shared} (I : Inv X [] σ H s) (c : s.heap.get? p.1 = some p.2 ∧ H p.1 = none ∧ p.1 ≠ X.env.locals ∧ p.1 ∉ X.fs ∧ ∀ v, p.2.data ≠ .cell v) : Inv { X with pn := [p] } [] σ H s :=
  ⟨⟨I.ok.mod, I.ok.kind, I.ok.glob, I.ok.blt, I.ok.above, I.ok.inj, I.ok.has, I.ok.cab, I.ok.hd, I.ok.frames, I.ok.stk, I.ok.exf, I.ok.bs, I.ok.bsz, I.ok.noex, I.ok.exfs, I.ok.funs, I.ok.frf⟩, I.os, I.bare, I.base, I.loc, I.cell, I.free, I.freeC,
    fun q hq => by rw [show q = p by simpa using hq]; exact c, I.hok, I.len⟩
section
variable {X : Cx}
/-- what one turn of such a loop reaches: the loop's state, further on -/
def LSt (X : Cx) (p : Addr × Obj) (s0 : Shared) (H0 : Hp) (scope : Scope) (ce : Env) (fp : List Addr) (σ0 : L2.St) (tn : Nat → Heap → Prop) (W : Nat → Nat → Hp → Prop) (n : Nat) (s' : Shared) : Prop :=
  ∃ i H', Inv (blkH X p s0 H0 scope ce fp) [] σ0 H' s' ∧ tn i s'.heap ∧ (∀ b ∈ fp, H' b = none) ∧ W i n H'
theorem pe_lcH {elt tg iter : Expr} {scope : Scope} {own : List (Str × Nat)} {pos : Pos} {wi : TI} {g : TG} {te : TE} (hc : HotC X) (hN : X.N.Nodup) (hi : PIH X tg iter wi) (ok : BlkOk X.N X.env.scope scope own)
    (hg : ∀ (p : Addr × Obj) (s : Shared) (H : Hp) (C : Addr) (cl : List (Str × Addr)) (fp : List Addr), HotC (blkH X p s H scope (compEnvC scope cl C X.env) fp) → PG (blkH X p s H scope (compEnvC scope cl C X.env) fp) tg g)
    (he : ∀ (p : Addr × Obj) (s : Shared) (H : Hp) (C : Addr) (cl : List (Str × Addr)) (fp : List Addr), HotC (blkH X p s H scope (compEnvC scope cl C X.env) fp) → PE (blkH X p s H scope (compEnvC scope cl C X.env) fp) elt te) (hs : ∀ x, foldedSetIterable iter X.env x = pure x := by intro _; rfl) :
    PE X (.ListComp elt [⟨tg, iter, [], 0⟩] scope pos) (tLc wi g tYes te (own.map (·.2))) := by
  refine ⟨fun pins s σ H Q I h => ?_⟩
  rw [eval_ListComp]
  obtain ⟨p, hot, hp⟩ := hc
  have hfree : ∀ y ∈ scope.names, y.2 = .free → ∃ c, X.env.cells.lookup y.1 = some c := fun y hy e => I.ok.has _ (ok.free y hy e)
  refine wpAny_comprehension_free (use := none) rfl hs (closure_ok hfree) ok.kind (fun y hy e => by rw [ok.uniq y hy, e]) (thn (hi.run pins s σ H _ I h) fun xv s1 hx => thn hx fun itv s2 h2 => ?_)
  obtain ⟨it, fp, tn, J, H2, e, I2, T, st2, f2, q⟩ := h2
  subst e
  refine wpAny_newObj_type (newEnv_comp ?_) (by show 0 ≤ sizeLine; decide)
  obtain ⟨D, hD⟩ : ∃ D, D = s2.heap.objs.size := ⟨_, rfl⟩
  have hDn : H2 D = none := I2.hok.fresh (Nat.le_of_eq hD.symm)
  obtain ⟨W, ⟨m0, w0⟩, turn⟩ := q D hDn
  obtain ⟨s3, hs3⟩ : ∃ s3 : Shared, s3 = { s2 with heap := s2.heap.push { cls := .type "list", data := .seq ([] : List Value).toArray } } := ⟨_, rfl⟩
  have h3 : s3.heap = s2.heap.push { cls := .type "list", data := .seq ([] : List Value).toArray } := by rw [hs3]
  have I3 : Inv X pins σ (upd H2 D (.lst [])) s3 := by
    rw [hs3]
    refine I2.laid (t' := s2.toks) (fun b o e => Heap.get?_push_of_some _ e) (Nat.le_of_eq hD.symm) ⟨Nat.zero_le _, [], 0, .nil, ?_⟩
    rw [hD]
    exact Heap.get?_push_size _ rfl
  have f3 : ∀ b ∈ fp, FpOk X pins (upd H2 D (.lst [])) b ∧ b < s3.heap.objs.size := fun b hb => by
    obtain ⟨o, eo, _⟩ := T.obj _ _ st2 b hb
    have hlt := Heap.lt_size eo
    refine ⟨⟨?_, (f2 b hb).2⟩, by rw [h3, Heap.size_push]; exact Nat.lt_succ_of_lt hlt⟩
    rw [upd_ne (by rw [hD]; exact Nat.ne_of_lt hlt)]
    exact (f2 b hb).1
  have st3 : tn 0 s3.heap := T.keep _ _ _ st2 fun b _ o e => by rw [h3]; exact Heap.get?_push_of_some _ e
  have P3 := I3.pin p (List.mem_append_left _ hp)
  -- the block
  obtain ⟨cl, hcl⟩ : ∃ cl, cl = cellsFrom (s3.heap.objs.size + 1) scope.names (cloFrom X.env.cells scope.names []) := ⟨_, rfl⟩
  obtain ⟨H3, hH3⟩ : ∃ H3, H3 = upd H2 D (.lst []) := ⟨_, rfl⟩
  obtain ⟨s4, hs4⟩ : ∃ s4 : Shared, s4 = { s3 with heap := pushCells (s3.heap.push { cls := .type "dict", data := .dict #[] }) scope.names } := ⟨_, rfl⟩
  have hk4 : ∀ b o, s3.heap.get? b = some o → s4.heap.get? b = some o := fun b o e => by rw [hs4]; exact pushCells_keeps _ _ _ _ (Heap.get?_push_of_some _ e)
  have I4 : Inv (blkH X p s3 H3 scope (compEnvC scope cl s3.heap.objs.size X.env) fp) [] (wipe σ (own.map (·.2))) H3 s4 := by
    have I40 := block_start I3 ok hN f3
    rw [← hcl, ← hH3, ← hs4] at I40
    refine with_pin I40 ⟨hk4 _ _ P3.1, by rw [hH3]; exact P3.2.1, Nat.ne_of_lt (Heap.lt_size P3.1), fun hm => (List.mem_cons.mp (I3.stkSub p.1 hm)).elim P3.2.2.1 P3.2.2.2.1, P3.2.2.2.2⟩
  have hcB : HotC (blkH X p s3 H3 scope (compEnvC scope cl s3.heap.objs.size X.env) fp) := ⟨p, hot, List.mem_singleton.mpr rfl⟩
  have pg := hg p s3 H3 s3.heap.objs.size cl fp hcB
  have pe := he p s3 H3 s3.heap.objs.size cl fp hcB
  rw [← hH3] at I3 w0 f3
  show codeAny _ _ (.compStart (.ListComp elt [⟨tg, iter, [], 0⟩] scope pos) 0 (.ref it) (.ref s2.heap.objs.size) (compEnvC scope (cellsFrom ((s2.heap.push _).objs.size + 1) scope.names (cloFrom X.env.cells scope.names [])) (s2.heap.push _).objs.size X.env)) _ { s2 with heap := pushCells ((s2.heap.push _).push { cls := .type "dict", data := .dict #[] }) scope.names }
  rw [← hD]
  have hcl' : cellsFrom ((s2.heap.push { cls := .type "list", data := .seq ([] : List Value).toArray }).objs.size + 1) scope.names (cloFrom X.env.cells scope.names []) = cl := by rw [hcl, h3]
  have hsz' : (s2.heap.push { cls := .type "list", data := .seq ([] : List Value).toArray }).objs.size = s3.heap.objs.size := by rw [h3]
  have hs4' : ({ s2 with heap := pushCells ((s2.heap.push { cls := .type "list", data := .seq ([] : List Value).toArray }).push { cls := .type "dict", data := .dict #[] }) scope.names } : Shared) = s4 := by rw [hs4, hs3]
  rw [hcl', hsz', hs4']
  have st4 : tn 0 s4.heap := T.keep _ _ _ st3 fun b _ o e => hk4 b o e
  have stat : ∀ {σ' : L2.St} {H' : Hp} {s' : Shared}, Inv (blkH X p s3 H3 scope (compEnvC scope cl s3.heap.objs.size X.env) fp) [] σ' H' s' → (∀ b ∈ fp, H' b = none) → ∀ b ∈ fp, FpOk (blkH X p s3 H3 scope (compEnvC scope cl s3.heap.objs.size X.env) fp) [] H' b := fun {σ' H' s'} I' hn b hb =>
    ⟨hn b hb, (I'.ok.exf b hb).1, I'.ok.exfs b hb, .inl hb, fun x c e => (I'.ok.exf b hb).2 x c e, fun r hr => by rw [show r = p by simpa using hr]; exact (f3 b hb).1.2.2.2.2.2 p (List.mem_append_left _ hp)⟩
  have loop : codeAny (model X.prog X.w) X.A (.compLoop (.ListComp elt [⟨tg, iter, [], 0⟩] scope pos) 0 (.ref it) (.ref D) (compEnvC scope cl s3.heap.objs.size X.env)) (compPost (model X.prog X.w) X.A X.xe none (EP X pins σ Q) (.ref D) s3.heap.objs.size) s4 := by
    refine compLoop_any (LSt X p s3 H3 scope (compEnvC scope cl s3.heap.objs.size X.env) fp (wipe σ (own.map (·.2))) tn W) ?_ m0 ⟨0, H3, I4, st4, fun b hb => (f3 b hb).1.1, w0⟩
    rintro n s5 ⟨i, H5, I5, st5, n5, w5⟩
    rcases turn i n H5 w5 with ⟨stop, qq⟩ | ⟨go, Nx, hNx, step⟩
    · refine thnF (T.done (blkH X p s3 H3 scope (compEnvC scope cl s3.heap.objs.size X.env) fp) rfl rfl rfl hcB i [] s5 _ H5 (fun _ _ => False) I5 (stat I5 n5) st5 stop) fun r s6 ⟨hr, I6⟩ => ?_
      subst hr
      have I7 : Inv X pins σ H5 s6 := I3.call' (ch := fp) I6.os I6.base I6.hok I6.bare fun b hb => ⟨(f3 b hb).1.2.2.2.1, (f3 b hb).1.2.1, (f3 b hb).1.2.2.2.2.1, (f3 b hb).1.2.2.2.2.2⟩
      obtain ⟨m, hn, _⟩ := I6.loc
      refine ⟨m, hn, fun h'' sb => ?_⟩
      obtain ⟨g0, g1, g2, g3, g4, g5⟩ := I3.fpOk (b := s3.heap.objs.size) (Nat.le_refl _) (show H5 s3.heap.objs.size = none from I6.free)
      exact ⟨.ref D, H5, I7.turned (t' := s6.toks) (fun b o hb e => (sb.2 b hb).trans e) g0 g1 g3 g4 g5, rfl, qq⟩
    · refine thnF (T.item (blkH X p s3 H3 scope (compEnvC scope cl s3.heap.objs.size X.env) fp) rfl rfl rfl hcB i [] s5 _ H5 (fun _ _ => False) I5 (stat I5 n5) st5 go) fun r s6 ⟨u, hr, h6⟩ => ?_
      subst hr
      refine thnF h6 fun _ s7 ⟨x, H7, I7, r7, y7, st7, n7⟩ => ?_
      have ob7 := T.obj _ _ st7
      refine thnF (pg.run _ s7 _ H7 x u _ (I7.pinned (stat I7 n7) ob7) r7 (step x H7 y7)) fun _ s8 ⟨σ8, H8, I8, hw8, q8⟩ => ?_
      have fin : ∀ {s' : Shared} {H' : Hp}, Inv (blkH X p s3 H3 scope (compEnvC scope cl s3.heap.objs.size X.env) fp) ([] ++ pinsAt fp s7.heap) σ8 H' s' → Nx H' → ∃ m, m < n ∧ LSt X p s3 H3 scope (compEnvC scope cl s3.heap.objs.size X.env) fp (wipe σ (own.map (·.2))) tn W m s' := fun {s' H'} I' nx => by
        obtain ⟨m', hm, w'⟩ := hNx H' nx
        have stay : ∀ b ∈ fp, ∀ o, s7.heap.get? b = some o → s'.heap.get? b = some o ∧ H' b = none := fun b hb o e => by
          have z := I'.pin (b, o) (List.mem_append_right _ (List.mem_append_right _ (mem_pinsAt hb e)))
          exact ⟨z.1, z.2.1⟩
        refine ⟨m', hm, i + 1, H', (I'.unpinned (pins := [])).weak (by rw [← hw8, wipe_length]) (fun j v e => by rw [← hw8] at e; exact (wipe_some e).1), T.keep _ _ _ st7 fun b hb o e => (stay b hb o e).1, fun b hb => ?_, w'⟩
        obtain ⟨o, e, _⟩ := ob7 b hb
        exact (stay b hb o e).2
      refine thnF ((pts_nil (X := blkH X p s3 H3 scope (compEnvC scope cl s3.heap.objs.size X.env) fp)).run _ s8 σ8 H8 _ I8 q8) fun b s9 ⟨H9, I9, q9⟩ => ?_
      cases b with
      | false =>
        simp only [Bool.false_eq_true, if_false] at q9 ⊢
        exact fin I9 q9
      | true =>
        simp only [if_true] at q9 ⊢
        refine thnF (pe.run _ s9 σ8 H9 _ I9 q9) fun z s10 ⟨yv, H10, I10, r10, acc, hD10, hz10, nx⟩ => ?_
        exact app_ok (X := blkH X p s3 H3 scope (compEnvC scope cl s3.heap.objs.size X.env) fp) I10 hD10 hz10 r10 fun s11 I11 => fin I11 nx
  exact codeAny_compStart_list loop (T.self X.A 0 _ _ _ st4 loop)
end
end Sf
namespace Sf
open PySem PySem.Spec PyProof.Rows L2 HotX L2H TL
section
variable {P : Program} {w : World} {K : PySem.W.Frag} {mg : Str → Option Value} {base : Heap}
/-! ### defs that are called while an exception is handled -/
theorem _root_.L2.Fun.okH {CX : CXT} {x qual : Str} {st : Stmt} {f : Addr} {fd : FuncData} {N ps : List Str} {k : Nat} {sp : Sp} (F : Fun K x qual st f fd) (S : FnScope N ps (defScope st)) (len : ∀ vs H Q E, sp vs H Q E → vs.length = ps.length)
    (hbody : ∀ (cdv : Value) (A : Around) (outer : List Env) (s : Shared) (H : Hp) (vs : List V) (Q : VK) (E : XK) (p : Addr × Obj), HotC (cxH CX P w K mg base N qual (defScope st) f cdv A outer s H E p) → RoomH k (A.deeper (envOfC qual (defScope st) s.heap.objs.size f cdv)) → sp vs H Q E →
      ∃ t, PSs (cxH CX P w K mg base N qual (defScope st) f cdv A outer s H E p) (defBody st) t ∧ t { nx := fun _ H' => Q .non H', rt := Q } (L2.start N vs) H) : FnH P w K mg base CX (k + 1) f fd ps sp := by
  obtain ⟨oc, od, kV, doc, pm, an, cdv, ct, osl, rfl, lk, hcd⟩ := F.ex
  exact fn_ofH lk hcd S len fun A outer s H vs Q E p hot hr h => hbody cdv A outer s H vs Q E p ⟨p, ⟨hot.1, hot.2⟩, List.mem_singleton.mpr rfl⟩ hr h
def HasH (P : Program) (w : World) (K : PySem.W.Frag) (mg : Str → Option Value) (base : Heap) (k : Nat) (x : Str) (ps : List Str) (sp : Sp) : Prop :=
  ∃ (f : Addr) (fd : FuncData), mg x = some (.ref f) ∧ PySem.W.keepIn K (.ref f) = true ∧ Binds K fd ps [] ∧ FnH P w K mg base CX0 k f fd ps sp
theorem FnAt.hasH {k : Nat} {x : Str} {st : Stmt} {ps : List Str} {sp : Sp} (h : FnAt K mg x st ps) (ok : ∀ {f : Addr} {fd : FuncData}, Fun K x x st f fd → FnH P w K mg base CX0 k f fd ps sp) : HasH P w K mg base k x ps sp := by
  obtain ⟨f, fd, g, F, b⟩ := h
  exact ⟨f, fd, g, F.kp, b, ok F⟩
theorem pass0H {X : Cx} {E : L2.St → XK} : ∀ σ, PassesAt CX0 X σ (E σ) := fun _ _ _ _ _ _ _ h => h.elim
/-! ### _law_same of lists of lists and flat things -/
def EqL (H : Hp) : Nat → V → V → Prop
  | 0, x, y => flat4 x = true ∧ x = y
  | n + 1, x, y => (flat4 x = true ∧ x = y) ∨ ∃ (pa pb : Addr) (xs ys : List V), x = .ref pa ∧ y = .ref pb ∧ (H pa = some (.lst xs) ∧ H pb = some (.lst ys)) ∧ xs.length = ys.length ∧ xs.length ≤ 100000 ∧ ∀ (i : Nat) (u v : V), xs[i]? = some u → ys[i]? = some v → EqL H n u v
theorem EqL.same {H H' : Hp} (s : Same H H') : ∀ {n : Nat} {x y : V}, EqL H n x y → EqL H' n x y
  | 0, _, _, h => h
  | _ + 1, _, _, .inl h => .inl h
  | _ + 1, _, _, .inr ⟨pa, pb, xs, ys, e1, e2, ⟨h1, h2⟩, l1, l2, h⟩ => .inr ⟨pa, pb, xs, ys, e1, e2, ⟨s _ _ h1, s _ _ h2⟩, l1, l2, fun i u v hu hv => (h i u v hu hv).same s⟩
def spSameH (n : Nat) : Sp := fun vs H Q _ => ∃ x y : V, vs = [x, y] ∧ EqL H n x y ∧ ∀ H', Same H H' → Q (.bl true) H'
theorem has_sameH (F : FnAt K mg "_law_same" s__law_same ["_law_found", "_law_due"]) (B : Blt mg) : ∀ n, HasH P w K mg base (n + 1) "_law_same" ["_law_found", "_law_due"] (spSameH n) := by
  intro n
  induction n with
  | zero =>
    refine F.hasH fun F => ?_
    refine F.okH sc_same (fun vs H Q E h => ?_) (fun cdv A outer s H vs Q E p0 hc0 hr h => ?_)
    · obtain ⟨x, y, rfl, _⟩ := h
      rfl
    · obtain ⟨x, y, rfl, ⟨fx, rfl⟩, q⟩ := h
      obtain ⟨T, b1, b2, b3, ty, k1, k2, k3, k4, k5⟩ := flat_kit (K := K) (H := H) fx
      refine ⟨_, pss_cons (ps_if (pt_val (pe_callB call_isiT (by rfl) B.isinstance (by decide +kernel) (pa_cons (pv 1) (pa_cons (pe_tup (pa_cons (pe_bltn (v := .ty "list") (by rfl) B.list (by decide +kernel) rfl) (pa_cons (pe_bltn (v := .ty "tuple") (by rfl) B.tuple (by decide +kernel) rfl) pa_nil))) pa_nil)))) pss_never pss_nil)
        (pss_cons (ps_if (PW.pt (pw_or (pt_cmpR op_isN (pv 1) pe_non (nomark _)) (pw_or1 (pt_cmpR op_isN (pv 0) pe_non (nomark _))))) (pss_one (ps_ret (pe_and (pe_cmpR op_isN (pv 0) pe_non (nomark _)) (pe_one (pe_cmpR op_isN (pv 1) pe_non (nomark _)))))) pss_nil)
        (pss_cons (ps_if (PW.pt (pw_or (pt_cmpR op_ne (pe_callB call_isi (by rfl) B.isinstance (by decide +kernel) (pa_cons (pv 0) (pa_cons (pe_bltn (v := .ty "bool") (by rfl) B.bool (by decide +kernel) rfl) pa_nil))) (pe_callB call_isi (by rfl) B.isinstance (by decide +kernel) (pa_cons (pv 1) (pa_cons (pe_bltn (v := .ty "bool") (by rfl) B.bool (by decide +kernel) rfl) pa_nil))) (nomark _))
            (pw_or1 (pt_cmpR op_ne (pe_callB call_isi (by rfl) B.isinstance (by decide +kernel) (pa_cons (pv 0) (pa_cons (pe_bltn (v := .ty "int") (by rfl) B.int (by decide +kernel) rfl) pa_nil))) (pe_callB call_isi (by rfl) B.isinstance (by decide +kernel) (pa_cons (pv 1) (pa_cons (pe_bltn (v := .ty "int") (by rfl) B.int (by decide +kernel) rfl) pa_nil))) (nomark _))))) pss_never pss_nil)
        (pss_one (ps_ret (pe_and (pe_cmpR op_eq (pe_callB call_isi (by rfl) B.isinstance (by decide +kernel) (pa_cons (pv 0) (pa_cons (pe_bltn (v := .ty "str") (by rfl) B.str (by decide +kernel) rfl) pa_nil))) (pe_callB call_isi (by rfl) B.isinstance (by decide +kernel) (pa_cons (pv 1) (pa_cons (pe_bltn (v := .ty "str") (by rfl) B.str (by decide +kernel) rfl) pa_nil))) (nomark _)) (pe_one (pe_cmpR op_eq (pv 0) (pv 1) (nomark _)))))))), ?_⟩
      refine ⟨x, rfl, (by show 2 ≤ sizeLine; decide), fun p np => ?_⟩
      have s1 := same_upd (o := .tup [.ty "list", .ty "tuple"]) np
      have ty1 := TyX.same s1 fx ty
      refine ⟨x, p, _, _, [.type "list", .type "tuple"], false, rfl, upd_same, .cons (.ty _) (.cons (.ty _) .nil), ty1, kit2 k1 k2, _, rfl, iteF ?_⟩
      refine ⟨x, rfl, rfl, _, rfl, ite2 (fun e => ?_) (fun e => ?_)⟩
      · have ex : x = .non := of_decide_eq_true e
        subst ex
        refine iteT ⟨_, rfl, rfl, _, rfl, ite2 (fun _ => ⟨_, rfl, rfl, ?_⟩) (fun z => absurd (decide_eq_true rfl) z)⟩
        exact q _ s1
      · refine ⟨x, rfl, rfl, _, rfl, ite2 (fun e2 => absurd e2 e) (fun _ => ?_)⟩
        refine ⟨x, rfl, x, _, _, _, b1, rfl, .ty "bool", ty1, kit_ty k3, x, rfl, x, _, _, _, b1, rfl, .ty "bool", ty1, kit_ty k3, rfl, _, rfl, ite2 (fun z => ?_) (fun _ => ?_)⟩
        · rw [ne_bl] at z
          cases z
        · refine ⟨x, rfl, x, _, _, _, b2, rfl, .ty "int", ty1, kit_ty k4, x, rfl, x, _, _, _, b2, rfl, .ty "int", ty1, kit_ty k4, rfl, _, rfl, ite2 (fun z => ?_) (fun _ => ?_)⟩
          · rw [ne_bl] at z
            cases z
          · refine ⟨x, rfl, x, _, _, _, b3, rfl, .ty "str", ty1, kit_ty k5, x, rfl, x, _, _, _, b3, rfl, .ty "str", ty1, kit_ty k5, rfl, _, rfl, ite2 (fun z => ?_) (fun z => absurd (decide_eq_true rfl) z)⟩
            refine ⟨x, rfl, x, rfl, scal_flat fx, ?_⟩
            rw [decide_eq_true rfl]
            exact q _ s1
  | succ n ih =>
    obtain ⟨fR, fdR, gR, kR, bR, GR⟩ := ih
    refine F.hasH fun F => ?_
    refine F.okH sc_same (fun vs H Q E h => ?_) (fun cdv A outer s H vs Q E p0 hc0 hr h => ?_)
    · obtain ⟨x, y, rfl, _⟩ := h
      rfl
    · obtain ⟨x, y, rfl, hE, q⟩ := h
      refine seq_by (fun σ H1 => σ = [some x, some x, none, none] ∧ flat4 x = true ∧ Same H H1) ?_ ?_
      · refine ⟨_, (pss_cons (ps_if (PW.pt (pw_or (pt_cmpR op_isN (pv 1) pe_non (nomark _)) (pw_or1 (pt_cmpR op_isN (pv 0) pe_non (nomark _))))) (pss_one (ps_ret (pe_and (pe_cmpR op_isN (pv 0) pe_non (nomark _)) (pe_one (pe_cmpR op_isN (pv 1) pe_non (nomark _)))))) pss_nil)
        (pss_cons (ps_if (PW.pt (pw_or (pt_cmpR op_ne (pe_callB call_isi (by rfl) B.isinstance (by decide +kernel) (pa_cons (pv 0) (pa_cons (pe_bltn (v := .ty "bool") (by rfl) B.bool (by decide +kernel) rfl) pa_nil))) (pe_callB call_isi (by rfl) B.isinstance (by decide +kernel) (pa_cons (pv 1) (pa_cons (pe_bltn (v := .ty "bool") (by rfl) B.bool (by decide +kernel) rfl) pa_nil))) (nomark _))
            (pw_or1 (pt_cmpR op_ne (pe_callB call_isi (by rfl) B.isinstance (by decide +kernel) (pa_cons (pv 0) (pa_cons (pe_bltn (v := .ty "int") (by rfl) B.int (by decide +kernel) rfl) pa_nil))) (pe_callB call_isi (by rfl) B.isinstance (by decide +kernel) (pa_cons (pv 1) (pa_cons (pe_bltn (v := .ty "int") (by rfl) B.int (by decide +kernel) rfl) pa_nil))) (nomark _))))) pss_never pss_nil)
        (pss_one (ps_ret (pe_and (pe_cmpR op_eq (pe_callB call_isi (by rfl) B.isinstance (by decide +kernel) (pa_cons (pv 0) (pa_cons (pe_bltn (v := .ty "str") (by rfl) B.str (by decide +kernel) rfl) pa_nil))) (pe_callB call_isi (by rfl) B.isinstance (by decide +kernel) (pa_cons (pv 1) (pa_cons (pe_bltn (v := .ty "str") (by rfl) B.str (by decide +kernel) rfl) pa_nil))) (nomark _)) (pe_one (pe_cmpR op_eq (pv 0) (pv 1) (nomark _)))))))), ?_⟩
        rintro σ H1 ⟨rfl, fx, s1⟩
        obtain ⟨T, b1, b2, b3, ty1, k1, k2, k3, k4, k5⟩ := flat_kit (K := K) (H := H1) fx
        refine ⟨x, rfl, rfl, _, rfl, ite2 (fun e => ?_) (fun e => ?_)⟩
        · have ex : x = .non := of_decide_eq_true e
          subst ex
          refine iteT ⟨_, rfl, rfl, _, rfl, ite2 (fun _ => ⟨_, rfl, rfl, ?_⟩) (fun z => absurd (decide_eq_true rfl) z)⟩
          exact q _ s1
        · refine ⟨x, rfl, rfl, _, rfl, ite2 (fun e2 => absurd e2 e) (fun _ => ?_)⟩
          refine ⟨x, rfl, x, _, _, _, b1, rfl, .ty "bool", ty1, kit_ty k3, x, rfl, x, _, _, _, b1, rfl, .ty "bool", ty1, kit_ty k3, rfl, _, rfl, ite2 (fun z => ?_) (fun _ => ?_)⟩
          · rw [ne_bl] at z
            cases z
          · refine ⟨x, rfl, x, _, _, _, b2, rfl, .ty "int", ty1, kit_ty k4, x, rfl, x, _, _, _, b2, rfl, .ty "int", ty1, kit_ty k4, rfl, _, rfl, ite2 (fun z => ?_) (fun _ => ?_)⟩
            · rw [ne_bl] at z
              cases z
            · refine ⟨x, rfl, x, _, _, _, b3, rfl, .ty "str", ty1, kit_ty k5, x, rfl, x, _, _, _, b3, rfl, .ty "str", ty1, kit_ty k5, rfl, _, rfl, ite2 (fun z => ?_) (fun z => absurd (decide_eq_true rfl) z)⟩
              refine ⟨x, rfl, x, rfl, scal_flat fx, ?_⟩
              rw [decide_eq_true rfl]
              exact q _ s1
      · intro u hu
        refine ⟨_, ps_if (pt_val (pe_callB call_isiT (by rfl) B.isinstance (by decide +kernel) (pa_cons (pv 1) (pa_cons (pe_tup (pa_cons (pe_bltn (v := .ty "list") (by rfl) B.list (by decide +kernel) rfl) (pa_cons (pe_bltn (v := .ty "tuple") (by rfl) B.tuple (by decide +kernel) rfl) pa_nil))) pa_nil))))
          (pss_cons (ps_if (PW.pt (pw_or (pt_cmpR op_ne (pe_callB call_isi (by rfl) B.isinstance (by decide +kernel) (pa_cons (pv 0) (pa_cons (pe_bltn (v := .ty "list") (by rfl) B.list (by decide +kernel) rfl) pa_nil))) (pe_callB call_isi (by rfl) B.isinstance (by decide +kernel) (pa_cons (pv 1) (pa_cons (pe_bltn (v := .ty "list") (by rfl) B.list (by decide +kernel) rfl) pa_nil))) (nomark _)) (pw_or1 (pt_cmpR op_ne (pe_callB call_isi (by rfl) B.isinstance (by decide +kernel) (pa_cons (pv 0) (pa_cons (pe_bltn (v := .ty "tuple") (by rfl) B.tuple (by decide +kernel) rfl) pa_nil))) (pe_callB call_isi (by rfl) B.isinstance (by decide +kernel) (pa_cons (pv 1) (pa_cons (pe_bltn (v := .ty "tuple") (by rfl) B.tuple (by decide +kernel) rfl) pa_nil))) (nomark _))))) pss_never pss_nil)
          (pss_one (ps_ret (pe_and (pe_cmpR op_eq (pe_callB call_len_seq (by rfl) B.len PySem.boot_len (pa_cons (pv 0) pa_nil)) (pe_callB call_len_seq (by rfl) B.len PySem.boot_len (pa_cons (pv 1) pa_nil)) (nomark _))
            (pe_one (pe_callB (cr_allH hc0) (by rfl) B.all (by decide +kernel) (pa_cons (pe_lcH (own := [("_law_one", 2), ("_law_other", 3)]) (g := gTup K 2 (gCons (gName 2) (gCons (gName 3) gNil))) hc0 sc_same.nd (pi_zipH (by rfl) B.zip (pa_cons (pv 0) (pa_cons (pv 1) pa_nil)))
              (blkOk_by (own := [("_law_one", 2), ("_law_other", 3)]) (N := ["_law_found", "_law_due", "_law_one", "_law_other"]) (sc := defScope s__law_same) (by decide +kernel))
              (fun _ _ _ _ _ _ hcB => pg_tupH hcB (pgs_cons (pg_name (i := 2) sc_same.nd rfl (.inl rfl)) (pgs_cons (pg_name (i := 3) sc_same.nd rfl (.inl rfl)) pgs_nil)))
              (fun _ _ _ _ _ _ hcB => pe_callH (E := fun _ => E0) GR hr hcB (by rfl) gR kR bR pass0H (pa_cons (pv 2) (pa_cons (pv 3) pa_nil)))) pa_nil))))))) pss_nil, ?_⟩
        refine ⟨y, rfl, (by show 2 ≤ sizeLine; decide), fun p np => ?_⟩
        have s1 := same_upd (o := .tup [.ty "list", .ty "tuple"]) np
        rcases hE with ⟨fx, rfl⟩ | ⟨pa, pb, xs, ys, rfl, rfl, hxy, hlen, hsz, hEach⟩
        · obtain ⟨T, b1, b2, b3, ty, k1, k2, k3, k4, k5⟩ := flat_kit (K := K) (H := upd H p (.tup [.ty "list", .ty "tuple"])) fx
          exact ⟨x, p, _, _, [.type "list", .type "tuple"], false, rfl, upd_same, .cons (.ty _) (.cons (.ty _) .nil), ty, kit2 k1 k2, _, rfl, iteF (hu _ _ ⟨rfl, fx, s1⟩)⟩
        · obtain ⟨T, bl, bt, tyx, tyy, kany, kl, kt⟩ : ∃ (T : String) (bl bt : Bool), TyX K (upd H p (.tup [.ty "list", .ty "tuple"])) (.ref pa) (.type T) ∧ TyX K (upd H p (.tup [.ty "list", .ty "tuple"])) (.ref pb) (.type T) ∧
              PySem.W.kitAny K (.type T) [.type "list", .type "tuple"] = some true ∧ kitB T "list" = some bl ∧ kitB T "tuple" = some bt := by
            obtain ⟨ha, hb⟩ := hxy
            exact ⟨"list", true, false, .base (.lst (s1 _ _ ha)), .base (.lst (s1 _ _ hb)), kitAny_cons (kit_ty (b := "list") (r := true) (by decide +kernel)) (fun q => nomatch q) (fun _ => rfl), by decide +kernel, by decide +kernel⟩
          refine ⟨_, p, _, _, [.type "list", .type "tuple"], true, rfl, upd_same, .cons (.ty _) (.cons (.ty _) .nil), tyy, kany, _, rfl, iteT ?_⟩
          refine ⟨_, rfl, _, _, _, _, bl, rfl, .ty "list", tyx, kit_ty kl, _, rfl, _, _, _, _, bl, rfl, .ty "list", tyy, kit_ty kl, rfl, _, rfl, ite2 (fun z => ?_) (fun _ => ?_)⟩
          · rw [ne_bl] at z
            cases z
          refine ⟨_, rfl, _, _, _, _, bt, rfl, .ty "tuple", tyx, kit_ty kt, _, rfl, _, _, _, _, bt, rfl, .ty "tuple", tyy, kit_ty kt, rfl, _, rfl, ite2 (fun z => ?_) (fun _ => ?_)⟩
          · rw [ne_bl] at z
            cases z
          have sqx : SqL K (upd H p (.tup [.ty "list", .ty "tuple"])) pa xs ∨ SqT K (upd H p (.tup [.ty "list", .ty "tuple"])) pa xs := .inl (SqL.of (s1 _ _ hxy.1))
          have sqy : SqL K (upd H p (.tup [.ty "list", .ty "tuple"])) pb ys ∨ SqT K (upd H p (.tup [.ty "list", .ty "tuple"])) pb ys := .inl (SqL.of (s1 _ _ hxy.2))
          refine ⟨_, rfl, pa, xs, rfl, sqx, _, rfl, pb, ys, rfl, sqy, rfl, _, rfl, ite2 (fun _ => ?_) (fun z => absurd (decide_eq_true (by rw [hlen])) z)⟩
          refine ⟨_, rfl, _, rfl, pa, pb, xs, ys, rfl, SqL.of (s1 _ _ hxy.1), SqL.of (s1 _ _ hxy.2), ?_⟩
          have turn : ∀ (i : Nat) (x y : V) (D T : Addr) (H2 : Hp), (upd H p (.tup [.ty "list", .ty "tuple"])) D = none → xs[i]? = some x → ys[i]? = some y → Same (upd H p (.tup [.ty "list", .ty "tuple"])) H2 → H2 D = some (.lst (List.replicate i (V.bl true))) → H2 T = none →
              ∃ x' y' : V, [x, y] = [x', y'] ∧ EqL (upd H2 T (.tup [x, y])) n x' y' ∧ ∀ H', Same (upd H2 T (.tup [x, y])) H' → ∃ acc, H' D = some (.lst acc) ∧ acc.length < sizeLine ∧ (Same (upd H p (.tup [.ty "list", .ty "tuple"])) (upd H' D (.lst (acc ++ [.bl true]))) ∧ (upd H' D (.lst (acc ++ [.bl true]))) D = some (.lst (List.replicate (i + 1) (V.bl true)))) := by
            intro i x y D T H2 nD hx hy s2 hD nT
            have s3 : Same H2 (upd H2 T (.tup [x, y])) := same_upd nT
            have hi : i < xs.length := (List.getElem?_eq_some_iff.mp hx).1
            refine ⟨x, y, rfl, (hEach i x y hx hy).same (s1.trans (s2.trans s3)), fun H' s4 => ⟨_, s4 _ _ (s3 _ _ hD), ?_, fun a o e => ?_, ?_⟩⟩
            · rw [List.length_replicate]
              exact lineLt_of (by omega)
            · rw [upd_ne (ne_of_none e nD)]
              exact s4 _ _ (s3 _ _ (s2 _ _ e))
            · rw [upd_same, List.replicate_succ']
          have fin : ∀ (D : Addr) (H2 : Hp), Same (upd H p (.tup [.ty "list", .ty "tuple"])) H2 → H2 D = some (.lst (List.replicate xs.length (V.bl true))) → ∃ (a : Addr) (bs : List Bool), [V.ref D] = [V.ref a] ∧ SqL K H2 a (bs.map V.bl) ∧ Q (.bl (bs.all id)) H2 := by
            intro D H2 s2 hD
            refine ⟨D, List.replicate xs.length true, rfl, SqL.of (by rw [hD, List.map_replicate]), ?_⟩
            rw [all_true]
            exact q _ (s1.trans s2)
          obtain ⟨ha, hb⟩ := hxy
          intro D nD
          refine lc_gen (n := xs.length) (fun i H2 => Same (upd H p (.tup [.ty "list", .ty "tuple"])) H2 ∧ H2 D = some (.lst (List.replicate i (V.bl true)))) ⟨same_upd nD, upd_same⟩ ?_ ?_ ?_ ?_
          · rintro i H2 hi ⟨s2, hD⟩
            exact ⟨xs, ys, _, _, SqL.of (s2 _ _ (s1 _ _ ha)), SqL.of (s2 _ _ (s1 _ _ hb)), List.getElem?_eq_getElem hi, List.getElem?_eq_getElem (by omega)⟩
          · rintro H2 ⟨s2, hD⟩
            exact ⟨xs, ys, SqL.of (s2 _ _ (s1 _ _ ha)), SqL.of (s2 _ _ (s1 _ _ hb)), Nat.le_refl _⟩
          · rintro i v H2 H3 hi ⟨s2, hD⟩ ⟨T, x, y, rfl, nT, rfl, f1, f2⟩
            refine ⟨T, [x, y], rfl, .inl (.inl upd_same), rfl, x, [y], rfl, y, [], rfl, rfl, rfl, ?_⟩
            refine yes_if ?_
            exact ⟨_, rfl, _, rfl, turn i x y D T H2 nD (f1 xs (SqL.of (s2 _ _ (s1 _ _ ha)))) (f2 ys (SqL.of (s2 _ _ (s1 _ _ hb)))) s2 hD nT⟩
          · rintro H2 ⟨s2, hD⟩
            exact fin D H2 s2 hD
end
end Sf
namespace Sf
open PySem PySem.Spec PyProof.Rows L2 TL
theorem passes_lenN {X : Cx} {W : WX} (n : Nat) (hn : X.N.length = n) (tk : L2N.Takes X W) : Passes (L2N.CX X.prog X.w) X (fun cls d H => ∀ σ : L2.St, σ.length = n → W cls d σ H) := fun _ σ _ _ e s' I c => tk e s' (L2N.XE.of_call I (fun _ _ _ h => h σ (I.len.trans hn)) c)
section
variable {X : Cx} {CX : CXT} {k : Nat} {f C : Addr} {fd : FuncData} {ps : List Str} {sp : Sp} {E : XK} {x m : Str} {p pos apos : Pos} {e o : Expr} {es : List Expr} {te ta : TE} {t : TA} {mc : Value}
theorem pmk_oex0N {fI : Addr} (T : OexC X.K C) (iC : PySem.W.findIn X.K (.ref C) "__init__" = some (some (.ref fI))) (tI : PySem.W.typeIn X.K (.ref fI) = some (.type "function"))
    (F1 : FnOk X.prog X.w X.K X.mg X.base CX k fI fd ps sp) (hr : Room (k + 1) X.A) (hb : Binds X.K fd ps []) (hx : Passes CX X (fun _ _ _ => False)) (hg : Gl X x) (hm : X.mg x = some (.ref C))
    (hdb : (x == ("__debug__" : Str)) = false := by decide) : L2N.PMk X (.Call (.Name x p) [] [] pos) (tMkO C sp [] tNil) := by
  intro pins s σ H Q I h
  obtain ⟨nm, q, N, bs, bm, sn, sub, ab, col, dd, k0, k1, k2, k3, k5, hC, hbm⟩ := T.cls
  refine wpAny_Call_Name_kw (ld_glob I hg hm ?_ hdb)
  refine PySem.W.callWith_K0 I.kIn T.kC ?_
  show wpAny _ _ (call (.ref C) []) _ _ _
  obtain ⟨hz, q1⟩ := h
  obtain ⟨hp, g, dr, tk, os⟩ := s
  have hsz : hp.objs.size ≤ hp.objs.size + 1 := Nat.le_succ _
  have hn : H (hp.objs.size + 1) = none := I.hok.fresh hsz
  have hq := q1 (hp.objs.size + 1) hn
  have kk : ∀ b o, hp.get? b = some o → ((hp.push (PySem.W.kdv_tup [])).push (PySem.HandSPX.excO C hp.objs.size)).get? b = some o := fun b o e => Heap.get?_push_of_some _ (Heap.get?_push_of_some _ e)
  have hget : ((hp.push (PySem.W.kdv_tup [])).push (PySem.HandSPX.excO C hp.objs.size)).get? (hp.objs.size + 1) = some (PySem.HandSPX.excO C hp.objs.size) := by heap_get
  have I2 : Inv X pins σ (upd H (hp.objs.size + 1) (exo (hp.objs.size + 1) C none)) ⟨(hp.push (PySem.W.kdv_tup [])).push (PySem.HandSPX.excO C hp.objs.size), g, dr, tk, os⟩ :=
    I.laid (t' := tk) (a := hp.objs.size + 1) (o := exo (hp.objs.size + 1) C none) (h' := (hp.push (PySem.W.kdv_tup [])).push (PySem.HandSPX.excO C hp.objs.size)) kk hsz (exo_ok hget)
  have r2 : Vals [V.ref (hp.objs.size + 1)] [Value.ref (hp.objs.size + 1)] := .cons rfl .nil
  have hl : [Value.ref (hp.objs.size + 1)].length = ps.length := by
    have e : [V.ref (hp.objs.size + 1)].length = ps.length := F1.len _ _ _ _ hq
    exact e
  refine wpAny_call (PySem.HandSPX.call_own F.excBase_ValueError (fun Y => PySem.HandSPX.refsVE_contains Y bm hbm) (I.kIn _ _ hC) (PySem.W.looks_findIn I.kIn iC) (fun self => PySem.W.bind_fn I.kIn self tI) (by decide)
    (codeAny_mono (F1.run _ X.stack _ _ ⟨[Value.ref (hp.objs.size + 1)], []⟩ [Value.ref (hp.objs.size + 1)] _ _ (fun _ _ _ => False) (hr.make C [] []) (I2.env0.make C [] []) (hb _ [Value.ref (hp.objs.size + 1)] I2.kIn hl) r2 hq) fun r s' hq' => ?_))
  cases r with
  | error er => exact hx pins σ _ _ er s' I2 hq'
  | ok fl =>
    cases fl with
    | ret u =>
      obtain ⟨v, H2, os2, bare2, un2, hok2, rv, ev, d, fs, ea, ed, hd1, q2⟩ := hq'
      subst ev
      obtain ⟨h2, g2, d2, t2, os'⟩ := s'
      obtain ⟨t0, G, J, kG, ge, hoe, na⟩ := mk_end0 (d2 := d2) (t2 := t2) I hsz kk un2 hok2 os2 bare2 ea ed hd1
      exact ⟨rv, ⟨hp.objs.size + 1, _, _, ⟨G, g2, d2, t2, os'⟩, _, .ref C, some d, rfl, J, kG, ge, hoe, ⟨rfl, rfl, fun vs hv => by cases hv; rfl⟩, rfl, rfl, na, rfl, bare2, raises_own T.exC T.tyC, q2⟩⟩
    | next => exact False.elim hq'
    | brk => exact False.elim hq'
    | cont => exact False.elim hq'
end
def HasN (P : Program) (w : World) (K : PySem.W.Frag) (mg : Str → Option Value) (base : Heap) (k : Nat) (x : Str) (ps : List Str) (sp : Sp) : Prop :=
  ∃ (f : Addr) (fd : FuncData), mg x = some (.ref f) ∧ PySem.W.keepIn K (.ref f) = true ∧ Binds K fd ps [] ∧ FnOk P w K mg base (L2N.CX P w) k f fd ps sp
section
variable {P : Program} {w : World} {K : PySem.W.Frag} {mg : Str → Option Value} {base : Heap} {C CS fS CW fW : Addr} {fdW : FuncData}
theorem _root_.L2.Fun.okN {x qual : Str} {st : Stmt} {f : Addr} {fd : FuncData} {N ps : List Str} {k : Nat} {sp : Sp} (F : Fun K x qual st f fd) (S : FnScope N ps (defScope st)) (len : ∀ vs H Q E, sp vs H Q E → vs.length = ps.length)
    (hbody : ∀ (cdv : Value) (A : Around) (outer : List Env) (s : Shared) (H : Hp) (vs : List V) (Q : VK) (E : XK), Room k (A.deeper (envOfC qual (defScope st) s.heap.objs.size f cdv)) → sp vs H Q E →
      ∃ t, PSs (cxOf (L2N.CX P w) P w K mg base N qual (defScope st) f cdv A outer s H E) (defBody st) t ∧ t { nx := fun _ H' => Q .non H', rt := Q } (L2.start N vs) H) : FnOk P w K mg base (L2N.CX P w) (k + 1) f fd ps sp := by
  obtain ⟨oc, od, kV, doc, pm, an, cdv, ct, osl, rfl, lk, hcd⟩ := F.ex
  exact fn_of lk hcd S len fun A outer s H vs Q E hr hsp => hbody cdv A outer s H vs Q E hr hsp
theorem has_neN (F : FnAt K mg "need_word" s_need_word ["text"]) (h_Iw : HasIsWord P w K mg base) (T_BadWord : EC K mg "BadWord" CW fW) (G_BadWord : FnOk P w K mg base CX0 2 fW fdW ["self"] (spEx K (Str.ofString "badword"))) (b_BadWord : Binds K fdW ["self"] []) : HasN P w K mg base 4 "need_word" ["text"] (spNeX CW) := by
  obtain ⟨f, fd, g, F, bb⟩ := F
  refine ⟨f, fd, g, F.kp, bb, ?_⟩
  obtain ⟨f_Iw, fd_Iw, g_Iw, k_Iw, b_Iw, G_Iw⟩ := h_Iw
  refine F.okN sc_need (fun vs H Q E h => ?_) (fun cdv A outer s H vs Q E hr h => ?_)
  · obtain ⟨x, rfl, _⟩ := h
    rfl
  · obtain ⟨x, rfl, hx, q1, q2⟩ := h
    refine ⟨_, (pss_one (ps_if (pt_not (pt_val (pe_call G_Iw (hr.mono (by decide)) (by rfl) g_Iw k_Iw b_Iw .nil pass0 (pa_cons (pv 0) pa_nil)))) (pss_one (L2N.ps_raise rfl (L2N.takes_of rfl rfl rfl rfl) (pmk_oex0N T_BadWord.ox T_BadWord.iC T_BadWord.tI G_BadWord (hr.mono (by decide)) b_BadWord pass0 (by rfl) T_BadWord.gC))) pss_nil)), ?_⟩
    walk_at "go"
    refine ⟨x, rfl, hx, fun H1 s1 => ?_⟩
    cases e : isW x with
    | true =>
      walk_at "go"
      exact q1 e H1 s1
    | false =>
      walk_at "go"
      exact w_mkO T_BadWord (fun d H' nd hd s' => q2 e d H' (s1.free nd) hd (s1.trans s'))
theorem has_nwsN (F : FnAt K mg "need_words" s_need_words ["texts"]) (h_Ne : HasN P w K mg base 4 "need_word" ["text"] (spNeX CW)) : HasN P w K mg base 5 "need_words" ["texts"] (spNwsX CW) := by
  obtain ⟨f, fd, g, F, bb⟩ := F
  refine ⟨f, fd, g, F.kp, bb, ?_⟩
  obtain ⟨f_Ne, fd_Ne, g_Ne, k_Ne, b_Ne, G_Ne⟩ := h_Ne
  refine F.okN sc_nws (fun vs H Q E h => ?_) (fun cdv A outer s H vs Q E hr h => ?_)
  · obtain ⟨a, x, y, rfl, _⟩ := h
    rfl
  · obtain ⟨a, x, y, rfl, ha, lx, ly, q1, q2⟩ := h
    refine ⟨_, (pss_one (ps_for (passes_of rfl) rfl (pi_tup (pv 0)) (pg_name (i := 1) sc_nws.nd rfl (.inl rfl)) (pss_one (ps_expr (pe_call G_Ne (hr.mono (by decide)) (by rfl) g_Ne k_Ne b_Ne .nil (L2N.passes_call (L2N.takes_of rfl rfl rfl rfl) (fun _ _ _ _ h => h)) (pa_cons (pv 1) pa_nil)))))), ?_⟩
    walk_at "go"
    refine w_tupF (xs := [V.str x, V.str y]) (fun i σ H2 => ∃ (y1 : Option V), σ = [some (.ref a), y1] ∧ Same H H2 ∧ (1 ≤ i → isW x = true) ∧ (2 ≤ i → isW y = true)) ⟨none, rfl, .refl _, fun z => absurd z (by decide), fun z => absurd z (by decide)⟩ (fun i σ H2 _ ⟨_, _, h, _⟩ => h _ _ ha) ?_ ?_
    · rintro i v σ H2 hv ⟨y1, rfl, s2, i1, i2⟩
      match i, hv with
      | 0, hv =>
        cases hv
        walk_at "go"
        refine ⟨x, rfl, lx, fun e H3 s3 => ?_, fun e => (q2 (by rw [e]; rfl)).same s2⟩
        walk_at "go"
        exact ⟨_, rfl, s2.trans s3, fun _ => e, fun z => absurd z (by decide)⟩
      | 1, hv =>
        cases hv
        walk_at "go"
        refine ⟨y, rfl, ly, fun e H3 s3 => ?_, fun e => (q2 (by rw [e, Bool.and_false])).same s2⟩
        walk_at "go"
        exact ⟨_, rfl, s2.trans s3, fun _ => i1 (by decide), fun _ => e⟩
    · rintro σ H2 ⟨y1, rfl, s2, i1, i2⟩
      walk_at "go"
      exact q1 (by rw [i1 (Nat.le_of_ble_eq_true rfl), i2 (Nat.le_of_ble_eq_true rfl)]; rfl) _ s2
theorem has_npN (F : FnAt K mg "need_pairs" s_need_pairs ["pairs"]) (h_Nw : HasN P w K mg base 5 "need_words" ["texts"] (spNwsX CW)) : HasN P w K mg base 6 "need_pairs" ["pairs"] (spNpX CW) := by
  obtain ⟨f, fd, g, F, bb⟩ := F
  refine ⟨f, fd, g, F.kp, bb, ?_⟩
  obtain ⟨f_Nw, fd_Nw, g_Nw, k_Nw, b_Nw, G_Nw⟩ := h_Nw
  refine F.okN sc_np (fun vs H Q E h => ?_) (fun cdv A outer s H vs Q E hr h => ?_)
  · obtain ⟨a, us, ms, rfl, _⟩ := h
    rfl
  · obtain ⟨a, us, ms, rfl, ha, hm, hl, q1, q2⟩ := h
    refine ⟨_, (pss_one (ps_for (passes_of rfl) rfl (pi_list (pv 0)) (pg_name (i := 1) sc_np.nd rfl (.inl rfl)) (pss_one (ps_expr (pe_call G_Nw (hr.mono (by decide)) (by rfl) g_Nw k_Nw b_Nw .nil (L2N.passes_call (L2N.takes_of rfl rfl rfl rfl) (fun _ _ _ _ h => h)) (pa_cons (pv 1) pa_nil)))))), ?_⟩
    have el : us.length = ms.length := Paired.length hm
    walk_at "go"
    refine w_list (xs := us) (fun i σ H2 => ∃ (y1 : Option V), σ = [some (.ref a), y1] ∧ Same H H2 ∧ (ms.take i).all okP = true) ⟨none, rfl, .refl _, rfl⟩ (fun i σ H2 _ ⟨_, _, h, _⟩ => h _ _ ha) ?_ ?_
    · rintro i v σ H2 hv ⟨y1, rfl, s2, hi⟩
      obtain ⟨m, hm', t, rfl, ht⟩ := paired_get (hm.tps (.of s2)) hv
      obtain ⟨l1, l2⟩ := hl m (List.mem_of_getElem? hm')
      walk_at "go"
      refine ⟨t, m.1, m.2, rfl, ht, l1, l2, fun e H3 s3 => ?_, fun e => (q2 ?_).same s2⟩
      · walk_at "go"
        refine ⟨_, rfl, s2.trans s3, ?_⟩
        rw [take_snoc hm', List.all_append, hi]
        show (okP m && true) = true
        rw [Bool.and_true]
        exact e
      · rw [Bool.eq_false_iff]
        intro z
        have := List.all_eq_true.mp z m (List.mem_of_getElem? hm')
        rw [show okP m = false from e] at this
        cases this
    · rintro σ H2 ⟨y1, rfl, s2, hi⟩
      rw [el, List.take_length] at hi
      walk_at "go"
      exact q1 hi _ s2
/-- claims of what holds no words -/
def spCmsW (CW : Addr) : Sp := fun vs H Q E => ∃ (a b r : Addr) (ua : List V) (F : List (Str × Str)), vs = [.ref a, .ref b, .ref r] ∧ H a = some (.lst ua) ∧ PrsAt H ua F ∧ (∀ m ∈ F, m.1.length ≤ 100000 ∧ m.2.length ≤ 100000) ∧ F.all okP = false ∧ XEw CW H E
theorem has_cmsN (F : FnAt K mg "claims" s_claims ["facts", "likenesses", "rows"]) (h_Np : HasN P w K mg base 6 "need_pairs" ["pairs"] (spNpX CW)) : HasN P w K mg base 9 "claims" ["facts", "likenesses", "rows"] (spCmsW CW) := by
  obtain ⟨f, fd, g, F, bb⟩ := F
  refine ⟨f, fd, g, F.kp, bb, ?_⟩
  obtain ⟨f_Np, fd_Np, g_Np, k_Np, b_Np, G_Np⟩ := h_Np
  refine F.okN sc_cms (fun vs H Q E h => ?_) (fun cdv A outer s H vs Q E hr h => ?_)
  · obtain ⟨a, b, r, ua, Fs, rfl, _⟩ := h
    rfl
  · obtain ⟨a, b, r, ua, Fs, rfl, ha, hF, lF, e, x⟩ := h
    refine ⟨_, pss_cons (ps_expr (pe_call G_Np (hr.mono (by decide)) (by rfl) g_Np k_Np b_Np .nil (L2N.passes_call (L2N.takes_of rfl rfl rfl rfl) (fun _ _ _ _ h => h)) (pa_cons (pv 0) pa_nil))) pss_never, ?_⟩
    walk_at "go"
    exact ⟨a, ua, Fs, rfl, ha, hF, lF, (fun z => by rw [e] at z; cases z), fun _ => x⟩

end
end Sf
namespace Sf
open PySem PySem.Spec PyProof.Rows L2 HotX L2H TL
section
variable {X : Cx} {k : Nat} {f C : Addr} {fd : FuncData} {ps : List Str} {sp : Sp} {x : Str} {p pos : Pos} {e : Expr} {es : List Expr} {t : TA}
/-- C(e, ..) while an exception is handled -/
theorem pe_makeH (M : Mk X.K C f) (F : FnH X.prog X.w X.K X.mg X.base CX0 k f fd ps sp) (hr : RoomH (k + 1) X.A) (hc : HotC X) (hg : Gl X x) (hm : X.mg x = some (.ref C)) (hb : Binds X.K fd ps []) (ha : PA X (e :: es) t)
    (hdb : (x == ("__debug__" : Str)) = false := by decide) (he : starEach (e :: es) X.env = (false, eval e X.env) :: starEach es X.env := by rfl) (hpl : (backTo pos (starEach es X.env)).any (·.1) = false := by rfl) :
    PE X (.Call (.Name x p) (e :: es) [] pos) (tMake C sp [] E0 t) := by
  refine ⟨fun pins s σ H Q I h => wpAny_Call_Name_kw (ld_glob I hg hm ?_ hdb)⟩
  refine PySem.W.callWith_K (h₀ := X.base) I.ok.mod.kin M.kp (thn (ha.run pos pins s σ H _ I h) fun us s1 ⟨vs, H1, I1, r, q⟩ => ⟨I1.kIn, ?_⟩) he hpl
  obtain ⟨pn, hot, hpn⟩ := hc
  have hq := q (s1.heap.objs.size + 1) s1.heap.objs.size (I1.hok.fresh (Nat.le_succ _)) (I1.hok.fresh (Nat.le_refl _)) (Nat.ne_of_lt (Nat.lt_succ_self _))
  rw [List.append_nil] at hq
  have I2 := Inv.made (C := C) I1
  have r2 : Vals (V.ref (s1.heap.objs.size + 1) :: vs) (Value.ref (s1.heap.objs.size + 1) :: us) := .cons rfl r
  have hl : (Value.ref (s1.heap.objs.size + 1) :: us ++ []).length = ps.length := by
    have e := r2.length
    rw [F.len _ _ _ _ hq] at e
    rw [List.append_nil]
    exact e.symm
  have b2 := hb _ (Value.ref (s1.heap.objs.size + 1) :: us) I2.kIn hl
  rw [List.append_nil] at b2
  have P1 := I2.pin pn (List.mem_append_left _ hpn)
  refine wpAny_call (make_map (f := f) I1.kIn M.makes M.init (beq_iff_eq.mp M.fn) (codeAny_mono (F.run _ X.stack _ _ ⟨Value.ref (s1.heap.objs.size + 1) :: us, []⟩ (Value.ref (s1.heap.objs.size + 1) :: us) _ _ E0 pn (hr.make C us []) ⟨hot.1, hot.2⟩
    ⟨P1.1, P1.2.1, fun hmm => (List.mem_cons.mp (I2.stkSub pn.1 hmm)).elim P1.2.2.1 P1.2.2.2.1, P1.2.2.2.2⟩ (I2.env0.make C us []) b2 r2 hq) fun r s' hq' => ?_))
  cases r with
  | error e => exact hq'.elim
  | ok fl =>
    cases fl with
    | ret u =>
      obtain ⟨v, H', I3, rv, ev, q3⟩ := I2.after hq'
      subst ev
      exact ⟨rv, ⟨V.ref (s1.heap.objs.size + 1), H', I3, rfl, q3⟩⟩
    | next => exact False.elim hq'
    | brk => exact False.elim hq'
    | cont => exact False.elim hq'
end
section
variable {P : Program} {w : World} {K : PySem.W.Frag} {mg : Str → Option Value} {base : Heap} {C : Addr}
/-! ### claims([], [], []) -/
def HasMH (P : Program) (w : World) (K : PySem.W.Frag) (mg : Str → Option Value) (base : Heap) (C : Addr) (k : Nat) (m : Str) (ps : List Str) (sp : Sp) : Prop :=
  ∃ (f : Addr) (fd : FuncData), Meth K C m f ∧ Binds K fd ps [] ∧ FnH P w K mg base CX0 k f fd ps sp
theorem has_biH (F : MAt K C "__init__" "Book.__init__" s_Book___init__ ["self", "facts", "likenesses"]) (T : BKC K mg C) : HasMH P w K mg base C 1 "__init__" ["self", "facts", "likenesses"] (spBI C) := by
  obtain ⟨f, fd, g, F, bb⟩ := F
  refine ⟨f, fd, g, bb, ?_⟩
  refine F.okH sc_bi (fun vs H Q E h => ?_) (fun cdv A outer s H vs Q E p0 hc0 hr h => ?_)
  · obtain ⟨p, dx, a, b, rfl, _⟩ := h
    rfl
  · obtain ⟨p, dx, a, b, rfl, hp, q⟩ := h
    refine ⟨_, (pss_cons (ps_fld (pv 0) (pv 1) rfl) (pss_cons (ps_fld (pv 0) (pv 2) rfl) (pss_one (ps_fld (pv 0) (pe_lst pa_nil) rfl)))), ?_⟩
    walk_at "go"
    refine w_kSFld hp T.cl T.nF (by decide) (fun H1 hp1 o1 => ?_)
    walk_at "go"
    refine w_kSFld hp1 T.cl T.nL (by rw [show (putF "facts" (V.ref a) [] : List (Str × V)).length = 1 from rfl]; decide) (fun H2 hp2 o2 => ?_)
    walk_at "go"
    refine w_newL (by walk_at "sz") (fun m H3 hm nm => ?_)
    walk_at "go"
    refine w_kSFld (nm.at hp2) T.cl T.nM (by rw [show (putF "likenesses" (V.ref b) (putF "facts" (V.ref a) []) : List (Str × V)).length = 2 from rfl]; decide) (fun H4 hp4 o4 => ?_)
    walk_at "go"
    have mp : m ≠ p := (nm.ne hp2).symm
    refine q m H4 ?_ mp hp4 (o4.at mp hm) (fun c o e hc => o4.at hc (nm.at (o2.at hc (o1.at hc e))))
    cases z : H m with
    | none => rfl
    | some o =>
      have := nm.nn
      rw [o2.at mp (o1.at mp z)] at this
      cases this
def spNp0 : Sp := fun vs H Q _ => ∃ a : Addr, vs = [.ref a] ∧ H a = some (.lst []) ∧ ∀ H', Same H H' → Q .non H'
def kCallS (sp : Sp) (E : XK) (Q : VK) : List V → Hp → Prop := fun vs H1 => sp vs H1 Q E
theorem w_callS {sp : Sp} {E : L2.St → XK} {t : TA} {σ : L2.St} {H : Hp} {Q : VK} (q : t σ H (kCallS sp (E σ) Q)) : tCallS sp E t σ H Q := q
theorem has_npH (F : FnAt K mg "need_pairs" s_need_pairs ["pairs"]) : HasH P w K mg base 1 "need_pairs" ["pairs"] spNp0 := F.hasH fun F => by
  refine F.okH sc_np (fun vs H Q E h => ?_) (fun cdv A outer s H vs Q E p0 hc0 hr h => ?_)
  · obtain ⟨a, rfl, _⟩ := h
    rfl
  · obtain ⟨a, rfl, ha, q⟩ := h
    refine ⟨_, pss_one (ps_forH (passes_of rfl) hc0 (pi_listH (pv 0)) (pg_name (i := 1) sc_np.nd rfl (.inl rfl)) pss_never), ?_⟩
    walk_at "go"
    refine w_list (xs := []) (fun i σ H2 => Same H H2) (.refl _) (fun i σ H2 _ h => h.at ha) (fun i v σ H2 hv => by simp at hv) fun σ H2 s2 => ?_
    exact q H2 s2
def spCm0 : Sp := fun vs H Q _ => ∃ a b r : Addr, vs = [.ref a, .ref b, .ref r] ∧ H r = some (.lst []) ∧ ∀ (m : Addr) (H' : Hp), H m = none → H' m = some (.lst []) → Same H H' → Q (.ref m) H'
theorem has_cmH (F : FnAt K mg "claims_made" s_claims_made ["facts", "likenesses", "rows"]) (T_Book : BKC K mg C) (mk : PySem.W.makesIn K C = true) (kc : PySem.W.keepIn K (.ref C) = true) (h_BI : HasMH P w K mg base C 1 "__init__" ["self", "facts", "likenesses"] (spBI C)) : HasH P w K mg base 3 "claims_made" ["facts", "likenesses", "rows"] spCm0 := F.hasH fun F => by
  obtain ⟨f_BI, fd_BI, m_BI, b_BI, G_BI⟩ := h_BI
  have M_BI : Mk K C f_BI := ⟨mk, m_BI.at_, m_BI.fn, kc⟩
  have g_Book := T_Book.mgC
  refine F.okH sc_cm (fun vs H Q E h => ?_) (fun cdv A outer s H vs Q E p0 hc0 hr h => ?_)
  · obtain ⟨a, b, r, rfl, _⟩ := h
    rfl
  · obtain ⟨a, b, r, rfl, hr0, q⟩ := h
    refine ⟨_, pss_cons (ps_set (i := 3) sc_cm.nd rfl (.inl rfl) (pe_makeH M_BI G_BI hr hc0 (by rfl) g_Book b_BI (pa_cons (pv 0) (pa_cons (pv 1) pa_nil)))) (pss_cons (ps_forH (passes_of rfl) hc0 (pi_listH (pv 2)) (pg_name (i := 4) sc_cm.nd rfl (.inl rfl)) pss_never) (pss_one (ps_ret (pe_fld (pv 3) rfl)))), ?_⟩
    walk_at "go"
    refine w_book (fun p dx m H1 np nm mp hp hm s1 => ?_)
    walk_at "go"
    have hr1 := s1.at hr0
    refine w_list (xs := []) (fun i σ H2 => σ = [some (.ref a), some (.ref b), some (.ref r), some (.ref p), none, none, none] ∧ Same H1 H2) ⟨rfl, .refl _⟩ (fun i σ H2 _ h => h.2.at hr1) (fun i v σ H2 hv => by simp at hv) ?_
    rintro σ H2 ⟨rfl, s2⟩
    have hp2 := s2.at hp
    walk_at "go"
    show kFld K _ _ _ _
    refine w_kFld hp2 T_Book.cl T_Book.nM (bk_made _ _ _) ?_
    exact q m H2 nm (s2.at hm) (s1.trans s2)
def spCs0 : Sp := fun vs H Q _ => ∃ a b r : Addr, vs = [.ref a, .ref b, .ref r] ∧ H a = some (.lst []) ∧ H b = some (.lst []) ∧ H r = some (.lst []) ∧ ∀ (m : Addr) (H' : Hp), H m = none → H' m = some (.lst []) → Same H H' → Q (.ref m) H'
theorem has_cmsH (F : FnAt K mg "claims" s_claims ["facts", "likenesses", "rows"]) (h_Np : HasH P w K mg base 1 "need_pairs" ["pairs"] spNp0) (h_CM : HasH P w K mg base 3 "claims_made" ["facts", "likenesses", "rows"] spCm0) : HasH P w K mg base 4 "claims" ["facts", "likenesses", "rows"] spCs0 := F.hasH fun F => by
  obtain ⟨f_Np, fd_Np, g_Np, k_Np, b_Np, G_Np⟩ := h_Np
  obtain ⟨f_CM, fd_CM, g_CM, k_CM, b_CM, G_CM⟩ := h_CM
  refine F.okH sc_cms (fun vs H Q E h => ?_) (fun cdv A outer s H vs Q E p0 hc0 hr h => ?_)
  · obtain ⟨a, b, r, rfl, _⟩ := h
    rfl
  · obtain ⟨a, b, r, rfl, ha, hb, hr0, q⟩ := h
    refine ⟨_, pss_cons (ps_expr (pe_callH (E := fun _ => E0) G_Np (hr.mono (by decide)) hc0 (by rfl) g_Np k_Np b_Np pass0H (pa_cons (pv 0) pa_nil))) (pss_cons (ps_expr (pe_callH (E := fun _ => E0) G_Np (hr.mono (by decide)) hc0 (by rfl) g_Np k_Np b_Np pass0H (pa_cons (pv 1) pa_nil)))
      (pss_one (ps_ret (pe_callH (E := fun _ => E0) G_CM hr hc0 (by rfl) g_CM k_CM b_CM pass0H (pa_cons (pv 0) (pa_cons (pv 1) (pa_cons (pv 2) pa_nil))))))), ?_⟩
    walk_at "go"
    refine w_callS ?_
    walk_at "go"
    refine ⟨a, rfl, ha, fun H1 s1 => ?_⟩
    walk_at "go"
    refine w_callS ?_
    walk_at "go"
    refine ⟨b, rfl, s1.at hb, fun H2 s2 => ?_⟩
    walk_at "go"
    refine w_callS ?_
    walk_at "go"
    refine ⟨a, b, r, rfl, (s1.trans s2).at hr0, fun m H3 nm hm s3 => ?_⟩
    have s03 := (s1.trans s2).trans s3
    exact q m H3 ((s1.trans s2).free nm) hm s03
end
end Sf
namespace Sf
open PySem PySem.Spec PyProof.Rows L2 HotX L2H TL
theorem cutV_takeN {us : List V} {k : Nat} (h : k ≤ us.length) : cutV us none (some (k : Int)) = us.take k := by
  unfold cutV
  have e0 : HT.sIx us.length 0 none = 0 := rfl
  have e2 : HT.sIx us.length us.length (some (k : Int)) = min k us.length := HT.sIx_nat _ _ _
  rw [e0, e2, Nat.min_eq_left h]
  rfl
theorem cutV_dropN {us : List V} {k : Nat} (h : k ≤ us.length) : cutV us (some (k : Int)) none = us.drop k := by
  unfold cutV
  have e0 : HT.sIx us.length us.length none = us.length := rfl
  have e2 : HT.sIx us.length 0 (some (k : Int)) = min k us.length := HT.sIx_nat _ _ _
  rw [e0, e2, Nat.min_eq_left h]
  exact List.take_of_length_le (by rw [List.length_drop]; omega)
theorem paired_takeR {α β : Type} {R : α → β → Prop} : ∀ {as : List α} {bs : List β}, Paired R as bs → ∀ i, Paired R (as.take i) (bs.take i)
  | _, _, .nil, i => by
    rw [List.take_nil, List.take_nil]
    exact .nil
  | _, _, .cons r t, 0 => .nil
  | _, _, .cons r t, i + 1 => .cons r (paired_takeR t i)
theorem paired_dropR {α β : Type} {R : α → β → Prop} : ∀ {as : List α} {bs : List β}, Paired R as bs → ∀ i, Paired R (as.drop i) (bs.drop i)
  | _, _, .nil, i => by
    rw [List.drop_nil, List.drop_nil]
    exact .nil
  | _, _, .cons r t, 0 => .cons r t
  | _, _, .cons r t, i + 1 => paired_dropR t i
theorem paired_appR {α β : Type} {R : α → β → Prop} : ∀ {as : List α} {bs : List β} {cs : List α} {ds : List β}, Paired R as bs → Paired R cs ds → Paired R (as ++ cs) (bs ++ ds)
  | _, _, _, _, .nil, h => h
  | _, _, _, _, .cons r t, h => .cons r (paired_appR t h)
/-! ### what is told of a paper -/
def Bad1 (F L : List Clm) (rows : List Row) (n : Nat) : Prop := ∃ (cs : List Clm) (x : Row), rows[n]? = some x ∧ runM F L (rows.take n) [] = some cs ∧ claimM F L cs x.1 x.2 = none
theorem bad_none {F L : List Clm} {rows : List Row} {n : Nat} (h : Bad1 F L rows n) : runM F L rows [] = none := by
  obtain ⟨cs, x, h1, h2, h3⟩ := h
  exact runM_none h1 h2 h3
theorem bad_le {F L : List Clm} {rows : List Row} {n m : Nat} (h : Bad1 F L rows n) (h' : Bad1 F L rows m) : m ≤ n := by
  obtain ⟨cs, x, h1, h2, h3⟩ := h
  obtain ⟨cs', x', h1', h2', h3'⟩ := h'
  rcases Nat.lt_or_ge n m with hlt | hge
  · have e : runM F L (rows.take m) [] = none := runM_none (n := n) (r := x) (ds := cs) (by rw [List.getElem?_take_of_lt hlt]; exact h1) (by rw [List.take_take, Nat.min_eq_left (Nat.le_of_lt hlt)]; exact h2) h3
    rw [h2'] at e
    cases e
  · exact hge
def TVl (H : Hp) (v : V) (F L : List Clm) (rows : List Row) : Prop := (∃ m um cs, v = .ref m ∧ runM F L rows [] = some cs ∧ H m = some (.lst um) ∧ PrsAt H um cs) ∨ ∃ n : Nat, v = .int (n : Int) ∧ Bad1 F L rows n
theorem TVl.same {H H' : Hp} {v : V} {F L : List Clm} {rows : List Row} (s : Same H H') : TVl H v F L rows → TVl H' v F L rows
  | .inl ⟨m, um, cs, e, r, h, p⟩ => .inl ⟨m, um, cs, e, r, s _ _ h, p.tps (.of s)⟩
  | .inr h => .inr h
theorem eqv_pr {H : Hp} {u u' : V} {c : Clm} : PrAt H u c → PrAt H u' c → Eqv H 1 u u'
  | ⟨t, e, h⟩, ⟨t', e', h'⟩ => .inr ⟨t, t', _, _, e, e', .inr ⟨h, h'⟩, rfl, Nat.le_of_ble_eq_true rfl, fun i x y hx hy => by
    rw [hx] at hy
    cases hy
    have hx := List.mem_of_getElem? hx
    simp only [List.mem_cons, List.not_mem_nil, or_false] at hx
    rcases hx with rfl | rfl <;> exact .flat rfl⟩
theorem eqv_tv {H : Hp} {v v' : V} {F L : List Clm} {rows : List Row} (hr : rows.length ≤ 1000) (h : TVl H v F L rows) (h' : TVl H v' F L rows) : Eqv H 2 v v' := by
  rcases h with ⟨m, um, cs, rfl, r, hm, hp⟩ | ⟨n, rfl, hn⟩
  · rcases h' with ⟨m', um', cs', rfl, r', hm', hp'⟩ | ⟨n, rfl, hn⟩
    · rw [r] at r'
      cases r'
      have e1 : um.length = cs.length := Paired.length hp
      have e2 : um'.length = cs.length := Paired.length hp'
      have e3 := run_len r
      refine .inr ⟨m, m', um, um', rfl, rfl, .inl ⟨hm, hm'⟩, by omega, by omega, fun i x y hx hy => ?_⟩
      obtain ⟨c, hc, p⟩ := paired_get hp hx
      obtain ⟨c', hc', p'⟩ := paired_get hp' hy
      rw [hc] at hc'
      cases hc'
      exact eqv_pr p p'
    · rw [bad_none hn] at r
      cases r
  · rcases h' with ⟨m', um', cs', rfl, r', hm', hp'⟩ | ⟨n', rfl, hn'⟩
    · rw [bad_none hn] at r'
      cases r'
    · have : n = n' := Nat.le_antisymm (bad_le hn' hn) (bad_le hn hn')
      subst this
      exact .flat rfl
theorem w_meetC {sp : Sp} {vs : List V} {H : Hp} {Q : VK} {E : XK} (R : VK) (k : ∀ v H', R v H' → Q v H') (h : (∀ v H', R v H' → Q v H') → sp vs H Q E) : sp vs H Q E := h k
/-! rows as data -/
def dRow (r : Row) : PyData := .tuple (.str r.1 :: r.2.map dV)
section
variable {P : Program} {w : World} {K : PySem.W.Frag} {mg : Str → Option Value} {base : Heap} {CW fW CB pT : Addr}
theorem dp_rows {H : Hp} : ∀ {ur : List V} {rows : List Row}, Paired (RwAt H) ur rows → (∀ x ∈ rows, RowOk K w pT x) → DpAll K H ur (rows.map dRow)
  | _, _, .nil, _ => .nil
  | _, _, .cons ⟨t, e, h⟩ r, g => by
    subst e
    exact .cons (.tup (SqT.of h) (.cons (.str _) (dp_args (g _ (List.mem_cons_self ..)).ar))) (dp_rows r fun x hx => g x (List.mem_cons_of_mem _ hx))
theorem takes0N {X : Cx} : L2N.Takes X (fun _ _ _ _ => False) := fun _ _ x => by
  obtain ⟨_, _, _, _, _, _, _, _, _, _, _, _, _, _, _, _, z⟩ := x
  exact z.elim
theorem hot_suite {X : Cx} {a : Addr} {oe : Obj} {cls : Value} {d : Option Addr} {pn : List (Addr × Obj)} (hz : L2N.Zn cls d oe) (hf : ∃ vs, oe.data = .fields vs) : HotC (X.suite a ((a, oe) :: pn)) := by
  obtain ⟨vs, e⟩ := hf
  exact ⟨(a, oe), ⟨rfl, vs, e, hz.2.2 vs e⟩, List.mem_cons_self⟩
theorem lay_of {d : PyData} (h : SeqAt.shaped d = true) : d.canLay0 = true := by
  unfold SeqAt.shaped at h
  rw [Bool.and_eq_true] at h
  exact h.1
theorem dep_list {α : Type} {f : α → PyData} {l : List α} (h : ∀ x ∈ l, (f x).depth ≤ 59) : (PyData.list (l.map f)).depth ≤ 60 := by
  have := depth_all (k := 59) h
  rw [PyData.depth]
  omega
theorem clm_dep59 (c : Clm) : (dC c).depth ≤ 59 := by
  unfold dC
  simp only [PyData.depth, PyData.depthAll]
  decide
theorem row_dep59 {r : Row} (h : RowOk K w pT r) : (dRow r).depth ≤ 59 := by
  obtain ⟨_, h2⟩ := args_lay h.ar
  unfold dRow
  rw [PyData.depth, PyData.depthAll, PyData.depth, h2]
  decide
theorem hand_shaped {B1 B2 : Nat} {Fs L : List Clm} {rows : List Row} (hF : Bnd B1 Fs) (hL : Bnd B2 L) (hR : ∀ x ∈ rows, RowOk K w pT x) : SeqAt.shaped (.list [.list (Fs.map dC), .list (L.map dC), .list (rows.map dRow)]) = true := by
  have := shaped_list (f := id) (l := [PyData.list (Fs.map dC), .list (L.map dC), .list (rows.map dRow)]) (fun d hd => ?_) (fun d hd => ?_)
  · rw [List.map_id] at this
    exact this
  · simp only [List.mem_cons, List.not_mem_nil, or_false] at hd
    rcases hd with rfl | rfl | rfl
    · exact lay_of (clms_shaped fun c hc => ⟨(hF c hc).1, (hF c hc).2.1⟩)
    · exact lay_of (clms_shaped fun c hc => ⟨(hL c hc).1, (hL c hc).2.1⟩)
    · exact lay_of (shaped_list (fun r hr => lay_of (row_shaped (hR r hr))) fun r hr => Nat.le_trans (row_dep59 (hR r hr)) (by decide))
  · simp only [List.mem_cons, List.not_mem_nil, or_false] at hd
    rcases hd with rfl | rfl | rfl
    · exact dep_list fun c _ => clm_dep59 c
    · exact dep_list fun c _ => clm_dep59 c
    · exact dep_list fun r hr => row_dep59 (hR r hr)
/-! a paper that doubles a word -/
def rowsD : List Row := (Str.ofString "fact", [V.int 0]) :: (List.range 6).map fun (k : Nat) => (Str.ofString "on", [V.int (k : Nat), V.int (k : Nat)])
theorem claim_on (F L cs : List Clm) (a b : V) : claimM F L cs (Str.ofString "on") [a, b] = (at1 cs a).bind fun c => (at1 cs b).bind fun d => onM c d := by
  unfold claimM
  rw [if_neg (by decide), if_neg (by decide), if_neg (by decide), if_pos rfl]
theorem claim_fact (F L cs : List Clm) (a : V) : claimM F L cs (Str.ofString "fact") [a] = at1 F a := by
  unfold claimM
  rw [if_neg (by decide), if_pos rfl]
theorem at1_int {cs : List Clm} {k : Nat} (h : k < cs.length) : at1 cs (.int (k : Int)) = cs[k]? := by
  unfold at1
  rw [numV_int, if_pos ⟨by omega, by omega⟩]
  rfl
theorem rowsD_at {n : Nat} (h : n < 6) : rowsD[n + 1]? = some (Str.ofString "on", [V.int (n : Nat), V.int (n : Nat)]) := by
  unfold rowsD
  rw [List.getElem?_cons_succ, List.getElem?_map, List.getElem?_range h]
  rfl
theorem starts_nil (x : Str) : startsL x (Str.ofString "") = true := by
  unfold startsL
  rw [tl_empty]
  exact decide_eq_true rfl
theorem dbl_one {x : Str} {n : Nat} {r : Row} {ds : List Clm} (hr : rowsD[n]? = some r) (hl : ds.length = n) (he : ∀ c ∈ ds, c.2 = Str.ofString "") : ∃ c : Clm, claimM [(x, Str.ofString "")] [] ds r.1 r.2 = some c ∧ c.2 = Str.ofString "" := by
  match n, hr with
  | 0, hr =>
    cases hr
    exact ⟨(x, Str.ofString ""), by rw [claim_fact]; exact at1_int (k := 0) (by show 0 < 1; decide), rfl⟩
  | n + 1, hr =>
    have hn : n < 6 := by
      have := (List.getElem?_eq_some_iff.mp hr).1
      have : n + 1 < 7 := this
      omega
    rw [rowsD_at hn] at hr
    cases hr
    have hg : ds[n]? = some ds[n] := List.getElem?_eq_getElem (by omega)
    have h2 := he ds[n] (List.getElem_mem (by omega))
    refine ⟨(ds[n].1 ++ cutF ds[n].1 ds[n].2.length, ds[n].2), ?_, h2⟩
    rw [claim_on, at1_int (by omega), hg]
    show onM ds[n] ds[n] = _
    unfold onM
    rw [h2, starts_nil, if_pos rfl]
theorem dbl_run {x : Str} : ∀ {n : Nat} {cs : List Clm}, n ≤ 7 → runM [(x, Str.ofString "")] [] (rowsD.take n) [] = some cs → cs.length = n ∧ ∀ c ∈ cs, c.2 = Str.ofString ""
  | 0, cs, _, h => by
    have : cs = [] := (Option.some.inj h).symm
    subst this
    exact ⟨rfl, fun c hc => absurd hc (by simp)⟩
  | n + 1, cs, hn, h => by
    have hl : rowsD.length = 7 := by decide
    have hr : rowsD[n]? = some rowsD[n] := List.getElem?_eq_getElem (by omega)
    rw [runM_snoc hr] at h
    obtain ⟨ds, hds, h⟩ := Option.bind_eq_some_iff.mp h
    obtain ⟨i1, i2⟩ := dbl_run (by omega) hds
    obtain ⟨c, hc, he⟩ := dbl_one (x := x) hr i1 i2
    rw [hc] at h
    have : cs = ds ++ [c] := (Option.some.inj h).symm
    subst this
    refine ⟨by rw [List.length_append, i1]; rfl, fun z hz => ?_⟩
    rcases List.mem_append.mp hz with hz | hz
    · exact i2 z hz
    · rw [List.mem_singleton.mp hz]; exact he
theorem dbl_ok {x : Str} {n : Nat} {r : Row} {ds : List Clm} (hr : rowsD[n]? = some r) (h : runM [(x, Str.ofString "")] [] (rowsD.take n) [] = some ds) : claimM [(x, Str.ofString "")] [] ds r.1 r.2 ≠ none := by
  have hn : n < 7 := (List.getElem?_eq_some_iff.mp hr).1
  obtain ⟨i1, i2⟩ := dbl_run (by omega) h
  obtain ⟨c, hc, _⟩ := dbl_one (x := x) hr i1 i2
  rw [hc]
  intro z
  cases z
theorem rowsD_g : ∀ r ∈ rowsD, RwG r := fun r hr => by
  rcases List.mem_cons.mp hr with rfl | hr
  · exact ⟨by decide +kernel, fun v hv => by rw [List.mem_singleton.mp hv]; exact .inl ⟨_, rfl⟩, by decide⟩
  · obtain ⟨k, _, rfl⟩ := List.mem_map.mp hr
    refine ⟨by show Str.ofString "on" ∈ wds7; decide +kernel, fun v hv => ?_, by show 2 ≤ 10; decide⟩
    simp only [List.mem_cons, List.not_mem_nil, or_false] at hv
    rcases hv with rfl | rfl <;> exact .inl ⟨_, rfl⟩
def spLaw (K : PySem.W.Frag) : Sp := fun vs H Q _ => ∃ (a : Addr) (ns : List Int), vs = [.ref a] ∧ SqL K H a (ns.map V.int) ∧ ns.length ≤ 63 ∧ ∀ H', Q (.bl true) H'
theorem sc_law : FnScope ["_law_script", "_law_bag", "_law_turn", "_law_facts_here", "_law_likenesses_here", "_law_rows", "_law_handed", "_law_at", "_law_bent", "_law_word_here", "_law_k", "e"] ["_law_script"] (defScope s_law) := ⟨rfl, rfl, rfl, by decide +kernel, rfl, by decide +kernel, by decide +kernel⟩
theorem ok_law {f : Addr} {fd : FuncData} (F : Fun K "law" "law" s_law f fd) (B : Blt mg) (m1 : KMiss K w pT (Str.ofString "begin"))
    (h_Be : HasBegin P w K mg base) (h_Pu : HasPull P w K mg base) (h_Sa : HasSame P w K mg base 2)
    (h_Lfa : Has P w K mg base 4 "_law_facts" ["_law_bag", "_law_upto", "_law_size", "_law_many"] spLfa) (h_Ll : Has P w K mg base 4 "_law_likenesses" ["_law_bag", "_law_upto", "_law_size", "_law_many"] spLfa)
    (h_Lcs : Has P w K mg base 4 "_law_claims" ["_law_facts_here", "_law_likenesses_here", "_law_rows"] spLcs) (h_Lpp : Has P w K mg base 5 "_law_paper" ["_law_bag", "_law_facts_here", "_law_likenesses_here", "_law_upto"] spLpp)
    (h_Bnt : Has P w K mg base 3 "_law_bent_row" ["_law_bag", "_law_rows"] (spBnt K w pT)) (h_Tld : Has P w K mg base 10 "_law_told" ["_law_facts_here", "_law_likenesses_here", "_law_rows"] (spTldP K w pT))
    (h_Cms : HasX P w K mg base 9 "claims" ["facts", "likenesses", "rows"] (spCms K w pT CB CW)) (h_CmN : HasN P w K mg base 9 "claims" ["facts", "likenesses", "rows"] (spCmsW CW)) (h_CmH : HasH P w K mg base 4 "claims" ["facts", "likenesses", "rows"] spCs0) (h_SaH : HasH P w K mg base 3 "_law_same" ["_law_found", "_law_due"] (spSameH 2)) (T_BadWord : EC K mg "BadWord" CW fW) : FnOk P w K mg base CX0 11 f fd ["_law_script"] (spLaw K) := by
  obtain ⟨f_Be, fd_Be, g_Be, k_Be, b_Be, G_Be⟩ := h_Be
  obtain ⟨f_Pu, fd_Pu, g_Pu, k_Pu, b_Pu, G_Pu⟩ := h_Pu
  obtain ⟨f_Sa, fd_Sa, g_Sa, k_Sa, b_Sa, G_Sa⟩ := h_Sa
  obtain ⟨f_Lfa, fd_Lfa, g_Lfa, k_Lfa, b_Lfa, G_Lfa⟩ := h_Lfa
  obtain ⟨f_Ll, fd_Ll, g_Ll, k_Ll, b_Ll, G_Ll⟩ := h_Ll
  obtain ⟨f_Lcs, fd_Lcs, g_Lcs, k_Lcs, b_Lcs, G_Lcs⟩ := h_Lcs
  obtain ⟨f_Lpp, fd_Lpp, g_Lpp, k_Lpp, b_Lpp, G_Lpp⟩ := h_Lpp
  obtain ⟨f_Bnt, fd_Bnt, g_Bnt, k_Bnt, b_Bnt, G_Bnt⟩ := h_Bnt
  obtain ⟨f_Tld, fd_Tld, g_Tld, k_Tld, b_Tld, G_Tld⟩ := h_Tld
  obtain ⟨f_Cms, fd_Cms, g_Cms, k_Cms, b_Cms, G_Cms⟩ := h_Cms
  obtain ⟨f_CmN, fd_CmN, g_CmN, k_CmN, b_CmN, G_CmN⟩ := h_CmN
  obtain ⟨f_CmH, fd_CmH, g_CmH, k_CmH, b_CmH, G_CmH⟩ := h_CmH
  obtain ⟨f_SaH, fd_SaH, g_SaH, k_SaH, b_SaH, G_SaH⟩ := h_SaH
  refine F.ok sc_law (fun vs H Q E h => ?_) (fun cdv A outer s H vs Q E hr h => ?_)
  · obtain ⟨a, ns, rfl, _⟩ := h
    rfl
  · obtain ⟨a, ns, rfl, hS, hlen, q⟩ := h
    refine ⟨_, pss_cons (ps_set (i := 1) sc_law.nd rfl (.inl rfl) (pe_call G_Be (hr.mono (by decide)) (by rfl) g_Be k_Be b_Be .nil pass0 (pa_cons (pv 0) pa_nil))) (pss_cons (ps_for PassesOwn.never rfl (pi_range1 rfl B.range (pa_cons pe_int pa_nil)) (pg_name (i := 2) sc_law.nd rfl (.inl rfl)) (pss_cons (ps_par (i := 3) (j := 4) (by rfl) sc_law.nd rfl rfl (by decide) rfl rfl (pa_cons (pe_call G_Lfa (hr.mono (by decide)) (by rfl) g_Lfa k_Lfa b_Lfa .nil pass0 (pa_cons (pv 1) (pa_cons pe_int (pa_cons pe_int (pa_cons pe_int pa_nil))))) (pa_cons (pe_call G_Ll (hr.mono (by decide)) (by rfl) g_Ll k_Ll b_Ll .nil pass0 (pa_cons (pv 1) (pa_cons pe_int (pa_cons pe_int (pa_cons pe_int pa_nil))))) pa_nil)) (by rfl)) (pss_cons (ps_set (i := 5) sc_law.nd rfl (.inl rfl) (pe_call G_Lpp (hr.mono (by decide)) (by rfl) g_Lpp k_Lpp b_Lpp .nil pass0 (pa_cons (pv 1) (pa_cons (pv 3) (pa_cons (pv 4) (pa_cons (pe_call G_Pu (hr.mono (by decide)) (by rfl) g_Pu k_Pu b_Pu .nil pass0 (pa_cons (pv 1) (pa_cons pe_int pa_nil))) pa_nil)))))) (pss_cons (ps_set (i := 6) sc_law.nd rfl (.inl rfl) (pe_lst (pa_cons (pe_callTy call_listO (by rfl) B.list (by decide +kernel) (pa_cons (pv 3) pa_nil)) (pa_cons (pe_callTy call_listO (by rfl) B.list (by decide +kernel) (pa_cons (pv 4) pa_nil)) (pa_cons (pe_callTy call_listO (by rfl) B.list (by decide +kernel) (pa_cons (pv 5) pa_nil)) pa_nil))))) (pss_cons (ps_if (pt_not (pt_val (pe_call G_Sa (hr.mono (by decide)) (by rfl) g_Sa k_Sa b_Sa .nil pass0 (pa_cons (pe_call G_Tld (hr.mono (by decide)) (by rfl) g_Tld k_Tld b_Tld .nil pass0 (pa_cons (pe_ix ix_list (pv 6) pe_int (fun _ _ => rfl)) (pa_cons (pe_ix ix_list (pv 6) pe_int (fun _ _ => rfl)) (pa_cons (pe_ix ix_list (pv 6) pe_int (fun _ _ => rfl)) pa_nil)))) (pa_cons (pe_call G_Lcs (hr.mono (by decide)) (by rfl) g_Lcs k_Lcs b_Lcs .nil pass0 (pa_cons (pv 3) (pa_cons (pv 4) (pa_cons (pv 5) pa_nil)))) pa_nil))))) (pss_one (ps_ret pe_bl)) pss_nil) (pss_cons (ps_set (i := 7) sc_law.nd rfl (.inl rfl) (pe_call G_Pu (hr.mono (by decide)) (by rfl) g_Pu k_Pu b_Pu .nil pass0 (pa_cons (pv 1) (pa_cons (pe_op op_add (pe_callB call_lenQ (by rfl) B.len PySem.boot_len (pa_cons (pv 5) pa_nil)) pe_int) pa_nil)))) (pss_cons (ps_set (i := 8) sc_law.nd rfl (.inl rfl) (pe_op op_cat (pe_op op_cat (pe_slice sl_list (pv 5) po_none (po_some (pv 7))) (pe_lst (pa_cons (pe_call G_Bnt (hr.mono (by decide)) (by rfl) g_Bnt k_Bnt b_Bnt .nil pass0 (pa_cons (pv 1) (pa_cons (pv 5) pa_nil))) pa_nil))) (pe_slice sl_list (pv 5) (po_some (pv 7)) po_none))) (pss_cons (ps_if (pt_not (pt_val (pe_call G_Sa (hr.mono (by decide)) (by rfl) g_Sa k_Sa b_Sa .nil pass0 (pa_cons (pe_call G_Tld (hr.mono (by decide)) (by rfl) g_Tld k_Tld b_Tld .nil pass0 (pa_cons (pe_ix ix_list (pv 6) pe_int (fun _ _ => rfl)) (pa_cons (pe_ix ix_list (pv 6) pe_int (fun _ _ => rfl)) (pa_cons (pv 8) pa_nil)))) (pa_cons (pe_call G_Lcs (hr.mono (by decide)) (by rfl) g_Lcs k_Lcs b_Lcs .nil pass0 (pa_cons (pv 3) (pa_cons (pv 4) (pa_cons (pv 8) pa_nil)))) pa_nil))))) (pss_one (ps_ret pe_bl)) pss_nil) (pss_one (ps_if (pt_cmpR (op_neD hr.units) (pv 6) (pe_lst (pa_cons (pv 3) (pa_cons (pv 4) (pa_cons (pv 5) pa_nil)))) (nomark _)) (pss_one (ps_ret pe_bl)) pss_nil)))))))))) (pss_cons (ps_set (i := 9) sc_law.nd rfl (.inl rfl) (pe_op op_mulS pe_str (pe_op op_add pe_int (pe_call G_Pu (hr.mono (by decide)) (by rfl) g_Pu k_Pu b_Pu .nil pass0 (pa_cons (pv 1) (pa_cons pe_int pa_nil)))))) (pss_cons (ps_set (i := 5) sc_law.nd rfl (.inl rfl) (pe_op op_cat (pe_lst (pa_cons (pe_tup (pa_cons pe_str (pa_cons pe_int pa_nil))) pa_nil)) (pe_lc (own := [("_law_k", 10)]) (g := gName 10) (tt := tYes) (by rfl) sc_law.nd (pi_range1 rfl B.range (pa_cons pe_int pa_nil)) (blkOk_by (own := [("_law_k", 10)]) (N := ["_law_script", "_law_bag", "_law_turn", "_law_facts_here", "_law_likenesses_here", "_law_rows", "_law_handed", "_law_at", "_law_bent", "_law_word_here", "_law_k", "e"]) (sc := defScope s_law) (by decide +kernel)) (fun _ _ _ _ _ => pg_name (i := 10) sc_law.nd rfl (.inl rfl)) (fun _ _ _ _ _ => pts_nil) (fun _ _ _ _ _ => (pe_tup (pa_cons pe_str (pa_cons (pv 10) (pa_cons (pv 10) pa_nil)))))))) (pss_cons (ps_if (pt_not (pt_val (pe_call G_Sa (hr.mono (by decide)) (by rfl) g_Sa k_Sa b_Sa .nil pass0 (pa_cons (pe_call G_Cms (hr.mono (by decide)) (by rfl) g_Cms k_Cms b_Cms .nil (passes_call (E := E0) takes0 (fun _ _ _ _ h => h)) (pa_cons (pe_lst (pa_cons (pe_tup (pa_cons (pv 9) (pa_cons pe_str pa_nil))) pa_nil)) (pa_cons (pe_lst pa_nil) (pa_cons (pv 5) pa_nil)))) (pa_cons (pe_call G_Lcs (hr.mono (by decide)) (by rfl) g_Lcs k_Lcs b_Lcs .nil pass0 (pa_cons (pe_lst (pa_cons (pe_tup (pa_cons (pv 9) (pa_cons pe_str pa_nil))) pa_nil)) (pa_cons (pe_lst pa_nil) (pa_cons (pv 5) pa_nil)))) pa_nil))))) (pss_one (ps_ret pe_bl)) pss_nil) (pss_cons (L2N.ps_try_as (i := 11) rfl rfl sc_law.nd rfl rfl ⟨rfl, by decide, .inl T_BadWord.gC⟩ takes0N
      (fun W pn xe tk _ => pss_one (ps_expr (pe_call G_CmN (hr.mono (by decide)) (by rfl) g_CmN k_CmN b_CmN .nil (passes_lenN 12 rfl tk) (pa_cons (pe_lst (pa_cons (pe_tup (pa_cons pe_str (pa_cons pe_str pa_nil))) (pa_cons (pe_tup (pa_cons pe_str (pa_cons pe_str pa_nil))) pa_nil))) (pa_cons (pe_lst pa_nil) (pa_cons (pe_lst (pa_cons (pe_tup (pa_cons pe_str pa_nil)) pa_nil)) pa_nil))))))
      (fun a oe cls d pn hz hf => pss_one (ps_ret (pe_callH (E := fun _ => E0) G_SaH (roomH_mark (hr.mono (show 3 ≤ 10 by decide)) _) (hot_suite hz hf) (by rfl) g_SaH k_SaH b_SaH pass0H (pa_cons (pe_lst (pa_cons (pe_xf (C := CW) T_BadWord.xf T_BadWord.nw hz.zc hf (pv 11)) (pa_cons (pe_callH (E := fun _ => E0) G_CmH (roomH_mark (hr.mono (show 4 ≤ 10 by decide)) _) (hot_suite hz hf) (by rfl) g_CmH k_CmH b_CmH pass0H (pa_cons (pe_lst pa_nil) (pa_cons (pe_lst pa_nil) (pa_cons (pe_lst pa_nil) pa_nil)))) pa_nil))) (pa_cons (pe_lst (pa_cons pe_str (pa_cons (pe_lst pa_nil) pa_nil))) pa_nil)))))) (pss_one (ps_ret pe_bl))))))), ?_⟩
    walk_at "go"
    refine ⟨a, ns, rfl, hS, fun b l H1 nb B1 s1 => ?_⟩
    walk_at "go"
    refine w_kRng1 (by decide) (by decide) ?_
    refine w_range (fun i σ H2 => ∃ (y2 y3 y4 y5 y6 y7 y8 y9 y10 y11 : Option V), σ = [some (.ref a), some (.ref b), y2, y3, y4, y5, y6, y7, y8, y9, y10, y11] ∧ Bag H2 b l) ⟨none, none, none, none, none, none, none, none, none, none, rfl, B1⟩ ?_ ?_
    · rintro i σ H2 hi ⟨y2, y3, y4, y5, y6, y7, y8, y9, y10, y11, rfl, B2⟩
      walk_at "go"
      refine ⟨b, l, 3, 5, 2, rfl, B2, by decide, by decide, by decide, by decide, by decide, by decide, fun fa ua Fs H3 hfa hF bF hFl nfa fab fal B3 f3 => ?_⟩
      walk_at "go"
      refine ⟨b, l, 3, 3, 2, rfl, B3, by decide, by decide, by decide, by decide, by decide, by decide, fun li ub L H4 hli hL bL hLl nli lib lil B4 f4 => ?_⟩
      have bF : Bnd 5 Fs := bF
      have bL : Bnd 5 L := bL.mono (by decide)
      have hFl : Fs.length ≤ 3 := hFl
      have hLl : L.length ≤ 3 := hLl
      walk_at "go"
      refine ⟨b, l, 17, rfl, B4, by decide, by decide, fun n0 H5 n1 n2 B5 f5 => ?_⟩
      obtain ⟨n, rfl⟩ : ∃ n : Nat, n0 = (n : Int) := ⟨n0.toNat, by omega⟩
      have hfa5 := f5.at fab (f4.at fab hfa)
      have hli5 := f5.at lib hli
      have hF5 : PrsAt H5 ua Fs := hF.tps ((Tps.fx B3 f4).trans (.fx B4 f5))
      have hL5 : PrsAt H5 ub L := hL.tps (.fx B4 f5)
      walk_at "go"
      refine ⟨b, l, fa, li, n, ua, ub, Fs, L, rfl, B5, hfa5, fab, hF5, hli5, lib, hL5, bF.mono (by decide), bL.mono (by decide), by omega, by omega, by omega, fun r ur rows H6 nr hr6 hR6 pp rl1 rl2 B6 f6 => ?_⟩
      have rb := B5.ne nr
      have eur : ur.length = rows.length := Paired.length hR6
      have hfa6 := f6.at fab hfa5
      have hli6 := f6.at lib hli5
      walk_at "go"
      refine w_listL hfa6 (fun l1 H7 hl1 nl1 => ?_)
      walk_at "go"
      refine w_listL (nl1.at hli6) (fun l2 H8 hl2 nl2 => ?_)
      walk_at "go"
      refine w_listL (nl2.at (nl1.at hr6)) (fun l3 H9 hl3 nl3 => ?_)
      walk_at "go"
      refine w_newL (by walk_at "sz") (fun hd H10 hhd nhd => ?_)
      have s610 : Same H6 H10 := ((nl1.same.nw nl2).nw nl3).nw nhd
      have hF10 : PrsAt H10 ua Fs := (hF5.tps (.fx B5 f6)).tps (.of s610)
      have hL10 : PrsAt H10 ub L := (hL5.tps (.fx B5 f6)).tps (.of s610)
      have hR10 : Paired (RwAt H10) ur rows := rw_tps (.of s610) hR6
      have hl110 := nhd.at (nl3.at (nl2.at hl1))
      have hl210 := nhd.at (nl3.at hl2)
      have hl310 := nhd.at hl3
      have rok : ∀ x ∈ rows, RowOk K w pT x := fun x hx => rg_ok (pp.1 x hx)
      have hB10 : 5 * 2 ^ rows.length ≤ 8000000 := Nat.le_trans (pow_le (B := 5) (show rows.length ≤ 17 by omega)) (by decide)
      walk_at "go"
      refine w_meetC (sp := spTldP K w pT) (fun v H' => TVl H' v Fs L rows ∧ Same H10 H') ?_ fun key => ?_
      rotate_left
      · exact ⟨l1, l2, l3, ua, ub, ur, Fs, L, rows, 5, rfl, hl110, hF10, hl210, hL10, hl310, hR10, rok, bF, bL, by decide, by decide, hB10, by omega, fun cs run m um H' nm hm hc s' => key _ _ ⟨.inl ⟨m, um, cs, rfl, run, hm, hc⟩, s'⟩, fun n cs x hx run bad H' s' => key _ _ ⟨.inr ⟨n, rfl, cs, x, hx, run, bad⟩, s'⟩⟩
      rintro v H11 ⟨hv, s11⟩
      have s611 := s610.trans s11
      have hfa11 := s611.at hfa6
      have hli11 := s611.at hli6
      have hr11 := s611.at hr6
      have hF11 : PrsAt H11 ua Fs := hF10.tps (.of s11)
      have hL11 : PrsAt H11 ub L := hL10.tps (.of s11)
      have hR11 : Paired (RwAt H11) ur rows := rw_tps (.of s11) hR10
      walk_at "go"
      refine w_meetC (sp := spLcs) (fun v H' => TVl H' v Fs L rows ∧ Same H11 H') ?_ fun key2 => ?_
      rotate_left
      · exact ⟨fa, li, r, ua, ub, ur, Fs, L, rows, rfl, hfa11, hF11, hli11, hL11, hr11, hR11, bF.mono (by decide), bL.mono (by decide), lim_of bF bL (by decide) hB10, by omega, (fun x hx => ⟨(rok x hx).ar, Nat.le_trans (rok x hx).ln (by decide)⟩), fun cs run m um H' nm hm hc s' => key2 _ _ ⟨.inl ⟨m, um, cs, rfl, run, hm, hc⟩, s'⟩, fun n cs x hx run bad H' s' => key2 _ _ ⟨.inr ⟨n, rfl, cs, x, hx, run, bad⟩, s'⟩⟩
      rintro v2 H12 ⟨hv2, s12⟩
      walk_at "go"
      refine ⟨v, v2, rfl, eqv_tv (by omega) (hv.same s12) hv2, fun H13 s13 => ?_⟩
      have s1113 := s12.trans s13
      have B13 := B6.same (s611.trans s1113)
      have hr13 := s1113.at hr11
      walk_at "go"
      refine ⟨b, l, _, rfl, B13, by omega, by omega, fun d H14 d0 d1 B14 f14 => ?_⟩
      obtain ⟨dn, rfl⟩ : ∃ k : Nat, d = (k : Int) := ⟨d.toNat, by omega⟩
      have hr14 := f14.at rb hr13
      walk_at "go"
      have hdn : dn ≤ ur.length := by omega
      have B10' : Bag H9 b l := ((B6.nw nl1).nw nl2).nw nl3
      have hdb : hd ≠ b := B10'.ne nhd.nn
      have l1b : l1 ≠ b := B6.ne nl1.nn
      have l2b : l2 ≠ b := (B6.nw nl1).ne nl2.nn
      have l3b : l3 ≠ b := ((B6.nw nl1).nw nl2).ne nl3.nn
      refine w_slL hr14 (fun c1 H15 hc1 nc1 => ?_)
      rw [cutV_takeN hdn] at hc1
      have B15 := B14.nw nc1
      have hr15 := nc1.at hr14
      walk_at "go"
      refine ⟨b, l, r, ur, rfl, B15, hr15, rb, by omega, by omega, fun v3 H16 hv3 B16 f16 => ?_⟩
      obtain ⟨xr, ⟨t3, rfl, ht3⟩, rok3⟩ := hv3
      have hc16 := f16.at (B14.ne nc1.nn) hc1
      have hr16 := f16.at rb hr15
      walk_at "go"
      refine w_newL (by walk_at "sz") (fun q1 H17 hq1 nq1 => ?_)
      refine w_cat (nq1.at hc16) hq1 (line_of (by rw [List.length_take]; show _ + 1 ≤ 100000; omega)) (fun q2 H18 hq2 nq2 => ?_)
      walk_at "go"
      refine w_slL (nq2.at (nq1.at hr16)) (fun c2 H19 hc2 nc2 => ?_)
      rw [cutV_dropN hdn] at hc2
      refine w_cat (nc2.at hq2) hc2 (line_of (by rw [List.length_append, List.length_take, List.length_drop]; show _ + 1 + _ ≤ 100000; omega)) (fun q3 H20 hq3 nq3 => ?_)
      have s1620 : Same H16 H20 := ((nq1.same.nw nq2).nw nc2).nw nq3
      have mv : ∀ {a : Addr} {o : HO}, a ≠ b → H13 a = some o → H20 a = some o := fun nb h => s1620 _ _ (f16.at nb (nc1.at (f14.at nb h)))
      have tp : Tps H13 H20 := (((Tps.fx B13 f14).trans (.of nc1.same)).trans (.fx B15 f16)).trans (.of s1620)
      have hhd20 := mv hdb (s1113.at (s11.at hhd))
      have hl120 := mv l1b (s1113.at (s11.at hl110))
      have hl220 := mv l2b (s1113.at (s11.at hl210))
      have hl320 := mv l3b (s1113.at (s11.at hl310))
      have hfa20 := mv fab (s1113.at hfa11)
      have hli20 := mv lib (s1113.at hli11)
      have hr20 := mv rb hr13
      have hF20 : PrsAt H20 ua Fs := (hF11.tps (.of s1113)).tps tp
      have hL20 : PrsAt H20 ub L := (hL11.tps (.of s1113)).tps tp
      have hR20 : Paired (RwAt H20) ur rows := rw_tps tp (rw_tps (.of s1113) hR11)
      have hb20 : Paired (RwAt H20) (ur.take dn ++ [.ref t3] ++ ur.drop dn) (rows.take dn ++ [xr] ++ rows.drop dn) := paired_appR (paired_appR (paired_takeR hR20 dn) (.cons ⟨t3, rfl, s1620.at ht3⟩ .nil)) (paired_dropR hR20 dn)
      have rok2 : ∀ x ∈ rows.take dn ++ [xr] ++ rows.drop dn, RowOk K w pT x := fun x hx => by
        rcases List.mem_append.mp hx with hx | hx
        · rcases List.mem_append.mp hx with hx | hx
          · exact rok x (List.mem_of_mem_take hx)
          · rw [List.mem_singleton.mp hx]; exact rok3
        · exact rok x (List.mem_of_mem_drop hx)
      have ln2 : (rows.take dn ++ [xr] ++ rows.drop dn).length ≤ 18 := by
        rw [List.length_append, List.length_append, List.length_take, List.length_drop]
        show _ + 1 + _ ≤ 18
        omega
      obtain ⟨ur2, hur2⟩ : ∃ u, u = ur.take dn ++ [.ref t3] ++ ur.drop dn := ⟨_, rfl⟩
      obtain ⟨rows2, hrows2⟩ : ∃ u, u = rows.take dn ++ [xr] ++ rows.drop dn := ⟨_, rfl⟩
      rw [← hur2] at hq3 hb20
      rw [← hrows2] at hb20 rok2 ln2
      have hB20 : 5 * 2 ^ rows2.length ≤ 8000000 := Nat.le_trans (pow_le (B := 5) (show rows2.length ≤ 18 by omega)) (by decide)
      have B20 : Bag H20 b l := B16.same s1620
      walk_at "go"
      refine w_meetC (sp := spTldP K w pT) (fun v H' => TVl H' v Fs L rows2 ∧ Same H20 H') ?_ fun key3 => ?_
      rotate_left
      · exact ⟨l1, l2, q3, ua, ub, ur2, Fs, L, rows2, 5, rfl, hl120, hF20, hl220, hL20, hq3, hb20, rok2, bF, bL, by decide, by decide, hB20, by omega, fun cs run m um H' nm hm hc s' => key3 _ _ ⟨.inl ⟨m, um, cs, rfl, run, hm, hc⟩, s'⟩, fun n cs x hx run bad H' s' => key3 _ _ ⟨.inr ⟨n, rfl, cs, x, hx, run, bad⟩, s'⟩⟩
      rintro v5 H21 ⟨hv5, s21⟩
      walk_at "go"
      refine w_meetC (sp := spLcs) (fun v H' => TVl H' v Fs L rows2 ∧ Same H21 H') ?_ fun key4 => ?_
      rotate_left
      · exact ⟨fa, li, q3, ua, ub, ur2, Fs, L, rows2, rfl, s21.at hfa20, hF20.tps (.of s21), s21.at hli20, hL20.tps (.of s21), s21.at hq3, rw_tps (.of s21) hb20, bF.mono (by decide), bL.mono (by decide), lim_of bF bL (by decide) hB20, by omega, (fun x hx => ⟨(rok2 x hx).ar, Nat.le_trans (rok2 x hx).ln (by decide)⟩), fun cs run m um H' nm hm hc s' => key4 _ _ ⟨.inl ⟨m, um, cs, rfl, run, hm, hc⟩, s'⟩, fun n cs x hx run bad H' s' => key4 _ _ ⟨.inr ⟨n, rfl, cs, x, hx, run, bad⟩, s'⟩⟩
      rintro v6 H22 ⟨hv6, s22⟩
      walk_at "go"
      refine ⟨v5, v6, rfl, eqv_tv (by omega) (hv5.same s22) hv6, fun H23 s23 => ?_⟩
      have s2023 := (s21.trans s22).trans s23
      walk_at "go"
      refine w_newL (by walk_at "sz") (fun q5 H24 hq5 nq5 => ?_)
      have s2024 := s2023.nw nq5
      have dF := dp_clms (K := K) (hF20.tps (.of s2024))
      have dL := dp_clms (K := K) (hL20.tps (.of s2024))
      have dR := dp_rows (K := K) (pT := pT) (w := w) (rw_tps (.of s2024) hR20) rok
      refine w_neSame (.lst (SqL.of (s2024.at hhd20)) (.cons (.lst (SqL.of (s2024.at hl120)) dF) (.cons (.lst (SqL.of (s2024.at hl220)) dL) (.cons (.lst (SqL.of (s2024.at hl320)) dR) .nil)))) (.lst (SqL.of hq5) (.cons (.lst (SqL.of (s2024.at hfa20)) dF) (.cons (.lst (SqL.of (s2024.at hli20)) dL) (.cons (.lst (SqL.of (s2024.at hr20)) dR) .nil)))) (hand_shaped bF bL rok) ?_
      walk_at "go"
      exact ⟨_, _, _, _, _, _, _, _, _, _, rfl, B20.same s2024⟩
    · rintro σ H2 ⟨y2, y3, y4, y5, y6, y7, y8, y9, y10, y11, rfl, B2⟩
      walk_at "go"
      refine ⟨b, l, 4, rfl, B2, by decide, by decide, fun d H3 d0 d1 B3 f3 => ?_⟩
      have laB : (Str.ofString "aB").length = 2 := by decide +kernel
      walk_at "go"
      refine w_mulS (by omega) (by omega) (by rw [laB]; omega) ?_
      obtain ⟨x, hx⟩ : ∃ x, x = Txt.mul (Str.ofString "aB") (3 + d) := ⟨_, rfl⟩
      rw [← hx]
      walk_at "go"
      refine w_newT (by walk_at "sz") (fun t4 H4 ht4 nt4 => ?_)
      walk_at "go"
      refine w_newL (by walk_at "sz") (fun p5 H5 hp5 np5 => ?_)
      walk_at "go"
      have B5 := (B3.nw nt4).nw np5
      have hrw0 : RwAt H5 (.ref t4) (Str.ofString "fact", [V.int 0]) := ⟨t4, rfl, np5.at ht4⟩
      refine w_kRng1 (by decide) (by decide) ?_
      refine w_lcR (lo := 0) (n := 6) (fun p k H6 => Same H5 H6 ∧ H5 p = none ∧ ∃ us, H6 p = some (.lst us) ∧ Paired (RwAt H6) us ((List.range k).map fun (k : Nat) => (Str.ofString "on", [V.int (k : Nat), V.int (k : Nat)]))) (fun p H6 hp np => ⟨np.same, np.nn, [], hp, .nil⟩) ?_ ?_
      · rintro p k H6 hk ⟨s6, np, us, hp6, hus⟩
        walk_at "go"
        refine w_newT (by walk_at "sz") (fun t7 H7 ht7 nt7 => ?_)
        have lus : us.length = k := by rw [Paired.length hus, List.length_map, List.length_range]
        refine w_kIt (nt7.at hp6) (lineLt_of (by omega)) (fun H8 h8 o8 => ⟨(s6.nw nt7).off o8 np, np, _, h8, ?_⟩)
        have tp : t7 ≠ p := fun z => by rw [z, nt7.at hp6] at ht7; cases ht7
        have keep : Tps H6 H8 := fun c xs h => o8.at (fun z => by rw [z, hp6] at h; cases h) (nt7.at h)
        rw [List.range_succ, List.map_append]
        exact paired_appR (rw_tps keep hus) (.cons ⟨t7, rfl, by rw [Int.zero_add] at ht7; exact o8.at tp ht7⟩ .nil)
      · rintro p6 H6 ⟨s6, np6, us, hp6, hus⟩
        have lus : us.length = 6 := by rw [Paired.length hus, List.length_map, List.length_range]
        refine w_cat (s6.at hp5) hp6 (line_of (by show 1 + us.length ≤ 100000; omega)) (fun r7 H7 hr7 nr7 => ?_)
        have B7 := (B5.same s6).nw nr7
        have hR7 : Paired (RwAt H7) ([V.ref t4] ++ us) rowsD := rw_tps (.of nr7.same) (paired_appR (.cons (let ⟨t, e, h⟩ := hrw0; ⟨t, e, s6.at h⟩) .nil) hus)
        obtain ⟨ur, hur⟩ : ∃ u, u = [V.ref t4] ++ us := ⟨_, rfl⟩
        rw [← hur] at hr7 hR7
        have rokD : ∀ y ∈ rowsD, RowOk K w pT y := fun y hy => rg_ok (rowsD_g y hy)
        have lx : x.length ≤ 12 := by rw [hx, mul_len (by omega), laB]; omega
        have wx : Wd x := by
          rw [hx]
          exact Wd.mul (fun c hc => by
            rw [show tl (Str.ofString "aB") = [97, 66] by decide +kernel] at hc
            simp only [List.mem_cons, List.not_mem_nil, or_false] at hc
            rcases hc with rfl | rfl <;> decide)
        have w0 : Wd (Str.ofString "") := fun c hc => by rw [tl_empty] at hc; cases hc
        have bD : Bnd 12 [(x, Str.ofString "")] := fun c hc => by
          rw [List.mem_singleton.mp hc]
          exact ⟨wx, w0, lx, by show (Str.ofString "").length ≤ 12; decide +kernel⟩
        have b0 : ∀ {M : Nat}, Bnd M [] := fun c hc => absurd hc (by simp)
        have limD : Lim [(x, Str.ofString "")] [] rowsD := lim_of bD b0 (by decide) (by decide)
        walk_at "go"
        refine w_newT (by walk_at "sz") (fun t8 H8 ht8 nt8 => ?_)
        walk_at "go"
        refine w_newL (by walk_at "sz") (fun f8 H9 hf8 nf8 => ?_)
        walk_at "go"
        refine w_newL (by walk_at "sz") (fun l9 H10 hl9 nl9 => ?_)
        have s710 := (nt8.same.nw nf8).nw nl9
        have hP10 : PrsAt H10 [V.ref t8] [(x, Str.ofString "")] := .cons ⟨t8, rfl, nl9.at (nf8.at ht8)⟩ .nil
        walk_at "go"
        refine w_meetC (sp := spCms K w pT CB CW) (fun v H' => TVl H' v [(x, Str.ofString "")] [] rowsD ∧ Same H10 H') ?_ fun key => ?_
        rotate_left
        · refine ⟨f8, l9, r7, _, _, [(x, Str.ofString "")], [], rfl, nl9.at hf8, hP10, hl9, .nil, fun m hm => by obtain ⟨_, _, h3, h4⟩ := bD m hm; exact ⟨by omega, by omega⟩, .inr ⟨bD.mono (by decide), b0, fun H11 s11 => ?_⟩⟩
          exact ⟨f8, l9, r7, _, _, ur, _, _, rowsD, rfl, s11.at (nl9.at hf8), hP10.tps (.of s11), s11.at hl9, .nil, s11.at (s710.at hr7), rw_tps (.of (s710.trans s11)) hR7, rokD, bD.mono (by decide), b0, limD, by decide, fun cs run m um H' nm hm hc s' => key _ _ ⟨.inl ⟨m, um, cs, rfl, run, hm, hc⟩, s11.trans s'⟩, fun n cs y hy run bad => absurd bad (dbl_ok hy run)⟩
        rintro v H11 ⟨hv, s11⟩
        walk_at "go"
        refine w_newT (by walk_at "sz") (fun t12 H12 ht12 nt12 => ?_)
        walk_at "go"
        refine w_newL (by walk_at "sz") (fun f13 H13 hf13 nf13 => ?_)
        walk_at "go"
        refine w_newL (by walk_at "sz") (fun l14 H14 hl14 nl14 => ?_)
        have s1114 := (nt12.same.nw nf13).nw nl14
        have s714 := (s710.trans s11).trans s1114
        walk_at "go"
        refine w_meetC (sp := spLcs) (fun v H' => TVl H' v [(x, Str.ofString "")] [] rowsD ∧ Same H14 H') ?_ fun key2 => ?_
        rotate_left
        · exact ⟨f13, l14, r7, _, _, ur, [(x, Str.ofString "")], [], rowsD, rfl, nl14.at hf13, .cons ⟨t12, rfl, nl14.at (nf13.at ht12)⟩ .nil, hl14, .nil, s714.at hr7, rw_tps (.of s714) hR7, bD.mono (by decide), b0, limD, by decide, (fun y hy => ⟨(rokD y hy).ar, Nat.le_trans (rokD y hy).ln (by decide)⟩), fun cs run m um H' nm hm hc s' => key2 _ _ ⟨.inl ⟨m, um, cs, rfl, run, hm, hc⟩, s'⟩, fun n cs y hy run bad H' s' => key2 _ _ ⟨.inr ⟨n, rfl, cs, y, hy, run, bad⟩, s'⟩⟩
        rintro v2 H15 ⟨hv2, s15⟩
        walk_at "go"
        refine ⟨v, v2, rfl, eqv_tv (by decide) (hv.same (s1114.trans s15)) hv2, fun H16 s16 => ?_⟩
        walk_at "go"
        refine w_newT (by walk_at "sz") (fun t17 H17 ht17 nt17 => ?_)
        walk_at "go"
        refine w_newT (by walk_at "sz") (fun t18 H18 ht18 nt18 => ?_)
        walk_at "go"
        refine w_newL (by walk_at "sz") (fun f19 H19 hf19 nf19 => ?_)
        walk_at "go"
        refine w_newL (by walk_at "sz") (fun l20 H20 hl20 nl20 => ?_)
        walk_at "go"
        refine w_newT (by walk_at "sz") (fun t21 H21 ht21 nt21 => ?_)
        walk_at "go"
        refine w_newL (by walk_at "sz") (fun l22 H22 hl22 nl22 => ?_)
        have s1922 := (nl20.same.nw nt21).nw nl22
        walk_at "go"
        refine ⟨f19, l20, l22, _, [(Str.ofString "a", Str.ofString "a"), (Str.ofString "x", Str.ofString "")], rfl, s1922.at hf19, .cons ⟨t17, rfl, s1922.at (nf19.at (nt18.at ht17))⟩ (.cons ⟨t18, rfl, s1922.at (nf19.at ht18)⟩ .nil), fun m hm => ?_, by decide +kernel, fun d H23 nd hd s23 => ?_⟩
        · simp only [List.mem_cons, List.not_mem_nil, or_false] at hm
          rcases hm with rfl | rfl <;> exact ⟨by decide +kernel, by decide +kernel⟩
        intro σ hσ
        have hσ : σ.length = 12 := hσ
        match σ, hσ with
        | [v0, v1, v2, v3, v4, v5, v6, v7, v8, v9, v10, v11], _ =>
          refine ⟨true, T_BadWord.te, fun _ a na => ?_, fun z => nomatch z⟩
          show tRet _ _ _ _
          refine w_ret (w_callS ?_)
          walk_at "go"
          refine ⟨_, rfl, rfl, rfl, d, _, _, rfl, hd, rfl, ?_⟩
          walk_at "go"
          refine w_callS ?_
          walk_at "go"
          refine w_newL (by walk_at "sz") (fun l24 H24 hl24 nl24 => ?_)
          walk_at "go"
          refine w_newL (by walk_at "sz") (fun l25 H25 hl25 nl25 => ?_)
          walk_at "go"
          refine w_newL (by walk_at "sz") (fun l26 H26 hl26 nl26 => ?_)
          walk_at "go"
          refine ⟨l24, l25, l26, rfl, nl26.at (nl25.at hl24), nl26.at hl25, hl26, fun m H27 nm hm s27 => ?_⟩
          walk_at "go"
          refine w_newL (by walk_at "sz") (fun l28 H28 hl28 nl28 => ?_)
          walk_at "go"
          refine w_newL (by walk_at "sz") (fun l29 H29 hl29 nl29 => ?_)
          walk_at "go"
          refine w_newL (by walk_at "sz") (fun l30 H30 hl30 nl30 => ?_)
          walk_at "go"
          refine ⟨_, _, rfl, .inr ⟨l28, l30, _, _, rfl, rfl, ⟨nl30.at (nl29.at hl28), hl30⟩, rfl, (by show 2 ≤ 100000; decide), fun i u v hu hv => ?_⟩, fun H31 s31 => q _⟩
          match i, hu, hv with
          | 0, hu, hv =>
            cases hu
            cases hv
            exact .inl ⟨rfl, rfl⟩
          | 1, hu, hv =>
            cases hu
            cases hv
            exact .inr ⟨m, l29, [], [], rfl, rfl, ⟨nl30.at (nl29.at (nl28.at hm)), nl30.at hl29⟩, rfl, by decide, fun i u v hu _ => by simp at hu⟩
          | i + 2, hu, hv => cases hu
end
end Sf
namespace Sf
open PySem PySem.Spec PyProof.Rows L2 TL
theorem tp_mk {K : PySem.W.Frag} {h : Heap} {mg : Str → Option Value} {w : World} {p : Addr} {es : Array DictEntry} {n : Nat} {t1 t2 t3 t4 t5 t6 t7 : Tok} (X : K.In h) (G : h.Ns mainGlobals mg) (a : PySem.W.nsIn K mainGlobals "THINGS" = some (some (.ref p)))
    (l : K.lookup p = some ⟨.type "dict", none, .dict es n, #[]⟩) (k : PySem.W.KeysLit w.params es.toList) (low : (p == sysModules) = false) (e1 : PySem.W.nsIn K p "start" = some (some (.int 1 t1))) (e2 : PySem.W.nsIn K p "fact" = some (some (.int 2 t2))) (e3 : PySem.W.nsIn K p "turn" = some (some (.int 2 t3))) (e4 : PySem.W.nsIn K p "on" = some (some (.int 3 t4)))
    (e5 : PySem.W.nsIn K p "home" = some (some (.int 2 t5))) (e6 : PySem.W.nsIn K p "like" = some (some (.int 4 t6))) (e7 : PySem.W.nsIn K p "part" = some (some (.int 3 t7))) : TP K mg w p :=
  ⟨PySem.W.mg_of X G a, ⟨es, n, l⟩, low, ⟨es, n, _, l, k, e1, _, rfl⟩, ⟨es, n, _, l, k, e2, _, rfl⟩, ⟨es, n, _, l, k, e3, _, rfl⟩, ⟨es, n, _, l, k, e4, _, rfl⟩, ⟨es, n, _, l, k, e5, _, rfl⟩, ⟨es, n, _, l, k, e6, _, rfl⟩, ⟨es, n, _, l, k, e7, _, rfl⟩⟩
/-- MAKERS, and where its defs stand by name -/
structure MKs (K : PySem.W.Frag) (mg : Str → Option Value) (w : World) (p f1 f2 f3 f4 f5 f6 f7 : Addr) : Prop where
  dk : MK K mg w p f1 f2 f3 f4 f5 f6 f7
  y1 : mg "by_start" = some (.ref f1)
  y2 : mg "by_fact" = some (.ref f2)
  y3 : mg "by_turn" = some (.ref f3)
  y4 : mg "by_on" = some (.ref f4)
  y5 : mg "by_home" = some (.ref f5)
  y6 : mg "by_like" = some (.ref f6)
  y7 : mg "by_part" = some (.ref f7)
theorem mks_mk {K : PySem.W.Frag} {h : Heap} {mg : Str → Option Value} {w : World} {p f1 f2 f3 f4 f5 f6 f7 : Addr} {es : Array DictEntry} {n : Nat} (X : K.In h) (G : h.Ns mainGlobals mg) (a : PySem.W.nsIn K mainGlobals "MAKERS" = some (some (.ref p)))
    (l : K.lookup p = some ⟨.type "dict", none, .dict es n, #[]⟩) (k : PySem.W.KeysLit w.params es.toList) (e1 : PySem.W.nsIn K p "start" = some (some (.ref f1))) (e2 : PySem.W.nsIn K p "fact" = some (some (.ref f2))) (e3 : PySem.W.nsIn K p "turn" = some (some (.ref f3))) (e4 : PySem.W.nsIn K p "on" = some (some (.ref f4)))
    (e5 : PySem.W.nsIn K p "home" = some (some (.ref f5))) (e6 : PySem.W.nsIn K p "like" = some (some (.ref f6))) (e7 : PySem.W.nsIn K p "part" = some (some (.ref f7)))
    (g1 : PySem.W.nsIn K mainGlobals "by_start" = some (some (.ref f1))) (g2 : PySem.W.nsIn K mainGlobals "by_fact" = some (some (.ref f2))) (g3 : PySem.W.nsIn K mainGlobals "by_turn" = some (some (.ref f3))) (g4 : PySem.W.nsIn K mainGlobals "by_on" = some (some (.ref f4)))
    (g5 : PySem.W.nsIn K mainGlobals "by_home" = some (some (.ref f5))) (g6 : PySem.W.nsIn K mainGlobals "by_like" = some (some (.ref f6))) (g7 : PySem.W.nsIn K mainGlobals "by_part" = some (some (.ref f7))) : MKs K mg w p f1 f2 f3 f4 f5 f6 f7 :=
  ⟨⟨PySem.W.mg_of X G a, ⟨es, n, _, l, k, e1, rfl⟩, ⟨es, n, _, l, k, e2, rfl⟩, ⟨es, n, _, l, k, e3, rfl⟩, ⟨es, n, _, l, k, e4, rfl⟩, ⟨es, n, _, l, k, e5, rfl⟩, ⟨es, n, _, l, k, e6, rfl⟩, ⟨es, n, _, l, k, e7, rfl⟩⟩, PySem.W.mg_of X G g1, PySem.W.mg_of X G g2, PySem.W.mg_of X G g3, PySem.W.mg_of X G g4, PySem.W.mg_of X G g5, PySem.W.mg_of X G g6, PySem.W.mg_of X G g7⟩
theorem HasX.at_ {P : Program} {w : World} {K : PySem.W.Frag} {mg : Str → Option Value} {base : Heap} {k : Nat} {x : Str} {ps : List Str} {sp : Sp} {f : Addr} (h : HasX P w K mg base k x ps sp) (g : mg x = some (.ref f)) : PySem.W.keepIn K (.ref f) = true ∧ FnR P w K mg base (L2.CX P w) k f sp := by
  obtain ⟨f', fd, g', kp, b, F⟩ := h
  have e := g.symm.trans g'
  cases e
  exact ⟨kp, HasX.raw F b⟩
end Sf
namespace Sf
open PySem PySem.Spec PyProof.Rows L2 TL
theorem kmiss_mk {K : PySem.W.Frag} {w : World} {p : Addr} {x : Str} {es : Array DictEntry} {n : Nat} (l : K.lookup p = some ⟨.type "dict", none, .dict es n, #[]⟩) (k : PySem.W.KeysLit w.params es.toList) (low : (p == sysModules) = false) (e : PySem.W.nsIn K p x = some none) : KMiss K w p x := ⟨es, n, l, k, low, e⟩
end Sf
namespace Sf
open PySem PySem.Spec PyProof.Rows L2 TL
theorem all_mk {P : Program} {w : World} {K : PySem.W.Frag} {h : Heap} {mg : Str → Option Value} {fa f : Addr} (X : K.In h) (G : h.Ns mainGlobals mg) (hfa : mg "law" = some (.ref fa))
    {od an : Option Addr} {sl : Array (Option Value)} {oc kV dc pm cd ct : Value}
    (aL : PySem.W.nsIn K mainGlobals "law" = some (some (.ref f))) (lL : K.lookup f = some ⟨oc, od, .func (PySem.W.fnOf "law" "law" (defArgs s_law) (defBody s_law) (defScope s_law) .none kV dc pm an cd ct), sl⟩) (cL : PySem.W.codeIn K cd "law" = true) (kL : PySem.W.keepIn K (.ref f) = true)
    (F_law_pull : FnAt K mg "_law_pull" s__law_pull ["_law_bag", "_law_many"])
    (F_law_begin : FnAt K mg "_law_begin" s__law_begin ["_law_script"])
    (F_law_flip : FnAt K mg "_law_flip" s__law_flip ["_law_sign_here"])
    (F_law_sign : FnAt K mg "_law_sign" s__law_sign ["_law_bag", "_law_many"])
    (F_law_word : FnAt K mg "_law_word" s__law_word ["_law_bag", "_law_upto", "_law_many"])
    (Fis_word : FnAt K mg "is_word" s_is_word ["text"])
    (Fneed_word : FnAt K mg "need_word" s_need_word ["text"])
    (Fneed_words : FnAt K mg "need_words" s_need_words ["texts"])
    (Fneed_pairs : FnAt K mg "need_pairs" s_need_pairs ["pairs"])
    (Fis_upto : FnAt K mg "is_upto" s_is_upto ["thing", "most"])
    (Fby_start : FnAt K mg "by_start" s_by_start ["book"])
    (Fby_fact : FnAt K mg "by_fact" s_by_fact ["book", "number"])
    (Fby_turn : FnAt K mg "by_turn" s_by_turn ["book", "number"])
    (Fby_on : FnAt K mg "by_on" s_by_on ["book", "number", "further"])
    (Fby_home : FnAt K mg "by_home" s_by_home ["book", "number"])
    (Fby_like : FnAt K mg "by_like" s_by_like ["book", "number", "which", "forth"])
    (Fby_part : FnAt K mg "by_part" s_by_part ["book", "number", "many"])
    (Fclaims_made : FnAt K mg "claims_made" s_claims_made ["facts", "likenesses", "rows"])
    (F_law_facts : FnAt K mg "_law_facts" s__law_facts ["_law_bag", "_law_upto", "_law_size", "_law_many"])
    (F_law_likenesses : FnAt K mg "_law_likenesses" s__law_likenesses ["_law_bag", "_law_upto", "_law_size", "_law_many"])
    (F_law_number : FnAt K mg "_law_number" s__law_number ["_law_thing", "_law_many"])
    (F_law_like_claim : FnAt K mg "_law_like_claim" s__law_like_claim ["_law_one", "_law_likenesses_here", "_law_number_here", "_law_forth"])
    (F_law_claim : FnAt K mg "_law_claim" s__law_claim ["_law_row", "_law_facts_here", "_law_likenesses_here", "_law_found"])
    (F_law_claims : FnAt K mg "_law_claims" s__law_claims ["_law_facts_here", "_law_likenesses_here", "_law_rows"])
    (F_law_pick : FnAt K mg "_law_pick" s__law_pick ["_law_bag", "_law_row"])
    (F_law_paper : FnAt K mg "_law_paper" s__law_paper ["_law_bag", "_law_facts_here", "_law_likenesses_here", "_law_upto"])
    (F_law_same : FnAt K mg "_law_same" s__law_same ["_law_found", "_law_due"])
    (Fclaims : FnAt K mg "claims" s_claims ["facts", "likenesses", "rows"])
    (F_law_told : FnAt K mg "_law_told" s__law_told ["_law_facts_here", "_law_likenesses_here", "_law_rows"])
    (F_law_bent_row : FnAt K mg "_law_bent_row" s__law_bent_row ["_law_bag", "_law_rows"])
    (B : Blt mg) {t_MOST_WORD : Tok} (C_MOST_WORD : mg "MOST_WORD" = some (.int 60 t_MOST_WORD)) {t_SIGNS : Tok} (C_SIGNS : mg "SIGNS" = some (.str (Str.ofString "aAbBcCdDeEfFgGhH") t_SIGNS)) {CBook : Addr} (TBook : BKC K mg CBook) (mkBook : PySem.W.makesIn K CBook = true) (kcBook : PySem.W.keepIn K (.ref CBook) = true)
    (MBook___init__ : MAt K CBook "__init__" "Book.__init__" s_Book___init__ ["self", "facts", "likenesses"])
    (MBook_need : MAt K CBook "need" "Book.need" s_Book_need ["self", "fits"])
    (MBook_picked : MAt K CBook "picked" "Book.picked" s_Book_picked ["self", "things", "number"])
    (MBook_claim : MAt K CBook "claim" "Book.claim" s_Book_claim ["self", "number"])
    {CS fS : Addr} (S_ : SE K mg CS fS) (FS_ : FbD K "__init__" "SpoorError.__init__" s_SpoorError___init__ fS ["self", "word", "message"])
    {CBadPaper fBadPaper : Addr} (EBadPaper : EC K mg "BadPaper" CBadPaper fBadPaper) (IBadPaper : Fb K "__init__" "BadPaper.__init__" s_BadPaper___init__ fBadPaper ["self", "at"])
    {CBadWord fBadWord : Addr} (EBadWord : EC K mg "BadWord" CBadWord fBadWord) (IBadWord : Fb K "__init__" "BadWord.__init__" s_BadWord___init__ fBadWord ["self"])
    {pT : Addr} (TTP : TP K mg w pT)
    {pM f1 f2 f3 f4 f5 f6 f7 : Addr} (TMK : MKs K mg w pM f1 f2 f3 f4 f5 f6 f7)
    (nA : PySem.W.findIn K (.ref CBadPaper) "at" = some none)
    (m0 : KMiss K w pT (Str.ofString "")) (m1 : KMiss K w pT (Str.ofString "begin")) :
    ∃ fd : FuncData, (∀ (s : Shared) (v : Value), BindsTo s fd ⟨[v], []⟩ [("_law_script", v)]) ∧ ∀ base : Heap, K.In base → base.Ns mainGlobals mg → FnOk P w K mg base CX0 11 fa fd ["_law_script"] (spLaw K) := by
  have e := hfa.symm.trans (PySem.W.mg_of X G aL)
  cases e
  have FL := fun_mk (st := s_law) lL cL kL
  refine ⟨PySem.W.fnOf "law" "law" (defArgs s_law) (defBody s_law) (defScope s_law) .none kV dc pm an cd ct, fun s v => .of_eq rfl, fun base _ _ => ?_⟩
  obtain ⟨fdS, FS, bS⟩ := FS_
  obtain ⟨fdB, FB, bB⟩ := IBadPaper
  have G_B := ok_bpa (P := P) (w := w) (base := base) FB S_ FS bS
  have h_Pu := has_pull (P := P) (w := w) (base := base) F_law_pull B
  have h_Be := has_begin (P := P) (w := w) (base := base) F_law_begin B
  have h_Fl := has_flip (P := P) (w := w) (base := base) F_law_flip
  have h_Si := has_sign (P := P) (w := w) (base := base) F_law_sign h_Pu
  have h_Wo := has_word (P := P) (w := w) (base := base) F_law_word B h_Pu h_Si h_Fl
  have h_Iw := has_isword (P := P) (w := w) (base := base) Fis_word B C_MOST_WORD C_SIGNS
  have h_Ne := has_need (P := P) (w := w) (base := base) Fneed_word h_Iw
  have h_Up := has_up (P := P) (w := w) (base := base) Fis_upto B
  have h_Nws := has_nws (P := P) (w := w) (base := base) Fneed_words h_Ne
  have h_Np := has_np (P := P) (w := w) (base := base) Fneed_pairs h_Nws
  have h_BI := has_bi (P := P) (w := w) (base := base) MBook___init__ TBook
  have h_BN := has_nd (P := P) (w := w) (base := base) MBook_need B TBook EBadPaper nA G_B bB
  have h_BP := has_pk (P := P) (w := w) (base := base) MBook_picked B TBook h_Up h_BN
  have h_BC := has_cl (P := P) (w := w) (base := base) MBook_claim TBook h_BP
  obtain ⟨k_YS, R_YS⟩ := (has_ys (P := P) (w := w) (base := base) (C := CBook) (CB := CBadPaper) Fby_start).at_ TMK.y1
  obtain ⟨k_YF, R_YF⟩ := (has_yf (P := P) (w := w) (base := base) (C := CBook) (CB := CBadPaper) Fby_fact TBook h_BP).at_ TMK.y2
  obtain ⟨k_YT, R_YT⟩ := (has_yt (P := P) (w := w) (base := base) (C := CBook) (CB := CBadPaper) Fby_turn TBook h_BC).at_ TMK.y3
  obtain ⟨k_YO, R_YO⟩ := (has_yo (P := P) (w := w) (base := base) (C := CBook) (CB := CBadPaper) Fby_on B TBook h_BN h_BC).at_ TMK.y4
  obtain ⟨k_YH, R_YH⟩ := (has_yh (P := P) (w := w) (base := base) (C := CBook) (CB := CBadPaper) Fby_home B TBook h_BN h_BC).at_ TMK.y5
  obtain ⟨k_YL, R_YL⟩ := (has_yl (P := P) (w := w) (base := base) (C := CBook) (CB := CBadPaper) Fby_like B TBook h_BN h_BP h_BC).at_ TMK.y6
  obtain ⟨k_YP, R_YP⟩ := (has_yp (P := P) (w := w) (base := base) (C := CBook) (CB := CBadPaper) Fby_part B TBook h_Up h_BN h_BC).at_ TMK.y7
  have h_CM := has_cm (P := P) (w := w) (base := base) (C := CBook) (CB := CBadPaper) Fclaims_made B TBook mkBook kcBook TTP TMK.dk h_BI h_BN k_YS R_YS k_YF R_YF k_YT R_YT k_YO R_YO k_YH R_YH k_YL R_YL k_YP R_YP
  obtain ⟨fdW, FW, bW⟩ := IBadWord
  have G_W := ok_bwd (P := P) (w := w) (base := base) FW S_ FS bS
  have h_Lfa := has_lfa (P := P) (w := w) (base := base) F_law_facts B h_Pu h_Wo
  have h_Ll := has_lli (P := P) (w := w) (base := base) F_law_likenesses B h_Pu h_Wo
  have h_Lnm := has_lnm (P := P) (w := w) (base := base) F_law_number B
  have h_Llc := has_llc (P := P) (w := w) (base := base) F_law_like_claim B h_Lnm
  have h_Lcl := has_lcl (P := P) (w := w) (base := base) F_law_claim B h_Lnm h_Llc h_Fl
  have h_Lcs := has_lcs (P := P) (w := w) (base := base) F_law_claims B h_Lcl
  have h_Lpk := has_lpk (P := P) (w := w) (base := base) F_law_pick B h_Pu
  have h_Lpp := has_lpp (P := P) (w := w) (base := base) F_law_paper B h_Pu h_Lpk h_Lcl h_Lcs
  have h_NeX := has_neX (P := P) (w := w) (base := base) Fneed_word h_Iw EBadWord G_W bW
  have h_NwsX := has_nwsX (P := P) (w := w) (base := base) Fneed_words h_NeX
  have h_NpX := has_npX (P := P) (w := w) (base := base) Fneed_pairs h_NwsX
  have h_Cms := has_cms (P := P) (w := w) (base := base) Fclaims h_NpX h_CM
  have h_Tld := has_tldP (P := P) (w := w) (base := base) F_law_told h_Cms EBadPaper nA
  have h_Bnt := has_bnt (P := P) (w := w) (base := base) F_law_bent_row B h_Pu h_Lpk m0 m1
  have h_NeN := has_neN (P := P) (w := w) (base := base) Fneed_word h_Iw EBadWord G_W bW
  have h_NwsN := has_nwsN (P := P) (w := w) (base := base) Fneed_words h_NeN
  have h_NpN := has_npN (P := P) (w := w) (base := base) Fneed_pairs h_NwsN
  have h_CmN := has_cmsN (P := P) (w := w) (base := base) Fclaims h_NpN
  have h_BIH := has_biH (P := P) (w := w) (base := base) MBook___init__ TBook
  have h_NpH := has_npH (P := P) (w := w) (base := base) Fneed_pairs
  have h_CMH := has_cmH (P := P) (w := w) (base := base) Fclaims_made TBook mkBook kcBook h_BIH
  have h_CmH := has_cmsH (P := P) (w := w) (base := base) Fclaims h_NpH h_CMH
  have h_Sa := has_same (P := P) (w := w) (base := base) F_law_same B
  have h_SaH := has_sameH (P := P) (w := w) (base := base) F_law_same B
  exact ok_law FL B m1 h_Be h_Pu (h_Sa 2) h_Lfa h_Ll h_Lcs h_Lpp h_Bnt h_Tld h_Cms h_CmN h_CmH (h_SaH 2) EBadWord
end Sf
open PySem PySem.W PyProof.Rows
set_option maxRecDepth 100000 in
set_option maxHeartbeats 0 in
theorem PySem.Challenge.cw_spoorfold_k26_claims_of_papers_holds : PySem.Challenge.rw_spoorfold_k26_claims_of_papers.Holds := by
  w_on; o_law; k_head; (case hw => w_witness2)
  k_fill
  refine L2.walk_of (l := PySem.Challenge.rw_spoorfold_k26_claims_of_papers) (n := 63) (k := 11) (x := "_law_script") (CX := fun _ => L2.CX0) (sp := fun w => Sf.spLaw _) rfl (by decide) rfl ⟨rfl, by decide, by decide⟩ (fun w h Y => PySem.W.kIn_of Y) ?F (fun _ _ a ns hl _ hS => ⟨a, ns, rfl, hS, hl, fun _ => rfl⟩) (fun _ _ _ _ _ h => h)
  case F =>
    intro w mg fa h KX G hmg
    refine' Sf.all_mk KX G hmg ?aL ?lL ?cL ?kL (Sf.fnAt_mk KX G ?a0 ?l0 ?c0 ?k0 (fun _ _ _ _ _ _ us hl => match us, hl with | [_, _], _ => rfl)) (Sf.fnAt_mk KX G ?a1 ?l1 ?c1 ?k1 (fun _ _ _ _ _ _ us hl => match us, hl with | [_], _ => rfl)) (Sf.fnAt_mk KX G ?a2 ?l2 ?c2 ?k2 (fun _ _ _ _ _ _ us hl => match us, hl with | [_], _ => rfl)) (Sf.fnAt_mk KX G ?a3 ?l3 ?c3 ?k3 (fun _ _ _ _ _ _ us hl => match us, hl with | [_, _], _ => rfl)) (Sf.fnAt_mk KX G ?a4 ?l4 ?c4 ?k4 (fun _ _ _ _ _ _ us hl => match us, hl with | [_, _, _], _ => rfl)) (Sf.fnAt_mk KX G ?a5 ?l5 ?c5 ?k5 (fun _ _ _ _ _ _ us hl => match us, hl with | [_], _ => rfl)) (Sf.fnAt_mk KX G ?a6 ?l6 ?c6 ?k6 (fun _ _ _ _ _ _ us hl => match us, hl with | [_], _ => rfl)) (Sf.fnAt_mk KX G ?a7 ?l7 ?c7 ?k7 (fun _ _ _ _ _ _ us hl => match us, hl with | [_], _ => rfl)) (Sf.fnAt_mk KX G ?a8 ?l8 ?c8 ?k8 (fun _ _ _ _ _ _ us hl => match us, hl with | [_], _ => rfl)) (Sf.fnAt_mk KX G ?a9 ?l9 ?c9 ?k9 (fun _ _ _ _ _ _ us hl => match us, hl with | [_, _], _ => rfl)) (Sf.fnAt_mk KX G ?a10 ?l10 ?c10 ?k10 (fun _ _ _ _ _ _ us hl => match us, hl with | [_], _ => rfl)) (Sf.fnAt_mk KX G ?a11 ?l11 ?c11 ?k11 (fun _ _ _ _ _ _ us hl => match us, hl with | [_, _], _ => rfl)) (Sf.fnAt_mk KX G ?a12 ?l12 ?c12 ?k12 (fun _ _ _ _ _ _ us hl => match us, hl with | [_, _], _ => rfl)) (Sf.fnAt_mk KX G ?a13 ?l13 ?c13 ?k13 (fun _ _ _ _ _ _ us hl => match us, hl with | [_, _, _], _ => rfl)) (Sf.fnAt_mk KX G ?a14 ?l14 ?c14 ?k14 (fun _ _ _ _ _ _ us hl => match us, hl with | [_, _], _ => rfl)) (Sf.fnAt_mk KX G ?a15 ?l15 ?c15 ?k15 (fun _ _ _ _ _ _ us hl => match us, hl with | [_, _, _, _], _ => rfl)) (Sf.fnAt_mk KX G ?a16 ?l16 ?c16 ?k16 (fun _ _ _ _ _ _ us hl => match us, hl with | [_, _, _], _ => rfl)) (Sf.fnAt_mk KX G ?a17 ?l17 ?c17 ?k17 (fun _ _ _ _ _ _ us hl => match us, hl with | [_, _, _], _ => rfl)) (Sf.fnAt_mk KX G ?a18 ?l18 ?c18 ?k18 (fun _ _ _ _ _ _ us hl => match us, hl with | [_, _, _, _], _ => rfl)) (Sf.fnAt_mk KX G ?a19 ?l19 ?c19 ?k19 (fun _ _ _ _ _ _ us hl => match us, hl with | [_, _, _, _], _ => rfl)) (Sf.fnAt_mk KX G ?a20 ?l20 ?c20 ?k20 (fun _ _ _ _ _ _ us hl => match us, hl with | [_, _], _ => rfl)) (Sf.fnAt_mk KX G ?a21 ?l21 ?c21 ?k21 (fun _ _ _ _ _ _ us hl => match us, hl with | [_, _, _, _], _ => rfl)) (Sf.fnAt_mk KX G ?a22 ?l22 ?c22 ?k22 (fun _ _ _ _ _ _ us hl => match us, hl with | [_, _, _, _], _ => rfl)) (Sf.fnAt_mk KX G ?a23 ?l23 ?c23 ?k23 (fun _ _ _ _ _ _ us hl => match us, hl with | [_, _, _], _ => rfl)) (Sf.fnAt_mk KX G ?a24 ?l24 ?c24 ?k24 (fun _ _ _ _ _ _ us hl => match us, hl with | [_, _], _ => rfl)) (Sf.fnAt_mk KX G ?a25 ?l25 ?c25 ?k25 (fun _ _ _ _ _ _ us hl => match us, hl with | [_, _, _, _], _ => rfl)) (Sf.fnAt_mk KX G ?a26 ?l26 ?c26 ?k26 (fun _ _ _ _ _ _ us hl => match us, hl with | [_, _], _ => rfl)) (Sf.fnAt_mk KX G ?a27 ?l27 ?c27 ?k27 (fun _ _ _ _ _ _ us hl => match us, hl with | [_, _, _], _ => rfl)) (Sf.fnAt_mk KX G ?a28 ?l28 ?c28 ?k28 (fun _ _ _ _ _ _ us hl => match us, hl with | [_, _, _], _ => rfl)) (Sf.fnAt_mk KX G ?a29 ?l29 ?c29 ?k29 (fun _ _ _ _ _ _ us hl => match us, hl with | [_, _], _ => rfl)) ⟨PySem.W.mg_none_of KX G ?z0, PySem.W.mg_none_of KX G ?z1, PySem.W.mg_none_of KX G ?z2, PySem.W.mg_none_of KX G ?z3, PySem.W.mg_none_of KX G ?z4, PySem.W.mg_none_of KX G ?z5, PySem.W.mg_none_of KX G ?z6, PySem.W.mg_none_of KX G ?z7, PySem.W.mg_none_of KX G ?z8, PySem.W.mg_none_of KX G ?z9, PySem.W.mg_none_of KX G ?z10, PySem.W.mg_none_of KX G ?z11⟩ (PySem.W.mg_of KX G ?d0) (PySem.W.mg_of KX G ?d1) (Sf.BKC.mk ⟨?wBookpg, ?wBookhd, ?wBookpo, ?wBooksa⟩ ?wBookf0 ?wBookf1 ?wBookf2 (PySem.W.mg_of KX G ?wBookaC) ?wBookha ?wBookhn ?wBookhtk ?wBookhm ?wBookne) ?wBookmk ?wBookkc (Sf.mAt_mk ?wBooka0 ?wBooki0 ?wBookl0 ?wBookc0 ?wBookk0 (fun _ _ _ _ _ _ us hl => match us, hl with | [_, _, _], _ => rfl)) (Sf.mAt_mk ?wBooka1 ?wBooki1 ?wBookl1 ?wBookc1 ?wBookk1 (fun _ _ _ _ _ _ us hl => match us, hl with | [_, _], _ => rfl)) (Sf.mAt_mk ?wBooka2 ?wBooki2 ?wBookl2 ?wBookc2 ?wBookk2 (fun _ _ _ _ _ _ us hl => match us, hl with | [_, _, _], _ => rfl)) (Sf.mAt_mk ?wBooka3 ?wBooki3 ?wBookl3 ?wBookc3 ?wBookk3 (fun _ _ _ _ _ _ us hl => match us, hl with | [_, _], _ => rfl)) (Sf.SE.mk (PySem.W.mg_of KX G ?seC) ?serd ?sega ?seat ?sevV (PySem.W.mg_none_of KX G ?semV)) (Sf.fbD_mk ?sel ?sec ?sek (Sf.se_binds ?seo ?seo2)) (Sf.EC.mk (Sf.oex_mk ?xBadPaperlk ?xBadPaperrv ?xBadPapersa ?xBadPaperex ?xBadPaperty ?xBadPaperkC) ?xBadPaperiC ?xBadPapertI (PySem.W.mg_of KX G ?xBadPapergC) ⟨?xBadPaperga, ?xBadPapergg, ?xBadPaperex2, ?xBadPaperhd⟩ ?xBadPapernw (Sf.exm_self ?xBadPaperex3 ?xBadPapercl ?xBadPaperty2 ?xBadPapersub)) (Sf.fb_mk ?xBadPaperil ?xBadPaperic ?xBadPaperik (fun _ _ _ _ _ _ us hl => match us, hl with | [_, _], _ => rfl)) (Sf.EC.mk (Sf.oex_mk ?xBadWordlk ?xBadWordrv ?xBadWordsa ?xBadWordex ?xBadWordty ?xBadWordkC) ?xBadWordiC ?xBadWordtI (PySem.W.mg_of KX G ?xBadWordgC) ⟨?xBadWordga, ?xBadWordgg, ?xBadWordex2, ?xBadWordhd⟩ ?xBadWordnw (Sf.exm_self ?xBadWordex3 ?xBadWordcl ?xBadWordty2 ?xBadWordsub)) (Sf.fb_mk ?xBadWordil ?xBadWordic ?xBadWordik (fun _ _ _ _ _ _ us hl => match us, hl with | [_], _ => rfl)) (Sf.tp_mk KX G ?thA ?thL ?thK ?thW ?th1 ?th2 ?th3 ?th4 ?th5 ?th6 ?th7) (Sf.mks_mk KX G ?mkA ?mkL ?mkK ?mk1 ?mk2 ?mk3 ?mk4 ?mk5 ?mk6 ?mk7 ?my1 ?my2 ?my3 ?my4 ?my5 ?my6 ?my7) ?nA (Sf.kmiss_mk ?thL ?thK ?thW ?mi0) (Sf.kmiss_mk ?thL ?thK ?thW ?mi1)
    (case aL => k_is)
    (case lL => k_is)
    (case cL => k_is)
    (case kL => k_is)
    (case a0 => k_is)
    (case l0 => k_is)
    (case c0 => k_is)
    (case k0 => k_is)
    (case a1 => k_is)
    (case l1 => k_is)
    (case c1 => k_is)
    (case k1 => k_is)
    (case a2 => k_is)
    (case l2 => k_is)
    (case c2 => k_is)
    (case k2 => k_is)
    (case a3 => k_is)
    (case l3 => k_is)
    (case c3 => k_is)
    (case k3 => k_is)
    (case a4 => k_is)
    (case l4 => k_is)
    (case c4 => k_is)
    (case k4 => k_is)
    (case a5 => k_is)
    (case l5 => k_is)
    (case c5 => k_is)
    (case k5 => k_is)
    (case a6 => k_is)
    (case l6 => k_is)
    (case c6 => k_is)
    (case k6 => k_is)
    (case a7 => k_is)
    (case l7 => k_is)
    (case c7 => k_is)
    (case k7 => k_is)
    (case a8 => k_is)
    (case l8 => k_is)
    (case c8 => k_is)
    (case k8 => k_is)
    (case a9 => k_is)
    (case l9 => k_is)
    (case c9 => k_is)
    (case k9 => k_is)
    (case a10 => k_is)
    (case l10 => k_is)
    (case c10 => k_is)
    (case k10 => k_is)
    (case a11 => k_is)
    (case l11 => k_is)
    (case c11 => k_is)
    (case k11 => k_is)
    (case a12 => k_is)
    (case l12 => k_is)
    (case c12 => k_is)
    (case k12 => k_is)
    (case a13 => k_is)
    (case l13 => k_is)
    (case c13 => k_is)
    (case k13 => k_is)
    (case a14 => k_is)
    (case l14 => k_is)
    (case c14 => k_is)
    (case k14 => k_is)
    (case a15 => k_is)
    (case l15 => k_is)
    (case c15 => k_is)
    (case k15 => k_is)
    (case a16 => k_is)
    (case l16 => k_is)
    (case c16 => k_is)
    (case k16 => k_is)
    (case a17 => k_is)
    (case l17 => k_is)
    (case c17 => k_is)
    (case k17 => k_is)
    (case a18 => k_is)
    (case l18 => k_is)
    (case c18 => k_is)
    (case k18 => k_is)
    (case a19 => k_is)
    (case l19 => k_is)
    (case c19 => k_is)
    (case k19 => k_is)
    (case a20 => k_is)
    (case l20 => k_is)
    (case c20 => k_is)
    (case k20 => k_is)
    (case a21 => k_is)
    (case l21 => k_is)
    (case c21 => k_is)
    (case k21 => k_is)
    (case a22 => k_is)
    (case l22 => k_is)
    (case c22 => k_is)
    (case k22 => k_is)
    (case a23 => k_is)
    (case l23 => k_is)
    (case c23 => k_is)
    (case k23 => k_is)
    (case a24 => k_is)
    (case l24 => k_is)
    (case c24 => k_is)
    (case k24 => k_is)
    (case a25 => k_is)
    (case l25 => k_is)
    (case c25 => k_is)
    (case k25 => k_is)
    (case a26 => k_is)
    (case l26 => k_is)
    (case c26 => k_is)
    (case k26 => k_is)
    (case a27 => k_is)
    (case l27 => k_is)
    (case c27 => k_is)
    (case k27 => k_is)
    (case a28 => k_is)
    (case l28 => k_is)
    (case c28 => k_is)
    (case k28 => k_is)
    (case a29 => k_is)
    (case l29 => k_is)
    (case c29 => k_is)
    (case k29 => k_is)
    (case z0 => k_is)
    (case z1 => k_is)
    (case z2 => k_is)
    (case z3 => k_is)
    (case z4 => k_is)
    (case z5 => k_is)
    (case z6 => k_is)
    (case z7 => k_is)
    (case z8 => k_is)
    (case z9 => k_is)
    (case z10 => k_is)
    (case z11 => k_is)
    (case d0 => k_is)
    (case d1 => k_is)
    (case wBookaC => k_is)
    (case wBookpg => k_is)
    (case wBookhd => k_is)
    (case wBookpo => k_is)
    (case wBooksa => k_is)
    (case wBookf0 => k_is)
    (case wBookf1 => k_is)
    (case wBookf2 => k_is)
    (case wBookha => k_is)
    (case wBookhn => k_is)
    (case wBookhtk => k_is)
    (case wBookhm => k_is)
    (case wBookne => k_is)
    (case wBookmk => k_is)
    (case wBookkc => k_is)
    (case wBooka0 => k_is)
    (case wBooki0 => k_is)
    (case wBookl0 => k_is)
    (case wBookc0 => k_is)
    (case wBookk0 => k_is)
    (case wBooka1 => k_is)
    (case wBooki1 => k_is)
    (case wBookl1 => k_is)
    (case wBookc1 => k_is)
    (case wBookk1 => k_is)
    (case wBooka2 => k_is)
    (case wBooki2 => k_is)
    (case wBookl2 => k_is)
    (case wBookc2 => k_is)
    (case wBookk2 => k_is)
    (case wBooka3 => k_is)
    (case wBooki3 => k_is)
    (case wBookl3 => k_is)
    (case wBookc3 => k_is)
    (case wBookk3 => k_is)
    (case seC => k_is)
    (case serd => k_is)
    (case sega => k_is)
    (case seat => k_is)
    (case sevV => k_is)
    (case semV => k_is)
    (case sel => k_is)
    (case sec => k_is)
    (case sek => k_is)
    (case seo => k_is)
    (case seo2 => rfl)
    (case xBadPapergC => k_is)
    (case xBadPaperlk => k_is)
    (case xBadPapersa => k_is)
    (case xBadPaperex => k_is)
    (case xBadPaperty => k_is)
    (case xBadPaperkC => k_is)
    (case xBadPaperiC => k_is)
    (case xBadPapertI => k_is)
    (case xBadPaperga => k_is)
    (case xBadPapergg => k_is)
    (case xBadPaperex2 => k_is)
    (case xBadPaperhd => k_is)
    (case xBadPapernw => k_is)
    (case xBadPaperex3 => k_is)
    (case xBadPapercl => k_is)
    (case xBadPaperty2 => k_is)
    (case xBadPapersub => k_is)
    (case xBadPaperil => k_is)
    (case xBadPaperic => k_is)
    (case xBadPaperik => k_is)
    (case xBadPaperrv => decide +kernel)
    (case xBadWordgC => k_is)
    (case xBadWordlk => k_is)
    (case xBadWordsa => k_is)
    (case xBadWordex => k_is)
    (case xBadWordty => k_is)
    (case xBadWordkC => k_is)
    (case xBadWordiC => k_is)
    (case xBadWordtI => k_is)
    (case xBadWordga => k_is)
    (case xBadWordgg => k_is)
    (case xBadWordex2 => k_is)
    (case xBadWordhd => k_is)
    (case xBadWordnw => k_is)
    (case xBadWordex3 => k_is)
    (case xBadWordcl => k_is)
    (case xBadWordty2 => k_is)
    (case xBadWordsub => k_is)
    (case xBadWordil => k_is)
    (case xBadWordic => k_is)
    (case xBadWordik => k_is)
    (case xBadWordrv => decide +kernel)
    (case thA => k_is)
    (case thL => k_is)
    (case thK => k_keys)
    (case thW => decide)
    (case th1 => k_is)
    (case th2 => k_is)
    (case th3 => k_is)
    (case th4 => k_is)
    (case th5 => k_is)
    (case th6 => k_is)
    (case th7 => k_is)
    (case mkA => k_is)
    (case mkL => k_is)
    (case mkK => k_keys)
    (case mk1 => k_is)
    (case mk2 => k_is)
    (case mk3 => k_is)
    (case mk4 => k_is)
    (case mk5 => k_is)
    (case mk6 => k_is)
    (case mk7 => k_is)
    (case my1 => k_is)
    (case my2 => k_is)
    (case my3 => k_is)
    (case my4 => k_is)
    (case my5 => k_is)
    (case my6 => k_is)
    (case my7 => k_is)
    (case nA => k_is)
    (case mi0 => k_is)
    (case mi1 => k_is)
