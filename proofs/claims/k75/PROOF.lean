import PyProof.Rows.All
import Wide.All
import OpenK.AllK
import Wide.FinOn
import HandS.ForMost
import HandS.IsInst
import HandS.Zip
import HandS.More
import KE.LtData
import HandS.DictComp
import KE.SortKeyHeap
import HandS.SortKw
import HandS.OwnEq
import HandS.Conv
import HandS.TupAny
import PySem.Challenge.RW_spoorfold_k75_texts_that_are_no_pages
import KE.OsRunLaw
import HandS.Head2
import KE.KNestM
import HandS.WrittenGet
import HandS.ExcInit
import HandS.ExcField
import HandS.WordsExc
import HandS.ExcOwn
import HandS.FStr
import HandS.RaiseMore
import KE.DataFind
import KE.KTryMore
import HandS.TryOnly
import HandS.Star
import HandS.IterVal
import PyProof.StrLawsRepr
import HandS.HotCalls
import HandS.ExcIs
import KE.KExcInit
import KE.KExcIs
import KE.KExcLine
import HandS.ListItems
import KE.KItemsList
import KE.SortData
import PyProof.Transfer
import KE.KEqDict
import PyProof.P3Eq
import KE.KDictKeyed
import KE.KDictDisplayH
import HandS.Dict
import HandS.TupLen
import HandS.Conv
import HandS.Iter
import KE.KDictWalk
import HandS.Small
import HandS.Lambda
import KE.IntTextText
import KE.KUnpackStar
import HandS.Style
import HandS.EndTab
set_option Elab.async false
set_option linter.all false
set_option maxRecDepth 100000
set_option maxHeartbeats 4000000
section
open PySem PySem.W PyProof.Rows
/-! the head: what the top leaves (a list of its objects by their places) is written out by the tactic's own auxiliary definitions; the lemma here holds of nothing but False and serves that alone -/
namespace Sf
section
local macro_rules | `(tactic| kernel_rfl) => `(tactic| exact False.elim (by assumption))
local macro_rules | `(tactic| o_headL $H) => `(tactic| exact (let _h := $H; False.elim (by assumption)))
set_option maxRecDepth 100000 in
set_option maxHeartbeats 0 in
theorem hx (h : False) : (OpenLaw.row PySem.Challenge.rw_spoorfold_k75_texts_that_are_no_pages).Holds := by
  w_on; k_headL
end
end Sf
end
namespace Sf
open PySem PySem.W PySem.Calls PyProof.Rows
abbrev rwR : OpenRow := OpenLaw.row PySem.Challenge.rw_spoorfold_k75_texts_that_are_no_pages
def p0 : Params where
  strHash := fun _ => 0
  shareClass := fun _ => 0
  mergeTok := id
  idOf := fun _ => 0
  idOfShared := fun _ _ => 0
  followText := fun _ => true
  idOfImm := fun _ => 0
def looseK0 : List PySem.Str := ["_wall", "SpoorError", "BadWord", "BadName", "BadWorld", "BadPaper", "BadRounds", "BadPage", "TooLong", "Taken", "Full", "Unproved", "Lacking", "NoPlace", "NoName", "NoLine", "is_upto", "MOST_LINES", "MOST_NAMES", "MOST_PAPERS"]
def looseK1 : List PySem.Str := ["LAST_NUMBER", "MOST_SIDE", "NAME_LETTERS", "MOST_NAME", "is_name", "need_name", "Stand", "without", "NAMED", "Trail", "claims_of", "renamed", "renamed_trails", "LETTERS", "MOST_WORD", "SIGNS", "is_word", "need_word", "need_words", "need_pairs"]
def looseK2 : List PySem.Str := ["turned", "Fold", "MOST_PLACES", "World", "leads_by", "is_move", "renumbered", "world_of", "world_by", "ROUNDS", "MOST_ROUNDS", "MOST_LAID", "Web", "need_rounds", "fold_of", "shape_of", "is_closed", "rounded", "ways_due", "is_laid"]
def looseK3 : List PySem.Str := ["alike", "web_of", "compared", "like", "strike", "put", "forget", "shelve", "unshelve", "DEEDS", "done", "by_lines", "renamed_deeds", "Hall", "hall_of", "FIGURES", "MOST_FIGURES", "NO_SIGNS", "is_number", "shown"]
def looseK4 : List PySem.Str := ["meant", "page", "read_page", "is_added", "is_coming", "is_line", "is_text", "is_written_word", "is_side", "last", "shows", "Book", "by_start", "by_fact", "by_turn", "by_on", "by_home", "by_like", "by_part", "MAKERS"]
def looseK5 : List PySem.Str := ["THINGS", "claims_made", "_law_good_word", "_law_copy", "_law_good_name", "_law_bare", "_law_pull", "_law_pick", "_law_begin", "_law_pairs_of", "_law_verdict", "_law_deed_word", "_law_tried", "_law_do", "_law_same", "_law_value", "_law_paper_good", "_law_entered", "_law_played", "_law_sign"]
def looseK6 : List PySem.Str := ["_law_flip", "_law_word", "_law_bad", "_law_back", "_law_round_ways", "_law_name", "_law_some_name", "_law_deed", "_law_light_deed", "_law_number_of", "_law_word_of", "_law_row_in", "_law_first_wrong", "_law_bent", "_law_told"]
def looseK : List PySem.Str := looseK0 ++ looseK1 ++ looseK2 ++ looseK3 ++ looseK4 ++ looseK5 ++ looseK6
noncomputable def asK : List Addr := (Sf.hx.heap_1 p0).map (·.1)
theorem asK_eq : ∀ P, asK = (Sf.hx.heap_1 P).map (·.1) := fun P => by kernel_rfl
def tabAt (q : PySem.Str) (K : Frag) : List Addr := K.filterMap fun p => match p.2 with
  | ⟨_, _, .fields vs, _⟩ => (match (vs[1]? : Option Value), (vs[11]? : Option Value) with | some (.str n _), some (.ref P) => if n = q then some P else none | _, _ => none)
  | _ => none
noncomputable def tsK : List Addr := [("_law_played" : PySem.Str)].flatMap fun q => tabAt q (Sf.hx.heap_1 p0)
abbrev qvK : Program := view rwR.prog [151]
noncomputable abbrev hkK : Hook := kmHook Sf.hx.heap_1 asK asK_eq tsK
noncomputable def obK (s : SharedT) : hkK.α := (asK.map (HandSHeadRun.getT s), tsK.map (HandSHeadRun.getT s))
theorem obK_eq (s : SharedT) : obK s = hkK.obs s.abs := Prod.ext (List.map_congr_left fun a _ => HandSHeadRun.getT_eq s a) (List.map_congr_left fun a _ => HandSHeadRun.getT_eq s a)
theorem pairR {S α β : Type} {o : Option S} {f : S → α} {g : S → β} {a : α} {b : β} (h1 : o.map f = some a) (h2 : o.map g = some b) : o.map (fun s => (f s, g s)) = some (a, b) := by
  cases o with
  | none => cases h1
  | some s =>
    cases h1
    cases h2
    rfl
open HandSHeadRun in
theorem runAt1 (w : World) (os : OsState) : (endF (stepQ (denQ tabQ) rwR.prog (w.withFollow "special-get-raises" true)) 11561 rwR.prog (w.withFollow "special-get-raises" true) os).map (fun s => looksF rwR.prog (boot_heap (w.withFollow "special-get-raises" true).params) s.abs) = some true := by kernel_rfl
open HandSHeadRun in
theorem runAt2 (w : World) (os : OsState) : (endF (stepQ (denQ tabQ) rwR.prog (w.withFollow "special-get-raises" true)) 11561 rwR.prog (w.withFollow "special-get-raises" true) os).map (fun s => (seenQ qvK looseK (importedModules rwR.prog.main.body) (fun s => xlAt qvK [] s && recOk rwR.toRowW.records s) s.abs, obK s)) = some (openGood qvK looseK, ((Sf.hx.heap_1 (w.withFollow "special-get-raises" true).params).map fun x => some x.2, tsK.map fun _ => some (tabObj #[]))) := by kernel_rfl
open HandSHeadRun in
theorem runAt (w : World) (os : OsState) : (endF (stepQ (denQ tabQ) rwR.prog (w.withFollow "special-get-raises" true)) 11561 rwR.prog (w.withFollow "special-get-raises" true) os).map (fun s => (looksF rwR.prog (boot_heap (w.withFollow "special-get-raises" true).params) s.abs, seenQ qvK looseK (importedModules rwR.prog.main.body) (fun s => xlAt qvK [] s && recOk rwR.toRowW.records s) s.abs, obK s)) = some (true, openGood qvK looseK, ((Sf.hx.heap_1 (w.withFollow "special-get-raises" true).params).map fun x => some x.2, tsK.map fun _ => some (tabObj #[]))) := pairR (runAt1 w os) (runAt2 w os)
open HandSHeadRun in
theorem runAf1 (w : World) (os : OsState) : (endF (stepQ (denQ tabQ) rwR.prog (w.withFollow "special-get-raises" false)) 11561 rwR.prog (w.withFollow "special-get-raises" false) os).map (fun s => looksF rwR.prog (boot_heap (w.withFollow "special-get-raises" false).params) s.abs) = some true := by kernel_rfl
open HandSHeadRun in
theorem runAf2 (w : World) (os : OsState) : (endF (stepQ (denQ tabQ) rwR.prog (w.withFollow "special-get-raises" false)) 11561 rwR.prog (w.withFollow "special-get-raises" false) os).map (fun s => (seenQ qvK looseK (importedModules rwR.prog.main.body) (fun s => xlAt qvK [] s && recOk rwR.toRowW.records s) s.abs, obK s)) = some (openGood qvK looseK, ((Sf.hx.heap_1 (w.withFollow "special-get-raises" false).params).map fun x => some x.2, tsK.map fun _ => some (tabObj #[]))) := by kernel_rfl
open HandSHeadRun in
theorem runAf (w : World) (os : OsState) : (endF (stepQ (denQ tabQ) rwR.prog (w.withFollow "special-get-raises" false)) 11561 rwR.prog (w.withFollow "special-get-raises" false) os).map (fun s => (looksF rwR.prog (boot_heap (w.withFollow "special-get-raises" false).params) s.abs, seenQ qvK looseK (importedModules rwR.prog.main.body) (fun s => xlAt qvK [] s && recOk rwR.toRowW.records s) s.abs, obK s)) = some (true, openGood qvK looseK, ((Sf.hx.heap_1 (w.withFollow "special-get-raises" false).params).map fun x => some x.2, tsK.map fun _ => some (tabObj #[]))) := pairR (runAf1 w os) (runAf2 w os)
open HandSHeadRun in
theorem runA (w : World) (os : OsState) : (endF (stepQ (denQ tabQ) rwR.prog w) 11561 rwR.prog w os).map (fun s => (looksF rwR.prog (boot_heap w.params) s.abs, seenQ qvK looseK (importedModules rwR.prog.main.body) (fun s => xlAt qvK [] s && recOk rwR.toRowW.records s) s.abs, obK s)) = some (true, openGood qvK looseK, ((Sf.hx.heap_1 w.params).map fun x => some x.2, tsK.map fun _ => some (tabObj #[]))) := by
  have h : (endF (stepQ (denQ tabQ) rwR.prog (w.withFollow "special-get-raises" (w.params.followText "special-get-raises"))) 11561 rwR.prog (w.withFollow "special-get-raises" (w.params.followText "special-get-raises")) os).map (fun s => (looksF rwR.prog (boot_heap (w.withFollow "special-get-raises" (w.params.followText "special-get-raises")).params) s.abs, seenQ qvK looseK (importedModules rwR.prog.main.body) (fun s => xlAt qvK [] s && recOk rwR.toRowW.records s) s.abs, obK s)) = some (true, openGood qvK looseK, ((Sf.hx.heap_1 (w.withFollow "special-get-raises" (w.params.followText "special-get-raises")).params).map fun x => some x.2, tsK.map fun _ => some (tabObj #[]))) := by
    cases w.params.followText "special-get-raises" with
    | true => exact runAt w os
    | false => exact runAf w os
  rw [World.withFollow_self] at h
  exact h
theorem runK (w : World) : HandSHeadRun.RunEq rwR qvK hkK obK 11561 looseK w := fun os => runA w os
end Sf
theorem Sf.fill0 : PySem.Challenge.rw_spoorfold_k75_texts_that_are_no_pages = PySem.Challenge.rw_spoorfold_k75_texts_that_are_no_pages → Sf.hx.heap_1 = Sf.hx.heap_1 → True := by
  k_fill
  intros
  trivial
theorem Sf.e1 (g : PySem.Challenge.rw_spoorfold_k75_texts_that_are_no_pages.row.wellSaid = true → PySem.Challenge.rw_spoorfold_k75_texts_that_are_no_pages.row.Holds) : PySem.Challenge.rw_spoorfold_k75_texts_that_are_no_pages.Holds := by
  w_on; o_law
  exact g (by assumption)
section
open PySem PySem.W PySem.Calls PyProof.Rows HandSHeadRun
set_option maxRecDepth 100000
set_option maxHeartbeats 0
theorem Sf.okA : chainsOk Sf.qvK = true := by decide +kernel
theorem Sf.okB : opensWell (OpenLaw.row PySem.Challenge.rw_spoorfold_k75_texts_that_are_no_pages).prog = true := by decide +kernel
theorem Sf.okC : frees (OpenLaw.row PySem.Challenge.rw_spoorfold_k75_texts_that_are_no_pages).toRowW = true := by decide +kernel
theorem Sf.okD : (OpenLaw.row PySem.Challenge.rw_spoorfold_k75_texts_that_are_no_pages).within.isEmpty = true := by decide +kernel
theorem Sf.okE : (OpenLaw.row PySem.Challenge.rw_spoorfold_k75_texts_that_are_no_pages).prog.bare := ⟨rfl, rfl, rfl, rfl, rfl, by decide +kernel⟩
theorem Sf.okG : opening (OpenLaw.row PySem.Challenge.rw_spoorfold_k75_texts_that_are_no_pages).prog = plainProg (OpenLaw.row PySem.Challenge.rw_spoorfold_k75_texts_that_are_no_pages).prog.main.scope.names := by kernel_rfl
theorem Sf.okH : defOf Sf.qvK (OpenLaw.row PySem.Challenge.rw_spoorfold_k75_texts_that_are_no_pages).name = some (HandSHeadRun.topDef (OpenLaw.row PySem.Challenge.rw_spoorfold_k75_texts_that_are_no_pages).prog 151, []) := by kernel_rfl
theorem Sf.okI : ∀ s, fenceModules? (OpenLaw.row PySem.Challenge.rw_spoorfold_k75_texts_that_are_no_pages).prog s = some s := fun s => by kernel_rfl
theorem Sf.okW : (OpenLaw.row PySem.Challenge.rw_spoorfold_k75_texts_that_are_no_pages).toRowW.promised := by w_witness2
end
namespace Sf
open PySem PySem.Spec PyProof.Rows L2
/-! the text of the law by places -/
def topS (i : Nat) : Stmt := PySem.Challenge.pw_spoorfold_k75_texts_that_are_no_pages.main.body.getD i (.Pass ⟨0, 0, 0, 0⟩)
abbrev s_SpoorError___init__ : Stmt := inClass (topS 2) 0
abbrev s_BadWord___init__ : Stmt := inClass (topS 3) 0
abbrev s_BadName___init__ : Stmt := inClass (topS 4) 0
abbrev s_BadPage___init__ : Stmt := inClass (topS 8) 0
abbrev s_TooLong___init__ : Stmt := inClass (topS 9) 0
abbrev s_Full___init__ : Stmt := inClass (topS 11) 0
abbrev s_Lacking___init__ : Stmt := inClass (topS 13) 0
abbrev s_NoName___init__ : Stmt := inClass (topS 15) 0
abbrev s_NoLine___init__ : Stmt := inClass (topS 16) 0
abbrev s_is_upto : Stmt := topS 18
abbrev s_is_name : Stmt := topS 27
abbrev s_need_name : Stmt := topS 28
abbrev s_Stand___init__ : Stmt := inClass (topS 29) 0
abbrev s_Stand_twin : Stmt := inClass (topS 29) 1
abbrev s_Stand_text_of : Stmt := inClass (topS 29) 2
abbrev s_Stand_paper_of : Stmt := inClass (topS 29) 3
abbrev s_Stand_add_line : Stmt := inClass (topS 29) 5
abbrev s_Stand_add_text : Stmt := inClass (topS 29) 6
abbrev s_without : Stmt := topS 30
abbrev s_is_word : Stmt := topS 41
abbrev s_need_word : Stmt := topS 42
abbrev s_need_words : Stmt := topS 43
abbrev s_like : Stmt := topS 73
abbrev s_strike : Stmt := topS 74
abbrev s_put : Stmt := topS 75
abbrev s_forget : Stmt := topS 76
abbrev s_unshelve : Stmt := topS 78
abbrev s_done : Stmt := topS 80
abbrev s_Hall___init__ : Stmt := inClass (topS 85) 0
abbrev s_Hall_like : Stmt := inClass (topS 85) 1
abbrev s_Hall_strike : Stmt := inClass (topS 85) 2
abbrev s_Hall_put : Stmt := inClass (topS 85) 3
abbrev s_Hall_forget : Stmt := inClass (topS 85) 4
abbrev s_Hall_unshelve : Stmt := inClass (topS 85) 6
abbrev s_Hall_lines : Stmt := inClass (topS 85) 14
abbrev s_Hall_coming : Stmt := inClass (topS 85) 15
abbrev s_Hall_words : Stmt := inClass (topS 85) 16
abbrev s_Hall_shelf : Stmt := inClass (topS 85) 18
abbrev s_Hall___len__ : Stmt := inClass (topS 85) 24
abbrev s_Hall___repr__ : Stmt := inClass (topS 85) 25
abbrev s_Hall_did : Stmt := inClass (topS 85) 27
abbrev s_Hall_settle : Stmt := inClass (topS 85) 28
abbrev s_Hall_stand_by : Stmt := inClass (topS 85) 29
abbrev s_hall_of : Stmt := topS 86
abbrev s_is_number : Stmt := topS 91
abbrev s_shown : Stmt := topS 92
abbrev s_meant : Stmt := topS 93
abbrev s_page : Stmt := topS 95
abbrev s_read_page : Stmt := topS 96
abbrev s_is_added : Stmt := topS 97
abbrev s_is_coming : Stmt := topS 98
abbrev s_is_line : Stmt := topS 99
abbrev s_is_text : Stmt := topS 100
abbrev s_is_written_word : Stmt := topS 101
abbrev s_is_side : Stmt := topS 102
abbrev s_last : Stmt := topS 103
abbrev s__law_good_word : Stmt := topS 118
abbrev s__law_copy : Stmt := topS 119
abbrev s__law_good_name : Stmt := topS 120
abbrev s__law_bare : Stmt := topS 121
abbrev s__law_pull : Stmt := topS 122
abbrev s__law_pick : Stmt := topS 123
abbrev s__law_begin : Stmt := topS 124
abbrev s__law_deed_word : Stmt := topS 127
abbrev s__law_tried : Stmt := topS 128
abbrev s__law_do : Stmt := topS 129
abbrev s__law_same : Stmt := topS 130
abbrev s__law_value : Stmt := topS 131
abbrev s__law_entered : Stmt := topS 133
abbrev s__law_played : Stmt := topS 134
abbrev s__law_sign : Stmt := topS 135
abbrev s__law_flip : Stmt := topS 136
abbrev s__law_word : Stmt := topS 137
abbrev s__law_bad : Stmt := topS 138
abbrev s__law_back : Stmt := topS 139
abbrev s__law_round_ways : Stmt := topS 140
abbrev s__law_name : Stmt := topS 141
abbrev s__law_some_name : Stmt := topS 142
abbrev s__law_deed : Stmt := topS 143
abbrev s__law_light_deed : Stmt := topS 144
abbrev s__law_number_of : Stmt := topS 145
abbrev s__law_word_of : Stmt := topS 146
abbrev s__law_row_in : Stmt := topS 147
abbrev s__law_first_wrong : Stmt := topS 148
abbrev s__law_bent : Stmt := topS 149
abbrev s__law_told : Stmt := topS 150
abbrev s_law : Stmt := topS 151
end Sf
namespace Sf
open PySem PySem.Spec PyProof.Rows L2 TL
/-! ### helpers of heaps and blocks -/
theorem same_upd {H : Hp} {p : Addr} {o : HO} (h : H p = none) : Same H (upd H p o) := fun b x e => by
  rw [upd_ne (ne_of_none e h)]
  exact e
/-- all but what stands at b stands -/
def Fx (b : Addr) (H H' : Hp) : Prop := ∀ a o, H a = some o → a ≠ b → H' a = some o
theorem Fx.refl {b : Addr} {H : Hp} : Fx b H H := fun _ _ h _ => h
theorem Fx.of {b : Addr} {H H' : Hp} (h : Same H H') : Fx b H H' := fun a o e _ => h a o e
theorem Fx.trans {b : Addr} {H H1 H2 : Hp} (h : Fx b H H1) (k : Fx b H1 H2) : Fx b H H2 := fun a o e n => k a o (h a o e n) n
theorem Fx.same {b : Addr} {H H1 H2 : Hp} (h : Fx b H H1) (k : Same H1 H2) : Fx b H H2 := h.trans (.of k)
theorem Fx.upd {b : Addr} {H H1 : Hp} {o : HO} (h : Fx b H H1) : Fx b H (upd H1 b o) := fun a u e n => by
  rw [upd_ne n]
  exact h a u e n
theorem Fx.new {b p : Addr} {H H1 : Hp} {o : HO} (h : Fx b H H1) (n : H1 p = none) : Fx b H (L2.upd H1 p o) := h.same (same_upd n)
theorem Fx.seq {b a : Addr} {H H1 : Hp} {xs : List V} {K : PySem.W.Frag} (h : Fx b H H1) (n : a ≠ b) (s : SqL K H a xs) : SqL K H1 a xs := by
  rcases s with (s | ⟨o, s⟩) | s
  · exact .inl (.inl (h _ _ s n))
  · exact .inl (.inr ⟨o, h _ _ s n⟩)
  · exact .inr s
theorem seq_by {X : Cx} {st : Stmt} {rest : List Stmt} {D : Ends} {σ : L2.St} {H : Hp} (J : L2.St → Hp → Prop) (hr : ∃ u, PSs X rest u ∧ ∀ σ' H', J σ' H' → u D σ' H')
    (hs : ∀ u : TS, (∀ σ' H', J σ' H' → u D σ' H') → ∃ t, PS X st t ∧ t { D with nx := u D } σ H) : ∃ t, PSs X (st :: rest) t ∧ t D σ H := by
  obtain ⟨u, hu, k⟩ := hr
  obtain ⟨t, ht, h⟩ := hs u k
  exact ⟨tSeq t u, pss_cons ht hu, h⟩
theorem line_of {n : Nat} (h : n ≤ 100000) : n ≤ sizeLine := Nat.le_trans h (by decide)
theorem lineLt_of {n : Nat} (h : n ≤ 100000) : n < sizeLine := Nat.lt_of_le_of_lt h (by decide)
/-! ### the bag of the laws: its list at l, three numbers -/
structure BagL (H : Hp) (b l : Addr) (ns : List Int) (k z r : Int) : Prop where
  hb : H b = some (.lst [.ref l, .int k, .int z, .int r])
  hl : H l = some (.lst (ns.map V.int))
  k0 : 0 ≤ k
  z0 : 0 ≤ z
  r0 : 0 ≤ r
  r1 : r < 2147483647
def Bag (H : Hp) (b l : Addr) : Prop := ∃ (ns : List Int) (k z r : Int), BagL H b l ns k z r
theorem bag_ne {l : Addr} {ns : List Int} {vs : List V} : HO.lst (.ref l :: vs) ≠ HO.lst (ns.map V.int) := fun e => by
  cases ns with
  | nil => cases e
  | cons x r => cases e
theorem BagL.ne {H : Hp} {b l : Addr} {ns : List Int} {k z r : Int} (h : BagL H b l ns k z r) : l ≠ b := fun e => by
  have h1 := h.hb
  have h2 := h.hl
  rw [e, h1] at h2
  exact bag_ne (Option.some.inj h2)
theorem BagL.set {H : Hp} {b l : Addr} {ns : List Int} {k z r k' z' r' : Int} (h : BagL H b l ns k z r) (hk : 0 ≤ k') (hz : 0 ≤ z') (h0 : 0 ≤ r') (h1 : r' < 2147483647) :
    BagL (upd H b (.lst [.ref l, .int k', .int z', .int r'])) b l ns k' z' r' :=
  ⟨upd_same, by rw [upd_ne h.ne]; exact h.hl, hk, hz, h0, h1⟩
theorem Bag.same {H H' : Hp} {b l : Addr} (s : Same H H') : Bag H b l → Bag H' b l
  | ⟨ns, k, z, r, h⟩ => ⟨ns, k, z, r, s _ _ h.hb, s _ _ h.hl, h.k0, h.z0, h.r0, h.r1⟩
theorem Bag.new {H : Hp} {b l p : Addr} {o : HO} (h : Bag H b l) (n : H p = none) : Bag (upd H p o) b l := h.same (same_upd n)
theorem Bag.ne {H : Hp} {b l p : Addr} (h : Bag H b l) (n : H p = none) : p ≠ b := fun e => by
  obtain ⟨ns, k, z, r, h⟩ := h
  rw [e, h.hb] at n
  cases n
theorem Bag.neL {H : Hp} {b l p : Addr} (h : Bag H b l) (n : H p = none) : p ≠ l := fun e => by
  obtain ⟨ns, k, z, r, h⟩ := h
  rw [e, h.hl] at n
  cases n
theorem int_at {ns : List Int} {k : Int} (h0 : 0 ≤ k) (h1 : k < ((ns.map V.int).length : Nat)) : ∃ v : Int, atI (ns.map V.int) k = some (.int v) := by
  rw [List.length_map] at h1
  refine ⟨ns[k.toNat]'(by omega), at_of (j := k.toNat) (by omega) ?_⟩
  rw [List.getElem?_map, List.getElem?_eq_getElem (by omega)]
  rfl
end Sf
namespace Sf
open PySem PySem.Spec PyProof.Rows L2 TL
/-! ### what stands at the top: a def of the text; a def that keeps a promise; a constant; built-in names -/
def FnAt (K : PySem.W.Frag) (mg : Str → Option Value) (x : Str) (st : Stmt) (ps : List Str) : Prop := ∃ (f : Addr) (fd : FuncData), mg x = some (.ref f) ∧ Fun K x x st f fd ∧ Binds K fd ps []
def Has (P : Program) (w : World) (K : PySem.W.Frag) (mg : Str → Option Value) (base : Heap) (k : Nat) (x : Str) (ps : List Str) (sp : Sp) : Prop :=
  ∃ (f : Addr) (fd : FuncData), mg x = some (.ref f) ∧ PySem.W.keepIn K (.ref f) = true ∧ Binds K fd ps [] ∧ FnOk P w K mg base CX0 k f fd ps sp
theorem FnAt.has {P : Program} {w : World} {K : PySem.W.Frag} {mg : Str → Option Value} {base : Heap} {k : Nat} {x : Str} {st : Stmt} {ps : List Str} {sp : Sp} (h : FnAt K mg x st ps)
    (ok : ∀ {f : Addr} {fd : FuncData}, Fun K x x st f fd → FnOk P w K mg base CX0 k f fd ps sp) : Has P w K mg base k x ps sp := by
  obtain ⟨f, fd, g, F, b⟩ := h
  exact ⟨f, fd, g, F.kp, b, ok F⟩
theorem fnAt_mk {K : PySem.W.Frag} {h : Heap} {mg : Str → Option Value} {x : Str} {st : Stmt} {ps : List Str} {f : Addr} {oc : Value} {od an : Option Addr} {osl : Array (Option Value)} {kV doc pm cdv ct : Value} (X : K.In h) (G : h.Ns mainGlobals mg)
    (a : PySem.W.nsIn K mainGlobals x = some (some (.ref f))) (l : K.lookup f = some ⟨oc, od, .func (PySem.W.fnOf x x (defArgs st) (defBody st) (defScope st) .none kV doc pm an cdv ct), osl⟩)
    (c : PySem.W.codeIn K cdv x = true) (k : PySem.W.keepIn K (.ref f) = true)
    (b : ∀ (kV doc pm : Value) (an : Option Addr) (cdv ct : Value) (us : List Value), us.length = ps.length → bindArgs (PySem.W.fnOf x x (defArgs st) (defBody st) (defScope st) .none kV doc pm an cdv ct) ⟨us, []⟩ = pure (ps.zip us)) : FnAt K mg x st ps :=
  ⟨f, _, PySem.W.mg_of X G a, fun_mk l c k, (fun_mk l c k).binds b⟩
structure Blt (mg : Str → Option Value) : Prop where
  len : mg "len" = none
  range : mg "range" = none
  isinstance : mg "isinstance" = none
  list : mg "list" = none
  tuple : mg "tuple" = none
  bool : mg "bool" = none
  int : mg "int" = none
  str : mg "str" = none
  all : mg "all" = none
  zip : mg "zip" = none
  min : mg "min" = none
  sorted : mg "sorted" = none
theorem lc_gen {J : It} {n : Nat} {g : TG} {tt : TT} {te : TE} {vs : List Nat} {σ : L2.St} {H1 : Hp} {D : Addr} {Qd : Hp → Prop} (Pv : Nat → Hp → Prop) (h0 : Pv 0 (upd H1 D (.lst [])))
    (hgo : ∀ i H, i < n → Pv i H → J.go i H) (hst : ∀ H, Pv n H → J.stop n H)
    (hs : ∀ i x H H', i < n → Pv i H → J.yld i H x H' → g x (wipe σ vs) H' fun σ2 H2 => wipe σ2 vs = wipe σ vs ∧ tt σ2 H2 fun b H3 =>
      if b = true then te σ2 H3 fun y H4 => ∃ acc, H4 D = some (.lst acc) ∧ acc.length < sizeLine ∧ Pv (i + 1) (upd H4 D (.lst (acc ++ [y]))) else Pv (i + 1) H3) (hd : ∀ H, Pv n H → Qd H) :
    ∃ W : Nat → Nat → Hp → Prop, (∃ m, W 0 m (upd H1 D (.lst []))) ∧ ∀ i m H, W i m H →
      (J.stop i H ∧ Qd H) ∨ (J.go i H ∧ ∃ Nx : Hp → Prop, (∀ H', Nx H' → ∃ m', m' < m ∧ W (i + 1) m' H') ∧ ∀ x H', J.yld i H x H' → g x (wipe σ vs) H' fun σ2 H2 => wipe σ2 vs = wipe σ vs ∧ tt σ2 H2 fun b H3 =>
        if b = true then te σ2 H3 fun y H4 => ∃ acc, H4 D = some (.lst acc) ∧ acc.length < sizeLine ∧ Nx (upd H4 D (.lst (acc ++ [y]))) else Nx H3) := by
  refine ⟨fun i m H => m = n - i ∧ i ≤ n ∧ Pv i H, ⟨n, rfl, Nat.zero_le _, h0⟩, ?_⟩
  rintro i m H ⟨rfl, hi, p⟩
  by_cases hlt : i < n
  · exact .inr ⟨hgo i H hlt p, Pv (i + 1), fun H' p' => ⟨n - (i + 1), by omega, rfl, hlt, p'⟩, fun x H' y => hs i x H H' hlt p y⟩
  · have e : i = n := by omega
    subst e
    exact .inl ⟨hst H p, hd H p⟩
theorem for_gen {J : It} {n : Nat} {g : TG} {tb : TS} {D : Ends} {σ : L2.St} {H : Hp} (Pv : Nat → L2.St → Hp → Prop) (h0 : Pv 0 σ H) (hgo : ∀ i σ H, i < n → Pv i σ H → J.go i H) (hst : ∀ σ H, Pv n σ H → J.stop n H)
    (hs : ∀ i x σ H H', i < n → Pv i σ H → J.yld i H x H' → g x σ H' fun σ2 H2 => tb { D with nx := Pv (i + 1), ct := Pv (i + 1), bk := D.nx } σ2 H2) (hd : ∀ σ H, Pv n σ H → D.nx σ H) :
    ∃ W : Nat → Nat → L2.St → Hp → Prop, (∃ m, W 0 m σ H) ∧ ∀ i m σ H, W i m σ H →
      (J.stop i H ∧ D.nx σ H) ∨ (J.go i H ∧ ∃ N : L2.St → Hp → Prop, (∀ σ' H', N σ' H' → ∃ m', m' < m ∧ W (i + 1) m' σ' H') ∧ ∀ x H', J.yld i H x H' → g x σ H' fun σ2 H2 => tb { D with nx := N, ct := N, bk := D.nx } σ2 H2) := by
  refine ⟨fun i m σ H => m = n - i ∧ i ≤ n ∧ Pv i σ H, ⟨n, rfl, Nat.zero_le _, h0⟩, ?_⟩
  rintro i m σ H ⟨rfl, hi, p⟩
  by_cases hlt : i < n
  · exact .inr ⟨hgo i σ H hlt p, Pv (i + 1), fun σ' H' p' => ⟨n - (i + 1), by omega, rfl, hlt, p'⟩, fun x H' y => hs i x σ H H' hlt p y⟩
  · have e : i = n := by omega
    subst e
    exact .inl ⟨hst σ H p, hd σ H p⟩
theorem yes_if {σ : L2.St} {H : Hp} {A B : Hp → Prop} (h : A H) : tYes σ H (fun b H3 => if b = true then A H3 else B H3) := by
  show if true = true then A H else B H
  exact iteT h
/-! ### signs and words -/
def sgn (c : Nat) : Bool := (decide (97 ≤ c) && decide (c ≤ 104)) || (decide (65 ≤ c) && decide (c ≤ 72))
theorem sgn_iff {c : Nat} : sgn c = true ↔ (97 ≤ c ∧ c ≤ 104) ∨ (65 ≤ c ∧ c ≤ 72) := by
  unfold sgn
  simp only [Bool.or_eq_true, Bool.and_eq_true, decide_eq_true_eq]
def flipC (c : Nat) : Nat := if 97 ≤ c then c - 32 else c + 32
def Wd (x : Str) : Prop := ∀ c ∈ tl x, sgn c = true
abbrev one (c : Nat) : Str := ⟨#[c]⟩
theorem tl_one (c : Nat) : tl (one c) = [c] := rfl
theorem len_one (c : Nat) : (one c).length = 1 := rfl
theorem len_app (x y : Str) : (x ++ y).length = x.length + y.length := by
  rw [len_tl, len_tl, len_tl, tl_append, List.length_append]
theorem Wd.app {x y : Str} (hx : Wd x) (hy : Wd y) : Wd (x ++ y) := fun c hc => by
  rw [tl_append, List.mem_append] at hc
  exact hc.elim (hx c) (hy c)
theorem wd_one {c : Nat} (h : sgn c = true) : Wd (one c) := fun d hd => by
  rw [tl_one, List.mem_singleton] at hd
  rw [hd]
  exact h
theorem tl_small : (Str.ofString "abcdefgh").cps.toList = [97, 98, 99, 100, 101, 102, 103, 104] := by decide +kernel
theorem tl_great : (Str.ofString "ABCDEFGH").cps.toList = [65, 66, 67, 68, 69, 70, 71, 72] := by decide +kernel
theorem tl_signs : (Str.ofString "aAbBcCdDeEfFgGhH").cps.toList = [97, 65, 98, 66, 99, 67, 100, 68, 101, 69, 102, 70, 103, 71, 104, 72] := by decide +kernel
theorem in_small {c : Nat} : (c ∈ (Str.ofString "abcdefgh").cps.toList) ↔ (97 ≤ c ∧ c ≤ 104) := by
  rw [tl_small]
  simp only [List.mem_cons, List.not_mem_nil, or_false]
  omega
theorem in_signs {c : Nat} : (c ∈ (Str.ofString "aAbBcCdDeEfFgGhH").cps.toList) ↔ sgn c = true := by
  rw [tl_signs, sgn_iff]
  simp only [List.mem_cons, List.not_mem_nil, or_false]
  omega
theorem upper_one {c : Nat} (h : 97 ≤ c ∧ c ≤ 104) : Txt.upper (one c) = one (c - 32) := by
  have : c = 97 ∨ c = 98 ∨ c = 99 ∨ c = 100 ∨ c = 101 ∨ c = 102 ∨ c = 103 ∨ c = 104 := by omega
  rcases this with rfl | rfl | rfl | rfl | rfl | rfl | rfl | rfl <;> decide +kernel
theorem lower_one {c : Nat} (h : 65 ≤ c ∧ c ≤ 72) : Txt.lower (one c) = one (c + 32) := by
  have : c = 65 ∨ c = 66 ∨ c = 67 ∨ c = 68 ∨ c = 69 ∨ c = 70 ∨ c = 71 ∨ c = 72 := by omega
  rcases this with rfl | rfl | rfl | rfl | rfl | rfl | rfl | rfl <;> decide +kernel
theorem flip_sgn {c : Nat} (h : sgn c = true) : sgn (flipC c) = true := by
  rw [sgn_iff] at h ⊢
  unfold flipC
  split <;> omega
theorem at_small {e : Int} (h0 : 0 ≤ e) (h1 : e < 8) : atI (Str.ofString "abcdefgh").cps.toList e = some (97 + e.toNat) := by
  have : e = 0 ∨ e = 1 ∨ e = 2 ∨ e = 3 ∨ e = 4 ∨ e = 5 ∨ e = 6 ∨ e = 7 := by omega
  rw [tl_small]
  rcases this with rfl | rfl | rfl | rfl | rfl | rfl | rfl | rfl <;> rfl
theorem at_great {e : Int} (h0 : 0 ≤ e) (h1 : e < 8) : atI (Str.ofString "ABCDEFGH").cps.toList e = some (65 + e.toNat) := by
  have : e = 0 ∨ e = 1 ∨ e = 2 ∨ e = 3 ∨ e = 4 ∨ e = 5 ∨ e = 6 ∨ e = 7 := by omega
  rw [tl_great]
  rcases this with rfl | rfl | rfl | rfl | rfl | rfl | rfl | rfl <;> rfl
theorem at_end {x : List Nat} (h : x ≠ []) : ∃ c, atI x (-1) = some c ∧ c ∈ x := by
  refine ⟨x.getLast h, ?_, List.getLast_mem h⟩
  have e := atI_last x.dropLast (x.getLast h)
  rw [List.dropLast_concat_getLast h] at e
  exact e
theorem str_ne {x : Str} (h : ¬ V.str x = V.str "") : tl x ≠ [] := fun e => h (by
  have : x = "" := ext_tl (by rw [e]; decide +kernel)
  rw [this])
theorem wd_nil : Wd "" := fun c hc => by
  have e : tl "" = [] := by decide +kernel
  rw [e] at hc
  cases hc
/-! ### two values of the same data -/
def flat4 : V → Bool
  | .non => true
  | .bl _ => true
  | .int _ => true
  | .str _ => true
  | _ => false
def Eqv (H : Hp) : Nat → V → V → Prop
  | 0, x, y => flat4 x = true ∧ x = y
  | n + 1, x, y => (flat4 x = true ∧ x = y) ∨ ∃ (p q : Addr) (xs ys : List V), x = .ref p ∧ y = .ref q ∧ ((H p = some (.lst xs) ∧ H q = some (.lst ys)) ∨ (H p = some (.tup xs) ∧ H q = some (.tup ys))) ∧
      xs.length = ys.length ∧ xs.length ≤ 100000 ∧ ∀ (i : Nat) (x y : V), xs[i]? = some x → ys[i]? = some y → Eqv H n x y
theorem Eqv.same {H H' : Hp} (s : Same H H') : ∀ {n : Nat} {x y : V}, Eqv H n x y → Eqv H' n x y
  | 0, _, _, h => h
  | _ + 1, _, _, .inl h => .inl h
  | _ + 1, _, _, .inr ⟨p, q, xs, ys, ex, ey, hp, hl, hz, k⟩ => .inr ⟨p, q, xs, ys, ex, ey, hp.elim (fun h => .inl ⟨s _ _ h.1, s _ _ h.2⟩) (fun h => .inr ⟨s _ _ h.1, s _ _ h.2⟩), hl, hz, fun i x y hx hy => Eqv.same s (k i x y hx hy)⟩
theorem Eqv.flat {H : Hp} {n : Nat} {x : V} (h : flat4 x = true) : Eqv H n x x := by
  cases n with
  | zero => exact ⟨h, rfl⟩
  | succ n => exact .inl ⟨h, rfl⟩
theorem flat_kit {K : PySem.W.Frag} {H : Hp} {x : V} (h : flat4 x = true) : ∃ (T : String) (b1 b2 b3 : Bool), TyX K H x (.type T) ∧ kitB T "list" = some false ∧ kitB T "tuple" = some false ∧ kitB T "bool" = some b1 ∧ kitB T "int" = some b2 ∧ kitB T "str" = some b3 := by
  cases x with
  | non => exact ⟨"NoneType", false, false, false, .base .non, by decide +kernel, by decide +kernel, by decide +kernel, by decide +kernel, by decide +kernel⟩
  | bl b => exact ⟨"bool", true, true, false, .base (.bl b), by decide +kernel, by decide +kernel, by decide +kernel, by decide +kernel, by decide +kernel⟩
  | int b => exact ⟨"int", false, true, false, .base (.int b), by decide +kernel, by decide +kernel, by decide +kernel, by decide +kernel, by decide +kernel⟩
  | str b => exact ⟨"str", false, false, true, .base (.str b), by decide +kernel, by decide +kernel, by decide +kernel, by decide +kernel, by decide +kernel⟩
  | byt b => cases h
  | flt b => cases h
  | ref b => cases h
  | ty b => cases h
theorem TyX.same {K : PySem.W.Frag} {H H' : Hp} {x : V} {T : String} (s : Same H H') (f : flat4 x = true) (h : TyX K H x (.type T)) : TyX K H' x (.type T) := by
  cases x with
  | non => cases h with | base h => cases h with | non => exact .base .non
  | bl b => cases h with | base h => cases h with | bl => exact .base (.bl b)
  | int b => cases h with | base h => cases h with | int => exact .base (.int b)
  | str b => cases h with | base h => cases h with | str => exact .base (.str b)
  | byt b => cases f
  | flt b => cases f
  | ref b => cases f
  | ty b => cases f
theorem kit2 {K : PySem.W.Frag} {T : String} (h1 : kitB T "list" = some false) (h2 : kitB T "tuple" = some false) : PySem.W.kitAny K (.type T) [.type "list", .type "tuple"] = some false :=
  kitAny_cons (kit_ty h1) (fun _ => kitAny_cons (kit_ty h2) (fun _ => kitAny_nil) (fun q => nomatch q)) (fun q => nomatch q)
theorem scal_flat {x : V} (h : flat4 x = true) : scal x x = true := by
  cases x <;> first | rfl | cases h
theorem ne_bl (b : Bool) : (!decide (V.bl b = V.bl b)) = false := by simp
end Sf
namespace Sf
open PySem PySem.Spec PyProof.Rows L2 TL
/-! ### blocks by what holds ahead and behind -/
def Stp {ι : Type} (X : Cx) (st : Stmt) (pre post : ι → L2.St → Hp → Prop) : Prop := ∃ t, PS X st t ∧ ∀ (i : ι) (D : Ends) (σ : L2.St) (H : Hp), pre i σ H → (∀ σ' H', post i σ' H' → D.nx σ' H') → t D σ H
def Blk {ι : Type} (X : Cx) (sts : List Stmt) (pre post : ι → L2.St → Hp → Prop) : Prop := ∃ t, PSs X sts t ∧ ∀ (i : ι) (D : Ends) (σ : L2.St) (H : Hp), pre i σ H → (∀ σ' H', post i σ' H' → D.nx σ' H') → t D σ H
theorem Blk.cons {ι : Type} {X : Cx} {st : Stmt} {rest : List Stmt} {pre post : ι → L2.St → Hp → Prop} (mid : ι → L2.St → Hp → Prop) (a : Stp X st pre mid) (b : Blk X rest mid post) : Blk X (st :: rest) pre post := by
  obtain ⟨t, ht, h⟩ := a
  obtain ⟨u, hu, k⟩ := b
  exact ⟨tSeq t u, pss_cons ht hu, fun i D σ H hp hq => h i _ σ H hp fun σ' H' hm => k i D σ' H' hm hq⟩
theorem Blk.one {ι : Type} {X : Cx} {st : Stmt} {pre post : ι → L2.St → Hp → Prop} (a : Stp X st pre post) : Blk X [st] pre post := by
  obtain ⟨t, ht, h⟩ := a
  exact ⟨t, pss_one ht, h⟩
/-- the rest of a def's body -/
def Tl (X : Cx) (sts : List Stmt) (D : Ends) (J : L2.St → Hp → Prop) : Prop := ∃ u, PSs X sts u ∧ ∀ σ H, J σ H → u D σ H
theorem Tl.start {X : Cx} {sts : List Stmt} {D : Ends} {σ : L2.St} {H : Hp} (h : Tl X sts D (fun σ' H' => σ' = σ ∧ H' = H)) : ∃ t, PSs X sts t ∧ t D σ H := by
  obtain ⟨u, hu, k⟩ := h
  exact ⟨u, hu, k σ H ⟨rfl, rfl⟩⟩
theorem Tl.cons {X : Cx} {st : Stmt} {rest : List Stmt} {D : Ends} {J : L2.St → Hp → Prop} (mid : L2.St → Hp → Prop) (a : Stp (ι := Unit) X st (fun _ => J) (fun _ => mid)) (b : Tl X rest D mid) : Tl X (st :: rest) D J := by
  obtain ⟨t, ht, h⟩ := a
  obtain ⟨u, hu, k⟩ := b
  exact ⟨tSeq t u, pss_cons ht hu, fun σ H hj => h () _ σ H hj k⟩
end Sf
namespace Sf
open PySem PySem.Spec PyProof.Rows L2 TL
section
variable {P : Program} {w : World} {K : PySem.W.Frag} {mg : Str → Option Value} {base : Heap}
/-! ### _law_pull: some number below many -/
def spPull : Sp := fun vs H Q _ => ∃ (b l : Addr) (n : Int), vs = [.ref b, .int n] ∧ Bag H b l ∧ 0 < n ∧ n < 1073741824 ∧
  ∀ (d : Int) (H' : Hp), 0 ≤ d → d < n → Bag H' b l → Fx b H H' → Q (.int d) H'
theorem sc_pull : FnScope ["_law_bag", "_law_many", "_law_cell", "_law_digit"] ["_law_bag", "_law_many"] (defScope s__law_pull) := ⟨rfl, rfl, rfl, by decide +kernel, rfl, by decide +kernel, by decide +kernel⟩
theorem ok_pull {f : Addr} {fd : FuncData} {j : Nat} (F : Fun K "_law_pull" "_law_pull" s__law_pull f fd) (ml : mg "len" = none) : FnOk P w K mg base CX0 (j + 1) f fd ["_law_bag", "_law_many"] spPull := by
  refine F.ok sc_pull (fun vs H Q E h => ?_) (fun cdv A outer s H vs Q E hr h => ?_)
  · obtain ⟨b, l, n, rfl, _⟩ := h
    rfl
  · obtain ⟨b, l, n, rfl, ⟨ns, k, z, r, hB⟩, hn0, hn1, q⟩ := h
    refine seq_by (fun σ H1 => ∃ (y2 : Option V) (k z r : Int), σ = [some (.ref b), some (.int n), y2, none] ∧ BagL H1 b l ns k z r ∧ Fx b H H1) ?_ ?_
    · refine ⟨_, pss_cons (ps_if (pt_cmpR op_gt (pe_ix ix_list (pv 0) pe_int (fun _ _ => rfl)) pe_int (nomark _))
          (pss_cons (ps_set (i := 3) sc_pull.nd rfl (.inl rfl) (pe_op op_mod (pe_ix ix_list (pv 0) pe_int (fun _ _ => rfl)) (pv 1)))
          (pss_cons (ps_asg (pe_op op_fdiv (pe_ix ix_list (pv 0) pe_int (fun _ _ => rfl)) (pv 1)) (pg_sub (pv 0) pe_int set_list))
          (pss_one (ps_ret (pv 3))))) pss_nil)
        (pss_cons (ps_asg (pe_op op_mod (pe_op op_add (pe_op op_add (pe_op op_mul (pe_op op_mod (pe_op op_mul (pe_ix ix_list (pv 0) pe_int (fun _ _ => rfl)) (pe_ix ix_list (pv 0) pe_int (fun _ _ => rfl))) pe_int) pe_int)
            (pe_op op_mul (pe_ix ix_list (pv 0) pe_int (fun _ _ => rfl)) pe_int)) pe_int) pe_int) (pg_sub (pv 0) pe_int set_list))
        (pss_one (ps_ret (pe_op op_mod (pe_op op_add (pe_op op_fdiv (pe_ix ix_list (pv 0) pe_int (fun _ _ => rfl)) pe_int) (pe_op op_mul (pe_op op_mod (pe_ix ix_list (pv 0) pe_int (fun _ _ => rfl)) pe_int) pe_int)) (pv 1))))), ?_⟩
      rintro σ H1 ⟨y2, k, z, r, rfl, B, fx⟩
      have hS := SqL.of (K := K) B.hb
      have rr0 := B.r0
      have rr1 := B.r1
      have zz0 := B.z0
      refine ⟨_, rfl, b, _, 2, _, rfl, rfl, hS, at_of (j := 2) rfl rfl, z, 0, rfl, rfl, _, rfl, ite2 (fun e => ?_) (fun e => ?_)⟩
      · have zp : 0 < z := of_decide_eq_true e
        refine ⟨_, rfl, b, _, 2, _, rfl, rfl, hS, at_of (j := 2) rfl rfl, _, rfl, z, n, rfl, rfl, hn0, ?_⟩
        refine ⟨_, rfl, b, _, 2, _, rfl, rfl, hS, at_of (j := 2) rfl rfl, _, rfl, z, n, rfl, rfl, ⟨hn0, hn1⟩, ?_⟩
        refine ⟨_, rfl, b, _, 2, 2, rfl, rfl, B.hb, rfl, ?_⟩
        refine ⟨_, rfl, ?_⟩
        refine q _ _ (Int.emod_nonneg _ (by omega)) (Int.emod_lt_of_pos _ hn0) ⟨ns, k, z / n, r, B.set B.k0 (Int.ediv_nonneg B.z0 (by omega)) B.r0 B.r1⟩ fx.upd
      · refine ⟨_, rfl, b, _, 3, _, rfl, rfl, hS, at_of (j := 3) rfl rfl, _, rfl, b, _, 3, _, rfl, rfl, hS, at_of (j := 3) rfl rfl, r, r, rfl, rfl, .inl ⟨by omega, by omega⟩,
          _, 2147483629, rfl, rfl, (by show (0 : Int) < 2147483629; decide), _, 5, rfl, rfl, .inr ⟨by decide, by decide⟩,
          _, rfl, b, _, 3, _, rfl, rfl, hS, at_of (j := 3) rfl rfl, r, 16807, rfl, rfl, .inr ⟨by decide, by decide⟩, _, _, rfl, rfl, _, 2531011, rfl, rfl, _, 2147483647, rfl, rfl, (by show (0 : Int) < 2147483647; decide), ?_⟩
        refine ⟨_, rfl, b, _, 3, 3, rfl, rfl, B.hb, rfl, ?_⟩
        have h0 : 0 ≤ (r * r % 2147483629 * 5 + r * 16807 + 2531011) % 2147483647 := Int.emod_nonneg _ (by decide)
        have h1 : (r * r % 2147483629 * 5 + r * 16807 + 2531011) % 2147483647 < 2147483647 := Int.emod_lt_of_pos _ (by decide)
        have B' : BagL (upd H1 b (.lst [.ref l, .int k, .int z, .int ((r * r % 2147483629 * 5 + r * 16807 + 2531011) % 2147483647)])) b l ns k z ((r * r % 2147483629 * 5 + r * 16807 + 2531011) % 2147483647) := B.set B.k0 B.z0 h0 h1
        have hS' := SqL.of (K := K) B'.hb
        refine ⟨_, rfl, b, _, 3, _, rfl, rfl, hS', at_of (j := 3) rfl rfl, _, 61, rfl, rfl, ⟨by decide, by decide⟩,
          _, rfl, b, _, 3, _, rfl, rfl, hS', at_of (j := 3) rfl rfl, _, 8191, rfl, rfl, (by show (0 : Int) < 8191; decide), _, 31, rfl, rfl, .inr ⟨by decide, by decide⟩, _, _, rfl, rfl, _, rfl, _, n, rfl, rfl, hn0, ?_⟩
        exact q _ _ (Int.emod_nonneg _ (by omega)) (Int.emod_lt_of_pos _ hn0) ⟨ns, k, z, _, B'⟩ fx.upd
    · intro u hu
      have hS := SqL.of (K := K) hB.hb
      have hS2 := SqL.of (K := K) hB.hl
      have rr0 := hB.r0
      have rr1 := hB.r1
      have zz0 := hB.z0
      have kk0 := hB.k0
      refine ⟨_, ps_if (PW.pt (pw_and (pt_cmpR op_eq (pe_ix ix_list (pv 0) pe_int (fun _ _ => rfl)) pe_int (nomark _))
            (pw_and1 (pt_cmpR op_lt (pe_ix ix_list (pv 0) pe_int (fun _ _ => rfl)) (pe_callB call_len_seq (by rfl) ml PySem.boot_len (pa_cons (pe_ix ix_list (pv 0) pe_int (fun _ _ => rfl)) pa_nil)) (nomark _)))))
          (pss_cons (ps_set (i := 2) sc_pull.nd rfl (.inl rfl) (pe_ix ix_list (pe_ix ix_list (pv 0) pe_int (fun _ _ => rfl)) (pe_ix ix_list (pv 0) pe_int (fun _ _ => rfl)) (fun _ _ => rfl)))
          (pss_cons (ps_asg (pe_op op_add (pe_ix ix_list (pv 0) pe_int (fun _ _ => rfl)) pe_int) (pg_sub (pv 0) pe_int set_list))
          (pss_one (ps_if (pt_cmpR op_ge (pv 2) (pe_op op_pow pe_int pe_int) (nomark _))
            (pss_one (ps_asg (pv 2) (pg_sub (pv 0) pe_int set_list)))
            (pss_one (ps_asg (pe_op op_mod (pe_op op_add (pe_op op_add (pe_op op_mul (pe_ix ix_list (pv 0) pe_int (fun _ _ => rfl)) pe_int) (pe_op op_mul (pe_op op_mod (pv 2) pe_int) pe_int)) pe_int) pe_int) (pg_sub (pv 0) pe_int set_list)))))))
          pss_nil, ?_⟩
      refine ⟨_, rfl, b, _, 2, _, rfl, rfl, hS, at_of (j := 2) rfl rfl, rfl, _, rfl, ite2 (fun e => ?_) (fun e => ?_)⟩
      · refine ⟨_, rfl, b, _, 1, _, rfl, rfl, hS, at_of (j := 1) rfl rfl, _, rfl, b, _, 0, _, rfl, rfl, hS, at_of (j := 0) rfl rfl, l, _, rfl, .inl hS2, k, _, rfl, rfl, _, rfl, ite2 (fun e2 => ?_) (fun e2 => ?_)⟩
        · obtain ⟨v, hv⟩ := int_at (ns := ns) kk0 (of_decide_eq_true e2)
          refine ⟨_, rfl, b, _, 0, _, rfl, rfl, hS, at_of (j := 0) rfl rfl, _, rfl, b, _, 1, _, rfl, rfl, hS, at_of (j := 1) rfl rfl, l, _, k, _, rfl, rfl, hS2, hv, ?_⟩
          refine ⟨_, rfl, b, _, 1, _, rfl, rfl, hS, at_of (j := 1) rfl rfl, k, 1, rfl, rfl, _, rfl, b, _, 1, 1, rfl, rfl, hB.hb, rfl, ?_⟩
          have B' : BagL (upd H b (.lst [.ref l, .int (k + 1), .int z, .int r])) b l ns (k + 1) z r := hB.set (by omega) zz0 rr0 rr1
          have hS' := SqL.of (K := K) B'.hb
          refine ⟨_, rfl, 10, 18, rfl, rfl, ⟨by decide, by decide, by decide⟩, v, _, rfl, rfl, _, rfl, ite2 (fun e3 => ?_) (fun e3 => ?_)⟩
          · have hv0 : 0 ≤ v := by
              have := of_decide_eq_true e3
              have h18 : (10 : Int) ^ (18 : Int).toNat = 1000000000000000000 := by decide +kernel
              rw [h18] at this
              omega
            refine ⟨_, rfl, _, rfl, b, _, 2, 2, rfl, rfl, B'.hb, rfl, ?_⟩
            exact hu _ _ ⟨some (.int v), k + 1, v, r, rfl, B'.set B'.k0 hv0 rr0 rr1, Fx.refl.upd.upd⟩
          · refine ⟨_, rfl, b, _, 3, _, rfl, rfl, hS', at_of (j := 3) rfl rfl, r, 48271, rfl, rfl, .inr ⟨by decide, by decide⟩, _, rfl, v, 2147483629, rfl, rfl, (by show (0 : Int) < 2147483629; decide), _, 69621, rfl, rfl, .inr ⟨by decide, by decide⟩,
              _, _, rfl, rfl, _, 12345, rfl, rfl, _, 2147483647, rfl, rfl, (by show (0 : Int) < 2147483647; decide), ?_⟩
            refine ⟨_, rfl, b, _, 3, 3, rfl, rfl, B'.hb, rfl, ?_⟩
            exact hu _ _ ⟨some (.int v), k + 1, z, _, rfl, B'.set B'.k0 B'.z0 (Int.emod_nonneg _ (by decide)) (Int.emod_lt_of_pos _ (by decide)), Fx.refl.upd.upd⟩
        · exact hu _ _ ⟨none, k, z, r, rfl, hB, .refl⟩
      · exact iteF (hu _ _ ⟨none, k, z, r, rfl, hB, .refl⟩)
end
end Sf
namespace Sf
open PySem PySem.Spec PyProof.Rows L2 TL
section
variable {P : Program} {w : World} {K : PySem.W.Frag} {mg : Str → Option Value} {base : Heap}
abbrev HasPull (P : Program) (w : World) (K : PySem.W.Frag) (mg : Str → Option Value) (base : Heap) : Prop := Has P w K mg base 1 "_law_pull" ["_law_bag", "_law_many"] spPull
theorem has_pull (F : FnAt K mg "_law_pull" s__law_pull ["_law_bag", "_law_many"]) (B : Blt mg) : HasPull P w K mg base := F.has fun F => ok_pull F B.len
/-! ### _law_flip -/
def spFlip : Sp := fun vs H Q _ => ∃ c : Nat, vs = [.str (one c)] ∧ sgn c = true ∧ Q (.str (one (flipC c))) H
abbrev HasFlip (P : Program) (w : World) (K : PySem.W.Frag) (mg : Str → Option Value) (base : Heap) : Prop := Has P w K mg base 1 "_law_flip" ["_law_sign_here"] spFlip
theorem sc_flip : FnScope ["_law_sign_here"] ["_law_sign_here"] (defScope s__law_flip) := ⟨rfl, rfl, rfl, by decide +kernel, rfl, by decide +kernel, by decide +kernel⟩
theorem has_flip (F : FnAt K mg "_law_flip" s__law_flip ["_law_sign_here"]) : HasFlip P w K mg base := F.has fun F => by
  refine F.ok sc_flip (fun vs H Q E h => ?_) (fun cdv A outer s H vs Q E hr h => ?_)
  · obtain ⟨c, rfl, _⟩ := h
    rfl
  · obtain ⟨c, rfl, hc, q⟩ := h
    refine ⟨_, pss_one (ps_ret (pe_ifExp (pt_cmpR op_in_sign (pv 0) pe_str rfl) (pe_upper (pv 0)) (pe_lower (pv 0)))), ?_⟩
    refine ⟨_, rfl, c, _, rfl, rfl, _, rfl, ite2 (fun e => ?_) (fun e => ?_)⟩
    · have h := in_small.mp (of_decide_eq_true e)
      refine ⟨_, rfl, ⟨_, rfl⟩, _, rfl, rfl, by rw [len_one]; decide, ?_⟩
      rw [upper_one h]
      rw [flipC, if_pos h.1] at q
      exact q
    · have h : ¬ (97 ≤ c ∧ c ≤ 104) := fun z => e (decide_eq_true (in_small.mpr z))
      rw [sgn_iff] at hc
      refine ⟨_, rfl, ⟨_, rfl⟩, _, rfl, rfl, by rw [len_one]; decide, ?_⟩
      rw [lower_one (by omega)]
      rw [flipC, if_neg (by omega)] at q
      exact q
/-! ### _law_sign -/
def spSign : Sp := fun vs H Q _ => ∃ (b l : Addr) (n : Int), vs = [.ref b, .int n] ∧ Bag H b l ∧ 0 < n ∧ n ≤ 8 ∧
  ∀ (c : Nat) (H' : Hp), sgn c = true → Bag H' b l → Fx b H H' → Q (.str (one c)) H'
abbrev HasSign (P : Program) (w : World) (K : PySem.W.Frag) (mg : Str → Option Value) (base : Heap) : Prop := Has P w K mg base 2 "_law_sign" ["_law_bag", "_law_many"] spSign
theorem sc_sign : FnScope ["_law_bag", "_law_many"] ["_law_bag", "_law_many"] (defScope s__law_sign) := ⟨rfl, rfl, rfl, by decide +kernel, rfl, by decide +kernel, by decide +kernel⟩
theorem has_sign (F : FnAt K mg "_law_sign" s__law_sign ["_law_bag", "_law_many"]) (hP : HasPull P w K mg base) : HasSign P w K mg base := F.has fun F => by
  obtain ⟨fP, fdP, gP, kP, bP, GP⟩ := hP
  refine F.ok sc_sign (fun vs H Q E h => ?_) (fun cdv A outer s H vs Q E hr h => ?_)
  · obtain ⟨b, l, n, rfl, _⟩ := h
    rfl
  · obtain ⟨b, l, n, rfl, hB, hn0, hn1, q⟩ := h
    refine ⟨_, pss_one (ps_ret (pe_ix ix_str (pe_ix ix_list (pe_lst (pa_cons pe_str (pa_cons pe_str pa_nil))) (pe_call GP hr (by rfl) gP kP bP .nil pass0 (pa_cons (pv 0) (pa_cons pe_int pa_nil))) (fun _ _ => rfl))
      (pe_call GP hr (by rfl) gP kP bP .nil pass0 (pa_cons (pv 0) (pa_cons (pv 1) pa_nil))) (fun _ _ => rfl))), ?_⟩
    refine ⟨by decide, fun p np => ?_⟩
    refine ⟨_, rfl, b, l, 2, rfl, hB.new np, by decide, by decide, fun d H1 d0 d1 B1 f1 => ?_⟩
    have hp : H1 p = some (.lst [.str "abcdefgh", .str "ABCDEFGH"]) := f1 _ _ upd_same (hB.ne np)
    have hd : d = 0 ∨ d = 1 := by omega
    rcases hd with rfl | rfl
    · refine ⟨p, _, 0, _, rfl, rfl, SqL.of hp, at_of (j := 0) rfl rfl, ?_⟩
      refine ⟨_, rfl, _, rfl, b, l, n, rfl, B1, hn0, by omega, fun e H2 e0 e1 B2 f2 => ?_⟩
      refine ⟨_, e, _, rfl, rfl, (by decide +kernel), at_small e0 (by omega), ?_⟩
      exact q _ _ (sgn_iff.mpr (by omega)) B2 ((Fx.new .refl np).trans (f1.trans f2))
    · refine ⟨p, _, 1, _, rfl, rfl, SqL.of hp, at_of (j := 1) rfl rfl, ?_⟩
      refine ⟨_, rfl, _, rfl, b, l, n, rfl, B1, hn0, by omega, fun e H2 e0 e1 B2 f2 => ?_⟩
      refine ⟨_, e, _, rfl, rfl, (by decide +kernel), at_great e0 (by omega), ?_⟩
      exact q _ _ (sgn_iff.mpr (by omega)) B2 ((Fx.new .refl np).trans (f1.trans f2))
/-! ### _law_word -/
def spWord : Sp := fun vs H Q _ => ∃ (b l : Addr) (u n : Int), vs = [.ref b, .int u, .int n] ∧ Bag H b l ∧ 0 ≤ u ∧ u ≤ 1000 ∧ 0 < n ∧ n ≤ 8 ∧
  ∀ (x : Str) (H' : Hp), Wd x → x.length ≤ u.toNat → Bag H' b l → Fx b H H' → Q (.str x) H'
abbrev HasWord (P : Program) (w : World) (K : PySem.W.Frag) (mg : Str → Option Value) (base : Heap) : Prop := Has P w K mg base 3 "_law_word" ["_law_bag", "_law_upto", "_law_many"] spWord
theorem sc_word : FnScope ["_law_bag", "_law_upto", "_law_many", "_law_found", "_law_turn", "_law_sign_here"] ["_law_bag", "_law_upto", "_law_many"] (defScope s__law_word) := ⟨rfl, rfl, rfl, by decide +kernel, rfl, by decide +kernel, by decide +kernel⟩
theorem has_word (F : FnAt K mg "_law_word" s__law_word ["_law_bag", "_law_upto", "_law_many"]) (B : Blt mg) (hP : HasPull P w K mg base) (hS : HasSign P w K mg base) (hF : HasFlip P w K mg base) : HasWord P w K mg base := F.has fun F => by
  obtain ⟨fP, fdP, gP, kP, bP, GP⟩ := hP
  obtain ⟨fS, fdS, gS, kS, bS, GS⟩ := hS
  obtain ⟨fF, fdF, gF, kF, bF, GF⟩ := hF
  refine F.ok sc_word (fun vs H Q E h => ?_) (fun cdv A outer s H vs Q E hr h => ?_)
  · obtain ⟨b, l, u, n, rfl, _⟩ := h
    rfl
  · obtain ⟨b, l, u, n, rfl, hB, hu0, hu1, hn0, hn1, q⟩ := h
    have hr1 : Room 1 _ := hr.mono (by decide)
    refine ⟨_, pss_cons (ps_set (i := 3) sc_word.nd rfl (.inl rfl) pe_str)
      (pss_cons (ps_for PassesOwn.never rfl (pi_range1 rfl B.range (pa_cons (pe_call GP hr1 (by rfl) gP kP bP .nil pass0 (pa_cons (pv 0) (pa_cons (pe_op op_add (pv 1) pe_int) pa_nil))) pa_nil)) (pg_name (i := 4) sc_word.nd rfl (.inl rfl))
        (pss_cons (ps_set (i := 5) sc_word.nd rfl (.inl rfl) (pe_call GS hr (by rfl) gS kS bS .nil pass0 (pa_cons (pv 0) (pa_cons (pv 2) pa_nil))))
        (pss_cons (ps_if (PW.pt (pw_and (pt_cmpR op_ne (pv 3) pe_str (nomark _)) (pw_and1 (pt_cmpR op_eq (pe_call GP hr1 (by rfl) gP kP bP .nil pass0 (pa_cons (pv 0) (pa_cons pe_int pa_nil))) pe_int (nomark _)))))
          (pss_one (ps_set (i := 5) sc_word.nd rfl (.inl rfl) (pe_call GF hr1 (by rfl) gF kF bF .nil pass0 (pa_cons (pe_ix ix_str (pv 3) (pe_un un_neg pe_int) (fun _ _ => rfl)) pa_nil)))) pss_nil)
        (pss_one (ps_set (i := 3) sc_word.nd rfl (.inl rfl) (pe_op op_add_str (pv 3) (pv 5)))))))
      (pss_one (ps_ret (pv 3)))), ?_⟩
    refine ⟨_, rfl, _, rfl, u, 1, rfl, rfl, b, l, u + 1, rfl, hB, by omega, by omega, fun d H1 d0 d1 B1 f1 => ?_⟩
    refine ⟨d, rfl, by omega, by omega, for_range (lo := 0) (n := d.toNat) (fun i σ H2 => ∃ (x : Str) (y4 y5 : Option V), σ = [some (.ref b), some (.int u), some (.int n), some (.str x), y4, y5] ∧ Wd x ∧ x.length ≤ i ∧ Bag H2 b l ∧ Fx b H H2)
      ⟨"", none, none, rfl, wd_nil, (by decide +kernel), B1, f1⟩ ?_ ?_⟩
    · rintro i σ H2 hi ⟨x, y4, y5, rfl, hx, hlen, B2, f2⟩
      have hsz : x.length + 1 ≤ sizeLine := Nat.le_trans (Nat.add_le_add_right (Nat.le_trans hlen (by omega : i ≤ 1000)) 1) (by decide)
      refine ⟨_, rfl, _, rfl, b, l, n, rfl, B2, hn0, hn1, fun c H3 hc B3 f3 => ?_⟩
      have fin : ∀ (c : Nat) (H4 : Hp), sgn c = true → Bag H4 b l → Fx b H H4 → ∃ (x' : Str) (y4 y5 : Option V), [some (V.ref b), some (.int u), some (.int n), some (.str (x ++ one c)), some (.int (0 + i)), some (.str (one c))] = [some (.ref b), some (.int u), some (.int n), some (.str x'), y4, y5] ∧ Wd x' ∧ x'.length ≤ i + 1 ∧ Bag H4 b l ∧ Fx b H H4 :=
        fun c H4 hc B4 f4 => ⟨_, _, _, rfl, hx.app (wd_one hc), by rw [len_app, len_one]; omega, B4, f4⟩
      refine ⟨_, rfl, rfl, _, rfl, ite2 (fun e => ?_) (fun e => ?_)⟩
      · refine ⟨_, rfl, b, l, 4, rfl, B3, by decide, by decide, fun d2 H4 _ _ B4 f4 => ?_⟩
        refine ⟨rfl, _, rfl, ite2 (fun e2 => ?_) (fun e2 => ?_)⟩
        · have hne : tl x ≠ [] := str_ne fun z => by
            rw [z] at e
            simp at e
          obtain ⟨c2, hc2, hm⟩ := at_end hne
          refine ⟨_, rfl, 1, rfl, x, _, c2, rfl, rfl, by omega, hc2, c2, rfl, hx c2 hm, ?_⟩
          exact ⟨_, rfl, _, rfl, x, _, rfl, rfl, hsz, fin _ _ (flip_sgn (hx c2 hm)) B4 (f2.trans (f3.trans f4))⟩
        · exact ⟨_, rfl, _, rfl, x, _, rfl, rfl, hsz, fin _ _ hc B4 (f2.trans (f3.trans f4))⟩
      · exact iteF ⟨_, rfl, _, rfl, x, _, rfl, rfl, hsz, fin _ _ hc B3 (f2.trans f3)⟩
    · rintro σ H2 ⟨x, y4, y5, rfl, hx, hlen, B2, f2⟩
      exact ⟨_, rfl, q x H2 hx (by omega) B2 f2⟩
end
end Sf
namespace Sf
open PySem PySem.Spec PyProof.Rows L2 TL
section
variable {P : Program} {w : World} {K : PySem.W.Frag} {mg : Str → Option Value} {base : Heap}
/-! ### _law_begin -/
def spBegin (K : PySem.W.Frag) : Sp := fun vs H Q _ => ∃ (a : Addr) (ns : List Int), vs = [.ref a] ∧ SqL K H a (ns.map V.int) ∧ ∀ (b l : Addr) (H' : Hp), H b = none → Bag H' b l → Same H H' → Q (.ref b) H'
abbrev HasBegin (P : Program) (w : World) (K : PySem.W.Frag) (mg : Str → Option Value) (base : Heap) : Prop := Has P w K mg base 1 "_law_begin" ["_law_script"] (spBegin K)
theorem sc_begin : FnScope ["_law_script", "_law_salt", "_law_cell"] ["_law_script"] (defScope s__law_begin) := ⟨rfl, rfl, rfl, by decide +kernel, rfl, by decide +kernel, by decide +kernel⟩
theorem cut_ints (ns : List Int) (lo hi : Option Int) : ∃ ms : List Int, cutV (ns.map V.int) lo hi = ms.map V.int := by
  refine ⟨(ns.drop (HT.sIx (ns.map V.int).length 0 lo)).take (HT.sIx (ns.map V.int).length (ns.map V.int).length hi - HT.sIx (ns.map V.int).length 0 lo), ?_⟩
  unfold cutV
  rw [List.map_take, List.map_drop]
theorem has_begin (F : FnAt K mg "_law_begin" s__law_begin ["_law_script"]) (B : Blt mg) : HasBegin P w K mg base := F.has fun F => by
  refine F.ok sc_begin (fun vs H Q E h => ?_) (fun cdv A outer s H vs Q E hr h => ?_)
  · obtain ⟨a, ns, rfl, _⟩ := h
    rfl
  · obtain ⟨a, ns, rfl, hS, q⟩ := h
    refine ⟨_, pss_cons (ps_set (i := 1) sc_begin.nd rfl (.inl rfl) pe_int)
      (pss_cons (ps_for PassesOwn.never rfl (pi_list (pe_slice sl_list (pv 0) po_none (po_some pe_int))) (pg_name (i := 2) sc_begin.nd rfl (.inl rfl))
        (pss_one (ps_set (i := 1) sc_begin.nd rfl (.inl rfl) (pe_op op_mod (pe_op op_add (pe_op op_add (pe_op op_mul (pv 1) pe_int) (pe_op op_mod (pv 2) pe_int)) pe_int) pe_int))))
      (pss_one (ps_ret (pe_lst (pa_cons (pe_callTy call_list_of (by rfl) B.list (by decide +kernel) (pa_cons (pe_slice sl_list (pv 0) po_none (po_some pe_int)) pa_nil)) (pa_cons pe_int (pa_cons pe_int (pa_cons (pv 1) pa_nil)))))))), ?_⟩
    obtain ⟨ms, em⟩ := cut_ints ns none (some 63)
    refine ⟨_, rfl, 63, rfl, a, _, rfl, hS, fun p np => ?_⟩
    have s1 : Same H (upd H p (.lst (cutV (ns.map V.int) none (some 63)))) := same_upd np
    have hp : SqL K (upd H p (.lst (cutV (ns.map V.int) none (some 63)))) p (ms.map V.int) := SqL.of (by rw [upd_same, em])
    refine ⟨p, rfl, ⟨_, hp⟩, for_list (K := K) (a := p) (xs := ms.map V.int) (fun i σ H2 => ∃ (r : Int) (y : Option V), σ = [some (.ref a), some (.int r), y] ∧ 0 ≤ r ∧ r < 2147483647 ∧ H2 = upd H p (.lst (cutV (ns.map V.int) none (some 63))))
      ⟨977, none, rfl, by decide, by decide, rfl⟩ (fun i σ H2 _ ⟨_, _, _, _, _, e⟩ => by rw [e]; exact hp) ?_ ?_⟩
    · rintro i v σ H2 hi ⟨r, y, rfl, r0, r1, rfl⟩
      obtain ⟨z, rfl⟩ : ∃ z, v = V.int z := by
        rw [List.getElem?_map] at hi
        cases e : ms[i]? with
        | none =>
          rw [e] at hi
          cases hi
        | some z =>
          rw [e] at hi
          exact ⟨z, (Option.some.inj hi).symm⟩
      refine ⟨_, rfl, r, 1009, rfl, rfl, .inr ⟨by decide, by decide⟩, _, rfl, z, 2147483629, rfl, rfl, (by show (0 : Int) < 2147483629; decide), _, _, rfl, rfl, _, 7, rfl, rfl, _, 2147483629, rfl, rfl, (by show (0 : Int) < 2147483629; decide), ?_⟩
      have h0 : 0 ≤ (r * 1009 + z % 2147483629 + 7) % 2147483629 := Int.emod_nonneg _ (by decide)
      have h1 : (r * 1009 + z % 2147483629 + 7) % 2147483629 < 2147483629 := Int.emod_lt_of_pos _ (by decide)
      exact ⟨_, _, rfl, h0, by omega, rfl⟩
    · rintro σ H2 ⟨r, y, rfl, r0, r1, rfl⟩
      refine ⟨_, rfl, 63, rfl, a, _, rfl, s1.seq hS, fun p2 np2 => ?_⟩
      have hp2 : SqL K (upd (upd H p (.lst (cutV (ns.map V.int) none (some 63)))) p2 (.lst (cutV (ns.map V.int) none (some 63)))) p2 (ms.map V.int) := SqL.of (by rw [upd_same, em])
      have s2 := s1.trans (same_upd (o := .lst (cutV (ns.map V.int) none (some 63))) np2)
      refine ⟨p2, _, rfl, .inl hp2, fun l nl => ?_⟩
      have s3 := s2.trans (same_upd (o := .lst (ms.map V.int)) nl)
      refine ⟨_, rfl, (by show 4 ≤ sizeLine; decide), fun b nb => ?_⟩
      have s4 := s3.trans (same_upd (o := .lst [.ref l, .int 0, .int 0, .int r]) nb)
      refine q b l _ (s3.free nb) ⟨ms, 0, 0, r, upd_same, ?_, by decide, by decide, r0, r1⟩ s4
      have nlb : l ≠ b := fun z => by
        rw [← z, upd_same] at nb
        cases nb
      rw [upd_ne nlb, upd_same]
end
end Sf
namespace Sf
open PySem PySem.Spec PyProof.Rows L2 TL
section
variable {P : Program} {w : World} {K : PySem.W.Frag} {mg : Str → Option Value} {base : Heap}
/-! ### _law_same: True of two values of the same data -/
def spSame (n : Nat) : Sp := fun vs H Q _ => ∃ x y : V, vs = [x, y] ∧ Eqv H n x y ∧ ∀ H', Same H H' → Q (.bl true) H'
abbrev HasSame (P : Program) (w : World) (K : PySem.W.Frag) (mg : Str → Option Value) (base : Heap) (n : Nat) : Prop := Has P w K mg base (n + 1) "_law_same" ["_law_found", "_law_due"] (spSame n)
theorem sc_same : FnScope ["_law_found", "_law_due", "_law_one", "_law_other"] ["_law_found", "_law_due"] (defScope s__law_same) := ⟨rfl, rfl, rfl, by decide +kernel, rfl, by decide +kernel, by decide +kernel⟩
theorem all_true (n : Nat) : (List.replicate n true).all id = true := by
  induction n with
  | zero => rfl
  | succ n ih => rw [List.replicate_succ, List.all_cons, ih]; rfl
theorem has_same (F : FnAt K mg "_law_same" s__law_same ["_law_found", "_law_due"]) (B : Blt mg) : ∀ n, HasSame P w K mg base n := by
  intro n
  induction n with
  | zero =>
    refine F.has fun F => ?_
    refine F.ok sc_same (fun vs H Q E h => ?_) (fun cdv A outer s H vs Q E hr h => ?_)
    · obtain ⟨x, y, rfl, _⟩ := h
      rfl
    · obtain ⟨x, y, rfl, ⟨fx, rfl⟩, q⟩ := h
      obtain ⟨T, b1, b2, b3, ty, k1, k2, k3, k4, k5⟩ := flat_kit (K := K) (H := H) fx
      refine ⟨_, pss_cons (ps_if (pt_val (pe_callB call_isiT (by rfl) B.isinstance (by decide +kernel) (pa_cons (pv 1) (pa_cons (pe_tup (pa_cons (pe_bltn (v := .ty "list") (by rfl) B.list (by decide +kernel) rfl) (pa_cons (pe_bltn (v := .ty "tuple") (by rfl) B.tuple (by decide +kernel) rfl) pa_nil))) pa_nil)))) pss_never pss_nil)
        (pss_cons (ps_if (PW.pt (pw_or (pt_cmpR op_isN (pv 1) pe_non (nomark _)) (pw_or1 (pt_cmpR op_isN (pv 0) pe_non (nomark _))))) (pss_one (ps_ret (pe_and (pe_cmpR op_isN (pv 0) pe_non (nomark _)) (pe_one (pe_cmpR op_isN (pv 1) pe_non (nomark _)))))) pss_nil)
        (pss_cons (ps_if (PW.pt (pw_or (pt_cmpR op_ne (pe_callB call_isi (by rfl) B.isinstance (by decide +kernel) (pa_cons (pv 0) (pa_cons (pe_bltn (v := .ty "bool") (by rfl) B.bool (by decide +kernel) rfl) pa_nil))) (pe_callB call_isi (by rfl) B.isinstance (by decide +kernel) (pa_cons (pv 1) (pa_cons (pe_bltn (v := .ty "bool") (by rfl) B.bool (by decide +kernel) rfl) pa_nil))) (nomark _))
            (pw_or1 (pt_cmpR op_ne (pe_callB call_isi (by rfl) B.isinstance (by decide +kernel) (pa_cons (pv 0) (pa_cons (pe_bltn (v := .ty "int") (by rfl) B.int (by decide +kernel) rfl) pa_nil))) (pe_callB call_isi (by rfl) B.isinstance (by decide +kernel) (pa_cons (pv 1) (pa_cons (pe_bltn (v := .ty "int") (by rfl) B.int (by decide +kernel) rfl) pa_nil))) (nomark _))))) pss_never pss_nil)
        (pss_one (ps_ret (pe_and (pe_cmpR op_eq (pe_callB call_isi (by rfl) B.isinstance (by decide +kernel) (pa_cons (pv 0) (pa_cons (pe_bltn (v := .ty "str") (by rfl) B.str (by decide +kernel) rfl) pa_nil))) (pe_callB call_isi (by rfl) B.isinstance (by decide +kernel) (pa_cons (pv 1) (pa_cons (pe_bltn (v := .ty "str") (by rfl) B.str (by decide +kernel) rfl) pa_nil))) (nomark _)) (pe_one (pe_cmpR op_eq (pv 0) (pv 1) (nomark _)))))))), ?_⟩
      refine ⟨x, rfl, (by show 2 ≤ sizeLine; decide), fun p np => ?_⟩
      have s1 := same_upd (o := .tup [.ty "list", .ty "tuple"]) np
      have ty1 := TyX.same s1 fx ty
      refine ⟨x, p, _, _, [.type "list", .type "tuple"], false, rfl, upd_same, .cons (.ty _) (.cons (.ty _) .nil), ty1, kit2 k1 k2, _, rfl, iteF ?_⟩
      refine ⟨x, rfl, rfl, _, rfl, ite2 (fun e => ?_) (fun e => ?_)⟩
      · have ex : x = .non := of_decide_eq_true e
        subst ex
        refine iteT ⟨_, rfl, rfl, _, rfl, ite2 (fun _ => ⟨_, rfl, rfl, ?_⟩) (fun z => absurd (decide_eq_true rfl) z)⟩
        exact q _ s1
      · refine ⟨x, rfl, rfl, _, rfl, ite2 (fun e2 => absurd e2 e) (fun _ => ?_)⟩
        refine ⟨x, rfl, x, _, _, _, b1, rfl, .ty "bool", ty1, kit_ty k3, x, rfl, x, _, _, _, b1, rfl, .ty "bool", ty1, kit_ty k3, rfl, _, rfl, ite2 (fun z => ?_) (fun _ => ?_)⟩
        · rw [ne_bl] at z
          cases z
        · refine ⟨x, rfl, x, _, _, _, b2, rfl, .ty "int", ty1, kit_ty k4, x, rfl, x, _, _, _, b2, rfl, .ty "int", ty1, kit_ty k4, rfl, _, rfl, ite2 (fun z => ?_) (fun _ => ?_)⟩
          · rw [ne_bl] at z
            cases z
          · refine ⟨x, rfl, x, _, _, _, b3, rfl, .ty "str", ty1, kit_ty k5, x, rfl, x, _, _, _, b3, rfl, .ty "str", ty1, kit_ty k5, rfl, _, rfl, ite2 (fun z => ?_) (fun z => absurd (decide_eq_true rfl) z)⟩
            refine ⟨x, rfl, x, rfl, scal_flat fx, ?_⟩
            rw [decide_eq_true rfl]
            exact q _ s1
  | succ n ih =>
    obtain ⟨fR, fdR, gR, kR, bR, GR⟩ := ih
    refine F.has fun F => ?_
    refine F.ok sc_same (fun vs H Q E h => ?_) (fun cdv A outer s H vs Q E hr h => ?_)
    · obtain ⟨x, y, rfl, _⟩ := h
      rfl
    · obtain ⟨x, y, rfl, hE, q⟩ := h
      refine seq_by (fun σ H1 => σ = [some x, some x, none, none] ∧ flat4 x = true ∧ Same H H1) ?_ ?_
      · refine ⟨_, (pss_cons (ps_if (PW.pt (pw_or (pt_cmpR op_isN (pv 1) pe_non (nomark _)) (pw_or1 (pt_cmpR op_isN (pv 0) pe_non (nomark _))))) (pss_one (ps_ret (pe_and (pe_cmpR op_isN (pv 0) pe_non (nomark _)) (pe_one (pe_cmpR op_isN (pv 1) pe_non (nomark _)))))) pss_nil)
        (pss_cons (ps_if (PW.pt (pw_or (pt_cmpR op_ne (pe_callB call_isi (by rfl) B.isinstance (by decide +kernel) (pa_cons (pv 0) (pa_cons (pe_bltn (v := .ty "bool") (by rfl) B.bool (by decide +kernel) rfl) pa_nil))) (pe_callB call_isi (by rfl) B.isinstance (by decide +kernel) (pa_cons (pv 1) (pa_cons (pe_bltn (v := .ty "bool") (by rfl) B.bool (by decide +kernel) rfl) pa_nil))) (nomark _))
            (pw_or1 (pt_cmpR op_ne (pe_callB call_isi (by rfl) B.isinstance (by decide +kernel) (pa_cons (pv 0) (pa_cons (pe_bltn (v := .ty "int") (by rfl) B.int (by decide +kernel) rfl) pa_nil))) (pe_callB call_isi (by rfl) B.isinstance (by decide +kernel) (pa_cons (pv 1) (pa_cons (pe_bltn (v := .ty "int") (by rfl) B.int (by decide +kernel) rfl) pa_nil))) (nomark _))))) pss_never pss_nil)
        (pss_one (ps_ret (pe_and (pe_cmpR op_eq (pe_callB call_isi (by rfl) B.isinstance (by decide +kernel) (pa_cons (pv 0) (pa_cons (pe_bltn (v := .ty "str") (by rfl) B.str (by decide +kernel) rfl) pa_nil))) (pe_callB call_isi (by rfl) B.isinstance (by decide +kernel) (pa_cons (pv 1) (pa_cons (pe_bltn (v := .ty "str") (by rfl) B.str (by decide +kernel) rfl) pa_nil))) (nomark _)) (pe_one (pe_cmpR op_eq (pv 0) (pv 1) (nomark _)))))))), ?_⟩
        rintro σ H1 ⟨rfl, fx, s1⟩
        obtain ⟨T, b1, b2, b3, ty1, k1, k2, k3, k4, k5⟩ := flat_kit (K := K) (H := H1) fx
        refine ⟨x, rfl, rfl, _, rfl, ite2 (fun e => ?_) (fun e => ?_)⟩
        · have ex : x = .non := of_decide_eq_true e
          subst ex
          refine iteT ⟨_, rfl, rfl, _, rfl, ite2 (fun _ => ⟨_, rfl, rfl, ?_⟩) (fun z => absurd (decide_eq_true rfl) z)⟩
          exact q _ s1
        · refine ⟨x, rfl, rfl, _, rfl, ite2 (fun e2 => absurd e2 e) (fun _ => ?_)⟩
          refine ⟨x, rfl, x, _, _, _, b1, rfl, .ty "bool", ty1, kit_ty k3, x, rfl, x, _, _, _, b1, rfl, .ty "bool", ty1, kit_ty k3, rfl, _, rfl, ite2 (fun z => ?_) (fun _ => ?_)⟩
          · rw [ne_bl] at z
            cases z
          · refine ⟨x, rfl, x, _, _, _, b2, rfl, .ty "int", ty1, kit_ty k4, x, rfl, x, _, _, _, b2, rfl, .ty "int", ty1, kit_ty k4, rfl, _, rfl, ite2 (fun z => ?_) (fun _ => ?_)⟩
            · rw [ne_bl] at z
              cases z
            · refine ⟨x, rfl, x, _, _, _, b3, rfl, .ty "str", ty1, kit_ty k5, x, rfl, x, _, _, _, b3, rfl, .ty "str", ty1, kit_ty k5, rfl, _, rfl, ite2 (fun z => ?_) (fun z => absurd (decide_eq_true rfl) z)⟩
              refine ⟨x, rfl, x, rfl, scal_flat fx, ?_⟩
              rw [decide_eq_true rfl]
              exact q _ s1
      · intro u hu
        refine ⟨_, ps_if (pt_val (pe_callB call_isiT (by rfl) B.isinstance (by decide +kernel) (pa_cons (pv 1) (pa_cons (pe_tup (pa_cons (pe_bltn (v := .ty "list") (by rfl) B.list (by decide +kernel) rfl) (pa_cons (pe_bltn (v := .ty "tuple") (by rfl) B.tuple (by decide +kernel) rfl) pa_nil))) pa_nil))))
          (pss_cons (ps_if (PW.pt (pw_or (pt_cmpR op_ne (pe_callB call_isi (by rfl) B.isinstance (by decide +kernel) (pa_cons (pv 0) (pa_cons (pe_bltn (v := .ty "list") (by rfl) B.list (by decide +kernel) rfl) pa_nil))) (pe_callB call_isi (by rfl) B.isinstance (by decide +kernel) (pa_cons (pv 1) (pa_cons (pe_bltn (v := .ty "list") (by rfl) B.list (by decide +kernel) rfl) pa_nil))) (nomark _)) (pw_or1 (pt_cmpR op_ne (pe_callB call_isi (by rfl) B.isinstance (by decide +kernel) (pa_cons (pv 0) (pa_cons (pe_bltn (v := .ty "tuple") (by rfl) B.tuple (by decide +kernel) rfl) pa_nil))) (pe_callB call_isi (by rfl) B.isinstance (by decide +kernel) (pa_cons (pv 1) (pa_cons (pe_bltn (v := .ty "tuple") (by rfl) B.tuple (by decide +kernel) rfl) pa_nil))) (nomark _))))) pss_never pss_nil)
          (pss_one (ps_ret (pe_and (pe_cmpR op_eq (pe_callB call_len_seq (by rfl) B.len PySem.boot_len (pa_cons (pv 0) pa_nil)) (pe_callB call_len_seq (by rfl) B.len PySem.boot_len (pa_cons (pv 1) pa_nil)) (nomark _))
            (pe_one (pe_callB (cr_all rfl) (by rfl) B.all (by decide +kernel) (pa_cons (pe_lc (own := [("_law_one", 2), ("_law_other", 3)]) (g := gTup K 2 (gCons (gName 2) (gCons (gName 3) gNil))) (tt := tYes) (by rfl) sc_same.nd (RZ.pi_zipA (by rfl) B.zip (pa_cons (pv 0) (pa_cons (pv 1) pa_nil)))
              (blkOk_by (own := [("_law_one", 2), ("_law_other", 3)]) (N := ["_law_found", "_law_due", "_law_one", "_law_other"]) (sc := defScope s__law_same) (by decide +kernel))
              (fun _ _ _ _ _ => pg_tup rfl (pgs_cons (pg_name (i := 2) sc_same.nd rfl (.inl rfl)) (pgs_cons (pg_name (i := 3) sc_same.nd rfl (.inl rfl)) pgs_nil))) (fun _ _ _ _ _ => pts_nil)
              (fun _ _ _ _ _ => pe_call GR hr (by rfl) gR kR bR .nil pass0 (pa_cons (pv 2) (pa_cons (pv 3) pa_nil)))) pa_nil))))))) pss_nil, ?_⟩
        refine ⟨y, rfl, (by show 2 ≤ sizeLine; decide), fun p np => ?_⟩
        have s1 := same_upd (o := .tup [.ty "list", .ty "tuple"]) np
        rcases hE with ⟨fx, rfl⟩ | ⟨pa, pb, xs, ys, rfl, rfl, hxy, hlen, hsz, hEach⟩
        · obtain ⟨T, b1, b2, b3, ty, k1, k2, k3, k4, k5⟩ := flat_kit (K := K) (H := upd H p (.tup [.ty "list", .ty "tuple"])) fx
          exact ⟨x, p, _, _, [.type "list", .type "tuple"], false, rfl, upd_same, .cons (.ty _) (.cons (.ty _) .nil), ty, kit2 k1 k2, _, rfl, iteF (hu _ _ ⟨rfl, fx, s1⟩)⟩
        · obtain ⟨T, bl, bt, tyx, tyy, kany, kl, kt⟩ : ∃ (T : String) (bl bt : Bool), TyX K (upd H p (.tup [.ty "list", .ty "tuple"])) (.ref pa) (.type T) ∧ TyX K (upd H p (.tup [.ty "list", .ty "tuple"])) (.ref pb) (.type T) ∧
              PySem.W.kitAny K (.type T) [.type "list", .type "tuple"] = some true ∧ kitB T "list" = some bl ∧ kitB T "tuple" = some bt := by
            rcases hxy with ⟨ha, hb⟩ | ⟨ha, hb⟩
            · exact ⟨"list", true, false, .base (.lst (s1 _ _ ha)), .base (.lst (s1 _ _ hb)), kitAny_cons (kit_ty (b := "list") (r := true) (by decide +kernel)) (fun q => nomatch q) (fun _ => rfl), by decide +kernel, by decide +kernel⟩
            · exact ⟨"tuple", false, true, .base (.tup (s1 _ _ ha)), .base (.tup (s1 _ _ hb)), kitAny_cons (kit_ty (b := "list") (r := false) (by decide +kernel)) (fun _ => kitAny_cons (kit_ty (b := "tuple") (r := true) (by decide +kernel)) (fun q => nomatch q) (fun _ => rfl)) (fun q => nomatch q), by decide +kernel, by decide +kernel⟩
          refine ⟨_, p, _, _, [.type "list", .type "tuple"], true, rfl, upd_same, .cons (.ty _) (.cons (.ty _) .nil), tyy, kany, _, rfl, iteT ?_⟩
          refine ⟨_, rfl, _, _, _, _, bl, rfl, .ty "list", tyx, kit_ty kl, _, rfl, _, _, _, _, bl, rfl, .ty "list", tyy, kit_ty kl, rfl, _, rfl, ite2 (fun z => ?_) (fun _ => ?_)⟩
          · rw [ne_bl] at z
            cases z
          refine ⟨_, rfl, _, _, _, _, bt, rfl, .ty "tuple", tyx, kit_ty kt, _, rfl, _, _, _, _, bt, rfl, .ty "tuple", tyy, kit_ty kt, rfl, _, rfl, ite2 (fun z => ?_) (fun _ => ?_)⟩
          · rw [ne_bl] at z
            cases z
          have sqx : SqL K (upd H p (.tup [.ty "list", .ty "tuple"])) pa xs ∨ SqT K (upd H p (.tup [.ty "list", .ty "tuple"])) pa xs := hxy.elim (fun h => .inl (SqL.of (s1 _ _ h.1))) (fun h => .inr (SqT.of (s1 _ _ h.1)))
          have sqy : SqL K (upd H p (.tup [.ty "list", .ty "tuple"])) pb ys ∨ SqT K (upd H p (.tup [.ty "list", .ty "tuple"])) pb ys := hxy.elim (fun h => .inl (SqL.of (s1 _ _ h.2))) (fun h => .inr (SqT.of (s1 _ _ h.2)))
          refine ⟨_, rfl, pa, xs, rfl, sqx, _, rfl, pb, ys, rfl, sqy, rfl, _, rfl, ite2 (fun _ => ?_) (fun z => absurd (decide_eq_true (by rw [hlen])) z)⟩
          refine ⟨_, rfl, _, rfl, pa, pb, xs, ys, rfl, ?_⟩
          have turn : ∀ (i : Nat) (x y : V) (D T : Addr) (H2 : Hp), (upd H p (.tup [.ty "list", .ty "tuple"])) D = none → xs[i]? = some x → ys[i]? = some y → Same (upd H p (.tup [.ty "list", .ty "tuple"])) H2 → H2 D = some (.lst (List.replicate i (V.bl true))) → H2 T = none →
              ∃ x' y' : V, [x, y] ++ [] = [x', y'] ∧ Eqv (upd H2 T (.tup [x, y])) n x' y' ∧ ∀ H', Same (upd H2 T (.tup [x, y])) H' → ∃ acc, H' D = some (.lst acc) ∧ acc.length < sizeLine ∧ (Same (upd H p (.tup [.ty "list", .ty "tuple"])) (upd H' D (.lst (acc ++ [.bl true]))) ∧ (upd H' D (.lst (acc ++ [.bl true]))) D = some (.lst (List.replicate (i + 1) (V.bl true)))) := by
            intro i x y D T H2 nD hx hy s2 hD nT
            have s3 : Same H2 (upd H2 T (.tup [x, y])) := same_upd nT
            have hi : i < xs.length := (List.getElem?_eq_some_iff.mp hx).1
            refine ⟨x, y, rfl, (hEach i x y hx hy).same (s1.trans (s2.trans s3)), fun H' s4 => ⟨_, s4 _ _ (s3 _ _ hD), ?_, fun a o e => ?_, ?_⟩⟩
            · rw [List.length_replicate]
              exact lineLt_of (by omega)
            · rw [upd_ne (ne_of_none e nD)]
              exact s4 _ _ (s3 _ _ (s2 _ _ e))
            · rw [upd_same, List.replicate_succ']
          have fin : ∀ (D : Addr) (H2 : Hp), Same (upd H p (.tup [.ty "list", .ty "tuple"])) H2 → H2 D = some (.lst (List.replicate xs.length (V.bl true))) → ∃ (a : Addr) (bs : List Bool), [V.ref D] = [V.ref a] ∧ SqL K H2 a (bs.map V.bl) ∧ Q (.bl (bs.all id)) H2 := by
            intro D H2 s2 hD
            refine ⟨D, List.replicate xs.length true, rfl, SqL.of (by rw [hD, List.map_replicate]), ?_⟩
            rw [all_true]
            exact q _ (s1.trans s2)
          rcases hxy with ⟨ha, hb⟩ | ⟨ha, hb⟩
          · refine .inl ⟨SqL.of (s1 _ _ ha), SqL.of (s1 _ _ hb), fun D nD => ?_⟩
            refine lc_gen (n := xs.length) (fun i H2 => Same (upd H p (.tup [.ty "list", .ty "tuple"])) H2 ∧ H2 D = some (.lst (List.replicate i (V.bl true)))) ⟨same_upd nD, upd_same⟩ ?_ ?_ ?_ ?_
            · rintro i H2 hi ⟨s2, hD⟩
              exact ⟨xs, ys, _, _, SqL.of (s2 _ _ (s1 _ _ ha)), SqL.of (s2 _ _ (s1 _ _ hb)), List.getElem?_eq_getElem hi, List.getElem?_eq_getElem (by omega)⟩
            · rintro H2 ⟨s2, hD⟩
              exact ⟨xs, ys, SqL.of (s2 _ _ (s1 _ _ ha)), SqL.of (s2 _ _ (s1 _ _ hb)), .inl (Nat.le_refl _)⟩
            · rintro i v H2 H3 hi ⟨s2, hD⟩ ⟨T, x, y, rfl, nT, rfl, f1, f2⟩
              refine ⟨T, [x, y], rfl, .inl (.inl upd_same), rfl, x, [y], rfl, y, [], rfl, rfl, rfl, ?_⟩
              refine yes_if ?_
              exact ⟨_, rfl, _, rfl, turn i x y D T H2 nD (f1 xs (SqL.of (s2 _ _ (s1 _ _ ha)))) (f2 ys (SqL.of (s2 _ _ (s1 _ _ hb)))) s2 hD nT⟩
            · rintro H2 ⟨s2, hD⟩
              exact fin D H2 s2 hD
          · refine .inr ⟨SqT.of (s1 _ _ ha), SqT.of (s1 _ _ hb), fun D nD => ?_⟩
            refine lc_gen (n := xs.length) (fun i H2 => Same (upd H p (.tup [.ty "list", .ty "tuple"])) H2 ∧ H2 D = some (.lst (List.replicate i (V.bl true)))) ⟨same_upd nD, upd_same⟩ ?_ ?_ ?_ ?_
            · rintro i H2 hi ⟨s2, hD⟩
              exact ⟨xs, ys, _, _, SqT.of (s2 _ _ (s1 _ _ ha)), SqT.of (s2 _ _ (s1 _ _ hb)), List.getElem?_eq_getElem hi, List.getElem?_eq_getElem (by omega)⟩
            · rintro H2 ⟨s2, hD⟩
              exact ⟨xs, ys, SqT.of (s2 _ _ (s1 _ _ ha)), SqT.of (s2 _ _ (s1 _ _ hb)), .inl (Nat.le_refl _)⟩
            · rintro i v H2 H3 hi ⟨s2, hD⟩ ⟨T, x, y, rfl, nT, rfl, f1, f2⟩
              refine ⟨T, [x, y], rfl, .inl (.inl upd_same), rfl, x, [y], rfl, y, [], rfl, rfl, rfl, ?_⟩
              refine yes_if ?_
              exact ⟨_, rfl, _, rfl, turn i x y D T H2 nD (f1 xs (SqT.of (s2 _ _ (s1 _ _ ha)))) (f2 ys (SqT.of (s2 _ _ (s1 _ _ hb)))) s2 hD nT⟩
            · rintro H2 ⟨s2, hD⟩
              exact fin D H2 s2 hD
end
end Sf
namespace Sf
open PySem PySem.Spec PyProof.Rows L2 TL
section
variable {P : Program} {w : World} {K : PySem.W.Frag} {mg : Str → Option Value} {base : Heap}
/-! ### is_word -/
def isW (x : Str) : Bool := decide (x.length ≤ 60) && (tl x).all sgn
def spIsWord : Sp := fun vs H Q _ => ∃ x : Str, vs = [.str x] ∧ x.length ≤ 100000 ∧ ∀ H', Same H H' → Q (.bl (isW x)) H'
abbrev HasIsWord (P : Program) (w : World) (K : PySem.W.Frag) (mg : Str → Option Value) (base : Heap) : Prop := Has P w K mg base 1 "is_word" ["text"] spIsWord
theorem sc_isword : FnScope ["text", "sign"] ["text"] (defScope s_is_word) := ⟨rfl, rfl, rfl, by decide +kernel, rfl, by decide +kernel, by decide +kernel⟩
theorem dec_signs {c : Nat} : decide (c ∈ (Str.ofString "aAbBcCdDeEfFgGhH").cps.toList) = sgn c := by
  rw [Bool.eq_iff_iff, decide_eq_true_eq]
  exact in_signs
theorem getElem?_of_cps {x : Str} {i c : Nat} (h : x.cps[i]? = some c) : (tl x)[i]? = some c := by
  rw [← h]
  exact Array.getElem?_toList
theorem has_isword (F : FnAt K mg "is_word" s_is_word ["text"]) (B : Blt mg) {t1 t2 : Tok} (mM : mg "MOST_WORD" = some (.int 60 t1)) (mS : mg "SIGNS" = some (.str (Str.ofString "aAbBcCdDeEfFgGhH") t2)) : HasIsWord P w K mg base := F.has fun F => by
  refine F.ok sc_isword (fun vs H Q E h => ?_) (fun cdv A outer s H vs Q E hr h => ?_)
  · obtain ⟨x, rfl, _⟩ := h
    rfl
  · obtain ⟨x, rfl, hlen, q⟩ := h
    have hz : x.cps.size = (tl x).length := len_tl x
    refine ⟨_, pss_one (ps_ret (pe_and (pe_cmpR op_le (pe_callB call_len_str (by rfl) B.len PySem.boot_len (pa_cons (pv 0) pa_nil)) (pe_glob (v := .int 60) (by rfl) mM ⟨_, rfl⟩) (nomark _))
      (pe_one (pe_callB (cr_all rfl) (by rfl) B.all (by decide +kernel) (pa_cons (pe_lc (own := [("sign", 1)]) (g := gName 1) (tt := tYes) (by rfl) sc_isword.nd (pi_str (pv 0))
        (blkOk_by (own := [("sign", 1)]) (N := ["text", "sign"]) (sc := defScope s_is_word) (by decide +kernel)) (fun _ _ _ _ _ => pg_name (i := 1) sc_isword.nd rfl (.inl rfl)) (fun _ _ _ _ _ => pts_nil)
        (fun _ _ _ _ _ => pe_cmpR op_in_sign (pv 1) (pe_glob (v := .str (Str.ofString "aAbBcCdDeEfFgGhH")) (by rfl) mS ⟨_, rfl⟩) rfl)) pa_nil))))), ?_⟩
    refine ⟨_, rfl, x, rfl, line_of hlen, _, 60, rfl, rfl, _, rfl, ite2 (fun e => ?_) (fun e => ?_)⟩
    · refine ⟨_, rfl, x, rfl, fun D nD => ?_⟩
      refine lc_gen (n := x.cps.size) (fun i H2 => Same H H2 ∧ H2 D = some (.lst (((tl x).take i).map fun c => V.bl (sgn c)))) ⟨same_upd nD, upd_same⟩ ?_ ?_ ?_ ?_
      · rintro i H2 hi ⟨s2, hD⟩
        exact hi
      · rintro H2 ⟨s2, hD⟩
        exact Nat.le_refl _
      · rintro i v H2 H3 hi ⟨s2, hD⟩ ⟨rfl, c, hc, rfl⟩
        refine ⟨rfl, yes_if ?_⟩
        refine ⟨_, rfl, c, _, rfl, rfl, _, hD, ?_, fun a o e => ?_, ?_⟩
        · rw [List.length_map, List.length_take]
          exact lineLt_of (Nat.le_trans (Nat.min_le_right _ _) (by rw [← hz]; exact hlen))
        · rw [upd_ne (ne_of_none e nD)]
          exact s2 _ _ e
        · have ed : decide (c ∈ (Str.ofString "aAbBcCdDeEfFgGhH").cps.toList) = sgn c := dec_signs
          rw [upd_same, List.take_add_one, getElem?_of_cps hc, List.map_append, ed]
          rfl
      · rintro H2 ⟨s2, hD⟩
        refine ⟨D, (tl x).map sgn, rfl, SqL.of ?_, ?_⟩
        · rw [hD, List.take_of_length_le (by rw [hz]; exact Nat.le_refl _), List.map_map]
          rfl
        · have h1 := q H2 s2
          have e1 : decide (x.length ≤ 60) = true := decide_eq_true (by have := of_decide_eq_true e; omega)
          have e2 : ((tl x).map sgn).all id = (tl x).all sgn := by
            rw [List.all_map]
            rfl
          rw [e2]
          unfold isW at h1
          rw [e1, Bool.true_and] at h1
          exact h1
    · have h1 := q H (.refl H)
      have e1 : decide (x.length ≤ 60) = false := decide_eq_false (fun z => e (decide_eq_true (by omega)))
      unfold isW at h1
      rw [e1, Bool.false_and] at h1
      exact h1
end
end Sf
namespace Sf
open PySem PySem.Spec PyProof.Rows L2 TL
section
variable {X : Cx}
/-! ### text * int -/
theorem op_mul_str : OpR X (binaryOp .Mult) (fun x y H Q => ∃ (a : Str) (n : Int), x = .str a ∧ y = .int n ∧ 0 ≤ n ∧ n ≤ 1000 ∧ a.length ≤ 1000 ∧ Q (.str (Txt.mul a n)) H) := by
  intro pins s σ H x y v u Q I rx ry h
  obtain ⟨a, n, rfl, rfl, h0, h1, h2, q⟩ := h
  obtain ⟨t, rfl⟩ := rx
  obtain ⟨t', rfl⟩ := ry
  refine PySem.SB.mul ⟨?_, fun hn _ => ?_, fun _ _ => ?_⟩ fun t' k => ⟨.str _, H, I.tok k, ⟨t', rfl⟩, q⟩
  · rw [decide_eq_false (by omega), decide_eq_false (by omega)]
    rfl
  · have h3 : (2 ^ 63 - 1) / n ≥ 9223372036854775807 / 1000 := by
      show (9223372036854775807 : Int) / 1000 ≤ (2 ^ 63 - 1) / n
      have e : (2 ^ 63 - 1 : Int) = 9223372036854775807 := by decide
      rw [e]
      refine (Int.le_ediv_iff_mul_le (by omega)).mpr ?_
      have : (9223372036854775807 : Int) / 1000 * n ≤ (9223372036854775807 : Int) / 1000 * 1000 := Int.mul_le_mul_of_nonneg_left h1 (by decide)
      have e2 : (9223372036854775807 : Int) / 1000 * 1000 ≤ 9223372036854775807 := by decide
      omega
    have e3 : (9223372036854775807 : Int) / 1000 = 9223372036854775 := by decide
    omega
  · refine PyProof.Rows.short24 ?_
    have h5 : n.toNat ≤ 1000 := by omega
    exact Nat.le_trans (Nat.mul_le_mul h2 h5) (by decide)
theorem foldl_app (a : Array Nat) : ∀ (k : Nat) (acc : Array Nat) (c : Nat), c ∈ ((List.replicate k a).foldl (· ++ ·) acc).toList → c ∈ acc.toList ∨ c ∈ a.toList
  | 0, acc, c, h => .inl h
  | k + 1, acc, c, h => by
    rw [List.replicate_succ, List.foldl_cons] at h
    rcases foldl_app a k (acc ++ a) c h with h | h
    · rw [Array.toList_append, List.mem_append] at h
      exact h
    · exact .inr h
theorem mul_mem {a : Str} {n : Int} {c : Nat} (h : c ∈ tl (Txt.mul a n)) : c ∈ tl a := by
  unfold Txt.mul at h
  split at h
  · cases h
  · split at h
    · exact h
    · rcases foldl_app a.cps n.toNat #[] c h with h | h
      · cases h
      · exact h
theorem Wd.mul {a : Str} {n : Int} (h : Wd a) : Wd (Txt.mul a n) := fun c hc => h c (mul_mem hc)
theorem tl_cut (z : Str) (lo hi : Option Int) : tl (cutS z lo hi) = ((tl z).drop (HT.sIx z.length 0 lo)).take (HT.sIx z.length z.length hi - HT.sIx z.length 0 lo) := by
  unfold cutS
  rfl
theorem Wd.cut {z : Str} {lo hi : Option Int} (h : Wd z) : Wd (cutS z lo hi) := fun c hc => by
  rw [tl_cut] at hc
  exact h c (List.mem_of_mem_drop (List.mem_of_mem_take hc))
end
end Sf
namespace Sf
open PySem PySem.Spec PyProof.Rows L2 TL
section
variable {X : Cx}
/-! ### text[::-1] -/
def revS (z : Str) : Str := ⟨(tl z).reverse.toArray⟩
theorem tl_revS (z : Str) : tl (revS z) = (tl z).reverse := rfl
theorem rev_picked (z : Str) : ((Builtin.Str.strSliceIndices none none (-1) z.length).filterMap (z.cps[·]?)) = (tl z).reverse := by
  rw [picked_rev]
  apply List.ext_getElem?
  intro i
  have hz : z.length = (tl z).length := len_tl z
  rw [PyProof.Rows.filterMap_get _ _ (fun k hk => by
    obtain ⟨j, hj, rfl⟩ := List.mem_map.mp hk
    have := List.mem_range.mp hj
    show z.length - 1 - j < z.length
    omega), List.map_map]
  by_cases h : i < z.length
  · rw [List.getElem?_reverse (by omega), List.getElem?_map, List.getElem?_range h]
    show some (z.cps.getD (z.length - 1 - i) 0) = _
    have h2 : z.length - 1 - i < z.cps.size := by show z.length - 1 - i < z.length; omega
    rw [← hz, Array.getElem?_toList]
    simp [Array.getD, h2]
  · rw [List.getElem?_eq_none (by rw [List.length_map, List.length_range]; omega), List.getElem?_eq_none (by rw [List.length_reverse, ← hz]; omega)]
def tRevS (te : TE) : TE := fun σ H Q => te σ H fun x H1 => ∃ z, x = .str z ∧ z.length ≤ sizeLine ∧ Q (.str (revS z)) H1
theorem pe_revS {e : Expr} {te : TE} {k : Nat} {p1 p2 p3 pos : Pos} (he : PE X e te) : PE X (.Subscript e (.Slice none none (some (.UnaryOp .USub (.Constant (.int 1) k p1) p2)) p3) pos) (tRevS te) := by
  refine ⟨fun pins s σ H Q I h => ?_⟩
  refine Subscript_ (thn (he.run pins s σ H _ I h) fun v s1 ⟨x, H1, I1, r1, q1⟩ => ?_)
  obtain ⟨z, ex, hz, q⟩ := q1
  subst ex
  obtain ⟨tz, rfl⟩ := r1
  have hst : PO X (some (.UnaryOp .USub (.Constant (.int 1) k p1) p2)) (tPart (tUn (rU fun i => .int (-i)) (tC (.int 1)))) := po_some (pe_un un_neg pe_int)
  refine wpAny_Slice (thn (po_none.run pins s1 σ H1 (fun o H2 => o = none ∧ H2 = H1) I1 ⟨rfl, rfl⟩) fun vl s2 ⟨l, H2, I2, pl, el, e2⟩ => ?_)
  subst el e2
  refine thn (po_none.run pins s2 σ H2 (fun o H3 => o = none ∧ H3 = H2) I2 ⟨rfl, rfl⟩) fun vu s3 ⟨u, H3, I3, pu, eu, e3⟩ => ?_
  subst eu e3
  refine thn (hst.run pins s3 σ H3 (fun o H4 => o = some (-1) ∧ H4 = H3) I3 ⟨1, rfl, -1, rfl, rfl, rfl⟩) fun vs s4 ⟨o, H4, I4, ps, eo, e4⟩ => ?_
  subst eo e4
  cases pl
  cases pu
  cases ps with
  | int _ ts =>
  have I5 : Inv X pins σ H4 { s4 with heap := s4.heap.push { cls := .type "slice", data := .fields #[.none, .none, .int (-1) ts] } } := I4.kept (t' := s4.toks) fun b ob q => Heap.get?_push_of_some _ q
  show wpAny (model X.prog X.w) X.A (subscriptTail e (.Slice none none (some (.UnaryOp .USub (.Constant (.int 1) k p1) p2)) p3) (.str z tz) (.ref s4.heap.objs.size)) (EP X pins σ Q) X.xe { s4 with heap := s4.heap.push { cls := .type "slice", data := .fields #[.none, .none, .int (-1) ts] } }
  refine tail_any (ops := [.str z tz, .ref s4.heap.objs.size]) (typeIs_str _ _ _) (PySem.F.slot_str_getitem.lookup) ?_ (by with_unfolding_all rfl)
  refine wpAny_getItem_str_slice (l := none) (u := none) (st := some (-1, ts)) ⟨_, Heap.get?_push_size _ rfl, rfl, rfl⟩ rfl ?_
  have e1 : sliceMade z tz none none (some (-1, ts)) = Made.str (revS z) := by
    unfold sliceMade slicePicked
    have h1 : ¬ (((((some ((-1 : Int), ts)).map (·.1)).getD 1 == 1) && ((Builtin.Str.strSliceIndices ((none : Option (Int × Tok)).map (·.1)) ((none : Option (Int × Tok)).map (·.1)) (((some ((-1 : Int), ts)).map (·.1)).getD 1) z.length).length == z.length)) = true) := by
      have : ((((some ((-1 : Int), ts)).map (·.1)).getD 1 == 1)) = false := rfl
      rw [this]
      simp
    rw [if_neg h1]
    show Made.str ⟨((Builtin.Str.strSliceIndices none none (-1) z.length).filterMap (z.cps[·]?)).toArray⟩ = _
    rw [rev_picked]
    rfl
  rw [e1]
  refine ⟨?_, .str _, H4, I5.tok _, ⟨_, rfl⟩, q⟩
  rw [len_tl, tl_revS, List.length_reverse, ← len_tl]
  exact hz
theorem sgn_lt {c : Nat} (h : sgn c = true) : c < 128 := by
  rw [sgn_iff] at h
  omega
theorem rev_wd {x : Str} (h : Wd x) : Wd (revS x) := fun c hc => h c (List.mem_reverse.mp hc)
theorem revS_len (x : Str) : (revS x).length = x.length := by rw [len_tl, tl_revS, List.length_reverse, ← len_tl]
end
end Sf
namespace Sf
open PySem PySem.Spec PyProof.Rows L2 TL
/-! ### words as lists of codes; the stack of a walk (its head is the last sign) -/
abbrev Sg (l : List Nat) : Prop := ∀ c ∈ l, sgn c = true
def pushS (s : List Nat) (c : Nat) : List Nat :=
  match s with
  | [] => [c]
  | x :: t => if x = flipC c then t else c :: x :: t
def RedS : List Nat → Prop
  | [] => True
  | [_] => True
  | x :: y :: t => y ≠ flipC x ∧ RedS (y :: t)
def backL (w : List Nat) : List Nat := (w.map flipC).reverse
theorem backL_sg {w : List Nat} (h : Sg w) : Sg (backL w) := fun c hc => by
  unfold backL at hc
  rw [List.mem_reverse, List.mem_map] at hc
  obtain ⟨d, hd, rfl⟩ := hc
  exact flip_sgn (h d hd)
def push (l : List Nat) (c : Nat) : List Nat := (pushS l.reverse c).reverse
theorem RedS.join : ∀ {a : List Nat} {y : Nat} {s : List Nat}, RedS (a ++ [y]) → RedS (y :: s) → RedS (a ++ y :: s)
  | [], _, _, _, h => h
  | [x], y, s, h, k => ⟨h.1, k⟩
  | x :: z :: a, y, s, h, k => ⟨h.1, RedS.join (a := z :: a) h.2 k⟩
end Sf
namespace Sf
open PySem PySem.Spec PyProof.Rows L2 TL
/-! ### texts of words -/
def mkS (l : List Nat) : Str := ⟨l.toArray⟩
theorem tl_mkS (l : List Nat) : tl (mkS l) = l := rfl
theorem mkS_len (l : List Nat) : (mkS l).length = l.length := by rw [len_tl, tl_mkS]
theorem eq_mkS {x : Str} {l : List Nat} (h : tl x = l) : x = mkS l := ext_tl h
/-- a word undone, reduced, glued, as texts -/
def backT (x : Str) : Str := mkS (backL (tl x))
theorem backT_wd {x : Str} (h : Wd x) : Wd (backT x) := fun c hc => backL_sg h c hc
theorem backT_len (x : Str) : (backT x).length = x.length := by
  unfold backT backL
  rw [mkS_len, List.length_reverse, List.length_map, len_tl]
end Sf
namespace Sf
open PySem PySem.Spec PyProof.Rows L2 TL
section
variable {P : Program} {w : World} {K : PySem.W.Frag} {mg : Str → Option Value} {base : Heap}
theorem sc_need : FnScope ["text"] ["text"] (defScope s_need_word) := ⟨rfl, rfl, rfl, by decide +kernel, rfl, by decide +kernel, by decide +kernel⟩
end
end Sf
namespace Sf
open PySem PySem.Spec PyProof.Rows L2 TL
section
variable {P : Program} {w : World} {K : PySem.W.Frag} {mg : Str → Option Value} {base : Heap}
end
end Sf
namespace Sf
open PySem PySem.Spec PyProof.Rows L2 TL
section
variable {P : Program} {w : World} {K : PySem.W.Frag} {mg : Str → Option Value} {base : Heap}
end
end Sf
namespace Sf
open PySem PySem.Spec PyProof.Rows L2 TL
/-! ### {**a, **b} -/
section
variable {prog : Program} {w : World} {A : Around} {E : Value → Shared → Prop} {s : Shared}
theorem put_pairs {d : Addr} {kvs : List (Key × Value)} {k : Key} {key v : Value} {Q : Unit → Shared → Prop} (hkey : (mixKind prog w).is k key = true) (hm : s.heap.DictOf (mixKind prog w) d kvs)
    (hQ : ∀ h', h'.DictOf (mixKind prog w) d (stored kvs k v) → Heap.SameBut d s.heap h' → Q () { s with heap := h' })
    (hsz : kvs.length ≤ sizeLine) : wpAny (model prog w) A (dictPut d ((mixKind prog w).hash k) key v) Q E s := by
  obtain ⟨o, es, ep, ho, hc, hd, hk, hp, hn⟩ := hm
  have hes : es.size ≤ sizeLine := by
    have e1 := hp.length
    have e2 : es.toList.length = es.size := by simp
    omega
  unfold dictPut
  refine wpAny_bind (wpAny_dictFind_of hkey ho hd hk ?_)
  have hidx : (es.findIdx? fun e => (mixKind prog w).is k e.key) = kvs.findIdx? fun kv => decide (kv.1 = k) := by
    rw [← hp.findIdx k]
    obtain ⟨l⟩ := es
    simp
  cases hi : es.findIdx? fun e => (mixKind prog w).is k e.key with
  | some i =>
    refine wpAny_updateDict ho hd (hQ _ ⟨_, _, ep, Heap.get?_update_self _ ho (Obj.isFreed_of_dict (Obj.data_mapDict hd _)), hc.mapDict _, Obj.data_mapDict hd _, hk.modify _ _, ?_, ?_⟩ (Heap.SameBut.update ..))
    · rw [stored, if_pos (any_of_findIdx_some (hidx ▸ hi))]
      have hl : (es.toList.findIdx? fun e => (mixKind prog w).is k e.key) = some i := by
        rw [← hi]
        obtain ⟨l⟩ := es
        simp
      have := hp.modify hn hl v
      obtain ⟨l⟩ := es
      simpa using this
    · rw [stored, if_pos (any_of_findIdx_some (hidx ▸ hi)), keys_map_store]
      exact hn
  | none =>
    have hnot : k ∉ kvs.map (·.1) := not_mem_of_findIdx_none (hidx ▸ hi)
    have hany : ¬ (kvs.any fun kv => decide (kv.1 = k)) = true := by
      rw [List.any_eq_true]
      rintro ⟨kv, hkv, he⟩
      exact hnot (List.mem_map.mpr ⟨kv, hkv, of_decide_eq_true he⟩)
    refine wpAny_updateDictKeys (hz := hes) ho hd (hQ _ ⟨_, _, ep + 1, Heap.get?_update_self _ ho (Obj.isFreed_of_dict (Obj.data_mapDictKeys hd _)), hc.mapDictKeys _, Obj.data_mapDictKeys hd _, hk.push hkey _, ?_, ?_⟩ (Heap.SameBut.update ..))
    · rw [stored, if_neg hany]
      have := hp.append hkey ((mixKind prog w).hash k) v
      obtain ⟨l⟩ := es
      simpa using this
    · rw [stored, if_neg hany, List.map_append, List.nodup_append]
      refine ⟨hn, by simp, ?_⟩
      intro a ha b hb
      simp only [List.map_cons, List.map_nil, List.mem_singleton] at hb
      subst hb
      exact fun e => hnot (e ▸ ha)
theorem merge_pairs {d o : Addr} {kvs more : List (Key × Value)} {Q : Unit → Shared → Prop} (hdo : d ≠ o) (hoS : (o == sysModules) = false) (hd : s.heap.DictOf (mixKind prog w) d kvs) (ho : s.heap.DictOf (mixKind prog w) o more)
    (hQ : ∀ h', h'.DictOf (mixKind prog w) d (merged kvs more) → Heap.SameBut d s.heap h' → Q () { s with heap := h' }) (hsz : kvs.length + more.length ≤ sizeLine) :
    wpAny (model prog w) A (mergeMapping d (.ref o) false) Q E s := by
  obtain ⟨od, esd, epd, hod, hcd, hdd, hkd, hpd, hnd⟩ := id hd
  obtain ⟨oo, eso, epo, hoo, hco, hdo', hko, hpo, hno⟩ := id ho
  have hlen : more.length = eso.size := by rw [← hpo.length]; simp
  unfold mergeMapping
  refine wpAny_bind (wpAny_isInstance ho.typeIs isSubtype_dict_dict ?_)
  simp only [if_true]
  refine wpAny_bind (wpAny_specialOf ho.typeIs PySem.F.slot_dict_iter.lookup ?_)
  refine wpAny_bind (wpAny_pure ?_)
  simp only [beq_self_eq_true]
  rw [if_neg (by rw [hoS]; exact Bool.false_ne_true)]
  refine wpAny_bind (wpAny_dictEntries hod hdd ?_)
  have loop : wpAny (model prog w) A (do
      let l ← dictEntries o
      let epoch ← dictEpoch o
      forIn (List.range l.size) PUnit.unit fun i (_ : PUnit) => (do
          let l' ← dictEntries o
          match l'[i]? with
            | some e => do
              holding [e.key, e.val] (dictPut d e.hash e.key e.val)
              let ep' ← dictEpoch o
              if (ep' != epoch) = true then do
                  (unsupported "dict.changed-during-merge" : Sem PUnit)
                  pure (ForInStep.yield PUnit.unit)
                else pure (ForInStep.yield PUnit.unit)
            | _ => do
              (unsupported "dict.changed-during-merge" : Sem PUnit)
              pure (ForInStep.yield PUnit.unit) : Sem (ForInStep PUnit))
      pure ()) Q E s := by
    refine wpAny_bind (wpAny_dictEntries hoo hdo' ?_)
    refine wpAny_bind (wpAny_dictEpoch hoo hdo' ?_)
    refine wpAny_bind ?_
    rw [List.range_eq_range']
    refine wpAny_forIn_list _
      (fun rest _ s' => ∃ h' i, s' = { s with heap := h' } ∧ rest = List.range' i (eso.size - i) ∧ i ≤ eso.size ∧ h'.DictOf (mixKind prog w) d (merged kvs (more.take i)) ∧ h'.get? o = some oo ∧ Heap.SameBut d s.heap h')
      _ ?_ ?_ _ _ ⟨s.heap, 0, rfl, by simp, Nat.zero_le _, by simpa [merged] using hd, hoo, Heap.SameBut.refl _ _⟩
    · rintro x rest b s' ⟨h', i, rfl, hr, hi, hd', hoo', hs'⟩
      have hlt : i < eso.size := by
        rcases Nat.lt_or_ge i eso.size with h | h
        · exact h
        · rw [Nat.sub_eq_zero_of_le h] at hr
          simp at hr
      obtain ⟨rfl, hrest⟩ : x = i ∧ rest = List.range' (i + 1) (eso.size - (i + 1)) := by
        have e : eso.size - i = (eso.size - (i + 1)) + 1 := by omega
        rw [e, List.range'_succ] at hr
        injection hr with h1 h2
        exact ⟨h1, h2⟩
      refine wpAny_bind (wpAny_dictEntries hoo' hdo' ?_)
      rw [Array.getElem?_eq_getElem hlt]
      obtain ⟨kv, hkv⟩ : ∃ kv, more[x]? = some kv := ⟨more[x]'(by rw [hlen]; exact hlt), List.getElem?_eq_getElem _⟩
      obtain ⟨k, v⟩ := kv
      obtain ⟨hkey, hval⟩ := hpo.get? (e := eso[x]) (by simp [hlt]) hkv
      obtain ⟨k', hkey', hhash⟩ := hko eso[x] (Array.getElem_mem hlt)
      obtain rfl : k' = k := (mixKind prog w).inj _ _ _ hkey' hkey
      show wpAny _ _ (holding [eso[x].key, eso[x].val] (dictPut d eso[x].hash eso[x].key eso[x].val) >>= _) _ _ _
      rw [hhash, hval]
      have hmx : (merged kvs (more.take x)).length ≤ sizeLine := by
        have e1 := merged_length_le kvs (more.take x)
        have e2 : (more.take x).length ≤ more.length := by rw [List.length_take]; omega
        omega
      refine wpAny_bind (wpAny_holding (put_pairs (hsz := hmx) hkey hd' fun h'' hd'' hs'' => ?_))
      have hoo'' : h''.get? o = some oo := (hs''.2 o (Ne.symm hdo)).trans hoo'
      refine wpAny_bind (wpAny_dictEpoch hoo'' hdo' ?_)
      rw [if_neg (by simp)]
      exact wpAny_pure ⟨h'', x + 1, rfl, hrest, hlt, by rw [merged_take_succ kvs more x (k', v) hkv]; exact hd'', hoo'', hs'.trans hs''⟩
    · rintro b s' ⟨h', i, rfl, hr, hi, hd', hoo', hs'⟩
      have hin : i = eso.size := by
        rcases Nat.lt_or_ge i eso.size with h | h
        · have e : eso.size - i = (eso.size - (i + 1)) + 1 := by omega
          rw [e, List.range'_succ] at hr
          exact nomatch hr
        · exact Nat.le_antisymm hi h
      refine wpAny_pure (hQ h' ?_ hs')
      rw [hin, ← hlen, List.take_length] at hd'
      exact hd'
  split
  · refine wpAny_bind (wpAny_dictEntries hoo hdo' ?_)
    refine wpAny_bind (MeetsSeq2.wpAny_forIn_array _ (fun rest _ s' => s' = s ∧ ∀ e ∈ rest, e ∈ eso.toList) _ (fun e rest b s' hI => ?_) (fun b s' hI => ?_) _ _ ⟨rfl, fun e he => he⟩)
    · obtain ⟨rfl, hmem⟩ := hI
      obtain ⟨k', hkey', hhash⟩ := hko e (Array.mem_toList_iff.mp (hmem e (List.mem_cons_self ..)))
      have hrest : ∀ e' ∈ rest, e' ∈ eso.toList := fun e' he' => hmem e' (List.mem_cons_of_mem _ he')
      rcases keyIs_shape (show keyIs k' e.key = true from hkey') with ⟨i, t, _, ek⟩ | ⟨x, t, _, ek⟩
      · rw [ek]
        exact wpAny_pure ⟨rfl, hrest⟩
      · rw [ek]
        exact wpAny_pure ⟨rfl, hrest⟩
    · obtain ⟨rfl, _⟩ := hI
      exact loop
  · exact loop
end
section
variable {X : Cx}
theorem stored_put {kvs : List (Key × V)} {vs : List (Key × Value)} (r : KV kvs vs) : ∀ {more : List (Key × V)} {ws : List (Key × Value)}, KV more ws → KV (more.foldl (fun a p => putK a p.1 p.2) kvs) (merged vs ws) := by
  intro more ws h
  induction h generalizing kvs vs with
  | nil => exact r
  | cons p q ih =>
    rename_i a b l m
    obtain ⟨e, rv⟩ := p
    show KV (List.foldl _ (putK kvs a.1 a.2) l) (merged (stored vs b.1 b.2) m)
    rw [← e]
    exact ih (r.put a.1 rv)
def mergeV (a b : List (Key × V)) : List (Key × V) := b.foldl (fun a p => putK a p.1 p.2) a
theorem mergeV_len (a b : List (Key × V)) : (mergeV a b).length ≤ a.length + b.length := by
  unfold mergeV
  induction b generalizing a with
  | nil => simp
  | cons p b ih =>
    rw [List.foldl_cons]
    have h1 := ih (putK a p.1 p.2)
    have h2 := length_putK a p.1 p.2
    simp only [List.length_cons]
    omega
theorem merge_run {A : Around} {E : Value → Shared → Prop} {pins : List (Addr × Obj)} {σ : L2.St} {H : Hp} {s : Shared} {d o : Addr} {kvs more : List (Key × V)} {Q : Unit → Shared → Prop} (I : Inv X pins σ H s) (hdo : d ≠ o) (hd : H d = some (.dK kvs)) (ho : H o = some (.dK more)) (hsz : kvs.length + more.length ≤ sizeLine)
    (h : ∀ s', Inv X pins σ (upd H d (.dK (mergeV kvs more))) s' → Q () s') : wpAny (model X.prog X.w) A (mergeMapping d (.ref o) false) Q E s := by
  obtain ⟨z1, hs1, vs, rel, dd⟩ := dk_of I.hok hd
  obtain ⟨z2, hs2, ws, rel2, dd2⟩ := dk_of I.hok ho
  refine merge_pairs hdo hs2 dd dd2 (fun h' dd' hs => h _ ?_) (by rw [← rel.length, ← rel2.length]; exact hsz)
  have he : ∃ q, h'.get? d = some q := let ⟨q, _, _, hq, _⟩ := dd'; ⟨q, hq⟩
  exact d_write I (by rw [hd]; exact True.intro) hs he (dk_new (Nat.le_trans (mergeV_len _ _) hsz) hs1 (stored_put rel rel2) dd')
end
end Sf
namespace Sf
open PySem PySem.Spec PyProof.Rows L2 TL
def MAt (K : PySem.W.Frag) (C : Addr) (m q : Str) (st : Stmt) (ps : List Str) : Prop := ∃ (f : Addr) (fd : FuncData), Meth K C m f ∧ Fun K m q st f fd ∧ Binds K fd ps []
def HasM (P : Program) (w : World) (K : PySem.W.Frag) (mg : Str → Option Value) (base : Heap) (C : Addr) (k : Nat) (m : Str) (ps : List Str) (sp : Sp) : Prop :=
  ∃ (f : Addr) (fd : FuncData), Meth K C m f ∧ Binds K fd ps [] ∧ FnOk P w K mg base CX0 k f fd ps sp
theorem MAt.has {P : Program} {w : World} {K : PySem.W.Frag} {mg : Str → Option Value} {base : Heap} {C : Addr} {k : Nat} {m q : Str} {st : Stmt} {ps : List Str} {sp : Sp} (h : MAt K C m q st ps)
    (ok : ∀ {f : Addr} {fd : FuncData}, Fun K m q st f fd → FnOk P w K mg base CX0 k f fd ps sp) : HasM P w K mg base C k m ps sp := by
  obtain ⟨f, fd, g, F, b⟩ := h
  exact ⟨f, fd, g, b, ok F⟩
theorem mAt_mk {K : PySem.W.Frag} {C : Addr} {m q : Str} {st : Stmt} {ps : List Str} {f : Addr} {oc : Value} {od an : Option Addr} {osl : Array (Option Value)} {kV doc pm cdv ct : Value}
    (a : PySem.W.findIn K (.ref C) m = some (some (.ref f))) (i : PySem.W.isFn K (.ref f) = true) (l : K.lookup f = some ⟨oc, od, .func (PySem.W.fnOf m q (defArgs st) (defBody st) (defScope st) .none kV doc pm an cdv ct), osl⟩)
    (c : PySem.W.codeIn K cdv q = true) (k : PySem.W.keepIn K (.ref f) = true)
    (b : ∀ (kV doc pm : Value) (an : Option Addr) (cdv ct : Value) (us : List Value), us.length = ps.length → bindArgs (PySem.W.fnOf m q (defArgs st) (defBody st) (defScope st) .none kV doc pm an cdv ct) ⟨us, []⟩ = pure (ps.zip us)) : MAt K C m q st ps :=
  ⟨f, _, ⟨a, i, k⟩, fun_mk l c k, (fun_mk l c k).binds b⟩
end Sf
namespace Sf
open PySem PySem.Spec PyProof.Rows L2 TL
/-! ### ==, != and len of an own class -/
section
variable {X : Cx} {k : Nat} {f C : Addr} {fd : FuncData} {ps : List Str} {sp : Sp}
end
end Sf
namespace Sf
open PySem PySem.Spec PyProof.Rows L2 TL
section
variable {X : Cx}
end
end Sf
namespace Sf
open PySem PySem.Spec PyProof.Rows L2 TL
/-! ### the readings, step by step -/
theorem pe_gS {X : Cx} {x z : Str} {t : Tok} {pos : Pos} (hg : Gl X x) (hm : X.mg x = some (.str z t)) (hd : (x == ("__debug__" : Str)) = false := by decide) : PE X (.Name x pos) (tC (.str z)) := pe_glob (v := .str z) hg hm ⟨t, rfl⟩ hd
theorem pe_gI {X : Cx} {x : Str} {z : Int} {t : Tok} {pos : Pos} (hg : Gl X x) (hm : X.mg x = some (.int z t)) (hd : (x == ("__debug__" : Str)) = false := by decide) : PE X (.Name x pos) (tC (.int z)) := pe_glob (v := .int z) hg hm ⟨t, rfl⟩ hd
/-- a new object at p -/
structure Nw (p : Addr) (H H1 : Hp) : Prop where
  nn : H p = none
  off : ∀ a, a ≠ p → H1 a = H a
/-- all but what stands at p is as it was -/
def Of (p : Addr) (H H1 : Hp) : Prop := ∀ a, a ≠ p → H1 a = H a
theorem Nw.at {p a : Addr} {H H1 : Hp} {o : HO} (n : Nw p H H1) (h : H a = some o) : H1 a = some o := by
  rw [n.off a (ne_of_none h n.nn)]
  exact h
theorem Nw.same {p : Addr} {H H1 : Hp} (n : Nw p H H1) : Same H H1 := fun _ _ h => n.at h
theorem Nw.ne {p a : Addr} {H H1 : Hp} {o : HO} (n : Nw p H H1) (h : H a = some o) : a ≠ p := ne_of_none h n.nn
theorem _root_.L2.Same.at {a : Addr} {H H1 : Hp} {o : HO} (n : Same H H1) (h : H a = some o) : H1 a = some o := n _ _ h
theorem Of.at {p a : Addr} {H H1 : Hp} {o : HO} (n : Of p H H1) (ne : a ≠ p) (h : H a = some o) : H1 a = some o := by
  rw [n a ne]
  exact h
theorem Fx.at {b a : Addr} {H H1 : Hp} {o : HO} (n : Fx b H H1) (ne : a ≠ b) (h : H a = some o) : H1 a = some o := n _ _ h ne
theorem Nw.mk' {p : Addr} {H : Hp} {o : HO} (h : H p = none) : Nw p H (upd H p o) := ⟨h, fun _ n => upd_ne n⟩
theorem _root_.L2.Same.off {p : Addr} {H H1 H2 : Hp} (s : Same H H1) (o : Of p H1 H2) (n : H p = none) : Same H H2 := fun a u h => o.at (ne_of_none h n) (s _ _ h)
theorem _root_.L2.Same.nw {p : Addr} {H H1 H2 : Hp} (s : Same H H1) (o : Nw p H1 H2) : Same H H2 := s.trans o.same
theorem Of.mk' {p : Addr} {H : Hp} {o : HO} : Of p H (upd H p o) := fun _ n => upd_ne n
theorem Bag.nw {H H1 : Hp} {b l p : Addr} (h : Bag H b l) (n : Nw p H H1) : Bag H1 b l := h.same n.same
theorem Bag.off {H H1 : Hp} {b l p : Addr} (h : Bag H b l) (n1 : p ≠ b) (n2 : p ≠ l) (o : Of p H H1) : Bag H1 b l := by
  obtain ⟨ns, k, z, r, h⟩ := h
  exact ⟨ns, k, z, r, o.at n1.symm h.hb, o.at n2.symm h.hl, h.k0, h.z0, h.r0, h.r1⟩
theorem Fx.nw {b p : Addr} {H H1 H2 : Hp} (f : Fx b H H1) (n : Nw p H1 H2) : Fx b H H2 := f.same n.same
theorem Fx.off {b p : Addr} {H H1 H2 : Hp} (f : Fx b H H1) (o : Of p H1 H2) (n : H p = none) : Fx b H H2 := fun a u e hb => o.at (ne_of_none e n) (f a u e hb)
section
variable {σ : L2.St} {H : Hp} {Q : VK} {D : Ends} {K : PySem.W.Frag}
theorem w_var {i : Nat} {v : V} (h : σ[i]? = some (some v)) (q : Q v H) : tVar i σ H Q := ⟨v, h, q⟩
theorem w_c {v : V} (q : Q v H) : tC v σ H Q := q
theorem w_op {r : R2} {ta tb : TE} (q : ta σ H fun x H1 => tb σ H1 fun y H2 => r x y H2 Q) : tOp r ta tb σ H Q := q
theorem w_un {r : V → Hp → VK → Prop} {ta : TE} (q : ta σ H fun x H1 => r x H1 Q) : tUn r ta σ H Q := q
theorem w_i0 {g : Int → Int → V} {i j : Int} (q : Q (g i j) H) : rI0 g (.int i) (.int j) H Q := ⟨i, j, rfl, rfl, q⟩
theorem w_i {C : Int → Int → Prop} {g : Int → Int → V} {i j : Int} (c : C i j) (q : Q (g i j) H) : rI C g (.int i) (.int j) H Q := ⟨i, j, rfl, rfl, c, q⟩
theorem w_u {g : Int → V} {i : Int} (q : Q (g i) H) : rU g (.int i) H Q := ⟨i, rfl, q⟩
theorem dec_int (i j : Int) : decide (V.int i = V.int j) = decide (i = j) := by
  by_cases h : i = j
  · subst h; simp
  · rw [decide_eq_false h, decide_eq_false (fun e => h (V.int.inj e))]
theorem dec_str (i j : Str) : decide (V.str i = V.str j) = decide (i = j) := by
  by_cases h : i = j
  · subst h; simp
  · rw [decide_eq_false h, decide_eq_false (fun e => h (V.str.inj e))]
theorem dec_bl (i j : Bool) : decide (V.bl i = V.bl j) = decide (i = j) := by
  by_cases h : i = j
  · subst h; simp
  · rw [decide_eq_false h, decide_eq_false (fun e => h (V.bl.inj e))]
theorem w_eqI {i j : Int} (q : Q (.bl (decide (i = j))) H) : rEq (.int i) (.int j) H Q := ⟨rfl, by rw [dec_int]; exact q⟩
theorem w_neI {i j : Int} (q : Q (.bl (!decide (i = j))) H) : rNe (.int i) (.int j) H Q := ⟨rfl, by rw [dec_int]; exact q⟩
theorem w_eqS {i j : Str} (q : Q (.bl (decide (i = j))) H) : rEq (.str i) (.str j) H Q := ⟨rfl, by rw [dec_str]; exact q⟩
theorem w_neS {i j : Str} (q : Q (.bl (!decide (i = j))) H) : rNe (.str i) (.str j) H Q := ⟨rfl, by rw [dec_str]; exact q⟩
theorem w_eqB {i j : Bool} (q : Q (.bl (decide (i = j))) H) : rEq (.bl i) (.bl j) H Q := ⟨rfl, by rw [dec_bl]; exact q⟩
theorem w_neB {i j : Bool} (q : Q (.bl (!decide (i = j))) H) : rNe (.bl i) (.bl j) H Q := ⟨rfl, by rw [dec_bl]; exact q⟩
/-! texts -/
def rAddStr : R2 := fun x y H Q => ∃ i j, x = .str i ∧ y = .str j ∧ i.length + j.length ≤ sizeLine ∧ Q (.str (i ++ j)) H
theorem op_addS {X : Cx} : OpR X (binaryOp .Add) rAddStr := op_add_str
theorem w_addS {i j : Str} (h : i.length + j.length ≤ sizeLine) (q : Q (.str (i ++ j)) H) : rAddStr (.str i) (.str j) H Q := ⟨i, j, rfl, rfl, h, q⟩
def rInSign : R2 := fun x y H Q => ∃ (c : Nat) (z : Str), x = .str ⟨#[c]⟩ ∧ y = .str z ∧ Q (.bl (decide (c ∈ z.cps.toList))) H
theorem op_inSg {X : Cx} : OpR X (compareOp .In) rInSign := op_in_sign
theorem w_inSg {c : Nat} {z : Str} (q : Q (.bl (decide (c ∈ z.cps.toList))) H) : rInSign (.str (one c)) (.str z) H Q := ⟨c, z, rfl, rfl, q⟩
def rNotInSign : R2 := fun x y H Q => ∃ (c : Nat) (z : Str), x = .str ⟨#[c]⟩ ∧ y = .str z ∧ Q (.bl (!decide (c ∈ z.cps.toList))) H
theorem w_notInSg {c : Nat} {z : Str} (q : Q (.bl (!decide (c ∈ z.cps.toList))) H) : rNotInSign (.str (one c)) (.str z) H Q := ⟨c, z, rfl, rfl, q⟩
def rIsNone : R2 := fun x y H Q => y = .non ∧ Q (.bl (decide (x = .non))) H
theorem op_isNn {X : Cx} : OpR X (compareOp .Is) rIsNone := op_isN
theorem w_isN {x : V} (q : Q (.bl (decide (x = .non))) H) : rIsNone x .non H Q := ⟨rfl, q⟩
theorem w_isNI {i : Int} (q : Q (.bl false) H) : rIsNone (.int i) .non H Q := ⟨rfl, by rw [decide_eq_false (fun z => nomatch z)]; exact q⟩
theorem w_isNN (q : Q (.bl true) H) : rIsNone .non .non H Q := ⟨rfl, by rw [decide_eq_true rfl]; exact q⟩
def rNotNone : R2 := fun x y H Q => y = .non ∧ Q (.bl (!decide (x = .non))) H
theorem w_notN {x : V} (q : Q (.bl (!decide (x = .non))) H) : rNotNone x .non H Q := ⟨rfl, q⟩
theorem w_notNI {i : Int} (q : Q (.bl true) H) : rNotNone (.int i) .non H Q := ⟨rfl, by rw [decide_eq_false (fun z => nomatch z)]; exact q⟩
theorem w_notNN (q : Q (.bl false) H) : rNotNone .non .non H Q := ⟨rfl, by rw [decide_eq_true rfl]; exact q⟩
theorem w_slS {z : Str} {lo hi : Option Int} (h : z.length ≤ sizeLine) (q : Q (.str (cutS z lo hi)) H) : rSlS (.str z) lo hi H Q := ⟨z, rfl, h, q⟩
theorem w_sl {r : V → Option Int → Option Int → Hp → VK → Prop} {te : TE} {tl th : TO} (q : te σ H fun x H1 => tl σ H1 fun l H2 => th σ H2 fun u H3 => r x l u H3 Q) : tSl r te tl th σ H Q := q
theorem w_nopart {Q : Option Int → Hp → Prop} (q : Q none H) : tNoPart σ H Q := q
def kPart (Q : Option Int → Hp → Prop) : VK := fun x H1 => ∃ i, x = .int i ∧ Q (some i) H1
theorem w_part {t : TE} {Q : Option Int → Hp → Prop} (q : t σ H (kPart Q)) : tPart t σ H Q := q
theorem w_kpart {i : Int} {Q : Option Int → Hp → Prop} (q : Q (some i) H) : kPart Q (.int i) H := ⟨i, rfl, q⟩
theorem w_ixS {z : Str} {i : Int} {c : Nat} (hl : z.length ≤ sizeLine) (h : atI z.cps.toList i = some c) (q : Q (.str (one c)) H) : rIxS (.str z) (.int i) H Q := ⟨z, i, c, rfl, rfl, hl, h, q⟩
theorem w_ixL {p : Addr} {xs : List V} {i : Int} {v : V} (h : H p = some (.lst xs)) (e : atI xs i = some v) (q : Q v H) : rIxL K (.ref p) (.int i) H Q := ⟨p, xs, i, v, rfl, rfl, SqL.of h, e, q⟩
theorem w_ixT {p : Addr} {xs : List V} {i : Int} {v : V} (h : H p = some (.tup xs)) (e : atI xs i = some v) (q : Q v H) : rIxT K (.ref p) (.int i) H Q := ⟨p, xs, i, v, rfl, rfl, SqT.of h, e, q⟩
/-! truth -/
def kB (Q : Bool → Hp → Prop) : VK := fun x H' => ∃ k, x = .bl k ∧ Q k H'
theorem w_test {t : TE} {Q : Bool → Hp → Prop} (q : t σ H (kB Q)) : tTest t σ H Q := q
theorem w_tB {t : TE} {Q : Bool → Hp → Prop} (q : t σ H (kB Q)) : tB t σ H Q := q
theorem w_kB {c : Bool} {Q : Bool → Hp → Prop} (q : Q c H) : kB Q (.bl c) H := ⟨c, rfl, q⟩
def kAnd (u : TT) (σ : L2.St) (Q : Bool → Hp → Prop) : Bool → Hp → Prop := fun c H1 => if c = true then u σ H1 Q else Q false H1
theorem w_and {t u : TT} {Q : Bool → Hp → Prop} (q : t σ H (kAnd u σ Q)) : tAnd t u σ H Q := q
theorem w_andT {u : TT} {Q : Bool → Hp → Prop} (q : u σ H Q) : kAnd u σ Q true H := iteT q
theorem w_andF {u : TT} {Q : Bool → Hp → Prop} (q : Q false H) : kAnd u σ Q false H := iteF q
theorem w_and2 {p : Prop} [Decidable p] {u : TT} {Q : Bool → Hp → Prop} (h1 : p → u σ H Q) (h2 : ¬ p → Q false H) : kAnd u σ Q (decide p) H :=
  ite2 (fun e => h1 (of_decide_eq_true e)) fun e => h2 fun z => e (decide_eq_true z)
theorem w_andN2 {p : Prop} [Decidable p] {u : TT} {Q : Bool → Hp → Prop} (h1 : ¬ p → u σ H Q) (h2 : p → Q false H) : kAnd u σ Q (!decide p) H := by
  by_cases h : p
  · rw [decide_eq_true h]; exact iteF (h2 h)
  · rw [decide_eq_false h]; exact iteT (h1 h)
def kOr (u : TT) (σ : L2.St) (Q : Bool → Hp → Prop) : Bool → Hp → Prop := fun c H1 => if c = true then Q true H1 else u σ H1 Q
theorem w_or {t u : TT} {Q : Bool → Hp → Prop} (q : t σ H (kOr u σ Q)) : tOr t u σ H Q := q
theorem w_orT {u : TT} {Q : Bool → Hp → Prop} (q : Q true H) : kOr u σ Q true H := iteT q
theorem w_orF {u : TT} {Q : Bool → Hp → Prop} (q : u σ H Q) : kOr u σ Q false H := iteF q
theorem w_or2 {p : Prop} [Decidable p] {u : TT} {Q : Bool → Hp → Prop} (h1 : p → Q true H) (h2 : ¬ p → u σ H Q) : kOr u σ Q (decide p) H :=
  ite2 (fun e => h1 (of_decide_eq_true e)) fun e => h2 fun z => e (decide_eq_true z)
theorem w_orN2 {p : Prop} [Decidable p] {u : TT} {Q : Bool → Hp → Prop} (h1 : ¬ p → Q true H) (h2 : p → u σ H Q) : kOr u σ Q (!decide p) H := by
  by_cases h : p
  · rw [decide_eq_true h]; exact iteF (h2 h)
  · rw [decide_eq_false h]; exact iteT (h1 h)
def kNot (Q : Bool → Hp → Prop) : Bool → Hp → Prop := fun c H1 => Q (!c) H1
theorem w_not {t : TT} {Q : Bool → Hp → Prop} (q : t σ H (kNot Q)) : tNot t σ H Q := q
theorem w_kNot {c : Bool} {Q : Bool → Hp → Prop} (q : Q (!c) H) : kNot Q c H := q
theorem w_kNotT {Q : Bool → Hp → Prop} (q : Q false H) : kNot Q true H := q
theorem w_kNotF {Q : Bool → Hp → Prop} (q : Q true H) : kNot Q false H := q
theorem w_kNotN {p : Prop} [Decidable p] {Q : Bool → Hp → Prop} (q : Q (decide p) H) : kNot Q (!decide p) H := by
  show Q (!!decide p) H
  rw [Bool.not_not]
  exact q
/-! truth as values -/
def kAndV (tb : TE) (σ : L2.St) (Q : VK) : VK := fun x H1 => ∃ c, x = .bl c ∧ if c = true then tb σ H1 Q else Q (.bl false) H1
theorem w_andV {ta tb : TE} (q : ta σ H (kAndV tb σ Q)) : tAndV ta tb σ H Q := q
theorem w_andVT {tb : TE} (q : tb σ H Q) : kAndV tb σ Q (.bl true) H := ⟨true, rfl, iteT q⟩
theorem w_andVF {tb : TE} (q : Q (.bl false) H) : kAndV tb σ Q (.bl false) H := ⟨false, rfl, iteF q⟩
theorem w_andVB {b : Bool} {tb : TE} (h1 : b = true → tb σ H Q) (h2 : b = false → Q (.bl false) H) : kAndV tb σ Q (.bl b) H := by
  cases b with
  | true => exact w_andVT (h1 rfl)
  | false => exact w_andVF (h2 rfl)
def kOrV (tb : TE) (σ : L2.St) (Q : VK) : VK := fun x H1 => ∃ c, x = .bl c ∧ if c = true then Q (.bl true) H1 else tb σ H1 Q
theorem w_orV {ta tb : TE} (q : ta σ H (kOrV tb σ Q)) : tOrV ta tb σ H Q := q
theorem w_orVB {b : Bool} {tb : TE} (h1 : b = true → Q (.bl true) H) (h2 : b = false → tb σ H Q) : kOrV tb σ Q (.bl b) H := by
  cases b with
  | true => exact ⟨true, rfl, iteT (h1 rfl)⟩
  | false => exact ⟨false, rfl, iteF (h2 rfl)⟩
def kNotV (Q : VK) : VK := fun x H1 => ∃ c, x = .bl c ∧ Q (.bl (!c)) H1
theorem w_notV {ta : TE} (q : ta σ H (kNotV Q)) : tNotV ta σ H Q := q
theorem w_kNotV {c : Bool} (q : Q (.bl (!c)) H) : kNotV Q (.bl c) H := ⟨c, rfl, q⟩
theorem w_kNotVF (q : Q (.bl true) H) : kNotV Q (.bl false) H := ⟨false, rfl, q⟩
theorem w_kNotVT (q : Q (.bl false) H) : kNotV Q (.bl true) H := ⟨true, rfl, q⟩
def kIfE (ta tb : TE) (σ : L2.St) (Q : VK) : Bool → Hp → Prop := fun c H1 => if c = true then ta σ H1 Q else tb σ H1 Q
theorem w_ifE {t : TT} {ta tb : TE} (q : t σ H (kIfE ta tb σ Q)) : tIf t ta tb σ H Q := q
theorem w_ifET {ta tb : TE} (q : ta σ H Q) : kIfE ta tb σ Q true H := iteT q
theorem w_ifEF {ta tb : TE} (q : tb σ H Q) : kIfE ta tb σ Q false H := iteF q
theorem w_ifE2 {p : Prop} [Decidable p] {ta tb : TE} (h1 : p → ta σ H Q) (h2 : ¬ p → tb σ H Q) : kIfE ta tb σ Q (decide p) H :=
  ite2 (fun e => h1 (of_decide_eq_true e)) fun e => h2 fun z => e (decide_eq_true z)
theorem w_ifEN2 {p : Prop} [Decidable p] {ta tb : TE} (h1 : ¬ p → ta σ H Q) (h2 : p → tb σ H Q) : kIfE ta tb σ Q (!decide p) H := by
  by_cases h : p
  · rw [decide_eq_true h]; exact iteF (h2 h)
  · rw [decide_eq_false h]; exact iteT (h1 h)
def kChain (r' : R2) (tc : TE) (y : V) (σ : L2.St) (Q : VK) : VK := fun z H3 => ∃ k, z = .bl k ∧ (if k = true then tc σ H3 fun w' H4 => r' y w' H4 Q else Q (.bl false) H3)
theorem w_chain {r r' : R2} {ta tb tc : TE} (q : ta σ H fun x H1 => tb σ H1 fun y H2 => r x y H2 (kChain r' tc y σ Q)) : tChain r r' ta tb tc σ H Q := q
theorem w_chain2 {p : Prop} [Decidable p] {r' : R2} {tc : TE} {y : V} (h1 : p → tc σ H fun w' H4 => r' y w' H4 Q) (h2 : ¬ p → Q (.bl false) H) : kChain r' tc y σ Q (.bl (decide p)) H :=
  ⟨_, rfl, ite2 (fun e => h1 (of_decide_eq_true e)) fun e => h2 fun z => e (decide_eq_true z)⟩
/-! arguments, displays -/
theorem w_nil {Q : List V → Hp → Prop} (q : Q [] H) : tNil σ H Q := q
theorem w_cons {ta : TE} {tr : TA} {Q : List V → Hp → Prop} (q : ta σ H fun x H1 => tr σ H1 fun xs H2 => Q (x :: xs) H2) : tCons ta tr σ H Q := q
def kNewL (Q : VK) : List V → Hp → Prop := fun xs H1 => xs.length ≤ sizeLine ∧ ∀ p, H1 p = none → Q (.ref p) (upd H1 p (.lst xs))
def kNewT (Q : VK) : List V → Hp → Prop := fun xs H1 => xs.length ≤ sizeLine ∧ ∀ p, H1 p = none → Q (.ref p) (upd H1 p (.tup xs))
theorem w_lst {t : TA} (q : t σ H (kNewL Q)) : tLst t σ H Q := q
theorem w_tup {t : TA} (q : t σ H (kNewT Q)) : tTup t σ H Q := q
theorem w_newL {xs : List V} (hl : xs.length ≤ sizeLine) (k : ∀ p H1, H1 p = some (.lst xs) → Nw p H H1 → Q (.ref p) H1) : kNewL Q xs H := ⟨hl, fun _ n => k _ _ upd_same (.mk' n)⟩
theorem w_newT {xs : List V} (hl : xs.length ≤ sizeLine) (k : ∀ p H1, H1 p = some (.tup xs) → Nw p H H1 → Q (.ref p) H1) : kNewT Q xs H := ⟨hl, fun _ n => k _ _ upd_same (.mk' n)⟩
theorem w_cat {l b : Addr} {xs zs : List V} (h1 : H l = some (.lst xs)) (h2 : H b = some (.lst zs)) (hl : xs.length + zs.length ≤ sizeLine) (k : ∀ q H1, H1 q = some (.lst (xs ++ zs)) → Nw q H H1 → Q (.ref q) H1) : rCat (.ref l) (.ref b) H Q :=
  ⟨l, b, xs, zs, rfl, rfl, h1, h2, hl, fun _ n => k _ _ upd_same (.mk' n)⟩
/-! calls -/
theorem w_cb {r : List V → Hp → VK → Prop} {t : TA} (q : t σ H fun vs H1 => r vs H1 Q) : tCB r t σ H Q := q
theorem w_call {sp : Sp} {dvs : List V} {E : XK} {t : TA} (q : t σ H fun vs H1 => sp (vs ++ dvs) H1 Q E) : tCall sp dvs E t σ H Q := q
def kMeth (C : Addr) (m : Str) (sp : Sp) (dvs : List V) (E : XK) (t : TA) (σ : L2.St) (Q : VK) : VK := fun x H1 => ∃ a dx fs, x = .ref a ∧ H1 a = some (.ins C dx fs) ∧ fs.lookup m = none ∧ t σ H1 fun vs H2 => sp (x :: (vs ++ dvs)) H2 Q E
theorem w_meth {C : Addr} {m : Str} {sp : Sp} {dvs : List V} {E : XK} {ta : TE} {t : TA} (q : ta σ H (kMeth C m sp dvs E t σ Q)) : tMeth C m sp dvs E ta t σ H Q := q
theorem w_kMeth {C a dx : Addr} {fs : List (Str × V)} {m : Str} {sp : Sp} {dvs : List V} {E : XK} {t : TA} (h : H a = some (.ins C dx fs)) (hm : fs.lookup m = none) (q : t σ H fun vs H2 => sp (.ref a :: (vs ++ dvs)) H2 Q E) : kMeth C m sp dvs E t σ Q (.ref a) H := ⟨a, dx, fs, rfl, h, hm, q⟩
def kMake (C : Addr) (sp : Sp) (dvs : List V) (E : XK) (Q : VK) : List V → Hp → Prop := fun vs H1 => ∀ x dx, H1 x = none → H1 dx = none → dx ≠ x →
  sp (.ref x :: (vs ++ dvs)) (upd (upd H1 dx (.own x)) x (.ins C dx [])) (fun v H2 => v = .non ∧ Q (.ref x) H2) E
theorem w_make {C : Addr} {sp : Sp} {dvs : List V} {E : XK} {t : TA} (q : t σ H (kMake C sp dvs E Q)) : tMake C sp dvs E t σ H Q := q
def kFld (K : PySem.W.Frag) (f : Str) (Q : VK) : VK := fun x H1 => ∃ a C dx fs v, x = .ref a ∧ H1 a = some (.ins C dx fs) ∧ Cls K C ∧ NoAttr K C f ∧ fs.lookup f = some v ∧ Q v H1
theorem w_fld {ta : TE} {f : Str} (q : ta σ H (kFld K f Q)) : tFld K ta f σ H Q := q
theorem w_kFld {a C dx : Addr} {fs : List (Str × V)} {f : Str} {v : V} (h : H a = some (.ins C dx fs)) (c : Cls K C) (n : NoAttr K C f) (e : fs.lookup f = some v) (q : Q v H) : kFld K f Q (.ref a) H := ⟨a, C, dx, fs, v, rfl, h, c, n, e, q⟩
def rLenSeq (K : PySem.W.Frag) : List V → Hp → VK → Prop := fun xs H Q => ∃ p ys, xs = [.ref p] ∧ (SqL K H p ys ∨ SqT K H p ys) ∧ Q (.int ys.length) H
theorem call_lenQ {X : Cx} : CallR X (.builtin "len") (rLenSeq X.K) := call_len_seq
theorem w_lenL {p : Addr} {ys : List V} (h : H p = some (.lst ys)) (q : Q (.int ys.length) H) : rLenSeq K [.ref p] H Q := ⟨p, ys, rfl, .inl (SqL.of h), q⟩
theorem w_lenT {p : Addr} {ys : List V} (h : H p = some (.tup ys)) (q : Q (.int ys.length) H) : rLenSeq K [.ref p] H Q := ⟨p, ys, rfl, .inr (SqT.of h), q⟩
def rLenStr : List V → Hp → VK → Prop := fun xs H Q => ∃ z, xs = [.str z] ∧ z.length ≤ sizeLine ∧ Q (.int z.length) H
theorem call_lenS {X : Cx} : CallR X (.builtin "len") rLenStr := call_len_str
theorem w_lenS {z : Str} (h : z.length ≤ sizeLine) (q : Q (.int z.length) H) : rLenStr [.str z] H Q := ⟨z, rfl, h, q⟩
def rLenDct : List V → Hp → VK → Prop := fun xs H Q => ∃ a kvs, xs = [V.ref a] ∧ H a = some (.dK kvs) ∧ Q (.int kvs.length) H
theorem call_lenDc {X : Cx} : CallR X (.builtin "len") rLenDct := call_lenD
theorem w_lenD {p : Addr} {kvs : List (Key × V)} (h : H p = some (.dK kvs)) (q : Q (.int kvs.length) H) : rLenDct [.ref p] H Q := ⟨p, kvs, rfl, h, q⟩
def rMin2 : List V → Hp → VK → Prop := fun xs H Q => ∃ i j, xs = [.int i, .int j] ∧ Q (.int (if j < i then j else i)) H
theorem call_min2N {X : Cx} (hc : X.calm = true) : CallR X (.builtin "min") rMin2 := call_min2 hc
theorem w_min2 {i j : Int} (q : Q (.int (if j < i then j else i)) H) : rMin2 [.int i, .int j] H Q := ⟨i, j, rfl, q⟩
def rMax2 : List V → Hp → VK → Prop := fun xs H Q => ∃ i j, xs = [.int i, .int j] ∧ Q (.int (if j > i then j else i)) H
theorem call_max2N {X : Cx} (hc : X.calm = true) : CallR X (.builtin "max") rMax2 := call_max2 hc
theorem w_max2 {i j : Int} (q : Q (.int (if j > i then j else i)) H) : rMax2 [.int i, .int j] H Q := ⟨i, j, rfl, q⟩
def rListOf (K : PySem.W.Frag) : List V → Hp → VK → Prop := fun xs H Q => ∃ p ys, xs = [.ref p] ∧ (SqL K H p ys ∨ SqT K H p ys) ∧ ∀ l, H l = none → Q (.ref l) (upd H l (.lst ys))
theorem call_listO {X : Cx} : CallR X (.type "list") (rListOf X.K) := call_list_of
theorem w_listL {p : Addr} {ys : List V} (h : H p = some (.lst ys)) (k : ∀ l H1, H1 l = some (.lst ys) → Nw l H H1 → Q (.ref l) H1) : rListOf K [.ref p] H Q := ⟨p, ys, rfl, .inl (SqL.of h), fun _ n => k _ _ upd_same (.mk' n)⟩
def rTupOf (K : PySem.W.Frag) : List V → Hp → VK → Prop := fun xs H Q => ∃ p ys, xs = [.ref p] ∧ ((SqL K H p ys ∧ ∀ l, H l = none → Q (.ref l) (upd H l (.tup ys))) ∨ (SqT K H p ys ∧ Q (.ref p) H))
theorem call_tupO {X : Cx} : CallR X (.type "tuple") (rTupOf X.K) := call_tuple_of
theorem w_tupL {p : Addr} {ys : List V} (h : H p = some (.lst ys)) (k : ∀ l H1, H1 l = some (.tup ys) → Nw l H H1 → Q (.ref l) H1) : rTupOf K [.ref p] H Q := ⟨p, ys, rfl, .inl ⟨SqL.of h, fun _ n => k _ _ upd_same (.mk' n)⟩⟩
theorem w_all {p : Addr} {bs : List Bool} (h : H p = some (.lst (bs.map V.bl))) (q : Q (.bl (bs.all id)) H) : rAll K [.ref p] H Q := ⟨p, bs, rfl, SqL.of h, q⟩
theorem w_isi_int_int {i : Int} (q : Q (.bl true) H) : rIsi K [(.int i), .ty "int"] H Q := ⟨_, _, _, _, true, rfl, .ty "int", .base (.int i), kit_ty (by decide +kernel), q⟩
theorem w_isi_int_bool {i : Int} (q : Q (.bl false) H) : rIsi K [(.int i), .ty "bool"] H Q := ⟨_, _, _, _, false, rfl, .ty "bool", .base (.int i), kit_ty (by decide +kernel), q⟩
theorem w_isi_int_str {i : Int} (q : Q (.bl false) H) : rIsi K [(.int i), .ty "str"] H Q := ⟨_, _, _, _, false, rfl, .ty "str", .base (.int i), kit_ty (by decide +kernel), q⟩
theorem w_isi_str_int {i : Str} (q : Q (.bl false) H) : rIsi K [(.str i), .ty "int"] H Q := ⟨_, _, _, _, false, rfl, .ty "int", .base (.str i), kit_ty (by decide +kernel), q⟩
theorem w_isi_str_bool {i : Str} (q : Q (.bl false) H) : rIsi K [(.str i), .ty "bool"] H Q := ⟨_, _, _, _, false, rfl, .ty "bool", .base (.str i), kit_ty (by decide +kernel), q⟩
theorem w_isi_str_str {i : Str} (q : Q (.bl true) H) : rIsi K [(.str i), .ty "str"] H Q := ⟨_, _, _, _, true, rfl, .ty "str", .base (.str i), kit_ty (by decide +kernel), q⟩
theorem w_isi_bool_int {i : Bool} (q : Q (.bl true) H) : rIsi K [(.bl i), .ty "int"] H Q := ⟨_, _, _, _, true, rfl, .ty "int", .base (.bl i), kit_ty (by decide +kernel), q⟩
theorem w_isi_bool_bool {i : Bool} (q : Q (.bl true) H) : rIsi K [(.bl i), .ty "bool"] H Q := ⟨_, _, _, _, true, rfl, .ty "bool", .base (.bl i), kit_ty (by decide +kernel), q⟩
theorem w_isi_bool_str {i : Bool} (q : Q (.bl false) H) : rIsi K [(.bl i), .ty "str"] H Q := ⟨_, _, _, _, false, rfl, .ty "str", .base (.bl i), kit_ty (by decide +kernel), q⟩
theorem w_isi_NoneType_int  (q : Q (.bl false) H) : rIsi K [.non, .ty "int"] H Q := ⟨_, _, _, _, false, rfl, .ty "int", .base .non, kit_ty (by decide +kernel), q⟩
theorem w_isi_NoneType_str  (q : Q (.bl false) H) : rIsi K [.non, .ty "str"] H Q := ⟨_, _, _, _, false, rfl, .ty "str", .base .non, kit_ty (by decide +kernel), q⟩
theorem w_isi_NoneType_bool  (q : Q (.bl false) H) : rIsi K [.non, .ty "bool"] H Q := ⟨_, _, _, _, false, rfl, .ty "bool", .base .non, kit_ty (by decide +kernel), q⟩
/-! methods of lists, texts -/
def kBM (K : PySem.W.Frag) (T : String) (r : V → List V → Hp → VK → Prop) (t : TA) (σ : L2.St) (Q : VK) : VK := fun x H1 => tyV K T x H1 ∧ t σ H1 fun xs H2 => r x xs H2 Q
theorem w_bm {T : String} {r : V → List V → Hp → VK → Prop} {to : TE} {t : TA} (q : to σ H (kBM K T r t σ Q)) : tBM K T r to t σ H Q := q
theorem w_bm0 {T : String} {r : V → List V → Hp → VK → Prop} {to : TE} (q : to σ H (kBM K T r tNil σ Q)) : tBM0 K T r to σ H Q := q
theorem w_kbmL {p : Addr} {xs : List V} {r : V → List V → Hp → VK → Prop} {t : TA} (h : H p = some (.lst xs)) (q : t σ H fun xs H2 => r (.ref p) xs H2 Q) : kBM K "list" r t σ Q (.ref p) H := ⟨.inl ⟨rfl, _, SqL.of h⟩, q⟩
theorem w_append {p : Addr} {xs : List V} {v : V} (h : H p = some (.lst xs)) (hl : xs.length < sizeLine) (k : ∀ H1, H1 p = some (.lst (xs ++ [v])) → Of p H H1 → Q .non H1) : rAppend (.ref p) [v] H Q := ⟨p, xs, v, rfl, rfl, h, hl, k _ upd_same .mk'⟩
theorem erase_map {α β : Type} (f : α → β) : ∀ (l : List α) (i : Nat), (l.map f).eraseIdx i = (l.eraseIdx i).map f
  | [], _ => rfl
  | x :: r, 0 => rfl
  | x :: r, i + 1 => by
    show f x :: (r.map f).eraseIdx i = f x :: (r.eraseIdx i).map f
    rw [erase_map f r i]
def kM0 (r : V → List V → Hp → VK → Prop) (Q : VK) : VK := fun x H1 => (∃ a, x = .str a) ∧ r x [] H1 Q
theorem w_m0 {r : V → List V → Hp → VK → Prop} {to : TE} (q : to σ H (kM0 r Q)) : tM0 r to σ H Q := q
theorem w_kM0 {r : V → List V → Hp → VK → Prop} {x : Str} (q : r (.str x) [] H Q) : kM0 r Q (.str x) H := ⟨⟨x, rfl⟩, q⟩
def kM1 (r : V → List V → Hp → VK → Prop) (te : TE) (σ : L2.St) (Q : VK) : VK := fun x H1 => (∃ a, x = .str a) ∧ te σ H1 fun y H2 => r x [y] H2 Q
theorem w_m1 {r : V → List V → Hp → VK → Prop} {to te : TE} (q : to σ H (kM1 r te σ Q)) : tM1 r to te σ H Q := q
theorem w_kM1 {r : V → List V → Hp → VK → Prop} {te : TE} {x : Str} (q : te σ H fun y H2 => r (.str x) [y] H2 Q) : kM1 r te σ Q (.str x) H := ⟨⟨x, rfl⟩, q⟩
def rJoin (K : PySem.W.Frag) : V → List V → Hp → VK → Prop := fun x xs H Q => ∃ a p, ∃ ys : List Str, x = .str a ∧ xs = [.ref p] ∧ (SqL K H p (ys.map V.str) ∨ SqT K H p (ys.map V.str)) ∧ (ys.map (·.length)).sum + ys.length * a.length ≤ 16777216 ∧ Q (.str (Txt.join a ys)) H
theorem mt_joinN {X : Cx} : MtR X "str.join" (rJoin X.K) := mt_join
theorem w_join {a : Str} {p : Addr} {ys : List Str} (h : H p = some (.lst (ys.map V.str))) (hl : (ys.map (·.length)).sum + ys.length * a.length ≤ 16777216) (q : Q (.str (Txt.join a ys)) H) : rJoin K (.str a) [.ref p] H Q := ⟨a, p, ys, rfl, rfl, .inl (SqL.of h), hl, q⟩
def rStarts : V → List V → Hp → VK → Prop := fun x xs H Q => ∃ a b, x = .str a ∧ xs = [.str b] ∧ Q (.bl (Txt.startswith a b)) H
theorem w_starts {a b : Str} (q : Q (.bl (Txt.startswith a b)) H) : rStarts (.str a) [.str b] H Q := ⟨a, b, rfl, rfl, q⟩
def rEnds : V → List V → Hp → VK → Prop := fun x xs H Q => ∃ a b, x = .str a ∧ xs = [.str b] ∧ Q (.bl (Txt.endswith a b)) H
theorem w_ends {a b : Str} (q : Q (.bl (Txt.endswith a b)) H) : rEnds (.str a) [.str b] H Q := ⟨a, b, rfl, rfl, q⟩
def rMulStr : R2 := fun x y H Q => ∃ (a : Str) (n : Int), x = .str a ∧ y = .int n ∧ 0 ≤ n ∧ n ≤ 1000 ∧ a.length ≤ 1000 ∧ Q (.str (Txt.mul a n)) H
theorem op_mulS {X : Cx} : OpR X (binaryOp .Mult) rMulStr := op_mul_str
theorem w_mulS {a : Str} {n : Int} (h0 : 0 ≤ n) (h1 : n ≤ 1000) (h2 : a.length ≤ 1000) (q : Q (.str (Txt.mul a n)) H) : rMulStr (.str a) (.int n) H Q := ⟨a, n, rfl, rfl, h0, h1, h2, q⟩
/-! dicts -/
def kDGet (x y : V) (Q : VK) : Hp → Prop := fun H2 => ∃ a v, x = .ref a ∧ DGet H2 a y (some v) ∧ Q v H2
theorem w_dget {td ty : TE} (q : td σ H fun x H1 => ty σ H1 fun y H2 => kDGet x y Q H2) : tDGet td ty σ H Q := q
theorem w_kDGetS {a : Addr} {kvs : List (Key × V)} {i : Str} {v : V} (h : H a = some (.dK kvs)) (e : valV kvs (Sum.inr i) = some v) (q : Q v H) : kDGet (.ref a) (.str i) Q H := ⟨a, v, rfl, by rw [← e]; exact DGet.k (k := Sum.inr i) h, q⟩
def kDIn (y x : V) (Q : VK) : Hp → Prop := fun H2 => ∃ a o, x = .ref a ∧ DGet H2 a y o ∧ Q (.bl o.isSome) H2
theorem w_din {ty td : TE} (q : ty σ H fun y H1 => td σ H1 fun x H2 => kDIn y x Q H2) : tDIn ty td σ H Q := q
theorem w_kDInI {a : Addr} {kvs : List (Key × V)} {i : Int} (h : H a = some (.dK kvs)) (q : Q (.bl (valV kvs (Sum.inl i)).isSome) H) : kDIn (.int i) (.ref a) Q H := ⟨a, _, rfl, DGet.k (k := Sum.inl i) h, q⟩
theorem w_kDInS {a : Addr} {kvs : List (Key × V)} {i : Str} (h : H a = some (.dK kvs)) (q : Q (.bl (valV kvs (Sum.inr i)).isSome) H) : kDIn (.str i) (.ref a) Q H := ⟨a, _, rfl, DGet.k (k := Sum.inr i) h, q⟩
def kDNotIn (y x : V) (Q : VK) : Hp → Prop := fun H2 => ∃ a o, x = .ref a ∧ DGet H2 a y o ∧ Q (.bl (!o.isSome)) H2
theorem w_dnotin {ty td : TE} (q : ty σ H fun y H1 => td σ H1 fun x H2 => kDNotIn y x Q H2) : tDNotIn ty td σ H Q := q
theorem w_kDNotInI {a : Addr} {kvs : List (Key × V)} {i : Int} (h : H a = some (.dK kvs)) (q : Q (.bl (!(valV kvs (Sum.inl i)).isSome)) H) : kDNotIn (.int i) (.ref a) Q H := ⟨a, _, rfl, DGet.k (k := Sum.inl i) h, q⟩
theorem w_kDNotInS {a : Addr} {kvs : List (Key × V)} {i : Str} (h : H a = some (.dK kvs)) (q : Q (.bl (!(valV kvs (Sum.inr i)).isSome)) H) : kDNotIn (.str i) (.ref a) Q H := ⟨a, _, rfl, DGet.k (k := Sum.inr i) h, q⟩
def kDGet1 (ty : TE) (σ : L2.St) (Q : VK) : VK := fun x H1 => ∃ a, x = .ref a ∧ IsD H1 a ∧ ty σ H1 fun y H2 => ∃ o, DGet H2 a y o ∧ Q (o.getD .non) H2
def kDGet1b (a : Addr) (Q : VK) : VK := fun y H2 => ∃ o, DGet H2 a y o ∧ Q (o.getD .non) H2
theorem w_dget1 {td ty : TE} (q : td σ H (kDGet1 ty σ Q)) : tDGet1 td ty σ H Q := q
theorem w_kDGet1 {a : Addr} {kvs : List (Key × V)} {ty : TE} (h : H a = some (.dK kvs)) (q : ty σ H (kDGet1b a Q)) : kDGet1 ty σ Q (.ref a) H := ⟨a, rfl, .inl ⟨kvs, .of h⟩, q⟩
theorem w_kDGet1I {a : Addr} {kvs : List (Key × V)} {i : Int} (h : H a = some (.dK kvs)) (q : Q ((valV kvs (Sum.inl i)).getD .non) H) : kDGet1b a Q (.int i) H := ⟨_, DGet.k (k := Sum.inl i) h, q⟩
theorem w_kDGet1S {a : Addr} {kvs : List (Key × V)} {i : Str} (h : H a = some (.dK kvs)) (q : Q ((valV kvs (Sum.inr i)).getD .non) H) : kDGet1b a Q (.str i) H := ⟨_, DGet.k (k := Sum.inr i) h, q⟩
theorem w_dnewK (k : ∀ p H1, H1 p = some (.dK []) → Nw p H H1 → Q (.ref p) H1) : tDNewK σ H Q := fun _ n => k _ _ upd_same (.mk' n)
def kDPut (n : L2.St → Hp → Prop) (σ : L2.St) (x y v : V) : Hp → Prop := fun H3 => ∃ a H4, x = .ref a ∧ DPut H3 a y v H4 ∧ n σ H4
theorem w_sdput {td ty tv : TE} {n : L2.St → Hp → Prop} {rt : VK} {bk ct : L2.St → Hp → Prop} (q : tv σ H fun v H1 => td σ H1 fun x H2 => ty σ H2 fun y H3 => kDPut n σ x y v H3) : sDPut td ty tv ⟨n, rt, bk, ct⟩ σ H := q
theorem w_kDPutS {a : Addr} {kvs : List (Key × V)} {i : Str} {v : V} {n : L2.St → Hp → Prop} (h : H a = some (.dK kvs)) (hl : kvs.length < sizeLine) (k : ∀ H1, H1 a = some (.dK (putK kvs (Sum.inr i) v)) → Of a H H1 → n σ H1) : kDPut n σ (.ref a) (.str i) v H := ⟨a, _, rfl, DPut.k (k := Sum.inr i) h hl, k _ upd_same .mk'⟩
/-! a dict made by a comprehension -/
def kDc (g : TG) (tt : TT) (tk tv : TE) (vs : List Nat) (σ : L2.St) (Q : VK) : It → Hp → Prop := fun J H1 => ∀ D, H1 D = none → ∃ W : Nat → Nat → Hp → Prop, (∃ m, W 0 m (upd H1 D (.dK []))) ∧ ∀ i m H, W i m H →
  (J.stop i H ∧ Q (.ref D) H) ∨ (J.go i H ∧ ∃ Nx : Hp → Prop, (∀ H', Nx H' → ∃ m', m' < m ∧ W (i + 1) m' H') ∧ ∀ x H', J.yld i H x H' → g x (wipe σ vs) H' fun σ2 H2 => wipe σ2 vs = wipe σ vs ∧ tt σ2 H2 fun b H3 =>
    if b = true then tk σ2 H3 fun y H4 => tv σ2 H4 fun z H5 => ∃ kvs k, y = kV k ∧ H5 D = some (.dK kvs) ∧ kvs.length < sizeLine ∧ Nx (upd H5 D (.dK (putK kvs k z))) else Nx H3)
theorem w_dc {wi : TI} {g : TG} {tt : TT} {tk tv : TE} {vs : List Nat} (q : wi σ H (kDc g tt tk tv vs σ Q)) : tDc wi g tt tk tv vs σ H Q := q
def kItD (D : Addr) (N : Hp → Prop) (y z : V) : Hp → Prop := fun H5 => ∃ kvs k, y = kV k ∧ H5 D = some (.dK kvs) ∧ kvs.length < sizeLine ∧ N (upd H5 D (.dK (putK kvs k z)))
def kTstD (tk tv : TE) (σ : L2.St) (D : Addr) (N : Hp → Prop) : Bool → Hp → Prop := fun b H3 => if b = true then tk σ H3 fun y H4 => tv σ H4 fun z H5 => kItD D N y z H5 else N H3
theorem w_tstDT {tk tv : TE} {p : Addr} {N : Hp → Prop} (q : tk σ H fun y H4 => tv σ H4 fun z H5 => kItD p N y z H5) : kTstD tk tv σ p N true H := iteT q
theorem w_tstDB {b : Bool} {tk tv : TE} {p : Addr} {N : Hp → Prop} (h1 : b = true → tk σ H fun y H4 => tv σ H4 fun z H5 => kItD p N y z H5) (h2 : b = false → N H) : kTstD tk tv σ p N b H := by
  cases b with
  | true => exact iteT (h1 rfl)
  | false => exact iteF (h2 rfl)
def kEachD (tt : TT) (tk tv : TE) (vs : List Nat) (σ : L2.St) (D : Addr) (N : Hp → Prop) : L2.St → Hp → Prop := fun σ2 H2 => wipe σ2 vs = wipe σ vs ∧ tt σ2 H2 (kTstD tk tv σ2 D N)
theorem w_eachD {tt : TT} {tk tv : TE} {vs : List Nat} {σ σ2 : L2.St} {p : Addr} {N : Hp → Prop} (e : wipe σ2 vs = wipe σ vs) (q : tt σ2 H (kTstD tk tv σ2 p N)) : kEachD tt tk tv vs σ p N σ2 H := ⟨e, q⟩
theorem w_dcG {J : It} {n : Nat} {g : TG} {tt : TT} {tk tv : TE} {vs : List Nat} (Pv : Addr → Nat → Hp → Prop) (h0 : ∀ p H1, H1 p = some (.dK []) → Nw p H H1 → Pv p 0 H1)
    (hgo : ∀ p i H, i < n → Pv p i H → J.go i H) (hst : ∀ p H, Pv p n H → J.stop n H)
    (hs : ∀ p i x H H', i < n → Pv p i H → J.yld i H x H' → g x (wipe σ vs) H' (kEachD tt tk tv vs σ p (Pv p (i + 1)))) (hd : ∀ p H, Pv p n H → Q (.ref p) H) : kDc g tt tk tv vs σ Q J H := fun p np => by
  refine ⟨fun i m H => m = n - i ∧ i ≤ n ∧ Pv p i H, ⟨n, rfl, Nat.zero_le _, h0 p _ upd_same (.mk' np)⟩, ?_⟩
  rintro i m H ⟨rfl, hi, h⟩
  by_cases hlt : i < n
  · exact .inr ⟨hgo p i H hlt h, Pv p (i + 1), fun H' p' => ⟨n - (i + 1), by omega, rfl, hlt, p'⟩, fun x H' y => hs p i x H H' hlt h y⟩
  · have e : i = n := by omega
    subst e
    exact .inl ⟨hst p H h, hd p H h⟩
/-! list(range(n)) -/
def kRg1 (Q : Int → Int → Hp → Prop) : VK := fun x H1 => ∃ n, x = .int n ∧ Q 0 n H1
theorem w_rg1 {ta : TE} {Q : Int → Int → Hp → Prop} (q : ta σ H (kRg1 Q)) : tRg1 ta σ H Q := q
theorem w_kRg1 {n : Int} {Q : Int → Int → Hp → Prop} (q : Q 0 n H) : kRg1 Q (.int n) H := ⟨n, rfl, q⟩
def kRgL (Q : VK) (a b : Int) : Hp → Prop := fun H1 => RgOk a b ∧ ∀ q, H1 q = none → Q (.ref q) (upd H1 q (.lst (rgV a b)))
theorem w_lstRg {te : L2.St → Hp → (Int → Int → Hp → Prop) → Prop} (q : te σ H fun a b H1 => kRgL Q a b H1) : tLstRg te σ H Q := q
/-! statements -/
theorem w_seq {t u : TS} {n : L2.St → Hp → Prop} {rt : VK} {bk ct : L2.St → Hp → Prop} (q : t ⟨u ⟨n, rt, bk, ct⟩, rt, bk, ct⟩ σ H) : tSeq t u ⟨n, rt, bk, ct⟩ σ H := q
/-- a statement, and what holds behind it -/
theorem w_seqJ {t u : TS} {n : L2.St → Hp → Prop} {rt : VK} {bk ct : L2.St → Hp → Prop} (J : L2.St → Hp → Prop) (q : ∀ N : L2.St → Hp → Prop, (∀ σ' H', J σ' H' → N σ' H') → t ⟨N, rt, bk, ct⟩ σ H) (hr : ∀ σ' H', J σ' H' → u ⟨n, rt, bk, ct⟩ σ' H') : tSeq t u ⟨n, rt, bk, ct⟩ σ H := q _ hr
theorem w_next {n : L2.St → Hp → Prop} {rt : VK} {bk ct : L2.St → Hp → Prop} (q : n σ H) : tNext ⟨n, rt, bk, ct⟩ σ H := q
theorem w_break {n : L2.St → Hp → Prop} {rt : VK} {bk ct : L2.St → Hp → Prop} (q : bk σ H) : tBreak ⟨n, rt, bk, ct⟩ σ H := q
theorem w_cont {n : L2.St → Hp → Prop} {rt : VK} {bk ct : L2.St → Hp → Prop} (q : ct σ H) : tCont ⟨n, rt, bk, ct⟩ σ H := q
theorem w_drop {te : TE} {n : L2.St → Hp → Prop} {rt : VK} {bk ct : L2.St → Hp → Prop} (q : te σ H fun _ H1 => n σ H1) : tDrop te ⟨n, rt, bk, ct⟩ σ H := q
theorem w_ret {te : TE} {n : L2.St → Hp → Prop} {rt : VK} {bk ct : L2.St → Hp → Prop} (q : te σ H rt) : tRet te ⟨n, rt, bk, ct⟩ σ H := q
theorem w_retN {n : L2.St → Hp → Prop} {rt : VK} {bk ct : L2.St → Hp → Prop} (q : rt .non H) : tRetN ⟨n, rt, bk, ct⟩ σ H := q
def kIf (t u : TS) (D : Ends) (σ : L2.St) : Bool → Hp → Prop := fun b H1 => if b = true then t D σ H1 else u D σ H1
theorem w_if {c : TT} {t u : TS} (q : c σ H (kIf t u D σ)) : tIfS c t u D σ H := q
theorem w_ifT {t u : TS} (q : t D σ H) : kIf t u D σ true H := iteT q
theorem w_ifF {t u : TS} (q : u D σ H) : kIf t u D σ false H := iteF q
theorem w_if2 {p : Prop} [Decidable p] {t u : TS} (h1 : p → t D σ H) (h2 : ¬ p → u D σ H) : kIf t u D σ (decide p) H :=
  ite2 (fun e => h1 (of_decide_eq_true e)) fun e => h2 fun z => e (decide_eq_true z)
theorem w_ifN2 {p : Prop} [Decidable p] {t u : TS} (h1 : ¬ p → t D σ H) (h2 : p → u D σ H) : kIf t u D σ (!decide p) H := by
  by_cases h : p
  · rw [decide_eq_true h]; exact iteF (h2 h)
  · rw [decide_eq_false h]; exact iteT (h1 h)
theorem w_asg {te : TE} {g : TG} {n : L2.St → Hp → Prop} {rt : VK} {bk ct : L2.St → Hp → Prop} (q : te σ H fun x H1 => g x σ H1 n) : tAsg te g ⟨n, rt, bk, ct⟩ σ H := q
theorem w_gn {i : Nat} {v : V} {Q : L2.St → Hp → Prop} (q : Q (σ.set i (some v)) H) : gName i v σ H Q := q
def kPar (i j : Nat) (σ : L2.St) (n : L2.St → Hp → Prop) : List V → Hp → Prop := fun vs H1 => ∃ v w, vs = [v, w] ∧ n ((σ.set i (some v)).set j (some w)) H1
theorem w_par {i j : Nat} {ta : TA} {n : L2.St → Hp → Prop} {rt : VK} {bk ct : L2.St → Hp → Prop} (q : ta σ H (kPar i j σ n)) : tPar i j ta ⟨n, rt, bk, ct⟩ σ H := q
theorem w_kPar {i j : Nat} {v w : V} {n : L2.St → Hp → Prop} (q : n ((σ.set i (some v)).set j (some w)) H) : kPar i j σ n [v, w] H := ⟨v, w, rfl, q⟩
theorem w_gtup {a : Addr} {xs : List V} {n : Nat} {t : TGs} {Q : L2.St → Hp → Prop} (h : H a = some (.tup xs)) (hl : xs.length = n) (q : t xs σ H Q) : gTup K n t (.ref a) σ H Q := ⟨a, xs, rfl, SqT.of h, hl, q⟩
theorem w_gcons {t : TG} {u : TGs} {v : V} {r : List V} {Q : L2.St → Hp → Prop} (q : t v σ H fun σ' H' => u r σ' H' Q) : gCons t u (v :: r) σ H Q := ⟨v, r, rfl, q⟩
theorem w_gnil {Q : L2.St → Hp → Prop} (q : Q σ H) : gNil [] σ H Q := ⟨rfl, q⟩
theorem w_gsub {to ti : TE} {t : TSet} {v : V} {Q : L2.St → Hp → Prop} (q : to σ H fun o H1 => ti σ H1 fun i H2 => t o i v H2 fun H3 => Q σ H3) : gSub to ti t v σ H Q := q
theorem w_setL {p : Addr} {xs : List V} {k : Int} {j : Nat} {v : V} {Q : Hp → Prop} (h : H p = some (.lst xs)) (e : ixN xs.length k = some j) (q : ∀ H1, H1 p = some (.lst (xs.set j v)) → Of p H H1 → Q H1) : rSetL (.ref p) (.int k) v H Q := ⟨p, xs, k, j, rfl, rfl, h, e, q _ upd_same .mk'⟩
def kSFld (K : PySem.W.Frag) (f : Str) (y : V) (n : L2.St → Hp → Prop) (σ : L2.St) : VK := fun x H2 => ∃ a C dx fs, x = .ref a ∧ H2 a = some (.ins C dx fs) ∧ Cls K C ∧ NoAttr K C f ∧ fs.length < 1000 ∧ n σ (upd H2 a (.ins C dx (putF f y fs)))
theorem w_sfld {ta tv : TE} {f : Str} {n : L2.St → Hp → Prop} {rt : VK} {bk ct : L2.St → Hp → Prop} (q : tv σ H fun y H1 => ta σ H1 (kSFld K f y n σ)) : sFld K ta tv f ⟨n, rt, bk, ct⟩ σ H := q
theorem w_kSFld {a C dx : Addr} {fs : List (Str × V)} {f : Str} {y : V} {n : L2.St → Hp → Prop} (h : H a = some (.ins C dx fs)) (c : Cls K C) (na : NoAttr K C f) (hl : fs.length < 1000) (k : ∀ H1, H1 a = some (.ins C dx (putF f y fs)) → Of a H H1 → n σ H1) : kSFld K f y n σ (.ref a) H :=
  ⟨a, C, dx, fs, rfl, h, c, na, hl, k _ upd_same .mk'⟩
theorem w_aug {i : Nat} {x : V} {te : TE} {ti : TIp} {n : L2.St → Hp → Prop} {rt : VK} {bk ct : L2.St → Hp → Prop} (h : σ[i]? = some (some x)) (q : te σ H fun y H1 => ti x y H1 fun z H2 => n (σ.set i (some z)) H2) : tAug i te ti ⟨n, rt, bk, ct⟩ σ H := ⟨x, h, q⟩
theorem w_ipI {f : Int → Int → Int} {i j : Int} (q : Q (.int (f i j)) H) : ipI f (.int i) (.int j) H Q := ⟨i, j, rfl, rfl, q⟩
/-! loops -/
def kFor (g : TG) (tb : TS) (D : Ends) (σ : L2.St) : It → Hp → Prop := fun J H1 => ∃ W : Nat → Nat → L2.St → Hp → Prop, (∃ m, W 0 m σ H1) ∧ ∀ i m σ H, W i m σ H →
  (J.stop i H ∧ D.nx σ H) ∨ (J.go i H ∧ ∃ N : L2.St → Hp → Prop, (∀ σ' H', N σ' H' → ∃ m', m' < m ∧ W (i + 1) m' σ' H') ∧ ∀ x H', J.yld i H x H' → g x σ H' fun σ2 H2 => tb { D with nx := N, ct := N, bk := D.nx } σ2 H2)
theorem w_for {wi : TI} {g : TG} {tb : TS} (q : wi σ H (kFor g tb D σ)) : tFor wi g tb D σ H := q
def kRng1 (R : It → Hp → Prop) : List V → Hp → Prop := fun vs H1 => ∃ j : Int, vs = [.int j] ∧ -(2 ^ 62) ≤ j ∧ j < 2 ^ 62 ∧ R (Itr 0 j.toNat) H1
theorem w_rng1 {ta : TA} {R : It → Hp → Prop} (q : ta σ H (kRng1 R)) : iRng1 ta σ H R := q
theorem w_kRng1 {j : Int} {R : It → Hp → Prop} (h0 : -(2 ^ 62) ≤ j) (h1 : j < 2 ^ 62) (q : R (Itr 0 j.toNat) H) : kRng1 R [.int j] H := ⟨j, rfl, h0, h1, q⟩
def kList (K : PySem.W.Frag) (R : It → Hp → Prop) : VK := fun x H1 => ∃ a, x = .ref a ∧ (∃ xs, SqL K H1 a xs) ∧ R (Itl K a) H1
theorem w_ilist {tl : TE} {R : It → Hp → Prop} (q : tl σ H (kList K R)) : iList K tl σ H R := q
theorem w_kList {a : Addr} {xs : List V} {R : It → Hp → Prop} (h : H a = some (.lst xs)) (q : R (Itl K a) H) : kList K R (.ref a) H := ⟨a, rfl, ⟨xs, SqL.of h⟩, q⟩
def kTupI (K : PySem.W.Frag) (R : It → Hp → Prop) : VK := fun x H1 => ∃ a, x = .ref a ∧ (∃ xs, SqT K H1 a xs) ∧ R (Itt K a) H1
theorem w_itup {tl : TE} {R : It → Hp → Prop} (q : tl σ H (kTupI K R)) : iTup K tl σ H R := q
theorem w_kTupI {a : Addr} {xs : List V} {R : It → Hp → Prop} (h : H a = some (.tup xs)) (q : R (Itt K a) H) : kTupI K R (.ref a) H := ⟨a, rfl, ⟨xs, SqT.of h⟩, q⟩
def kStr (R : It → Hp → Prop) : VK := fun v H1 => ∃ x, v = .str x ∧ R (Its x) H1
theorem w_istr {te : TE} {R : It → Hp → Prop} (q : te σ H (kStr R)) : iStr te σ H R := q
theorem w_kStr {x : Str} {R : It → Hp → Prop} (q : R (Its x) H) : kStr R (.str x) H := ⟨x, rfl, q⟩
def kEnum (K : PySem.W.Frag) (R : It → Hp → Prop) : List V → Hp → Prop := fun vs H1 => ∃ a xs, vs = [.ref a] ∧ SqL K H1 a xs ∧ R (Ite K a) H1
theorem w_ienum {ta : TA} {R : It → Hp → Prop} (q : ta σ H (kEnum K R)) : iEnum K ta σ H R := q
theorem w_kEnum {a : Addr} {xs : List V} {R : It → Hp → Prop} (h : H a = some (.lst xs)) (q : R (Ite K a) H) : kEnum K R [.ref a] H := ⟨a, xs, rfl, SqL.of h, q⟩
/-- a loop: what holds ahead of turn i -/
theorem w_range {lo : Int} {n : Nat} {g : TG} {tb : TS} {nx : L2.St → Hp → Prop} {rt : VK} {bk ct : L2.St → Hp → Prop} (Pv : Nat → L2.St → Hp → Prop) (h0 : Pv 0 σ H)
    (hs : ∀ i σ H, i < n → Pv i σ H → g (.int (lo + i)) σ H fun σ2 H2 => tb ⟨Pv (i + 1), rt, nx, Pv (i + 1)⟩ σ2 H2) (hd : ∀ σ H, Pv n σ H → nx σ H) : kFor g tb ⟨nx, rt, bk, ct⟩ σ (Itr lo n) H :=
  for_range (lo := lo) (n := n) Pv h0 hs hd
theorem w_list {a : Addr} {xs : List V} {g : TG} {tb : TS} {nx : L2.St → Hp → Prop} {rt : VK} {bk ct : L2.St → Hp → Prop} (Pv : Nat → L2.St → Hp → Prop) (h0 : Pv 0 σ H) (hl : ∀ i σ H, i ≤ xs.length → Pv i σ H → H a = some (.lst xs))
    (hs : ∀ i x σ H, xs[i]? = some x → Pv i σ H → g x σ H fun σ2 H2 => tb ⟨Pv (i + 1), rt, nx, Pv (i + 1)⟩ σ2 H2) (hd : ∀ σ H, Pv xs.length σ H → nx σ H) : kFor g tb ⟨nx, rt, bk, ct⟩ σ (Itl K a) H :=
  for_list (K := K) (a := a) (xs := xs) Pv h0 (fun i σ H hi p => SqL.of (hl i σ H hi p)) hs hd
theorem w_enum {a : Addr} {xs : List V} {g : TG} {tb : TS} {nx : L2.St → Hp → Prop} {rt : VK} {bk ct : L2.St → Hp → Prop} (Pv : Nat → L2.St → Hp → Prop) (h0 : Pv 0 σ H) (hl : ∀ i σ H, i ≤ xs.length → Pv i σ H → H a = some (.lst xs))
    (hs : ∀ i x t σ H H1, xs[i]? = some x → Pv i σ H → H1 t = some (.tup [.int (i : Nat), x]) → Nw t H H1 → g (.ref t) σ H1 fun σ2 H2 => tb ⟨Pv (i + 1), rt, nx, Pv (i + 1)⟩ σ2 H2) (hd : ∀ σ H, Pv xs.length σ H → nx σ H) : kFor g tb ⟨nx, rt, bk, ct⟩ σ (Ite K a) H := by
  refine for_gen (n := xs.length) Pv h0 (fun i σ H hi p => ⟨xs, xs[i], SqL.of (hl i σ H (Nat.le_of_lt hi) p), List.getElem?_eq_getElem hi⟩) (fun σ H p => ⟨xs, SqL.of (hl _ σ H (Nat.le_refl _) p), Nat.le_refl _⟩) ?_ hd
  rintro i v σ H H' hi p ⟨t, x, rfl, nt, rfl, hx⟩
  exact hs i x t σ H _ (hx xs (SqL.of (hl i σ H (Nat.le_of_lt hi) p))) p upd_same (.mk' nt)
/-! comprehensions -/
def kLc (g : TG) (tt : TT) (te : TE) (vs : List Nat) (σ : L2.St) (Q : VK) : It → Hp → Prop := fun J H1 => ∀ D, H1 D = none → ∃ W : Nat → Nat → Hp → Prop, (∃ m, W 0 m (upd H1 D (.lst []))) ∧ ∀ i m H, W i m H →
  (J.stop i H ∧ Q (.ref D) H) ∨ (J.go i H ∧ ∃ Nx : Hp → Prop, (∀ H', Nx H' → ∃ m', m' < m ∧ W (i + 1) m' H') ∧ ∀ x H', J.yld i H x H' → g x (wipe σ vs) H' fun σ2 H2 => wipe σ2 vs = wipe σ vs ∧ tt σ2 H2 fun b H3 =>
    if b = true then te σ2 H3 fun y H4 => ∃ acc, H4 D = some (.lst acc) ∧ acc.length < sizeLine ∧ Nx (upd H4 D (.lst (acc ++ [y]))) else Nx H3)
theorem w_lc {wi : TI} {g : TG} {tt : TT} {te : TE} {vs : List Nat} (q : wi σ H (kLc g tt te vs σ Q)) : tLc wi g tt te vs σ H Q := q
/-- what an item of the list does: the item, then the list -/
def kIt (D : Addr) (N : Hp → Prop) : VK := fun y H4 => ∃ acc, H4 D = some (.lst acc) ∧ acc.length < sizeLine ∧ N (upd H4 D (.lst (acc ++ [y])))
theorem w_kIt {p : Addr} {N : Hp → Prop} {acc : List V} {y : V} (h : H p = some (.lst acc)) (hl : acc.length < sizeLine) (k : ∀ H5, H5 p = some (.lst (acc ++ [y])) → Of p H H5 → N H5) : kIt p N y H := ⟨acc, h, hl, k _ upd_same .mk'⟩
def kTst (te : TE) (σ : L2.St) (D : Addr) (N : Hp → Prop) : Bool → Hp → Prop := fun b H3 => if b = true then te σ H3 (kIt D N) else N H3
theorem w_yes {Q : Bool → Hp → Prop} (q : Q true H) : tYes σ H Q := q
theorem w_tstT {te : TE} {p : Addr} {N : Hp → Prop} (q : te σ H (kIt p N)) : kTst te σ p N true H := iteT q
theorem w_tstF {te : TE} {p : Addr} {N : Hp → Prop} (q : N H) : kTst te σ p N false H := iteF q
def kEach (tt : TT) (te : TE) (vs : List Nat) (σ : L2.St) (D : Addr) (N : Hp → Prop) : L2.St → Hp → Prop := fun σ2 H2 => wipe σ2 vs = wipe σ vs ∧ tt σ2 H2 (kTst te σ2 D N)
theorem w_each {tt : TT} {te : TE} {vs : List Nat} {σ σ2 : L2.St} {p : Addr} {N : Hp → Prop} (e : wipe σ2 vs = wipe σ vs) (q : tt σ2 H (kTst te σ2 p N)) : kEach tt te vs σ p N σ2 H := ⟨e, q⟩
/-- a comprehension by what holds ahead of item i; p: where the made list stands -/
theorem w_lcG {J : It} {n : Nat} {g : TG} {tt : TT} {te : TE} {vs : List Nat} (Pv : Addr → Nat → Hp → Prop) (h0 : ∀ p H1, H1 p = some (.lst []) → Nw p H H1 → Pv p 0 H1)
    (hgo : ∀ p i H, i < n → Pv p i H → J.go i H) (hst : ∀ p H, Pv p n H → J.stop n H)
    (hs : ∀ p i x H H', i < n → Pv p i H → J.yld i H x H' → g x (wipe σ vs) H' (kEach tt te vs σ p (Pv p (i + 1)))) (hd : ∀ p H, Pv p n H → Q (.ref p) H) : kLc g tt te vs σ Q J H := fun p np =>
  lc_gen (n := n) (Pv p) (h0 p _ upd_same (.mk' np)) (hgo p) (hst p) (hs p) (hd p)
theorem w_lcL {a : Addr} {xs : List V} {g : TG} {tt : TT} {te : TE} {vs : List Nat} (Pv : Addr → Nat → Hp → Prop) (h0 : ∀ p H1, H1 p = some (.lst []) → Nw p H H1 → Pv p 0 H1)
    (hl : ∀ p i H, i ≤ xs.length → Pv p i H → H a = some (.lst xs)) (hs : ∀ p i x H, xs[i]? = some x → Pv p i H → g x (wipe σ vs) H (kEach tt te vs σ p (Pv p (i + 1)))) (hd : ∀ p H, Pv p xs.length H → Q (.ref p) H) : kLc g tt te vs σ Q (Itl K a) H := by
  refine w_lcG (n := xs.length) Pv h0 (fun p i H hi h => ⟨xs, xs[i], SqL.of (hl p i H (Nat.le_of_lt hi) h), List.getElem?_eq_getElem hi⟩) (fun p H h => ⟨xs, SqL.of (hl p _ H (Nat.le_refl _) h), Nat.le_refl _⟩) ?_ hd
  rintro p i x H H' hi h ⟨rfl, hx⟩
  exact hs p i x H' (hx xs (SqL.of (hl p i H' (Nat.le_of_lt hi) h))) h
theorem w_lcR {lo : Int} {n : Nat} {g : TG} {tt : TT} {te : TE} {vs : List Nat} (Pv : Addr → Nat → Hp → Prop) (h0 : ∀ p H1, H1 p = some (.lst []) → Nw p H H1 → Pv p 0 H1)
    (hs : ∀ p i H, i < n → Pv p i H → g (.int (lo + i)) (wipe σ vs) H (kEach tt te vs σ p (Pv p (i + 1)))) (hd : ∀ p H, Pv p n H → Q (.ref p) H) : kLc g tt te vs σ Q (Itr lo n) H := by
  refine w_lcG (n := n) Pv h0 (fun p i H hi h => hi) (fun p H h => Nat.le_refl _) ?_ hd
  rintro p i x H H' hi h ⟨rfl, rfl⟩
  exact hs p i H' hi h
theorem w_lcS {x : Str} {g : TG} {tt : TT} {te : TE} {vs : List Nat} (Pv : Addr → Nat → Hp → Prop) (h0 : ∀ p H1, H1 p = some (.lst []) → Nw p H H1 → Pv p 0 H1)
    (hs : ∀ p i c H, (tl x)[i]? = some c → Pv p i H → g (.str (one c)) (wipe σ vs) H (kEach tt te vs σ p (Pv p (i + 1)))) (hd : ∀ p H, Pv p (tl x).length H → Q (.ref p) H) : kLc g tt te vs σ Q (Its x) H := by
  have hz : x.cps.size = (tl x).length := len_tl x
  refine w_lcG (n := x.cps.size) Pv h0 (fun p i H hi h => hi) (fun p H h => Nat.le_refl _) ?_ (fun p H h => hd p H (by rw [← hz]; exact h))
  rintro p i v H H' hi h ⟨rfl, c, hc, rfl⟩
  exact hs p i c H' (getElem?_of_cps hc) h
end
end Sf
namespace Sf
open PySem PySem.Spec PyProof.Rows L2 TL
/-! ### worlds: the mathematics -/
/-- a move: the code of its letter, from, to -/
abbrev Mv := Nat × Int × Int
def sgs : List Nat := [97, 65, 98, 66, 99, 67, 100, 68, 101, 69, 102, 70, 103, 71, 104, 72]
def mvOn (c : Nat) (m : Mv) : Option (Int × Int) := if m.1 = c then some (m.2.1, m.2.2) else if m.1 = c + 32 then some (m.2.2, m.2.1) else none
def LM (ms : List Mv) (c : Nat) : List (Int × Int) := ms.filterMap (mvOn c)
def lk (l : List (Int × Int)) (x : Int) : Option Int := (l.find? fun p => decide (p.1 = x)).map (·.2)
def kvI (l : List (Int × Int)) : List (Key × V) := l.map fun p => (Sum.inl p.1, V.int p.2)
structure WOk (n : Int) (ms : List Mv) : Prop where
  rg : ∀ m ∈ ms, 97 ≤ m.1 ∧ m.1 ≤ 104 ∧ 0 ≤ m.2.1 ∧ m.2.1 < n ∧ 0 ≤ m.2.2 ∧ m.2.2 < n
  pw : ms.Pairwise fun m k => m.1 = k.1 → m.2.1 ≠ k.2.1 ∧ m.2.2 ≠ k.2.2
theorem WOk.pre {n : Int} {ms : List Mv} {m : Mv} (h : WOk n (ms ++ [m])) : WOk n ms ∧ ∀ k ∈ ms, k.1 = m.1 → k.2.1 ≠ m.2.1 ∧ k.2.2 ≠ m.2.2 :=
  ⟨⟨fun k hk => h.rg k (List.mem_append_left _ hk), (List.pairwise_append.mp h.pw).1⟩, fun k hk => (List.pairwise_append.mp h.pw).2.2 k hk m (List.mem_singleton.mpr rfl)⟩
theorem WOk.take {n : Int} {ms : List Mv} (h : WOk n ms) (i : Nat) : WOk n (ms.take i) := ⟨fun m hm => h.rg m (List.mem_of_mem_take hm), h.pw.sublist (List.take_sublist i ms)⟩
theorem take_snoc {α : Type} {l : List α} {i : Nat} {x : α} (h : l[i]? = some x) : l.take (i + 1) = l.take i ++ [x] := by
  rw [List.take_add_one, h]
  rfl
end Sf
namespace Sf
open PySem PySem.Spec PyProof.Rows L2 TL
/-! ### data: lists, tuples compared -/
section
variable {K : PySem.W.Frag} {H : Hp}
theorem lay_all {α : Type} {f : α → PyData} : ∀ {l : List α}, (∀ x ∈ l, PyData.canLay0 (f x) = true) → PyData.canLayAll0 (l.map f) = true
  | [], _ => rfl
  | x :: l, h => by
    rw [List.map_cons, PyData.canLayAll0, h x List.mem_cons_self, lay_all fun y hy => h y (List.mem_cons_of_mem _ hy)]
    rfl
theorem depth_all {α : Type} {f : α → PyData} {k : Nat} : ∀ {l : List α}, (∀ x ∈ l, (f x).depth ≤ k) → PyData.depthAll (l.map f) ≤ k
  | [], _ => Nat.zero_le _
  | x :: l, h => by
    rw [List.map_cons, PyData.depthAll]
    exact Nat.max_le.mpr ⟨h x List.mem_cons_self, depth_all fun y hy => h y (List.mem_cons_of_mem _ hy)⟩
theorem shaped_list {α : Type} {f : α → PyData} {l : List α} (h1 : ∀ x ∈ l, PyData.canLay0 (f x) = true) (h2 : ∀ x ∈ l, (f x).depth ≤ 60) : SeqAt.shaped (.list (l.map f)) = true := by
  unfold SeqAt.shaped
  rw [PyData.canLay0, lay_all h1, Bool.true_and, PyData.depth]
  have := depth_all h2
  exact decide_eq_true (by omega)
theorem strOk_wd {x : Str} (h : Wd x) : PyData.canLay0 (.str x) = true := by
  rw [PyData.canLay0]
  unfold PyData.strOk
  rw [Array.all_eq_true']
  intro c hc
  have := sgn_lt (h c (Array.mem_def.mp hc))
  exact decide_eq_true (by omega)
theorem eqv_nil {ds : List PyData} : PyData.eqv (.list ds) (.list []) = ds.isEmpty := by
  cases ds <;> simp [PyData.eqv, PyData.eqvAll]
/-- l != [] -/
theorem w_neNil {Q : VK} {p q : Addr} {ds : List PyData} {vs : List V} (h : H p = some (.lst vs)) (hd : DpAll K H vs ds) (hs : SeqAt.shaped (.list ds) = true) (hq : H q = some (.lst [])) (k : Q (.bl (!ds.isEmpty)) H) : rNeD K (.ref p) (.ref q) H Q :=
  ⟨_, _, .lst (SqL.of h) hd, .lst (SqL.of hq) .nil, hs, by decide +kernel, by rw [eqv_nil]; exact k⟩
end
end Sf
namespace Sf
open PySem PySem.Spec PyProof.Rows L2 TL
theorem passes_len {X : Cx} {W : WX} (n : Nat) (hn : X.N.length = n) (tk : Takes X W) : Passes (L2.CX X.prog X.w) X (fun cls d H => ∀ σ : L2.St, σ.length = n → W cls d σ H) := fun _ σ _ _ e s' I c => tk e s' (XE.of_call I (fun _ _ _ h => h σ (I.len.trans hn)) c)
section
variable {X : Cx} {CX : CXT} {k : Nat} {f C : Addr} {fd : FuncData} {ps : List Str} {sp : Sp} {E : XK} {x m : Str} {p pos apos : Pos} {e o : Expr} {es : List Expr} {te ta : TE} {t : TA} {mc : Value}
/-! ### C(), C an own exception whose __init__ is walked -/
theorem pmk_oex0 {fI : Addr} (T : OexC X.K C) (iC : PySem.W.findIn X.K (.ref C) "__init__" = some (some (.ref fI))) (tI : PySem.W.typeIn X.K (.ref fI) = some (.type "function"))
    (F1 : FnOk X.prog X.w X.K X.mg X.base CX k fI fd ps sp) (hr : Room (k + 1) X.A) (hb : Binds X.K fd ps []) (hx : Passes CX X (fun _ _ _ => False)) (hg : Gl X x) (hm : X.mg x = some (.ref C))
    (hdb : (x == ("__debug__" : Str)) = false := by decide) : PMk X (.Call (.Name x p) [] [] pos) (tMkO C sp [] tNil) := by
  intro pins s σ H Q I h
  obtain ⟨nm, q, N, bs, bm, sn, sub, ab, col, dd, k0, k1, k2, k3, k5, hC, hbm⟩ := T.cls
  refine wpAny_Call_Name_kw (ld_glob I hg hm ?_ hdb)
  refine PySem.W.callWith_K0 I.kIn T.kC ?_
  show wpAny _ _ (call (.ref C) []) _ _ _
  obtain ⟨hz, q1⟩ := h
  obtain ⟨hp, g, dr, tk, os⟩ := s
  have hsz : hp.objs.size ≤ hp.objs.size + 1 := Nat.le_succ _
  have hn : H (hp.objs.size + 1) = none := I.hok.fresh hsz
  have hq := q1 (hp.objs.size + 1) hn
  have kk : ∀ b o, hp.get? b = some o → ((hp.push (PySem.W.kdv_tup [])).push (PySem.HandSPX.excO C hp.objs.size)).get? b = some o := fun b o e => Heap.get?_push_of_some _ (Heap.get?_push_of_some _ e)
  have hget : ((hp.push (PySem.W.kdv_tup [])).push (PySem.HandSPX.excO C hp.objs.size)).get? (hp.objs.size + 1) = some (PySem.HandSPX.excO C hp.objs.size) := by heap_get
  have I2 : Inv X pins σ (upd H (hp.objs.size + 1) (exo (hp.objs.size + 1) C none)) ⟨(hp.push (PySem.W.kdv_tup [])).push (PySem.HandSPX.excO C hp.objs.size), g, dr, tk, os⟩ :=
    I.laid (t' := tk) (a := hp.objs.size + 1) (o := exo (hp.objs.size + 1) C none) (h' := (hp.push (PySem.W.kdv_tup [])).push (PySem.HandSPX.excO C hp.objs.size)) kk hsz (exo_ok hget)
  have r2 : Vals [V.ref (hp.objs.size + 1)] [Value.ref (hp.objs.size + 1)] := .cons rfl .nil
  have hl : [Value.ref (hp.objs.size + 1)].length = ps.length := by
    have e : [V.ref (hp.objs.size + 1)].length = ps.length := F1.len _ _ _ _ hq
    exact e
  refine wpAny_call (PySem.HandSPX.call_own F.excBase_ValueError (fun Y => PySem.HandSPX.refsVE_contains Y bm hbm) (I.kIn _ _ hC) (PySem.W.looks_findIn I.kIn iC) (fun self => PySem.W.bind_fn I.kIn self tI) (by decide)
    (codeAny_mono (F1.run _ X.stack _ _ ⟨[Value.ref (hp.objs.size + 1)], []⟩ [Value.ref (hp.objs.size + 1)] _ _ (fun _ _ _ => False) (hr.make C [] []) (I2.env0.make C [] []) (hb _ [Value.ref (hp.objs.size + 1)] I2.kIn hl) r2 hq) fun r s' hq' => ?_))
  cases r with
  | error er => exact hx pins σ _ _ er s' I2 hq'
  | ok fl =>
    cases fl with
    | ret u =>
      obtain ⟨v, H2, os2, bare2, un2, hok2, rv, ev, d, fs, ea, ed, hd1, q2⟩ := hq'
      subst ev
      obtain ⟨h2, g2, d2, t2, os'⟩ := s'
      exact ⟨rv, mk_end (raises_own T.exC T.tyC) I hsz kk un2 hok2 os2 bare2 ea ed hd1 q2⟩
    | next => exact False.elim hq'
    | brk => exact False.elim hq'
    | cont => exact False.elim hq'
/-! ### C.m(..), C an own class, m a def of it -/
def tClsFn (C : Addr) (sp : Sp) (E : XK) (ta : TE) (t : TA) : TE := fun σ H Q => ta σ H fun x H1 => x = .ref C ∧ t σ H1 fun vs H2 => sp vs H2 Q E
theorem pe_clsFn {pl : Sem Bool} (he : PE X o ta) (rd : PySem.W.readsIn X.K C mc = true) (ga : PySem.W.specialIn X.K (.ref C) "__getattribute__" = some (some (.builtin "type.__getattribute__"))) (at_ : PySem.W.findCls X.K (.ref C) mc m = some (.val (.ref f)))
    (F : FnOk X.prog X.w X.K X.mg X.base CX k f fd ps sp) (hr : Room k X.A) (kp : PySem.W.keepIn X.K (.ref f) = true) (hb : Binds X.K fd ps []) (hx : Passes CX X E) (ha : PA X (e :: es) t)
    (hst : starEach (e :: es) X.env = (false, eval e X.env) :: starEach es X.env := by rfl) (hpl : (backTo pos (starEach es X.env)).any (·.1) = false := by rfl)
    (ht : eval (.Call (.Attribute o m apos) (e :: es) [] pos) X.env = (do
      let ov ← eval o X.env
      standAt apos.atName
      let (f, first) ← holding [ov] (getMethod ov m pl)
      callWith pos f first (backTo pos (starEach (e :: es) X.env)) (backToKw pos (keywordEach [] X.env))) := by rfl) :
    PE X (.Call (.Attribute o m apos) (e :: es) [] pos) (tClsFn C sp E ta t) := by
  refine ⟨fun pins s σ H Q I h => ?_⟩
  refine PySem.W.methodCall_KW (pl := pl) (thn (he.run pins s σ H _ I h) fun u s1 ⟨x, H1, I1, rx, ex, q⟩ => ?_) ht
  subst ex
  obtain rfl : u = Value.ref C := rx
  refine PySem.W.method_cls I1.kIn ga (PySem.W.cls_value I1.kIn rd at_ rfl ?_)
  refine PySem.W.callWith_K (h₀ := X.base) I1.ok.mod.kin kp (thn (ha.run pos pins _ σ H1 _ (I1.tok _) q) fun us s3 ⟨vs, H2, I3, rv, q2⟩ => ⟨I3.kIn, ?_⟩) hst hpl
  exact run_fn F hr hb (dvs := []) .nil hx I3 rv (by rw [List.append_nil]; exact q2)
end
end Sf
namespace Sf
open PySem PySem.Spec PyProof.Rows L2 TL
/-! ### a def with defaults -/
structure FunD (K : PySem.W.Frag) (x qual : Str) (st : Stmt) (f : Addr) (fd : FuncData) : Prop where
  ex : ∃ (oc : Value) (od : Option Addr) (dV kV doc pm : Value) (an : Option Addr) (cdv ct : Value) (osl : Array (Option Value)),
    fd = PySem.W.fnOf x qual (defArgs st) (defBody st) (defScope st) dV kV doc pm an cdv ct ∧ K.lookup f = some ⟨oc, od, .func fd, osl⟩ ∧ PySem.W.codeIn K cdv qual = true
  kp : PySem.W.keepIn K (.ref f) = true
theorem FunD.ok {P : Program} {w : World} {K : PySem.W.Frag} {mg : Str → Option Value} {base : Heap} {x qual : Str} {st : Stmt} {f : Addr} {fd : FuncData} {N ps : List Str} {k : Nat} {sp : Sp} (F : FunD K x qual st f fd) (S : FnScope N ps (defScope st)) (len : ∀ vs H Q E, sp vs H Q E → vs.length = ps.length)
    (hbody : ∀ (cdv : Value) (A : Around) (outer : List Env) (s : Shared) (H : Hp) (vs : List V) (Q : VK) (E : XK), Room k (A.deeper (envOfC qual (defScope st) s.heap.objs.size f cdv)) → sp vs H Q E →
      ∃ t, PSs (cxOf CX0 P w K mg base N qual (defScope st) f cdv A outer s H E).nox (defBody st) t ∧ t { nx := fun _ H' => Q .non H', rt := Q } (start N vs) H) : FnOk P w K mg base CX0 (k + 1) f fd ps sp := by
  obtain ⟨oc, od, dV, kV, doc, pm, an, cdv, ct, osl, rfl, lk, hcd⟩ := F.ex
  refine fn_of lk hcd S len fun A outer s H vs Q E hr hsp => ?_
  obtain ⟨t, h, q⟩ := hbody cdv A outer s H vs Q E hr hsp
  exact ⟨t, h.nox, q⟩
def FbD (K : PySem.W.Frag) (x qual : Str) (st : Stmt) (f : Addr) (ps : List Str) : Prop := ∃ fd, FunD K x qual st f fd ∧ Binds K fd ps []
def Fb (K : PySem.W.Frag) (x qual : Str) (st : Stmt) (f : Addr) (ps : List Str) : Prop := ∃ fd, Fun K x qual st f fd ∧ Binds K fd ps []
theorem fbD_mk {K : PySem.W.Frag} {x qual : Str} {st : Stmt} {f T : Addr} {ps : List Str} {oc : Value} {od an : Option Addr} {osl : Array (Option Value)} {kV doc pm cdv ct : Value} (l : K.lookup f = some ⟨oc, od, .func (PySem.W.fnOf x qual (defArgs st) (defBody st) (defScope st) (.ref T) kV doc pm an cdv ct), osl⟩)
    (c : PySem.W.codeIn K cdv qual = true) (k : PySem.W.keepIn K (.ref f) = true)
    (b : ∀ (kV doc pm : Value) (an : Option Addr) (cdv ct : Value) (s : Shared) (us : List Value), K.In s.heap → us.length = ps.length → BindsTo s (PySem.W.fnOf x qual (defArgs st) (defBody st) (defScope st) (.ref T) kV doc pm an cdv ct) ⟨us, []⟩ (ps.zip us)) : FbD K x qual st f ps :=
  ⟨_, ⟨⟨oc, od, .ref T, kV, doc, pm, an, cdv, ct, osl, rfl, l, c⟩, k⟩, fun s us X hl => by
    rw [List.append_nil] at hl ⊢
    exact b kV doc pm an cdv ct s us X hl⟩
theorem se_binds {K : PySem.W.Frag} {T : Addr} {o : Obj} {v1 v2 : Value} {n : Nat} (ho : K.lookup T = some o) (hs : o.data = .seq #[v1, v2] n) (kV doc pm : Value) (an : Option Addr) (cdv ct : Value) (s : Shared) (us : List Value) (X : K.In s.heap) (hl : us.length = 3) :
    BindsTo s (PySem.W.fnOf "__init__" "SpoorError.__init__" (defArgs s_SpoorError___init__) (defBody s_SpoorError___init__) (defScope s_SpoorError___init__) (.ref T) kV doc pm an cdv ct) ⟨us, []⟩ ((["self", "word", "message"] : List Str).zip us) := by
  match us, hl with
  | [_, _, _], _ => exact PySem.W.binds_K X rfl ho hs rfl rfl
theorem fb_mk {K : PySem.W.Frag} {x qual : Str} {st : Stmt} {f : Addr} {ps : List Str} {oc : Value} {od an : Option Addr} {osl : Array (Option Value)} {kV doc pm cdv ct : Value} (l : K.lookup f = some ⟨oc, od, .func (PySem.W.fnOf x qual (defArgs st) (defBody st) (defScope st) .none kV doc pm an cdv ct), osl⟩)
    (c : PySem.W.codeIn K cdv qual = true) (k : PySem.W.keepIn K (.ref f) = true) (b : ∀ (kV doc pm : Value) (an : Option Addr) (cdv ct : Value) (us : List Value), us.length = ps.length → bindArgs (PySem.W.fnOf x qual (defArgs st) (defBody st) (defScope st) .none kV doc pm an cdv ct) ⟨us, []⟩ = pure (ps.zip us)) : Fb K x qual st f ps :=
  ⟨_, fun_mk l c k, (fun_mk l c k).binds b⟩
theorem exm_self {K : PySem.W.Frag} {C : Addr} (h0 : PySem.W.subIn K (.ref C) (.type "BaseException") = some true) (h1 : PySem.W.isClsIn K C = true) (h2 : PySem.W.typeIn K (.ref C) = some (.type "type")) (h3 : PySem.W.subIn K (.ref C) (.ref C) = some true) : PySem.W.exmOne K (.ref C) (.ref C) = some true := by
  unfold PySem.W.exmOne
  rw [if_pos (by rw [h0]; rfl)]
  unfold PySem.W.isClsIn at h1
  unfold PySem.W.kitCls
  dsimp only
  rw [h1, h2, if_pos (by simp), h3]
/-! ### the refusals -/
/-- an own refusal, the class at C, its __init__ at f -/
structure EC (K : PySem.W.Frag) (mg : Str → Option Value) (nm : Str) (C f : Addr) : Prop where
  ox : OexC K C
  iC : PySem.W.findIn K (.ref C) "__init__" = some (some (.ref f))
  tI : PySem.W.typeIn K (.ref f) = some (.type "function")
  gC : mg nm = some (.ref C)
  xf : XfC K C
  nw : PySem.W.findIn K (.ref C) "word" = some none
  te : PySem.W.exmOne K (.ref C) (.ref C) = some true
theorem oex_mk {K : PySem.W.Frag} {C : Addr} {nm q : Str} {N : Addr} {bs bm : List Value} {sn : List Str} {sub : List Value} {ab : Bool} {col : Option Bool} {dd : Option Addr} {k0 k1 k2 k3 k5 : Option Value}
    (lk : K.lookup C = some (excClassObj nm q C N bs bm true sn sub ab col dd k0 k1 k2 k3 k5 "ValueError.__new__")) (rv : PySem.HandSPX.refsVE bm = true) (sa : PySem.W.findIn K (.ref C) "__setattr__" = some (some (.builtin "object.__setattr__"))) (ex : PySem.W.subIn K (.ref C) (.type "BaseException") = some true)
    (ty : PySem.W.typeIn K (.ref C) = some (.type "type")) (kC : PySem.W.keepIn K (.ref C) = true) : OexC K C := ⟨⟨nm, q, N, bs, bm, sn, sub, ab, col, dd, k0, k1, k2, k3, k5, lk, rv⟩, sa, ex, ty, kC⟩
/-- SpoorError itself -/
structure SE (K : PySem.W.Frag) (mg : Str → Option Value) (C f : Addr) : Prop where
  gC : mg "SpoorError" = some (.ref C)
  rd : PySem.W.readsIn K C (.type "type") = true
  ga : PySem.W.specialIn K (.ref C) "__getattribute__" = some (some (.builtin "type.__getattribute__"))
  at_ : PySem.W.findCls K (.ref C) (.type "type") "__init__" = some (.val (.ref f))
  vV : PySem.W.findCls K (.type "ValueError") (.type "type") "__init__" = some (.val (.builtin "ValueError.__init__"))
  mV : mg "ValueError" = none
section
variable {P : Program} {w : World} {K : PySem.W.Frag} {mg : Str → Option Value} {base : Heap} {C CS fS : Addr}
def spSE (K : PySem.W.Frag) : Sp := fun vs H Q _ => ∃ (a C : Addr) (z m : Str), vs = [.ref a, .str z, .str m] ∧ OexC K C ∧ PySem.W.findIn K (.ref C) "word" = some none ∧ H a = some (exo a C none) ∧
  ∀ dx, H dx = none → dx ≠ a → Q .non (upd (upd H dx (exd dx [(("word" : Str), .str z)])) a (exo a C (some dx)))
theorem sc_se : FnScope ["self", "word", "message"] ["self", "word", "message"] (defScope s_SpoorError___init__) := ⟨rfl, rfl, rfl, by decide +kernel, rfl, by decide +kernel, by decide +kernel⟩
theorem ok_se {f : Addr} {fd : FuncData} {j : Nat} (F : FunD K "__init__" "SpoorError.__init__" s_SpoorError___init__ f fd) (S : SE K mg CS fS) : FnOk P w K mg base CX0 (j + 1) f fd ["self", "word", "message"] (spSE K) := by
  refine F.ok sc_se (fun vs H Q E h => ?_) (fun cdv A outer s H vs Q E hr h => ?_)
  · obtain ⟨a, C, z, m, rfl, _⟩ := h
    rfl
  · obtain ⟨a, C, z, m, rfl, ox, nw, ha, q⟩ := h
    refine ⟨_, pss_cons (ps_expr (pe_veinit (by rfl) S.mV S.vV (pa_cons (pv 0) (pa_cons (pv 2) pa_nil)))) (pss_one (ps_ost (pv 0) (pv 1))), ?_⟩
    refine ⟨_, rfl, _, rfl, a, C, _, rfl, (by show 1 ≤ 1000; decide), ox, ha, ?_⟩
    exact ⟨_, rfl, _, rfl, a, C, rfl, ox, nw, .inl ⟨ha, fun dx n ne => q dx n ne⟩⟩
/-- X.__init__(self): the word of X -/
def spEx (K : PySem.W.Frag) (z : Str) : Sp := fun vs H Q _ => ∃ (a C : Addr), vs = [.ref a] ∧ OexC K C ∧ PySem.W.findIn K (.ref C) "word" = some none ∧ H a = some (exo a C none) ∧
  ∀ dx, H dx = none → dx ≠ a → Q .non (upd (upd H dx (exd dx [(("word" : Str), .str z)])) a (exo a C (some dx)))
theorem w_mkO {H : Hp} {σ : L2.St} {W : XK} {z nm : Str} {f : Addr} (T : EC K mg nm C f) (k : ∀ (d : Addr) (H' : Hp), H d = none → H' d = some (.xd [(("word" : Str), .str z)]) → Same H H' → W (.ref C) (some d) H') : tMkO C (spEx K z) [] tNil σ H W := by
  refine ⟨by show 0 ≤ 1000; decide, fun a na => ⟨a, C, rfl, T.ox, T.nw, upd_same, fun dx n ne => ⟨rfl, dx, _, upd_same, ?_, ?_, k dx _ ?_ upd_same fun b o e => ?_⟩⟩⟩
  · rw [upd_ne ne, upd_same]
  · rw [upd_ne ne] at n
    exact n
  · rw [upd_ne ne] at n
    exact n
  · rw [upd_ne ne] at n
    rw [upd_ne (ne_of_none e n), del_ne (ne_of_none e na), upd_ne (ne_of_none e na), upd_ne (ne_of_none e n), upd_ne (ne_of_none e na)]
    exact e
end
end Sf
set_option hygiene false
/-! heap look-ups: hp; unlike addresses: ne; steps: st, go -/
local macro_rules | `(tactic| walk_at "hp") => `(tactic| first
  | assumption
  | (refine Sf.Nw.at (by assumption) ?_; walk_at "hp")
  | (refine L2.Same.at (by assumption) ?_; walk_at "hp")
  | (refine Sf.Of.at (by assumption) ?_ ?_; (case refine_1 => walk_at "ne"); (case refine_2 => walk_at "hp"))
  | (refine Sf.Fx.at (by assumption) ?_ ?_; (case refine_1 => walk_at "ne"); (case refine_2 => walk_at "hp")))
local macro_rules | `(tactic| walk_at "ne") => `(tactic| first
  | assumption
  | exact Ne.symm (by assumption)
  | exact Sf.Nw.ne (by assumption) (by walk_at "hp")
  | exact (Sf.Nw.ne (by assumption) (by walk_at "hp")).symm)
local macro_rules | `(tactic| walk_at "sm") => `(tactic| first
  | assumption
  | exact L2.Same.refl _
  | (refine L2.Same.nw ?_ (by assumption); walk_at "sm")
  | (refine L2.Same.trans ?_ (by assumption); walk_at "sm"))
local macro_rules | `(tactic| walk_at "bg") => `(tactic| first
  | assumption
  | (refine Sf.Bag.nw ?_ (by assumption); walk_at "bg")
  | (refine Sf.Bag.same (by assumption) ?_; walk_at "bg"))
local macro_rules | `(tactic| walk_at "fx") => `(tactic| first
  | assumption
  | exact Sf.Fx.refl
  | (refine Sf.Fx.nw ?_ (by assumption); walk_at "fx")
  | (refine Sf.Fx.same ?_ (by assumption); walk_at "fx")
  | (refine Sf.Fx.trans ?_ (by assumption); walk_at "fx"))
local macro_rules | `(tactic| walk_at "sz") => `(tactic| first
  | decide
  | (simp only [List.length_cons, List.length_nil, Nat.zero_add]; decide))
local macro_rules | `(tactic| walk_at "s0") => `(tactic| first
  | with_reducible refine Sf.w_var rfl ?_
  | with_reducible refine Sf.w_c ?_
  | with_reducible refine Sf.w_cons ?_
  | with_reducible refine Sf.w_nil ?_
  | with_reducible refine Sf.w_op ?_
  | with_reducible refine Sf.w_asg ?_
  | with_reducible refine Sf.w_gn ?_
  | with_reducible refine Sf.w_call ?_
  | with_reducible refine Sf.w_cb ?_
  | with_reducible refine Sf.w_if ?_
  | with_reducible refine Sf.w_test ?_
  | with_reducible refine Sf.w_tB ?_
  | with_reducible refine Sf.w_kB ?_
  | with_reducible refine Sf.w_i0 ?_
  | with_reducible refine Sf.w_eqI ?_
  | with_reducible refine Sf.w_neI ?_
  | with_reducible refine Sf.w_eqS ?_
  | with_reducible refine Sf.w_neS ?_
  | with_reducible refine Sf.w_eqB ?_
  | with_reducible refine Sf.w_neB ?_
  | with_reducible refine Sf.w_inSg ?_
  | with_reducible refine Sf.w_notInSg ?_
  | with_reducible refine Sf.w_isNI ?_
  | with_reducible refine Sf.w_isNN ?_
  | with_reducible refine Sf.w_isN ?_
  | with_reducible refine Sf.w_notNI ?_
  | with_reducible refine Sf.w_notNN ?_
  | with_reducible refine Sf.w_notN ?_
  | with_reducible refine Sf.w_un ?_
  | with_reducible refine Sf.w_u ?_
  | with_reducible refine Sf.w_sl ?_
  | with_reducible refine Sf.w_nopart ?_
  | with_reducible refine Sf.w_part ?_
  | with_reducible refine Sf.w_kpart ?_
  | with_reducible refine Sf.w_and ?_
  | with_reducible refine Sf.w_or ?_
  | with_reducible refine Sf.w_not ?_
  | with_reducible refine Sf.w_kNotT ?_
  | with_reducible refine Sf.w_kNotF ?_
  | with_reducible refine Sf.w_kNotN ?_
  | with_reducible refine Sf.w_kNot ?_
  | with_reducible refine Sf.w_andT ?_
  | with_reducible refine Sf.w_andF ?_
  | with_reducible refine Sf.w_orT ?_
  | with_reducible refine Sf.w_orF ?_
  | with_reducible refine Sf.w_andV ?_
  | with_reducible refine Sf.w_andVT ?_
  | with_reducible refine Sf.w_andVF ?_
  | with_reducible refine Sf.w_orV ?_
  | with_reducible refine Sf.w_notV ?_
  | with_reducible refine Sf.w_kNotVT ?_
  | with_reducible refine Sf.w_kNotVF ?_
  | with_reducible refine Sf.w_kNotV ?_
  | with_reducible refine Sf.w_ifE ?_
  | with_reducible refine Sf.w_ifET ?_
  | with_reducible refine Sf.w_ifEF ?_
  | with_reducible refine Sf.w_ifT ?_
  | with_reducible refine Sf.w_ifF ?_
  | with_reducible refine Sf.w_chain ?_
  | with_reducible refine Sf.w_lst ?_
  | with_reducible refine Sf.w_tup ?_
  | with_reducible refine Sf.w_drop ?_
  | with_reducible refine Sf.w_ret ?_
  | with_reducible refine Sf.w_retN ?_
  | with_reducible refine Sf.w_next ?_
  | with_reducible refine Sf.w_break ?_
  | with_reducible refine Sf.w_cont ?_
  | with_reducible refine Sf.w_meth ?_
  | with_reducible refine Sf.w_make ?_
  | with_reducible refine Sf.w_fld ?_
  | with_reducible refine Sf.w_sfld ?_
  | with_reducible refine Sf.w_bm ?_
  | with_reducible refine Sf.w_bm0 ?_
  | ((with_reducible refine' Sf.w_kbmL ?hp_ ?_); (case hp_ => walk_at "hp"))
  | with_reducible refine Sf.w_m0 ?_
  | with_reducible refine Sf.w_kM0 ?_
  | with_reducible refine Sf.w_m1 ?_
  | with_reducible refine Sf.w_kM1 ?_
  | with_reducible refine Sf.w_par ?_
  | with_reducible refine Sf.w_kPar ?_
  | with_reducible refine Sf.w_gcons ?_
  | with_reducible refine Sf.w_gnil ?_
  | with_reducible refine Sf.w_gsub ?_
  | with_reducible refine Sf.w_for ?_
  | with_reducible refine Sf.w_rng1 ?_
  | with_reducible refine Sf.w_ilist ?_
  | with_reducible refine Sf.w_itup ?_
  | with_reducible refine Sf.w_istr ?_
  | with_reducible refine Sf.w_kStr ?_
  | with_reducible refine Sf.w_ienum ?_
  | with_reducible refine Sf.w_lc ?_
  | with_reducible refine Sf.w_yes ?_
  | with_reducible refine Sf.w_tstT ?_
  | with_reducible refine Sf.w_tstF ?_
  | with_reducible refine Sf.w_each rfl ?_
  | with_reducible refine Sf.w_dget ?_
  | with_reducible refine Sf.w_din ?_
  | with_reducible refine Sf.w_dnotin ?_
  | ((with_reducible refine' Sf.w_kDInI ?hp_ ?_); (case hp_ => walk_at "hp"))
  | ((with_reducible refine' Sf.w_kDInS ?hp_ ?_); (case hp_ => walk_at "hp"))
  | ((with_reducible refine' Sf.w_kDNotInI ?hp_ ?_); (case hp_ => walk_at "hp"))
  | ((with_reducible refine' Sf.w_kDNotInS ?hp_ ?_); (case hp_ => walk_at "hp"))
  | with_reducible refine Sf.w_dget1 ?_
  | ((with_reducible refine' Sf.w_kDGet1 ?hp_ ?_); (case hp_ => walk_at "hp"))
  | ((with_reducible refine' Sf.w_kDGet1I ?hp_ ?_); (case hp_ => walk_at "hp"))
  | ((with_reducible refine' Sf.w_kDGet1S ?hp_ ?_); (case hp_ => walk_at "hp"))
  | with_reducible refine Sf.w_sdput ?_
  | with_reducible refine Sf.w_dc ?_
  | with_reducible refine Sf.w_tstDT ?_
  | with_reducible refine Sf.w_eachD rfl ?_
  | with_reducible refine Sf.w_lstRg ?_
  | with_reducible refine Sf.w_min2 ?_
  | with_reducible refine Sf.w_max2 ?_
  | with_reducible refine Sf.w_starts ?_
  | with_reducible refine Sf.w_ends ?_
  | with_reducible refine Sf.w_rg1 ?_
  | with_reducible refine Sf.w_kRg1 ?_
  | with_reducible refine Sf.w_aug rfl ?_
  | with_reducible refine Sf.w_ipI ?_
  | with_reducible refine Sf.w_isi_int_int ?_
  | with_reducible refine Sf.w_isi_int_bool ?_
  | with_reducible refine Sf.w_isi_int_str ?_
  | with_reducible refine Sf.w_isi_str_int ?_
  | with_reducible refine Sf.w_isi_str_bool ?_
  | with_reducible refine Sf.w_isi_str_str ?_
  | with_reducible refine Sf.w_isi_bool_int ?_
  | with_reducible refine Sf.w_isi_bool_bool ?_
  | with_reducible refine Sf.w_isi_bool_str ?_
  | with_reducible refine Sf.w_isi_NoneType_int ?_
  | with_reducible refine Sf.w_isi_NoneType_str ?_
  | with_reducible refine Sf.w_isi_NoneType_bool ?_
  | ((with_reducible refine' Sf.w_lenL ?hp_ ?_); (case hp_ => walk_at "hp"))
  | ((with_reducible refine' Sf.w_lenT ?hp_ ?_); (case hp_ => walk_at "hp"))
  | ((with_reducible refine' Sf.w_lenD ?hp_ ?_); (case hp_ => walk_at "hp"))
  | ((with_reducible refine' Sf.w_kList ?hp_ ?_); (case hp_ => walk_at "hp"))
  | ((with_reducible refine' Sf.w_kTupI ?hp_ ?_); (case hp_ => walk_at "hp"))
  | ((with_reducible refine' Sf.w_kEnum ?hp_ ?_); (case hp_ => walk_at "hp"))
  | ((with_reducible refine' Sf.w_ixT ?hp_ ?rf_ ?_); (case hp_ => walk_at "hp"); (case rf_ => exact rfl))
  | ((with_reducible refine' Sf.w_ixL ?hp_ ?rf_ ?_); (case hp_ => walk_at "hp"); (case rf_ => exact rfl))
  | ((with_reducible refine' Sf.w_gtup ?hp_ ?rf_ ?_); (case hp_ => walk_at "hp"); (case rf_ => exact rfl)))
local macro_rules | `(tactic| walk_at "gs") => `(tactic| repeat walk_at "s0")
local macro_rules | `(tactic| walk_at "go") => `(tactic| repeat (first | walk_at "s0" | with_reducible refine Sf.w_seq ?_))
namespace Sf
open PySem PySem.Spec PyProof.Rows L2 TL
section
variable {P : Program} {w : World} {K : PySem.W.Frag} {mg : Str → Option Value} {base : Heap}
/-! ### is_upto -/
def upB : V → Int → Bool
  | .int i, m => decide (0 ≤ i) && decide (i ≤ m)
  | _, _ => false
def flat3 : V → Prop
  | .bl _ => True
  | .int _ => True
  | .str _ => True
  | _ => False
def spUp : Sp := fun vs H Q _ => ∃ (v : V) (m : Int), vs = [v, .int m] ∧ flat3 v ∧ Q (.bl (upB v m)) H
abbrev HasUp (P : Program) (w : World) (K : PySem.W.Frag) (mg : Str → Option Value) (base : Heap) : Prop := Has P w K mg base 1 "is_upto" ["thing", "most"] spUp
theorem sc_up : FnScope ["thing", "most"] ["thing", "most"] (defScope s_is_upto) := ⟨rfl, rfl, rfl, by decide +kernel, rfl, by decide +kernel, by decide +kernel⟩
theorem has_up (F : FnAt K mg "is_upto" s_is_upto ["thing", "most"]) (B : Blt mg) : HasUp P w K mg base := F.has fun F => by
  refine F.ok sc_up (fun vs H Q E h => ?_) (fun cdv A outer s H vs Q E hr h => ?_)
  · obtain ⟨v, m, rfl, _⟩ := h
    rfl
  · obtain ⟨v, m, rfl, hv, q⟩ := h
    refine ⟨_, (pss_one (ps_ret (pe_and (pe_callB call_isi (by rfl) B.isinstance (by decide +kernel) (pa_cons (pv 0) (pa_cons (pe_bltn (v := .ty "int") (by rfl) B.int (by decide +kernel) rfl) pa_nil))) (pe_and (pe_not (pe_callB call_isi (by rfl) B.isinstance (by decide +kernel) (pa_cons (pv 0) (pa_cons (pe_bltn (v := .ty "bool") (by rfl) B.bool (by decide +kernel) rfl) pa_nil)))) (pe_one (pe_chain op_le op_le pe_int (pv 0) (pv 1))))))), ?_⟩
    cases v with
    | int i =>
      walk_at "go"
      refine w_chain2 (fun h0 => ?_) (fun h0 => ?_)
      · walk_at "go"
        rw [upB, decide_eq_true h0, Bool.true_and] at q
        exact q
      · walk_at "go"
        rw [upB, decide_eq_false h0, Bool.false_and] at q
        exact q
    | bl b =>
      walk_at "go"
      exact q
    | str x =>
      walk_at "go"
      exact q
    | non => exact hv.elim
    | byt b => exact hv.elim
    | flt b => exact hv.elim
    | ref b => exact hv.elim
    | ty b => exact hv.elim
end
end Sf
namespace Sf
open PySem PySem.Spec PyProof.Rows L2 TL
/-! ### worlds in the heap -/
def wf (pl ld : Addr) : List (Str × V) := putF "leads" (.ref ld) (putF "places" (.ref pl) [])
/-- moves in the heap -/
def MvAt (H : Hp) (v : V) (m : Mv) : Prop := ∃ t, v = .ref t ∧ H t = some (.tup [.str (one m.1), .int m.2.1, .int m.2.2])
abbrev MvsAt (H : Hp) (vs : List V) (ms : List Mv) : Prop := Paired (MvAt H) vs ms
/-- tuples stand -/
def Tps (H H' : Hp) : Prop := ∀ a xs, H a = some (.tup xs) → H' a = some (.tup xs)
theorem Tps.of {H H' : Hp} (s : Same H H') : Tps H H' := fun a xs h => s _ _ h
theorem Tps.refl {H : Hp} : Tps H H := fun _ _ h => h
theorem Tps.trans {H H1 H2 : Hp} (a : Tps H H1) (b : Tps H1 H2) : Tps H H2 := fun c xs h => b c xs (a c xs h)
theorem Tps.off {H H1 H2 : Hp} {p : Addr} {ys : List V} (a : Tps H H1) (h1 : H1 p = some (.lst ys)) (b : Of p H1 H2) : Tps H H2 := fun c xs h => b.at (ne_of (a _ _ h) h1 (by intro z; cases z)) (a _ _ h)
theorem Tps.fx {H H1 : Hp} {b l : Addr} (h : Bag H b l) (f : Fx b H H1) : Tps H H1 := fun c xs e => f _ _ e (by
  obtain ⟨ns, k, z, r, hb⟩ := h
  exact ne_of e hb.hb (by intro q; cases q))
theorem MvsAt.tps {H H' : Hp} (s : Tps H H') {vs : List V} {ms : List Mv} (h : MvsAt H vs ms) : MvsAt H' vs ms := Paired.mapP h fun v m ⟨t, e, ht⟩ => ⟨t, e, s _ _ ht⟩
theorem paired_get {α β : Type} {R : α → β → Prop} : ∀ {as : List α} {bs : List β} {i : Nat} {a : α}, Paired R as bs → as[i]? = some a → ∃ b, bs[i]? = some b ∧ R a b
  | _, _, _, _, .nil, e => by simp at e
  | _, _, 0, _, .cons r _, e => by simp at e; subst e; exact ⟨_, rfl, r⟩
  | _, _, i + 1, x, .cons _ t, e => by
    obtain ⟨u, h1, h2⟩ := paired_get (i := i) (a := x) t (by simpa using e)
    exact ⟨u, by simpa using h1, h2⟩
def leV (d : Nat → Addr) (l : List Nat) : List (Key × V) := l.map fun c => ((Sum.inr (one c) : Key), V.ref (d c))
/-- leads in the heap; those of N are not known ahead -/
structure LdAt (H : Hp) (ld : Addr) (d : Nat → Addr) (L : Nat → List (Int × Int)) : Prop where
  hd : H ld = some (.dK (leV d sgs))
  hc : ∀ c ∈ sgs, H (d c) = some (.dK (kvI (L c)))
theorem LdAt.same {H H' : Hp} {ld : Addr} {d : Nat → Addr} {L : Nat → List (Int × Int)} (h : LdAt H ld d L) (s : Same H H') : LdAt H' ld d L := ⟨s _ _ h.hd, fun c hc => s _ _ (h.hc c hc)⟩
/-- a world -/
def WAt (C : Addr) (H : Hp) (p : Addr) (n : Int) (L : Nat → List (Int × Int)) : Prop := ∃ (dx pl ld : Addr) (d : Nat → Addr), H p = some (.ins C dx (wf pl ld)) ∧ H pl = some (.lst (rgV 0 n)) ∧ LdAt H ld d L
theorem WAt.same {C : Addr} {H H' : Hp} {p : Addr} {n : Int} {L : Nat → List (Int × Int)} (s : Same H H') : WAt C H p n L → WAt C H' p n L
  | ⟨dx, pl, ld, d, h1, h2, h3⟩ => ⟨dx, pl, ld, d, s _ _ h1, s _ _ h2, h3.same s⟩
section
variable {P : Program} {w : World} {K : PySem.W.Frag} {mg : Str → Option Value} {base : Heap} {C : Addr}
end
end Sf
namespace Sf
open PySem PySem.Spec PyProof.Rows L2 TL
section
variable {P : Program} {w : World} {K : PySem.W.Frag} {mg : Str → Option Value} {base : Heap} {C : Addr}
/-! ### need_pairs -/
/-- pairs of words in the heap -/
def PrAt (H : Hp) (v : V) (m : Str × Str) : Prop := ∃ t, v = .ref t ∧ H t = some (.tup [.str m.1, .str m.2])
abbrev PrsAt (H : Hp) (vs : List V) (ms : List (Str × Str)) : Prop := Paired (PrAt H) vs ms
theorem PrsAt.tps {H H' : Hp} (s : Tps H H') {vs : List V} {ms : List (Str × Str)} (h : PrsAt H vs ms) : PrsAt H' vs ms := Paired.mapP h fun v m ⟨t, e, ht⟩ => ⟨t, e, s _ _ ht⟩
end
end Sf
namespace Sf
open PySem PySem.Spec PyProof.Rows L2 TL
/-! ### lists of texts, joined -/
theorem joinL_nil : ∀ ps : List (List Nat), joinL [] ps = ps.flatten
  | [] => rfl
  | [p] => by simp [joinL]
  | p :: q :: r => by
    show p ++ ([] ++ joinL [] (q :: r)) = _
    rw [joinL_nil (q :: r), List.nil_append]
    rfl
theorem tl_empty : tl (Str.ofString "") = [] := by decide +kernel
theorem join_tl (ys : List Str) : Txt.join (Str.ofString "") ys = mkS (ys.map tl).flatten := by
  refine eq_mkS ?_
  rw [join_eq, tl_join, tl_empty, joinL_nil]
theorem join_ones (l : List Nat) : Txt.join (Str.ofString "") (l.map one) = mkS l := by
  rw [join_tl, List.map_map]
  congr 1
  induction l with
  | nil => rfl
  | cons c l ih =>
    rw [List.map_cons, List.flatten_cons, ih]
    rfl
theorem len_empty : (Str.ofString "").length = 0 := by decide +kernel
theorem ones_sum (l : List Nat) : ((l.map one).map (·.length)).sum = l.length := by
  induction l with
  | nil => rfl
  | cons c l ih =>
    rw [List.map_cons, List.map_cons, List.sum_cons, ih, len_one, List.length_cons]
    omega
theorem join_fit {l : List Nat} (h : l.length ≤ 100000) : ((l.map one).map (·.length)).sum + (l.map one).length * (Str.ofString "").length ≤ 16777216 := by
  rw [ones_sum, len_empty]
  omega
end Sf
namespace Sf
open PySem PySem.Spec PyProof.Rows L2 TL
/-! ### claims of papers: the mathematics -/
abbrev Clm := Str × Str
def startsL (x y : Str) : Bool := decide ((tl x).take (tl y).length = tl y)
def endsL (x y : Str) : Bool := decide ((tl y).length ≤ (tl x).length ∧ (tl x).drop ((tl x).length - (tl y).length) = tl y)
def numV (v : V) (n : Nat) : Option Nat := if upB v ((n : Int) - 1) = true then (match v with | .int i => some i.toNat | _ => none) else none
theorem numV_some {v : V} {n k : Nat} (h : numV v n = some k) : v = .int (k : Int) ∧ k < n := by
  unfold numV at h
  split at h
  · rename_i hu
    cases v with
    | int i =>
      unfold upB at hu
      rw [Bool.and_eq_true, decide_eq_true_eq, decide_eq_true_eq] at hu
      have h : i.toNat = k := Option.some.inj h
      exact ⟨by congr 1; omega, by omega⟩
    | _ => cases hu
  · cases h
theorem numV_int {i : Int} {n : Nat} : numV (.int i) n = if 0 ≤ i ∧ i < n then some i.toNat else none := by
  have eu : upB (.int i) ((n : Int) - 1) = (decide (0 ≤ i) && decide (i ≤ (n : Int) - 1)) := rfl
  unfold numV
  rw [eu]
  by_cases h : 0 ≤ i ∧ i < n
  · rw [if_pos h, if_pos (by rw [decide_eq_true h.1, decide_eq_true (show i ≤ (n : Int) - 1 by omega)]; rfl)]
  · rw [if_neg h, if_neg]
    intro z
    rw [Bool.and_eq_true, decide_eq_true_eq, decide_eq_true_eq] at z
    exact h (by omega)
def cutB (x : Str) (k : Nat) : Str := mkS ((tl x).take k)
def cutF (x : Str) (k : Nat) : Str := mkS ((tl x).drop k)
def lastC (x : Str) : Nat := (tl x).getLastD 0
def onM (a b : Clm) : Option Clm := if startsL b.1 a.2 = true then some (a.1 ++ cutF b.1 a.2.length, b.2) else none
def homeM (a : Clm) : Option Clm := if a.1 = Str.ofString "" then none else some (a.1 ++ one (flipC (lastC a.1)), cutB a.1 (a.1.length - 1))
def oldS (l : Clm) : Bool → Str
  | true => l.1
  | false => l.2
def newS (l : Clm) : Bool → Str
  | true => l.2
  | false => l.1
def likeM (a l : Clm) (v : V) : Option Clm := match v with
  | .bl t => if endsL a.1 (oldS l t) = true then some (cutB a.1 (a.1.length - (oldS l t).length) ++ newS l t, a.2) else none
  | _ => none
def partM (a : Clm) (v : V) : Option Clm := (numV v (a.1.length + 1)).map fun k => (cutB a.1 k, cutB a.1 k)
def at1 (cs : List Clm) (v : V) : Option Clm := (numV v cs.length).bind fun k => cs[k]?
/-- the claim of a step -/
def claimM (F L cs : List Clm) (z : Str) (as : List V) : Option Clm :=
  if z = Str.ofString "start" then (match as with | [] => some (Str.ofString "", Str.ofString "") | _ => none)
  else if z = Str.ofString "fact" then (match as with | [a] => at1 F a | _ => none)
  else if z = Str.ofString "turn" then (match as with | [a] => (at1 cs a).map fun c => (c.2, c.1) | _ => none)
  else if z = Str.ofString "on" then (match as with | [a, b] => (at1 cs a).bind fun c => (at1 cs b).bind fun d => onM c d | _ => none)
  else if z = Str.ofString "home" then (match as with | [a] => (at1 cs a).bind homeM | _ => none)
  else if z = Str.ofString "like" then (match as with | [a, b, t] => (at1 cs a).bind fun c => (at1 L b).bind fun l => likeM c l t | _ => none)
  else if z = Str.ofString "part" then (match as with | [a, b] => (at1 cs a).bind fun c => partM c b | _ => none)
  else none
def Bnd (M : Nat) (cs : List Clm) : Prop := ∀ c ∈ cs, Wd c.1 ∧ Wd c.2 ∧ c.1.length ≤ M ∧ c.2.length ≤ M
theorem Bnd.mono {M N : Nat} {cs : List Clm} (h : Bnd M cs) (hn : M ≤ N) : Bnd N cs := fun c hc => by
  obtain ⟨h1, h2, h3, h4⟩ := h c hc
  exact ⟨h1, h2, by omega, by omega⟩
/-- all claims of a paper, None where a step makes none -/
def runM (F L : List Clm) : List (Str × List V) → List Clm → Option (List Clm)
  | [], cs => some cs
  | r :: rs, cs => (claimM F L cs r.1 r.2).bind fun c => runM F L rs (cs ++ [c])
end Sf
namespace Sf
open PySem PySem.Spec PyProof.Rows L2 TL
/-- a step of a paper: its word and what stands behind it -/
abbrev Row := Str × List V
end Sf
namespace Sf
open PySem PySem.Spec PyProof.Rows L2 TL
/-! ### trails: steps and their claims -/
theorem runM_snoc {F L : List Clm} {r : Row} : ∀ (rs : List Row) (c0 cs : List Clm) (c : Clm), runM F L rs c0 = some cs → claimM F L cs r.1 r.2 = some c → runM F L (rs ++ [r]) c0 = some (cs ++ [c])
  | [], c0, cs, c, h, hc => by
    cases h
    show (claimM F L c0 r.1 r.2).bind (fun c => runM F L [] (c0 ++ [c])) = _
    rw [hc]
    rfl
  | q :: rs, c0, cs, c, h, hc => by
    obtain ⟨d, h1, h2⟩ := Option.bind_eq_some_iff.mp (show (claimM F L c0 q.1 q.2).bind (fun c => runM F L rs (c0 ++ [c])) = some cs from h)
    show (claimM F L c0 q.1 q.2).bind (fun c => runM F L (rs ++ [r]) (c0 ++ [c])) = _
    rw [h1]
    exact runM_snoc rs _ cs c h2 hc
theorem runM_len {F L : List Clm} : ∀ (rs : List Row) (c0 cs : List Clm), runM F L rs c0 = some cs → cs.length = c0.length + rs.length
  | [], c0, cs, h => by cases h; rfl
  | q :: rs, c0, cs, h => by
    obtain ⟨d, h1, h2⟩ := Option.bind_eq_some_iff.mp (show (claimM F L c0 q.1 q.2).bind (fun c => runM F L rs (c0 ++ [c])) = some cs from h)
    have := runM_len rs _ cs h2
    rw [List.length_append] at this
    have e : [d].length = 1 := rfl
    show cs.length = c0.length + (rs.length + 1)
    omega
/-- the step that made a claim, and the claims ahead of it -/
theorem runM_at {F L : List Clm} : ∀ (rs : List Row) (c0 cs : List Clm), runM F L rs c0 = some cs → ∀ i r, rs[i]? = some r → ∃ pre c, pre <+: cs ∧ pre.length = c0.length + i ∧ claimM F L pre r.1 r.2 = some c ∧ cs[c0.length + i]? = some c
  | q :: rs, c0, cs, h, i, r, hi => by
    obtain ⟨d, h1, h2⟩ := Option.bind_eq_some_iff.mp (show (claimM F L c0 q.1 q.2).bind (fun c => runM F L rs (c0 ++ [c])) = some cs from h)
    have pre : ∀ (rs : List Row) (c0 cs : List Clm), runM F L rs c0 = some cs → c0 <+: cs := fun rs => by
      induction rs with
      | nil => intro c0 cs h; cases h; exact List.prefix_refl _
      | cons q rs ih =>
        intro c0 cs h
        obtain ⟨d, h1, h2⟩ := Option.bind_eq_some_iff.mp (show (claimM F L c0 q.1 q.2).bind (fun c => runM F L rs (c0 ++ [c])) = some cs from h)
        exact (List.prefix_append c0 [d]).trans (ih _ _ h2)
    cases i with
    | zero =>
      cases hi
      refine ⟨c0, d, (List.prefix_append c0 [d]).trans (pre _ _ _ h2), rfl, h1, ?_⟩
      obtain ⟨t, rfl⟩ := pre _ _ _ h2
      rw [List.append_assoc, Nat.add_zero, List.getElem?_append_right (Nat.le_refl _), Nat.sub_self]
      rfl
    | succ i =>
      obtain ⟨p, c, g1, g2, g3, g4⟩ := runM_at rs _ cs h2 i r hi
      rw [List.length_append] at g2 g4
      have e : [d].length = 1 := rfl
      rw [e] at g2 g4
      exact ⟨p, c, g1, by omega, g3, by rw [show c0.length + (i + 1) = c0.length + 1 + i by omega]; exact g4⟩
/-- what is kept by the steps that need neither facts nor likenesses -/
structure Clo (Φ : Clm → Prop) : Prop where
  start : Φ (Str.ofString "", Str.ofString "")
  turn : ∀ x y, Φ (x, y) → Φ (y, x)
  on : ∀ x y t z, Φ (x, y) → Φ (y ++ t, z) → Φ (x ++ t, z)
  home : ∀ x s y, sgn s = true → Φ (x ++ one s, y) → Φ (x ++ one s ++ one (flipC s), x)
  part : ∀ x t y, Φ (x ++ t, y) → Φ (x, x)
/-- of what papers are: facts, likenesses, and something that all their claims keep -/
structure Px where
  F : List Clm
  L : List Clm
  Φ : Clm → Prop
  clo : Clo Φ
structure Trl where
  rows : List Row
  cs : List Clm
/-- claims that are not too long -/

def Sm (c : Clm) : Prop := c.1.length ≤ 1000000 ∧ c.2.length ≤ 1000000
/-- a trail that makes its claims, each of which is so -/
structure TOk (X : Px) (t : Trl) : Prop where
  run : runM X.F X.L t.rows [] = some t.cs
  so : ∀ c ∈ t.cs, X.Φ c
  ln : ∀ c ∈ t.cs, Sm c
def Trl.add (t : Trl) (r : Row) (c : Clm) : Trl := ⟨t.rows ++ [r], t.cs ++ [c]⟩
theorem TOk.len {X : Px} {t : Trl} (h : TOk X t) : t.cs.length = t.rows.length := by
  have := runM_len _ _ _ h.run
  rw [this]
  exact Nat.zero_add _
theorem TOk.lt {X : Px} {t : Trl} (h : TOk X t) {n : Nat} {c : Clm} (hn : t.cs[n]? = some c) : n < t.rows.length := by
  rw [← h.len]
  exact (List.getElem?_eq_some_iff.mp hn).1
theorem TOk.add {X : Px} {t : Trl} (h : TOk X t) {r : Row} {c : Clm} (hc : claimM X.F X.L t.cs r.1 r.2 = some c) (hp : X.Φ c) (hl : Sm c) : TOk X (t.add r c) := ⟨runM_snoc _ _ _ _ h.run hc, fun d hd => by
  rcases List.mem_append.mp hd with z | z
  · exact h.so d z
  · rw [List.mem_singleton.mp z]; exact hp, fun d hd => by
  rcases List.mem_append.mp hd with z | z
  · exact h.ln d z
  · rw [List.mem_singleton.mp z]; exact hl⟩
theorem TOk.sm {X : Px} {t : Trl} (h : TOk X t) {n : Nat} {c : Clm} (hn : t.cs[n]? = some c) : Sm c := h.ln c (List.mem_of_getElem? hn)
theorem TOk.sm1 {X : Px} {t : Trl} (h : TOk X t) {n : Nat} {x y : Str} (hn : t.cs[n]? = some (x, y)) : x.length ≤ 1000000 := (h.sm hn).1
theorem TOk.sm2 {X : Px} {t : Trl} (h : TOk X t) {n : Nat} {x y : Str} (hn : t.cs[n]? = some (x, y)) : y.length ≤ 1000000 := (h.sm hn).2
theorem TOk.at {X : Px} {t : Trl} (h : TOk X t) {n : Nat} {c : Clm} (hn : t.cs[n]? = some c) : X.Φ c := h.so c (List.mem_of_getElem? hn)
theorem at1_get {cs : List Clm} {n : Nat} {c : Clm} (h : cs[n]? = some c) : at1 cs (.int (n : Int)) = some c := by
  unfold at1
  have hn : n < cs.length := (List.getElem?_eq_some_iff.mp h).1
  rw [numV_int, if_pos ⟨by omega, by omega⟩]
  exact h
theorem w1 : ¬ (Str.ofString "turn" = Str.ofString "start") := by decide +kernel
theorem w2 : ¬ (Str.ofString "turn" = Str.ofString "fact") := by decide +kernel
theorem w3 : ¬ (Str.ofString "on" = Str.ofString "start") := by decide +kernel
theorem w4 : ¬ (Str.ofString "on" = Str.ofString "fact") := by decide +kernel
theorem w5 : ¬ (Str.ofString "on" = Str.ofString "turn") := by decide +kernel
theorem w6 : ¬ (Str.ofString "home" = Str.ofString "start") := by decide +kernel
theorem w7 : ¬ (Str.ofString "home" = Str.ofString "fact") := by decide +kernel
theorem w8 : ¬ (Str.ofString "home" = Str.ofString "turn") := by decide +kernel
theorem w9 : ¬ (Str.ofString "home" = Str.ofString "on") := by decide +kernel
theorem w10 : ¬ (Str.ofString "part" = Str.ofString "start") := by decide +kernel
theorem w11 : ¬ (Str.ofString "part" = Str.ofString "fact") := by decide +kernel
theorem w12 : ¬ (Str.ofString "part" = Str.ofString "turn") := by decide +kernel
theorem w13 : ¬ (Str.ofString "part" = Str.ofString "on") := by decide +kernel
theorem w14 : ¬ (Str.ofString "part" = Str.ofString "home") := by decide +kernel
theorem w15 : ¬ (Str.ofString "part" = Str.ofString "like") := by decide +kernel
section
variable {F L cs : List Clm}
theorem cl_turn {n : Nat} {x y : Str} (h : cs[n]? = some (x, y)) : claimM F L cs (Str.ofString "turn") [.int (n : Int)] = some (y, x) := by
  unfold claimM
  rw [if_neg w1, if_neg w2, if_pos rfl]
  show (at1 cs (.int (n : Int))).map _ = _
  rw [at1_get h]
  rfl
theorem starts_app (y t : Str) : startsL (y ++ t) y = true := by
  unfold startsL
  rw [tl_append]
  exact decide_eq_true (List.take_left ..)
theorem cutF_app (y t : Str) : cutF (y ++ t) y.length = t := by
  unfold cutF
  rw [tl_append, len_tl, List.drop_left]
  exact ext_tl rfl
theorem cutB_app (y t : Str) : cutB (y ++ t) y.length = y := by
  unfold cutB
  rw [tl_append, len_tl, List.take_left]
  exact ext_tl rfl
theorem cl_on {n m : Nat} {x y t z : Str} (h : cs[n]? = some (x, y)) (g : cs[m]? = some (y ++ t, z)) : claimM F L cs (Str.ofString "on") [.int (n : Int), .int (m : Int)] = some (x ++ t, z) := by
  unfold claimM
  rw [if_neg w3, if_neg w4, if_neg w5, if_pos rfl]
  show (at1 cs (.int (n : Int))).bind _ = _
  rw [at1_get h]
  show (at1 cs (.int (m : Int))).bind _ = _
  rw [at1_get g]
  show onM (x, y) (y ++ t, z) = _
  unfold onM
  dsimp only
  rw [if_pos (starts_app y t), cutF_app]
theorem last_app (x : Str) (s : Nat) : lastC (x ++ one s) = s := by
  unfold lastC
  rw [tl_append, tl_one, List.getLastD_eq_getLast?, List.getLast?_append]
  rfl
theorem one_ne (x : Str) (s : Nat) : ¬ x ++ one s = Str.ofString "" := fun e => by
  have := congrArg tl e
  rw [tl_append, tl_one, tl_empty] at this
  have := congrArg List.length this
  rw [List.length_append] at this
  have e1 : [s].length = 1 := rfl
  have e2 : ([] : List Nat).length = 0 := rfl
  omega
theorem cl_home {n : Nat} {x y : Str} {s : Nat} (h : cs[n]? = some (x ++ one s, y)) : claimM F L cs (Str.ofString "home") [.int (n : Int)] = some (x ++ one s ++ one (flipC s), x) := by
  unfold claimM
  rw [if_neg w6, if_neg w7, if_neg w8, if_neg w9, if_pos rfl]
  show (at1 cs (.int (n : Int))).bind _ = _
  rw [at1_get h]
  show homeM (x ++ one s, y) = _
  unfold homeM
  dsimp only
  rw [if_neg (one_ne x s), last_app, len_app, len_one, Nat.add_sub_cancel, cutB_app]
theorem cl_part {n : Nat} {x t y : Str} (h : cs[n]? = some (x ++ t, y)) : claimM F L cs (Str.ofString "part") [.int (n : Int), .int ((x.length : Nat) : Int)] = some (x, x) := by
  unfold claimM
  rw [if_neg w10, if_neg w11, if_neg w12, if_neg w13, if_neg w14, if_neg w15, if_pos rfl]
  show (at1 cs (.int (n : Int))).bind _ = _
  rw [at1_get h]
  show partM (x ++ t, y) (.int ((x.length : Nat) : Int)) = _
  unfold partM
  rw [numV_int, if_pos ⟨by omega, by rw [len_app]; omega⟩, Int.toNat_natCast]
  show some (cutB (x ++ t) x.length, cutB (x ++ t) x.length) = _
  rw [cutB_app]
end
/-- a longer trail -/
structure TExt (X : Px) (t t' : Trl) (k : Nat) : Prop where
  ok : TOk X t'
  rows : t.rows <+: t'.rows
  cs : t.cs <+: t'.cs
  len : t'.rows.length ≤ t.rows.length + k
section
variable {X : Px} {t u v : Trl} {k j n : Nat} {c : Clm}
theorem TExt.refl (h : TOk X t) : TExt X t t 0 := ⟨h, List.prefix_refl _, List.prefix_refl _, Nat.le_refl _⟩
theorem TExt.trans (a : TExt X t u k) (b : TExt X u v j) : TExt X t v (k + j) := ⟨b.ok, a.rows.trans b.rows, a.cs.trans b.cs, by have := a.len; have := b.len; omega⟩
theorem TExt.mono (a : TExt X t u k) (h : k ≤ j) : TExt X t u j := ⟨a.ok, a.rows, a.cs, by have := a.len; omega⟩
theorem TExt.add (h : TOk X t) {r : Row} (hc : claimM X.F X.L t.cs r.1 r.2 = some c) (hp : X.Φ c) (hl : Sm c) : TExt X t (t.add r c) 1 := ⟨h.add hc hp hl, List.prefix_append _ _, List.prefix_append _ _, by
  show (t.rows ++ [r]).length ≤ _
  rw [List.length_append]
  exact Nat.le_refl _⟩
theorem TExt.get (a : TExt X t u k) (h : t.cs[n]? = some c) : u.cs[n]? = some c := by
  obtain ⟨r, e⟩ := a.cs
  rw [← e, List.getElem?_append_left (List.getElem?_eq_some_iff.mp h).1]
  exact h
theorem TExt.turn (h : TOk X t) {x y : Str} (g : t.cs[n]? = some (x, y)) : TExt X t (t.add (Str.ofString "turn", [.int (n : Int)]) (y, x)) 1 := .add h (cl_turn g) (X.clo.turn _ _ (h.at g)) ⟨h.sm2 g, h.sm1 g⟩
theorem TExt.on (h : TOk X t) {m : Nat} {x y z w : Str} (g : t.cs[n]? = some (x, y)) (g2 : t.cs[m]? = some (y ++ w, z)) (hl : (x ++ w).length ≤ 1000000) : TExt X t (t.add (Str.ofString "on", [.int (n : Int), .int (m : Int)]) (x ++ w, z)) 1 := .add h (cl_on g g2) (X.clo.on _ _ _ _ (h.at g) (h.at g2)) ⟨hl, h.sm2 g2⟩
theorem TExt.home (h : TOk X t) {x y : Str} {s : Nat} (hs : sgn s = true) (g : t.cs[n]? = some (x ++ one s, y)) (hl : x.length + 2 ≤ 1000000) : TExt X t (t.add (Str.ofString "home", [.int (n : Int)]) (x ++ one s ++ one (flipC s), x)) 1 := .add h (cl_home g) (X.clo.home _ _ _ hs (h.at g)) ⟨by
  rw [len_tl] at hl
  show (x ++ one s ++ one (flipC s)).length ≤ 1000000
  rw [len_tl, tl_append, tl_append, tl_one, tl_one, List.length_append, List.length_append]
  exact hl, by show x.length ≤ 1000000; omega⟩
theorem TExt.part (h : TOk X t) {x w y : Str} (g : t.cs[n]? = some (x ++ w, y)) : TExt X t (t.add (Str.ofString "part", [.int (n : Int), .int ((x.length : Nat) : Int)]) (x, x)) 1 := .add h (cl_part g) (X.clo.part _ _ _ (h.at g)) (by
  have h1 := h.sm1 g
  rw [len_tl, tl_append, List.length_append, ← len_tl] at h1
  exact ⟨by show x.length ≤ 1000000; omega, by show x.length ≤ 1000000; omega⟩)
end
/-- what a step that is a turning has turned -/
theorem TOk.turned {X : Px} {t : Trl} (h : TOk X t) {n : Nat} {x y : Str} {v : V} {as : List V} (g : t.cs[n]? = some (x, y)) (hr : t.rows[n]? = some (Str.ofString "turn", v :: as)) : ∃ m : Nat, v = .int (m : Int) ∧ m < n ∧ t.cs[m]? = some (y, x) := by
  obtain ⟨pre, c, h1, h2, h3, h4⟩ := runM_at _ _ _ h.run _ _ hr
  have e0 : ([] : List Clm).length = 0 := rfl
  rw [e0, Nat.zero_add] at h2 h4
  rw [g] at h4
  cases h4
  unfold claimM at h3
  rw [if_neg w1, if_neg w2, if_pos rfl] at h3
  cases as with
  | cons b as => cases h3
  | nil =>
    obtain ⟨d, hd, e⟩ := Option.map_eq_some_iff.mp h3
    unfold at1 at hd
    obtain ⟨k, hk, hd2⟩ := Option.bind_eq_some_iff.mp hd
    obtain ⟨rfl, hk2⟩ := numV_some hk
    refine ⟨k, rfl, by omega, ?_⟩
    obtain ⟨r, er⟩ := h1
    rw [← er, List.getElem?_append_left hk2, hd2]
    obtain ⟨d1, d2⟩ := d
    obtain ⟨rfl, rfl⟩ := Prod.mk.inj e
    rfl
end Sf
namespace Sf
open PySem PySem.Spec PyProof.Rows L2 TL
/-! ### what stands in a hall -/
structure PapM where
  one : Str
  oth : Str
  nums : List Int
  fo : List (List V)
  ba : List (List V)
structure StM where
  fol : Nat
  prs : List (Int × Clm)
  txs : List (Str × Str)
  pps : List (Str × PapM)
abbrev TpR (H : Hp) (v : V) (r : List V) : Prop := ∃ t, v = .ref t ∧ H t = some (.tup r)
def PapAt (H : Hp) (v : V) (p : PapM) : Prop := ∃ (t n f b : Addr) (us vs : List V), v = .ref t ∧ H t = some (.tup [.str p.one, .str p.oth, .ref n, .ref f, .ref b]) ∧ H n = some (.tup (p.nums.map V.int)) ∧ H f = some (.tup us) ∧ Paired (TpR H) us p.fo ∧ H b = some (.tup vs) ∧ Paired (TpR H) vs p.ba
theorem PapAt.tps {H H' : Hp} {v : V} {p : PapM} (T : Tps H H') (h : PapAt H v p) : PapAt H' v p := by
  obtain ⟨t, n, f, b, us, vs, e, h1, h2, h3, h4, h5, h6⟩ := h
  exact ⟨t, n, f, b, us, vs, e, T _ _ h1, T _ _ h2, T _ _ h3, Paired.mono (fun _ _ ⟨t, e, h⟩ => ⟨t, e, T _ _ h⟩) h4, T _ _ h5, Paired.mono (fun _ _ ⟨t, e, h⟩ => ⟨t, e, T _ _ h⟩) h6⟩
def LnE (H : Hp) (e : Key × V) (l : Int × Clm) : Prop := e.1 = .inl l.1 ∧ PrAt H e.2 l.2
theorem LnE.tps {H H' : Hp} {e : Key × V} {l : Int × Clm} (T : Tps H H') (h : LnE H e l) : LnE H' e l := by
  obtain ⟨h1, t, e, h2⟩ := h
  exact ⟨h1, t, e, T _ _ h2⟩
def PpE (H : Hp) (e : Key × V) (l : Str × PapM) : Prop := e.1 = .inr l.1 ∧ PapAt H e.2 l.2
theorem PpE.tps {H H' : Hp} {e : Key × V} {l : Str × PapM} (T : Tps H H') (h : PpE H e l) : PpE H' e l := ⟨h.1, h.2.tps T⟩
abbrev LnsAt (H : Hp) (kvs : List (Key × V)) (ls : List (Int × Clm)) : Prop := Paired (LnE H) kvs ls
abbrev PpsAt (H : Hp) (kvs : List (Key × V)) (ls : List (Str × PapM)) : Prop := Paired (PpE H) kvs ls
theorem LnsAt.tps {H H' : Hp} {kvs : List (Key × V)} {ls : List (Int × Clm)} (T : Tps H H') (h : LnsAt H kvs ls) : LnsAt H' kvs ls := Paired.mono (fun _ _ h => h.tps T) h
theorem PpsAt.tps {H H' : Hp} {kvs : List (Key × V)} {ls : List (Str × PapM)} (T : Tps H H') (h : PpsAt H kvs ls) : PpsAt H' kvs ls := Paired.mono (fun _ _ h => h.tps T) h
def txK (l : List (Str × Str)) : List (Key × V) := l.map fun e => (.inr e.1, .str e.2)
def stf (f : Int) (p t q : Addr) : List (Str × V) := [("following", .int f), ("pairs", .ref p), ("texts", .ref t), ("papers", .ref q)]
/-- the dicts of a stand -/
structure DctsAt (H : Hp) (p t q : Addr) (M : StM) : Prop where
  pr : ∃ kp, H p = some (.dK kp) ∧ LnsAt H kp M.prs
  tx : H t = some (.dK (txK M.txs))
  pp : ∃ kq, H q = some (.dK kq) ∧ PpsAt H kq M.pps
def StAt (CS : Addr) (H : Hp) (s : Addr) (M : StM) : Prop := ∃ (dx p t q : Addr), H s = some (.ins CS dx (stf M.fol p t q)) ∧ DctsAt H p t q M
/-- what isn't changed: dicts of keys, tuples -/
def DkT (H H' : Hp) : Prop := (∀ a kvs, H a = some (.dK kvs) → H' a = some (.dK kvs)) ∧ Tps H H'
theorem DkT.of {H H' : Hp} (s : Same H H') : DkT H H' := ⟨fun _ _ h => s.at h, .of s⟩
theorem DkT.trans {H H1 H2 : Hp} (a : DkT H H1) (b : DkT H1 H2) : DkT H H2 := ⟨fun c k h => b.1 c k (a.1 c k h), a.2.trans b.2⟩
theorem DkT.off {H H' : Hp} {p : Addr} {o : HO} (h : H p = some o) (n1 : ∀ k, o ≠ .dK k) (n2 : ∀ k, o ≠ .tup k) (f : Of p H H') : DkT H H' := ⟨fun a k e => f.at (ne_of e h (fun z => n1 k z.symm)) e, fun a k e => f.at (ne_of e h (fun z => n2 k z.symm)) e⟩
theorem DctsAt.dkt {H H' : Hp} {p t q : Addr} {M : StM} (d : DctsAt H p t q M) (k : DkT H H') : DctsAt H' p t q M := by
  obtain ⟨kp, h1, h2⟩ := d.pr
  obtain ⟨kq, h3, h4⟩ := d.pp
  exact ⟨⟨kp, k.1 _ _ h1, h2.tps k.2⟩, k.1 _ _ d.tx, ⟨kq, k.1 _ _ h3, h4.tps k.2⟩⟩
theorem StAt.dkt {CS s : Addr} {H H' : Hp} {M : StM} (h : StAt CS H s M) (k : DkT H H') (e : H' s = H s) : StAt CS H' s M := by
  obtain ⟨dx, p, t, q, h1, h2⟩ := h
  exact ⟨dx, p, t, q, by rw [e]; exact h1, h2.dkt k⟩
theorem StAt.same {CS s : Addr} {H H' : Hp} {M : StM} (h : StAt CS H s M) (k : Same H H') : StAt CS H' s M := by
  obtain ⟨dx, p, t, q, h1, h2⟩ := h
  exact ⟨dx, p, t, q, k.at h1, h2.dkt (.of k)⟩
/-! fields -/
theorem putF_ne {f g : Str} {v x : V} {r : List (Str × V)} (h : ¬ g = f) : putF f v ((g, x) :: r) = (g, x) :: putF f v r := if_neg h
theorem putF_eq {f : Str} {v x : V} {r : List (Str × V)} : putF f v ((f, x) :: r) = (f, v) :: r := if_pos rfl
theorem st_f {f g : Int} {p t q : Addr} : putF "following" (V.int g) (stf f p t q) = stf g p t q := putF_eq
theorem st_p {f : Int} {p p' t q : Addr} : putF "pairs" (V.ref p') (stf f p t q) = stf f p' t q := by
  unfold stf
  rw [putF_ne (by decide +kernel), putF_eq]
theorem st_t {f : Int} {p t t' q : Addr} : putF "texts" (V.ref t') (stf f p t q) = stf f p t' q := by
  unfold stf
  rw [putF_ne (by decide +kernel), putF_ne (by decide +kernel), putF_eq]
theorem st_q {f : Int} {p t q q' : Addr} : putF "papers" (V.ref q') (stf f p t q) = stf f p t q' := by
  unfold stf
  rw [putF_ne (by decide +kernel), putF_ne (by decide +kernel), putF_ne (by decide +kernel), putF_eq]
theorem st_new {f : Int} {p t q : Addr} : putF "papers" (V.ref q) (putF "texts" (V.ref t) (putF "pairs" (V.ref p) (putF "following" (V.int f) []))) = stf f p t q := by
  show putF "papers" _ (putF "texts" _ (putF "pairs" _ [("following", V.int f)])) = _
  rw [putF_ne (f := "pairs") (by decide +kernel)]
  show putF "papers" _ (putF "texts" _ [("following", V.int f), ("pairs", V.ref p)]) = _
  rw [putF_ne (f := "texts") (by decide +kernel), putF_ne (f := "texts") (by decide +kernel)]
  show putF "papers" _ [("following", V.int f), ("pairs", V.ref p), ("texts", V.ref t)] = _
  rw [putF_ne (by decide +kernel), putF_ne (by decide +kernel), putF_ne (by decide +kernel)]
  rfl
section
variable {f : Int} {p t q : Addr}
theorem lk_cons_ne {f g : Str} {x : V} {r : List (Str × V)} (h : ¬ f = g) : ((g, x) :: r).lookup f = r.lookup f := by
  rw [List.lookup_cons, beq_eq_false_iff_ne.mpr h]
theorem lk_cons_eq {f : Str} {x : V} {r : List (Str × V)} : ((f, x) :: r).lookup f = some x := by
  rw [List.lookup_cons, beq_self_eq_true]
theorem lk_f : (stf f p t q).lookup ("following" : Str) = some (.int f) := lk_cons_eq
theorem lk_p : (stf f p t q).lookup ("pairs" : Str) = some (.ref p) := by
  unfold stf
  rw [lk_cons_ne (by decide +kernel), lk_cons_eq]
theorem lk_t : (stf f p t q).lookup ("texts" : Str) = some (.ref t) := by
  unfold stf
  rw [lk_cons_ne (by decide +kernel), lk_cons_ne (by decide +kernel), lk_cons_eq]
theorem lk_q : (stf f p t q).lookup ("papers" : Str) = some (.ref q) := by
  unfold stf
  rw [lk_cons_ne (by decide +kernel), lk_cons_ne (by decide +kernel), lk_cons_ne (by decide +kernel), lk_cons_eq]
theorem st_no {x : Str} (h1 : ¬ x = "following") (h2 : ¬ x = "pairs") (h3 : ¬ x = "texts") (h4 : ¬ x = "papers") : (stf f p t q).lookup x = none := by
  unfold stf
  rw [lk_cons_ne h1, lk_cons_ne h2, lk_cons_ne h3, lk_cons_ne h4]
  rfl
end
end Sf
namespace Sf
open PySem PySem.Spec PyProof.Rows L2 TL
/-! ### own refusals under LookupError -/
abbrev leT : List Value := [.type "LookupError", .type "Exception", .type "BaseException", .type "object"]
structure OexL (K : PySem.W.Frag) (C : Addr) : Prop where
  ini : PySem.W.excInitIn K C leT "LookupError.__new__" = true
  ovr : PySem.W.excOver K C leT = true
  dct : PySem.W.hasDictIn K C = true
  sa : PySem.W.findIn K (.ref C) "__setattr__" = some (some (.builtin "object.__setattr__"))
  exC : PySem.W.subIn K (.ref C) (.type "BaseException") = some true
  tyC : PySem.W.typeIn K (.ref C) = some (.type "type")
  kC : PySem.W.keepIn K (.ref C) = true
theorem taker_no {K : PySem.W.Frag} {C : Addr} {f : Str} (h : PySem.W.findIn K (.ref C) f = some none) : PySem.W.takerIn K C f = some none := by
  unfold PySem.W.takerIn
  rw [h]
  rfl
section
variable {X : Cx} {pins : List (Addr × Obj)} {σ : L2.St} {H : Hp} {s : Shared} {a C dx : Addr} {f : Str} {y : V} {u : Value} {fs : List (Str × V)} {Q : Unit → Shared → Prop} {E : Value → Shared → Prop} {A : Around}
theorem lst_new (T : OexL X.K C) (I : Inv X pins σ H s) (e : H a = some (exo a C none)) (hno : PySem.W.findIn X.K (.ref C) f = some none) (ry : RelV y u)
    (h : ∀ dx s', H dx = none → dx ≠ a → Inv X pins σ (upd (upd H dx (exd dx [(f, y)])) a (exo a C (some dx))) s' → Q () s') : wpAny (model X.prog X.w) A (setAttr (.ref a) f u) Q E s := by
  obtain ⟨t1, ho⟩ := exo_at I.hok e
  obtain ⟨cd, hc, hd⟩ := PySem.W.any_some T.dct
  obtain ⟨hp, g, d, t, os⟩ := s
  have na : a < hp.objs.size := Heap.lt_size ho
  have nd : H hp.objs.size = none := I.hok.fresh (Nat.le_refl _)
  have ne : hp.objs.size ≠ a := Nat.ne_of_gt na
  refine PySem.W.set_plain I.kIn (ox := PySem.W.excObj C t1 none .none) (od := none) ⟨ho, rfl, rfl, trivial⟩ T.sa ?_
  refine PySem.W.osa_openX (od := none) PySem.F.store_LookupError I.kIn ⟨ho, rfl, rfl, trivial⟩ T.ovr (taker_no hno) fun b => ?_
  refine wpAny_bind (wpAny_pure (wpAny_bind (PySem.W.instanceDict_exc (t := t1) (c2 := .none) ho (PySem.W.looks_clsIn I.kIn hc) hd ?_)))
  show wpAny _ _ (PySem.Builtin.ObjectAttr.storeInDict hp.objs.size _ _ _) _ _ _
  have k1 : ∀ b o, hp.get? b = some o → (hp.push (PySem.W.dictOf [] 0)).get? b = some o := fun b o z => Heap.get?_push_of_some _ z
  have hD0 : (hp.push (PySem.W.dictOf [] 0)).get? hp.objs.size = some (PySem.W.dictOf [] 0) := Heap.get?_push_at rfl rfl
  have hN0 : (hp.push (PySem.W.dictOf [] 0)).Ns hp.objs.size (fun _ => none) := ⟨_, #[], _, hD0, rfl, fun e he => absurd he (by simp), fun _ => rfl⟩
  have I1 : Inv X pins σ (upd H hp.objs.size (exd hp.objs.size [])) ⟨hp.push (PySem.W.dictOf [] 0), g, d, t, os⟩ := I.laid (t' := t) (a := hp.objs.size) (o := exd hp.objs.size []) k1 (Nat.le_refl _) (exd_ok (Heap.Ns1.of_empty hN0) fun _ => True.intro)
  have hx1 : ((hp.push (PySem.W.dictOf [] 0)).update a fun o => { o with dict := some hp.objs.size }).get? a = some (PySem.W.excObj C t1 (some hp.objs.size) .none) := Heap.get?_update_self _ (k1 _ _ ho) rfl
  have ko : ∀ b u, b ≠ a → (hp.push (PySem.W.dictOf [] 0)).get? b = some u → ((hp.push (PySem.W.dictOf [] 0)).update a fun o => { o with dict := some hp.objs.size }).get? b = some u := fun b u hb z => (Heap.get?_update_ne _ _ _ _ hb).trans z
  have I2 := I1.write (t' := t) (x := a) (e := a) (o := exo a C (some hp.objs.size)) (by rw [upd_ne (Ne.symm ne), e]; exact True.intro) (.inl rfl) ko ⟨_, hx1⟩ (exo_ok hx1)
  have hN1 : ((hp.push (PySem.W.dictOf [] 0)).update a fun o => { o with dict := some hp.objs.size }).Ns hp.objs.size (fun _ => none) := ⟨_, #[], _, ko _ _ ne hD0, rfl, fun e he => absurd he (by simp), fun _ => rfl⟩
  refine PySem.HandSPX.store_in_new hN1 fun h' tk' hn hs => ?_
  have hd' : ∃ o, h'.get? hp.objs.size = some o := by
    obtain ⟨o, _, _, e', _⟩ := hn
    exact ⟨o, e'⟩
  have I3 := I2.write (t' := tk') (x := hp.objs.size) (e := hp.objs.size) (o := exd hp.objs.size [(f, y)]) (by rw [upd_ne ne, upd_same]; exact True.intro) (.inl rfl) (fun b u hb z => (hs.2 b hb).trans z) hd' (exd_ok hn (relO_put (fs := []) (mA := fun _ => none) ry fun g => True.intro))
  refine h hp.objs.size _ nd ne ?_
  have ee : upd (upd (upd H hp.objs.size (exd hp.objs.size [])) a (exo a C (some hp.objs.size))) hp.objs.size (exd hp.objs.size [(f, y)]) = upd (upd H hp.objs.size (exd hp.objs.size [(f, y)])) a (exo a C (some hp.objs.size)) := by
    funext b
    by_cases h1 : b = a
    · subst h1
      rw [upd_ne (Ne.symm ne), upd_same, upd_same]
    · by_cases h2 : b = hp.objs.size
      · subst h2
        rw [upd_same, upd_ne h1, upd_same]
      · rw [upd_ne h2, upd_ne h1, upd_ne h2, upd_ne h1, upd_ne h2]
  rw [ee] at I3
  exact I3
theorem lst_old (T : OexL X.K C) (I : Inv X pins σ H s) (e : H a = some (exo a C (some dx))) (ed : H dx = some (exd dx fs)) (hl : fs.length ≤ 900) (hno : PySem.W.findIn X.K (.ref C) f = some none) (ry : RelV y u)
    (h : ∀ s', Inv X pins σ (upd H dx (exd dx ((f, y) :: fs))) s' → Q () s') : wpAny (model X.prog X.w) A (setAttr (.ref a) f u) Q E s := by
  obtain ⟨t1, ho⟩ := exo_at I.hok e
  obtain ⟨mA, hns, rel⟩ := exd_at I.hok ed
  obtain ⟨cd, hc, hd⟩ := PySem.W.any_some T.dct
  have hw := within_of rel
  obtain ⟨hp, g, d, t, os⟩ := s
  obtain ⟨oD, _, _, hoD, _, _⟩ := hns.count hw
  refine PySem.W.set_plain I.kIn (ox := PySem.W.excObj C t1 (some dx) .none) (od := some oD) ⟨ho, rfl, rfl, hoD⟩ T.sa ?_
  refine PySem.W.osa_openX (od := some oD) PySem.F.store_LookupError I.kIn ⟨ho, rfl, rfl, hoD⟩ T.ovr (taker_no hno) fun b => ?_
  refine wpAny_bind (wpAny_pure (wpAny_bind (wpAny_bind (wpAny_loadPart ho (wpAny_bind ((PySem.W.looks_clsIn I.kIn hc).at ?_))))))
  rw [hd]
  refine wpAny_pure (a := some dx) ?_
  refine PySem.OEX.store_in_old hns hw (by rw [List.length_map]; omega) fun h' tk' hn hs => ?_
  have hd' : ∃ o, h'.get? dx = some o := by
    obtain ⟨o, _, _, e', _⟩ := hn
    exact ⟨o, e'⟩
  exact h _ (I.write (t' := tk') (x := dx) (e := dx) (o := exd dx ((f, y) :: fs)) (by rw [ed]; exact True.intro) (.inl rfl) (fun b u hb z => (hs.2 b hb).trans z) hd' (exd_ok hn (relO_put ry rel)))
theorem linit_ok {us : List Value} {Q : Value → Shared → Prop} (T : OexL X.K C) (I : Inv X pins σ H s) (e : H a = some (exo a C none)) (hl : us.length ≤ sizeLine) (h : ∀ s', Inv X pins σ H s' → Q .none s') :
    wpAny (model X.prog X.w) A (call (.builtin "LookupError.__init__") (.ref a :: us)) Q E s := by
  obtain ⟨nm, N', qn, bs, bm, hdct, sn, sub, ab, col, dd, k0, k1, k2, k3, k5, hC, hT⟩ := PySem.W.excInit_of I.kIn T.ini
  obtain ⟨t1, ho⟩ := exo_at I.hok e
  obtain ⟨hp, g, d, t, os⟩ := s
  refine wpAny_call (PySem.HandSPX.init_base PySem.F.excBase_LookupError hT hC ho hl fun h' t2 k hx => ?_)
  have J := I.write (t' := t) (x := a) (e := a) (o := exo a C none) (by rw [e]; exact True.intro) (.inl rfl) k ⟨_, hx⟩ (exo_ok hx)
  have eu : upd H a (exo a C none) = H := funext fun b => by
    by_cases hb : b = a
    · rw [hb, upd_same, e]
    · rw [upd_ne hb]
  rw [eu] at J
  exact h _ J
end
/-- LookupError.__init__(self, ..) -/
def tLeI (K : PySem.W.Frag) (ta : TA) : TE := fun σ H Q => ta σ H fun vs H1 => ∃ (a C : Addr) (ws : List V), vs = .ref a :: ws ∧ ws.length ≤ 1000 ∧ OexL K C ∧ H1 a = some (exo a C none) ∧ Q .non H1
/-- self.f = e -/
def tLst (K : PySem.W.Frag) (f : Str) (to te : TE) : TS := fun D σ H => te σ H fun y H1 => to σ H1 fun x H2 => ∃ a C : Addr, x = .ref a ∧ OexL K C ∧ PySem.W.findIn K (.ref C) f = some none ∧
  ((H2 a = some (exo a C none) ∧ ∀ dx, H2 dx = none → dx ≠ a → D.nx σ (upd (upd H2 dx (exd dx [(f, y)])) a (exo a C (some dx)))) ∨
    ∃ (dx : Addr) (fs : List (Str × V)), H2 a = some (exo a C (some dx)) ∧ H2 dx = some (exd dx fs) ∧ fs.length ≤ 900 ∧ D.nx σ (upd H2 dx (exd dx ((f, y) :: fs))))
theorem typ_LE : typeOf (.type "LookupError") = pure (.type "type") := by kernel_rfl
section
variable {X : Cx} {o e : Expr} {es : List Expr} {to te : TE} {ta : TA} {f : Str} {p p' p1 p2 pos : Pos}
theorem pe_leinit {pl : Sem Bool} (hg : Gl X "LookupError") (hm : X.mg "LookupError" = none) (vV : PySem.W.findCls X.K (.type "LookupError") (.type "type") "__init__" = some (.val (.builtin "LookupError.__init__"))) (ha : PA X (e :: es) ta)
    (hc : eval (.Call (.Attribute (.Name "LookupError" p1) "__init__" p2) (e :: es) [] pos) X.env = (do
      let ov ← eval (.Name "LookupError" p1) X.env
      standAt p2.atName
      let (f, first) ← holding [ov] (getMethod ov "__init__" pl)
      callWith pos f first (backTo pos (starEach (e :: es) X.env)) (backToKw pos (keywordEach [] X.env))) := by rfl)
    (he : starEach (e :: es) X.env = (false, eval e X.env) :: starEach es X.env := by rfl) (hpl : (backTo pos (starEach es X.env)).any (·.1) = false := by rfl) :
    PE X (.Call (.Attribute (.Name "LookupError" p1) "__init__" p2) (e :: es) [] pos) (tLeI X.K ta) := by
  refine ⟨fun pins s σ H Q I h => ?_⟩
  refine PySem.W.methodCall_KW (ld_blt I hg hm PyProof.Rows.Boot.«LookupError» ?_ (by decide) (by decide)) hc
  obtain ⟨m, fr⟩ := I.fr
  refine PySem.W.method_type fr I.ok.mod.kin typ_LE (by decide +kernel) vV (by decide +kernel) ?_
  show wpAny _ _ (callWith pos (Value.builtin "LookupError.__init__") [] (backTo pos (starEach (e :: es) X.env)) []) _ _ _
  refine PyProof.Rows.callWith_method1 (thn (ha.run pos pins _ σ H _ (I.tok _) h) fun us s1 ⟨vs, H1, I1, r1, a, C, ws, ev, hl, T, ea, q⟩ => ?_) he hpl
  subst ev
  cases r1 with
  | @cons _ u0 _ ur ra rw' =>
    obtain rfl : u0 = Value.ref a := ra
    have hlen : ur.length ≤ sizeLine := by
      rw [← Paired.length rw', sizeLine_eq]
      omega
    exact linit_ok T I1 ea hlen fun s' J => ⟨.non, H1, J, rfl, q⟩
theorem ps_lst (ho : PE X o to) (he : PE X e te) (hs : swapsWith e (some (.Attribute o f p')) pos.line X.env = pure false := by rfl) : PS X (.Assign [.Attribute o f p'] e pos) (tLst X.K f to te) := by
  refine ⟨fun pins s σ H D I h => ?_⟩
  refine plainObj_wpAny_Assign_Attribute (thn (he.run pins s σ H _ I h) fun v s1 ⟨y, H1, I1, r1, q1⟩ => thn (ho.run pins s1 σ H1 _ I1 q1) fun u s2 ⟨x, H2, I2, r2, a, C, ex, T, hno, q⟩ => ?_) hs
  subst ex
  obtain rfl : u = Value.ref a := r2
  rcases q with ⟨ea, q⟩ | ⟨dx, fs, ea, ed, hl, q⟩
  · exact lst_new T I2 ea hno r1 fun dx s' n ne J => ⟨σ, _, J, q dx n ne⟩
  · exact lst_old T I2 ea ed hl hno r1 fun s' J => ⟨σ, _, J, q⟩
theorem pmk_oexL {CX : CXT} {x : Str} {C fI : Addr} {k : Nat} {fd : FuncData} {ps : List Str} {sp : Sp} (T : OexL X.K C) (iC : PySem.W.findIn X.K (.ref C) "__init__" = some (some (.ref fI))) (tI : PySem.W.typeIn X.K (.ref fI) = some (.type "function"))
    (F1 : FnOk X.prog X.w X.K X.mg X.base CX k fI fd ps sp) (hr : Room (k + 1) X.A) (hb : Binds X.K fd ps []) (hx : Passes CX X (fun _ _ _ => False)) (hg : Gl X x) (hm : X.mg x = some (.ref C)) (ha : PA X (e :: es) ta)
    (hdb : (x == ("__debug__" : Str)) = false := by decide) (he : starEach (e :: es) X.env = (false, eval e X.env) :: starEach es X.env := by rfl) (hpl : (backTo pos (starEach es X.env)).any (·.1) = false := by rfl) :
    PMk X (.Call (.Name x p) (e :: es) [] pos) (tMkO C sp [] ta) := by
  intro pins s σ H Q I h
  refine wpAny_Call_Name_kw (ld_glob I hg hm ?_ hdb)
  refine PySem.W.callWith_K (h₀ := X.base) I.ok.mod.kin T.kC (thn (ha.run pos pins s σ H _ I h) fun us s1 ⟨vs, H1, I1, r1, hz, q1⟩ => ⟨I1.kIn, ?_⟩) he hpl
  show wpAny _ _ (call (.ref C) us) _ _ _
  obtain ⟨nm, N', qn, bs, bm, hdct, sn, sub, ab, col, dd, k0, k1, k2, k3, k5, hC, hT⟩ := PySem.W.excInit_of I1.kIn T.ini
  obtain ⟨hp, g, dr, tk, os⟩ := s1
  have hn : H1 (hp.objs.size + 1) = none := I1.hok.fresh (Nat.le_succ _)
  have hq := q1 (hp.objs.size + 1) hn
  have kk : ∀ b o, hp.get? b = some o → ((hp.push (PySem.W.kdv_tup us)).push (PySem.HandSPX.excO C hp.objs.size)).get? b = some o := fun b o z => Heap.get?_push_of_some _ (Heap.get?_push_of_some _ z)
  have hget : ((hp.push (PySem.W.kdv_tup us)).push (PySem.HandSPX.excO C hp.objs.size)).get? (hp.objs.size + 1) = some (PySem.HandSPX.excO C hp.objs.size) := by heap_get
  have I2 : Inv X pins σ (upd H1 (hp.objs.size + 1) (exo (hp.objs.size + 1) C none)) ⟨(hp.push (PySem.W.kdv_tup us)).push (PySem.HandSPX.excO C hp.objs.size), g, dr, tk, os⟩ :=
    I1.laid (t' := tk) (a := hp.objs.size + 1) (o := exo (hp.objs.size + 1) C none) kk (Nat.le_succ _) (exo_ok hget)
  have r2 : Vals (V.ref (hp.objs.size + 1) :: (vs ++ [])) (Value.ref (hp.objs.size + 1) :: us) := by
    rw [List.append_nil]
    exact .cons rfl r1
  have hl : (Value.ref (hp.objs.size + 1) :: us ++ []).length = ps.length := by
    rw [List.append_nil]
    have z := r2.length
    rw [F1.len _ _ _ _ hq] at z
    exact z.symm
  have hus : us.length ≤ sizeLine := by
    rw [← Paired.length r1, sizeLine_eq]
    omega
  have bb := hb _ (Value.ref (hp.objs.size + 1) :: us) I2.kIn hl
  rw [List.append_nil] at bb
  refine wpAny_call (PySem.HandSPX.call_own PySem.F.excBase_LookupError hT hC (PySem.W.looks_findIn I1.kIn iC) (fun self => PySem.W.bind_fn I1.kIn self tI) hus
    (codeAny_mono (F1.run _ X.stack _ _ ⟨Value.ref (hp.objs.size + 1) :: us, []⟩ (Value.ref (hp.objs.size + 1) :: us) _ _ (fun _ _ _ => False) (hr.make C us []) (I2.env0.make C us []) bb r2 hq) fun r s' hq' => ?_))
  match r, hq' with
  | .error er, hq' => exact hx pins σ _ _ er s' I2 hq'
  | .ok (.ret u), hq' =>
    obtain ⟨v, H2, os2, bare2, un2, hok2, rv, ev, d, fs, ea, ed, hd1, q2⟩ := hq'
    subst ev
    obtain ⟨h2, g2, d2, t2, os'⟩ := s'
    exact ⟨rv, mk_end (raises_own T.exC T.tyC) I1 (Nat.le_succ _) kk un2 hok2 os2 bare2 ea ed hd1 q2⟩
  | .ok .next, hq' => exact False.elim hq'
  | .ok .brk, hq' => exact False.elim hq'
  | .ok .cont, hq' => exact False.elim hq'
end
/-! ### the refusals that say what is not there -/
/-- an own refusal under LookupError, the class at C, its __init__ at f -/
structure EL (K : PySem.W.Frag) (mg : Str → Option Value) (nm : Str) (C f : Addr) : Prop where
  ox : OexL K C
  iC : PySem.W.findIn K (.ref C) "__init__" = some (some (.ref f))
  tI : PySem.W.typeIn K (.ref f) = some (.type "function")
  gC : mg nm = some (.ref C)
  xf : XfC K C
  nw : PySem.W.findIn K (.ref C) "word" = some none
  te : PySem.W.exmOne K (.ref C) (.ref C) = some true
/-- Lacking itself -/
structure LE (K : PySem.W.Frag) (mg : Str → Option Value) (C f : Addr) : Prop where
  gC : mg "Lacking" = some (.ref C)
  rd : PySem.W.readsIn K C (.type "type") = true
  ga : PySem.W.specialIn K (.ref C) "__getattribute__" = some (some (.builtin "type.__getattribute__"))
  at_ : PySem.W.findCls K (.ref C) (.type "type") "__init__" = some (.val (.ref f))
  vV : PySem.W.findCls K (.type "LookupError") (.type "type") "__init__" = some (.val (.builtin "LookupError.__init__"))
  mV : mg "LookupError" = none
section
variable {P : Program} {w : World} {K : PySem.W.Frag} {mg : Str → Option Value} {base : Heap} {C CS fS : Addr}
def spLE (K : PySem.W.Frag) : Sp := fun vs H Q _ => ∃ (a C : Addr) (z m : Str), vs = [.ref a, .str z, .str m] ∧ OexL K C ∧ PySem.W.findIn K (.ref C) "word" = some none ∧ H a = some (exo a C none) ∧
  ∀ dx, H dx = none → dx ≠ a → Q .non (upd (upd H dx (exd dx [(("word" : Str), .str z)])) a (exo a C (some dx)))
theorem sc_le : FnScope ["self", "word", "message"] ["self", "word", "message"] (defScope s_Lacking___init__) := ⟨rfl, rfl, rfl, by decide +kernel, rfl, by decide +kernel, by decide +kernel⟩
theorem ok_le {f : Addr} {fd : FuncData} {j : Nat} (F : FunD K "__init__" "Lacking.__init__" s_Lacking___init__ f fd) (S : LE K mg CS fS) : FnOk P w K mg base CX0 (j + 1) f fd ["self", "word", "message"] (spLE K) := by
  refine F.ok sc_le (fun vs H Q E h => ?_) (fun cdv A outer s H vs Q E hr h => ?_)
  · obtain ⟨a, C, z, m, rfl, _⟩ := h
    rfl
  · obtain ⟨a, C, z, m, rfl, ox, nw, ha, q⟩ := h
    refine ⟨_, pss_cons (ps_expr (pe_leinit (by rfl) S.mV S.vV (pa_cons (pv 0) (pa_cons (pv 2) pa_nil)))) (pss_one (ps_lst (pv 0) (pv 1))), ?_⟩
    refine ⟨_, rfl, _, rfl, a, C, _, rfl, (by show 1 ≤ 1000; decide), ox, ha, ?_⟩
    exact ⟨_, rfl, _, rfl, a, C, rfl, ox, nw, .inl ⟨ha, fun dx n ne => q dx n ne⟩⟩
theorem le_binds {K : PySem.W.Frag} {T : Addr} {o : Obj} {v1 v2 : Value} {n : Nat} (ho : K.lookup T = some o) (hs : o.data = .seq #[v1, v2] n) (kV doc pm : Value) (an : Option Addr) (cdv ct : Value) (s : Shared) (us : List Value) (X : K.In s.heap) (hl : us.length = 3) :
    BindsTo s (PySem.W.fnOf "__init__" "Lacking.__init__" (defArgs s_Lacking___init__) (defBody s_Lacking___init__) (defScope s_Lacking___init__) (.ref T) kV doc pm an cdv ct) ⟨us, []⟩ ((["self", "word", "message"] : List Str).zip us) := by
  match us, hl with
  | [_, _, _], _ => exact PySem.W.binds_K X rfl ho hs rfl rfl
/-- X.__init__(self, number) -/
def spExL (K : PySem.W.Frag) (z fl : Str) : Sp := fun vs H Q _ => ∃ (a C : Addr) (i : Int), vs = [.ref a, .int i] ∧ i.natAbs.log2 < 1920 ∧ OexL K C ∧ PySem.W.findIn K (.ref C) "word" = some none ∧ PySem.W.findIn K (.ref C) fl = some none ∧ H a = some (exo a C none) ∧
  ∀ (dx : Addr) (H' : Hp), H dx = none → dx ≠ a → H' a = some (exo a C (some dx)) → H' dx = some (exd dx [(fl, .int i), (("word" : Str), .str z)]) → (∀ b, b ≠ a → b ≠ dx → H' b = H b) → Q .non H'
def kMkL (C : Addr) (sp : Sp) (W : XK) : List V → Hp → Prop := fun vs H1 => vs.length ≤ 1000 ∧ ∀ a, H1 a = none → sp (.ref a :: (vs ++ [])) (upd H1 a (exo a C none))
  (fun v H2 => v = .non ∧ ∃ (d : Addr) (fs : List (Str × V)), H2 a = some (exo a C (some d)) ∧ H2 d = some (exd d fs) ∧ H1 d = none ∧ W (.ref C) (some d) (upd (del H2 a) d (.xd fs))) (fun _ _ _ => False)
theorem w_mkOL {H : Hp} {σ : L2.St} {W : XK} {sp : Sp} {ta : TA} (q : ta σ H (kMkL C sp W)) : tMkO C sp [] ta σ H W := q
theorem w_kMkL {H : Hp} {W : XK} {z fl nm : Str} {f : Addr} {i : Int} (T : EL K mg nm C f) (nf : PySem.W.findIn K (.ref C) fl = some none) (hi : i.natAbs.log2 < 1920)
    (k : ∀ (d : Addr) (H' : Hp), H d = none → H' d = some (.xd [(fl, .int i), (("word" : Str), .str z)]) → Same H H' → W (.ref C) (some d) H') : kMkL C (spExL K z fl) W [.int i] H := by
  refine ⟨by show 1 ≤ 1000; decide, fun a na => ⟨a, C, i, rfl, hi, T.ox, T.nw, nf, upd_same, fun dx H' n ne e1 e2 e3 => ?_⟩⟩
  rw [upd_ne ne] at n
  refine ⟨rfl, dx, _, e1, e2, n, k dx _ n upd_same fun b o e => ?_⟩
  have h1 : b ≠ dx := ne_of_none e n
  have h2 : b ≠ a := ne_of_none e na
  rw [upd_ne h1, del_ne h2, e3 b h2 h1, upd_ne h2]
  exact e
end
end Sf
namespace Sf
open PySem PySem.Spec PyProof.Rows L2 TL
section
variable {P : Program} {w : World} {K : PySem.W.Frag} {mg : Str → Option Value} {base : Heap} {C CS fS : Addr}
/-! ### the refusals of halls -/
/-- a refusal with its word alone -/
def XE0 (z : Str) (C : Addr) (H : Hp) (E : XK) : Prop := ∀ (d : Addr) (H' : Hp), H d = none → H' d = some (.xd [(("word" : Str), .str z)]) → Same H H' → E (.ref C) (some d) H'
theorem XE0.same {z : Str} {H H1 : Hp} {E : XK} (h : XE0 z C H E) (s : Same H H1) : XE0 z C H1 E := fun d H' nd hd s' => h d H' (s.free nd) hd (s.trans s')
/-- .. and with a field -/
def XE1 (z fl : Str) (x : V) (C : Addr) (H : Hp) (E : XK) : Prop := ∀ (d : Addr) (H' : Hp), H d = none → H' d = some (.xd [(fl, x), (("word" : Str), .str z)]) → Same H H' → E (.ref C) (some d) H'
theorem XE1.same {z fl : Str} {x : V} {H H1 : Hp} {E : XK} (h : XE1 z fl x C H E) (s : Same H H1) : XE1 z fl x C H1 E := fun d H' nd hd s' => h d H' (s.free nd) hd (s.trans s')
theorem sc_BadName : FnScope ["self"] ["self"] (defScope s_BadName___init__) := ⟨rfl, rfl, rfl, by decide +kernel, rfl, by decide +kernel, by decide +kernel⟩
theorem ok_BadName {f : Addr} {fd fdS : FuncData} (F : Fun K "__init__" "BadName.__init__" s_BadName___init__ f fd) (S : SE K mg CS fS) (FS : FunD K "__init__" "SpoorError.__init__" s_SpoorError___init__ fS fdS) (bS : Binds K fdS ["self", "word", "message"] []) : FnOk P w K mg base CX0 2 f fd ["self"] (spEx K (Str.ofString "badname")) := by
  refine F.ok sc_BadName (fun vs H Q E h => ?_) (fun cdv A outer s H vs Q E hr h => ?_)
  · obtain ⟨a, C, rfl, _⟩ := h
    rfl
  · obtain ⟨a, C, rfl, ox, nw, ha, q⟩ := h
    have GS : FnOk P w K mg base CX0 1 fS fdS ["self", "word", "message"] (spSE K) := ok_se FS S
    refine ⟨_, pss_one (ps_expr (pe_clsFn (pe_glob (v := .ref CS) (by rfl) S.gC rfl) S.rd S.ga S.at_ GS hr FS.kp bS pass0 (pa_cons (pv 0) (pa_cons pe_str (pa_cons pe_str pa_nil))))), ?_⟩
    exact ⟨rfl, _, rfl, a, C, _, _, rfl, ox, nw, ha, fun dx n ne => q dx n ne⟩
theorem sc_TooLong : FnScope ["self"] ["self"] (defScope s_TooLong___init__) := ⟨rfl, rfl, rfl, by decide +kernel, rfl, by decide +kernel, by decide +kernel⟩
theorem ok_TooLong {f : Addr} {fd fdS : FuncData} (F : Fun K "__init__" "TooLong.__init__" s_TooLong___init__ f fd) (S : SE K mg CS fS) (FS : FunD K "__init__" "SpoorError.__init__" s_SpoorError___init__ fS fdS) (bS : Binds K fdS ["self", "word", "message"] []) : FnOk P w K mg base CX0 2 f fd ["self"] (spEx K (Str.ofString "toolong")) := by
  refine F.ok sc_TooLong (fun vs H Q E h => ?_) (fun cdv A outer s H vs Q E hr h => ?_)
  · obtain ⟨a, C, rfl, _⟩ := h
    rfl
  · obtain ⟨a, C, rfl, ox, nw, ha, q⟩ := h
    have GS : FnOk P w K mg base CX0 1 fS fdS ["self", "word", "message"] (spSE K) := ok_se FS S
    refine ⟨_, pss_one (ps_expr (pe_clsFn (pe_glob (v := .ref CS) (by rfl) S.gC rfl) S.rd S.ga S.at_ GS hr FS.kp bS pass0 (pa_cons (pv 0) (pa_cons pe_str (pa_cons pe_str pa_nil))))), ?_⟩
    exact ⟨rfl, _, rfl, a, C, _, _, rfl, ox, nw, ha, fun dx n ne => q dx n ne⟩
theorem sc_Full : FnScope ["self"] ["self"] (defScope s_Full___init__) := ⟨rfl, rfl, rfl, by decide +kernel, rfl, by decide +kernel, by decide +kernel⟩
theorem ok_Full {f : Addr} {fd fdS : FuncData} (F : Fun K "__init__" "Full.__init__" s_Full___init__ f fd) (S : SE K mg CS fS) (FS : FunD K "__init__" "SpoorError.__init__" s_SpoorError___init__ fS fdS) (bS : Binds K fdS ["self", "word", "message"] []) : FnOk P w K mg base CX0 2 f fd ["self"] (spEx K (Str.ofString "full")) := by
  refine F.ok sc_Full (fun vs H Q E h => ?_) (fun cdv A outer s H vs Q E hr h => ?_)
  · obtain ⟨a, C, rfl, _⟩ := h
    rfl
  · obtain ⟨a, C, rfl, ox, nw, ha, q⟩ := h
    have GS : FnOk P w K mg base CX0 1 fS fdS ["self", "word", "message"] (spSE K) := ok_se FS S
    refine ⟨_, pss_one (ps_expr (pe_clsFn (pe_glob (v := .ref CS) (by rfl) S.gC rfl) S.rd S.ga S.at_ GS hr FS.kp bS pass0 (pa_cons (pv 0) (pa_cons pe_str (pa_cons pe_str pa_nil))))), ?_⟩
    exact ⟨rfl, _, rfl, a, C, _, _, rfl, ox, nw, ha, fun dx n ne => q dx n ne⟩
theorem sc_nln : FnScope ["self", "number"] ["self", "number"] (defScope s_NoLine___init__) := ⟨rfl, rfl, rfl, by decide +kernel, rfl, by decide +kernel, by decide +kernel⟩
theorem ok_nln {f : Addr} {fd fdS : FuncData} (F : Fun K "__init__" "NoLine.__init__" s_NoLine___init__ f fd) (S : LE K mg CS fS) (FS : FunD K "__init__" "Lacking.__init__" s_Lacking___init__ fS fdS) (bS : Binds K fdS ["self", "word", "message"] []) : FnOk P w K mg base CX0 2 f fd ["self", "number"] (spExL K (Str.ofString "noline") "number") := by
  refine F.ok sc_nln (fun vs H Q E h => ?_) (fun cdv A outer s H vs Q E hr h => ?_)
  · obtain ⟨a, C, i, rfl, _⟩ := h
    rfl
  · obtain ⟨a, C, i, rfl, hi, ox, nw, nf, ha, q⟩ := h
    have GS : FnOk P w K mg base CX0 1 fS fdS ["self", "word", "message"] (spLE K) := ok_le FS S
    refine ⟨_, pss_cons (ps_expr (pe_clsFn (pe_glob (v := .ref CS) (by rfl) S.gC rfl) S.rd S.ga S.at_ GS hr FS.kp bS pass0 (pa_cons (pv 0) (pa_cons pe_str (pa_cons (pe_joined (.cons pe_str (.cons (pe_fmt (pv 1)) .nil))) pa_nil))))) (pss_one (ps_lst (pv 0) (pv 1))), ?_⟩
    have l1 : (toString i : Str).length ≤ 1921 := int_text_len_1921 hi
    refine ⟨rfl, _, rfl, ?_⟩
    refine ⟨_, rfl, by decide +kernel, _, rfl, .inr ⟨i, rfl, hi, _, rfl, ?_, ?_⟩⟩
    · rw [len_app, len_app]
      have : (Str.empty.length + (Str.ofString "there is no line ").length) = 17 := by decide +kernel
      exact line_of (by omega)
    · refine ⟨a, C, _, _, rfl, ox, nw, ha, fun dx n ne => ?_⟩
      refine ⟨_, rfl, _, rfl, a, C, rfl, ox, nf, .inr ⟨dx, [(("word" : Str), .str (Str.ofString "noline"))], upd_same, by rw [upd_ne ne, upd_same], by show 1 ≤ 900; decide, ?_⟩⟩
      refine q dx _ n ne (by rw [upd_ne ne.symm, upd_same]) upd_same fun b h1 h2 => ?_
      rw [upd_ne h2, upd_ne h1, upd_ne h2]
/-- a text that a refusal may bear -/
def NmT (x : Str) : Prop := x.length ≤ 100000 ∧ ∀ c ∈ x.cps.toList, c < 16 ^ 8
def spExLS (K : PySem.W.Frag) (z fl : Str) : Sp := fun vs H Q _ => ∃ (a C : Addr) (x : Str), vs = [.ref a, .str x] ∧ NmT x ∧ OexL K C ∧ PySem.W.findIn K (.ref C) "word" = some none ∧ PySem.W.findIn K (.ref C) fl = some none ∧ H a = some (exo a C none) ∧
  ∀ (dx : Addr) (H' : Hp), H dx = none → dx ≠ a → H' a = some (exo a C (some dx)) → H' dx = some (exd dx [(fl, .str x), (("word" : Str), .str z)]) → (∀ b, b ≠ a → b ≠ dx → H' b = H b) → Q .non H'
theorem w_kMkLS {H : Hp} {W : XK} {z fl nm : Str} {f : Addr} {x : Str} (T : EL K mg nm C f) (nf : PySem.W.findIn K (.ref C) fl = some none) (hx : NmT x) (k : XE1 z fl (.str x) C H W) : kMkL C (spExLS K z fl) W [.str x] H := by
  refine ⟨by show 1 ≤ 1000; decide, fun a na => ⟨a, C, x, rfl, hx, T.ox, T.nw, nf, upd_same, fun dx H' n ne e1 e2 e3 => ?_⟩⟩
  rw [upd_ne ne] at n
  refine ⟨rfl, dx, _, e1, e2, n, k dx _ n upd_same fun b o e => ?_⟩
  have h1 : b ≠ dx := ne_of_none e n
  have h2 : b ≠ a := ne_of_none e na
  rw [upd_ne h1, del_ne h2, e3 b h2 h1, upd_ne h2]
  exact e
theorem sc_nnm : FnScope ["self", "name"] ["self", "name"] (defScope s_NoName___init__) := ⟨rfl, rfl, rfl, by decide +kernel, rfl, by decide +kernel, by decide +kernel⟩
theorem ok_nnm {f : Addr} {fd fdS : FuncData} (F : Fun K "__init__" "NoName.__init__" s_NoName___init__ f fd) (S : LE K mg CS fS) (FS : FunD K "__init__" "Lacking.__init__" s_Lacking___init__ fS fdS) (bS : Binds K fdS ["self", "word", "message"] []) : FnOk P w K mg base CX0 2 f fd ["self", "name"] (spExLS K (Str.ofString "noname") "name") := by
  refine F.ok sc_nnm (fun vs H Q E h => ?_) (fun cdv A outer s H vs Q E hr h => ?_)
  · obtain ⟨a, C, i, rfl, _⟩ := h
    rfl
  · obtain ⟨a, C, x, rfl, hx, ox, nw, nf, ha, q⟩ := h
    have GS : FnOk P w K mg base CX0 1 fS fdS ["self", "word", "message"] (spLE K) := ok_le FS S
    refine ⟨_, pss_cons (ps_expr (pe_clsFn (pe_glob (v := .ref CS) (by rfl) S.gC rfl) S.rd S.ga S.at_ GS hr FS.kp bS pass0 (pa_cons (pv 0) (pa_cons pe_str (pa_cons (pe_joined (.cons pe_str (.cons (pe_fmtR (pv 1)) .nil))) pa_nil))))) (pss_one (ps_lst (pv 0) (pv 1))), ?_⟩
    have l1 : (reprText x).length ≤ 1000002 := by have := PySem.StrLaws.reprText_len x hx.2; have := hx.1; omega
    refine ⟨rfl, _, rfl, ?_⟩
    refine ⟨_, rfl, by decide +kernel, _, rfl, .inl ⟨x, rfl, Nat.le_trans l1 (by decide), _, rfl, ?_, ?_⟩⟩
    · rw [len_app, len_app]
      have : (Str.empty.length + (Str.ofString "nothing is called ").length) = 18 := by decide +kernel
      exact Nat.le_trans (show _ ≤ 1000100 by omega) (by decide)
    · refine ⟨a, C, _, _, rfl, ox, nw, ha, fun dx n ne => ?_⟩
      refine ⟨_, rfl, _, rfl, a, C, rfl, ox, nf, .inr ⟨dx, [(("word" : Str), .str (Str.ofString "noname"))], upd_same, by rw [upd_ne ne, upd_same], by show 1 ≤ 900; decide, ?_⟩⟩
      refine q dx _ n ne (by rw [upd_ne ne.symm, upd_same]) upd_same fun b h1 h2 => ?_
      rw [upd_ne h2, upd_ne h1, upd_ne h2]
end
end Sf
namespace Sf
open PySem PySem.Spec PyProof.Rows L2 TL
/-! ### {**a, k: v} -/
section
variable {X : Cx}
def tMergeK (ta : TE) (trs : List (TE × TE)) : TE := fun σ H Q => ∀ p, H p = none → ta σ (upd H p (.dK [])) fun x H1 => ∃ (a : Addr) (ka : List (Key × V)), x = .ref a ∧ a ≠ p ∧ H1 a = some (.dK ka) ∧ H1 p = some (.dK []) ∧ ka.length ≤ sizeLine ∧
  ∀ q, (upd H1 p (.dK (mergeV [] ka))) q = none → tPairs trs σ (upd (upd H1 p (.dK (mergeV [] ka))) q (.dK [])) fun ps H2 => H2 q = some (.dK []) ∧ H2 p = some (.dK (mergeV [] ka)) ∧ p ≠ q ∧ ∃ kvs : List (Key × V), ps = kvs.map (fun kv => (kV kv.1, kv.2)) ∧ kvs.length ≤ 15 ∧ (mergeV [] ka).length + (mergeK [] kvs).length ≤ sizeLine ∧
    Q (.ref p) (upd (upd H2 q (.dK (mergeK [] kvs))) p (.dK (mergeV (mergeV [] ka) (mergeK [] kvs))))
theorem pe_mergeK {e1 : Expr} {ek ev : Expr} {ta : TE} {trs : List (TE × TE)} {pos : Pos} (h1 : PE X e1 ta) (h2 : PPs X pos [some ek] [ev] trs) : PE X (.Dict [none, some ek] [e1, ev] pos) (tMergeK ta trs) := by
  refine ⟨fun pins s σ H Q I q => ?_⟩
  show wpAny _ _ (do
    standAt pos
    dictDisplay [(none, do let x ← eval e1 X.env; standAt pos; pure x), (some (eval ek X.env), do let x ← eval ev X.env; standAt pos; pure x)]) _ _ _
  refine wpAny_bind (wpAny_standAt ?_)
  have hn := I.hok.fresh (Nat.le_refl s.heap.objs.size)
  have I1 := I.laid (a := s.heap.objs.size) (o := .dK []) (h' := s.heap.push { cls := .type "dict", data := .dict #[] }) (t' := s.toks) (fun _ _ q => Heap.get?_push_of_some _ q) (Nat.le_refl _) (dk_empty s.heap I.big)
  have q := q _ hn
  unfold dictDisplay
  simp only [List.forIn_cons, List.forIn_nil, List.isEmpty_nil, if_true]
  refine wpAny_bind ?_
  refine wpAny_bind ?_
  refine wpAny_bind (wpAny_pure ?_)
  dsimp only
  refine wpAny_bind (wpAny_alloc ?_)
  refine wpAny_bind (wpAny_holding (wpAny_bind (thn (h1.run pins _ σ _ _ I1 q) fun v s2 ⟨x, H2, I2, rx, a, ka, ex, hap, ha, hp, hz, q2⟩ => wpAny_bind (wpAny_standAt (wpAny_pure ?_)))))
  subst ex
  cases rx
  refine wpAny_bind (wpAny_onRaise (wpAny_tryCatch (wpAny_onRaise (wpAny_holding (merge_run I2 hap.symm hp ha (by rw [List.length_nil, Nat.zero_add]; exact hz) fun s3 I3 => ?_)))))
  refine wpAny_pure ?_
  dsimp only
  refine wpAny_pure ?_
  dsimp only
  refine wpAny_bind ?_
  rw [if_neg (by simp)]
  have n3 := I3.hok.fresh (Nat.le_refl s3.heap.objs.size)
  have q3 := q2 _ n3
  have I4 := I3.laid (a := s3.heap.objs.size) (o := .dK []) (h' := s3.heap.push { cls := .type "dict", data := .dict #[] }) (t' := s3.toks) (fun _ _ q => Heap.get?_push_of_some _ q) (Nat.le_refl _) (dk_empty s3.heap I3.big)
  refine wpAny_bind (wpAny_holding (wpAny_subDict (knd := mixKind X.prog X.w) (by show 1 ≤ 15; decide) ?_))
  refine thn (h2.run pins _ σ _ _ I4 q3) fun ws s5 ⟨ps, H5, I5, rel, e5, e5p, npq, kvs, ep, lk, hsz, q5⟩ => ?_
  subst ep
  obtain ⟨rs, c, rk⟩ := carries_of (P := X.prog) (w := X.w) rel
  obtain ⟨z, hd, vs0, r0, dd⟩ := dk_of I5.hok e5
  cases r0
  refine ⟨rs, c, dd, fun h' dd' hs => ?_⟩
  have hz2 : (mergeK [] kvs).length ≤ sizeLine := by
    have h1 := length_mergeK kvs []
    rw [List.length_nil] at h1
    rw [sizeLine_eq]; omega
  have he : ∃ q, h'.get? s3.heap.objs.size = some q := let ⟨q, _, _, hq, _⟩ := dd'; ⟨q, hq⟩
  have I6 := d_write (t' := s5.toks + ws.length) I5 (by rw [e5]; exact True.intro) hs he (dk_new hz2 hd (rk.merge .nil) dd')
  refine wpAny_bind (wpAny_onRaise (wpAny_holding (merge_run I6 npq (by rw [upd_ne npq]; exact e5p) upd_same (by exact hsz) fun s7 I7 => ?_)))
  refine wpAny_pure ?_
  dsimp only
  exact wpAny_pure ⟨.ref _, _, I7, rfl, q5⟩
end
end Sf
namespace Sf
open PySem PySem.Spec PyProof.Rows L2 TL
/-! ### dicts that grow by one key -/
section
variable {σ : L2.St} {H : Hp} {Q : VK}
theorem putK_new {kvs : List (Key × V)} {k : Key} {v : V} (h : k ∉ kvs.map (·.1)) : putK kvs k v = kvs ++ [(k, v)] := by
  unfold putK
  rw [if_neg]
  intro e
  rw [List.any_eq_true] at e
  obtain ⟨x, hx, e⟩ := e
  exact h (List.mem_map.mpr ⟨x, hx, of_decide_eq_true e⟩)
theorem mergeV_nilA : ∀ (l acc : List (Key × V)), ((acc ++ l).map (·.1)).Nodup → mergeV acc l = acc ++ l
  | [], acc, _ => by rw [List.append_nil]; rfl
  | p :: l, acc, h => by
    have h2 : ((acc ++ [p] ++ l).map (·.1)).Nodup := by rw [List.append_assoc]; exact h
    have hn : p.1 ∉ acc.map (·.1) := by
      rw [List.map_append, List.nodup_append] at h
      intro hm
      exact h.2.2 _ hm _ (by simp) rfl
    have ih := mergeV_nilA l (acc ++ [p]) h2
    show mergeV (putK acc p.1 p.2) l = _
    rw [putK_new hn]
    rw [List.append_assoc] at ih
    exact ih
theorem mergeV_nil {l : List (Key × V)} (h : (l.map (·.1)).Nodup) : mergeV [] l = l := mergeV_nilA l [] h
theorem mergeV_one {l : List (Key × V)} {k : Key} {v : V} : mergeV l [(k, v)] = putK l k v := rfl
theorem mergeK_one {k : Key} {v : V} : mergeK ([] : List (Key × V)) [(k, v)] = [(k, v)] := rfl
def kMrgB (p q : Addr) (ka : List (Key × V)) (Q : VK) : List (V × V) → Hp → Prop := fun ps H2 => H2 q = some (.dK []) ∧ H2 p = some (.dK ka) ∧ p ≠ q ∧ ∃ kvs : List (Key × V), ps = kvs.map (fun kv => (kV kv.1, kv.2)) ∧ kvs.length ≤ 15 ∧ ka.length + (mergeK [] kvs).length ≤ sizeLine ∧
    Q (.ref p) (upd (upd H2 q (.dK (mergeK [] kvs))) p (.dK (mergeV ka (mergeK [] kvs))))
def kMrgA (p : Addr) (trs : List (TE × TE)) (σ : L2.St) (Q : VK) : VK := fun x H1 => ∃ (a : Addr) (ka : List (Key × V)), x = .ref a ∧ a ≠ p ∧ H1 a = some (.dK ka) ∧ H1 p = some (.dK []) ∧ ka.length ≤ sizeLine ∧
  ∀ q, (upd H1 p (.dK (mergeV [] ka))) q = none → tPairs trs σ (upd (upd H1 p (.dK (mergeV [] ka))) q (.dK [])) (kMrgB p q (mergeV [] ka) Q)
theorem w_mrg {ta : TE} {trs : List (TE × TE)} (q : ∀ p H1, H1 p = some (.dK []) → Nw p H H1 → ta σ H1 (kMrgA p trs σ Q)) : tMergeK ta trs σ H Q := fun p n => q p _ upd_same (.mk' n)
theorem w_kMrgA {p a : Addr} {ka : List (Key × V)} {tk tv : TE} (ha : H a = some (.dK ka)) (hp : H p = some (.dK [])) (nap : a ≠ p) (hn : (ka.map (·.1)).Nodup) (hl : ka.length ≤ sizeLine)
    (q : ∀ q H1, H1 q = some (.dK []) → H1 p = some (.dK ka) → p ≠ q → (∀ b o, H b = some o → b ≠ p → H1 b = some o) → H q = none → tk σ H1 fun y H2 => tv σ H2 fun z H3 => kMrgB p q ka Q [(y, z)] H3) : kMrgA p [(tk, tv)] σ Q (.ref a) H := by
  refine ⟨a, ka, rfl, nap, ha, hp, hl, fun q0 nq => ?_⟩
  rw [mergeV_nil hn] at nq ⊢
  have npq : p ≠ q0 := fun z => by rw [← z, upd_same] at nq; cases nq
  have nqH : H q0 = none := by rw [upd_ne npq.symm] at nq; exact nq
  exact q q0 _ upd_same (by rw [upd_ne npq, upd_same]) npq (fun b o e n => by rw [upd_ne (ne_of_none e nqH), upd_ne n]; exact e) nqH
theorem w_kMrgB {p q : Addr} {ka : List (Key × V)} {k : Key} {z : V} (hq : H q = some (.dK [])) (hp : H p = some (.dK ka)) (n : p ≠ q) (hl : ka.length + 1 ≤ sizeLine)
    (kq : ∀ H1, H1 p = some (.dK (putK ka k z)) → (∀ b o, H b = some o → b ≠ p → b ≠ q → H1 b = some o) → Q (.ref p) H1) : kMrgB p q ka Q [(kV k, z)] H :=
  ⟨hq, hp, n, [(k, z)], rfl, (by show 1 ≤ 15; decide), by rw [mergeK_one]; exact hl, kq _ (by rw [mergeK_one, mergeV_one]; exact upd_same) (fun b o e n1 n2 => by rw [upd_ne n1, upd_ne n2]; exact e)⟩
theorem w_lockE {t : TE} {d : Addr} {u : HO} (h : H d = some u) (mu : Mut (some u)) (q : ∀ od, t σ (upd H d (.frz od u)) fun v H' => H' d = some (.frz od u) ∧ Q v (upd H' d u)) : tLockE t σ H Q := ⟨d, u, h, mu, q⟩
/-- a dict comprehension over the keys of a locked dict -/
theorem w_dcK {d : Addr} {o : Obj} {kvs : List (Key × V)} {g : TG} {tt : TT} {tk tv : TE} {vs : List Nat} (Pv : Addr → Nat → Hp → Prop) (h0 : ∀ p H1, H1 p = some (.dK []) → Nw p H H1 → Pv p 0 H1) (hl : ∀ p i H, i ≤ kvs.length → Pv p i H → H d = some (.frz o (.dK kvs)))
    (hs : ∀ p i k v H, kvs[i]? = some (k, v) → Pv p i H → g (kV k) (wipe σ vs) H (kEachD tt tk tv vs σ p (Pv p (i + 1)))) (hd : ∀ p H, Pv p kvs.length H → Q (.ref p) H) : kDc g tt tk tv vs σ Q (Itk d o kvs) H := by
  refine w_dcG (n := kvs.length) Pv h0 (fun p i H hi h => ⟨hl p i H (Nat.le_of_lt hi) h, hi⟩) (fun p H h => ⟨hl p _ H (Nat.le_refl _) h, Nat.le_refl _⟩) ?_ hd
  rintro p i x H H' hi h ⟨rfl, k, v, hk, rfl⟩
  exact hs p i k v H' hk h
/-- x in a list of flat things -/
theorem w_notInV {K : PySem.W.Frag} {x : V} {p : Addr} {xs : List V} (h : H p = some (.lst xs)) (fx : flatV x = true) (fs : xs.all flatV = true) (q : Q (.bl (!inV x xs)) H) : rIn K true x (.ref p) H Q := ⟨p, xs, rfl, .inl (SqL.of h), fx, fs, q⟩
end
/-! ### keys as flat things -/
theorem flat_kV (k : Key) : flatV (kV k) = true := by cases k <;> rfl
theorem eqV_kV (a b : Key) : eqV (kV a) (kV b) = decide (a = b) := by
  cases a with
  | inl i => cases b with
    | inl j =>
      show (i == j) = _
      by_cases h : i = j
      · subst h; rw [decide_eq_true rfl, beq_self_eq_true]
      · rw [decide_eq_false (fun z => h (Sum.inl.inj z)), beq_eq_false_iff_ne.mpr h]
    | inr y => rw [decide_eq_false (fun z => nomatch z)]; rfl
  | inr x => cases b with
    | inl j => rw [decide_eq_false (fun z => nomatch z)]; rfl
    | inr y =>
      show (x == y) = _
      by_cases h : x = y
      · subst h; rw [decide_eq_true rfl, beq_self_eq_true]
      · rw [decide_eq_false (fun z => h (Sum.inr.inj z)), beq_eq_false_iff_ne.mpr h]
def memK (k : Key) (gs : List Key) : Bool := gs.any fun g => decide (g = k)
theorem memK_iff {k : Key} {gs : List Key} : memK k gs = true ↔ k ∈ gs := by
  unfold memK
  rw [List.any_eq_true]
  exact ⟨fun ⟨x, hx, e⟩ => by rw [← of_decide_eq_true e]; exact hx, fun h => ⟨k, h, decide_eq_true rfl⟩⟩
theorem inV_keys (k : Key) (gs : List Key) : inV (kV k) (gs.map kV) = memK k gs := by
  unfold inV memK
  rw [List.any_map]
  congr 1
  funext g
  exact eqV_kV g k
theorem keys_flat (gs : List Key) : (gs.map kV).all flatV = true := by
  rw [List.all_map]
  exact List.all_eq_true.mpr fun k _ => flat_kV k
/-- a dict without some of its keys -/
def wthK {α : Type} (gone : List Key) (l : List (Key × α)) : List (Key × α) := l.filter fun e => !memK e.1 gone
theorem wthK_snoc {α : Type} {gone : List Key} {l : List (Key × α)} {e : Key × α} : wthK gone (l ++ [e]) = wthK gone l ++ (if memK e.1 gone = true then [] else [e]) := by
  unfold wthK
  rw [List.filter_append, List.filter_cons, List.filter_nil]
  cases memK e.1 gone <;> rfl
theorem valV_at {kvs : List (Key × V)} {i : Nat} {k : Key} {v : V} (nd : (kvs.map (·.1)).Nodup) (h : kvs[i]? = some (k, v)) : valV kvs k = some v := by
  induction kvs generalizing i with
  | nil => cases h
  | cons p r ih =>
    rw [List.map_cons, List.nodup_cons] at nd
    cases i with
    | zero =>
      cases h
      exact valV_pos rfl
    | succ j =>
      have hm : k ∈ r.map (·.1) := List.mem_map.mpr ⟨(k, v), List.mem_of_getElem? h, rfl⟩
      rw [valV_neg (fun e => nd.1 (by rw [e]; exact hm))]
      exact ih nd.2 h
def kKeysH (R : It → Hp → Prop) : VK := fun x H1 => ∃ d o, x = .ref d ∧ ((∃ kvs, H1 d = some (.frz o (.dK kvs)) ∧ R (Itk d o kvs) H1) ∨ ∃ kvs, H1 d = some (.frz o (.dT kvs)) ∧ R (Itkt d o kvs) H1)
theorem w_ikeysH {σ : L2.St} {H : Hp} {td : TE} {R : It → Hp → Prop} (q : td σ H (kKeysH R)) : iKeys td σ H R := q
theorem w_keysH {H : Hp} {d : Addr} {o : Obj} {kvs : List (Key × V)} {R : It → Hp → Prop} (h : H d = some (.frz o (.dK kvs))) (q : R (Itk d o kvs) H) : kKeysH R (.ref d) H := ⟨d, o, rfl, .inl ⟨kvs, h, q⟩⟩
section
variable {P : Program} {w : World} {K : PySem.W.Frag} {mg : Str → Option Value} {base : Heap} {CS CN fN : Addr} {fdN : FuncData}
structure SDC (K : PySem.W.Frag) (mg : Str → Option Value) (C : Addr) : Prop where
  cl : Cls K C
  nF : PySem.W.findIn K (.ref C) "following" = some none
  nP : PySem.W.findIn K (.ref C) "pairs" = some none
  nT : PySem.W.findIn K (.ref C) "texts" = some none
  nQ : PySem.W.findIn K (.ref C) "papers" = some none
  mgC : mg "Stand" = some (.ref C)
  ha : PySem.W.findIn K (.ref C) "__class__" = some (some (.builtin "object.__class__"))
  hn : PySem.W.specialIn K (.builtin "object.__class__") "__get__" = some (some (.builtin "getset_descriptor.__get__"))
  htk : PySem.W.takesIn K (.builtin "object.__class__") = some true
  hm : PySem.W.mroIn K C (.type "object") = some true
  ne : PySem.W.findIn K (.ref C) "__ne__" = some (some (.builtin "object.__ne__"))
/-! ### without -/
def spWth : Sp := fun vs H Q _ => ∃ (d g : Addr) (kvs : List (Key × V)) (gone : List Key), vs = [.ref d, .ref g] ∧ H d = some (.dK kvs) ∧ (kvs.map (·.1)).Nodup ∧ kvs.length ≤ 1000 ∧ H g = some (.lst (gone.map kV)) ∧
  ∀ (r : Addr) (H' : Hp), H' r = some (.dK (wthK gone kvs)) → H r = none → Same H H' → Q (.ref r) H'
theorem sc_wth : FnScope ["things", "gone", "key"] ["things", "gone"] (defScope s_without) := ⟨rfl, rfl, rfl, by decide +kernel, rfl, by decide +kernel, by decide +kernel⟩
theorem has_wth (F : FnAt K mg "without" s_without ["things", "gone"]) (B : Blt mg) : Has P w K mg base 1 "without" ["things", "gone"] spWth := F.has fun F => by
  refine F.ok sc_wth (fun vs H Q E h => ?_) (fun cdv A outer s H vs Q E hr h => ?_)
  · obtain ⟨d, g, kvs, gone, rfl, _⟩ := h
    rfl
  · obtain ⟨d, g, kvs, gone, rfl, hd, hnd, hlen, hg, q⟩ := h
    refine ⟨_, (pss_one (ps_ret (pe_lock (pe_dc (own := [("key", 2)]) (g := gName 2) (tt := tTest (tOp (rIn K true) (tVar 2) (tVar 1))) (by rfl) sc_wth.nd (pi_keys (pv 0)) (blkOk_by (own := [("key", 2)]) (N := ["things", "gone", "key"]) (sc := defScope s_without) (by decide +kernel)) (fun _ _ _ _ _ => pg_name (i := 2) sc_wth.nd rfl (.inl rfl)) (fun _ _ _ _ _ => by exact pts_one (pt_cmpR op_notIn_seq (pv 2) (pv 1) rfl)) (fun _ _ _ _ _ => (pv 2)) (fun _ _ _ _ _ => (pe_dget (hu_of hr) (pv 0) (pv 2) (fun _ _ => rfl))))))), ?_⟩
    walk_at "go"
    refine w_lockE hd True.intro (fun od => ?_)
    refine w_dc ?_
    refine w_ikeysH ?_
    walk_at "go"
    refine w_keysH upd_same ?_
    have dg : g ≠ d := ne_of hg hd (by intro z; cases z)
    refine w_dcK (fun r i H1 => H r = none ∧ (∀ b o, H b = some o → b ≠ d → H1 b = some o) ∧ H1 d = some (.frz od (.dK kvs)) ∧ H1 r = some (.dK (wthK gone (kvs.take i)))) (fun r H1 h1 n1 => ?_) (fun r i H1 _ h => h.2.2.1) ?_ ?_
    · have rn := n1.nn
      have rd : r ≠ d := fun z => by rw [z, upd_same] at rn; cases rn
      rw [upd_ne rd] at rn
      exact ⟨rn, fun b o e nb => n1.at (by rw [upd_ne nb]; exact e), n1.at upd_same, h1⟩
    · rintro r i k v H1 hk ⟨rn, S1, d1, r1⟩
      have hil : i < kvs.length := (List.getElem?_eq_some_iff.mp hk).1
      walk_at "go"
      refine w_notInV (S1 g _ hg dg) (flat_kV k) (keys_flat gone) ?_
      rw [inV_keys]
      have ek := take_snoc hk
      have nk : k ∉ (kvs.take i).map (·.1) := by
        have h2 : ((kvs.take (i + 1)).map (·.1)).Nodup := ((List.take_sublist _ _).map _).nodup hnd
        rw [ek, List.map_append, List.nodup_append] at h2
        intro hm
        exact h2.2.2 _ hm _ (by simp) rfl
      refine w_kB ?_
      refine w_tstDB (fun hb => ?_) (fun hb => ?_)
      · have hb : memK k gone = false := by simpa using hb
        walk_at "go"
        have ev : valV kvs k = some v := valV_at hnd hk
        refine ⟨d, v, rfl, .inl ⟨kvs, k, .inr ⟨od, d1⟩, rfl, ev.symm⟩, ?_⟩
        have nw : k ∉ (wthK gone (kvs.take i)).map (·.1) := fun hm => nk (((List.filter_sublist).map _).subset hm)
        refine ⟨_, k, rfl, r1, ?_, rn, fun b o e nb => ?_, ?_, ?_⟩
        · have := List.length_filter_le (fun e : Key × V => !memK e.1 gone) (kvs.take i)
          rw [List.length_take] at this
          exact Nat.lt_of_le_of_lt (show _ ≤ 1000 by unfold wthK; omega) (by decide)
        · rw [upd_ne (ne_of_none e rn)]
          exact S1 b o e nb
        · have dr : d ≠ r := fun z => by rw [z] at hd; rw [hd] at rn; cases rn
          rw [upd_ne dr]
          exact d1
        · rw [upd_same, putK_new nw, ek, wthK_snoc, if_neg (by rw [hb]; exact fun z => nomatch z)]
      · have hb : memK k gone = true := by simpa using hb
        exact ⟨rn, S1, d1, by rw [ek, wthK_snoc, if_pos hb, List.append_nil]; exact r1⟩
    · rintro r H1 ⟨rn, S1, d1, r1⟩
      rw [List.take_length] at r1
      have dr : r ≠ d := fun z => by rw [z, hd] at rn; cases rn
      refine ⟨d1, q r _ (by rw [upd_ne dr]; exact r1) rn fun b o e => ?_⟩
      by_cases hb : b = d
      · subst hb
        rw [hd] at e
        cases e
        exact upd_same
      · rw [upd_ne hb]
        exact S1 b o e hb
end
end Sf
namespace Sf
open PySem PySem.Spec PyProof.Rows L2 TL
def HasMX (P : Program) (w : World) (K : PySem.W.Frag) (mg : Str → Option Value) (base : Heap) (C : Addr) (k : Nat) (m : Str) (ps : List Str) (sp : Sp) : Prop :=
  ∃ (f : Addr) (fd : FuncData), Meth K C m f ∧ Binds K fd ps [] ∧ FnOk P w K mg base (L2.CX P w) k f fd ps sp
def HasX (P : Program) (w : World) (K : PySem.W.Frag) (mg : Str → Option Value) (base : Heap) (k : Nat) (x : Str) (ps : List Str) (sp : Sp) : Prop :=
  ∃ (f : Addr) (fd : FuncData), mg x = some (.ref f) ∧ PySem.W.keepIn K (.ref f) = true ∧ Binds K fd ps [] ∧ FnOk P w K mg base (L2.CX P w) k f fd ps sp
end Sf
namespace Sf
open PySem PySem.Spec PyProof.Rows L2 TL
section
variable {P : Program} {w : World} {K : PySem.W.Frag} {mg : Str → Option Value} {base : Heap} {CS CN fN : Addr} {fdN : FuncData}
/-! ### stands, made and twinned -/
def emp : StM := ⟨1, [], [], []⟩
def spSdI (CS : Addr) : Sp := fun vs H Q _ => ∃ (s dx : Addr), vs = [.ref s] ∧ H s = some (.ins CS dx []) ∧ ∀ (p t q : Addr) (H' : Hp), H' s = some (.ins CS dx (stf 1 p t q)) → DctsAt H' p t q emp → (∀ b o, H b = some o → b ≠ s → H' b = some o) → Q .non H'
theorem sc_sdi : FnScope ["self"] ["self"] (defScope s_Stand___init__) := ⟨rfl, rfl, rfl, by decide +kernel, rfl, by decide +kernel, by decide +kernel⟩
theorem has_sdi (F : MAt K CS "__init__" "Stand.__init__" s_Stand___init__ ["self"]) (T_Stand : SDC K mg CS) : HasM P w K mg base CS 1 "__init__" ["self"] (spSdI CS) := F.has fun F => by
  refine F.ok sc_sdi (fun vs H Q E h => ?_) (fun cdv A outer s H vs Q E hr h => ?_)
  · obtain ⟨s, dx, rfl, _⟩ := h
    rfl
  · obtain ⟨s, dx, rfl, hs, q⟩ := h
    refine ⟨_, (pss_cons (ps_fld (pv 0) pe_int rfl) (pss_cons (ps_fld (pv 0) pe_dnewK rfl) (pss_cons (ps_fld (pv 0) pe_dnewK rfl) (pss_one (ps_fld (pv 0) pe_dnewK rfl))))), ?_⟩
    walk_at "go"
    refine w_kSFld hs T_Stand.cl T_Stand.nF (by decide) (fun H1 h1 o1 => ?_)
    walk_at "go"
    refine w_dnewK (fun p H2 hp np => ?_)
    walk_at "go"
    refine w_kSFld (np.at h1) T_Stand.cl T_Stand.nP (by show 1 < 1000; decide) (fun H3 h3 o3 => ?_)
    walk_at "go"
    refine w_dnewK (fun t H4 ht nt => ?_)
    walk_at "go"
    refine w_kSFld (nt.at h3) T_Stand.cl T_Stand.nT (by rw [show (putF "pairs" (V.ref p) (putF "following" (V.int 1) []) : List (Str × V)).length = 2 from rfl]; decide) (fun H5 h5 o5 => ?_)
    walk_at "go"
    refine w_dnewK (fun q0 H6 hq nq => ?_)
    walk_at "go"
    refine w_kSFld (nq.at h5) T_Stand.cl T_Stand.nQ (by rw [show (putF "texts" (V.ref t) (putF "pairs" (V.ref p) (putF "following" (V.int 1) [])) : List (Str × V)).length = 3 from rfl]; decide) (fun H7 h7 o7 => ?_)
    walk_at "go"
    rw [st_new] at h7
    have ps : p ≠ s := (np.ne h1).symm
    have ts : t ≠ s := (nt.ne h3).symm
    have qs : q0 ≠ s := (nq.ne h5).symm
    exact q p t q0 H7 h7 ⟨⟨[], o7.at ps (nq.at (o5.at ps (nt.at (o3.at ps hp)))), .nil⟩, o7.at ts (nq.at (o5.at ts ht)), ⟨[], o7.at qs hq, .nil⟩⟩ (fun b o e n => o7.at n (nq.at (o5.at n (nt.at (o3.at n (np.at (o1.at n e)))))))
theorem w_mkStand {H : Hp} {Q : VK} {E : XK} (k : ∀ (s dx p t q : Addr) (H' : Hp), H s = none → H' s = some (.ins CS dx (stf 1 p t q)) → DctsAt H' p t q emp → Same H H' → Q (.ref s) H') : kMake CS (spSdI CS) [] E Q [] H := fun x dx nx ndx hne => by
  have sm : Same H (upd (upd H dx (.own x)) x (.ins CS dx [])) := (same_upd ndx).trans (same_upd (by rw [upd_ne hne.symm]; exact nx))
  exact ⟨x, dx, rfl, upd_same, fun p t q H' h1 h2 h3 => ⟨rfl, k x dx p t q H' nx h1 h2 fun c o e => h3 c o (sm _ _ e) (ne_of_none e nx)⟩⟩
def spSdT (CS : Addr) : Sp := fun vs H Q _ => ∃ (s : Addr) (M : StM), vs = [.ref s] ∧ StAt CS H s M ∧ ∀ (r : Addr) (H' : Hp), H r = none → StAt CS H' r M → Same H H' → Q (.ref r) H'
theorem sc_sdt : FnScope ["self", "twin"] ["self"] (defScope s_Stand_twin) := ⟨rfl, rfl, rfl, by decide +kernel, rfl, by decide +kernel, by decide +kernel⟩
theorem has_sdt (F : MAt K CS "twin" "Stand.twin" s_Stand_twin ["self"]) (T_Stand : SDC K mg CS) (mkS : PySem.W.makesIn K CS = true) (kcS : PySem.W.keepIn K (.ref CS) = true) (h_SdI : HasM P w K mg base CS 1 "__init__" ["self"] (spSdI CS)) : HasM P w K mg base CS 3 "twin" ["self"] (spSdT CS) := F.has fun F => by
  obtain ⟨f_SdI, fd_SdI, m_SdI, b_SdI, G_SdI⟩ := h_SdI
  have M_SdI : Mk K CS f_SdI := ⟨mkS, m_SdI.at_, m_SdI.fn, kcS⟩
  have g_Stand := T_Stand.mgC
  refine F.ok sc_sdt (fun vs H Q E h => ?_) (fun cdv A outer s H vs Q E hr h => ?_)
  · obtain ⟨s, M, rfl, _⟩ := h
    rfl
  · obtain ⟨s, M, rfl, ⟨dx, p, t, q0, hs, hd⟩, q⟩ := h
    refine ⟨_, (pss_cons (ps_set (i := 1) sc_sdt.nd rfl (.inl rfl) (pe_make0 M_SdI G_SdI (hr.mono (by decide)) (by rfl) g_Stand b_SdI .nil pass0)) (pss_cons (ps_fld (pv 1) (pe_fld (pv 0) rfl) rfl) (pss_cons (ps_fld (pv 1) (pe_fld (pv 0) rfl) rfl) (pss_cons (ps_fld (pv 1) (pe_fld (pv 0) rfl) rfl) (pss_cons (ps_fld (pv 1) (pe_fld (pv 0) rfl) rfl) (pss_one (ps_ret (pv 1)))))))), ?_⟩
    walk_at "go"
    refine w_mkStand (fun r dr p1 t1 q1 H1 nr hr1 hd1 s1 => ?_)
    have sr : s ≠ r := fun z => by rw [z, nr] at hs; cases hs
    have hs1 := s1.at hs
    walk_at "go"
    refine w_kFld hs1 T_Stand.cl T_Stand.nF lk_f ?_
    walk_at "go"
    refine w_kSFld hr1 T_Stand.cl T_Stand.nF (by show 4 < 1000; decide) (fun H2 h2 o2 => ?_)
    rw [st_f] at h2
    walk_at "go"
    refine w_kFld (o2.at sr hs1) T_Stand.cl T_Stand.nP lk_p ?_
    walk_at "go"
    refine w_kSFld h2 T_Stand.cl T_Stand.nP (by show 4 < 1000; decide) (fun H3 h3 o3 => ?_)
    rw [st_p] at h3
    walk_at "go"
    refine w_kFld (o3.at sr (o2.at sr hs1)) T_Stand.cl T_Stand.nT lk_t ?_
    walk_at "go"
    refine w_kSFld h3 T_Stand.cl T_Stand.nT (by show 4 < 1000; decide) (fun H4 h4 o4 => ?_)
    rw [st_t] at h4
    walk_at "go"
    refine w_kFld (o4.at sr (o3.at sr (o2.at sr hs1))) T_Stand.cl T_Stand.nQ lk_q ?_
    walk_at "go"
    refine w_kSFld h4 T_Stand.cl T_Stand.nQ (by show 4 < 1000; decide) (fun H5 h5 o5 => ?_)
    rw [st_q] at h5
    walk_at "go"
    have sm : Same H H5 := fun b o e => by
      have nb : b ≠ r := ne_of_none e nr
      exact o5.at nb (o4.at nb (o3.at nb (o2.at nb (s1.at e))))
    exact q r H5 nr ⟨dr, p, t, q0, h5, hd.dkt (.of sm)⟩ sm
/-! ### texts and papers by names -/
def lkT {α : Type} (l : List (Str × α)) (x : Str) : Option α := (l.find? fun e => decide (e.1 = x)).map (·.2)
theorem valV_tx (l : List (Str × Str)) (x : Str) : valV (txK l) (.inr x) = (lkT l x).map V.str := by
  induction l with
  | nil => rfl
  | cons e l ih =>
    show valV (((.inr e.1 : Key), V.str e.2) :: txK l) (.inr x) = _
    by_cases h : e.1 = x
    · rw [valV_pos (by rw [h])]
      unfold lkT
      rw [List.find?_cons, decide_eq_true h]
      rfl
    · rw [valV_neg (fun z => h (Sum.inr.inj z)), ih]
      unfold lkT
      rw [List.find?_cons, decide_eq_false h]
def spSdX (CS CN : Addr) : Sp := fun vs H Q E => ∃ (s : Addr) (M : StM) (x : Str), vs = [.ref s, .str x] ∧ StAt CS H s M ∧ NmT x ∧ (∀ y, lkT M.txs x = some y → Q (.str y) H) ∧ (lkT M.txs x = none → XE1 (Str.ofString "noname") "name" (.str x) CN H E)
theorem sc_sdx : FnScope ["self", "word_name"] ["self", "word_name"] (defScope s_Stand_text_of) := ⟨rfl, rfl, rfl, by decide +kernel, rfl, by decide +kernel, by decide +kernel⟩
theorem has_sdx (F : MAt K CS "text_of" "Stand.text_of" s_Stand_text_of ["self", "word_name"]) (T_Stand : SDC K mg CS) (T_NoName : EL K mg "NoName" CN fN) (nN : PySem.W.findIn K (.ref CN) "name" = some none)
    (G_NoName : FnOk P w K mg base CX0 2 fN fdN ["self", "name"] (spExLS K (Str.ofString "noname") "name")) (b_NoName : Binds K fdN ["self", "name"] []) : HasMX P w K mg base CS 4 "text_of" ["self", "word_name"] (spSdX CS CN) := by
  obtain ⟨f, fd, g, F, bb⟩ := F
  refine ⟨f, fd, g, bb, ?_⟩
  refine F.okX sc_sdx (fun vs H Q E h => ?_) (fun cdv A outer s H vs Q E hr h => ?_)
  · obtain ⟨s, M, x, rfl, _⟩ := h
    rfl
  · obtain ⟨s, M, x, rfl, ⟨dx, p, t, q0, hs, hd⟩, hx, q1, q2⟩ := h
    refine ⟨_, (pss_cons (ps_if (pt_cmp (pc_dnotin (hu_of hr) (pv 1) (pe_fld (pv 0) rfl))) (pss_one (ps_raise rfl (takes_of rfl rfl rfl rfl) (pmk_oexL T_NoName.ox T_NoName.iC T_NoName.tI G_NoName (hr.mono (by decide)) b_NoName pass0 (by rfl) T_NoName.gC (pa_cons (pv 1) pa_nil)))) pss_nil) (pss_one (ps_ret (pe_dget (hu_of hr) (pe_fld (pv 0) rfl) (pv 1) (fun _ _ => rfl))))), ?_⟩
    have ht := hd.tx
    walk_at "go"
    refine w_kFld hs T_Stand.cl T_Stand.nT lk_t ?_
    walk_at "go"
    rw [valV_tx]
    cases e : lkT M.txs x with
    | none =>
      refine w_ifT ?_
      walk_at "go"
      refine w_mkOL ?_
      walk_at "go"
      exact w_kMkLS T_NoName nN hx (q2 e)
    | some y =>
      refine w_ifF ?_
      walk_at "go"
      refine w_kFld hs T_Stand.cl T_Stand.nT lk_t ?_
      walk_at "go"
      exact w_kDGetS ht (by rw [valV_tx, e]; rfl) (q1 y e)
/-! ### a line more, a text more -/
theorem lnKeys {H : Hp} {kvs : List (Key × V)} {ls : List (Int × Clm)} (h : LnsAt H kvs ls) : kvs.map (·.1) = ls.map fun l => Sum.inl l.1 := by
  induction h with
  | nil => rfl
  | cons r _ ih => rw [List.map_cons, List.map_cons, ih, r.1]
theorem ppKeys {H : Hp} {kvs : List (Key × V)} {ls : List (Str × PapM)} (h : PpsAt H kvs ls) : kvs.map (·.1) = ls.map fun l => Sum.inr l.1 := by
  induction h with
  | nil => rfl
  | cons r _ ih => rw [List.map_cons, List.map_cons, ih, r.1]
/-- what a stand keeps to -/
structure StOk (M : StM) : Prop where
  pn : (M.prs.map (·.1)).Nodup
  pr : ∀ l ∈ M.prs, 1 ≤ l.1 ∧ l.1 < M.fol ∧ Wd l.2.1 ∧ Wd l.2.2 ∧ l.2.1.length ≤ 12 ∧ l.2.2.length ≤ 12
  pl : M.prs.length ≤ 12
  f1 : 1 ≤ M.fol
  f2 : M.fol ≤ 999999999
  tn : (M.txs.map (·.1)).Nodup
  tx : ∀ e ∈ M.txs, isW e.2 = true ∧ 1 ≤ e.1.length ∧ e.1.length ≤ 8
  tl : M.txs.length ≤ 20
  qn : (M.pps.map (·.1)).Nodup
  ql : M.pps.length ≤ 12
theorem StOk.kn {M : StM} (h : StOk M) {H : Hp} {kvs : List (Key × V)} (k : LnsAt H kvs M.prs) : (kvs.map (·.1)).Nodup := by
  rw [lnKeys k]
  have := h.pn
  unfold List.Nodup at this ⊢
  rw [List.pairwise_map] at this ⊢
  exact this.imp fun h e => h (Sum.inl.inj e)
theorem StOk.qk {M : StM} (h : StOk M) {H : Hp} {kvs : List (Key × V)} (k : PpsAt H kvs M.pps) : (kvs.map (·.1)).Nodup := by
  rw [ppKeys k]
  have := h.qn
  unfold List.Nodup at this ⊢
  rw [List.pairwise_map] at this ⊢
  exact this.imp fun h e => h (Sum.inr.inj e)
theorem txK_keys (l : List (Str × Str)) : (txK l).map (·.1) = l.map fun e => Sum.inr e.1 := by
  unfold txK
  rw [List.map_map]
  rfl
theorem StOk.tk {M : StM} (h : StOk M) : ((txK M.txs).map (·.1)).Nodup := by
  rw [txK_keys]
  have := h.tn
  unfold List.Nodup at this ⊢
  rw [List.pairwise_map] at this ⊢
  exact this.imp fun h e => h (Sum.inr.inj e)
theorem StOk.nfol {M : StM} (h : StOk M) {H : Hp} {kvs : List (Key × V)} (k : LnsAt H kvs M.prs) : (Sum.inl (M.fol : Int) : Key) ∉ kvs.map (·.1) := by
  rw [lnKeys k]
  intro hm
  obtain ⟨l, hl, e⟩ := List.mem_map.mp hm
  have h1 := (h.pr l hl).2.1
  have h2 : l.1 = (M.fol : Int) := Sum.inl.inj e
  omega
def spSdL (CS : Addr) : Sp := fun vs H Q _ => ∃ (s : Addr) (M : StM) (l r : Str), vs = [.ref s, .int (M.fol : Nat), .str l, .str r] ∧ StAt CS H s M ∧ StOk M ∧ ∀ H', StAt CS H' s { M with prs := M.prs ++ [((M.fol : Int), (l, r))] } → Fx s H H' → Q .non H'
theorem sc_sdl : FnScope ["self", "number", "left", "right"] ["self", "number", "left", "right"] (defScope s_Stand_add_line) := ⟨rfl, rfl, rfl, by decide +kernel, rfl, by decide +kernel, by decide +kernel⟩
theorem has_sdl (F : MAt K CS "add_line" "Stand.add_line" s_Stand_add_line ["self", "number", "left", "right"]) (T_Stand : SDC K mg CS) : HasM P w K mg base CS 1 "add_line" ["self", "number", "left", "right"] (spSdL CS) := F.has fun F => by
  refine F.ok sc_sdl (fun vs H Q E h => ?_) (fun cdv A outer s H vs Q E hr h => ?_)
  · obtain ⟨s, M, l, r, rfl, _⟩ := h
    rfl
  · obtain ⟨s, M, l, r, rfl, ⟨dx, p, t, q0, hs, hd⟩, ok, q⟩ := h
    refine ⟨_, (pss_one (ps_fld (pv 0) (pe_mergeK (pe_fld (pv 0) rfl) (pps_cons (pv 1) (pe_tup (pa_cons (pv 2) (pa_cons (pv 3) pa_nil))) pps_nil)) rfl)), ?_⟩
    obtain ⟨kp, hp, hk⟩ := hd.pr
    have hkl : kp.length = M.prs.length := Paired.length hk
    have pl := ok.pl
    walk_at "go"
    refine w_mrg (fun p1 H1 hp1 np1 => ?_)
    walk_at "go"
    refine w_kFld (np1.at hs) T_Stand.cl T_Stand.nP lk_p ?_
    have pp1 : p ≠ p1 := np1.ne hp
    refine w_kMrgA (np1.at hp) hp1 pp1 (ok.kn hk) (line_of (by omega)) (fun q1 H2 hq1 hp2 n12 S2 nq1 => ?_)
    walk_at "go"
    refine w_newT (by walk_at "sz") (fun T H3 hT nT => ?_)
    have nqH : H q1 = none := by
      cases e : H q1 with
      | none => rfl
      | some o => rw [np1.at e] at nq1; cases nq1
    refine w_kMrgB (k := .inl (M.fol : Int)) (nT.at hq1) (nT.at hp2) n12 (line_of (by omega)) (fun H4 hp4 S4 => ?_)
    have sp1 : s ≠ p1 := np1.ne hs
    have up : ∀ b o, H b = some o → H4 b = some o := fun b o e => by
      have n1 : b ≠ p1 := np1.ne e
      have n2 : b ≠ q1 := ne_of_none e nqH
      exact S4 b o (nT.at (S2 b o (np1.at e) n1)) n1 n2
    walk_at "go"
    refine w_kSFld (up _ _ hs) T_Stand.cl T_Stand.nP (by show 4 < 1000; decide) (fun H5 h5 o5 => ?_)
    rw [st_p] at h5
    walk_at "go"
    have Tp1 : T ≠ p1 := (nT.ne hp2).symm
    have Tq1 : T ≠ q1 := (nT.ne hq1).symm
    have hT4 := S4 T _ hT Tp1 Tq1
    have K5 : DkT H4 H5 := DkT.off (up _ _ hs) (fun _ z => nomatch z) (fun _ z => nomatch z) o5
    have K45 : DkT H H5 := (DkT.of (H' := H4) up).trans K5
    obtain ⟨kq, hq, hkq⟩ := hd.pp
    refine q H5 ⟨dx, p1, t, q0, h5, ⟨⟨kp ++ [(.inl (M.fol : Int), .ref T)], ?_, ?_⟩, K45.1 _ _ hd.tx, ⟨kq, K45.1 _ _ hq, hkq.tps K45.2⟩⟩⟩ (fun b o e n => o5.at n (up b o e))
    · rw [putK_new (ok.nfol hk)] at hp4
      exact K5.1 _ _ hp4
    · exact Paired.snoc (hk.tps K45.2) ⟨rfl, T, rfl, K5.2 _ _ hT4⟩
/-- a name's word is told -/
def putT (l : List (Str × Str)) (n x : Str) : List (Str × Str) := if (l.any fun e => decide (e.1 = n)) = true then l.map (fun e => if e.1 = n then (e.1, x) else e) else l ++ [(n, x)]
theorem putT_K (l : List (Str × Str)) (n x : Str) : putK (txK l) (.inr n) (.str x) = txK (putT l n x) := by
  have e1 : ((txK l).any fun kv => decide (kv.1 = (Sum.inr n : Key))) = l.any fun e => decide (e.1 = n) := by
    unfold txK
    rw [List.any_map]
    congr 1
    funext e
    show decide ((Sum.inr e.1 : Key) = Sum.inr n) = decide (e.1 = n)
    exact decide_eq_decide.mpr ⟨fun z => Sum.inr.inj z, fun z => by rw [z]⟩
  unfold putK putT
  rw [e1]
  by_cases h : (l.any fun e => decide (e.1 = n)) = true
  · rw [if_pos h, if_pos h]
    unfold txK
    rw [List.map_map, List.map_map]
    refine List.map_congr_left fun e _ => ?_
    show (if (Sum.inr e.1 : Key) = Sum.inr n then ((Sum.inr e.1 : Key), V.str x) else (Sum.inr e.1, V.str e.2)) = ((Sum.inr (if e.1 = n then (e.1, x) else e).1 : Key), V.str (if e.1 = n then (e.1, x) else e).2)
    by_cases h2 : e.1 = n
    · rw [if_pos h2, if_pos (by rw [h2])]
    · rw [if_neg h2, if_neg (fun z => h2 (Sum.inr.inj z))]
  · rw [if_neg h, if_neg h]
    unfold txK
    rw [List.map_append]
    rfl
def spSdW (CS : Addr) : Sp := fun vs H Q _ => ∃ (s : Addr) (M : StM) (n x : Str), vs = [.ref s, .str n, .str x] ∧ StAt CS H s M ∧ StOk M ∧ ∀ H', StAt CS H' s { M with txs := putT M.txs n x } → Fx s H H' → Q .non H'
theorem sc_sdw : FnScope ["self", "word_name", "word"] ["self", "word_name", "word"] (defScope s_Stand_add_text) := ⟨rfl, rfl, rfl, by decide +kernel, rfl, by decide +kernel, by decide +kernel⟩
theorem has_sdw (F : MAt K CS "add_text" "Stand.add_text" s_Stand_add_text ["self", "word_name", "word"]) (T_Stand : SDC K mg CS) : HasM P w K mg base CS 1 "add_text" ["self", "word_name", "word"] (spSdW CS) := F.has fun F => by
  refine F.ok sc_sdw (fun vs H Q E h => ?_) (fun cdv A outer s H vs Q E hr h => ?_)
  · obtain ⟨s, M, n, x, rfl, _⟩ := h
    rfl
  · obtain ⟨s, M, n, x, rfl, ⟨dx, p, t, q0, hs, hd⟩, ok, q⟩ := h
    refine ⟨_, (pss_one (ps_fld (pv 0) (pe_mergeK (pe_fld (pv 0) rfl) (pps_cons (pv 1) (pv 2) pps_nil)) rfl)), ?_⟩
    have ht := hd.tx
    have tl := ok.tl
    have tkl : (txK M.txs).length = M.txs.length := List.length_map _
    walk_at "go"
    refine w_mrg (fun p1 H1 hp1 np1 => ?_)
    walk_at "go"
    refine w_kFld (np1.at hs) T_Stand.cl T_Stand.nT lk_t ?_
    have pp1 : t ≠ p1 := np1.ne ht
    refine w_kMrgA (np1.at ht) hp1 pp1 ok.tk (line_of (by omega)) (fun q1 H2 hq1 hp2 n12 S2 nq1 => ?_)
    walk_at "go"
    have nqH : H q1 = none := by
      cases e : H q1 with
      | none => rfl
      | some o => rw [np1.at e] at nq1; cases nq1
    refine w_kMrgB (k := .inr n) hq1 hp2 n12 (line_of (by omega)) (fun H4 hp4 S4 => ?_)
    have up : ∀ b o, H b = some o → H4 b = some o := fun b o e => by
      have n1 : b ≠ p1 := np1.ne e
      have n2 : b ≠ q1 := ne_of_none e nqH
      exact S4 b o (S2 b o (np1.at e) n1) n1 n2
    walk_at "go"
    refine w_kSFld (up _ _ hs) T_Stand.cl T_Stand.nT (by show 4 < 1000; decide) (fun H5 h5 o5 => ?_)
    rw [st_t] at h5
    walk_at "go"
    have K5 : DkT H4 H5 := DkT.off (up _ _ hs) (fun _ z => nomatch z) (fun _ z => nomatch z) o5
    have K45 : DkT H H5 := (DkT.of (H' := H4) up).trans K5
    obtain ⟨kp, hp, hk⟩ := hd.pr
    obtain ⟨kq, hq, hkq⟩ := hd.pp
    refine q H5 ⟨dx, p, p1, q0, h5, ⟨⟨kp, K45.1 _ _ hp, hk.tps K45.2⟩, ?_, ⟨kq, K45.1 _ _ hq, hkq.tps K45.2⟩⟩⟩ (fun b o e n => o5.at n (up b o e))
    rw [putT_K] at hp4
    exact K5.1 _ _ hp4
end
end Sf
namespace Sf
open PySem PySem.Spec PyProof.Rows L2 TL
/-! ### sorted(d.items()), d of texts by texts -/
abbrev dTx (e : Str × Str) : PyData := .tuple [.str e.1, .str e.2]
def sortT (l : List (Str × Str)) : List (Str × Str) := l.mergeSort (PySem.W.dataLe false dTx)
theorem tx_alike (a b : Str × Str) : PySem.W.alike (dTx a) (dTx b) = true := by
  simp [dTx, PySem.W.alike, PySem.W.alikeAll]
theorem tx_depth (a : Str × Str) : (dTx a).depth ≤ 60 := by
  simp only [dTx, PyData.depth, PyData.depthAll]
  decide
theorem sort_txs (bs : List (Addr × (Str × Str))) : (bs.mergeSort (PySem.W.dataLe false fun b => dTx b.2)).map (·.2) = sortT (bs.map (·.2)) := List.map_mergeSort fun a _ b _ => rfl
/-- names in their order -/
def nmT (s : Str) : Int ⊕ List Nat := Sum.inr s.cps.toList
def nmLe : Str → Str → Bool := PySem.W.sortLe PyProof.Rows.itemOrd false nmT
theorem nmLe_trans (a b c : Str) : nmLe a b = true → nmLe b c = true → nmLe a c = true := (PySem.W.sortLe_total _ _ _).trans a b c
theorem nmLe_lt {a b : Str} : nmLe a b = !decide (b.cps.toList < a.cps.toList) := rfl
theorem str_ext {a b : Str} (h : a.cps.toList = b.cps.toList) : a = b := by
  obtain ⟨x⟩ := a
  obtain ⟨y⟩ := b
  have : x = y := Array.toList_inj.mp h
  rw [this]
theorem nmLe_anti {a b : Str} (h1 : nmLe a b = true) (h2 : nmLe b a = true) : a = b := by
  rw [nmLe_lt, Bool.not_eq_true', decide_eq_false_iff_not] at h1 h2
  exact str_ext (List.le_antisymm (List.not_lt.mp h1) (List.not_lt.mp h2))
theorem nmLe_ne {a b : Str} (h : a ≠ b) (h1 : ¬ b.cps.toList < a.cps.toList) : a.cps.toList < b.cps.toList := by
  refine Classical.byContradiction fun h2 => h (nmLe_anti ?_ ?_)
  · rw [nmLe_lt, decide_eq_false h1]; rfl
  · rw [nmLe_lt, decide_eq_false h2]; rfl
open PySem.W in
theorem tx_le {a b : Str × Str} (h : a.1 ≠ b.1) : dataLe false dTx a b = nmLe a.1 b.1 := by
  obtain ⟨a1, a2⟩ := a
  obtain ⟨b1, b2⟩ := b
  have h : a1 ≠ b1 := h
  show (!PyProof.Rows.lexLt PyProof.Rows.itemOrd (keyToks (dTx (b1, b2))) (keyToks (dTx (a1, a2)))) = !decide (b1.cps.toList < a1.cps.toList)
  have e1 : ∀ x y : Str, keyToks (dTx (x, y)) = [.inl 1, nmT x, .inl 1, .inr y.cps.toList, .inl 0] := fun x y => by
    simp only [dTx, keyToks, keyToksAll]
    rfl
  rw [e1, e1]
  congr 1
  by_cases e : b1.cps.toList < a1.cps.toList
  · rw [decide_eq_true e]
    exact PyProof.Rows.lex_true.mpr (.inr ⟨by rfl, PyProof.Rows.lex_true.mpr (.inl (show decide (b1.cps.toList < a1.cps.toList) = true from decide_eq_true e))⟩)
  · rw [decide_eq_false e]
    have e2 := nmLe_ne h e
    exact PyProof.Rows.lex_false.mpr ⟨by rfl, .inr (PyProof.Rows.lex_false.mpr ⟨show decide (b1.cps.toList < a1.cps.toList) = false from decide_eq_false e, .inl (show decide (a1.cps.toList < b1.cps.toList) = true from decide_eq_true e2)⟩)⟩
theorem ltCps_lt : ∀ (a b : List Nat), ltCps a b = decide (a < b)
  | [], [] => by rfl
  | [], b :: t => by
    show true = _
    rw [decide_eq_true (List.nil_lt_cons b t)]
  | a :: r, [] => by
    show false = _
    rw [decide_eq_false (List.not_lt_nil _)]
  | a :: r, b :: t => by
    show (decide (a < b) || (a == b && ltCps r t)) = _
    rw [ltCps_lt r t, Bool.eq_iff_iff]
    simp only [Bool.or_eq_true, Bool.and_eq_true, decide_eq_true_eq, beq_iff_eq]
    exact List.cons_lt_cons_iff.symm
theorem risingS_all : ∀ (l : List Str) (p : Str), risingS p l = true → ∀ x ∈ l, nmLe p x = true
  | [], _, _, x, hx => nomatch hx
  | y :: l, p, h, x, hx => by
    have h : (!ltCps y.cps.toList p.cps.toList && risingS y l) = true := h
    rw [Bool.and_eq_true, ltCps_lt] at h
    rcases List.mem_cons.mp hx with rfl | z
    · exact h.1
    · exact nmLe_trans _ _ _ (show nmLe p y = true from h.1) (risingS_all l y h.2 x z)
theorem risingS_pw : ∀ (l : List Str) (p : Str), risingS p l = true → List.Pairwise (fun a b => nmLe a b = true) (p :: l)
  | [], p, _ => List.pairwise_singleton _ _
  | y :: l, p, h => by
    have h2 : (!ltCps y.cps.toList p.cps.toList && risingS y l) = true := h
    rw [Bool.and_eq_true] at h2
    exact List.Pairwise.cons (risingS_all _ p h) (risingS_pw l y h2.2)
theorem sortedS_pw {l : List Str} (h : sortedS l = true) : List.Pairwise (fun a b => nmLe a b = true) l := by
  cases l with
  | nil => exact .nil
  | cons x r => exact risingS_pw r x h
theorem txle_trans (a b c : Str × Str) : PySem.W.dataLe false dTx a b = true → PySem.W.dataLe false dTx b c = true → PySem.W.dataLe false dTx a c = true := (PySem.W.sortLe_total _ _ _).trans a b c
theorem txle_total (a b : Str × Str) : (PySem.W.dataLe false dTx a b || PySem.W.dataLe false dTx b a) = true := by
  rw [Bool.or_eq_true]
  exact (PySem.W.sortLe_total _ _ _).total a b
theorem sortT_perm (l : List (Str × Str)) : (sortT l).Perm l := List.mergeSort_perm _ _
theorem sortT_names {l : List (Str × Str)} {ys : List Str} (nd : (l.map (·.1)).Nodup) (p : ys.Perm (l.map (·.1))) (s : sortedS ys = true) : (sortT l).map (·.1) = ys := by
  refine List.Perm.eq_of_pairwise (le := fun a b => nmLe a b = true) (fun a b _ _ h1 h2 => nmLe_anti h1 h2) ?_ (sortedS_pw s) (((sortT_perm l).map _).trans p.symm)
  have h1 : List.Pairwise (fun a b => PySem.W.dataLe false dTx a b = true) (sortT l) := List.pairwise_mergeSort txle_trans txle_total _
  have h2 : ((sortT l).map (·.1)).Nodup := ((sortT_perm l).map _).nodup_iff.mpr nd
  rw [List.pairwise_map]
  unfold List.Nodup at h2
  rw [List.pairwise_map] at h2
  exact (h1.and h2).imp fun ⟨a, b⟩ => by rw [← tx_le b]; exact a
theorem zip_pairedH {α β : Type} {R : α → β → Prop} : ∀ {as : List α} {bs : List β}, Paired R as bs → ∃ l : List (α × β), l.map (·.1) = as ∧ l.map (·.2) = bs ∧ ∀ p ∈ l, R p.1 p.2
  | _, _, .nil => ⟨[], rfl, rfl, fun _ z => by cases z⟩
  | a :: _, b :: _, .cons r t => by
    obtain ⟨l, h1, h2, h3⟩ := zip_pairedH t
    refine ⟨(a, b) :: l, by rw [List.map_cons, h1], by rw [List.map_cons, h2], fun p hp => ?_⟩
    rcases List.mem_cons.mp hp with rfl | hp
    · exact r
    · exact h3 p hp
theorem paired_zipH {α β : Type} {R : α → β → Prop} : ∀ {l : List (α × β)}, (∀ p ∈ l, R p.1 p.2) → Paired R (l.map (·.1)) (l.map (·.2))
  | [], _ => .nil
  | p :: l, h => .cons (h p List.mem_cons_self) (paired_zipH fun q hq => h q (List.mem_cons_of_mem _ hq))
theorem paired_mapR {α β γ : Type} {R : α → γ → Prop} {f : β → γ} : ∀ {as : List α} {bs : List β}, Paired R as (bs.map f) → Paired (fun a b => R a (f b)) as bs
  | [], [], _ => .nil
  | _ :: _, _ :: _, .cons r t => .cons r (paired_mapR t)
theorem each_mapH {β : Type} (f : β → Value) (Q : Value → β → Prop) : ∀ (bs : List β), (∀ b ∈ bs, Q (f b) b) → PySem.W.EachIs Q (bs.map f) bs
  | [], _ => .nil
  | b :: bs, h => .cons (h b List.mem_cons_self) (each_mapH f Q bs fun c hc => h c (List.mem_cons_of_mem _ hc))
theorem each_outH {β : Type} {f : β → Value} : ∀ {out : List Value} {bs : List β}, PySem.W.EachIs (fun u b => u = f b) out bs → out = bs.map f
  | _, _, .nil => rfl
  | _, _, .cons h t => by rw [h, each_outH t]; rfl
/-! the rule -/
section
variable {X : Cx} {e : Expr} {te : TE} {p apos cpos pos : Pos}
theorem tups_laid {pins : List (Addr × Obj)} {σ : L2.St} {H : Hp} {s : Shared} {h' : Heap} {tk : Nat} {kvs : List (Key × V)} {vs : List (Key × Value)} {as : List Addr} (I : Inv X pins σ H s) (kv : KV kvs vs)
    (hk : ∀ b o, s.heap.get? b = some o → h'.get? b = some o) (hl : as.length = vs.length) (hG : PySem.W.KdxG (mixKind X.prog X.w) vs s.heap.objs.size h' as) :
    ∃ H' : Hp, (∀ b o, H b = some o → H' b = some o) ∧ (∀ t ∈ as, H t = none) ∧ (∀ b, H' b = none → H b = none) ∧ Paired (fun (t : Addr) (q : Key × V) => H' t = some (.tup [kV q.1, q.2])) as kvs ∧ Inv X pins σ H' { s with heap := h', toks := tk } := by
  have lk : kvs.length = vs.length := Paired.length kv
  have nd : as.Nodup := List.Pairwise.imp (fun {a b} (h : a < b) => Nat.ne_of_lt h) hG.rise
  have new : ∀ t ∈ as, H t = none := fun t ht => I.hok.fresh (Nat.le_of_lt (hG.above t ht))
  have atP := LiI.putT_at as kvs H (by omega) nd
  have off : ∀ b, b ∉ as → LiI.putT H as kvs b = H b := fun b h1 => LiI.putT_off as kvs _ h1
  have low : ∀ b o, s.heap.get? b = some o → b ∉ as := fun b o e => fun z => absurd (Heap.lt_size e) (Nat.not_lt.mpr (Nat.le_of_lt (hG.above b z)))
  have kp : ∀ b u, H b = some u → (LiI.putT H as kvs) b = some u := fun b u e => by
    rw [off b (fun z => by rw [new b z] at e; cases e)]
    exact e
  refine ⟨LiI.putT H as kvs, kp, new, fun b hb => ?_, atP, ?_⟩
  · cases e : H b with
    | none => rfl
    | some o => rw [kp b o e] at hb; cases hb
  refine I.call' (ch := []) rfl ⟨fun b o q _ _ _ => hk b o q, fun b o q _ _ _ => ⟨o.slots, hk b o q⟩, fun b o q n _ => ?_, fun b o q _ => ⟨o, hk b o q⟩, fun b xs q => kp b _ q, fun b o u q => kp b _ q, fun b ps q => ⟨#[], by rw [kp b _ q]; simp⟩⟩ (fun b u q => ?_) I.bare fun b z => by simp at z
  · rw [off b (low b o q)]
    exact n
  · by_cases hb : b ∈ as
    · obtain ⟨j, pk, e1, e2, e3⟩ := LiI.paired_ix atP hb
      rw [e3] at q
      cases q
      obtain ⟨key, k, x, f1, f2, f3⟩ := hG.pairs j b e1
      obtain ⟨qv, g1, g2, g3⟩ := LiI.paired_get kv e2
      rw [f1] at g1
      cases g1
      have rk : RelV (kV pk.1) key := by
        rw [g2]
        exact relV_key (show keyIs k key = true from f2)
      exact ⟨by show 2 ≤ sizeLine; decide, [key, x], .cons rk (.cons g3 .nil), ⟨_, f3, rfl, _, rfl⟩⟩
    · rw [off b hb] at q
      exact (I.hok b u q).stay (fun d v _ y => hk d v y) (fun d y => kp d _ y) fun d xs y => kp d _ y
def rItemsS : V → Hp → VK → Prop := fun x H Q => ∃ (d : Addr) (l : List (Str × Str)), x = .ref d ∧ H d = some (.dK (txK l)) ∧ l.length ≤ 1000 ∧
  ∀ (H' : Hp) (p : Addr) (ts : List Addr), Same H H' → H p = none → H' p = some (.lst (ts.map V.ref)) → Paired (fun (t : Addr) (q : Str × Str) => H' t = some (.tup [.str q.1, .str q.2])) ts (sortT l) → Q (.ref p) H'
def tItemsS (te : TE) : TE := fun σ H Q => te σ H fun x H1 => rItemsS x H1 Q
theorem pe_sortedItems (hc : X.calm = true) (hu : X.A.units + 64 < cLine) (he : PE X e te) (hg : Gl X "sorted") (hm : X.mg "sorted" = none) (hbase : attributeBase e "items" X.env (eval e X.env) = eval e X.env := by rfl) (hline : (apos.endLine == cpos.line) = true := by rfl)
    (hs : starEach [.Call (.Attribute e "items" apos) [] [] cpos] X.env = (false, eval (.Call (.Attribute e "items" apos) [] [] cpos) X.env) :: starEach [] X.env := by rfl) :
    PE X (.Call (.Name "sorted" p) [.Call (.Attribute e "items" apos) [] [] cpos] [] pos) (tItemsS te) := by
  refine ⟨fun pins s σ H Q I hq => ?_⟩
  refine wpAny_Call_Name_kw (ld_blt I hg hm rfl ?_)
  refine PyProof.Rows.callWith_builtin1 ?_ hs rfl
  rw [hs]
  show wpAny _ _ (spliced ((false, eval (.Call (.Attribute e "items" apos) [] [] cpos) X.env) :: backTo pos (starEach [] X.env))) _ _ s
  refine Calls.spliced_cons ?_
  refine wpAny_Call_method (T := "dict") (id := "dict.items") hbase rfl hline F.plainAttrs_dict F.slot_dict_items F.type_dict_items (thn (he.run pins s σ H _ I hq) fun u s1 ⟨x, H1, I1, rx, d, l, ex, hd, hl, q⟩ => ?_)
  subst ex
  obtain rfl : u = Value.ref d := rx
  obtain ⟨hz, hs0, vs, kv, hdo⟩ := I1.hok d _ hd
  obtain ⟨ep, hat⟩ := hdo.dictAt
  have lk : (txK l).length = vs.length := Paired.length kv
  have tkl : (txK l).length = l.length := List.length_map _
  have I2 : Inv X pins σ H1 { s1 with heap := s1.heap.push { cls := .type "dict_items", data := .fields #[.ref d] } } := I1.kept (t' := s1.toks) fun b ob q => Heap.get?_push_of_some _ q
  refine ⟨hdo.typeIs, hdo.mapOf.noDict, ?_⟩
  show wpAny _ _ (callWith cpos (.builtin "dict.items") [.ref d] [] []) _ X.xe s1
  refine method_meetsIn F.slot_dict_items F.entry_dict_items rfl (PySem.evalArgs_none ⟨rfl, hdo.typeIs, F.args_dict_items_1 _, _, meets_dict_items (mixKind X.prog X.w) d hs0, ⟨vs, hdo⟩, ?_⟩)
  refine Calls.spliced_nil ?_
  refine Calls.call_function_entry PyProof.Rows.kind_sorted PyProof.Rows.plain_sorted PyProof.Rows.entry_sorted (PyProof.Rows.args_sorted1 _) ?_
  unfold Builtin.«sorted»
  refine wpAny_bind (m := checkCount "sorted" 1 1 _) (wpAny_pure ?_)
  refine wpAny_bind (PySem.W.kdx_collect (A := X.A.in1) (knd := mixKind X.prog X.w) (kvs := vs) (ep := ep) (I1.ok.hd hc) ⟨_, Heap.get?_push_size _ rfl, rfl, rfl⟩ (hat.push _) (Nat.le_trans (show vs.length ≤ 1000 by omega) (by decide)) fun h' tk as hk hl2 hG => ?_)
  obtain ⟨H', k1, k2, k3, k5, J⟩ := tups_laid (tk := tk) I2 kv hk hl2 hG
  obtain ⟨bs, b1, b2, b3⟩ := zip_pairedH (paired_mapR k5)
  have asl : as.length ≤ 1000 := by omega
  refine wpAny_bind (wpAny_newList ?_ (by rw [List.length_map]; exact Nat.le_trans asl (by decide)))
  have hoL : (h'.push (seqObj "list" (as.map Value.ref).toArray 0)).get? h'.objs.size = some (seqObj "list" (as.map Value.ref).toArray 0) := Heap.get?_push_size _ rfl
  have ev : as.map Value.ref = bs.map fun b => Value.ref b.1 := by rw [← b1, List.map_map]; rfl
  have rd : ∀ b ∈ bs, ∃ xs, Reads (h'.push (seqObj "list" (as.map Value.ref).toArray 0)) (.ref b.1) (dTx b.2) xs ∧ h'.objs.size ∉ xs := fun b hb => by
    have hd2 : Dp X.K H' (.ref b.1) (dTx b.2) := .tup (SqT.of (b3 b hb)) (.cons (.str _) (.cons (.str _) .nil))
    obtain ⟨xs, r⟩ := Dp.reads J (dTx b.2) (.ref b.1) (.ref b.1) hd2 rfl
    refine ⟨xs, PyProof.Rows.Reads.keeps (fun _ _ q => Heap.get?_push_of_some _ q) r, fun z => ?_⟩
    obtain ⟨o, ho⟩ := PyProof.On.reads_mem_get r _ z
    exact Nat.lt_irrefl _ (Heap.lt_size ho)
  show wpAny _ _ _ _ _ { s1 with heap := h'.push (seqObj "list" (as.map Value.ref).toArray 0), toks := tk }
  refine wpAny_bind (wpAny_holding (PySem.W.list_sort_data (R := fun u b => u = Value.ref b.1) (bs := bs) (enc := fun b => dTx b.2) (vs := as.map Value.ref) hoL (by rw [ev]; exact each_mapH _ _ bs fun _ _ => rfl) (by rw [ev]; exact each_mapH _ _ bs (by rw [← ev]; exact rd)) ?_ ?_ ?_ ?_ fun out ho eo => ?_))
  · intro x hx y hy
    obtain ⟨b, _, rfl⟩ := List.mem_map.mp hx
    obtain ⟨c, _, rfl⟩ := List.mem_map.mp hy
    exact tx_alike _ _
  · refine .inl fun x hx => ?_
    obtain ⟨b, _, rfl⟩ := List.mem_map.mp hx
    exact ⟨_, _, rfl⟩
  · have : bs.length = as.length := by rw [← b1, List.length_map]
    rw [this]
    exact Nat.le_trans asl (by decide)
  · intro b _
    have := tx_depth b.2
    show X.A.in1.units + 1 + _ < _
    have e : X.A.in1.units = X.A.units + 1 := rfl
    omega
  · have eout := each_outH eo
    obtain ⟨e', he'⟩ := PyProof.Rows.sortedHeap_at (vs := as.map Value.ref) (out := out.toArray) hoL
    have nS : H' h'.objs.size = none := J.hok.fresh (Nat.le_refl _)
    have vout : Vals (((bs.mergeSort (PySem.W.dataLe false fun b => dTx b.2)).map (·.1)).map V.ref) out := by
      rw [eout]
      have := LiI.vals_refs ((bs.mergeSort (PySem.W.dataLe false fun b => dTx b.2)).map (·.1))
      rw [List.map_map, List.map_map] at this
      rw [List.map_map]
      exact this
    refine wpAny_pure ⟨_, rfl, .ref h'.objs.size, upd H' h'.objs.size (.lst (((bs.mergeSort (PySem.W.dataLe false fun b => dTx b.2)).map (·.1)).map V.ref)), J.laid (t' := tk) (fun b u e => ?_) (Nat.le_refl _) (show ObjOk X.prog X.w _ _ _ (.lst _) from ⟨?_, out, e', vout, he'⟩), rfl, q _ _ _ (fun b o e => ?_) ?_ upd_same ?_⟩
    · have hb : b < h'.objs.size := Heap.lt_size e
      rw [PyProof.Rows.sortedHeap_old (Nat.ne_of_lt hb) (by rw [size_push']; exact Nat.lt_succ_of_lt hb)]
      exact Heap.get?_push_of_some _ e
    · rw [List.length_map, List.length_map, List.length_mergeSort]
      have : bs.length = as.length := by rw [← b1, List.length_map]
      rw [this]
      exact Nat.le_trans asl (by decide)
    · rw [upd_ne (ne_of_none (k1 _ _ e) nS)]
      exact k1 _ _ e
    · exact k3 _ nS
    · rw [← b2, ← sort_txs]
      refine paired_zipH fun b hb => ?_
      have hb := List.mem_mergeSort.mp hb
      rw [upd_ne (ne_of_none (b3 b hb) nS)]
      exact b3 b hb
end
end Sf
namespace Sf
open PySem PySem.Spec PyProof.Rows L2 TL
section
variable {P : Program} {w : World} {K : PySem.W.Frag} {mg : Str → Option Value} {base : Heap} {C CS fS CW fW : Addr} {fdW : FuncData}
/-! ### BadWord -/
theorem sc_bwd : FnScope ["self"] ["self"] (defScope s_BadWord___init__) := ⟨rfl, rfl, rfl, by decide +kernel, rfl, by decide +kernel, by decide +kernel⟩
theorem ok_bwd {f : Addr} {fd fdS : FuncData} (F : Fun K "__init__" "BadWord.__init__" s_BadWord___init__ f fd) (S : SE K mg CS fS) (FS : FunD K "__init__" "SpoorError.__init__" s_SpoorError___init__ fS fdS) (bS : Binds K fdS ["self", "word", "message"] []) : FnOk P w K mg base CX0 2 f fd ["self"] (spEx K (Str.ofString "badword")) := by
  refine F.ok sc_bwd (fun vs H Q E h => ?_) (fun cdv A outer s H vs Q E hr h => ?_)
  · obtain ⟨a, C, rfl, _⟩ := h
    rfl
  · obtain ⟨a, C, rfl, ox, nw, ha, q⟩ := h
    have GS : FnOk P w K mg base CX0 1 fS fdS ["self", "word", "message"] (spSE K) := ok_se FS S
    refine ⟨_, pss_one (ps_expr (pe_clsFn (pe_glob (v := .ref CS) (by rfl) S.gC rfl) S.rd S.ga S.at_ GS hr FS.kp bS pass0 (pa_cons (pv 0) (pa_cons pe_str (pa_cons pe_str pa_nil))))), ?_⟩
    exact ⟨rfl, _, rfl, a, C, _, _, rfl, ox, nw, ha, fun dx n ne => q dx n ne⟩
/-- BadWord is raised -/
def XEw (CW : Addr) (H : Hp) (E : XK) : Prop := ∀ (d : Addr) (H' : Hp), H d = none → H' d = some (.xd [(("word" : Str), .str (Str.ofString "badword"))]) → Same H H' → E (.ref CW) (some d) H'
theorem XEw.same {H H1 : Hp} {E : XK} (h : XEw CW H E) (s : Same H H1) : XEw CW H1 E := fun d H' nd hd s' => h d H' (s.free nd) hd (s.trans s')
def spNeX (CW : Addr) : Sp := fun vs H Q E => ∃ x : Str, vs = [.str x] ∧ x.length ≤ 100000 ∧ (isW x = true → ∀ H', Same H H' → Q .non H') ∧ (isW x = false → XEw CW H E)
theorem has_neX (F : FnAt K mg "need_word" s_need_word ["text"]) (h_Iw : HasIsWord P w K mg base) (T_BadWord : EC K mg "BadWord" CW fW) (G_BadWord : FnOk P w K mg base CX0 2 fW fdW ["self"] (spEx K (Str.ofString "badword"))) (b_BadWord : Binds K fdW ["self"] []) : HasX P w K mg base 4 "need_word" ["text"] (spNeX CW) := by
  obtain ⟨f, fd, g, F, bb⟩ := F
  refine ⟨f, fd, g, F.kp, bb, ?_⟩
  obtain ⟨f_Iw, fd_Iw, g_Iw, k_Iw, b_Iw, G_Iw⟩ := h_Iw
  refine F.okX sc_need (fun vs H Q E h => ?_) (fun cdv A outer s H vs Q E hr h => ?_)
  · obtain ⟨x, rfl, _⟩ := h
    rfl
  · obtain ⟨x, rfl, hx, q1, q2⟩ := h
    refine ⟨_, (pss_one (ps_if (pt_not (pt_val (pe_call G_Iw (hr.mono (by decide)) (by rfl) g_Iw k_Iw b_Iw .nil pass0 (pa_cons (pv 0) pa_nil)))) (pss_one (ps_raise rfl (takes_of rfl rfl rfl rfl) (pmk_oex0 T_BadWord.ox T_BadWord.iC T_BadWord.tI G_BadWord (hr.mono (by decide)) b_BadWord pass0 (by rfl) T_BadWord.gC))) pss_nil)), ?_⟩
    walk_at "go"
    refine ⟨x, rfl, hx, fun H1 s1 => ?_⟩
    cases e : isW x with
    | true =>
      walk_at "go"
      exact q1 e H1 s1
    | false =>
      walk_at "go"
      exact w_mkO T_BadWord (fun d H' nd hd s' => q2 e d H' (s1.free nd) hd (s1.trans s'))
end
end Sf
namespace Sf
open PySem PySem.Spec PyProof.Rows L2 TL
/-! ### names -/
def lowc (c : Nat) : Bool := decide (97 ≤ c ∧ c ≤ 122)
def abcS : Str := Str.ofString "abcdefghijklmnopqrstuvwxyz"
theorem dec_low {c : Nat} : decide (c ∈ abcS.cps.toList) = lowc c := by
  have e : abcS.cps.toList = (List.range 26).map (· + 97) := by decide +kernel
  rw [e, Bool.eq_iff_iff]
  unfold lowc
  rw [decide_eq_true_eq, decide_eq_true_eq, List.mem_map]
  constructor
  · rintro ⟨i, hi, rfl⟩
    rw [List.mem_range] at hi
    omega
  · exact fun h => ⟨c - 97, List.mem_range.mpr (by omega), by omega⟩
def isN (x : Str) : Bool := decide (1 ≤ x.length) && decide (x.length ≤ 8) && (tl x).all lowc
theorem isN_nm {x : Str} (h : isN x = true) : 1 ≤ x.length ∧ x.length ≤ 8 := by
  unfold isN at h
  rw [Bool.and_eq_true, Bool.and_eq_true, decide_eq_true_eq, decide_eq_true_eq] at h
  exact h.1
section
variable {P : Program} {w : World} {K : PySem.W.Frag} {mg : Str → Option Value} {base : Heap} {CS CN CB CW CT2 CF2 CL2 fN fB fF fT fL : Addr} {fdN fdB fdF fdT fdL : FuncData}
def spIsn : Sp := fun vs H Q _ => ∃ x : Str, vs = [.str x] ∧ x.length ≤ 100000 ∧ ∀ H', Same H H' → Q (.bl (isN x)) H'
theorem sc_isn : FnScope ["text", "letter"] ["text"] (defScope s_is_name) := ⟨rfl, rfl, rfl, by decide +kernel, rfl, by decide +kernel, by decide +kernel⟩
theorem has_isn (F : FnAt K mg "is_name" s_is_name ["text"]) (B : Blt mg) {t1 t2 : Tok} (C_MOST_NAME : mg "MOST_NAME" = some (.int 8 t1)) (C_NAME_LETTERS : mg "NAME_LETTERS" = some (.str (Str.ofString "abcdefghijklmnopqrstuvwxyz") t2)) : Has P w K mg base 1 "is_name" ["text"] spIsn := F.has fun F => by
  refine F.ok sc_isn (fun vs H Q E h => ?_) (fun cdv A outer s H vs Q E hr h => ?_)
  · obtain ⟨x, rfl, _⟩ := h
    rfl
  · obtain ⟨x, rfl, hx, q⟩ := h
    refine ⟨_, (pss_one (ps_ret (pe_and (pe_chain op_le op_le pe_int (pe_callB call_lenS (by rfl) B.len PySem.boot_len (pa_cons (pv 0) pa_nil)) (pe_gI (by rfl) C_MOST_NAME)) (pe_one (pe_callB (cr_all rfl) (by rfl) B.all (by decide +kernel) (pa_cons (pe_lc (own := [("letter", 1)]) (g := gName 1) (tt := tYes) (by rfl) sc_isn.nd (pi_str (pv 0)) (blkOk_by (own := [("letter", 1)]) (N := ["text", "letter"]) (sc := defScope s_is_name) (by decide +kernel)) (fun _ _ _ _ _ => pg_name (i := 1) sc_isn.nd rfl (.inl rfl)) (fun _ _ _ _ _ => pts_nil) (fun _ _ _ _ _ => (pe_cmpR op_inSg (pv 1) (pe_gS (by rfl) C_NAME_LETTERS) rfl))) pa_nil)))))), ?_⟩
    have xl : (tl x).length = x.length := (len_tl x).symm
    have e1 : decide ((1 : Int) ≤ (x.length : Nat)) = decide (1 ≤ x.length) := decide_eq_decide.mpr (by omega)
    have e2 : decide (((x.length : Nat) : Int) ≤ 8) = decide (x.length ≤ 8) := decide_eq_decide.mpr (by omega)
    walk_at "go"
    refine w_lenS (line_of (by omega)) ?_
    walk_at "go"
    unfold isN at q
    refine w_chain2 (fun h1 => ?_) (fun h1 => ?_)
    · rw [decide_eq_true (show 1 ≤ x.length by omega)] at q
      walk_at "go"
      rw [e2]
      cases h2 : decide (x.length ≤ 8) with
      | false =>
        rw [h2] at q
        walk_at "go"
        exact q H (.refl _)
      | true =>
        rw [h2] at q
        walk_at "go"
        refine w_lcS (fun r i H1 => Same H H1 ∧ H r = none ∧ H1 r = some (.lst (((tl x).take i).map fun c => V.bl (lowc c)))) (fun r H1 h1 n1 => ⟨n1.same, n1.nn, h1⟩) ?_ ?_
        · rintro r i c H1 hc ⟨s1, rn, r1⟩
          have hil : i < (tl x).length := (List.getElem?_eq_some_iff.mp hc).1
          walk_at "go"
          rw [show decide (c ∈ (Str.ofString "abcdefghijklmnopqrstuvwxyz").cps.toList) = lowc c from dec_low]
          refine w_kIt r1 (by rw [List.length_map, List.length_take]; exact lineLt_of (by omega)) (fun H2 h2 o2 => ⟨s1.off o2 rn, rn, ?_⟩)
          rw [h2, take_snoc hc, List.map_append]
          rfl
        · rintro r H1 ⟨s1, rn, r1⟩
          rw [List.take_length] at r1
          walk_at "go"
          have r2 : H1 r = some (.lst (((tl x).map lowc).map V.bl)) := by rw [r1, List.map_map]; rfl
          refine w_all r2 ?_
          have e3 : ((tl x).map lowc).all id = (tl x).all lowc := by rw [List.all_map]; rfl
          rw [e3]
          exact q H1 s1
    · rw [decide_eq_false (show ¬ 1 ≤ x.length by omega)] at q
      walk_at "go"
      exact q H (.refl _)
def spNnm (CB : Addr) : Sp := fun vs H Q E => ∃ x : Str, vs = [.str x] ∧ x.length ≤ 100000 ∧ (isN x = true → ∀ H', Same H H' → Q .non H') ∧ (isN x = false → XE0 (Str.ofString "badname") CB H E)
theorem sc_nnmx : FnScope ["text"] ["text"] (defScope s_need_name) := ⟨rfl, rfl, rfl, by decide +kernel, rfl, by decide +kernel, by decide +kernel⟩
theorem has_nnmx (F : FnAt K mg "need_name" s_need_name ["text"]) (h_Isn : Has P w K mg base 1 "is_name" ["text"] spIsn) (T_BadName : EC K mg "BadName" CB fB) (G_BadName : FnOk P w K mg base CX0 2 fB fdB ["self"] (spEx K (Str.ofString "badname"))) (b_BadName : Binds K fdB ["self"] []) : HasX P w K mg base 4 "need_name" ["text"] (spNnm CB) := by
  obtain ⟨f, fd, g, F, bb⟩ := F
  refine ⟨f, fd, g, F.kp, bb, ?_⟩
  obtain ⟨f_Isn, fd_Isn, g_Isn, k_Isn, b_Isn, G_Isn⟩ := h_Isn
  refine F.okX sc_nnmx (fun vs H Q E h => ?_) (fun cdv A outer s H vs Q E hr h => ?_)
  · obtain ⟨x, rfl, _⟩ := h
    rfl
  · obtain ⟨x, rfl, hx, q1, q2⟩ := h
    refine ⟨_, (pss_one (ps_if (pt_not (pt_val (pe_call G_Isn (hr.mono (by decide)) (by rfl) g_Isn k_Isn b_Isn .nil pass0 (pa_cons (pv 0) pa_nil)))) (pss_one (ps_raise rfl (takes_of rfl rfl rfl rfl) (pmk_oex0 T_BadName.ox T_BadName.iC T_BadName.tI G_BadName (hr.mono (by decide)) b_BadName pass0 (by rfl) T_BadName.gC))) pss_nil)), ?_⟩
    walk_at "go"
    refine ⟨x, rfl, hx, fun H1 s1 => ?_⟩
    cases e : isN x with
    | true =>
      walk_at "go"
      exact q1 e H1 s1
    | false =>
      walk_at "go"
      exact w_mkO T_BadName (fun d H' nd hd s' => q2 e d H' (s1.free nd) hd (s1.trans s'))
/-! ### need_words, of a list of two -/
def spNw2 (CW : Addr) : Sp := fun vs H Q E => ∃ (a : Addr) (x y : Str), vs = [.ref a] ∧ H a = some (.lst [.str x, .str y]) ∧ x.length ≤ 100000 ∧ y.length ≤ 100000 ∧ ((isW x && isW y) = true → ∀ H', Same H H' → Q .non H') ∧ ((isW x && isW y) = false → XEw CW H E)
theorem sc_nw2 : FnScope ["texts", "text"] ["texts"] (defScope s_need_words) := ⟨rfl, rfl, rfl, by decide +kernel, rfl, by decide +kernel, by decide +kernel⟩
theorem has_nw2 (F : FnAt K mg "need_words" s_need_words ["texts"]) (h_Ne : HasX P w K mg base 4 "need_word" ["text"] (spNeX CW)) : HasX P w K mg base 5 "need_words" ["texts"] (spNw2 CW) := by
  obtain ⟨f, fd, g, F, bb⟩ := F
  refine ⟨f, fd, g, F.kp, bb, ?_⟩
  obtain ⟨f_Ne, fd_Ne, g_Ne, k_Ne, b_Ne, G_Ne⟩ := h_Ne
  refine F.okX sc_nw2 (fun vs H Q E h => ?_) (fun cdv A outer s H vs Q E hr h => ?_)
  · obtain ⟨a, x, y, rfl, _⟩ := h
    rfl
  · obtain ⟨a, x, y, rfl, ha, lx, ly, q1, q2⟩ := h
    refine ⟨_, (pss_one (ps_for (passes_of rfl) rfl (pi_list (pv 0)) (pg_name (i := 1) sc_nw2.nd rfl (.inl rfl)) (pss_one (ps_expr (pe_call G_Ne (hr.mono (by decide)) (by rfl) g_Ne k_Ne b_Ne .nil (passes_call (takes_of rfl rfl rfl rfl) (fun _ _ _ _ h => h)) (pa_cons (pv 1) pa_nil)))))), ?_⟩
    walk_at "go"
    refine w_list (xs := [V.str x, V.str y]) (fun i σ H2 => ∃ (y1 : Option V), σ = [some (.ref a), y1] ∧ Same H H2 ∧ (1 ≤ i → isW x = true) ∧ (2 ≤ i → isW y = true)) ⟨none, rfl, .refl _, fun z => absurd z (by decide), fun z => absurd z (by decide)⟩ (fun i σ H2 _ ⟨_, _, h, _⟩ => h _ _ ha) ?_ ?_
    · rintro i v σ H2 hv ⟨y1, rfl, s2, i1, i2⟩
      match i, hv with
      | 0, hv =>
        cases hv
        walk_at "go"
        refine ⟨x, rfl, lx, fun e H3 s3 => ?_, fun e => XEw.same (q2 (by rw [e]; rfl)) s2⟩
        walk_at "go"
        exact ⟨_, rfl, s2.trans s3, fun _ => e, fun z => absurd z (by decide)⟩
      | 1, hv =>
        cases hv
        walk_at "go"
        refine ⟨y, rfl, ly, fun e H3 s3 => ?_, fun e => XEw.same (q2 (by rw [e, Bool.and_false])) s2⟩
        walk_at "go"
        exact ⟨_, rfl, s2.trans s3, fun _ => i1 (by decide), fun _ => e⟩
      | j + 2, hv => cases hv
    · rintro σ H2 ⟨y1, rfl, s2, i1, i2⟩
      walk_at "go"
      exact q1 (by rw [i1 (by show 1 ≤ 2; decide), i2 (by show 2 ≤ 2; decide)]; rfl) H2 s2
end
end Sf
namespace Sf
open PySem PySem.Spec PyProof.Rows L2 TL
section
variable {P : Program} {w : World} {K : PySem.W.Frag} {mg : Str → Option Value} {base : Heap} {CS CN CB CW CT CF CL fN fB fF fT fL : Addr} {fdN fdB fdF fdT fdL : FuncData}
/-! ### like -/
def addL (M : StM) (l r : Str) : StM := { M with prs := M.prs ++ [((M.fol : Int), (l, r))], fol := M.fol + 1 }
def spDlk (CS CW CT CF : Addr) : Sp := fun vs H Q E => ∃ (s : Addr) (M : StM) (l r : Str), vs = [.ref s, .str l, .str r] ∧ StAt CS H s M ∧ StOk M ∧ l.length ≤ 100000 ∧ r.length ≤ 100000 ∧
  ((isW l && isW r) = false → XEw CW H E) ∧ ((isW l && isW r) = true → 12 < l.length ∨ 12 < r.length → XE0 (Str.ofString "toolong") CT H E) ∧
  ((isW l && isW r) = true → l.length ≤ 12 → r.length ≤ 12 → 12 ≤ M.prs.length ∨ 999999999 ≤ M.fol → XE0 (Str.ofString "full") CF H E) ∧
  ((isW l && isW r) = true → l.length ≤ 12 → r.length ≤ 12 → M.prs.length < 12 → M.fol < 999999999 → ∀ H', StAt CS H' s (addL M l r) → Fx s H H' → Q (.int (M.fol : Nat)) H')
theorem sc_dlk : FnScope ["stand", "left", "right", "number"] ["stand", "left", "right"] (defScope s_like) := ⟨rfl, rfl, rfl, by decide +kernel, rfl, by decide +kernel, by decide +kernel⟩
theorem has_dlk (F : FnAt K mg "like" s_like ["stand", "left", "right"]) (B : Blt mg) (T_Stand : SDC K mg CS) {t1 t2 t3 : Tok} (C_MOST_SIDE : mg "MOST_SIDE" = some (.int 12 t1)) (C_MOST_LINES : mg "MOST_LINES" = some (.int 12 t2)) (C_LAST_NUMBER : mg "LAST_NUMBER" = some (.int 999999999 t3))
    (h_Nw : HasX P w K mg base 5 "need_words" ["texts"] (spNw2 CW)) (h_SdL : HasM P w K mg base CS 1 "add_line" ["self", "number", "left", "right"] (spSdL CS)) (T_TooLong : EC K mg "TooLong" CT fT) (G_TooLong : FnOk P w K mg base CX0 2 fT fdT ["self"] (spEx K (Str.ofString "toolong"))) (b_TooLong : Binds K fdT ["self"] [])
    (T_Full : EC K mg "Full" CF fF) (G_Full : FnOk P w K mg base CX0 2 fF fdF ["self"] (spEx K (Str.ofString "full"))) (b_Full : Binds K fdF ["self"] []) : HasX P w K mg base 6 "like" ["stand", "left", "right"] (spDlk CS CW CT CF) := by
  obtain ⟨f, fd, g, F, bb⟩ := F
  refine ⟨f, fd, g, F.kp, bb, ?_⟩
  obtain ⟨f_Nw, fd_Nw, g_Nw, k_Nw, b_Nw, G_Nw⟩ := h_Nw
  obtain ⟨f_SdL, fd_SdL, m_SdL, b_SdL, G_SdL⟩ := h_SdL
  refine F.okX sc_dlk (fun vs H Q E h => ?_) (fun cdv A outer s H vs Q E hr h => ?_)
  · obtain ⟨s, M, l, r, rfl, _⟩ := h
    rfl
  · obtain ⟨s, M, l, r, rfl, hS, ok, hl, hr', q1, q2, q3, q4⟩ := h
    refine ⟨_, (pss_cons (ps_expr (pe_call G_Nw (hr.mono (by decide)) (by rfl) g_Nw k_Nw b_Nw .nil (passes_call (takes_of rfl rfl rfl rfl) (fun _ _ _ _ h => h)) (pa_cons (pe_lst (pa_cons (pv 1) (pa_cons (pv 2) pa_nil))) pa_nil))) (pss_cons (ps_if (PW.pt (pw_or (pt_cmpR op_gt (pe_callB call_lenS (by rfl) B.len PySem.boot_len (pa_cons (pv 1) pa_nil)) (pe_gI (by rfl) C_MOST_SIDE) (nomark _)) (pw_or1 (pt_cmpR op_gt (pe_callB call_lenS (by rfl) B.len PySem.boot_len (pa_cons (pv 2) pa_nil)) (pe_gI (by rfl) C_MOST_SIDE) (nomark _))))) (pss_one (ps_raise rfl (takes_of rfl rfl rfl rfl) (pmk_oex0 T_TooLong.ox T_TooLong.iC T_TooLong.tI G_TooLong (hr.mono (by decide)) b_TooLong pass0 (by rfl) T_TooLong.gC))) pss_nil) (pss_cons (ps_if (PW.pt (pw_or (pt_cmpR op_ge (pe_callB call_lenDc (by rfl) B.len PySem.boot_len (pa_cons (pe_fld (pv 0) rfl) pa_nil)) (pe_gI (by rfl) C_MOST_LINES) (nomark _)) (pw_or1 (pt_cmpR op_ge (pe_fld (pv 0) rfl) (pe_gI (by rfl) C_LAST_NUMBER) (nomark _))))) (pss_one (ps_raise rfl (takes_of rfl rfl rfl rfl) (pmk_oex0 T_Full.ox T_Full.iC T_Full.tI G_Full (hr.mono (by decide)) b_Full pass0 (by rfl) T_Full.gC))) pss_nil) (pss_cons (ps_set (i := 3) sc_dlk.nd rfl (.inl rfl) (pe_fld (pv 0) rfl)) (pss_cons (ps_expr (pe_meth (pv 0) T_Stand.cl m_SdL G_SdL (hr.mono (by decide)) b_SdL .nil pass0 (pa_cons (pv 3) (pa_cons (pv 1) (pa_cons (pv 2) pa_nil))))) (pss_cons (ps_fld (pv 0) (pe_op op_add (pv 3) pe_int) rfl) (pss_one (ps_ret (pv 3))))))))), ?_⟩
    walk_at "go"
    refine w_newL (by walk_at "sz") (fun l1 H1 hl1 nl1 => ?_)
    walk_at "go"
    refine ⟨l1, l, r, rfl, hl1, hl, hr', fun ew H2 s2 => ?_, fun e => XEw.same (q1 e) nl1.same⟩
    have s02 : Same H H2 := nl1.same.trans s2
    walk_at "go"
    refine w_lenS (line_of (by omega)) ?_
    walk_at "go"
    refine w_or2 (fun h1 => ?_) (fun h1 => ?_)
    · walk_at "go"
      exact w_mkO T_TooLong (fun d H' nd hd s' => q2 ew (.inl (by omega)) d H' (s02.free nd) hd (s02.trans s'))
    walk_at "go"
    refine w_lenS (line_of (by omega)) ?_
    walk_at "go"
    refine w_if2 (fun h2 => ?_) (fun h2 => ?_)
    · walk_at "go"
      exact w_mkO T_TooLong (fun d H' nd hd s' => q2 ew (.inr (by omega)) d H' (s02.free nd) hd (s02.trans s'))
    walk_at "go"
    obtain ⟨dx, p, t, q0, hs, hd⟩ := hS.same s02
    obtain ⟨kp, hp, hk⟩ := id hd.pr
    have hkl : kp.length = M.prs.length := Paired.length hk
    refine w_kFld hs T_Stand.cl T_Stand.nP lk_p ?_
    walk_at "go"
    rw [hkl]
    refine w_or2 (fun h3 => ?_) (fun h3 => ?_)
    · walk_at "go"
      exact w_mkO T_Full (fun d H' nd hd s' => q3 ew (by omega) (by omega) (.inl (by omega)) d H' (s02.free nd) hd (s02.trans s'))
    walk_at "go"
    refine w_kFld hs T_Stand.cl T_Stand.nF lk_f ?_
    walk_at "go"
    refine w_if2 (fun h4 => ?_) (fun h4 => ?_)
    · walk_at "go"
      exact w_mkO T_Full (fun d H' nd hd s' => q3 ew (by omega) (by omega) (.inr (by omega)) d H' (s02.free nd) hd (s02.trans s'))
    walk_at "go"
    refine w_kFld hs T_Stand.cl T_Stand.nF lk_f ?_
    walk_at "go"
    refine w_kMeth hs (st_no (by decide +kernel) (by decide +kernel) (by decide +kernel) (by decide +kernel)) ?_
    walk_at "go"
    refine ⟨s, M, l, r, rfl, ⟨dx, p, t, q0, hs, hd⟩, ok, fun H3 hS3 f3 => ?_⟩
    obtain ⟨dx3, p3, t3, q3', hs3, hd3⟩ := hS3
    walk_at "go"
    refine w_kSFld hs3 T_Stand.cl T_Stand.nF (by show 4 < 1000; decide) (fun H4 h4' o4 => ?_)
    rw [st_f] at h4'
    walk_at "go"
    have hd4 := hd3.dkt (DkT.off hs3 (fun _ z => nomatch z) (fun _ z => nomatch z) o4)
    refine q4 ew (by omega) (by omega) (by omega) (by omega) H4 ⟨dx3, p3, t3, q3', h4', ⟨hd4.pr, hd4.tx, hd4.pp⟩⟩ (fun b o e n => o4.at n (f3 b o (s02.at e) n))
/-! ### put -/
def putM (M : StM) (n x : Str) : StM := { M with txs := putT M.txs n x }
def spDpt (CS CB CW CF : Addr) : Sp := fun vs H Q E => ∃ (s : Addr) (M : StM) (n x : Str), vs = [.ref s, .str n, .str x] ∧ StAt CS H s M ∧ StOk M ∧ n.length ≤ 100000 ∧ x.length ≤ 100000 ∧
  (isN n = false → XE0 (Str.ofString "badname") CB H E) ∧ (isN n = true → isW x = false → XEw CW H E) ∧ (isN n = true → isW x = true → lkT M.txs n = none → 20 ≤ M.txs.length → XE0 (Str.ofString "full") CF H E) ∧
  (isN n = true → isW x = true → ¬ (lkT M.txs n = none ∧ 20 ≤ M.txs.length) → ∀ H', StAt CS H' s (putM M n x) → Fx s H H' → Q .non H')
theorem sc_dpt : FnScope ["stand", "word_name", "word"] ["stand", "word_name", "word"] (defScope s_put) := ⟨rfl, rfl, rfl, by decide +kernel, rfl, by decide +kernel, by decide +kernel⟩
theorem has_dpt (F : FnAt K mg "put" s_put ["stand", "word_name", "word"]) (B : Blt mg) (T_Stand : SDC K mg CS) {t1 : Tok} (C_MOST_NAMES : mg "MOST_NAMES" = some (.int 20 t1)) (h_Nnm : HasX P w K mg base 4 "need_name" ["text"] (spNnm CB)) (h_Ne : HasX P w K mg base 4 "need_word" ["text"] (spNeX CW))
    (h_SdW : HasM P w K mg base CS 1 "add_text" ["self", "word_name", "word"] (spSdW CS)) (T_Full : EC K mg "Full" CF fF) (G_Full : FnOk P w K mg base CX0 2 fF fdF ["self"] (spEx K (Str.ofString "full"))) (b_Full : Binds K fdF ["self"] []) : HasX P w K mg base 6 "put" ["stand", "word_name", "word"] (spDpt CS CB CW CF) := by
  obtain ⟨f, fd, g, F, bb⟩ := F
  refine ⟨f, fd, g, F.kp, bb, ?_⟩
  obtain ⟨f_Nnm, fd_Nnm, g_Nnm, k_Nnm, b_Nnm, G_Nnm⟩ := h_Nnm
  obtain ⟨f_Ne, fd_Ne, g_Ne, k_Ne, b_Ne, G_Ne⟩ := h_Ne
  obtain ⟨f_SdW, fd_SdW, m_SdW, b_SdW, G_SdW⟩ := h_SdW
  refine F.okX sc_dpt (fun vs H Q E h => ?_) (fun cdv A outer s H vs Q E hr h => ?_)
  · obtain ⟨s, M, n, x, rfl, _⟩ := h
    rfl
  · obtain ⟨s, M, n, x, rfl, hS, ok, hn, hx, q1, q2, q3, q4⟩ := h
    refine ⟨_, (pss_cons (ps_expr (pe_call G_Nnm (hr.mono (by decide)) (by rfl) g_Nnm k_Nnm b_Nnm .nil (passes_call (takes_of rfl rfl rfl rfl) (fun _ _ _ _ h => h)) (pa_cons (pv 1) pa_nil))) (pss_cons (ps_expr (pe_call G_Ne (hr.mono (by decide)) (by rfl) g_Ne k_Ne b_Ne .nil (passes_call (takes_of rfl rfl rfl rfl) (fun _ _ _ _ h => h)) (pa_cons (pv 2) pa_nil))) (pss_cons (ps_if (PW.pt (pw_and (pt_cmp (pc_dnotin (hu_of hr) (pv 1) (pe_fld (pv 0) rfl))) (pw_and1 (pt_cmpR op_ge (pe_callB call_lenDc (by rfl) B.len PySem.boot_len (pa_cons (pe_fld (pv 0) rfl) pa_nil)) (pe_gI (by rfl) C_MOST_NAMES) (nomark _))))) (pss_one (ps_raise rfl (takes_of rfl rfl rfl rfl) (pmk_oex0 T_Full.ox T_Full.iC T_Full.tI G_Full (hr.mono (by decide)) b_Full pass0 (by rfl) T_Full.gC))) pss_nil) (pss_one (ps_expr (pe_meth (pv 0) T_Stand.cl m_SdW G_SdW (hr.mono (by decide)) b_SdW .nil pass0 (pa_cons (pv 1) (pa_cons (pv 2) pa_nil)))))))), ?_⟩
    walk_at "go"
    refine ⟨n, rfl, hn, fun en H1 s1 => ?_, fun e => q1 e⟩
    walk_at "go"
    refine ⟨x, rfl, hx, fun ew H2 s2 => ?_, fun e => XEw.same (q2 en e) s1⟩
    have s02 : Same H H2 := s1.trans s2
    have hS2 := hS.same s02
    obtain ⟨dx, p, t, q0, hs, hd⟩ := id hS2
    have ht := hd.tx
    have tkl : (txK M.txs).length = M.txs.length := List.length_map _
    walk_at "gs"
    refine w_seqJ (fun σ H3 => σ = [some (.ref s), some (.str n), some (.str x)] ∧ H3 = H2 ∧ ¬ (lkT M.txs n = none ∧ 20 ≤ M.txs.length)) ?_ ?_
    · intro NN hJ
      walk_at "go"
      refine w_kFld hs T_Stand.cl T_Stand.nT lk_t ?_
      walk_at "go"
      rw [valV_tx]
      cases e : lkT M.txs n with
      | some y =>
        refine w_andF ?_
        walk_at "go"
        exact hJ _ _ ⟨rfl, rfl, fun z => by rw [e] at z; cases z.1⟩
      | none =>
        refine w_andT ?_
        walk_at "go"
        refine w_kFld hs T_Stand.cl T_Stand.nT lk_t ?_
        walk_at "go"
        rw [tkl]
        refine w_if2 (fun h4 => ?_) (fun h4 => ?_)
        · walk_at "go"
          exact w_mkO T_Full (fun d H' nd hd s' => q3 en ew e (by omega) d H' (s02.free nd) hd (s02.trans s'))
        · walk_at "go"
          exact hJ _ _ ⟨rfl, rfl, fun z => h4 (by omega)⟩
    · rintro σ H3 ⟨rfl, rfl, hno⟩
      walk_at "go"
      refine w_kMeth hs (st_no (by decide +kernel) (by decide +kernel) (by decide +kernel) (by decide +kernel)) ?_
      walk_at "go"
      refine ⟨s, M, n, x, rfl, hS2, ok, fun H4 hS4 f4 => ?_⟩
      walk_at "go"
      exact q4 en ew hno H4 hS4 (fun b o e nb => f4 b o (s02.at e) nb)
/-! ### forget -/
def delT {α : Type} (l : List (Str × α)) (n : Str) : List (Str × α) := l.filter fun e => !decide (e.1 = n)
def delM (M : StM) (n : Str) : StM := { M with txs := delT M.txs n }
theorem memK_one {k g : Key} : memK k [g] = decide (g = k) := by
  unfold memK
  rw [List.any_cons, List.any_nil, Bool.or_false]
theorem delT_K (l : List (Str × Str)) (n : Str) : wthK [.inr n] (txK l) = txK (delT l n) := by
  unfold wthK txK delT
  rw [List.filter_map]
  congr 1
  refine List.filter_congr fun e _ => ?_
  show (!memK (Sum.inr e.1) [Sum.inr n]) = !decide (e.1 = n)
  rw [memK_one]
  congr 1
  exact decide_eq_decide.mpr ⟨fun z => (Sum.inr.inj z).symm, fun z => by rw [z]⟩
def spDfg (CS CN : Addr) : Sp := fun vs H Q E => ∃ (s : Addr) (M : StM) (n : Str), vs = [.ref s, .str n] ∧ StAt CS H s M ∧ StOk M ∧ NmT n ∧
  (lkT M.txs n = none → XE1 (Str.ofString "noname") "name" (.str n) CN H E) ∧ (lkT M.txs n ≠ none → ∀ H', StAt CS H' s (delM M n) → Fx s H H' → Q .non H')
theorem sc_dfg : FnScope ["stand", "word_name"] ["stand", "word_name"] (defScope s_forget) := ⟨rfl, rfl, rfl, by decide +kernel, rfl, by decide +kernel, by decide +kernel⟩
theorem has_dfg (F : FnAt K mg "forget" s_forget ["stand", "word_name"]) (T_Stand : SDC K mg CS) (h_SdX : HasMX P w K mg base CS 4 "text_of" ["self", "word_name"] (spSdX CS CN)) (h_Wth : Has P w K mg base 1 "without" ["things", "gone"] spWth) : HasX P w K mg base 6 "forget" ["stand", "word_name"] (spDfg CS CN) := by
  obtain ⟨f, fd, g, F, bb⟩ := F
  refine ⟨f, fd, g, F.kp, bb, ?_⟩
  obtain ⟨f_Wth, fd_Wth, g_Wth, k_Wth, b_Wth, G_Wth⟩ := h_Wth
  obtain ⟨f_SdX, fd_SdX, m_SdX, b_SdX, G_SdX⟩ := h_SdX
  refine F.okX sc_dfg (fun vs H Q E h => ?_) (fun cdv A outer s H vs Q E hr h => ?_)
  · obtain ⟨s, M, n, rfl, _⟩ := h
    rfl
  · obtain ⟨s, M, n, rfl, hS, ok, hn, q1, q2⟩ := h
    refine ⟨_, (pss_cons (ps_expr (pe_meth (pv 0) T_Stand.cl m_SdX G_SdX (hr.mono (by decide)) b_SdX .nil (passes_call (takes_of rfl rfl rfl rfl) (fun _ _ _ _ h => h)) (pa_cons (pv 1) pa_nil))) (pss_one (ps_fld (pv 0) (pe_call G_Wth (hr.mono (by decide)) (by rfl) g_Wth k_Wth b_Wth .nil pass0 (pa_cons (pe_fld (pv 0) rfl) (pa_cons (pe_lst (pa_cons (pv 1) pa_nil)) pa_nil))) rfl))), ?_⟩
    obtain ⟨dx, p, t, q0, hs, hd⟩ := id hS
    have ht := hd.tx
    have tl := ok.tl
    have tkl : (txK M.txs).length = M.txs.length := List.length_map _
    walk_at "go"
    refine w_kMeth hs (st_no (by decide +kernel) (by decide +kernel) (by decide +kernel) (by decide +kernel)) ?_
    walk_at "go"
    refine ⟨s, M, n, rfl, hS, hn, fun y ey => ?_, fun e => q1 e⟩
    walk_at "go"
    refine w_kFld hs T_Stand.cl T_Stand.nT lk_t ?_
    walk_at "go"
    refine w_newL (by walk_at "sz") (fun l1 H1 hl1 nl1 => ?_)
    walk_at "go"
    refine ⟨t, l1, txK M.txs, [.inr n], rfl, nl1.at ht, ok.tk, by omega, hl1, fun r H2 hr2 nr s2 => ?_⟩
    rw [delT_K] at hr2
    walk_at "go"
    have s02 : Same H H2 := nl1.same.trans s2
    refine w_kSFld (s02.at hs) T_Stand.cl T_Stand.nT (by show 4 < 1000; decide) (fun H3 h3 o3 => ?_)
    rw [st_t] at h3
    walk_at "go"
    have K3 : DkT H2 H3 := DkT.off (s02.at hs) (fun _ z => nomatch z) (fun _ z => nomatch z) o3
    have hd2 := (hd.dkt (.of s02)).dkt K3
    exact q2 (by rw [ey]; exact fun z => nomatch z) H3 ⟨dx, p, r, q0, h3, ⟨hd2.pr, K3.1 _ _ hr2, hd2.pp⟩⟩ (fun b o e nb => o3.at nb (s02.at e))
end
end Sf
namespace Sf
open PySem PySem.Spec PyProof.Rows L2 TL
/-! ### lines and papers, some of them gone -/
theorem paired_filter {α β : Type} {R : α → β → Prop} {f : α → Bool} {g : β → Bool} (h : ∀ a b, R a b → f a = g b) : ∀ {as : List α} {bs : List β}, Paired R as bs → Paired R (as.filter f) (bs.filter g)
  | _, _, .nil => .nil
  | a :: as, b :: bs, .cons r t => by
    rw [List.filter_cons, List.filter_cons, h a b r]
    cases g b with
    | true => exact .cons r (paired_filter h t)
    | false => exact paired_filter h t
def hasN (M : StM) (n : Int) : Bool := M.prs.any fun l => decide (l.1 = n)
def delN (l : List (Int × Clm)) (n : Int) : List (Int × Clm) := l.filter fun e => !decide (e.1 = n)
def usesN (n : Int) (p : PapM) : Bool := p.nums.any fun m => decide (m = n)
def usesL (M : StM) (n : Int) (x : Str) : Bool := match lkT M.pps x with | some p => usesN n p | none => false
def strM (M : StM) (n : Int) : StM := { M with prs := delN M.prs n, pps := M.pps.filter fun e => !usesN n e.2 }
theorem lns_del {H : Hp} {kp : List (Key × V)} {ls : List (Int × Clm)} {n : Int} (h : LnsAt H kp ls) : LnsAt H (wthK [.inl n] kp) (delN ls n) := by
  refine paired_filter (fun a b r => ?_) h
  rw [memK_one, r.1]
  congr 1
  exact decide_eq_decide.mpr ⟨fun z => (Sum.inl.inj z).symm, fun z => by rw [z]⟩
theorem valV_ln {H : Hp} {kp : List (Key × V)} {ls : List (Int × Clm)} {n : Int} (h : LnsAt H kp ls) : (valV kp (.inl n)).isSome = ls.any fun l => decide (l.1 = n) := by
  induction h with
  | nil => rfl
  | cons r t ih =>
    rename_i a b as bs
    obtain ⟨k, v⟩ := a
    have e : k = .inl b.1 := r.1
    subst e
    rw [List.any_cons]
    by_cases z : b.1 = n
    · rw [decide_eq_true z, valV_pos (by rw [z])]
      rfl
    · rw [decide_eq_false z, valV_neg (fun y => z (Sum.inl.inj y)), ih]
      rfl
theorem valV_pp {H : Hp} {kq : List (Key × V)} {ls : List (Str × PapM)} {x : Str} (h : PpsAt H kq ls) : match lkT ls x with | some p => ∃ v, valV kq (.inr x) = some v ∧ PapAt H v p | none => valV kq (.inr x) = none := by
  induction h with
  | nil => exact rfl
  | cons r t ih =>
    rename_i a b as bs
    obtain ⟨k, v⟩ := a
    have e : k = .inr b.1 := r.1
    subst e
    by_cases z : b.1 = x
    · have e1 : lkT (b :: bs) x = some b.2 := by unfold lkT; rw [List.find?_cons, decide_eq_true z]; rfl
      rw [e1]
      exact ⟨v, valV_pos (by rw [z]), r.2⟩
    · have e1 : lkT (b :: bs) x = lkT bs x := by unfold lkT; rw [List.find?_cons, decide_eq_false z]
      rw [e1, valV_neg (fun y => z (Sum.inr.inj y))]
      exact ih
theorem lkT_mem {α : Type} {l : List (Str × α)} {e : Str × α} (nd : (l.map (·.1)).Nodup) (h : e ∈ l) : lkT l e.1 = some e.2 := by
  induction l with
  | nil => cases h
  | cons a l ih =>
    rw [List.map_cons, List.nodup_cons] at nd
    unfold lkT
    rcases List.mem_cons.mp h with rfl | h
    · rw [List.find?_cons, decide_eq_true rfl]
      rfl
    · have ne : ¬ a.1 = e.1 := fun z => nd.1 (by rw [z]; exact List.mem_map.mpr ⟨e, h, rfl⟩)
      rw [List.find?_cons, decide_eq_false ne]
      exact ih nd.2 h
theorem pps_del {H : Hp} {kq : List (Key × V)} {M : StM} {n : Int} {ys : List Str} (nd : (M.pps.map (·.1)).Nodup) (h : PpsAt H kq M.pps) (p : ys.Perm (M.pps.map (·.1))) : PpsAt H (wthK ((ys.filter (usesL M n)).map Sum.inr) kq) (M.pps.filter fun e => !usesN n e.2) := by
  have key : ∀ e ∈ M.pps, memK (.inr e.1) ((ys.filter (usesL M n)).map Sum.inr) = usesN n e.2 := fun e he => by
    rw [Bool.eq_iff_iff, memK_iff, List.mem_map]
    have hu : usesL M n e.1 = usesN n e.2 := by unfold usesL; rw [lkT_mem nd he]
    constructor
    · rintro ⟨y, hy, ey⟩
      obtain rfl := Sum.inr.inj ey
      have := (List.mem_filter.mp hy).2
      rw [hu] at this
      exact this
    · intro hh
      exact ⟨e.1, List.mem_filter.mpr ⟨p.mem_iff.mpr (List.mem_map.mpr ⟨e, he, rfl⟩), by rw [hu]; exact hh⟩, rfl⟩
  have go : ∀ {kq : List (Key × V)} {ls : List (Str × PapM)}, (∀ e ∈ ls, e ∈ M.pps) → PpsAt H kq ls → PpsAt H (wthK ((ys.filter (usesL M n)).map Sum.inr) kq) (ls.filter fun e => !usesN n e.2) := by
    intro kq ls hm h
    induction h with
    | nil => exact .nil
    | cons r t ih =>
      rename_i a b as bs
      have ih := ih (fun e he => hm e (List.mem_cons_of_mem _ he))
      unfold wthK at ih ⊢
      rw [List.filter_cons, List.filter_cons]
      have e1 : memK a.1 ((ys.filter (usesL M n)).map Sum.inr) = usesN n b.2 := by rw [r.1]; exact key b (hm b List.mem_cons_self)
      rw [e1]
      cases usesN n b.2 with
      | true => exact ih
      | false => exact .cons r ih
  exact go (fun e he => he) h
theorem inV_intsH {x : Int} (l : List Int) : inV (.int x) (l.map V.int) = l.any fun m => decide (m = x) := by
  unfold inV
  rw [List.any_map]
  congr 1
section
variable {P : Program} {w : World} {K : PySem.W.Frag} {mg : Str → Option Value} {base : Heap} {CS CN CL fN fL : Addr} {fdN fdL : FuncData}
theorem w_inTI {H : Hp} {Q : VK} {x : Int} {p : Addr} {l : List Int} (h : H p = some (.tup (l.map V.int))) (q : Q (.bl (l.any fun m => decide (m = x))) H) : rIn K false (.int x) (.ref p) H Q := by
  refine ⟨p, _, rfl, .inr (SqT.of h), rfl, ?_, ?_⟩
  · rw [List.all_map]
    exact List.all_eq_true.mpr fun _ _ => rfl
  · show Q (.bl (inV _ _)) H
    rw [inV_intsH]
    exact q
theorem w_sortDA {H : Hp} {Q : VK} {a : Addr} {kvs : List (Key × V)} {ks : List Str} (h : H a = some (.dK kvs)) (e : kvs.map (·.1) = ks.map Sum.inr) (hl : ks.length < 64) (k : ∀ ys p H1, ys.Perm ks → sortedS ys = true → H1 p = some (.lst (ys.map V.str)) → Nw p H H1 → Q (.ref p) H1) : ∃ (a' : Addr) (kvs : List (Key × V)) (ks : List Str), [V.ref a] = [.ref a'] ∧ Rd H a' (.dK kvs) ∧ kvs.map (·.1) = ks.map Sum.inr ∧ ks.length < 64 ∧
    ∀ ys p, ys.Perm ks → sortedS ys = true → H p = none → Q (.ref p) (upd H p (.lst (ys.map V.str))) := ⟨a, kvs, ks, rfl, .inl h, e, hl, fun ys p h1 h2 n => k ys p _ h1 h2 upd_same (.mk' n)⟩
/-! ### paper_of -/
def spSdP (CS CN : Addr) : Sp := fun vs H Q E => ∃ (s : Addr) (M : StM) (x : Str), vs = [.ref s, .str x] ∧ StAt CS H s M ∧ NmT x ∧ (∀ p v, lkT M.pps x = some p → PapAt H v p → Q v H) ∧ (lkT M.pps x = none → XE1 (Str.ofString "noname") "name" (.str x) CN H E)
theorem sc_sdp : FnScope ["self", "label"] ["self", "label"] (defScope s_Stand_paper_of) := ⟨rfl, rfl, rfl, by decide +kernel, rfl, by decide +kernel, by decide +kernel⟩
theorem has_sdp (F : MAt K CS "paper_of" "Stand.paper_of" s_Stand_paper_of ["self", "label"]) (T_Stand : SDC K mg CS) (T_NoName : EL K mg "NoName" CN fN) (nN : PySem.W.findIn K (.ref CN) "name" = some none)
    (G_NoName : FnOk P w K mg base CX0 2 fN fdN ["self", "name"] (spExLS K (Str.ofString "noname") "name")) (b_NoName : Binds K fdN ["self", "name"] []) : HasMX P w K mg base CS 4 "paper_of" ["self", "label"] (spSdP CS CN) := by
  obtain ⟨f, fd, g, F, bb⟩ := F
  refine ⟨f, fd, g, bb, ?_⟩
  refine F.okX sc_sdp (fun vs H Q E h => ?_) (fun cdv A outer s H vs Q E hr h => ?_)
  · obtain ⟨s, M, x, rfl, _⟩ := h
    rfl
  · obtain ⟨s, M, x, rfl, ⟨dx, p, t, q0, hs, hd⟩, hx, q1, q2⟩ := h
    refine ⟨_, (pss_cons (ps_if (pt_cmp (pc_dnotin (hu_of hr) (pv 1) (pe_fld (pv 0) rfl))) (pss_one (ps_raise rfl (takes_of rfl rfl rfl rfl) (pmk_oexL T_NoName.ox T_NoName.iC T_NoName.tI G_NoName (hr.mono (by decide)) b_NoName pass0 (by rfl) T_NoName.gC (pa_cons (pv 1) pa_nil)))) pss_nil) (pss_one (ps_ret (pe_dget (hu_of hr) (pe_fld (pv 0) rfl) (pv 1) (fun _ _ => rfl))))), ?_⟩
    obtain ⟨kq, hq, hk⟩ := hd.pp
    have hv := valV_pp (x := x) hk
    walk_at "go"
    refine w_kFld hs T_Stand.cl T_Stand.nQ lk_q ?_
    walk_at "go"
    cases e : lkT M.pps x with
    | none =>
      rw [e] at hv
      have hv : valV kq (.inr x) = none := hv
      rw [hv]
      refine w_ifT ?_
      walk_at "go"
      refine w_mkOL ?_
      walk_at "go"
      exact w_kMkLS T_NoName nN hx (q2 e)
    | some p =>
      rw [e] at hv
      obtain ⟨v, hv, hp⟩ := hv
      rw [hv]
      refine w_ifF ?_
      walk_at "go"
      refine w_kFld hs T_Stand.cl T_Stand.nQ lk_q ?_
      walk_at "go"
      exact w_kDGetS hq hv (q1 p v e hp)
/-! ### strike -/
def spDst (CS CL : Addr) : Sp := fun vs H Q E => ∃ (s : Addr) (M : StM) (n : Int), vs = [.ref s, .int n] ∧ StAt CS H s M ∧ StOk M ∧ n.natAbs.log2 < 1920 ∧
  (hasN M n = false → XE1 (Str.ofString "noline") "number" (.int n) CL H E) ∧
  (hasN M n = true → ∀ (ys : List Str) (r : Addr) (H' : Hp), ys.Perm (M.pps.map (·.1)) → sortedS ys = true → H' r = some (.lst ((ys.filter (usesL M n)).map V.str)) → H r = none → StAt CS H' s (strM M n) → Fx s H H' → Q (.ref r) H')
theorem sc_dst : FnScope ["stand", "number", "label", "gone"] ["stand", "number"] (defScope s_strike) := ⟨rfl, rfl, rfl, by decide +kernel, rfl, by decide +kernel, by decide +kernel⟩
theorem hasN_up {M : StM} (ok : StOk M) {n : Int} (h : hasN M n = true) : upB (.int n) 999999999 = true := by
  unfold hasN at h
  rw [List.any_eq_true] at h
  obtain ⟨l, hl, e⟩ := h
  rw [decide_eq_true_eq] at e
  obtain ⟨h1, h2, _⟩ := ok.pr l hl
  have := ok.f2
  show (decide (0 ≤ n) && decide (n ≤ 999999999)) = true
  rw [decide_eq_true (by omega), decide_eq_true (by omega)]
  rfl
theorem has_dst (F : FnAt K mg "strike" s_strike ["stand", "number"]) (B : Blt mg) (T_Stand : SDC K mg CS) {t3 : Tok} (C_LAST_NUMBER : mg "LAST_NUMBER" = some (.int 999999999 t3)) (h_Up : HasUp P w K mg base) (h_Wth : Has P w K mg base 1 "without" ["things", "gone"] spWth)
    (T_NoLine : EL K mg "NoLine" CL fL) (nL : PySem.W.findIn K (.ref CL) "number" = some none) (G_NoLine : FnOk P w K mg base CX0 2 fL fdL ["self", "number"] (spExL K (Str.ofString "noline") "number")) (b_NoLine : Binds K fdL ["self", "number"] []) : HasX P w K mg base 6 "strike" ["stand", "number"] (spDst CS CL) := by
  obtain ⟨f, fd, g, F, bb⟩ := F
  refine ⟨f, fd, g, F.kp, bb, ?_⟩
  obtain ⟨f_Up, fd_Up, g_Up, k_Up, b_Up, G_Up⟩ := h_Up
  obtain ⟨f_Wth, fd_Wth, g_Wth, k_Wth, b_Wth, G_Wth⟩ := h_Wth
  refine F.okX sc_dst (fun vs H Q E h => ?_) (fun cdv A outer s H vs Q E hr h => ?_)
  · obtain ⟨s, M, n, rfl, _⟩ := h
    rfl
  · obtain ⟨s, M, n, rfl, hS, ok, hn, q1, q2⟩ := h
    refine ⟨_, (pss_cons (ps_if (PW.pt (pw_or (pt_not (pt_val (pe_call G_Up (hr.mono (by decide)) (by rfl) g_Up k_Up b_Up .nil pass0 (pa_cons (pv 1) (pa_cons (pe_gI (by rfl) C_LAST_NUMBER) pa_nil))))) (pw_or1 (pt_cmp (pc_dnotin (hu_of hr) (pv 1) (pe_fld (pv 0) rfl)))))) (pss_one (ps_raise rfl (takes_of rfl rfl rfl rfl) (pmk_oexL T_NoLine.ox T_NoLine.iC T_NoLine.tI G_NoLine (hr.mono (by decide)) b_NoLine pass0 (by rfl) T_NoLine.gC (pa_cons (pv 1) pa_nil)))) pss_nil) (pss_cons (ps_setLc (i := 3) (own := [("label", 2)]) (g := gName 2) (tt := tTest (tOp (rIn K false) (tVar 1) (tOp (rIxT K) (tDGet (tFld K (tVar 0) "papers") (tVar 2)) (tC (.int 2))))) (by rfl) sc_dst.nd rfl rfl (sw_true rfl rfl rfl (by decide +kernel)) (pi_list (pe_callB (call_sortedD rfl) (by rfl) B.sorted (by decide +kernel) (pa_cons (pe_fld (pv 0) rfl) pa_nil))) (blkOk_by (own := [("label", 2)]) (N := ["stand", "number", "label", "gone"]) (sc := defScope s_strike) (by decide +kernel)) (fun _ _ _ _ _ => pg_name (i := 2) sc_dst.nd rfl (.inl rfl)) (fun _ _ _ _ _ => by exact pts_one (pt_cmpR op_in_seq (pv 1) (pe_ix ix_tup (pe_dget (hu_of hr) (pe_fld (pv 0) rfl) (pv 2) (fun _ _ => rfl)) pe_int (fun _ _ => rfl)) rfl)) (fun _ _ _ _ _ => (pv 2))) (pss_cons (ps_fld (pv 0) (pe_call G_Wth (hr.mono (by decide)) (by rfl) g_Wth k_Wth b_Wth .nil pass0 (pa_cons (pe_fld (pv 0) rfl) (pa_cons (pe_lst (pa_cons (pv 1) pa_nil)) pa_nil))) rfl) (pss_cons (ps_fld (pv 0) (pe_call G_Wth (hr.mono (by decide)) (by rfl) g_Wth k_Wth b_Wth .nil pass0 (pa_cons (pe_fld (pv 0) rfl) (pa_cons (pv 3) pa_nil))) rfl) (pss_one (ps_ret (pv 3))))))), ?_⟩
    obtain ⟨dx, p, t, q0, hs, hd⟩ := id hS
    obtain ⟨kp, hp, hk⟩ := id hd.pr
    obtain ⟨kq, hq, hkq⟩ := id hd.pp
    have hkl : kp.length = M.prs.length := Paired.length hk
    have hql : kq.length = M.pps.length := Paired.length hkq
    have pl := ok.pl
    have ql := ok.ql
    walk_at "gs"
    refine w_seqJ (fun σ H1 => σ = [some (.ref s), some (.int n), none, none] ∧ H1 = H ∧ hasN M n = true) ?_ ?_
    · intro NN hJ
      walk_at "go"
      refine ⟨_, _, rfl, trivial, ?_⟩
      cases eu : upB (.int n) 999999999 with
      | false =>
        have en : hasN M n = false := by
          cases z : hasN M n with
          | false => rfl
          | true => rw [hasN_up ok z] at eu; cases eu
        walk_at "go"
        refine w_mkOL ?_
        walk_at "go"
        exact w_kMkL T_NoLine nL hn (fun d H' nd hd' s' => q1 en d H' nd hd' s')
      | true =>
        walk_at "go"
        refine w_kFld hs T_Stand.cl T_Stand.nP lk_p ?_
        walk_at "go"
        have ev : (valV kp (.inl n)).isSome = hasN M n := valV_ln hk
        rw [ev]
        cases en : hasN M n with
        | false =>
          refine w_ifT ?_
          walk_at "go"
          refine w_mkOL ?_
          walk_at "go"
          exact w_kMkL T_NoLine nL hn (fun d H' nd hd' s' => q1 en d H' nd hd' s')
        | true =>
          refine w_ifF ?_
          walk_at "go"
          exact hJ _ _ ⟨rfl, rfl, en⟩
    · rintro σ H1 ⟨rfl, rfl, en⟩
      walk_at "go"
      refine w_kFld hs T_Stand.cl T_Stand.nQ lk_q ?_
      refine w_sortDA (ks := M.pps.map (·.1)) hq (by rw [ppKeys hkq, List.map_map]; rfl) (by rw [List.length_map]; omega) (fun ys l1 H2 pm so hl1 nl1 => ?_)
      have ysl : ys.length ≤ 12 := by rw [pm.length_eq, List.length_map]; exact ql
      walk_at "go"
      refine w_lcL (xs := ys.map V.str) (fun r i H3 => Same H2 H3 ∧ H2 r = none ∧ H3 r = some (.lst (((ys.take i).filter (usesL M n)).map V.str))) (fun r H3 h3 n3 => ⟨n3.same, n3.nn, h3⟩) (fun r i H3 _ h => h.1.at hl1) ?_ ?_
      · rintro r i v H3 hv ⟨s3, nr, hr3⟩
        rw [List.getElem?_map, Option.map_eq_some_iff] at hv
        obtain ⟨y, hy, rfl⟩ := hv
        have hil : i < ys.length := (List.getElem?_eq_some_iff.mp hy).1
        have ym : y ∈ M.pps.map (·.1) := pm.mem_iff.mp (List.mem_of_getElem? hy)
        obtain ⟨e, he, ey⟩ := List.mem_map.mp ym
        have elk := lkT_mem ok.qn he
        rw [ey] at elk
        have s13 : Same H1 H3 := nl1.same.trans s3
        have hv := valV_pp (x := y) hkq
        rw [elk] at hv
        obtain ⟨v, hv, t1, n1, f1, b1, us, vs, rfl, ht1, hn1, _, _, _, _⟩ := hv
        have ht3 := s13.at ht1
        have hn3 := s13.at hn1
        have hfl : ((ys.take i).filter (usesL M n)).length ≤ 12 := by
          have h1 := List.length_filter_le (usesL M n) (ys.take i)
          rw [List.length_take] at h1
          omega
        walk_at "go"
        refine w_kFld (s13.at hs) T_Stand.cl T_Stand.nQ lk_q ?_
        walk_at "go"
        refine w_kDGetS (s13.at hq) hv ?_
        walk_at "go"
        refine w_inTI hn3 ?_
        have eu : (e.2.nums.any fun m => decide (m = n)) = usesL M n y := by unfold usesL; rw [elk]; rfl
        rw [eu]
        rw [take_snoc hy, List.filter_append, List.filter_cons, List.filter_nil]
        cases eb : usesL M n y with
        | true =>
          walk_at "go"
          refine w_kIt hr3 (by rw [List.length_map]; exact lineLt_of (by omega)) (fun H4 h4 o4 => ⟨s3.off o4 nr, nr, ?_⟩)
          rw [h4, if_pos rfl, List.map_append]
          rfl
        | false =>
          walk_at "go"
          exact ⟨s3, nr, by rw [if_neg (fun z => nomatch z), List.append_nil]; exact hr3⟩
      · rintro r H3 ⟨s3, nr, hr3⟩
        rw [List.length_map, List.take_length] at hr3
        have s13 : Same H1 H3 := nl1.same.trans s3
        have nr1 : H1 r = none := nl1.same.free nr
        walk_at "go"
        refine w_kFld (s13.at hs) T_Stand.cl T_Stand.nP lk_p ?_
        walk_at "go"
        refine w_newL (by walk_at "sz") (fun l2 H4 hl2 nl2 => ?_)
        walk_at "go"
        refine ⟨p, l2, kp, [.inl n], rfl, nl2.at (s13.at hp), ok.kn hk, by omega, hl2, fun r5 H5 hr5 nr5 s5 => ?_⟩
        walk_at "go"
        have s15 : Same H1 H5 := (s13.trans nl2.same).trans s5
        have hs5 := s15.at hs
        refine w_kSFld hs5 T_Stand.cl T_Stand.nP (by show 4 < 1000; decide) (fun H6 h6 o6 => ?_)
        rw [st_p] at h6
        have rs : r ≠ s := fun z => by rw [z, hs] at nr1; cases nr1
        have r5s : r5 ≠ s := fun z => by rw [z, (s13.trans nl2.same).at hs] at nr5; cases nr5
        have hr6 := o6.at rs (s5.at (nl2.at hr3))
        have K6 : DkT H5 H6 := DkT.off hs5 (fun _ z => nomatch z) (fun _ z => nomatch z) o6
        have K16 : DkT H1 H6 := (DkT.of s15).trans K6
        walk_at "go"
        refine w_kFld h6 T_Stand.cl T_Stand.nQ lk_q ?_
        walk_at "go"
        refine ⟨q0, r, kq, (ys.filter (usesL M n)).map Sum.inr, rfl, K16.1 _ _ hq, ok.qk hkq, by omega, by rw [hr6, List.map_map]; rfl, fun r7 H7 hr7 nr7 s7 => ?_⟩
        walk_at "go"
        have h67 := s7.at h6
        refine w_kSFld h67 T_Stand.cl T_Stand.nQ (by show 4 < 1000; decide) (fun H8 h8 o8 => ?_)
        rw [st_q] at h8
        walk_at "go"
        have K8 : DkT H7 H8 := DkT.off h67 (fun _ z => nomatch z) (fun _ z => nomatch z) o8
        have K68 : DkT H6 H8 := (DkT.of s7).trans K8
        have K18 : DkT H1 H8 := K16.trans K68
        refine q2 en ys r H8 pm so (o8.at rs (s7.at hr6)) nr1 ⟨dx, r5, t, r7, h8, ⟨⟨_, K68.1 _ _ (o6.at r5s hr5), (lns_del hk).tps K18.2⟩, K18.1 _ _ hd.tx, ⟨_, K8.1 _ _ hr7, (pps_del ok.qn hkq pm).tps K18.2⟩⟩⟩ (fun b o e nb => o8.at nb (s7.at (o6.at nb (s15.at e))))
end
end Sf
namespace Sf
open PySem PySem.Spec PyProof.Rows L2 TL
section
variable {P : Program} {w : World} {K : PySem.W.Frag} {mg : Str → Option Value} {base : Heap} {CS CN : Addr}
/-! ### unshelve -/
def delP (M : StM) (n : Str) : StM := { M with pps := delT M.pps n }
theorem pps_delN {H : Hp} {kq : List (Key × V)} {ls : List (Str × PapM)} {n : Str} (h : PpsAt H kq ls) : PpsAt H (wthK [.inr n] kq) (delT ls n) := by
  refine paired_filter (fun a b r => ?_) h
  rw [memK_one, r.1]
  congr 1
  exact decide_eq_decide.mpr ⟨fun z => (Sum.inr.inj z).symm, fun z => by rw [z]⟩
def spDun (CS CN : Addr) : Sp := fun vs H Q E => ∃ (s : Addr) (M : StM) (n : Str), vs = [.ref s, .str n] ∧ StAt CS H s M ∧ StOk M ∧ NmT n ∧
  (lkT M.pps n = none → XE1 (Str.ofString "noname") "name" (.str n) CN H E) ∧ (lkT M.pps n ≠ none → ∀ H', StAt CS H' s (delP M n) → Fx s H H' → Q .non H')
theorem sc_dun : FnScope ["stand", "label"] ["stand", "label"] (defScope s_unshelve) := ⟨rfl, rfl, rfl, by decide +kernel, rfl, by decide +kernel, by decide +kernel⟩
theorem has_dun (F : FnAt K mg "unshelve" s_unshelve ["stand", "label"]) (T_Stand : SDC K mg CS) (h_SdP : HasMX P w K mg base CS 4 "paper_of" ["self", "label"] (spSdP CS CN)) (h_Wth : Has P w K mg base 1 "without" ["things", "gone"] spWth) : HasX P w K mg base 6 "unshelve" ["stand", "label"] (spDun CS CN) := by
  obtain ⟨f, fd, g, F, bb⟩ := F
  refine ⟨f, fd, g, F.kp, bb, ?_⟩
  obtain ⟨f_Wth, fd_Wth, g_Wth, k_Wth, b_Wth, G_Wth⟩ := h_Wth
  obtain ⟨f_SdP, fd_SdP, m_SdP, b_SdP, G_SdP⟩ := h_SdP
  refine F.okX sc_dun (fun vs H Q E h => ?_) (fun cdv A outer s H vs Q E hr h => ?_)
  · obtain ⟨s, M, n, rfl, _⟩ := h
    rfl
  · obtain ⟨s, M, n, rfl, hS, ok, hn, q1, q2⟩ := h
    refine ⟨_, (pss_cons (ps_expr (pe_meth (pv 0) T_Stand.cl m_SdP G_SdP (hr.mono (by decide)) b_SdP .nil (passes_call (takes_of rfl rfl rfl rfl) (fun _ _ _ _ h => h)) (pa_cons (pv 1) pa_nil))) (pss_one (ps_fld (pv 0) (pe_call G_Wth (hr.mono (by decide)) (by rfl) g_Wth k_Wth b_Wth .nil pass0 (pa_cons (pe_fld (pv 0) rfl) (pa_cons (pe_lst (pa_cons (pv 1) pa_nil)) pa_nil))) rfl))), ?_⟩
    obtain ⟨dx, p, t, q0, hs, hd⟩ := id hS
    obtain ⟨kq, hq, hkq⟩ := id hd.pp
    have hql : kq.length = M.pps.length := Paired.length hkq
    have ql := ok.ql
    walk_at "go"
    refine w_kMeth hs (st_no (by decide +kernel) (by decide +kernel) (by decide +kernel) (by decide +kernel)) ?_
    walk_at "go"
    refine ⟨s, M, n, rfl, hS, hn, fun y v ey _ => ?_, fun e => q1 e⟩
    walk_at "go"
    refine w_kFld hs T_Stand.cl T_Stand.nQ lk_q ?_
    walk_at "go"
    refine w_newL (by walk_at "sz") (fun l1 H1 hl1 nl1 => ?_)
    walk_at "go"
    refine ⟨q0, l1, kq, [.inr n], rfl, nl1.at hq, ok.qk hkq, by omega, hl1, fun r H2 hr2 nr s2 => ?_⟩
    walk_at "go"
    have s02 : Same H H2 := nl1.same.trans s2
    refine w_kSFld (s02.at hs) T_Stand.cl T_Stand.nQ (by show 4 < 1000; decide) (fun H3 h3 o3 => ?_)
    rw [st_q] at h3
    walk_at "go"
    have K3 : DkT H2 H3 := DkT.off (s02.at hs) (fun _ z => nomatch z) (fun _ z => nomatch z) o3
    have hd2 := (hd.dkt (.of s02)).dkt K3
    exact q2 (by rw [ey]; exact fun z => nomatch z) H3 ⟨dx, p, t, r, h3, ⟨hd2.pr, hd2.tx, ⟨_, K3.1 _ _ hr2, (pps_delN hkq).tps ((Tps.of s02).trans K3.2)⟩⟩⟩ (fun b o e nb => o3.at nb (s02.at e))
end
end Sf
namespace Sf
open PySem PySem.Spec PyProof.Rows L2 TL
/-! ### calls by way of a written dict of defs -/
section
variable {X : Cx} {CX : CXT} {k i : Nat} {f : Addr} {sp : Sp} {E : XK} {x : Str} {e : Expr} {es : List Expr} {t : TA} {p pos : Pos}
/-- one of two readings -/
def tAlt (t1 t2 : TE) : TE := fun σ H Q => t1 σ H Q ∨ t2 σ H Q
theorem pe_alt {e : Expr} {t1 t2 : TE} (h1 : PE X e t1) (h2 : PE X e t2) : PE X e (tAlt t1 t2) := ⟨fun pins s σ H Q I h => h.elim (h1.run pins s σ H Q I) (h2.run pins s σ H Q I)⟩
/-- x(e, .., *y), x a local name that holds a def -/
def tCVS (i : Nat) (f : Addr) (sp : Sp) (E : XK) (t : TA) : TE := fun σ H Q => σ[i]? = some (some (.ref f)) ∧ t σ H fun vs H1 => sp vs H1 Q E
theorem pe_callVS (F : FnR X.prog X.w X.K X.mg X.base CX k f sp) (hr : Room k X.A) (hk : PySem.W.keepIn X.K (.ref f) = true) (hx : Passes CX X E) (hN : X.N[i]? = some x) (hv : Vis X.env.scope x) (ha : PA X (e :: es) t)
    (hd : (x == ("__debug__" : Str)) = false := by decide) (hcd : (x == ("__classdict__" : Str)) = false := by decide) (he : starEach (e :: es) X.env = (false, eval e X.env) :: starEach es X.env := by rfl) (hst : (backTo pos (starEach es X.env)).any (·.1) = true := by rfl) : PE X (.Call (.Name x p) (e :: es) [] pos) (tCVS i f sp E t) :=
  ⟨fun pins s σ H Q I ⟨hs, h⟩ => wpAny_Call_Name_kw (thn ((pe_var (pos := p) hN hv hd hcd).run pins s σ H (fun v H1 => v = .ref f ∧ H1 = H) I ⟨_, hs, rfl, rfl⟩) fun u s1 ⟨v, H1, I1, r1, ev, eH⟩ => by
    subst ev eH
    obtain rfl : u = .ref f := r1
    exact PySem.W.callWith_S2 (h₀ := X.base) I.ok.mod.kin hk (thn (ha.run pos pins s1 σ H1 _ I1 h) fun us s2 ⟨vs, H2, I2, r, q⟩ => ⟨I2.kIn, wpAny_call (run_fnR F hr hx I2 r q)⟩) he hst)⟩
end
theorem HasX.raw {P : Program} {w : World} {K : PySem.W.Frag} {mg : Str → Option Value} {base : Heap} {k : Nat} {f : Addr} {fd : FuncData} {ps : List Str} {sp : Sp} (F : FnOk P w K mg base (L2.CX P w) k f fd ps sp) (hb : Binds K fd ps []) : FnR P w K mg base (L2.CX P w) k f sp :=
  (FnOk.raw F hb .nil).imp fun vs H Q E h => by
    rw [List.append_nil]
    exact h
section
variable {σ : L2.St} {H : Hp} {Q : VK} {K : PySem.W.Frag} {w : World} {mg : Str → Option Value}
theorem w_ixD {p : Addr} {z : Str} {v : V} (h : KDct K w p z v) (q : Q v H) : rIxD K w (.ref p) (.str z) H Q := ⟨p, z, v, rfl, rfl, h, q⟩
theorem cut1H (a : V) (l : List V) : cutV (a :: l) (some 1) none = l := by
  unfold cutV
  have e : HT.sIx (a :: l).length 0 (some 1) = 1 := by
    unfold HT.sIx
    simp
  rw [e]
  show (List.take ((a :: l).length - 1) l) = l
  simp
theorem w_slTH {p : Addr} {a : V} {l : List V} (h : H p = some (.tup (a :: l))) (k : ∀ q H1, H1 q = some (.tup l) → Nw q H H1 → Q (.ref q) H1) : rSlA K (.ref p) (some 1) none H Q := by
  refine ⟨p, _, rfl, SqT.of h, fun z => ?_, fun _ q n => ?_⟩
  · exfalso
    have e := z.1
    unfold HT.sIx at e
    simp at e
  · rw [cut1H]
    exact k q _ upd_same (.mk' n)
theorem w_star {te : TE} {t : TA} {Q : List V → Hp → Prop} (q : te σ H fun x H1 => ∃ p xs, x = V.ref p ∧ (SqT K H1 p xs ∨ SqL K H1 p xs) ∧ t σ H1 fun ys H2 => Q (xs ++ ys) H2) : StX.tStar K te t σ H Q := q
end
theorem HasX.at_ {P : Program} {w : World} {K : PySem.W.Frag} {mg : Str → Option Value} {base : Heap} {k : Nat} {x : Str} {ps : List Str} {sp : Sp} {f : Addr} (h : HasX P w K mg base k x ps sp) (g : mg x = some (.ref f)) : PySem.W.keepIn K (.ref f) = true ∧ FnR P w K mg base (L2.CX P w) k f sp := by
  obtain ⟨f', fd, g', kp, b, F⟩ := h
  have e := g.symm.trans g'
  cases e
  exact ⟨kp, HasX.raw F b⟩
end Sf
namespace Sf
open PySem PySem.Spec PyProof.Rows L2 TL
/-! ### done, shelve aside -/
/-- the written dict DEEDS, and where its defs stand by name -/
structure DDT (K : PySem.W.Frag) (mg : Str → Option Value) (w : World) (p f1 f2 f3 f4 f5 : Addr) : Prop where
  gT : mg "DEEDS" = some (.ref p)
  k1 : KDct K w p "like" (.ref f1)
  k2 : KDct K w p "strike" (.ref f2)
  k3 : KDct K w p "put" (.ref f3)
  k4 : KDct K w p "forget" (.ref f4)
  k5 : KDct K w p "unshelve" (.ref f5)
  y1 : mg "like" = some (.ref f1)
  y2 : mg "strike" = some (.ref f2)
  y3 : mg "put" = some (.ref f3)
  y4 : mg "forget" = some (.ref f4)
  y5 : mg "unshelve" = some (.ref f5)
section
variable {P : Program} {w : World} {K : PySem.W.Frag} {mg : Str → Option Value} {base : Heap} {CS CN CL CW CT CF CB pD f1 f2 f3 f4 f5 : Addr}
/-- what a deed of a word promises -/
def deedS (sL sS sP sF sU : Sp) (z : Str) (Φ : Sp → Prop) : Prop :=
  (z = Str.ofString "like" ∧ Φ sL) ∨ (z = Str.ofString "strike" ∧ Φ sS) ∨ (z = Str.ofString "put" ∧ Φ sP) ∨ (z = Str.ofString "forget" ∧ Φ sF) ∨ (z = Str.ofString "unshelve" ∧ Φ sU)
theorem alt5 {sL sS sP sF sU : Sp} {z : Str} {ta : TA} {E : XK} {Φ : Sp → Prop} (T : DDT K mg w pD f1 f2 f3 f4 f5) (h : deedS sL sS sP sF sU z Φ) : ∃ fz sp, KDct K w pD z (.ref fz) ∧ Φ sp ∧ ∀ (σ : L2.St) (H : Hp) (Q : VK), σ[2]? = some (some (.ref fz)) → (ta σ H fun vs H1 => sp vs H1 Q E) →
    tAlt (tCVS 2 f1 sL E ta) (tAlt (tCVS 2 f2 sS E ta) (tAlt (tCVS 2 f3 sP E ta) (tAlt (tCVS 2 f4 sF E ta) (tCVS 2 f5 sU E ta)))) σ H Q := by
  rcases h with ⟨rfl, h⟩ | ⟨rfl, h⟩ | ⟨rfl, h⟩ | ⟨rfl, h⟩ | ⟨rfl, h⟩
  · exact ⟨f1, sL, T.k1, h, fun σ H Q h1 h2 => .inl ⟨h1, h2⟩⟩
  · exact ⟨f2, sS, T.k2, h, fun σ H Q h1 h2 => .inr (.inl ⟨h1, h2⟩)⟩
  · exact ⟨f3, sP, T.k3, h, fun σ H Q h1 h2 => .inr (.inr (.inl ⟨h1, h2⟩))⟩
  · exact ⟨f4, sF, T.k4, h, fun σ H Q h1 h2 => .inr (.inr (.inr (.inl ⟨h1, h2⟩)))⟩
  · exact ⟨f5, sU, T.k5, h, fun σ H Q h1 h2 => .inr (.inr (.inr (.inr ⟨h1, h2⟩)))⟩
theorem at0D (a : V) (l : List V) : atI (a :: l) 0 = some a := at_of (j := 0) rfl rfl
def spDdn (sL sS sP sF sU : Sp) : Sp := fun vs H Q E => ∃ (s t : Addr) (z : Str) (as : List V), vs = [.ref s, .ref t] ∧ H t = some (.tup (.str z :: as)) ∧ deedS sL sS sP sF sU z fun sp => ∀ H1, Same H H1 → sp (.ref s :: as) H1 Q E
theorem sc_ddn : FnScope ["stand", "deed", "action", "things"] ["stand", "deed"] (defScope s_done) := ⟨rfl, rfl, rfl, by decide +kernel, rfl, by decide +kernel, by decide +kernel⟩
theorem has_ddn {sL sS sP sF sU : Sp} (F : FnAt K mg "done" s_done ["stand", "deed"]) (T_DD : DDT K mg w pD f1 f2 f3 f4 f5)
    (h_Dlk : HasX P w K mg base 6 "like" ["stand", "left", "right"] sL) (h_Dst : HasX P w K mg base 6 "strike" ["stand", "number"] sS) (h_Dpt : HasX P w K mg base 6 "put" ["stand", "word_name", "word"] sP) (h_Dfg : HasX P w K mg base 6 "forget" ["stand", "word_name"] sF) (h_Dun : HasX P w K mg base 6 "unshelve" ["stand", "label"] sU) : HasX P w K mg base 7 "done" ["stand", "deed"] (spDdn sL sS sP sF sU) := by
  obtain ⟨f, fd, g, F, bb⟩ := F
  refine ⟨f, fd, g, F.kp, bb, ?_⟩
  obtain ⟨k_Dlk, R_Dlk⟩ := h_Dlk.at_ T_DD.y1
  obtain ⟨k_Dst, R_Dst⟩ := h_Dst.at_ T_DD.y2
  obtain ⟨k_Dpt, R_Dpt⟩ := h_Dpt.at_ T_DD.y3
  obtain ⟨k_Dfg, R_Dfg⟩ := h_Dfg.at_ T_DD.y4
  obtain ⟨k_Dun, R_Dun⟩ := h_Dun.at_ T_DD.y5
  refine F.okX sc_ddn (fun vs H Q E h => ?_) (fun cdv A outer s H vs Q E hr h => ?_)
  · obtain ⟨s, t, z, as, rfl, _⟩ := h
    rfl
  · obtain ⟨s, t, z, as, rfl, ht, q⟩ := h
    refine ⟨_, (pss_cons (ps_set (i := 2) sc_ddn.nd rfl (.inl rfl) (pe_ix ix_kdict (pe_glob (v := .ref pD) (by rfl) T_DD.gT rfl) (pe_ix ix_tup (pv 1) pe_int (fun _ _ => rfl)) (fun _ _ => rfl))) (pss_cons (ps_set (i := 3) sc_ddn.nd rfl (.inl rfl) (pe_slice sl_tupA (pv 1) (po_some pe_int) po_none)) (pss_one (ps_ret (pe_alt (pe_callVS R_Dlk (hr.mono (by decide)) k_Dlk (passes_call (takes_of rfl rfl rfl rfl) (fun _ _ _ _ h => h)) (i := 2) rfl (.inl rfl) (pa_cons (pv 0) (StX.pa_star (pv 3) pa_nil))) (pe_alt (pe_callVS R_Dst (hr.mono (by decide)) k_Dst (passes_call (takes_of rfl rfl rfl rfl) (fun _ _ _ _ h => h)) (i := 2) rfl (.inl rfl) (pa_cons (pv 0) (StX.pa_star (pv 3) pa_nil))) (pe_alt (pe_callVS R_Dpt (hr.mono (by decide)) k_Dpt (passes_call (takes_of rfl rfl rfl rfl) (fun _ _ _ _ h => h)) (i := 2) rfl (.inl rfl) (pa_cons (pv 0) (StX.pa_star (pv 3) pa_nil))) (pe_alt (pe_callVS R_Dfg (hr.mono (by decide)) k_Dfg (passes_call (takes_of rfl rfl rfl rfl) (fun _ _ _ _ h => h)) (i := 2) rfl (.inl rfl) (pa_cons (pv 0) (StX.pa_star (pv 3) pa_nil))) (pe_callVS R_Dun (hr.mono (by decide)) k_Dun (passes_call (takes_of rfl rfl rfl rfl) (fun _ _ _ _ h => h)) (i := 2) rfl (.inl rfl) (pa_cons (pv 0) (StX.pa_star (pv 3) pa_nil))))))))))), ?_⟩
    obtain ⟨fz, sp, hfz, hq, pick⟩ := alt5 (ta := tCons (tVar 0) (StX.tStar K (tVar 3) tNil)) (E := E) T_DD q
    walk_at "go"
    refine w_ixT ht (at0D _ _) ?_
    refine w_ixD hfz ?_
    walk_at "go"
    refine w_slTH ht (fun q6 H4 hq6 nq6 => ?_)
    walk_at "go"
    refine pick _ _ _ rfl ?_
    walk_at "go"
    refine w_star ?_
    walk_at "go"
    refine ⟨q6, as, rfl, .inl (SqT.of hq6), ?_⟩
    walk_at "go"
    rw [List.append_nil]
    exact hq H4 nq6.same
end
end Sf
namespace Sf
open PySem PySem.Spec PyProof.Rows L2 TL
/-! ### != of dicts of lines, with some answer -/
def PrD (H : Hp) (v : V) : Prop := ∃ c : Clm, PrAt H v c ∧ Wd c.1 ∧ Wd c.2
def dCL (c : Clm) : PyData := .tuple [.str c.1, .str c.2]
theorem dp_cl {K : PySem.W.Frag} {H : Hp} {v : V} {c : Clm} : PrAt H v c → Dp K H v (dCL c)
  | ⟨_, e, h⟩ => by
    rw [e]
    exact .tup (SqT.of h) (.cons (.str _) (.cons (.str _) .nil))
theorem lay_cl {c : Clm} (h1 : Wd c.1) (h2 : Wd c.2) : PyData.canLay0 (dCL c) = true := by
  unfold dCL
  have a1 := strOk_wd h1
  have a2 := strOk_wd h2
  rw [PyData.canLay0, PyData.canLayAll0, a1, PyData.canLayAll0, a2, PyData.canLayAll0]
  rfl
theorem dep_cl (c : Clm) : (dCL c).depth ≤ 60 := by
  unfold dCL
  simp only [PyData.depth, PyData.depthAll]
  decide
theorem valV_mem {k : Key} {v : V} : ∀ {l : List (Key × V)}, valV l k = some v → ∃ e ∈ l, e.2 = v
  | [], h => by cases h
  | e :: l, h => by
    by_cases z : e.1 = k
    · obtain ⟨k', v'⟩ := e
      rw [valV_pos z] at h
      exact ⟨_, List.mem_cons_self, Option.some.inj h⟩
    · obtain ⟨k', v'⟩ := e
      rw [valV_neg z] at h
      obtain ⟨e, he, ee⟩ := valV_mem h
      exact ⟨e, List.mem_cons_of_mem _ he, ee⟩
section
variable {X : Cx} {pins : List (Addr × Obj)} {σ : L2.St} {H : Hp} {s : Shared}
theorem hits_ln (I : Inv X pins σ H s) {A : Around} (hu : A.units + 60 < cLine) {kq : List (Key × V)} {vb : List (Key × Value)} (rb : KV kq vb) (hq : ∀ e ∈ kq, PrD H e.2) : ∀ {kp : List (Key × V)} {va : List (Key × Value)}, KV kp va → (∀ e ∈ kp, PrD H e.2) → ∃ r, PySem.W.KeqHits A s vb va r
  | [], va, ra, _ => by
    have ra' : Paired _ [] va := ra
    cases ra'
    exact ⟨_, .nil⟩
  | (k, x) :: kp, va, ra, hp => by
    have ra' : Paired _ ((k, x) :: kp) va := ra
    cases ra' with
    | @cons _ q _ qs h t =>
      obtain ⟨h1, h2⟩ := h
      obtain ⟨key, v⟩ := q
      have h1' : k = key := h1
      subst h1'
      obtain ⟨r, hr⟩ := hits_ln I hu rb hq (show KV kp qs from t) (fun e he => hp e (List.mem_cons_of_mem _ he))
      have rr := rb.val k
      cases e : valV kq k with
      | none =>
        rw [e] at rr
        exact ⟨_, .miss rr.none_of⟩
      | some x' =>
        rw [e] at rr
        obtain ⟨u, hu', ru⟩ := rr.some_of
        obtain ⟨e', he', ee⟩ := valV_mem e
        obtain ⟨c', p', w1', w2'⟩ := hq e' he'
        rw [ee] at p'
        obtain ⟨c, p, w1, w2⟩ := hp _ List.mem_cons_self
        obtain ⟨as, r1⟩ := Dp.reads I (dCL c) x v (dp_cl p) h2
        obtain ⟨bs, r2⟩ := Dp.reads I (dCL c') x' u (dp_cl p') ru
        have := dep_cl c
        exact ⟨_, .hit hu' (SeqAt.eqAt_reads _ _ A s v u as bs r1 r2 (lay_cl w1 w2) (lay_cl w1' w2') (by omega)) hr⟩
def rNeLn : R2 := fun x y H Q => ∃ (a b : Addr) (kp kq : List (Key × V)), x = .ref a ∧ y = .ref b ∧ H a = some (.dK kp) ∧ (∀ e ∈ kp, PrD H e.2) ∧ H b = some (.dK kq) ∧ (∀ e ∈ kq, PrD H e.2) ∧ ∀ t, Q (.bl t) H
theorem op_neLn (hu : X.A.units + 64 < cLine) : OpR X (compareOp .NotEq) rNeLn := by
  intro pins s σ H x y v u Q I rx ry h
  obtain ⟨a, b, kp, kq, rfl, rfl, ha, hp, hb, hq, q⟩ := h
  obtain rfl : v = Value.ref a := rx
  obtain rfl : u = Value.ref b := ry
  obtain ⟨_, ya, va, ra, da⟩ := dk_of I.hok ha
  obtain ⟨_, yb, vb, rb, db⟩ := dk_of I.hok hb
  obtain ⟨r, hr⟩ := hits_ln I (A := X.A.in1) (by show X.A.units + 1 + 60 < cLine; omega) rb hq ra hp
  exact PySem.W.keq_ne (knd := mixKind X.prog X.w) (r := r) ya yb da db (by omega) (fun _ => hr) ⟨.bl _, H, I, rfl, q _⟩
end
theorem prD_lns {H : Hp} {kp : List (Key × V)} {ls : List (Int × Clm)} (h : LnsAt H kp ls) (hw : ∀ l ∈ ls, Wd l.2.1 ∧ Wd l.2.2) : ∀ e ∈ kp, PrD H e.2 := by
  induction h with
  | nil => exact fun e he => nomatch he
  | cons r t ih =>
    rename_i a b as bs
    intro e he
    rcases List.mem_cons.mp he with rfl | he
    · exact ⟨b.2, r.2, hw b List.mem_cons_self⟩
    · exact ih (fun l hl => hw l (List.mem_cons_of_mem _ hl)) e he
end Sf
namespace Sf
open PySem PySem.Spec PyProof.Rows L2 TL
/-! ### dicts whose keys are rows: tuples of texts, whole numbers and truths -/
abbrev RKy := List V
def nk : V → NestedKey
  | .int i => .num i
  | .bl b => .num (if b = true then 1 else 0)
  | .str x => .text x
  | _ => .none
abbrev nkT (m : RKy) : NestedKey := .tup (m.map nk)
/-- an entry: the key, where its tuple stands, the value -/
abbrev RE := RKy × Addr × V
def REr (p : RE) (q : NestedKey × Addr × Value) : Prop := nkT p.1 = q.1 ∧ p.2.1 = q.2.1 ∧ RelV p.2.2 q.2.2
def RN (P : Program) (w : World) (d : Addr) (xs : List RE) : HO := .ext fun h => xs.length ≤ sizeLine ∧ (d == sysModules) = false ∧ (xs.map fun x => nkT x.1).Nodup ∧ ∃ ys, Paired REr xs ys ∧ ∃ o es ep, h.get? d = some o ∧ o.ExactDict ∧ o.data = .dict es ep ∧ es.toList = ys.map (entryOfKey (nestedKind P w))
/-- what a key may bear -/
inductive NkV : V → Prop
  | int {i : Int} : NkV (.int i)
  | bl {b : Bool} : NkV (.bl b)
  | str {x : Str} : NkV (.str x)
  | non : NkV .non
def RKeys (H : Hp) (xs : List RE) : Prop := ∀ x ∈ xs, H x.2.1 = some (.tup x.1) ∧ ∀ v ∈ x.1, NkV v
theorem RKeys.tps {H H' : Hp} {xs : List RE} (h : RKeys H xs) (t : Tps H H') : RKeys H' xs := fun x hx => ⟨t _ _ (h x hx).1, (h x hx).2⟩
theorem RKeys.snoc {H : Hp} {xs : List RE} (h : RKeys H xs) {m : RKy} {a : Addr} {v : V} (e : H a = some (.tup m)) (hm : ∀ v ∈ m, NkV v) : RKeys H (xs ++ [(m, a, v)]) := fun x hx => by
  rcases List.mem_append.mp hx with hx | hx
  · exact h x hx
  · rw [List.mem_singleton.mp hx]; exact ⟨e, hm⟩
section
variable {P : Program} {w : World} {H : Hp} {h : Heap} {a d : Addr} {m : RKy} {xs : List RE}
theorem rn_ok {H' : Hp} {h' : Heap} {ys : List (NestedKey × Addr × Value)} (hl : xs.length ≤ sizeLine) (hd : (d == sysModules) = false) (hn : (xs.map fun x => nkT x.1).Nodup) (r : Paired REr xs ys) (dd : h'.DictOfH (nestedKind P w) d ys) : ObjOk P w H' h' d (RN P w d xs) := by
  obtain ⟨o, es, ep, h1, h2, h3, h4, _, _⟩ := dd
  refine ⟨⟨hl, hd, hn, ys, r, o, es, ep, h1, h2, h3, h4⟩, ⟨o, h1⟩, fun g1 g2 ⟨a1, a2, a3, zs, a4, o', es', ep', b1, b2, b3, b4⟩ st => ⟨a1, a2, a3, zs, a4, o', es', ep', st _ b1, b2, b3, b4⟩⟩
end
/-! the rules -/
section
variable {X : Cx} {pins : List (Addr × Obj)} {σ : L2.St} {H : Hp} {s : Shared} {d b : Addr} {m : RKy} {xs : List RE} {A : Around} {E : Value → Shared → Prop}
end
section
variable {X : Cx} {o i value k v : Expr} {td ty tv tk : TE} {pos pos' : Pos}
theorem rn_new {P : Program} {w : World} {H : Hp} (h : Heap) (hb : sysModules < h.objs.size) : ObjOk P w H (h.push { cls := .type "dict", data := .dict #[] }) h.objs.size (RN P w h.objs.size []) :=
  rn_ok (Nat.zero_le _) (beq_eq_false_iff_ne.mpr (Ne.symm (Nat.ne_of_lt hb))) List.nodup_nil .nil (Heap.DictOfH.new h)
/-! {} -/
def tRNew (P : Program) (w : World) : TE := fun _ H Q => ∀ p, H p = none → Q (.ref p) (upd H p (RN P w p []))
theorem pe_rnew : PE X (.Dict [] [] pos) (tRNew X.prog X.w) := ⟨fun pins s σ H Q I h =>
  wpAny_Dict_empty ⟨.ref s.heap.objs.size, _, I.laid (a := s.heap.objs.size) (o := RN X.prog X.w s.heap.objs.size []) (t' := s.toks) (fun _ _ q => Heap.get?_push_of_some _ q) (Nat.le_refl _) (rn_new s.heap I.big), rfl, h _ (I.hok.fresh (Nat.le_refl _))⟩⟩
end
section
variable {σ : L2.St} {H : Hp} {Q : VK} {P : Program} {w : World} {d b : Addr} {xs : List RE} {m : RKy}
theorem w_rnew (k : ∀ p H1, H1 p = some (RN P w p []) → Nw p H H1 → Q (.ref p) H1) : tRNew P w σ H Q := fun _ n => k _ _ upd_same (.mk' n)
end
end Sf
namespace Sf
open PySem PySem.Spec PyProof.Rows L2 TL
/-! ### an empty dict, seen with keys of another kind -/
section
variable {X : Cx} {pins : List (Addr × Obj)} {σ : L2.St} {H : Hp} {s : Shared} {a d : Addr} {ob : HO} {e : Expr} {t : TE}
end
section
variable {σ : L2.St} {H : Hp} {Q : VK} {P : Program} {w : World} {d : Addr} {t : TE}
end
end Sf
namespace Sf
open PySem PySem.Spec PyProof.Rows L2 TL
/-! ### halls: what they hold -/
def hlf (s b a k : Addr) (c : Int) : List (Str × V) := [("stand", .ref s), ("behind", .ref b), ("ahead", .ref a), ("kept", .ref k), ("counted", .int c)]
section
variable {s s' b b' a a' k k' : Addr} {c c' : Int}
theorem hl_new : putF "counted" (V.int c) (putF "kept" (V.ref k) (putF "ahead" (V.ref a) (putF "behind" (V.ref b) (putF "stand" (V.ref s) [])))) = hlf s b a k c := by
  show putF "counted" _ (putF "kept" _ (putF "ahead" _ (putF "behind" _ [("stand", V.ref s)]))) = _
  rw [putF_ne (f := "behind") (by decide +kernel)]
  show putF "counted" _ (putF "kept" _ (putF "ahead" _ [("stand", V.ref s), ("behind", V.ref b)])) = _
  rw [putF_ne (f := "ahead") (by decide +kernel), putF_ne (f := "ahead") (by decide +kernel)]
  show putF "counted" _ (putF "kept" _ [("stand", V.ref s), ("behind", V.ref b), ("ahead", V.ref a)]) = _
  rw [putF_ne (f := "kept") (by decide +kernel), putF_ne (f := "kept") (by decide +kernel), putF_ne (f := "kept") (by decide +kernel)]
  show putF "counted" _ [("stand", V.ref s), ("behind", V.ref b), ("ahead", V.ref a), ("kept", V.ref k)] = _
  rw [putF_ne (f := "counted") (by decide +kernel), putF_ne (f := "counted") (by decide +kernel), putF_ne (f := "counted") (by decide +kernel), putF_ne (f := "counted") (by decide +kernel)]
  rfl
theorem hl_s : putF "stand" (V.ref s') (hlf s b a k c) = hlf s' b a k c := putF_eq
theorem hl_a : putF "ahead" (V.ref a') (hlf s b a k c) = hlf s b a' k c := by
  unfold hlf
  rw [putF_ne (by decide +kernel), putF_ne (by decide +kernel), putF_eq]
theorem hl_k : putF "kept" (V.ref k') (hlf s b a k c) = hlf s b a k' c := by
  unfold hlf
  rw [putF_ne (by decide +kernel), putF_ne (by decide +kernel), putF_ne (by decide +kernel), putF_eq]
theorem hk_s : (hlf s b a k c).lookup ("stand" : Str) = some (.ref s) := lk_cons_eq
theorem hk_b : (hlf s b a k c).lookup ("behind" : Str) = some (.ref b) := by
  unfold hlf
  rw [lk_cons_ne (by decide +kernel), lk_cons_eq]
theorem hk_no {x : Str} (h1 : ¬ x = "stand") (h2 : ¬ x = "behind") (h3 : ¬ x = "ahead") (h4 : ¬ x = "kept") (h5 : ¬ x = "counted") : (hlf s b a k c).lookup x = none := by
  unfold hlf
  rw [lk_cons_ne h1, lk_cons_ne h2, lk_cons_ne h3, lk_cons_ne h4, lk_cons_ne h5]
  rfl
end
structure HLC (K : PySem.W.Frag) (mg : Str → Option Value) (C : Addr) : Prop where
  cl : Cls K C
  nS : PySem.W.findIn K (.ref C) "stand" = some none
  nB : PySem.W.findIn K (.ref C) "behind" = some none
  nA : PySem.W.findIn K (.ref C) "ahead" = some none
  nK : PySem.W.findIn K (.ref C) "kept" = some none
  nC : PySem.W.findIn K (.ref C) "counted" = some none
  mgC : mg "Hall" = some (.ref C)
/-- where the parts of a hall stand -/
structure HA where
  st : Addr
  bh : Addr
  ah : Addr
  kp : Addr
/-- a hall with a stand, so many deeds behind it at most, no web kept -/
structure HallAt (P : Program) (w : World) (CH CS : Addr) (H : Hp) (h : Addr) (A : HA) (M : StM) (N : Nat) : Prop where
  ob : ∃ dx, H h = some (.ins CH dx (hlf A.st A.bh A.ah A.kp 0))
  st : StAt CS H A.st M
  ok : StOk M
  bh : ∃ us, H A.bh = some (.lst us) ∧ us.length ≤ N
  ah : ∃ us, H A.ah = some (.lst us) ∧ us.length ≤ N
  kp : H A.kp = some (RN P w A.kp [])
/-- all stands but the hall's own object and its list of stands behind -/
def HFx (h b : Addr) (H H' : Hp) : Prop := ∀ a o, H a = some o → a ≠ h → a ≠ b → H' a = some o
section
variable {P : Program} {w : World} {CH CS h b : Addr} {H H1 H2 : Hp} {A A' : HA} {M : StM} {N N' : Nat}
theorem HFx.of (s : Same H H1) : HFx h b H H1 := fun _ _ e _ _ => s.at e
theorem HFx.trans (f : HFx h b H H1) (g : HFx h b H1 H2) : HFx h b H H2 := fun a o e n1 n2 => g a o (f a o e n1 n2) n1 n2
theorem HFx.same (f : HFx h b H H1) (s : Same H1 H2) : HFx h b H H2 := fun a o e n1 n2 => s.at (f a o e n1 n2)
theorem HallAt.same (W : HallAt P w CH CS H h A M N) (s : Same H H1) : HallAt P w CH CS H1 h A M N := by
  obtain ⟨dx, h1⟩ := W.ob
  obtain ⟨us, h2, h3⟩ := W.bh
  obtain ⟨vs, h4, h5⟩ := W.ah
  exact ⟨⟨dx, s.at h1⟩, W.st.same s, W.ok, ⟨us, s.at h2, h3⟩, ⟨vs, s.at h4, h5⟩, s.at W.kp⟩
theorem HallAt.mono (W : HallAt P w CH CS H h A M N) (hn : N ≤ N') : HallAt P w CH CS H h A M N' := by
  obtain ⟨us, h2, h3⟩ := W.bh
  obtain ⟨vs, h4, h5⟩ := W.ah
  exact ⟨W.ob, W.st, W.ok, ⟨us, h2, by omega⟩, ⟨vs, h4, by omega⟩, W.kp⟩
/-- what stands of a hall where one list changes that isn't the hall's -/
theorem HallAt.fxl {p : Addr} {us : List V} (W : HallAt P w CH CS H h A M N) (hp : H p = some (.lst us)) (n1 : p ≠ A.bh) (n2 : p ≠ A.ah) (f : Fx p H H1) : HallAt P w CH CS H1 h A M N := by
  obtain ⟨dx, h1⟩ := W.ob
  obtain ⟨vs, h2, h3⟩ := W.bh
  obtain ⟨ws, h4, h5⟩ := W.ah
  have ne : ∀ {c : Addr} {o : HO}, H c = some o → (∀ l, o ≠ .lst l) → c ≠ p := fun e n z => n us (by rw [z, hp] at e; exact (Option.some.inj e).symm)
  have k : DkT H H1 := ⟨fun a kvs e => f.at (ne e fun _ z => nomatch z) e, fun a xs e => f.at (ne e fun _ z => nomatch z) e⟩
  refine ⟨⟨dx, f.at (ne h1 fun _ z => nomatch z) h1⟩, ?_, W.ok, ⟨vs, f.at n1.symm h2, h3⟩, ⟨ws, f.at n2.symm h4, h5⟩, f.at (ne W.kp fun _ z => nomatch z) W.kp⟩
  obtain ⟨dy, p', t, q, g1, g2⟩ := W.st
  exact ⟨dy, p', t, q, f.at (ne g1 fun _ z => nomatch z) g1, g2.dkt k⟩
theorem HallAt.bag {l : Addr} (W : HallAt P w CH CS H h A M N) (hB : Bag H b l) (n1 : b ≠ A.bh) (n2 : b ≠ A.ah) (f : Fx b H H1) : HallAt P w CH CS H1 h A M N := by
  obtain ⟨ns, k, z, r, hB⟩ := hB
  exact W.fxl hB.hb n1 n2 f
theorem emp_ok : StOk emp := ⟨.nil, (fun l h => nomatch h), by decide, by decide, by decide, .nil, (fun l h => nomatch h), by decide, .nil, by decide⟩
end
end Sf
namespace Sf
open PySem PySem.Spec PyProof.Rows L2 TL
section
variable {P : Program} {w : World} {K : PySem.W.Frag} {mg : Str → Option Value} {base : Heap} {CH CS : Addr}
/-! ### Hall.__init__ -/
/-- new parts -/
structure NewH (H : Hp) (A : HA) : Prop where
  st : H A.st = none
  bh : H A.bh = none
  ah : H A.ah = none
  kp : H A.kp = none
  ne : A.bh ≠ A.ah
def spHlI (P : Program) (w : World) (CH CS : Addr) : Sp := fun vs H Q _ => ∃ (h dx : Addr), vs = [.ref h] ∧ H h = some (.ins CH dx []) ∧ ∀ (A : HA) (H' : Hp), HallAt P w CH CS H' h A emp 0 → NewH H A → (∀ b o, H b = some o → b ≠ h → H' b = some o) → Q .non H'
theorem sc_hli : FnScope ["self"] ["self"] (defScope s_Hall___init__) := ⟨rfl, rfl, rfl, by decide +kernel, rfl, by decide +kernel, by decide +kernel⟩
theorem has_hli (F : MAt K CH "__init__" "Hall.__init__" s_Hall___init__ ["self"]) (T_Hall : HLC K mg CH) (T_Stand : SDC K mg CS) (mkS : PySem.W.makesIn K CS = true) (kcS : PySem.W.keepIn K (.ref CS) = true) (h_SdI : HasM P w K mg base CS 1 "__init__" ["self"] (spSdI CS)) : HasM P w K mg base CH 3 "__init__" ["self"] (spHlI P w CH CS) := F.has fun F => by
  obtain ⟨f_SdI, fd_SdI, m_SdI, b_SdI, G_SdI⟩ := h_SdI
  have M_SdI : Mk K CS f_SdI := ⟨mkS, m_SdI.at_, m_SdI.fn, kcS⟩
  have g_Stand := T_Stand.mgC
  refine F.ok sc_hli (fun vs H Q E h => ?_) (fun cdv A outer s H vs Q E hr h => ?_)
  · obtain ⟨h, dx, rfl, _⟩ := h
    rfl
  · obtain ⟨h, dx, rfl, hh, q⟩ := h
    refine ⟨_, (pss_cons (ps_fld (pv 0) (pe_make0 M_SdI G_SdI (hr.mono (by decide)) (by rfl) g_Stand b_SdI .nil pass0) rfl) (pss_cons (ps_fld (pv 0) (pe_lst pa_nil) rfl) (pss_cons (ps_fld (pv 0) (pe_lst pa_nil) rfl) (pss_cons (ps_fld (pv 0) pe_rnew rfl) (pss_one (ps_fld (pv 0) pe_int rfl)))))), ?_⟩
    walk_at "go"
    refine w_mkStand (fun s ds p t q0 H1 ns hs hd s1 => ?_)
    walk_at "go"
    refine w_kSFld (s1.at hh) T_Hall.cl T_Hall.nS (by decide) (fun H2 h2 o2 => ?_)
    walk_at "go"
    refine w_newL (by walk_at "sz") (fun b H3 hb nb => ?_)
    walk_at "go"
    refine w_kSFld (nb.at h2) T_Hall.cl T_Hall.nB (by show 1 < 1000; decide) (fun H4 h4 o4 => ?_)
    walk_at "go"
    refine w_newL (by walk_at "sz") (fun a H5 ha na => ?_)
    walk_at "go"
    refine w_kSFld (na.at h4) T_Hall.cl T_Hall.nA (by rw [show (putF "behind" (V.ref b) (putF "stand" (V.ref s) []) : List (Str × V)).length = 2 from rfl]; decide) (fun H6 h6 o6 => ?_)
    walk_at "go"
    refine w_rnew (fun k H7 hk nk => ?_)
    walk_at "go"
    refine w_kSFld (nk.at h6) T_Hall.cl T_Hall.nK (by rw [show (putF "ahead" (V.ref a) (putF "behind" (V.ref b) (putF "stand" (V.ref s) [])) : List (Str × V)).length = 3 from rfl]; decide) (fun H8 h8 o8 => ?_)
    walk_at "go"
    refine w_kSFld h8 T_Hall.cl T_Hall.nC (by rw [show (putF "kept" (V.ref k) (putF "ahead" (V.ref a) (putF "behind" (V.ref b) (putF "stand" (V.ref s) []))) : List (Str × V)).length = 4 from rfl]; decide) (fun H9 h9 o9 => ?_)
    walk_at "go"
    rw [hl_new] at h9
    have sh : s ≠ h := fun z => by rw [z, hh] at ns; cases ns
    have bh : b ≠ h := (nb.ne h2).symm
    have ah : a ≠ h := (na.ne h4).symm
    have kh : k ≠ h := (nk.ne h6).symm
    have o19 : ∀ c o, H1 c = some o → c ≠ h → H9 c = some o := fun c o e n => o9.at n (o8.at n (nk.at (o6.at n (na.at (o4.at n (nb.at (o2.at n e)))))))
    have K19 : DkT H1 H9 := ⟨fun c kvs e => o19 c _ e (ne_of e (s1.at hh) (by intro z; cases z)), fun c xs e => o19 c _ e (ne_of e (s1.at hh) (by intro z; cases z))⟩
    refine q ⟨s, b, a, k⟩ H9 ⟨⟨dx, h9⟩, ⟨ds, p, t, q0, o19 s _ hs sh, hd.dkt K19⟩, emp_ok, ⟨[], o9.at bh (o8.at bh (nk.at (o6.at bh (na.at (o4.at bh hb))))), Nat.le_refl _⟩, ⟨[], o9.at ah (o8.at ah (nk.at (o6.at ah ha))), Nat.le_refl _⟩, o9.at kh (o8.at kh hk)⟩ ⟨ns, ?_, ?_, ?_, na.ne (o4.at bh hb)⟩ (fun c o e n => o19 c o (s1.at e) n)
    · cases z : H b with
      | none => rfl
      | some o => have := nb.nn; rw [o2.at bh (s1.at z)] at this; cases this
    · cases z : H a with
      | none => rfl
      | some o => have := na.nn; rw [o4.at ah (nb.at (o2.at ah (s1.at z)))] at this; cases this
    · cases z : H k with
      | none => rfl
      | some o => have := nk.nn; rw [o6.at kh (na.at (o4.at kh (nb.at (o2.at kh (s1.at z)))))] at this; cases this
theorem w_mkHall {H : Hp} {Q : VK} {E : XK} (k : ∀ (h : Addr) (A : HA) (H' : Hp), H h = none → HallAt P w CH CS H' h A emp 0 → NewH H A → Same H H' → Q (.ref h) H') : kMake CH (spHlI P w CH CS) [] E Q [] H := fun x dx nx ndx hne => by
  have sm : Same H (upd (upd H dx (.own x)) x (.ins CH dx [])) := (same_upd ndx).trans (same_upd (by rw [upd_ne hne.symm]; exact nx))
  exact ⟨x, dx, rfl, upd_same, fun A H' h1 n h3 => ⟨rfl, k x A H' nx h1 ⟨sm.free n.st, sm.free n.bh, sm.free n.ah, sm.free n.kp, n.ne⟩ fun c o e => h3 c o (sm _ _ e) (ne_of_none e nx)⟩⟩
/-! ### Hall.stand_by -/
def spHsb (P : Program) (w : World) (CH CS : Addr) : Sp := fun vs H Q _ => ∃ (h st : Addr) (A : HA) (M M' : StM) (N : Nat), vs = [.ref h, .ref st] ∧ HallAt P w CH CS H h A M N ∧ StAt CS H st M' ∧ StOk M' ∧
  ∀ (k : Addr) (H' : Hp), HallAt P w CH CS H' h ⟨st, A.bh, A.ah, k⟩ M' N → (k = A.kp ∨ H k = none) → (∀ a o, H a = some o → a ≠ h → H' a = some o) → Q .non H'
theorem sc_hsb : FnScope ["self", "stand"] ["self", "stand"] (defScope s_Hall_stand_by) := ⟨rfl, rfl, rfl, by decide +kernel, rfl, by decide +kernel, by decide +kernel⟩
theorem HallAt.prw {H : Hp} {M : StM} (ok : StOk M) : ∀ l ∈ M.prs, Wd l.2.1 ∧ Wd l.2.2 := fun l hl => by
  obtain ⟨_, _, h1, h2, _⟩ := ok.pr l hl
  exact ⟨h1, h2⟩
theorem has_hsb (F : MAt K CH "stand_by" "Hall.stand_by" s_Hall_stand_by ["self", "stand"]) (T_Hall : HLC K mg CH) (T_Stand : SDC K mg CS) : HasM P w K mg base CH 1 "stand_by" ["self", "stand"] (spHsb P w CH CS) := F.has fun F => by
  refine F.ok sc_hsb (fun vs H Q E h => ?_) (fun cdv A outer s H vs Q E hr h => ?_)
  · obtain ⟨h, st, A, M, M', N, rfl, _⟩ := h
    rfl
  · obtain ⟨h, st, B, M, M', N, rfl, hH, hS, ok, q⟩ := h
    refine ⟨_, (pss_cons (ps_if (pt_cmpR (op_neLn hr.units) (pe_fld (pv 1) rfl) (pe_fld (pe_fld (pv 0) rfl) rfl) (nomark _)) (pss_one (ps_fld (pv 0) pe_rnew rfl)) pss_nil) (pss_one (ps_fld (pv 0) (pv 1) rfl))), ?_⟩
    obtain ⟨dx, hh⟩ := hH.ob
    obtain ⟨dy, p, t, q0, hs, hd⟩ := hH.st
    obtain ⟨dz, p', t', q0', hs', hd'⟩ := id hS
    obtain ⟨kp, hp, hk⟩ := hd.pr
    obtain ⟨kp', hp', hk'⟩ := hd'.pr
    have fin : ∀ (k : Addr) (H1 H2 : Hp) (dx : Addr), Same H H1 → H1 h = some (.ins CH dx (hlf B.st B.bh B.ah B.kp 0)) → H1 k = some (RN P w k []) → (k = B.kp ∨ H k = none) → H2 h = some (.ins CH dx (hlf st B.bh B.ah k 0)) → (∀ a o, H1 a = some o → a ≠ h → H2 a = some o) → Q .non H2 := fun k H1 H2 dx s1 e1 ek nk e2 f => by
      have ne : ∀ {c : Addr} {o : HO}, H1 c = some o → (∀ C d l, o ≠ .ins C d l) → c ≠ h := fun e n z => n _ _ _ (by rw [z, e1] at e; exact (Option.some.inj e).symm)
      obtain ⟨us, g2, g3⟩ := hH.bh
      obtain ⟨vs, g4, g5⟩ := hH.ah
      have K12 : DkT H1 H2 := ⟨fun c kvs e => f c _ e (ne e fun _ _ _ z => nomatch z), fun c xs e => f c _ e (ne e fun _ _ _ z => nomatch z)⟩
      have sth : st ≠ h := fun z => by
        rw [z, hh] at hs'
        have := HO.ins.inj (Option.some.inj hs')
        have h2 := congrArg List.length this.2.2
        cases h2
      refine q k H2 ⟨⟨dx, e2⟩, ⟨dz, p', t', q0', f st _ (s1.at hs') sth, (hd'.dkt (.of s1)).dkt K12⟩, ok, ⟨us, f _ _ (s1.at g2) (ne (s1.at g2) fun _ _ _ z => nomatch z), g3⟩, ⟨vs, f _ _ (s1.at g4) (ne (s1.at g4) fun _ _ _ z => nomatch z), g5⟩, f _ _ ek (ne ek fun _ _ _ z => nomatch z)⟩ nk (fun a o e n => f a o (s1.at e) n)
    walk_at "go"
    refine w_kFld hs' T_Stand.cl T_Stand.nP lk_p ?_
    walk_at "go"
    refine w_kFld hh T_Hall.cl T_Hall.nS hk_s ?_
    walk_at "go"
    refine w_kFld hs T_Stand.cl T_Stand.nP lk_p ?_
    walk_at "go"
    refine ⟨p', p, kp', kp, rfl, rfl, hp', prD_lns hk' (HallAt.prw (H := H) ok), hp, prD_lns hk (HallAt.prw (H := H) hH.ok), fun tr => ?_⟩
    cases tr with
    | false =>
      walk_at "go"
      refine w_kSFld hh T_Hall.cl T_Hall.nS (by show 5 < 1000; decide) (fun H2 h2 o2 => ?_)
      rw [hl_s] at h2
      walk_at "go"
      exact fin B.kp H H2 dx (.refl _) hh hH.kp (.inl rfl) h2 (fun a o e n => o2.at n e)
    | true =>
      walk_at "go"
      refine w_rnew (fun k H1 hk1 nk => ?_)
      walk_at "go"
      refine w_kSFld (nk.at hh) T_Hall.cl T_Hall.nK (by show 5 < 1000; decide) (fun H2 h2 o2 => ?_)
      rw [hl_k] at h2
      walk_at "go"
      refine w_kSFld h2 T_Hall.cl T_Hall.nS (by show 5 < 1000; decide) (fun H3 h3 o3 => ?_)
      rw [hl_s] at h3
      walk_at "go"
      exact fin k H1 H3 dx nk.same (nk.at hh) hk1 (.inr nk.nn) h3 (fun a o e n => o3.at n (o2.at n e))
end
end Sf
namespace Sf
open PySem PySem.Spec PyProof.Rows L2 TL
section
variable {P : Program} {w : World} {K : PySem.W.Frag} {mg : Str → Option Value} {base : Heap} {CH CS : Addr}
/-! ### Hall.settle -/
theorem StAt.offl {H H1 : Hp} {s p : Addr} {M : StM} {us : List V} (h : StAt CS H s M) (hp : H p = some (.lst us)) (o : Of p H H1) : StAt CS H1 s M := by
  obtain ⟨dx, p', t, q, h1, h2⟩ := h
  exact ⟨dx, p', t, q, o.at (ne_of h1 hp (by intro z; cases z)) h1, h2.dkt (DkT.off hp (fun _ z => nomatch z) (fun _ z => nomatch z) o)⟩
theorem StAt.offi {H H1 : Hp} {s p C d : Addr} {M : StM} {l : List (Str × V)} (h : StAt CS H s M) (hp : H p = some (.ins C d l)) (n : s ≠ p) (o : Of p H H1) : StAt CS H1 s M := by
  obtain ⟨dx, p', t, q, h1, h2⟩ := h
  exact ⟨dx, p', t, q, o.at n h1, h2.dkt (DkT.off hp (fun _ z => nomatch z) (fun _ z => nomatch z) o)⟩
theorem StAt.neh {H : Hp} {s h dx : Addr} {M : StM} {A : HA} (hS : StAt CS H s M) (hh : H h = some (.ins CH dx (hlf A.st A.bh A.ah A.kp 0))) : s ≠ h := fun z => by
  obtain ⟨dz, p, t, q, hs, _⟩ := hS
  rw [z, hh] at hs
  have := HO.ins.inj (Option.some.inj hs)
  have h2 := congrArg List.length this.2.2
  cases h2
/-- a hall behind a deed -/
structure Stl (P : Program) (w : World) (CH CS : Addr) (H H' : Hp) (h : Addr) (A A' : HA) (M' : StM) (N : Nat) : Prop where
  at_ : HallAt P w CH CS H' h A' M' N
  bh : A'.bh = A.bh
  ah : H A'.ah = none
  kp : A'.kp = A.kp ∨ H A'.kp = none
  fx : HFx h A.bh H H'
theorem Stl.of {H0 H H' : Hp} {h : Addr} {A A' : HA} {M' : StM} {N : Nat} (s : Same H0 H) (t : Stl P w CH CS H H' h A A' M' N) : Stl P w CH CS H0 H' h A A' M' N := ⟨t.at_, t.bh, s.free t.ah, t.kp.imp id s.free, (HFx.of s).trans t.fx⟩
def spHse (P : Program) (w : World) (CH CS : Addr) : Sp := fun vs H Q _ => ∃ (h st : Addr) (A : HA) (M M' : StM) (N : Nat), vs = [.ref h, .ref st] ∧ HallAt P w CH CS H h A M N ∧ N < 100000 ∧ StAt CS H st M' ∧ StOk M' ∧
  ∀ (A' : HA) (H' : Hp), Stl P w CH CS H H' h A A' M' (N + 1) → Q .non H'
theorem sc_hse : FnScope ["self", "stand"] ["self", "stand"] (defScope s_Hall_settle) := ⟨rfl, rfl, rfl, by decide +kernel, rfl, by decide +kernel, by decide +kernel⟩
theorem has_hse (F : MAt K CH "settle" "Hall.settle" s_Hall_settle ["self", "stand"]) (T_Hall : HLC K mg CH) (h_Hsb : HasM P w K mg base CH 1 "stand_by" ["self", "stand"] (spHsb P w CH CS)) : HasM P w K mg base CH 2 "settle" ["self", "stand"] (spHse P w CH CS) := F.has fun F => by
  obtain ⟨f_Hsb, fd_Hsb, m_Hsb, b_Hsb, G_Hsb⟩ := h_Hsb
  refine F.ok sc_hse (fun vs H Q E h => ?_) (fun cdv A outer s H vs Q E hr h => ?_)
  · obtain ⟨h, st, A, M, M', N, rfl, _⟩ := h
    rfl
  · obtain ⟨h, st, B, M, M', N, rfl, hH, hN, hS, ok, q⟩ := h
    refine ⟨_, (pss_cons (ps_expr (pe_bm PySem.F.plainAttrs_list PySem.F.slot_list_append PySem.F.type_list_append mt_append (pe_fld (pv 0) rfl) (pa_cons (pe_fld (pv 0) rfl) pa_nil))) (pss_cons (ps_fld (pv 0) (pe_lst pa_nil) rfl) (pss_one (ps_expr (pe_meth (pv 0) T_Hall.cl m_Hsb G_Hsb (hr.mono (by decide)) b_Hsb .nil pass0 (pa_cons (pv 1) pa_nil)))))), ?_⟩
    obtain ⟨dx, hh⟩ := hH.ob
    obtain ⟨us, hb, hbl⟩ := hH.bh
    have sth := hS.neh hh
    have bth := hH.st.neh hh
    have bh : B.bh ≠ h := ne_of hb hh (by intro z; cases z)
    have kh : B.kp ≠ h := ne_of hH.kp hh (by intro z; cases z)
    have kb : B.kp ≠ B.bh := ne_of hH.kp hb (by intro z; cases z)
    walk_at "go"
    refine w_kFld hh T_Hall.cl T_Hall.nB hk_b ?_
    walk_at "go"
    refine w_kFld hh T_Hall.cl T_Hall.nS hk_s ?_
    walk_at "go"
    refine w_append hb (lineLt_of (by omega)) (fun H1 hb1 o1 => ?_)
    have h1 := o1.at bh.symm hh
    walk_at "go"
    refine w_newL (by walk_at "sz") (fun a H2 ha na => ?_)
    have h2 := na.at h1
    have ah : a ≠ h := (na.ne h1).symm
    walk_at "go"
    refine w_kSFld h2 T_Hall.cl T_Hall.nA (by show 5 < 1000; decide) (fun H3 h3 o3 => ?_)
    rw [hl_a] at h3
    walk_at "go"
    refine w_kMeth h3 (hk_no (by decide +kernel) (by decide +kernel) (by decide +kernel) (by decide +kernel) (by decide +kernel)) ?_
    walk_at "go"
    have S1 := (hS.offl hb o1).same na.same
    have B1 := (hH.st.offl hb o1).same na.same
    have nah : H a = none := by
      cases z : H a with
      | none => rfl
      | some o =>
        have e := na.nn
        by_cases y : a = B.bh
        · rw [y, hb1] at e; cases e
        · rw [o1.at y z] at e; cases e
    refine ⟨h, st, ⟨B.st, B.bh, a, B.kp⟩, M, M', N + 1, rfl, ⟨⟨dx, h3⟩, B1.offi h2 bth o3, hH.ok, ⟨_, o3.at bh (na.at hb1), by rw [List.length_append]; exact Nat.succ_le_succ hbl⟩, ⟨[], o3.at ah ha, Nat.zero_le _⟩, o3.at kh (na.at (o1.at kb hH.kp))⟩, S1.offi h2 sth o3, ok, fun k H4 W4 hk f4 => ?_⟩
    walk_at "go"
    refine q _ H4 ⟨W4, rfl, nah, hk.imp id (fun e => ?_), fun c o e n1 n2 => f4 c o (o3.at n1 (na.at (o1.at n2 e))) n1⟩
    cases z : H k with
    | none => rfl
    | some o =>
      by_cases y : k = B.bh
      · rw [y, o3.at bh (na.at hb1)] at e; cases e
      · by_cases y2 : k = h
        · rw [y2, h3] at e; cases e
        · rw [o3.at y2 (na.at (o1.at y z))] at e; cases e
/-! ### Hall.did -/
def spHdd (P : Program) (w : World) (CH CS : Addr) (sL sS sP sF sU : Sp) : Sp := fun vs H Q E => ∃ (h t : Addr) (A : HA) (M : StM) (N : Nat) (z : Str) (as : List V), vs = [.ref h, .ref t] ∧ HallAt P w CH CS H h A M N ∧ N < 100000 ∧ H t = some (.tup (.str z :: as)) ∧
  deedS sL sS sP sF sU z fun sp => ∀ (s : Addr) (H1 : Hp), H s = none → Same H H1 → StAt CS H1 s M → sp (.ref s :: as) H1 (fun v H2 => ∃ M', StAt CS H2 s M' ∧ StOk M' ∧ Fx s H1 H2 ∧ ∀ (A' : HA) (H' : Hp), Stl P w CH CS H2 H' h A A' M' (N + 1) → Q v H') E
/-- a promise of what is told holds for what is weaker -/
def MonoS (sp : Sp) : Prop := ∀ vs H (Q Q' : VK) E, (∀ v H, Q v H → Q' v H) → sp vs H Q E → sp vs H Q' E
structure Mono5 (sL sS sP sF sU : Sp) : Prop where
  l : MonoS sL
  s : MonoS sS
  p : MonoS sP
  f : MonoS sF
  u : MonoS sU
theorem deedS.imp {sL sS sP sF sU : Sp} {z : Str} {Φ Ψ : Sp → Prop} (m : Mono5 sL sS sP sF sU) (f : ∀ sp, MonoS sp → Φ sp → Ψ sp) (h : deedS sL sS sP sF sU z Φ) : deedS sL sS sP sF sU z Ψ := by
  rcases h with ⟨e, h⟩ | ⟨e, h⟩ | ⟨e, h⟩ | ⟨e, h⟩ | ⟨e, h⟩
  · exact .inl ⟨e, f _ m.l h⟩
  · exact .inr (.inl ⟨e, f _ m.s h⟩)
  · exact .inr (.inr (.inl ⟨e, f _ m.p h⟩))
  · exact .inr (.inr (.inr (.inl ⟨e, f _ m.f h⟩)))
  · exact .inr (.inr (.inr (.inr ⟨e, f _ m.u h⟩)))
theorem sc_hdd : FnScope ["self", "deed", "stand", "told"] ["self", "deed"] (defScope s_Hall_did) := ⟨rfl, rfl, rfl, by decide +kernel, rfl, by decide +kernel, by decide +kernel⟩
theorem has_hdd {sL sS sP sF sU : Sp} (F : MAt K CH "did" "Hall.did" s_Hall_did ["self", "deed"]) (T_Hall : HLC K mg CH) (T_Stand : SDC K mg CS) (h_SdT : HasM P w K mg base CS 3 "twin" ["self"] (spSdT CS)) (h_Ddn : HasX P w K mg base 7 "done" ["stand", "deed"] (spDdn sL sS sP sF sU)) (h_Hse : HasM P w K mg base CH 2 "settle" ["self", "stand"] (spHse P w CH CS)) (m5 : Mono5 sL sS sP sF sU) : HasMX P w K mg base CH 8 "did" ["self", "deed"] (spHdd P w CH CS sL sS sP sF sU) := by
  obtain ⟨f, fd, g, F, bb⟩ := F
  refine ⟨f, fd, g, bb, ?_⟩
  obtain ⟨f_Ddn, fd_Ddn, g_Ddn, k_Ddn, b_Ddn, G_Ddn⟩ := h_Ddn
  obtain ⟨f_SdT, fd_SdT, m_SdT, b_SdT, G_SdT⟩ := h_SdT
  obtain ⟨f_Hse, fd_Hse, m_Hse, b_Hse, G_Hse⟩ := h_Hse
  refine F.okX sc_hdd (fun vs H Q E h => ?_) (fun cdv A outer s H vs Q E hr h => ?_)
  · obtain ⟨h, t, A, M, N, z, as, rfl, _⟩ := h
    rfl
  · obtain ⟨h, t, B, M, N, z, as, rfl, hH, hN, ht, q⟩ := h
    refine ⟨_, (pss_cons (ps_set (i := 2) sc_hdd.nd rfl (.inl rfl) (pe_meth0 (pe_fld (pv 0) rfl) T_Stand.cl m_SdT G_SdT (hr.mono (by decide)) b_SdT .nil pass0)) (pss_cons (ps_set (i := 3) sc_hdd.nd rfl (.inl rfl) (pe_call G_Ddn (hr.mono (by decide)) (by rfl) g_Ddn k_Ddn b_Ddn .nil (passes_call (takes_of rfl rfl rfl rfl) (fun _ _ _ _ h => h)) (pa_cons (pv 2) (pa_cons (pv 1) pa_nil)))) (pss_cons (ps_expr (pe_meth (pv 0) T_Hall.cl m_Hse G_Hse (hr.mono (by decide)) b_Hse .nil pass0 (pa_cons (pv 2) pa_nil))) (pss_one (ps_ret (pv 3)))))), ?_⟩
    obtain ⟨dx, hh⟩ := hH.ob
    obtain ⟨dy, p, t0, q0, hs, hd⟩ := id hH.st
    walk_at "go"
    refine w_kFld hh T_Hall.cl T_Hall.nS hk_s ?_
    walk_at "go"
    refine w_kMeth hs (st_no (by decide +kernel) (by decide +kernel) (by decide +kernel) (by decide +kernel)) ?_
    walk_at "go"
    refine ⟨B.st, M, rfl, hH.st, fun s1 H1 ns1 hS1 sm1 => ?_⟩
    walk_at "go"
    refine ⟨s1, t, z, as, rfl, sm1.at ht, deedS.imp m5 (fun sp mo hsp H2 s2 => ?_) q⟩
    refine mo _ _ _ _ _ (fun v H3 ⟨M', hS3, ok3, f3, k3⟩ => ?_) (hsp s1 H2 ns1 (sm1.trans s2) (hS1.same s2))
    have S03 : Same H H3 := fun c o e => f3.at (ne_of_none e ns1) ((sm1.trans s2).at e)
    walk_at "go"
    refine w_kMeth (S03.at hh) (hk_no (by decide +kernel) (by decide +kernel) (by decide +kernel) (by decide +kernel) (by decide +kernel)) ?_
    walk_at "go"
    refine ⟨h, s1, B, M, M', N, rfl, hH.same S03, hN, hS3, ok3, fun A' H4 st => ?_⟩
    walk_at "go"
    exact k3 A' H4 st
end
end Sf
namespace Sf
open PySem PySem.Spec PyProof.Rows L2 TL
/-! ### stands behind a deed are as they should be -/
theorem isW_wdH {x : Str} (h : isW x = true) : Wd x := fun c hc => by
  unfold isW at h
  exact List.all_eq_true.mp (Bool.and_eq_true_iff.mp h).2 c hc
theorem ok_addL {M : StM} {l r : Str} (ok : StOk M) (h : (isW l && isW r) = true) (hl : l.length ≤ 12) (hr : r.length ≤ 12) (hp : M.prs.length < 12) (hf : M.fol < 999999999) : StOk (addL M l r) := by
  obtain ⟨h1, h2⟩ := Bool.and_eq_true_iff.mp h
  refine ⟨?_, ?_, ?_, Nat.le_add_left _ _, hf, ok.tn, ok.tx, ok.tl, ok.qn, ok.ql⟩
  · show ((M.prs ++ [((M.fol : Int), (l, r))]).map (·.1)).Nodup
    rw [List.map_append, List.nodup_append]
    refine ⟨ok.pn, List.nodup_cons.mpr ⟨List.not_mem_nil, .nil⟩, fun a ha b hb e => ?_⟩
    obtain ⟨x, hx, rfl⟩ := List.mem_map.mp ha
    have := (ok.pr x hx).2.1
    have hb' : b = (M.fol : Int) := List.mem_singleton.mp hb
    rw [hb'] at e
    omega
  · intro x hx
    have hx : x ∈ M.prs ++ [((M.fol : Int), (l, r))] := hx
    show 1 ≤ x.1 ∧ x.1 < ((M.fol + 1 : Nat) : Int) ∧ _
    rcases List.mem_append.mp hx with hx | hx
    · obtain ⟨a1, a2, a3⟩ := ok.pr x hx
      exact ⟨a1, by omega, a3⟩
    · rw [List.mem_singleton.mp hx]
      have := ok.f1
      exact ⟨by show 1 ≤ (M.fol : Int); omega, by show (M.fol : Int) < _; omega, isW_wdH h1, isW_wdH h2, hl, hr⟩
  · show (M.prs ++ [((M.fol : Int), (l, r))]).length ≤ 12
    rw [List.length_append]
    exact hp
theorem nodup_fil {α β : Type} {f : α → β} {g : α → Bool} {l : List α} (h : (l.map f).Nodup) : ((l.filter g).map f).Nodup := h.sublist (List.filter_sublist.map f)
theorem ok_strM {M : StM} {n : Int} (ok : StOk M) : StOk (strM M n) := ⟨nodup_fil ok.pn, fun l hl => ok.pr l (List.mem_filter.mp hl).1, Nat.le_trans (List.length_filter_le _ _) ok.pl, ok.f1, ok.f2, ok.tn, ok.tx, ok.tl, nodup_fil ok.qn, Nat.le_trans (List.length_filter_le _ _) ok.ql⟩
theorem ok_delM {M : StM} {n : Str} (ok : StOk M) : StOk (delM M n) := ⟨ok.pn, ok.pr, ok.pl, ok.f1, ok.f2, nodup_fil ok.tn, fun e he => ok.tx e (List.mem_filter.mp he).1, Nat.le_trans (List.length_filter_le _ _) ok.tl, ok.qn, ok.ql⟩
theorem ok_delP {M : StM} {n : Str} (ok : StOk M) : StOk (delP M n) := ⟨ok.pn, ok.pr, ok.pl, ok.f1, ok.f2, ok.tn, ok.tx, ok.tl, nodup_fil ok.qn, Nat.le_trans (List.length_filter_le _ _) ok.ql⟩
theorem lkT_none {α : Type} {l : List (Str × α)} {n : Str} : lkT l n = none ↔ (l.any fun e => decide (e.1 = n)) = false := by
  unfold lkT
  rw [Option.map_eq_none_iff, List.find?_eq_none, List.any_eq_false]
theorem ok_putM {M : StM} {n x : Str} (ok : StOk M) (hn : isN n = true) (hx : isW x = true) (h : ¬ (lkT M.txs n = none ∧ 20 ≤ M.txs.length)) : StOk (putM M n x) := by
  obtain ⟨n1, n2⟩ := isN_nm hn
  have key : ∀ b, (M.txs.any fun e => decide (e.1 = n)) = b → StOk (putM M n x) := fun b hb => by
    cases b with
    | true =>
      have e : putT M.txs n x = M.txs.map (fun e => if e.1 = n then (e.1, x) else e) := if_pos hb
      have k : ∀ e : Str × Str, (if e.1 = n then (e.1, x) else e).1 = e.1 := fun e => by split <;> rfl
      refine ⟨ok.pn, ok.pr, ok.pl, ok.f1, ok.f2, ?_, ?_, ?_, ok.qn, ok.ql⟩
      · show ((putT M.txs n x).map (·.1)).Nodup
        rw [e, List.map_map]
        have : ((fun e : Str × Str => e.1) ∘ fun e => if e.1 = n then (e.1, x) else e) = fun e => e.1 := funext k
        rw [this]
        exact ok.tn
      · intro y hy
        have hy : y ∈ putT M.txs n x := hy
        rw [e] at hy
        obtain ⟨z, hz, rfl⟩ := List.mem_map.mp hy
        have := ok.tx z hz
        split
        · exact ⟨hx, this.2⟩
        · exact this
      · show (putT M.txs n x).length ≤ 20
        rw [e, List.length_map]
        exact ok.tl
    | false =>
      have e : putT M.txs n x = M.txs ++ [(n, x)] := if_neg (by rw [hb]; exact fun z => nomatch z)
      have hno := lkT_none.mpr hb
      refine ⟨ok.pn, ok.pr, ok.pl, ok.f1, ok.f2, ?_, ?_, ?_, ok.qn, ok.ql⟩
      · show ((putT M.txs n x).map (·.1)).Nodup
        rw [e, List.map_append, List.nodup_append]
        refine ⟨ok.tn, List.nodup_cons.mpr ⟨List.not_mem_nil, .nil⟩, fun a ha b hb2 e => ?_⟩
        obtain ⟨y, hy, rfl⟩ := List.mem_map.mp ha
        have hb' : b = n := List.mem_singleton.mp hb2
        have := List.any_eq_false.mp hb y hy
        rw [decide_eq_true_eq] at this
        exact this (e.trans hb')
      · intro y hy
        have hy : y ∈ putT M.txs n x := hy
        rw [e] at hy
        rcases List.mem_append.mp hy with hy | hy
        · exact ok.tx y hy
        · rw [List.mem_singleton.mp hy]
          exact ⟨hx, n1, n2⟩
      · show (putT M.txs n x).length ≤ 20
        rw [e, List.length_append]
        have : M.txs.length < 20 := Nat.lt_of_not_le fun z => h ⟨hno, z⟩
        exact this
  exact key _ rfl
section
variable {P : Program} {w : World} {K : PySem.W.Frag} {mg : Str → Option Value} {base : Heap} {CH CS CN CL CB CW CT CF : Addr}
theorem mono5 : Mono5 (spDlk CS CW CT CF) (spDst CS CL) (spDpt CS CB CW CF) (spDfg CS CN) (spDun CS CN) where
  l := fun vs H Q Q' E f ⟨s, M, l, r, e, h1, h2, h3, h4, q1, q2, q3, q4⟩ => ⟨s, M, l, r, e, h1, h2, h3, h4, q1, q2, q3, fun a b c d e H' x y => f _ _ (q4 a b c d e H' x y)⟩
  s := fun vs H Q Q' E f ⟨s, M, n, e, h1, h2, h3, q1, q2⟩ => ⟨s, M, n, e, h1, h2, h3, q1, fun a ys r H' b c d e x y => f _ _ (q2 a ys r H' b c d e x y)⟩
  p := fun vs H Q Q' E f ⟨s, M, n, x, e, h1, h2, h3, h4, q1, q2, q3, q4⟩ => ⟨s, M, n, x, e, h1, h2, h3, h4, q1, q2, q3, fun a b c H' x y => f _ _ (q4 a b c H' x y)⟩
  f := fun vs H Q Q' E f ⟨s, M, n, e, h1, h2, h3, q1, q2⟩ => ⟨s, M, n, e, h1, h2, h3, q1, fun a H' x y => f _ _ (q2 a H' x y)⟩
  u := fun vs H Q Q' E f ⟨s, M, n, e, h1, h2, h3, q1, q2⟩ => ⟨s, M, n, e, h1, h2, h3, q1, fun a H' x y => f _ _ (q2 a H' x y)⟩
/-- what a hall's one deed does -/
abbrev spHdL (P : Program) (w : World) (CH CS CN CL CB CW CT CF : Addr) : Sp := spHdd P w CH CS (spDlk CS CW CT CF) (spDst CS CL) (spDpt CS CB CW CF) (spDfg CS CN) (spDun CS CN)
/-! ### Hall.like -/
def spHlk (P : Program) (w : World) (CH CS CW CT CF : Addr) : Sp := fun vs H Q E => ∃ (h : Addr) (A : HA) (M : StM) (N : Nat) (l r : Str), vs = [.ref h, .str l, .str r] ∧ HallAt P w CH CS H h A M N ∧ N < 100000 ∧ l.length ≤ 100000 ∧ r.length ≤ 100000 ∧
  ((isW l && isW r) = false → XEw CW H E) ∧ ((isW l && isW r) = true → 12 < l.length ∨ 12 < r.length → XE0 (Str.ofString "toolong") CT H E) ∧
  ((isW l && isW r) = true → l.length ≤ 12 → r.length ≤ 12 → 12 ≤ M.prs.length ∨ 999999999 ≤ M.fol → XE0 (Str.ofString "full") CF H E) ∧
  ((isW l && isW r) = true → l.length ≤ 12 → r.length ≤ 12 → M.prs.length < 12 → M.fol < 999999999 → ∀ A' H', Stl P w CH CS H H' h A A' (addL M l r) (N + 1) → Q (.int (M.fol : Nat)) H')
theorem sc_hlk : FnScope ["self", "left", "right"] ["self", "left", "right"] (defScope s_Hall_like) := ⟨rfl, rfl, rfl, by decide +kernel, rfl, by decide +kernel, by decide +kernel⟩
theorem has_hlk (F : MAt K CH "like" "Hall.like" s_Hall_like ["self", "left", "right"]) (T_Hall : HLC K mg CH) (h_Hdd : HasMX P w K mg base CH 8 "did" ["self", "deed"] (spHdL P w CH CS CN CL CB CW CT CF)) : HasMX P w K mg base CH 9 "like" ["self", "left", "right"] (spHlk P w CH CS CW CT CF) := by
  obtain ⟨f, fd, g, F, bb⟩ := F
  refine ⟨f, fd, g, bb, ?_⟩
  obtain ⟨f_Hdd, fd_Hdd, m_Hdd, b_Hdd, G_Hdd⟩ := h_Hdd
  refine F.okX sc_hlk (fun vs H Q E h => ?_) (fun cdv A outer s H vs Q E hr h => ?_)
  · obtain ⟨h, A, M, N, l, r, rfl, _⟩ := h
    rfl
  · obtain ⟨h, B, M, N, l, r, rfl, hH, hN, hl, hr', q1, q2, q3, q4⟩ := h
    refine ⟨_, (pss_one (ps_ret (pe_meth (pv 0) T_Hall.cl m_Hdd G_Hdd (hr.mono (by decide)) b_Hdd .nil (passes_call (takes_of rfl rfl rfl rfl) (fun _ _ _ _ h => h)) (pa_cons (pe_tup (pa_cons pe_str (pa_cons (pv 1) (pa_cons (pv 2) pa_nil)))) pa_nil)))), ?_⟩
    obtain ⟨dx, hh⟩ := hH.ob
    walk_at "go"
    refine w_kMeth hh (hk_no (by decide +kernel) (by decide +kernel) (by decide +kernel) (by decide +kernel) (by decide +kernel)) ?_
    walk_at "go"
    refine w_newT (by walk_at "sz") (fun t H1 ht nt => ?_)
    walk_at "go"
    refine ⟨h, t, B, M, N, Str.ofString "like", [.str l, .str r], rfl, hH.same nt.same, hN, ht, .inl ⟨rfl, fun s H2 ns s2 hS => ?_⟩⟩
    have s02 := nt.same.trans s2
    refine ⟨s, M, l, r, rfl, hS, hH.ok, hl, hr', fun e => XEw.same (q1 e) s02, fun e1 e2 => (q2 e1 e2).same s02, fun e1 e2 e3 e4 => (q3 e1 e2 e3 e4).same s02, fun e1 e2 e3 e4 e5 H3 hS3 f3 => ?_⟩
    refine ⟨addL M l r, hS3, ok_addL hH.ok e1 e2 e3 e4 e5, f3, fun A' H4 st => ?_⟩
    exact q4 e1 e2 e3 e4 e5 A' H4 (st.of (fun c o e => f3.at (ne_of_none e (nt.same.free ns)) (s02.at e)))
end
end Sf
namespace Sf
open PySem PySem.Spec PyProof.Rows L2 TL
section
variable {P : Program} {w : World} {K : PySem.W.Frag} {mg : Str → Option Value} {base : Heap} {CH CS CN CL CB CW CT CF : Addr}
/-! ### Hall.strike, put, forget, unshelve -/
def spHst (P : Program) (w : World) (CH CS CL : Addr) : Sp := fun vs H Q E => ∃ (h : Addr) (A : HA) (M : StM) (N : Nat) (n : Int), vs = [.ref h, .int n] ∧ HallAt P w CH CS H h A M N ∧ N < 100000 ∧ n.natAbs.log2 < 1920 ∧
  (hasN M n = false → XE1 (Str.ofString "noline") "number" (.int n) CL H E) ∧
  (hasN M n = true → ∀ (ys : List Str) (r : Addr) (A' : HA) (H' : Hp), ys.Perm (M.pps.map (·.1)) → sortedS ys = true → H' r = some (.lst ((ys.filter (usesL M n)).map V.str)) → H r = none → Stl P w CH CS H H' h A A' (strM M n) (N + 1) → Q (.ref r) H')
theorem sc_hst : FnScope ["self", "number"] ["self", "number"] (defScope s_Hall_strike) := ⟨rfl, rfl, rfl, by decide +kernel, rfl, by decide +kernel, by decide +kernel⟩
theorem has_hst (F : MAt K CH "strike" "Hall.strike" s_Hall_strike ["self", "number"]) (T_Hall : HLC K mg CH) (h_Hdd : HasMX P w K mg base CH 8 "did" ["self", "deed"] (spHdL P w CH CS CN CL CB CW CT CF)) : HasMX P w K mg base CH 9 "strike" ["self", "number"] (spHst P w CH CS CL) := by
  obtain ⟨f, fd, g, F, bb⟩ := F
  refine ⟨f, fd, g, bb, ?_⟩
  obtain ⟨f_Hdd, fd_Hdd, m_Hdd, b_Hdd, G_Hdd⟩ := h_Hdd
  refine F.okX sc_hst (fun vs H Q E h => ?_) (fun cdv A outer s H vs Q E hr h => ?_)
  · obtain ⟨h, A, M, N, n, rfl, _⟩ := h
    rfl
  · obtain ⟨h, B, M, N, n, rfl, hH, hN, hn, q1, q2⟩ := h
    refine ⟨_, (pss_one (ps_ret (pe_meth (pv 0) T_Hall.cl m_Hdd G_Hdd (hr.mono (by decide)) b_Hdd .nil (passes_call (takes_of rfl rfl rfl rfl) (fun _ _ _ _ h => h)) (pa_cons (pe_tup (pa_cons pe_str (pa_cons (pv 1) pa_nil))) pa_nil)))), ?_⟩
    obtain ⟨dx, hh⟩ := hH.ob
    walk_at "go"
    refine w_kMeth hh (hk_no (by decide +kernel) (by decide +kernel) (by decide +kernel) (by decide +kernel) (by decide +kernel)) ?_
    walk_at "go"
    refine w_newT (by walk_at "sz") (fun t H1 ht nt => ?_)
    walk_at "go"
    refine ⟨h, t, B, M, N, Str.ofString "strike", [.int n], rfl, hH.same nt.same, hN, ht, .inr (.inl ⟨rfl, fun s H2 ns s2 hS => ?_⟩)⟩
    have s02 := nt.same.trans s2
    refine ⟨s, M, n, rfl, hS, hH.ok, hn, fun e => (q1 e).same s02, fun e1 ys r H3 pm so hr nr hS3 f3 => ?_⟩
    refine ⟨strM M n, hS3, ok_strM hH.ok, f3, fun A' H4 st => ?_⟩
    have S03 : Same H H3 := fun c o e => f3.at (ne_of_none e (nt.same.free ns)) (s02.at e)
    have nr0 := s02.free nr
    have rh : r ≠ h := fun z => by rw [z, hh] at nr0; cases nr0
    obtain ⟨us, hb, _⟩ := hH.bh
    have rb : r ≠ B.bh := fun z => by rw [z, hb] at nr0; cases nr0
    exact q2 e1 ys r A' H4 pm so (st.fx r _ hr rh rb) nr0 (st.of S03)
def spHpt (P : Program) (w : World) (CH CS CB CW CF : Addr) : Sp := fun vs H Q E => ∃ (h : Addr) (A : HA) (M : StM) (N : Nat) (n x : Str), vs = [.ref h, .str n, .str x] ∧ HallAt P w CH CS H h A M N ∧ N < 100000 ∧ n.length ≤ 100000 ∧ x.length ≤ 100000 ∧
  (isN n = false → XE0 (Str.ofString "badname") CB H E) ∧ (isN n = true → isW x = false → XEw CW H E) ∧ (isN n = true → isW x = true → lkT M.txs n = none → 20 ≤ M.txs.length → XE0 (Str.ofString "full") CF H E) ∧
  (isN n = true → isW x = true → ¬ (lkT M.txs n = none ∧ 20 ≤ M.txs.length) → ∀ A' H', Stl P w CH CS H H' h A A' (putM M n x) (N + 1) → Q .non H')
theorem sc_hpt : FnScope ["self", "word_name", "word"] ["self", "word_name", "word"] (defScope s_Hall_put) := ⟨rfl, rfl, rfl, by decide +kernel, rfl, by decide +kernel, by decide +kernel⟩
theorem has_hpt (F : MAt K CH "put" "Hall.put" s_Hall_put ["self", "word_name", "word"]) (T_Hall : HLC K mg CH) (h_Hdd : HasMX P w K mg base CH 8 "did" ["self", "deed"] (spHdL P w CH CS CN CL CB CW CT CF)) : HasMX P w K mg base CH 9 "put" ["self", "word_name", "word"] (spHpt P w CH CS CB CW CF) := by
  obtain ⟨f, fd, g, F, bb⟩ := F
  refine ⟨f, fd, g, bb, ?_⟩
  obtain ⟨f_Hdd, fd_Hdd, m_Hdd, b_Hdd, G_Hdd⟩ := h_Hdd
  refine F.okX sc_hpt (fun vs H Q E h => ?_) (fun cdv A outer s H vs Q E hr h => ?_)
  · obtain ⟨h, A, M, N, n, x, rfl, _⟩ := h
    rfl
  · obtain ⟨h, B, M, N, n, x, rfl, hH, hN, hn, hx, q1, q2, q3, q4⟩ := h
    refine ⟨_, (pss_one (ps_expr (pe_meth (pv 0) T_Hall.cl m_Hdd G_Hdd (hr.mono (by decide)) b_Hdd .nil (passes_call (takes_of rfl rfl rfl rfl) (fun _ _ _ _ h => h)) (pa_cons (pe_tup (pa_cons pe_str (pa_cons (pv 1) (pa_cons (pv 2) pa_nil)))) pa_nil)))), ?_⟩
    obtain ⟨dx, hh⟩ := hH.ob
    walk_at "go"
    refine w_kMeth hh (hk_no (by decide +kernel) (by decide +kernel) (by decide +kernel) (by decide +kernel) (by decide +kernel)) ?_
    walk_at "go"
    refine w_newT (by walk_at "sz") (fun t H1 ht nt => ?_)
    walk_at "go"
    refine ⟨h, t, B, M, N, Str.ofString "put", [.str n, .str x], rfl, hH.same nt.same, hN, ht, .inr (.inr (.inl ⟨rfl, fun s H2 ns s2 hS => ?_⟩))⟩
    have s02 := nt.same.trans s2
    refine ⟨s, M, n, x, rfl, hS, hH.ok, hn, hx, fun e => (q1 e).same s02, fun e1 e2 => XEw.same (q2 e1 e2) s02, fun e1 e2 e3 e4 => (q3 e1 e2 e3 e4).same s02, fun e1 e2 e3 H3 hS3 f3 => ?_⟩
    refine ⟨putM M n x, hS3, ok_putM hH.ok e1 e2 e3, f3, fun A' H4 st => ?_⟩
    walk_at "go"
    exact q4 e1 e2 e3 A' H4 (st.of (fun c o e => f3.at (ne_of_none e (nt.same.free ns)) (s02.at e)))
def spHfg (P : Program) (w : World) (CH CS CN : Addr) : Sp := fun vs H Q E => ∃ (h : Addr) (A : HA) (M : StM) (N : Nat) (n : Str), vs = [.ref h, .str n] ∧ HallAt P w CH CS H h A M N ∧ N < 100000 ∧ NmT n ∧
  (lkT M.txs n = none → XE1 (Str.ofString "noname") "name" (.str n) CN H E) ∧ (lkT M.txs n ≠ none → ∀ A' H', Stl P w CH CS H H' h A A' (delM M n) (N + 1) → Q .non H')
theorem sc_hfg : FnScope ["self", "word_name"] ["self", "word_name"] (defScope s_Hall_forget) := ⟨rfl, rfl, rfl, by decide +kernel, rfl, by decide +kernel, by decide +kernel⟩
theorem has_hfg (F : MAt K CH "forget" "Hall.forget" s_Hall_forget ["self", "word_name"]) (T_Hall : HLC K mg CH) (h_Hdd : HasMX P w K mg base CH 8 "did" ["self", "deed"] (spHdL P w CH CS CN CL CB CW CT CF)) : HasMX P w K mg base CH 9 "forget" ["self", "word_name"] (spHfg P w CH CS CN) := by
  obtain ⟨f, fd, g, F, bb⟩ := F
  refine ⟨f, fd, g, bb, ?_⟩
  obtain ⟨f_Hdd, fd_Hdd, m_Hdd, b_Hdd, G_Hdd⟩ := h_Hdd
  refine F.okX sc_hfg (fun vs H Q E h => ?_) (fun cdv A outer s H vs Q E hr h => ?_)
  · obtain ⟨h, A, M, N, n, rfl, _⟩ := h
    rfl
  · obtain ⟨h, B, M, N, n, rfl, hH, hN, hn, q1, q2⟩ := h
    refine ⟨_, (pss_one (ps_expr (pe_meth (pv 0) T_Hall.cl m_Hdd G_Hdd (hr.mono (by decide)) b_Hdd .nil (passes_call (takes_of rfl rfl rfl rfl) (fun _ _ _ _ h => h)) (pa_cons (pe_tup (pa_cons pe_str (pa_cons (pv 1) pa_nil))) pa_nil)))), ?_⟩
    obtain ⟨dx, hh⟩ := hH.ob
    walk_at "go"
    refine w_kMeth hh (hk_no (by decide +kernel) (by decide +kernel) (by decide +kernel) (by decide +kernel) (by decide +kernel)) ?_
    walk_at "go"
    refine w_newT (by walk_at "sz") (fun t H1 ht nt => ?_)
    walk_at "go"
    refine ⟨h, t, B, M, N, Str.ofString "forget", [.str n], rfl, hH.same nt.same, hN, ht, .inr (.inr (.inr (.inl ⟨rfl, fun s H2 ns s2 hS => ?_⟩)))⟩
    have s02 := nt.same.trans s2
    refine ⟨s, M, n, rfl, hS, hH.ok, hn, fun e => (q1 e).same s02, fun e1 H3 hS3 f3 => ?_⟩
    refine ⟨delM M n, hS3, ok_delM hH.ok, f3, fun A' H4 st => ?_⟩
    walk_at "go"
    exact q2 e1 A' H4 (st.of (fun c o e => f3.at (ne_of_none e (nt.same.free ns)) (s02.at e)))
def spHun (P : Program) (w : World) (CH CS CN : Addr) : Sp := fun vs H Q E => ∃ (h : Addr) (A : HA) (M : StM) (N : Nat) (n : Str), vs = [.ref h, .str n] ∧ HallAt P w CH CS H h A M N ∧ N < 100000 ∧ NmT n ∧
  (lkT M.pps n = none → XE1 (Str.ofString "noname") "name" (.str n) CN H E) ∧ (lkT M.pps n ≠ none → ∀ A' H', Stl P w CH CS H H' h A A' (delP M n) (N + 1) → Q .non H')
theorem sc_hun : FnScope ["self", "label"] ["self", "label"] (defScope s_Hall_unshelve) := ⟨rfl, rfl, rfl, by decide +kernel, rfl, by decide +kernel, by decide +kernel⟩
theorem has_hun (F : MAt K CH "unshelve" "Hall.unshelve" s_Hall_unshelve ["self", "label"]) (T_Hall : HLC K mg CH) (h_Hdd : HasMX P w K mg base CH 8 "did" ["self", "deed"] (spHdL P w CH CS CN CL CB CW CT CF)) : HasMX P w K mg base CH 9 "unshelve" ["self", "label"] (spHun P w CH CS CN) := by
  obtain ⟨f, fd, g, F, bb⟩ := F
  refine ⟨f, fd, g, bb, ?_⟩
  obtain ⟨f_Hdd, fd_Hdd, m_Hdd, b_Hdd, G_Hdd⟩ := h_Hdd
  refine F.okX sc_hun (fun vs H Q E h => ?_) (fun cdv A outer s H vs Q E hr h => ?_)
  · obtain ⟨h, A, M, N, n, rfl, _⟩ := h
    rfl
  · obtain ⟨h, B, M, N, n, rfl, hH, hN, hn, q1, q2⟩ := h
    refine ⟨_, (pss_one (ps_expr (pe_meth (pv 0) T_Hall.cl m_Hdd G_Hdd (hr.mono (by decide)) b_Hdd .nil (passes_call (takes_of rfl rfl rfl rfl) (fun _ _ _ _ h => h)) (pa_cons (pe_tup (pa_cons pe_str (pa_cons (pv 1) pa_nil))) pa_nil)))), ?_⟩
    obtain ⟨dx, hh⟩ := hH.ob
    walk_at "go"
    refine w_kMeth hh (hk_no (by decide +kernel) (by decide +kernel) (by decide +kernel) (by decide +kernel) (by decide +kernel)) ?_
    walk_at "go"
    refine w_newT (by walk_at "sz") (fun t H1 ht nt => ?_)
    walk_at "go"
    refine ⟨h, t, B, M, N, Str.ofString "unshelve", [.str n], rfl, hH.same nt.same, hN, ht, .inr (.inr (.inr (.inr ⟨rfl, fun s H2 ns s2 hS => ?_⟩)))⟩
    have s02 := nt.same.trans s2
    refine ⟨s, M, n, rfl, hS, hH.ok, hn, fun e => (q1 e).same s02, fun e1 H3 hS3 f3 => ?_⟩
    refine ⟨delP M n, hS3, ok_delP hH.ok, f3, fun A' H4 st => ?_⟩
    walk_at "go"
    exact q2 e1 A' H4 (st.of (fun c o e => f3.at (ne_of_none e (nt.same.free ns)) (s02.at e)))
end
end Sf
namespace Sf
open PySem PySem.Spec PyProof.Rows L2 TL
section
variable {σ : L2.St} {H : Hp} {Q : VK}
theorem w_itemsH {td : TE} {R : It → Hp → Prop} (q : td σ H fun x H1 => ∃ d o kvs, x = .ref d ∧ H1 d = some (.frz o (.dK kvs)) ∧ R (Iti d o kvs) H1) : iItems td σ H R := q
theorem w_itemsSH {te : TE} (q : te σ H fun x H1 => rItemsS x H1 Q) : tItemsS te σ H Q := q
theorem w_lcI {d : Addr} {o : Obj} {kvs : List (Key × V)} {g : TG} {tt : TT} {te : TE} {vs : List Nat} (Pv : Addr → Nat → Hp → Prop) (h0 : ∀ p H1, H1 p = some (.lst []) → Nw p H H1 → Pv p 0 H1) (hl : ∀ p i H, Pv p i H → H d = some (.frz o (.dK kvs)))
    (hs : ∀ p i T k v H H', kvs[i]? = some (k, v) → Pv p i H → H' T = some (.tup [kV k, v]) → Nw T H H' → g (.ref T) (wipe σ vs) H' (kEach tt te vs σ p (Pv p (i + 1)))) (hd : ∀ p H, Pv p kvs.length H → Q (.ref p) H) : kLc g tt te vs σ Q (Iti d o kvs) H := by
  refine w_lcG (n := kvs.length) Pv h0 (fun p i H hi h => ⟨hl p i H h, hi⟩) (fun p H h => ⟨hl p _ H h, Nat.le_refl _⟩) ?_ hd
  rintro p i x H H' hi h ⟨T, k, v, hk, rfl, nT, rfl⟩
  exact hs p i T k v H _ hk h upd_same (.mk' nT)
end
section
variable {P : Program} {w : World} {K : PySem.W.Frag} {mg : Str → Option Value} {base : Heap} {CH CS CN : Addr}
theorem paired_refs {H : Hp} : ∀ {ts : List Addr} {l : List (Str × Str)}, Paired (fun (t : Addr) (q : Str × Str) => H t = some (.tup [.str q.1, .str q.2])) ts l → Paired (fun v (e : Str × Str) => ∃ t, v = .ref t ∧ H t = some (.tup [.str e.1, .str e.2])) (ts.map V.ref) l
  | _, _, .nil => .nil
  | _, _, .cons r t => .cons ⟨_, rfl, r⟩ (paired_refs t)
/-! ### what a hall tells -/
abbrev LnT (H : Hp) (v : V) (l : Int × Clm) : Prop := ∃ t, v = .ref t ∧ H t = some (.tup [.int l.1, .str l.2.1, .str l.2.2])
abbrev TxT (H : Hp) (v : V) (e : Str × Str) : Prop := ∃ t, v = .ref t ∧ H t = some (.tup [.str e.1, .str e.2])
def spHco (P : Program) (w : World) (CH CS : Addr) : Sp := fun vs H Q _ => ∃ (h : Addr) (A : HA) (M : StM) (N : Nat), vs = [.ref h] ∧ HallAt P w CH CS H h A M N ∧ Q (.int (M.fol : Nat)) H
theorem sc_hco : FnScope ["self"] ["self"] (defScope s_Hall_coming) := ⟨rfl, rfl, rfl, by decide +kernel, rfl, by decide +kernel, by decide +kernel⟩
theorem has_hco (F : MAt K CH "coming" "Hall.coming" s_Hall_coming ["self"]) (T_Hall : HLC K mg CH) (T_Stand : SDC K mg CS) : HasM P w K mg base CH 1 "coming" ["self"] (spHco P w CH CS) := F.has fun F => by
  refine F.ok sc_hco (fun vs H Q E h => ?_) (fun cdv A outer s H vs Q E hr h => ?_)
  · obtain ⟨h, A, M, N, rfl, _⟩ := h
    rfl
  · obtain ⟨h, B, M, N, rfl, hH, q⟩ := h
    refine ⟨_, (pss_one (ps_ret (pe_fld (pe_fld (pv 0) rfl) rfl))), ?_⟩
    obtain ⟨dx, hh⟩ := hH.ob
    obtain ⟨dy, p, t, q0, hs, hd⟩ := hH.st
    walk_at "go"
    refine w_kFld hh T_Hall.cl T_Hall.nS hk_s ?_
    walk_at "go"
    refine w_kFld hs T_Stand.cl T_Stand.nF lk_f ?_
    exact q
def spHln (P : Program) (w : World) (CH CS : Addr) : Sp := fun vs H Q _ => ∃ (h : Addr) (A : HA) (M : StM) (N : Nat), vs = [.ref h] ∧ HallAt P w CH CS H h A M N ∧ Q (.int (M.prs.length : Nat)) H
theorem sc_hln : FnScope ["self"] ["self"] (defScope s_Hall___len__) := ⟨rfl, rfl, rfl, by decide +kernel, rfl, by decide +kernel, by decide +kernel⟩
theorem has_hln (F : MAt K CH "__len__" "Hall.__len__" s_Hall___len__ ["self"]) (B : Blt mg) (T_Hall : HLC K mg CH) (T_Stand : SDC K mg CS) : HasM P w K mg base CH 1 "__len__" ["self"] (spHln P w CH CS) := F.has fun F => by
  refine F.ok sc_hln (fun vs H Q E h => ?_) (fun cdv A outer s H vs Q E hr h => ?_)
  · obtain ⟨h, A, M, N, rfl, _⟩ := h
    rfl
  · obtain ⟨h, C, M, N, rfl, hH, q⟩ := h
    refine ⟨_, (pss_one (ps_ret (pe_callB call_lenDc (by rfl) B.len PySem.boot_len (pa_cons (pe_fld (pe_fld (pv 0) rfl) rfl) pa_nil)))), ?_⟩
    obtain ⟨dx, hh⟩ := hH.ob
    obtain ⟨dy, p, t, q0, hs, hd⟩ := hH.st
    obtain ⟨kp, hp, hk⟩ := hd.pr
    have hkl : kp.length = M.prs.length := Paired.length hk
    walk_at "go"
    refine w_kFld hh T_Hall.cl T_Hall.nS hk_s ?_
    walk_at "go"
    refine w_kFld hs T_Stand.cl T_Stand.nP lk_p ?_
    walk_at "go"
    rw [hkl]
    exact q
def spHli (P : Program) (w : World) (CH CS : Addr) : Sp := fun vs H Q _ => ∃ (h : Addr) (A : HA) (M : StM) (N : Nat), vs = [.ref h] ∧ HallAt P w CH CS H h A M N ∧ ∀ (r : Addr) (us : List V) (H' : Hp), H r = none → Same H H' → H' r = some (.lst us) → Paired (LnT H') us M.prs → Q (.ref r) H'
theorem sc_hli2 : FnScope ["self", "number", "left", "right"] ["self"] (defScope s_Hall_lines) := ⟨rfl, rfl, rfl, by decide +kernel, rfl, by decide +kernel, by decide +kernel⟩
theorem has_hlin (F : MAt K CH "lines" "Hall.lines" s_Hall_lines ["self"]) (T_Hall : HLC K mg CH) (T_Stand : SDC K mg CS) : HasM P w K mg base CH 1 "lines" ["self"] (spHli P w CH CS) := F.has fun F => by
  refine F.ok sc_hli2 (fun vs H Q E h => ?_) (fun cdv A outer s H vs Q E hr h => ?_)
  · obtain ⟨h, A, M, N, rfl, _⟩ := h
    rfl
  · obtain ⟨h, B, M, N, rfl, hH, q⟩ := h
    refine ⟨_, (pss_one (ps_ret (pe_lock (pe_lc (own := [("number", 1), ("left", 2), ("right", 3)]) (g := gTup K 2 (gCons (gName 1) (gCons (gTup K 2 (gCons (gName 2) (gCons (gName 3) gNil))) gNil))) (tt := tYes) (by rfl) sc_hli2.nd (pi_items (pe_fld (pe_fld (pv 0) rfl) rfl)) (blkOk_by (own := [("number", 1), ("left", 2), ("right", 3)]) (N := ["self", "number", "left", "right"]) (sc := defScope s_Hall_lines) (by decide +kernel)) (fun _ _ _ _ _ => pg_tup rfl (pgs_cons (pg_name (i := 1) sc_hli2.nd rfl (.inl rfl)) (pgs_cons (pg_tup rfl (pgs_cons (pg_name (i := 2) sc_hli2.nd rfl (.inl rfl)) (pgs_cons (pg_name (i := 3) sc_hli2.nd rfl (.inl rfl)) pgs_nil))) pgs_nil))) (fun _ _ _ _ _ => pts_nil) (fun _ _ _ _ _ => (pe_tup (pa_cons (pv 1) (pa_cons (pv 2) (pa_cons (pv 3) pa_nil))))))))), ?_⟩
    obtain ⟨dx, hh⟩ := hH.ob
    obtain ⟨dy, p, t, q0, hs, hd⟩ := hH.st
    obtain ⟨kp, hp, hk⟩ := hd.pr
    have hkl : kp.length = M.prs.length := Paired.length hk
    have pl := hH.ok.pl
    walk_at "go"
    refine w_lockE hp True.intro (fun od => ?_)
    generalize hG : upd H p (.frz od (.dK kp)) = G
    have gP : G p = some (.frz od (.dK kp)) := by rw [← hG, upd_same]
    have kG : ∀ a x, H a = some x → a ≠ p → G a = some x := fun a x e n => by rw [← hG, upd_ne n]; exact e
    have nh : h ≠ p := ne_of hh hp (by intro z; cases z)
    have ns : B.st ≠ p := ne_of hs hp (by intro z; cases z)
    walk_at "go"
    refine w_itemsH ?_
    walk_at "go"
    refine w_kFld (kG _ _ hh nh) T_Hall.cl T_Hall.nS hk_s ?_
    walk_at "go"
    refine w_kFld (kG _ _ hs ns) T_Stand.cl T_Stand.nP lk_p ?_
    refine ⟨p, od, kp, rfl, gP, ?_⟩
    refine w_lcI (fun r j H4 => Same G H4 ∧ G r = none ∧ ∃ us, H4 r = some (.lst us) ∧ Paired (LnT H4) us (M.prs.take j)) (fun r H4 hr nr => ⟨nr.same, nr.nn, [], hr, .nil⟩) (fun r j H4 h => h.1.at gP) ?_ ?_
    · rintro r j T k v H4 H5 hkv ⟨s4, nr, us, hr4, hU⟩ hT nT
      obtain ⟨⟨n, l1, r1⟩, hoj, e1, t1, e2, ht⟩ := paired_get hk hkv
      have e1 : k = .inl n := e1
      have e2 : v = .ref t1 := e2
      subst e1
      subst e2
      have ht5 : H5 t1 = some (.tup [.str l1, .str r1]) := nT.at (s4.at (kG _ _ ht (ne_of ht hp (by intro z; cases z))))
      have hT : H5 T = some (.tup [.int n, .ref t1]) := hT
      have hul : us.length = (M.prs.take j).length := Paired.length hU
      rw [List.length_take] at hul
      walk_at "go"
      refine w_newT (by walk_at "sz") (fun t6 H6 ht6 nt6 => ?_)
      refine w_kIt (nt6.at (nT.at hr4)) (lineLt_of (show us.length ≤ 100000 by omega)) (fun H7 h7 o7 => ?_)
      have s46 : Same H4 H6 := nT.same.nw nt6
      have tr : t6 ≠ r := (nt6.ne (nT.at hr4)).symm
      refine ⟨(s4.trans s46).off o7 nr, nr, _, h7, ?_⟩
      rw [take_snoc hoj]
      exact Paired.snoc (Paired.mono (fun u z ⟨t', e, h⟩ => ⟨t', e, o7.at (fun y => by rw [y, hr4] at h; cases h) (s46.at h)⟩) hU) ⟨t6, rfl, o7.at tr ht6⟩
    · rintro r H4 ⟨s4, nr, us, hr4, hU⟩
      rw [hkl, List.take_length] at hU
      refine ⟨s4.at gP, ?_⟩
      have rp : r ≠ p := fun z => by rw [z, gP] at nr; cases nr
      generalize hH5 : upd H4 p (.dK kp) = H5
      have k5 : ∀ a x, H4 a = some x → a ≠ p → H5 a = some x := fun a x e n => by rw [← hH5, upd_ne n]; exact e
      have s5 : Same H H5 := fun a x e => by
        by_cases z : a = p
        · rw [z, ← hH5, upd_same, ← hp, ← z]; exact e
        · exact k5 a x (s4 a x (kG a x e z)) z
      have hr3 : H r = none := by
        rw [← hG, upd_ne rp] at nr
        exact nr
      refine q r us H5 hr3 s5 (k5 _ _ hr4 rp) (Paired.mono (fun u z ⟨t', e, h⟩ => ⟨t', e, k5 _ _ h (fun y => ?_)⟩) hU)
      rw [y, s4.at gP] at h
      cases h
def spHwo (P : Program) (w : World) (CH CS : Addr) : Sp := fun vs H Q _ => ∃ (h : Addr) (A : HA) (M : StM) (N : Nat), vs = [.ref h] ∧ HallAt P w CH CS H h A M N ∧ ∀ (r : Addr) (us : List V) (H' : Hp), H r = none → Same H H' → H' r = some (.lst us) → Paired (TxT H') us (sortT M.txs) → Q (.ref r) H'
theorem sc_hwo : FnScope ["self"] ["self"] (defScope s_Hall_words) := ⟨rfl, rfl, rfl, by decide +kernel, rfl, by decide +kernel, by decide +kernel⟩
theorem has_hwo (F : MAt K CH "words" "Hall.words" s_Hall_words ["self"]) (B : Blt mg) (T_Hall : HLC K mg CH) (T_Stand : SDC K mg CS) : HasM P w K mg base CH 1 "words" ["self"] (spHwo P w CH CS) := F.has fun F => by
  refine F.ok sc_hwo (fun vs H Q E h => ?_) (fun cdv A outer s H vs Q E hr h => ?_)
  · obtain ⟨h, A, M, N, rfl, _⟩ := h
    rfl
  · obtain ⟨h, C, M, N, rfl, hH, q⟩ := h
    refine ⟨_, (pss_one (ps_ret (pe_sortedItems rfl hr.units (pe_fld (pe_fld (pv 0) rfl) rfl) (by rfl) B.sorted))), ?_⟩
    obtain ⟨dx, hh⟩ := hH.ob
    obtain ⟨dy, p, t, q0, hs, hd⟩ := hH.st
    have tl := hH.ok.tl
    walk_at "go"
    refine w_itemsSH ?_
    walk_at "go"
    refine w_kFld hh T_Hall.cl T_Hall.nS hk_s ?_
    walk_at "go"
    refine w_kFld hs T_Stand.cl T_Stand.nT lk_t ?_
    walk_at "go"
    exact ⟨t, M.txs, rfl, hd.tx, by omega, fun H' r ts s1 nr hr' hT => q r (ts.map V.ref) H' nr s1 hr' (paired_refs hT)⟩
def spHsf (P : Program) (w : World) (CH CS : Addr) : Sp := fun vs H Q _ => ∃ (h : Addr) (A : HA) (M : StM) (N : Nat), vs = [.ref h] ∧ HallAt P w CH CS H h A M N ∧ ∀ (ys : List Str) (r : Addr) (H' : Hp), ys.Perm (M.pps.map (·.1)) → sortedS ys = true → H r = none → Same H H' → H' r = some (.lst (ys.map V.str)) → Q (.ref r) H'
theorem sc_hsf : FnScope ["self"] ["self"] (defScope s_Hall_shelf) := ⟨rfl, rfl, rfl, by decide +kernel, rfl, by decide +kernel, by decide +kernel⟩
theorem has_hsf (F : MAt K CH "shelf" "Hall.shelf" s_Hall_shelf ["self"]) (B : Blt mg) (T_Hall : HLC K mg CH) (T_Stand : SDC K mg CS) : HasM P w K mg base CH 1 "shelf" ["self"] (spHsf P w CH CS) := F.has fun F => by
  refine F.ok sc_hsf (fun vs H Q E h => ?_) (fun cdv A outer s H vs Q E hr h => ?_)
  · obtain ⟨h, A, M, N, rfl, _⟩ := h
    rfl
  · obtain ⟨h, C, M, N, rfl, hH, q⟩ := h
    refine ⟨_, (pss_one (ps_ret (pe_callB (call_sortedD rfl) (by rfl) B.sorted (by decide +kernel) (pa_cons (pe_fld (pe_fld (pv 0) rfl) rfl) pa_nil)))), ?_⟩
    obtain ⟨dx, hh⟩ := hH.ob
    obtain ⟨dy, p, t, q0, hs, hd⟩ := hH.st
    obtain ⟨kq, hq, hk⟩ := hd.pp
    have ql := hH.ok.ql
    walk_at "go"
    refine w_kFld hh T_Hall.cl T_Hall.nS hk_s ?_
    walk_at "go"
    refine w_kFld hs T_Stand.cl T_Stand.nQ lk_q ?_
    walk_at "go"
    refine w_sortDA (ks := M.pps.map (·.1)) hq (by rw [ppKeys hk, List.map_map]; rfl) (by rw [List.length_map]; omega) (fun ys l1 H2 pm so hl1 nl1 => ?_)
    exact q ys l1 H2 pm so nl1.nn nl1.same hl1
end
end Sf
namespace Sf
open PySem PySem.Spec PyProof.Rows L2 TL
/-! ### repr(a) of an own class -/
section
variable {X : Cx} {k : Nat} {f C : Addr} {fd : FuncData} {ps : List Str} {sp : Sp}
end
/-! ### f'..' -/
def kJs (ts : List TE) (acc : Str) (σ : L2.St) (Q : Str → Hp → Prop) : VK := fun x H1 => ∃ y : Str, x = .str y ∧ (acc ++ y).length ≤ sizeLine ∧ tJs ts (acc ++ y) σ H1 Q
theorem w_js {t : TE} {ts : List TE} {acc : Str} {σ : L2.St} {H : Hp} {Q : Str → Hp → Prop} (q : t σ H (kJs ts acc σ Q)) : tJs (t :: ts) acc σ H Q := q
theorem w_kJs {ts : List TE} {acc y : Str} {σ : L2.St} {H : Hp} {Q : Str → Hp → Prop} (h : (acc ++ y).length ≤ sizeLine) (q : tJs ts (acc ++ y) σ H Q) : kJs ts acc σ Q (.str y) H := ⟨y, rfl, h, q⟩
theorem w_jsN {acc : Str} {σ : L2.St} {H : Hp} {Q : Str → Hp → Prop} (q : Q acc H) : tJs [] acc σ H Q := q
def kFmt (Q : VK) : VK := fun x H1 => (∃ y : Str, x = .str y ∧ y.length ≤ sizeLine ∧ Q (.str y) H1) ∨ ∃ i : Int, x = .int i ∧ i.natAbs.log2 < 1920 ∧ Q (.str (toString i)) H1
theorem w_fmt {te : TE} {σ : L2.St} {H : Hp} {Q : VK} (q : te σ H (kFmt Q)) : tFmt te σ H Q := q
theorem w_kFmtI {i : Int} {H : Hp} {Q : VK} (h : i.natAbs.log2 < 1920) (q : Q (.str (toString i)) H) : kFmt Q (.int i) H := .inr ⟨i, rfl, h, q⟩
theorem toStrL {i : Int} (h : i.natAbs.log2 < 1920) : (toString i : Str).length ≤ 1921 := int_text_len_1921 h
theorem log_small {i : Int} (h0 : 0 ≤ i) (h1 : i ≤ 1000000) : i.natAbs.log2 < 1920 := by
  have h : i.natAbs < 2 ^ 20 := by omega
  by_cases hz : i.natAbs = 0
  · rw [hz]; decide
  · exact Nat.lt_trans ((Nat.log2_lt hz).mpr h) (by decide)
end Sf
namespace Sf
open PySem PySem.Spec PyProof.Rows L2 TL
section
variable {P : Program} {w : World} {K : PySem.W.Frag} {mg : Str → Option Value} {base : Heap} {CH CS CN : Addr}
/-! ### Hall.__repr__ -/
def htext (n m : Nat) : Str := (((Str.ofString "Hall(" ++ toString (n : Int)) ++ Str.ofString " lines, ") ++ toString (m : Int)) ++ Str.ofString " words)"
def spHrp (P : Program) (w : World) (CH CS : Addr) : Sp := fun vs H Q _ => ∃ (h : Addr) (A : HA) (M : StM) (N : Nat), vs = [.ref h] ∧ HallAt P w CH CS H h A M N ∧ Q (.str (htext M.prs.length M.txs.length)) H
theorem sc_hrp : FnScope ["self"] ["self"] (defScope s_Hall___repr__) := ⟨rfl, rfl, rfl, by decide +kernel, rfl, by decide +kernel, by decide +kernel⟩
theorem has_hrp (F : MAt K CH "__repr__" "Hall.__repr__" s_Hall___repr__ ["self"]) (B : Blt mg) (T_Hall : HLC K mg CH) (T_Stand : SDC K mg CS) : HasM P w K mg base CH 1 "__repr__" ["self"] (spHrp P w CH CS) := F.has fun F => by
  refine F.ok sc_hrp (fun vs H Q E h => ?_) (fun cdv A outer s H vs Q E hr h => ?_)
  · obtain ⟨h, A, M, N, rfl, _⟩ := h
    rfl
  · obtain ⟨h, C, M, N, rfl, hH, q⟩ := h
    refine ⟨_, (pss_one (ps_ret (pe_joined (.cons pe_str (.cons (pe_fmt (pe_callB call_lenDc (by rfl) B.len PySem.boot_len (pa_cons (pe_fld (pe_fld (pv 0) rfl) rfl) pa_nil))) (.cons pe_str (.cons (pe_fmt (pe_callB call_lenDc (by rfl) B.len PySem.boot_len (pa_cons (pe_fld (pe_fld (pv 0) rfl) rfl) pa_nil))) (.cons pe_str .nil)))))))), ?_⟩
    obtain ⟨dx, hh⟩ := hH.ob
    obtain ⟨dy, p, t, q0, hs, hd⟩ := id hH.st
    obtain ⟨kp, hp, hk⟩ := hd.pr
    have hkl : kp.length = M.prs.length := Paired.length hk
    have tkl : (txK M.txs).length = M.txs.length := List.length_map _
    have htx := hd.tx
    have pl := hH.ok.pl
    have tl := hH.ok.tl
    have t1 := toStrL (i := (M.prs.length : Int)) (log_small (by omega) (by omega))
    have t2 := toStrL (i := (M.txs.length : Int)) (log_small (by omega) (by omega))
    have l1 : (Str.ofString "Hall(").length = 5 := by decide +kernel
    have l2 : (Str.ofString " lines, ").length = 8 := by decide +kernel
    have l3 : (Str.ofString " words)").length = 7 := by decide +kernel
    have l0 : Str.empty ++ Str.ofString "Hall(" = Str.ofString "Hall(" := by decide +kernel
    refine w_js ?_
    walk_at "go"
    refine w_kJs (by rw [l0]; decide +kernel) ?_
    rw [l0]
    refine w_js (w_fmt ?_)
    walk_at "go"
    refine w_kFld hh T_Hall.cl T_Hall.nS hk_s ?_
    walk_at "go"
    refine w_kFld hs T_Stand.cl T_Stand.nP lk_p ?_
    walk_at "go"
    rw [hkl]
    refine w_kFmtI (log_small (by omega) (by omega)) (w_kJs (line_of (by rw [len_app]; omega)) (w_js ?_))
    walk_at "go"
    refine w_kJs (line_of (by rw [len_app, len_app]; omega)) (w_js (w_fmt ?_))
    walk_at "go"
    refine w_kFld hh T_Hall.cl T_Hall.nS hk_s ?_
    walk_at "go"
    refine w_kFld hs T_Stand.cl T_Stand.nT lk_t ?_
    walk_at "go"
    rw [tkl]
    refine w_kFmtI (log_small (by omega) (by omega)) (w_kJs (line_of (by rw [len_app, len_app, len_app]; omega)) (w_js ?_))
    walk_at "go"
    refine w_kJs (line_of (by rw [len_app, len_app, len_app, len_app]; omega)) (w_jsN ?_)
    exact q
/-! ### hall_of -/
def spHof (P : Program) (w : World) (CH CS : Addr) : Sp := fun vs H Q _ => ∃ (st : Addr) (M : StM), vs = [.ref st] ∧ StAt CS H st M ∧ StOk M ∧ ∀ (h : Addr) (A : HA) (H' : Hp), H h = none → HallAt P w CH CS H' h ⟨st, A.bh, A.ah, A.kp⟩ M 0 → NewH H A → Same H H' → Q (.ref h) H'
theorem sc_hof : FnScope ["stand", "hall"] ["stand"] (defScope s_hall_of) := ⟨rfl, rfl, rfl, by decide +kernel, rfl, by decide +kernel, by decide +kernel⟩
theorem has_hof (F : FnAt K mg "hall_of" s_hall_of ["stand"]) (T_Hall : HLC K mg CH) (mkH : PySem.W.makesIn K CH = true) (kcH : PySem.W.keepIn K (.ref CH) = true) (h_HlI : HasM P w K mg base CH 3 "__init__" ["self"] (spHlI P w CH CS)) : Has P w K mg base 5 "hall_of" ["stand"] (spHof P w CH CS) := F.has fun F => by
  obtain ⟨f_HlI, fd_HlI, m_HlI, b_HlI, G_HlI⟩ := h_HlI
  have M_HlI : Mk K CH f_HlI := ⟨mkH, m_HlI.at_, m_HlI.fn, kcH⟩
  have g_Hall := T_Hall.mgC
  refine F.ok sc_hof (fun vs H Q E h => ?_) (fun cdv A outer s H vs Q E hr h => ?_)
  · obtain ⟨st, M, rfl, _⟩ := h
    rfl
  · obtain ⟨st, M, rfl, hS, ok, q⟩ := h
    refine ⟨_, (pss_cons (ps_set (i := 1) sc_hof.nd rfl (.inl rfl) (pe_make0 M_HlI G_HlI (hr.mono (by decide)) (by rfl) g_Hall b_HlI .nil pass0)) (pss_cons (ps_fld (pv 1) (pv 0) rfl) (pss_one (ps_ret (pv 1))))), ?_⟩
    walk_at "go"
    refine w_mkHall (fun h B H1 nh hH nw s1 => ?_)
    obtain ⟨dx, hh⟩ := hH.ob
    have hS1 := hS.same s1
    have sth := hS1.neh hh
    walk_at "go"
    refine w_kSFld hh T_Hall.cl T_Hall.nS (by show 5 < 1000; decide) (fun H2 h2 o2 => ?_)
    rw [hl_s] at h2
    walk_at "go"
    obtain ⟨us, g1, g2⟩ := hH.bh
    obtain ⟨vs, g3, g4⟩ := hH.ah
    refine q h B H2 nh ⟨⟨dx, h2⟩, hS1.offi hh sth o2, ok, ⟨us, o2.at (ne_of g1 hh (by intro z; cases z)) g1, g2⟩, ⟨vs, o2.at (ne_of g3 hh (by intro z; cases z)) g3, g4⟩, o2.at (ne_of hH.kp hh (by intro z; cases z)) hH.kp⟩ nw (fun c o e => o2.at (ne_of_none e nh) (s1.at e))
end
end Sf
namespace Sf
open PySem PySem.Spec PyProof.Rows L2 TL
/-! ### the law's state -/
def kLn : Key := .inr (Str.ofString "lines")
def kCo : Key := .inr (Str.ofString "coming")
def kWs : Key := .inr (Str.ofString "words")
def kPp : Key := .inr (Str.ofString "papers")
def lsK (ln wd pp : Addr) (c : Nat) : List (Key × V) := [(kLn, .ref ln), (kCo, .int (c : Nat)), (kWs, .ref wd), (kPp, .ref pp)]
section
variable {ln ln' wd wd' pp pp' : Addr} {c c' : Nat}
theorem ls_ln : valV (lsK ln wd pp c) kLn = some (.ref ln) := valV_pos rfl
theorem kne1 : ¬ kLn = kCo := by decide +kernel
theorem kne2 : ¬ kLn = kWs := by decide +kernel
theorem kne3 : ¬ kCo = kWs := by decide +kernel
theorem kne4 : ¬ kLn = kPp := by decide +kernel
theorem kne5 : ¬ kCo = kPp := by decide +kernel
theorem kne6 : ¬ kWs = kPp := by decide +kernel
theorem ls_co : valV (lsK ln wd pp c) kCo = some (.int (c : Nat)) := by
  unfold lsK
  rw [valV_neg kne1, valV_pos rfl]
theorem ls_ws : valV (lsK ln wd pp c) kWs = some (.ref wd) := by
  unfold lsK
  rw [valV_neg kne2, valV_neg kne3, valV_pos rfl]
theorem ls_pp : valV (lsK ln wd pp c) kPp = some (.ref pp) := by
  unfold lsK
  rw [valV_neg kne4, valV_neg kne5, valV_neg kne6, valV_pos rfl]
theorem ls_new : mergeK ([] : List (Key × V)) (lsK ln wd pp c) = lsK ln wd pp c := by
  show mergeV [] (lsK ln wd pp c) = _
  exact mergeV_nil (show ([kLn, kCo, kWs, kPp] : List Key).Nodup by decide +kernel)
theorem ls_nd : ((lsK ln wd pp c).map (·.1)).Nodup := show ([kLn, kCo, kWs, kPp] : List Key).Nodup by decide +kernel
end
/-- the law's state: lines, the number that comes, words, no papers -/
def LsAt (H : Hp) (d ln : Addr) (M : StM) : Prop := ∃ (wd pp : Addr) (us : List V), H d = some (.dK (lsK ln wd pp M.fol)) ∧ H ln = some (.lst us) ∧ Paired (LnT H) us M.prs ∧ H wd = some (.dK (txK M.txs)) ∧ H pp = some (.dK [])
theorem LsAt.same {H H' : Hp} {d ln : Addr} {M : StM} (h : LsAt H d ln M) (s : Same H H') : LsAt H' d ln M := by
  obtain ⟨wd, pp, us, h1, h2, h3, h4, h5⟩ := h
  exact ⟨wd, pp, us, s.at h1, s.at h2, Paired.mono (fun _ _ ⟨t, e, h⟩ => ⟨t, e, s.at h⟩) h3, s.at h4, s.at h5⟩
theorem LsAt.fxl {H H' : Hp} {d ln p : Addr} {M : StM} {xs : List V} (h : LsAt H d ln M) (hp : H p = some (.lst xs)) (n : ln ≠ p) (f : Fx p H H') : LsAt H' d ln M := by
  obtain ⟨wd, pp, us, h1, h2, h3, h4, h5⟩ := h
  have ne : ∀ {c : Addr} {o : HO}, H c = some o → (∀ l, o ≠ .lst l) → c ≠ p := fun e n z => n xs (by rw [z, hp] at e; exact (Option.some.inj e).symm)
  exact ⟨wd, pp, us, f.at (ne h1 fun _ z => nomatch z) h1, f.at n h2, Paired.mono (fun _ _ ⟨t, e, h⟩ => ⟨t, e, f.at (ne h fun _ z => nomatch z) h⟩) h3, f.at (ne h4 fun _ z => nomatch z) h4, f.at (ne h5 fun _ z => nomatch z) h5⟩
theorem LsAt.bag {H H' : Hp} {d ln b l : Addr} {M : StM} (h : LsAt H d ln M) (hB : Bag H b l) (n : ln ≠ b) (f : Fx b H H') : LsAt H' d ln M := by
  obtain ⟨ns, k, z, r, hB⟩ := hB
  exact h.fxl hB.hb n f
theorem LsAt.hfx {CH h b dx : Addr} {H H' : Hp} {d ln : Addr} {M : StM} {xs : List V} {fs : List (Str × V)} (L : LsAt H d ln M) (hh : H h = some (.ins CH dx fs)) (hb : H b = some (.lst xs)) (n : ln ≠ b) (f : HFx h b H H') : LsAt H' d ln M := by
  obtain ⟨wd, pp, us, h1, h2, h3, h4, h5⟩ := L
  have g : ∀ {c : Addr} {o : HO}, H c = some o → (∀ C d l, o ≠ .ins C d l) → (∀ l, o ≠ .lst l) → H' c = some o := fun {c o} e n1 n2 => f c o e (fun z => n1 _ _ _ (by rw [z, hh] at e; exact (Option.some.inj e).symm)) (fun z => n2 xs (by rw [z, hb] at e; exact (Option.some.inj e).symm))
  exact ⟨wd, pp, us, g h1 (fun _ _ _ z => nomatch z) (fun _ z => nomatch z), f _ _ h2 (fun z => by rw [z, hh] at h2; cases h2) n, Paired.mono (fun _ _ ⟨t, e, h⟩ => ⟨t, e, g h (fun _ _ _ z => nomatch z) (fun _ z => nomatch z)⟩) h3, g h4 (fun _ _ _ z => nomatch z) (fun _ z => nomatch z), g h5 (fun _ _ _ z => nomatch z) (fun _ z => nomatch z)⟩
section
variable {σ : L2.St} {H : Hp} {Q : VK}
theorem w_dispH {trs : List (TE × TE)} (q : ∀ p H1, H1 p = some (.dK []) → Nw p H H1 → tPairs trs σ H1 fun ps H2 => H2 p = some (.dK []) ∧ ∃ kvs : List (Key × V), ps = kvs.map (fun kv => (kV kv.1, kv.2)) ∧ kvs.length ≤ 15 ∧ Q (.ref p) (upd H2 p (.dK (mergeK [] kvs)))) : tDisp trs σ H Q := fun p n => q p _ upd_same (.mk' n)
theorem w_pairsC {tk tv : TE} {r : List (TE × TE)} {R : List (V × V) → Hp → Prop} (q : tk σ H fun x H1 => tv σ H1 fun y H2 => tPairs r σ H2 fun ps H3 => R ((x, y) :: ps) H3) : tPairs ((tk, tv) :: r) σ H R := q
theorem w_pairsN {R : List (V × V) → Hp → Prop} (q : R [] H) : tPairs [] σ H R := q
end
section
variable {P : Program} {w : World} {K : PySem.W.Frag} {mg : Str → Option Value} {base : Heap}
def spLba : Sp := fun vs H Q _ => vs = [] ∧ ∀ (d ln : Addr) (H' : Hp), H d = none → H ln = none → Same H H' → LsAt H' d ln emp → Q (.ref d) H'
theorem sc_lba : FnScope [] [] (defScope s__law_bare) := ⟨rfl, rfl, rfl, by decide +kernel, rfl, by decide +kernel, by decide +kernel⟩
theorem has_lba (F : FnAt K mg "_law_bare" s__law_bare []) : Has P w K mg base 1 "_law_bare" [] spLba := F.has fun F => by
  refine F.ok sc_lba (fun vs H Q E h => ?_) (fun cdv A outer s H vs Q E hr h => ?_)
  · obtain ⟨rfl, _⟩ := h
    rfl
  · obtain ⟨rfl, q⟩ := h
    refine ⟨_, (pss_one (ps_ret (pe_disp (pps_cons pe_str (pe_lst pa_nil) (pps_cons pe_str pe_int (pps_cons pe_str pe_dnewK (pps_cons pe_str pe_dnewK pps_nil)))) (by rfl) (by rfl) (fun z => by cases z) (by decide)))), ?_⟩
    walk_at "go"
    refine w_dispH (fun p H1 hp np => ?_)
    refine w_pairsC ?_
    walk_at "go"
    refine w_newL (by walk_at "sz") (fun ln H2 hl nl => ?_)
    refine w_pairsC ?_
    walk_at "go"
    refine w_pairsC ?_
    walk_at "go"
    refine w_dnewK (fun wd H3 hw nw => ?_)
    refine w_pairsC ?_
    walk_at "go"
    refine w_dnewK (fun pp H4 hpp npp => ?_)
    refine w_pairsN ?_
    have hp4 := npp.at (nw.at (nl.at hp))
    refine ⟨hp4, lsK ln wd pp 1, rfl, by show 4 ≤ 15; decide, ?_⟩
    rw [ls_new]
    have lp : ln ≠ p := (nl.ne hp).symm
    have wp : wd ≠ p := (nw.ne (nl.at hp)).symm
    have ppp : pp ≠ p := (npp.ne (nw.at (nl.at hp))).symm
    refine q p ln _ np.nn ?_ (fun c o e => ?_) ⟨wd, pp, [], upd_same, ?_, .nil, ?_, ?_⟩
    · cases z : H ln with
      | none => rfl
      | some o => have := nl.nn; rw [np.at z] at this; cases this
    · rw [upd_ne (ne_of_none e np.nn)]
      exact npp.at (nw.at (nl.at (np.at e)))
    · rw [upd_ne lp]
      exact npp.at (nw.at hl)
    · rw [upd_ne wp]
      exact npp.at hw
    · rw [upd_ne ppp]
      exact hpp
end
end Sf
namespace Sf
open PySem PySem.Spec PyProof.Rows L2 TL
section
variable {P : Program} {w : World} {K : PySem.W.Frag} {mg : Str → Option Value} {base : Heap}
/-! ### words and names by the law -/
theorem sc_lgn : FnScope ["_law_text", "_law_sign_here"] ["_law_text"] (defScope s__law_good_name) := ⟨rfl, rfl, rfl, by decide +kernel, rfl, by decide +kernel, by decide +kernel⟩
theorem has_lgn (F : FnAt K mg "_law_good_name" s__law_good_name ["_law_text"]) (B : Blt mg) : Has P w K mg base 1 "_law_good_name" ["_law_text"] spIsn := F.has fun F => by
  refine F.ok sc_lgn (fun vs H Q E h => ?_) (fun cdv A outer s H vs Q E hr h => ?_)
  · obtain ⟨x, rfl, _⟩ := h
    rfl
  · obtain ⟨x, rfl, hx, q⟩ := h
    refine ⟨_, (pss_one (ps_ret (pe_and (pe_chain op_le op_le pe_int (pe_callB call_lenS (by rfl) B.len PySem.boot_len (pa_cons (pv 0) pa_nil)) pe_int) (pe_one (pe_callB (cr_all rfl) (by rfl) B.all (by decide +kernel) (pa_cons (pe_lc (own := [("_law_sign_here", 1)]) (g := gName 1) (tt := tYes) (by rfl) sc_lgn.nd (pi_str (pv 0)) (blkOk_by (own := [("_law_sign_here", 1)]) (N := ["_law_text", "_law_sign_here"]) (sc := defScope s__law_good_name) (by decide +kernel)) (fun _ _ _ _ _ => pg_name (i := 1) sc_lgn.nd rfl (.inl rfl)) (fun _ _ _ _ _ => pts_nil) (fun _ _ _ _ _ => (pe_cmpR op_inSg (pv 1) pe_str rfl))) pa_nil)))))), ?_⟩
    have xl : (tl x).length = x.length := (len_tl x).symm
    have e1 : decide ((1 : Int) ≤ (x.length : Nat)) = decide (1 ≤ x.length) := decide_eq_decide.mpr (by omega)
    have e2 : decide (((x.length : Nat) : Int) ≤ 8) = decide (x.length ≤ 8) := decide_eq_decide.mpr (by omega)
    walk_at "go"
    refine w_lenS (line_of (by omega)) ?_
    walk_at "go"
    unfold isN at q
    refine w_chain2 (fun h1 => ?_) (fun h1 => ?_)
    · rw [decide_eq_true (show 1 ≤ x.length by omega)] at q
      walk_at "go"
      rw [e2]
      cases h2 : decide (x.length ≤ 8) with
      | false =>
        rw [h2] at q
        walk_at "go"
        exact q H (.refl _)
      | true =>
        rw [h2] at q
        walk_at "go"
        refine w_lcS (fun r i H1 => Same H H1 ∧ H r = none ∧ H1 r = some (.lst (((tl x).take i).map fun c => V.bl (lowc c)))) (fun r H1 h1 n1 => ⟨n1.same, n1.nn, h1⟩) ?_ ?_
        · rintro r i c H1 hc ⟨s1, rn, r1⟩
          have hil : i < (tl x).length := (List.getElem?_eq_some_iff.mp hc).1
          walk_at "go"
          rw [show decide (c ∈ (Str.ofString "abcdefghijklmnopqrstuvwxyz").cps.toList) = lowc c from dec_low]
          refine w_kIt r1 (by rw [List.length_map, List.length_take]; exact lineLt_of (by omega)) (fun H2 h2 o2 => ⟨s1.off o2 rn, rn, ?_⟩)
          rw [h2, take_snoc hc, List.map_append]
          rfl
        · rintro r H1 ⟨s1, rn, r1⟩
          rw [List.take_length] at r1
          walk_at "go"
          have r2 : H1 r = some (.lst (((tl x).map lowc).map V.bl)) := by rw [r1, List.map_map]; rfl
          refine w_all r2 ?_
          have e3 : ((tl x).map lowc).all id = (tl x).all lowc := by rw [List.all_map]; rfl
          rw [e3]
          exact q H1 s1
    · rw [decide_eq_false (show ¬ 1 ≤ x.length by omega)] at q
      walk_at "go"
      exact q H (.refl _)
def spIsw : Sp := fun vs H Q _ => ∃ x : Str, vs = [.str x] ∧ x.length ≤ 100000 ∧ ∀ H', Same H H' → Q (.bl (isW x)) H'
theorem sc_lgw : FnScope ["_law_text", "_law_sign_here"] ["_law_text"] (defScope s__law_good_word) := ⟨rfl, rfl, rfl, by decide +kernel, rfl, by decide +kernel, by decide +kernel⟩
theorem has_lgw (F : FnAt K mg "_law_good_word" s__law_good_word ["_law_text"]) (B : Blt mg) : Has P w K mg base 1 "_law_good_word" ["_law_text"] spIsw := F.has fun F => by
  refine F.ok sc_lgw (fun vs H Q E h => ?_) (fun cdv A outer s H vs Q E hr h => ?_)
  · obtain ⟨x, rfl, _⟩ := h
    rfl
  · obtain ⟨x, rfl, hx, q⟩ := h
    refine ⟨_, (pss_one (ps_ret (pe_and (pe_cmpR op_le (pe_callB call_lenS (by rfl) B.len PySem.boot_len (pa_cons (pv 0) pa_nil)) pe_int (nomark _)) (pe_one (pe_callB (cr_all rfl) (by rfl) B.all (by decide +kernel) (pa_cons (pe_lc (own := [("_law_sign_here", 1)]) (g := gName 1) (tt := tYes) (by rfl) sc_lgw.nd (pi_str (pv 0)) (blkOk_by (own := [("_law_sign_here", 1)]) (N := ["_law_text", "_law_sign_here"]) (sc := defScope s__law_good_word) (by decide +kernel)) (fun _ _ _ _ _ => pg_name (i := 1) sc_lgw.nd rfl (.inl rfl)) (fun _ _ _ _ _ => pts_nil) (fun _ _ _ _ _ => (pe_cmpR op_inSg (pv 1) pe_str rfl))) pa_nil)))))), ?_⟩
    have xl : (tl x).length = x.length := (len_tl x).symm
    have e2 : decide (((x.length : Nat) : Int) ≤ 60) = decide (x.length ≤ 60) := decide_eq_decide.mpr (by omega)
    walk_at "go"
    refine w_lenS (line_of (by omega)) ?_
    walk_at "go"
    unfold isW at q
    rw [e2]
    cases h2 : decide (x.length ≤ 60) with
    | false =>
      rw [h2] at q
      walk_at "go"
      exact q H (.refl _)
    | true =>
      rw [h2] at q
      walk_at "go"
      refine w_lcS (fun r i H1 => Same H H1 ∧ H r = none ∧ H1 r = some (.lst (((tl x).take i).map fun c => V.bl (sgn c)))) (fun r H1 h1 n1 => ⟨n1.same, n1.nn, h1⟩) ?_ ?_
      · rintro r i c H1 hc ⟨s1, rn, r1⟩
        have hil : i < (tl x).length := (List.getElem?_eq_some_iff.mp hc).1
        walk_at "go"
        rw [show decide (c ∈ (Str.ofString "aAbBcCdDeEfFgGhH").cps.toList) = sgn c from dec_signs]
        refine w_kIt r1 (by rw [List.length_map, List.length_take]; exact lineLt_of (by omega)) (fun H2 h2 o2 => ⟨s1.off o2 rn, rn, ?_⟩)
        rw [h2, take_snoc hc, List.map_append]
        rfl
      · rintro r H1 ⟨s1, rn, r1⟩
        rw [List.take_length] at r1
        walk_at "go"
        have r2 : H1 r = some (.lst (((tl x).map sgn).map V.bl)) := by rw [r1, List.map_map]; rfl
        refine w_all r2 ?_
        have e3 : ((tl x).map sgn).all id = (tl x).all sgn := by rw [List.all_map]; rfl
        rw [e3]
        exact q H1 s1
end
end Sf
namespace Sf
open PySem PySem.Spec PyProof.Rows L2 TL
def rDictD : List V → Hp → VK → Prop := fun xs H Q => ∃ (a : Addr) (kvs : List (Key × V)), xs = [.ref a] ∧ Rd H a (.dK kvs) ∧ ∀ p, H p = none → Q (.ref p) (upd H p (.dK kvs))
theorem call_dictDN {X : Cx} : CallR X (.type "dict") rDictD := call_dictD
end Sf
namespace Sf
open PySem PySem.Spec PyProof.Rows L2 TL
section
variable {ln ln' wd wd' pp pp' : Addr} {c : Nat} {z : V}
theorem kns1 : ¬ kCo = kLn := fun h => kne1 h.symm
theorem kns2 : ¬ kWs = kLn := fun h => kne2 h.symm
theorem kns3 : ¬ kWs = kCo := fun h => kne3 h.symm
theorem kns4 : ¬ kPp = kLn := fun h => kne4 h.symm
theorem kns5 : ¬ kPp = kCo := fun h => kne5 h.symm
theorem kns6 : ¬ kPp = kWs := fun h => kne6 h.symm
theorem any_hasK {k : Key} {v : V} {l : List (Key × V)} (h : (k, v) ∈ l) : (l.any fun kv => decide (kv.1 = k)) = true := List.any_eq_true.mpr ⟨_, h, decide_eq_true rfl⟩
theorem ls_putw : putK (lsK ln wd pp c) kWs (.ref wd') = lsK ln wd' pp c := by
  unfold putK
  rw [if_pos (any_hasK (show (kWs, V.ref wd) ∈ lsK ln wd pp c from List.mem_cons_of_mem _ (List.mem_cons_of_mem _ List.mem_cons_self)))]
  unfold lsK
  simp only [List.map_cons, List.map_nil, if_neg kne2, if_neg kne3, if_neg kns6, if_true, ite_true]
theorem ls_putp : putK (lsK ln wd pp c) kPp (.ref pp') = lsK ln wd pp' c := by
  unfold putK
  rw [if_pos (any_hasK (show (kPp, V.ref pp) ∈ lsK ln wd pp c from List.mem_cons_of_mem _ (List.mem_cons_of_mem _ (List.mem_cons_of_mem _ List.mem_cons_self))))]
  unfold lsK
  simp only [List.map_cons, List.map_nil, if_neg kne4, if_neg kne5, if_neg kne6, if_true, ite_true]
theorem ls_putl : putK (lsK ln wd pp c) kLn (.ref ln') = lsK ln' wd pp c := by
  unfold putK
  rw [if_pos (any_hasK (show (kLn, V.ref ln) ∈ lsK ln wd pp c from List.mem_cons_self))]
  unfold lsK
  simp only [List.map_cons, List.map_nil, if_neg kns1, if_neg kns2, if_neg kns4, if_true, ite_true]
theorem ls_putc {c' : Nat} : putK (lsK ln wd pp c) kCo (.int (c' : Nat)) = lsK ln wd pp c' := by
  unfold putK
  rw [if_pos (any_hasK (show (kCo, V.int (c : Nat)) ∈ lsK ln wd pp c from List.mem_cons_of_mem _ List.mem_cons_self))]
  unfold lsK
  simp only [List.map_cons, List.map_nil, if_neg kne1, if_neg kns3, if_neg kns5, if_true, ite_true]
end
/-- the law's state by its parts -/
structure LsX (H : Hp) (d ln wd pp : Addr) (us : List V) (M : StM) : Prop where
  o : H d = some (.dK (lsK ln wd pp M.fol))
  l : H ln = some (.lst us)
  ls : Paired (LnT H) us M.prs
  w : H wd = some (.dK (txK M.txs))
  p : H pp = some (.dK [])
theorem LsX.at_ {H : Hp} {d ln wd pp : Addr} {us : List V} {M : StM} (h : LsX H d ln wd pp us M) : LsAt H d ln M := ⟨wd, pp, us, h.o, h.l, h.ls, h.w, h.p⟩
section
variable {σ : L2.St} {H : Hp} {Q : VK}
theorem w_lcK {d : Addr} {o : Obj} {kvs : List (Key × V)} {g : TG} {tt : TT} {te : TE} {vs : List Nat} (Pv : Addr → Nat → Hp → Prop) (h0 : ∀ p H1, H1 p = some (.lst []) → Nw p H H1 → Pv p 0 H1) (hl : ∀ p i H, i ≤ kvs.length → Pv p i H → H d = some (.frz o (.dK kvs)))
    (hs : ∀ p i k v H, kvs[i]? = some (k, v) → Pv p i H → g (kV k) (wipe σ vs) H (kEach tt te vs σ p (Pv p (i + 1)))) (hd : ∀ p H, Pv p kvs.length H → Q (.ref p) H) : kLc g tt te vs σ Q (Itk d o kvs) H := by
  refine w_lcG (n := kvs.length) Pv h0 (fun p i H hi h => ⟨hl p i H (Nat.le_of_lt hi) h, hi⟩) (fun p H h => ⟨hl p _ H (Nat.le_refl _) h, Nat.le_refl _⟩) ?_ hd
  rintro p i x H H' hi h ⟨rfl, k, v, hk, rfl⟩
  exact hs p i k v H' hk h
end
section
variable {P : Program} {w : World} {K : PySem.W.Frag} {mg : Str → Option Value} {base : Heap}
def spLcp : Sp := fun vs H Q _ => ∃ (d ln wd pp : Addr) (us : List V) (M : StM), vs = [.ref d] ∧ LsX H d ln wd pp us M ∧ us.length ≤ 1000 ∧
  ∀ (d' ln' wd' pp' : Addr) (H' : Hp), H d' = none → H ln' = none → H wd' = none → H pp' = none → wd' ≠ pp' → d' ≠ wd' → d' ≠ pp' → Same H H' → LsX H' d' ln' wd' pp' us M → Q (.ref d') H'
theorem sc_lcp : FnScope ["_law_state", "_law_key", "_law_found"] ["_law_state"] (defScope s__law_copy) := ⟨rfl, rfl, rfl, by decide +kernel, rfl, by decide +kernel, by decide +kernel⟩
theorem has_lcp (F : FnAt K mg "_law_copy" s__law_copy ["_law_state"]) (B : Blt mg) (Ndict : mg "dict" = none) : Has P w K mg base 1 "_law_copy" ["_law_state"] spLcp := F.has fun F => by
  refine F.ok sc_lcp (fun vs H Q E h => ?_) (fun cdv A outer s H vs Q E hr h => ?_)
  · obtain ⟨d, ln, wd, pp, us, M, rfl, _⟩ := h
    rfl
  · obtain ⟨d, ln, wd, pp, us, M, rfl, L, hul, q⟩ := h
    refine ⟨_, (pss_cons (ps_set (i := 2) sc_lcp.nd rfl (.inl rfl) (pe_callTy (call_dictP rfl) (by rfl) Ndict (by decide +kernel) (pa_cons (pe_lock (pe_lc (own := [("_law_key", 1)]) (g := gName 1) (tt := tYes) (te := tTup (tCons (tVar 1) (tCons (tDGet (tVar 0) (tVar 1)) tNil))) (by rfl) sc_lcp.nd (pi_keys (pv 0)) (blkOk_by (own := [("_law_key", 1)]) (N := ["_law_state", "_law_key", "_law_found"]) (sc := defScope s__law_copy) (by decide +kernel)) (fun _ _ _ _ _ => pg_name (i := 1) sc_lcp.nd rfl (.inl rfl)) (fun _ _ _ _ _ => pts_nil) (fun _ _ _ _ _ => by exact (pe_tup (pa_cons (pv 1) (pa_cons (pe_dget (hu_of hr) (pv 0) (pv 1) (fun _ _ => rfl)) pa_nil)))))) pa_nil))) (pss_cons (ps_dput (hu_of hr) (pv 2) pe_str (pe_callTy call_dictDN (by rfl) Ndict (by decide +kernel) (pa_cons (pe_dget (hu_of hr) (pv 0) pe_str (fun _ _ => rfl)) pa_nil)) rfl) (pss_cons (ps_dput (hu_of hr) (pv 2) pe_str (pe_callTy call_dictDN (by rfl) Ndict (by decide +kernel) (pa_cons (pe_dget (hu_of hr) (pv 0) pe_str (fun _ _ => rfl)) pa_nil)) rfl) (pss_cons (ps_dput (hu_of hr) (pv 2) pe_str (pe_callTy call_listO (by rfl) B.list (by decide +kernel) (pa_cons (pe_dget (hu_of hr) (pv 0) pe_str (fun _ _ => rfl)) pa_nil)) rfl) (pss_one (ps_ret (pv 2))))))), ?_⟩
    have hd := L.o
    walk_at "go"
    refine w_lockE hd True.intro (fun od => ?_)
    generalize hG : upd H d (.frz od (.dK (lsK ln wd pp M.fol))) = G
    have gP : G d = some (.frz od (.dK (lsK ln wd pp M.fol))) := by rw [← hG, upd_same]
    have kG : ∀ a x, H a = some x → a ≠ d → G a = some x := fun a x e n => by rw [← hG, upd_ne n]; exact e
    walk_at "go"
    refine w_ikeysH ?_
    walk_at "go"
    refine w_keysH gP ?_
    refine w_lcK (fun r i H1 => Same G H1 ∧ G r = none ∧ ∃ ts : List Addr, H1 r = some (.lst (ts.map V.ref)) ∧ Paired (fun t kv => H1 t = some (.tup [kV kv.1, kv.2])) ts ((lsK ln wd pp M.fol).take i)) (fun r H1 h1 n1 => ⟨n1.same, n1.nn, [], h1, .nil⟩) (fun r i H1 _ h => h.1.at gP) ?_ ?_
    · rintro r i k v H1 hk ⟨s1, nr, ts, hr1, hT⟩
      have hil : i < (lsK ln wd pp M.fol).length := (List.getElem?_eq_some_iff.mp hk).1
      have h4 : (lsK ln wd pp M.fol).length = 4 := rfl
      have htl : ts.length = ((lsK ln wd pp M.fol).take i).length := Paired.length hT
      rw [List.length_take] at htl
      walk_at "go"
      have ev : valV (lsK ln wd pp M.fol) k = some v := valV_at ls_nd hk
      refine ⟨d, v, rfl, .inl ⟨_, k, .inr ⟨od, s1.at gP⟩, rfl, ev.symm⟩, ?_⟩
      walk_at "go"
      refine w_newT (by walk_at "sz") (fun t H2 ht nt => ?_)
      refine w_kIt (nt.at hr1) (by rw [List.length_map]; exact lineLt_of (by omega)) (fun H3 h3 o3 => ?_)
      have tr : t ≠ r := (nt.ne hr1).symm
      refine ⟨(s1.nw nt).off o3 nr, nr, ts ++ [t], by rw [h3, List.map_append]; rfl, ?_⟩
      rw [take_snoc hk]
      exact Paired.snoc (Paired.mono (fun u e h => o3.at (fun y => by rw [y, hr1] at h; cases h) (nt.at h)) hT) (o3.at tr ht)
    · rintro r H1 ⟨s1, nr, ts, hr1, hT⟩
      rw [List.take_length] at hT
      refine ⟨s1.at gP, ?_⟩
      have rd : r ≠ d := fun z => by rw [z, gP] at nr; cases nr
      generalize hH2 : upd H1 d (.dK (lsK ln wd pp M.fol)) = H2
      have k2 : ∀ a x, H1 a = some x → a ≠ d → H2 a = some x := fun a x e n => by rw [← hH2, upd_ne n]; exact e
      have s2 : Same H H2 := fun a x e => by
        by_cases z : a = d
        · rw [z, ← hH2, upd_same, ← hd, ← z]; exact e
        · exact k2 a x (s1 a x (kG a x e z)) z
      have hr3 : H r = none := by
        rw [← hG, upd_ne rd] at nr
        exact nr
      have hT2 : Paired (fun t kv => H2 t = some (.tup [kV kv.1, kv.2])) ts (lsK ln wd pp M.fol) := Paired.mono (fun u e h => k2 _ _ h (fun y => by rw [y, s1.at gP] at h; cases h)) hT
      walk_at "go"
      refine ⟨r, ts, lsK ln wd pp M.fol, rfl, SqL.of (k2 _ _ hr1 rd), Paired.mono (fun u e h => SqT.of h) hT2, fun d1 nd1 => ?_⟩
      rw [ls_new]
      generalize hH3 : upd H2 d1 (.dK (lsK ln wd pp M.fol)) = H3
      have h3 : H3 d1 = some (.dK (lsK ln wd pp M.fol)) := by rw [← hH3, upd_same]
      have s3 : Same H H3 := s2.trans (by rw [← hH3]; exact same_upd nd1)
      have nd : H d1 = none := s2.free nd1
      walk_at "go"
      have ll : ∀ {x y z : Addr} {c : Nat}, (lsK x y z c).length < sizeLine := lineLt_of (show 4 ≤ 100000 by decide)
      refine w_kDGetS (s3.at hd) (show valV _ kWs = _ from ls_ws) ?_
      walk_at "go"
      refine ⟨wd, txK M.txs, rfl, .inl (s3.at L.w), fun w1 nw1 => ?_⟩
      generalize hH4 : upd H3 w1 (.dK (txK M.txs)) = H4
      have h4 : H4 w1 = some (.dK (txK M.txs)) := by rw [← hH4, upd_same]
      have s34 : Same H3 H4 := by rw [← hH4]; exact same_upd nw1
      have w1d : w1 ≠ d1 := fun z => by rw [z, h3] at nw1; cases nw1
      walk_at "go"
      refine w_kDPutS (s34.at h3) ll (fun H5 h5 o5 => ?_)
      rw [show putK (lsK ln wd pp M.fol) (Sum.inr (Str.ofString "words")) (.ref w1) = lsK ln w1 pp M.fol from ls_putw] at h5
      have S5 : Same H H5 := (s3.trans s34).off o5 nd
      have w5 := o5.at w1d h4
      walk_at "go"
      refine w_kDGetS (S5.at hd) (show valV _ kPp = _ from ls_pp) ?_
      walk_at "go"
      refine ⟨pp, [], rfl, .inl (S5.at L.p), fun p1 np1 => ?_⟩
      generalize hH6 : upd H5 p1 (.dK []) = H6
      have h6 : H6 p1 = some (.dK []) := by rw [← hH6, upd_same]
      have s56 : Same H5 H6 := by rw [← hH6]; exact same_upd np1
      have p1d : p1 ≠ d1 := fun z => by rw [z, h5] at np1; cases np1
      have w1p : w1 ≠ p1 := fun z => by rw [← z, w5] at np1; cases np1
      walk_at "go"
      refine w_kDPutS (s56.at h5) ll (fun H7 h7 o7 => ?_)
      rw [show putK (lsK ln w1 pp M.fol) (Sum.inr (Str.ofString "papers")) (.ref p1) = lsK ln w1 p1 M.fol from ls_putp] at h7
      have S7 : Same H H7 := (S5.trans s56).off o7 nd
      walk_at "go"
      refine w_kDGetS (S7.at hd) (show valV _ kLn = _ from ls_ln) ?_
      walk_at "go"
      refine w_listL (S7.at L.l) (fun l1 H8 hl1 nl1 => ?_)
      walk_at "go"
      refine w_kDPutS (nl1.at h7) ll (fun H9 h9 o9 => ?_)
      rw [show putK (lsK ln w1 p1 M.fol) (Sum.inr (Str.ofString "lines")) (.ref l1) = lsK l1 w1 p1 M.fol from ls_putl] at h9
      have S9 : Same H H9 := (S7.trans nl1.same).off o9 nd
      have l1d : l1 ≠ d1 := (nl1.ne h7).symm
      walk_at "go"
      have fw : H w1 = none := s3.free nw1
      have fp : H p1 = none := S5.free np1
      have fl : H l1 = none := S7.free nl1.nn
      refine q d1 l1 w1 p1 H9 nd fl fw fp w1p w1d.symm p1d.symm S9 ⟨h9, o9.at l1d hl1, Paired.mono (fun u e ⟨t, e1, h⟩ => ⟨t, e1, S9.at h⟩) L.ls, o9.at w1d (nl1.at (o7.at w1d (s56.at w5))), o9.at p1d (nl1.at (o7.at p1d h6))⟩
end
end Sf
namespace Sf
open PySem PySem.Spec PyProof.Rows L2 TL
section
variable {σ : L2.St} {H : Hp} {Q : VK}
theorem w_lockSH {σ : L2.St} {H : Hp} {D : Ends} {t : TS} {d : Addr} {u : HO} (h : H d = some u) (mu : Mut (some u)) (q : ∀ od, t ⟨fun σ' H' => H' d = some (.frz od u) ∧ D.nx σ' (upd H' d u), fun v H' => H' d = some (.frz od u) ∧ D.rt v (upd H' d u), fun σ' H' => H' d = some (.frz od u) ∧ D.bk σ' (upd H' d u), fun σ' H' => H' d = some (.frz od u) ∧ D.ct σ' (upd H' d u)⟩ σ (upd H d (.frz od u))) : tLock t D σ H := ⟨d, u, h, mu, q⟩
theorem w_keysLH {σ : L2.St} {H : Hp} {d : Addr} {o : Obj} {kvs : List (Key × V)} {g : TG} {tb : TS} {nx : L2.St → Hp → Prop} {rt : VK} {bk ct : L2.St → Hp → Prop} (Pv : Nat → L2.St → Hp → Prop) (h0 : Pv 0 σ H) (hl : ∀ i σ H, Pv i σ H → H d = some (.frz o (.dK kvs)))
    (hs : ∀ i k v σ H, kvs[i]? = some (k, v) → Pv i σ H → g (kV k) σ H fun σ2 H2 => tb ⟨Pv (i + 1), rt, nx, Pv (i + 1)⟩ σ2 H2) (hd : ∀ σ H, Pv kvs.length σ H → nx σ H) : kFor g tb ⟨nx, rt, bk, ct⟩ σ (Itk d o kvs) H := by
  refine for_gen (n := kvs.length) Pv h0 (fun i σ H hi p => ⟨hl i σ H p, hi⟩) (fun σ H p => ⟨hl _ σ H p, Nat.le_refl _⟩) ?_ hd
  rintro i x σ H H' hi p ⟨rfl, k, v, hk, rfl⟩
  exact hs i k v σ H' hk p
def kDPop1H (ty : TE) (σ : L2.St) (Q : VK) : VK := fun x H1 => ∃ a, x = .ref a ∧ IsD H1 a ∧ ty σ H1 fun y H2 => ∃ kvs k v, H2 a = some (.dK kvs) ∧ y = kV k ∧ valV kvs k = some v ∧ Q v (upd H2 a (.dK (dropK kvs k)))
def kDPop1bH (a : Addr) (Q : VK) : VK := fun y H2 => ∃ kvs k v, H2 a = some (.dK kvs) ∧ y = kV k ∧ valV kvs k = some v ∧ Q v (upd H2 a (.dK (dropK kvs k)))
theorem w_dpop1H {td ty : TE} (q : td σ H (kDPop1H ty σ Q)) : tDPop1 td ty σ H Q := q
theorem w_kDPop1H {a : Addr} {kvs : List (Key × V)} {ty : TE} (h : H a = some (.dK kvs)) (q : ty σ H (kDPop1bH a Q)) : kDPop1H ty σ Q (.ref a) H := ⟨a, rfl, .inl ⟨kvs, .of h⟩, q⟩
theorem w_kDPop1bH {a : Addr} {kvs : List (Key × V)} {k : Key} {v : V} (h : H a = some (.dK kvs)) (e : valV kvs k = some v) (q : ∀ H1, H1 a = some (.dK (dropK kvs k)) → Of a H H1 → Q v H1) : kDPop1bH a Q (kV k) H := ⟨kvs, k, v, h, rfl, e, q _ upd_same .mk'⟩
end
/-! ### the law's state behind a deed -/
theorem dropT_K (l : List (Str × Str)) (n : Str) : dropK (txK l) (.inr n) = txK (delT l n) := by
  unfold dropK txK delT
  rw [List.filter_map]
  congr 1
  refine List.filter_congr fun e _ => ?_
  show decide (¬ ((Sum.inr e.1 : Key) = Sum.inr n)) = !decide (e.1 = n)
  rw [decide_not]
  congr 1
  exact decide_eq_decide.mpr ⟨fun z => Sum.inr.inj z, fun z => by rw [z]⟩
theorem delN_snoc (l : List (Int × Clm)) (e : Int × Clm) (n : Int) : delN (l ++ [e]) n = delN l n ++ (if e.1 = n then [] else [e]) := by
  unfold delN
  rw [List.filter_append, List.filter_cons, List.filter_nil]
  by_cases h : e.1 = n
  · rw [decide_eq_true h, if_pos h]
    rfl
  · rw [decide_eq_false h, if_neg h]
    rfl
inductive EntR : Str → List V → StM → StM → Prop
  | like {M : StM} (l r : Str) : EntR (Str.ofString "like") [.str l, .str r] M (addL M l r)
  | strike {M : StM} (n : Int) : EntR (Str.ofString "strike") [.int n] M (strM M n)
  | put {M : StM} (n x : Str) : EntR (Str.ofString "put") [.str n, .str x] M (putM M n x)
  | forget {M : StM} (n : Str) : lkT M.txs n ≠ none → EntR (Str.ofString "forget") [.str n] M (delM M n)
section
variable {P : Program} {w : World} {K : PySem.W.Frag} {mg : Str → Option Value} {base : Heap}
def spLen : Sp := fun vs H Q _ => ∃ (d ln wd pp t : Addr) (us : List V) (M M' : StM) (z : Str) (as : List V) (v : V), vs = [.ref d, .ref t, v] ∧ LsX H d ln wd pp us M ∧ us.length ≤ 100 ∧ M.pps = [] ∧ M.txs.length ≤ 100 ∧ H t = some (.tup (.str z :: as)) ∧ EntR z as M M' ∧
  ∀ (d' ln' : Addr) (H' : Hp), H d' = none → H ln' = none → Same H H' → LsAt H' d' ln' M' → Q (.ref d') H'
theorem sc_len : FnScope ["_law_state", "_law_deed_here", "_law_paper", "_law_after", "_law_line", "_law_label"] ["_law_state", "_law_deed_here", "_law_paper"] (defScope s__law_entered) := ⟨rfl, rfl, rfl, by decide +kernel, rfl, by decide +kernel, by decide +kernel⟩
theorem has_len (F : FnAt K mg "_law_entered" s__law_entered ["_law_state", "_law_deed_here", "_law_paper"]) (B : Blt mg) (h_Lcp : Has P w K mg base 1 "_law_copy" ["_law_state"] spLcp) : Has P w K mg base 2 "_law_entered" ["_law_state", "_law_deed_here", "_law_paper"] spLen := F.has fun F => by
  obtain ⟨f_Lcp, fd_Lcp, g_Lcp, k_Lcp, b_Lcp, G_Lcp⟩ := h_Lcp
  refine F.ok sc_len (fun vs H Q E h => ?_) (fun cdv A outer s H vs Q E hr h => ?_)
  · obtain ⟨d, ln, wd, pp, t, us, M, M', z, as, v, rfl, _⟩ := h
    rfl
  · obtain ⟨d, ln, wd, pp, t, us, M, M', z, as, v, rfl, L, hul, hpn, htl, ht, hR, q⟩ := h
    refine ⟨_, (pss_cons (ps_set (i := 3) sc_len.nd rfl (.inl rfl) (pe_call G_Lcp (hr.mono (by decide)) (by rfl) g_Lcp k_Lcp b_Lcp .nil pass0 (pa_cons (pv 0) pa_nil))) (pss_cons (ps_if (pt_cmpR op_eq (pe_ix ix_tup (pv 1) pe_int (fun _ _ => rfl)) pe_str (nomark _)) (pss_cons (ps_expr (pe_bm PySem.F.plainAttrs_list PySem.F.slot_list_append PySem.F.type_list_append mt_append (pe_dget (hu_of hr) (pv 3) pe_str (fun _ _ => rfl)) (pa_cons (pe_tup (pa_cons (pe_dget (hu_of hr) (pv 0) pe_str (fun _ _ => rfl)) (pa_cons (pe_ix ix_tup (pv 1) pe_int (fun _ _ => rfl)) (pa_cons (pe_ix ix_tup (pv 1) pe_int (fun _ _ => rfl)) pa_nil)))) pa_nil))) (pss_one (ps_dput (hu_of hr) (pv 3) pe_str (pe_op op_add (pe_dget (hu_of hr) (pv 0) pe_str (fun _ _ => rfl)) pe_int) rfl))) (pss_one (ps_if (pt_cmpR op_eq (pe_ix ix_tup (pv 1) pe_int (fun _ _ => rfl)) pe_str (nomark _)) (pss_cons (ps_dput (hu_of hr) (pv 3) pe_str (pe_lc (own := [("_law_line", 4)]) (g := gName 4) (tt := tTest (tOp rNe (tOp (rIxT K) (tVar 4) (tC (.int 0))) (tOp (rIxT K) (tVar 1) (tC (.int 1))))) (by rfl) sc_len.nd (pi_list (pe_dget (hu_of hr) (pv 0) pe_str (fun _ _ => rfl))) (blkOk_by (own := [("_law_line", 4)]) (N := ["_law_state", "_law_deed_here", "_law_paper", "_law_after", "_law_line", "_law_label"]) (sc := defScope s__law_entered) (by decide +kernel)) (fun _ _ _ _ _ => pg_name (i := 4) sc_len.nd rfl (.inl rfl)) (fun _ _ _ _ _ => by exact pts_one (pt_cmpR op_ne (pe_ix ix_tup (pv 4) pe_int (fun _ _ => rfl)) (pe_ix ix_tup (pv 1) pe_int (fun _ _ => rfl)) (nomark _))) (fun _ _ _ _ _ => (pv 4))) rfl) (pss_one (ps_lock (ps_for PassesOwn.never rfl (pi_keys (pe_dget (hu_of hr) (pv 0) pe_str (fun _ _ => rfl))) (pg_name (i := 5) sc_len.nd rfl (.inl rfl)) (pss_one (ps_if (pt_cmpR op_in_seq (pe_ix ix_tup (pv 1) pe_int (fun _ _ => rfl)) (pe_ix ix_seq (pe_dget (hu_of hr) (pe_dget (hu_of hr) (pv 0) pe_str (fun _ _ => rfl)) (pv 5) (fun _ _ => rfl)) pe_int (fun _ _ => rfl)) rfl) (pss_one (ps_expr (pe_dpop1 (pe_dget (hu_of hr) (pv 3) pe_str (fun _ _ => rfl)) (pv 5) ⟨rfl, rfl, rfl, rfl⟩))) pss_nil)))))) (pss_one (ps_if (pt_cmpR op_eq (pe_ix ix_tup (pv 1) pe_int (fun _ _ => rfl)) pe_str (nomark _)) (pss_one (ps_dput (hu_of hr) (pe_dget (hu_of hr) (pv 3) pe_str (fun _ _ => rfl)) (pe_ix ix_tup (pv 1) pe_int (fun _ _ => rfl)) (pe_ix ix_tup (pv 1) pe_int (fun _ _ => rfl)) rfl)) (pss_one (ps_if (pt_cmpR op_eq (pe_ix ix_tup (pv 1) pe_int (fun _ _ => rfl)) pe_str (nomark _)) (pss_one (ps_expr (pe_dpop1 (pe_dget (hu_of hr) (pv 3) pe_str (fun _ _ => rfl)) (pe_ix ix_tup (pv 1) pe_int (fun _ _ => rfl)) ⟨rfl, rfl, rfl, rfl⟩))) (pss_one (ps_if (pt_cmpR op_eq (pe_ix ix_tup (pv 1) pe_int (fun _ _ => rfl)) pe_str (nomark _)) (pss_one (ps_expr (pe_dpop1 (pe_dget (hu_of hr) (pv 3) pe_str (fun _ _ => rfl)) (pe_ix ix_tup (pv 1) pe_int (fun _ _ => rfl)) ⟨rfl, rfl, rfl, rfl⟩))) (pss_one (ps_dput (hu_of hr) (pe_dget (hu_of hr) (pv 3) pe_str (fun _ _ => rfl)) (pe_ix ix_tup (pv 1) pe_int (fun _ _ => rfl)) (pv 2) rfl))))))))))) (pss_one (ps_ret (pv 3))))), ?_⟩
    walk_at "go"
    refine ⟨d, ln, wd, pp, us, M, rfl, L, by omega, fun d1 l1 w1 p1 H1 nd nl nw np nwp ndw ndp s1 L1 => ?_⟩
    have hd := s1.at L.o
    have ht1 := s1.at ht
    have ll : ∀ {x y z : Addr} {c : Nat}, (lsK x y z c).length < sizeLine := lineLt_of (show 4 ≤ 100000 by decide)
    have l1d : l1 ≠ d1 := ne_of L1.l L1.o (by intro z; cases z)
    have hl1 := L1.l
    have hln := s1.at L.l
    cases hR with
    | like l r =>
      walk_at "go"
      rw [decide_eq_true rfl]
      walk_at "go"
      refine w_kDGetS L1.o (show valV _ kLn = _ from ls_ln) ?_
      walk_at "go"
      refine w_kDGetS hd (show valV _ kCo = _ from ls_co) ?_
      walk_at "go"
      refine w_newT (by walk_at "sz") (fun t2 H2 ht2 nt2 => ?_)
      walk_at "go"
      refine w_append (nt2.at L1.l) (lineLt_of (by omega)) (fun H3 h3 o3 => ?_)
      have d1l : d1 ≠ l1 := l1d.symm
      have S3 : Same H H3 := (s1.nw nt2).off o3 nl
      have t2l : t2 ≠ l1 := (nt2.ne L1.l).symm
      walk_at "go"
      refine w_kDGetS (S3.at L.o) (show valV _ kCo = _ from ls_co) ?_
      walk_at "go"
      refine w_kDPutS (o3.at d1l (nt2.at L1.o)) ll (fun H4 h4 o4 => ?_)
      rw [show putK (lsK l1 w1 p1 M.fol) (Sum.inr (Str.ofString "coming")) (.int ((M.fol : Int) + 1)) = lsK l1 w1 p1 (M.fol + 1) from ls_putc (c' := M.fol + 1)] at h4
      walk_at "go"
      have S4 : Same H H4 := S3.off o4 nd
      have w1d : w1 ≠ d1 := ndw.symm
      have p1d : p1 ≠ d1 := ndp.symm
      have w1l : w1 ≠ l1 := ne_of L1.w L1.l (by intro z; cases z)
      have p1l : p1 ≠ l1 := ne_of L1.p L1.l (by intro z; cases z)
      refine q d1 l1 H4 nd nl S4 ⟨w1, p1, us ++ [.ref t2], h4, o4.at l1d h3, ?_, o4.at w1d (o3.at w1l (nt2.at L1.w)), o4.at p1d (o3.at p1l (nt2.at L1.p))⟩
      show Paired (LnT H4) (us ++ [.ref t2]) (M.prs ++ [((M.fol : Int), (l, r))])
      refine Paired.snoc (Paired.mono (fun u e ⟨t, e1, h⟩ => ⟨t, e1, S4.at h⟩) L.ls) ⟨t2, rfl, o4.at (fun z => ?_) (o3.at t2l ht2)⟩
      rw [z, nt2.at L1.o] at ht2
      cases ht2
    | strike n =>
      walk_at "go"
      rw [decide_eq_false (show ¬ Str.ofString "strike" = Str.ofString "like" by decide +kernel)]
      walk_at "go"
      rw [decide_eq_true rfl]
      walk_at "go"
      refine w_kDGetS hd (show valV _ kLn = _ from ls_ln) ?_
      refine w_kList hln ?_
      refine w_lcL (xs := us) (fun r i H2 => ∃ vs, H2 r = some (.lst vs) ∧ Paired (LnT H2) vs (delN (M.prs.take i) n) ∧ vs.length ≤ i ∧ Same H1 H2 ∧ H1 r = none) (fun r H2 h n => ⟨[], h, .nil, Nat.le_refl _, n.same, n.nn⟩) (fun r i H2 _ ⟨_, _, _, _, s, _⟩ => s.at hln) ?_ ?_
      · rintro r i v H2 hv ⟨vs, hr2, hV, hvl, s2, nr⟩
        obtain ⟨e, he, t3, rfl, ht3⟩ := paired_get L.ls hv
        have hil : i < us.length := (List.getElem?_eq_some_iff.mp hv).1
        have ht4 := s2.at (s1.at ht3)
        have ht2 := s2.at ht1
        walk_at "go"
        rw [take_snoc he, delN_snoc]
        by_cases h : e.1 = n
        · rw [decide_eq_true h, Bool.not_true, if_pos h, List.append_nil]
          exact w_tstF ⟨vs, hr2, hV, by omega, s2, nr⟩
        · rw [decide_eq_false h, Bool.not_false, if_neg h]
          refine w_tstT ?_
          walk_at "go"
          refine w_kIt hr2 (lineLt_of (show vs.length ≤ 100000 by omega)) (fun H3 h3 o3 => ⟨_, h3, ?_, by rw [List.length_append]; exact Nat.succ_le_succ hvl, s2.off o3 nr, nr⟩)
          have T3 : Same H1 H3 := s2.off o3 nr
          exact Paired.snoc (Paired.mono (fun u e ⟨t, e1, h⟩ => ⟨t, e1, o3.at (fun y => by rw [y, hr2] at h; cases h) h⟩) hV) ⟨t3, rfl, T3.at (s1.at ht3)⟩
      · rintro r H2 ⟨vs, hr2, hV, hvl, s2, nr⟩
        have hml : us.length = M.prs.length := Paired.length L.ls
        rw [hml, List.take_length] at hV
        have S2 : Same H H2 := s1.trans s2
        have rd : r ≠ d1 := fun z => by rw [z, L1.o] at nr; cases nr
        walk_at "go"
        refine w_kDPutS (s2.at L1.o) ll (fun H3 h3 o3 => ?_)
        rw [show putK (lsK l1 w1 p1 M.fol) (Sum.inr (Str.ofString "lines")) (.ref r) = lsK r w1 p1 M.fol from ls_putl] at h3
        have S3 : Same H H3 := S2.off o3 nd
        walk_at "go"
        refine w_lockSH (S3.at L.p) True.intro (fun od => ?_)
        walk_at "go"
        refine w_ikeysH ?_
        walk_at "go"
        have dpp : d ≠ pp := fun z => by
          have h1 := L.o
          rw [z, L.p] at h1
          cases h1
        have pp3 := S3.at L.p
        have hEq : upd (upd H3 pp (.frz od (.dK []))) pp (.dK []) = H3 := by
          funext c
          by_cases z : c = pp
          · rw [z, upd_same, pp3]
          · rw [upd_ne z, upd_ne z]
        refine w_kDGetS (show (upd H3 pp (.frz od (.dK []))) d = _ by rw [upd_ne dpp]; exact S3.at L.o) (show valV _ kPp = _ from ls_pp) ?_
        refine w_keysH upd_same ?_
        refine w_keysLH (fun _ σ' H' => σ' = _ ∧ H' = _) ⟨rfl, rfl⟩ ?_ ?_ ?_
        · rintro _ σ' H' ⟨rfl, rfl⟩
          exact upd_same
        · rintro j k v' σ' H' hk _
          cases hk
        · rintro σ' H' ⟨rfl, rfl⟩
          refine ⟨upd_same, ?_⟩
          rw [hEq]
          walk_at "go"
          have w1r : w1 ≠ d1 := ndw.symm
          have p1r : p1 ≠ d1 := ndp.symm
          have e : (strM M n).pps = [] := by show M.pps.filter _ = []; rw [hpn]; rfl
          refine q d1 r H3 nd (s1.free nr) S3 ⟨w1, p1, vs, h3, o3.at rd hr2, Paired.mono (fun u e ⟨t, e1, h⟩ => ⟨t, e1, o3.at (fun y => by rw [y, s2.at L1.o] at h; cases h) h⟩) hV, o3.at w1r (s2.at L1.w), o3.at p1r (s2.at L1.p)⟩
    | put n x =>
      walk_at "go"
      rw [decide_eq_false (show ¬ Str.ofString "put" = Str.ofString "like" by decide +kernel)]
      walk_at "go"
      rw [decide_eq_false (show ¬ Str.ofString "put" = Str.ofString "strike" by decide +kernel)]
      walk_at "go"
      rw [decide_eq_true rfl]
      walk_at "go"
      refine w_kDGetS L1.o (show valV _ kWs = _ from ls_ws) ?_
      walk_at "go"
      refine w_kDPutS L1.w (by rw [show (txK M.txs).length = M.txs.length from List.length_map _]; exact lineLt_of (by omega)) (fun H2 h2 o2 => ?_)
      rw [putT_K] at h2
      walk_at "go"
      have w1d : d1 ≠ w1 := ndw
      have l1w : l1 ≠ w1 := ne_of L1.l L1.w (by intro z; cases z)
      have S2 : Same H H2 := s1.off o2 nw
      exact q d1 l1 H2 nd nl S2 ⟨w1, p1, us, o2.at w1d L1.o, o2.at l1w L1.l, Paired.mono (fun u e ⟨t, e1, h⟩ => ⟨t, e1, S2.at h⟩) L.ls, h2, o2.at nwp.symm L1.p⟩
    | forget n hn =>
      walk_at "go"
      rw [decide_eq_false (show ¬ Str.ofString "forget" = Str.ofString "like" by decide +kernel)]
      walk_at "go"
      rw [decide_eq_false (show ¬ Str.ofString "forget" = Str.ofString "strike" by decide +kernel)]
      walk_at "go"
      rw [decide_eq_false (show ¬ Str.ofString "forget" = Str.ofString "put" by decide +kernel)]
      walk_at "go"
      rw [decide_eq_true rfl]
      walk_at "go"
      refine w_dpop1H ?_
      walk_at "go"
      refine w_kDGetS L1.o (show valV _ kWs = _ from ls_ws) ?_
      refine w_kDPop1H L1.w ?_
      walk_at "go"
      obtain ⟨y, hy⟩ : ∃ y, lkT M.txs n = some y := Option.ne_none_iff_exists'.mp hn
      refine w_kDPop1bH (k := .inr n) (v := .str y) L1.w ?_ (fun H2 h2 o2 => ?_)
      · rw [valV_tx, hy]
        rfl
      · walk_at "go"
        have w1d : d1 ≠ w1 := ndw
        have l1w : l1 ≠ w1 := ne_of L1.l L1.w (by intro z; cases z)
        have S2 : Same H H2 := s1.off o2 nw
        refine q d1 l1 H2 nd nl S2 ⟨w1, p1, us, o2.at w1d L1.o, o2.at l1w L1.l, Paired.mono (fun u e ⟨t, e1, h⟩ => ⟨t, e1, S2.at h⟩) L.ls, ?_, o2.at nwp.symm L1.p⟩
        rw [h2, dropT_K]
        rfl
end
end Sf
namespace Sf
open PySem PySem.Spec PyProof.Rows L2 TL
theorem w_inLI {K : PySem.W.Frag} {H : Hp} {Q : VK} {x : Int} {p : Addr} {l : List Int} (h : H p = some (.lst (l.map V.int))) (q : Q (.bl (l.any fun m => decide (m = x))) H) : rIn K false (.int x) (.ref p) H Q := by
  refine ⟨p, _, rfl, .inl (SqL.of h), rfl, ?_, ?_⟩
  · rw [List.all_map]
    exact List.all_eq_true.mpr fun _ _ => rfl
  · show Q (.bl (inV _ _)) H
    rw [inV_intsH]
    exact q
/-! ### the word of the refusal that is due -/
def likeW (M : StM) (l r : Str) : Str := if (isW l && isW r) = false then Str.ofString "badword" else if 12 < l.length ∨ 12 < r.length then Str.ofString "toolong" else if 12 ≤ M.prs.length then Str.ofString "full" else Str.ofString ""
def strikeW (M : StM) (n : Int) : Str := if hasN M n = true then Str.ofString "" else Str.ofString "noline"
def putW (M : StM) (n x : Str) : Str := if isN n = false then Str.ofString "badname" else if isW x = false then Str.ofString "badword" else if lkT M.txs n = none ∧ 20 ≤ M.txs.length then Str.ofString "full" else Str.ofString ""
def forgetW (M : StM) (n : Str) : Str := if lkT M.txs n = none then Str.ofString "noname" else Str.ofString ""
inductive DwR : Str → List V → StM → Str → Prop
  | like {M : StM} (l r : Str) : l.length ≤ 100000 → r.length ≤ 100000 → DwR (Str.ofString "like") [.str l, .str r] M (likeW M l r)
  | strike {M : StM} (n : Int) : DwR (Str.ofString "strike") [.int n] M (strikeW M n)
  | put {M : StM} (n x : Str) : n.length ≤ 100000 → x.length ≤ 100000 → DwR (Str.ofString "put") [.str n, .str x] M (putW M n x)
  | forget {M : StM} (n : Str) : DwR (Str.ofString "forget") [.str n] M (forgetW M n)
  | unshelve {M : StM} (n : Str) : NmT n → DwR (Str.ofString "unshelve") [.str n] M (Str.ofString "noname")
section
variable {P : Program} {w : World} {K : PySem.W.Frag} {mg : Str → Option Value} {base : Heap}
def spLdw : Sp := fun vs H Q _ => ∃ (d ln wd pp t : Addr) (us : List V) (M : StM) (z : Str) (as : List V) (y : Str), vs = [.ref d, .ref t] ∧ LsX H d ln wd pp us M ∧ us.length ≤ 100 ∧ M.txs.length ≤ 100 ∧ H t = some (.tup (.str z :: as)) ∧ DwR z as M y ∧ ∀ H', Same H H' → Q (.str y) H'
theorem sc_ldw : FnScope ["_law_state", "_law_deed_here", "_law_word_here", "_law_line", "_law_told_here"] ["_law_state", "_law_deed_here"] (defScope s__law_deed_word) := ⟨rfl, rfl, rfl, by decide +kernel, rfl, by decide +kernel, by decide +kernel⟩
theorem has_ldw (F : FnAt K mg "_law_deed_word" s__law_deed_word ["_law_state", "_law_deed_here"]) (B : Blt mg) (Nmax : mg "max" = none) (h_Lgw : Has P w K mg base 1 "_law_good_word" ["_law_text"] spIsw) (h_Lgn : Has P w K mg base 1 "_law_good_name" ["_law_text"] spIsn) : Has P w K mg base 2 "_law_deed_word" ["_law_state", "_law_deed_here"] spLdw := F.has fun F => by
  obtain ⟨f_Lgw, fd_Lgw, g_Lgw, k_Lgw, b_Lgw, G_Lgw⟩ := h_Lgw
  obtain ⟨f_Lgn, fd_Lgn, g_Lgn, k_Lgn, b_Lgn, G_Lgn⟩ := h_Lgn
  refine F.ok sc_ldw (fun vs H Q E h => ?_) (fun cdv A outer s H vs Q E hr h => ?_)
  · obtain ⟨d, ln, wd, pp, t, us, M, z, as, y, rfl, _⟩ := h
    rfl
  · obtain ⟨d, ln, wd, pp, t, us, M, z, as, y, rfl, L, hul, htl, ht, hR, q⟩ := h
    refine ⟨_, pss_cons (ps_set (i := 2) sc_ldw.nd rfl (.inl rfl) (pe_ix ix_tup (pv 1) pe_int (fun _ _ => rfl))) (pss_cons (ps_if (pt_cmpR op_eq (pv 2) pe_str (nomark _)) (pss_cons (ps_if (PW.pt (pw_or (pt_not (pt_val (pe_call G_Lgw (hr.mono (by decide)) (by rfl) g_Lgw k_Lgw b_Lgw .nil pass0 (pa_cons (pe_ix ix_tup (pv 1) pe_int (fun _ _ => rfl)) pa_nil)))) (pw_or1 (pt_not (pt_val (pe_call G_Lgw (hr.mono (by decide)) (by rfl) g_Lgw k_Lgw b_Lgw .nil pass0 (pa_cons (pe_ix ix_tup (pv 1) pe_int (fun _ _ => rfl)) pa_nil))))))) (pss_one (ps_ret pe_str)) pss_nil) (pss_cons (ps_if (pt_cmpR op_gt (pe_callB (call_max2N rfl) (by rfl) Nmax (by decide +kernel) (pa_cons (pe_callB call_lenS (by rfl) B.len PySem.boot_len (pa_cons (pe_ix ix_tup (pv 1) pe_int (fun _ _ => rfl)) pa_nil)) (pa_cons (pe_callB call_lenS (by rfl) B.len PySem.boot_len (pa_cons (pe_ix ix_tup (pv 1) pe_int (fun _ _ => rfl)) pa_nil)) pa_nil))) pe_int (nomark _)) (pss_one (ps_ret pe_str)) pss_nil) (pss_one (ps_ret (pe_ifExp (pt_cmpR op_gt (pe_callB call_lenQ (by rfl) B.len PySem.boot_len (pa_cons (pe_dget (hu_of hr) (pv 0) pe_str (fun _ _ => rfl)) pa_nil)) pe_int (nomark _)) pe_str pe_str))))) pss_nil) (pss_cons (ps_if (pt_cmpR op_eq (pv 2) pe_str (nomark _)) (pss_one (ps_ret (pe_ifExp (pt_cmpR op_in_seq (pe_ix ix_tup (pv 1) pe_int (fun _ _ => rfl)) (pe_lc (own := [("_law_line", 3)]) (g := gName 3) (tt := tYes) (te := tOp (rIxT K) (tVar 3) (tC (.int 0))) (by rfl) sc_ldw.nd (pi_list (pe_dget (hu_of hr) (pv 0) pe_str (fun _ _ => rfl))) (blkOk_by (own := [("_law_line", 3)]) (N := ["_law_state", "_law_deed_here", "_law_word_here", "_law_line", "_law_told_here"]) (sc := defScope s__law_deed_word) (by decide +kernel)) (fun _ _ _ _ _ => pg_name (i := 3) sc_ldw.nd rfl (.inl rfl)) (fun _ _ _ _ _ => pts_nil) (fun _ _ _ _ _ => by exact (pe_ix ix_tup (pv 3) pe_int (fun _ _ => rfl)))) rfl) pe_str pe_str))) pss_nil) (pss_cons (ps_if (pt_cmpR op_eq (pv 2) pe_str (nomark _)) (pss_cons (ps_if (pt_not (pt_val (pe_call G_Lgn (hr.mono (by decide)) (by rfl) g_Lgn k_Lgn b_Lgn .nil pass0 (pa_cons (pe_ix ix_tup (pv 1) pe_int (fun _ _ => rfl)) pa_nil)))) (pss_one (ps_ret pe_str)) pss_nil) (pss_cons (ps_if (pt_not (pt_val (pe_call G_Lgw (hr.mono (by decide)) (by rfl) g_Lgw k_Lgw b_Lgw .nil pass0 (pa_cons (pe_ix ix_tup (pv 1) pe_int (fun _ _ => rfl)) pa_nil)))) (pss_one (ps_ret pe_str)) pss_nil) (pss_one (ps_ret (pe_ifExp (PW.pt (pw_and (pt_cmp (pc_dnotin (hu_of hr) (pe_ix ix_tup (pv 1) pe_int (fun _ _ => rfl)) (pe_dget (hu_of hr) (pv 0) pe_str (fun _ _ => rfl)))) (pw_and1 (pt_cmpR op_gt (pe_callB call_lenDc (by rfl) B.len PySem.boot_len (pa_cons (pe_dget (hu_of hr) (pv 0) pe_str (fun _ _ => rfl)) pa_nil)) pe_int (nomark _))))) pe_str pe_str))))) pss_nil) (pss_cons (ps_if (pt_cmpR op_eq (pv 2) pe_str (nomark _)) (pss_one (ps_ret (pe_ifExp (pt_cmp (pc_din (hu_of hr) (pe_ix ix_tup (pv 1) pe_int (fun _ _ => rfl)) (pe_dget (hu_of hr) (pv 0) pe_str (fun _ _ => rfl)))) pe_str pe_str))) pss_nil) (pss_cons (ps_if (pt_cmpR op_eq (pv 2) pe_str (nomark _)) (pss_one (ps_ret (pe_ifExp (pt_cmp (pc_din (hu_of hr) (pe_ix ix_tup (pv 1) pe_int (fun _ _ => rfl)) (pe_dget (hu_of hr) (pv 0) pe_str (fun _ _ => rfl)))) pe_str pe_str))) pss_nil) (pss_cons ps_never (pss_cons ps_never (pss_cons ps_never (pss_cons ps_never (pss_cons ps_never (pss_one ps_never))))))))))), ?_⟩
    have hd := L.o
    have hln := L.l
    have hml : us.length = M.prs.length := Paired.length L.ls
    cases hR with
    | like l r hl hr' =>
      unfold likeW at q
      walk_at "go"
      rw [decide_eq_true rfl]
      walk_at "go"
      refine ⟨l, rfl, hl, fun H1 s1 => ?_⟩
      have ht1 := s1.at ht
      cases e1 : isW l with
      | false =>
        rw [e1, Bool.false_and, if_pos rfl] at q
        walk_at "go"
        exact q H1 s1
      | true =>
        walk_at "go"
        refine ⟨r, rfl, hr', fun H2 s2 => ?_⟩
        have s12 := s1.trans s2
        have ht2 := s12.at ht
        rw [e1, Bool.true_and] at q
        cases e2 : isW r with
        | false =>
          rw [e2, if_pos rfl] at q
          walk_at "go"
          exact q H2 s12
        | true =>
          rw [e2, if_neg (fun z => nomatch z)] at q
          walk_at "go"
          refine w_lenS (line_of (by omega)) ?_
          walk_at "go"
          refine w_lenS (line_of (by omega)) ?_
          walk_at "go"
          refine w_if2 (fun h => ?_) (fun h => ?_)
          · rw [if_pos (show 12 < l.length ∨ 12 < r.length by split at h <;> omega)] at q
            walk_at "go"
            exact q H2 s12
          · rw [if_neg (show ¬ (12 < l.length ∨ 12 < r.length) by split at h <;> omega)] at q
            have hln2 := s12.at hln
            walk_at "go"
            refine w_kDGetS (s12.at hd) (show valV _ kLn = _ from ls_ln) ?_
            walk_at "go"
            refine w_ifE2 (fun h2 => ?_) (fun h2 => ?_)
            · rw [if_pos (show 12 ≤ M.prs.length by omega)] at q
              walk_at "go"
              exact q H2 s12
            · rw [if_neg (show ¬ 12 ≤ M.prs.length by omega)] at q
              walk_at "go"
              exact q H2 s12
    | strike n =>
      unfold strikeW at q
      walk_at "go"
      rw [decide_eq_false (show ¬ Str.ofString "strike" = Str.ofString "like" by decide +kernel)]
      walk_at "go"
      rw [decide_eq_true rfl]
      walk_at "go"
      refine w_kDGetS hd (show valV _ kLn = _ from ls_ln) ?_
      refine w_kList hln ?_
      refine w_lcL (xs := us) (fun r i H2 => Same H H2 ∧ H r = none ∧ H2 r = some (.lst (((M.prs.take i).map (·.1)).map V.int))) (fun r H2 h n => ⟨n.same, n.nn, h⟩) (fun r i H2 _ h => h.1.at hln) ?_ ?_
      · rintro r i v H2 hv ⟨s2, nr, hr2⟩
        obtain ⟨e, he, t3, rfl, ht3⟩ := paired_get L.ls hv
        have hil : i < us.length := (List.getElem?_eq_some_iff.mp hv).1
        have ht4 := s2.at ht3
        walk_at "go"
        refine w_kIt hr2 (by rw [List.length_map, List.length_map, List.length_take]; exact lineLt_of (by omega)) (fun H3 h3 o3 => ⟨s2.off o3 nr, nr, ?_⟩)
        rw [h3, take_snoc he, List.map_append, List.map_append]
        rfl
      · rintro r H2 ⟨s2, nr, hr2⟩
        rw [hml, List.take_length] at hr2
        refine w_inLI hr2 ?_
        rw [List.any_map]
        have eh : (M.prs.any ((fun m : Int => decide (m = n)) ∘ fun x => x.1)) = hasN M n := rfl
        rw [eh]
        cases e : hasN M n with
        | true =>
          rw [e, if_pos rfl] at q
          walk_at "go"
          exact q H2 s2
        | false =>
          rw [e, if_neg (fun z => nomatch z)] at q
          walk_at "go"
          exact q H2 s2
    | put n x hn hx =>
      unfold putW at q
      walk_at "go"
      rw [decide_eq_false (show ¬ Str.ofString "put" = Str.ofString "like" by decide +kernel)]
      walk_at "go"
      rw [decide_eq_false (show ¬ Str.ofString "put" = Str.ofString "strike" by decide +kernel)]
      walk_at "go"
      rw [decide_eq_true rfl]
      walk_at "go"
      refine ⟨n, rfl, hn, fun H1 s1 => ?_⟩
      have ht1 := s1.at ht
      cases e1 : isN n with
      | false =>
        rw [e1, if_pos rfl] at q
        walk_at "go"
        exact q H1 s1
      | true =>
        rw [e1, if_neg (fun z => nomatch z)] at q
        walk_at "go"
        refine ⟨x, rfl, hx, fun H2 s2 => ?_⟩
        have s12 := s1.trans s2
        have ht2 := s12.at ht
        cases e2 : isW x with
        | false =>
          rw [e2, if_pos rfl] at q
          walk_at "go"
          exact q H2 s12
        | true =>
          rw [e2, if_neg (fun z => nomatch z)] at q
          walk_at "go"
          have hw2 := s12.at L.w
          have tkl : (txK M.txs).length = M.txs.length := List.length_map _
          refine w_kDGetS (s12.at hd) (show valV _ kWs = _ from ls_ws) ?_
          walk_at "go"
          rw [valV_tx]
          cases e : lkT M.txs n with
          | some y =>
            rw [if_neg (fun z => by rw [e] at z; cases z.1)] at q
            refine w_andF ?_
            walk_at "go"
            exact q H2 s12
          | none =>
            refine w_andT ?_
            walk_at "go"
            refine w_kDGetS (s12.at hd) (show valV _ kWs = _ from ls_ws) ?_
            walk_at "go"
            rw [tkl]
            refine w_ifE2 (fun h2 => ?_) (fun h2 => ?_)
            · rw [if_pos ⟨e, by omega⟩] at q
              walk_at "go"
              exact q H2 s12
            · rw [if_neg (fun z => h2 (by omega))] at q
              walk_at "go"
              exact q H2 s12
    | forget n =>
      unfold forgetW at q
      walk_at "go"
      rw [decide_eq_false (show ¬ Str.ofString "forget" = Str.ofString "like" by decide +kernel)]
      walk_at "go"
      rw [decide_eq_false (show ¬ Str.ofString "forget" = Str.ofString "strike" by decide +kernel)]
      walk_at "go"
      rw [decide_eq_false (show ¬ Str.ofString "forget" = Str.ofString "put" by decide +kernel)]
      walk_at "go"
      rw [decide_eq_true rfl]
      walk_at "go"
      have hw := L.w
      refine w_kDGetS hd (show valV _ kWs = _ from ls_ws) ?_
      walk_at "go"
      rw [valV_tx]
      cases e : lkT M.txs n with
      | some y =>
        rw [if_neg (by rw [e]; exact fun z => nomatch z)] at q
        refine w_ifET ?_
        walk_at "go"
        exact q H (.refl _)
      | none =>
        rw [if_pos e] at q
        refine w_ifEF ?_
        walk_at "go"
        exact q H (.refl _)
    | unshelve n hn =>
      walk_at "go"
      rw [decide_eq_false (show ¬ Str.ofString "unshelve" = Str.ofString "like" by decide +kernel)]
      walk_at "go"
      rw [decide_eq_false (show ¬ Str.ofString "unshelve" = Str.ofString "strike" by decide +kernel)]
      walk_at "go"
      rw [decide_eq_false (show ¬ Str.ofString "unshelve" = Str.ofString "put" by decide +kernel)]
      walk_at "go"
      rw [decide_eq_false (show ¬ Str.ofString "unshelve" = Str.ofString "forget" by decide +kernel)]
      walk_at "go"
      rw [decide_eq_true rfl]
      walk_at "go"
      have hpp := L.p
      refine w_kDGetS hd (show valV _ kPp = _ from ls_pp) ?_
      walk_at "go"
      rw [show valV ([] : List (Key × V)) (Sum.inr n) = none from rfl]
      refine w_ifEF ?_
      walk_at "go"
      exact q H (.refl _)
end
end Sf
namespace Sf
open PySem PySem.Spec PyProof.Rows L2 TL
section
variable {P : Program} {w : World} {K : PySem.W.Frag} {mg : Str → Option Value} {base : Heap}
/-! ### what a deed that is let by tells -/
def spLva : Sp := fun vs H Q _ => ∃ (d ln wd pp t : Addr) (us : List V) (M : StM) (z : Str) (as : List V), vs = [.ref d, .ref t] ∧ LsX H d ln wd pp us M ∧ H t = some (.tup (.str z :: as)) ∧
  ((z = Str.ofString "like" ∧ Q (.int (M.fol : Nat)) H) ∨ (z = Str.ofString "strike" ∧ ∀ (r : Addr) (H' : Hp), H r = none → Same H H' → H' r = some (.lst []) → Q (.ref r) H') ∨ (z ≠ Str.ofString "like" ∧ z ≠ Str.ofString "strike" ∧ Q .non H))
theorem sc_lva : FnScope ["_law_state", "_law_deed_here", "_law_label"] ["_law_state", "_law_deed_here"] (defScope s__law_value) := ⟨rfl, rfl, rfl, by decide +kernel, rfl, by decide +kernel, by decide +kernel⟩
theorem has_lva (F : FnAt K mg "_law_value" s__law_value ["_law_state", "_law_deed_here"]) (B : Blt mg) : Has P w K mg base 1 "_law_value" ["_law_state", "_law_deed_here"] spLva := F.has fun F => by
  refine F.ok sc_lva (fun vs H Q E h => ?_) (fun cdv A outer s H vs Q E hr h => ?_)
  · obtain ⟨d, ln, wd, pp, t, us, M, z, as, rfl, _⟩ := h
    rfl
  · obtain ⟨d, ln, wd, pp, t, us, M, z, as, rfl, L, ht, hR⟩ := h
    refine ⟨_, (pss_cons (ps_if (pt_cmpR op_eq (pe_ix ix_tup (pv 1) pe_int (fun _ _ => rfl)) pe_str (nomark _)) (pss_one (ps_ret (pe_dget (hu_of hr) (pv 0) pe_str (fun _ _ => rfl)))) pss_nil) (pss_cons (ps_if (pt_cmpR op_eq (pe_ix ix_tup (pv 1) pe_int (fun _ _ => rfl)) pe_str (nomark _)) (pss_one (ps_ret (pe_callB cr_sorted (by rfl) B.sorted (by decide +kernel) (pa_cons (pe_lock (pe_lc (own := [("_law_label", 2)]) (g := gName 2) (tt := tTest (tOp (rIn K false) (tOp (rIxT K) (tVar 1) (tC (.int 1))) (tOp (rIx K) (tDGet (tDGet (tVar 0) (tC (.str (Str.ofString "papers")))) (tVar 2)) (tC (.int 2))))) (by rfl) sc_lva.nd (pi_keys (pe_dget (hu_of hr) (pv 0) pe_str (fun _ _ => rfl))) (blkOk_by (own := [("_law_label", 2)]) (N := ["_law_state", "_law_deed_here", "_law_label"]) (sc := defScope s__law_value) (by decide +kernel)) (fun _ _ _ _ _ => pg_name (i := 2) sc_lva.nd rfl (.inl rfl)) (fun _ _ _ _ _ => by exact pts_one (pt_cmpR op_in_seq (pe_ix ix_tup (pv 1) pe_int (fun _ _ => rfl)) (pe_ix ix_seq (pe_dget (hu_of hr) (pe_dget (hu_of hr) (pv 0) pe_str (fun _ _ => rfl)) (pv 2) (fun _ _ => rfl)) pe_int (fun _ _ => rfl)) rfl)) (fun _ _ _ _ _ => (pv 2)))) pa_nil)))) pss_nil) (pss_one (ps_ret pe_non)))), ?_⟩
    have hd := L.o
    walk_at "go"
    refine w_ixT ht (at0D _ _) ?_
    walk_at "go"
    rcases hR with ⟨rfl, q⟩ | ⟨rfl, q⟩ | ⟨n1, n2, q⟩
    · rw [decide_eq_true rfl]
      walk_at "go"
      exact w_kDGetS hd (show valV _ kCo = _ from ls_co) q
    · rw [decide_eq_false (show ¬ Str.ofString "strike" = Str.ofString "like" by decide +kernel)]
      walk_at "go"
      refine w_ixT ht (at0D _ _) ?_
      walk_at "go"
      rw [decide_eq_true rfl]
      walk_at "go"
      refine w_lockE L.p True.intro (fun od => ?_)
      walk_at "go"
      refine w_ikeysH ?_
      walk_at "go"
      have pp0 := L.p
      have dpp : d ≠ pp := fun z => by
        rw [z, pp0] at hd
        cases hd
      refine w_kDGetS (show (upd H pp (.frz od (.dK []))) d = _ by rw [upd_ne dpp]; exact hd) (show valV _ kPp = _ from ls_pp) ?_
      refine w_keysH upd_same ?_
      refine w_lcK (fun r i H2 => (upd H pp (.frz od (.dK []))) r = none ∧ Same (upd H pp (.frz od (.dK []))) H2 ∧ H2 r = some (.lst [])) (fun r H2 h n => ⟨n.nn, n.same, h⟩) (fun r i H2 _ h => h.2.1.at upd_same) ?_ ?_
      · rintro r i k v H2 hk _
        cases hk
      · rintro r H2 ⟨nr, s2, hr2⟩
        refine ⟨s2.at upd_same, ?_⟩
        have rp : r ≠ pp := fun z => by rw [z, upd_same] at nr; cases nr
        rw [upd_ne rp] at nr
        generalize hH3 : upd H2 pp (.dK []) = H3
        have s3 : Same H H3 := fun c o e => by
          rw [← hH3]
          by_cases z : c = pp
          · rw [z, pp0] at e
            rw [z, upd_same, ← e]
          · rw [upd_ne z]
            exact s2.at (by rw [upd_ne z]; exact e)
        have hr3 : H3 r = some (.lst []) := by rw [← hH3, upd_ne rp]; exact hr2
        walk_at "go"
        refine ⟨r, [], rfl, SqL.of hr3, by decide, fun ns' p pm _ np => ?_⟩
        have e0 : ns' = [] := List.eq_nil_of_length_eq_zero pm.length_eq
        rw [e0]
        exact q p _ (s3.free np) (s3.trans (same_upd np)) upd_same
    · rw [decide_eq_false n1]
      walk_at "go"
      refine w_ixT ht (at0D _ _) ?_
      walk_at "go"
      rw [decide_eq_false n2]
      walk_at "go"
      exact q
end
end Sf
namespace Sf
open PySem PySem.Spec PyProof.Rows L2 TL
section
variable {P : Program} {w : World} {K : PySem.W.Frag} {mg : Str → Option Value} {base : Heap} {CH CS CN CL CB CW CT CF : Addr}
/-! ### a deed told to the hall by the law -/
def spLdo (P : Program) (w : World) (CH CS CN CL CB CW CT CF : Addr) : Sp := fun vs H Q E => ∃ (h t : Addr) (z : Str) (as : List V), vs = [.ref h, .ref t] ∧ H t = some (.tup (.str z :: as)) ∧ (∃ (dx : Addr) (A : HA), H h = some (.ins CH dx (hlf A.st A.bh A.ah A.kp 0))) ∧
  deedS (spHlk P w CH CS CW CT CF) (spHst P w CH CS CL) (spHpt P w CH CS CB CW CF) (spHfg P w CH CS CN) (spHun P w CH CS CN) z fun sp => sp (.ref h :: as) H Q E
theorem sc_ldo : FnScope ["_law_house", "_law_deed_here"] ["_law_house", "_law_deed_here"] (defScope s__law_do) := ⟨rfl, rfl, rfl, by decide +kernel, rfl, by decide +kernel, by decide +kernel⟩
theorem has_ldo (F : FnAt K mg "_law_do" s__law_do ["_law_house", "_law_deed_here"]) (T_Hall : HLC K mg CH) (h_Hlk : HasMX P w K mg base CH 9 "like" ["self", "left", "right"] (spHlk P w CH CS CW CT CF)) (h_Hst : HasMX P w K mg base CH 9 "strike" ["self", "number"] (spHst P w CH CS CL)) (h_Hpt : HasMX P w K mg base CH 9 "put" ["self", "word_name", "word"] (spHpt P w CH CS CB CW CF))
    (h_Hfg : HasMX P w K mg base CH 9 "forget" ["self", "word_name"] (spHfg P w CH CS CN)) (h_Hun : HasMX P w K mg base CH 9 "unshelve" ["self", "label"] (spHun P w CH CS CN)) : HasX P w K mg base 10 "_law_do" ["_law_house", "_law_deed_here"] (spLdo P w CH CS CN CL CB CW CT CF) := by
  obtain ⟨f, fd, g, F, bb⟩ := F
  refine ⟨f, fd, g, F.kp, bb, ?_⟩
  obtain ⟨f_Hlk, fd_Hlk, m_Hlk, b_Hlk, G_Hlk⟩ := h_Hlk
  obtain ⟨f_Hst, fd_Hst, m_Hst, b_Hst, G_Hst⟩ := h_Hst
  obtain ⟨f_Hpt, fd_Hpt, m_Hpt, b_Hpt, G_Hpt⟩ := h_Hpt
  obtain ⟨f_Hfg, fd_Hfg, m_Hfg, b_Hfg, G_Hfg⟩ := h_Hfg
  obtain ⟨f_Hun, fd_Hun, m_Hun, b_Hun, G_Hun⟩ := h_Hun
  refine F.okX sc_ldo (fun vs H Q E h => ?_) (fun cdv A outer s H vs Q E hr h => ?_)
  · obtain ⟨h, t, z, as, rfl, _⟩ := h
    rfl
  · obtain ⟨h, t, z, as, rfl, ht, ⟨dx, B, hh⟩, hR⟩ := h
    refine ⟨_, pss_cons ((ps_if (pt_cmpR op_eq (pe_ix ix_tup (pv 1) pe_int (fun _ _ => rfl)) pe_str (nomark _)) (pss_one (ps_ret (pe_meth (pv 0) T_Hall.cl m_Hlk G_Hlk (hr.mono (by decide)) b_Hlk .nil (passes_call (takes_of rfl rfl rfl rfl) (fun _ _ _ _ h => h)) (pa_cons (pe_ix ix_tup (pv 1) pe_int (fun _ _ => rfl)) (pa_cons (pe_ix ix_tup (pv 1) pe_int (fun _ _ => rfl)) pa_nil))))) pss_nil)) (pss_cons ((ps_if (pt_cmpR op_eq (pe_ix ix_tup (pv 1) pe_int (fun _ _ => rfl)) pe_str (nomark _)) (pss_one (ps_ret (pe_meth (pv 0) T_Hall.cl m_Hst G_Hst (hr.mono (by decide)) b_Hst .nil (passes_call (takes_of rfl rfl rfl rfl) (fun _ _ _ _ h => h)) (pa_cons (pe_ix ix_tup (pv 1) pe_int (fun _ _ => rfl)) pa_nil)))) pss_nil)) (pss_cons ((ps_if (pt_cmpR op_eq (pe_ix ix_tup (pv 1) pe_int (fun _ _ => rfl)) pe_str (nomark _)) (pss_one (ps_ret (pe_meth (pv 0) T_Hall.cl m_Hpt G_Hpt (hr.mono (by decide)) b_Hpt .nil (passes_call (takes_of rfl rfl rfl rfl) (fun _ _ _ _ h => h)) (pa_cons (pe_ix ix_tup (pv 1) pe_int (fun _ _ => rfl)) (pa_cons (pe_ix ix_tup (pv 1) pe_int (fun _ _ => rfl)) pa_nil))))) pss_nil)) (pss_cons ((ps_if (pt_cmpR op_eq (pe_ix ix_tup (pv 1) pe_int (fun _ _ => rfl)) pe_str (nomark _)) (pss_one (ps_ret (pe_meth (pv 0) T_Hall.cl m_Hfg G_Hfg (hr.mono (by decide)) b_Hfg .nil (passes_call (takes_of rfl rfl rfl rfl) (fun _ _ _ _ h => h)) (pa_cons (pe_ix ix_tup (pv 1) pe_int (fun _ _ => rfl)) pa_nil)))) pss_nil)) (pss_cons ((ps_if (pt_cmpR op_eq (pe_ix ix_tup (pv 1) pe_int (fun _ _ => rfl)) pe_str (nomark _)) (pss_one (ps_ret (pe_meth (pv 0) T_Hall.cl m_Hun G_Hun (hr.mono (by decide)) b_Hun .nil (passes_call (takes_of rfl rfl rfl rfl) (fun _ _ _ _ h => h)) (pa_cons (pe_ix ix_tup (pv 1) pe_int (fun _ _ => rfl)) pa_nil)))) pss_nil)) (pss_one ps_never))))), ?_⟩
    rcases hR with ⟨rfl, q⟩ | ⟨rfl, q⟩ | ⟨rfl, q⟩ | ⟨rfl, q⟩ | ⟨rfl, q⟩
    · obtain ⟨h', A', M, N, l, r, e, q⟩ := id q
      obtain ⟨e1, rfl⟩ := List.cons.inj e
      cases e1
      walk_at "go"
      rw [decide_eq_true rfl]
      walk_at "go"
      refine w_kMeth hh (hk_no (by decide +kernel) (by decide +kernel) (by decide +kernel) (by decide +kernel) (by decide +kernel)) ?_
      walk_at "go"
      exact ⟨h, A', M, N, l, r, rfl, q⟩
    · obtain ⟨h', A', M, N, n, e, q⟩ := id q
      obtain ⟨e1, rfl⟩ := List.cons.inj e
      cases e1
      walk_at "go"
      rw [decide_eq_false (show ¬ Str.ofString "strike" = Str.ofString "like" by decide +kernel)]
      walk_at "go"
      rw [decide_eq_true rfl]
      walk_at "go"
      refine w_kMeth hh (hk_no (by decide +kernel) (by decide +kernel) (by decide +kernel) (by decide +kernel) (by decide +kernel)) ?_
      walk_at "go"
      exact ⟨h, A', M, N, n, rfl, q⟩
    · obtain ⟨h', A', M, N, n, x, e, q⟩ := id q
      obtain ⟨e1, rfl⟩ := List.cons.inj e
      cases e1
      walk_at "go"
      rw [decide_eq_false (show ¬ Str.ofString "put" = Str.ofString "like" by decide +kernel)]
      walk_at "go"
      rw [decide_eq_false (show ¬ Str.ofString "put" = Str.ofString "strike" by decide +kernel)]
      walk_at "go"
      rw [decide_eq_true rfl]
      walk_at "go"
      refine w_kMeth hh (hk_no (by decide +kernel) (by decide +kernel) (by decide +kernel) (by decide +kernel) (by decide +kernel)) ?_
      walk_at "go"
      exact ⟨h, A', M, N, n, x, rfl, q⟩
    · obtain ⟨h', A', M, N, n, e, q⟩ := id q
      obtain ⟨e1, rfl⟩ := List.cons.inj e
      cases e1
      walk_at "go"
      rw [decide_eq_false (show ¬ Str.ofString "forget" = Str.ofString "like" by decide +kernel)]
      walk_at "go"
      rw [decide_eq_false (show ¬ Str.ofString "forget" = Str.ofString "strike" by decide +kernel)]
      walk_at "go"
      rw [decide_eq_false (show ¬ Str.ofString "forget" = Str.ofString "put" by decide +kernel)]
      walk_at "go"
      rw [decide_eq_true rfl]
      walk_at "go"
      refine w_kMeth hh (hk_no (by decide +kernel) (by decide +kernel) (by decide +kernel) (by decide +kernel) (by decide +kernel)) ?_
      walk_at "go"
      exact ⟨h, A', M, N, n, rfl, q⟩
    · obtain ⟨h', A', M, N, n, e, q⟩ := id q
      obtain ⟨e1, rfl⟩ := List.cons.inj e
      cases e1
      walk_at "go"
      rw [decide_eq_false (show ¬ Str.ofString "unshelve" = Str.ofString "like" by decide +kernel)]
      walk_at "go"
      rw [decide_eq_false (show ¬ Str.ofString "unshelve" = Str.ofString "strike" by decide +kernel)]
      walk_at "go"
      rw [decide_eq_false (show ¬ Str.ofString "unshelve" = Str.ofString "put" by decide +kernel)]
      walk_at "go"
      rw [decide_eq_false (show ¬ Str.ofString "unshelve" = Str.ofString "forget" by decide +kernel)]
      walk_at "go"
      rw [decide_eq_true rfl]
      walk_at "go"
      refine w_kMeth hh (hk_no (by decide +kernel) (by decide +kernel) (by decide +kernel) (by decide +kernel) (by decide +kernel)) ?_
      walk_at "go"
      exact ⟨h, A', M, N, n, rfl, q⟩
end
end Sf
namespace Sf
open PySem PySem.Spec PyProof.Rows L2 TL
/-! ### several except clauses, each with a name, all the same -/
def dEnds (i : Nat) (D : Ends) : Ends := { nx := fun σ' H' => D.nx (σ'.set i none) H', rt := D.rt, bk := fun σ' H' => D.bk (σ'.set i none) H', ct := fun σ' H' => D.ct (σ'.set i none) H' }
def wManyA (K : PySem.W.Frag) (i : Nat) (Wout : WX) (D : Ends) : List (Value × (Addr → Value → Option Addr → TS)) → WX
  | [] => Wout
  | (c, ts) :: r => fun cls d σ H => ∃ b, PySem.W.exmOne K cls c = some b ∧ (b = true → ∀ a, H a = none → ts a cls d (dEnds i D) (σ.set i (some (.ref a))) H) ∧ (b = false → wManyA K i Wout D r cls d σ H)
inductive HdsA (X : Cx) (n : Str) : List ExceptHandler → List (Value × (Addr → Value → Option Addr → TS)) → Prop
  | nil : HdsA X n [] []
  | cons {x : Str} {c : Value} {ts : Addr → Value → Option Addr → TS} {b₀ : Stmt} {suite : List Stmt} {np pos' : Pos} {hds : List ExceptHandler} {l : List (Value × (Addr → Value → Option Addr → TS))} (hc : Names X x c)
      (hsu : ∀ (a : Addr) (oe : Obj) (cls : Value) (d : Option Addr) (pn : List (Addr × Obj)), Zc cls d oe → (∃ vs, oe.data = .fields vs) → PSs (X.suite a ((a, oe) :: pn)) (b₀ :: suite) (ts a cls d)) (r : HdsA X n hds l) :
      HdsA X n (.ExceptHandler (some (.Name x np)) (some n) (b₀ :: suite) pos' :: hds) ((c, ts) :: l)
section
variable {X : Cx} {body : List Stmt} {h₀ : ExceptHandler} {hds : List ExceptHandler} {l : List (Value × (Addr → Value → Option Addr → TS))} {pos : Pos} {tb : WX → TS} {Wout : WX} {i : Nat} {n : Str}
theorem ps_try_manyA (hs : X.stack = X.env :: X.outer) (hf : X.env.frame = some X.env.locals) (hN : X.N.Nodup) (hi : X.N[i]? = some n) (hln : X.env.kindOf n = some .local) (tk : Takes X Wout)
    (hb : ∀ (W : WX) (pn : List (Addr × Obj)) (xe : Value → Shared → Prop), Takes (X.tr pn xe) W → PassesOwn (model X.prog X.w) X.A X.env xe → PSs (X.tr pn xe) body (tb W))
    (hh : HdsA X n (h₀ :: hds) l) : PS X (.Try body (h₀ :: hds) [] [] pos) (fun D σ H => tb (wManyA X.K i Wout D l) D σ H) := by
  refine ⟨fun pins s σ H D I h => ?_⟩
  have ok := I.ok
  have hfr : X.A.frames = some (X.env :: X.outer) := by rw [ok.frames, hs]
  have hloc : Loc X.env.scope n := .inl hln
  refine wpAny_Try_except ?_
  refine wpAny_mono ((hb (wManyA X.K i Wout D l) (X.pn ++ pins) (fun e s₁ => wpAny (model X.prog X.w) X.A (noteFrame e X.env) (fun _ s₂ => wpAny (model X.prog X.w) X.A (setFlight e none) (fun _ s₃ =>
    wpAny (model X.prog X.w) X.A (handleBy e X.env (h₀ :: hds)) (SP X pins D) X.xe s₃) X.xe s₂) X.xe s₁) (fun u s' xx => ?_) PassesOwn.looking).run [] s σ H D (I.toTry _) h) (fun f s1 hsp => ?_) (fun e s1 he => he)
  · obtain ⟨a, B, sI, pins', σ', H', cls, d, rfl, J', nb, up, sky, na, os, ag, w⟩ := xx
    have J : Inv X pins σ' H' sI := J'.ofTry ok
    have sky' : Sky B (X.env :: X.outer) a (Zc cls d) X.env.locals s'.heap := by rw [← hs]; exact sky
    show wpAny (model X.prog X.w) X.A (noteFrame (.ref a) X.env) _ _ _
    refine Sky.land Zc.steady hfr hf sky' fun h3 fl3 up3 => ?_
    have J3 : Inv X pins σ' H' { s' with heap := h3 } := J.landed nb fl3.1 (up.trans up3) os ag
    obtain ⟨oe3, vs3, he3, hz3, hd3⟩ := fl3.there
    have notFr : ∀ {h : Heap} {o : Obj} {vs : Array Value}, h.FunFrames B (X.env :: X.outer) → h.get? a = some o → o.data = .fields vs → a ∉ frs (X.env :: X.outer) := fun {h o vs} ff e dd hm => by
      obtain ⟨_, o', e', hnf⟩ := ff.mem hm
      rw [e] at e'; cases e'
      exact hnf _ dd
    have nfr := notFr fl3.2.2.1 he3 hd3
    have nL : a ≠ X.env.locals := fun z => nfr (List.mem_filterMap.mpr ⟨X.env, List.mem_cons_self, by rw [hf, z]⟩)
    have nF : a ∉ X.fs := fun hm => by
      obtain ⟨e, he, q⟩ := List.mem_filterMap.mp hm
      exact nfr (List.mem_filterMap.mpr ⟨e, List.mem_cons_of_mem _ he, q⟩)
    have S3 := J3.suite he3 hd3 na nL nF
    have go : ∀ {hds' : List ExceptHandler} {l' : List (Value × (Addr → Value → Option Addr → TS))}, HdsA X n hds' l' → wManyA X.K i Wout D l' cls d σ' H' →
        wpAny (model X.prog X.w) X.A (handleBy (.ref a) X.env hds') (SP X pins D) X.xe { s' with heap := h3 } := by
      intro hds' l' hk
      induction hk with
      | nil =>
        intro w
        refine wpAny_handleBy_nil ?_
        obtain ⟨k1, k2, k3, oe, vs, T, oT, ts', he, hz, hd, h1, hr⟩ := id fl3
        unfold PySem.passOn
        refine wpAny_bind (wpAny_field he hd h1 ?_)
        rw [if_neg (show ¬ ((Value.ref T == Value.none) = true) from by simp)]
        have fin : wpAny (model X.prog X.w) X.A (setFlight (.ref a) X.env.frame) (fun _ s4 => wpAny (model X.prog X.w) X.A (throw (.ref a) : Sem Flow) (SP X pins D) X.xe s4) X.xe { s' with heap := h3 } := by
          rw [hf]
          refine HandSPX.setFlight_upZ fl3 fun h4 hh4 up4 => wpAny_throw (tk _ _ ?_)
          exact ⟨a, B, sI, pins, σ', H', cls, d, rfl, J, nb, (up.trans up3).trans up4, .inr (.inr (by rw [hs]; exact hh4)), na, os, ag, w⟩
        first
          | exact wpAny_bind (wpAny_pure (wpAny_bind fin))
          | exact wpAny_bind fin
      | @cons x c ts b₀ suite np pos' hds2 l2 hc hsu r ih =>
        intro w
        obtain ⟨b, hb1, hyes, hno⟩ := w
        refine wpAny_handleBy_cons (codeAny_handlers_test ?_) (by intro q; cases q)
        have LT : PySem.W.Looks (model X.prog X.w) h3 (typeOf (.ref a)) cls := fun A Q E s k q => wpAny_typeOf_ref (k _ _ he3) (by rw [hz3.1]; exact q)
        have LM := PySem.W.exm_one (M := model X.prog X.w) (J3.kIn) LT hb1
        have test : ∀ {Q : Value → Shared → Prop} {E : Value → Shared → Prop}, Q c { s' with heap := h3 } → wpAny (model X.prog X.w) (X.A.mark (some (.ref a))) (eval (.Name x np) X.env) Q E { s' with heap := h3 } := fun {Q E} q => by
          obtain ⟨hg, hdbg, hm | ⟨hm, hv, hnn⟩⟩ := hc
          · exact ld_glob (X := X.suite a ((a, oe3) :: (X.pn ++ pins))) S3 hg hm q hdbg
          · exact ld_blt (X := X.suite a ((a, oe3) :: (X.pn ++ pins))) S3 hg hm hv q hnn hdbg
        refine test (LM.here ?_)
        cases b with
        | true =>
          refine codeAny_handlers_suite_as ?_
          refine HandSPX.lands_againZ fl3 fun h4 fl4 up4 => ?_
          have J4 : Inv X pins σ' H' { s' with heap := h4 } := J.landed nb fl4.1 ((up.trans up3).trans up4) os ag
          obtain ⟨oe4, vs4, he4, hz4, hd4⟩ := fl4.there
          have S4 := J4.suite he4 hd4 na nL nF
          refine store_ok (X := X.suite a ((a, oe4) :: (X.pn ++ pins))) (v := .ref a) S4 hN hi hloc rfl (fun s5 S5 => ?_) (.inr hln)
          refine wpAny_mono ((hsu a oe4 cls d (X.pn ++ pins) hz4 ⟨_, hd4⟩).run [] s5 _ H' _ S5 (hyes rfl a na)) (fun f s6 hsp => ?_) (fun _ _ z => False.elim z)
          have end_ : ∀ {σ6 : L2.St} {H6 : Hp} {Q : Shared → Prop}, Inv (X.suite a ((a, oe4) :: (X.pn ++ pins))) [] σ6 H6 s6 → (∀ s7, Inv X pins (σ6.set i none) H6 s7 → Q s7) →
              wpAny (model X.prog X.w) X.A (do bindName X.env n .none; unbindBehindTheSuite X.env n pos') (fun _ s7 => Q s7) X.xe s6 := fun {σ6 H6 Q} S6 hq => gone_ok (S6.unsuite ok) hN hi hln hq
          cases f with
          | next =>
            obtain ⟨σ6, H6, S6, q6⟩ := hsp
            exact end_ S6 fun s7 J7 => ⟨_, _, J7, q6⟩
          | brk =>
            obtain ⟨σ6, H6, S6, q6⟩ := hsp
            exact end_ S6 fun s7 J7 => ⟨_, _, J7, q6⟩
          | cont =>
            obtain ⟨σ6, H6, S6, q6⟩ := hsp
            exact end_ S6 fun s7 J7 => ⟨_, _, J7, q6⟩
          | ret u =>
            obtain ⟨v6, σ6, H6, S6, r6, q6⟩ := hsp
            exact end_ S6 fun s7 J7 => ⟨_, _, _, J7, r6, q6⟩
        | false =>
          show wpAny _ X.A (handleBy (.ref a) X.env hds2) _ _ _
          exact ih (hno rfl)
    exact go hh w
  · cases f with
    | next =>
      obtain ⟨σ', H', J', q⟩ := hsp
      exact wpAny_execs_nil ⟨σ', H', J'.ofTry ok, q⟩
    | brk =>
      obtain ⟨σ', H', J', q⟩ := hsp
      exact ⟨σ', H', J'.ofTry ok, q⟩
    | cont =>
      obtain ⟨σ', H', J', q⟩ := hsp
      exact ⟨σ', H', J'.ofTry ok, q⟩
    | ret u =>
      obtain ⟨v, σ', H', J', r, q⟩ := hsp
      exact ⟨v, σ', H', J'.ofTry ok, r, q⟩
end
end Sf
namespace Sf
open PySem PySem.Spec PyProof.Rows L2 TL
/-! ### a def whose code object is known -/
def FnAtC (K : PySem.W.Frag) (mg : Str → Option Value) (x : Str) (st : Stmt) (ps : List Str) (c : Addr) : Prop :=
  ∃ (f : Addr) (oc : Value) (od : Option Addr) (kV doc pm : Value) (an : Option Addr) (ct : Value) (osl : Array (Option Value)), mg x = some (.ref f) ∧ K.lookup f = some ⟨oc, od, .func (PySem.W.fnOf x x (defArgs st) (defBody st) (defScope st) .none kV doc pm an (.ref c) ct), osl⟩ ∧
    PySem.W.codeIn K (.ref c) x = true ∧ PySem.W.keepIn K (.ref f) = true ∧ Binds K (PySem.W.fnOf x x (defArgs st) (defBody st) (defScope st) .none kV doc pm an (.ref c) ct) ps []
theorem FnAtC.has {P : Program} {w : World} {K : PySem.W.Frag} {mg : Str → Option Value} {base : Heap} {k : Nat} {x : Str} {st : Stmt} {N ps : List Str} {c : Addr} {sp : Sp} (h : FnAtC K mg x st ps c) (S : FnScope N ps (defScope st)) (len : ∀ vs H Q E, sp vs H Q E → vs.length = ps.length)
    (hbody : ∀ (f : Addr) (A : Around) (outer : List Env) (s : Shared) (H : Hp) (vs : List V) (Q : VK) (E : XK), Room k (A.deeper (envOfC x (defScope st) s.heap.objs.size f (.ref c))) → sp vs H Q E →
      ∃ t, PSs (cxOf CX0 P w K mg base N x (defScope st) f (.ref c) A outer s H E).nox (defBody st) t ∧ t { nx := fun _ H' => Q .non H', rt := Q } (L2.start N vs) H) : Has P w K mg base (k + 1) x ps sp := by
  obtain ⟨f, oc, od, kV, doc, pm, an, ct, osl, g, lk, hcd, kp, b⟩ := h
  refine ⟨f, _, g, kp, b, fn_of lk hcd S len fun A outer s H vs Q E hr hsp => ?_⟩
  obtain ⟨t, h, q⟩ := hbody f A outer s H vs Q E hr hsp
  exact ⟨t, h.nox, q⟩
end Sf
namespace Sf
open PySem PySem.Spec PyProof.Rows L2 TL
open LamX (GivesTo CodeO)
/-! ### a refusal's field, whichever own class it is of -/
def tXfA (K : PySem.W.Frag) (n : Str) (a : Addr) (cls : Value) (d : Option Addr) (te : TE) : TE := fun σ H Q => ∃ C : Addr, cls = .ref C ∧ XfC K C ∧ PySem.W.findIn K (.ref C) n = some none ∧ tXf a cls d C n te σ H Q
theorem pe_xfA {X : Cx} {a : Addr} {oe : Obj} {cls : Value} {d : Option Addr} {pn : List (Addr × Obj)} {e : Expr} {te : TE} {pos : Pos} {n : Str} (hz : Zc cls d oe) (hf : ∃ vs, oe.data = .fields vs) (he : PE (X.suite a ((a, oe) :: pn)) e te)
    (hb : attributeBase e n X.env (eval e X.env) = eval e X.env := by rfl) : PE (X.suite a ((a, oe) :: pn)) (.Attribute e n pos) (tXfA X.K n a cls d te) := ⟨fun pins s σ H Q I h => by
  obtain ⟨C, e1, T, hn, h⟩ := h
  exact (pe_xf (C := C) T hn hz hf he hb).run pins s σ H Q I h⟩
theorem takes_len {X : Cx} {W : WX} (n : Nat) (hn : X.N.length = n) (tk : Takes X W) : Takes X (fun cls d σ H => σ.length = n → W cls d σ H) := fun u s' x => by
  obtain ⟨a, B, sI, pins, σ', H', cls, d, e, J, nb, up, sky, na, os, ag, w⟩ := x
  exact tk u s' ⟨a, B, sI, pins, σ', H', cls, d, e, J, nb, up, sky, na, os, ag, w (J.len.trans hn)⟩
/-! ### _law_tried: what is told, or the refusal's word -/
def TrE (K : PySem.W.Frag) (CSp CLk : Addr) (Q : VK) : XK := fun cls d H' => ∃ (C dd : Addr) (b : Bool) (fs : List (Str × V)) (z : Str), cls = .ref C ∧ XfC K C ∧ PySem.W.findIn K (.ref C) "word" = some none ∧ PySem.W.exmOne K (.ref C) (.ref CSp) = some b ∧ (b = false → PySem.W.exmOne K (.ref C) (.ref CLk) = some true) ∧
  d = some dd ∧ H' dd = some (.xd fs) ∧ fs.lookup ("word" : Str) = some (V.str z) ∧ ∀ r H2, H2 r = some (.lst [.str z, .non]) → Nw r H' H2 → Q (.ref r) H2
def TTr (K : PySem.W.Frag) (CSp CLk : Addr) : (XK → Hp → VK → Prop) → Hp → VK → Prop := fun tl H Q => tl (TrE K CSp CLk Q) H fun v H' => kNewL Q [.str (Str.ofString ""), v] H'
theorem sc_ltr : FnScope ["_law_ask", "e"] ["_law_ask"] (defScope s__law_tried) := ⟨rfl, rfl, rfl, by decide +kernel, rfl, by decide +kernel, by decide +kernel⟩
theorem tried_gives {X : Cx} {q : Str} {g : Addr} {cdg : Value} {CSp CLk : Addr} (gS : X.mg "SpoorError" = some (.ref CSp)) (gL : X.mg "Lacking" = some (.ref CLk)) : GivesTo X ["_law_ask", "e"] "_law_tried" (defScope s__law_tried) g cdg (defBody s__law_tried) "_law_ask" q (TTr X.K CSp CLk) := by
  intro f c' s H Q tl act hc h
  refine ⟨_, pss_one (ps_try_manyA (X := (cxOf C8.CX0 X.prog X.w X.K X.mg X.base ["_law_ask", "e"] "_law_tried" (defScope s__law_tried) g cdg X.A X.stack s H C8.E0).nox) (i := 1)
      (tb := fun W D σ H => ∃ Ech : XK, (∀ cls d (σ' : L2.St) H', Ech cls d H' → σ'.length = 2 → W cls d σ' H') ∧ tRet (L2.tLst (tCons (tC (V.str (Str.ofString ""))) (tCons (fun σZ HZ Q => σZ[0]? = some (some (.ref f)) ∧ HZ c' = some (CodeO c' q) ∧ tl Ech HZ Q) tNil))) D σ H)
      rfl rfl sc_ltr.nd rfl rfl takes0 (fun W pn xe tk _ => ?_)
      (.cons ⟨rfl, by decide, .inl gS⟩ (fun a oe cls d pn hz hf => pss_one (ps_ret (pe_lst (pa_cons (pe_xfA hz hf (pv 1)) (pa_cons pe_non pa_nil)))))
        (.cons ⟨rfl, by decide, .inl gL⟩ (fun a oe cls d pn hz hf => pss_one (ps_ret (pe_lst (pa_cons (pe_xfA hz hf (pv 1)) (pa_cons pe_non pa_nil))))) .nil))), ?_⟩
  · refine ⟨fun pins s' σ H' D I h' => ?_⟩
    obtain ⟨Ech, hW, h'⟩ := h'
    have hp := fun p1 p2 => act (fun cls d σ H => σ.length = 2 → W cls d σ H) pn xe Ech p1 p2 (takes_len 2 rfl tk) (fun cls d σ' H' he hl => hW cls d σ' H' he hl)
    exact (pss_one (ps_ret (pe_lst (pa_cons pe_str (pa_cons (hp _ _) pa_nil))))).run pins s' σ H' D I h'
  · refine ⟨TrE X.K CSp CLk Q, fun cls d σ' H' he hl => ?_, ?_⟩
    · obtain ⟨C, dd, b, fs, z, rfl, T, nw, eb, eb2, rfl, hd, hlk, k⟩ := he
      match σ', hl with
      | [s0, s1], _ =>
        have fin : ∀ a : Addr, H' a = none → ∀ D : Ends, D.rt = Q → tRet (L2.tLst (tCons (tXfA X.K "word" a (.ref C) (some dd) (tVar 1)) (tCons (tC V.non) tNil))) (dEnds 1 D) ([s0, s1].set 1 (some (.ref a))) H' := by
          intro a na D eD
          walk_at "go"
          refine ⟨C, rfl, T, nw, ?_⟩
          refine ⟨_, rfl, rfl, rfl, dd, fs, _, rfl, hd, hlk, ?_⟩
          walk_at "go"
          refine w_newL (by walk_at "sz") (fun r H2 hr2 nr => ?_)
          show D.rt _ _
          rw [eD]
          exact k r H2 hr2 nr
        refine ⟨b, eb, fun _ a na => fin a na _ rfl, fun hb => ⟨true, eb2 hb, fun _ a na => fin a na _ rfl, fun z => nomatch z⟩⟩
    · walk_at "go"
      refine ⟨rfl, hc, ?_⟩
      exact h
end Sf
namespace Sf
open PySem PySem.Spec PyProof.Rows L2 TL
/-! ### a deed at the hall: by the law's word -/
/-- what a deed tells -/
def VaR (z : Str) (M : StM) (v : V) (H H' : Hp) : Prop := (z = Str.ofString "like" ∧ v = .int (M.fol : Nat)) ∨ (z = Str.ofString "strike" ∧ ∃ r, v = .ref r ∧ H r = none ∧ H' r = some (.lst [])) ∨ (z ≠ Str.ofString "like" ∧ z ≠ Str.ofString "strike" ∧ v = .non)
/-- the refusals' classes -/
def RfC (CN CL CB CW CT CF : Addr) (C : Addr) : Prop := C = CN ∨ C = CL ∨ C = CB ∨ C = CW ∨ C = CT ∨ C = CF
section
variable {P : Program} {w : World} {CH CS CN CL CB CW CT CF : Addr}
theorem deed_told {H : Hp} {h : Addr} {A : HA} {M : StM} {N : Nat} {z y : Str} {as : List V} (hH : HallAt P w CH CS H h A M N) (hN : N < 100000) (hf : M.fol < 999999999) (hp : M.pps = []) (hR : DwR z as M y) (hnm : ∀ n, z = Str.ofString "forget" → as = [.str n] → NmT n) (hni : ∀ n : Int, as = [.int n] → n.natAbs.log2 < 1920) {Q : VK} {E : XK}
    (hq : y = Str.ofString "" → ∀ v A' M' H', EntR z as M M' → VaR z M v H H' → Stl P w CH CS H H' h A A' M' (N + 1) → Q v H')
    (hx : y ≠ Str.ofString "" → ∀ C d H' fs, RfC CN CL CB CW CT CF C → H d = none → H' d = some (.xd fs) → fs.lookup ("word" : Str) = some (V.str y) → Same H H' → E (.ref C) (some d) H') :
    deedS (spHlk P w CH CS CW CT CF) (spHst P w CH CS CL) (spHpt P w CH CS CB CW CF) (spHfg P w CH CS CN) (spHun P w CH CS CN) z fun sp => sp (.ref h :: as) H Q E := by
  have x0 : ∀ {u : Str} {C : Addr}, u = y → u ≠ Str.ofString "" → RfC CN CL CB CW CT CF C → XE0 u C H E := fun {u C} e ne c d H' nd hd s => by
    subst e
    exact hx ne C d H' _ c nd hd lk_cons_eq s
  have x1 : ∀ {u fl : Str} {x : V} {C : Addr}, u = y → u ≠ Str.ofString "" → ¬ (("word" : Str) = fl) → RfC CN CL CB CW CT CF C → XE1 u fl x C H E := fun {u fl x C} e ne nf c d H' nd hd s => by
    subst e
    refine hx ne C d H' _ c nd hd ?_ s
    rw [lk_cons_ne nf, lk_cons_eq]
  cases hR with
  | like l r hl hr =>
    refine .inl ⟨rfl, h, A, M, N, l, r, rfl, hH, hN, hl, hr, fun e => ?_, fun e1 e2 => ?_, fun e1 e2 e3 e4 => ?_, fun e1 e2 e3 e4 e5 A' H' st => ?_⟩
    · exact x0 (u := Str.ofString "badword") (by unfold likeW; rw [if_pos e]) (by decide +kernel) (.inr (.inr (.inr (.inl rfl))))
    · exact x0 (u := Str.ofString "toolong") (by unfold likeW; rw [if_neg (by rw [e1]; exact fun z => nomatch z), if_pos e2]) (by decide +kernel) (.inr (.inr (.inr (.inr (.inl rfl)))))
    · have e4 : 12 ≤ M.prs.length := by omega
      exact x0 (u := Str.ofString "full") (by unfold likeW; rw [if_neg (by rw [e1]; exact fun z => nomatch z), if_neg (by omega), if_pos e4]) (by decide +kernel) (.inr (.inr (.inr (.inr (.inr rfl)))))
    · refine hq ?_ _ A' _ H' (.like l r) (.inl ⟨rfl, rfl⟩) st
      unfold likeW
      rw [if_neg (by rw [e1]; exact fun z => nomatch z), if_neg (by omega), if_neg (by omega)]
  | strike n =>
    refine .inr (.inl ⟨rfl, h, A, M, N, n, rfl, hH, hN, hni n rfl, fun e => ?_, fun e ys r A' H' pm so hr nr st => ?_⟩)
    · exact x1 (u := Str.ofString "noline") (by unfold strikeW; rw [if_neg (by rw [e]; exact fun z => nomatch z)]) (by decide +kernel) (by decide +kernel) (.inr (.inl rfl))
    · have e0 : ys = [] := by
        rw [hp] at pm
        exact List.eq_nil_of_length_eq_zero pm.length_eq
      subst e0
      refine hq ?_ _ A' _ H' (.strike n) (.inr (.inl ⟨rfl, r, rfl, nr, hr⟩)) st
      unfold strikeW
      rw [if_pos e]
  | put n x hn hx' =>
    refine .inr (.inr (.inl ⟨rfl, h, A, M, N, n, x, rfl, hH, hN, hn, hx', fun e => ?_, fun e1 e2 => ?_, fun e1 e2 e3 e4 => ?_, fun e1 e2 e3 A' H' st => ?_⟩))
    · exact x0 (u := Str.ofString "badname") (by unfold putW; rw [if_pos e]) (by decide +kernel) (.inr (.inr (.inl rfl)))
    · exact x0 (u := Str.ofString "badword") (by unfold putW; rw [if_neg (by rw [e1]; exact fun z => nomatch z), if_pos e2]) (by decide +kernel) (.inr (.inr (.inr (.inl rfl))))
    · exact x0 (u := Str.ofString "full") (by unfold putW; rw [if_neg (by rw [e1]; exact fun z => nomatch z), if_neg (by rw [e2]; exact fun z => nomatch z), if_pos ⟨e3, e4⟩]) (by decide +kernel) (.inr (.inr (.inr (.inr (.inr rfl)))))
    · refine hq ?_ _ A' _ H' (.put n x) (.inr (.inr ⟨by decide +kernel, by decide +kernel, rfl⟩)) st
      unfold putW
      rw [if_neg (by rw [e1]; exact fun z => nomatch z), if_neg (by rw [e2]; exact fun z => nomatch z), if_neg e3]
  | forget n =>
    refine .inr (.inr (.inr (.inl ⟨rfl, h, A, M, N, n, rfl, hH, hN, hnm n rfl rfl, fun e => ?_, fun e A' H' st => ?_⟩)))
    · exact x1 (u := Str.ofString "noname") (by unfold forgetW; rw [if_pos e]) (by decide +kernel) (by decide +kernel) (.inl rfl)
    · refine hq ?_ _ A' _ H' (.forget n e) (.inr (.inr ⟨by decide +kernel, by decide +kernel, rfl⟩)) st
      unfold forgetW
      rw [if_neg e]
  | unshelve n hn =>
    have e0 : lkT M.pps n = none := by rw [hp]; rfl
    refine .inr (.inr (.inr (.inr ⟨rfl, h, A, M, N, n, rfl, hH, hN, hn, fun e => ?_, fun e A' H' st => ?_⟩)))
    · exact x1 (u := Str.ofString "noname") rfl (by decide +kernel) (by decide +kernel) (.inl rfl)
    · exact absurd e0 e
end
end Sf
namespace Sf
open PySem PySem.Spec PyProof.Rows L2 TL
open LamX (GivesTo CodeO ExtN Tabs TabB pe_lamcall lamS_by)
/-! ### what stays over the making of a lambda -/
theorem _root_.LamX.ExtN.at {H H1 : Hp} {a : Addr} {o : HO} (x : ExtN H H1) (h : H a = some o) (n : ∀ ps, o ≠ .tbl ps := by intro _ z; cases z) : H1 a = some o := x a o h n
theorem _root_.L2.Same.extN {H H1 : Hp} (s : Same H H1) : ExtN H H1 := fun a o h _ => s a o h
theorem DkT.ext {H H' : Hp} (x : ExtN H H') : DkT H H' := ⟨fun _ _ h => x.at h, fun _ _ h => x.at h⟩
section
variable {P : Program} {w : World} {CH CS : Addr} {H H1 : Hp} {h : Addr} {A : HA} {M : StM} {N : Nat}
theorem HallAt.ext (W : HallAt P w CH CS H h A M N) (x : ExtN H H1) : HallAt P w CH CS H1 h A M N := by
  obtain ⟨dx, h1⟩ := W.ob
  obtain ⟨us, h2, h3⟩ := W.bh
  obtain ⟨vs, h4, h5⟩ := W.ah
  obtain ⟨dy, p, t, q, g1, g2⟩ := W.st
  exact ⟨⟨dx, x.at h1⟩, ⟨dy, p, t, q, x.at g1, g2.dkt (.ext x)⟩, W.ok, ⟨us, x.at h2, h3⟩, ⟨vs, x.at h4, h5⟩, x.at W.kp⟩
theorem LsAt.ext {d ln : Addr} (h : LsAt H d ln M) (x : ExtN H H1) : LsAt H1 d ln M := by
  obtain ⟨wd, pp, us, h1, h2, h3, h4, h5⟩ := h
  exact ⟨wd, pp, us, x.at h1, x.at h2, Paired.mono (fun _ _ ⟨t, e, h⟩ => ⟨t, e, x.at h⟩) h3, x.at h4, x.at h5⟩
def lamQp : Str := (("_law_played" : Str) ++ ".<locals>.") ++ "<lambda>"
abbrev lamTp (Pt : Addr) : List (Addr × Str) := [(Pt, lamQp)]
def HFxT (h b : Addr) (H H' : Hp) : Prop := ∀ a o, H a = some o → a ≠ h → a ≠ b → (∀ ps, o ≠ .tbl ps) → H' a = some o
theorem tabs_hfx {T : List (Addr × Str)} {b C dx : Addr} {fs : List (Str × V)} {xs : List V} (t : Tabs T H) (hh : H h = some (.ins C dx fs)) (hb : H b = some (.lst xs)) (f : HFx h b H H1) : Tabs T H1 := fun p hp => by
  obtain ⟨ps, h1, h2, h3⟩ := t p hp
  refine ⟨ps, f _ _ h1 (ne_of h1 hh (by intro z; cases z)) (ne_of h1 hb (by intro z; cases z)), h2, fun pos cv hc => ?_⟩
  obtain ⟨c, e1, e2⟩ := h3 pos cv hc
  exact ⟨c, e1, f _ _ e2 (ne_of e2 hh (by intro z; unfold CodeO at z; cases z)) (ne_of e2 hb (by intro z; unfold CodeO at z; cases z))⟩
theorem tabs_same {T : List (Addr × Str)} (t : Tabs T H) (s : Same H H1) : Tabs T H1 := t.ext fun b o e => s b o e
theorem EntR.pps {z : Str} {as : List V} {M M' : StM} (h : EntR z as M M') (e : M.pps = []) : M'.pps = [] := by
  cases h with
  | like l r => exact e
  | strike n => show M.pps.filter _ = []; rw [e]; rfl
  | put n x => exact e
  | forget n _ => exact e
end
section
variable {P : Program} {w : World} {K : PySem.W.Frag} {mg : Str → Option Value} {base : Heap} {CH CS CN CL CB CW CT CF CSp CLk cP Pt : Addr}
/-- new, or a table -/
def FrT (H : Hp) (a : Addr) : Prop := ∀ o, H a = some o → ∃ ps, o = .tbl ps
theorem FrT.of {H H' : Hp} {a : Addr} (x : ExtN H H') (n : H' a = none) : FrT H a := fun o e => by
  rcases Classical.em (∃ ps, o = .tbl ps) with k | k
  · exact k
  · have := x a o e (fun ps z => k ⟨ps, z⟩)
    rw [n] at this
    cases this
theorem FrT.ne {H : Hp} {a b : Addr} {o : HO} (f : FrT H a) (e : H b = some o) (n : ∀ ps, o ≠ .tbl ps := by intro _ z; cases z) : a ≠ b := fun z => by
  rw [← z] at e
  obtain ⟨ps, k⟩ := f o e
  exact n ps k
theorem eqv_pair {H : Hp} {n : Nat} {r r' : Addr} {a a' b b' : V} (h1 : H r = some (.lst [a, b])) (h2 : H r' = some (.lst [a', b'])) (e1 : Eqv H n a a') (e2 : Eqv H n b b') : Eqv H (n + 1) (.ref r) (.ref r') :=
  .inr ⟨r, r', [a, b], [a', b'], rfl, rfl, .inl ⟨h1, h2⟩, rfl, by show 2 ≤ 100000; decide, fun i x y hx hy => by
    match i, hx, hy with
    | 0, hx, hy => cases hx; cases hy; exact e1
    | 1, hx, hy => cases hx; cases hy; exact e2⟩
/-- what the law's word for a value is like -/
theorem lva_alike {H : Hp} {d ln wd pp t : Addr} {us : List V} {M : StM} {z : Str} {as : List V} {v : V} {E : XK} (X : LsX H d ln wd pp us M) (ht : H t = some (.tup (.str z :: as))) (va : (z = Str.ofString "like" ∧ v = .int (M.fol : Nat)) ∨ (z = Str.ofString "strike" ∧ ∃ r, v = .ref r ∧ H r = some (.lst [])) ∨ (z ≠ Str.ofString "like" ∧ z ≠ Str.ofString "strike" ∧ v = .non)) {Q : VK}
    (q : ∀ v' H5, Same H H5 → Eqv H5 1 v v' → Q v' H5) : spLva [.ref d, .ref t] H Q E := by
  refine ⟨d, ln, wd, pp, t, us, M, z, as, rfl, X, ht, ?_⟩
  rcases va with ⟨e, rfl⟩ | ⟨e, r, rfl, hr⟩ | ⟨n1, n2, rfl⟩
  · exact .inl ⟨e, q _ H (.refl _) (Eqv.flat rfl)⟩
  · exact .inr (.inl ⟨e, fun r' H' nr s hr' => q _ H' s (.inr ⟨r, r', [], [], rfl, rfl, .inl ⟨s.at hr, hr'⟩, rfl, by decide, fun i x y hx _ => by cases i <;> cases hx⟩)⟩)
  · exact .inr (.inr ⟨n1, n2, q _ H (.refl _) (Eqv.flat rfl)⟩)
theorem DwR.nsh {z y : Str} {as : List V} {M : StM} (h : DwR z as M y) : ¬ z = Str.ofString "shelve" := by
  cases h <;> decide +kernel
def spLpl (P : Program) (w : World) (CH CS Pt : Addr) : Sp := fun vs H Q _ => ∃ (h d ln t : Addr) (A : HA) (M : StM) (N : Nat) (z y : Str) (as : List V), vs = [.ref h, .ref d, .ref t] ∧ HallAt P w CH CS H h A M N ∧ N < 100000 ∧ M.fol < 999999999 ∧ M.pps = [] ∧ LsAt H d ln M ∧ ln ≠ A.bh ∧ H t = some (.tup (.str z :: as)) ∧ DwR z as M y ∧
  (∀ n, z = Str.ofString "forget" → as = [.str n] → NmT n) ∧ (∀ n : Int, as = [.int n] → n.natAbs.log2 < 1920) ∧ Tabs (lamTp Pt) H ∧
  ∀ (A' : HA) (M' : StM) (d' ln' : Addr) (H' : Hp), HallAt P w CH CS H' h A' M' (N + 1) → LsAt H' d' ln' M' → A'.bh = A.bh → (A'.ah = A.ah ∨ FrT H A'.ah) → (ln' = ln ∨ FrT H ln') → (M' = M ∨ y = Str.ofString "" ∧ EntR z as M M') → HFxT h A.bh H H' → Tabs (lamTp Pt) H' → Q (.ref d') H'
theorem sc_lpl : FnScope ["_law_house", "_law_state", "_law_deed_here", "_law_word_here", "_law_found", "_law_paper"] ["_law_house", "_law_state", "_law_deed_here"] (defScope s__law_played) := ⟨rfl, rfl, rfl, by decide +kernel, rfl, by decide +kernel, by decide +kernel⟩
theorem has_lpl (F : FnAtC K mg "_law_played" s__law_played ["_law_house", "_law_state", "_law_deed_here"] cP) (B : Blt mg) (TB : TabB base mg cP Pt) (F_tr : FnAt K mg "_law_tried" s__law_tried ["_law_ask"]) (gS : mg "SpoorError" = some (.ref CSp)) (gL : mg "Lacking" = some (.ref CLk))
    (hRf : ∀ C, RfC CN CL CB CW CT CF C → XfC K C ∧ PySem.W.findIn K (.ref C) "word" = some none ∧ ∃ b, PySem.W.exmOne K (.ref C) (.ref CSp) = some b ∧ (b = false → PySem.W.exmOne K (.ref C) (.ref CLk) = some true))
    (h_Ldw : Has P w K mg base 2 "_law_deed_word" ["_law_state", "_law_deed_here"] spLdw) (h_Lva : Has P w K mg base 1 "_law_value" ["_law_state", "_law_deed_here"] spLva) (h_Len : Has P w K mg base 2 "_law_entered" ["_law_state", "_law_deed_here", "_law_paper"] spLen) (h_Ldo : HasX P w K mg base 10 "_law_do" ["_law_house", "_law_deed_here"] (spLdo P w CH CS CN CL CB CW CT CF)) (h_Sa : Has P w K mg base 3 "_law_same" ["_law_found", "_law_due"] (spSame 2)) :
    Has P w K mg base 13 "_law_played" ["_law_house", "_law_state", "_law_deed_here"] (spLpl P w CH CS Pt) := by
  obtain ⟨gTr, fdTr, gm_Ltr, FTr, b_Ltr⟩ := F_tr
  obtain ⟨oc, od, kV, doc, pm, an, cdvT, ct, osl, rfl, lk_Ltr, cd_Ltr⟩ := FTr.ex
  have kp_Ltr := FTr.kp
  obtain ⟨f_Ldw, fd_Ldw, g_Ldw, k_Ldw, b_Ldw, G_Ldw⟩ := h_Ldw
  obtain ⟨f_Lva, fd_Lva, g_Lva, k_Lva, b_Lva, G_Lva⟩ := h_Lva
  obtain ⟨f_Len, fd_Len, g_Len, k_Len, b_Len, G_Len⟩ := h_Len
  obtain ⟨f_Ldo, fd_Ldo, g_Ldo, k_Ldo, b_Ldo, G_Ldo⟩ := h_Ldo
  obtain ⟨f_Sa, fd_Sa, g_Sa, k_Sa, b_Sa, G_Sa⟩ := h_Sa
  refine F.has sc_lpl (fun vs H Q E h => ?_) (fun f A outer s H vs Q E hr h => ?_)
  · obtain ⟨h, d, ln, t, A, M, N, z, y, as, rfl, _⟩ := h
    rfl
  · obtain ⟨h, d, ln, t, C, M, N, z, y, as, rfl, hH, hN, hf, hpp, hL, lnb, ht, hR, hnm, hni, hT, q⟩ := h
    refine ⟨_, (pss_cons (ps_if (pt_cmpR op_isNn (pv 1) pe_non (nomark _)) (pss_one (ps_ret pe_non)) pss_nil) (pss_cons (ps_set (i := 3) sc_lpl.nd rfl (.inl rfl) (pe_call G_Ldw (hr.mono (by decide)) (by rfl) g_Ldw k_Ldw b_Ldw .nil pass0 (pa_cons (pv 1) (pa_cons (pv 2) pa_nil)))) (pss_cons (ps_set (i := 4) sc_lpl.nd rfl (.inl rfl) (by exact pe_lamcall (T := lamTp Pt) (TT := TTr K CSp CLk) (Ng := ["_law_ask", "e"]) (by rfl) gm_Ltr kp_Ltr lk_Ltr cd_Ltr b_Ltr sc_ltr (by rfl) (.inl rfl) (tried_gives gS gL) TB (by rfl) (List.mem_singleton.mpr rfl) (fun p hp _ => by rw [List.mem_singleton.mp hp]; rfl) hr (lamS_by (by show LamX.lamSB (defScope s__law_played) _ = true; decide +kernel)) (by rfl) (fun _ _ _ _ _ => rfl) (fun A outer s H E f c' hr2 => pe_call G_Ldo hr2 (by rfl) g_Ldo k_Ldo b_Ldo .nil (passes_call (takes_of rfl rfl rfl rfl) (fun _ _ _ _ h => h)) (pa_cons (pv 0) (pa_cons (pv 2) pa_nil))))) (pss_cons (ps_if (pt_not (pt_val (pe_call G_Sa (hr.mono (by decide)) (by rfl) g_Sa k_Sa b_Sa .nil pass0 (pa_cons (pv 4) (pa_cons (pe_lst (pa_cons (pv 3) (pa_cons (pe_ifExp (pt_cmpR op_eq (pv 3) pe_str (nomark _)) (pe_call G_Lva (hr.mono (by decide)) (by rfl) g_Lva k_Lva b_Lva .nil pass0 (pa_cons (pv 1) (pa_cons (pv 2) pa_nil))) pe_non) pa_nil))) pa_nil))))) (pss_one (ps_ret pe_non)) pss_nil) (pss_cons (ps_if (pt_cmpR op_ne (pv 3) pe_str (nomark _)) (pss_one (ps_ret (pv 1))) pss_nil) (pss_cons (ps_set (i := 5) sc_lpl.nd rfl (.inl rfl) pe_non) (pss_cons (ps_if (pt_cmpR op_eq (pe_ix ix_tup (pv 2) pe_int (fun _ _ => rfl)) pe_str (nomark _)) pss_never pss_nil) (pss_one (ps_ret (pe_call G_Len (hr.mono (by decide)) (by rfl) g_Len k_Len b_Len .nil pass0 (pa_cons (pv 1) (pa_cons (pv 2) (pa_cons (pv 5) pa_nil))))))))))))), ?_⟩
    walk_at "go"
    rw [decide_eq_false (show ¬ V.ref d = V.non from fun z => nomatch z)]
    walk_at "go"
    obtain ⟨wd, pp, us, hd, hln, hls, hwd, hppd⟩ := id hL
    have uml : us.length = M.prs.length := Paired.length hls
    have pl := hH.ok.pl
    have tl := hH.ok.tl
    refine ⟨d, ln, wd, pp, t, us, M, z, as, y, rfl, ⟨hd, hln, hls, hwd, hppd⟩, by omega, by omega, ht, hR, fun H1 s1 => ?_⟩
    walk_at "go"
    refine ⟨tabs_same hT s1, fun H2 x2 T2 => ?_⟩
    have x02 : ExtN H H2 := s1.extN.trans x2
    have hH2 := hH.ext x02
    have hL2 := hL.ext x02
    have ht2 := x02.at ht
    obtain ⟨dx, hh2⟩ := hH2.ob
    obtain ⟨bs, hb2, _⟩ := hH2.bh
    unfold TTr
    walk_at "go"
    refine ⟨h, t, z, as, rfl, ht2, ⟨dx, C, hh2⟩, deed_told hH2 hN hf hpp hR hnm hni (fun ey v A' M' H3 en va st => ?_) (fun ney Cx dd H3 fs rc nd hdd hlk s3 => ?_)⟩
    · subst ey
      refine w_newL (by walk_at "sz") (fun r H4 hr4 nr => ?_)
      have th : t ≠ h := ne_of ht2 hh2 (by intro z; cases z)
      have tb : t ≠ C.bh := ne_of ht2 hb2 (by intro z; cases z)
      have ht4 := nr.at (st.fx _ _ ht2 th tb)
      have hL4 := (hL2.hfx hh2 hb2 lnb st.fx).same nr.same
      obtain ⟨wd, pp, us, hd, hln, hls, hwd, hppd⟩ := id hL4
      have uml : us.length = M.prs.length := Paired.length hls
      walk_at "go"
      rw [decide_eq_true rfl]
      walk_at "go"
      refine lva_alike (v := v) ⟨hd, hln, hls, hwd, hppd⟩ ht4 ?_ (fun v' H5 s5 ev => ?_)
      · rcases va with va | ⟨e, r0, e1, _, hr0⟩ | va
        · exact .inl va
        · exact .inr (.inl ⟨e, r0, e1, nr.at hr0⟩)
        · exact .inr (.inr va)
      walk_at "go"
      refine w_newL (by show 2 ≤ sizeLine; decide) (fun r6 H6 hr6 nr6 => ?_)
      refine ⟨_, _, rfl, eqv_pair (nr6.at (s5.at hr4)) hr6 (Eqv.flat rfl) (ev.same nr6.same), fun H7 s7 => ?_⟩
      have s47 := (s5.trans nr6.same).trans s7
      walk_at "go"
      rw [decide_eq_true rfl, Bool.not_true]
      walk_at "go"
      refine w_ixT (s47.at ht4) (at0D _ _) ?_
      walk_at "go"
      rw [decide_eq_false hR.nsh]
      walk_at "go"
      have hL7 := hL4.same s47
      obtain ⟨wd, pp, us, hd, hln, hls, hwd, hppd⟩ := id hL7
      refine ⟨d, ln, wd, pp, t, us, M, M', z, as, .non, rfl, ⟨hd, hln, hls, hwd, hppd⟩, ?_, hpp, by omega, s47.at ht4, en, fun d' ln' H8 nd' nln' s8 L8 => ?_⟩
      · have : us.length = M.prs.length := Paired.length hls
        omega
      have s38 : Same H3 H8 := (nr.same.trans s47).trans s8
      have fx : HFxT h C.bh H H8 := fun c o e n1 n2 n3 => s38.at (st.fx _ _ (x02.at e n3) n1 n2)
      refine q A' M' d' ln' H8 (st.at_.same s38) L8 st.bh (.inr (FrT.of x02 st.ah)) (.inr fun o e => ?_) (.inr ⟨rfl, en⟩) fx (tabs_same (tabs_hfx T2 hh2 hb2 st.fx) s38)
      rcases Classical.em (∃ ps, o = .tbl ps) with k | k
      · exact k
      exfalso
      have nt : ∀ ps, o ≠ .tbl ps := fun ps z => k ⟨ps, z⟩
      have n7 : H3 ln' = none := (nr.same.trans s47).free nln'
      by_cases y1 : ln' = h
      · obtain ⟨d9, h9⟩ := st.at_.ob
        rw [y1, h9] at n7
        cases n7
      · by_cases y2 : ln' = C.bh
        · obtain ⟨u9, h9, _⟩ := st.at_.bh
          rw [st.bh] at h9
          rw [y2, h9] at n7
          cases n7
        · rw [st.fx _ _ (x02.at e nt) y1 y2] at n7
          cases n7
    · obtain ⟨TX, nw, b, eb, eb2⟩ := hRf Cx rc
      refine ⟨Cx, dd, b, fs, y, rfl, TX, nw, eb, eb2, rfl, hdd, hlk, fun r H4 hr4 nr => ?_⟩
      walk_at "go"
      rw [decide_eq_false ney]
      walk_at "go"
      refine w_newL (by walk_at "sz") (fun r6 H6 hr6 nr6 => ?_)
      refine ⟨_, _, rfl, eqv_pair (nr6.at hr4) hr6 (Eqv.flat rfl) (Eqv.flat rfl), fun H7 s7 => ?_⟩
      have s27 : Same H2 H7 := ((s3.nw nr).nw nr6).trans s7
      walk_at "go"
      rw [decide_eq_false ney, Bool.not_false]
      walk_at "go"
      exact q C M d ln H7 ((hH2.same s27).mono (by omega)) (hL2.same s27) rfl (.inl rfl) (.inl rfl) (.inl rfl) (fun c o e _ _ n3 => s27.at (x02.at e n3)) (tabs_same T2 s27)
end
end Sf
namespace Sf
open PySem PySem.Spec PyProof.Rows L2 TL
section
variable {P : Program} {w : World} {K : PySem.W.Frag} {mg : Str → Option Value} {base : Heap}
/-! ### _law_bad -/
def spBad : Sp := fun vs H Q _ => ∃ (b l : Addr) (x : Str), vs = [.ref b, .str x] ∧ Bag H b l ∧ x.length ≤ 1000 ∧
  ∀ (y : Str) (H' : Hp), isW y = false → y.length ≤ 2 * x.length + 1 → Bag H' b l → Fx b H H' → Q (.str y) H'
abbrev HasBad (P : Program) (w : World) (K : PySem.W.Frag) (mg : Str → Option Value) (base : Heap) : Prop := Has P w K mg base 2 "_law_bad" ["_law_bag", "_law_word_here"] spBad
theorem sc_bad : FnScope ["_law_bag", "_law_word_here", "_law_at"] ["_law_bag", "_law_word_here"] (defScope s__law_bad) := ⟨rfl, rfl, rfl, by decide +kernel, rfl, by decide +kernel, by decide +kernel⟩
theorem at_bad {e : Int} (h0 : 0 ≤ e) (h1 : e < 11) : ∃ c, atI (Str.ofString "iIxzZ 09-_.").cps.toList e = some c ∧ sgn c = false := by
  have e1 : (Str.ofString "iIxzZ 09-_.").cps.toList = [105, 73, 120, 122, 90, 32, 48, 57, 45, 95, 46] := by decide +kernel
  rw [e1]
  have : e = 0 ∨ e = 1 ∨ e = 2 ∨ e = 3 ∨ e = 4 ∨ e = 5 ∨ e = 6 ∨ e = 7 ∨ e = 8 ∨ e = 9 ∨ e = 10 := by omega
  rcases this with rfl | rfl | rfl | rfl | rfl | rfl | rfl | rfl | rfl | rfl | rfl <;> exact ⟨_, rfl, by decide⟩
theorem isW_bad {x y : Str} {c : Nat} (h : sgn c = false) : isW (x ++ one c ++ y) = false := by
  unfold isW
  rw [Bool.and_eq_false_iff]
  refine .inr ?_
  rw [List.all_eq_false]
  refine ⟨c, ?_, by rw [h]; decide⟩
  rw [tl_append, tl_append, List.mem_append, List.mem_append]
  exact .inl (.inr (List.mem_singleton.mpr rfl))
theorem has_bad (F : FnAt K mg "_law_bad" s__law_bad ["_law_bag", "_law_word_here"]) (B : Blt mg) (hP : HasPull P w K mg base) : HasBad P w K mg base := F.has fun F => by
  obtain ⟨fP, fdP, gP, kP, bP, GP⟩ := hP
  refine F.ok sc_bad (fun vs H Q E h => ?_) (fun cdv A outer s H vs Q E hr h => ?_)
  · obtain ⟨b, l, x, rfl, _⟩ := h
    rfl
  · obtain ⟨b, l, x, rfl, hB, hx, q⟩ := h
    have hsz : x.length ≤ sizeLine := line_of (by omega)
    refine ⟨_, pss_cons (ps_set (i := 2) sc_bad.nd rfl (.inl rfl) (pe_call GP hr (by rfl) gP kP bP .nil pass0 (pa_cons (pv 0) (pa_cons (pe_op op_add (pe_callB call_len_str (by rfl) B.len PySem.boot_len (pa_cons (pv 1) pa_nil)) pe_int) pa_nil))))
      (pss_one (ps_ret (pe_op op_add_str (pe_op op_add_str (pe_slice sl_str (pv 1) po_none (po_some (pv 2))) (pe_ix ix_str pe_str (pe_call GP hr (by rfl) gP kP bP .nil pass0 (pa_cons (pv 0) (pa_cons pe_int pa_nil))) (fun _ _ => rfl))) (pe_slice sl_str (pv 1) (po_some (pv 2)) po_none)))), ?_⟩
    refine ⟨_, rfl, _, rfl, x, rfl, hsz, _, 1, rfl, rfl, b, l, _, rfl, hB, by omega, by omega, fun d H1 d0 d1 B1 f1 => ?_⟩
    refine ⟨_, rfl, _, rfl, d, rfl, x, rfl, hsz, _, rfl, b, l, 11, rfl, B1, by decide, by decide, fun e H2 e0 e1 B2 f2 => ?_⟩
    obtain ⟨c, hc, hn⟩ := at_bad e0 e1
    have l1 := cutS_length x none (some d)
    have l2 := cutS_length x (some d) none
    refine ⟨_, e, c, rfl, rfl, (by decide +kernel), hc, _, _, rfl, rfl, ?_, _, rfl, _, rfl, d, rfl, x, rfl, hsz, _, _, rfl, rfl, ?_, ?_⟩
    · rw [len_one]
      exact line_of (by omega)
    · rw [len_app, len_one]
      exact line_of (by omega)
    · refine q _ _ (isW_bad hn) ?_ B2 (f1.trans f2)
      rw [len_app, len_app, len_one]
      omega
end
end Sf
namespace Sf
open PySem PySem.Spec PyProof.Rows L2 TL
section
variable {P : Program} {w : World} {K : PySem.W.Frag} {mg : Str → Option Value} {base : Heap} {CH CS : Addr}
end
end Sf
namespace Sf
open PySem PySem.Spec PyProof.Rows L2 TL
section
variable {P : Program} {w : World} {K : PySem.W.Frag} {mg : Str → Option Value} {base : Heap}
end
end Sf
namespace Sf
open PySem PySem.Spec PyProof.Rows L2 TL
section
variable {P : Program} {w : World} {K : PySem.W.Frag} {mg : Str → Option Value} {base : Heap}
/-! ### _law_pick, of a list of things -/
def spLpk : Sp := fun vs H Q _ => ∃ (b l p : Addr) (us : List V), vs = [.ref b, .ref p] ∧ Bag H b l ∧ H p = some (.lst us) ∧ p ≠ b ∧ 1 ≤ us.length ∧ us.length ≤ 10000 ∧
  ∀ (v : V) (H' : Hp), v ∈ us → Bag H' b l → Fx b H H' → Q v H'
abbrev HasLpk (P : Program) (w : World) (K : PySem.W.Frag) (mg : Str → Option Value) (base : Heap) : Prop := Has P w K mg base 2 "_law_pick" ["_law_bag", "_law_row"] spLpk
theorem sc_lpk : FnScope ["_law_bag", "_law_row"] ["_law_bag", "_law_row"] (defScope s__law_pick) := ⟨rfl, rfl, rfl, by decide +kernel, rfl, by decide +kernel, by decide +kernel⟩
theorem has_lpk (F : FnAt K mg "_law_pick" s__law_pick ["_law_bag", "_law_row"]) (B : Blt mg) (h_Pu : HasPull P w K mg base) : HasLpk P w K mg base := F.has fun F => by
  obtain ⟨f_Pu, fd_Pu, g_Pu, k_Pu, b_Pu, G_Pu⟩ := h_Pu
  refine F.ok sc_lpk (fun vs H Q E h => ?_) (fun cdv A outer s H vs Q E hr h => ?_)
  · obtain ⟨b, l, p, us, rfl, _⟩ := h
    rfl
  · obtain ⟨b, l, p, us, rfl, hB, hp, npb, l1, l2, q⟩ := h
    refine ⟨_, (pss_one (ps_ret (pe_ix ix_list (pv 1) (pe_call G_Pu (hr.mono (by decide)) (by rfl) g_Pu k_Pu b_Pu .nil pass0 (pa_cons (pv 0) (pa_cons (pe_callB call_lenQ (by rfl) B.len PySem.boot_len (pa_cons (pv 1) pa_nil)) pa_nil))) (fun _ _ => rfl)))), ?_⟩
    walk_at "go"
    refine ⟨b, l, _, rfl, hB, by omega, by omega, fun d H1 d0 d1 B1 f1 => ?_⟩
    have hd : d.toNat < us.length := by omega
    refine w_ixL (f1.at npb hp) (at_of (j := d.toNat) (by omega) (List.getElem?_eq_getElem hd)) ?_
    exact q _ H1 (List.getElem_mem hd) B1 f1
end
end Sf
namespace Sf
open PySem PySem.Spec PyProof.Rows L2 TL
open LamX (Tabs TabS)
theorem tabs_fx {T : List (Addr × Str)} {H H1 : Hp} {b l : Addr} (t : Tabs T H) (hB : Bag H b l) (f : Fx b H H1) : Tabs T H1 := by
  obtain ⟨ns, k, z, r, hB⟩ := hB
  refine fun p hp => ?_
  obtain ⟨ps, h1, h2, h3⟩ := t p hp
  refine ⟨ps, f _ _ h1 (ne_of h1 hB.hb (by intro z; cases z)), h2, fun pos cv hc => ?_⟩
  obtain ⟨c, e1, e2⟩ := h3 pos cv hc
  exact ⟨c, e1, f _ _ e2 (ne_of e2 hB.hb (by intro z; unfold LamX.CodeO at z; cases z))⟩
theorem log_bigH {i : Int} (h : i.natAbs ≤ 10000000000) : i.natAbs.log2 < 1920 := by
  rcases Nat.eq_zero_or_pos i.natAbs with z | z
  · rw [z]; decide
  · exact (Nat.log2_lt (by omega)).mpr (Nat.lt_of_le_of_lt h (by decide +kernel))
/-- what the law holds at each turn -/
structure LIh (P : Program) (w : World) (CH CS Pt b l h d ln : Addr) (A : HA) (M : StM) (i : Nat) (H : Hp) : Prop where
  bg : Bag H b l
  hl : HallAt P w CH CS H h A M i
  fo : M.fol ≤ i + 1
  pp : M.pps = []
  ls : LsAt H d ln M
  n1 : ln ≠ A.bh
  n2 : ln ≠ b
  n3 : b ≠ A.bh
  n4 : b ≠ A.ah
  n5 : l ≠ A.bh
  tb : Tabs (lamTp Pt) H
section
variable {P : Program} {w : World} {CH CS Pt b l h d ln : Addr} {A : HA} {M : StM} {i : Nat} {H H1 : Hp}
theorem LIh.same (W : LIh P w CH CS Pt b l h d ln A M i H) (s : Same H H1) : LIh P w CH CS Pt b l h d ln A M i H1 := ⟨W.bg.same s, W.hl.same s, W.fo, W.pp, W.ls.same s, W.n1, W.n2, W.n3, W.n4, W.n5, tabs_same W.tb s⟩
theorem LIh.fx (W : LIh P w CH CS Pt b l h d ln A M i H) (f : Fx b H H1) (B : Bag H1 b l) : LIh P w CH CS Pt b l h d ln A M i H1 := ⟨B, W.hl.bag W.bg W.n3 W.n4 f, W.fo, W.pp, W.ls.bag W.bg W.n2 f, W.n1, W.n2, W.n3, W.n4, W.n5, tabs_fx W.tb W.bg f⟩
/-- what the state's parts are -/
theorem LIh.lsx (W : LIh P w CH CS Pt b l h d ln A M i H) : ∃ wd pp us, LsX H d ln wd pp us M ∧ us.length = M.prs.length ∧ us.length ≤ 12 := by
  obtain ⟨wd, pp, us, h1, h2, h3, h4, h5⟩ := W.ls
  have := W.hl.ok.pl
  have e : us.length = M.prs.length := Paired.length h3
  exact ⟨wd, pp, us, ⟨h1, h2, h3, h4, h5⟩, e, by omega⟩
/-- behind a deed -/
theorem LIh.next {A' : HA} {M' : StM} {d' ln' : Addr} {z : Str} {as : List V} (W : LIh P w CH CS Pt b l h d ln A M i H) (h1 : HallAt P w CH CS H1 h A' M' (i + 1)) (h2 : LsAt H1 d' ln' M') (e1 : A'.bh = A.bh) (e2 : A'.ah = A.ah ∨ FrT H A'.ah) (e3 : ln' = ln ∨ FrT H ln') (e4 : M' = M ∨ EntR z as M M') (f : HFxT h A.bh H H1) (t : Tabs (lamTp Pt) H1) : LIh P w CH CS Pt b l h d' ln' A' M' (i + 1) H1 := by
  obtain ⟨dx, hh⟩ := W.hl.ob
  obtain ⟨us, hb, _⟩ := W.hl.bh
  obtain ⟨ns, k, z, r, hB⟩ := id W.bg
  have bb : Bag H1 b l := ⟨ns, k, z, r, f _ _ hB.hb (ne_of hB.hb hh (by intro z; cases z)) W.n3 (by intro _ z; cases z), f _ _ hB.hl (ne_of hB.hl hh (by intro z; cases z)) W.n5 (by intro _ z; cases z), hB.k0, hB.z0, hB.r0, hB.r1⟩
  have fo : M'.fol ≤ i + 2 := by
    have := W.fo
    rcases e4 with rfl | e
    · omega
    · cases e with
      | like l r => show M.fol + 1 ≤ _; omega
      | strike n => show M.fol ≤ _; omega
      | put n x => show M.fol ≤ _; omega
      | forget n _ => show M.fol ≤ _; omega
  refine ⟨bb, h1, fo, ?_, h2, ?_, ?_, by rw [e1]; exact W.n3, ?_, by rw [e1]; exact W.n5, t⟩
  · rcases e4 with rfl | e
    · exact W.pp
    · exact e.pps W.pp
  · rw [e1]
    rcases e3 with rfl | e
    · exact W.n1
    · exact e.ne hb
  · rcases e3 with rfl | e
    · exact W.n2
    · exact e.ne hB.hb
  · rcases e2 with e | e
    · rw [e]; exact W.n4
    · exact (e.ne hB.hb).symm
end
section
def spLaw (K : PySem.W.Frag) (Pt : Addr) : Sp := fun vs H Q _ => ∃ (a : Addr) (ns : List Int), vs = [.ref a] ∧ SqL K H a (ns.map V.int) ∧ ns.length ≤ 63 ∧ H Pt = some (.tbl #[]) ∧ ∀ H', Q (.bl true) H'
end
end Sf
set_option hygiene false
/-! steps at a fold -/
local macro_rules | `(tactic| walk_at "s0") => `(tactic| first
  | ((with_reducible refine' Sf.w_fT ?a_ ?b_ ?_); (case a_ => assumption); (case b_ => assumption))
  | ((with_reducible refine' Sf.w_fX ?a_ ?b_ ?_); (case a_ => assumption); (case b_ => assumption))
  | ((with_reducible refine' Sf.w_fO ?a_ ?b_ ?_); (case a_ => assumption); (case b_ => assumption))
  | ((with_reducible refine' Sf.w_fS ?a_ ?b_ ?_); (case a_ => assumption); (case b_ => assumption))
  | ((with_reducible refine' Sf.w_fB ?a_ ?b_ ?_); (case a_ => assumption); (case b_ => assumption))
  | ((with_reducible refine' Sf.w_mF ?a_ ?b_ ?c_ ?d_ ?e_ ?f_ ?_); (case a_ => assumption); (case b_ => decide +kernel); (case c_ => decide +kernel); (case d_ => decide +kernel); (case e_ => decide +kernel); (case f_ => decide +kernel))
  | ((with_reducible refine' Sf.w_mT ?a_ ?b_ ?_); (case a_ => assumption); (case b_ => decide +kernel))
  | with_reducible refine Sf.w_methR ?_)
namespace Sf
open PySem PySem.Spec PyProof.Rows L2 TL
section
variable {P : Program} {w : World} {K : PySem.W.Frag} {mg : Str → Option Value} {base : Heap}
/-! ### _law_back, _law_short -/
def spBack : Sp := fun vs H Q _ => ∃ x : Str, vs = [.str x] ∧ Wd x ∧ x.length ≤ 50000 ∧ ∀ H', Same H H' → Q (.str (backT x)) H'
abbrev HasBack (P : Program) (w : World) (K : PySem.W.Frag) (mg : Str → Option Value) (base : Heap) : Prop := Has P w K mg base 2 "_law_back" ["_law_word_here"] spBack
end
end Sf
namespace Sf
open PySem PySem.Spec PyProof.Rows L2 TL
section
variable {P : Program} {w : World} {K : PySem.W.Frag} {mg : Str → Option Value} {base : Heap}
theorem sc_back : FnScope ["_law_word_here", "_law_sign_here"] ["_law_word_here"] (defScope s__law_back) := ⟨rfl, rfl, rfl, by decide +kernel, rfl, by decide +kernel, by decide +kernel⟩
theorem has_back (F : FnAt K mg "_law_back" s__law_back ["_law_word_here"]) (hF : HasFlip P w K mg base) : HasBack P w K mg base := F.has fun F => by
  obtain ⟨fF, fdF, gF, kF, bF, GF⟩ := hF
  refine F.ok sc_back (fun vs H Q E h => ?_) (fun cdv A outer s H vs Q E hr h => ?_)
  · obtain ⟨x, rfl, _⟩ := h
    rfl
  · obtain ⟨x, rfl, hx, hl, q⟩ := h
    have hz : (revS x).cps.size = (tl (revS x)).length := len_tl (revS x)
    have hzl := revS_len x
    refine ⟨_, pss_one (ps_ret (pe_join pe_str (pe_lc (own := [("_law_sign_here", 1)]) (g := gName 1) (tt := tYes) (by rfl) sc_back.nd (pi_str (pe_revS (pv 0)))
      (blkOk_by (own := [("_law_sign_here", 1)]) (N := ["_law_word_here", "_law_sign_here"]) (sc := defScope s__law_back) (by decide +kernel)) (fun _ _ _ _ _ => pg_name (i := 1) sc_back.nd rfl (.inl rfl)) (fun _ _ _ _ _ => pts_nil)
      (fun _ _ _ _ _ => pe_call GF hr (by rfl) gF kF bF .nil pass0 (pa_cons (pv 1) pa_nil))))), ?_⟩
    refine ⟨⟨_, rfl⟩, _, rfl, x, rfl, line_of (by omega), revS x, rfl, fun D nD => ?_⟩
    refine lc_gen (n := (revS x).cps.size) (fun i H2 => Same H H2 ∧ H2 D = some (.lst (((tl (revS x)).take i).map fun c => V.str (one (flipC c))))) ⟨same_upd nD, upd_same⟩ (fun i H2 hi _ => hi) (fun H2 _ => Nat.le_refl _) ?_ ?_
    · rintro i v H2 H3 hi ⟨s2, hD⟩ ⟨rfl, c, hc, rfl⟩
      have hc' := getElem?_of_cps hc
      have hs := rev_wd hx c (List.mem_of_getElem? hc')
      refine ⟨rfl, yes_if ?_⟩
      refine ⟨_, rfl, c, rfl, hs, _, hD, ?_, fun a o e => ?_, ?_⟩
      · rw [List.length_map, List.length_take]
        have h3 : (revS x).length = (tl (revS x)).length := len_tl (revS x)
        exact lineLt_of (by omega)
      · rw [upd_ne (ne_of_none e nD)]
        exact s2 _ _ e
      · rw [upd_same, List.take_add_one, hc', List.map_append]
        rfl
    · rintro H2 ⟨s2, hD⟩
      have e1 : (tl (revS x)).take (revS x).cps.size = tl (revS x) := List.take_of_length_le (by rw [hz]; exact Nat.le_refl _)
      rw [e1] at hD
      have e2 : (backL (tl x)).map one = (tl (revS x)).map fun c => one (flipC c) := by
        rw [tl_revS]
        unfold backL
        rw [← List.map_reverse, List.map_map]
        rfl
      refine ⟨_, D, (backL (tl x)).map one, rfl, rfl, .inl (SqL.of ?_), join_fit ?_, ?_⟩
      · rw [hD, e2, List.map_map]
        rfl
      · unfold backL
        rw [List.length_reverse, List.length_map, ← len_tl]
        omega
      · rw [join_ones]
        exact q H2 s2
end
end Sf
namespace Sf
open PySem PySem.Spec PyProof.Rows L2 TL
theorem cut3 (z : Str) {a b : Int} (h0 : 0 ≤ a) (h1 : a ≤ b) (h2 : b ≤ z.length) : z = cutS z none (some a) ++ cutS z (some a) (some b) ++ cutS z (some b) none ∧ cutS z none (some b) = cutS z none (some a) ++ cutS z (some a) (some b) := by
  have hz : z.length = (tl z).length := len_tl z
  have ix : ∀ c : Int, 0 ≤ c → c ≤ z.length → HT.sIx z.length 0 (some c) = c.toNat ∧ HT.sIx z.length z.length (some c) = c.toNat := fun c c0 c1 => by
    have e : (if c < 0 then (c + (z.length : Int)).toNat else min c.toNat z.length) = c.toNat := by
      rw [if_neg (by omega)]
      omega
    exact ⟨e, e⟩
  have e0 : HT.sIx z.length 0 none = 0 := rfl
  have en : HT.sIx z.length z.length none = z.length := rfl
  obtain ⟨a1, a2⟩ := ix a h0 (by omega)
  obtain ⟨b1, b2⟩ := ix b (by omega) h2
  have t1 : tl (cutS z none (some a)) = (tl z).take a.toNat := by rw [tl_cut, e0, a2, Nat.sub_zero, List.drop_zero]
  have t2 : tl (cutS z (some a) (some b)) = ((tl z).drop a.toNat).take (b.toNat - a.toNat) := by rw [tl_cut, a1, b2]
  have t3 : tl (cutS z (some b) none) = (tl z).drop b.toNat := by
    rw [tl_cut, b1, en, List.take_of_length_le]
    rw [List.length_drop]
    omega
  have t4 : tl (cutS z none (some b)) = (tl z).take b.toNat := by rw [tl_cut, e0, b2, Nat.sub_zero, List.drop_zero]
  have hab : (tl z).take a.toNat ++ ((tl z).drop a.toNat).take (b.toNat - a.toNat) = (tl z).take b.toNat := by
    rw [← List.take_add]
    congr 1
    omega
  constructor
  · refine ext_tl ?_
    rw [tl_append, tl_append, t1, t2, t3, hab, List.take_append_drop]
  · refine ext_tl ?_
    rw [tl_append, t1, t2, t4, hab]
theorem cutc_len (z : Str) {a c : Int} (h0 : 0 ≤ a) (h1 : 0 ≤ c) (h2 : a + c ≤ z.length) : ((cutS z (some a) (some (a + c))).length : Int) = c := by
  have hz : z.length = (tl z).length := len_tl z
  rw [len_tl, tl_cut, List.length_take, List.length_drop]
  have ix : ∀ (d : Int) (m : Nat), 0 ≤ d → d ≤ z.length → HT.sIx z.length m (some d) = d.toNat := fun d m c0 c1 => by
    show (if d < 0 then (d + (z.length : Int)).toNat else min d.toNat z.length) = d.toNat
    rw [if_neg (by omega)]
    omega
  rw [ix a 0 h0 (by omega), ix (a + c) z.length (by omega) h2]
  omega
section
variable {P : Program} {w : World} {K : PySem.W.Frag} {mg : Str → Option Value} {base : Heap} {C C2 : Addr}
/-! ### _law_round_ways -/
def spRw : Sp := fun vs H Q _ => ∃ (b l : Addr) (x : Str) (n : Int), vs = [.ref b, .str x, .int n] ∧ Bag H b l ∧ Wd x ∧ x.length ≤ 60 ∧ 0 ≤ n ∧ n ≤ 1000 ∧
  ∀ (y : Str) (H' : Hp), Wd y → y.length ≤ 60 → (y.length : Int) ≤ x.length + 6 * n → Bag H' b l → Fx b H H' → Q (.str y) H'
abbrev HasRw (P : Program) (w : World) (K : PySem.W.Frag) (mg : Str → Option Value) (base : Heap) : Prop := Has P w K mg base 3 "_law_round_ways" ["_law_bag", "_law_word_here", "_law_many"] spRw
theorem sc_rw : FnScope ["_law_bag", "_law_word_here", "_law_many", "_law_turn", "_law_at", "_law_to", "_law_part"] ["_law_bag", "_law_word_here", "_law_many"] (defScope s__law_round_ways) := ⟨rfl, rfl, rfl, by decide +kernel, rfl, by decide +kernel, by decide +kernel⟩
theorem has_rw (F : FnAt K mg "_law_round_ways" s__law_round_ways ["_law_bag", "_law_word_here", "_law_many"]) (B : Blt mg) (h_Pu : HasPull P w K mg base) (h_Ba : HasBack P w K mg base) : HasRw P w K mg base := F.has fun F => by
  obtain ⟨f_Pu, fd_Pu, g_Pu, k_Pu, b_Pu, G_Pu⟩ := h_Pu
  obtain ⟨f_Ba, fd_Ba, g_Ba, k_Ba, b_Ba, G_Ba⟩ := h_Ba
  refine F.ok sc_rw (fun vs H Q E h => ?_) (fun cdv A outer s H vs Q E hr h => ?_)
  · obtain ⟨b, l, x, n, rfl, _⟩ := h
    rfl
  · obtain ⟨b, l, x, n, rfl, hB, hx, hxl, n0, n1, q⟩ := h
    refine ⟨_, (pss_cons (ps_for PassesOwn.never rfl (pi_range1 rfl B.range (pa_cons (pv 2) pa_nil)) (pg_name (i := 3) sc_rw.nd rfl (.inl rfl)) (pss_cons (ps_set (i := 4) sc_rw.nd rfl (.inl rfl) (pe_call G_Pu (hr.mono (by decide)) (by rfl) g_Pu k_Pu b_Pu .nil pass0 (pa_cons (pv 0) (pa_cons (pe_op op_add (pe_callB call_lenS (by rfl) B.len PySem.boot_len (pa_cons (pv 1) pa_nil)) pe_int) pa_nil)))) (pss_cons (ps_set (i := 5) sc_rw.nd rfl (.inl rfl) (pe_op op_add (pv 4) (pe_call G_Pu (hr.mono (by decide)) (by rfl) g_Pu k_Pu b_Pu .nil pass0 (pa_cons (pv 0) (pa_cons (pe_op op_add (pe_callB (call_min2N rfl) (by rfl) B.min (by decide +kernel) (pa_cons pe_int (pa_cons (pe_op op_sub (pe_callB call_lenS (by rfl) B.len PySem.boot_len (pa_cons (pv 1) pa_nil)) (pv 4)) pa_nil))) pe_int) pa_nil))))) (pss_cons (ps_set (i := 6) sc_rw.nd rfl (.inl rfl) (pe_slice sl_str (pv 1) (po_some (pv 4)) (po_some (pv 5)))) (pss_one (ps_if (pt_cmpR op_le (pe_op op_add (pe_callB call_lenS (by rfl) B.len PySem.boot_len (pa_cons (pv 1) pa_nil)) (pe_op op_mul pe_int (pe_callB call_lenS (by rfl) B.len PySem.boot_len (pa_cons (pv 6) pa_nil)))) pe_int (nomark _)) (pss_one (ps_set (i := 1) sc_rw.nd rfl (.inl rfl) (pe_op op_addS (pe_op op_addS (pe_op op_addS (pe_slice sl_str (pv 1) po_none (po_some (pv 5))) (pe_call G_Ba (hr.mono (by decide)) (by rfl) g_Ba k_Ba b_Ba .nil pass0 (pa_cons (pv 6) pa_nil))) (pv 6)) (pe_slice sl_str (pv 1) (po_some (pv 5)) po_none)))) pss_nil)))))) (pss_one (ps_ret (pv 1)))), ?_⟩
    walk_at "go"
    refine w_kRng1 (by omega) (by omega) ?_
    refine w_range (fun i σ H2 => ∃ (y3 y4 y5 y6 : Option V) (y : Str), σ = [some (.ref b), some (.str y), some (.int n), y3, y4, y5, y6] ∧ Wd y ∧ y.length ≤ 60 ∧ (y.length : Int) ≤ x.length + 6 * i ∧ Bag H2 b l ∧ Fx b H H2) ⟨none, none, none, none, x, rfl, hx, hxl, by omega, hB, .refl⟩ ?_ ?_
    · rintro i σ H2 hi ⟨y3, y4, y5, y6, y, rfl, hy, hyl, hT, B2, f2⟩
      have ln : ∀ {k : Nat}, k ≤ 200 → k ≤ sizeLine := fun h => line_of (by omega)
      walk_at "go"
      refine w_lenS (ln (by omega)) ?_
      walk_at "go"
      refine ⟨b, l, _, rfl, B2, by omega, by omega, fun a H3 a0 a1 B3 f3 => ?_⟩
      walk_at "go"
      refine w_lenS (ln (by omega)) ?_
      walk_at "go"
      refine ⟨b, l, _, rfl, B3, by split <;> omega, by split <;> omega, fun c H4 c0 c1 B4 f4 => ?_⟩
      have c2 : c ≤ y.length - a := by
        split at c1 <;> omega
      walk_at "go"
      refine w_slS (ln (by omega)) ?_
      obtain ⟨e1, e2⟩ := cut3 y a0 (show a ≤ a + c by omega) (by omega)
      have hv : Wd (cutS y (some a) (some (a + c))) := hy.cut
      have hu : Wd (cutS y none (some a)) := hy.cut
      have hr' : Wd (cutS y (some (a + c)) none) := hy.cut
      have lv : (cutS y (some a) (some (a + c))).length ≤ 60 := by
        have := congrArg Str.length e1
        rw [len_app, len_app] at this
        omega
      have lt : (cutS y none (some (a + c))).length + (cutS y (some (a + c)) none).length ≤ 60 := by
        have := congrArg Str.length e1
        rw [← e2, len_app] at this
        omega
      walk_at "go"
      refine w_lenS (ln (by omega)) ?_
      walk_at "go"
      refine w_lenS (ln (by omega)) ?_
      walk_at "go"
      refine w_i (.inr ⟨by omega, by omega⟩) ?_
      walk_at "go"
      refine w_if2 (fun hle => ?_) (fun _ => ?_)
      · walk_at "go"
        refine w_slS (ln (by omega)) ?_
        walk_at "go"
        refine ⟨_, rfl, hv, by omega, fun H5 s5 => ?_⟩
        have lb := backT_len (cutS y (some a) (some (a + c)))
        refine w_addS (ln (by omega)) ?_
        walk_at "go"
        refine w_addS (ln (by rw [len_app]; omega)) ?_
        walk_at "go"
        refine w_slS (ln (by omega)) ?_
        refine w_addS (ln (by rw [len_app, len_app]; omega)) ?_
        walk_at "go"
        refine ⟨_, _, _, _, _, rfl, ?_, ?_, ?_, B4.same s5, ((f2.trans f3).trans f4).same s5⟩
        · exact ((hy.cut.app (backT_wd hv)).app hv).app hr'
        · have := congrArg Str.length e1
          rw [← e2, len_app] at this
          rw [len_app, len_app, len_app]
          omega
        · have h1 := congrArg Str.length e1
          rw [← e2, len_app] at h1
          have h2 := congrArg Str.length e2
          rw [len_app] at h2
          have h3 : ((cutS y (some a) (some (a + c))).length : Int) ≤ 3 := by
            have h4 := cutc_len y a0 c0 (by omega : a + c ≤ y.length)
            rw [h4]
            split at c1 <;> omega
          rw [len_app, len_app, len_app]
          omega
      · walk_at "go"
        exact ⟨_, _, _, _, y, rfl, hy, hyl, by omega, B4, (f2.trans f3).trans f4⟩
    · rintro σ H2 ⟨y3, y4, y5, y6, y, rfl, hy, hyl, hT, B2, f2⟩
      walk_at "go"
      exact q y H2 hy hyl (by omega) B2 f2
/-! ### the law -/
end
end Sf
namespace Sf
open PySem PySem.Spec PyProof.Rows L2 TL
section
/-! ### names drawn by the law -/
/-- a text that may stand for a name -/
def NmS (x : Str) : Prop := x.length ≤ 100 ∧ ∀ c ∈ x.cps.toList, c < 1114112
theorem NmS.nm {x : Str} (h : NmS x) : NmT x := ⟨Nat.le_trans h.1 (by decide), fun c hc => Nat.lt_of_lt_of_le (h.2 c hc) (by decide)⟩
theorem nmS_isN {x : Str} (h : isN x = true) : NmS x := by
  have := (isN_nm h).2
  refine ⟨by omega, fun c hc => ?_⟩
  unfold isN at h
  have := List.all_eq_true.mp (Bool.and_eq_true_iff.mp h).2 c hc
  unfold lowc at this
  simp only [Bool.and_eq_true, decide_eq_true_eq] at this
  omega
theorem strOk_nm {x : Str} (h : NmS x) : PyData.canLay0 (.str x) = true := by
  rw [PyData.canLay0]
  unfold PyData.strOk
  rw [Array.all_eq_true']
  intro c hc
  exact decide_eq_true (h.2 c (Array.mem_def.mp hc))
theorem dpS {K : PySem.W.Frag} {H : Hp} : ∀ l : List Str, DpAll K H (l.map V.str) (l.map PyData.str)
  | [] => .nil
  | _ :: l => .cons (.str _) (dpS l)
theorem w_neNilS {K : PySem.W.Frag} {H : Hp} {Q : VK} {p q : Addr} {ys : List Str} (h : H p = some (.lst (ys.map V.str))) (hn : ∀ y ∈ ys, NmS y) (hq : H q = some (.lst [])) (k : Q (.bl (!ys.isEmpty)) H) : rNeD K (.ref p) (.ref q) H Q :=
  w_neNil h (dpS ys) (shaped_list (fun x hx => strOk_nm (hn x hx)) (fun x _ => by rw [PyData.depth]; omega)) hq (by rw [List.isEmpty_map]; exact k)
end
section
variable {P : Program} {w : World} {K : PySem.W.Frag} {mg : Str → Option Value} {base : Heap} {CH CS CNoName fN : Addr}
def spLna : Sp := fun vs H Q _ => ∃ (b l : Addr), vs = [.ref b] ∧ Bag H b l ∧ ∀ (x : Str) (H' : Hp), NmS x → Bag H' b l → Fx b H H' → Q (.str x) H'
theorem sc_lna : FnScope ["_law_bag", "_law_size", "_law_turn"] ["_law_bag"] (defScope s__law_name) := ⟨rfl, rfl, rfl, by decide +kernel, rfl, by decide +kernel, by decide +kernel⟩
theorem has_lna (F : FnAt K mg "_law_name" s__law_name ["_law_bag"]) (B : Blt mg) (h_Pu : HasPull P w K mg base) : Has P w K mg base 2 "_law_name" ["_law_bag"] spLna := F.has fun F => by
  obtain ⟨f_Pu, fd_Pu, g_Pu, k_Pu, b_Pu, G_Pu⟩ := h_Pu
  refine F.ok sc_lna (fun vs H Q E h => ?_) (fun cdv A outer s H vs Q E hr h => ?_)
  · obtain ⟨b, l, rfl, _⟩ := h
    rfl
  · obtain ⟨b, l, rfl, hB, q⟩ := h
    refine ⟨_, (pss_cons (ps_set (i := 1) sc_lna.nd rfl (.inl rfl) (pe_ix ix_list (pe_lst (pa_cons pe_int (pa_cons pe_int (pa_cons pe_int (pa_cons (pe_op op_add pe_int (pe_call G_Pu (hr.mono (by decide)) (by rfl) g_Pu k_Pu b_Pu .nil pass0 (pa_cons (pv 0) (pa_cons pe_int pa_nil)))) pa_nil))))) (pe_call G_Pu (hr.mono (by decide)) (by rfl) g_Pu k_Pu b_Pu .nil pass0 (pa_cons (pv 0) (pa_cons pe_int pa_nil))) (fun _ _ => rfl))) (pss_one (ps_ret (pe_m1 PySem.F.slot_str_join PySem.F.type_str_join mt_joinN pe_str (pe_lc (own := [("_law_turn", 2)]) (g := gName 2) (tt := tYes) (by rfl) sc_lna.nd (pi_range1 rfl B.range (pa_cons (pv 1) pa_nil)) (blkOk_by (own := [("_law_turn", 2)]) (N := ["_law_bag", "_law_size", "_law_turn"]) (sc := defScope s__law_name) (by decide +kernel)) (fun _ _ _ _ _ => pg_name (i := 2) sc_lna.nd rfl (.inl rfl)) (fun _ _ _ _ _ => pts_nil) (fun _ _ _ _ _ => (pe_ix ix_str pe_str (pe_call G_Pu (hr.mono (by decide)) (by rfl) g_Pu k_Pu b_Pu .nil pass0 (pa_cons (pv 0) (pa_cons pe_int pa_nil))) (fun _ _ => rfl)))))))), ?_⟩
    walk_at "go"
    refine ⟨b, l, 8, rfl, hB, by decide, by decide, fun e1 H1 e10 e11 B1 f1 => ?_⟩
    walk_at "go"
    refine w_newL (by walk_at "sz") (fun p H2 hp np => ?_)
    walk_at "go"
    refine ⟨b, l, 4, rfl, B1.nw np, by decide, by decide, fun e2 H3 e20 e21 B3 f3 => ?_⟩
    have hp3 := f3.at (B1.ne np.nn) hp
    obtain ⟨m, hm, m0, m1⟩ : ∃ m : Int, atI [V.int 1, V.int 1, V.int 2, V.int (1 + e1)] e2 = some (.int m) ∧ 1 ≤ m ∧ m ≤ 8 := by
      have : e2 = 0 ∨ e2 = 1 ∨ e2 = 2 ∨ e2 = 3 := by omega
      rcases this with h | h | h | h <;> rw [h]
      · exact ⟨1, rfl, by decide, by decide⟩
      · exact ⟨1, rfl, by decide, by decide⟩
      · exact ⟨2, rfl, by decide, by decide⟩
      · exact ⟨1 + e1, rfl, by omega, by omega⟩
    refine w_ixL hp3 hm ?_
    have f03 : Fx b H H3 := (f1.same np.same).trans f3
    walk_at "go"
    refine w_kRng1 (by omega) (by omega) ?_
    refine w_lcR (lo := 0) (fun r i H4 => H3 r = none ∧ Bag H4 b l ∧ Fx b H3 H4 ∧ ∃ cs : List Nat, cs.length = i ∧ (∀ c ∈ cs, c < 1114112) ∧ H4 r = some (.lst ((cs.map one).map V.str))) (fun r H4 hr nr => ⟨nr.nn, B3.nw nr, .of nr.same, [], rfl, (fun c h => by cases h), hr⟩) ?_ ?_
    · rintro r i H4 hi ⟨nr, B4, f4, cs, lc, bc, hr4⟩
      have rb : r ≠ b := B3.ne nr
      walk_at "go"
      refine ⟨b, l, 26, rfl, B4, by decide, by decide, fun e H5 e0 e1 B5 f5 => ?_⟩
      obtain ⟨c, hc, cl⟩ : ∃ c, atI (Str.ofString "abcdefghijklmnopqrstuvwxyz").cps.toList e = some c ∧ c < 1114112 := by
        have ll : (Str.ofString "abcdefghijklmnopqrstuvwxyz").cps.toList.length = 26 := by decide +kernel
        have al : ∀ c ∈ (Str.ofString "abcdefghijklmnopqrstuvwxyz").cps.toList, c < 1114112 := by decide +kernel
        obtain ⟨j, rfl⟩ : ∃ j : Nat, e = (j : Int) := ⟨e.toNat, by omega⟩
        have hj : j < (Str.ofString "abcdefghijklmnopqrstuvwxyz").cps.toList.length := by rw [ll]; omega
        exact ⟨_, atI_nat (List.getElem?_eq_getElem hj), al _ (List.getElem_mem hj)⟩
      refine w_ixS (by decide +kernel) hc ?_
      walk_at "go"
      refine w_kIt (f5.at rb hr4) (by rw [List.length_map, List.length_map]; exact lineLt_of (by omega)) (fun H6 h6 o6 => ⟨nr, ?_, ?_, cs ++ [c], by rw [List.length_append, lc]; rfl, fun x hx => ?_, ?_⟩)
      · obtain ⟨ns, k, z, r0, hB3⟩ := B3
        obtain ⟨ns', k', z', r', hB5⟩ := B5
        exact ⟨ns', k', z', r', o6.at rb.symm hB5.hb, o6.at (ne_of_none hB3.hl nr) hB5.hl, hB5.k0, hB5.z0, hB5.r0, hB5.r1⟩
      · exact fun a o e n => o6.at (ne_of_none e nr) ((f4.trans f5) a o e n)
      · rcases List.mem_append.mp hx with h | h
        · exact bc x h
        · rw [List.mem_singleton.mp h]; exact cl
      · rw [h6, List.map_append, List.map_append]
        rfl
    · rintro r H4 ⟨nr, B4, f4, cs, lc, bc, hr4⟩
      walk_at "go"
      have lm : cs.length ≤ 8 := by omega
      have sm : ((cs.map one).map (·.length)).sum = cs.length := by
        rw [List.map_map]
        have : ((fun x : Str => x.length) ∘ one) = fun _ => 1 := funext fun c => len_one c
        rw [this, List.map_const', List.sum_replicate_nat]
        omega
      refine w_join hr4 (by rw [sm, List.length_map, show (Str.ofString "").length = 0 from by decide +kernel]; omega) ?_
      rw [join_ones]
      have ns : NmS (mkS cs) := ⟨by rw [mkS_len]; omega, fun c hc => bc c hc⟩
      exact q (mkS cs) H4 ns B4 (f03.trans f4)
def spLsn : Sp := fun vs H Q _ => ∃ (b l p : Addr) (ys : List Str), vs = [.ref b, .ref p] ∧ Bag H b l ∧ H p = some (.lst (ys.map V.str)) ∧ p ≠ b ∧ ys.length ≤ 100 ∧ (∀ y ∈ ys, NmS y) ∧ ∀ (x : Str) (H' : Hp), NmS x → Bag H' b l → Fx b H H' → Q (.str x) H'
theorem sc_lsn : FnScope ["_law_bag", "_law_known"] ["_law_bag", "_law_known"] (defScope s__law_some_name) := ⟨rfl, rfl, rfl, by decide +kernel, rfl, by decide +kernel, by decide +kernel⟩
theorem has_lsn (F : FnAt K mg "_law_some_name" s__law_some_name ["_law_bag", "_law_known"]) (h_Pu : HasPull P w K mg base) (h_Lpk : HasLpk P w K mg base) (h_Lna : Has P w K mg base 2 "_law_name" ["_law_bag"] spLna) : Has P w K mg base 3 "_law_some_name" ["_law_bag", "_law_known"] spLsn := F.has fun F => by
  obtain ⟨f_Pu, fd_Pu, g_Pu, k_Pu, b_Pu, G_Pu⟩ := h_Pu
  obtain ⟨f_Lpk, fd_Lpk, g_Lpk, k_Lpk, b_Lpk, G_Lpk⟩ := h_Lpk
  obtain ⟨f_Lna, fd_Lna, g_Lna, k_Lna, b_Lna, G_Lna⟩ := h_Lna
  refine F.ok sc_lsn (fun vs H Q E h => ?_) (fun cdv A outer s H vs Q E hr h => ?_)
  · obtain ⟨b, l, p, ys, rfl, _⟩ := h
    rfl
  · obtain ⟨b, l, p, ys, rfl, hB, hp, pb, hl, hn, q⟩ := h
    refine ⟨_, (pss_cons (ps_if (PW.pt (pw_and (pt_cmpR (op_neD hr.units) (pv 1) (pe_lst pa_nil) (nomark _)) (pw_and1 (pt_cmpR op_gt (pe_call G_Pu (hr.mono (by decide)) (by rfl) g_Pu k_Pu b_Pu .nil pass0 (pa_cons (pv 0) (pa_cons pe_int pa_nil))) pe_int (nomark _))))) (pss_one (ps_ret (pe_call G_Lpk (hr.mono (by decide)) (by rfl) g_Lpk k_Lpk b_Lpk .nil pass0 (pa_cons (pv 0) (pa_cons (pv 1) pa_nil))))) pss_nil) (pss_one (ps_ret (pe_ix ix_list (pe_lst (pa_cons (pe_call G_Lna (hr.mono (by decide)) (by rfl) g_Lna k_Lna b_Lna .nil pass0 (pa_cons (pv 0) pa_nil)) (pa_cons (pe_call G_Lna (hr.mono (by decide)) (by rfl) g_Lna k_Lna b_Lna .nil pass0 (pa_cons (pv 0) pa_nil)) (pa_cons pe_str (pa_cons pe_str (pa_cons pe_str (pa_cons pe_str (pa_cons pe_str pa_nil)))))))) (pe_call G_Pu (hr.mono (by decide)) (by rfl) g_Pu k_Pu b_Pu .nil pass0 (pa_cons (pv 0) (pa_cons pe_int pa_nil))) (fun _ _ => rfl))))), ?_⟩
    walk_at "gs"
    refine w_seqJ (fun σ HJ => σ = [some (.ref b), some (.ref p)] ∧ Bag HJ b l ∧ Fx b H HJ) ?_ ?_
    · intro NN hJ
      walk_at "go"
      refine w_newL (by walk_at "sz") (fun p2 H2 hp2 np2 => ?_)
      refine w_neNilS (np2.at hp) hn hp2 ?_
      have B2 := hB.nw np2
      cases ys with
      | nil =>
        rw [show (!([] : List Str).isEmpty) = false from rfl]
        walk_at "go"
        exact hJ _ _ ⟨rfl, B2, .of np2.same⟩
      | cons y ys =>
        rw [show (!(y :: ys).isEmpty) = true from rfl]
        walk_at "go"
        refine ⟨b, l, 4, rfl, B2, by decide, by decide, fun e H3 e0 e1 B3 f3 => ?_⟩
        walk_at "go"
        refine w_if2 (fun h => ?_) (fun h => ?_)
        · walk_at "go"
          refine ⟨b, l, p, _, rfl, B3, f3.at pb (np2.at hp), pb, by rw [List.length_map]; exact Nat.succ_pos _, by rw [List.length_map]; omega, fun v H4 hv B4 f4 => ?_⟩
          obtain ⟨x, hx, rfl⟩ := List.mem_map.mp hv
          exact q x H4 (hn x hx) B4 (((Fx.of np2.same).trans f3).trans f4)
        · walk_at "go"
          exact hJ _ _ ⟨rfl, B3, (Fx.of np2.same).trans f3⟩
    · rintro σ H1 ⟨rfl, B1, f1⟩
      walk_at "go"
      refine ⟨b, l, rfl, B1, fun x1 H2 n1 B2 f2 => ?_⟩
      walk_at "go"
      refine ⟨b, l, rfl, B2, fun x2 H3 n2 B3 f3 => ?_⟩
      walk_at "go"
      refine w_newL (by walk_at "sz") (fun p4 H4 hp4 np4 => ?_)
      walk_at "go"
      refine ⟨b, l, 7, rfl, B3.nw np4, by decide, by decide, fun e H5 e0 e1 B5 f5 => ?_⟩
      have hp5 := f5.at (B3.ne np4.nn) hp4
      obtain ⟨x, hx, nx⟩ : ∃ x, atI [V.str x1, V.str x2, V.str (Str.ofString ""), V.str (Str.ofString "Ab"), V.str (Str.ofString "a1"), V.str (Str.ofString "abcdefghi"), V.str (Str.ofString "x y")] e = some (V.str x) ∧ NmS x := by
        have : e = 0 ∨ e = 1 ∨ e = 2 ∨ e = 3 ∨ e = 4 ∨ e = 5 ∨ e = 6 := by omega
        rcases this with h | h | h | h | h | h | h <;> rw [h]
        · exact ⟨_, rfl, n1⟩
        · exact ⟨_, rfl, n2⟩
        · exact ⟨_, rfl, by decide +kernel, by decide +kernel⟩
        · exact ⟨_, rfl, by decide +kernel, by decide +kernel⟩
        · exact ⟨_, rfl, by decide +kernel, by decide +kernel⟩
        · exact ⟨_, rfl, by decide +kernel, by decide +kernel⟩
        · exact ⟨_, rfl, by decide +kernel, by decide +kernel⟩
      refine w_ixL hp5 hx ?_
      exact q x H5 nx B5 (((f1.trans f2).trans f3).trans ((Fx.of np4.same).trans f5))
end
end Sf
namespace Sf
open PySem PySem.Spec PyProof.Rows L2 TL
/-! ### d != {} -/
def rNeDict : R2 := fun x y H Q => ∃ (a b : Addr) (kp : List (Key × V)), x = .ref a ∧ y = .ref b ∧ H a = some (.dK kp) ∧ H b = some (.dK []) ∧ Q (.bl (!kp.isEmpty)) H
theorem op_neDict {X : Cx} (hu : X.A.units + 64 < cLine) : OpR X (compareOp .NotEq) rNeDict := by
  intro pins s σ H x y v u Q I rx ry h
  obtain ⟨a, b, kp, rfl, rfl, ha, hb, q⟩ := h
  obtain rfl : v = Value.ref a := rx
  obtain rfl : u = Value.ref b := ry
  obtain ⟨_, ya, va, ra, da⟩ := dk_of I.hok ha
  obtain ⟨_, yb, vb, rb, db⟩ := dk_of I.hok hb
  have rb' : Paired _ ([] : List (Key × V)) vb := rb
  cases rb'
  have ra' : Paired _ kp va := ra
  have la := Paired.length ra'
  refine PySem.W.keq_ne (knd := mixKind X.prog X.w) (r := true) ya yb da db (by omega) (fun e => ?_) ⟨.bl (!kp.isEmpty), H, I, ?_, q⟩
  · have : va = [] := List.length_eq_zero_iff.mp e
    rw [this]
    exact .nil
  · cases kp with
    | nil =>
      have : va = [] := List.length_eq_zero_iff.mp (by rw [← la]; rfl)
      rw [this]
      rfl
    | cons e l =>
      cases va with
      | nil => cases la
      | cons e' l' => rfl
theorem w_neDict {H : Hp} {Q : VK} {a b : Addr} {kp : List (Key × V)} (ha : H a = some (.dK kp)) (hb : H b = some (.dK [])) (q : Q (.bl (!kp.isEmpty)) H) : rNeDict (.ref a) (.ref b) H Q := ⟨a, b, kp, rfl, rfl, ha, hb, q⟩
end Sf
namespace Sf
open PySem PySem.Spec PyProof.Rows L2 TL
/-! ### a deed drawn by the law -/
theorem w_catT {K : PySem.W.Frag} {H : Hp} {Q : VK} {a b : Addr} {xs ys : List V} (h1 : H a = some (.tup xs)) (h2 : H b = some (.tup ys)) (nx : xs ≠ []) (ny : ys ≠ []) (hl : xs.length + ys.length ≤ sizeLine) (k : ∀ p H1, H1 p = some (.tup (xs ++ ys)) → Nw p H H1 → Q (.ref p) H1) : rCatT K (.ref a) (.ref b) H Q :=
  ⟨a, b, xs, ys, rfl, rfl, SqT.of h1, SqT.of h2, nx, hl, fun z => absurd z ny, fun _ _ n => k _ _ upd_same (.mk' n)⟩
def bSd (l : Str) : Prop := l.length ≤ 3 ∨ (13 ≤ l.length ∧ l.length ≤ 14)
inductive DeR : Str → List V → Prop
  | like (l r : Str) : bSd l → bSd r → DeR (Str.ofString "like") [.str l, .str r]
  | strike (n : Int) : n.natAbs ≤ 10000000000 → DeR (Str.ofString "strike") [.int n]
  | put (n x : Str) : NmS n → x.length ≤ 20 → DeR (Str.ofString "put") [.str n, .str x]
  | forget (n : Str) : NmS n → DeR (Str.ofString "forget") [.str n]
  | unshelve (n : Str) : NmS n → DeR (Str.ofString "unshelve") [.str n]
  | shelve (a b c : Str) : NmS a → NmS b → NmS c → DeR (Str.ofString "shelve") [.str a, .str b, .str c, .int 1]
def ppK (ps : List (Str × V)) : List (Key × V) := ps.map fun e => (.inr e.1, e.2)
theorem isW_both {x : Str} (h : isW x = true) : Wd x ∧ x.length ≤ 60 := by
  refine ⟨isW_wdH h, ?_⟩
  unfold isW at h
  have := (Bool.and_eq_true_iff.mp h).1
  simpa using this
theorem cut20 (z : Str) : (cutS z none (some 20)).length ≤ 20 := by
  have hz : z.length = (tl z).length := len_tl z
  rw [len_tl, tl_cut, List.length_take, List.length_drop]
  have : HT.sIx z.length z.length (some 20) ≤ 20 := by
    show (if (20 : Int) < 0 then ((20 : Int) + (z.length : Int)).toNat else min (20 : Int).toNat z.length) ≤ 20
    rw [if_neg (by decide)]
    exact Nat.min_le_left _ _
  omega
section
variable {P : Program} {w : World} {K : PySem.W.Frag} {mg : Str → Option Value} {base : Heap}
def spLde : Sp := fun vs H Q _ => ∃ (b l d ln wd pp : Addr) (us : List V) (M : StM) (ps : List (Str × V)), vs = [.ref b, .ref d] ∧ Bag H b l ∧ ln ≠ b ∧ H d = some (.dK (lsK ln wd pp M.fol)) ∧ H ln = some (.lst us) ∧ Paired (LnT H) us M.prs ∧ H wd = some (.dK (txK M.txs)) ∧ H pp = some (.dK (ppK ps)) ∧
  us.length ≤ 12 ∧ M.txs.length ≤ 20 ∧ ps.length ≤ 12 ∧ M.fol ≤ 1000000000 ∧ (M.txs.map (·.1)).Nodup ∧ (ps.map (·.1)).Nodup ∧ (∀ e ∈ M.txs, isN e.1 = true) ∧ (∀ e ∈ M.txs, isW e.2 = true) ∧ (∀ e ∈ ps, NmS e.1) ∧ (∀ e ∈ M.prs, e.1.natAbs ≤ 10000000000) ∧
  ∀ (t : Addr) (z : Str) (as : List V) (H' : Hp), H' t = some (.tup (.str z :: as)) → DeR z as → Bag H' b l → Fx b H H' → Q (.ref t) H'
theorem sc_lde : FnScope ["_law_bag", "_law_state", "_law_names", "_law_labels", "_law_kind", "_law_two", "_law_odd", "_law_line", "_law_numbers", "_law_word_here", "_law_name_here"] ["_law_bag", "_law_state"] (defScope s__law_deed) := ⟨rfl, rfl, rfl, by decide +kernel, rfl, by decide +kernel, by decide +kernel⟩
theorem has_lde (F : FnAt K mg "_law_deed" s__law_deed ["_law_bag", "_law_state"]) (B : Blt mg) (h_Pu : HasPull P w K mg base) (h_Wo : HasWord P w K mg base) (h_Lpk : HasLpk P w K mg base) (h_Bd : HasBad P w K mg base) (h_Rw : HasRw P w K mg base) (h_Lsn2 : Has P w K mg base 3 "_law_some_name" ["_law_bag", "_law_known"] spLsn) : Has P w K mg base 4 "_law_deed" ["_law_bag", "_law_state"] spLde := F.has fun F => by
  obtain ⟨f_Pu, fd_Pu, g_Pu, k_Pu, b_Pu, G_Pu⟩ := h_Pu
  obtain ⟨f_Wo, fd_Wo, g_Wo, k_Wo, b_Wo, G_Wo⟩ := h_Wo
  obtain ⟨f_Lpk, fd_Lpk, g_Lpk, k_Lpk, b_Lpk, G_Lpk⟩ := h_Lpk
  obtain ⟨f_Bd, fd_Bd, g_Bd, k_Bd, b_Bd, G_Bd⟩ := h_Bd
  obtain ⟨f_Rw, fd_Rw, g_Rw, k_Rw, b_Rw, G_Rw⟩ := h_Rw
  obtain ⟨f_Lsn2, fd_Lsn2, g_Lsn2, k_Lsn2, b_Lsn2, G_Lsn2⟩ := h_Lsn2
  refine F.ok sc_lde (fun vs H Q E h => ?_) (fun cdv A outer s H vs Q E hr h => ?_)
  · obtain ⟨b, l, d, ln, wd, pp, us, M, ps, rfl, _⟩ := h
    rfl
  · obtain ⟨b, l, d, ln, wd, pp, us, M, ps, rfl, hB, nb, hd, hln, hP, hwd, hpp, ul, tl, pl, fo, ndT, ndP, nmT, wdT, nmP, nmN, q⟩ := h
    refine ⟨_, (pss_cons (ps_par (i := 2) (j := 3) (by rfl) sc_lde.nd rfl rfl (by decide) rfl rfl (pa_cons (pe_callB (call_sortedD rfl) (by rfl) B.sorted (by decide +kernel) (pa_cons (pe_dget (hu_of hr) (pv 1) pe_str (fun _ _ => rfl)) pa_nil)) (pa_cons (pe_callB (call_sortedD rfl) (by rfl) B.sorted (by decide +kernel) (pa_cons (pe_dget (hu_of hr) (pv 1) pe_str (fun _ _ => rfl)) pa_nil)) pa_nil)) (by rfl)) (pss_cons (ps_set (i := 4) sc_lde.nd rfl (.inl rfl) (pe_call G_Pu (hr.mono (by decide)) (by rfl) g_Pu k_Pu b_Pu .nil pass0 (pa_cons (pv 0) (pa_cons pe_int pa_nil)))) (pss_cons (ps_if (pt_cmpR op_lt (pv 4) pe_int (nomark _)) (pss_cons (ps_set (i := 5) sc_lde.nd rfl (.inl rfl) (pe_lst (pa_cons (pe_call G_Wo (hr.mono (by decide)) (by rfl) g_Wo k_Wo b_Wo .nil pass0 (pa_cons (pv 0) (pa_cons pe_int (pa_cons pe_int pa_nil)))) (pa_cons (pe_ix ix_list (pe_lst (pa_cons (pe_call G_Wo (hr.mono (by decide)) (by rfl) g_Wo k_Wo b_Wo .nil pass0 (pa_cons (pv 0) (pa_cons pe_int (pa_cons pe_int pa_nil)))) (pa_cons pe_str (pa_cons pe_str pa_nil)))) (pe_call G_Pu (hr.mono (by decide)) (by rfl) g_Pu k_Pu b_Pu .nil pass0 (pa_cons (pv 0) (pa_cons pe_int pa_nil))) (fun _ _ => rfl)) pa_nil)))) (pss_cons (ps_set (i := 6) sc_lde.nd rfl (.inl rfl) (pe_lst (pa_cons (pe_tup (pa_cons pe_str (pa_cons pe_str pa_nil))) (pa_cons (pe_tup (pa_cons pe_str (pa_cons pe_str pa_nil))) (pa_cons (pe_tup (pa_cons (pe_op op_mulS pe_str pe_int) (pa_cons pe_str pa_nil))) (pa_cons (pe_tup (pa_cons pe_str (pa_cons (pe_op op_mulS pe_str pe_int) pa_nil))) pa_nil)))))) (pss_one (ps_ret (pe_op op_catT (pe_tup (pa_cons pe_str pa_nil)) (pe_ifExp (pt_cmpR op_gt (pe_call G_Pu (hr.mono (by decide)) (by rfl) g_Pu k_Pu b_Pu .nil pass0 (pa_cons (pv 0) (pa_cons pe_int pa_nil))) pe_int (nomark _)) (pe_callTy call_tupO (by rfl) B.tuple (by decide +kernel) (pa_cons (pv 5) pa_nil)) (pe_call G_Lpk (hr.mono (by decide)) (by rfl) g_Lpk k_Lpk b_Lpk .nil pass0 (pa_cons (pv 0) (pa_cons (pv 6) pa_nil))))))))) pss_nil) (pss_cons (ps_if (pt_cmpR op_lt (pv 4) pe_int (nomark _)) (pss_cons (ps_setLc (i := 8) (own := [("_law_line", 7)]) (g := gName 7) (tt := tYes) (te := tOp (rIxT K) (tVar 7) (tC (.int 0))) (by rfl) sc_lde.nd rfl rfl (sw_true rfl rfl rfl (by decide +kernel)) (pi_list (pe_dget (hu_of hr) (pv 1) pe_str (fun _ _ => rfl))) (blkOk_by (own := [("_law_line", 7)]) (N := ["_law_bag", "_law_state", "_law_names", "_law_labels", "_law_kind", "_law_two", "_law_odd", "_law_line", "_law_numbers", "_law_word_here", "_law_name_here"]) (sc := defScope s__law_deed) (by decide +kernel)) (fun _ _ _ _ _ => pg_name (i := 7) sc_lde.nd rfl (.inl rfl)) (fun _ _ _ _ _ => pts_nil) (fun _ _ _ _ _ => by exact (pe_ix ix_tup (pv 7) pe_int (fun _ _ => rfl)))) (pss_one (ps_ret (pe_tup (pa_cons pe_str (pa_cons (pe_call G_Lpk (hr.mono (by decide)) (by rfl) g_Lpk k_Lpk b_Lpk .nil pass0 (pa_cons (pv 0) (pa_cons (pe_op op_cat (pv 8) (pe_lst (pa_cons pe_int (pa_cons (pe_dget (hu_of hr) (pv 1) pe_str (fun _ _ => rfl)) (pa_cons (pe_un un_neg pe_int) pa_nil))))) pa_nil))) pa_nil)))))) pss_nil) (pss_cons (ps_if (pt_cmpR op_lt (pv 4) pe_int (nomark _)) (pss_cons (ps_set (i := 9) sc_lde.nd rfl (.inl rfl) (pe_ix ix_list (pe_lst (pa_cons (pe_call G_Wo (hr.mono (by decide)) (by rfl) g_Wo k_Wo b_Wo .nil pass0 (pa_cons (pv 0) (pa_cons pe_int (pa_cons pe_int pa_nil)))) (pa_cons (pe_call G_Wo (hr.mono (by decide)) (by rfl) g_Wo k_Wo b_Wo .nil pass0 (pa_cons (pv 0) (pa_cons pe_int (pa_cons pe_int pa_nil)))) (pa_cons pe_str (pa_cons pe_str (pa_cons (pe_call G_Bd (hr.mono (by decide)) (by rfl) g_Bd k_Bd b_Bd .nil pass0 (pa_cons (pv 0) (pa_cons pe_str pa_nil))) pa_nil)))))) (pe_call G_Pu (hr.mono (by decide)) (by rfl) g_Pu k_Pu b_Pu .nil pass0 (pa_cons (pv 0) (pa_cons pe_int pa_nil))) (fun _ _ => rfl))) (pss_cons (ps_if (PW.pt (pw_and (pt_cmpR (op_neDict hr.units) (pe_dget (hu_of hr) (pv 1) pe_str (fun _ _ => rfl)) pe_dnewK (nomark _)) (pw_and1 (pt_cmpR op_eq (pe_call G_Pu (hr.mono (by decide)) (by rfl) g_Pu k_Pu b_Pu .nil pass0 (pa_cons (pv 0) (pa_cons pe_int pa_nil))) pe_int (nomark _))))) (pss_one (ps_set (i := 9) sc_lde.nd rfl (.inl rfl) (pe_slice sl_str (pe_call G_Rw (hr.mono (by decide)) (by rfl) g_Rw k_Rw b_Rw .nil pass0 (pa_cons (pv 0) (pa_cons (pe_call G_Lpk (hr.mono (by decide)) (by rfl) g_Lpk k_Lpk b_Lpk .nil pass0 (pa_cons (pv 0) (pa_cons (pe_lc (own := [("_law_name_here", 10)]) (g := gName 10) (tt := tYes) (te := tDGet (tDGet (tVar 1) (tC (.str (Str.ofString "words")))) (tVar 10)) (by rfl) sc_lde.nd (pi_list (pv 2)) (blkOk_by (own := [("_law_name_here", 10)]) (N := ["_law_bag", "_law_state", "_law_names", "_law_labels", "_law_kind", "_law_two", "_law_odd", "_law_line", "_law_numbers", "_law_word_here", "_law_name_here"]) (sc := defScope s__law_deed) (by decide +kernel)) (fun _ _ _ _ _ => pg_name (i := 10) sc_lde.nd rfl (.inl rfl)) (fun _ _ _ _ _ => pts_nil) (fun _ _ _ _ _ => by exact (pe_dget (hu_of hr) (pe_dget (hu_of hr) (pv 1) pe_str (fun _ _ => rfl)) (pv 10) (fun _ _ => rfl)))) pa_nil))) (pa_cons pe_int pa_nil)))) po_none (po_some pe_int)))) pss_nil) (pss_one (ps_ret (pe_tup (pa_cons pe_str (pa_cons (pe_call G_Lsn2 (hr.mono (by decide)) (by rfl) g_Lsn2 k_Lsn2 b_Lsn2 .nil pass0 (pa_cons (pv 0) (pa_cons (pv 2) pa_nil))) (pa_cons (pv 9) pa_nil)))))))) pss_nil) (pss_cons (ps_if (pt_cmpR op_eq (pv 4) pe_int (nomark _)) (pss_one (ps_ret (pe_tup (pa_cons pe_str (pa_cons (pe_call G_Lsn2 (hr.mono (by decide)) (by rfl) g_Lsn2 k_Lsn2 b_Lsn2 .nil pass0 (pa_cons (pv 0) (pa_cons (pv 2) pa_nil))) pa_nil))))) pss_nil) (pss_cons (ps_if (pt_cmpR op_eq (pv 4) pe_int (nomark _)) (pss_one (ps_ret (pe_tup (pa_cons pe_str (pa_cons (pe_call G_Lsn2 (hr.mono (by decide)) (by rfl) g_Lsn2 k_Lsn2 b_Lsn2 .nil pass0 (pa_cons (pv 0) (pa_cons (pv 3) pa_nil))) pa_nil))))) pss_nil) (pss_one (ps_ret (pe_tup (pa_cons pe_str (pa_cons (pe_call G_Lsn2 (hr.mono (by decide)) (by rfl) g_Lsn2 k_Lsn2 b_Lsn2 .nil pass0 (pa_cons (pv 0) (pa_cons (pv 3) pa_nil))) (pa_cons (pe_call G_Lsn2 (hr.mono (by decide)) (by rfl) g_Lsn2 k_Lsn2 b_Lsn2 .nil pass0 (pa_cons (pv 0) (pa_cons (pv 2) pa_nil))) (pa_cons (pe_call G_Lsn2 (hr.mono (by decide)) (by rfl) g_Lsn2 k_Lsn2 b_Lsn2 .nil pass0 (pa_cons (pv 0) (pa_cons (pv 2) pa_nil))) (pa_cons pe_int pa_nil))))))))))))))), ?_⟩
    walk_at "go"
    refine w_kDGetS hd (show valV _ kWs = _ from ls_ws) ?_
    refine ⟨wd, txK M.txs, M.txs.map (·.1), rfl, .inl hwd, by unfold txK; rw [List.map_map, List.map_map]; rfl, by rw [List.length_map]; omega, fun ys r6 pm so n6 => ?_⟩
    have hr6 : (upd H r6 (.lst (ys.map V.str))) r6 = some (.lst (ys.map V.str)) := upd_same
    have np6 : Nw r6 H (upd H r6 (.lst (ys.map V.str))) := .mk' n6
    generalize upd H r6 (.lst (ys.map V.str)) = H1 at hr6 np6 ⊢
    have hd1 := np6.at hd
    walk_at "go"
    refine w_kDGetS hd1 (show valV _ kPp = _ from ls_pp) ?_
    refine ⟨pp, ppK ps, ps.map (·.1), rfl, .inl (np6.at hpp), by unfold ppK; rw [List.map_map, List.map_map]; rfl, by rw [List.length_map]; omega, fun zs r7 pm7 so7 n7 => ?_⟩
    have hr7 : (upd H1 r7 (.lst (zs.map V.str))) r7 = some (.lst (zs.map V.str)) := upd_same
    have np7 : Nw r7 H1 (upd H1 r7 (.lst (zs.map V.str))) := .mk' n7
    generalize upd H1 r7 (.lst (zs.map V.str)) = H2 at hr7 np7 ⊢
    have s02 : Same H H2 := np6.same.trans np7.same
    have B2 := hB.same s02
    have ysl : ys.length ≤ 20 := by rw [pm.length_eq, List.length_map]; exact tl
    have zsl : zs.length ≤ 12 := by rw [pm7.length_eq, List.length_map]; exact pl
    have ysn : ∀ y ∈ ys, NmS y := fun y hy => by
      obtain ⟨e, he, rfl⟩ := List.mem_map.mp (pm.mem_iff.mp hy)
      exact nmS_isN (nmT e he)
    have zsn : ∀ y ∈ zs, NmS y := fun y hy => by
      obtain ⟨e, he, rfl⟩ := List.mem_map.mp (pm7.mem_iff.mp hy)
      exact nmP e he
    have r6b : r6 ≠ b := hB.ne np6.nn
    have r7b : r7 ≠ b := (hB.same np6.same).ne np7.nn
    have hr62 := np7.at hr6
    walk_at "go"
    refine ⟨b, l, 14, rfl, B2, by decide, by decide, fun k H3 k0 k1 B3 f3 => ?_⟩
    have f03 : Fx b H H3 := (Fx.of s02).trans f3
    have hr63 := f3.at r6b hr62
    have hr73 := f3.at r7b hr7
    have db : d ≠ b := fun z => by
      obtain ⟨_, _, _, _, hBL⟩ := hB
      rw [z, hBL.hb] at hd
      cases hd
    have wb : wd ≠ b := fun z => by
      obtain ⟨_, _, _, _, hBL⟩ := hB
      rw [z, hBL.hb] at hwd
      cases hwd
    walk_at "go"
    refine w_if2 (fun h3 => ?_) (fun h3 => ?_)
    · walk_at "go"
      refine ⟨b, l, 3, 2, rfl, B3, by decide, by decide, by decide, by decide, fun x1 H4 _ l1 B4 f4 => ?_⟩
      walk_at "go"
      refine ⟨b, l, 3, 2, rfl, B4, by decide, by decide, by decide, by decide, fun x2 H5 _ l2 B5 f5 => ?_⟩
      walk_at "go"
      refine w_newL (by walk_at "sz") (fun p H6 hp np => ?_)
      walk_at "go"
      refine ⟨b, l, 3, rfl, B5.nw np, by decide, by decide, fun e H7 e0 e1 B7 f7 => ?_⟩
      have hp7 := f7.at (B5.ne np.nn) hp
      obtain ⟨x3, hx3, l3⟩ : ∃ x, atI [V.str x2, V.str (Str.ofString ""), V.str (Str.ofString "aA")] e = some (V.str x) ∧ bSd x := by
        have : e = 0 ∨ e = 1 ∨ e = 2 := by omega
        rcases this with h | h | h <;> rw [h]
        · exact ⟨_, rfl, .inl l2⟩
        · exact ⟨_, rfl, .inl (by decide +kernel)⟩
        · exact ⟨_, rfl, .inl (by decide +kernel)⟩
      refine w_ixL hp7 hx3 ?_
      walk_at "go"
      refine w_newL (by walk_at "sz") (fun p2 H8 hp2 np2 => ?_)
      have p2b : p2 ≠ b := B7.ne np2.nn
      walk_at "go"
      refine w_newT (by walk_at "sz") (fun t1 H9 ht1 nt1 => ?_)
      walk_at "go"
      refine w_newT (by walk_at "sz") (fun t2 HA ht2 nt2 => ?_)
      walk_at "go"
      refine w_mulS (by decide) (by decide) (by decide +kernel) ?_
      walk_at "go"
      refine w_newT (by walk_at "sz") (fun t3 HB ht3 nt3 => ?_)
      walk_at "go"
      refine w_mulS (by decide) (by decide) (by decide +kernel) ?_
      walk_at "go"
      refine w_newT (by walk_at "sz") (fun t4 HC ht4 nt4 => ?_)
      walk_at "go"
      refine w_newL (by walk_at "sz") (fun p5 HD hp5 np5 => ?_)
      walk_at "go"
      refine w_newT (by walk_at "sz") (fun t6 HE ht6 nt6 => ?_)
      have s8E : Same H8 HE := (((((nt1.same.trans nt2.same).trans nt3.same).trans nt4.same).trans np5.same).trans nt6.same)
      have BE : Bag HE b l := ((B7.nw np2).same s8E)
      have f0E : Fx b H HE := (((((f03.trans f4).trans f5).same np.same).trans f7).same np2.same).same s8E
      have hp2E := s8E.at hp2
      have hp5E := nt6.at hp5
      have p5b : p5 ≠ b := by
        refine Bag.ne (l := l) (H := HC) ?_ np5.nn
        exact (B7.nw np2).same (((nt1.same.trans nt2.same).trans nt3.same).trans nt4.same)
      have ht1E := nt6.at (np5.at (nt4.at (nt3.at (nt2.at ht1))))
      have ht2E := nt6.at (np5.at (nt4.at (nt3.at ht2)))
      have ht3E := nt6.at (np5.at (nt4.at ht3))
      have ht4E := nt6.at (np5.at ht4)
      have tb : ∀ {t : Addr} {xs : List V}, HE t = some (.tup xs) → t ≠ b := fun h z => by
        obtain ⟨_, _, _, _, hBL⟩ := BE
        rw [z, hBL.hb] at h
        cases h
      walk_at "go"
      refine ⟨b, l, 6, rfl, BE, by decide, by decide, fun e2 HF e20 e21 BF fF => ?_⟩
      have ht6F := fF.at (tb ht6) ht6
      have f0F := f0E.trans fF
      walk_at "go"
      refine w_ifE2 (fun h6 => ?_) (fun h6 => ?_)
      · walk_at "go"
        refine w_tupL (fF.at p2b hp2E) (fun t7 HG ht7 nt7 => ?_)
        walk_at "go"
        refine w_catT (nt7.at ht6F) ht7 (fun z => nomatch z) (fun z => nomatch z) (show 1 + 2 ≤ sizeLine by decide) (fun t HH ht nt => ?_)
        walk_at "go"
        exact q t _ _ HH ht (.like x1 x3 (.inl l1) l3) ((BF.nw nt7).nw nt) ((f0F.same nt7.same).same nt.same)
      · walk_at "go"
        refine ⟨b, l, p5, _, rfl, BF, fF.at p5b hp5E, p5b, (show 1 ≤ 4 by decide), (show 4 ≤ 10000 by decide), fun v HG hv BG fG => ?_⟩
        walk_at "go"
        have gg : ∀ (t7 : Addr) (x y : Str), HE t7 = some (.tup [.str x, .str y]) → bSd x → bSd y → v = .ref t7 → rCatT K (.ref t6) v HG (fun v' H' => Q v' H') := fun t7 x y h7 bx by_ e => by
          subst e
          have h7F := fF.at (tb h7) h7
          have tbF : ∀ {t : Addr} {xs : List V}, HF t = some (.tup xs) → t ≠ b := fun h z => by
            obtain ⟨_, _, _, _, hBL⟩ := BF
            rw [z, hBL.hb] at h
            cases h
          refine w_catT (fG.at (tbF ht6F) ht6F) (fG.at (tbF h7F) h7F) (fun z => nomatch z) (fun z => nomatch z) (show 1 + 2 ≤ sizeLine by decide) (fun t HH ht nt => ?_)
          exact q t _ _ HH ht (.like x y bx by_) (BG.nw nt) ((f0F.trans fG).same nt.same)
        simp only [List.mem_cons, List.not_mem_nil, or_false] at hv
        show rCatT K (.ref t6) v HG Q
        rcases hv with e | e | e | e
        · exact gg t1 _ _ ht1E (.inl (by decide +kernel)) (.inl (by decide +kernel)) e
        · exact gg t2 _ _ ht2E (.inl (by decide +kernel)) (.inl (by decide +kernel)) e
        · exact gg t3 _ _ ht3E (.inr (by decide +kernel)) (.inl (by decide +kernel)) e
        · exact gg t4 _ _ ht4E (.inl (by decide +kernel)) (.inr (by decide +kernel)) e
    have hd3 := f03.at db hd
    have hln3 := f03.at nb hln
    have hP3 : Paired (LnT H3) us M.prs := Paired.mono (fun _ _ ⟨t, e, h⟩ => ⟨t, e, f03.at (fun z => by
      obtain ⟨_, _, _, _, hBL⟩ := hB
      rw [z, hBL.hb] at h
      cases h) h⟩) hP
    have hml : us.length = M.prs.length := Paired.length hP
    walk_at "go"
    refine w_if2 (fun h5 => ?_) (fun h5 => ?_)
    · walk_at "go"
      refine w_kDGetS hd3 (show valV _ kLn = _ from ls_ln) ?_
      refine w_kList hln3 ?_
      refine w_lcL (xs := us) (fun r i H4 => Same H3 H4 ∧ H3 r = none ∧ H4 r = some (.lst (((M.prs.take i).map (·.1)).map V.int))) (fun r H4 h n => ⟨n.same, n.nn, h⟩) (fun r i H4 _ h => h.1.at hln3) ?_ ?_
      · rintro r i v H4 hv ⟨s4, nr, hr4⟩
        obtain ⟨e, he, t3, rfl, ht3⟩ := paired_get hP3 hv
        have hil : i < us.length := (List.getElem?_eq_some_iff.mp hv).1
        have ht4 := s4.at ht3
        walk_at "go"
        refine w_kIt hr4 (by rw [List.length_map, List.length_map, List.length_take]; exact lineLt_of (by omega)) (fun H5 h5 o5 => ⟨s4.off o5 nr, nr, ?_⟩)
        rw [h5, take_snoc he, List.map_append, List.map_append]
        rfl
      · rintro r H4 ⟨s4, nr, hr4⟩
        rw [hml, List.take_length] at hr4
        have hd4 := s4.at hd3
        have rb : r ≠ b := B3.ne nr
        walk_at "go"
        refine w_kDGetS hd4 (show valV _ kCo = _ from ls_co) ?_
        walk_at "go"
        refine w_newL (by walk_at "sz") (fun p H5 hp np => ?_)
        walk_at "go"
        refine w_cat (np.at hr4) hp (by rw [List.length_map, List.length_map]; exact line_of (by show _ + 3 ≤ _; omega)) (fun p2 H6 hp2 np2 => ?_)
        have B6 := ((B3.same s4).nw np).nw np2
        walk_at "go"
        refine ⟨b, l, p2, _, rfl, B6, hp2, (((B3.same s4).nw np).ne np2.nn), by rw [List.length_append]; show 1 ≤ _ + 3; omega, by rw [List.length_append, List.length_map, List.length_map]; show _ + 3 ≤ _; omega, fun v H7 hv B7 f7 => ?_⟩
        walk_at "go"
        refine w_newT (by walk_at "sz") (fun t H8 ht nt => ?_)
        walk_at "go"
        have hn : ∃ n : Int, v = .int n ∧ n.natAbs ≤ 10000000000 := by
          rcases List.mem_append.mp hv with h | h
          · obtain ⟨n, hn, rfl⟩ := List.mem_map.mp h
            obtain ⟨e, he, rfl⟩ := List.mem_map.mp hn
            exact ⟨_, rfl, nmN e he⟩
          · simp only [List.mem_cons, List.not_mem_nil, or_false] at h
            rcases h with h | h | h
            · exact ⟨_, h, by decide⟩
            · exact ⟨_, h, by omega⟩
            · exact ⟨_, h, by decide⟩
        obtain ⟨n, rfl, hn⟩ := hn
        exact q t _ _ H8 ht (.strike n hn) (B7.nw nt) (((((f03.same s4).same np.same).same np2.same).trans f7).same nt.same)
    walk_at "go"
    refine w_if2 (fun h9 => ?_) (fun h9 => ?_)
    · walk_at "go"
      refine ⟨b, l, 4, 2, rfl, B3, by decide, by decide, by decide, by decide, fun x1 H4 _ l1 B4 f4 => ?_⟩
      walk_at "go"
      refine ⟨b, l, 4, 2, rfl, B4, by decide, by decide, by decide, by decide, fun x2 H5 _ l2 B5 f5 => ?_⟩
      walk_at "go"
      refine ⟨b, l, _, rfl, B5, by decide +kernel, fun x3 H6 _ l3 B6 f6 => ?_⟩
      walk_at "go"
      refine w_newL (by walk_at "sz") (fun p H7 hp np => ?_)
      walk_at "go"
      refine ⟨b, l, 5, rfl, B6.nw np, by decide, by decide, fun e H8 e0 e1 B8 f8 => ?_⟩
      have hp8 := f8.at (B6.ne np.nn) hp
      obtain ⟨x4, hx4, l4⟩ : ∃ x, atI [V.str x1, V.str x2, V.str (Str.ofString "aaA"), V.str (Str.ofString "c"), V.str x3] e = some (V.str x) ∧ x.length ≤ 20 := by
        have : e = 0 ∨ e = 1 ∨ e = 2 ∨ e = 3 ∨ e = 4 := by omega
        have l1 : x1.length ≤ 20 := Nat.le_trans l1 (by decide)
        have l2 : x2.length ≤ 20 := Nat.le_trans l2 (by decide)
        have l3 : x3.length ≤ 20 := Nat.le_trans l3 (by decide +kernel)
        rcases this with h | h | h | h | h <;> rw [h]
        · exact ⟨_, rfl, l1⟩
        · exact ⟨_, rfl, l2⟩
        · exact ⟨_, rfl, by decide +kernel⟩
        · exact ⟨_, rfl, by decide +kernel⟩
        · exact ⟨_, rfl, l3⟩
      refine w_ixL hp8 hx4 ?_
      have f08 : Fx b H H8 := ((((f03.trans f4).trans f5).trans f6).same np.same).trans f8
      have hr68 := f8.at r6b (np.at (f6.at r6b (f5.at r6b (f4.at r6b hr63))))
      have hd8 := f08.at db hd
      have hwd8 := f08.at wb hwd
      walk_at "gs"
      refine w_seqJ (fun σ HJ => ∃ (x9 : Str) (y10 : Option V), σ = [some (.ref b), some (.ref d), some (.ref r6), some (.ref r7), some (.int k), none, none, none, none, some (.str x9), y10] ∧ x9.length ≤ 20 ∧ Bag HJ b l ∧ Fx b H HJ ∧ HJ r6 = some (.lst (ys.map V.str))) ?_ ?_
      · intro NN hJ
        walk_at "go"
        refine w_kDGetS hd8 (show valV _ kWs = _ from ls_ws) ?_
        walk_at "go"
        refine w_dnewK (fun p9 H9 hp9 np9 => ?_)
        refine w_neDict (np9.at hwd8) hp9 ?_
        have B9 := B8.nw np9
        have f09 : Fx b H H9 := f08.same np9.same
        have hr69 := np9.at hr68
        have hd9 := np9.at hd8
        have hwd9 := np9.at hwd8
        cases hc : (txK M.txs).isEmpty with
        | true =>
          rw [show (!true) = false from rfl]
          walk_at "go"
          exact hJ _ _ ⟨x4, none, rfl, l4, B9, f09, hr69⟩
        | false =>
          rw [show (!false) = true from rfl]
          walk_at "go"
          refine ⟨b, l, 4, rfl, B9, by decide, by decide, fun e4 HA _ _ BA fA => ?_⟩
          have f0A := f09.trans fA
          have hr6A := fA.at r6b hr69
          have hdA := fA.at db hd9
          have hwdA := fA.at wb hwd9
          walk_at "go"
          refine w_if2 (fun h4 => ?_) (fun h4 => ?_)
          · walk_at "go"
            refine w_lcL (xs := ys.map V.str) (fun r i H4 => Same HA H4 ∧ HA r = none ∧ H4 r = some (.lst ((((ys.take i).map fun y => (lkT M.txs y).getD (Str.ofString "")).map V.str)))) (fun r H4 h n => ⟨n.same, n.nn, h⟩) (fun r i H4 _ h => h.1.at hr6A) ?_ ?_
            · rintro r i v H4 hv ⟨s4, nr, hr4⟩
              obtain ⟨y, hy, rfl⟩ : ∃ y, ys[i]? = some y ∧ V.str y = v := by
                rw [List.getElem?_map] at hv
                cases e : ys[i]? with
                | none => rw [e] at hv; cases hv
                | some y => rw [e] at hv; exact ⟨y, rfl, Option.some.inj hv⟩
              have hym : y ∈ ys := List.mem_of_getElem? hy
              obtain ⟨e, he, ey⟩ := List.mem_map.mp (pm.mem_iff.mp hym)
              have hil : i < ys.length := (List.getElem?_eq_some_iff.mp hy).1
              have lk : lkT M.txs y = some e.2 := by rw [← ey]; exact lkT_mem ndT he
              walk_at "go"
              refine w_kDGetS (s4.at hdA) (show valV _ kWs = _ from ls_ws) ?_
              walk_at "go"
              refine w_kDGetS (s4.at hwdA) (show valV (txK M.txs) (.inr y) = some (.str e.2) by rw [valV_tx, lk]; rfl) ?_
              walk_at "go"
              refine w_kIt hr4 (by rw [List.length_map, List.length_map, List.length_take]; exact lineLt_of (by omega)) (fun H5 h5 o5 => ⟨s4.off o5 nr, nr, ?_⟩)
              rw [h5, take_snoc hy, List.map_append, List.map_append, List.map_cons, List.map_nil, lk]
              rfl
            · rintro r H4 ⟨s4, nr, hr4⟩
              rw [List.length_map, List.take_length] at hr4
              have rb : r ≠ b := BA.ne nr
              have ne : 1 ≤ ys.length := by
                rw [pm.length_eq, List.length_map]
                cases ht : M.txs with
                | nil =>
                  rw [ht] at hc
                  cases hc
                | cons a as => exact Nat.succ_pos _
              walk_at "go"
              refine ⟨b, l, r, _, rfl, BA.same s4, hr4, rb, by rw [List.length_map, List.length_map]; exact ne, by rw [List.length_map, List.length_map]; omega, fun v H5 hv B5' f5' => ?_⟩
              obtain ⟨x, hx, rfl⟩ := List.mem_map.mp hv
              obtain ⟨y, hy, rfl⟩ := List.mem_map.mp hx
              obtain ⟨e, he, ey⟩ := List.mem_map.mp (pm.mem_iff.mp hy)
              have lk : lkT M.txs y = some e.2 := by rw [← ey]; exact lkT_mem ndT he
              rw [lk]
              have we : Wd e.2 ∧ e.2.length ≤ 60 := isW_both (wdT e he)
              walk_at "go"
              refine ⟨b, l, e.2, 2, rfl, B5', we.1, we.2, by decide, by decide, fun y9 H6 _ yl _ B6' f6' => ?_⟩
              walk_at "go"
              refine w_slS (line_of (by omega)) ?_
              walk_at "go"
              exact hJ _ _ ⟨_, _, rfl, cut20 y9, B6', (((f0A.same s4).trans f5').trans f6'), f6'.at r6b (f5'.at r6b (s4.at hr6A))⟩
          · walk_at "go"
            exact hJ _ _ ⟨x4, none, rfl, l4, BA, f0A, hr6A⟩
      · rintro σ HJ ⟨x9, y10, rfl, l9, BJ, fJ, hr6J⟩
        walk_at "go"
        refine ⟨b, l, r6, ys, rfl, BJ, hr6J, r6b, by omega, ysn, fun x8 H9 nx8 B9 f9 => ?_⟩
        walk_at "go"
        refine w_newT (by walk_at "sz") (fun t HA ht nt => ?_)
        walk_at "go"
        exact q t _ _ HA ht (.put x8 x9 nx8 l9) (B9.nw nt) ((fJ.trans f9).same nt.same)
    walk_at "go"
    refine w_if2 (fun h9 => ?_) (fun h9 => ?_)
    · walk_at "go"
      refine ⟨b, l, r6, ys, rfl, B3, hr63, r6b, by omega, ysn, fun x8 H4 nx8 B4 f4 => ?_⟩
      walk_at "go"
      refine w_newT (by walk_at "sz") (fun t H5 ht nt => ?_)
      walk_at "go"
      exact q t _ _ H5 ht (.forget x8 nx8) (B4.nw nt) ((f03.trans f4).same nt.same)
    walk_at "go"
    refine w_if2 (fun h10 => ?_) (fun h10 => ?_)
    · walk_at "go"
      refine ⟨b, l, r7, zs, rfl, B3, hr73, r7b, by omega, zsn, fun x8 H4 nx8 B4 f4 => ?_⟩
      walk_at "go"
      refine w_newT (by walk_at "sz") (fun t H5 ht nt => ?_)
      walk_at "go"
      exact q t _ _ H5 ht (.unshelve x8 nx8) (B4.nw nt) ((f03.trans f4).same nt.same)
    walk_at "go"
    refine ⟨b, l, r7, zs, rfl, B3, hr73, r7b, by omega, zsn, fun x4 H4 nx4 B4 f4 => ?_⟩
    walk_at "go"
    refine ⟨b, l, r6, ys, rfl, B4, f4.at r6b hr63, r6b, by omega, ysn, fun x5 H5 nx5 B5 f5 => ?_⟩
    walk_at "go"
    refine ⟨b, l, r6, ys, rfl, B5, f5.at r6b (f4.at r6b hr63), r6b, by omega, ysn, fun x6 H6 nx6 B6 f6 => ?_⟩
    walk_at "go"
    refine w_newT (by walk_at "sz") (fun t H7 ht nt => ?_)
    walk_at "go"
    exact q t _ _ H7 ht (.shelve x4 x5 x6 nx4 nx5 nx6) (B6.nw nt) ((((f03.trans f4).trans f5).trans f6).same nt.same)
end
end Sf
namespace Sf
open PySem PySem.Spec PyProof.Rows L2 TL
/-! ### pages as texts -/
def shT (x : Str) : Str := if x = Str.ofString "" then Str.ofString "-" else x
def meT (x : Str) : Str := if x = Str.ofString "-" then Str.ofString "" else x
theorem sh_me {x : Str} (h : ¬ x = Str.ofString "") : shT (meT x) = x := by
  unfold meT
  split
  · rename_i e
    unfold shT
    rw [if_pos rfl, e]
  · unfold shT
    rw [if_neg h]
def dig (c : Nat) : Bool := decide (48 ≤ c) && decide (c ≤ 57)
def isNum (x : Str) : Bool := decide (1 ≤ x.length) && decide (x.length ≤ 9) && (tl x).all dig && (decide (x = Str.ofString "0") || !decide ((tl x).head? = some 48))
def numP0 (x : Str) : Nat := NumText.digitsVal (tl x)
structure NumOk (x : Str) : Prop where
  l1 : 1 ≤ x.length
  l9 : x.length ≤ 9
  al : NumText.AllDigits (tl x)
  hd : x = Str.ofString "0" ∨ ¬ (tl x).head? = some 48
theorem isNum_ok {x : Str} (h : isNum x = true) : NumOk x := by
  unfold isNum at h
  simp only [Bool.and_eq_true, Bool.or_eq_true, decide_eq_true_eq, Bool.not_eq_true', decide_eq_false_iff_not] at h
  obtain ⟨⟨⟨h1, h2⟩, h3⟩, h4⟩ := h
  refine ⟨h1, h2, fun c hc => ?_, h4⟩
  have := List.all_eq_true.mp h3 c hc
  unfold dig at this
  simpa using this
theorem NumOk.ne {x : Str} (h : NumOk x) : tl x ≠ [] := fun z => by
  have := h.l1
  rw [len_tl, z] at this
  cases this
theorem num_int {x : Str} (h : NumOk x) : intText? x = some ((numP0 x : Nat) : Int) := intText_digits (x := x) h.al h.ne (Nat.le_trans h.l9 (by decide))
theorem map_back : ∀ {l : List Nat}, NumText.AllDigits l → (l.map Char.ofNat).map Char.toNat = l
  | [], _ => rfl
  | c :: l, h => by
    rw [List.map_cons, List.map_cons, map_back (fun d hd => h d (List.mem_cons_of_mem _ hd))]
    have hc := h c List.mem_cons_self
    have : ∀ c, c < 58 → (Char.ofNat c).toNat = c := by decide
    rw [this c (by omega)]
theorem num_str {x : Str} (h : NumOk x) : (Str.ofString (toString ((numP0 x : Nat) : Int))) = x := by
  refine ext_tl ?_
  rw [tl_num]
  obtain ⟨n, hn⟩ : ∃ n, (tl x).length = n + 1 := by
    cases e : tl x with
    | nil => exact absurd e h.ne
    | cons c l => exact ⟨l.length, rfl⟩
  have key : n = 0 ∨ ∃ c r, tl x = c :: r ∧ 49 ≤ c := by
    rcases h.hd with e | e
    · left
      rw [e] at hn
      have : (tl (Str.ofString "0")).length = 1 := by decide +kernel
      omega
    · right
      cases e1 : tl x with
      | nil => exact absurd e1 h.ne
      | cons c l =>
        refine ⟨c, l, rfl, ?_⟩
        have hc := h.al c (by rw [e1]; exact List.mem_cons_self)
        rw [e1] at e
        have : ¬ c = 48 := fun z => e (by rw [z]; rfl)
        omega
  unfold numL numP0
  rw [NumText.toDigits_digitsVal n (tl x) hn h.al key, map_back h.al]
theorem digits_lt : ∀ (n : Nat) (cs : List Nat), cs.length = n → NumText.AllDigits cs → NumText.digitsVal cs < 10 ^ n
  | 0, cs, hl, _ => by
    rw [List.length_eq_zero_iff.mp hl]
    decide
  | n + 1, cs, hl, h => by
    obtain ⟨l, c, rfl⟩ : ∃ l c, cs = l ++ [c] := by
      rcases List.eq_nil_or_concat cs with e | ⟨l, c, e⟩
      · rw [e] at hl; cases hl
      · exact ⟨l, c, by rw [e, List.concat_eq_append]⟩
    rw [List.length_append] at hl
    have hl' : l.length = n := by simpa using hl
    have ih := digits_lt n l hl' (fun d hd => h d (List.mem_append_left _ hd))
    have hc := h c (List.mem_append_right _ List.mem_cons_self)
    rw [NumText.digitsVal_snoc, Nat.pow_succ]
    omega
theorem num_lt {x : Str} (h : NumOk x) : numP0 x < 1000000000 := by
  have h1 := digits_lt _ _ rfl h.al
  have : (10 : Nat) ^ (tl x).length ≤ 10 ^ 9 := Nat.pow_le_pow_right (by decide) (by rw [← len_tl]; exact h.l9)
  unfold numP0
  omega
theorem num_zero {x : Str} (h : NumOk x) : numP0 x = 0 ↔ x = Str.ofString "0" := by
  constructor
  · intro e
    rw [← num_str h, e]
    decide +kernel
  · intro e
    rw [e]
    decide +kernel
def isWr (x : Str) : Bool := !decide (x = Str.ofString "") && isW (meT x)
def isSd (x : Str) : Bool := isWr x && decide (x.length ≤ 12)
/-! the rows as they are written -/
def toS (n : Nat) : Str := Str.ofString (toString (n : Int))
def sp1 : Str := Str.ofString " "
def comT (f : Nat) : Str := Str.ofString "coming " ++ toS f
def lineT (n : Nat) (l r : Str) : Str := Str.ofString "like " ++ toS n ++ sp1 ++ l ++ sp1 ++ r
def textT (n x : Str) : Str := Str.ofString "word " ++ n ++ sp1 ++ x
theorem join2 (a b : Str) : Str.join sp1 [a, b] = a ++ sp1 ++ b := rfl
theorem join3 (a b c : Str) : Str.join sp1 [a, b, c] = a ++ sp1 ++ (b ++ sp1 ++ c) := rfl
theorem join4 (a b c d : Str) : Str.join sp1 [a, b, c, d] = a ++ sp1 ++ (b ++ sp1 ++ (c ++ sp1 ++ d)) := rfl
theorem row_com (n : Str) : Str.join sp1 [Str.ofString "coming", n] = Str.ofString "coming " ++ n := by
  refine ext_tl ?_
  rw [join2, tl_append, tl_append, tl_append, ← tl_append]
  congr 1
theorem row_line (n l r : Str) : Str.join sp1 [Str.ofString "like", n, l, r] = Str.ofString "like " ++ n ++ sp1 ++ l ++ sp1 ++ r := by
  refine ext_tl ?_
  rw [join4]
  simp only [tl_append, List.append_assoc]
  rw [← List.append_assoc]
  congr 1
theorem row_text (n x : Str) : Str.join sp1 [Str.ofString "word", n, x] = Str.ofString "word " ++ n ++ sp1 ++ x := by
  refine ext_tl ?_
  rw [join3]
  simp only [tl_append, List.append_assoc]
  rw [← List.append_assoc]
  congr 1
/-! reading -/
def lastN (l : List (Int × Clm)) : Int := (l.getLast?.map (·.1)).getD 0
def lastT (l : List (Str × Str)) : Str := (l.getLast?.map (·.1)).getD (Str.ofString "")
def comM (ps : List Str) : Option Nat := match ps with
  | [a, n] => if a = Str.ofString "coming" ∧ isNum n = true ∧ ¬ n = Str.ofString "0" then some (numP0 n) else none
  | _ => none
def addRow (M : StM) (ps : List Str) : Option StM := match ps with
  | [a, n, l, r] => if a = Str.ofString "like" ∧ isNum n = true ∧ isSd l = true ∧ isSd r = true ∧ M.prs.length < 12 ∧ M.txs = [] ∧ lastN M.prs < numP0 n ∧ numP0 n < M.fol then some { M with prs := M.prs ++ [((numP0 n : Int), (meT l, meT r))] } else none
  | [a, n, x] => if a = Str.ofString "word" ∧ isN n = true ∧ isWr x = true ∧ M.txs.length < 20 ∧ tl (lastT M.txs) < tl n then some { M with txs := M.txs ++ [(n, meT x)] } else none
  | _ => none
/-- the rows of what stands -/
def rowsM (M : StM) : List Str := comT M.fol :: (M.prs.map fun e => lineT e.1.toNat (shT e.2.1) (shT e.2.2)) ++ (M.txs.map fun e => textT e.1 (shT e.2))
theorem com_row {r : Str} {n : Nat} (h : comM (Txt.split r sp1) = some n) : r = comT n := by
  rw [← StrLaws.join_split r sp1]
  generalize Txt.split r sp1 = ps at h
  unfold comM at h
  split at h
  · split at h
    · rename_i a n' hh
      obtain ⟨rfl, h1, h2⟩ := hh
      rw [row_com, ← Option.some.inj h]
      unfold comT toS
      rw [num_str (isNum_ok h1)]
    · cases h
  · cases h
theorem add_row {M M' : StM} {r : Str} (h : addRow M (Txt.split r sp1) = some M') : rowsM M' = rowsM M ++ [r] ∧ M'.fol = M.fol ∧ M'.pps = M.pps := by
  have er := StrLaws.join_split r sp1
  generalize Txt.split r sp1 = ps at h er
  unfold addRow at h
  split at h
  · split at h
    · rename_i a n l r' hh
      obtain ⟨rfl, h1, h2, h3, h4, h5, h6, h7⟩ := hh
      rw [← Option.some.inj h]
      refine ⟨?_, rfl, rfl⟩
      have hn : ∀ {x : Str}, isSd x = true → ¬ x = Str.ofString "" := fun hx => by
        unfold isSd isWr at hx
        simp only [Bool.and_eq_true, Bool.not_eq_true', decide_eq_false_iff_not] at hx
        exact hx.1.1
      unfold rowsM
      rw [h5, List.map_append, List.map_nil, List.append_nil, List.append_nil, List.cons_append, ← List.cons_append, ← er, row_line]
      show comT M.fol :: (_ ++ [lineT (numP0 n) (shT (meT l)) (shT (meT r'))]) = _
      rw [sh_me (hn h2), sh_me (hn h3)]
      unfold lineT toS
      rw [num_str (isNum_ok h1)]
    · cases h
  · split at h
    · rename_i a n x hh
      obtain ⟨rfl, h1, h2, h3, h4⟩ := hh
      rw [← Option.some.inj h]
      refine ⟨?_, rfl, rfl⟩
      have hn : ¬ x = Str.ofString "" := by
        unfold isWr at h2
        simp only [Bool.and_eq_true, Bool.not_eq_true', decide_eq_false_iff_not] at h2
        exact h2.1
      unfold rowsM
      rw [List.map_append, ← er, row_text, ← List.append_assoc]
      show _ ++ [textT n (shT (meT x))] = _
      rw [sh_me hn]
      rfl
    · cases h
  · cases h
end Sf
namespace Sf
open PySem PySem.Spec PyProof.Rows L2 TL
/-! ### stands that are read -/
structure PgOk (M : StM) : Prop where
  ok : StOk M
  rn : M.prs.Pairwise fun a b => a.1 < b.1
  rt : M.txs.Pairwise fun a b => tl a.1 < tl b.1
  nm : ∀ e ∈ M.txs, isN e.1 = true
  pp : M.pps = []
theorem last_max {α : Type} {r : α → α → Prop} : ∀ {l : List α}, l.Pairwise r → ∀ {z : α}, l.getLast? = some z → ∀ e ∈ l, e = z ∨ r e z := by
  intro l h z hz e he
  rcases List.eq_nil_or_concat l with rfl | ⟨u, d, rfl⟩
  · cases hz
  · rw [List.concat_eq_append] at h hz he
    rw [List.getLast?_concat] at hz
    cases hz
    rcases List.mem_append.mp he with h1 | h1
    · exact .inr ((List.pairwise_append.mp h).2.2 e h1 z List.mem_cons_self)
    · exact .inl (List.mem_singleton.mp h1)
theorem PgOk.ltN {M : StM} (W : PgOk M) {n : Int} (h : lastN M.prs < n) : ∀ e ∈ M.prs, e.1 < n := fun e he => by
  unfold lastN at h
  cases hl : M.prs.getLast? with
  | none =>
    rw [List.getLast?_eq_none_iff] at hl
    rw [hl] at he
    cases he
  | some z =>
    rw [hl] at h
    have h : z.1 < n := h
    rcases last_max W.rn hl e he with rfl | h2
    · exact h
    · omega
theorem PgOk.ltT {M : StM} (W : PgOk M) {n : Str} (h : tl (lastT M.txs) < tl n) : ∀ e ∈ M.txs, tl e.1 < tl n := fun e he => by
  unfold lastT at h
  cases hl : M.txs.getLast? with
  | none =>
    rw [List.getLast?_eq_none_iff] at hl
    rw [hl] at he
    cases he
  | some z =>
    rw [hl] at h
    have h : tl z.1 < tl n := h
    rcases last_max W.rt hl e he with rfl | h2
    · exact h
    · exact List.lt_trans h2 h
theorem PgOk.leT {M : StM} {n : Str} (h : ∀ e ∈ M.txs, tl e.1 < tl n) (hn : tl n ≠ []) : tl (lastT M.txs) < tl n := by
  unfold lastT
  cases hl : M.txs.getLast? with
  | none =>
    show tl (Str.ofString "") < tl n
    rw [tl_empty]
    cases e : tl n with
    | nil => exact absurd e hn
    | cons c l => exact List.nil_lt_cons _ _
  | some z => exact h z (List.mem_of_getLast? hl)
theorem isSd_wd {x : Str} (h : isSd x = true) : isW (meT x) = true ∧ x.length ≤ 12 := by
  unfold isSd isWr at h
  simp only [Bool.and_eq_true, decide_eq_true_eq] at h
  exact ⟨h.1.2, h.2⟩
theorem len_meT (x : Str) : (meT x).length ≤ x.length := by
  unfold meT
  split
  · rw [show (Str.ofString "").length = 0 from by decide +kernel]
    exact Nat.zero_le _
  · exact Nat.le_refl _
theorem add_ok {M M' : StM} {ps : List Str} (W : PgOk M) (h : addRow M ps = some M') : PgOk M' := by
  unfold addRow at h
  split at h
  · split at h
    · rename_i a n l r hh
      obtain ⟨rfl, h1, h2, h3, h4, h5, h6, h7⟩ := hh
      rw [← Option.some.inj h]
      have hlt := W.ltN h6
      obtain ⟨wl, ll⟩ := isSd_wd h2
      obtain ⟨wr, lr⟩ := isSd_wd h3
      have h0 : (0 : Int) ≤ lastN M.prs := by
        unfold lastN
        cases hl : M.prs.getLast? with
        | none => exact Int.le_refl _
        | some z =>
          have := (W.ok.pr z (List.mem_of_getLast? hl)).1
          show 0 ≤ z.1
          omega
      refine ⟨⟨?_, fun e he => ?_, by show (M.prs ++ [_]).length ≤ 12; rw [List.length_append]; show M.prs.length + 1 ≤ 12; omega, W.ok.f1, W.ok.f2, W.ok.tn, W.ok.tx, W.ok.tl, W.ok.qn, W.ok.ql⟩, ?_, W.rt, W.nm, W.pp⟩
      · show ((M.prs ++ [(((numP0 n : Nat) : Int), ((meT l, meT r) : Clm))]).map (·.1)).Nodup
        rw [List.map_append, List.nodup_append]
        refine ⟨W.ok.pn, List.nodup_cons.mpr ⟨List.not_mem_nil, .nil⟩, fun a ha b hb e => ?_⟩
        obtain ⟨x, hx, rfl⟩ := List.mem_map.mp ha
        have := hlt x hx
        rw [List.mem_singleton.mp hb] at e
        have e : x.1 = ((numP0 n : Nat) : Int) := e
        omega
      · rcases List.mem_append.mp he with h8 | h8
        · exact W.ok.pr e h8
        · rw [List.mem_singleton.mp h8]
          have l1 := len_meT l
          have l2 := len_meT r
          exact ⟨by show (1 : Int) ≤ ((numP0 n : Nat) : Int); omega, by show ((numP0 n : Nat) : Int) < (M.fol : Int); omega, isW_wdH wl, isW_wdH wr, by show (meT l).length ≤ 12; omega, by show (meT r).length ≤ 12; omega⟩
      · refine List.pairwise_append.mpr ⟨W.rn, List.pairwise_singleton _ _, fun a ha b hb => ?_⟩
        rw [List.mem_singleton.mp hb]
        exact hlt a ha
    · cases h
  · split at h
    · rename_i a n x hh
      obtain ⟨rfl, h1, h2, h3, h4⟩ := hh
      rw [← Option.some.inj h]
      have hlt := W.ltT h4
      have wx : isW (meT x) = true := by
        unfold isWr at h2
        simp only [Bool.and_eq_true] at h2
        exact h2.2
      refine ⟨⟨W.ok.pn, W.ok.pr, W.ok.pl, W.ok.f1, W.ok.f2, ?_, fun e he => ?_, by show (M.txs ++ [_]).length ≤ 20; rw [List.length_append]; show M.txs.length + 1 ≤ 20; omega, W.ok.qn, W.ok.ql⟩, W.rn, ?_, fun e he => ?_, W.pp⟩
      · show ((M.txs ++ [(n, meT x)]).map (·.1)).Nodup
        rw [List.map_append, List.nodup_append]
        refine ⟨W.ok.tn, List.nodup_cons.mpr ⟨List.not_mem_nil, .nil⟩, fun a ha b hb e => ?_⟩
        obtain ⟨y, hy, rfl⟩ := List.mem_map.mp ha
        have := hlt y hy
        rw [List.mem_singleton.mp hb] at e
        have e : y.1 = n := e
        rw [e] at this
        exact List.lt_irrefl _ this
      · rcases List.mem_append.mp he with h8 | h8
        · exact W.ok.tx e h8
        · rw [List.mem_singleton.mp h8]
          exact ⟨wx, (isN_nm h1).1, (isN_nm h1).2⟩
      · refine List.pairwise_append.mpr ⟨W.rt, List.pairwise_singleton _ _, fun a ha b hb => ?_⟩
        rw [List.mem_singleton.mp hb]
        exact hlt a ha
      · rcases List.mem_append.mp he with h8 | h8
        · exact W.nm e h8
        · rw [List.mem_singleton.mp h8]
          exact h1
    · cases h
  · cases h
end Sf
namespace Sf
open PySem PySem.Spec PyProof.Rows L2 TL
/-! ### list(d) -/
def rListDk : List V → Hp → VK → Prop := fun xs H Q => ∃ (a : Addr) (kvs : List (Key × V)), xs = [.ref a] ∧ Rd H a (.dK kvs) ∧ ∀ p, H p = none → Q (.ref p) (upd H p (.lst (kvs.map fun kv => kV kv.1)))
theorem call_listDk {X : Cx} (hc : X.calm = true) : CallR X (.type "list") rListDk := call_listD hc
theorem w_listDk {H : Hp} {Q : VK} {a : Addr} {kvs : List (Key × V)} (h : H a = some (.dK kvs)) (k : ∀ p H1, H1 p = some (.lst (kvs.map fun kv => kV kv.1)) → Nw p H H1 → Q (.ref p) H1) : rListDk [.ref a] H Q := ⟨a, kvs, rfl, Rd.of h, fun _ n => k _ _ upd_same (.mk' n)⟩
end Sf
namespace Sf
open PySem PySem.Spec PyProof.Rows L2 TL
/-! ### numbers and words as they are written -/
def rLtS : R2 := fun x y H Q => ∃ i j, x = .str i ∧ y = .str j ∧ Q (.bl (decide (tl i < tl j))) H
theorem op_ltS {X : Cx} : OpR X (compareOp .Lt) rLtS := op_lt_str
theorem w_ltS {i j : Str} {H : Hp} {Q : VK} (q : Q (.bl (decide (tl i < tl j))) H) : rLtS (.str i) (.str j) H Q := ⟨i, j, rfl, rfl, q⟩
def rIntS : List V → Hp → VK → Prop := fun xs H Q => ∃ (a : Str) (n : Int), xs = [.str a] ∧ intText? a = some n ∧ a.length ≤ 640 ∧ Q (.int n) H
theorem call_intS {X : Cx} : CallR X (.type "int") rIntS := call_int_str
theorem w_intS {a : Str} {n : Int} {H : Hp} {Q : VK} (h : intText? a = some n) (l : a.length ≤ 640) (q : Q (.int n) H) : rIntS [.str a] H Q := ⟨a, n, rfl, h, l, q⟩
theorem dec_dig {c : Nat} : decide (c ∈ (Str.ofString "0123456789").cps.toList) = dig c := by
  have e : (Str.ofString "0123456789").cps.toList = [48, 49, 50, 51, 52, 53, 54, 55, 56, 57] := by decide +kernel
  rw [e]
  unfold dig
  rw [← Bool.decide_and]
  refine decide_eq_decide.mpr ?_
  simp only [List.mem_cons, List.not_mem_nil, or_false]
  omega
theorem at0N {α : Type} (a : α) (l : List α) : atI (a :: l) 0 = some a := by
  show atI (a :: l) ((0 : Nat) : Int) = some a
  exact atI_nat rfl
section
variable {P : Program} {w : World} {K : PySem.W.Frag} {mg : Str → Option Value} {base : Heap}
def spInu : Sp := fun vs H Q _ => ∃ x : Str, vs = [.str x] ∧ x.length ≤ 100000 ∧ ∀ H', Same H H' → Q (.bl (isNum x)) H'
theorem sc_inu : FnScope ["text", "figure"] ["text"] (defScope s_is_number) := ⟨rfl, rfl, rfl, by decide +kernel, rfl, by decide +kernel, by decide +kernel⟩
theorem has_inu (F : FnAt K mg "is_number" s_is_number ["text"]) (B : Blt mg) {t1 t2 : Tok} (C_MOST_FIGURES : mg "MOST_FIGURES" = some (.int 9 t1)) (C_FIGURES : mg "FIGURES" = some (.str (Str.ofString "0123456789") t2)) : Has P w K mg base 1 "is_number" ["text"] spInu := F.has fun F => by
  refine F.ok sc_inu (fun vs H Q E h => ?_) (fun cdv A outer s H vs Q E hr h => ?_)
  · obtain ⟨x, rfl, _⟩ := h
    rfl
  · obtain ⟨x, rfl, hx, q⟩ := h
    refine ⟨_, (pss_cons (ps_if (PW.pt (pw_or (pt_not (pt_chain op_le op_le pe_int (pe_callB call_lenS (by rfl) B.len PySem.boot_len (pa_cons (pv 0) pa_nil)) (pe_gI (by rfl) C_MOST_FIGURES))) (pw_or1 (pt_not (pt_val (pe_callB (cr_all rfl) (by rfl) B.all (by decide +kernel) (pa_cons (pe_lc (own := [("figure", 1)]) (g := gName 1) (tt := tYes) (by rfl) sc_inu.nd (pi_str (pv 0)) (blkOk_by (own := [("figure", 1)]) (N := ["text", "figure"]) (sc := defScope s_is_number) (by decide +kernel)) (fun _ _ _ _ _ => pg_name (i := 1) sc_inu.nd rfl (.inl rfl)) (fun _ _ _ _ _ => pts_nil) (fun _ _ _ _ _ => (pe_cmpR op_inSg (pv 1) (pe_gS (by rfl) C_FIGURES) rfl))) pa_nil))))))) (pss_one (ps_ret pe_bl)) pss_nil) (pss_one (ps_ret (pe_or (pe_cmpR op_eq (pv 0) pe_str (nomark _)) (pe_one (pe_cmpR op_ne (pe_ix ix_str (pv 0) pe_int (fun _ _ => rfl)) pe_str (nomark _))))))), ?_⟩
    have xl : (tl x).length = x.length := (len_tl x).symm
    have e2 : decide (((x.length : Nat) : Int) ≤ 9) = decide (x.length ≤ 9) := decide_eq_decide.mpr (by omega)
    walk_at "go"
    refine w_lenS (line_of (by omega)) ?_
    walk_at "go"
    unfold isNum at q
    refine w_chain2 (fun h1 => ?_) (fun h1 => ?_)
    · have h1x : decide (1 ≤ x.length) = true := decide_eq_true (by omega)
      rw [h1x] at q
      walk_at "go"
      rw [e2]
      cases h2 : decide (x.length ≤ 9) with
      | false =>
        rw [h2] at q
        walk_at "go"
        exact q H (.refl _)
      | true =>
        rw [h2] at q
        rw [show (!true) = false from rfl]
        walk_at "go"
        refine w_lcS (fun r i H1 => Same H H1 ∧ H r = none ∧ H1 r = some (.lst (((tl x).take i).map fun c => V.bl (dig c)))) (fun r H1 h1 n1 => ⟨n1.same, n1.nn, h1⟩) ?_ ?_
        · rintro r i c H1 hc ⟨s1, rn, r1⟩
          have hil : i < (tl x).length := (List.getElem?_eq_some_iff.mp hc).1
          walk_at "go"
          rw [show decide (c ∈ (Str.ofString "0123456789").cps.toList) = dig c from dec_dig]
          refine w_kIt r1 (by rw [List.length_map, List.length_take]; exact lineLt_of (by omega)) (fun H2 h2 o2 => ⟨s1.off o2 rn, rn, ?_⟩)
          rw [h2, take_snoc hc, List.map_append]
          rfl
        · rintro r H1 ⟨s1, rn, r1⟩
          rw [List.take_length] at r1
          walk_at "go"
          have r2 : H1 r = some (.lst (((tl x).map dig).map V.bl)) := by rw [r1, List.map_map]; rfl
          refine w_all r2 ?_
          have e3 : ((tl x).map dig).all id = (tl x).all dig := by rw [List.all_map]; rfl
          rw [e3]
          cases e4 : (tl x).all dig with
          | false =>
            rw [e4] at q
            walk_at "go"
            exact q H1 s1
          | true =>
            rw [e4] at q
            simp only [Bool.and_self, Bool.true_and] at q
            walk_at "go"
            refine w_orVB (fun h => ?_) (fun h => ?_)
            · rw [h, Bool.true_or] at q
              exact q H1 s1
            · rw [h, Bool.false_or] at q
              have hne : tl x ≠ [] := fun z => by
                rw [z] at xl
                have := of_decide_eq_true h1x
                rw [← xl] at this
                cases this
              obtain ⟨c, l, hc⟩ : ∃ c l, tl x = c :: l := by
                cases e5 : tl x with
                | nil => exact absurd e5 hne
                | cons c l => exact ⟨c, l, rfl⟩
              walk_at "go"
              refine w_ixS (line_of (by omega)) (show atI x.cps.toList 0 = some c by show atI (tl x) 0 = _; rw [hc]; exact at0N c l) ?_
              walk_at "go"
              rw [hc] at q
              have e6 : (decide (one c = Str.ofString "0")) = decide ((c :: l).head? = some 48) := by
                refine decide_eq_decide.mpr ⟨fun z => ?_, fun z => ?_⟩
                · have : tl (one c) = tl (Str.ofString "0") := by rw [z]
                  have e7 : tl (Str.ofString "0") = [48] := by decide +kernel
                  rw [e7] at this
                  have : [c] = [48] := this
                  injection this with z _
                  rw [z]
                  rfl
                · have : c = 48 := by injection z
                  rw [this]
                  decide +kernel
              rw [e6]
              exact q H1 s1
    · walk_at "go"
      rw [decide_eq_false (show ¬ 1 ≤ x.length by omega)] at q
      exact q H (.refl _)
def spShn : Sp := fun vs H Q _ => ∃ x : Str, vs = [.str x] ∧ Q (.str (shT x)) H
theorem sc_shn : FnScope ["word"] ["word"] (defScope s_shown) := ⟨rfl, rfl, rfl, by decide +kernel, rfl, by decide +kernel, by decide +kernel⟩
theorem has_shn (F : FnAt K mg "shown" s_shown ["word"]) {t1 : Tok} (C_NO_SIGNS : mg "NO_SIGNS" = some (.str (Str.ofString "-") t1)) : Has P w K mg base 1 "shown" ["word"] spShn := F.has fun F => by
  refine F.ok sc_shn (fun vs H Q E h => ?_) (fun cdv A outer s H vs Q E hr h => ?_)
  · obtain ⟨x, rfl, _⟩ := h
    rfl
  · obtain ⟨x, rfl, q⟩ := h
    refine ⟨_, (pss_one (ps_ret (pe_ifExp (pt_cmpR op_eq (pv 0) pe_str (nomark _)) (pe_gS (by rfl) C_NO_SIGNS) (pv 0)))), ?_⟩
    unfold shT at q
    walk_at "go"
    refine w_ifE2 (fun h => ?_) (fun h => ?_)
    · rw [if_pos h] at q
      walk_at "go"
      exact q
    · rw [if_neg h] at q
      walk_at "go"
      exact q
def spMnt : Sp := fun vs H Q _ => ∃ x : Str, vs = [.str x] ∧ Q (.str (meT x)) H
theorem sc_mnt : FnScope ["text"] ["text"] (defScope s_meant) := ⟨rfl, rfl, rfl, by decide +kernel, rfl, by decide +kernel, by decide +kernel⟩
theorem has_mnt (F : FnAt K mg "meant" s_meant ["text"]) {t1 : Tok} (C_NO_SIGNS : mg "NO_SIGNS" = some (.str (Str.ofString "-") t1)) : Has P w K mg base 1 "meant" ["text"] spMnt := F.has fun F => by
  refine F.ok sc_mnt (fun vs H Q E h => ?_) (fun cdv A outer s H vs Q E hr h => ?_)
  · obtain ⟨x, rfl, _⟩ := h
    rfl
  · obtain ⟨x, rfl, q⟩ := h
    refine ⟨_, (pss_one (ps_ret (pe_ifExp (pt_cmpR op_eq (pv 0) (pe_gS (by rfl) C_NO_SIGNS) (nomark _)) pe_str (pv 0)))), ?_⟩
    unfold meT at q
    walk_at "go"
    refine w_ifE2 (fun h => ?_) (fun h => ?_)
    · rw [if_pos h] at q
      walk_at "go"
      exact q
    · rw [if_neg h] at q
      walk_at "go"
      exact q
def spIww : Sp := fun vs H Q _ => ∃ x : Str, vs = [.str x] ∧ x.length ≤ 100000 ∧ ∀ H', Same H H' → Q (.bl (isWr x)) H'
theorem sc_iww : FnScope ["text"] ["text"] (defScope s_is_written_word) := ⟨rfl, rfl, rfl, by decide +kernel, rfl, by decide +kernel, by decide +kernel⟩
theorem has_iww (F : FnAt K mg "is_written_word" s_is_written_word ["text"]) (h_Iw : HasIsWord P w K mg base) (h_Mnt : Has P w K mg base 1 "meant" ["text"] spMnt) : Has P w K mg base 2 "is_written_word" ["text"] spIww := F.has fun F => by
  obtain ⟨f_Iw, fd_Iw, g_Iw, k_Iw, b_Iw, G_Iw⟩ := h_Iw
  obtain ⟨f_Mnt, fd_Mnt, g_Mnt, k_Mnt, b_Mnt, G_Mnt⟩ := h_Mnt
  refine F.ok sc_iww (fun vs H Q E h => ?_) (fun cdv A outer s H vs Q E hr h => ?_)
  · obtain ⟨x, rfl, _⟩ := h
    rfl
  · obtain ⟨x, rfl, hx, q⟩ := h
    refine ⟨_, (pss_one (ps_ret (pe_and (pe_cmpR op_ne (pv 0) pe_str (nomark _)) (pe_one (pe_call G_Iw (hr.mono (by decide)) (by rfl) g_Iw k_Iw b_Iw .nil pass0 (pa_cons (pe_call G_Mnt (hr.mono (by decide)) (by rfl) g_Mnt k_Mnt b_Mnt .nil pass0 (pa_cons (pv 0) pa_nil)) pa_nil)))))), ?_⟩
    unfold isWr at q
    walk_at "go"
    refine w_andVB (fun h => ?_) (fun h => ?_)
    · rw [h, Bool.true_and] at q
      walk_at "go"
      refine ⟨x, rfl, ?_⟩
      walk_at "go"
      exact ⟨_, rfl, Nat.le_trans (len_meT x) hx, q⟩
    · rw [h, Bool.false_and] at q
      exact q H (.refl _)
def spIsd : Sp := fun vs H Q _ => ∃ x : Str, vs = [.str x] ∧ x.length ≤ 100000 ∧ ∀ H', Same H H' → Q (.bl (isSd x)) H'
theorem sc_isd : FnScope ["text"] ["text"] (defScope s_is_side) := ⟨rfl, rfl, rfl, by decide +kernel, rfl, by decide +kernel, by decide +kernel⟩
theorem has_isd (F : FnAt K mg "is_side" s_is_side ["text"]) (B : Blt mg) {t1 : Tok} (C_MOST_SIDE : mg "MOST_SIDE" = some (.int 12 t1)) (h_Iww : Has P w K mg base 2 "is_written_word" ["text"] spIww) : Has P w K mg base 3 "is_side" ["text"] spIsd := F.has fun F => by
  obtain ⟨f_Iww, fd_Iww, g_Iww, k_Iww, b_Iww, G_Iww⟩ := h_Iww
  refine F.ok sc_isd (fun vs H Q E h => ?_) (fun cdv A outer s H vs Q E hr h => ?_)
  · obtain ⟨x, rfl, _⟩ := h
    rfl
  · obtain ⟨x, rfl, hx, q⟩ := h
    refine ⟨_, (pss_one (ps_ret (pe_and (pe_call G_Iww (hr.mono (by decide)) (by rfl) g_Iww k_Iww b_Iww .nil pass0 (pa_cons (pv 0) pa_nil)) (pe_one (pe_cmpR op_le (pe_callB call_lenS (by rfl) B.len PySem.boot_len (pa_cons (pv 0) pa_nil)) (pe_gI (by rfl) C_MOST_SIDE) (nomark _)))))), ?_⟩
    unfold isSd at q
    walk_at "go"
    refine ⟨x, rfl, hx, fun H1 s1 => ?_⟩
    refine w_andVB (fun h => ?_) (fun h => ?_)
    · rw [h, Bool.true_and] at q
      walk_at "go"
      refine w_lenS (line_of (by omega)) ?_
      walk_at "go"
      rw [show decide (((x.length : Nat) : Int) ≤ 12) = decide (x.length ≤ 12) from decide_eq_decide.mpr (by omega)]
      exact q H1 s1
    · rw [h, Bool.false_and] at q
      exact q H1 s1
def spLas : Sp := fun vs H Q _ => ∃ (d : Addr) (kvs : List (Key × V)) (v : V), vs = [.ref d, v] ∧ H d = some (.dK kvs) ∧ kvs.length ≤ 1000 ∧ ∀ H', Same H H' → Q ((kvs.getLast?.map fun e => kV e.1).getD v) H'
theorem sc_las : FnScope ["things", "other"] ["things", "other"] (defScope s_last) := ⟨rfl, rfl, rfl, by decide +kernel, rfl, by decide +kernel, by decide +kernel⟩
theorem has_las (F : FnAt K mg "last" s_last ["things", "other"]) (B : Blt mg) : Has P w K mg base 1 "last" ["things", "other"] spLas := F.has fun F => by
  refine F.ok sc_las (fun vs H Q E h => ?_) (fun cdv A outer s H vs Q E hr h => ?_)
  · obtain ⟨d, kvs, v, rfl, _⟩ := h
    rfl
  · obtain ⟨d, kvs, v, rfl, hd, hl, q⟩ := h
    refine ⟨_, (pss_one (ps_ret (pe_ifExp (pt_truth (pv 0) (by intro _; rfl)) (pe_ix ix_list (pe_callTy (call_listDk rfl) (by rfl) B.list (by decide +kernel) (pa_cons (pv 0) pa_nil)) (pe_un un_neg pe_int) (fun _ _ => rfl)) (pv 1)))), ?_⟩
    walk_at "go"
    refine ⟨!kvs.isEmpty, ?_, ?_⟩
    · exact .inr (.inr ⟨kvs, hd, rfl⟩)
    cases kvs with
    | nil =>
      rw [show (!([] : List (Key × V)).isEmpty) = false from rfl]
      walk_at "go"
      exact q H (.refl _)
    | cons e l =>
      rw [show (!(e :: l : List (Key × V)).isEmpty) = true from rfl]
      walk_at "go"
      refine w_listDk hd (fun r H1 h1 n1 => ?_)
      walk_at "go"
      refine w_ixL h1 ?_ (q H1 n1.same)
      rcases List.eq_nil_or_concat (e :: l) with z | ⟨r, d, z⟩
      · cases z
      · rw [z, List.concat_eq_append, List.map_append, List.getLast?_concat]
        exact atI_last _ _
end
end Sf
namespace Sf
open PySem PySem.Spec PyProof.Rows L2 TL
section
variable {P : Program} {w : World} {K : PySem.W.Frag} {mg : Str → Option Value} {base : Heap} {CS : Addr}
/-! ### a row is added to a stand -/
/-- a line is added by any number above those that stand -/
def spSdLn (CS : Addr) : Sp := fun vs H Q _ => ∃ (s : Addr) (M : StM) (n : Int) (l r : Str), vs = [.ref s, .int n, .str l, .str r] ∧ StAt CS H s M ∧ StOk M ∧ (∀ e ∈ M.prs, e.1 < n) ∧ ∀ H', StAt CS H' s { M with prs := M.prs ++ [(n, (l, r))] } → Fx s H H' → Q .non H'
theorem sc_sdln : FnScope ["self", "number", "left", "right"] ["self", "number", "left", "right"] (defScope s_Stand_add_line) := ⟨rfl, rfl, rfl, by decide +kernel, rfl, by decide +kernel, by decide +kernel⟩
theorem has_sdln (F : MAt K CS "add_line" "Stand.add_line" s_Stand_add_line ["self", "number", "left", "right"]) (T_Stand : SDC K mg CS) : HasM P w K mg base CS 1 "add_line" ["self", "number", "left", "right"] (spSdLn CS) := F.has fun F => by
  refine F.ok sc_sdln (fun vs H Q E h => ?_) (fun cdv A outer s H vs Q E hr h => ?_)
  · obtain ⟨s, M, n, l, r, rfl, _⟩ := h
    rfl
  · obtain ⟨s, M, n, l, r, rfl, ⟨dx, p, t, q0, hs, hd⟩, ok, hn, q⟩ := h
    refine ⟨_, (pss_one (ps_fld (pv 0) (pe_mergeK (pe_fld (pv 0) rfl) (pps_cons (pv 1) (pe_tup (pa_cons (pv 2) (pa_cons (pv 3) pa_nil))) pps_nil)) rfl)), ?_⟩
    obtain ⟨kp, hp, hk⟩ := hd.pr
    have hkl : kp.length = M.prs.length := Paired.length hk
    have pl := ok.pl
    have nf : (Sum.inl n : Key) ∉ kp.map (·.1) := by
      rw [lnKeys hk]
      intro hm
      obtain ⟨e, he, ee⟩ := List.mem_map.mp hm
      have h1 := hn e he
      have h2 : e.1 = n := Sum.inl.inj ee
      omega
    walk_at "go"
    refine w_mrg (fun p1 H1 hp1 np1 => ?_)
    walk_at "go"
    refine w_kFld (np1.at hs) T_Stand.cl T_Stand.nP lk_p ?_
    have pp1 : p ≠ p1 := np1.ne hp
    refine w_kMrgA (np1.at hp) hp1 pp1 (ok.kn hk) (line_of (by omega)) (fun q1 H2 hq1 hp2 n12 S2 nq1 => ?_)
    walk_at "go"
    refine w_newT (by walk_at "sz") (fun T H3 hT nT => ?_)
    have nqH : H q1 = none := by
      cases e : H q1 with
      | none => rfl
      | some o => rw [np1.at e] at nq1; cases nq1
    refine w_kMrgB (k := .inl n) (nT.at hq1) (nT.at hp2) n12 (line_of (by omega)) (fun H4 hp4 S4 => ?_)
    have sp1 : s ≠ p1 := np1.ne hs
    have up : ∀ b o, H b = some o → H4 b = some o := fun b o e => by
      have n1 : b ≠ p1 := np1.ne e
      have n2 : b ≠ q1 := ne_of_none e nqH
      exact S4 b o (nT.at (S2 b o (np1.at e) n1)) n1 n2
    walk_at "go"
    refine w_kSFld (up _ _ hs) T_Stand.cl T_Stand.nP (by show 4 < 1000; decide) (fun H5 h5 o5 => ?_)
    rw [st_p] at h5
    walk_at "go"
    have Tp1 : T ≠ p1 := (nT.ne hp2).symm
    have Tq1 : T ≠ q1 := (nT.ne hq1).symm
    have hT4 := S4 T _ hT Tp1 Tq1
    have K5 : DkT H4 H5 := DkT.off (up _ _ hs) (fun _ z => nomatch z) (fun _ z => nomatch z) o5
    have K45 : DkT H H5 := (DkT.of (H' := H4) up).trans K5
    obtain ⟨kq, hq, hkq⟩ := hd.pp
    refine q H5 ⟨dx, p1, t, q0, h5, ⟨⟨kp ++ [(.inl n, .ref T)], ?_, ?_⟩, K45.1 _ _ hd.tx, ⟨kq, K45.1 _ _ hq, hkq.tps K45.2⟩⟩⟩ (fun b o e n => o5.at n (up b o e))
    · rw [putK_new nf] at hp4
      exact K5.1 _ _ hp4
    · exact Paired.snoc (hk.tps K45.2) ⟨rfl, T, rfl, K5.2 _ _ hT4⟩
theorem last_ln {H : Hp} {kp : List (Key × V)} {ls : List (Int × Clm)} (h : LnsAt H kp ls) : ((kp.getLast?.map fun e => kV e.1).getD (V.int 0)) = .int (lastN ls) := by
  rcases List.eq_nil_or_concat ls with rfl | ⟨r, d, rfl⟩
  · have h' : Paired _ kp [] := h
    cases h'
    rfl
  · rw [List.concat_eq_append] at h ⊢
    have e : kp.length = (r ++ [d]).length := Paired.length h
    rcases List.eq_nil_or_concat kp with rfl | ⟨vs, v, rfl⟩
    · simp at e
    · rw [List.concat_eq_append] at h e ⊢
      have hv : (vs ++ [v])[vs.length]? = some v := by simp
      obtain ⟨d', hd, hE, _⟩ := paired_get h hv
      have e2 : vs.length = r.length := by simpa using e
      rw [e2] at hd
      have : d' = d := by simpa using hd.symm
      subst this
      unfold lastN
      rw [List.getLast?_concat, List.getLast?_concat]
      show kV v.1 = _
      rw [hE]
      rfl
theorem last_tx (ls : List (Str × Str)) : (((txK ls).getLast?.map fun e => kV e.1).getD (V.str (Str.ofString ""))) = .str (lastT ls) := by
  unfold txK lastT
  rw [List.getLast?_map]
  cases ls.getLast? <;> rfl
/-! ### is_coming -/
def TxsL (ps : List Str) : Prop := ∀ x ∈ ps, x.length ≤ 100000
def spIco (CS : Addr) : Sp := fun vs H Q _ => ∃ (s p : Addr) (M : StM) (ps : List Str), vs = [.ref s, .ref p] ∧ StAt CS H s M ∧ H p = some (.lst (ps.map V.str)) ∧ TxsL ps ∧ ps ≠ [] ∧
  (∀ f, comM ps = some f → ∀ H', StAt CS H' s { M with fol := f } → Fx s H H' → Q (.bl true) H') ∧ (comM ps = none → ∀ H', Same H H' → Q (.bl false) H')
theorem sc_ico : FnScope ["stand", "parts"] ["stand", "parts"] (defScope s_is_coming) := ⟨rfl, rfl, rfl, by decide +kernel, rfl, by decide +kernel, by decide +kernel⟩
theorem has_ico (F : FnAt K mg "is_coming" s_is_coming ["stand", "parts"]) (B : Blt mg) (Nint : mg "int" = none) (T_Stand : SDC K mg CS) (h_Inu : Has P w K mg base 1 "is_number" ["text"] spInu) : Has P w K mg base 2 "is_coming" ["stand", "parts"] (spIco CS) := F.has fun F => by
  obtain ⟨f_Inu, fd_Inu, g_Inu, k_Inu, b_Inu, G_Inu⟩ := h_Inu
  refine F.ok sc_ico (fun vs H Q E h => ?_) (fun cdv A outer s H vs Q E hr h => ?_)
  · obtain ⟨s, p, M, ps, rfl, _⟩ := h
    rfl
  · obtain ⟨s, p, M, ps, rfl, hS, hp, tx, ne, q1, q2⟩ := h
    refine ⟨_, (pss_cons (ps_if (PW.pt (pw_or (pt_cmpR op_ne (pe_callB call_lenQ (by rfl) B.len PySem.boot_len (pa_cons (pv 1) pa_nil)) pe_int (nomark _)) (pw_or (pt_cmpR op_ne (pe_ix ix_list (pv 1) pe_int (fun _ _ => rfl)) pe_str (nomark _)) (pw_or (pt_not (pt_val (pe_call G_Inu (hr.mono (by decide)) (by rfl) g_Inu k_Inu b_Inu .nil pass0 (pa_cons (pe_ix ix_list (pv 1) pe_int (fun _ _ => rfl)) pa_nil)))) (pw_or1 (pt_cmpR op_eq (pe_ix ix_list (pv 1) pe_int (fun _ _ => rfl)) pe_str (nomark _))))))) (pss_one (ps_ret pe_bl)) pss_nil) (pss_cons (ps_fld (pv 0) (pe_callTy call_intS (by rfl) Nint (by decide +kernel) (pa_cons (pe_ix ix_list (pv 1) pe_int (fun _ _ => rfl)) pa_nil)) rfl) (pss_one (ps_ret pe_bl)))), ?_⟩
    walk_at "go"
    rw [List.length_map]
    by_cases h2 : ps.length = 2
    · obtain ⟨a, n, rfl⟩ : ∃ a n, ps = [a, n] := by
        match ps, h2 with
        | [a, n], _ => exact ⟨a, n, rfl⟩
      have hp : H p = some (.lst [.str a, .str n]) := hp
      have lx : n.length ≤ 100000 := tx n (List.mem_cons_of_mem _ List.mem_cons_self)
      have ec : comM [a, n] = if a = Str.ofString "coming" ∧ isNum n = true ∧ ¬ n = Str.ofString "0" then some (numP0 n) else none := rfl
      rw [decide_eq_true (show (([a, n].length : Nat) : Int) = 2 from rfl), Bool.not_true]
      walk_at "go"
      refine w_orN2 (fun h => ?_) (fun h => ?_)
      · walk_at "go"
        exact q2 (by rw [ec, if_neg (fun z => h z.1)]) H (.refl _)
      · walk_at "go"
        refine ⟨n, rfl, lx, fun H1 s1 => ?_⟩
        cases hn : isNum n with
        | false =>
          walk_at "go"
          exact q2 (by rw [ec, if_neg (fun z => by rw [hn] at z; exact nomatch z.2.1)]) H1 s1
        | true =>
          walk_at "go"
          refine w_if2 (fun h0 => ?_) (fun h0 => ?_)
          · walk_at "go"
            exact q2 (by rw [ec, if_neg (fun z => z.2.2 h0)]) H1 s1
          · walk_at "go"
            have ok := isNum_ok hn
            walk_at "go"
            refine w_intS (num_int ok) (Nat.le_trans ok.l9 (by decide)) ?_
            obtain ⟨dx, p0, t, q0, hs, hd⟩ := hS
            walk_at "go"
            refine w_kSFld (s1.at hs) T_Stand.cl T_Stand.nF (by show 4 < 1000; decide) (fun H5 h5 o5 => ?_)
            rw [st_f] at h5
            walk_at "go"
            have K5 : DkT H H5 := (DkT.of s1).trans (DkT.off (s1.at hs) (fun _ z => nomatch z) (fun _ z => nomatch z) o5)
            obtain ⟨kp, hkp, hk⟩ := hd.pr
            obtain ⟨kq, hq, hkq⟩ := hd.pp
            exact q1 (numP0 n) (by rw [ec, if_pos ⟨h, hn, h0⟩]) H5 ⟨dx, p0, t, q0, h5, ⟨⟨kp, K5.1 _ _ hkp, hk.tps K5.2⟩, K5.1 _ _ hd.tx, ⟨kq, K5.1 _ _ hq, hkq.tps K5.2⟩⟩⟩ (fun b o e n => o5.at n (s1 b o e))
    · have e : comM ps = none := by
        unfold comM
        split
        · exact absurd rfl h2
        · rfl
      rw [decide_eq_false (show ¬ ((ps.length : Nat) : Int) = 2 by omega), Bool.not_false]
      walk_at "go"
      exact q2 e H (.refl _)
/-! ### is_line -/
def spIln (CS : Addr) : Sp := fun vs H Q _ => ∃ (s p : Addr) (M : StM) (a : Str) (ps : List Str), vs = [.ref s, .ref p] ∧ StAt CS H s M ∧ PgOk M ∧ H p = some (.lst ((a :: ps).map V.str)) ∧ TxsL ps ∧ a = Str.ofString "like" ∧
  (∀ M', addRow M (a :: ps) = some M' → ∀ H', StAt CS H' s M' → Fx s H H' → Q (.bl true) H') ∧ (addRow M (a :: ps) = none → ∀ H', Same H H' → Q (.bl false) H')
theorem sc_iln : FnScope ["stand", "parts", "number"] ["stand", "parts"] (defScope s_is_line) := ⟨rfl, rfl, rfl, by decide +kernel, rfl, by decide +kernel, by decide +kernel⟩
theorem has_iln (F : FnAt K mg "is_line" s_is_line ["stand", "parts"]) (B : Blt mg) (Nint : mg "int" = none) (T_Stand : SDC K mg CS) {t1 : Tok} (C_MOST_LINES : mg "MOST_LINES" = some (.int 12 t1)) (h_Inu : Has P w K mg base 1 "is_number" ["text"] spInu) (h_Isd : Has P w K mg base 3 "is_side" ["text"] spIsd) (h_Mnt : Has P w K mg base 1 "meant" ["text"] spMnt) (h_Las : Has P w K mg base 1 "last" ["things", "other"] spLas) (h_SdL : HasM P w K mg base CS 1 "add_line" ["self", "number", "left", "right"] (spSdLn CS)) : Has P w K mg base 4 "is_line" ["stand", "parts"] (spIln CS) := F.has fun F => by
  obtain ⟨f_Inu, fd_Inu, g_Inu, k_Inu, b_Inu, G_Inu⟩ := h_Inu
  obtain ⟨f_Isd, fd_Isd, g_Isd, k_Isd, b_Isd, G_Isd⟩ := h_Isd
  obtain ⟨f_Mnt, fd_Mnt, g_Mnt, k_Mnt, b_Mnt, G_Mnt⟩ := h_Mnt
  obtain ⟨f_Las, fd_Las, g_Las, k_Las, b_Las, G_Las⟩ := h_Las
  obtain ⟨f_SdL, fd_SdL, m_SdL, b_SdL, G_SdL⟩ := h_SdL
  refine F.ok sc_iln (fun vs H Q E h => ?_) (fun cdv A outer s H vs Q E hr h => ?_)
  · obtain ⟨s, p, M, a, ps, rfl, _⟩ := h
    rfl
  · obtain ⟨s, p, M, a, ps, rfl, hS, W, hp, tx, ha, q1, q2⟩ := h
    refine ⟨_, (pss_cons (ps_if (PW.pt (pw_or (pt_cmpR op_ne (pe_callB call_lenQ (by rfl) B.len PySem.boot_len (pa_cons (pv 1) pa_nil)) pe_int (nomark _)) (pw_or (pt_not (pt_val (pe_call G_Inu (hr.mono (by decide)) (by rfl) g_Inu k_Inu b_Inu .nil pass0 (pa_cons (pe_ix ix_list (pv 1) pe_int (fun _ _ => rfl)) pa_nil)))) (pw_or (pt_not (pt_val (pe_call G_Isd (hr.mono (by decide)) (by rfl) g_Isd k_Isd b_Isd .nil pass0 (pa_cons (pe_ix ix_list (pv 1) pe_int (fun _ _ => rfl)) pa_nil)))) (pw_or1 (pt_not (pt_val (pe_call G_Isd (hr.mono (by decide)) (by rfl) g_Isd k_Isd b_Isd .nil pass0 (pa_cons (pe_ix ix_list (pv 1) pe_int (fun _ _ => rfl)) pa_nil))))))))) (pss_one (ps_ret pe_bl)) pss_nil) (pss_cons (ps_set (i := 2) sc_iln.nd rfl (.inl rfl) (pe_callTy call_intS (by rfl) Nint (by decide +kernel) (pa_cons (pe_ix ix_list (pv 1) pe_int (fun _ _ => rfl)) pa_nil))) (pss_cons (ps_if (PW.pt (pw_or (pt_cmpR op_ge (pe_callB call_lenDc (by rfl) B.len PySem.boot_len (pa_cons (pe_fld (pv 0) rfl) pa_nil)) (pe_gI (by rfl) C_MOST_LINES) (nomark _)) (pw_or (pt_cmpR (op_neDict hr.units) (pe_fld (pv 0) rfl) pe_dnewK (nomark _)) (pw_or1 (pt_not (pt_chain op_lt op_lt (pe_call G_Las (hr.mono (by decide)) (by rfl) g_Las k_Las b_Las .nil pass0 (pa_cons (pe_fld (pv 0) rfl) (pa_cons pe_int pa_nil))) (pv 2) (pe_fld (pv 0) rfl))))))) (pss_one (ps_ret pe_bl)) pss_nil) (pss_cons (ps_expr (pe_meth (pv 0) T_Stand.cl m_SdL G_SdL (hr.mono (by decide)) b_SdL .nil pass0 (pa_cons (pv 2) (pa_cons (pe_call G_Mnt (hr.mono (by decide)) (by rfl) g_Mnt k_Mnt b_Mnt .nil pass0 (pa_cons (pe_ix ix_list (pv 1) pe_int (fun _ _ => rfl)) pa_nil)) (pa_cons (pe_call G_Mnt (hr.mono (by decide)) (by rfl) g_Mnt k_Mnt b_Mnt .nil pass0 (pa_cons (pe_ix ix_list (pv 1) pe_int (fun _ _ => rfl)) pa_nil)) pa_nil))))) (pss_one (ps_ret pe_bl)))))), ?_⟩
    walk_at "go"
    rw [List.length_map]
    by_cases h2 : (a :: ps).length = 4
    · obtain ⟨n, l, r, rfl⟩ : ∃ n l r, ps = [n, l, r] := by
        match ps, h2 with
        | [n, l, r], _ => exact ⟨n, l, r, rfl⟩
      have hp : H p = some (.lst [.str a, .str n, .str l, .str r]) := hp
      have ln : n.length ≤ 100000 := tx n List.mem_cons_self
      have ll : l.length ≤ 100000 := tx l (List.mem_cons_of_mem _ List.mem_cons_self)
      have lr : r.length ≤ 100000 := tx r (List.mem_cons_of_mem _ (List.mem_cons_of_mem _ List.mem_cons_self))
      have ec : addRow M [a, n, l, r] = if a = Str.ofString "like" ∧ isNum n = true ∧ isSd l = true ∧ isSd r = true ∧ M.prs.length < 12 ∧ M.txs = [] ∧ lastN M.prs < numP0 n ∧ numP0 n < M.fol then some { M with prs := M.prs ++ [((numP0 n : Int), (meT l, meT r))] } else none := rfl
      rw [decide_eq_true (show (([a, n, l, r].length : Nat) : Int) = 4 from rfl), Bool.not_true]
      walk_at "go"
      refine ⟨n, rfl, ln, fun H1 s1 => ?_⟩
      cases hn : isNum n with
      | false =>
        walk_at "go"
        exact q2 (by rw [ec, if_neg (fun z => by rw [hn] at z; exact nomatch z.2.1)]) H1 s1
      | true =>
        have hp1 := s1.at hp
        walk_at "go"
        refine ⟨l, rfl, ll, fun H2 s2 => ?_⟩
        have s12 := s1.trans s2
        cases hl : isSd l with
        | false =>
          walk_at "go"
          exact q2 (by rw [ec, if_neg (fun z => by rw [hl] at z; exact nomatch z.2.2.1)]) H2 s12
        | true =>
          have hp2 := s12.at hp
          walk_at "go"
          refine ⟨r, rfl, lr, fun H3 s3 => ?_⟩
          have s13 := s12.trans s3
          cases hr' : isSd r with
          | false =>
            walk_at "go"
            exact q2 (by rw [ec, if_neg (fun z => by rw [hr'] at z; exact nomatch z.2.2.2.1)]) H3 s13
          | true =>
            have hp3 := s13.at hp
            have ok := isNum_ok hn
            have S3 := hS.same s13
            obtain ⟨dx, p0, t, q0, hs, hd⟩ := id S3
            obtain ⟨kp, hkp, hk⟩ := hd.pr
            have hkl : kp.length = M.prs.length := Paired.length hk
            have ht := hd.tx
            walk_at "go"
            refine w_intS (num_int ok) (Nat.le_trans ok.l9 (by decide)) ?_
            walk_at "go"
            refine w_kFld hs T_Stand.cl T_Stand.nP lk_p ?_
            walk_at "go"
            rw [hkl]
            refine w_or2 (fun h5 => ?_) (fun h5 => ?_)
            · walk_at "go"
              exact q2 (by rw [ec, if_neg (fun z => by have := z.2.2.2.2.1; omega)]) H3 s13
            walk_at "go"
            refine w_kFld hs T_Stand.cl T_Stand.nT lk_t ?_
            walk_at "go"
            refine w_dnewK (fun p9 H4 hp9 np9 => ?_)
            refine w_neDict (np9.at ht) hp9 ?_
            have s14 := s13.trans np9.same
            cases hc : (txK M.txs).isEmpty with
            | false =>
              rw [show (!false) = true from rfl]
              walk_at "go"
              exact q2 (by
                rw [ec, if_neg (fun z => ?_)]
                have := z.2.2.2.2.2.1
                rw [this] at hc
                cases hc) H4 s14
            | true =>
              have et : M.txs = [] := by
                cases e : M.txs with
                | nil => rfl
                | cons e l => rw [e] at hc; cases hc
              rw [show (!true) = false from rfl]
              walk_at "go"
              refine w_kFld (np9.at hs) T_Stand.cl T_Stand.nP lk_p ?_
              walk_at "go"
              refine ⟨p0, kp, .int 0, rfl, np9.at hkp, by have := W.ok.pl; omega, fun H5 s5 => ?_⟩
              have s15 := s14.trans s5
              have el : ((kp.getLast?.map fun e => kV e.1).getD (V.int 0)) = .int (lastN M.prs) := last_ln hk
              rw [el]
              walk_at "go"
              refine w_chain2 (fun h6 => ?_) (fun h6 => ?_)
              · walk_at "go"
                refine w_kFld (s5.at (np9.at hs)) T_Stand.cl T_Stand.nF lk_f ?_
                walk_at "go"
                refine w_ifN2 (fun h7 => ?_) (fun h7 => ?_)
                · walk_at "go"
                  exact q2 (by rw [ec, if_neg (fun z => by have := z.2.2.2.2.2.2.2; omega)]) H5 s15
                have hp5 := s15.at hp
                have hs5 := s5.at (np9.at hs)
                walk_at "go"
                refine w_kMeth hs5 (st_no (by decide +kernel) (by decide +kernel) (by decide +kernel) (by decide +kernel)) ?_
                walk_at "go"
                refine ⟨l, rfl, ?_⟩
                walk_at "go"
                refine ⟨r, rfl, ?_⟩
                walk_at "go"
                refine ⟨s, M, _, _, _, rfl, hS.same s15, W.ok, W.ltN h6, fun H6 hS6 f6 => ?_⟩
                walk_at "go"
                exact q1 _ (by rw [ec, if_pos ⟨ha, hn, hl, hr', by omega, et, h6, by omega⟩]) H6 hS6 ((Fx.of s15).trans f6)
              · walk_at "go"
                exact q2 (by rw [ec, if_neg (fun z => h6 z.2.2.2.2.2.2.1)]) H5 s15
    · have e : addRow M (a :: ps) = none := by
        unfold addRow
        split
        · rename_i e; rw [e] at h2; exact absurd rfl h2
        · rename_i e
          rw [if_neg (fun z => ?_)]
          have e1 := z.1
          rw [List.cons.injEq] at e
          rw [← e.1, ha] at e1
          exact absurd e1 (by decide +kernel)
        · rfl
      rw [decide_eq_false (show ¬ (((a :: ps).length : Nat) : Int) = 4 by omega), Bool.not_false]
      walk_at "go"
      exact q2 e H (.refl _)
/-! ### is_text -/
def spItx (CS : Addr) : Sp := fun vs H Q _ => ∃ (s p : Addr) (M : StM) (a : Str) (ps : List Str), vs = [.ref s, .ref p] ∧ StAt CS H s M ∧ PgOk M ∧ H p = some (.lst ((a :: ps).map V.str)) ∧ TxsL ps ∧ ¬ a = Str.ofString "like" ∧
  (∀ M', addRow M (a :: ps) = some M' → ∀ H', StAt CS H' s M' → Fx s H H' → Q (.bl true) H') ∧ (addRow M (a :: ps) = none → ∀ H', Same H H' → Q (.bl false) H')
theorem sc_itx : FnScope ["stand", "parts"] ["stand", "parts"] (defScope s_is_text) := ⟨rfl, rfl, rfl, by decide +kernel, rfl, by decide +kernel, by decide +kernel⟩
theorem has_itx (F : FnAt K mg "is_text" s_is_text ["stand", "parts"]) (B : Blt mg) (T_Stand : SDC K mg CS) {t1 : Tok} (C_MOST_NAMES : mg "MOST_NAMES" = some (.int 20 t1)) (h_Isn : Has P w K mg base 1 "is_name" ["text"] spIsn) (h_Iww : Has P w K mg base 2 "is_written_word" ["text"] spIww) (h_Mnt : Has P w K mg base 1 "meant" ["text"] spMnt) (h_Las : Has P w K mg base 1 "last" ["things", "other"] spLas) (h_SdW : HasM P w K mg base CS 1 "add_text" ["self", "word_name", "word"] (spSdW CS)) : Has P w K mg base 3 "is_text" ["stand", "parts"] (spItx CS) := F.has fun F => by
  obtain ⟨f_Isn, fd_Isn, g_Isn, k_Isn, b_Isn, G_Isn⟩ := h_Isn
  obtain ⟨f_Iww, fd_Iww, g_Iww, k_Iww, b_Iww, G_Iww⟩ := h_Iww
  obtain ⟨f_Mnt, fd_Mnt, g_Mnt, k_Mnt, b_Mnt, G_Mnt⟩ := h_Mnt
  obtain ⟨f_Las, fd_Las, g_Las, k_Las, b_Las, G_Las⟩ := h_Las
  obtain ⟨f_SdW, fd_SdW, m_SdW, b_SdW, G_SdW⟩ := h_SdW
  refine F.ok sc_itx (fun vs H Q E h => ?_) (fun cdv A outer s H vs Q E hr h => ?_)
  · obtain ⟨s, p, M, a, ps, rfl, _⟩ := h
    rfl
  · obtain ⟨s, p, M, a, ps, rfl, hS, W, hp, tx, ha, q1, q2⟩ := h
    refine ⟨_, (pss_cons (ps_if (PW.pt (pw_or (pt_cmpR op_ne (pe_callB call_lenQ (by rfl) B.len PySem.boot_len (pa_cons (pv 1) pa_nil)) pe_int (nomark _)) (pw_or (pt_cmpR op_ne (pe_ix ix_list (pv 1) pe_int (fun _ _ => rfl)) pe_str (nomark _)) (pw_or (pt_not (pt_val (pe_call G_Isn (hr.mono (by decide)) (by rfl) g_Isn k_Isn b_Isn .nil pass0 (pa_cons (pe_ix ix_list (pv 1) pe_int (fun _ _ => rfl)) pa_nil)))) (pw_or1 (pt_not (pt_val (pe_call G_Iww (hr.mono (by decide)) (by rfl) g_Iww k_Iww b_Iww .nil pass0 (pa_cons (pe_ix ix_list (pv 1) pe_int (fun _ _ => rfl)) pa_nil))))))))) (pss_one (ps_ret pe_bl)) pss_nil) (pss_cons (ps_if (PW.pt (pw_or (pt_cmpR op_ge (pe_callB call_lenDc (by rfl) B.len PySem.boot_len (pa_cons (pe_fld (pv 0) rfl) pa_nil)) (pe_gI (by rfl) C_MOST_NAMES) (nomark _)) (pw_or1 (pt_not (pt_cmpR op_ltS (pe_call G_Las (hr.mono (by decide)) (by rfl) g_Las k_Las b_Las .nil pass0 (pa_cons (pe_fld (pv 0) rfl) (pa_cons pe_str pa_nil))) (pe_ix ix_list (pv 1) pe_int (fun _ _ => rfl)) (nomark _)))))) (pss_one (ps_ret pe_bl)) pss_nil) (pss_cons (ps_expr (pe_meth (pv 0) T_Stand.cl m_SdW G_SdW (hr.mono (by decide)) b_SdW .nil pass0 (pa_cons (pe_ix ix_list (pv 1) pe_int (fun _ _ => rfl)) (pa_cons (pe_call G_Mnt (hr.mono (by decide)) (by rfl) g_Mnt k_Mnt b_Mnt .nil pass0 (pa_cons (pe_ix ix_list (pv 1) pe_int (fun _ _ => rfl)) pa_nil)) pa_nil)))) (pss_one (ps_ret pe_bl))))), ?_⟩
    walk_at "go"
    rw [List.length_map]
    by_cases h2 : (a :: ps).length = 3
    · obtain ⟨n, x, rfl⟩ : ∃ n x, ps = [n, x] := by
        match ps, h2 with
        | [n, x], _ => exact ⟨n, x, rfl⟩
      have hp : H p = some (.lst [.str a, .str n, .str x]) := hp
      have ln : n.length ≤ 100000 := tx n List.mem_cons_self
      have lx : x.length ≤ 100000 := tx x (List.mem_cons_of_mem _ List.mem_cons_self)
      have ec : addRow M [a, n, x] = if a = Str.ofString "word" ∧ isN n = true ∧ isWr x = true ∧ M.txs.length < 20 ∧ tl (lastT M.txs) < tl n then some { M with txs := M.txs ++ [(n, meT x)] } else none := rfl
      rw [decide_eq_true (show (([a, n, x].length : Nat) : Int) = 3 from rfl), Bool.not_true]
      walk_at "go"
      refine w_orN2 (fun h => ?_) (fun h => ?_)
      · walk_at "go"
        exact q2 (by rw [ec, if_neg (fun z => h z.1)]) H (.refl _)
      walk_at "go"
      refine ⟨n, rfl, ln, fun H1 s1 => ?_⟩
      cases hn : isN n with
      | false =>
        walk_at "go"
        exact q2 (by rw [ec, if_neg (fun z => by rw [hn] at z; exact nomatch z.2.1)]) H1 s1
      | true =>
        have hp1 := s1.at hp
        walk_at "go"
        refine ⟨x, rfl, lx, fun H2 s2 => ?_⟩
        have s12 := s1.trans s2
        cases hx : isWr x with
        | false =>
          walk_at "go"
          exact q2 (by rw [ec, if_neg (fun z => by rw [hx] at z; exact nomatch z.2.2.1)]) H2 s12
        | true =>
          have hp2 := s12.at hp
          obtain ⟨dx, p0, t, q0, hs, hd⟩ := id (hS.same s12)
          have ht := hd.tx
          have tkl : (txK M.txs).length = M.txs.length := List.length_map _
          walk_at "go"
          refine w_kFld hs T_Stand.cl T_Stand.nT lk_t ?_
          walk_at "go"
          rw [tkl]
          refine w_or2 (fun h5 => ?_) (fun h5 => ?_)
          · walk_at "go"
            exact q2 (by rw [ec, if_neg (fun z => by have := z.2.2.2.1; omega)]) H2 s12
          walk_at "go"
          refine w_kFld hs T_Stand.cl T_Stand.nT lk_t ?_
          walk_at "go"
          refine ⟨t, txK M.txs, .str (Str.ofString ""), rfl, ht, by rw [tkl]; have := W.ok.tl; omega, fun H5 s5 => ?_⟩
          have s15 := s12.trans s5
          rw [last_tx]
          have hp5 := s15.at hp
          walk_at "go"
          refine w_ltS ?_
          walk_at "go"
          refine w_ifN2 (fun h7 => ?_) (fun h7 => ?_)
          · walk_at "go"
            exact q2 (by rw [ec, if_neg (fun z => h7 z.2.2.2.2)]) H5 s15
          walk_at "go"
          refine w_kMeth (s5.at hs) (st_no (by decide +kernel) (by decide +kernel) (by decide +kernel) (by decide +kernel)) ?_
          walk_at "go"
          refine ⟨x, rfl, ?_⟩
          walk_at "go"
          refine ⟨s, M, n, meT x, rfl, hS.same s15, W.ok, fun H6 hS6 f6 => ?_⟩
          walk_at "go"
          have h7' : tl (lastT M.txs) < tl n := h7
          have en : putT M.txs n (meT x) = M.txs ++ [(n, meT x)] := by
            unfold putT
            rw [if_neg]
            intro z
            obtain ⟨e, he, e2⟩ := List.any_eq_true.mp z
            have := W.ltT h7' e he
            rw [of_decide_eq_true e2] at this
            exact List.lt_irrefl _ this
          rw [en] at hS6
          exact q1 _ (by rw [ec, if_pos ⟨h, hn, hx, by omega, h7'⟩]) H6 hS6 ((Fx.of s15).trans f6)
    · have e : addRow M (a :: ps) = none := by
        unfold addRow
        split
        · rename_i e
          rw [if_neg (fun z => ?_)]
          rw [List.cons.injEq] at e
          exact ha (e.1.trans z.1)
        · rename_i e; rw [e] at h2; exact absurd rfl h2
        · rfl
      rw [decide_eq_false (show ¬ (((a :: ps).length : Nat) : Int) = 3 by omega), Bool.not_false]
      walk_at "go"
      exact q2 e H (.refl _)
/-! ### is_added -/
def spIad (CS : Addr) : Sp := fun vs H Q _ => ∃ (s p : Addr) (i : Int) (M : StM) (ps : List Str), vs = [.ref s, .int i, .ref p] ∧ StAt CS H s M ∧ H p = some (.lst (ps.map V.str)) ∧ TxsL ps ∧ ps ≠ [] ∧
  (i = 0 → (∀ f, comM ps = some f → ∀ H', StAt CS H' s { M with fol := f } → Fx s H H' → Q (.bl true) H') ∧ (comM ps = none → ∀ H', Same H H' → Q (.bl false) H')) ∧
  (¬ i = 0 → PgOk M ∧ (∀ M', addRow M ps = some M' → ∀ H', StAt CS H' s M' → Fx s H H' → Q (.bl true) H') ∧ (addRow M ps = none → ∀ H', Same H H' → Q (.bl false) H'))
theorem sc_iad : FnScope ["stand", "number", "parts"] ["stand", "number", "parts"] (defScope s_is_added) := ⟨rfl, rfl, rfl, by decide +kernel, rfl, by decide +kernel, by decide +kernel⟩
theorem has_iad (F : FnAt K mg "is_added" s_is_added ["stand", "number", "parts"]) (h_Ico : Has P w K mg base 2 "is_coming" ["stand", "parts"] (spIco CS)) (h_Iln : Has P w K mg base 4 "is_line" ["stand", "parts"] (spIln CS)) (h_Itx : Has P w K mg base 3 "is_text" ["stand", "parts"] (spItx CS)) : Has P w K mg base 5 "is_added" ["stand", "number", "parts"] (spIad CS) := F.has fun F => by
  obtain ⟨f_Ico, fd_Ico, g_Ico, k_Ico, b_Ico, G_Ico⟩ := h_Ico
  obtain ⟨f_Iln, fd_Iln, g_Iln, k_Iln, b_Iln, G_Iln⟩ := h_Iln
  obtain ⟨f_Itx, fd_Itx, g_Itx, k_Itx, b_Itx, G_Itx⟩ := h_Itx
  refine F.ok sc_iad (fun vs H Q E h => ?_) (fun cdv A outer s H vs Q E hr h => ?_)
  · obtain ⟨s, p, i, M, ps, rfl, _⟩ := h
    rfl
  · obtain ⟨s, p, i, M, ps, rfl, hS, hp, tx, ne, q0, q1⟩ := h
    refine ⟨_, (pss_cons (ps_if (pt_cmpR op_eq (pv 1) pe_int (nomark _)) (pss_one (ps_ret (pe_call G_Ico (hr.mono (by decide)) (by rfl) g_Ico k_Ico b_Ico .nil pass0 (pa_cons (pv 0) (pa_cons (pv 2) pa_nil))))) pss_nil) (pss_cons (ps_if (pt_cmpR op_eq (pe_ix ix_list (pv 2) pe_int (fun _ _ => rfl)) pe_str (nomark _)) (pss_one (ps_ret (pe_call G_Iln (hr.mono (by decide)) (by rfl) g_Iln k_Iln b_Iln .nil pass0 (pa_cons (pv 0) (pa_cons (pv 2) pa_nil))))) pss_nil) (pss_one (ps_ret (pe_call G_Itx (hr.mono (by decide)) (by rfl) g_Itx k_Itx b_Itx .nil pass0 (pa_cons (pv 0) (pa_cons (pv 2) pa_nil))))))), ?_⟩
    walk_at "go"
    refine w_if2 (fun h0 => ?_) (fun h0 => ?_)
    · obtain ⟨qa, qb⟩ := q0 h0
      walk_at "go"
      refine ⟨s, p, M, ps, rfl, hS, hp, tx, ne, fun f e H' hS' f' => ?_, fun e H' s' => ?_⟩
      · walk_at "go"
        exact qa f e H' hS' f'
      · walk_at "go"
        exact qb e H' s'
    · obtain ⟨W, qa, qb⟩ := q1 h0
      cases ps with
      | nil => exact absurd rfl ne
      | cons a ps =>
        have hp' : H p = some (.lst (V.str a :: ps.map V.str)) := hp
        walk_at "go"
        refine w_ixL hp' (at0N _ _) ?_
        walk_at "go"
        refine w_if2 (fun h1 => ?_) (fun h1 => ?_)
        · walk_at "go"
          refine ⟨s, p, M, a, ps, rfl, hS, W, hp, fun x hx => tx x (List.mem_cons_of_mem _ hx), h1, fun f e H' hS' f' => ?_, fun e H' s' => ?_⟩
          · walk_at "go"
            exact qa f e H' hS' f'
          · walk_at "go"
            exact qb e H' s'
        · walk_at "go"
          refine ⟨s, p, M, a, ps, rfl, hS, W, hp, fun x hx => tx x (List.mem_cons_of_mem _ hx), h1, fun f e H' hS' f' => ?_, fun e H' s' => ?_⟩
          · walk_at "go"
            exact qa f e H' hS' f'
          · walk_at "go"
            exact qb e H' s'
end
end Sf
namespace Sf
open PySem PySem.Spec PyProof.Rows L2 TL
/-! ### what reading tells -/
def nl1 : Str := Str.ofString "\n"
def readRows (M : StM) : List Str → Option StM
  | [] => some M
  | r :: rs => (addRow M (Txt.split r sp1)).bind fun M' => readRows M' rs
def readTo : List Str → Option StM
  | [] => some emp
  | r :: rs => (comM (Txt.split r sp1)).bind fun f => readRows { emp with fol := f } rs
def rwsT (t : Str) : List Str := (Txt.split t nl1).dropLast
def rstT (t : Str) : Str := ((Txt.split t nl1).getLast?).getD (Str.ofString "")
theorem readRows_snoc : ∀ (rs : List Str) (M : StM) (r : Str), readRows M (rs ++ [r]) = (readRows M rs).bind fun M' => addRow M' (Txt.split r sp1)
  | [], M, r => by
    show (addRow M (Txt.split r sp1)).bind (fun M' => some M') = addRow M (Txt.split r sp1)
    cases addRow M (Txt.split r sp1) <;> rfl
  | x :: rs, M, r => by
    show (addRow M (Txt.split x sp1)).bind (fun M' => readRows M' (rs ++ [r])) = ((addRow M (Txt.split x sp1)).bind fun M' => readRows M' rs).bind _
    cases addRow M (Txt.split x sp1) with
    | none => rfl
    | some M' => exact readRows_snoc rs M' r
theorem readTo_one (r : Str) : readTo [r] = (comM (Txt.split r sp1)).map fun f => { emp with fol := f } := by
  show (comM (Txt.split r sp1)).bind (fun f => some { emp with fol := f }) = _
  cases comM (Txt.split r sp1) <;> rfl
theorem readTo_snoc {rs : List Str} (h : rs ≠ []) (r : Str) : readTo (rs ++ [r]) = (readTo rs).bind fun M => addRow M (Txt.split r sp1) := by
  cases rs with
  | nil => exact absurd rfl h
  | cons x rs =>
    show (comM (Txt.split x sp1)).bind (fun f => readRows { emp with fol := f } (rs ++ [r])) = ((comM (Txt.split x sp1)).bind fun f => readRows { emp with fol := f } rs).bind _
    cases comM (Txt.split x sp1) with
    | none => rfl
    | some f => exact readRows_snoc rs _ r
theorem com_ok {ps : List Str} {f : Nat} (h : comM ps = some f) : PgOk { emp with fol := f } := by
  have hf : 1 ≤ f ∧ f ≤ 999999999 := by
    unfold comM at h
    split at h
    · split at h
      · rename_i a n hh
        obtain ⟨_, h1, h2⟩ := hh
        have ok := isNum_ok h1
        have h3 := num_lt ok
        have h4 : ¬ numP0 n = 0 := fun z => h2 ((num_zero ok).mp z)
        have e := Option.some.inj h
        omega
      · cases h
    · cases h
  exact ⟨⟨List.nodup_nil, (fun l hl => by cases hl), Nat.zero_le _, hf.1, hf.2, List.nodup_nil, (fun l hl => by cases hl), Nat.zero_le _, List.nodup_nil, Nat.zero_le _⟩, .nil, .nil, (fun l hl => by cases hl), rfl⟩
theorem rows_ok : ∀ {rs : List Str} {M M' : StM}, PgOk M → readRows M rs = some M' → PgOk M' ∧ rowsM M' = rowsM M ++ rs
  | [], M, M', W, h => by
    have h : some M = some M' := h
    cases h
    exact ⟨W, (List.append_nil _).symm⟩
  | r :: rs, M, M', W, h => by
    have h : ((addRow M (Txt.split r sp1)).bind fun M' => readRows M' rs) = some M' := h
    cases e : addRow M (Txt.split r sp1) with
    | none => rw [e] at h; cases h
    | some M1 =>
      rw [e] at h
      obtain ⟨a, b⟩ := rows_ok (add_ok W e) h
      refine ⟨a, ?_⟩
      rw [b, (add_row e).1, List.append_assoc]
      rfl
theorem readTo_ok {rs : List Str} {M : StM} (ne : rs ≠ []) (h : readTo rs = some M) : PgOk M ∧ rowsM M = rs := by
  cases rs with
  | nil => exact absurd rfl ne
  | cons r rs =>
    have h : ((comM (Txt.split r sp1)).bind fun f => readRows { emp with fol := f } rs) = some M := h
    cases e : comM (Txt.split r sp1) with
    | none => rw [e] at h; cases h
    | some f =>
      rw [e] at h
      obtain ⟨a, b⟩ := rows_ok (com_ok e) h
      refine ⟨a, ?_⟩
      rw [b, com_row e]
      rfl
theorem joinL_mem {s : List Nat} : ∀ {ps : List (List Nat)} {p : List Nat}, p ∈ ps → ∃ u v, joinL s ps = u ++ p ++ v
  | [], _, h => by cases h
  | [q], p, h => by
    rw [List.mem_singleton.mp h]
    exact ⟨[], [], by simp [joinL]⟩
  | q :: r :: l, p, h => by
    rcases List.mem_cons.mp h with rfl | h
    · exact ⟨[], s ++ joinL s (r :: l), by
        show p ++ (s ++ joinL s (r :: l)) = _
        simp⟩
    · obtain ⟨u, v, e⟩ := joinL_mem (s := s) h
      exact ⟨q ++ s ++ u, v, by
        show q ++ (s ++ joinL s (r :: l)) = _
        rw [e]
        simp only [List.append_assoc]⟩
theorem piece_mem {a b x : Str} (h : x ∈ Txt.split a b) : x.length ≤ a.length ∧ ∀ c ∈ tl x, c ∈ tl a := by
  have e := congrArg tl (StrLaws.join_split a b)
  rw [tl_join] at e
  obtain ⟨u, v, e2⟩ := joinL_mem (s := tl b) (List.mem_map.mpr ⟨x, h, rfl⟩ : tl x ∈ (Txt.split a b).map tl)
  rw [e2] at e
  refine ⟨?_, fun c hc => ?_⟩
  · have := congrArg List.length e
    rw [List.length_append, List.length_append] at this
    rw [len_tl, len_tl]
    omega
  · rw [← e]
    exact List.mem_append_left _ (List.mem_append_right _ hc)
theorem split_ne (a b : Str) : Txt.split a b ≠ [] := fun z => by
  have := PyProof.Rows.split_pos a b
  rw [z] at this
  cases this
theorem split_parts (t : Str) : Txt.split t nl1 = rwsT t ++ [rstT t] := by
  unfold rwsT rstT
  rcases List.eq_nil_or_concat (Txt.split t nl1) with e | ⟨l, d, e⟩
  · exact absurd e (split_ne _ _)
  · rw [e, List.concat_eq_append, List.dropLast_concat, List.getLast?_concat]
    rfl
end Sf
namespace Sf
open PySem PySem.Spec PyProof.Rows L2 TL
section
variable {P : Program} {w : World} {K : PySem.W.Frag} {mg : Str → Option Value} {base : Heap} {C CS fS : Addr}
/-! ### a refusal with a field that is a number -/
def spExA (K : PySem.W.Frag) (z fl : Str) : Sp := fun vs H Q _ => ∃ (a C : Addr) (i : Int), vs = [.ref a, .int i] ∧ i.natAbs.log2 < 1920 ∧ OexC K C ∧ PySem.W.findIn K (.ref C) "word" = some none ∧ PySem.W.findIn K (.ref C) fl = some none ∧ H a = some (exo a C none) ∧
  ∀ (dx : Addr) (H' : Hp), H dx = none → dx ≠ a → H' a = some (exo a C (some dx)) → H' dx = some (exd dx [(fl, .int i), (("word" : Str), .str z)]) → (∀ b, b ≠ a → b ≠ dx → H' b = H b) → Q .non H'
def kMkA (C : Addr) (sp : Sp) (W : XK) : List V → Hp → Prop := fun vs H1 => vs.length ≤ 1000 ∧ ∀ a, H1 a = none → sp (.ref a :: (vs ++ [])) (upd H1 a (exo a C none))
  (fun v H2 => v = .non ∧ ∃ (d : Addr) (fs : List (Str × V)), H2 a = some (exo a C (some d)) ∧ H2 d = some (exd d fs) ∧ H1 d = none ∧ W (.ref C) (some d) (upd (del H2 a) d (.xd fs))) (fun _ _ _ => False)
theorem w_mkOA {H : Hp} {σ : L2.St} {W : XK} {sp : Sp} {ta : TA} (q : ta σ H (kMkA C sp W)) : tMkO C sp [] ta σ H W := q
theorem w_kMkA {H : Hp} {W : XK} {z fl nm : Str} {f : Addr} {i : Int} (T : EC K mg nm C f) (nf : PySem.W.findIn K (.ref C) fl = some none) (hi : i.natAbs.log2 < 1920)
    (k : ∀ (d : Addr) (H' : Hp), H d = none → H' d = some (.xd [(fl, .int i), (("word" : Str), .str z)]) → Same H H' → W (.ref C) (some d) H') : kMkA C (spExA K z fl) W [.int i] H := by
  refine ⟨by show 1 ≤ 1000; decide, fun a na => ⟨a, C, i, rfl, hi, T.ox, T.nw, nf, upd_same, fun dx H' n ne e1 e2 e3 => ⟨rfl, dx, _, e1, e2, ?_, k dx _ ?_ upd_same fun b o e => ?_⟩⟩⟩
  · rw [upd_ne ne] at n
    exact n
  · rw [upd_ne ne] at n
    exact n
  · rw [upd_ne ne] at n
    have h1 : b ≠ dx := ne_of_none e n
    have h2 : b ≠ a := ne_of_none e na
    rw [upd_ne h1, del_ne h2, e3 b h2 h1, upd_ne h2]
    exact e
end
end Sf
namespace Sf
open PySem PySem.Spec PyProof.Rows L2 TL
section
variable {K : PySem.W.Frag}
theorem w_eqNilD {H : Hp} {Q : VK} {p q : Addr} {ds : List PyData} {vs : List V} (h : H p = some (.lst vs)) (hd : DpAll K H vs ds) (hs : SeqAt.shaped (.list ds) = true) (hq : H q = some (.lst [])) (k : Q (.bl ds.isEmpty) H) : rEqD K (.ref p) (.ref q) H Q :=
  ⟨_, _, .lst (SqL.of h) hd, .lst (SqL.of hq) .nil, hs, by decide +kernel, by rw [eqv_nil]; exact k⟩
end
end Sf
namespace Sf
open PySem PySem.Spec PyProof.Rows L2 TL
/-! ### a, *b = a list -/
theorem star_list {prog : Program} {w : World} {A : Around} {E : Value → Shared → Prop} {s : Shared} {l : Addr} {its : Array Value} {n i : Nat} {Q : List Value → Shared → Prop} (ha : A.handled = none) (isl : s.heap.IsList l its) (lo : i < n) (up : n ≤ its.size + 1) (few : its.size ≤ 16384)
    (fin : ∀ (g : Heap) (tk : Nat), (∀ b o, s.heap.get? b = some o → g.get? b = some o) → Q (its.toList.take i ++ [Value.ref g.objs.size] ++ (its.toList.drop i).drop (its.size + 1 - n)) { s with heap := g.push { cls := .type "list", data := .seq ((its.toList.drop i).take (its.size + 1 - n)).toArray }, toks := tk }) :
    wpAny (model prog w) A (unpackItems (.ref l) n (some i)) Q E s := by
  obtain ⟨p0, e0, _⟩ := id isl
  have l0 := Heap.lt_size e0
  have nl : l ≠ s.heap.objs.size := Nat.ne_of_lt l0
  have dl : (its.toList.drop i).length = its.size - i := by rw [List.length_drop, Array.length_toList]
  unfold unpackItems notIterableAtAll
  refine wpAny_bind (wpAny_bind (wpAny_specialOf isl.typeIs slot_list_iter.lookup (wpAny_pure ?_)))
  rw [if_neg (by simp)]
  refine wpAny_bind (wpAny_holding (wpAny_pyIter_list isl (wpAny_bind (wpAny_holding (PySem.W.kun_draw nl i 0 _ _ ⟨_, Heap.get?_push_size _ rfl, rfl, rfl⟩ (isl.push _) (by omega) fun g1 it1 sb1 => ?_)))))
  have isl1 : g1.IsList l its := (isl.push _).extBut sb1.extBut nl
  rw [Nat.zero_add] at it1
  obtain ⟨oi, ei, _⟩ := id it1
  obtain ⟨ol, el, _⟩ := id isl1
  rw [List.drop_zero]
  have tk : ¬ (its.toList.take i).length < i := by rw [List.length_take, Array.length_toList]; omega
  rw [if_neg tk]
  refine wpAny_bind (wpAny_holding (PySem.W.kun_collect (s := { s with heap := g1 }) (T := "list_iterator") (.inr (.inr (.inl rfl))) (Walks.list (A := A.in1) ha s.heap.objs.size l nl its) (fun j u z => z.1.typeIs) (k := i) (by omega) ⟨it1, isl1⟩ (Heap.lt_size ei) (Heap.lt_size el) (fun g2 tk2 kp => ?_) (by rw [sizeLine_eq]; omega)))
  show wpAny _ _ (if (its.toList.drop i).length < n - 1 - i then _ else _) _ _ _
  rw [if_neg (show ¬ (its.toList.drop i).length < n - 1 - i by rw [dl]; omega)]
  have em : (its.toList.drop i).length - (n - 1 - i) = its.size + 1 - n := by rw [dl]; omega
  show wpAny _ _ (newList ((its.toList.drop i).take ((its.toList.drop i).length - (n - 1 - i))) >>= fun d => pure (its.toList.take i ++ [d] ++ (its.toList.drop i).drop ((its.toList.drop i).length - (n - 1 - i)))) _ _ _
  rw [em]
  refine wpAny_bind (wpAny_newList (wpAny_pure (fin g2 tk2 fun b o e => ?_)) (by rw [List.length_take, dl, sizeLine_eq]; omega))
  have nb : b ≠ s.heap.objs.size := Nat.ne_of_lt (Heap.lt_size e)
  exact kp b o nb (sb1.extBut b o nb (Heap.get?_push_of_some _ e))
theorem vals_take : ∀ {xs : List V} {us : List Value} (n : Nat), Vals xs us → Vals (xs.take n) (us.take n)
  | _, _, 0, _ => .nil
  | [], _, _ + 1, r => by cases r; exact .nil
  | _ :: _, _, n + 1, r => by
    cases r with
    | cons h t => exact .cons h (vals_take n t)
theorem vals_drop : ∀ {xs : List V} {us : List Value} (n : Nat), Vals xs us → Vals (xs.drop n) (us.drop n)
  | _, _, 0, r => r
  | [], _, _ + 1, r => by cases r; exact .nil
  | _ :: _, _, n + 1, r => by
    cases r with
    | cons h t => exact vals_drop n t
def gStar (K : PySem.W.Frag) (n i : Nat) (t : TGs) : TG := fun v σ H Q => ∃ (a : Addr) (xs : List V), v = .ref a ∧ SqL K H a xs ∧ n ≤ xs.length + 1 ∧ xs.length ≤ 16384 ∧ ∀ m : Addr, H m = none → t (xs.take i ++ [V.ref m] ++ (xs.drop i).drop (xs.length + 1 - n)) σ (upd H m (.lst ((xs.drop i).take (xs.length + 1 - n)))) Q
theorem pg_star {X : Cx} {es : List Expr} {k n i : Nat} {t : TGs} {pos : Pos} (hc : X.calm = true) (h : PGs X es t) (hn : (assignEach es X.env).length = n := by rfl) (hst : (assignEach es X.env).findIdx? (·.1) = some i := by rfl) (lo : i < n := by decide) : PG X (.Tuple es k pos) (gStar X.K n i t) := by
  refine ⟨fun pins s σ H v u Q I r hw => ?_⟩
  obtain ⟨a, xs, rfl, hq, up, few, hw⟩ := hw
  cases r
  obtain ⟨its, rv, pl, hz⟩ := I.list hq
  have el : its.length = xs.length := rv.length.symm
  rw [PyProof.Rows.assign_Tuple]
  refine wpAny_bind (wpAny_standAt ?_)
  unfold unpack
  rw [hn, hst]
  refine wpAny_bind (wpAny_holding (star_list (its := its.toArray) (I.ok.hd hc) pl.isList lo (by simp; omega) (by simp; omega) fun g tk kp => ?_))
  have I1 : Inv X pins σ H { s with heap := g, toks := tk } := I.kept kp
  have nH : H g.objs.size = none := I1.hok.fresh (Nat.le_refl _)
  have tl1 : Vals ((xs.drop i).take (xs.length + 1 - n)) ((its.drop i).take (xs.length + 1 - n)) := vals_take _ (vals_drop _ rv)
  have I2 : Inv X pins σ (upd H g.objs.size (.lst ((xs.drop i).take (xs.length + 1 - n)))) { s with heap := g.push { cls := .type "list", data := .seq ((its.drop i).take (xs.length + 1 - n)).toArray }, toks := tk } :=
    I1.laid (t' := tk) (fun b u e => Heap.get?_push_of_some _ e) (Nat.le_refl _) ⟨by rw [List.length_take, List.length_drop, sizeLine_eq]; omega, _, 0, tl1, Heap.get?_push_size _ rfl⟩
  have rv2 : Vals (xs.take i ++ [V.ref g.objs.size] ++ (xs.drop i).drop (xs.length + 1 - n)) (its.take i ++ [Value.ref g.objs.size] ++ (its.drop i).drop (xs.length + 1 - n)) := ((vals_take _ rv).append (show Vals [V.ref g.objs.size] [Value.ref g.objs.size] from .cons rfl .nil)).append (vals_drop _ (vals_drop _ rv))
  have := h.run pins _ σ _ _ _ Q I2 rv2 (hw g.objs.size nH)
  simpa [el] using this
end Sf
namespace Sf
open PySem PySem.Spec PyProof.Rows L2 TL
theorem pgs_star {X : Cx} {e : Expr} {es : List Expr} {t : TG} {u : TGs} {pos : Pos} (h1 : PG X e t) (h2 : PGs X es u)
    (hs : (assignEach (.Starred e pos :: es) X.env).map (·.2) = assign e X.env :: (assignEach es X.env).map (·.2) := by rfl) : PGs X (.Starred e pos :: es) (gCons t u) := by
  refine ⟨fun pins s σ H vs us Q I r h => ?_⟩
  obtain ⟨v, vr, e1, h⟩ := h
  subst e1
  cases r with
  | cons r rr =>
    rw [hs]
    refine assignInOrder_cons (thn (h1.run pins s σ H _ _ _ I r h) fun _ s1 ⟨σ1, H1, I1, q1⟩ => ?_)
    exact h2.run pins s1 σ1 H1 _ _ Q I1 rr q1
theorem strOk_c {x : Str} (h : ∀ c ∈ tl x, c < 1114112) : PyData.canLay0 (.str x) = true := by
  rw [PyData.canLay0]
  unfold PyData.strOk
  rw [Array.all_eq_true']
  intro c hc
  exact decide_eq_true (h c (Array.mem_def.mp hc))
def rSplW : V → List V → Hp → VK → Prop := fun x xs H Q => ∃ a b, x = .str a ∧ xs = [.str b] ∧ (b.length == 0) = false ∧ a.length + 2 ≤ sizeLine ∧ rNewStrs (Txt.split a b) H Q
theorem mt_splitW {X : Cx} : MtR X "str.split" rSplW := mt_split
theorem w_splW {a b : Str} {H : Hp} {Q : VK} (hb : (b.length == 0) = false) (ha : a.length + 2 ≤ sizeLine) (k : ∀ p H1, H1 p = some (.lst ((Txt.split a b).map V.str)) → Nw p H H1 → Q (.ref p) H1) : rSplW (.str a) [.str b] H Q := ⟨a, b, rfl, rfl, hb, ha, fun _ n => k _ _ upd_same (.mk' n)⟩
section
variable {P : Program} {w : World} {K : PySem.W.Frag} {mg : Str → Option Value} {base : Heap} {CH CS CB fB : Addr} {fdB : FuncData}
theorem sc_bpg : FnScope ["self", "row"] ["self", "row"] (defScope s_BadPage___init__) := ⟨rfl, rfl, rfl, by decide +kernel, rfl, by decide +kernel, by decide +kernel⟩
theorem ok_bpg {f CS fS : Addr} {fd fdS : FuncData} (F : Fun K "__init__" "BadPage.__init__" s_BadPage___init__ f fd) (S : SE K mg CS fS) (FS : FunD K "__init__" "SpoorError.__init__" s_SpoorError___init__ fS fdS) (bS : Binds K fdS ["self", "word", "message"] []) : FnOk P w K mg base CX0 2 f fd ["self", "row"] (spExA K (Str.ofString "badpage") "row") := by
  refine F.ok sc_bpg (fun vs H Q E h => ?_) (fun cdv A outer s H vs Q E hr h => ?_)
  · obtain ⟨a, C, i, rfl, _⟩ := h
    rfl
  · obtain ⟨a, C, i, rfl, hi, ox, nw, nf, ha, q⟩ := h
    have GS : FnOk P w K mg base CX0 1 fS fdS ["self", "word", "message"] (spSE K) := ok_se FS S
    refine ⟨_, pss_cons (ps_expr (pe_clsFn (pe_glob (v := .ref CS) (by rfl) S.gC rfl) S.rd S.ga S.at_ GS hr FS.kp bS pass0 (pa_cons (pv 0) (pa_cons pe_str (pa_cons (pe_joined (.cons pe_str (.cons (pe_fmt (pv 1)) (.cons pe_str .nil)))) pa_nil))))) (pss_one (ps_ost (pv 0) (pv 1))), ?_⟩
    have l1 : (toString i : Str).length ≤ 1921 := int_text_len_1921 hi
    refine ⟨rfl, _, rfl, ?_⟩
    refine ⟨_, rfl, by decide +kernel, _, rfl, .inr ⟨i, rfl, hi, _, rfl, ?_, _, rfl, ?_, ?_⟩⟩
    · rw [len_app, len_app]
      have : (Str.empty.length + (Str.ofString "row ").length) = 4 := by decide +kernel
      exact line_of (by omega)
    · rw [len_app, len_app, len_app]
      have : (Str.empty.length + (Str.ofString "row ").length) = 4 := by decide +kernel
      have : (Str.ofString " of the page is wrong").length = 21 := by decide +kernel
      exact line_of (by omega)
    · refine ⟨a, C, _, _, rfl, ox, nw, ha, fun dx n ne => ?_⟩
      refine ⟨_, rfl, _, rfl, a, C, rfl, ox, nf, .inr ⟨dx, [(("word" : Str), .str (Str.ofString "badpage"))], upd_same, by rw [upd_ne ne, upd_same], by show 1 ≤ 900; decide, ?_⟩⟩
      refine q dx _ n ne (by rw [upd_ne ne.symm, upd_same]) upd_same fun b h1 h2 => ?_
      rw [upd_ne h2, upd_ne h1, upd_ne h2]
/-- a page that is read -/
def spRpg (P : Program) (w : World) (CH CS CB : Addr) : Sp := fun vs H Q E => ∃ (t : Str), vs = [.str t] ∧ t.length ≤ 12000 ∧ (∀ c ∈ tl t, c < 1114112) ∧
  (∀ i, i < (rwsT t).length → (∃ M, readTo ((rwsT t).take i) = some M) → readTo ((rwsT t).take (i + 1)) = none → XE1 (Str.ofString "badpage") "row" (.int (i : Nat)) CB H E) ∧
  ((∃ M, readTo (rwsT t) = some M) → (rwsT t = [] ∨ ¬ rstT t = Str.ofString "") → XE1 (Str.ofString "badpage") "row" (.int ((rwsT t).length : Nat)) CB H E) ∧
  (∀ M, readTo (rwsT t) = some M → ¬ rwsT t = [] → rstT t = Str.ofString "" → ∀ (h : Addr) (A : HA) (H' : Hp), H h = none → HallAt P w CH CS H' h A M 0 → Same H H' → Q (.ref h) H')
theorem sc_rpg : FnScope ["text", "rows", "rest", "stand", "number", "row"] ["text"] (defScope s_read_page) := ⟨rfl, rfl, rfl, by decide +kernel, rfl, by decide +kernel, by decide +kernel⟩
theorem has_rpg (F : FnAt K mg "read_page" s_read_page ["text"]) (B : Blt mg) (Be : mg "enumerate" = none) (T_Stand : SDC K mg CS) (mkS : PySem.W.makesIn K CS = true) (kcS : PySem.W.keepIn K (.ref CS) = true) (h_SdI : HasM P w K mg base CS 1 "__init__" ["self"] (spSdI CS)) (h_Iad : Has P w K mg base 5 "is_added" ["stand", "number", "parts"] (spIad CS)) (h_Hof : Has P w K mg base 5 "hall_of" ["stand"] (spHof P w CH CS))
    (T_BadPage : EC K mg "BadPage" CB fB) (nR : PySem.W.findIn K (.ref CB) "row" = some none) (G_BadPage : FnOk P w K mg base CX0 2 fB fdB ["self", "row"] (spExA K (Str.ofString "badpage") "row")) (b_BadPage : Binds K fdB ["self", "row"] []) : HasX P w K mg base 6 "read_page" ["text"] (spRpg P w CH CS CB) := by
  obtain ⟨f_Iad, fd_Iad, g_Iad, k_Iad, b_Iad, G_Iad⟩ := h_Iad
  obtain ⟨f_Hof, fd_Hof, g_Hof, k_Hof, b_Hof, G_Hof⟩ := h_Hof
  obtain ⟨f_SdI, fd_SdI, m_SdI, b_SdI, G_SdI⟩ := h_SdI
  have M_SdI : Mk K CS f_SdI := ⟨mkS, m_SdI.at_, m_SdI.fn, kcS⟩
  have g_Stand := T_Stand.mgC
  obtain ⟨f, fd, g, F, bb⟩ := F
  refine ⟨f, fd, g, F.kp, bb, ?_⟩
  refine F.okX sc_rpg (fun vs H Q E h => ?_) (fun cdv A outer s H vs Q E hr h => ?_)
  · obtain ⟨t, rfl, _⟩ := h
    rfl
  · obtain ⟨t, rfl, tl1, tc, q1, q2, q3⟩ := h
    refine ⟨_, (pss_cons (ps_asg (pe_m1 PySem.F.slot_str_split PySem.F.type_str_split mt_splitW (pv 0) pe_str) (pg_star (n := 2) (i := 0) rfl (pgs_star (pg_name (i := 1) sc_rpg.nd rfl (.inl rfl)) (pgs_cons (pg_name (i := 2) sc_rpg.nd rfl (.inl rfl)) pgs_nil)))) (pss_cons (ps_set (i := 3) sc_rpg.nd rfl (.inl rfl) (pe_make0 M_SdI G_SdI (hr.mono (by decide)) (by rfl) g_Stand b_SdI .nil pass0)) (pss_cons (ps_for (passes_of rfl) rfl (pi_enum (by rfl) Be (pa_cons (pv 1) pa_nil)) (pg_tup rfl (pgs_cons (pg_name (i := 4) sc_rpg.nd rfl (.inl rfl)) (pgs_cons (pg_name (i := 5) sc_rpg.nd rfl (.inl rfl)) pgs_nil))) (pss_one (ps_if (pt_not (pt_val (pe_call G_Iad (hr.mono (by decide)) (by rfl) g_Iad k_Iad b_Iad .nil pass0 (pa_cons (pv 3) (pa_cons (pv 4) (pa_cons (pe_m1 PySem.F.slot_str_split PySem.F.type_str_split mt_splitW (pv 5) pe_str) pa_nil)))))) (pss_one (ps_raise rfl (takes_of rfl rfl rfl rfl) (pmk_oex T_BadPage.ox T_BadPage.iC T_BadPage.tI G_BadPage (hr.mono (by decide)) b_BadPage .nil pass0 (by rfl) T_BadPage.gC (pa_cons (pv 4) pa_nil)))) pss_nil))) (pss_cons (ps_if (PW.pt (pw_or (pt_cmpR (op_eqD hr.units) (pv 1) (pe_lst pa_nil) (nomark _)) (pw_or1 (pt_cmpR op_ne (pv 2) pe_str (nomark _))))) (pss_one (ps_raise rfl (takes_of rfl rfl rfl rfl) (pmk_oex T_BadPage.ox T_BadPage.iC T_BadPage.tI G_BadPage (hr.mono (by decide)) b_BadPage .nil pass0 (by rfl) T_BadPage.gC (pa_cons (pe_callB call_lenQ (by rfl) B.len PySem.boot_len (pa_cons (pv 1) pa_nil)) pa_nil)))) pss_nil) (pss_one (ps_ret (pe_call G_Hof (hr.mono (by decide)) (by rfl) g_Hof k_Hof b_Hof .nil pass0 (pa_cons (pv 3) pa_nil)))))))), ?_⟩
    have sl := PyProof.Rows.split_le t nl1
    have sp := split_parts t
    have slen : (Txt.split t nl1).length = (rwsT t).length + 1 := by rw [sp, List.length_append]; rfl
    have pc : ∀ x ∈ rwsT t, x.length ≤ 12000 ∧ ∀ c ∈ tl x, c < 1114112 := fun x hx => by
      have hm : x ∈ Txt.split t nl1 := by rw [sp]; exact List.mem_append_left _ hx
      obtain ⟨a, b⟩ := piece_mem hm
      exact ⟨Nat.le_trans a tl1, fun c hc => tc c (b c hc)⟩
    walk_at "go"
    refine w_splW (by decide +kernel) (line_of (by omega)) (fun p0 H1 hp0 np0 => ?_)
    walk_at "go"
    have hp0 : H1 p0 = some (.lst ((rwsT t ++ [rstT t]).map V.str)) := by rw [← sp]; exact hp0
    refine ⟨p0, _, rfl, SqL.of hp0, by rw [List.length_map, List.length_append]; show 2 ≤ _ + 1 + 1; omega, by rw [List.length_map, List.length_append]; show _ + 1 ≤ 16384; omega, fun m nm => ?_⟩
    have em : (((rwsT t ++ [rstT t]).map V.str).drop 0).take (((rwsT t ++ [rstT t]).map V.str).length + 1 - 2) = (rwsT t).map V.str := by
      rw [List.drop_zero, List.map_append, List.length_append]
      exact List.take_left' (by rw [List.length_map]; show _ = _ + 1 + 1 - 2; omega)
    have ed : (((rwsT t ++ [rstT t]).map V.str).drop 0).drop (((rwsT t ++ [rstT t]).map V.str).length + 1 - 2) = [V.str (rstT t)] := by
      rw [List.drop_zero, List.map_append, List.length_append]
      exact List.drop_left' (by rw [List.length_map]; show _ = _ + 1 + 1 - 2; omega)
    rw [em, ed]
    have hm2 : (upd H1 m (.lst ((rwsT t).map V.str))) m = some (.lst ((rwsT t).map V.str)) := upd_same
    have nm2 : Nw m H1 (upd H1 m (.lst ((rwsT t).map V.str))) := .mk' nm
    generalize upd H1 m (.lst ((rwsT t).map V.str)) = H2 at hm2 nm2 ⊢
    have s02 : Same H H2 := np0.same.trans nm2.same
    rw [List.take_zero, List.nil_append, show [V.ref m] ++ [V.str (rstT t)] = [V.ref m, V.str (rstT t)] from rfl]
    walk_at "go"
    refine w_mkStand (fun st dx pp tt qq H3 nst hst hd3 s3 => ?_)
    have hS3 : StAt CS H3 st emp := ⟨dx, pp, tt, qq, hst, hd3⟩
    have nstH : H st = none := s02.free nst
    have hm3 := s3.at hm2
    have stm : st ≠ m := ne_of_none hm2 nst |>.symm
    have bodyF : ∀ {H4 H5 : Hp}, Same H H4 → H4 st = H4 st → Fx st H4 H5 → Same H H5 := fun s4 _ f => fun b o e => f b o (s4 b o e) (ne_of_none e nstH)
    walk_at "go"
    refine w_enum (fun i σ H4 => ∃ (y4 y5 : Option V) (M : StM), σ = [some (.str t), some (.ref m), some (.str (rstT t)), some (.ref st), y4, y5] ∧ readTo ((rwsT t).take i) = some M ∧ (i ≠ 0 → PgOk M) ∧ StAt CS H4 st M ∧ H4 m = some (.lst ((rwsT t).map V.str)) ∧ Same H H4) ⟨none, none, emp, rfl, rfl, (fun z => absurd rfl z), hS3, hm3, s02.trans s3⟩ (fun i σ H4 _ ⟨_, _, _, _, _, _, _, h, _⟩ => h) ?_ ?_
    · rintro i x tp σ H4 H5 hx ⟨y4, y5, M, rfl, hR, hW, hS4, hm4, s4⟩ htp ntp
      obtain ⟨r, hr1, rfl⟩ : ∃ r, (rwsT t)[i]? = some r ∧ V.str r = x := by
        rw [List.getElem?_map] at hx
        cases e : (rwsT t)[i]? with
        | none => rw [e] at hx; cases hx
        | some y => rw [e] at hx; exact ⟨y, rfl, Option.some.inj hx⟩
      have hil : i < (rwsT t).length := (List.getElem?_eq_some_iff.mp hr1).1
      obtain ⟨rl, rc⟩ := pc r (List.mem_of_getElem? hr1)
      have tk : (rwsT t).take (i + 1) = (rwsT t).take i ++ [r] := take_snoc hr1
      walk_at "go"
      refine w_splW (by decide +kernel) (line_of (by omega)) (fun p H6 hp np => ?_)
      have s46 : Same H4 H6 := ntp.same.trans np.same
      have hS6 := hS4.same s46
      have s06 : Same H H6 := s4.trans s46
      have tx : TxsL (Txt.split r sp1) := fun x hx => Nat.le_trans (piece_mem hx).1 (Nat.le_trans rl (by decide))
      have bad : ∀ {H7 : Hp}, Same H6 H7 → readTo ((rwsT t).take (i + 1)) = none → kMkA CB (spExA K (Str.ofString "badpage") "row") (fun cls d H' => E cls d H') [.int (i : Nat)] H7 := fun {H7} s67 e => by
        refine w_kMkA T_BadPage nR (log_small (by omega) (by omega)) (fun d H' nd hd s' => ?_)
        have s07 := s06.trans s67
        exact q1 i hil ⟨M, hR⟩ e d H' (s07.free nd) hd (s07.trans s')
      walk_at "go"
      refine ⟨st, p, i, M, Txt.split r sp1, rfl, hS6, hp, tx, split_ne _ _, fun h0 => ⟨fun f e H7 hS7 f7 => ?_, fun e H7 s7 => ?_⟩, fun h0 => ⟨hW (by omega), fun M' e H7 hS7 f7 => ?_, fun e H7 s7 => ?_⟩⟩
      · walk_at "go"
        have i0 : i = 0 := by omega
        subst i0
        have eM : emp = M := Option.some.inj hR
        rw [← eM] at hS7
        refine ⟨_, _, _, rfl, by rw [tk]; show readTo [r] = _; rw [readTo_one, e]; rfl, fun _ => com_ok e, hS7, f7 _ _ (s46.at hm4) stm.symm, fun b o e => f7 b o (s06 b o e) (ne_of_none e nstH)⟩
      · walk_at "go"
        have i0 : i = 0 := by omega
        subst i0
        refine w_mkOA ?_
        walk_at "go"
        exact bad s7 (by rw [tk]; show readTo [r] = _; rw [readTo_one, e]; rfl)
      · walk_at "go"
        have ne : (rwsT t).take i ≠ [] := fun z => by
          have := congrArg List.length z
          rw [List.length_take] at this
          have : min i (rwsT t).length = 0 := this
          omega
        refine ⟨_, _, M', rfl, by rw [tk, readTo_snoc ne, hR]; exact e, fun _ => add_ok (hW (by omega)) e, hS7, f7 _ _ (s46.at hm4) stm.symm, fun b o e => f7 b o (s06 b o e) (ne_of_none e nstH)⟩
      · walk_at "go"
        have ne : (rwsT t).take i ≠ [] := fun z => by
          have := congrArg List.length z
          rw [List.length_take] at this
          have : min i (rwsT t).length = 0 := this
          omega
        refine w_mkOA ?_
        walk_at "go"
        exact bad s7 (by rw [tk, readTo_snoc ne, hR]; exact e)
    · rintro σ H4 ⟨y4, y5, M, rfl, hR, hW, hS4, hm4, s4⟩
      rw [List.length_map, List.take_length] at hR
      walk_at "go"
      refine w_newL (by walk_at "sz") (fun p9 H5 hp9 np9 => ?_)
      refine w_eqNilD (np9.at hm4) (dpS _) (shaped_list (fun x hx => strOk_c (pc x hx).2) (fun x _ => by rw [PyData.depth]; omega)) hp9 ?_
      rw [List.isEmpty_map]
      have s05 : Same H H5 := s4.trans np9.same
      have bad : (rwsT t = [] ∨ ¬ rstT t = Str.ofString "") → kMkA CB (spExA K (Str.ofString "badpage") "row") (fun cls d H' => E cls d H') [.int ((rwsT t).length : Nat)] H5 := fun e => by
        refine w_kMkA T_BadPage nR (log_small (by omega) (by omega)) (fun d H' nd hd s' => ?_)
        exact q2 ⟨M, hR⟩ e d H' (s05.free nd) hd (s05.trans s')
      have hm5 := np9.at hm4
      cases hc : (rwsT t).isEmpty with
      | true =>
        walk_at "go"
        refine w_mkOA ?_
        walk_at "go"
        rw [List.length_map]
        exact bad (.inl (List.isEmpty_iff.mp hc))
      | false =>
        have ne : ¬ rwsT t = [] := fun z => by rw [z] at hc; cases hc
        walk_at "go"
        refine w_ifN2 (fun h => ?_) (fun h => ?_)
        · walk_at "go"
          refine w_mkOA ?_
          walk_at "go"
          rw [List.length_map]
          exact bad (.inr h)
        · walk_at "go"
          have W := hW (by
            have : 0 < (rwsT t).length := by
              cases e : rwsT t with
              | nil => exact absurd e ne
              | cons a b => exact Nat.succ_pos _
            rw [List.length_map]
            omega)
          refine ⟨st, M, rfl, hS4.same np9.same, W.ok, fun h6 A H6 nh hH6 nw6 s6 => ?_⟩
          walk_at "go"
          exact q3 M hR ne h h6 _ H6 (s05.free nh) hH6 (s05.trans s6)
end
end Sf
namespace Sf
open PySem PySem.Spec PyProof.Rows L2 TL
section
variable {X : Cx} {σ : L2.St} {H : Hp} {Q : VK} {K : PySem.W.Frag}
/-! ### xs += ys -/
theorem ip_ext : PIp X .Add rExt2 := iop_ext
theorem w_ext {l b : Addr} {xs zs : List V} (h1 : H l = some (.lst xs)) (h2 : H b = some (.lst zs)) (hl : xs.length + zs.length ≤ sizeLine) (q : ∀ H1, H1 l = some (.lst (xs ++ zs)) → Of l H H1 → Q (.ref l) H1) : rExt2 (.ref l) (.ref b) H Q := ⟨l, b, xs, zs, rfl, rfl, h1, h2, hl, q _ upd_same .mk'⟩
end
end Sf
namespace Sf
open PySem PySem.Spec PyProof.Rows L2 TL
/-! ### the page of a hall -/
def lineR (e : Int × Clm) : Str := lineT e.1.toNat (shT e.2.1) (shT e.2.2)
def textR (e : Str × Str) : Str := textT e.1 (shT e.2)
def rowsF (f : Nat) (ls : List (Int × Clm)) (ws : List (Str × Str)) : List Str := comT f :: ls.map lineR ++ ws.map textR
def pageT (f : Nat) (ls : List (Int × Clm)) (ws : List (Str × Str)) : Str := Txt.join (Str.ofString "") ((rowsF f ls ws).map fun r => r ++ nl1)
theorem len_shT (x : Str) : (shT x).length ≤ x.length + 1 := by
  unfold shT
  split
  · rw [show (Str.ofString "-").length = 1 from by decide +kernel]
    omega
  · omega
theorem len_toS {n : Nat} (h : n ≤ 999999999) : (toS n).length ≤ 9 := by
  unfold toS
  rw [len_tl, tl_num]
  exact numL_len (by decide) (by omega)
theorem mem_sortT {e : Str × Str} {l : List (Str × Str)} : e ∈ sortT l ↔ e ∈ l := by
  unfold sortT
  exact List.mem_mergeSort
theorem len_sortT (l : List (Str × Str)) : (sortT l).length = l.length := by
  unfold sortT
  exact List.length_mergeSort l
theorem rows_len {M : StM} (ok : StOk M) : ∀ r ∈ rowsF M.fol M.prs (sortT M.txs), r.length ≤ 80 := fun r hr => by
  have c1 : (Str.ofString "coming ").length = 7 := by decide +kernel
  have c2 : (Str.ofString "like ").length = 5 := by decide +kernel
  have c3 : (Str.ofString "word ").length = 5 := by decide +kernel
  have c4 : sp1.length = 1 := by decide +kernel
  have f2 := ok.f2
  rcases List.mem_append.mp hr with h | h
  · rcases List.mem_cons.mp h with rfl | h
    · have := len_toS f2
      unfold comT
      rw [len_app]
      omega
    · obtain ⟨e, he, rfl⟩ := List.mem_map.mp h
      have pe := ok.pr e he
      have := len_toS (n := e.1.toNat) (by omega)
      have := len_shT e.2.1
      have := len_shT e.2.2
      unfold lineR lineT
      rw [len_app, len_app, len_app, len_app, len_app]
      omega
  · obtain ⟨e, he, rfl⟩ := List.mem_map.mp h
    have pe := ok.tx e (mem_sortT.mp he)
    have := (isW_both pe.1).2
    have := len_shT e.2
    unfold textR textT
    rw [len_app, len_app, len_app]
    omega
theorem rows_many {M : StM} (ok : StOk M) : (rowsF M.fol M.prs (sortT M.txs)).length ≤ 33 := by
  unfold rowsF
  rw [List.length_append, List.length_cons, List.length_map, List.length_map, len_sortT]
  have := ok.pl
  have := ok.tl
  omega
theorem sum_le {l : List Nat} {k : Nat} (h : ∀ x ∈ l, x ≤ k) : l.sum ≤ l.length * k := by
  induction l with
  | nil => exact Nat.zero_le _
  | cons x l ih =>
    have := h x List.mem_cons_self
    have := ih fun y hy => h y (List.mem_cons_of_mem _ hy)
    rw [List.sum_cons, List.length_cons, Nat.add_mul]
    omega
theorem page_sum {M : StM} (ok : StOk M) : (((rowsF M.fol M.prs (sortT M.txs)).map fun r => r ++ nl1).map (·.length)).sum ≤ 2673 := by
  have h1 := sum_le (l := ((rowsF M.fol M.prs (sortT M.txs)).map fun r => r ++ nl1).map (·.length)) (k := 81) (fun x hx => by
    obtain ⟨y, hy, rfl⟩ := List.mem_map.mp hx
    obtain ⟨r, hr, rfl⟩ := List.mem_map.mp hy
    have := rows_len ok r hr
    rw [len_app, show nl1.length = 1 from by decide +kernel]
    omega)
  rw [List.length_map, List.length_map] at h1
  have := rows_many ok
  omega
section
variable {P : Program} {w : World} {K : PySem.W.Frag} {mg : Str → Option Value} {base : Heap} {CH CS : Addr}
def spPge (P : Program) (w : World) (CH CS : Addr) : Sp := fun vs H Q _ => ∃ (h : Addr) (A : HA) (M : StM) (N : Nat), vs = [.ref h] ∧ HallAt P w CH CS H h A M N ∧ ∀ H', Same H H' → Q (.str (pageT M.fol M.prs (sortT M.txs))) H'
theorem sc_pge : FnScope ["hall", "rows", "number", "left", "right", "name", "word", "row"] ["hall"] (defScope s_page) := ⟨rfl, rfl, rfl, by decide +kernel, rfl, by decide +kernel, by decide +kernel⟩
theorem has_pge (F : FnAt K mg "page" s_page ["hall"]) (T_Hall : HLC K mg CH) (h_Hco : HasM P w K mg base CH 1 "coming" ["self"] (spHco P w CH CS)) (h_Hli : HasM P w K mg base CH 1 "lines" ["self"] (spHli P w CH CS)) (h_Hwo : HasM P w K mg base CH 1 "words" ["self"] (spHwo P w CH CS)) (h_Shn : Has P w K mg base 1 "shown" ["word"] spShn) : Has P w K mg base 3 "page" ["hall"] (spPge P w CH CS) := F.has fun F => by
  obtain ⟨f_Shn, fd_Shn, g_Shn, k_Shn, b_Shn, G_Shn⟩ := h_Shn
  obtain ⟨f_Hco, fd_Hco, m_Hco, b_Hco, G_Hco⟩ := h_Hco
  obtain ⟨f_Hli, fd_Hli, m_Hli, b_Hli, G_Hli⟩ := h_Hli
  obtain ⟨f_Hwo, fd_Hwo, m_Hwo, b_Hwo, G_Hwo⟩ := h_Hwo
  refine F.ok sc_pge (fun vs H Q E h => ?_) (fun cdv A outer s H vs Q E hr h => ?_)
  · obtain ⟨h, A, M, N, rfl, _⟩ := h
    rfl
  · obtain ⟨h, C, M, N, rfl, hH, q⟩ := h
    refine ⟨_, (pss_cons (ps_set (i := 1) sc_pge.nd rfl (.inl rfl) (pe_lst (pa_cons (pe_joined (.cons pe_str (.cons (pe_fmt (pe_meth0 (pv 0) T_Hall.cl m_Hco G_Hco (hr.mono (by decide)) b_Hco .nil pass0)) .nil))) pa_nil))) (pss_cons (ps_aug (i := 1) sc_pge.nd rfl (.inl rfl) (pe_lc (own := [("number", 2), ("left", 3), ("right", 4)]) (g := gTup K 3 (gCons (gName 2) (gCons (gName 3) (gCons (gName 4) gNil)))) (tt := tYes) (by rfl) sc_pge.nd (pi_list (pe_meth0 (pv 0) T_Hall.cl m_Hli G_Hli (hr.mono (by decide)) b_Hli .nil pass0)) (blkOk_by (own := [("number", 2), ("left", 3), ("right", 4)]) (N := ["hall", "rows", "number", "left", "right", "name", "word", "row"]) (sc := defScope s_page) (by decide +kernel)) (fun _ _ _ _ _ => pg_tup rfl (pgs_cons (pg_name (i := 2) sc_pge.nd rfl (.inl rfl)) (pgs_cons (pg_name (i := 3) sc_pge.nd rfl (.inl rfl)) (pgs_cons (pg_name (i := 4) sc_pge.nd rfl (.inl rfl)) pgs_nil)))) (fun _ _ _ _ _ => pts_nil) (fun _ _ _ _ _ => (pe_joined (.cons pe_str (.cons (pe_fmt (pv 2)) (.cons pe_str (.cons (pe_fmt (pe_call G_Shn (hr.mono (by decide)) (by rfl) g_Shn k_Shn b_Shn .nil pass0 (pa_cons (pv 3) pa_nil))) (.cons pe_str (.cons (pe_fmt (pe_call G_Shn (hr.mono (by decide)) (by rfl) g_Shn k_Shn b_Shn .nil pass0 (pa_cons (pv 4) pa_nil))) .nil))))))))) ip_ext) (pss_cons (ps_aug (i := 1) sc_pge.nd rfl (.inl rfl) (pe_lc (own := [("name", 5), ("word", 6)]) (g := gTup K 2 (gCons (gName 5) (gCons (gName 6) gNil))) (tt := tYes) (by rfl) sc_pge.nd (pi_list (pe_meth0 (pv 0) T_Hall.cl m_Hwo G_Hwo (hr.mono (by decide)) b_Hwo .nil pass0)) (blkOk_by (own := [("name", 5), ("word", 6)]) (N := ["hall", "rows", "number", "left", "right", "name", "word", "row"]) (sc := defScope s_page) (by decide +kernel)) (fun _ _ _ _ _ => pg_tup rfl (pgs_cons (pg_name (i := 5) sc_pge.nd rfl (.inl rfl)) (pgs_cons (pg_name (i := 6) sc_pge.nd rfl (.inl rfl)) pgs_nil))) (fun _ _ _ _ _ => pts_nil) (fun _ _ _ _ _ => (pe_joined (.cons pe_str (.cons (pe_fmt (pv 5)) (.cons pe_str (.cons (pe_fmt (pe_call G_Shn (hr.mono (by decide)) (by rfl) g_Shn k_Shn b_Shn .nil pass0 (pa_cons (pv 6) pa_nil))) .nil))))))) ip_ext) (pss_one (ps_ret (pe_m1 PySem.F.slot_str_join PySem.F.type_str_join mt_joinN pe_str (pe_lc (own := [("row", 7)]) (g := gName 7) (tt := tYes) (by rfl) sc_pge.nd (pi_list (pv 1)) (blkOk_by (own := [("row", 7)]) (N := ["hall", "rows", "number", "left", "right", "name", "word", "row"]) (sc := defScope s_page) (by decide +kernel)) (fun _ _ _ _ _ => pg_name (i := 7) sc_pge.nd rfl (.inl rfl)) (fun _ _ _ _ _ => pts_nil) (fun _ _ _ _ _ => (pe_op op_addS (pv 7) pe_str))))))))), ?_⟩
    obtain ⟨dx, hh⟩ := hH.ob
    have pl := hH.ok.pl
    have tl := hH.ok.tl
    have l1 : (Str.ofString "coming ").length = 7 := by decide +kernel
    have l0 : Str.empty ++ Str.ofString "coming " = Str.ofString "coming " := by decide +kernel
    have prk := hH.ok.pr
    have f2 := hH.ok.f2
    have tx := hH.ok.tx
    have e0 : ∀ x : Str, Str.empty ++ x = x := fun x => by
      refine ext_tl ?_
      rw [tl_append]
      rfl
    have lg : ∀ {i : Int}, 0 ≤ i → i ≤ 999999999 → i.natAbs.log2 < 1920 := fun a b => log_bigH (by omega)
    have ls0 : (Str.ofString " ").length = 1 := by decide +kernel
    have ln0 : (Str.ofString "\n").length = 1 := by decide +kernel
    have lk : (Str.ofString "like ").length = 5 := by decide +kernel
    have lw : (Str.ofString "word ").length = 5 := by decide +kernel
    have tf := toStrL (i := (M.fol : Int)) (lg (by omega) (by omega))
    walk_at "go"
    refine w_js ?_
    walk_at "go"
    refine w_kJs (by rw [l0]; decide +kernel) ?_
    rw [l0]
    refine w_js (w_fmt ?_)
    walk_at "go"
    refine w_kMeth hh (hk_no (by decide +kernel) (by decide +kernel) (by decide +kernel) (by decide +kernel) (by decide +kernel)) ?_
    walk_at "go"
    refine ⟨h, C, M, N, rfl, hH, ?_⟩
    refine w_kFmtI (lg (by omega) (by omega)) (w_kJs (line_of (by rw [len_app]; omega)) (w_jsN ?_))
    walk_at "go"
    refine w_newL (by walk_at "sz") (fun p H1 hp np => ?_)
    have hp : H1 p = some (.lst (([comT M.fol] : List Str).map V.str)) := hp
    have hh1 := np.at hh
    walk_at "go"
    refine w_kMeth hh1 (hk_no (by decide +kernel) (by decide +kernel) (by decide +kernel) (by decide +kernel) (by decide +kernel)) ?_
    walk_at "go"
    refine ⟨h, C, M, N, rfl, hH.same np.same, fun r us H2 nr s2 hr2 hU => ?_⟩
    have hml : us.length = M.prs.length := Paired.length hU
    walk_at "go"
    refine w_lcL (xs := us) (fun r3 i H3 => Same H2 H3 ∧ H2 r3 = none ∧ H3 r3 = some (.lst (((M.prs.take i).map lineR).map V.str))) (fun r3 H3 h3 n3 => ⟨n3.same, n3.nn, h3⟩) (fun r3 i H3 _ h => h.1.at hr2) ?_ ?_
    · rintro r3 i v H3 hv ⟨s3, nr3, hr3⟩
      obtain ⟨e, he, t3, rfl, ht3⟩ := paired_get hU hv
      have hil : i < us.length := (List.getElem?_eq_some_iff.mp hv).1
      have ht4 := s3.at ht3
      have pe := prk e (List.mem_of_getElem? he)
      have b1 := toStrL (i := e.1) (lg (by omega) (by omega))
      have b2 := len_shT e.2.1
      have b3 := len_shT e.2.2
      walk_at "go"
      refine w_js ?_
      walk_at "go"
      refine w_kJs (by rw [e0]; decide +kernel) ?_
      rw [e0]
      refine w_js (w_fmt ?_)
      walk_at "go"
      refine w_kFmtI (lg (by omega) (by omega)) (w_kJs (line_of (by rw [len_app]; omega)) ?_)
      refine w_js ?_
      walk_at "go"
      refine w_kJs (line_of (by rw [len_app, len_app]; omega)) ?_
      refine w_js (w_fmt ?_)
      walk_at "go"
      refine ⟨_, rfl, ?_⟩
      refine .inl ⟨_, rfl, line_of (by omega), ?_⟩
      refine w_kJs (line_of (by rw [len_app, len_app, len_app]; omega)) ?_
      refine w_js ?_
      walk_at "go"
      refine w_kJs (line_of (by rw [len_app, len_app, len_app, len_app]; omega)) ?_
      refine w_js (w_fmt ?_)
      walk_at "go"
      refine ⟨_, rfl, ?_⟩
      refine .inl ⟨_, rfl, line_of (by omega), ?_⟩
      refine w_kJs (line_of (by rw [len_app, len_app, len_app, len_app, len_app]; omega)) (w_jsN ?_)
      walk_at "go"
      refine w_kIt hr3 (by rw [List.length_map, List.length_map, List.length_take]; exact lineLt_of (by omega)) (fun H4 h4 o4 => ⟨s3.off o4 nr3, nr3, ?_⟩)
      rw [h4, take_snoc he, List.map_append, List.map_append]
      have ee : e.1 = ((e.1.toNat : Nat) : Int) := by omega
      show _ = some (HO.lst (_ ++ [V.str (lineT e.1.toNat (shT e.2.1) (shT e.2.2))]))
      unfold lineT toS
      rw [← ee]
      rfl
    · rintro r3 H3 ⟨s3, nr3, hr3⟩
      rw [hml, List.take_length] at hr3
      refine w_ext (s3.at (s2.at hp)) hr3 (by rw [List.length_map, List.length_map, List.length_map]; exact line_of (by show 1 + _ ≤ _; omega)) (fun H4 h4 o4 => ?_)
      have s04 : Same H H4 := ((np.same.trans s2).trans s3).off o4 np.nn
      have h4 : H4 p = some (.lst ((comT M.fol :: M.prs.map lineR).map V.str)) := by rw [h4, ← List.map_append]; rfl
      have tl2 := len_sortT M.txs
      walk_at "go"
      refine w_kMeth (s04.at hh) (hk_no (by decide +kernel) (by decide +kernel) (by decide +kernel) (by decide +kernel) (by decide +kernel)) ?_
      walk_at "go"
      refine ⟨h, C, M, N, rfl, hH.same s04, fun r5 us5 H5 nr5 s5 hr5 hU5 => ?_⟩
      have hml5 : us5.length = (sortT M.txs).length := Paired.length hU5
      walk_at "go"
      refine w_lcL (xs := us5) (fun r6 i H6 => Same H5 H6 ∧ H5 r6 = none ∧ H6 r6 = some (.lst ((((sortT M.txs).take i).map textR).map V.str))) (fun r3 H3 h3 n3 => ⟨n3.same, n3.nn, h3⟩) (fun r3 i H3 _ h => h.1.at hr5) ?_ ?_
      · rintro r6 i v H6 hv ⟨s6, nr6, hr6⟩
        obtain ⟨e, he, t6, rfl, ht6⟩ := paired_get hU5 hv
        have hil : i < us5.length := (List.getElem?_eq_some_iff.mp hv).1
        have ht7 := s6.at ht6
        have te := tx e (mem_sortT.mp (List.mem_of_getElem? he))
        have b1 := (isW_both te.1).2
        have b2 := len_shT e.2
        walk_at "go"
        refine w_js ?_
        walk_at "go"
        refine w_kJs (by rw [e0]; decide +kernel) ?_
        rw [e0]
        refine w_js (w_fmt ?_)
        walk_at "go"
        refine .inl ⟨_, rfl, line_of (by omega), ?_⟩
        refine w_kJs (line_of (by rw [len_app]; omega)) ?_
        refine w_js ?_
        walk_at "go"
        refine w_kJs (line_of (by rw [len_app, len_app]; omega)) ?_
        refine w_js (w_fmt ?_)
        walk_at "go"
        refine ⟨_, rfl, ?_⟩
        refine .inl ⟨_, rfl, line_of (by omega), ?_⟩
        refine w_kJs (line_of (by rw [len_app, len_app, len_app]; omega)) (w_jsN ?_)
        walk_at "go"
        refine w_kIt hr6 (by rw [List.length_map, List.length_map, List.length_take]; exact lineLt_of (by omega)) (fun H7 h7 o7 => ⟨s6.off o7 nr6, nr6, ?_⟩)
        rw [h7, take_snoc he, List.map_append, List.map_append]
        rfl
      · rintro r6 H6 ⟨s6, nr6, hr6⟩
        rw [hml5, List.take_length] at hr6
        have s46 := s5.trans s6
        refine w_ext (s46.at h4) hr6 (by rw [List.length_map, List.length_map, List.length_map, List.length_cons, List.length_map]; exact line_of (by omega)) (fun H7 h7 o7 => ?_)
        have s07 : Same H H7 := (s04.trans s46).off o7 np.nn
        have h7 : H7 p = some (.lst ((rowsF M.fol M.prs (sortT M.txs)).map V.str)) := by rw [h7, ← List.map_append]; rfl
        have rl := rows_len hH.ok
        have rm := rows_many hH.ok
        walk_at "go"
        refine w_lcL (xs := (rowsF M.fol M.prs (sortT M.txs)).map V.str) (fun r8 i H8 => Same H7 H8 ∧ H7 r8 = none ∧ H8 r8 = some (.lst ((((rowsF M.fol M.prs (sortT M.txs)).take i).map fun r => r ++ nl1).map V.str))) (fun r3 H3 h3 n3 => ⟨n3.same, n3.nn, h3⟩) (fun r3 i H3 _ h => h.1.at h7) ?_ ?_
        · rintro r8 i v H8 hv ⟨s8, nr8, hr8⟩
          obtain ⟨y, hy, rfl⟩ : ∃ y, (rowsF M.fol M.prs (sortT M.txs))[i]? = some y ∧ V.str y = v := by
            rw [List.getElem?_map] at hv
            cases e : (rowsF M.fol M.prs (sortT M.txs))[i]? with
            | none => rw [e] at hv; cases hv
            | some y => rw [e] at hv; exact ⟨y, rfl, Option.some.inj hv⟩
          have hil : i < (rowsF M.fol M.prs (sortT M.txs)).length := (List.getElem?_eq_some_iff.mp hy).1
          have yl := rl y (List.mem_of_getElem? hy)
          walk_at "go"
          refine w_addS (line_of (by omega)) ?_
          walk_at "go"
          refine w_kIt hr8 (by rw [List.length_map, List.length_map, List.length_take]; exact lineLt_of (by omega)) (fun H9 h9 o9 => ⟨s8.off o9 nr8, nr8, ?_⟩)
          rw [h9, take_snoc hy, List.map_append, List.map_append]
          rfl
        · rintro r8 H8 ⟨s8, nr8, hr8⟩
          rw [List.length_map, List.take_length] at hr8
          walk_at "go"
          refine w_join hr8 (by rw [show (Str.ofString "").length = 0 from by decide +kernel]; have := page_sum hH.ok; omega) ?_
          exact q H8 (s07.trans s8)
end
end Sf
namespace Sf
open PySem PySem.Spec PyProof.Rows L2 TL
/-! ### the page of what was read is the text -/
theorem rise_of : ∀ {l : List Str} {p : Str}, (p :: l).Pairwise (fun a b => tl a < tl b) → risingS p l = true
  | [], _, _ => rfl
  | y :: l, p, h => by
    cases h with
    | cons h1 h2 =>
      show (!ltCps y.cps.toList p.cps.toList && risingS y l) = true
      rw [Bool.and_eq_true]
      refine ⟨?_, rise_of h2⟩
      have h3 : tl p < tl y := h1 y List.mem_cons_self
      rw [ltCps_lt]
      have : ¬ (tl y < tl p) := List.lt_asymm h3
      have e : decide (y.cps.toList < p.cps.toList) = false := decide_eq_false this
      rw [e]
      rfl
theorem sorted_of {l : List Str} (h : l.Pairwise (fun a b => tl a < tl b)) : sortedS l = true := by
  cases l with
  | nil => rfl
  | cons x r => exact rise_of h
theorem perm_keys {α β : Type} : ∀ {a b : List (α × β)}, a.Perm b → (b.map (·.1)).Nodup → a.map (·.1) = b.map (·.1) → a = b
  | [], [], _, _, _ => rfl
  | [], _ :: _, _, _, h => by cases h
  | _ :: _, [], _, _, h => by cases h
  | x :: a, y :: b, p, nd, h => by
    rw [List.map_cons, List.map_cons, List.cons.injEq] at h
    rw [List.map_cons, List.nodup_cons] at nd
    have e : x = y := by
      rcases List.mem_cons.mp (p.mem_iff.mp List.mem_cons_self) with e | e
      · exact e
      · exact absurd (List.mem_map.mpr ⟨x, e, h.1⟩) nd.1
    subst e
    rw [perm_keys ((List.perm_cons x).mp p) nd.2 h.2]
theorem sort_same {M : StM} (W : PgOk M) : sortT M.txs = M.txs := by
  have hp : (M.txs.map (·.1)).Pairwise (fun a b => tl a < tl b) := List.pairwise_map.mpr W.rt
  exact perm_keys (sortT_perm _) W.ok.tn (sortT_names W.ok.tn (List.Perm.refl _) (sorted_of hp))
theorem joinL_nl {s : List Nat} : ∀ ps : List (List Nat), joinL s (ps ++ [[]]) = (ps.map fun p => p ++ s).flatten
  | [] => rfl
  | [p] => by
    show p ++ (s ++ []) = (p ++ s) ++ []
    simp
  | p :: q :: r => by
    have e : joinL s ((p :: q :: r) ++ [[]]) = p ++ (s ++ joinL s ((q :: r) ++ [[]])) := rfl
    rw [e, joinL_nl (q :: r)]
    simp [List.append_assoc]
theorem page_read {t : Str} {M : StM} (h : readTo (rwsT t) = some M) (ne : ¬ rwsT t = []) (hr : rstT t = Str.ofString "") : pageT M.fol M.prs (sortT M.txs) = t := by
  obtain ⟨W, er⟩ := readTo_ok ne h
  rw [sort_same W]
  refine ext_tl ?_
  have e1 := congrArg tl (StrLaws.join_split t nl1)
  rw [split_parts, hr, tl_join, List.map_append] at e1
  have e2 : ([Str.ofString ""].map tl) = [[]] := by
    show [tl (Str.ofString "")] = _
    rw [tl_empty]
  rw [e2, joinL_nl] at e1
  rw [← e1]
  unfold pageT
  rw [join_tl]
  show tl (mkS _) = _
  rw [tl_mkS]
  have e3 : rowsF M.fol M.prs M.txs = rwsT t := er
  rw [e3, List.map_map, List.map_map]
  congr 1
  refine List.map_congr_left fun r _ => ?_
  show tl (r ++ nl1) = tl r ++ tl nl1
  exact tl_append _ _
end Sf
namespace Sf
open PySem PySem.Spec PyProof.Rows L2 TL
section
variable {P : Program} {w : World} {K : PySem.W.Frag} {mg : Str → Option Value} {base : Heap}
/-! ### a light deed -/
def spLld : Sp := fun vs H Q _ => ∃ (b l d ln wd pp : Addr) (us : List V) (M : StM) (ps : List (Str × V)), vs = [.ref b, .ref d] ∧ Bag H b l ∧ ln ≠ b ∧ H d = some (.dK (lsK ln wd pp M.fol)) ∧ H ln = some (.lst us) ∧ Paired (LnT H) us M.prs ∧ H wd = some (.dK (txK M.txs)) ∧ H pp = some (.dK (ppK ps)) ∧
  us.length ≤ 12 ∧ M.txs.length ≤ 20 ∧ ps.length ≤ 12 ∧ M.fol ≤ 1000000000 ∧ (M.txs.map (·.1)).Nodup ∧ (ps.map (·.1)).Nodup ∧ (∀ e ∈ M.txs, isN e.1 = true) ∧ (∀ e ∈ M.txs, isW e.2 = true) ∧ (∀ e ∈ ps, NmS e.1) ∧ (∀ e ∈ M.prs, e.1.natAbs ≤ 10000000000) ∧
  ∀ (t : Addr) (z : Str) (as : List V) (H' : Hp), H' t = some (.tup (.str z :: as)) → DeR z as → ¬ z = Str.ofString "shelve" → Bag H' b l → Fx b H H' → Q (.ref t) H'
theorem sc_lld : FnScope ["_law_bag", "_law_state", "_law_deed_here"] ["_law_bag", "_law_state"] (defScope s__law_light_deed) := ⟨rfl, rfl, rfl, by decide +kernel, rfl, by decide +kernel, by decide +kernel⟩
theorem has_lld (F : FnAt K mg "_law_light_deed" s__law_light_deed ["_law_bag", "_law_state"]) (h_Pu : HasPull P w K mg base) (h_Wo : HasWord P w K mg base) (h_Lde : Has P w K mg base 4 "_law_deed" ["_law_bag", "_law_state"] spLde) : Has P w K mg base 5 "_law_light_deed" ["_law_bag", "_law_state"] spLld := F.has fun F => by
  obtain ⟨f_Pu, fd_Pu, g_Pu, k_Pu, b_Pu, G_Pu⟩ := h_Pu
  obtain ⟨f_Wo, fd_Wo, g_Wo, k_Wo, b_Wo, G_Wo⟩ := h_Wo
  obtain ⟨f_Lde, fd_Lde, g_Lde, k_Lde, b_Lde, G_Lde⟩ := h_Lde
  refine F.ok sc_lld (fun vs H Q E h => ?_) (fun cdv A outer s H vs Q E hr h => ?_)
  · obtain ⟨b, l, d, ln, wd, pp, us, M, ps, rfl, _⟩ := h
    rfl
  · obtain ⟨b, l, d, ln, wd, pp, us, M, ps, rfl, hB, nb, hd, hln, hP, hwd, hpp, ul, tl, pl, fo, ndT, ndP, nmT, wdT, nmP, nmN, q⟩ := h
    refine ⟨_, (pss_cons (ps_set (i := 2) sc_lld.nd rfl (.inl rfl) (pe_call G_Lde (hr.mono (by decide)) (by rfl) g_Lde k_Lde b_Lde .nil pass0 (pa_cons (pv 0) (pa_cons (pv 1) pa_nil)))) (pss_one (ps_ret (pe_ifExp (pt_cmpR op_eq (pe_ix ix_tup (pv 2) pe_int (fun _ _ => rfl)) pe_str (nomark _)) (pe_tup (pa_cons pe_str (pa_cons (pe_ix ix_list (pe_lst (pa_cons pe_str (pa_cons pe_str (pa_cons pe_str pa_nil)))) (pe_call G_Pu (hr.mono (by decide)) (by rfl) g_Pu k_Pu b_Pu .nil pass0 (pa_cons (pv 0) (pa_cons pe_int pa_nil))) (fun _ _ => rfl)) (pa_cons (pe_call G_Wo (hr.mono (by decide)) (by rfl) g_Wo k_Wo b_Wo .nil pass0 (pa_cons (pv 0) (pa_cons pe_int (pa_cons pe_int pa_nil)))) pa_nil)))) (pv 2))))), ?_⟩
    walk_at "go"
    refine ⟨b, l, d, ln, wd, pp, us, M, ps, rfl, hB, nb, hd, hln, hP, hwd, hpp, ul, tl, pl, fo, ndT, ndP, nmT, wdT, nmP, nmN, fun t z as H1 ht hD B1 f1 => ?_⟩
    walk_at "go"
    refine w_ixT ht (at0D _ _) ?_
    walk_at "go"
    refine w_ifE2 (fun h => ?_) (fun h => ?_)
    · walk_at "go"
      refine w_newL (by walk_at "sz") (fun p H2 hp np => ?_)
      walk_at "go"
      refine ⟨b, l, 3, rfl, B1.nw np, by decide, by decide, fun e H3 e0 e1 B3 f3 => ?_⟩
      have hp3 := f3.at (B1.ne np.nn) hp
      obtain ⟨x, hx, nx⟩ : ∃ x, atI [V.str (Str.ofString "a"), V.str (Str.ofString "zz"), V.str (Str.ofString "hall")] e = some (V.str x) ∧ NmS x := by
        have : e = 0 ∨ e = 1 ∨ e = 2 := by omega
        rcases this with h | h | h <;> rw [h]
        · exact ⟨_, rfl, by decide +kernel, by decide +kernel⟩
        · exact ⟨_, rfl, by decide +kernel, by decide +kernel⟩
        · exact ⟨_, rfl, by decide +kernel, by decide +kernel⟩
      refine w_ixL hp3 hx ?_
      walk_at "go"
      refine ⟨b, l, 3, 2, rfl, B3, by decide, by decide, by decide, by decide, fun y H4 _ ly B4 f4 => ?_⟩
      walk_at "go"
      refine w_newT (by walk_at "sz") (fun t2 H5 ht2 nt2 => ?_)
      walk_at "go"
      exact q t2 _ _ H5 ht2 (.put x y nx (Nat.le_trans ly (by decide))) (by decide +kernel) (B4.nw nt2) ((((f1.same np.same).trans f3).trans f4).same nt2.same)
    · walk_at "go"
      exact q t z as H1 ht hD h B1 f1
/-! ### the law's own reading of numbers and words -/
def spLno : Sp := fun vs H Q _ => ∃ x : Str, vs = [.str x] ∧ x.length ≤ 100000 ∧ ∀ H', Same H H' → Q (if isNum x = true then .int (numP0 x : Nat) else .non) H'
theorem sc_lno : FnScope ["_law_text", "_law_sign_here"] ["_law_text"] (defScope s__law_number_of) := ⟨rfl, rfl, rfl, by decide +kernel, rfl, by decide +kernel, by decide +kernel⟩
theorem has_lno (F : FnAt K mg "_law_number_of" s__law_number_of ["_law_text"]) (B : Blt mg) (Nint : mg "int" = none) : Has P w K mg base 1 "_law_number_of" ["_law_text"] spLno := F.has fun F => by
  refine F.ok sc_lno (fun vs H Q E h => ?_) (fun cdv A outer s H vs Q E hr h => ?_)
  · obtain ⟨x, rfl, _⟩ := h
    rfl
  · obtain ⟨x, rfl, hx, q⟩ := h
    refine ⟨_, (pss_cons (ps_if (PW.pt (pw_or (pt_not (pt_chain op_le op_le pe_int (pe_callB call_lenS (by rfl) B.len PySem.boot_len (pa_cons (pv 0) pa_nil)) pe_int)) (pw_or1 (pt_not (pt_val (pe_callB (cr_all rfl) (by rfl) B.all (by decide +kernel) (pa_cons (pe_lc (own := [("_law_sign_here", 1)]) (g := gName 1) (tt := tYes) (by rfl) sc_lno.nd (pi_str (pv 0)) (blkOk_by (own := [("_law_sign_here", 1)]) (N := ["_law_text", "_law_sign_here"]) (sc := defScope s__law_number_of) (by decide +kernel)) (fun _ _ _ _ _ => pg_name (i := 1) sc_lno.nd rfl (.inl rfl)) (fun _ _ _ _ _ => pts_nil) (fun _ _ _ _ _ => (pe_cmpR op_inSg (pv 1) pe_str rfl))) pa_nil))))))) (pss_one (ps_ret pe_non)) pss_nil) (pss_one (ps_ret (pe_ifExp (PW.pt (pw_and (pt_cmpR op_eq (pe_ix ix_str (pv 0) pe_int (fun _ _ => rfl)) pe_str (nomark _)) (pw_and1 (pt_cmpR op_ne (pv 0) pe_str (nomark _))))) pe_non (pe_callTy call_intS (by rfl) Nint (by decide +kernel) (pa_cons (pv 0) pa_nil)))))), ?_⟩
    have xl : (tl x).length = x.length := (len_tl x).symm
    have e2 : decide (((x.length : Nat) : Int) ≤ 9) = decide (x.length ≤ 9) := decide_eq_decide.mpr (by omega)
    have en : isNum x = (decide (1 ≤ x.length) && decide (x.length ≤ 9) && (tl x).all dig && (decide (x = Str.ofString "0") || !decide ((tl x).head? = some 48))) := rfl
    walk_at "go"
    refine w_lenS (line_of (by omega)) ?_
    walk_at "go"
    refine w_chain2 (fun h1 => ?_) (fun h1 => ?_)
    · have h1x : decide (1 ≤ x.length) = true := decide_eq_true (by omega)
      rw [h1x] at en
      walk_at "go"
      rw [e2]
      cases h2 : decide (x.length ≤ 9) with
      | false =>
        rw [h2] at en
        walk_at "go"
        rw [show isNum x = false from en, if_neg (fun z => nomatch z)] at q
        exact q H (.refl _)
      | true =>
        rw [h2] at en
        rw [show (!true) = false from rfl]
        walk_at "go"
        refine w_lcS (fun r i H1 => Same H H1 ∧ H r = none ∧ H1 r = some (.lst (((tl x).take i).map fun c => V.bl (dig c)))) (fun r H1 h1 n1 => ⟨n1.same, n1.nn, h1⟩) ?_ ?_
        · rintro r i c H1 hc ⟨s1, rn, r1⟩
          have hil : i < (tl x).length := (List.getElem?_eq_some_iff.mp hc).1
          walk_at "go"
          rw [show decide (c ∈ (Str.ofString "0123456789").cps.toList) = dig c from dec_dig]
          refine w_kIt r1 (by rw [List.length_map, List.length_take]; exact lineLt_of (by omega)) (fun H2 h2 o2 => ⟨s1.off o2 rn, rn, ?_⟩)
          rw [h2, take_snoc hc, List.map_append]
          rfl
        · rintro r H1 ⟨s1, rn, r1⟩
          rw [List.take_length] at r1
          walk_at "go"
          have r2 : H1 r = some (.lst (((tl x).map dig).map V.bl)) := by rw [r1, List.map_map]; rfl
          refine w_all r2 ?_
          have e3 : ((tl x).map dig).all id = (tl x).all dig := by rw [List.all_map]; rfl
          rw [e3]
          cases e4 : (tl x).all dig with
          | false =>
            rw [e4] at en
            walk_at "go"
            rw [show isNum x = false from en, if_neg (fun z => nomatch z)] at q
            exact q H1 s1
          | true =>
            rw [e4] at en
            simp only [Bool.and_self, Bool.true_and] at en
            have hne : tl x ≠ [] := fun z => by
              rw [z] at xl
              have := of_decide_eq_true h1x
              rw [← xl] at this
              cases this
            obtain ⟨c, l, hc⟩ : ∃ c l, tl x = c :: l := by
              cases e5 : tl x with
              | nil => exact absurd e5 hne
              | cons c l => exact ⟨c, l, rfl⟩
            walk_at "go"
            refine w_ixS (line_of (by omega)) (show atI x.cps.toList 0 = some c by show atI (tl x) 0 = _; rw [hc]; exact at0N c l) ?_
            walk_at "go"
            have e6 : (decide (one c = Str.ofString "0")) = decide ((tl x).head? = some 48) := by
              rw [hc]
              refine decide_eq_decide.mpr ⟨fun z => ?_, fun z => ?_⟩
              · have : tl (one c) = tl (Str.ofString "0") := by rw [z]
                have e7 : tl (Str.ofString "0") = [48] := by decide +kernel
                rw [e7] at this
                have : [c] = [48] := this
                injection this with z _
                rw [z]
                rfl
              · have : c = 48 := by injection z
                rw [this]
                decide +kernel
            rw [e6]
            refine w_and2 (fun h4 => ?_) (fun h4 => ?_)
            · walk_at "go"
              refine w_ifEN2 (fun h5 => ?_) (fun h5 => ?_)
              · walk_at "go"
                rw [decide_eq_false h5, decide_eq_true h4] at en
                rw [show isNum x = false from en, if_neg (fun z => nomatch z)] at q
                exact q H1 s1
              · rw [decide_eq_true h5, Bool.true_or] at en
                rw [if_pos en] at q
                have ok := isNum_ok en
                walk_at "go"
                exact w_intS (num_int ok) (Nat.le_trans ok.l9 (by decide)) (q H1 s1)
            · rw [decide_eq_false h4, Bool.not_false, Bool.or_true] at en
              rw [if_pos en] at q
              have ok := isNum_ok en
              walk_at "go"
              exact w_intS (num_int ok) (Nat.le_trans ok.l9 (by decide)) (q H1 s1)
    · walk_at "go"
      rw [show isNum x = false by rw [en, decide_eq_false (show ¬ 1 ≤ x.length by omega)]; rfl, if_neg (fun z => nomatch z)] at q
      exact q H (.refl _)
def spLwo : Sp := fun vs H Q _ => ∃ x : Str, vs = [.str x] ∧ x.length ≤ 100000 ∧ ∀ H', Same H H' → Q (if isWr x = true then .str (meT x) else .non) H'
theorem sc_lwo : FnScope ["_law_text"] ["_law_text"] (defScope s__law_word_of) := ⟨rfl, rfl, rfl, by decide +kernel, rfl, by decide +kernel, by decide +kernel⟩
theorem has_lwo (F : FnAt K mg "_law_word_of" s__law_word_of ["_law_text"]) (h_Lgw : Has P w K mg base 1 "_law_good_word" ["_law_text"] spIsw) : Has P w K mg base 2 "_law_word_of" ["_law_text"] spLwo := F.has fun F => by
  obtain ⟨f_Lgw, fd_Lgw, g_Lgw, k_Lgw, b_Lgw, G_Lgw⟩ := h_Lgw
  refine F.ok sc_lwo (fun vs H Q E h => ?_) (fun cdv A outer s H vs Q E hr h => ?_)
  · obtain ⟨x, rfl, _⟩ := h
    rfl
  · obtain ⟨x, rfl, hx, q⟩ := h
    refine ⟨_, (pss_cons (ps_if (pt_cmpR op_eq (pv 0) pe_str (nomark _)) (pss_one (ps_ret pe_str)) pss_nil) (pss_one (ps_ret (pe_ifExp (PW.pt (pw_and (pt_cmpR op_ne (pv 0) pe_str (nomark _)) (pw_and1 (pt_val (pe_call G_Lgw (hr.mono (by decide)) (by rfl) g_Lgw k_Lgw b_Lgw .nil pass0 (pa_cons (pv 0) pa_nil)))))) (pv 0) pe_non)))), ?_⟩
    walk_at "go"
    refine w_if2 (fun h => ?_) (fun h => ?_)
    · walk_at "go"
      have e1 : isWr x = true := by rw [h]; decide +kernel
      have e2 : meT x = Str.ofString "" := if_pos h
      rw [if_pos e1, e2] at q
      exact q H (.refl _)
    · have e2 : meT x = x := if_neg h
      have e1 : isWr x = (!decide (x = Str.ofString "") && isW x) := by unfold isWr; rw [e2]
      rw [e1, e2] at q
      walk_at "go"
      refine w_andN2 (fun h0 => ?_) (fun h0 => ?_)
      · rw [decide_eq_false h0, Bool.not_false, Bool.true_and] at q
        walk_at "go"
        refine ⟨x, rfl, hx, fun H1 s1 => ?_⟩
        have q := q H1 s1
        cases hw : isW x with
        | false =>
          rw [hw, if_neg (fun z => nomatch z)] at q
          walk_at "go"
          exact q
        | true =>
          rw [hw, if_pos rfl] at q
          walk_at "go"
          exact q
      · rw [decide_eq_true h0, Bool.not_true, Bool.false_and, if_neg (fun z => nomatch z)] at q
        walk_at "go"
        exact q H (.refl _)
end
end Sf
namespace Sf
open PySem PySem.Spec PyProof.Rows L2 TL
/-! ### a row in the law's state -/
def dLn (l : Int × Clm) : PyData := .tuple [.int l.1, .str l.2.1, .str l.2.2]
theorem lay_ln {l : Int × Clm} (h1 : Wd l.2.1) (h2 : Wd l.2.2) : PyData.canLay0 (dLn l) = true := by
  unfold dLn
  have a1 := strOk_wd h1
  have a2 := strOk_wd h2
  rw [PyData.canLay0, PyData.canLayAll0, PyData.canLayAll0, a1, PyData.canLayAll0, a2, PyData.canLayAll0]
  rfl
theorem dp_lns {K : PySem.W.Frag} {H : Hp} {us : List V} {ls : List (Int × Clm)} (h : Paired (LnT H) us ls) : DpAll K H us (ls.map dLn) := by
  induction h with
  | nil => exact .nil
  | cons r _ ih =>
    obtain ⟨t, rfl, ht⟩ := r
    exact .cons (.tup (SqT.of ht) (.cons (.int _) (.cons (.str _) (.cons (.str _) .nil)))) ih
theorem at_lastL {us : List V} {cs : List (Int × Clm)} {H : Hp} (h : Paired (LnT H) us cs) (ne : cs ≠ []) : ∃ t l r, atI us (-1) = some (.ref t) ∧ H t = some (.tup [.int (lastN cs), .str l, .str r]) := by
  rcases List.eq_nil_or_concat cs with rfl | ⟨r, d, rfl⟩
  · exact absurd rfl ne
  · rw [List.concat_eq_append] at h ⊢
    have e : us.length = (r ++ [d]).length := Paired.length h
    rcases List.eq_nil_or_concat us with rfl | ⟨vs, v, rfl⟩
    · simp at e
    · rw [List.concat_eq_append] at h e ⊢
      have hv : (vs ++ [v])[vs.length]? = some v := by simp
      obtain ⟨d', hd, t, rfl, ht⟩ := paired_get h hv
      have e2 : vs.length = r.length := by simpa using e
      rw [e2] at hd
      have : d' = d := by simpa using hd.symm
      subst this
      refine ⟨t, d'.2.1, d'.2.2, atI_last _ _, ?_⟩
      unfold lastN
      rw [List.getLast?_concat]
      exact ht
theorem lsX_same {H H' : Hp} {d ln wd pp : Addr} {us : List V} {M : StM} (L : LsX H d ln wd pp us M) (s : Same H H') : LsX H' d ln wd pp us M := ⟨s.at L.o, s.at L.l, Paired.mono (fun _ _ ⟨t, e, h⟩ => ⟨t, e, s.at h⟩) L.ls, s.at L.w, s.at L.p⟩
theorem w_meetR {σ : L2.St} {H : Hp} {Q : VK} {ta tb : TE} {b : Bool} (R : V → Hp → Prop) (k : ∀ v H', R v H' → Q v H') (h : (∀ v H', R v H' → Q v H') → kIfE ta tb σ Q b H) : kIfE ta tb σ Q b H := h k
theorem len12 (x : Str) : (meT x).length ≤ 12 ↔ x.length ≤ 12 := by
  unfold meT
  split
  · rename_i e
    rw [e]
    decide +kernel
  · exact Iff.rfl
section
variable {P : Program} {w : World} {K : PySem.W.Frag} {mg : Str → Option Value} {base : Heap}
def spLri : Sp := fun vs H Q _ => ∃ (d ln wd pp p : Addr) (us : List V) (M : StM) (ps : List Str), vs = [.ref d, .ref p] ∧ LsX H d ln wd pp us M ∧ PgOk M ∧ H p = some (.lst (ps.map V.str)) ∧ TxsL ps ∧ ps ≠ [] ∧
  (∀ M', addRow M ps = some M' → ∀ (d' ln' wd' pp' : Addr) (us' : List V) (H' : Hp), LsX H' d' ln' wd' pp' us' M' → Same H H' → Q (.ref d') H') ∧ (addRow M ps = none → ∀ H', Same H H' → Q .non H')
theorem sc_lri : FnScope ["_law_state", "_law_words", "_law_after", "_law_number", "_law_left", "_law_right", "_law_least", "_law_word_here", "_law_name_here"] ["_law_state", "_law_words"] (defScope s__law_row_in) := ⟨rfl, rfl, rfl, by decide +kernel, rfl, by decide +kernel, by decide +kernel⟩
theorem has_lri (F : FnAt K mg "_law_row_in" s__law_row_in ["_law_state", "_law_words"]) (B : Blt mg) (h_Lcp : Has P w K mg base 1 "_law_copy" ["_law_state"] spLcp) (h_Lno : Has P w K mg base 1 "_law_number_of" ["_law_text"] spLno) (h_Lwo : Has P w K mg base 2 "_law_word_of" ["_law_text"] spLwo) (h_Lgn : Has P w K mg base 1 "_law_good_name" ["_law_text"] spIsn) : Has P w K mg base 3 "_law_row_in" ["_law_state", "_law_words"] spLri := F.has fun F => by
  obtain ⟨f_Lcp, fd_Lcp, g_Lcp, k_Lcp, b_Lcp, G_Lcp⟩ := h_Lcp
  obtain ⟨f_Lno, fd_Lno, g_Lno, k_Lno, b_Lno, G_Lno⟩ := h_Lno
  obtain ⟨f_Lwo, fd_Lwo, g_Lwo, k_Lwo, b_Lwo, G_Lwo⟩ := h_Lwo
  obtain ⟨f_Lgn, fd_Lgn, g_Lgn, k_Lgn, b_Lgn, G_Lgn⟩ := h_Lgn
  refine F.ok sc_lri (fun vs H Q E h => ?_) (fun cdv A outer s H vs Q E hr h => ?_)
  · obtain ⟨d, ln, wd, pp, p, us, M, ps, rfl, _⟩ := h
    rfl
  · obtain ⟨d, ln, wd, pp, p, us, M, ps, rfl, L, W, hp, tx, ne, q1, q2⟩ := h
    refine ⟨_, (pss_cons (ps_set (i := 2) sc_lri.nd rfl (.inl rfl) (pe_call G_Lcp (hr.mono (by decide)) (by rfl) g_Lcp k_Lcp b_Lcp .nil pass0 (pa_cons (pv 0) pa_nil))) (pss_cons (ps_if (PW.pt (pw_and (pt_cmpR op_eq (pe_ix ix_list (pv 1) pe_int (fun _ _ => rfl)) pe_str (nomark _)) (pw_and1 (pt_cmpR op_eq (pe_callB call_lenQ (by rfl) B.len PySem.boot_len (pa_cons (pv 1) pa_nil)) pe_int (nomark _))))) (pss_cons (ps_set (i := 3) sc_lri.nd rfl (.inl rfl) (pe_call G_Lno (hr.mono (by decide)) (by rfl) g_Lno k_Lno b_Lno .nil pass0 (pa_cons (pe_ix ix_list (pv 1) pe_int (fun _ _ => rfl)) pa_nil))) (pss_cons (ps_par (i := 4) (j := 5) (by rfl) sc_lri.nd rfl rfl (by decide) rfl rfl (pa_cons (pe_call G_Lwo (hr.mono (by decide)) (by rfl) g_Lwo k_Lwo b_Lwo .nil pass0 (pa_cons (pe_ix ix_list (pv 1) pe_int (fun _ _ => rfl)) pa_nil)) (pa_cons (pe_call G_Lwo (hr.mono (by decide)) (by rfl) g_Lwo k_Lwo b_Lwo .nil pass0 (pa_cons (pe_ix ix_list (pv 1) pe_int (fun _ _ => rfl)) pa_nil)) pa_nil)) (by rfl)) (pss_cons (ps_if (PW.pt (pw_or (pt_cmpR op_in_seq pe_non (pe_lst (pa_cons (pv 3) (pa_cons (pv 4) (pa_cons (pv 5) pa_nil)))) rfl) (pw_or (pt_cmpR op_gt (pe_callB call_lenS (by rfl) B.len PySem.boot_len (pa_cons (pv 4) pa_nil)) pe_int (nomark _)) (pw_or1 (pt_cmpR op_gt (pe_callB call_lenS (by rfl) B.len PySem.boot_len (pa_cons (pv 5) pa_nil)) pe_int (nomark _)))))) (pss_one (ps_ret pe_non)) pss_nil) (pss_cons (ps_set (i := 6) sc_lri.nd rfl (.inl rfl) (pe_ifExp (pt_cmpR (op_neD hr.units) (pe_dget (hu_of hr) (pv 0) pe_str (fun _ _ => rfl)) (pe_lst pa_nil) (nomark _)) (pe_ix ix_tup (pe_ix ix_list (pe_dget (hu_of hr) (pv 0) pe_str (fun _ _ => rfl)) (pe_un un_neg pe_int) (fun _ _ => rfl)) pe_int (fun _ _ => rfl)) pe_int)) (pss_cons (ps_if (PW.pt (pw_or (pt_cmpR (op_neDict hr.units) (pe_dget (hu_of hr) (pv 0) pe_str (fun _ _ => rfl)) pe_dnewK (nomark _)) (pw_or1 (pt_cmpR op_gt (pe_callB call_lenQ (by rfl) B.len PySem.boot_len (pa_cons (pe_dget (hu_of hr) (pv 0) pe_str (fun _ _ => rfl)) pa_nil)) pe_int (nomark _))))) (pss_one (ps_ret pe_non)) pss_nil) (pss_cons (ps_if (pt_not (pt_chain op_lt op_lt (pv 6) (pv 3) (pe_dget (hu_of hr) (pv 0) pe_str (fun _ _ => rfl)))) (pss_one (ps_ret pe_non)) pss_nil) (pss_cons (ps_expr (pe_bm PySem.F.plainAttrs_list PySem.F.slot_list_append PySem.F.type_list_append mt_append (pe_dget (hu_of hr) (pv 2) pe_str (fun _ _ => rfl)) (pa_cons (pe_tup (pa_cons (pv 3) (pa_cons (pv 4) (pa_cons (pv 5) pa_nil)))) pa_nil))) (pss_one (ps_ret (pv 2)))))))))) pss_nil) (pss_cons (ps_if (PW.pt (pw_and (pt_cmpR op_eq (pe_ix ix_list (pv 1) pe_int (fun _ _ => rfl)) pe_str (nomark _)) (pw_and (pt_cmpR op_eq (pe_callB call_lenQ (by rfl) B.len PySem.boot_len (pa_cons (pv 1) pa_nil)) pe_int (nomark _)) (pw_and (pt_val (pe_call G_Lgn (hr.mono (by decide)) (by rfl) g_Lgn k_Lgn b_Lgn .nil pass0 (pa_cons (pe_ix ix_list (pv 1) pe_int (fun _ _ => rfl)) pa_nil))) (pw_and1 (pt_cmpR op_lt (pe_callB call_lenDc (by rfl) B.len PySem.boot_len (pa_cons (pe_dget (hu_of hr) (pv 0) pe_str (fun _ _ => rfl)) pa_nil)) pe_int (nomark _))))))) (pss_cons (ps_set (i := 7) sc_lri.nd rfl (.inl rfl) (pe_call G_Lwo (hr.mono (by decide)) (by rfl) g_Lwo k_Lwo b_Lwo .nil pass0 (pa_cons (pe_ix ix_list (pv 1) pe_int (fun _ _ => rfl)) pa_nil))) (pss_cons (ps_if (PW.pt (pw_or (pt_cmpR op_isNn (pv 7) pe_non (nomark _)) (pw_or1 (pt_not (pt_val (pe_callB (cr_all rfl) (by rfl) B.all (by decide +kernel) (pa_cons (pe_lock (pe_lc (own := [("_law_name_here", 8)]) (g := gName 8) (tt := tYes) (te := tOp rLtS (tVar 8) (tOp (rIxL K) (tVar 1) (tC (.int 1)))) (by rfl) sc_lri.nd (pi_keys (pe_dget (hu_of hr) (pv 0) pe_str (fun _ _ => rfl))) (blkOk_by (own := [("_law_name_here", 8)]) (N := ["_law_state", "_law_words", "_law_after", "_law_number", "_law_left", "_law_right", "_law_least", "_law_word_here", "_law_name_here"]) (sc := defScope s__law_row_in) (by decide +kernel)) (fun _ _ _ _ _ => pg_name (i := 8) sc_lri.nd rfl (.inl rfl)) (fun _ _ _ _ _ => pts_nil) (fun _ _ _ _ _ => by exact (pe_cmpR op_ltS (pv 8) (pe_ix ix_list (pv 1) pe_int (fun _ _ => rfl)) (nomark _))))) pa_nil))))))) (pss_one (ps_ret pe_non)) pss_nil) (pss_cons (ps_dput (hu_of hr) (pe_dget (hu_of hr) (pv 2) pe_str (fun _ _ => rfl)) (pe_ix ix_list (pv 1) pe_int (fun _ _ => rfl)) (pv 7) rfl) (pss_one (ps_ret (pv 2)))))) pss_nil) (pss_one (ps_ret pe_non))))), ?_⟩
    have pl := W.ok.pl
    have tl0 := W.ok.tl
    have hml : us.length = M.prs.length := Paired.length L.ls
    obtain ⟨a, qs, rfl⟩ : ∃ a qs, ps = a :: qs := by
      cases ps with
      | nil => exact absurd rfl ne
      | cons a qs => exact ⟨a, qs, rfl⟩
    walk_at "go"
    refine ⟨d, ln, wd, pp, us, M, rfl, L, by omega, fun d1 ln1 wd1 pp1 H1 nd1 nl1' nw1 np1 ne1 ne2 ne3 s1 L1 => ?_⟩
    have hp1 : H1 p = some (.lst (V.str a :: qs.map V.str)) := s1.at hp
    have L0 : LsX H1 d ln wd pp us M := ⟨s1.at L.o, s1.at L.l, Paired.mono (fun _ _ ⟨t, e, h⟩ => ⟨t, e, s1.at h⟩) L.ls, s1.at L.w, s1.at L.p⟩
    walk_at "gs"
    refine w_seqJ (fun σ HJ => σ = [some (.ref d), some (.ref p), some (.ref d1), none, none, none, none, none, none] ∧ HJ = H1 ∧ ¬ (a = Str.ofString "like" ∧ (a :: qs).length = 4)) ?_ ?_
    · intro NN hJ
      walk_at "go"
      refine w_ixL hp1 (at0N _ _) ?_
      walk_at "go"
      refine w_and2 (fun ha => ?_) (fun ha => ?_)
      rotate_left
      · walk_at "go"
        exact hJ _ _ ⟨rfl, rfl, fun z => ha z.1⟩
      walk_at "go"
      refine w_if2 (fun h4 => ?_) (fun h4 => ?_)
      rotate_left
      · walk_at "go"
        exact hJ _ _ ⟨rfl, rfl, fun z => h4 (by rw [List.length_cons, List.length_map]; have := z.2; rw [List.length_cons] at this; omega)⟩
      obtain ⟨n, l, r, rfl⟩ : ∃ n l r, qs = [n, l, r] := by
        have h4 : qs.length = 3 := by rw [List.length_cons, List.length_map] at h4; omega
        match qs, h4 with
        | [n, l, r], _ => exact ⟨n, l, r, rfl⟩
      have hp1 : H1 p = some (.lst [.str a, .str n, .str l, .str r]) := hp1
      have lnn : n.length ≤ 100000 := tx n (by simp)
      have ll : l.length ≤ 100000 := tx l (by simp)
      have lr : r.length ≤ 100000 := tx r (by simp)
      have ec : addRow M [a, n, l, r] = if a = Str.ofString "like" ∧ isNum n = true ∧ isSd l = true ∧ isSd r = true ∧ M.prs.length < 12 ∧ M.txs = [] ∧ lastN M.prs < numP0 n ∧ numP0 n < M.fol then some { M with prs := M.prs ++ [((numP0 n : Int), (meT l, meT r))] } else none := rfl
      have bad : ¬ (isNum n = true ∧ isSd l = true ∧ isSd r = true ∧ M.prs.length < 12 ∧ M.txs = [] ∧ lastN M.prs < numP0 n ∧ numP0 n < M.fol) → ∀ H', Same H H' → Q .non H' := fun z => q2 (by rw [ec, if_neg (fun y => z y.2)])
      walk_at "go"
      refine ⟨n, rfl, lnn, fun H2 s2 => ?_⟩
      have hp2 := s2.at hp1
      walk_at "go"
      refine ⟨l, rfl, ll, fun H3 s3 => ?_⟩
      have hp3 := s3.at hp2
      walk_at "go"
      refine ⟨r, rfl, lr, fun H4 s4 => ?_⟩
      have hp4 := s4.at hp3
      have s14 := (s2.trans s3).trans s4
      walk_at "go"
      refine w_newL (by walk_at "sz") (fun pN H5 hpN npN => ?_)
      have s15 := s14.trans npN.same
      have s05 := s1.trans s15
      cases hn : isNum n with
      | false =>
        rw [hn] at hpN
        refine ⟨pN, _, rfl, .inl (SqL.of hpN), rfl, ?_, ?_⟩
        · cases isWr l <;> cases isWr r <;> rfl
        rw [show inV V.non [if false = true then V.int ((numP0 n : Nat) : Int) else V.non, if isWr l = true then V.str (meT l) else V.non, if isWr r = true then V.str (meT r) else V.non] = true from rfl]
        walk_at "go"
        exact bad (fun z => by rw [hn] at z; exact nomatch z.1) H5 s05
      | true =>
        rw [hn] at hpN
        cases hl : isWr l with
        | false =>
          rw [hl] at hpN
          refine ⟨pN, _, rfl, .inl (SqL.of hpN), rfl, ?_, ?_⟩
          · cases isWr r <;> rfl
          rw [show inV V.non [if true = true then V.int ((numP0 n : Nat) : Int) else V.non, if false = true then V.str (meT l) else V.non, if isWr r = true then V.str (meT r) else V.non] = true from rfl]
          walk_at "go"
          exact bad (fun z => by have := z.2.1; unfold isSd at this; rw [hl] at this; exact nomatch this) H5 s05
        | true =>
          rw [hl] at hpN
          cases hr2 : isWr r with
          | false =>
            rw [hr2] at hpN
            refine ⟨pN, _, rfl, .inl (SqL.of hpN), rfl, rfl, ?_⟩
            rw [show inV V.non [if true = true then V.int ((numP0 n : Nat) : Int) else V.non, if true = true then V.str (meT l) else V.non, if false = true then V.str (meT r) else V.non] = true from rfl]
            walk_at "go"
            exact bad (fun z => by have := z.2.2.1; unfold isSd at this; rw [hr2] at this; exact nomatch this) H5 s05
          | true =>
            rw [hr2] at hpN
            refine ⟨pN, _, rfl, .inl (SqL.of hpN), rfl, rfl, ?_⟩
            rw [show inV V.non [if true = true then V.int ((numP0 n : Nat) : Int) else V.non, if true = true then V.str (meT l) else V.non, if true = true then V.str (meT r) else V.non] = false from rfl]
            rw [show (if true = true then V.int ((numP0 n : Nat) : Int) else V.non) = V.int ((numP0 n : Nat) : Int) from rfl, show (if true = true then V.str (meT l) else V.non) = V.str (meT l) from rfl, show (if true = true then V.str (meT r) else V.non) = V.str (meT r) from rfl]
            rw [show (if false = true then !false else false) = false from rfl]
            have L5 := lsX_same L0 s15
            have hd5 := L5.o
            have hln5 := L5.l
            have ml := len_meT l
            have mr := len_meT r
            have sdl : isSd l = decide (l.length ≤ 12) := by unfold isSd; rw [hl, Bool.true_and]
            have sdr : isSd r = decide (r.length ≤ 12) := by unfold isSd; rw [hr2, Bool.true_and]
            walk_at "go"
            refine w_lenS (line_of (by omega)) ?_
            walk_at "go"
            refine w_or2 (fun h5 => ?_) (fun h5 => ?_)
            · walk_at "go"
              exact bad (fun z => by have z := z.2.1; rw [sdl] at z; have := (len12 l).mpr (of_decide_eq_true z); omega) H5 s05
            walk_at "go"
            refine w_lenS (line_of (by omega)) ?_
            walk_at "go"
            refine w_if2 (fun h6 => ?_) (fun h6 => ?_)
            · walk_at "go"
              exact bad (fun z => by have z := z.2.2.1; rw [sdr] at z; have := (len12 r).mpr (of_decide_eq_true z); omega) H5 s05
            have yl : isSd l = true := by rw [sdl]; exact decide_eq_true ((len12 l).mp (by omega))
            have yr : isSd r = true := by rw [sdr]; exact decide_eq_true ((len12 r).mp (by omega))
            walk_at "go"
            refine w_kDGetS hd5 (show valV _ kLn = _ from ls_ln) ?_
            walk_at "go"
            refine w_newL (by walk_at "sz") (fun p6 H6 hp6 np6 => ?_)
            refine w_neNil (np6.at hln5) (dp_lns (Paired.mono (fun _ _ ⟨t, e, h⟩ => ⟨t, e, np6.at h⟩) L5.ls)) (shaped_list (fun x hx => lay_ln (W.ok.pr x hx).2.2.1 (W.ok.pr x hx).2.2.2.1) (fun x _ => by unfold dLn; simp only [PyData.depth, PyData.depthAll]; decide)) hp6 ?_
            rw [List.isEmpty_map]
            have s06 := s05.trans np6.same
            have L6 := lsX_same L5 np6.same
            have hd6 := L6.o
            have hln6 := L6.l
            walk_at "go"
            refine w_meetR (fun v H' => v = .int (lastN M.prs) ∧ H' = H6) ?_ (fun k => ?_)
            rotate_left
            · cases e : M.prs with
              | nil =>
                rw [show (!([] : List (Int × Clm)).isEmpty) = false from rfl]
                refine w_ifEF ?_
                exact k (.int 0) H6 ⟨by rw [e]; rfl, rfl⟩
              | cons c cs =>
                rw [show (!(c :: cs : List (Int × Clm)).isEmpty) = true from rfl]
                obtain ⟨t, l', r', e1, e2⟩ := at_lastL L6.ls (by rw [e]; exact fun z => nomatch z)
                walk_at "go"
                refine w_kDGetS hd6 (show valV _ kLn = _ from ls_ln) ?_
                walk_at "go"
                refine w_ixL hln6 e1 ?_
                exact w_ixT e2 (at0D _ _) (k (.int (lastN M.prs)) H6 ⟨rfl, rfl⟩)
            rintro v H' ⟨rfl, rfl⟩
            walk_at "go"
            refine w_kDGetS hd6 (show valV _ kWs = _ from ls_ws) ?_
            walk_at "go"
            refine w_dnewK (fun p7 H7 hp7 np7 => ?_)
            refine w_neDict (np7.at L6.w) hp7 ?_
            have s07 := s06.trans np7.same
            have L7 := lsX_same L6 np7.same
            have hd7 := L7.o
            have hln7 := L7.l
            cases hc : (txK M.txs).isEmpty with
            | false =>
              rw [show (!false) = true from rfl]
              walk_at "go"
              exact bad (fun z => by
                have := z.2.2.2.2.1
                rw [this] at hc
                cases hc) H7 s07
            | true =>
              have et : M.txs = [] := by
                cases e : M.txs with
                | nil => rfl
                | cons e l => rw [e] at hc; cases hc
              rw [show (!true) = false from rfl]
              walk_at "go"
              refine w_kDGetS hd7 (show valV _ kLn = _ from ls_ln) ?_
              walk_at "go"
              refine w_if2 (fun h8 => ?_) (fun h8 => ?_)
              · walk_at "go"
                exact bad (fun z => by have := z.2.2.2.1; omega) H7 s07
              walk_at "go"
              refine w_chain2 (fun h9 => ?_) (fun h9 => ?_)
              · walk_at "go"
                refine w_kDGetS hd7 (show valV _ kCo = _ from ls_co) ?_
                walk_at "go"
                refine w_ifN2 (fun h10 => ?_) (fun h10 => ?_)
                · walk_at "go"
                  exact bad (fun z => by have := z.2.2.2.2.2.2; omega) H7 s07
                have s17 : Same H1 H7 := (s15.trans np6.same).trans np7.same
                have M7 := lsX_same L1 s17
                have hd17 := M7.o
                have hl17 := M7.l
                walk_at "go"
                refine w_kDGetS hd17 (show valV _ kLn = _ from ls_ln) ?_
                walk_at "go"
                refine w_newT (by walk_at "sz") (fun t8 H8 ht8 nt8 => ?_)
                walk_at "go"
                refine w_append (nt8.at M7.l) (lineLt_of (by omega)) (fun H9 h9' o9 => ?_)
                walk_at "go"
                have nl1 : H ln1 = none := nl1'
                have s19 : Same H H9 := (s07.nw nt8).off o9 nl1
                have d1l : d1 ≠ ln1 := ne_of M7.o M7.l (by intro z; cases z)
                have w1l : wd1 ≠ ln1 := ne_of M7.w M7.l (by intro z; cases z)
                have p1l : pp1 ≠ ln1 := ne_of M7.p M7.l (by intro z; cases z)
                have t8l : t8 ≠ ln1 := (nt8.ne M7.l).symm
                refine q1 { M with prs := M.prs ++ [(((numP0 n : Nat) : Int), (meT l, meT r))] } (by rw [ec, if_pos ⟨ha, hn, yl, yr, by omega, et, h9, by omega⟩]) d1 ln1 wd1 pp1 (us ++ [.ref t8]) H9 ⟨o9.at d1l (nt8.at M7.o), h9', ?_, o9.at w1l (nt8.at M7.w), o9.at p1l (nt8.at M7.p)⟩ s19
                show Paired (LnT H9) (us ++ [.ref t8]) (M.prs ++ [(((numP0 n : Nat) : Int), (meT l, meT r))])
                exact Paired.snoc (Paired.mono (fun u e ⟨t, e1, h⟩ => ⟨t, e1, s19.at h⟩) L.ls) ⟨t8, rfl, o9.at t8l ht8⟩
              · walk_at "go"
                exact bad (fun z => h9 z.2.2.2.2.2.1) H7 s07
    · rintro σ HJ ⟨rfl, rfl, hno⟩
      walk_at "go"
      refine w_ixL hp1 (at0N _ _) ?_
      walk_at "go"
      refine w_and2 (fun ha => ?_) (fun ha => ?_)
      rotate_left
      · walk_at "go"
        refine q2 ?_ HJ s1
        unfold addRow
        split
        · rename_i e
          rw [if_neg (fun z => ?_)]
          refine hno ⟨?_, by rw [e]; rfl⟩
          rw [List.cons.injEq] at e
          exact e.1.trans z.1
        · rename_i e
          rw [if_neg (fun z => ?_)]
          rw [List.cons.injEq] at e
          exact ha (e.1.trans z.1)
        · rfl
      walk_at "go"
      refine w_and2 (fun h3 => ?_) (fun h3 => ?_)
      rotate_left
      · walk_at "go"
        refine q2 ?_ HJ s1
        unfold addRow
        split
        · rename_i e
          rw [if_neg (fun z => ?_)]
          refine hno ⟨?_, by rw [e]; rfl⟩
          rw [List.cons.injEq] at e
          exact e.1.trans z.1
        · rename_i e
          refine absurd ?_ h3
          rw [List.cons.injEq] at e
          rw [List.length_cons, List.length_map, e.2]
          rfl
        · rfl
      obtain ⟨n, x, rfl⟩ : ∃ n x, qs = [n, x] := by
        have h4 : qs.length = 2 := by rw [List.length_cons, List.length_map] at h3; omega
        match qs, h4 with
        | [n, x], _ => exact ⟨n, x, rfl⟩
      have hp1 : HJ p = some (.lst [.str a, .str n, .str x]) := hp1
      have lnn : n.length ≤ 100000 := tx n (by simp)
      have lx : x.length ≤ 100000 := tx x (by simp)
      have ec : addRow M [a, n, x] = if a = Str.ofString "word" ∧ isN n = true ∧ isWr x = true ∧ M.txs.length < 20 ∧ tl (lastT M.txs) < tl n then some { M with txs := M.txs ++ [(n, meT x)] } else none := rfl
      have bad : ¬ (isN n = true ∧ isWr x = true ∧ M.txs.length < 20 ∧ tl (lastT M.txs) < tl n) → ∀ H', Same H H' → Q .non H' := fun z => q2 (by rw [ec, if_neg (fun y => z y.2)])
      have tkl : (txK M.txs).length = M.txs.length := List.length_map _
      walk_at "go"
      refine ⟨n, rfl, lnn, fun H2 s2 => ?_⟩
      have hp2 := s2.at hp1
      have L2' := lsX_same L0 s2
      have hd2 := L2'.o
      have hw2 := L2'.w
      cases hn : isN n with
      | false =>
        walk_at "go"
        exact bad (fun z => by rw [hn] at z; exact nomatch z.1) H2 (s1.trans s2)
      | true =>
        walk_at "go"
        refine w_kDGetS hd2 (show valV _ kWs = _ from ls_ws) ?_
        walk_at "go"
        rw [tkl]
        refine w_if2 (fun h5 => ?_) (fun h5 => ?_)
        rotate_left
        · walk_at "go"
          exact bad (fun z => by have := z.2.2.1; omega) H2 (s1.trans s2)
        walk_at "go"
        refine ⟨x, rfl, lx, fun H3 s3 => ?_⟩
        have s03 := (s1.trans s2).trans s3
        have hp3 := s3.at hp2
        cases hx : isWr x with
        | false =>
          rw [if_neg (fun z => nomatch z)]
          walk_at "go"
          exact bad (fun z => by rw [hx] at z; exact nomatch z.2.1) H3 s03
        | true =>
          rw [if_pos rfl]
          walk_at "go"
          rw [decide_eq_false (show ¬ V.str (meT x) = V.non from fun z => nomatch z)]
          walk_at "go"
          have L3 := lsX_same L2' s3
          have hw3 := L3.w
          have hd3 := L3.o
          refine w_lockE hw3 True.intro (fun od => ?_)
          have pw : p ≠ wd := fun z => by rw [z, hw3] at hp3; cases hp3
          have dw : d ≠ wd := fun z => by
            rw [z, hw3] at hd3
            injection hd3 with h
            injection h with h
            cases e : M.txs with
            | nil => rw [e] at h; cases h
            | cons c cs =>
              rw [e] at h
              have h : ((Sum.inr c.1 : Key), V.str c.2) :: txK cs = lsK ln wd pp M.fol := h
              unfold lsK at h
              rw [List.cons.injEq, Prod.mk.injEq] at h
              exact nomatch h.1.2
          generalize hG : upd H3 wd (.frz od (.dK (txK M.txs))) = G
          have gP : G wd = some (.frz od (.dK (txK M.txs))) := by rw [← hG, upd_same]
          have kG : ∀ a x, H3 a = some x → a ≠ wd → G a = some x := fun a x e n => by rw [← hG, upd_ne n]; exact e
          have hdG := kG _ _ hd3 dw
          have hpG := kG _ _ hp3 pw
          walk_at "go"
          refine w_ikeysH ?_
          walk_at "go"
          refine w_kDGetS hdG (show valV _ kWs = _ from ls_ws) ?_
          refine w_keysH gP ?_
          refine w_lcK (fun r i H1 => Same G H1 ∧ G r = none ∧ H1 r = some (.lst ((((txK M.txs).take i).map fun e => match e.1 with | .inr y => V.bl (decide (tl y < tl n)) | .inl _ => V.bl true)))) (fun r H1 h1 n1 => ⟨n1.same, n1.nn, h1⟩) (fun r i H1 _ h => h.1.at gP) ?_ ?_
          · rintro r i k v H4 hk ⟨s4, nr, hr4⟩
            have hil : i < (txK M.txs).length := (List.getElem?_eq_some_iff.mp hk).1
            obtain ⟨y, rfl⟩ : ∃ y, k = .inr y := by
              have hm := List.mem_of_getElem? hk
              unfold txK at hm
              obtain ⟨e, he, ee⟩ := List.mem_map.mp hm
              rw [Prod.mk.injEq] at ee
              exact ⟨e.1, ee.1.symm⟩
            have hp4 := s4.at hpG
            walk_at "go"
            refine w_ltS ?_
            walk_at "go"
            refine w_kIt hr4 (by rw [List.length_map, List.length_take]; exact lineLt_of (by omega)) (fun H5 h5 o5 => ⟨s4.off o5 nr, nr, ?_⟩)
            rw [h5, take_snoc hk, List.map_append]
            rfl
          · rintro r H4 ⟨s4, nr, hr4⟩
            rw [List.take_length] at hr4
            refine ⟨s4.at gP, ?_⟩
            have rd : r ≠ wd := fun z => by rw [z, gP] at nr; cases nr
            generalize hH2 : upd H4 wd (.dK (txK M.txs)) = H5
            have k2 : ∀ a x, H4 a = some x → a ≠ wd → H5 a = some x := fun a x e n => by rw [← hH2, upd_ne n]; exact e
            have s5 : Same H3 H5 := fun a x e => by
              by_cases z : a = wd
              · rw [z, ← hH2, upd_same, ← hw3, ← z]; exact e
              · exact k2 a x (s4 a x (kG a x e z)) z
            have hr5 : H5 r = some (.lst ((M.txs.map fun e => decide (tl e.1 < tl n)).map V.bl)) := by
              rw [k2 _ _ hr4 rd]
              unfold txK
              rw [List.map_map, List.map_map]
              rfl
            have s05 := s03.trans s5
            have hp5 := s5.at hp3
            walk_at "go"
            refine w_all hr5 ?_
            have ea : ((M.txs.map fun e => decide (tl e.1 < tl n)).all id) = decide (∀ e ∈ M.txs, tl e.1 < tl n) := by
              rw [List.all_map, Bool.eq_iff_iff, List.all_eq_true, decide_eq_true_eq]
              exact ⟨fun z e he => of_decide_eq_true (z e he), fun z e he => decide_eq_true (z e he)⟩
            rw [ea]
            walk_at "go"
            refine w_ifN2 (fun h9 => ?_) (fun h9 => ?_)
            · walk_at "go"
              exact bad (fun z => h9 (W.ltT z.2.2.2)) H5 s05
            have lt : tl (lastT M.txs) < tl n := PgOk.leT h9 (fun z => by
              have := (isN_nm hn).1
              rw [len_tl, z] at this
              cases this)
            have s15 : Same HJ H5 := (s2.trans s3).trans s5
            have M5 := lsX_same L1 s15
            have hd15 := M5.o
            walk_at "go"
            refine w_kDGetS hd15 (show valV _ kWs = _ from ls_ws) ?_
            walk_at "go"
            refine w_kDPutS M5.w (by rw [tkl]; exact lineLt_of (by omega)) (fun H6 h6 o6 => ?_)
            rw [putT_K] at h6
            walk_at "go"
            have en : putT M.txs n (meT x) = M.txs ++ [(n, meT x)] := by
              unfold putT
              rw [if_neg]
              intro z
              obtain ⟨e, he, e2⟩ := List.any_eq_true.mp z
              have := h9 e he
              rw [of_decide_eq_true e2] at this
              exact List.lt_irrefl _ this
            rw [en] at h6
            have S6 : Same H H6 := s05.off o6 nw1
            have l1w : ln1 ≠ wd1 := ne_of M5.l M5.w (by intro z; cases z)
            exact q1 { M with txs := M.txs ++ [(n, meT x)] } (by rw [ec, if_pos ⟨ha, hn, hx, by omega, lt⟩]) d1 ln1 wd1 pp1 us H6 ⟨o6.at ne2 M5.o, o6.at l1w M5.l, Paired.mono (fun u e ⟨t, e1, h⟩ => ⟨t, e1, S6.at h⟩) L.ls, h6, o6.at ne1.symm M5.p⟩ S6
end
end Sf
namespace Sf
open PySem PySem.Spec PyProof.Rows L2 TL
/-! ### the first wrong row by the law -/
def comN (ps : List Str) : V := match ps with
  | [a, n] => if a = Str.ofString "coming" ∧ isNum n = true then .int (numP0 n : Nat) else .non
  | _ => .non
theorem com_N : ∀ ps : List Str, (comN ps = .non ∧ comM ps = none) ∨ ∃ f : Nat, comN ps = .int (f : Nat) ∧ comM ps = if 1 ≤ f then some f else none
  | [a, n] => by
    have e1 : comN [a, n] = if a = Str.ofString "coming" ∧ isNum n = true then .int (numP0 n : Nat) else .non := rfl
    have e2 : comM [a, n] = if a = Str.ofString "coming" ∧ isNum n = true ∧ ¬ n = Str.ofString "0" then some (numP0 n) else none := rfl
    rw [e1, e2]
    by_cases h : a = Str.ofString "coming" ∧ isNum n = true
    · refine .inr ⟨numP0 n, if_pos h, ?_⟩
      have z := num_zero (isNum_ok h.2)
      by_cases h0 : n = Str.ofString "0"
      · rw [if_neg (fun y => y.2.2 h0), if_neg (by have := z.mpr h0; omega)]
      · rw [if_pos ⟨h.1, h.2, h0⟩, if_pos (by have : ¬ numP0 n = 0 := fun y => h0 (z.mp y); omega)]
    · exact .inl ⟨if_neg h, if_neg (fun y => h ⟨y.1, y.2.1⟩)⟩
  | [] => .inl ⟨rfl, rfl⟩
  | [_] => .inl ⟨rfl, rfl⟩
  | _ :: _ :: _ :: _ => .inl ⟨rfl, rfl⟩
def kRng2 (R : It → Hp → Prop) : List V → Hp → Prop := fun vs H1 => ∃ i j : Int, vs = [.int i, .int j] ∧ (-(2 ^ 62) ≤ i ∧ i < 2 ^ 62 ∧ -(2 ^ 62) ≤ j ∧ j < 2 ^ 62) ∧ R (Itr i (j - i).toNat) H1
theorem w_irng2 {σ : L2.St} {H : Hp} {ta : TA} {R : It → Hp → Prop} (q : ta σ H (kRng2 R)) : iRng2 ta σ H R := q
theorem w_kRng2L {H : Hp} {i j : Int} {R : It → Hp → Prop} (h0 : 0 ≤ i) (h1 : i ≤ 1000000) (h2 : -1000000 ≤ j) (h3 : j ≤ 1000000) (q : R (Itr i (j - i).toNat) H) : kRng2 R [.int i, .int j] H := ⟨i, j, rfl, ⟨by omega, by omega, by omega, by omega⟩, q⟩
section
variable {P : Program} {w : World} {K : PySem.W.Frag} {mg : Str → Option Value} {base : Heap}
def spLfw : Sp := fun vs H Q _ => ∃ (t : Str), vs = [.str t] ∧ t.length ≤ 12000 ∧
  (∀ i, i < (rwsT t).length → (∃ M, readTo ((rwsT t).take i) = some M) → readTo ((rwsT t).take (i + 1)) = none → ∀ H', Same H H' → Q (.int (i : Nat)) H') ∧
  ((∃ M, readTo (rwsT t) = some M) → (rwsT t = [] ∨ ¬ rstT t = Str.ofString "") → ∀ H', Same H H' → Q (.int ((rwsT t).length : Nat)) H') ∧
  (∀ M, readTo (rwsT t) = some M → ¬ rwsT t = [] → rstT t = Str.ofString "" → ∀ H', Same H H' → Q .non H')
theorem sc_lfw : FnScope ["_law_text", "_law_rows", "_law_head", "_law_number", "_law_state", "_law_at"] ["_law_text"] (defScope s__law_first_wrong) := ⟨rfl, rfl, rfl, by decide +kernel, rfl, by decide +kernel, by decide +kernel⟩
theorem has_lfw (F : FnAt K mg "_law_first_wrong" s__law_first_wrong ["_law_text"]) (B : Blt mg) (h_Lno : Has P w K mg base 1 "_law_number_of" ["_law_text"] spLno) (h_Lba : Has P w K mg base 1 "_law_bare" [] spLba) (h_Lri : Has P w K mg base 3 "_law_row_in" ["_law_state", "_law_words"] spLri) : Has P w K mg base 4 "_law_first_wrong" ["_law_text"] spLfw := F.has fun F => by
  obtain ⟨f_Lno, fd_Lno, g_Lno, k_Lno, b_Lno, G_Lno⟩ := h_Lno
  obtain ⟨f_Lba, fd_Lba, g_Lba, k_Lba, b_Lba, G_Lba⟩ := h_Lba
  obtain ⟨f_Lri, fd_Lri, g_Lri, k_Lri, b_Lri, G_Lri⟩ := h_Lri
  refine F.ok sc_lfw (fun vs H Q E h => ?_) (fun cdv A outer s H vs Q E hr h => ?_)
  · obtain ⟨t, rfl, _⟩ := h
    rfl
  · obtain ⟨t, rfl, tl1, q1, q2, q3⟩ := h
    refine ⟨_, (pss_cons (ps_set (i := 1) sc_lfw.nd rfl (.inl rfl) (pe_m1 PySem.F.slot_str_split PySem.F.type_str_split mt_splitW (pv 0) pe_str)) (pss_cons (ps_set (i := 2) sc_lfw.nd rfl (.inl rfl) (pe_m1 PySem.F.slot_str_split PySem.F.type_str_split mt_splitW (pe_ix ix_list (pv 1) pe_int (fun _ _ => rfl)) pe_str)) (pss_cons (ps_set (i := 3) sc_lfw.nd rfl (.inl rfl) (pe_ifExp (PW.pt (pw_and (pt_cmpR op_eq (pe_callB call_lenQ (by rfl) B.len PySem.boot_len (pa_cons (pv 2) pa_nil)) pe_int (nomark _)) (pw_and1 (pt_cmpR op_eq (pe_ix ix_list (pv 2) pe_int (fun _ _ => rfl)) pe_str (nomark _))))) (pe_call G_Lno (hr.mono (by decide)) (by rfl) g_Lno k_Lno b_Lno .nil pass0 (pa_cons (pe_ix ix_list (pv 2) pe_int (fun _ _ => rfl)) pa_nil)) pe_non)) (pss_cons (ps_if (PW.pt (pw_or (pt_cmpR op_lt (pe_callB call_lenQ (by rfl) B.len PySem.boot_len (pa_cons (pv 1) pa_nil)) pe_int (nomark _)) (pw_or (pt_cmpR op_isNn (pv 3) pe_non (nomark _)) (pw_or1 (pt_cmpR op_lt (pv 3) pe_int (nomark _)))))) (pss_one (ps_ret pe_int)) pss_nil) (pss_cons (ps_set (i := 4) sc_lfw.nd rfl (.inl rfl) (pe_call0 G_Lba (hr.mono (by decide)) (by rfl) g_Lba k_Lba b_Lba .nil pass0)) (pss_cons (ps_dput (hu_of hr) (pv 4) pe_str (pv 3) rfl) (pss_cons (ps_for PassesOwn.never rfl (pi_range2 rfl B.range (pa_cons pe_int (pa_cons (pe_op op_sub (pe_callB call_lenQ (by rfl) B.len PySem.boot_len (pa_cons (pv 1) pa_nil)) pe_int) pa_nil))) (pg_name (i := 5) sc_lfw.nd rfl (.inl rfl)) (pss_cons (ps_set (i := 4) sc_lfw.nd rfl (.inl rfl) (pe_call G_Lri (hr.mono (by decide)) (by rfl) g_Lri k_Lri b_Lri .nil pass0 (pa_cons (pv 4) (pa_cons (pe_m1 PySem.F.slot_str_split PySem.F.type_str_split mt_splitW (pe_ix ix_list (pv 1) (pv 5) (fun _ _ => rfl)) pe_str) pa_nil)))) (pss_one (ps_if (pt_cmpR op_isNn (pv 4) pe_non (nomark _)) (pss_one (ps_ret (pv 5))) pss_nil)))) (pss_one (ps_ret (pe_ifExp (pt_cmpR op_eq (pe_ix ix_list (pv 1) (pe_un un_neg pe_int) (fun _ _ => rfl)) pe_str (nomark _)) pe_non (pe_op op_sub (pe_callB call_lenQ (by rfl) B.len PySem.boot_len (pa_cons (pv 1) pa_nil)) pe_int))))))))))), ?_⟩
    have sl := PyProof.Rows.split_le t nl1
    have sp := split_parts t
    have slen : (Txt.split t nl1).length = (rwsT t).length + 1 := by rw [sp, List.length_append]; rfl
    have pc : ∀ x ∈ Txt.split t nl1, x.length ≤ 12000 := fun x hx => Nat.le_trans (piece_mem hx).1 tl1
    obtain ⟨r0, hr0⟩ : ∃ r0, (rwsT t ++ [rstT t])[0]? = some r0 := by
      cases rwsT t with
      | nil => exact ⟨_, rfl⟩
      | cons a b => exact ⟨_, rfl⟩
    have rl : r0.length ≤ 12000 := pc r0 (by rw [sp]; exact List.mem_of_getElem? hr0)
    walk_at "go"
    refine w_splW (by decide +kernel) (line_of (by omega)) (fun p0 H1 hp0 np0 => ?_)
    have hp0 : H1 p0 = some (.lst ((rwsT t ++ [rstT t]).map V.str)) := by rw [← sp]; exact hp0
    have e0 : atI ((rwsT t ++ [rstT t]).map V.str) 0 = some (V.str r0) := by
      show atI _ ((0 : Nat) : Int) = _
      refine atI_nat ?_
      rw [List.getElem?_map, hr0]
      rfl
    walk_at "go"
    refine w_ixL hp0 e0 ?_
    walk_at "go"
    refine w_splW (by decide +kernel) (line_of (by omega)) (fun p1 H2 hp1 np1 => ?_)
    have s02 := np0.same.trans np1.same
    have hp02 := np1.at hp0
    walk_at "gs"
    refine w_seqJ (fun σ HJ => σ = [some (.str t), some (.ref p0), some (.ref p1), some (comN (Txt.split r0 sp1)), none, none] ∧ Same H2 HJ) ?_ ?_
    · intro NN hJ
      walk_at "go"
      rw [List.length_map]
      refine w_and2 (fun h2 => ?_) (fun h2 => ?_)
      rotate_left
      · walk_at "go"
        refine hJ _ _ ⟨?_, .refl _⟩
        have : comN (Txt.split r0 sp1) = .non := by
          unfold comN
          split
          · rename_i e
            have h2 : ¬ ((Txt.split r0 sp1).length : Int) = 2 := h2
            rw [e] at h2
            exact absurd rfl h2
          · rfl
        rw [this]
        rfl
      obtain ⟨a, n, ea⟩ : ∃ a n, Txt.split r0 sp1 = [a, n] := by
        have h3 : (Txt.split r0 sp1).length = 2 := by
          have h2 : ((Txt.split r0 sp1).length : Int) = 2 := h2
          omega
        match hh : Txt.split r0 sp1, h3 with
        | [a, n], _ => exact ⟨a, n, rfl⟩
      have ln : n.length ≤ 100000 := Nat.le_trans (piece_mem (show n ∈ Txt.split r0 sp1 by rw [ea]; simp)).1 (by omega)
      have hp1 : H2 p1 = some (.lst [.str a, .str n]) := by
        have hp1 : H2 p1 = some (.lst ((Txt.split r0 sp1).map V.str)) := hp1
        rw [ea] at hp1
        exact hp1
      have ec : comN (Txt.split r0 sp1) = if a = Str.ofString "coming" ∧ isNum n = true then .int (numP0 n : Nat) else .non := by rw [ea]; rfl
      rw [ec] at hJ
      walk_at "go"
      refine w_ifE2 (fun h3 => ?_) (fun h3 => ?_)
      rotate_left
      · walk_at "go"
        refine hJ _ _ ⟨?_, .refl _⟩
        rw [if_neg (fun z => h3 z.1)]
        rfl
      walk_at "go"
      refine ⟨n, rfl, ln, fun H3 s3 => ?_⟩
      walk_at "go"
      refine hJ _ _ ⟨?_, s3⟩
      cases hn : isNum n with
      | true =>
        rw [if_pos rfl, if_pos ⟨h3, rfl⟩]
        rfl
      | false =>
        rw [if_neg (fun z => nomatch z), if_neg (fun z => nomatch z.2)]
        rfl
    rintro σ H3 ⟨rfl, s3⟩
    have hp03 := s3.at hp02
    have s03 := s02.trans s3
    walk_at "go"
    rw [List.length_map, List.length_append]
    refine w_or2 (fun h2 => ?_) (fun h2 => ?_)
    · walk_at "go"
      have er : rwsT t = [] := List.length_eq_zero_iff.mp (by have h2 : (((rwsT t).length + 1 : Nat) : Int) < 2 := h2; omega)
      have := q2 (by rw [er]; exact ⟨emp, rfl⟩) (.inl er) H3 s03
      rw [er] at this
      exact this
    obtain ⟨rs, er⟩ : ∃ rs, rwsT t = r0 :: rs := by
      cases e : rwsT t with
      | nil => exact absurd (show (((rwsT t).length + 1 : Nat) : Int) < 2 by rw [e]; decide) h2
      | cons a b =>
        rw [e] at hr0
        have : a = r0 := Option.some.inj hr0
        rw [this]
        exact ⟨b, rfl⟩
    have first : comM (Txt.split r0 sp1) = none → Q (.int 0) H3 := fun z => q1 0 (by rw [er]; exact Nat.succ_pos _) ⟨emp, rfl⟩ (by rw [er]; show readTo [r0] = none; rw [readTo_one, z]; rfl) H3 s03
    rcases com_N (Txt.split r0 sp1) with ⟨e1, e2⟩ | ⟨f, e1, e2⟩
    · rw [e1]
      walk_at "go"
      exact first e2
    rw [e1]
    walk_at "go"
    refine w_if2 (fun h3 => ?_) (fun h3 => ?_)
    · walk_at "go"
      exact first (by rw [e2, if_neg (by omega)])
    have e3 : comM (Txt.split r0 sp1) = some f := by rw [e2, if_pos (by omega)]
    have W0 := com_ok e3
    walk_at "go"
    refine ⟨rfl, fun d ln H4 nd nln s4 hL => ?_⟩
    obtain ⟨wd, pp, us, h1, h2', h3', h4, h5⟩ := hL
    walk_at "go"
    refine w_kDPutS h1 (lineLt_of (show 4 ≤ 100000 by decide)) (fun H5 h5' o5 => ?_)
    rw [show putK (lsK ln wd pp emp.fol) (Sum.inr (Str.ofString "coming")) (.int ((f : Nat) : Int)) = lsK ln wd pp f from ls_putc (c' := f)] at h5'
    have S5 : Same H H5 := (s03.trans s4).off o5 (s03.free nd)
    have ld : ln ≠ d := ne_of h2' h1 (by intro z; cases z)
    have wdd : wd ≠ d := fun z => by
      rw [z, h1] at h4
      cases h4
    have ppd : pp ≠ d := fun z => by
      rw [z, h1] at h5
      cases h5
    have L5 : LsX H5 d ln wd pp us { emp with fol := f } := ⟨h5', o5.at ld h2', Paired.mono (fun _ _ ⟨t, e, h⟩ => ⟨t, e, o5.at (fun z => by rw [z, h1] at h; cases h) h⟩) h3', o5.at wdd h4, o5.at ppd h5⟩
    have hp05 := o5.at (ne_of (s4.at hp03) h1 (by intro z; cases z)) (s4.at hp03)
    walk_at "go"
    refine w_irng2 ?_
    walk_at "go"
    rw [List.length_map, List.length_append]
    refine w_kRng2L (i := 1) (by omega) (by omega) (by show _ ≤ (((rwsT t).length + 1 : Nat) : Int) - 1; omega) (by show (((rwsT t).length + 1 : Nat) : Int) - 1 ≤ _; omega) ?_
    rw [show (((((rwsT t).length + [rstT t].length : Nat) : Int) - 1 - 1).toNat) = rs.length by
      rw [er]
      show ((((rs.length + 1 + 1 : Nat) : Int) - 1 - 1).toNat) = _
      omega]
    refine w_range (fun i σ H6 => ∃ (y5 : Option V) (d ln wd pp : Addr) (us : List V) (M : StM), σ = [some (.str t), some (.ref p0), some (.ref p1), some (.int f), some (.ref d), y5] ∧ readTo ((rwsT t).take (i + 1)) = some M ∧ PgOk M ∧ LsX H6 d ln wd pp us M ∧ Same H H6 ∧ Same H5 H6) ⟨none, d, ln, wd, pp, us, _, rfl, by rw [er]; show readTo [r0] = _; rw [readTo_one, e3]; rfl, W0, L5, S5, .refl _⟩ ?_ ?_
    · rintro i σ H6 hi ⟨y5, d, ln, wd, pp, us, M, rfl, hR, W, L6, S6, S56⟩
      have hil : i + 1 < (rwsT t).length := by rw [er]; exact Nat.succ_lt_succ hi
      have hr1 : (rwsT t)[i + 1]? = some ((rwsT t)[i + 1]) := List.getElem?_eq_getElem hil
      generalize hrr : (rwsT t)[i + 1] = r at hr1
      have rl2 : r.length ≤ 12000 := pc r (by rw [sp]; exact List.mem_append_left _ (List.mem_of_getElem? hr1))
      have tk : (rwsT t).take (i + 1 + 1) = (rwsT t).take (i + 1) ++ [r] := take_snoc hr1
      have ne : (rwsT t).take (i + 1) ≠ [] := by rw [er]; exact fun z => nomatch z
      have hp06 := S56.at hp05
      have ex : atI ((rwsT t ++ [rstT t]).map V.str) (1 + (i : Int)) = some (V.str r) := by
        rw [show (1 + (i : Int)) = ((i + 1 : Nat) : Int) by omega]
        refine atI_nat ?_
        rw [List.getElem?_map, List.getElem?_append_left hil, hr1]
        rfl
      walk_at "go"
      refine w_ixL hp06 ex ?_
      walk_at "go"
      refine w_splW (by decide +kernel) (line_of (by omega)) (fun p H7 hp np => ?_)
      walk_at "go"
      refine ⟨d, ln, wd, pp, p, us, M, Txt.split r sp1, rfl, lsX_same L6 np.same, W, hp, fun x hx => Nat.le_trans (piece_mem hx).1 (Nat.le_trans rl2 (by decide)), split_ne _ _, fun M' e d' ln' wd' pp' us' H8 L8 s8 => ?_, fun e H8 s8 => ?_⟩
      · walk_at "go"
        exact ⟨_, d', ln', wd', pp', us', M', rfl, by rw [tk, readTo_snoc ne, hR]; exact e, add_ok W e, L8, (S6.trans np.same).trans s8, (S56.trans np.same).trans s8⟩
      · walk_at "go"
        have := q1 (i + 1) hil ⟨M, hR⟩ (by rw [tk, readTo_snoc ne, hR]; exact e) H8 ((S6.trans np.same).trans s8)
        rw [show (((i + 1 : Nat) : Int)) = 1 + (i : Int) by omega] at this
        exact this
    · rintro σ H6 ⟨y5, d, ln, wd, pp, us, M, rfl, hR, W, L6, S6, S56⟩
      have hR : readTo (rwsT t) = some M := by
        have : (rwsT t).take (rs.length + 1) = rwsT t := by rw [er]; exact List.take_of_length_le (by rw [List.length_cons]; exact Nat.le_refl _)
        rw [this] at hR
        exact hR
      have ne : ¬ rwsT t = [] := by rw [er]; exact fun z => nomatch z
      have hp06 := S56.at hp05
      walk_at "go"
      refine w_ixL hp06 (show atI ((rwsT t ++ [rstT t]).map V.str) (-1) = some (V.str (rstT t)) by rw [List.map_append]; exact atI_last _ _) ?_
      walk_at "go"
      refine w_ifE2 (fun h => ?_) (fun h => ?_)
      · walk_at "go"
        exact q3 M hR ne h H6 S6
      · walk_at "go"
        rw [List.length_map, List.length_append]
        have := q2 ⟨M, hR⟩ (.inr h) H6 S6
        rw [show (((rwsT t).length + [rstT t].length : Nat) : Int) - 1 = ((rwsT t).length : Nat) by show (((rwsT t).length + 1 : Nat) : Int) - 1 = _; omega]
        exact this
end
end Sf
namespace Sf
open PySem PySem.Spec PyProof.Rows L2 TL
/-! ### xs.insert(i, y) -/
def rInsert : V → List V → Hp → VK → Prop := fun x vs H Q => ∃ (l : Addr) (xs : List V) (i : Int) (y : V), x = .ref l ∧ vs = [.int i, y] ∧ H l = some (.lst xs) ∧ xs.length < sizeLine ∧ 0 ≤ i ∧ i < 2 ^ 63 ∧ Q .non (upd H l (.lst (xs.take i.toNat ++ [y] ++ xs.drop i.toNat)))
theorem mt_insN {X : Cx} : MtR X "list.insert" rInsert := mt_insert
end Sf
namespace Sf
open PySem PySem.Spec PyProof.Rows L2 TL
/-! ### texts cut and joined: their sizes -/
def WT (l : List Str) : Nat := (l.map fun r => r.length + 1).sum
def ChO (x : Str) : Prop := ∀ c ∈ tl x, c < 1114112
theorem joinL_len {s : Nat} : ∀ {ps : List (List Nat)}, ps ≠ [] → (joinL [s] ps).length + 1 = (ps.map fun p => p.length + 1).sum
  | [], h => absurd rfl h
  | [p], _ => by simp [joinL]
  | p :: q :: r, _ => by
    have ih := joinL_len (s := s) (ps := q :: r) (fun z => nomatch z)
    rw [List.map_cons, List.sum_cons, ← ih]
    show (p ++ ([s] ++ joinL [s] (q :: r))).length + 1 = _
    rw [List.length_append, List.length_append]
    show p.length + (1 + _) + 1 = _
    omega
theorem wt_tl (l : List Str) : WT l = ((l.map tl).map fun p => p.length + 1).sum := by
  unfold WT
  rw [List.map_map]
  refine congrArg List.sum (List.map_congr_left fun r _ => ?_)
  show r.length + 1 = (tl r).length + 1
  rw [len_tl]
theorem wt_split {a b : Str} {s : Nat} (hb : tl b = [s]) : WT (Txt.split a b) = a.length + 1 := by
  have e := congrArg tl (StrLaws.join_split a b)
  rw [tl_join, hb] at e
  rw [wt_tl, ← joinL_len (s := s) (fun z => split_ne a b (List.map_eq_nil_iff.mp z)), e, ← len_tl]
theorem wt_join {b : Str} {l : List Str} {s : Nat} (hb : tl b = [s]) : (Txt.join b l).length ≤ WT l := by
  rw [len_tl, join_eq, tl_join, hb]
  cases l with
  | nil => exact Nat.zero_le _
  | cons x r =>
    have := joinL_len (s := s) (ps := (x :: r).map tl) (fun z => nomatch z)
    rw [← wt_tl] at this
    omega
theorem wt_set : ∀ {l : List Str} {i : Nat} {o v : Str}, l[i]? = some o → WT (l.set i v) + (o.length + 1) = WT l + (v.length + 1)
  | [], _, _, _, h => by cases h
  | x :: l, 0, o, v, h => by
    have : x = o := Option.some.inj h
    subst this
    show ((v.length + 1) :: l.map fun r => r.length + 1).sum + _ = ((x.length + 1) :: l.map fun r => r.length + 1).sum + _
    rw [List.sum_cons, List.sum_cons]
    omega
  | x :: l, i + 1, o, v, h => by
    have ih := wt_set (l := l) (i := i) (o := o) (v := v) (by simpa using h)
    show ((x.length + 1) :: (l.set i v).map fun r => r.length + 1).sum + _ = ((x.length + 1) :: l.map fun r => r.length + 1).sum + _
    rw [List.sum_cons, List.sum_cons]
    have ih : ((l.set i v).map fun r => r.length + 1).sum + (o.length + 1) = (l.map fun r => r.length + 1).sum + (v.length + 1) := ih
    omega
theorem wt_app (l m : List Str) : WT (l ++ m) = WT l + WT m := by
  unfold WT
  rw [List.map_append, List.sum_append]
theorem wt_ins (l : List Str) (i : Nat) (y : Str) : WT (l.take i ++ [y] ++ l.drop i) = WT l + (y.length + 1) := by
  have e := congrArg WT (List.take_append_drop i l)
  rw [wt_app] at e
  rw [wt_app, wt_app]
  show WT (l.take i) + (y.length + 1 + 0) + _ = _
  omega
theorem wt_mem {l : List Str} {y : Str} (h : y ∈ l) : y.length + 1 ≤ WT l := by
  obtain ⟨a, b, rfl⟩ := List.append_of_mem h
  rw [wt_app]
  show _ ≤ WT a + ((y.length + 1) :: b.map fun r => r.length + 1).sum
  rw [List.sum_cons]
  omega
theorem wt_erase (l : List Str) (i : Nat) : WT (l.eraseIdx i) ≤ WT l := by
  unfold WT
  induction l generalizing i with
  | nil => exact Nat.le_refl _
  | cons x l ih =>
    cases i with
    | zero =>
      show (l.map fun r => r.length + 1).sum ≤ ((x.length + 1) :: l.map fun r => r.length + 1).sum
      rw [List.sum_cons]
      omega
    | succ i =>
      show ((x.length + 1) :: (l.eraseIdx i).map fun r => r.length + 1).sum ≤ ((x.length + 1) :: l.map fun r => r.length + 1).sum
      rw [List.sum_cons, List.sum_cons]
      have := ih i
      omega
theorem sum_len_le : ∀ l : List Str, (l.map (·.length)).sum ≤ WT l
  | [] => Nat.le_refl _
  | x :: l => by
    have ih := sum_len_le l
    show (x.length :: l.map (·.length)).sum ≤ ((x.length + 1) :: l.map fun r => r.length + 1).sum
    rw [List.sum_cons, List.sum_cons]
    have ih : (l.map (·.length)).sum ≤ (l.map fun r => r.length + 1).sum := ih
    omega
theorem joinL_ch {s : List Nat} {c : Nat} : ∀ {ps : List (List Nat)}, c ∈ joinL s ps → c ∈ s ∨ ∃ p ∈ ps, c ∈ p
  | [], h => by cases h
  | [p], h => .inr ⟨p, List.mem_cons_self, h⟩
  | p :: q :: r, h => by
    have h : c ∈ p ++ (s ++ joinL s (q :: r)) := h
    rcases List.mem_append.mp h with h | h
    · exact .inr ⟨p, List.mem_cons_self, h⟩
    · rcases List.mem_append.mp h with h | h
      · exact .inl h
      · rcases joinL_ch h with h | ⟨x, hx, h⟩
        · exact .inl h
        · exact .inr ⟨x, List.mem_cons_of_mem _ hx, h⟩
theorem ch_join {b : Str} {l : List Str} (hb : ChO b) (hl : ∀ x ∈ l, ChO x) : ChO (Txt.join b l) := fun c hc => by
  rw [join_eq, tl_join] at hc
  rcases joinL_ch hc with h | ⟨p, hp, h⟩
  · exact hb c h
  · obtain ⟨x, hx, rfl⟩ := List.mem_map.mp hp
    exact hl x hx c h
theorem ch_split {a b x : Str} (ha : ChO a) (h : x ∈ Txt.split a b) : ChO x := fun c hc => ha c ((piece_mem h).2 c hc)
theorem ch_app {a b : Str} (ha : ChO a) (hb : ChO b) : ChO (a ++ b) := fun c hc => by
  rw [tl_append] at hc
  rcases List.mem_append.mp hc with h | h
  · exact ha c h
  · exact hb c h
theorem ch_cut {z : Str} (h : ChO z) (lo hi : Option Int) : ChO (cutS z lo hi) := fun c hc => by
  rw [tl_cut] at hc
  first
    | exact h c (List.mem_of_mem_drop (List.mem_of_mem_take hc))
    | exact h c (List.mem_of_mem_take (List.mem_of_mem_drop hc))
theorem len_cutS (z : Str) (lo hi : Option Int) : (cutS z lo hi).length ≤ z.length := by
  rw [len_tl, tl_cut, len_tl]
  first
    | done
    | (simp only [List.length_take, List.length_drop]; omega)
theorem ch_of {x : Str} (h : ((tl x).all fun c => decide (c < 1114112)) = true) : ChO x := fun c hc => of_decide_eq_true (List.all_eq_true.mp h c hc)
theorem w_popE {p : Addr} {xs : List V} {i : Int} {H : Hp} {Q : VK} (h : H p = some (.lst xs)) (h0 : 0 ≤ i) (h1 : i < xs.length) (hz : xs.length ≤ 100000) (k : ∀ x H1, H1 p = some (.lst (xs.eraseIdx i.toNat)) → Of p H H1 → Q x H1) : rPopAt (.ref p) [.int i] H Q := by
  have hi : i.toNat < xs.length := by omega
  refine ⟨p, xs, i, i.toNat, xs[i.toNat], rfl, rfl, h, by omega, by omega, ?_, List.getElem?_eq_getElem hi, k _ _ upd_same .mk'⟩
  unfold seqIndex?
  simp only [if_neg (show ¬ i < 0 by omega), Bool.and_eq_true, decide_eq_true_eq]
  rw [if_pos ⟨h0, h1⟩]
theorem w_insG {H : Hp} {Q : VK} {l : Addr} {xs : List V} {y : V} {i : Int} (h : H l = some (.lst xs)) (hl : xs.length < sizeLine) (i0 : 0 ≤ i) (i1 : i ≤ 1000000) (k : ∀ H1, H1 l = some (.lst (xs.take i.toNat ++ [y] ++ xs.drop i.toNat)) → Of l H H1 → Q .non H1) : rInsert (.ref l) [.int i, y] H Q :=
  ⟨l, xs, i, y, rfl, rfl, h, hl, i0, by omega, k _ upd_same .mk'⟩
end Sf
namespace Sf
open PySem PySem.Spec PyProof.Rows L2 TL
section
variable {P : Program} {w : World} {K : PySem.W.Frag} {mg : Str → Option Value} {base : Heap}
/-! ### a text bent -/
def spLbe : Sp := fun vs H Q _ => ∃ (b l : Addr) (t : Str), vs = [.ref b, .str t] ∧ Bag H b l ∧ t.length ≤ 6000 ∧ ChO t ∧ ∀ (x : Str) (H' : Hp), x.length ≤ 2 * t.length + 20 → ChO x → Bag H' b l → Fx b H H' → Q (.str x) H'
theorem sc_lbe : FnScope ["_law_bag", "_law_text", "_law_rows", "_law_at", "_law_to", "_law_kind", "_law_odd", "_law_words", "_law_spot", "_law_sign_here"] ["_law_bag", "_law_text"] (defScope s__law_bent) := ⟨rfl, rfl, rfl, by decide +kernel, rfl, by decide +kernel, by decide +kernel⟩
theorem has_lbe (F : FnAt K mg "_law_bent" s__law_bent ["_law_bag", "_law_text"]) (B : Blt mg) (h_Pu : HasPull P w K mg base) (h_Lpk : HasLpk P w K mg base) : Has P w K mg base 3 "_law_bent" ["_law_bag", "_law_text"] spLbe := F.has fun F => by
  obtain ⟨f_Pu, fd_Pu, g_Pu, k_Pu, b_Pu, G_Pu⟩ := h_Pu
  obtain ⟨f_Lpk, fd_Lpk, g_Lpk, k_Lpk, b_Lpk, G_Lpk⟩ := h_Lpk
  refine F.ok sc_lbe (fun vs H Q E h => ?_) (fun cdv A outer s H vs Q E hr h => ?_)
  · obtain ⟨b, l, t, rfl, _⟩ := h
    rfl
  · obtain ⟨b, l, t, rfl, hB, tl1, tc, q⟩ := h
    refine ⟨_, (pss_cons (ps_set (i := 2) sc_lbe.nd rfl (.inl rfl) (pe_m1 PySem.F.slot_str_split PySem.F.type_str_split mt_splitW (pv 1) pe_str)) (pss_cons (ps_par (i := 3) (j := 4) (by rfl) sc_lbe.nd rfl rfl (by decide) rfl rfl (pa_cons (pe_call G_Pu (hr.mono (by decide)) (by rfl) g_Pu k_Pu b_Pu .nil pass0 (pa_cons (pv 0) (pa_cons (pe_callB call_lenQ (by rfl) B.len PySem.boot_len (pa_cons (pv 2) pa_nil)) pa_nil))) (pa_cons (pe_call G_Pu (hr.mono (by decide)) (by rfl) g_Pu k_Pu b_Pu .nil pass0 (pa_cons (pv 0) (pa_cons (pe_callB call_lenQ (by rfl) B.len PySem.boot_len (pa_cons (pv 2) pa_nil)) pa_nil))) pa_nil)) (by rfl)) (pss_cons (ps_set (i := 5) sc_lbe.nd rfl (.inl rfl) (pe_call G_Pu (hr.mono (by decide)) (by rfl) g_Pu k_Pu b_Pu .nil pass0 (pa_cons (pv 0) (pa_cons pe_int pa_nil)))) (pss_cons (ps_set (i := 6) sc_lbe.nd rfl (.inl rfl) (pe_lst (pa_cons pe_str (pa_cons pe_str (pa_cons pe_str (pa_cons pe_str (pa_cons pe_str (pa_cons pe_str (pa_cons pe_str (pa_cons pe_str (pa_cons pe_str (pa_cons pe_str pa_nil)))))))))))) (pss_cons (ps_if (pt_cmpR op_eq (pv 5) pe_int (nomark _)) (pss_one (ps_expr (pe_bm PySem.F.plainAttrs_list PySem.F.slot_list_pop PySem.F.type_list_pop mt_popAt (pv 2) (pa_cons (pv 3) pa_nil)))) (pss_one (ps_if (pt_cmpR op_eq (pv 5) pe_int (nomark _)) (pss_one (ps_expr (pe_bm PySem.F.plainAttrs_list PySem.F.slot_list_insert PySem.F.type_list_insert mt_insN (pv 2) (pa_cons (pv 4) (pa_cons (pe_ix ix_list (pv 2) (pv 3) (fun _ _ => rfl)) pa_nil))))) (pss_one (ps_if (pt_cmpR op_eq (pv 5) pe_int (nomark _)) (pss_one (ps_asg (pe_tup (pa_cons (pe_ix ix_list (pv 2) (pv 4) (fun _ _ => rfl)) (pa_cons (pe_ix ix_list (pv 2) (pv 3) (fun _ _ => rfl)) pa_nil))) (pg_tup rfl (pgs_cons (pg_sub (pv 2) (pv 3) set_list) (pgs_cons (pg_sub (pv 2) (pv 4) set_list) pgs_nil))))) (pss_one (ps_if (pt_cmpR op_eq (pv 5) pe_int (nomark _)) (pss_one (ps_expr (pe_bm PySem.F.plainAttrs_list PySem.F.slot_list_insert PySem.F.type_list_insert mt_insN (pv 2) (pa_cons (pv 3) (pa_cons (pe_call G_Lpk (hr.mono (by decide)) (by rfl) g_Lpk k_Lpk b_Lpk .nil pass0 (pa_cons (pv 0) (pa_cons (pv 6) pa_nil))) pa_nil))))) (pss_one (ps_if (pt_cmpR op_eq (pv 5) pe_int (nomark _)) (pss_cons (ps_set (i := 7) sc_lbe.nd rfl (.inl rfl) (pe_m1 PySem.F.slot_str_split PySem.F.type_str_split mt_splitW (pe_ix ix_list (pv 2) (pv 3) (fun _ _ => rfl)) pe_str)) (pss_cons (ps_asg (pe_ix ix_list (pe_lst (pa_cons pe_str (pa_cons pe_str (pa_cons pe_str (pa_cons pe_str (pa_cons pe_str (pa_cons pe_str (pa_cons pe_str (pa_cons pe_str (pa_cons pe_str pa_nil)))))))))) (pe_call G_Pu (hr.mono (by decide)) (by rfl) g_Pu k_Pu b_Pu .nil pass0 (pa_cons (pv 0) (pa_cons pe_int pa_nil))) (fun _ _ => rfl)) (pg_sub (pv 7) (pe_call G_Pu (hr.mono (by decide)) (by rfl) g_Pu k_Pu b_Pu .nil pass0 (pa_cons (pv 0) (pa_cons (pe_callB call_lenQ (by rfl) B.len PySem.boot_len (pa_cons (pv 7) pa_nil)) pa_nil))) set_list)) (pss_one (ps_asg (pe_m1 PySem.F.slot_str_join PySem.F.type_str_join mt_joinN pe_str (pv 7)) (pg_sub (pv 2) (pv 3) set_list))))) (pss_cons (ps_set (i := 8) sc_lbe.nd rfl (.inl rfl) (pe_call G_Pu (hr.mono (by decide)) (by rfl) g_Pu k_Pu b_Pu .nil pass0 (pa_cons (pv 0) (pa_cons (pe_op op_add (pe_callB call_lenS (by rfl) B.len PySem.boot_len (pa_cons (pv 1) pa_nil)) pe_int) pa_nil)))) (pss_cons (ps_set (i := 9) sc_lbe.nd rfl (.inl rfl) (pe_ix ix_str pe_str (pe_call G_Pu (hr.mono (by decide)) (by rfl) g_Pu k_Pu b_Pu .nil pass0 (pa_cons (pv 0) (pa_cons pe_int pa_nil))) (fun _ _ => rfl))) (pss_one (ps_ret (pe_ix ix_list (pe_lst (pa_cons (pe_op op_addS (pe_op op_addS (pe_slice sl_str (pv 1) po_none (po_some (pv 8))) (pv 9)) (pe_slice sl_str (pv 1) (po_some (pv 8)) po_none)) (pa_cons (pe_op op_addS (pe_slice sl_str (pv 1) po_none (po_some (pv 8))) (pe_slice sl_str (pv 1) (po_some (pe_op op_add (pv 8) pe_int)) po_none)) (pa_cons (pe_slice sl_str (pv 1) po_none (po_some (pe_un un_neg pe_int))) (pa_cons (pe_op op_addS (pv 1) pe_str) pa_nil))))) (pe_op op_sub (pv 5) pe_int) (fun _ _ => rfl))))))))))))))) (pss_one (ps_ret (pe_m1 PySem.F.slot_str_join PySem.F.type_str_join mt_joinN pe_str (pv 2))))))))), ?_⟩
    have sl := PyProof.Rows.split_le t nl1
    have tn : tl nl1 = [10] := by decide +kernel
    have ts1 : tl sp1 = [32] := by decide +kernel
    have cn : ChO nl1 := ch_of (by decide +kernel)
    have cs : ChO sp1 := ch_of (by decide +kernel)
    have wt := wt_split (a := t) tn
    generalize hrs : Txt.split t nl1 = rs at wt
    have rc : ∀ x ∈ rs, ChO x := fun x hx => ch_split tc (by rw [hrs]; exact hx)
    have rp : 1 ≤ rs.length := by rw [← hrs]; exact PyProof.Rows.split_pos _ _
    have rl : rs.length ≤ 6002 := by rw [← hrs]; omega
    walk_at "go"
    refine w_splW (by decide +kernel) (line_of (by omega)) (fun p H1 hp np => ?_)
    have hp : H1 p = some (.lst (rs.map V.str)) := by rw [← hrs]; exact hp
    have B1 := hB.nw np
    have pb : p ≠ b := hB.ne np.nn
    walk_at "go"
    rw [List.length_map]
    refine ⟨b, l, _, rfl, B1, by omega, by omega, fun at_ H2 a0 a1 B2 f2 => ?_⟩
    have hp2 := f2.at pb hp
    walk_at "go"
    rw [List.length_map]
    refine ⟨b, l, _, rfl, B2, by omega, by omega, fun to_ H3 t0 t1 B3 f3 => ?_⟩
    have hp3 := f3.at pb hp2
    walk_at "go"
    refine ⟨b, l, 9, rfl, B3, by decide, by decide, fun kd H4 k0 k1 B4 f4 => ?_⟩
    have hp4 := f4.at pb hp3
    walk_at "go"
    refine w_newL (by walk_at "sz") (fun po H5 hpo npo => ?_)
    have hp5 := npo.at hp4
    have B5 := B4.nw npo
    have pob : po ≠ b := B4.ne npo.nn
    have f05 : Fx b H H5 := ((((Fx.of np.same).trans f2).trans f3).trans f4).same npo.same
    have lA : ∀ {i : Int}, 0 ≤ i → i < (rs.length : Nat) → ∃ x, atI (rs.map V.str) i = some (V.str x) ∧ x ∈ rs ∧ rs[i.toNat]? = some x := fun {i} h0 h1 => by
      obtain ⟨j, rfl⟩ : ∃ j : Nat, i = (j : Int) := ⟨i.toNat, by omega⟩
      have hj : j < rs.length := by omega
      refine ⟨rs[j], ?_, List.getElem_mem hj, List.getElem?_eq_getElem hj⟩
      refine atI_nat ?_
      rw [List.getElem?_map, List.getElem?_eq_getElem hj]
      rfl
    have pl : p ≠ l := hB.neL np.nn
    have fo : ∀ {H6 H7 : Hp}, Fx b H H6 → Of p H6 H7 → Fx b H H7 := fun f o a x e n => o.at (ne_of_none e np.nn) (f a x e n)
    obtain ⟨xa, ea, ma, ga⟩ := lA a0 a1
    obtain ⟨xt, et, mt, gt⟩ := lA t0 t1
    have wxa := wt_mem ma
    have wxt := wt_mem mt
    have ixn : ∀ {i : Int} {m : Nat}, 0 ≤ i → i < (m : Nat) → ixN m i = some i.toNat := fun {i m} h0 h1 => by
      unfold ixN
      rw [if_pos h0, if_pos h1]
    walk_at "gs"
    refine w_seqJ (fun σ HJ => ∃ (y7 y8 y9 : Option V) (rs' : List Str), σ = [some (.ref b), some (.str t), some (.ref p), some (.int at_), some (.int to_), some (.int kd), some (.ref po), y7, y8, y9] ∧ HJ p = some (.lst (rs'.map V.str)) ∧ WT rs' ≤ 2 * t.length + 15 ∧ (∀ x ∈ rs', ChO x) ∧ rs'.length ≤ 10000 ∧ Bag HJ b l ∧ Fx b H HJ) ?_ ?_
    · intro NN hJ
      walk_at "go"
      refine w_if2 (fun h0 => ?_) (fun h0 => ?_)
      · walk_at "go"
        refine w_popE hp5 a0 (by rw [List.length_map]; omega) (by rw [List.length_map]; omega) (fun x H6 h6 o6 => ?_)
        rw [erase_map] at h6
        have := wt_erase rs at_.toNat
        exact hJ _ _ ⟨_, _, _, rs.eraseIdx at_.toNat, rfl, h6, by omega, fun x hx => rc x (List.mem_of_mem_eraseIdx hx), by rw [List.length_eraseIdx]; split <;> omega, B5.off pb pl o6, fo f05 o6⟩
      walk_at "go"
      refine w_if2 (fun h1 => ?_) (fun h1 => ?_)
      · walk_at "go"
        refine w_ixL hp5 ea ?_
        walk_at "go"
        refine w_insG hp5 (by rw [List.length_map]; exact lineLt_of (by omega)) t0 (by omega) (fun H6 h6 o6 => ?_)
        rw [← List.map_take, ← List.map_drop, show [V.str xa] = [xa].map V.str from rfl, ← List.map_append, ← List.map_append] at h6
        have := wt_ins rs to_.toNat xa
        refine hJ _ _ ⟨_, _, _, _, rfl, h6, by omega, fun x hx => ?_, ?_, B5.off pb pl o6, fo f05 o6⟩
        · rcases List.mem_append.mp hx with h | h
          · rcases List.mem_append.mp h with h | h
            · exact rc x (List.mem_of_mem_take h)
            · rw [List.mem_singleton.mp h]; exact rc _ ma
          · exact rc x (List.mem_of_mem_drop h)
        · rw [List.length_append, List.length_append, List.length_take, List.length_drop]
          show min _ _ + 1 + _ ≤ _
          omega
      walk_at "go"
      refine w_if2 (fun h2 => ?_) (fun h2 => ?_)
      · walk_at "go"
        refine w_ixL hp5 et ?_
        walk_at "go"
        refine w_ixL hp5 ea ?_
        walk_at "go"
        refine w_newT (by walk_at "sz") (fun t6 H6 ht6 nt6 => ?_)
        have hp6 := nt6.at hp5
        walk_at "go"
        refine w_setL hp6 (ixn a0 (by rw [List.length_map]; omega)) (fun H7 h7 o7 => ?_)
        walk_at "go"
        refine w_setL h7 (ixn t0 (by rw [List.length_set, List.length_map]; omega)) (fun H8 h8 o8 => ?_)
        walk_at "go"
        rw [← List.map_set, ← List.map_set] at h8
        have w1 := wt_set (v := xt) ga
        have g2 : (rs.set at_.toNat xt)[to_.toNat]? = some xt := by
          by_cases z : at_.toNat = to_.toNat
          · rw [z, List.getElem?_set_self (by omega)]
          · rw [List.getElem?_set_ne z]
            exact gt
        have w2 := wt_set (v := xa) g2
        refine hJ _ _ ⟨_, _, _, _, rfl, h8, by omega, fun x hx => ?_, by rw [List.length_set, List.length_set]; omega, ((B5.nw nt6).off pb pl o7).off pb pl o8, fo (fo (f05.same nt6.same) o7) o8⟩
        rcases List.mem_or_eq_of_mem_set hx with h | h
        · rcases List.mem_or_eq_of_mem_set h with h | h
          · exact rc x h
          · rw [h]; exact rc _ mt
        · rw [h]; exact rc _ ma
      walk_at "go"
      refine w_if2 (fun h3 => ?_) (fun h3 => ?_)
      · walk_at "go"
        refine ⟨b, l, po, _, rfl, B5, hpo, pob, (show 1 ≤ 10 by decide), (show 10 ≤ 10000 by decide), fun v H6 hv B6 f6 => ?_⟩
        obtain ⟨y, rfl, yl, yc⟩ : ∃ y, v = .str y ∧ y.length ≤ 12 ∧ ChO y := by
          simp only [List.mem_cons, List.not_mem_nil, or_false] at hv
          rcases hv with rfl | rfl | rfl | rfl | rfl | rfl | rfl | rfl | rfl | rfl <;> exact ⟨_, rfl, by decide +kernel, ch_of (by decide +kernel)⟩
        walk_at "go"
        refine w_insG (f6.at pb hp5) (by rw [List.length_map]; exact lineLt_of (by omega)) a0 (by omega) (fun H7 h7 o7 => ?_)
        rw [← List.map_take, ← List.map_drop, show [V.str y] = [y].map V.str from rfl, ← List.map_append, ← List.map_append] at h7
        have := wt_ins rs at_.toNat y
        refine hJ _ _ ⟨_, _, _, _, rfl, h7, by omega, fun x hx => ?_, ?_, B6.off pb pl o7, fo (f05.trans f6) o7⟩
        · rcases List.mem_append.mp hx with h | h
          · rcases List.mem_append.mp h with h | h
            · exact rc x (List.mem_of_mem_take h)
            · rw [List.mem_singleton.mp h]; exact yc
          · exact rc x (List.mem_of_mem_drop h)
        · rw [List.length_append, List.length_append, List.length_take, List.length_drop]
          show min _ _ + 1 + _ ≤ _
          omega
      walk_at "go"
      refine w_if2 (fun h4 => ?_) (fun h4 => ?_)
      · walk_at "go"
        refine w_ixL hp5 ea ?_
        walk_at "go"
        refine w_splW (by decide +kernel) (line_of (by omega)) (fun pw H6 hpw npw => ?_)
        walk_at "go"
        refine w_newL (by walk_at "sz") (fun p7 H7 hp7 np7 => ?_)
        walk_at "go"
        have B7 := (B5.nw npw).nw np7
        have wpb : pw ≠ b := B5.ne npw.nn
        have wpl : pw ≠ l := B5.neL npw.nn
        have hpw7 := np7.at hpw
        have hp57 := np7.at (npw.at hp5)
        have p7b : p7 ≠ b := (B5.nw npw).ne np7.nn
        have wsl := wt_split (a := xa) ts1
        have wsp : 1 ≤ (Txt.split xa sp1).length := PyProof.Rows.split_pos _ _
        have wsc : ∀ x ∈ Txt.split xa sp1, ChO x := fun x hx => ch_split (rc _ ma) hx
        have wsl2 := PyProof.Rows.split_le xa sp1
        have xal : xa.length ≤ 6000 := by
          have := (piece_mem (a := t) (b := nl1) (by rw [hrs]; exact ma)).1
          omega
        refine ⟨b, l, 9, rfl, B7, by decide, by decide, fun e H8 e0 e1 B8 f8 => ?_⟩
        obtain ⟨y, hy, yl, yc⟩ : ∃ y, atI [V.str (Str.ofString "-"), V.str (Str.ofString "a"), V.str (Str.ofString "3"), V.str (Str.ofString "1"), V.str (Str.ofString "ab"), V.str (Str.ofString "x"), V.str (Str.ofString ""), V.str (Str.ofString "99"), V.str (Str.ofString "aB")] e = some (V.str y) ∧ y.length ≤ 2 ∧ ChO y := by
          have : e = 0 ∨ e = 1 ∨ e = 2 ∨ e = 3 ∨ e = 4 ∨ e = 5 ∨ e = 6 ∨ e = 7 ∨ e = 8 := by omega
          rcases this with h | h | h | h | h | h | h | h | h <;> rw [h] <;> exact ⟨_, rfl, by decide +kernel, ch_of (by decide +kernel)⟩
        refine w_ixL (f8.at p7b hp7) hy ?_
        have hpw8 := f8.at wpb hpw7
        have hp58 := f8.at pb hp57
        walk_at "go"
        rw [List.length_map]
        refine ⟨b, l, ((Txt.split xa sp1).length : Nat), rfl, B8, by omega, by omega, fun j H9 j0 j1 B9 f9 => ?_⟩
        have hpw9 := f9.at wpb hpw8
        have hp59 := f9.at pb hp58
        refine w_setL hpw9 (ixn j0 (by rw [List.length_map]; exact j1)) (fun HA hA oA => ?_)
        rw [← List.map_set] at hA
        have wp : p ≠ pw := ne_of_none hp5 npw.nn
        walk_at "go"
        have hjn : j.toNat < (Txt.split xa sp1).length := by omega
        obtain ⟨o, ho⟩ : ∃ o, (Txt.split xa sp1)[j.toNat]? = some o := ⟨_, List.getElem?_eq_getElem hjn⟩
        have w1 := wt_set (v := y) ho
        generalize hws : (Txt.split xa sp1).set j.toNat y = ws at w1
        have hA : HA pw = some (.lst (ws.map V.str)) := by rw [← hws]; exact hA
        have wc : ∀ x ∈ ws, ChO x := fun x hx => by
          rw [← hws] at hx
          rcases List.mem_or_eq_of_mem_set hx with h | h
          · exact wsc x h
          · rw [h]; exact yc
        have wj := wt_join (l := ws) ts1
        have wlen : ws.length ≤ 6002 := by rw [← hws, List.length_set]; omega
        have ws1 := sum_len_le ws
        refine w_join hA (by rw [show (Str.ofString " ").length = 1 from by decide +kernel]; omega) ?_
        have hpA := oA.at wp hp59
        have cj : ChO (Txt.join sp1 ws) := ch_join cs wc
        have hpwn : H pw = none := by
          cases e : H pw with
          | none => rfl
          | some o =>
            have := f05 pw o e wpb
            rw [npw.nn] at this
            cases this
        have f09 : Fx b H H9 := (((f05.same npw.same).same np7.same).trans f8).trans f9
        have f0A : Fx b H HA := fun a x e n => oA.at (ne_of_none e hpwn) (f09 a x e n)
        walk_at "go"
        refine w_setL hpA (ixn a0 (by rw [List.length_map]; omega)) (fun HB hB' oB => ?_)
        walk_at "go"
        rw [← List.map_set] at hB'
        have w2 := wt_set (v := Txt.join sp1 ws) ga
        refine hJ _ _ ⟨_, _, _, rs.set at_.toNat (Txt.join sp1 ws), rfl, hB', by omega, fun x hx => ?_, by rw [List.length_set]; omega, (B9.off wpb wpl oA).off pb pl oB, fo f0A oB⟩
        rcases List.mem_or_eq_of_mem_set hx with h | h
        · exact rc x h
        · rw [h]; exact cj
      walk_at "go"
      refine w_lenS (line_of (by omega)) ?_
      walk_at "go"
      refine ⟨b, l, _, rfl, B5, by omega, by omega, fun so H6 s0 s1 B6 f6 => ?_⟩
      walk_at "go"
      refine ⟨b, l, 8, rfl, B6, by decide, by decide, fun e H7 e0 e1 B7 f7 => ?_⟩
      obtain ⟨c, hc, cl⟩ : ∃ c, atI (Str.ofString "aAz19 -\n").cps.toList e = some c ∧ c < 1114112 := by
        have ll : (Str.ofString "aAz19 -\n").cps.toList.length = 8 := by decide +kernel
        have al : ∀ c ∈ (Str.ofString "aAz19 -\n").cps.toList, c < 1114112 := by decide +kernel
        obtain ⟨j, rfl⟩ : ∃ j : Nat, e = (j : Int) := ⟨e.toNat, by omega⟩
        have hj : j < (Str.ofString "aAz19 -\n").cps.toList.length := by rw [ll]; omega
        exact ⟨_, atI_nat (List.getElem?_eq_getElem hj), al _ (List.getElem_mem hj)⟩
      refine w_ixS (by decide +kernel) hc ?_
      have f07 := (f05.trans f6).trans f7
      have co : ChO (one c) := fun d hd => by
        have : d = c := List.mem_singleton.mp hd
        rw [this]; exact cl
      have lo : (one c).length = 1 := len_one c
      walk_at "go"
      have c1 := len_cutS t none (some so)
      have c2 := len_cutS t (some so) none
      have c3 := len_cutS t (some (so + 1)) none
      have c4 := len_cutS t none (some (-1))
      have hnl : (Str.ofString "\n").length = 1 := by decide +kernel
      refine w_slS (line_of (by omega)) ?_
      walk_at "go"
      refine w_addS (line_of (by (try simp only [len_app]); omega)) ?_
      walk_at "go"
      refine w_slS (line_of (by omega)) ?_
      walk_at "go"
      refine w_addS (line_of (by (try simp only [len_app]); omega)) ?_
      walk_at "go"
      refine w_slS (line_of (by omega)) ?_
      walk_at "go"
      refine w_slS (line_of (by omega)) ?_
      walk_at "go"
      refine w_addS (line_of (by (try simp only [len_app]); omega)) ?_
      walk_at "go"
      refine w_slS (line_of (by omega)) ?_
      walk_at "go"
      refine w_addS (line_of (by (try simp only [len_app]); omega)) ?_
      walk_at "go"
      refine w_newL (by walk_at "sz") (fun p8 H8 hp8 np8 => ?_)
      walk_at "go"
      have k5 : kd = 5 ∨ kd = 6 ∨ kd = 7 ∨ kd = 8 := by omega
      obtain ⟨x, hx, xl, xc⟩ : ∃ x, atI [V.str (cutS t none (some so) ++ one c ++ cutS t (some so) none), V.str (cutS t none (some so) ++ cutS t (some (so + 1)) none), V.str (cutS t none (some (-1))), V.str (t ++ Str.ofString "\n")] (kd - 5) = some (V.str x) ∧ x.length ≤ 2 * t.length + 20 ∧ ChO x := by
        rcases k5 with h | h | h | h <;> rw [h]
        · exact ⟨_, rfl, by simp only [len_app]; omega, ch_app (ch_app (ch_cut tc _ _) co) (ch_cut tc _ _)⟩
        · exact ⟨_, rfl, by simp only [len_app]; omega, ch_app (ch_cut tc _ _) (ch_cut tc _ _)⟩
        · exact ⟨_, rfl, by omega, ch_cut tc _ _⟩
        · exact ⟨_, rfl, by simp only [len_app]; omega, ch_app tc cn⟩
      refine w_ixL hp8 hx ?_
      exact q x H8 xl xc (B7.nw np8) (f07.same np8.same)
    · rintro σ HJ ⟨y7, y8, y9, rs', rfl, hpJ, wJ, cJ, lJ, BJ, fJ⟩
      walk_at "go"
      have wj := wt_join (l := rs') tn
      have e : (rs'.map (·.length)).sum + rs'.length * (Str.ofString "\n").length ≤ 16777216 := by
        have e1 := sum_len_le rs'
        rw [show (Str.ofString "\n").length = 1 from by decide +kernel]
        omega
      refine w_join hpJ e ?_
      exact q _ HJ (by show (Txt.join nl1 rs').length ≤ _; omega) (ch_join cn cJ) BJ fJ
end
end Sf
namespace Sf
open PySem PySem.Spec PyProof.Rows L2 TL
/-! ### what reading a text comes to -/
def RdR (t : Str) : Option Nat → Prop
  | none => ∃ M, readTo (rwsT t) = some M ∧ ¬ rwsT t = [] ∧ rstT t = Str.ofString ""
  | some i => (i < (rwsT t).length ∧ (∃ M, readTo ((rwsT t).take i) = some M) ∧ readTo ((rwsT t).take (i + 1)) = none) ∨ ((∃ M, readTo (rwsT t) = some M) ∧ (rwsT t = [] ∨ ¬ rstT t = Str.ofString "") ∧ i = (rwsT t).length)
theorem readTo_pre {rs : List Str} : ∀ {ss : List Str} {M : StM}, readTo (rs ++ ss) = some M → ∃ M', readTo rs = some M' := by
  intro ss
  induction h : ss.length generalizing ss with
  | zero =>
    intro M e
    rw [List.length_eq_zero_iff.mp h, List.append_nil] at e
    exact ⟨M, e⟩
  | succ n ih =>
    intro M e
    obtain ⟨u, x, rfl⟩ : ∃ u x, ss = u ++ [x] := by
      rcases List.eq_nil_or_concat ss with z | ⟨u, x, z⟩
      · rw [z] at h; cases h
      · exact ⟨u, x, by rw [z, List.concat_eq_append]⟩
    rw [List.length_append] at h
    have hu : u.length = n := by simpa using h
    by_cases ne : rs ++ u = []
    · have : rs = [] := List.append_eq_nil_iff.mp ne |>.1
      rw [this]
      exact ⟨emp, rfl⟩
    · rw [← List.append_assoc, readTo_snoc ne] at e
      cases e2 : readTo (rs ++ u) with
      | none => rw [e2] at e; cases e
      | some M' => exact ih hu e2
theorem readTo_take {rs : List Str} {i j : Nat} (h : i ≤ j) {M : StM} (e : readTo (rs.take j) = some M) : ∃ M', readTo (rs.take i) = some M' := by
  have this := (List.take_append_drop i (rs.take j)).symm
  rw [List.take_take, Nat.min_eq_left h] at this
  rw [this] at e
  exact readTo_pre e
theorem rd_one {t : Str} {a b : Option Nat} (h1 : RdR t a) (h2 : RdR t b) : a = b := by
  have key : ∀ {i : Nat}, RdR t (some i) → ¬ RdR t none := fun {i} h ⟨M, e, ne, er⟩ => by
    rcases h with ⟨hi, _, hn⟩ | ⟨_, hc, _⟩
    · obtain ⟨M', e'⟩ := readTo_take (rs := rwsT t) (i := i + 1) (j := (rwsT t).length) hi (by rw [List.take_length]; exact e)
      rw [hn] at e'
      cases e'
    · rcases hc with z | z
      · exact ne z
      · exact z er
  cases a with
  | none =>
    cases b with
    | none => rfl
    | some j => exact absurd h1 (key h2)
  | some i =>
    cases b with
    | none => exact absurd h2 (key h1)
    | some j =>
      have half : ∀ {i j : Nat}, RdR t (some i) → RdR t (some j) → ¬ i < j := fun {i j} h1 h2 hlt => by
        have hj : ∃ M, readTo ((rwsT t).take j) = some M := by
          rcases h2 with ⟨_, h, _⟩ | ⟨⟨M, h⟩, _, rfl⟩
          · exact h
          · exact ⟨M, by rw [List.take_length]; exact h⟩
        obtain ⟨M, hj⟩ := hj
        rcases h1 with ⟨_, _, hn⟩ | ⟨_, _, rfl⟩
        · obtain ⟨M', e'⟩ := readTo_take (rs := rwsT t) hlt hj
          have e' : readTo ((rwsT t).take (i + 1)) = some M' := e'
          rw [hn] at e'
          cases e'
        · rcases h2 with ⟨hj2, _⟩ | ⟨_, _, hj2⟩ <;> omega
      have := half h1 h2
      have := half h2 h1
      rw [show i = j by omega]
section
variable {P : Program} {w : World} {K : PySem.W.Frag} {mg : Str → Option Value} {base : Heap} {CH CS CB fB : Addr}
def rdV (t : Str) : Option Nat → V
  | none => .str t
  | some i => .int (i : Nat)
/-! ### _law_told of a text -/
def spTlp : Sp := fun vs H Q _ => ∃ (t : Str), vs = [.str t] ∧ t.length ≤ 12000 ∧ ChO t ∧ ∀ o, RdR t o → ∀ H', Same H H' → Q (rdV t o) H'
theorem sc_tlp : FnScope ["_law_text", "e"] ["_law_text"] (defScope s__law_told) := ⟨rfl, rfl, rfl, by decide +kernel, rfl, by decide +kernel, by decide +kernel⟩
theorem has_tlp (F : FnAt K mg "_law_told" s__law_told ["_law_text"]) (h_Pge : Has P w K mg base 3 "page" ["hall"] (spPge P w CH CS)) (h_Rpg : HasX P w K mg base 6 "read_page" ["text"] (spRpg P w CH CS CB)) (T_BadPage : EC K mg "BadPage" CB fB) (nR : PySem.W.findIn K (.ref CB) "row" = some none) : Has P w K mg base 7 "_law_told" ["_law_text"] spTlp := F.has fun F => by
  obtain ⟨f_Pge, fd_Pge, g_Pge, k_Pge, b_Pge, G_Pge⟩ := h_Pge
  obtain ⟨f_Rpg, fd_Rpg, g_Rpg, k_Rpg, b_Rpg, G_Rpg⟩ := h_Rpg
  refine F.ok sc_tlp (fun vs H Q E h => ?_) (fun cdv A outer s H vs Q E hr h => ?_)
  · obtain ⟨t, rfl, _⟩ := h
    rfl
  · obtain ⟨t, rfl, tl1, tc, q⟩ := h
    refine ⟨_, pss_one (ps_try_as (i := 1) rfl rfl sc_tlp.nd rfl rfl ⟨rfl, by decide, .inl T_BadPage.gC⟩ takes0
      (fun W pn xe tk _ => pss_one (ps_ret (pe_call G_Pge (hr.mono (by decide)) (by rfl) g_Pge k_Pge b_Pge .nil pass0 (pa_cons (pe_call G_Rpg (hr.mono (by decide)) (by rfl) g_Rpg k_Rpg b_Rpg .nil (passes_len 2 rfl tk) (pa_cons (pv 0) pa_nil)) pa_nil))))
      (fun a oe cls d pn hz hf => pss_one (ps_ret (pe_xf (C := CB) T_BadPage.xf nR hz hf (pv 1))))), ?_⟩
    show tRet _ _ _ _
    walk_at "go"
    refine ⟨t, rfl, tl1, tc, fun i hi hM hn => ?_, fun hM hc => ?_, fun M e ne er h A H1 nh hH s1 => ?_⟩
    · intro d H1 nd hd s1 σ hσ
      have hσ : σ.length = 2 := hσ
      match σ, hσ with
      | [s0, s1'], _ =>
        refine ⟨true, T_BadPage.te, fun _ a na => ?_, fun z => nomatch z⟩
        show tRet _ _ _ _
        refine w_ret ?_
        refine ⟨_, rfl, rfl, rfl, d, _, _, rfl, hd, rfl, ?_⟩
        exact q (some i) (.inl ⟨hi, hM, hn⟩) H1 s1
    · intro d H1 nd hd s1 σ hσ
      have hσ : σ.length = 2 := hσ
      match σ, hσ with
      | [s0, s1'], _ =>
        refine ⟨true, T_BadPage.te, fun _ a na => ?_, fun z => nomatch z⟩
        show tRet _ _ _ _
        refine w_ret ?_
        refine ⟨_, rfl, rfl, rfl, d, _, _, rfl, hd, rfl, ?_⟩
        exact q (some (rwsT t).length) (.inr ⟨hM, hc, rfl⟩) H1 s1
    · walk_at "go"
      refine ⟨h, A, M, 0, rfl, hH, fun H2 s2 => ?_⟩
      rw [page_read e ne er]
      exact q none ⟨M, e, ne, er⟩ H2 (s1.trans s2)
end
end Sf
namespace Sf
open PySem PySem.Spec PyProof.Rows L2 TL
open LamX (Tabs TabS)
/-! ### k75 -/
def NmsOk2 (M : StM) : Prop := ∀ e ∈ M.txs, isN e.1 = true
theorem DwR.nms {z y : Str} {as : List V} {M M' : StM} (hR : DwR z as M y) (hy : y = Str.ofString "") (en : EntR z as M M') (ok : NmsOk2 M) : NmsOk2 M' := by
  cases en with
  | like l r => exact ok
  | strike n => exact ok
  | put n x =>
    intro e he
    have hn : isN n = true := by
      generalize hz : Str.ofString "put" = z at hR
      cases hR with
      | like l r _ _ => exact absurd hz (by decide +kernel)
      | put n' x' _ _ =>
        cases e1 : isN n with
        | true => rfl
        | false =>
          unfold putW at hy
          rw [e1, if_pos rfl] at hy
          exact absurd hy (by decide +kernel)
    have he : e ∈ putT M.txs n x := he
    unfold putT at he
    split at he
    · obtain ⟨e0, h0, rfl⟩ := List.mem_map.mp he
      split
      · exact ok e0 h0
      · exact ok e0 h0
    · rcases List.mem_append.mp he with h | h
      · exact ok e h
      · rw [List.mem_singleton.mp h]; exact hn
  | forget n _ => exact fun e he => ok e (List.mem_filter.mp he).1
theorem DeR.dw {z : Str} {as : List V} (h : DeR z as) (ns : ¬ z = Str.ofString "shelve") (M : StM) : ∃ y, DwR z as M y ∧ (∀ n, z = Str.ofString "forget" → as = [.str n] → NmT n) ∧ (∀ n : Int, as = [.int n] → n.natAbs.log2 < 1920) := by
  have b3 : ∀ {l : Str}, bSd l → l.length ≤ 100000 := fun h => by unfold bSd at h; omega
  cases h with
  | like l r h1 h2 => exact ⟨_, .like l r (b3 h1) (b3 h2), (fun n e _ => absurd e (by decide +kernel)), (fun n e => by cases e)⟩
  | strike n hn => exact ⟨_, .strike n, (fun m e _ => absurd e (by decide +kernel)), (fun m e => by cases e; exact log_bigH hn)⟩
  | put n x h1 h2 => exact ⟨_, .put n x (Nat.le_trans h1.1 (by decide)) (Nat.le_trans h2 (by decide)), (fun m e _ => absurd e (by decide +kernel)), (fun m e => by cases e)⟩
  | forget n h1 => exact ⟨_, .forget n, (fun m _ e => by cases e; exact h1.nm), (fun m e => by cases e)⟩
  | unshelve n h1 => exact ⟨_, .unshelve n h1.nm, (fun m e _ => absurd e (by decide +kernel)), (fun m e => by cases e)⟩
  | shelve a b c _ _ _ => exact absurd rfl ns
theorem wd_ch {x : Str} (h : Wd x) : ChO x := fun c hc => by
  have := sgn_iff.mp (h c hc)
  omega
theorem ch_toS (n : Nat) : ChO (toS n) := fun c hc => by
  unfold toS at hc
  rw [tl_num] at hc
  have := numL_digits n c hc
  omega
theorem ch_shT {x : Str} (h : ChO x) : ChO (shT x) := by
  unfold shT
  split
  · exact ch_of (by decide +kernel)
  · exact h
theorem page_ch {M : StM} (ok : StOk M) (nm : NmsOk2 M) : ChO (pageT M.fol M.prs (sortT M.txs)) := by
  have c1 : ChO (Str.ofString "coming ") := ch_of (by decide +kernel)
  have c2 : ChO (Str.ofString "like ") := ch_of (by decide +kernel)
  have c3 : ChO (Str.ofString "word ") := ch_of (by decide +kernel)
  have c4 : ChO sp1 := ch_of (by decide +kernel)
  have c5 : ChO nl1 := ch_of (by decide +kernel)
  refine ch_join (ch_of (by decide +kernel)) (fun x hx => ?_)
  obtain ⟨r, hr, rfl⟩ := List.mem_map.mp hx
  refine ch_app ?_ c5
  rcases List.mem_append.mp hr with h | h
  · rcases List.mem_cons.mp h with rfl | h
    · exact ch_app c1 (ch_toS _)
    · obtain ⟨e, he, rfl⟩ := List.mem_map.mp h
      have pe := ok.pr e he
      exact ch_app (ch_app (ch_app (ch_app (ch_app c2 (ch_toS _)) c4) (ch_shT (wd_ch pe.2.2.1))) c4) (ch_shT (wd_ch pe.2.2.2.1))
  · obtain ⟨e, he, rfl⟩ := List.mem_map.mp h
    have me := mem_sortT.mp he
    exact ch_app (ch_app (ch_app c3 (fun c hc => (nmS_isN (nm e me)).2 c hc)) c4) (ch_shT (wd_ch (isW_both (ok.tx e me).1).1))
theorem page_len {M : StM} (ok : StOk M) : (pageT M.fol M.prs (sortT M.txs)).length ≤ 2673 := by
  have := page_sum ok
  unfold pageT
  rw [len_tl, join_tl, tl_mkS, List.length_flatten, List.map_map]
  have e : ((fun x => List.length x) ∘ tl : Str → Nat) = fun r => r.length := funext fun r => (len_tl r).symm
  rw [e]
  exact this
def atV : Option Nat → V
  | none => .non
  | some i => .int (i : Nat)
theorem rd1 : RdR (Str.ofString "") (some 0) := .inr ⟨⟨emp, by rw [show rwsT (Str.ofString "") = [] by decide +kernel]; rfl⟩, .inl (by decide +kernel), by decide +kernel⟩
theorem rd2 : RdR (Str.ofString "\n") (some 0) := by
  have e : rwsT (Str.ofString "\n") = [Str.ofString ""] := by decide +kernel
  refine .inl ⟨by rw [e]; exact Nat.succ_pos _, ⟨emp, by rw [e]; rfl⟩, ?_⟩
  rw [e]
  show readTo [Str.ofString ""] = none
  rw [readTo_one, show comM (Txt.split (Str.ofString "") sp1) = none by decide +kernel]
  rfl
theorem rd3 : RdR (Str.ofString "coming 1") (some 0) := .inr ⟨⟨emp, by rw [show rwsT (Str.ofString "coming 1") = [] by decide +kernel]; rfl⟩, .inl (by decide +kernel), by decide +kernel⟩
theorem rd4 : RdR (Str.ofString "coming 0\n") (some 0) := by
  have e : rwsT (Str.ofString "coming 0\n") = [Str.ofString "coming 0"] := by decide +kernel
  refine .inl ⟨by rw [e]; exact Nat.succ_pos _, ⟨emp, by rw [e]; rfl⟩, ?_⟩
  rw [e]
  show readTo [Str.ofString "coming 0"] = none
  rw [readTo_one, show comM (Txt.split (Str.ofString "coming 0") sp1) = none by decide +kernel]
  rfl
theorem rd5 : RdR (Str.ofString "coming 2\nlike") (some 1) := by
  have e : rwsT (Str.ofString "coming 2\nlike") = [Str.ofString "coming 2"] := by decide +kernel
  refine .inr ⟨⟨{ emp with fol := 2 }, ?_⟩, .inr (by decide +kernel), by rw [e]; rfl⟩
  rw [e, readTo_one, show comM (Txt.split (Str.ofString "coming 2") sp1) = some 2 by decide +kernel]
  rfl
end Sf
namespace Sf
open PySem PySem.Spec PyProof.Rows L2 TL
open LamX (Tabs TabS)
section
variable {P : Program} {w : World} {K : PySem.W.Frag} {mg : Str → Option Value} {base : Heap} {CH CS CN CL CB CW CT CF Pt : Addr}
theorem sc_law : FnScope ["_law_script", "_law_bag", "_law_house", "_law_state", "_law_turn", "_law_text", "_law_bent_here", "_law_at", "_law_odd"] ["_law_script"] (defScope s_law) := ⟨rfl, rfl, rfl, by decide +kernel, rfl, by decide +kernel, by decide +kernel⟩
theorem ok_law {f : Addr} {fd : FuncData} (F : Fun K "law" "law" s_law f fd) (B : Blt mg) (T_Hall : HLC K mg CH) (mkH : PySem.W.makesIn K CH = true) (kcH : PySem.W.keepIn K (.ref CH) = true)
    (h_Be : HasBegin P w K mg base) (h_Pu : HasPull P w K mg base) (h_Lba : Has P w K mg base 1 "_law_bare" [] spLba) (h_Sa : Has P w K mg base 2 "_law_same" ["_law_found", "_law_due"] (spSame 1))
    (h_HlI : HasM P w K mg base CH 3 "__init__" ["self"] (spHlI P w CH CS)) (h_Lpl : Has P w K mg base 13 "_law_played" ["_law_house", "_law_state", "_law_deed_here"] (spLpl P w CH CS Pt)) (h_Lld : Has P w K mg base 5 "_law_light_deed" ["_law_bag", "_law_state"] spLld) (h_Pge : Has P w K mg base 3 "page" ["hall"] (spPge P w CH CS)) (h_Lbe : Has P w K mg base 3 "_law_bent" ["_law_bag", "_law_text"] spLbe)
    (h_Lfw : Has P w K mg base 4 "_law_first_wrong" ["_law_text"] spLfw) (h_Tlp : Has P w K mg base 7 "_law_told" ["_law_text"] spTlp) :
    FnOk P w K mg base CX0 14 f fd ["_law_script"] (spLaw K Pt) := by
  obtain ⟨f_Be, fd_Be, g_Be, k_Be, b_Be, G_Be⟩ := h_Be
  obtain ⟨f_Pu, fd_Pu, g_Pu, k_Pu, b_Pu, G_Pu⟩ := h_Pu
  obtain ⟨f_Lba, fd_Lba, g_Lba, k_Lba, b_Lba, G_Lba⟩ := h_Lba
  obtain ⟨f_Sa, fd_Sa, g_Sa, k_Sa, b_Sa, G_Sa⟩ := h_Sa
  obtain ⟨f_Lpl, fd_Lpl, g_Lpl, k_Lpl, b_Lpl, G_Lpl⟩ := h_Lpl
  obtain ⟨f_Lld, fd_Lld, g_Lld, k_Lld, b_Lld, G_Lld⟩ := h_Lld
  obtain ⟨f_Pge, fd_Pge, g_Pge, k_Pge, b_Pge, G_Pge⟩ := h_Pge
  obtain ⟨f_Lbe, fd_Lbe, g_Lbe, k_Lbe, b_Lbe, G_Lbe⟩ := h_Lbe
  obtain ⟨f_Lfw, fd_Lfw, g_Lfw, k_Lfw, b_Lfw, G_Lfw⟩ := h_Lfw
  obtain ⟨f_Tlp, fd_Tlp, g_Tlp, k_Tlp, b_Tlp, G_Tlp⟩ := h_Tlp
  obtain ⟨f_HlI, fd_HlI, m_HlI, b_HlI, G_HlI⟩ := h_HlI
  have M_HlI : Mk K CH f_HlI := ⟨mkH, m_HlI.at_, m_HlI.fn, kcH⟩
  have g_Hall := T_Hall.mgC
  refine F.ok sc_law (fun vs H Q E h => ?_) (fun cdv A outer s H vs Q E hr h => ?_)
  · obtain ⟨a, ns, rfl, _⟩ := h
    rfl
  · obtain ⟨a, ns, rfl, hS, hlen, hPt, q⟩ := h
    refine ⟨_, (pss_cons (ps_set (i := 1) sc_law.nd rfl (.inl rfl) (pe_call G_Be (hr.mono (by decide)) (by rfl) g_Be k_Be b_Be .nil pass0 (pa_cons (pv 0) pa_nil))) (pss_cons (ps_set (i := 2) sc_law.nd rfl (.inl rfl) (pe_make0 M_HlI G_HlI (hr.mono (by decide)) (by rfl) g_Hall b_HlI .nil pass0)) (pss_cons (ps_set (i := 3) sc_law.nd rfl (.inl rfl) (pe_call0 G_Lba (hr.mono (by decide)) (by rfl) g_Lba k_Lba b_Lba .nil pass0)) (pss_cons (ps_for PassesOwn.never rfl (pi_range1 rfl B.range (pa_cons (pe_call G_Pu (hr.mono (by decide)) (by rfl) g_Pu k_Pu b_Pu .nil pass0 (pa_cons (pv 1) (pa_cons pe_int pa_nil))) pa_nil)) (pg_name (i := 4) sc_law.nd rfl (.inl rfl)) (pss_one (ps_set (i := 3) sc_law.nd rfl (.inl rfl) (pe_call G_Lpl (hr.mono (by decide)) (by rfl) g_Lpl k_Lpl b_Lpl .nil pass0 (pa_cons (pv 2) (pa_cons (pv 3) (pa_cons (pe_call G_Lld (hr.mono (by decide)) (by rfl) g_Lld k_Lld b_Lld .nil pass0 (pa_cons (pv 1) (pa_cons (pv 3) pa_nil))) pa_nil))))))) (pss_cons (ps_if (pt_cmpR op_isNn (pv 3) pe_non (nomark _)) (pss_one (ps_ret pe_bl)) pss_nil) (pss_cons (ps_set (i := 5) sc_law.nd rfl (.inl rfl) (pe_call G_Pge (hr.mono (by decide)) (by rfl) g_Pge k_Pge b_Pge .nil pass0 (pa_cons (pv 2) pa_nil))) (pss_cons (ps_for PassesOwn.never rfl (pi_range1 rfl B.range (pa_cons pe_int pa_nil)) (pg_name (i := 4) sc_law.nd rfl (.inl rfl)) (pss_cons (ps_set (i := 6) sc_law.nd rfl (.inl rfl) (pe_call G_Lbe (hr.mono (by decide)) (by rfl) g_Lbe k_Lbe b_Lbe .nil pass0 (pa_cons (pv 1) (pa_cons (pv 5) pa_nil)))) (pss_cons (ps_if (pt_cmpR op_eq (pe_call G_Pu (hr.mono (by decide)) (by rfl) g_Pu k_Pu b_Pu .nil pass0 (pa_cons (pv 1) (pa_cons pe_int pa_nil))) pe_int (nomark _)) (pss_one (ps_set (i := 6) sc_law.nd rfl (.inl rfl) (pe_call G_Lbe (hr.mono (by decide)) (by rfl) g_Lbe k_Lbe b_Lbe .nil pass0 (pa_cons (pv 1) (pa_cons (pv 6) pa_nil))))) pss_nil) (pss_cons (ps_set (i := 7) sc_law.nd rfl (.inl rfl) (pe_call G_Lfw (hr.mono (by decide)) (by rfl) g_Lfw k_Lfw b_Lfw .nil pass0 (pa_cons (pv 6) pa_nil))) (pss_one (ps_if (pt_not (pt_val (pe_call G_Sa (hr.mono (by decide)) (by rfl) g_Sa k_Sa b_Sa .nil pass0 (pa_cons (pe_call G_Tlp (hr.mono (by decide)) (by rfl) g_Tlp k_Tlp b_Tlp .nil pass0 (pa_cons (pv 6) pa_nil)) (pa_cons (pe_ifExp (pt_cmpR op_isNn (pv 7) pe_non (nomark _)) (pv 6) (pv 7)) pa_nil))))) (pss_one (ps_ret pe_bl)) pss_nil)))))) (pss_one (ps_ret (pe_call G_Sa (hr.mono (by decide)) (by rfl) g_Sa k_Sa b_Sa .nil pass0 (pa_cons (pe_lc (own := [("_law_odd", 8)]) (g := gName 8) (tt := tYes) (by rfl) sc_law.nd (pi_list (pe_lst (pa_cons pe_str (pa_cons pe_str (pa_cons pe_str (pa_cons pe_str (pa_cons pe_str pa_nil))))))) (blkOk_by (own := [("_law_odd", 8)]) (N := ["_law_script", "_law_bag", "_law_house", "_law_state", "_law_turn", "_law_text", "_law_bent_here", "_law_at", "_law_odd"]) (sc := defScope s_law) (by decide +kernel)) (fun _ _ _ _ _ => pg_name (i := 8) sc_law.nd rfl (.inl rfl)) (fun _ _ _ _ _ => pts_nil) (fun _ _ _ _ _ => (pe_call G_Tlp (hr.mono (by decide)) (by rfl) g_Tlp k_Tlp b_Tlp .nil pass0 (pa_cons (pv 8) pa_nil)))) (pa_cons (pe_lst (pa_cons pe_int (pa_cons pe_int (pa_cons pe_int (pa_cons pe_int (pa_cons pe_int pa_nil)))))) pa_nil)))))))))))), ?_⟩
    walk_at "go"
    refine ⟨a, ns, rfl, hS, fun b l H1 nb B1 s1 => ?_⟩
    walk_at "go"
    refine w_mkHall (fun h A H2 nh hH2 nw2 s2 => ?_)
    walk_at "go"
    refine ⟨rfl, fun d ln H3 nd nln s3 hL3 => ?_⟩
    have hH3 := hH2.same s3
    have B3 := (B1.same s2).same s3
    have T3 : Tabs (lamTp Pt) H3 := tabs_same (fun p hp => by
      rw [List.mem_singleton.mp hp]
      exact TabS.nil hPt) ((s1.trans s2).trans s3)
    walk_at "go"
    have W3 : LIh P w CH CS Pt b l h d ln A emp 0 H3 := by
      obtain ⟨ns', k', z', r', hB'⟩ := id B1
      refine ⟨B3, hH3, by decide, rfl, hL3, ?_, ?_, ?_, ?_, ?_, T3⟩
      · obtain ⟨us, hb, _⟩ := hH2.bh
        exact ne_of_none hb nln |>.symm
      · exact (ne_of_none (s2.at hB'.hb) nln).symm
      · exact ne_of_none hB'.hb nw2.bh
      · exact ne_of_none hB'.hb nw2.ah
      · exact ne_of_none hB'.hl nw2.bh
    refine ⟨b, l, 8, rfl, B3, by decide, by decide, fun n0 H4 n00 n01 B4 f4 => ?_⟩
    have W4 := W3.fx f4 B4
    walk_at "go"
    refine w_kRng1 (by omega) (by omega) ?_
    refine w_range (fun i σ H2 => ∃ (y4 : Option V) (d ln : Addr) (A : HA) (M : StM), σ = [some (.ref a), some (.ref b), some (.ref h), some (.ref d), y4, none, none, none, none] ∧ NmsOk2 M ∧ LIh P w CH CS Pt b l h d ln A M i H2) ⟨none, d, ln, A, emp, rfl, (fun e h => by cases h), W4⟩ ?_ ?_
    · rintro i σ H6 hi ⟨y4, d, ln, A, M, rfl, nm0, W6⟩
      have hi : i < 8 := by omega
      obtain ⟨wd, pp, us, X6, uml, ul⟩ := W6.lsx
      have ok6 := W6.hl.ok
      have fo6 := W6.fo
      walk_at "go"
      refine ⟨b, l, d, ln, wd, pp, us, M, [], rfl, W6.bg, W6.n2, X6.o, X6.l, X6.ls, X6.w, X6.p, ul, ok6.tl, by decide, by omega, ok6.tn, List.nodup_nil, nm0, (fun e he => (ok6.tx e he).1), (fun e he => by cases he), (fun e he => by have := ok6.pr e he; omega), fun t z as H7 ht hD nsh B7 f7 => ?_⟩
      have W7 := W6.fx f7 B7
      obtain ⟨y, hR, hnm, hni⟩ := hD.dw nsh M
      walk_at "go"
      refine ⟨h, d, ln, t, A, M, i, z, y, as, rfl, W7.hl, by omega, by omega, W7.pp, W7.ls, W7.n1, ht, hR, hnm, hni, W7.tb, fun A2 M2 d2 ln2 H2 hH2 hL2 e1 e2 e3 e4 f2 T2 => ?_⟩
      have W2 := W7.next hH2 hL2 e1 e2 e3 (e4.imp id And.right) f2 T2
      have nm2 : NmsOk2 M2 := by
        rcases e4 with rfl | ⟨ey, en⟩
        · exact nm0
        · exact hR.nms ey en nm0
      walk_at "go"
      exact ⟨_, d2, ln2, A2, M2, rfl, nm2, W2⟩
    · rintro σ H6 ⟨y4, d, ln, A, M, rfl, nm0, W6⟩
      walk_at "go"
      rw [decide_eq_false (show ¬ V.ref d = V.non from fun z => nomatch z)]
      walk_at "go"
      refine ⟨h, A, M, _, rfl, W6.hl, fun H7 s7 => ?_⟩
      have B7 := W6.bg.same s7
      have pgl := page_len W6.hl.ok
      have pgc := page_ch W6.hl.ok nm0
      generalize pageT M.fol M.prs (sortT M.txs) = tx at pgl pgc ⊢
      walk_at "go"
      refine w_kRng1 (by decide) (by decide) ?_
      refine w_range (fun i σ H8 => ∃ (y4 y6 y7 : Option V), σ = [some (.ref a), some (.ref b), some (.ref h), some (.ref d), y4, some (.str tx), y6, y7, none] ∧ Bag H8 b l) ⟨y4, none, none, rfl, B7⟩ ?_ ?_
      · rintro i σ H8 hi ⟨y4, y6, y7, rfl, B8⟩
        walk_at "go"
        refine ⟨b, l, tx, rfl, B8, by omega, pgc, fun x1 H9 xl1 xc1 B9 f9 => ?_⟩
        walk_at "gs"
        refine w_seqJ (fun σ HJ => ∃ (x2 : Str) (y4 : Option V), σ = [some (.ref a), some (.ref b), some (.ref h), some (.ref d), y4, some (.str tx), some (.str x2), y7, none] ∧ x2.length ≤ 12000 ∧ ChO x2 ∧ Bag HJ b l) ?_ ?_
        · intro NN hJ
          walk_at "go"
          refine ⟨b, l, 3, rfl, B9, by decide, by decide, fun e HA e0 e1 BA fA => ?_⟩
          walk_at "go"
          refine w_if2 (fun h => ?_) (fun h => ?_)
          · walk_at "go"
            refine ⟨b, l, x1, rfl, BA, by omega, xc1, fun x2 HB xl2 xc2 BB fB => ?_⟩
            walk_at "go"
            exact hJ _ _ ⟨x2, _, rfl, by omega, xc2, BB⟩
          · walk_at "go"
            exact hJ _ _ ⟨x1, _, rfl, by omega, xc1, BA⟩
        rintro σ HJ ⟨x2, y4', rfl, xl2, xc2, BJ⟩
        walk_at "gs"
        refine w_seqJ (fun σ HK => ∃ o, RdR x2 o ∧ σ = [some (.ref a), some (.ref b), some (.ref h), some (.ref d), y4', some (.str tx), some (.str x2), some (atV o), none] ∧ Bag HK b l) ?_ ?_
        · intro NN hJ
          walk_at "go"
          refine ⟨x2, rfl, xl2, fun i hi hM hn H' s => ?_, fun hM hc H' s => ?_, fun M e ne er H' s => ?_⟩
          · walk_at "go"
            exact hJ _ _ ⟨some i, .inl ⟨hi, hM, hn⟩, rfl, BJ.same s⟩
          · walk_at "go"
            exact hJ _ _ ⟨some _, .inr ⟨hM, hc, rfl⟩, rfl, BJ.same s⟩
          · walk_at "go"
            exact hJ _ _ ⟨none, ⟨M, e, ne, er⟩, rfl, BJ.same s⟩
        rintro σ HK ⟨o, ho, rfl, BK⟩
        walk_at "go"
        refine ⟨x2, rfl, xl2, xc2, fun o' ho' HL sL => ?_⟩
        have eo := rd_one ho ho'
        subst eo
        have BL := BK.same sL
        cases o with
        | none =>
          rw [show atV none = V.non from rfl, show rdV x2 none = V.str x2 from rfl]
          walk_at "go"
          refine ⟨_, _, rfl, Eqv.flat rfl, fun H5 s5 => ?_⟩
          walk_at "go"
          exact ⟨_, _, _, rfl, BL.same s5⟩
        | some i =>
          rw [show atV (some i) = V.int ((i : Nat) : Int) from rfl, show rdV x2 (some i) = V.int ((i : Nat) : Int) from rfl]
          walk_at "go"
          refine ⟨_, _, rfl, Eqv.flat rfl, fun H5 s5 => ?_⟩
          walk_at "go"
          exact ⟨_, _, _, rfl, BL.same s5⟩
      · rintro σ H8 ⟨y4, y6, y7, rfl, B8⟩
        walk_at "go"
        refine w_newL (by walk_at "sz") (fun pl H9 hpl npl => ?_)
        refine w_kList hpl ?_
        refine w_lcL (xs := [V.str (Str.ofString ""), V.str (Str.ofString "\n"), V.str (Str.ofString "coming 1"), V.str (Str.ofString "coming 0\n"), V.str (Str.ofString "coming 2\nlike")]) (fun r i HA => Same H9 HA ∧ H9 r = none ∧ HA r = some (.lst ((([0, 0, 0, 0, 1] : List Int).take i).map V.int))) (fun r HA h n => ⟨n.same, n.nn, h⟩) (fun r i HA _ h => h.1.at hpl) ?_ ?_
        · rintro r i v HA hv ⟨sA, nr, hrA⟩
          obtain ⟨t, k, rfl, hk, tl1, tc, hz⟩ : ∃ (t : Str) (k : Nat), v = .str t ∧ RdR t (some k) ∧ t.length ≤ 12000 ∧ ChO t ∧ ([0, 0, 0, 0, 1] : List Int)[i]? = some (k : Int) := by
            match i, hv with
            | 0, hv => exact ⟨_, 0, (Option.some.inj hv).symm, rd1, by decide +kernel, ch_of (by decide +kernel), rfl⟩
            | 1, hv => exact ⟨_, 0, (Option.some.inj hv).symm, rd2, by decide +kernel, ch_of (by decide +kernel), rfl⟩
            | 2, hv => exact ⟨_, 0, (Option.some.inj hv).symm, rd3, by decide +kernel, ch_of (by decide +kernel), rfl⟩
            | 3, hv => exact ⟨_, 0, (Option.some.inj hv).symm, rd4, by decide +kernel, ch_of (by decide +kernel), rfl⟩
            | 4, hv => exact ⟨_, 1, (Option.some.inj hv).symm, rd5, by decide +kernel, ch_of (by decide +kernel), rfl⟩
            | n + 5, hv => cases hv
          walk_at "go"
          refine ⟨t, rfl, tl1, tc, fun o ho HB sB => ?_⟩
          have eo := rd_one hk ho
          subst eo
          walk_at "go"
          refine w_kIt (sB.at hrA) (by rw [List.length_map, List.length_take]; exact lineLt_of (by show min _ 5 ≤ _; omega)) (fun HC hC oC => ⟨(sA.trans sB).off oC nr, nr, ?_⟩)
          rw [hC, take_snoc hz, List.map_append]
          rfl
        · rintro r HA ⟨sA, nr, hrA⟩
          walk_at "go"
          refine w_newL (by walk_at "sz") (fun p2 HB hp2 np2 => ?_)
          have hrB := np2.at hrA
          walk_at "go"
          refine ⟨_, _, rfl, .inr ⟨r, p2, _, _, rfl, rfl, .inl ⟨hrB, hp2⟩, rfl, by decide, fun i x y hx hy => ?_⟩, fun HC sC => ?_⟩
          · have hx : [V.int 0, V.int 0, V.int 0, V.int 0, V.int 1][i]? = some x := hx
            rw [hx] at hy
            have := Option.some.inj hy
            subst this
            match i, hx with
            | 0, hx => rw [← Option.some.inj hx]; exact Eqv.flat rfl
            | 1, hx => rw [← Option.some.inj hx]; exact Eqv.flat rfl
            | 2, hx => rw [← Option.some.inj hx]; exact Eqv.flat rfl
            | 3, hx => rw [← Option.some.inj hx]; exact Eqv.flat rfl
            | 4, hx => rw [← Option.some.inj hx]; exact Eqv.flat rfl
            | n + 5, hx => cases hx
          · walk_at "go"
            exact q HC
end
end Sf
namespace Sf
open PySem PySem.Spec PyProof.Rows L2 TL
theorem exm_sub {K : PySem.W.Frag} {D C : Addr} {b : Bool} (h0 : PySem.W.subIn K (.ref C) (.type "BaseException") = some true) (h1 : PySem.W.isClsIn K C = true) (h2 : PySem.W.typeIn K (.ref C) = some (.type "type")) (h3 : PySem.W.subIn K (.ref D) (.ref C) = some b) : PySem.W.exmOne K (.ref D) (.ref C) = some b := by
  unfold PySem.W.exmOne
  rw [if_pos (by rw [h0]; rfl)]
  unfold PySem.W.isClsIn at h1
  unfold PySem.W.kitCls
  dsimp only
  rw [h1, h2, if_pos (by simp), h3]
end Sf
namespace Sf
open PySem PySem.Spec PyProof.Rows L2 TL
theorem ddt_mk {K : PySem.W.Frag} {h : Heap} {mg : Str → Option Value} {w : World} {p f1 f2 f3 f4 f5 : Addr} {es : Array DictEntry} {n : Nat} (X : K.In h) (G : h.Ns mainGlobals mg) (a : PySem.W.nsIn K mainGlobals "DEEDS" = some (some (.ref p)))
    (l : K.lookup p = some ⟨.type "dict", none, .dict es n, #[]⟩) (k : PySem.W.KeysLit w.params es.toList) (e1 : PySem.W.nsIn K p "like" = some (some (.ref f1))) (e2 : PySem.W.nsIn K p "strike" = some (some (.ref f2))) (e3 : PySem.W.nsIn K p "put" = some (some (.ref f3))) (e4 : PySem.W.nsIn K p "forget" = some (some (.ref f4)))
    (e5 : PySem.W.nsIn K p "unshelve" = some (some (.ref f5)))
    (g1 : PySem.W.nsIn K mainGlobals "like" = some (some (.ref f1))) (g2 : PySem.W.nsIn K mainGlobals "strike" = some (some (.ref f2))) (g3 : PySem.W.nsIn K mainGlobals "put" = some (some (.ref f3))) (g4 : PySem.W.nsIn K mainGlobals "forget" = some (some (.ref f4)))
    (g5 : PySem.W.nsIn K mainGlobals "unshelve" = some (some (.ref f5))) : DDT K mg w p f1 f2 f3 f4 f5 :=
  ⟨PySem.W.mg_of X G a, ⟨es, n, _, l, k, e1, rfl⟩, ⟨es, n, _, l, k, e2, rfl⟩, ⟨es, n, _, l, k, e3, rfl⟩, ⟨es, n, _, l, k, e4, rfl⟩, ⟨es, n, _, l, k, e5, rfl⟩, PySem.W.mg_of X G g1, PySem.W.mg_of X G g2, PySem.W.mg_of X G g3, PySem.W.mg_of X G g4, PySem.W.mg_of X G g5⟩
end Sf
namespace Sf
open PySem PySem.Spec PyProof.Rows L2 TL
theorem fnAtC_mk {K : PySem.W.Frag} {h : Heap} {mg : Str → Option Value} {x : Str} {st : Stmt} {ps : List Str} {c f : Addr} {oc : Value} {od an : Option Addr} {osl : Array (Option Value)} {kV doc pm ct : Value} (X : K.In h) (G : h.Ns mainGlobals mg)
    (a : PySem.W.nsIn K mainGlobals x = some (some (.ref f))) (l : K.lookup f = some ⟨oc, od, .func (PySem.W.fnOf x x (defArgs st) (defBody st) (defScope st) .none kV doc pm an (.ref c) ct), osl⟩)
    (cc : PySem.W.codeIn K (.ref c) x = true) (k : PySem.W.keepIn K (.ref f) = true)
    (b : ∀ (kV doc pm : Value) (an : Option Addr) (cdv ct : Value) (us : List Value), us.length = ps.length → bindArgs (PySem.W.fnOf x x (defArgs st) (defBody st) (defScope st) .none kV doc pm an cdv ct) ⟨us, []⟩ = pure (ps.zip us)) : FnAtC K mg x st ps c :=
  ⟨f, oc, od, kV, doc, pm, an, ct, osl, PySem.W.mg_of X G a, l, cc, k, (fun_mk l cc k).binds b⟩
theorem lawAt_of {l : PySem.W.OpenLaw} {w : World} {K : PySem.W.Frag} {mg : Str → Option Value} {h : Heap} {fa c Pt : Addr} {oc : Value} {od : Option Addr} {vs : Array Value} {sl : Array (Option Value)} (KX : K.In h) (hd : K.lookup c = some ⟨oc, od, .fields vs, sl⟩) (h11 : vs[11]? = some (.ref Pt)) (hn : PySem.W.codeHdIn K c Pt = true ∧ K.lookup Pt = none)
    (A : ∃ fd : FuncData, (∀ (s : Shared) (v : Value), BindsTo s fd ⟨[v], []⟩ [("_law_script", v)]) ∧ ∀ base : Heap, K.In base → base.Ns mainGlobals mg → LamX.TabB base mg c Pt → FnOk l.prog w K mg base CX0 14 fa fd ["_law_script"] (spLaw K Pt)) {ts : List Addr} (hT : Pt ∈ ts → h.get? Pt = some (PySem.W.tabObj #[])) (hm : Pt ∈ ts) : LamX.LawAtS l w K CX0 14 63 "_law_script" mg fa h := by
  obtain ⟨fd, bf, hF⟩ := A
  refine ⟨fd, [(c, Pt)], spLaw K Pt, fun p hp => ?_, fun p hp => ?_, fun p hp => ?_, bf, fun H a ns hl _ hH hS => ⟨a, ns, rfl, hS, hl, hH (c, Pt) (List.mem_singleton.mpr rfl), fun _ => rfl⟩, fun base kb gb TB => hF base kb gb (TB (c, Pt) (List.mem_singleton.mpr rfl))⟩
  · rw [List.mem_singleton.mp hp]
    exact hT hm
  · rw [List.mem_singleton.mp hp]
    exact hn.2
  · rw [List.mem_singleton.mp hp]
    exact PySem.W.codeHd_of_K KX hn.1
theorem all_mk {P : Program} {w : World} {K : PySem.W.Frag} {h : Heap} {mg : Str → Option Value} {fa f : Addr} (X : K.In h) (G : h.Ns mainGlobals mg) (hfa : mg "law" = some (.ref fa))
    {od an : Option Addr} {sl : Array (Option Value)} {oc kV dc pm cd ct : Value}
    (aL : PySem.W.nsIn K mainGlobals "law" = some (some (.ref f))) (lL : K.lookup f = some ⟨oc, od, .func (PySem.W.fnOf "law" "law" (defArgs s_law) (defBody s_law) (defScope s_law) .none kV dc pm an cd ct), sl⟩) (cL : PySem.W.codeIn K cd "law" = true) (kL : PySem.W.keepIn K (.ref f) = true)
    (F_law_pull : FnAt K mg "_law_pull" s__law_pull ["_law_bag", "_law_many"])
    (F_law_sign : FnAt K mg "_law_sign" s__law_sign ["_law_bag", "_law_many"])
    (F_law_flip : FnAt K mg "_law_flip" s__law_flip ["_law_sign_here"])
    (F_law_word : FnAt K mg "_law_word" s__law_word ["_law_bag", "_law_upto", "_law_many"])
    (F_law_bad : FnAt K mg "_law_bad" s__law_bad ["_law_bag", "_law_word_here"])
    (F_law_begin : FnAt K mg "_law_begin" s__law_begin ["_law_script"])
    (F_law_bare : FnAt K mg "_law_bare" s__law_bare [])
    (F_law_pick : FnAt K mg "_law_pick" s__law_pick ["_law_bag", "_law_row"])
    (F_law_same : FnAt K mg "_law_same" s__law_same ["_law_found", "_law_due"])
    (F_law_good_word : FnAt K mg "_law_good_word" s__law_good_word ["_law_text"])
    (F_law_good_name : FnAt K mg "_law_good_name" s__law_good_name ["_law_text"])
    (F_law_deed_word : FnAt K mg "_law_deed_word" s__law_deed_word ["_law_state", "_law_deed_here"])
    (F_law_tried : FnAt K mg "_law_tried" s__law_tried ["_law_ask"])
    (F_law_do : FnAt K mg "_law_do" s__law_do ["_law_house", "_law_deed_here"])
    (F_law_value : FnAt K mg "_law_value" s__law_value ["_law_state", "_law_deed_here"])
    (F_law_copy : FnAt K mg "_law_copy" s__law_copy ["_law_state"])
    (F_law_entered : FnAt K mg "_law_entered" s__law_entered ["_law_state", "_law_deed_here", "_law_paper"])
    (F_law_name : FnAt K mg "_law_name" s__law_name ["_law_bag"])
    (F_law_some_name : FnAt K mg "_law_some_name" s__law_some_name ["_law_bag", "_law_known"])
    (F_law_back : FnAt K mg "_law_back" s__law_back ["_law_word_here"])
    (F_law_round_ways : FnAt K mg "_law_round_ways" s__law_round_ways ["_law_bag", "_law_word_here", "_law_many"])
    (F_law_deed : FnAt K mg "_law_deed" s__law_deed ["_law_bag", "_law_state"])
    (F_law_light_deed : FnAt K mg "_law_light_deed" s__law_light_deed ["_law_bag", "_law_state"])
    (F_law_number_of : FnAt K mg "_law_number_of" s__law_number_of ["_law_text"])
    (F_law_word_of : FnAt K mg "_law_word_of" s__law_word_of ["_law_text"])
    (F_law_row_in : FnAt K mg "_law_row_in" s__law_row_in ["_law_state", "_law_words"])
    (F_law_first_wrong : FnAt K mg "_law_first_wrong" s__law_first_wrong ["_law_text"])
    (F_law_bent : FnAt K mg "_law_bent" s__law_bent ["_law_bag", "_law_text"])
    (F_law_told : FnAt K mg "_law_told" s__law_told ["_law_text"])
    (Fis_upto : FnAt K mg "is_upto" s_is_upto ["thing", "most"])
    (Fis_name : FnAt K mg "is_name" s_is_name ["text"])
    (Fneed_name : FnAt K mg "need_name" s_need_name ["text"])
    (Fwithout : FnAt K mg "without" s_without ["things", "gone"])
    (Fis_word : FnAt K mg "is_word" s_is_word ["text"])
    (Fneed_word : FnAt K mg "need_word" s_need_word ["text"])
    (Fneed_words : FnAt K mg "need_words" s_need_words ["texts"])
    (Flike : FnAt K mg "like" s_like ["stand", "left", "right"])
    (Fstrike : FnAt K mg "strike" s_strike ["stand", "number"])
    (Fput : FnAt K mg "put" s_put ["stand", "word_name", "word"])
    (Fforget : FnAt K mg "forget" s_forget ["stand", "word_name"])
    (Funshelve : FnAt K mg "unshelve" s_unshelve ["stand", "label"])
    (Fdone : FnAt K mg "done" s_done ["stand", "deed"])
    (Fis_number : FnAt K mg "is_number" s_is_number ["text"])
    (Fshown : FnAt K mg "shown" s_shown ["word"])
    (Fmeant : FnAt K mg "meant" s_meant ["text"])
    (Fis_written_word : FnAt K mg "is_written_word" s_is_written_word ["text"])
    (Fis_side : FnAt K mg "is_side" s_is_side ["text"])
    (Flast : FnAt K mg "last" s_last ["things", "other"])
    (Fis_coming : FnAt K mg "is_coming" s_is_coming ["stand", "parts"])
    (Fis_line : FnAt K mg "is_line" s_is_line ["stand", "parts"])
    (Fis_text : FnAt K mg "is_text" s_is_text ["stand", "parts"])
    (Fis_added : FnAt K mg "is_added" s_is_added ["stand", "number", "parts"])
    (Fread_page : FnAt K mg "read_page" s_read_page ["text"])
    (Fpage : FnAt K mg "page" s_page ["hall"])
    (Fhall_of : FnAt K mg "hall_of" s_hall_of ["stand"])
    (B : Blt mg) (Nrepr : mg "repr" = none) (Ndict : mg "dict" = none) (Nmax : mg "max" = none) (Nint : mg "int" = none) (Nenumerate : mg "enumerate" = none) {t_MOST_WORD : Tok} (C_MOST_WORD : mg "MOST_WORD" = some (.int 60 t_MOST_WORD)) {t_SIGNS : Tok} (C_SIGNS : mg "SIGNS" = some (.str (Str.ofString "aAbBcCdDeEfFgGhH") t_SIGNS)) {t_MOST_SIDE : Tok} (C_MOST_SIDE : mg "MOST_SIDE" = some (.int 12 t_MOST_SIDE)) {t_MOST_LINES : Tok} (C_MOST_LINES : mg "MOST_LINES" = some (.int 12 t_MOST_LINES)) {t_LAST_NUMBER : Tok} (C_LAST_NUMBER : mg "LAST_NUMBER" = some (.int 999999999 t_LAST_NUMBER)) {t_MOST_NAMES : Tok} (C_MOST_NAMES : mg "MOST_NAMES" = some (.int 20 t_MOST_NAMES)) {t_MOST_NAME : Tok} (C_MOST_NAME : mg "MOST_NAME" = some (.int 8 t_MOST_NAME)) {t_NAME_LETTERS : Tok} (C_NAME_LETTERS : mg "NAME_LETTERS" = some (.str (Str.ofString "abcdefghijklmnopqrstuvwxyz") t_NAME_LETTERS)) {t_MOST_FIGURES : Tok} (C_MOST_FIGURES : mg "MOST_FIGURES" = some (.int 9 t_MOST_FIGURES)) {t_FIGURES : Tok} (C_FIGURES : mg "FIGURES" = some (.str (Str.ofString "0123456789") t_FIGURES)) {t_NO_SIGNS : Tok} (C_NO_SIGNS : mg "NO_SIGNS" = some (.str (Str.ofString "-") t_NO_SIGNS)) {CStand : Addr} (TStand : SDC K mg CStand) (mkStand : PySem.W.makesIn K CStand = true) (kcStand : PySem.W.keepIn K (.ref CStand) = true)
    (MStand___init__ : MAt K CStand "__init__" "Stand.__init__" s_Stand___init__ ["self"])
    (MStand_twin : MAt K CStand "twin" "Stand.twin" s_Stand_twin ["self"])
    (MStand_text_of : MAt K CStand "text_of" "Stand.text_of" s_Stand_text_of ["self", "word_name"])
    (MStand_add_line : MAt K CStand "add_line" "Stand.add_line" s_Stand_add_line ["self", "number", "left", "right"])
    (MStand_add_text : MAt K CStand "add_text" "Stand.add_text" s_Stand_add_text ["self", "word_name", "word"])
    (MStand_paper_of : MAt K CStand "paper_of" "Stand.paper_of" s_Stand_paper_of ["self", "label"]) {CHall : Addr} (THall : HLC K mg CHall) (mkHall : PySem.W.makesIn K CHall = true) (kcHall : PySem.W.keepIn K (.ref CHall) = true)
    (MHall___init__ : MAt K CHall "__init__" "Hall.__init__" s_Hall___init__ ["self"])
    (MHall_stand_by : MAt K CHall "stand_by" "Hall.stand_by" s_Hall_stand_by ["self", "stand"])
    (MHall_settle : MAt K CHall "settle" "Hall.settle" s_Hall_settle ["self", "stand"])
    (MHall_did : MAt K CHall "did" "Hall.did" s_Hall_did ["self", "deed"])
    (MHall_like : MAt K CHall "like" "Hall.like" s_Hall_like ["self", "left", "right"])
    (MHall_strike : MAt K CHall "strike" "Hall.strike" s_Hall_strike ["self", "number"])
    (MHall_put : MAt K CHall "put" "Hall.put" s_Hall_put ["self", "word_name", "word"])
    (MHall_forget : MAt K CHall "forget" "Hall.forget" s_Hall_forget ["self", "word_name"])
    (MHall_unshelve : MAt K CHall "unshelve" "Hall.unshelve" s_Hall_unshelve ["self", "label"])
    (MHall_coming : MAt K CHall "coming" "Hall.coming" s_Hall_coming ["self"])
    (MHall___len__ : MAt K CHall "__len__" "Hall.__len__" s_Hall___len__ ["self"])
    (MHall_lines : MAt K CHall "lines" "Hall.lines" s_Hall_lines ["self"])
    (MHall_words : MAt K CHall "words" "Hall.words" s_Hall_words ["self"])
    (MHall_shelf : MAt K CHall "shelf" "Hall.shelf" s_Hall_shelf ["self"])
    (MHall___repr__ : MAt K CHall "__repr__" "Hall.__repr__" s_Hall___repr__ ["self"])
    {CS fS : Addr} (S_ : SE K mg CS fS) (FS_ : FbD K "__init__" "SpoorError.__init__" s_SpoorError___init__ fS ["self", "word", "message"])
    {CBadWord fBadWord : Addr} (EBadWord : EC K mg "BadWord" CBadWord fBadWord) (IBadWord : Fb K "__init__" "BadWord.__init__" s_BadWord___init__ fBadWord ["self"])
    {CBadName fBadName : Addr} (EBadName : EC K mg "BadName" CBadName fBadName) (IBadName : Fb K "__init__" "BadName.__init__" s_BadName___init__ fBadName ["self"])
    {CTooLong fTooLong : Addr} (ETooLong : EC K mg "TooLong" CTooLong fTooLong) (ITooLong : Fb K "__init__" "TooLong.__init__" s_TooLong___init__ fTooLong ["self"])
    {CFull fFull : Addr} (EFull : EC K mg "Full" CFull fFull) (IFull : Fb K "__init__" "Full.__init__" s_Full___init__ fFull ["self"])
    {CBadPage fBadPage : Addr} (EBadPage : EC K mg "BadPage" CBadPage fBadPage) (IBadPage : Fb K "__init__" "BadPage.__init__" s_BadPage___init__ fBadPage ["self", "row"])
    {CL fL : Addr} (L_ : LE K mg CL fL) (FL_ : FbD K "__init__" "Lacking.__init__" s_Lacking___init__ fL ["self", "word", "message"])
    {CNoName fNoName : Addr} (ENoName : EL K mg "NoName" CNoName fNoName) (INoName : Fb K "__init__" "NoName.__init__" s_NoName___init__ fNoName ["self", "name"])
    {CNoLine fNoLine : Addr} (ENoLine : EL K mg "NoLine" CNoLine fNoLine) (INoLine : Fb K "__init__" "NoLine.__init__" s_NoLine___init__ fNoLine ["self", "number"])
    (nNoName_name : PySem.W.findIn K (.ref CNoName) "name" = some none)
    (nNoLine_number : PySem.W.findIn K (.ref CNoLine) "number" = some none)
    {pD f1 f2 f3 f4 f5 : Addr} (TDD : DDT K mg w pD f1 f2 f3 f4 f5)
    (sxBadName : PySem.W.exmOne K (.ref CBadName) (.ref CS) = some true)
    (sxBadWord : PySem.W.exmOne K (.ref CBadWord) (.ref CS) = some true)
    (sxTooLong : PySem.W.exmOne K (.ref CTooLong) (.ref CS) = some true)
    (sxFull : PySem.W.exmOne K (.ref CFull) (.ref CS) = some true)
    (sxNoName : PySem.W.exmOne K (.ref CNoName) (.ref CS) = some false)
    (syNoName : PySem.W.exmOne K (.ref CNoName) (.ref CL) = some true)
    (sxNoLine : PySem.W.exmOne K (.ref CNoLine) (.ref CS) = some false)
    (syNoLine : PySem.W.exmOne K (.ref CNoLine) (.ref CL) = some true)
    (nBadPage_row : PySem.W.findIn K (.ref CBadPage) "row" = some none)
    {cP Pt : Addr} (F_law_played : FnAtC K mg "_law_played" s__law_played ["_law_house", "_law_state", "_law_deed_here"] cP) :
    ∃ fd : FuncData, (∀ (s : Shared) (v : Value), BindsTo s fd ⟨[v], []⟩ [("_law_script", v)]) ∧ ∀ base : Heap, K.In base → base.Ns mainGlobals mg → LamX.TabB base mg cP Pt → FnOk P w K mg base CX0 14 fa fd ["_law_script"] (spLaw K Pt) := by
  have e := hfa.symm.trans (PySem.W.mg_of X G aL)
  cases e
  have FL := fun_mk (st := s_law) lL cL kL
  refine ⟨PySem.W.fnOf "law" "law" (defArgs s_law) (defBody s_law) (defScope s_law) .none kV dc pm an cd ct, fun s v => .of_eq rfl, fun base _ _ TB => ?_⟩
  obtain ⟨fdS, FS, bS⟩ := FS_
  obtain ⟨fdW, FFW, bW⟩ := IBadWord
  have G_BadWord := ok_bwd (P := P) (w := w) (base := base) FFW S_ FS bS
  obtain ⟨fdB, FFB, bB⟩ := IBadName
  have G_BadName := ok_BadName (P := P) (w := w) (base := base) FFB S_ FS bS
  obtain ⟨fdT, FFT, bT⟩ := ITooLong
  have G_TooLong := ok_TooLong (P := P) (w := w) (base := base) FFT S_ FS bS
  obtain ⟨fdF, FFF, bF⟩ := IFull
  have G_Full := ok_Full (P := P) (w := w) (base := base) FFF S_ FS bS
  obtain ⟨fdL, FL1, bL⟩ := FL_
  obtain ⟨fdN, FFN, bN⟩ := INoName
  have G_NoName := ok_nnm (P := P) (w := w) (base := base) FFN L_ FL1 bL
  obtain ⟨fdO, FFO, bO⟩ := INoLine
  have G_NoLine := ok_nln (P := P) (w := w) (base := base) FFO L_ FL1 bL
  obtain ⟨fdP, FFP, bP⟩ := IBadPage
  have G_BadPage := ok_bpg (P := P) (w := w) (base := base) FFP S_ FS bS
  have hRf : ∀ C, RfC CNoName CNoLine CBadName CBadWord CTooLong CFull C → XfC K C ∧ PySem.W.findIn K (.ref C) "word" = some none ∧ ∃ b, PySem.W.exmOne K (.ref C) (.ref CS) = some b ∧ (b = false → PySem.W.exmOne K (.ref C) (.ref CL) = some true) := fun C h => by
    rcases h with rfl | rfl | rfl | rfl | rfl | rfl
    · exact ⟨ENoName.xf, ENoName.nw, false, sxNoName, fun _ => syNoName⟩
    · exact ⟨ENoLine.xf, ENoLine.nw, false, sxNoLine, fun _ => syNoLine⟩
    · exact ⟨EBadName.xf, EBadName.nw, true, sxBadName, fun z => nomatch z⟩
    · exact ⟨EBadWord.xf, EBadWord.nw, true, sxBadWord, fun z => nomatch z⟩
    · exact ⟨ETooLong.xf, ETooLong.nw, true, sxTooLong, fun z => nomatch z⟩
    · exact ⟨EFull.xf, EFull.nw, true, sxFull, fun z => nomatch z⟩
  have h_Sa := has_same (P := P) (w := w) (base := base) F_law_same B
  have h_Pu := has_pull (P := P) (w := w) (base := base) F_law_pull B
  have h_Be := has_begin (P := P) (w := w) (base := base) F_law_begin B
  have h_Fl := has_flip (P := P) (w := w) (base := base) F_law_flip
  have h_Si := has_sign (P := P) (w := w) (base := base) F_law_sign h_Pu
  have h_Wo := has_word (P := P) (w := w) (base := base) F_law_word B h_Pu h_Si h_Fl
  have h_Iw := has_isword (P := P) (w := w) (base := base) Fis_word B C_MOST_WORD C_SIGNS
  have h_Up := has_up (P := P) (w := w) (base := base) Fis_upto B
  have h_NeX := has_neX (P := P) (w := w) (base := base) Fneed_word h_Iw EBadWord G_BadWord bW
  have h_Nw2 := has_nw2 (P := P) (w := w) (base := base) Fneed_words h_NeX
  have h_Isn := has_isn (P := P) (w := w) (base := base) Fis_name B C_MOST_NAME C_NAME_LETTERS
  have h_Nnm := has_nnmx (P := P) (w := w) (base := base) Fneed_name h_Isn EBadName G_BadName bB
  have h_Wth := has_wth (P := P) (w := w) (base := base) Fwithout B
  have h_SdI := has_sdi (P := P) (w := w) (base := base) MStand___init__ TStand
  have h_SdT := has_sdt (P := P) (w := w) (base := base) MStand_twin TStand mkStand kcStand h_SdI
  have h_SdX := has_sdx (P := P) (w := w) (base := base) MStand_text_of TStand ENoName nNoName_name G_NoName bN
  have h_SdL := has_sdl (P := P) (w := w) (base := base) MStand_add_line TStand
  have h_SdW := has_sdw (P := P) (w := w) (base := base) MStand_add_text TStand
  have h_SdP := has_sdp (P := P) (w := w) (base := base) MStand_paper_of TStand ENoName nNoName_name G_NoName bN
  have h_Dlk := has_dlk (P := P) (w := w) (base := base) Flike B TStand C_MOST_SIDE C_MOST_LINES C_LAST_NUMBER h_Nw2 h_SdL ETooLong G_TooLong bT EFull G_Full bF
  have h_Dst := has_dst (P := P) (w := w) (base := base) Fstrike B TStand C_LAST_NUMBER h_Up h_Wth ENoLine nNoLine_number G_NoLine bO
  have h_Dpt := has_dpt (P := P) (w := w) (base := base) Fput B TStand C_MOST_NAMES h_Nnm h_NeX h_SdW EFull G_Full bF
  have h_Dfg := has_dfg (P := P) (w := w) (base := base) Fforget TStand h_SdX h_Wth
  have h_Dun := has_dun (P := P) (w := w) (base := base) Funshelve TStand h_SdP h_Wth
  have h_Ddn := has_ddn (P := P) (w := w) (base := base) Fdone TDD h_Dlk h_Dst h_Dpt h_Dfg h_Dun
  have h_HlI := has_hli (P := P) (w := w) (base := base) MHall___init__ THall TStand mkStand kcStand h_SdI
  have h_Hsb := has_hsb (P := P) (w := w) (base := base) MHall_stand_by THall TStand
  have h_Hse := has_hse (P := P) (w := w) (base := base) MHall_settle THall h_Hsb
  have h_Hdd := has_hdd (P := P) (w := w) (base := base) MHall_did THall TStand h_SdT h_Ddn h_Hse mono5
  have h_Hlk := has_hlk (P := P) (w := w) (base := base) MHall_like THall h_Hdd
  have h_Hst := has_hst (P := P) (w := w) (base := base) MHall_strike THall h_Hdd
  have h_Hpt := has_hpt (P := P) (w := w) (base := base) MHall_put THall h_Hdd
  have h_Hfg := has_hfg (P := P) (w := w) (base := base) MHall_forget THall h_Hdd
  have h_Hun := has_hun (P := P) (w := w) (base := base) MHall_unshelve THall h_Hdd
  have h_Hco := has_hco (P := P) (w := w) (base := base) MHall_coming THall TStand
  have h_Hln := has_hln (P := P) (w := w) (base := base) MHall___len__ B THall TStand
  have h_Hli := has_hlin (P := P) (w := w) (base := base) MHall_lines THall TStand
  have h_Hwo := has_hwo (P := P) (w := w) (base := base) MHall_words B THall TStand
  have h_Hsf := has_hsf (P := P) (w := w) (base := base) MHall_shelf B THall TStand
  have h_Hrp := has_hrp (P := P) (w := w) (base := base) MHall___repr__ B THall TStand
  have h_Hof := has_hof (P := P) (w := w) (base := base) Fhall_of THall mkHall kcHall h_HlI
  have h_Lba := has_lba (P := P) (w := w) (base := base) F_law_bare
  have h_Lgn := has_lgn (P := P) (w := w) (base := base) F_law_good_name B
  have h_Lgw := has_lgw (P := P) (w := w) (base := base) F_law_good_word B
  have h_Lcp := has_lcp (P := P) (w := w) (base := base) F_law_copy B Ndict
  have h_Len := has_len (P := P) (w := w) (base := base) F_law_entered B h_Lcp
  have h_Ldw := has_ldw (P := P) (w := w) (base := base) F_law_deed_word B Nmax h_Lgw h_Lgn
  have h_Lva := has_lva (P := P) (w := w) (base := base) F_law_value B
  have h_Ldo := has_ldo (P := P) (w := w) (base := base) F_law_do THall h_Hlk h_Hst h_Hpt h_Hfg h_Hun
  have h_Lpl := has_lpl (P := P) (w := w) (base := base) F_law_played B TB F_law_tried S_.gC L_.gC hRf h_Ldw h_Lva h_Len h_Ldo (h_Sa 2)
  have h_Bd := has_bad (P := P) (w := w) (base := base) F_law_bad B h_Pu
  have h_Lpk := has_lpk (P := P) (w := w) (base := base) F_law_pick B h_Pu
  have h_Lna := has_lna (P := P) (w := w) (base := base) F_law_name B h_Pu
  have h_Lsn := has_lsn (P := P) (w := w) (base := base) F_law_some_name h_Pu h_Lpk h_Lna
  have h_Ba := has_back (P := P) (w := w) (base := base) F_law_back h_Fl
  have h_Rw := has_rw (P := P) (w := w) (base := base) F_law_round_ways B h_Pu h_Ba
  have h_Lde := has_lde (P := P) (w := w) (base := base) F_law_deed B h_Pu h_Wo h_Lpk h_Bd h_Rw h_Lsn
  have h_Lld := has_lld (P := P) (w := w) (base := base) F_law_light_deed h_Pu h_Wo h_Lde
  have h_Inu := has_inu (P := P) (w := w) (base := base) Fis_number B C_MOST_FIGURES C_FIGURES
  have h_Shn := has_shn (P := P) (w := w) (base := base) Fshown C_NO_SIGNS
  have h_Mnt := has_mnt (P := P) (w := w) (base := base) Fmeant C_NO_SIGNS
  have h_Iww := has_iww (P := P) (w := w) (base := base) Fis_written_word h_Iw h_Mnt
  have h_Isd := has_isd (P := P) (w := w) (base := base) Fis_side B C_MOST_SIDE h_Iww
  have h_Las := has_las (P := P) (w := w) (base := base) Flast B
  have h_Ico := has_ico (P := P) (w := w) (base := base) Fis_coming B Nint TStand h_Inu
  have h_SdLn := has_sdln (P := P) (w := w) (base := base) MStand_add_line TStand
  have h_Iln := has_iln (P := P) (w := w) (base := base) Fis_line B Nint TStand C_MOST_LINES h_Inu h_Isd h_Mnt h_Las h_SdLn
  have h_Itx := has_itx (P := P) (w := w) (base := base) Fis_text B TStand C_MOST_NAMES h_Isn h_Iww h_Mnt h_Las h_SdW
  have h_Iad := has_iad (P := P) (w := w) (base := base) Fis_added h_Ico h_Iln h_Itx
  have h_Rpg := has_rpg (P := P) (w := w) (base := base) Fread_page B Nenumerate TStand mkStand kcStand h_SdI h_Iad h_Hof EBadPage nBadPage_row G_BadPage bP
  have h_Pge := has_pge (P := P) (w := w) (base := base) Fpage THall h_Hco h_Hli h_Hwo h_Shn
  have h_Lno := has_lno (P := P) (w := w) (base := base) F_law_number_of B Nint
  have h_Lwo := has_lwo (P := P) (w := w) (base := base) F_law_word_of h_Lgw
  have h_Lri := has_lri (P := P) (w := w) (base := base) F_law_row_in B h_Lcp h_Lno h_Lwo h_Lgn
  have h_Lfw := has_lfw (P := P) (w := w) (base := base) F_law_first_wrong B h_Lno h_Lba h_Lri
  have h_Lbe := has_lbe (P := P) (w := w) (base := base) F_law_bent B h_Pu h_Lpk
  have h_Tlp := has_tlp (P := P) (w := w) (base := base) F_law_told h_Pge h_Rpg EBadPage nBadPage_row
  exact ok_law FL B THall mkHall kcHall h_Be h_Pu h_Lba (h_Sa 1) h_HlI h_Lpl h_Lld h_Pge h_Lbe h_Lfw h_Tlp
theorem gm_0 {w : World} {mg : Str → Option Value}  (e_0 : FnAt (Sf.hx.heap_1 w.params) mg "_law_pull" s__law_pull ["_law_bag", "_law_many"]) (e_1 : FnAt (Sf.hx.heap_1 w.params) mg "_law_sign" s__law_sign ["_law_bag", "_law_many"]) (e_2 : FnAt (Sf.hx.heap_1 w.params) mg "_law_flip" s__law_flip ["_law_sign_here"]) (e_3 : FnAt (Sf.hx.heap_1 w.params) mg "_law_word" s__law_word ["_law_bag", "_law_upto", "_law_many"]) (e_4 : FnAt (Sf.hx.heap_1 w.params) mg "_law_bad" s__law_bad ["_law_bag", "_law_word_here"]) (e_5 : FnAt (Sf.hx.heap_1 w.params) mg "_law_begin" s__law_begin ["_law_script"]) (e_6 : FnAt (Sf.hx.heap_1 w.params) mg "_law_bare" s__law_bare []) (e_7 : FnAt (Sf.hx.heap_1 w.params) mg "_law_pick" s__law_pick ["_law_bag", "_law_row"]) (e_8 : FnAt (Sf.hx.heap_1 w.params) mg "_law_same" s__law_same ["_law_found", "_law_due"]) (e_9 : FnAt (Sf.hx.heap_1 w.params) mg "_law_good_word" s__law_good_word ["_law_text"]) (e_10 : FnAt (Sf.hx.heap_1 w.params) mg "_law_good_name" s__law_good_name ["_law_text"]) (e_11 : FnAt (Sf.hx.heap_1 w.params) mg "_law_deed_word" s__law_deed_word ["_law_state", "_law_deed_here"]) (e_12 : FnAt (Sf.hx.heap_1 w.params) mg "_law_tried" s__law_tried ["_law_ask"]) (e_13 : FnAt (Sf.hx.heap_1 w.params) mg "_law_do" s__law_do ["_law_house", "_law_deed_here"]) (e_14 : FnAt (Sf.hx.heap_1 w.params) mg "_law_value" s__law_value ["_law_state", "_law_deed_here"]) (e_15 : FnAt (Sf.hx.heap_1 w.params) mg "_law_copy" s__law_copy ["_law_state"]) (e_16 : FnAt (Sf.hx.heap_1 w.params) mg "_law_entered" s__law_entered ["_law_state", "_law_deed_here", "_law_paper"]) (e_17 : FnAt (Sf.hx.heap_1 w.params) mg "_law_name" s__law_name ["_law_bag"]) (e_18 : FnAt (Sf.hx.heap_1 w.params) mg "_law_some_name" s__law_some_name ["_law_bag", "_law_known"]) (e_19 : FnAt (Sf.hx.heap_1 w.params) mg "_law_back" s__law_back ["_law_word_here"]) (e_20 : FnAt (Sf.hx.heap_1 w.params) mg "_law_round_ways" s__law_round_ways ["_law_bag", "_law_word_here", "_law_many"]) (e_21 : FnAt (Sf.hx.heap_1 w.params) mg "_law_deed" s__law_deed ["_law_bag", "_law_state"]) (e_22 : FnAt (Sf.hx.heap_1 w.params) mg "_law_light_deed" s__law_light_deed ["_law_bag", "_law_state"]) (e_23 : FnAt (Sf.hx.heap_1 w.params) mg "_law_number_of" s__law_number_of ["_law_text"]) (e_24 : FnAt (Sf.hx.heap_1 w.params) mg "_law_word_of" s__law_word_of ["_law_text"]) : (FnAt (Sf.hx.heap_1 w.params) mg "_law_pull" s__law_pull ["_law_bag", "_law_many"]) ∧ (FnAt (Sf.hx.heap_1 w.params) mg "_law_sign" s__law_sign ["_law_bag", "_law_many"]) ∧ (FnAt (Sf.hx.heap_1 w.params) mg "_law_flip" s__law_flip ["_law_sign_here"]) ∧ (FnAt (Sf.hx.heap_1 w.params) mg "_law_word" s__law_word ["_law_bag", "_law_upto", "_law_many"]) ∧ (FnAt (Sf.hx.heap_1 w.params) mg "_law_bad" s__law_bad ["_law_bag", "_law_word_here"]) ∧ (FnAt (Sf.hx.heap_1 w.params) mg "_law_begin" s__law_begin ["_law_script"]) ∧ (FnAt (Sf.hx.heap_1 w.params) mg "_law_bare" s__law_bare []) ∧ (FnAt (Sf.hx.heap_1 w.params) mg "_law_pick" s__law_pick ["_law_bag", "_law_row"]) ∧ (FnAt (Sf.hx.heap_1 w.params) mg "_law_same" s__law_same ["_law_found", "_law_due"]) ∧ (FnAt (Sf.hx.heap_1 w.params) mg "_law_good_word" s__law_good_word ["_law_text"]) ∧ (FnAt (Sf.hx.heap_1 w.params) mg "_law_good_name" s__law_good_name ["_law_text"]) ∧ (FnAt (Sf.hx.heap_1 w.params) mg "_law_deed_word" s__law_deed_word ["_law_state", "_law_deed_here"]) ∧ (FnAt (Sf.hx.heap_1 w.params) mg "_law_tried" s__law_tried ["_law_ask"]) ∧ (FnAt (Sf.hx.heap_1 w.params) mg "_law_do" s__law_do ["_law_house", "_law_deed_here"]) ∧ (FnAt (Sf.hx.heap_1 w.params) mg "_law_value" s__law_value ["_law_state", "_law_deed_here"]) ∧ (FnAt (Sf.hx.heap_1 w.params) mg "_law_copy" s__law_copy ["_law_state"]) ∧ (FnAt (Sf.hx.heap_1 w.params) mg "_law_entered" s__law_entered ["_law_state", "_law_deed_here", "_law_paper"]) ∧ (FnAt (Sf.hx.heap_1 w.params) mg "_law_name" s__law_name ["_law_bag"]) ∧ (FnAt (Sf.hx.heap_1 w.params) mg "_law_some_name" s__law_some_name ["_law_bag", "_law_known"]) ∧ (FnAt (Sf.hx.heap_1 w.params) mg "_law_back" s__law_back ["_law_word_here"]) ∧ (FnAt (Sf.hx.heap_1 w.params) mg "_law_round_ways" s__law_round_ways ["_law_bag", "_law_word_here", "_law_many"]) ∧ (FnAt (Sf.hx.heap_1 w.params) mg "_law_deed" s__law_deed ["_law_bag", "_law_state"]) ∧ (FnAt (Sf.hx.heap_1 w.params) mg "_law_light_deed" s__law_light_deed ["_law_bag", "_law_state"]) ∧ (FnAt (Sf.hx.heap_1 w.params) mg "_law_number_of" s__law_number_of ["_law_text"]) ∧ (FnAt (Sf.hx.heap_1 w.params) mg "_law_word_of" s__law_word_of ["_law_text"]) := ⟨e_0, e_1, e_2, e_3, e_4, e_5, e_6, e_7, e_8, e_9, e_10, e_11, e_12, e_13, e_14, e_15, e_16, e_17, e_18, e_19, e_20, e_21, e_22, e_23, e_24⟩
theorem gz_0 : PySem.Challenge.rw_spoorfold_k75_texts_that_are_no_pages = PySem.Challenge.rw_spoorfold_k75_texts_that_are_no_pages → ∀ {w : World} {h : Heap} {mg : Str → Option Value} (KX : (Sf.hx.heap_1 w.params).In h) (G : h.Ns mainGlobals mg), (FnAt (Sf.hx.heap_1 w.params) mg "_law_pull" s__law_pull ["_law_bag", "_law_many"]) ∧ (FnAt (Sf.hx.heap_1 w.params) mg "_law_sign" s__law_sign ["_law_bag", "_law_many"]) ∧ (FnAt (Sf.hx.heap_1 w.params) mg "_law_flip" s__law_flip ["_law_sign_here"]) ∧ (FnAt (Sf.hx.heap_1 w.params) mg "_law_word" s__law_word ["_law_bag", "_law_upto", "_law_many"]) ∧ (FnAt (Sf.hx.heap_1 w.params) mg "_law_bad" s__law_bad ["_law_bag", "_law_word_here"]) ∧ (FnAt (Sf.hx.heap_1 w.params) mg "_law_begin" s__law_begin ["_law_script"]) ∧ (FnAt (Sf.hx.heap_1 w.params) mg "_law_bare" s__law_bare []) ∧ (FnAt (Sf.hx.heap_1 w.params) mg "_law_pick" s__law_pick ["_law_bag", "_law_row"]) ∧ (FnAt (Sf.hx.heap_1 w.params) mg "_law_same" s__law_same ["_law_found", "_law_due"]) ∧ (FnAt (Sf.hx.heap_1 w.params) mg "_law_good_word" s__law_good_word ["_law_text"]) ∧ (FnAt (Sf.hx.heap_1 w.params) mg "_law_good_name" s__law_good_name ["_law_text"]) ∧ (FnAt (Sf.hx.heap_1 w.params) mg "_law_deed_word" s__law_deed_word ["_law_state", "_law_deed_here"]) ∧ (FnAt (Sf.hx.heap_1 w.params) mg "_law_tried" s__law_tried ["_law_ask"]) ∧ (FnAt (Sf.hx.heap_1 w.params) mg "_law_do" s__law_do ["_law_house", "_law_deed_here"]) ∧ (FnAt (Sf.hx.heap_1 w.params) mg "_law_value" s__law_value ["_law_state", "_law_deed_here"]) ∧ (FnAt (Sf.hx.heap_1 w.params) mg "_law_copy" s__law_copy ["_law_state"]) ∧ (FnAt (Sf.hx.heap_1 w.params) mg "_law_entered" s__law_entered ["_law_state", "_law_deed_here", "_law_paper"]) ∧ (FnAt (Sf.hx.heap_1 w.params) mg "_law_name" s__law_name ["_law_bag"]) ∧ (FnAt (Sf.hx.heap_1 w.params) mg "_law_some_name" s__law_some_name ["_law_bag", "_law_known"]) ∧ (FnAt (Sf.hx.heap_1 w.params) mg "_law_back" s__law_back ["_law_word_here"]) ∧ (FnAt (Sf.hx.heap_1 w.params) mg "_law_round_ways" s__law_round_ways ["_law_bag", "_law_word_here", "_law_many"]) ∧ (FnAt (Sf.hx.heap_1 w.params) mg "_law_deed" s__law_deed ["_law_bag", "_law_state"]) ∧ (FnAt (Sf.hx.heap_1 w.params) mg "_law_light_deed" s__law_light_deed ["_law_bag", "_law_state"]) ∧ (FnAt (Sf.hx.heap_1 w.params) mg "_law_number_of" s__law_number_of ["_law_text"]) ∧ (FnAt (Sf.hx.heap_1 w.params) mg "_law_word_of" s__law_word_of ["_law_text"]) := by
  k_fill
  intro _ w h mg KX G
  refine' gm_0 (w := w) (Sf.fnAt_mk KX G ?a0 ?l0 ?c0 ?k0 (fun _ _ _ _ _ _ us hl => match us, hl with | [_, _], _ => rfl)) (Sf.fnAt_mk KX G ?a1 ?l1 ?c1 ?k1 (fun _ _ _ _ _ _ us hl => match us, hl with | [_, _], _ => rfl)) (Sf.fnAt_mk KX G ?a2 ?l2 ?c2 ?k2 (fun _ _ _ _ _ _ us hl => match us, hl with | [_], _ => rfl)) (Sf.fnAt_mk KX G ?a3 ?l3 ?c3 ?k3 (fun _ _ _ _ _ _ us hl => match us, hl with | [_, _, _], _ => rfl)) (Sf.fnAt_mk KX G ?a4 ?l4 ?c4 ?k4 (fun _ _ _ _ _ _ us hl => match us, hl with | [_, _], _ => rfl)) (Sf.fnAt_mk KX G ?a5 ?l5 ?c5 ?k5 (fun _ _ _ _ _ _ us hl => match us, hl with | [_], _ => rfl)) (Sf.fnAt_mk KX G ?a6 ?l6 ?c6 ?k6 (fun _ _ _ _ _ _ us hl => match us, hl with | [], _ => rfl)) (Sf.fnAt_mk KX G ?a7 ?l7 ?c7 ?k7 (fun _ _ _ _ _ _ us hl => match us, hl with | [_, _], _ => rfl)) (Sf.fnAt_mk KX G ?a8 ?l8 ?c8 ?k8 (fun _ _ _ _ _ _ us hl => match us, hl with | [_, _], _ => rfl)) (Sf.fnAt_mk KX G ?a9 ?l9 ?c9 ?k9 (fun _ _ _ _ _ _ us hl => match us, hl with | [_], _ => rfl)) (Sf.fnAt_mk KX G ?a10 ?l10 ?c10 ?k10 (fun _ _ _ _ _ _ us hl => match us, hl with | [_], _ => rfl)) (Sf.fnAt_mk KX G ?a11 ?l11 ?c11 ?k11 (fun _ _ _ _ _ _ us hl => match us, hl with | [_, _], _ => rfl)) (Sf.fnAt_mk KX G ?a12 ?l12 ?c12 ?k12 (fun _ _ _ _ _ _ us hl => match us, hl with | [_], _ => rfl)) (Sf.fnAt_mk KX G ?a13 ?l13 ?c13 ?k13 (fun _ _ _ _ _ _ us hl => match us, hl with | [_, _], _ => rfl)) (Sf.fnAt_mk KX G ?a14 ?l14 ?c14 ?k14 (fun _ _ _ _ _ _ us hl => match us, hl with | [_, _], _ => rfl)) (Sf.fnAt_mk KX G ?a15 ?l15 ?c15 ?k15 (fun _ _ _ _ _ _ us hl => match us, hl with | [_], _ => rfl)) (Sf.fnAt_mk KX G ?a16 ?l16 ?c16 ?k16 (fun _ _ _ _ _ _ us hl => match us, hl with | [_, _, _], _ => rfl)) (Sf.fnAt_mk KX G ?a17 ?l17 ?c17 ?k17 (fun _ _ _ _ _ _ us hl => match us, hl with | [_], _ => rfl)) (Sf.fnAt_mk KX G ?a18 ?l18 ?c18 ?k18 (fun _ _ _ _ _ _ us hl => match us, hl with | [_, _], _ => rfl)) (Sf.fnAt_mk KX G ?a19 ?l19 ?c19 ?k19 (fun _ _ _ _ _ _ us hl => match us, hl with | [_], _ => rfl)) (Sf.fnAt_mk KX G ?a20 ?l20 ?c20 ?k20 (fun _ _ _ _ _ _ us hl => match us, hl with | [_, _, _], _ => rfl)) (Sf.fnAt_mk KX G ?a21 ?l21 ?c21 ?k21 (fun _ _ _ _ _ _ us hl => match us, hl with | [_, _], _ => rfl)) (Sf.fnAt_mk KX G ?a22 ?l22 ?c22 ?k22 (fun _ _ _ _ _ _ us hl => match us, hl with | [_, _], _ => rfl)) (Sf.fnAt_mk KX G ?a23 ?l23 ?c23 ?k23 (fun _ _ _ _ _ _ us hl => match us, hl with | [_], _ => rfl)) (Sf.fnAt_mk KX G ?a24 ?l24 ?c24 ?k24 (fun _ _ _ _ _ _ us hl => match us, hl with | [_], _ => rfl))
  (case a0 => k_is)
  (case l0 => k_is)
  (case c0 => k_is)
  (case k0 => k_is)
  (case a1 => k_is)
  (case l1 => k_is)
  (case c1 => k_is)
  (case k1 => k_is)
  (case a2 => k_is)
  (case l2 => k_is)
  (case c2 => k_is)
  (case k2 => k_is)
  (case a3 => k_is)
  (case l3 => k_is)
  (case c3 => k_is)
  (case k3 => k_is)
  (case a4 => k_is)
  (case l4 => k_is)
  (case c4 => k_is)
  (case k4 => k_is)
  (case a5 => k_is)
  (case l5 => k_is)
  (case c5 => k_is)
  (case k5 => k_is)
  (case a6 => k_is)
  (case l6 => k_is)
  (case c6 => k_is)
  (case k6 => k_is)
  (case a7 => k_is)
  (case l7 => k_is)
  (case c7 => k_is)
  (case k7 => k_is)
  (case a8 => k_is)
  (case l8 => k_is)
  (case c8 => k_is)
  (case k8 => k_is)
  (case a9 => k_is)
  (case l9 => k_is)
  (case c9 => k_is)
  (case k9 => k_is)
  (case a10 => k_is)
  (case l10 => k_is)
  (case c10 => k_is)
  (case k10 => k_is)
  (case a11 => k_is)
  (case l11 => k_is)
  (case c11 => k_is)
  (case k11 => k_is)
  (case a12 => k_is)
  (case l12 => k_is)
  (case c12 => k_is)
  (case k12 => k_is)
  (case a13 => k_is)
  (case l13 => k_is)
  (case c13 => k_is)
  (case k13 => k_is)
  (case a14 => k_is)
  (case l14 => k_is)
  (case c14 => k_is)
  (case k14 => k_is)
  (case a15 => k_is)
  (case l15 => k_is)
  (case c15 => k_is)
  (case k15 => k_is)
  (case a16 => k_is)
  (case l16 => k_is)
  (case c16 => k_is)
  (case k16 => k_is)
  (case a17 => k_is)
  (case l17 => k_is)
  (case c17 => k_is)
  (case k17 => k_is)
  (case a18 => k_is)
  (case l18 => k_is)
  (case c18 => k_is)
  (case k18 => k_is)
  (case a19 => k_is)
  (case l19 => k_is)
  (case c19 => k_is)
  (case k19 => k_is)
  (case a20 => k_is)
  (case l20 => k_is)
  (case c20 => k_is)
  (case k20 => k_is)
  (case a21 => k_is)
  (case l21 => k_is)
  (case c21 => k_is)
  (case k21 => k_is)
  (case a22 => k_is)
  (case l22 => k_is)
  (case c22 => k_is)
  (case k22 => k_is)
  (case a23 => k_is)
  (case l23 => k_is)
  (case c23 => k_is)
  (case k23 => k_is)
  (case a24 => k_is)
  (case l24 => k_is)
  (case c24 => k_is)
  (case k24 => k_is)
theorem gm_1 {w : World} {mg : Str → Option Value}  (e_0 : FnAt (Sf.hx.heap_1 w.params) mg "_law_row_in" s__law_row_in ["_law_state", "_law_words"]) (e_1 : FnAt (Sf.hx.heap_1 w.params) mg "_law_first_wrong" s__law_first_wrong ["_law_text"]) (e_2 : FnAt (Sf.hx.heap_1 w.params) mg "_law_bent" s__law_bent ["_law_bag", "_law_text"]) (e_3 : FnAt (Sf.hx.heap_1 w.params) mg "_law_told" s__law_told ["_law_text"]) (e_4 : FnAt (Sf.hx.heap_1 w.params) mg "is_upto" s_is_upto ["thing", "most"]) (e_5 : FnAt (Sf.hx.heap_1 w.params) mg "is_name" s_is_name ["text"]) (e_6 : FnAt (Sf.hx.heap_1 w.params) mg "need_name" s_need_name ["text"]) (e_7 : FnAt (Sf.hx.heap_1 w.params) mg "without" s_without ["things", "gone"]) (e_8 : FnAt (Sf.hx.heap_1 w.params) mg "is_word" s_is_word ["text"]) (e_9 : FnAt (Sf.hx.heap_1 w.params) mg "need_word" s_need_word ["text"]) (e_10 : FnAt (Sf.hx.heap_1 w.params) mg "need_words" s_need_words ["texts"]) (e_11 : FnAt (Sf.hx.heap_1 w.params) mg "like" s_like ["stand", "left", "right"]) (e_12 : FnAt (Sf.hx.heap_1 w.params) mg "strike" s_strike ["stand", "number"]) (e_13 : FnAt (Sf.hx.heap_1 w.params) mg "put" s_put ["stand", "word_name", "word"]) (e_14 : FnAt (Sf.hx.heap_1 w.params) mg "forget" s_forget ["stand", "word_name"]) (e_15 : FnAt (Sf.hx.heap_1 w.params) mg "unshelve" s_unshelve ["stand", "label"]) (e_16 : FnAt (Sf.hx.heap_1 w.params) mg "done" s_done ["stand", "deed"]) (e_17 : FnAt (Sf.hx.heap_1 w.params) mg "is_number" s_is_number ["text"]) (e_18 : FnAt (Sf.hx.heap_1 w.params) mg "shown" s_shown ["word"]) (e_19 : FnAt (Sf.hx.heap_1 w.params) mg "meant" s_meant ["text"]) (e_20 : FnAt (Sf.hx.heap_1 w.params) mg "is_written_word" s_is_written_word ["text"]) (e_21 : FnAt (Sf.hx.heap_1 w.params) mg "is_side" s_is_side ["text"]) (e_22 : FnAt (Sf.hx.heap_1 w.params) mg "last" s_last ["things", "other"]) (e_23 : FnAt (Sf.hx.heap_1 w.params) mg "is_coming" s_is_coming ["stand", "parts"]) (e_24 : FnAt (Sf.hx.heap_1 w.params) mg "is_line" s_is_line ["stand", "parts"]) : (FnAt (Sf.hx.heap_1 w.params) mg "_law_row_in" s__law_row_in ["_law_state", "_law_words"]) ∧ (FnAt (Sf.hx.heap_1 w.params) mg "_law_first_wrong" s__law_first_wrong ["_law_text"]) ∧ (FnAt (Sf.hx.heap_1 w.params) mg "_law_bent" s__law_bent ["_law_bag", "_law_text"]) ∧ (FnAt (Sf.hx.heap_1 w.params) mg "_law_told" s__law_told ["_law_text"]) ∧ (FnAt (Sf.hx.heap_1 w.params) mg "is_upto" s_is_upto ["thing", "most"]) ∧ (FnAt (Sf.hx.heap_1 w.params) mg "is_name" s_is_name ["text"]) ∧ (FnAt (Sf.hx.heap_1 w.params) mg "need_name" s_need_name ["text"]) ∧ (FnAt (Sf.hx.heap_1 w.params) mg "without" s_without ["things", "gone"]) ∧ (FnAt (Sf.hx.heap_1 w.params) mg "is_word" s_is_word ["text"]) ∧ (FnAt (Sf.hx.heap_1 w.params) mg "need_word" s_need_word ["text"]) ∧ (FnAt (Sf.hx.heap_1 w.params) mg "need_words" s_need_words ["texts"]) ∧ (FnAt (Sf.hx.heap_1 w.params) mg "like" s_like ["stand", "left", "right"]) ∧ (FnAt (Sf.hx.heap_1 w.params) mg "strike" s_strike ["stand", "number"]) ∧ (FnAt (Sf.hx.heap_1 w.params) mg "put" s_put ["stand", "word_name", "word"]) ∧ (FnAt (Sf.hx.heap_1 w.params) mg "forget" s_forget ["stand", "word_name"]) ∧ (FnAt (Sf.hx.heap_1 w.params) mg "unshelve" s_unshelve ["stand", "label"]) ∧ (FnAt (Sf.hx.heap_1 w.params) mg "done" s_done ["stand", "deed"]) ∧ (FnAt (Sf.hx.heap_1 w.params) mg "is_number" s_is_number ["text"]) ∧ (FnAt (Sf.hx.heap_1 w.params) mg "shown" s_shown ["word"]) ∧ (FnAt (Sf.hx.heap_1 w.params) mg "meant" s_meant ["text"]) ∧ (FnAt (Sf.hx.heap_1 w.params) mg "is_written_word" s_is_written_word ["text"]) ∧ (FnAt (Sf.hx.heap_1 w.params) mg "is_side" s_is_side ["text"]) ∧ (FnAt (Sf.hx.heap_1 w.params) mg "last" s_last ["things", "other"]) ∧ (FnAt (Sf.hx.heap_1 w.params) mg "is_coming" s_is_coming ["stand", "parts"]) ∧ (FnAt (Sf.hx.heap_1 w.params) mg "is_line" s_is_line ["stand", "parts"]) := ⟨e_0, e_1, e_2, e_3, e_4, e_5, e_6, e_7, e_8, e_9, e_10, e_11, e_12, e_13, e_14, e_15, e_16, e_17, e_18, e_19, e_20, e_21, e_22, e_23, e_24⟩
theorem gz_1 : PySem.Challenge.rw_spoorfold_k75_texts_that_are_no_pages = PySem.Challenge.rw_spoorfold_k75_texts_that_are_no_pages → ∀ {w : World} {h : Heap} {mg : Str → Option Value} (KX : (Sf.hx.heap_1 w.params).In h) (G : h.Ns mainGlobals mg), (FnAt (Sf.hx.heap_1 w.params) mg "_law_row_in" s__law_row_in ["_law_state", "_law_words"]) ∧ (FnAt (Sf.hx.heap_1 w.params) mg "_law_first_wrong" s__law_first_wrong ["_law_text"]) ∧ (FnAt (Sf.hx.heap_1 w.params) mg "_law_bent" s__law_bent ["_law_bag", "_law_text"]) ∧ (FnAt (Sf.hx.heap_1 w.params) mg "_law_told" s__law_told ["_law_text"]) ∧ (FnAt (Sf.hx.heap_1 w.params) mg "is_upto" s_is_upto ["thing", "most"]) ∧ (FnAt (Sf.hx.heap_1 w.params) mg "is_name" s_is_name ["text"]) ∧ (FnAt (Sf.hx.heap_1 w.params) mg "need_name" s_need_name ["text"]) ∧ (FnAt (Sf.hx.heap_1 w.params) mg "without" s_without ["things", "gone"]) ∧ (FnAt (Sf.hx.heap_1 w.params) mg "is_word" s_is_word ["text"]) ∧ (FnAt (Sf.hx.heap_1 w.params) mg "need_word" s_need_word ["text"]) ∧ (FnAt (Sf.hx.heap_1 w.params) mg "need_words" s_need_words ["texts"]) ∧ (FnAt (Sf.hx.heap_1 w.params) mg "like" s_like ["stand", "left", "right"]) ∧ (FnAt (Sf.hx.heap_1 w.params) mg "strike" s_strike ["stand", "number"]) ∧ (FnAt (Sf.hx.heap_1 w.params) mg "put" s_put ["stand", "word_name", "word"]) ∧ (FnAt (Sf.hx.heap_1 w.params) mg "forget" s_forget ["stand", "word_name"]) ∧ (FnAt (Sf.hx.heap_1 w.params) mg "unshelve" s_unshelve ["stand", "label"]) ∧ (FnAt (Sf.hx.heap_1 w.params) mg "done" s_done ["stand", "deed"]) ∧ (FnAt (Sf.hx.heap_1 w.params) mg "is_number" s_is_number ["text"]) ∧ (FnAt (Sf.hx.heap_1 w.params) mg "shown" s_shown ["word"]) ∧ (FnAt (Sf.hx.heap_1 w.params) mg "meant" s_meant ["text"]) ∧ (FnAt (Sf.hx.heap_1 w.params) mg "is_written_word" s_is_written_word ["text"]) ∧ (FnAt (Sf.hx.heap_1 w.params) mg "is_side" s_is_side ["text"]) ∧ (FnAt (Sf.hx.heap_1 w.params) mg "last" s_last ["things", "other"]) ∧ (FnAt (Sf.hx.heap_1 w.params) mg "is_coming" s_is_coming ["stand", "parts"]) ∧ (FnAt (Sf.hx.heap_1 w.params) mg "is_line" s_is_line ["stand", "parts"]) := by
  k_fill
  intro _ w h mg KX G
  refine' gm_1 (w := w) (Sf.fnAt_mk KX G ?a25 ?l25 ?c25 ?k25 (fun _ _ _ _ _ _ us hl => match us, hl with | [_, _], _ => rfl)) (Sf.fnAt_mk KX G ?a26 ?l26 ?c26 ?k26 (fun _ _ _ _ _ _ us hl => match us, hl with | [_], _ => rfl)) (Sf.fnAt_mk KX G ?a27 ?l27 ?c27 ?k27 (fun _ _ _ _ _ _ us hl => match us, hl with | [_, _], _ => rfl)) (Sf.fnAt_mk KX G ?a28 ?l28 ?c28 ?k28 (fun _ _ _ _ _ _ us hl => match us, hl with | [_], _ => rfl)) (Sf.fnAt_mk KX G ?a29 ?l29 ?c29 ?k29 (fun _ _ _ _ _ _ us hl => match us, hl with | [_, _], _ => rfl)) (Sf.fnAt_mk KX G ?a30 ?l30 ?c30 ?k30 (fun _ _ _ _ _ _ us hl => match us, hl with | [_], _ => rfl)) (Sf.fnAt_mk KX G ?a31 ?l31 ?c31 ?k31 (fun _ _ _ _ _ _ us hl => match us, hl with | [_], _ => rfl)) (Sf.fnAt_mk KX G ?a32 ?l32 ?c32 ?k32 (fun _ _ _ _ _ _ us hl => match us, hl with | [_, _], _ => rfl)) (Sf.fnAt_mk KX G ?a33 ?l33 ?c33 ?k33 (fun _ _ _ _ _ _ us hl => match us, hl with | [_], _ => rfl)) (Sf.fnAt_mk KX G ?a34 ?l34 ?c34 ?k34 (fun _ _ _ _ _ _ us hl => match us, hl with | [_], _ => rfl)) (Sf.fnAt_mk KX G ?a35 ?l35 ?c35 ?k35 (fun _ _ _ _ _ _ us hl => match us, hl with | [_], _ => rfl)) (Sf.fnAt_mk KX G ?a36 ?l36 ?c36 ?k36 (fun _ _ _ _ _ _ us hl => match us, hl with | [_, _, _], _ => rfl)) (Sf.fnAt_mk KX G ?a37 ?l37 ?c37 ?k37 (fun _ _ _ _ _ _ us hl => match us, hl with | [_, _], _ => rfl)) (Sf.fnAt_mk KX G ?a38 ?l38 ?c38 ?k38 (fun _ _ _ _ _ _ us hl => match us, hl with | [_, _, _], _ => rfl)) (Sf.fnAt_mk KX G ?a39 ?l39 ?c39 ?k39 (fun _ _ _ _ _ _ us hl => match us, hl with | [_, _], _ => rfl)) (Sf.fnAt_mk KX G ?a40 ?l40 ?c40 ?k40 (fun _ _ _ _ _ _ us hl => match us, hl with | [_, _], _ => rfl)) (Sf.fnAt_mk KX G ?a41 ?l41 ?c41 ?k41 (fun _ _ _ _ _ _ us hl => match us, hl with | [_, _], _ => rfl)) (Sf.fnAt_mk KX G ?a42 ?l42 ?c42 ?k42 (fun _ _ _ _ _ _ us hl => match us, hl with | [_], _ => rfl)) (Sf.fnAt_mk KX G ?a43 ?l43 ?c43 ?k43 (fun _ _ _ _ _ _ us hl => match us, hl with | [_], _ => rfl)) (Sf.fnAt_mk KX G ?a44 ?l44 ?c44 ?k44 (fun _ _ _ _ _ _ us hl => match us, hl with | [_], _ => rfl)) (Sf.fnAt_mk KX G ?a45 ?l45 ?c45 ?k45 (fun _ _ _ _ _ _ us hl => match us, hl with | [_], _ => rfl)) (Sf.fnAt_mk KX G ?a46 ?l46 ?c46 ?k46 (fun _ _ _ _ _ _ us hl => match us, hl with | [_], _ => rfl)) (Sf.fnAt_mk KX G ?a47 ?l47 ?c47 ?k47 (fun _ _ _ _ _ _ us hl => match us, hl with | [_, _], _ => rfl)) (Sf.fnAt_mk KX G ?a48 ?l48 ?c48 ?k48 (fun _ _ _ _ _ _ us hl => match us, hl with | [_, _], _ => rfl)) (Sf.fnAt_mk KX G ?a49 ?l49 ?c49 ?k49 (fun _ _ _ _ _ _ us hl => match us, hl with | [_, _], _ => rfl))
  (case a25 => k_is)
  (case l25 => k_is)
  (case c25 => k_is)
  (case k25 => k_is)
  (case a26 => k_is)
  (case l26 => k_is)
  (case c26 => k_is)
  (case k26 => k_is)
  (case a27 => k_is)
  (case l27 => k_is)
  (case c27 => k_is)
  (case k27 => k_is)
  (case a28 => k_is)
  (case l28 => k_is)
  (case c28 => k_is)
  (case k28 => k_is)
  (case a29 => k_is)
  (case l29 => k_is)
  (case c29 => k_is)
  (case k29 => k_is)
  (case a30 => k_is)
  (case l30 => k_is)
  (case c30 => k_is)
  (case k30 => k_is)
  (case a31 => k_is)
  (case l31 => k_is)
  (case c31 => k_is)
  (case k31 => k_is)
  (case a32 => k_is)
  (case l32 => k_is)
  (case c32 => k_is)
  (case k32 => k_is)
  (case a33 => k_is)
  (case l33 => k_is)
  (case c33 => k_is)
  (case k33 => k_is)
  (case a34 => k_is)
  (case l34 => k_is)
  (case c34 => k_is)
  (case k34 => k_is)
  (case a35 => k_is)
  (case l35 => k_is)
  (case c35 => k_is)
  (case k35 => k_is)
  (case a36 => k_is)
  (case l36 => k_is)
  (case c36 => k_is)
  (case k36 => k_is)
  (case a37 => k_is)
  (case l37 => k_is)
  (case c37 => k_is)
  (case k37 => k_is)
  (case a38 => k_is)
  (case l38 => k_is)
  (case c38 => k_is)
  (case k38 => k_is)
  (case a39 => k_is)
  (case l39 => k_is)
  (case c39 => k_is)
  (case k39 => k_is)
  (case a40 => k_is)
  (case l40 => k_is)
  (case c40 => k_is)
  (case k40 => k_is)
  (case a41 => k_is)
  (case l41 => k_is)
  (case c41 => k_is)
  (case k41 => k_is)
  (case a42 => k_is)
  (case l42 => k_is)
  (case c42 => k_is)
  (case k42 => k_is)
  (case a43 => k_is)
  (case l43 => k_is)
  (case c43 => k_is)
  (case k43 => k_is)
  (case a44 => k_is)
  (case l44 => k_is)
  (case c44 => k_is)
  (case k44 => k_is)
  (case a45 => k_is)
  (case l45 => k_is)
  (case c45 => k_is)
  (case k45 => k_is)
  (case a46 => k_is)
  (case l46 => k_is)
  (case c46 => k_is)
  (case k46 => k_is)
  (case a47 => k_is)
  (case l47 => k_is)
  (case c47 => k_is)
  (case k47 => k_is)
  (case a48 => k_is)
  (case l48 => k_is)
  (case c48 => k_is)
  (case k48 => k_is)
  (case a49 => k_is)
  (case l49 => k_is)
  (case c49 => k_is)
  (case k49 => k_is)
theorem gm_2 {w : World} {mg : Str → Option Value}  (e_0 : FnAt (Sf.hx.heap_1 w.params) mg "is_text" s_is_text ["stand", "parts"]) (e_1 : FnAt (Sf.hx.heap_1 w.params) mg "is_added" s_is_added ["stand", "number", "parts"]) (e_2 : FnAt (Sf.hx.heap_1 w.params) mg "read_page" s_read_page ["text"]) (e_3 : FnAt (Sf.hx.heap_1 w.params) mg "page" s_page ["hall"]) (e_4 : FnAt (Sf.hx.heap_1 w.params) mg "hall_of" s_hall_of ["stand"]) (e_5 : Blt mg) (e_6 : mg "repr" = none) (e_7 : mg "dict" = none) (e_8 : mg "max" = none) (e_9 : mg "int" = none) (e_10 : mg "enumerate" = none) : (FnAt (Sf.hx.heap_1 w.params) mg "is_text" s_is_text ["stand", "parts"]) ∧ (FnAt (Sf.hx.heap_1 w.params) mg "is_added" s_is_added ["stand", "number", "parts"]) ∧ (FnAt (Sf.hx.heap_1 w.params) mg "read_page" s_read_page ["text"]) ∧ (FnAt (Sf.hx.heap_1 w.params) mg "page" s_page ["hall"]) ∧ (FnAt (Sf.hx.heap_1 w.params) mg "hall_of" s_hall_of ["stand"]) ∧ (Blt mg) ∧ (mg "repr" = none) ∧ (mg "dict" = none) ∧ (mg "max" = none) ∧ (mg "int" = none) ∧ (mg "enumerate" = none) := ⟨e_0, e_1, e_2, e_3, e_4, e_5, e_6, e_7, e_8, e_9, e_10⟩
theorem gz_2 : PySem.Challenge.rw_spoorfold_k75_texts_that_are_no_pages = PySem.Challenge.rw_spoorfold_k75_texts_that_are_no_pages → ∀ {w : World} {h : Heap} {mg : Str → Option Value} (KX : (Sf.hx.heap_1 w.params).In h) (G : h.Ns mainGlobals mg), (FnAt (Sf.hx.heap_1 w.params) mg "is_text" s_is_text ["stand", "parts"]) ∧ (FnAt (Sf.hx.heap_1 w.params) mg "is_added" s_is_added ["stand", "number", "parts"]) ∧ (FnAt (Sf.hx.heap_1 w.params) mg "read_page" s_read_page ["text"]) ∧ (FnAt (Sf.hx.heap_1 w.params) mg "page" s_page ["hall"]) ∧ (FnAt (Sf.hx.heap_1 w.params) mg "hall_of" s_hall_of ["stand"]) ∧ (Blt mg) ∧ (mg "repr" = none) ∧ (mg "dict" = none) ∧ (mg "max" = none) ∧ (mg "int" = none) ∧ (mg "enumerate" = none) := by
  k_fill
  intro _ w h mg KX G
  refine' gm_2 (w := w) (Sf.fnAt_mk KX G ?a50 ?l50 ?c50 ?k50 (fun _ _ _ _ _ _ us hl => match us, hl with | [_, _], _ => rfl)) (Sf.fnAt_mk KX G ?a51 ?l51 ?c51 ?k51 (fun _ _ _ _ _ _ us hl => match us, hl with | [_, _, _], _ => rfl)) (Sf.fnAt_mk KX G ?a52 ?l52 ?c52 ?k52 (fun _ _ _ _ _ _ us hl => match us, hl with | [_], _ => rfl)) (Sf.fnAt_mk KX G ?a53 ?l53 ?c53 ?k53 (fun _ _ _ _ _ _ us hl => match us, hl with | [_], _ => rfl)) (Sf.fnAt_mk KX G ?a54 ?l54 ?c54 ?k54 (fun _ _ _ _ _ _ us hl => match us, hl with | [_], _ => rfl)) ⟨PySem.W.mg_none_of KX G ?z0, PySem.W.mg_none_of KX G ?z1, PySem.W.mg_none_of KX G ?z2, PySem.W.mg_none_of KX G ?z3, PySem.W.mg_none_of KX G ?z4, PySem.W.mg_none_of KX G ?z5, PySem.W.mg_none_of KX G ?z6, PySem.W.mg_none_of KX G ?z7, PySem.W.mg_none_of KX G ?z8, PySem.W.mg_none_of KX G ?z9, PySem.W.mg_none_of KX G ?z10, PySem.W.mg_none_of KX G ?z11⟩ (PySem.W.mg_none_of KX G ?y0) (PySem.W.mg_none_of KX G ?y1) (PySem.W.mg_none_of KX G ?y2) (PySem.W.mg_none_of KX G ?y3) (PySem.W.mg_none_of KX G ?y4)
  (case a50 => k_is)
  (case l50 => k_is)
  (case c50 => k_is)
  (case k50 => k_is)
  (case a51 => k_is)
  (case l51 => k_is)
  (case c51 => k_is)
  (case k51 => k_is)
  (case a52 => k_is)
  (case l52 => k_is)
  (case c52 => k_is)
  (case k52 => k_is)
  (case a53 => k_is)
  (case l53 => k_is)
  (case c53 => k_is)
  (case k53 => k_is)
  (case a54 => k_is)
  (case l54 => k_is)
  (case c54 => k_is)
  (case k54 => k_is)
  (case z0 => k_is)
  (case z1 => k_is)
  (case z2 => k_is)
  (case z3 => k_is)
  (case z4 => k_is)
  (case z5 => k_is)
  (case z6 => k_is)
  (case z7 => k_is)
  (case z8 => k_is)
  (case z9 => k_is)
  (case z10 => k_is)
  (case z11 => k_is)
  (case y0 => k_is)
  (case y1 => k_is)
  (case y2 => k_is)
  (case y3 => k_is)
  (case y4 => k_is)
theorem gm_3 {w : World} {mg : Str → Option Value} {CStand : Addr} (e_0 : SDC (Sf.hx.heap_1 w.params) mg CStand) (e_1 : PySem.W.makesIn (Sf.hx.heap_1 w.params) CStand = true) (e_2 : PySem.W.keepIn (Sf.hx.heap_1 w.params) (.ref CStand) = true) (e_3 : MAt (Sf.hx.heap_1 w.params) CStand "__init__" "Stand.__init__" s_Stand___init__ ["self"]) (e_4 : MAt (Sf.hx.heap_1 w.params) CStand "twin" "Stand.twin" s_Stand_twin ["self"]) (e_5 : MAt (Sf.hx.heap_1 w.params) CStand "text_of" "Stand.text_of" s_Stand_text_of ["self", "word_name"]) (e_6 : MAt (Sf.hx.heap_1 w.params) CStand "add_line" "Stand.add_line" s_Stand_add_line ["self", "number", "left", "right"]) (e_7 : MAt (Sf.hx.heap_1 w.params) CStand "add_text" "Stand.add_text" s_Stand_add_text ["self", "word_name", "word"]) (e_8 : MAt (Sf.hx.heap_1 w.params) CStand "paper_of" "Stand.paper_of" s_Stand_paper_of ["self", "label"]) : ∃ CStand : Addr, (SDC (Sf.hx.heap_1 w.params) mg CStand) ∧ (PySem.W.makesIn (Sf.hx.heap_1 w.params) CStand = true) ∧ (PySem.W.keepIn (Sf.hx.heap_1 w.params) (.ref CStand) = true) ∧ (MAt (Sf.hx.heap_1 w.params) CStand "__init__" "Stand.__init__" s_Stand___init__ ["self"]) ∧ (MAt (Sf.hx.heap_1 w.params) CStand "twin" "Stand.twin" s_Stand_twin ["self"]) ∧ (MAt (Sf.hx.heap_1 w.params) CStand "text_of" "Stand.text_of" s_Stand_text_of ["self", "word_name"]) ∧ (MAt (Sf.hx.heap_1 w.params) CStand "add_line" "Stand.add_line" s_Stand_add_line ["self", "number", "left", "right"]) ∧ (MAt (Sf.hx.heap_1 w.params) CStand "add_text" "Stand.add_text" s_Stand_add_text ["self", "word_name", "word"]) ∧ (MAt (Sf.hx.heap_1 w.params) CStand "paper_of" "Stand.paper_of" s_Stand_paper_of ["self", "label"]) := ⟨CStand, e_0, e_1, e_2, e_3, e_4, e_5, e_6, e_7, e_8⟩
theorem gz_3 : PySem.Challenge.rw_spoorfold_k75_texts_that_are_no_pages = PySem.Challenge.rw_spoorfold_k75_texts_that_are_no_pages → ∀ {w : World} {h : Heap} {mg : Str → Option Value} (KX : (Sf.hx.heap_1 w.params).In h) (G : h.Ns mainGlobals mg), ∃ CStand : Addr, (SDC (Sf.hx.heap_1 w.params) mg CStand) ∧ (PySem.W.makesIn (Sf.hx.heap_1 w.params) CStand = true) ∧ (PySem.W.keepIn (Sf.hx.heap_1 w.params) (.ref CStand) = true) ∧ (MAt (Sf.hx.heap_1 w.params) CStand "__init__" "Stand.__init__" s_Stand___init__ ["self"]) ∧ (MAt (Sf.hx.heap_1 w.params) CStand "twin" "Stand.twin" s_Stand_twin ["self"]) ∧ (MAt (Sf.hx.heap_1 w.params) CStand "text_of" "Stand.text_of" s_Stand_text_of ["self", "word_name"]) ∧ (MAt (Sf.hx.heap_1 w.params) CStand "add_line" "Stand.add_line" s_Stand_add_line ["self", "number", "left", "right"]) ∧ (MAt (Sf.hx.heap_1 w.params) CStand "add_text" "Stand.add_text" s_Stand_add_text ["self", "word_name", "word"]) ∧ (MAt (Sf.hx.heap_1 w.params) CStand "paper_of" "Stand.paper_of" s_Stand_paper_of ["self", "label"]) := by
  k_fill
  intro _ w h mg KX G
  refine' gm_3 (w := w) (Sf.SDC.mk ⟨?wStandpg, ?wStandhd, ?wStandpo, ?wStandsa⟩ ?wStandf0 ?wStandf1 ?wStandf2 ?wStandf3 (PySem.W.mg_of KX G ?wStandaC) ?wStandha ?wStandhn ?wStandhtk ?wStandhm ?wStandne) ?wStandmk ?wStandkc (Sf.mAt_mk ?wStanda0 ?wStandi0 ?wStandl0 ?wStandc0 ?wStandk0 (fun _ _ _ _ _ _ us hl => match us, hl with | [_], _ => rfl)) (Sf.mAt_mk ?wStanda1 ?wStandi1 ?wStandl1 ?wStandc1 ?wStandk1 (fun _ _ _ _ _ _ us hl => match us, hl with | [_], _ => rfl)) (Sf.mAt_mk ?wStanda2 ?wStandi2 ?wStandl2 ?wStandc2 ?wStandk2 (fun _ _ _ _ _ _ us hl => match us, hl with | [_, _], _ => rfl)) (Sf.mAt_mk ?wStanda3 ?wStandi3 ?wStandl3 ?wStandc3 ?wStandk3 (fun _ _ _ _ _ _ us hl => match us, hl with | [_, _, _, _], _ => rfl)) (Sf.mAt_mk ?wStanda4 ?wStandi4 ?wStandl4 ?wStandc4 ?wStandk4 (fun _ _ _ _ _ _ us hl => match us, hl with | [_, _, _], _ => rfl)) (Sf.mAt_mk ?wStanda5 ?wStandi5 ?wStandl5 ?wStandc5 ?wStandk5 (fun _ _ _ _ _ _ us hl => match us, hl with | [_, _], _ => rfl))
  (case wStandaC => k_is)
  (case wStandpg => k_is)
  (case wStandhd => k_is)
  (case wStandpo => k_is)
  (case wStandsa => k_is)
  (case wStandf0 => k_is)
  (case wStandf1 => k_is)
  (case wStandf2 => k_is)
  (case wStandf3 => k_is)
  (case wStandha => k_is)
  (case wStandhn => k_is)
  (case wStandhtk => k_is)
  (case wStandhm => k_is)
  (case wStandne => k_is)
  (case wStandmk => k_is)
  (case wStandkc => k_is)
  (case wStanda0 => k_is)
  (case wStandi0 => k_is)
  (case wStandl0 => k_is)
  (case wStandc0 => k_is)
  (case wStandk0 => k_is)
  (case wStanda1 => k_is)
  (case wStandi1 => k_is)
  (case wStandl1 => k_is)
  (case wStandc1 => k_is)
  (case wStandk1 => k_is)
  (case wStanda2 => k_is)
  (case wStandi2 => k_is)
  (case wStandl2 => k_is)
  (case wStandc2 => k_is)
  (case wStandk2 => k_is)
  (case wStanda3 => k_is)
  (case wStandi3 => k_is)
  (case wStandl3 => k_is)
  (case wStandc3 => k_is)
  (case wStandk3 => k_is)
  (case wStanda4 => k_is)
  (case wStandi4 => k_is)
  (case wStandl4 => k_is)
  (case wStandc4 => k_is)
  (case wStandk4 => k_is)
  (case wStanda5 => k_is)
  (case wStandi5 => k_is)
  (case wStandl5 => k_is)
  (case wStandc5 => k_is)
  (case wStandk5 => k_is)
theorem gm_4 {w : World} {mg : Str → Option Value} {CHall : Addr} (e_0 : HLC (Sf.hx.heap_1 w.params) mg CHall) (e_1 : PySem.W.makesIn (Sf.hx.heap_1 w.params) CHall = true) (e_2 : PySem.W.keepIn (Sf.hx.heap_1 w.params) (.ref CHall) = true) (e_3 : MAt (Sf.hx.heap_1 w.params) CHall "__init__" "Hall.__init__" s_Hall___init__ ["self"]) (e_4 : MAt (Sf.hx.heap_1 w.params) CHall "stand_by" "Hall.stand_by" s_Hall_stand_by ["self", "stand"]) (e_5 : MAt (Sf.hx.heap_1 w.params) CHall "settle" "Hall.settle" s_Hall_settle ["self", "stand"]) (e_6 : MAt (Sf.hx.heap_1 w.params) CHall "did" "Hall.did" s_Hall_did ["self", "deed"]) (e_7 : MAt (Sf.hx.heap_1 w.params) CHall "like" "Hall.like" s_Hall_like ["self", "left", "right"]) (e_8 : MAt (Sf.hx.heap_1 w.params) CHall "strike" "Hall.strike" s_Hall_strike ["self", "number"]) (e_9 : MAt (Sf.hx.heap_1 w.params) CHall "put" "Hall.put" s_Hall_put ["self", "word_name", "word"]) (e_10 : MAt (Sf.hx.heap_1 w.params) CHall "forget" "Hall.forget" s_Hall_forget ["self", "word_name"]) (e_11 : MAt (Sf.hx.heap_1 w.params) CHall "unshelve" "Hall.unshelve" s_Hall_unshelve ["self", "label"]) (e_12 : MAt (Sf.hx.heap_1 w.params) CHall "coming" "Hall.coming" s_Hall_coming ["self"]) (e_13 : MAt (Sf.hx.heap_1 w.params) CHall "__len__" "Hall.__len__" s_Hall___len__ ["self"]) (e_14 : MAt (Sf.hx.heap_1 w.params) CHall "lines" "Hall.lines" s_Hall_lines ["self"]) (e_15 : MAt (Sf.hx.heap_1 w.params) CHall "words" "Hall.words" s_Hall_words ["self"]) (e_16 : MAt (Sf.hx.heap_1 w.params) CHall "shelf" "Hall.shelf" s_Hall_shelf ["self"]) (e_17 : MAt (Sf.hx.heap_1 w.params) CHall "__repr__" "Hall.__repr__" s_Hall___repr__ ["self"]) : ∃ CHall : Addr, (HLC (Sf.hx.heap_1 w.params) mg CHall) ∧ (PySem.W.makesIn (Sf.hx.heap_1 w.params) CHall = true) ∧ (PySem.W.keepIn (Sf.hx.heap_1 w.params) (.ref CHall) = true) ∧ (MAt (Sf.hx.heap_1 w.params) CHall "__init__" "Hall.__init__" s_Hall___init__ ["self"]) ∧ (MAt (Sf.hx.heap_1 w.params) CHall "stand_by" "Hall.stand_by" s_Hall_stand_by ["self", "stand"]) ∧ (MAt (Sf.hx.heap_1 w.params) CHall "settle" "Hall.settle" s_Hall_settle ["self", "stand"]) ∧ (MAt (Sf.hx.heap_1 w.params) CHall "did" "Hall.did" s_Hall_did ["self", "deed"]) ∧ (MAt (Sf.hx.heap_1 w.params) CHall "like" "Hall.like" s_Hall_like ["self", "left", "right"]) ∧ (MAt (Sf.hx.heap_1 w.params) CHall "strike" "Hall.strike" s_Hall_strike ["self", "number"]) ∧ (MAt (Sf.hx.heap_1 w.params) CHall "put" "Hall.put" s_Hall_put ["self", "word_name", "word"]) ∧ (MAt (Sf.hx.heap_1 w.params) CHall "forget" "Hall.forget" s_Hall_forget ["self", "word_name"]) ∧ (MAt (Sf.hx.heap_1 w.params) CHall "unshelve" "Hall.unshelve" s_Hall_unshelve ["self", "label"]) ∧ (MAt (Sf.hx.heap_1 w.params) CHall "coming" "Hall.coming" s_Hall_coming ["self"]) ∧ (MAt (Sf.hx.heap_1 w.params) CHall "__len__" "Hall.__len__" s_Hall___len__ ["self"]) ∧ (MAt (Sf.hx.heap_1 w.params) CHall "lines" "Hall.lines" s_Hall_lines ["self"]) ∧ (MAt (Sf.hx.heap_1 w.params) CHall "words" "Hall.words" s_Hall_words ["self"]) ∧ (MAt (Sf.hx.heap_1 w.params) CHall "shelf" "Hall.shelf" s_Hall_shelf ["self"]) ∧ (MAt (Sf.hx.heap_1 w.params) CHall "__repr__" "Hall.__repr__" s_Hall___repr__ ["self"]) := ⟨CHall, e_0, e_1, e_2, e_3, e_4, e_5, e_6, e_7, e_8, e_9, e_10, e_11, e_12, e_13, e_14, e_15, e_16, e_17⟩
theorem gz_4 : PySem.Challenge.rw_spoorfold_k75_texts_that_are_no_pages = PySem.Challenge.rw_spoorfold_k75_texts_that_are_no_pages → ∀ {w : World} {h : Heap} {mg : Str → Option Value} (KX : (Sf.hx.heap_1 w.params).In h) (G : h.Ns mainGlobals mg), ∃ CHall : Addr, (HLC (Sf.hx.heap_1 w.params) mg CHall) ∧ (PySem.W.makesIn (Sf.hx.heap_1 w.params) CHall = true) ∧ (PySem.W.keepIn (Sf.hx.heap_1 w.params) (.ref CHall) = true) ∧ (MAt (Sf.hx.heap_1 w.params) CHall "__init__" "Hall.__init__" s_Hall___init__ ["self"]) ∧ (MAt (Sf.hx.heap_1 w.params) CHall "stand_by" "Hall.stand_by" s_Hall_stand_by ["self", "stand"]) ∧ (MAt (Sf.hx.heap_1 w.params) CHall "settle" "Hall.settle" s_Hall_settle ["self", "stand"]) ∧ (MAt (Sf.hx.heap_1 w.params) CHall "did" "Hall.did" s_Hall_did ["self", "deed"]) ∧ (MAt (Sf.hx.heap_1 w.params) CHall "like" "Hall.like" s_Hall_like ["self", "left", "right"]) ∧ (MAt (Sf.hx.heap_1 w.params) CHall "strike" "Hall.strike" s_Hall_strike ["self", "number"]) ∧ (MAt (Sf.hx.heap_1 w.params) CHall "put" "Hall.put" s_Hall_put ["self", "word_name", "word"]) ∧ (MAt (Sf.hx.heap_1 w.params) CHall "forget" "Hall.forget" s_Hall_forget ["self", "word_name"]) ∧ (MAt (Sf.hx.heap_1 w.params) CHall "unshelve" "Hall.unshelve" s_Hall_unshelve ["self", "label"]) ∧ (MAt (Sf.hx.heap_1 w.params) CHall "coming" "Hall.coming" s_Hall_coming ["self"]) ∧ (MAt (Sf.hx.heap_1 w.params) CHall "__len__" "Hall.__len__" s_Hall___len__ ["self"]) ∧ (MAt (Sf.hx.heap_1 w.params) CHall "lines" "Hall.lines" s_Hall_lines ["self"]) ∧ (MAt (Sf.hx.heap_1 w.params) CHall "words" "Hall.words" s_Hall_words ["self"]) ∧ (MAt (Sf.hx.heap_1 w.params) CHall "shelf" "Hall.shelf" s_Hall_shelf ["self"]) ∧ (MAt (Sf.hx.heap_1 w.params) CHall "__repr__" "Hall.__repr__" s_Hall___repr__ ["self"]) := by
  k_fill
  intro _ w h mg KX G
  refine' gm_4 (w := w) (Sf.HLC.mk ⟨?wHallpg, ?wHallhd, ?wHallpo, ?wHallsa⟩ ?wHallf0 ?wHallf1 ?wHallf2 ?wHallf3 ?wHallf4 (PySem.W.mg_of KX G ?wHallaC)) ?wHallmk ?wHallkc (Sf.mAt_mk ?wHalla0 ?wHalli0 ?wHalll0 ?wHallc0 ?wHallk0 (fun _ _ _ _ _ _ us hl => match us, hl with | [_], _ => rfl)) (Sf.mAt_mk ?wHalla1 ?wHalli1 ?wHalll1 ?wHallc1 ?wHallk1 (fun _ _ _ _ _ _ us hl => match us, hl with | [_, _], _ => rfl)) (Sf.mAt_mk ?wHalla2 ?wHalli2 ?wHalll2 ?wHallc2 ?wHallk2 (fun _ _ _ _ _ _ us hl => match us, hl with | [_, _], _ => rfl)) (Sf.mAt_mk ?wHalla3 ?wHalli3 ?wHalll3 ?wHallc3 ?wHallk3 (fun _ _ _ _ _ _ us hl => match us, hl with | [_, _], _ => rfl)) (Sf.mAt_mk ?wHalla4 ?wHalli4 ?wHalll4 ?wHallc4 ?wHallk4 (fun _ _ _ _ _ _ us hl => match us, hl with | [_, _, _], _ => rfl)) (Sf.mAt_mk ?wHalla5 ?wHalli5 ?wHalll5 ?wHallc5 ?wHallk5 (fun _ _ _ _ _ _ us hl => match us, hl with | [_, _], _ => rfl)) (Sf.mAt_mk ?wHalla6 ?wHalli6 ?wHalll6 ?wHallc6 ?wHallk6 (fun _ _ _ _ _ _ us hl => match us, hl with | [_, _, _], _ => rfl)) (Sf.mAt_mk ?wHalla7 ?wHalli7 ?wHalll7 ?wHallc7 ?wHallk7 (fun _ _ _ _ _ _ us hl => match us, hl with | [_, _], _ => rfl)) (Sf.mAt_mk ?wHalla8 ?wHalli8 ?wHalll8 ?wHallc8 ?wHallk8 (fun _ _ _ _ _ _ us hl => match us, hl with | [_, _], _ => rfl)) (Sf.mAt_mk ?wHalla9 ?wHalli9 ?wHalll9 ?wHallc9 ?wHallk9 (fun _ _ _ _ _ _ us hl => match us, hl with | [_], _ => rfl)) (Sf.mAt_mk ?wHalla10 ?wHalli10 ?wHalll10 ?wHallc10 ?wHallk10 (fun _ _ _ _ _ _ us hl => match us, hl with | [_], _ => rfl)) (Sf.mAt_mk ?wHalla11 ?wHalli11 ?wHalll11 ?wHallc11 ?wHallk11 (fun _ _ _ _ _ _ us hl => match us, hl with | [_], _ => rfl)) (Sf.mAt_mk ?wHalla12 ?wHalli12 ?wHalll12 ?wHallc12 ?wHallk12 (fun _ _ _ _ _ _ us hl => match us, hl with | [_], _ => rfl)) (Sf.mAt_mk ?wHalla13 ?wHalli13 ?wHalll13 ?wHallc13 ?wHallk13 (fun _ _ _ _ _ _ us hl => match us, hl with | [_], _ => rfl)) (Sf.mAt_mk ?wHalla14 ?wHalli14 ?wHalll14 ?wHallc14 ?wHallk14 (fun _ _ _ _ _ _ us hl => match us, hl with | [_], _ => rfl))
  (case wHallaC => k_is)
  (case wHallpg => k_is)
  (case wHallhd => k_is)
  (case wHallpo => k_is)
  (case wHallsa => k_is)
  (case wHallf0 => k_is)
  (case wHallf1 => k_is)
  (case wHallf2 => k_is)
  (case wHallf3 => k_is)
  (case wHallf4 => k_is)
  (case wHallmk => k_is)
  (case wHallkc => k_is)
  (case wHalla0 => k_is)
  (case wHalli0 => k_is)
  (case wHalll0 => k_is)
  (case wHallc0 => k_is)
  (case wHallk0 => k_is)
  (case wHalla1 => k_is)
  (case wHalli1 => k_is)
  (case wHalll1 => k_is)
  (case wHallc1 => k_is)
  (case wHallk1 => k_is)
  (case wHalla2 => k_is)
  (case wHalli2 => k_is)
  (case wHalll2 => k_is)
  (case wHallc2 => k_is)
  (case wHallk2 => k_is)
  (case wHalla3 => k_is)
  (case wHalli3 => k_is)
  (case wHalll3 => k_is)
  (case wHallc3 => k_is)
  (case wHallk3 => k_is)
  (case wHalla4 => k_is)
  (case wHalli4 => k_is)
  (case wHalll4 => k_is)
  (case wHallc4 => k_is)
  (case wHallk4 => k_is)
  (case wHalla5 => k_is)
  (case wHalli5 => k_is)
  (case wHalll5 => k_is)
  (case wHallc5 => k_is)
  (case wHallk5 => k_is)
  (case wHalla6 => k_is)
  (case wHalli6 => k_is)
  (case wHalll6 => k_is)
  (case wHallc6 => k_is)
  (case wHallk6 => k_is)
  (case wHalla7 => k_is)
  (case wHalli7 => k_is)
  (case wHalll7 => k_is)
  (case wHallc7 => k_is)
  (case wHallk7 => k_is)
  (case wHalla8 => k_is)
  (case wHalli8 => k_is)
  (case wHalll8 => k_is)
  (case wHallc8 => k_is)
  (case wHallk8 => k_is)
  (case wHalla9 => k_is)
  (case wHalli9 => k_is)
  (case wHalll9 => k_is)
  (case wHallc9 => k_is)
  (case wHallk9 => k_is)
  (case wHalla10 => k_is)
  (case wHalli10 => k_is)
  (case wHalll10 => k_is)
  (case wHallc10 => k_is)
  (case wHallk10 => k_is)
  (case wHalla11 => k_is)
  (case wHalli11 => k_is)
  (case wHalll11 => k_is)
  (case wHallc11 => k_is)
  (case wHallk11 => k_is)
  (case wHalla12 => k_is)
  (case wHalli12 => k_is)
  (case wHalll12 => k_is)
  (case wHallc12 => k_is)
  (case wHallk12 => k_is)
  (case wHalla13 => k_is)
  (case wHalli13 => k_is)
  (case wHalll13 => k_is)
  (case wHallc13 => k_is)
  (case wHallk13 => k_is)
  (case wHalla14 => k_is)
  (case wHalli14 => k_is)
  (case wHalll14 => k_is)
  (case wHallc14 => k_is)
  (case wHallk14 => k_is)
theorem gm_5 {w : World} {mg : Str → Option Value} {CS : Addr} {fS : Addr} {CBadWord : Addr} {fBadWord : Addr} {CBadName : Addr} {fBadName : Addr} {CTooLong : Addr} {fTooLong : Addr} {CFull : Addr} {fFull : Addr} {CL : Addr} {fL : Addr} {CNoName : Addr} {fNoName : Addr} {CNoLine : Addr} {fNoLine : Addr} (e_0 : SE (Sf.hx.heap_1 w.params) mg CS fS) (e_1 : FbD (Sf.hx.heap_1 w.params) "__init__" "SpoorError.__init__" s_SpoorError___init__ fS ["self", "word", "message"]) (e_2 : EC (Sf.hx.heap_1 w.params) mg "BadWord" CBadWord fBadWord) (e_3 : Fb (Sf.hx.heap_1 w.params) "__init__" "BadWord.__init__" s_BadWord___init__ fBadWord ["self"]) (e_4 : EC (Sf.hx.heap_1 w.params) mg "BadName" CBadName fBadName) (e_5 : Fb (Sf.hx.heap_1 w.params) "__init__" "BadName.__init__" s_BadName___init__ fBadName ["self"]) (e_6 : EC (Sf.hx.heap_1 w.params) mg "TooLong" CTooLong fTooLong) (e_7 : Fb (Sf.hx.heap_1 w.params) "__init__" "TooLong.__init__" s_TooLong___init__ fTooLong ["self"]) (e_8 : EC (Sf.hx.heap_1 w.params) mg "Full" CFull fFull) (e_9 : Fb (Sf.hx.heap_1 w.params) "__init__" "Full.__init__" s_Full___init__ fFull ["self"]) (e_10 : LE (Sf.hx.heap_1 w.params) mg CL fL) (e_11 : FbD (Sf.hx.heap_1 w.params) "__init__" "Lacking.__init__" s_Lacking___init__ fL ["self", "word", "message"]) (e_12 : EL (Sf.hx.heap_1 w.params) mg "NoName" CNoName fNoName) (e_13 : Fb (Sf.hx.heap_1 w.params) "__init__" "NoName.__init__" s_NoName___init__ fNoName ["self", "name"]) (e_14 : EL (Sf.hx.heap_1 w.params) mg "NoLine" CNoLine fNoLine) (e_15 : Fb (Sf.hx.heap_1 w.params) "__init__" "NoLine.__init__" s_NoLine___init__ fNoLine ["self", "number"]) (e_16 : PySem.W.findIn (Sf.hx.heap_1 w.params) (.ref CNoName) "name" = some none) (e_17 : PySem.W.findIn (Sf.hx.heap_1 w.params) (.ref CNoLine) "number" = some none) (e_18 : PySem.W.exmOne (Sf.hx.heap_1 w.params) (.ref CBadName) (.ref CS) = some true) (e_19 : PySem.W.exmOne (Sf.hx.heap_1 w.params) (.ref CBadWord) (.ref CS) = some true) (e_20 : PySem.W.exmOne (Sf.hx.heap_1 w.params) (.ref CTooLong) (.ref CS) = some true) (e_21 : PySem.W.exmOne (Sf.hx.heap_1 w.params) (.ref CFull) (.ref CS) = some true) (e_22 : PySem.W.exmOne (Sf.hx.heap_1 w.params) (.ref CNoName) (.ref CS) = some false) (e_23 : PySem.W.exmOne (Sf.hx.heap_1 w.params) (.ref CNoName) (.ref CL) = some true) (e_24 : PySem.W.exmOne (Sf.hx.heap_1 w.params) (.ref CNoLine) (.ref CS) = some false) (e_25 : PySem.W.exmOne (Sf.hx.heap_1 w.params) (.ref CNoLine) (.ref CL) = some true) : ∃ CS : Addr, ∃ fS : Addr, ∃ CBadWord : Addr, ∃ fBadWord : Addr, ∃ CBadName : Addr, ∃ fBadName : Addr, ∃ CTooLong : Addr, ∃ fTooLong : Addr, ∃ CFull : Addr, ∃ fFull : Addr, ∃ CL : Addr, ∃ fL : Addr, ∃ CNoName : Addr, ∃ fNoName : Addr, ∃ CNoLine : Addr, ∃ fNoLine : Addr, (SE (Sf.hx.heap_1 w.params) mg CS fS) ∧ (FbD (Sf.hx.heap_1 w.params) "__init__" "SpoorError.__init__" s_SpoorError___init__ fS ["self", "word", "message"]) ∧ (EC (Sf.hx.heap_1 w.params) mg "BadWord" CBadWord fBadWord) ∧ (Fb (Sf.hx.heap_1 w.params) "__init__" "BadWord.__init__" s_BadWord___init__ fBadWord ["self"]) ∧ (EC (Sf.hx.heap_1 w.params) mg "BadName" CBadName fBadName) ∧ (Fb (Sf.hx.heap_1 w.params) "__init__" "BadName.__init__" s_BadName___init__ fBadName ["self"]) ∧ (EC (Sf.hx.heap_1 w.params) mg "TooLong" CTooLong fTooLong) ∧ (Fb (Sf.hx.heap_1 w.params) "__init__" "TooLong.__init__" s_TooLong___init__ fTooLong ["self"]) ∧ (EC (Sf.hx.heap_1 w.params) mg "Full" CFull fFull) ∧ (Fb (Sf.hx.heap_1 w.params) "__init__" "Full.__init__" s_Full___init__ fFull ["self"]) ∧ (LE (Sf.hx.heap_1 w.params) mg CL fL) ∧ (FbD (Sf.hx.heap_1 w.params) "__init__" "Lacking.__init__" s_Lacking___init__ fL ["self", "word", "message"]) ∧ (EL (Sf.hx.heap_1 w.params) mg "NoName" CNoName fNoName) ∧ (Fb (Sf.hx.heap_1 w.params) "__init__" "NoName.__init__" s_NoName___init__ fNoName ["self", "name"]) ∧ (EL (Sf.hx.heap_1 w.params) mg "NoLine" CNoLine fNoLine) ∧ (Fb (Sf.hx.heap_1 w.params) "__init__" "NoLine.__init__" s_NoLine___init__ fNoLine ["self", "number"]) ∧ (PySem.W.findIn (Sf.hx.heap_1 w.params) (.ref CNoName) "name" = some none) ∧ (PySem.W.findIn (Sf.hx.heap_1 w.params) (.ref CNoLine) "number" = some none) ∧ (PySem.W.exmOne (Sf.hx.heap_1 w.params) (.ref CBadName) (.ref CS) = some true) ∧ (PySem.W.exmOne (Sf.hx.heap_1 w.params) (.ref CBadWord) (.ref CS) = some true) ∧ (PySem.W.exmOne (Sf.hx.heap_1 w.params) (.ref CTooLong) (.ref CS) = some true) ∧ (PySem.W.exmOne (Sf.hx.heap_1 w.params) (.ref CFull) (.ref CS) = some true) ∧ (PySem.W.exmOne (Sf.hx.heap_1 w.params) (.ref CNoName) (.ref CS) = some false) ∧ (PySem.W.exmOne (Sf.hx.heap_1 w.params) (.ref CNoName) (.ref CL) = some true) ∧ (PySem.W.exmOne (Sf.hx.heap_1 w.params) (.ref CNoLine) (.ref CS) = some false) ∧ (PySem.W.exmOne (Sf.hx.heap_1 w.params) (.ref CNoLine) (.ref CL) = some true) := ⟨CS, fS, CBadWord, fBadWord, CBadName, fBadName, CTooLong, fTooLong, CFull, fFull, CL, fL, CNoName, fNoName, CNoLine, fNoLine, e_0, e_1, e_2, e_3, e_4, e_5, e_6, e_7, e_8, e_9, e_10, e_11, e_12, e_13, e_14, e_15, e_16, e_17, e_18, e_19, e_20, e_21, e_22, e_23, e_24, e_25⟩
theorem gz_5 : PySem.Challenge.rw_spoorfold_k75_texts_that_are_no_pages = PySem.Challenge.rw_spoorfold_k75_texts_that_are_no_pages → ∀ {w : World} {h : Heap} {mg : Str → Option Value} (KX : (Sf.hx.heap_1 w.params).In h) (G : h.Ns mainGlobals mg), ∃ CS : Addr, ∃ fS : Addr, ∃ CBadWord : Addr, ∃ fBadWord : Addr, ∃ CBadName : Addr, ∃ fBadName : Addr, ∃ CTooLong : Addr, ∃ fTooLong : Addr, ∃ CFull : Addr, ∃ fFull : Addr, ∃ CL : Addr, ∃ fL : Addr, ∃ CNoName : Addr, ∃ fNoName : Addr, ∃ CNoLine : Addr, ∃ fNoLine : Addr, (SE (Sf.hx.heap_1 w.params) mg CS fS) ∧ (FbD (Sf.hx.heap_1 w.params) "__init__" "SpoorError.__init__" s_SpoorError___init__ fS ["self", "word", "message"]) ∧ (EC (Sf.hx.heap_1 w.params) mg "BadWord" CBadWord fBadWord) ∧ (Fb (Sf.hx.heap_1 w.params) "__init__" "BadWord.__init__" s_BadWord___init__ fBadWord ["self"]) ∧ (EC (Sf.hx.heap_1 w.params) mg "BadName" CBadName fBadName) ∧ (Fb (Sf.hx.heap_1 w.params) "__init__" "BadName.__init__" s_BadName___init__ fBadName ["self"]) ∧ (EC (Sf.hx.heap_1 w.params) mg "TooLong" CTooLong fTooLong) ∧ (Fb (Sf.hx.heap_1 w.params) "__init__" "TooLong.__init__" s_TooLong___init__ fTooLong ["self"]) ∧ (EC (Sf.hx.heap_1 w.params) mg "Full" CFull fFull) ∧ (Fb (Sf.hx.heap_1 w.params) "__init__" "Full.__init__" s_Full___init__ fFull ["self"]) ∧ (LE (Sf.hx.heap_1 w.params) mg CL fL) ∧ (FbD (Sf.hx.heap_1 w.params) "__init__" "Lacking.__init__" s_Lacking___init__ fL ["self", "word", "message"]) ∧ (EL (Sf.hx.heap_1 w.params) mg "NoName" CNoName fNoName) ∧ (Fb (Sf.hx.heap_1 w.params) "__init__" "NoName.__init__" s_NoName___init__ fNoName ["self", "name"]) ∧ (EL (Sf.hx.heap_1 w.params) mg "NoLine" CNoLine fNoLine) ∧ (Fb (Sf.hx.heap_1 w.params) "__init__" "NoLine.__init__" s_NoLine___init__ fNoLine ["self", "number"]) ∧ (PySem.W.findIn (Sf.hx.heap_1 w.params) (.ref CNoName) "name" = some none) ∧ (PySem.W.findIn (Sf.hx.heap_1 w.params) (.ref CNoLine) "number" = some none) ∧ (PySem.W.exmOne (Sf.hx.heap_1 w.params) (.ref CBadName) (.ref CS) = some true) ∧ (PySem.W.exmOne (Sf.hx.heap_1 w.params) (.ref CBadWord) (.ref CS) = some true) ∧ (PySem.W.exmOne (Sf.hx.heap_1 w.params) (.ref CTooLong) (.ref CS) = some true) ∧ (PySem.W.exmOne (Sf.hx.heap_1 w.params) (.ref CFull) (.ref CS) = some true) ∧ (PySem.W.exmOne (Sf.hx.heap_1 w.params) (.ref CNoName) (.ref CS) = some false) ∧ (PySem.W.exmOne (Sf.hx.heap_1 w.params) (.ref CNoName) (.ref CL) = some true) ∧ (PySem.W.exmOne (Sf.hx.heap_1 w.params) (.ref CNoLine) (.ref CS) = some false) ∧ (PySem.W.exmOne (Sf.hx.heap_1 w.params) (.ref CNoLine) (.ref CL) = some true) := by
  k_fill
  intro _ w h mg KX G
  refine' gm_5 (w := w) (Sf.SE.mk (PySem.W.mg_of KX G ?seC) ?serd ?sega ?seat ?sevV (PySem.W.mg_none_of KX G ?semV)) (Sf.fbD_mk ?sel ?sec ?sek (Sf.se_binds ?seo ?seo2)) (Sf.EC.mk (Sf.oex_mk ?xBadWordlk ?xBadWordrv ?xBadWordsa ?xBadWordex ?xBadWordty ?xBadWordkC) ?xBadWordiC ?xBadWordtI (PySem.W.mg_of KX G ?xBadWordgC) ⟨?xBadWordga, ?xBadWordgg, ?xBadWordex2, ?xBadWordhd⟩ ?xBadWordnw (Sf.exm_self ?xBadWordex3 ?xBadWordcl ?xBadWordty2 ?xBadWordsub)) (Sf.fb_mk ?xBadWordil ?xBadWordic ?xBadWordik (fun _ _ _ _ _ _ us hl => match us, hl with | [_], _ => rfl)) (Sf.EC.mk (Sf.oex_mk ?xBadNamelk ?xBadNamerv ?xBadNamesa ?xBadNameex ?xBadNamety ?xBadNamekC) ?xBadNameiC ?xBadNametI (PySem.W.mg_of KX G ?xBadNamegC) ⟨?xBadNamega, ?xBadNamegg, ?xBadNameex2, ?xBadNamehd⟩ ?xBadNamenw (Sf.exm_self ?xBadNameex3 ?xBadNamecl ?xBadNamety2 ?xBadNamesub)) (Sf.fb_mk ?xBadNameil ?xBadNameic ?xBadNameik (fun _ _ _ _ _ _ us hl => match us, hl with | [_], _ => rfl)) (Sf.EC.mk (Sf.oex_mk ?xTooLonglk ?xTooLongrv ?xTooLongsa ?xTooLongex ?xTooLongty ?xTooLongkC) ?xTooLongiC ?xTooLongtI (PySem.W.mg_of KX G ?xTooLonggC) ⟨?xTooLongga, ?xTooLonggg, ?xTooLongex2, ?xTooLonghd⟩ ?xTooLongnw (Sf.exm_self ?xTooLongex3 ?xTooLongcl ?xTooLongty2 ?xTooLongsub)) (Sf.fb_mk ?xTooLongil ?xTooLongic ?xTooLongik (fun _ _ _ _ _ _ us hl => match us, hl with | [_], _ => rfl)) (Sf.EC.mk (Sf.oex_mk ?xFulllk ?xFullrv ?xFullsa ?xFullex ?xFullty ?xFullkC) ?xFulliC ?xFulltI (PySem.W.mg_of KX G ?xFullgC) ⟨?xFullga, ?xFullgg, ?xFullex2, ?xFullhd⟩ ?xFullnw (Sf.exm_self ?xFullex3 ?xFullcl ?xFullty2 ?xFullsub)) (Sf.fb_mk ?xFullil ?xFullic ?xFullik (fun _ _ _ _ _ _ us hl => match us, hl with | [_], _ => rfl)) (Sf.LE.mk (PySem.W.mg_of KX G ?leC) ?lerd ?lega ?leat ?levV (PySem.W.mg_none_of KX G ?lemV)) (Sf.fbD_mk ?lel ?lec ?lek (Sf.le_binds ?leo ?leo2)) (Sf.EL.mk ⟨?xNoNameini, ?xNoNameovr, ?xNoNamedct, ?xNoNamesa, ?xNoNameex, ?xNoNamety, ?xNoNamekC⟩ ?xNoNameiC ?xNoNametI (PySem.W.mg_of KX G ?xNoNamegC) ⟨?xNoNamega, ?xNoNamegg, ?xNoNameex2, ?xNoNamehd⟩ ?xNoNamenw (Sf.exm_self ?xNoNameex3 ?xNoNamecl ?xNoNamety2 ?xNoNamesub)) (Sf.fb_mk ?xNoNameil ?xNoNameic ?xNoNameik (fun _ _ _ _ _ _ us hl => match us, hl with | [_, _], _ => rfl)) (Sf.EL.mk ⟨?xNoLineini, ?xNoLineovr, ?xNoLinedct, ?xNoLinesa, ?xNoLineex, ?xNoLinety, ?xNoLinekC⟩ ?xNoLineiC ?xNoLinetI (PySem.W.mg_of KX G ?xNoLinegC) ⟨?xNoLinega, ?xNoLinegg, ?xNoLineex2, ?xNoLinehd⟩ ?xNoLinenw (Sf.exm_self ?xNoLineex3 ?xNoLinecl ?xNoLinety2 ?xNoLinesub)) (Sf.fb_mk ?xNoLineil ?xNoLineic ?xNoLineik (fun _ _ _ _ _ _ us hl => match us, hl with | [_, _], _ => rfl)) ?fNoNamename ?fNoLinenumber (Sf.exm_sub ?sxBadName1 ?sxBadName2 ?sxBadName3 ?sxBadName4) (Sf.exm_sub ?sxBadWord1 ?sxBadWord2 ?sxBadWord3 ?sxBadWord4) (Sf.exm_sub ?sxTooLong1 ?sxTooLong2 ?sxTooLong3 ?sxTooLong4) (Sf.exm_sub ?sxFull1 ?sxFull2 ?sxFull3 ?sxFull4) (Sf.exm_sub ?sxNoName1 ?sxNoName2 ?sxNoName3 ?sxNoName4) (Sf.exm_sub ?syNoName1 ?syNoName2 ?syNoName3 ?syNoName4) (Sf.exm_sub ?sxNoLine1 ?sxNoLine2 ?sxNoLine3 ?sxNoLine4) (Sf.exm_sub ?syNoLine1 ?syNoLine2 ?syNoLine3 ?syNoLine4)
  (case seC => k_is)
  (case serd => k_is)
  (case sega => k_is)
  (case seat => k_is)
  (case sevV => k_is)
  (case semV => k_is)
  (case sel => k_is)
  (case sec => k_is)
  (case sek => k_is)
  (case seo => k_is)
  (case seo2 => rfl)
  (case xBadWordgC => k_is)
  (case xBadWordlk => k_is)
  (case xBadWordsa => k_is)
  (case xBadWordex => k_is)
  (case xBadWordty => k_is)
  (case xBadWordkC => k_is)
  (case xBadWordiC => k_is)
  (case xBadWordtI => k_is)
  (case xBadWordga => k_is)
  (case xBadWordgg => k_is)
  (case xBadWordex2 => k_is)
  (case xBadWordhd => k_is)
  (case xBadWordnw => k_is)
  (case xBadWordex3 => k_is)
  (case xBadWordcl => k_is)
  (case xBadWordty2 => k_is)
  (case xBadWordsub => k_is)
  (case xBadWordil => k_is)
  (case xBadWordic => k_is)
  (case xBadWordik => k_is)
  (case xBadWordrv => decide +kernel)
  (case xBadNamegC => k_is)
  (case xBadNamelk => k_is)
  (case xBadNamesa => k_is)
  (case xBadNameex => k_is)
  (case xBadNamety => k_is)
  (case xBadNamekC => k_is)
  (case xBadNameiC => k_is)
  (case xBadNametI => k_is)
  (case xBadNamega => k_is)
  (case xBadNamegg => k_is)
  (case xBadNameex2 => k_is)
  (case xBadNamehd => k_is)
  (case xBadNamenw => k_is)
  (case xBadNameex3 => k_is)
  (case xBadNamecl => k_is)
  (case xBadNamety2 => k_is)
  (case xBadNamesub => k_is)
  (case xBadNameil => k_is)
  (case xBadNameic => k_is)
  (case xBadNameik => k_is)
  (case xBadNamerv => decide +kernel)
  (case xTooLonggC => k_is)
  (case xTooLonglk => k_is)
  (case xTooLongsa => k_is)
  (case xTooLongex => k_is)
  (case xTooLongty => k_is)
  (case xTooLongkC => k_is)
  (case xTooLongiC => k_is)
  (case xTooLongtI => k_is)
  (case xTooLongga => k_is)
  (case xTooLonggg => k_is)
  (case xTooLongex2 => k_is)
  (case xTooLonghd => k_is)
  (case xTooLongnw => k_is)
  (case xTooLongex3 => k_is)
  (case xTooLongcl => k_is)
  (case xTooLongty2 => k_is)
  (case xTooLongsub => k_is)
  (case xTooLongil => k_is)
  (case xTooLongic => k_is)
  (case xTooLongik => k_is)
  (case xTooLongrv => decide +kernel)
  (case xFullgC => k_is)
  (case xFulllk => k_is)
  (case xFullsa => k_is)
  (case xFullex => k_is)
  (case xFullty => k_is)
  (case xFullkC => k_is)
  (case xFulliC => k_is)
  (case xFulltI => k_is)
  (case xFullga => k_is)
  (case xFullgg => k_is)
  (case xFullex2 => k_is)
  (case xFullhd => k_is)
  (case xFullnw => k_is)
  (case xFullex3 => k_is)
  (case xFullcl => k_is)
  (case xFullty2 => k_is)
  (case xFullsub => k_is)
  (case xFullil => k_is)
  (case xFullic => k_is)
  (case xFullik => k_is)
  (case xFullrv => decide +kernel)
  (case leC => k_is)
  (case lerd => k_is)
  (case lega => k_is)
  (case leat => k_is)
  (case levV => k_is)
  (case lemV => k_is)
  (case lel => k_is)
  (case lec => k_is)
  (case lek => k_is)
  (case leo => k_is)
  (case leo2 => rfl)
  (case xNoNamegC => k_is)
  (case xNoNameini => kx_is)
  (case xNoNameovr => kx_is)
  (case xNoNamedct => k_is)
  (case xNoNamesa => k_is)
  (case xNoNameex => k_is)
  (case xNoNamety => k_is)
  (case xNoNamekC => k_is)
  (case xNoNameiC => k_is)
  (case xNoNametI => k_is)
  (case xNoNamega => k_is)
  (case xNoNamegg => k_is)
  (case xNoNameex2 => k_is)
  (case xNoNamehd => k_is)
  (case xNoNamenw => k_is)
  (case xNoNameex3 => k_is)
  (case xNoNamecl => k_is)
  (case xNoNamety2 => k_is)
  (case xNoNamesub => k_is)
  (case xNoNameil => k_is)
  (case xNoNameic => k_is)
  (case xNoNameik => k_is)
  (case xNoLinegC => k_is)
  (case xNoLineini => kx_is)
  (case xNoLineovr => kx_is)
  (case xNoLinedct => k_is)
  (case xNoLinesa => k_is)
  (case xNoLineex => k_is)
  (case xNoLinety => k_is)
  (case xNoLinekC => k_is)
  (case xNoLineiC => k_is)
  (case xNoLinetI => k_is)
  (case xNoLinega => k_is)
  (case xNoLinegg => k_is)
  (case xNoLineex2 => k_is)
  (case xNoLinehd => k_is)
  (case xNoLinenw => k_is)
  (case xNoLineex3 => k_is)
  (case xNoLinecl => k_is)
  (case xNoLinety2 => k_is)
  (case xNoLinesub => k_is)
  (case xNoLineil => k_is)
  (case xNoLineic => k_is)
  (case xNoLineik => k_is)
  (case fNoNamename => k_is)
  (case fNoLinenumber => k_is)
  (case sxBadName1 => k_is)
  (case sxBadName2 => k_is)
  (case sxBadName3 => k_is)
  (case sxBadName4 => k_is)
  (case sxBadWord1 => k_is)
  (case sxBadWord2 => k_is)
  (case sxBadWord3 => k_is)
  (case sxBadWord4 => k_is)
  (case sxTooLong1 => k_is)
  (case sxTooLong2 => k_is)
  (case sxTooLong3 => k_is)
  (case sxTooLong4 => k_is)
  (case sxFull1 => k_is)
  (case sxFull2 => k_is)
  (case sxFull3 => k_is)
  (case sxFull4 => k_is)
  (case sxNoName1 => k_is)
  (case sxNoName2 => k_is)
  (case sxNoName3 => k_is)
  (case sxNoName4 => k_is)
  (case syNoName1 => k_is)
  (case syNoName2 => k_is)
  (case syNoName3 => k_is)
  (case syNoName4 => k_is)
  (case sxNoLine1 => k_is)
  (case sxNoLine2 => k_is)
  (case sxNoLine3 => k_is)
  (case sxNoLine4 => k_is)
  (case syNoLine1 => k_is)
  (case syNoLine2 => k_is)
  (case syNoLine3 => k_is)
  (case syNoLine4 => k_is)
theorem gm_6 {w : World} {mg : Str → Option Value} {t_MOST_WORD : Tok} {t_SIGNS : Tok} {t_MOST_SIDE : Tok} {t_MOST_LINES : Tok} {t_LAST_NUMBER : Tok} {t_MOST_NAMES : Tok} {t_MOST_NAME : Tok} {t_NAME_LETTERS : Tok} {t_MOST_FIGURES : Tok} {t_FIGURES : Tok} {t_NO_SIGNS : Tok} {CBadPage : Addr} {fBadPage : Addr} {pD : Addr} {f1 : Addr} {f2 : Addr} {f3 : Addr} {f4 : Addr} {f5 : Addr} (e_0 : mg "MOST_WORD" = some (.int 60 t_MOST_WORD)) (e_1 : mg "SIGNS" = some (.str (Str.ofString "aAbBcCdDeEfFgGhH") t_SIGNS)) (e_2 : mg "MOST_SIDE" = some (.int 12 t_MOST_SIDE)) (e_3 : mg "MOST_LINES" = some (.int 12 t_MOST_LINES)) (e_4 : mg "LAST_NUMBER" = some (.int 999999999 t_LAST_NUMBER)) (e_5 : mg "MOST_NAMES" = some (.int 20 t_MOST_NAMES)) (e_6 : mg "MOST_NAME" = some (.int 8 t_MOST_NAME)) (e_7 : mg "NAME_LETTERS" = some (.str (Str.ofString "abcdefghijklmnopqrstuvwxyz") t_NAME_LETTERS)) (e_8 : mg "MOST_FIGURES" = some (.int 9 t_MOST_FIGURES)) (e_9 : mg "FIGURES" = some (.str (Str.ofString "0123456789") t_FIGURES)) (e_10 : mg "NO_SIGNS" = some (.str (Str.ofString "-") t_NO_SIGNS)) (e_11 : EC (Sf.hx.heap_1 w.params) mg "BadPage" CBadPage fBadPage) (e_12 : Fb (Sf.hx.heap_1 w.params) "__init__" "BadPage.__init__" s_BadPage___init__ fBadPage ["self", "row"]) (e_13 : PySem.W.findIn (Sf.hx.heap_1 w.params) (.ref CBadPage) "row" = some none) (e_14 : DDT (Sf.hx.heap_1 w.params) mg w pD f1 f2 f3 f4 f5) : ∃ t_MOST_WORD : Tok, ∃ t_SIGNS : Tok, ∃ t_MOST_SIDE : Tok, ∃ t_MOST_LINES : Tok, ∃ t_LAST_NUMBER : Tok, ∃ t_MOST_NAMES : Tok, ∃ t_MOST_NAME : Tok, ∃ t_NAME_LETTERS : Tok, ∃ t_MOST_FIGURES : Tok, ∃ t_FIGURES : Tok, ∃ t_NO_SIGNS : Tok, ∃ CBadPage : Addr, ∃ fBadPage : Addr, ∃ pD : Addr, ∃ f1 : Addr, ∃ f2 : Addr, ∃ f3 : Addr, ∃ f4 : Addr, ∃ f5 : Addr, (mg "MOST_WORD" = some (.int 60 t_MOST_WORD)) ∧ (mg "SIGNS" = some (.str (Str.ofString "aAbBcCdDeEfFgGhH") t_SIGNS)) ∧ (mg "MOST_SIDE" = some (.int 12 t_MOST_SIDE)) ∧ (mg "MOST_LINES" = some (.int 12 t_MOST_LINES)) ∧ (mg "LAST_NUMBER" = some (.int 999999999 t_LAST_NUMBER)) ∧ (mg "MOST_NAMES" = some (.int 20 t_MOST_NAMES)) ∧ (mg "MOST_NAME" = some (.int 8 t_MOST_NAME)) ∧ (mg "NAME_LETTERS" = some (.str (Str.ofString "abcdefghijklmnopqrstuvwxyz") t_NAME_LETTERS)) ∧ (mg "MOST_FIGURES" = some (.int 9 t_MOST_FIGURES)) ∧ (mg "FIGURES" = some (.str (Str.ofString "0123456789") t_FIGURES)) ∧ (mg "NO_SIGNS" = some (.str (Str.ofString "-") t_NO_SIGNS)) ∧ (EC (Sf.hx.heap_1 w.params) mg "BadPage" CBadPage fBadPage) ∧ (Fb (Sf.hx.heap_1 w.params) "__init__" "BadPage.__init__" s_BadPage___init__ fBadPage ["self", "row"]) ∧ (PySem.W.findIn (Sf.hx.heap_1 w.params) (.ref CBadPage) "row" = some none) ∧ (DDT (Sf.hx.heap_1 w.params) mg w pD f1 f2 f3 f4 f5) := ⟨t_MOST_WORD, t_SIGNS, t_MOST_SIDE, t_MOST_LINES, t_LAST_NUMBER, t_MOST_NAMES, t_MOST_NAME, t_NAME_LETTERS, t_MOST_FIGURES, t_FIGURES, t_NO_SIGNS, CBadPage, fBadPage, pD, f1, f2, f3, f4, f5, e_0, e_1, e_2, e_3, e_4, e_5, e_6, e_7, e_8, e_9, e_10, e_11, e_12, e_13, e_14⟩
theorem gz_6 : PySem.Challenge.rw_spoorfold_k75_texts_that_are_no_pages = PySem.Challenge.rw_spoorfold_k75_texts_that_are_no_pages → ∀ {w : World} {h : Heap} {mg : Str → Option Value} (KX : (Sf.hx.heap_1 w.params).In h) (G : h.Ns mainGlobals mg), ∃ t_MOST_WORD : Tok, ∃ t_SIGNS : Tok, ∃ t_MOST_SIDE : Tok, ∃ t_MOST_LINES : Tok, ∃ t_LAST_NUMBER : Tok, ∃ t_MOST_NAMES : Tok, ∃ t_MOST_NAME : Tok, ∃ t_NAME_LETTERS : Tok, ∃ t_MOST_FIGURES : Tok, ∃ t_FIGURES : Tok, ∃ t_NO_SIGNS : Tok, ∃ CBadPage : Addr, ∃ fBadPage : Addr, ∃ pD : Addr, ∃ f1 : Addr, ∃ f2 : Addr, ∃ f3 : Addr, ∃ f4 : Addr, ∃ f5 : Addr, (mg "MOST_WORD" = some (.int 60 t_MOST_WORD)) ∧ (mg "SIGNS" = some (.str (Str.ofString "aAbBcCdDeEfFgGhH") t_SIGNS)) ∧ (mg "MOST_SIDE" = some (.int 12 t_MOST_SIDE)) ∧ (mg "MOST_LINES" = some (.int 12 t_MOST_LINES)) ∧ (mg "LAST_NUMBER" = some (.int 999999999 t_LAST_NUMBER)) ∧ (mg "MOST_NAMES" = some (.int 20 t_MOST_NAMES)) ∧ (mg "MOST_NAME" = some (.int 8 t_MOST_NAME)) ∧ (mg "NAME_LETTERS" = some (.str (Str.ofString "abcdefghijklmnopqrstuvwxyz") t_NAME_LETTERS)) ∧ (mg "MOST_FIGURES" = some (.int 9 t_MOST_FIGURES)) ∧ (mg "FIGURES" = some (.str (Str.ofString "0123456789") t_FIGURES)) ∧ (mg "NO_SIGNS" = some (.str (Str.ofString "-") t_NO_SIGNS)) ∧ (EC (Sf.hx.heap_1 w.params) mg "BadPage" CBadPage fBadPage) ∧ (Fb (Sf.hx.heap_1 w.params) "__init__" "BadPage.__init__" s_BadPage___init__ fBadPage ["self", "row"]) ∧ (PySem.W.findIn (Sf.hx.heap_1 w.params) (.ref CBadPage) "row" = some none) ∧ (DDT (Sf.hx.heap_1 w.params) mg w pD f1 f2 f3 f4 f5) := by
  k_fill
  intro _ w h mg KX G
  refine' gm_6 (w := w) (PySem.W.mg_of KX G ?d0) (PySem.W.mg_of KX G ?d1) (PySem.W.mg_of KX G ?d2) (PySem.W.mg_of KX G ?d3) (PySem.W.mg_of KX G ?d4) (PySem.W.mg_of KX G ?d5) (PySem.W.mg_of KX G ?d6) (PySem.W.mg_of KX G ?d7) (PySem.W.mg_of KX G ?d8) (PySem.W.mg_of KX G ?d9) (PySem.W.mg_of KX G ?d10) (Sf.EC.mk (Sf.oex_mk ?xBadPagelk ?xBadPagerv ?xBadPagesa ?xBadPageex ?xBadPagety ?xBadPagekC) ?xBadPageiC ?xBadPagetI (PySem.W.mg_of KX G ?xBadPagegC) ⟨?xBadPagega, ?xBadPagegg, ?xBadPageex2, ?xBadPagehd⟩ ?xBadPagenw (Sf.exm_self ?xBadPageex3 ?xBadPagecl ?xBadPagety2 ?xBadPagesub)) (Sf.fb_mk ?xBadPageil ?xBadPageic ?xBadPageik (fun _ _ _ _ _ _ us hl => match us, hl with | [_, _], _ => rfl)) ?fBadPagerow (Sf.ddt_mk KX G ?ddA ?ddL ?ddK ?dd1 ?dd2 ?dd3 ?dd4 ?dd5 ?dy1 ?dy2 ?dy3 ?dy4 ?dy5)
  (case d0 => k_is)
  (case d1 => k_is)
  (case d2 => k_is)
  (case d3 => k_is)
  (case d4 => k_is)
  (case d5 => k_is)
  (case d6 => k_is)
  (case d7 => k_is)
  (case d8 => k_is)
  (case d9 => k_is)
  (case d10 => k_is)
  (case xBadPagegC => k_is)
  (case xBadPagelk => k_is)
  (case xBadPagesa => k_is)
  (case xBadPageex => k_is)
  (case xBadPagety => k_is)
  (case xBadPagekC => k_is)
  (case xBadPageiC => k_is)
  (case xBadPagetI => k_is)
  (case xBadPagega => k_is)
  (case xBadPagegg => k_is)
  (case xBadPageex2 => k_is)
  (case xBadPagehd => k_is)
  (case xBadPagenw => k_is)
  (case xBadPageex3 => k_is)
  (case xBadPagecl => k_is)
  (case xBadPagety2 => k_is)
  (case xBadPagesub => k_is)
  (case xBadPageil => k_is)
  (case xBadPageic => k_is)
  (case xBadPageik => k_is)
  (case xBadPagerv => decide +kernel)
  (case ddA => k_is)
  (case ddL => k_is)
  (case ddK => k_keys)
  (case dd1 => k_is)
  (case dd2 => k_is)
  (case dd3 => k_is)
  (case dd4 => k_is)
  (case dd5 => k_is)
  (case dy1 => k_is)
  (case dy2 => k_is)
  (case dy3 => k_is)
  (case dy4 => k_is)
  (case dy5 => k_is)
  (case fBadPagerow => k_is)
end Sf
open PySem PySem.W PyProof.Rows
set_option maxRecDepth 100000 in
set_option maxHeartbeats 0 in
set_option pp.maxSteps 300 in
set_option pp.deepTerms false in
theorem Sf.e2 (said : PySem.Challenge.rw_spoorfold_k75_texts_that_are_no_pages.row.wellSaid = true) : PySem.Challenge.rw_spoorfold_k75_texts_that_are_no_pages.row.Holds := by
  have _ := @Sf.fill0
  refine HandSHeadRun.head_any (r := OpenLaw.row PySem.Challenge.rw_spoorfold_k75_texts_that_are_no_pages) (q := Sf.qvK) (H := PySem.W.kmHook Sf.hx.heap_1 Sf.asK Sf.asK_eq Sf.tsK) (ob := Sf.obK) (M := 11561) (loose := Sf.looseK) (d := HandSHeadRun.topDef (OpenLaw.row PySem.Challenge.rw_spoorfold_k75_texts_that_are_no_pages).prog 151) (kwd := []) Sf.obK_eq Sf.okG Sf.okI Sf.runK Sf.okH (by kernel_rfl) (by kernel_rfl) (by rfl) said (Bool.and_eq_true_iff.mpr ⟨Bool.and_eq_true_iff.mpr ⟨Sf.okA, Sf.okB⟩, Bool.and_eq_true_iff.mpr ⟨Sf.okC, Sf.okD⟩⟩) Sf.okE Sf.okW ?hc
  case hc =>
  k_fill
  refine LamX.walk_ofTs (l := PySem.Challenge.rw_spoorfold_k75_texts_that_are_no_pages) (n := 63) (k := 14) (x := "_law_script") (CX := fun _ => L2.CX0) rfl (by decide) (by kernel_rfl) ⟨rfl, by decide, by decide⟩ (fun w h Y => PySem.W.km_in_of Y) ?F (fun _ _ _ _ _ h => h)
  case F =>
    intro w mg fa h Y KX G hmg0
    have hT8 := PySem.W.km_tabs_of Y
    have hmg : mg ("law" : PySem.Str) = some (.ref fa) := by
      have e : (HandSHeadRun.topDef (OpenLaw.row PySem.Challenge.rw_spoorfold_k75_texts_that_are_no_pages).prog 151).name = ("law" : PySem.Str) := by kernel_rfl
      rw [← e]
      exact hmg0
    clear hmg0
    obtain ⟨e_F_law_pull, e_F_law_sign, e_F_law_flip, e_F_law_word, e_F_law_bad, e_F_law_begin, e_F_law_bare, e_F_law_pick, e_F_law_same, e_F_law_good_word, e_F_law_good_name, e_F_law_deed_word, e_F_law_tried, e_F_law_do, e_F_law_value, e_F_law_copy, e_F_law_entered, e_F_law_name, e_F_law_some_name, e_F_law_back, e_F_law_round_ways, e_F_law_deed, e_F_law_light_deed, e_F_law_number_of, e_F_law_word_of⟩ := Sf.gz_0 rfl KX G
    obtain ⟨e_F_law_row_in, e_F_law_first_wrong, e_F_law_bent, e_F_law_told, e_Fis_upto, e_Fis_name, e_Fneed_name, e_Fwithout, e_Fis_word, e_Fneed_word, e_Fneed_words, e_Flike, e_Fstrike, e_Fput, e_Fforget, e_Funshelve, e_Fdone, e_Fis_number, e_Fshown, e_Fmeant, e_Fis_written_word, e_Fis_side, e_Flast, e_Fis_coming, e_Fis_line⟩ := Sf.gz_1 rfl KX G
    obtain ⟨e_Fis_text, e_Fis_added, e_Fread_page, e_Fpage, e_Fhall_of, e_B, e_Nrepr, e_Ndict, e_Nmax, e_Nint, e_Nenumerate⟩ := Sf.gz_2 rfl KX G
    obtain ⟨v_CStand, e_TStand, e_mkStand, e_kcStand, e_MStand___init__, e_MStand_twin, e_MStand_text_of, e_MStand_add_line, e_MStand_add_text, e_MStand_paper_of⟩ := Sf.gz_3 rfl KX G
    obtain ⟨v_CHall, e_THall, e_mkHall, e_kcHall, e_MHall___init__, e_MHall_stand_by, e_MHall_settle, e_MHall_did, e_MHall_like, e_MHall_strike, e_MHall_put, e_MHall_forget, e_MHall_unshelve, e_MHall_coming, e_MHall___len__, e_MHall_lines, e_MHall_words, e_MHall_shelf, e_MHall___repr__⟩ := Sf.gz_4 rfl KX G
    obtain ⟨v_CS, v_fS, v_CBadWord, v_fBadWord, v_CBadName, v_fBadName, v_CTooLong, v_fTooLong, v_CFull, v_fFull, v_CL, v_fL, v_CNoName, v_fNoName, v_CNoLine, v_fNoLine, e_S_, e_FS_, e_EBadWord, e_IBadWord, e_EBadName, e_IBadName, e_ETooLong, e_ITooLong, e_EFull, e_IFull, e_L_, e_FL_, e_ENoName, e_INoName, e_ENoLine, e_INoLine, e_nNoName_name, e_nNoLine_number, e_sxBadName, e_sxBadWord, e_sxTooLong, e_sxFull, e_sxNoName, e_syNoName, e_sxNoLine, e_syNoLine⟩ := Sf.gz_5 rfl KX G
    obtain ⟨v_t_MOST_WORD, v_t_SIGNS, v_t_MOST_SIDE, v_t_MOST_LINES, v_t_LAST_NUMBER, v_t_MOST_NAMES, v_t_MOST_NAME, v_t_NAME_LETTERS, v_t_MOST_FIGURES, v_t_FIGURES, v_t_NO_SIGNS, v_CBadPage, v_fBadPage, v_pD, v_f1, v_f2, v_f3, v_f4, v_f5, e_C_MOST_WORD, e_C_SIGNS, e_C_MOST_SIDE, e_C_MOST_LINES, e_C_LAST_NUMBER, e_C_MOST_NAMES, e_C_MOST_NAME, e_C_NAME_LETTERS, e_C_MOST_FIGURES, e_C_FIGURES, e_C_NO_SIGNS, e_EBadPage, e_IBadPage, e_nBadPage_row, e_TDD⟩ := Sf.gz_6 rfl KX G
    refine' Sf.lawAt_of KX ?hd ?h11 ?hn (Sf.all_mk KX G hmg ?aL ?lL ?cL ?kL e_F_law_pull e_F_law_sign e_F_law_flip e_F_law_word e_F_law_bad e_F_law_begin e_F_law_bare e_F_law_pick e_F_law_same e_F_law_good_word e_F_law_good_name e_F_law_deed_word e_F_law_tried e_F_law_do e_F_law_value e_F_law_copy e_F_law_entered e_F_law_name e_F_law_some_name e_F_law_back e_F_law_round_ways e_F_law_deed e_F_law_light_deed e_F_law_number_of e_F_law_word_of e_F_law_row_in e_F_law_first_wrong e_F_law_bent e_F_law_told e_Fis_upto e_Fis_name e_Fneed_name e_Fwithout e_Fis_word e_Fneed_word e_Fneed_words e_Flike e_Fstrike e_Fput e_Fforget e_Funshelve e_Fdone e_Fis_number e_Fshown e_Fmeant e_Fis_written_word e_Fis_side e_Flast e_Fis_coming e_Fis_line e_Fis_text e_Fis_added e_Fread_page e_Fpage e_Fhall_of e_B e_Nrepr e_Ndict e_Nmax e_Nint e_Nenumerate e_C_MOST_WORD e_C_SIGNS e_C_MOST_SIDE e_C_MOST_LINES e_C_LAST_NUMBER e_C_MOST_NAMES e_C_MOST_NAME e_C_NAME_LETTERS e_C_MOST_FIGURES e_C_FIGURES e_C_NO_SIGNS e_TStand e_mkStand e_kcStand e_MStand___init__ e_MStand_twin e_MStand_text_of e_MStand_add_line e_MStand_add_text e_MStand_paper_of e_THall e_mkHall e_kcHall e_MHall___init__ e_MHall_stand_by e_MHall_settle e_MHall_did e_MHall_like e_MHall_strike e_MHall_put e_MHall_forget e_MHall_unshelve e_MHall_coming e_MHall___len__ e_MHall_lines e_MHall_words e_MHall_shelf e_MHall___repr__ e_S_ e_FS_ e_EBadWord e_IBadWord e_EBadName e_IBadName e_ETooLong e_ITooLong e_EFull e_IFull e_EBadPage e_IBadPage e_L_ e_FL_ e_ENoName e_INoName e_ENoLine e_INoLine e_nNoName_name e_nNoLine_number e_TDD e_sxBadName e_sxBadWord e_sxTooLong e_sxFull e_sxNoName e_syNoName e_sxNoLine e_syNoLine e_nBadPage_row (Sf.fnAtC_mk KX G ?ta ?tl ?tc ?tk (fun _ _ _ _ _ _ us hl => match us, hl with | [_, _, _], _ => rfl))) (fun hp => hT8 _ hp) ?hm
    (case aL => k_is)
    (case lL => k_is)
    (case cL => k_is)
    (case kL => k_is)
    (case ta => k_is)
    (case tl => k_is)
    (case tc => k_is)
    (case tk => k_is)
    (case hd => k_is)
    (case h11 => rfl)
    (case hn => exact ⟨by kernel_rfl, by kernel_rfl⟩)
    (case hm => decide +kernel)
theorem PySem.Challenge.cw_spoorfold_k75_texts_that_are_no_pages_holds : PySem.Challenge.rw_spoorfold_k75_texts_that_are_no_pages.Holds :=
  Sf.e1 Sf.e2
