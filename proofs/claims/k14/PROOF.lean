import PyProof.Rows.All
import Wide.All
import OpenK.AllK
import Wide.FinOn
import HandS.ForMost
import HandS.IsInst
import HandS.Flow
import PySem.Challenge.RW_strokeonce_k14_whole_variants
import HandS.Wide
import KE.GoesEnum
import HandS.Iter
import HandS.Defaults
import HandS.SetBool
import HandS.Strs
import HandS.Walk
import KE.DataFind
import HandS.Zip
import KE.GoesMore
import HandS.DictComp
import HandS.Rev
import HandS.List
import HandS.Dict
import KE.KExcSuper
import KE.KSuper
import HandS.ForExc
import HandS.FStr
import HandS.Codes
import HandS.HotCalls
import HandS.Comp
import PyProof.WalkInts
import HandS.Deep
import HandS.ExcIs
import KE.KExcIs
import HandS.EndOwn
set_option Elab.async false
set_option linter.all false
set_option maxRecDepth 100000
set_option maxHeartbeats 4000000
/-! common words: heaps, the row of draws, words of signs, books -/
namespace SK
open PySem PySem.Spec PyProof.Rows L2

/-! ### heaps -/
theorem same_upd {H : Hp} {p : Addr} {o : HO} (h : H p = none) : Same H (upd H p o) := fun b x e => by
  rw [upd_ne (ne_of_none e h)]
  exact e
theorem sUpd {H H1 : Hp} {p : Addr} {o : HO} (s : Same H H1) (h : H1 p = none) : Same H (upd H1 p o) := s.trans (same_upd h)
theorem sNone {H H1 : Hp} {p : Addr} (s : Same H H1) (h : H1 p = none) : H p = none := s.free h
/-- a change of a new thing is none of what stood -/
theorem sPut {H H1 : Hp} {p : Addr} {o : HO} (s : Same H H1) (h : H p = none) : Same H (L2.upd H1 p o) := fun b x e => by
  rw [upd_ne (ne_of_none e h)]
  exact s b x e
theorem sTup {K : PySem.W.Frag} {H H' : Hp} {a : Addr} {xs : List V} (e : Same H H') (h : SqT K H a xs) : SqT K H' a xs := by
  rcases h with (h | ⟨o, h⟩) | h
  · exact .inl (.inl (e _ _ h))
  · exact .inl (.inr ⟨o, e _ _ h⟩)
  · exact .inr h
/-- all that was tracked but r is as it was -/
def SameX (r : Addr) (H H' : Hp) : Prop := ∀ b o, b ≠ r → H b = some o → H' b = some o
theorem SameX.refl {r : Addr} {H : Hp} : SameX r H H := fun _ _ _ h => h
theorem SameX.trans {r : Addr} {H H1 H2 : Hp} (a : SameX r H H1) (b : SameX r H1 H2) : SameX r H H2 := fun c o n h => b c o n (a c o n h)
theorem SameX.of {r : Addr} {H H' : Hp} (s : Same H H') : SameX r H H' := fun b o _ h => s b o h
theorem SameX.new {r : Addr} {H H1 : Hp} {p : Addr} {o : HO} (s : SameX r H H1) (h : H1 p = none) : SameX r H (upd H1 p o) := s.trans (.of (same_upd h))
theorem SameX.at {r : Addr} {H H1 : Hp} {o : HO} (s : SameX r H H1) : SameX r H (upd H1 r o) := fun b x n e => by
  rw [upd_ne n]
  exact s b x n e
theorem SameX.put {r : Addr} {H H1 : Hp} {p : Addr} {o : HO} (s : SameX r H H1) (h : H p = none) : SameX r H (upd H1 p o) := fun b x n e => by
  rw [upd_ne (ne_of_none e h)]
  exact s b x n e

/-! ### the row of draws: [script, how many are taken, mixed, the rest] -/
abbrev Scr := Addr × List Int
def RowOk (K : PySem.W.Frag) (S : Scr) (H : Hp) (r : Addr) : Prop := ∃ (i s c : Int),
  H r = some (.lst [.ref S.1, .int i, .int s, .int c]) ∧ SqL K H S.1 (S.2.map V.int) ∧ 0 ≤ i ∧ S.1 ≠ r ∧ S.2.length ≤ 63
theorem sqX {K : PySem.W.Frag} {H H' : Hp} {a r : Addr} {xs : List V} (s : SameX r H H') (n : a ≠ r) (h : SqL K H a xs) : SqL K H' a xs := by
  rcases h with (h | ⟨o, h⟩) | h
  · exact .inl (.inl (s _ _ n h))
  · exact .inl (.inr ⟨o, s _ _ n h⟩)
  · exact .inr h
/-- what was readable ahead of a new thing at p is so behind a change of p -/
theorem sqPut {K : PySem.W.Frag} {H H' : Hp} {a p : Addr} {xs : List V} {o : HO} (h : SqL K H a xs) (n : H p = none) (h' : SqL K H' a xs) : SqL K (upd H' p o) a xs := by
  have go : a ≠ p → SqL K (upd H' p o) a xs := fun ne => by
    rcases h' with (h | ⟨o, h⟩) | h
    · exact .inl (.inl (by rw [upd_ne ne]; exact h))
    · exact .inl (.inr ⟨o, by rw [upd_ne ne]; exact h⟩)
    · exact .inr h
  rcases h with (h | ⟨o, h⟩) | h
  · exact go (ne_of_none h n)
  · exact go (ne_of_none h n)
  · exact .inr h
section
variable {K : PySem.W.Frag} {S : Scr} {H H' H1 H2 : Hp} {r p : Addr} {o : HO}
theorem RowOk.same (h : RowOk K S H r) (s : Same H H') : RowOk K S H' r := by
  obtain ⟨i, st, c, h1, h2, h3, h4, h5⟩ := h
  exact ⟨i, st, c, s _ _ h1, s.seq h2, h3, h4, h5⟩
theorem RowOk.there (h : RowOk K S H r) {p : Addr} (n : H p = none) : p ≠ r := by
  obtain ⟨i, st, c, h1, _⟩ := h
  exact (ne_of_none h1 n).symm
theorem RowOk.put (h : RowOk K S H r) (n : H p = none) (h' : RowOk K S H' r) : RowOk K S (upd H' p o) r := by
  have hp : p ≠ r := h.there n
  obtain ⟨i, st, c, h1, h2, h3, h4, h5⟩ := h'
  obtain ⟨_, _, _, _, g, _⟩ := h
  exact ⟨i, st, c, by rw [upd_ne hp.symm]; exact h1, sqPut g n h2, h3, h4, h5⟩
/-- between: what a step that draws may change -/
structure Drawn (K : PySem.W.Frag) (S : Scr) (r : Addr) (H H' : Hp) : Prop where
  same : SameX r H H'
  row : RowOk K S H' r
theorem Drawn.trans (a : Drawn K S r H H1) (b : Drawn K S r H1 H2) : Drawn K S r H H2 := ⟨a.same.trans b.same, b.row⟩
theorem Drawn.new (a : Drawn K S r H H1) (h : H1 p = none) : Drawn K S r H (upd H1 p o) := ⟨a.same.new h, a.row.same (same_upd h)⟩
theorem Drawn.refl (h : RowOk K S H r) : Drawn K S r H H := ⟨.refl, h⟩
theorem Drawn.then (a : Drawn K S r H H1) (b : Same H1 H2) : Drawn K S r H H2 := ⟨a.same.trans (.of b), a.row.same b⟩
/-- a thing that is new since H is changed -/
theorem Drawn.put (a : Drawn K S r H H1) (h : RowOk K S H r) (n : H p = none) : Drawn K S r H (upd H1 p o) := ⟨a.same.put n, h.put n a.row⟩
/-- what stands and is not the row -/
theorem Drawn.at (a : Drawn K S r H H') {b : Addr} {o : HO} (n : b ≠ r) (h : H b = some o) : H' b = some o := a.same b o n h
theorem RowOk.ne (hr : RowOk K S H r) {b : Addr} {xs : List V} (h : H b = some (.tup xs)) : b ≠ r := by
  obtain ⟨_, _, _, h1, _⟩ := hr
  exact ne_of h h1 (by intro z; cases z)
theorem Drawn.tup (a : Drawn K S r H H') (hr : RowOk K S H r) {b : Addr} {xs : List V} (h : H b = some (.tup xs)) : H' b = some (.tup xs) := a.at (hr.ne h) h
end

/-! ### short words -/
section
variable {X : Cx}
theorem pcat {a b : Expr} {ta tb : TE} {pos : Pos} (ha : PE X a ta) (hb : PE X b tb) : PE X (.BinOp a .Add b pos) (tOp rCat ta tb) := pe_op op_cat ha hb
theorem padd {a b : Expr} {ta tb : TE} {pos : Pos} (ha : PE X a ta) (hb : PE X b tb) : PE X (.BinOp a .Add b pos) (tOp (rI0 fun i j => .int (i + j)) ta tb) := pe_op op_add ha hb
theorem psub {a b : Expr} {ta tb : TE} {pos : Pos} (ha : PE X a ta) (hb : PE X b tb) : PE X (.BinOp a .Sub b pos) (tOp (rI0 fun i j => .int (i - j)) ta tb) := pe_op op_sub ha hb
theorem pmod {a b : Expr} {ta tb : TE} {pos : Pos} (ha : PE X a ta) (hb : PE X b tb) : PE X (.BinOp a .Mod b pos) (tOp (rI (fun _ j => 0 < j) fun i j => .int (i % j)) ta tb) := pe_op op_mod ha hb
def rInt1 : List V → Hp → VK → Prop := fun xs H Q => (∃ i, xs = [.int i] ∧ Q (.int i) H) ∨ ∃ k, xs = [.bl k] ∧ Q (.int (if k then 1 else 0)) H
theorem pint {e : Expr} {te : TE} {p pos : Pos} (m : X.mg "int" = none) (h : PE X e te) (hg : Gl X "int" := by rfl) (hs1 : starEach [e] X.env = (false, eval e X.env) :: starEach [] X.env := by rfl) (hp1 : (backTo pos (starEach [] X.env)).any (·.1) = false := by rfl) : PE X (.Call (.Name "int" p) [e] [] pos) (tCB rInt1 (tCons te tNil)) :=
  pe_callTy call_int1 hg m (by decide +kernel) (pa_cons h pa_nil hs1) (by decide) (by decide) hs1 hp1
theorem pix {a : Expr} {ta : TE} {b : Expr} {tb : TE} {pos : Pos} (ha : PE X a ta) (hb : PE X b tb) (hs : PlainIx b := by exact fun _ _ => rfl) : PE X (.Subscript a b pos) (tOp (rIxL X.K) ta tb) := pe_ix ix_list ha hb hs
theorem pixT {a : Expr} {ta : TE} {b : Expr} {tb : TE} {pos : Pos} (ha : PE X a ta) (hb : PE X b tb) (hs : PlainIx b := by exact fun _ _ => rfl) : PE X (.Subscript a b pos) (tOp (rIxT X.K) ta tb) := pe_ix ix_tup ha hb hs
def rLenS (K : PySem.W.Frag) : List V → Hp → VK → Prop := fun xs H Q => ∃ p ys, xs = [.ref p] ∧ (SqL K H p ys ∨ SqT K H p ys) ∧ Q (.int ys.length) H
theorem plen {e : Expr} {te : TE} {p pos : Pos} (m : X.mg "len" = none) (h : PE X e te) (hg : Gl X "len" := by rfl) (hs1 : starEach [e] X.env = (false, eval e X.env) :: starEach [] X.env := by rfl) (hp1 : (backTo pos (starEach [] X.env)).any (·.1) = false := by rfl) : PE X (.Call (.Name "len" p) [e] [] pos) (tCB (rLenS X.K) (tCons te tNil)) :=
  pe_callB call_len_seq hg m PySem.boot_len (pa_cons h pa_nil hs1) (by decide) (by decide) hs1 hp1
theorem sapp {a e : Expr} {ta te : TE} {p1 p2 p3 : Pos} (ha : PE X a ta) (he : PE X e te) (hb : attributeBase a "append" X.env (eval a X.env) = eval a X.env := by rfl)
    (hf : ((backTo p2 (starEach (e :: []) X.env)).all (fun x => !x.1) && (backToKw p2 (keywordEach [] X.env)).all (fun x => x.1.isSome) && decide ((e :: []).length + ([] : List Keyword).length + (if ([] : List Keyword).isEmpty then 0 else 1) < 30)) = true := by rfl)
    (hl : (p1.endLine == p2.line) = true := by rfl) (hs1 : starEach [e] X.env = (false, eval e X.env) :: starEach [] X.env := by rfl) (hp1 : (backTo p2 (starEach [] X.env)).any (·.1) = false := by rfl) : PS X (.Expr (.Call (.Attribute a "append" p1) [e] [] p2) p3) (tDrop (tBM X.K "list" rAppend ta (tCons te tNil))) :=
  ps_expr (pe_bm PySem.F.plainAttrs_list PySem.F.slot_list_append PySem.F.type_list_append mt_append ha (pa_cons he pa_nil hs1) hb hf hl hs1 hp1)
end
theorem at0 {α : Type} {x : α} {xs : List α} : atI (x :: xs) 0 = some x := atI_nat (j := 0) rfl
theorem at1 {α : Type} {x y : α} {xs : List α} : atI (x :: y :: xs) 1 = some y := atI_nat (j := 1) rfl
theorem at2 {α : Type} {x y z : α} {xs : List α} : atI (x :: y :: z :: xs) 2 = some z := atI_nat (j := 2) rfl
theorem at3 {α : Type} {x y z u : α} {xs : List α} : atI (x :: y :: z :: u :: xs) 3 = some u := atI_nat (j := 3) rfl
theorem szl (n : Nat) (h : n ≤ 16777216 := by first | decide | omega | simp) : n ≤ sizeLine := by rw [sizeLine_eq]; exact h
end SK
/-! the program's text by places -/
namespace SK
open PySem PySem.Spec PyProof.Rows L2
def topS (i : Nat) : Stmt := PySem.Challenge.pw_strokeonce_k14_whole_variants.main.body.getD i (.Pass ⟨0, 0, 0, 0⟩)
def clsB : Stmt → List Stmt
  | .ClassDef (body := b) .. => b
  | _ => []
abbrev c_StrokeError : Stmt := topS 1
abbrev c_BadBook : Stmt := topS 2
abbrev s_BadBook_init : Stmt := (clsB c_BadBook).getD 0 (.Pass ⟨0, 0, 0, 0⟩)
abbrev n_BadBook_init : List Str := ["self", "letter"]
abbrev jp_BadBook_init : Pos := ⟨7, 25, 7, 54⟩
abbrev c_BadNumber : Stmt := topS 3
abbrev c_Branching : Stmt := topS 4
abbrev c_TooMany : Stmt := topS 5
abbrev s_TooMany_init : Stmt := (clsB c_TooMany).getD 0 (.Pass ⟨0, 0, 0, 0⟩)
abbrev n_TooMany_init : List Str := ["self", "most"]
abbrev jp_TooMany_init : Pos := ⟨16, 25, 16, 44⟩
abbrev s_is_integer : Stmt := topS 10
abbrev n_is_integer : List Str := ["value"]
theorem sc_is_integer : FnScope n_is_integer ["value"] (defScope s_is_integer) := ⟨rfl, rfl, rfl, by decide +kernel, rfl, by decide +kernel, by decide +kernel⟩
abbrev s_is_word : Stmt := topS 11
abbrev n_is_word : List Str := ["value", "many", "letters", "depth", "part"]
theorem sc_is_word : FnScope n_is_word ["value", "many"] (defScope s_is_word) := ⟨rfl, rfl, rfl, by decide +kernel, rfl, by decide +kernel, by decide +kernel⟩
abbrev s_has_book_form : Stmt := topS 12
abbrev n_has_book_form : List Str := ["value", "words"]
theorem sc_has_book_form : FnScope n_has_book_form ["value"] (defScope s_has_book_form) := ⟨rfl, rfl, rfl, by decide +kernel, rfl, by decide +kernel, by decide +kernel⟩
abbrev s_check_book : Stmt := topS 13
abbrev n_check_book : List Str := ["value", "words", "start", "letter", "word"]
theorem sc_check_book : FnScope n_check_book ["value"] (defScope s_check_book) := ⟨rfl, rfl, rfl, by decide +kernel, rfl, by decide +kernel, by decide +kernel⟩
abbrev s_check_number : Stmt := topS 14
abbrev n_check_number : List Str := ["value", "least", "most"]
theorem sc_check_number : FnScope n_check_number ["value", "least", "most"] (defScope s_check_number) := ⟨rfl, rfl, rfl, by decide +kernel, rfl, by decide +kernel, by decide +kernel⟩
abbrev s_check_age : Stmt := topS 15
abbrev n_check_age : List Str := ["value", "most"]
theorem sc_check_age : FnScope n_check_age ["value", "most"] (defScope s_check_age) := ⟨rfl, rfl, rfl, by decide +kernel, rfl, by decide +kernel, by decide +kernel⟩
abbrev s_check_book_and_age : Stmt := topS 16
abbrev n_check_book_and_age : List Str := ["book", "age", "most"]
theorem sc_check_book_and_age : FnScope n_check_book_and_age ["book", "age", "most"] (defScope s_check_book_and_age) := ⟨rfl, rfl, rfl, by decide +kernel, rfl, by decide +kernel, by decide +kernel⟩
abbrev s_letters_in : Stmt := topS 18
abbrev n_letters_in : List Str := ["parts", "part"]
theorem sc_letters_in : FnScope n_letters_in ["parts"] (defScope s_letters_in) := ⟨rfl, rfl, rfl, by decide +kernel, rfl, by decide +kernel, by decide +kernel⟩
abbrev s_next_letters : Stmt := topS 19
abbrev n_next_letters : List Str := ["words", "letters", "letter", "part"]
theorem sc_next_letters : FnScope n_next_letters ["words", "letters"] (defScope s_next_letters) := ⟨rfl, rfl, rfl, by decide +kernel, rfl, by decide +kernel, by decide +kernel⟩
abbrev s_rotate : Stmt := topS 22
abbrev n_rotate : List Str := ["x", "y", "quarters"]
theorem sc_rotate : FnScope n_rotate ["x", "y", "quarters"] (defScope s_rotate) := ⟨rfl, rfl, rfl, by decide +kernel, rfl, by decide +kernel, by decide +kernel⟩
abbrev s_lay : Stmt := topS 23
abbrev n_lay : List Str := ["word", "ends", "pen", "x", "y", "heading", "begun", "laid", "part", "ahead", "aside", "turned", "right", "up"]
theorem sc_lay : FnScope n_lay ["word", "ends", "pen"] (defScope s_lay) := ⟨rfl, rfl, rfl, by decide +kernel, rfl, by decide +kernel, by decide +kernel⟩
abbrev s_lay_strokes : Stmt := topS 24
abbrev n_lay_strokes : List Str := ["word", "pen", "ends", "part"]
theorem sc_lay_strokes : FnScope n_lay_strokes ["word", "pen"] (defScope s_lay_strokes) := ⟨rfl, rfl, rfl, by decide +kernel, rfl, by decide +kernel, by decide +kernel⟩
abbrev s_count_letters : Stmt := topS 27
abbrev n_count_letters : List Str := ["word", "many", "letter"]
theorem sc_count_letters : FnScope n_count_letters ["word", "many"] (defScope s_count_letters) := ⟨rfl, rfl, rfl, by decide +kernel, rfl, by decide +kernel, by decide +kernel⟩
abbrev s_next_counts : Stmt := topS 28
abbrev n_next_counts : List Str := ["counts", "table", "after", "count", "row", "letter", "each"]
theorem sc_next_counts : FnScope n_next_counts ["counts", "table"] (defScope s_next_counts) := ⟨rfl, rfl, rfl, by decide +kernel, rfl, by decide +kernel, by decide +kernel⟩
abbrev s_check_size : Stmt := topS 29
abbrev n_check_size : List Str := ["words", "start", "age", "many", "table", "counts", "size", "_", "word", "count"]
theorem sc_check_size : FnScope n_check_size ["words", "start", "age"] (defScope s_check_size) := ⟨rfl, rfl, rfl, by decide +kernel, rfl, by decide +kernel, by decide +kernel⟩
abbrev s_letters_by_age : Stmt := topS 30
abbrev n_letters_by_age : List Str := ["words", "start", "age", "rows", "_"]
theorem sc_letters_by_age : FnScope n_letters_by_age ["words", "start", "age"] (defScope s_letters_by_age) := ⟨rfl, rfl, rfl, by decide +kernel, rfl, by decide +kernel, by decide +kernel⟩
abbrev s_replace_letters : Stmt := topS 31
abbrev n_replace_letters : List Str := ["word", "grown", "parts", "part"]
theorem sc_replace_letters : FnScope n_replace_letters ["word", "grown"] (defScope s_replace_letters) := ⟨rfl, rfl, rfl, by decide +kernel, rfl, by decide +kernel, by decide +kernel⟩
abbrev s_word_at : Stmt := topS 32
abbrev n_word_at : List Str := ["book", "age", "words", "start", "rows", "grown", "letters", "letter"]
theorem sc_word_at : FnScope n_word_at ["book", "age"] (defScope s_word_at) := ⟨rfl, rfl, rfl, by decide +kernel, rfl, by decide +kernel, by decide +kernel⟩
abbrev s_draw : Stmt := topS 33
abbrev n_draw : List Str := ["word", "strokes", "_"]
theorem sc_draw : FnScope n_draw ["word"] (defScope s_draw) := ⟨rfl, rfl, rfl, by decide +kernel, rfl, by decide +kernel, by decide +kernel⟩
abbrev s_drawing : Stmt := topS 34
abbrev n_drawing : List Str := ["book", "age"]
theorem sc_drawing : FnScope n_drawing ["book", "age"] (defScope s_drawing) := ⟨rfl, rfl, rfl, by decide +kernel, rfl, by decide +kernel, by decide +kernel⟩
abbrev s_turned_over : Stmt := topS 38
abbrev n_turned_over : List Str := ["word", "part"]
theorem sc_turned_over : FnScope n_turned_over ["word"] (defScope s_turned_over) := ⟨rfl, rfl, rfl, by decide +kernel, rfl, by decide +kernel, by decide +kernel⟩
abbrev s_mirrored : Stmt := topS 39
abbrev n_mirrored : List Str := ["book", "words", "start", "word"]
theorem sc_mirrored : FnScope n_mirrored ["book"] (defScope s_mirrored) := ⟨rfl, rfl, rfl, by decide +kernel, rfl, by decide +kernel, by decide +kernel⟩
abbrev s_backward : Stmt := topS 40
abbrev n_backward : List Str := ["book", "words", "start", "word"]
theorem sc_backward : FnScope n_backward ["book"] (defScope s_backward) := ⟨rfl, rfl, rfl, by decide +kernel, rfl, by decide +kernel, by decide +kernel⟩
abbrev s_sped : Stmt := topS 41
abbrev n_sped : List Str := ["book", "many", "words", "start", "grown", "_", "word"]
theorem sc_sped : FnScope n_sped ["book", "many"] (defScope s_sped) := ⟨rfl, rfl, rfl, by decide +kernel, rfl, by decide +kernel, by decide +kernel⟩
abbrev s_law_taken : Stmt := topS 43
abbrev n_law_taken : List Str := ["row", "many", "found", "cell"]
theorem sc_law_taken : FnScope n_law_taken ["row", "many"] (defScope s_law_taken) := ⟨rfl, rfl, rfl, by decide +kernel, rfl, by decide +kernel, by decide +kernel⟩
abbrev s_law_pick : Stmt := topS 44
abbrev n_law_pick : List Str := ["row", "things"]
theorem sc_law_pick : FnScope n_law_pick ["row", "things"] (defScope s_law_pick) := ⟨rfl, rfl, rfl, by decide +kernel, rfl, by decide +kernel, by decide +kernel⟩
abbrev s_law_branched : Stmt := topS 45
abbrev n_law_branched : List Str := ["row", "word", "letters", "found", "at", "turn"]
theorem sc_law_branched : FnScope n_law_branched ["row", "word", "letters"] (defScope s_law_branched) := ⟨rfl, rfl, rfl, by decide +kernel, rfl, by decide +kernel, by decide +kernel⟩
abbrev s_law_word : Stmt := topS 46
abbrev n_law_word : List Str := ["row", "letters", "most", "found", "turn"]
theorem sc_law_word : FnScope n_law_word ["row", "letters", "most"] (defScope s_law_word) := ⟨rfl, rfl, rfl, by decide +kernel, rfl, by decide +kernel, by decide +kernel⟩
abbrev s_law_book : Stmt := topS 47
abbrev n_law_book : List Str := ["row", "letters", "words", "k"]
theorem sc_law_book : FnScope n_law_book ["row"] (defScope s_law_book) := ⟨rfl, rfl, rfl, by decide +kernel, rfl, by decide +kernel, by decide +kernel⟩
abbrev s_law_kit : Stmt := topS 48
abbrev n_law_kit : List Str := ["row", "dragon", "square", "levy", "wide"]
theorem sc_law_kit : FnScope n_law_kit ["row"] (defScope s_law_kit) := ⟨rfl, rfl, rfl, by decide +kernel, rfl, by decide +kernel, by decide +kernel⟩
abbrev s_law_even_word : Stmt := topS 49
abbrev n_law_even_word : List Str := ["row", "letters", "move", "steps", "way", "found", "heading", "step", "many"]
theorem sc_law_even_word : FnScope n_law_even_word ["row", "letters", "move"] (defScope s_law_even_word) := ⟨rfl, rfl, rfl, by decide +kernel, rfl, by decide +kernel, by decide +kernel⟩
abbrev s_law_even_book : Stmt := topS 50
abbrev n_law_even_book : List Str := ["row", "letters", "move", "words", "start", "k"]
theorem sc_law_even_book : FnScope n_law_even_book ["row"] (defScope s_law_even_book) := ⟨rfl, rfl, rfl, by decide +kernel, rfl, by decide +kernel, by decide +kernel⟩
abbrev s_law_alike : Stmt := topS 51
abbrev n_law_alike : List Str := ["found", "due", "k"]
theorem sc_law_alike : FnScope n_law_alike ["found", "due"] (defScope s_law_alike) := ⟨rfl, rfl, rfl, by decide +kernel, rfl, by decide +kernel, by decide +kernel⟩
abbrev s_law_grown : Stmt := topS 52
abbrev n_law_grown : List Str := ["book", "age", "word", "turn", "found", "item"]
theorem sc_law_grown : FnScope n_law_grown ["book", "age"] (defScope s_law_grown) := ⟨rfl, rfl, rfl, by decide +kernel, rfl, by decide +kernel, by decide +kernel⟩
abbrev s_law_age : Stmt := topS 53
abbrev n_law_age : List Str := ["book", "most", "found", "item"]
theorem sc_law_age : FnScope n_law_age ["book", "most"] (defScope s_law_age) := ⟨rfl, rfl, rfl, by decide +kernel, rfl, by decide +kernel, by decide +kernel⟩
abbrev s_law_unit : Stmt := topS 54
abbrev n_law_unit : List Str := ["heading"]
theorem sc_law_unit : FnScope n_law_unit ["heading"] (defScope s_law_unit) := ⟨rfl, rfl, rfl, by decide +kernel, rfl, by decide +kernel, by decide +kernel⟩
abbrev s_law_drawn : Stmt := topS 55
abbrev n_law_drawn : List Str := ["word", "x", "y", "heading", "found", "stands", "item"]
theorem sc_law_drawn : FnScope n_law_drawn ["word"] (defScope s_law_drawn) := ⟨rfl, rfl, rfl, by decide +kernel, rfl, by decide +kernel, by decide +kernel⟩
abbrev s_law_quarter : Stmt := topS 56
abbrev n_law_quarter : List Str := ["place", "many", "x", "y"]
theorem sc_law_quarter : FnScope n_law_quarter ["place", "many"] (defScope s_law_quarter) := ⟨rfl, rfl, rfl, by decide +kernel, rfl, by decide +kernel, by decide +kernel⟩
abbrev s_law : Stmt := topS 57
abbrev n_law : List Str := ["script", "row", "book", "turn", "other", "plain", "back", "error", "age", "strokes", "end", "x", "y", "heading", "letter", "due", "found", "unit", "way", "many", "told", "words", "item", "word"]
theorem sc_law : FnScope n_law ["script"] (defScope s_law) := ⟨rfl, rfl, rfl, by decide +kernel, rfl, by decide +kernel, by decide +kernel⟩
end SK
namespace SK
open PySem PySem.Spec PyProof.Rows L2
def spTaken (K : PySem.W.Frag) : Sp := fun vs H Q _ => ∃ (r : Addr) (S : Scr) (many : Nat), vs = [.ref r, .int many] ∧ RowOk K S H r ∧ 1 ≤ many ∧ (many < 1073741824 ∨ many.log2 < 9000) ∧
  ∀ (H' : Hp) (k : Nat), Drawn K S r H H' → k < many → Q (.int k) H'
theorem mod_nat (i : Int) (m : Nat) (h : 1 ≤ m) : ∃ k : Nat, i % (m : Int) = (k : Int) ∧ k < m := by
  have h1 : (0 : Int) < m := by omega
  have a := Int.emod_nonneg i (show (m : Int) ≠ 0 by omega)
  have b := Int.emod_lt_of_pos i h1
  exact ⟨(i % (m : Int)).toNat, by omega, by omega⟩
section
variable {P : Program} {w : World} {K : PySem.W.Frag} {mg : Str → Option Value} {base : Heap}
theorem ok_taken {f : Addr} {fd : FuncData} {k : Nat} (F : Fun K "_law_taken" "_law_taken" s_law_taken f fd) (mi : mg "int" = none) (ml : mg "len" = none) : FnOk P w K mg base CX0 (k + 1) f fd ["row", "many"] (spTaken K) := by
  refine F.ok sc_law_taken (fun vs H Q E h => ?_) (fun cdv A outer s H vs Q E hr h => ?_)
  · obtain ⟨r, S, many, rfl, _⟩ := h
    rfl
  · obtain ⟨r, ⟨a, ns⟩, many, rfl, ⟨i, st, c, h1, h2, h3, h4, h5⟩, hm1, hm2, q⟩ := h
    have nd := sc_law_taken.nd
    refine ⟨_, pss_cons (ps_if (pt_cmpR op_gt (pix (pv 0) pe_int) pe_int (nomark _))
        (pss_cons (ps_set (i := 2) nd rfl (.inl rfl) (pmod (pint mi (pix (pv 0) pe_int)) (pv 1)))
          (pss_cons (ps_asg (pe_op op_fdivW (pix (pv 0) pe_int) (pv 1)) (pg_sub (pv 0) pe_int set_list)) (pss_one (ps_ret (pv 2))))) pss_nil)
      (pss_cons (ps_asg (padd (pix (pv 0) pe_int) pe_int) (pg_sub (pv 0) pe_int set_list))
      (pss_cons (ps_if (pt_cmpR op_gt (pix (pv 0) pe_int) (plen ml (pix (pv 0) pe_int)) (nomark _))
        (pss_cons (ps_asg (pmod (pint mi (padd (pe_op op_mul (pix (pv 0) pe_int) pe_int) pe_int)) pe_int) (pg_sub (pv 0) pe_int set_list))
          (pss_one (ps_ret (pmod (pint mi (pe_op op_fdiv (pix (pv 0) pe_int) pe_int)) (pv 1))))) pss_nil)
      (pss_cons (ps_set (i := 3) nd rfl (.inl rfl) (pix (pix (pv 0) pe_int) (psub (pix (pv 0) pe_int) pe_int)))
      (pss_cons (ps_asg (pmod (pint mi (padd (padd (pe_op op_mul (pix (pv 0) pe_int) pe_int) (pv 3)) pe_int)) pe_int) (pg_sub (pv 0) pe_int set_list))
      (pss_cons (ps_if (pt_cmpR op_ge (pv 3) (pe_op op_pow pe_int pe_int) (nomark _))
        (pss_one (ps_asg (pe_op op_fdivW (pv 3) (pv 1)) (pg_sub (pv 0) pe_int set_list))) pss_nil)
      (pss_one (ps_ret (pmod (pint mi (pv 3)) (pv 1))))))))), ?_⟩
    change H r = some (.lst [.ref a, .int i, .int st, .int c]) at h1
    change SqL K H a (ns.map V.int) at h2
    change a ≠ r at h4
    change ns.length ≤ 63 at h5
    have m0 : (0 : Int) < many := by omega
    have hm9 : (many : Int).natAbs.log2 < 9000 := by
      rw [Int.natAbs_natCast]
      rcases hm2 with h | h
      · have := (Nat.log2_lt (n := many) (k := 30) (by omega)).mpr (by omega)
        omega
      · exact h
    have nl : ∀ (xs : List V) (ns : List Int), (V.ref a :: xs) ≠ ns.map V.int := fun xs ns e => by cases ns <;> cases e
    -- a row with other numbers
    have row : ∀ (i s c : Int), 0 ≤ i → RowOk K (a, ns) (upd H r (.lst [.ref a, .int i, .int s, .int c])) r := fun i s c h => by
      refine ⟨i, s, c, upd_same, ?_, h, h4, h5⟩
      rcases h2 with (h | ⟨o, h⟩) | h
      · exact .inl (.inl (by rw [upd_ne h4]; exact h))
      · exact .inl (.inr ⟨o, by rw [upd_ne h4]; exact h⟩)
      · exact .inr h
    have dr : ∀ (i s c : Int), 0 ≤ i → Drawn K (a, ns) r H (upd H r (.lst [.ref a, .int i, .int s, .int c])) := fun i s c h => ⟨SameX.refl.at, row i s c h⟩
    refine ⟨.ref r, rfl, r, _, _, _, rfl, rfl, SqL.of h1, at3, _, _, rfl, rfl, _, rfl, ite2 (fun e => ?_) (fun e => ?_)⟩
    · refine ⟨.ref r, rfl, r, _, _, _, rfl, rfl, SqL.of h1, at3, .inl ⟨_, rfl, _, rfl, _, _, rfl, rfl, m0, ?_⟩⟩
      refine ⟨.ref r, rfl, r, _, _, _, rfl, rfl, SqL.of h1, at3, _, rfl, _, _, rfl, rfl, ⟨m0, hm9⟩, .ref r, rfl, r, _, _, 3, rfl, rfl, h1, rfl, _, rfl, ?_⟩
      obtain ⟨k, e1, e2⟩ := mod_nat c many hm1
      show Q (V.int (c % (many : Int))) _
      rw [e1]
      exact q _ k (dr _ _ _ h3) e2
    · refine ⟨.ref r, rfl, r, _, _, _, rfl, rfl, SqL.of h1, at1, _, _, rfl, rfl, .ref r, rfl, r, _, _, 1, rfl, rfl, h1, rfl, ?_⟩
      have g1 : (upd H r (.lst [.ref a, .int (i + 1), .int st, .int c])) r = some (.lst [.ref a, .int (i + 1), .int st, .int c]) := upd_same
      have sa : ∀ (i s c : Int), SqL K (upd H r (.lst [.ref a, .int i, .int s, .int c])) a (ns.map V.int) := fun i s c => by
        rcases h2 with (h | ⟨o, h⟩) | h
        · exact .inl (.inl (by rw [upd_ne h4]; exact h))
        · exact .inl (.inr ⟨o, by rw [upd_ne h4]; exact h⟩)
        · exact .inr h
      refine ⟨.ref r, rfl, r, _, _, _, rfl, rfl, SqL.of g1, at1, .ref r, rfl, r, _, _, _, rfl, rfl, SqL.of g1, at0, a, _, rfl, .inl (sa _ _ _), _, _, rfl, rfl, _, rfl, ite2 (fun e => ?_) (fun e2 => ?_)⟩
      · refine ⟨.ref r, rfl, r, _, _, _, rfl, rfl, SqL.of g1, at2, _, _, rfl, rfl, .inr (by decide), _, _, rfl, rfl, .inl ⟨_, rfl, _, _, rfl, rfl, (show (0 : Int) < 2147483647 by decide), .ref r, rfl, r, _, _, 2, rfl, rfl, g1, rfl, ?_⟩⟩
        rw [upd_upd]
        refine ⟨.ref r, rfl, r, _, _, _, rfl, rfl, SqL.of upd_same, at2, _, _, rfl, rfl, ⟨by decide, by decide⟩, .inl ⟨_, rfl, _, rfl, _, _, rfl, rfl, m0, ?_⟩⟩
        obtain ⟨k, e1, e2⟩ := mod_nat ((st * 48271 + 11) % 2147483647 / 7) many hm1
        show Q (V.int ((st * 48271 + 11) % 2147483647 / 7 % (many : Int))) _
        rw [e1]
        exact q _ k (dr _ _ _ (by omega)) e2
      · have e3 : ¬ ((ns.length : Int) < i + 1) := by
          have e2' := e2
          simp only [List.length_map] at e2'
          exact fun z => e2' (decide_eq_true z)
        have hlt : i.toNat < ns.length := by omega
        have gi : atI (ns.map V.int) (i + 1 - 1) = some (.int ns[i.toNat]) := by
          have e4 : i + 1 - 1 = ((i.toNat : Nat) : Int) := by omega
          rw [e4]
          refine atI_nat ?_
          rw [List.getElem?_map, List.getElem?_eq_getElem hlt]
          rfl
        generalize ns[i.toNat] = cell at gi
        refine ⟨.ref r, rfl, r, _, _, _, rfl, rfl, SqL.of g1, at0, .ref r, rfl, r, _, _, _, rfl, rfl, SqL.of g1, at1, _, _, rfl, rfl, a, _, _, _, rfl, rfl, sa _ _ _, gi, ?_⟩
        refine ⟨.ref r, rfl, r, _, _, _, rfl, rfl, SqL.of g1, at2, _, _, rfl, rfl, .inr (by decide), _, rfl, _, _, rfl, rfl, _, _, rfl, rfl, .inl ⟨_, rfl, _, _, rfl, rfl, (show (0 : Int) < 2147483647 by decide), .ref r, rfl, r, _, _, 2, rfl, rfl, g1, rfl, ?_⟩⟩
        rw [upd_upd]
        refine ⟨_, rfl, _, _, rfl, rfl, ⟨by decide, by decide, by decide⟩, _, _, rfl, rfl, _, rfl, ite2 (fun e => ?_) (fun e => ?_)⟩
        · refine ⟨_, rfl, _, rfl, _, _, rfl, rfl, ⟨m0, hm9⟩, .ref r, rfl, r, _, _, 3, rfl, rfl, upd_same, rfl, ?_⟩
          rw [upd_upd]
          refine ⟨_, rfl, .inl ⟨_, rfl, _, rfl, _, _, rfl, rfl, m0, ?_⟩⟩
          obtain ⟨k, e1, e2⟩ := mod_nat cell many hm1
          show Q (V.int (cell % (many : Int))) _
          rw [e1]
          exact q _ k (dr _ _ _ (by omega)) e2
        · refine ⟨_, rfl, .inl ⟨_, rfl, _, rfl, _, _, rfl, rfl, m0, ?_⟩⟩
          obtain ⟨k, e1, e2⟩ := mod_nat cell many hm1
          show Q (V.int (cell % (many : Int))) _
          rw [e1]
          exact q _ k (dr _ _ _ (by omega)) e2
end
end SK
namespace SK
open PySem PySem.Spec PyProof.Rows L2
/-- a def that stands in the module under its name and keeps its promise, not raising -/
structure Got (P : Program) (w : World) (K : PySem.W.Frag) (mg : Str → Option Value) (base : Heap) (x : Str) (k : Nat) (ps : List Str) (sp : Sp) : Prop where
  ex : ∃ (f : Addr) (fd : FuncData), FnOk P w K mg base CX0 k f fd ps sp ∧ mg x = some (.ref f) ∧ PySem.W.keepIn K (.ref f) = true ∧ Binds K fd ps []
theorem Got.mono {P : Program} {w : World} {K : PySem.W.Frag} {mg : Str → Option Value} {base : Heap} {x : Str} {j k : Nat} {ps : List Str} {sp : Sp} (g : Got P w K mg base x j ps sp) (h : j ≤ k) : Got P w K mg base x k ps sp := by
  obtain ⟨f, fd, F, a, b, c⟩ := g.ex
  exact ⟨f, fd, F.mono h, a, b, c⟩
theorem pcall {X : Cx} {x : Str} {k : Nat} {ps : List Str} {sp : Sp} {e : Expr} {es : List Expr} {t : TA} {p pos : Pos} (G : Got X.prog X.w X.K X.mg X.base x k ps sp) (hr : Room k X.A) (ha : PA X (e :: es) t) (hg : Gl X x := by rfl)
    (hdb : (x == ("__debug__" : Str)) = false := by decide)
    (he : starEach (e :: es) X.env = (false, eval e X.env) :: starEach es X.env := by rfl) (hpl : (backTo pos (starEach es X.env)).any (·.1) = false := by rfl) : PE X (.Call (.Name x p) (e :: es) [] pos) (tCall sp [] E0 t) := by
  obtain ⟨f, fd, F, a, b, c⟩ := G.ex
  exact pe_call F hr hg a b c .nil pass0 ha hdb he hpl
def spPick (K : PySem.W.Frag) : Sp := fun vs H Q _ => ∃ (r q : Addr) (S : Scr) (xs : List V), vs = [.ref r, .ref q] ∧ RowOk K S H r ∧ q ≠ r ∧ H q = some (.lst xs) ∧ 1 ≤ xs.length ∧ xs.length < 1073741824 ∧
  ∀ (H' : Hp) (k : Nat) (v : V), Drawn K S r H H' → xs[k]? = some v → Q v H'
section
variable {P : Program} {w : World} {K : PySem.W.Frag} {mg : Str → Option Value} {base : Heap}
theorem ok_pick {f : Addr} {fd : FuncData} {k : Nat} (F : Fun K "_law_pick" "_law_pick" s_law_pick f fd) (G : Got P w K mg base "_law_taken" k ["row", "many"] (spTaken K)) (ml : mg "len" = none) : FnOk P w K mg base CX0 (k + 1) f fd ["row", "things"] (spPick K) := by
  refine F.ok sc_law_pick (fun vs H Q E h => ?_) (fun cdv A outer s H vs Q E hr h => ?_)
  · obtain ⟨r, q, S, xs, rfl, _⟩ := h
    rfl
  · obtain ⟨r, q, S, xs, rfl, hR, hq, hx, h1, h2, hQ⟩ := h
    refine ⟨_, pss_one (ps_ret (pix (pv 1) (pcall G hr (pa_cons (pv 0) (pa_cons (plen ml (pv 1)) pa_nil))))), ?_⟩
    refine ⟨_, rfl, _, rfl, .ref q, rfl, q, xs, rfl, .inl (SqL.of hx), r, S, xs.length, rfl, hR, h1, .inl h2, fun H' k D hk => ?_⟩
    have hx' := D.at hq hx
    exact ⟨q, xs, k, _, rfl, rfl, SqL.of hx', atI_nat (List.getElem?_eq_getElem hk), hQ H' k _ D (List.getElem?_eq_getElem hk)⟩
end
end SK
namespace SK
open PySem PySem.Spec PyProof.Rows L2
/-! ### signs and words -/
inductive Sy where
  | l (k : Nat) | p | m | o | c
  deriving DecidableEq
def Sy.v : Sy → V
  | .l k => .int k
  | .p => .str "+"
  | .m => .str "-"
  | .o => .str "["
  | .c => .str "]"
abbrev wv (w : List Sy) : List V := w.map Sy.v
/-- how deep one stands behind a piece, none where a branch is ended that isn't begun -/
def nest : List Sy → Nat → Option Nat
  | [], d => some d
  | .o :: w, d => nest w (d + 1)
  | .c :: w, d => match d with
    | 0 => none
    | d + 1 => nest w d
  | _ :: w, d => nest w d
def isL : Sy → Bool
  | .l _ => true
  | _ => false
def isB : Sy → Bool
  | .o => true
  | .c => true
  | _ => false
def nL (w : List Sy) : Nat := (w.filter isL).length
theorem nL_app (a b : List Sy) : nL (a ++ b) = nL a + nL b := by unfold nL; rw [List.filter_append, List.length_append]
structure Flat (n L : Nat) (w : List Sy) : Prop where
  flat : ∀ s ∈ w, isB s = false
  lets : ∀ k, Sy.l k ∈ w → k < n
  has : w.any isL = true
  len : w.length ≤ L
  slim : w.length + 6 ≤ 8 * nL w
structure Good (n L : Nat) (w : List Sy) : Prop where
  nst : nest w 0 = some 0
  lets : ∀ k, Sy.l k ∈ w → k < n
  has : w.any isL = true
  len : w.length ≤ L
  slim : w.length + 6 ≤ 8 * nL w
theorem nest_app : ∀ (a b : List Sy) (d : Nat), nest (a ++ b) d = (nest a d).bind (nest b)
  | [], b, d => rfl
  | .l k :: a, b, d => nest_app a b d
  | .p :: a, b, d => nest_app a b d
  | .m :: a, b, d => nest_app a b d
  | .o :: a, b, d => nest_app a b (d + 1)
  | .c :: a, b, 0 => rfl
  | .c :: a, b, d + 1 => nest_app a b d
theorem nest_flat : ∀ (a : List Sy) (d : Nat), (∀ s ∈ a, isB s = false) → nest a d = some d
  | [], d, _ => rfl
  | .l k :: a, d, h => nest_flat a d fun s hs => h s (List.mem_cons_of_mem _ hs)
  | .p :: a, d, h => nest_flat a d fun s hs => h s (List.mem_cons_of_mem _ hs)
  | .m :: a, d, h => nest_flat a d fun s hs => h s (List.mem_cons_of_mem _ hs)
  | .o :: a, d, h => by have := h .o List.mem_cons_self; cases this
  | .c :: a, d, h => by have := h .c List.mem_cons_self; cases this
theorem Flat.good {n L M : Nat} {w : List Sy} (f : Flat n L w) (h : L ≤ M) : Good n M w := ⟨nest_flat w 0 f.flat, f.lets, f.has, Nat.le_trans f.len h, f.slim⟩
theorem Good.mono {n L M : Nat} {w : List Sy} (f : Good n L w) (h : L ≤ M) : Good n M w := ⟨f.nst, f.lets, f.has, Nat.le_trans f.len h, f.slim⟩
theorem Flat.mono {n L M : Nat} {w : List Sy} (f : Flat n L w) (h : L ≤ M) : Flat n M w := ⟨f.flat, f.lets, f.has, Nat.le_trans f.len h, f.slim⟩
/-- a branch put in -/
theorem Flat.branch {n L : Nat} {w t : List Sy} {at' k : Nat} (f : Flat n L w) (ht : ∀ s ∈ t, isB s = false ∧ isL s = false) (hl : t.length ≤ 1) (hk : k < n) : Good n (L + 4) (w.take at' ++ [.o] ++ t ++ [.l k] ++ [.c] ++ w.drop at') := by
  have f1 : ∀ s ∈ w.take at', isB s = false := fun s hs => f.flat s (List.mem_of_mem_take hs)
  have f2 : ∀ s ∈ w.drop at', isB s = false := fun s hs => f.flat s (List.mem_of_mem_drop hs)
  refine ⟨?_, ?_, ?_, ?_, ?_⟩
  · rw [nest_app, nest_app, nest_app, nest_app, nest_app, nest_flat _ 0 f1]
    show ((((nest t 1).bind (nest [.l k])).bind (nest [.c])).bind (nest (w.drop at'))) = some 0
    rw [nest_flat t 1 fun s hs => (ht s hs).1]
    show nest (w.drop at') 0 = some 0
    exact nest_flat _ 0 f2
  · intro j hj
    simp only [List.mem_append, List.mem_singleton] at hj
    rcases hj with ((((h | h) | h) | h) | h) | h
    · exact f.lets j (List.mem_of_mem_take h)
    · cases h
    · have := (ht _ h).2; cases this
    · cases h; exact hk
    · cases h
    · exact f.lets j (List.mem_of_mem_drop h)
  · simp only [List.any_append, List.any_cons, isL, Bool.true_or, Bool.or_true]
  · have := f.len
    have e : (w.take at').length + (w.drop at').length = w.length := by rw [← List.length_append, List.take_append_drop]
    simp only [List.length_append, List.length_singleton]
    omega
  · have := f.slim
    have e : (w.take at').length + (w.drop at').length = w.length := by rw [← List.length_append, List.take_append_drop]
    have e2 : nL (w.take at') + nL (w.drop at') = nL w := by rw [← nL_app, List.take_append_drop]
    have e3 : nL [Sy.l k] = 1 := rfl
    simp only [List.length_append, List.length_singleton, nL_app]
    omega
theorem cut_to (xs : List V) (k : Nat) : cutV xs none (some (k : Int)) = xs.take k := by
  unfold cutV
  rw [HT.sIx_none, show HT.sIx xs.length xs.length (some ((k : Nat) : Int)) = min k xs.length from HT.sIx_nat xs.length xs.length k, List.drop_zero, Nat.sub_zero]
  by_cases h : k ≤ xs.length
  · rw [Nat.min_eq_left h]
  · rw [Nat.min_eq_right (by omega), List.take_of_length_le (Nat.le_refl _), List.take_of_length_le (by omega)]
theorem cut_from (xs : List V) (k : Nat) : cutV xs (some (k : Int)) none = xs.drop k := by
  unfold cutV
  rw [HT.sIx_none, show HT.sIx xs.length 0 (some ((k : Nat) : Int)) = min k xs.length from HT.sIx_nat xs.length 0 k]
  by_cases h : k ≤ xs.length
  · rw [Nat.min_eq_left h]
    exact List.take_of_length_le (by rw [List.length_drop]; exact Nat.le_refl _)
  · rw [Nat.min_eq_right (by omega), Nat.sub_self, List.take_zero, List.drop_eq_nil_of_le (by omega)]
/-! ### words in the heap: frozen tuples without a dict -/
def WdAt (H : Hp) (a : Addr) (w : List Sy) : Prop := ∃ o : Obj, H a = some (.frz o (.tup (wv w))) ∧ o.dict = none ∧ o.slots = #[]
def NewT (xs : List V) (H : Hp) (Q : VK) : Prop := ∀ (H' : Hp) (p : Addr) (o : Obj), Same H H' → H p = none → H' p = some (.frz o (.tup xs)) → (o.dict = none ∧ o.slots = #[]) → Q (.ref p) H'
def NewW (w : List Sy) (H : Hp) (Q : VK) : Prop := ∀ (H' : Hp) (p : Addr), Same H H' → H p = none → WdAt H' p w → Q (.ref p) H'
theorem NewW.of {w : List Sy} {xs : List V} {H : Hp} {Q : VK} (h : NewW w H Q) (e : xs = wv w) : NewT xs H Q := fun H' p o s n e' d => h H' p s n ⟨o, by rw [← e]; exact e', d⟩
section
variable {K : PySem.W.Frag} {S : Scr} {H H' : Hp} {a r : Addr} {w : List Sy}
theorem WdAt.same (h : WdAt H a w) (s : Same H H') : WdAt H' a w := let ⟨o, e, d⟩ := h; ⟨o, s _ _ e, d⟩
theorem WdAt.sq (h : WdAt H a w) : SqT K H a (wv w) := let ⟨o, e, _⟩ := h; .inl (.inr ⟨o, e⟩)
theorem WdAt.ne (h : WdAt H a w) (hr : RowOk K S H r) : a ≠ r := by
  obtain ⟨o, e, _⟩ := h
  obtain ⟨_, _, _, h1, _⟩ := hr
  exact ne_of e h1 (by intro z; cases z)
theorem Drawn.wd (d : Drawn K S r H H') (hr : RowOk K S H r) (h : WdAt H a w) : WdAt H' a w := by
  have n := h.ne hr
  obtain ⟨o, e, hd⟩ := h
  exact ⟨o, d.at n e, hd⟩
end
def rTupF (K : PySem.W.Frag) : List V → Hp → VK → Prop := fun xs H Q => ∃ p ys, xs = [.ref p] ∧ SqL K H p ys ∧ NewT ys H Q
def tTupF (t : TA) : TE := fun σ H Q => t σ H fun xs H1 => xs.length ≤ sizeLine ∧ NewT xs H1 Q
section
variable {X : Cx}
theorem cr_tupF : CallR X (.type "tuple") (rTupF X.K) := by
  rintro pins s σ H xs us Q I r ⟨p, ys, rfl, hq, q⟩
  obtain ⟨u, rfl, rx⟩ := vals1 r
  cases rx
  obtain ⟨its, rv, pl, hz⟩ := I.list hq
  have hlen := rv.length
  refine call_tuple_list pl.isList (fun h1 kp => ?_) (by simp only [List.size_toArray]; omega)
  have I1 : Inv X pins σ H { s with heap := h1 } := I.kept (t' := s.toks) kp
  have fr := I1.hok.fresh (Nat.le_refl _)
  let ob : Obj := { cls := .type "tuple", data := .seq its.toArray }
  have at1 : (h1.push ob).get? h1.objs.size = some ob := Heap.get?_push_size _ rfl
  have I2 : Inv X pins σ (upd H h1.objs.size (.frz ob (.tup ys))) { s with heap := h1.push ob } := I1.laid (t' := s.toks) (fun b o e => Heap.get?_push_of_some _ e) (Nat.le_refl _) ⟨at1, hz, its, rv, ob, at1, rfl, _, rfl⟩
  exact ⟨.ref h1.objs.size, _, I2, rfl, q _ _ ob (same_upd fr) fr upd_same ⟨rfl, rfl⟩⟩
theorem ptupF {x1 : Nat} {es : List Expr} {t : TA} {pos : Pos} (h : PA X es t) : PE X (.Tuple es x1 pos) (tTupF t) := by
  refine ⟨fun pins s σ H Q I hq => wpAny_Tuple_spliced (thn (h.run pos pins s σ H _ I hq) fun us s1 ⟨xs, H1, I1, r, z, q⟩ => ⟨by rw [← r.length]; exact z, ?_⟩)⟩
  have fr := I1.hok.fresh (Nat.le_refl _)
  let ob : Obj := { cls := .type "tuple", data := .seq us.toArray }
  have at1 : (s1.heap.push ob).get? s1.heap.objs.size = some ob := Heap.get?_push_size _ rfl
  exact ⟨.ref _, upd H1 _ (.frz ob (.tup xs)), I1.laid (t' := s1.toks) (fun b u e => Heap.get?_push_of_some _ e) (Nat.le_refl _) ⟨at1, z, us, r, ob, at1, rfl, _, rfl⟩, rfl, q _ _ ob (same_upd fr) fr upd_same ⟨rfl, rfl⟩⟩
theorem ptupleF {e : Expr} {te : TE} {p pos : Pos} (m : X.mg "tuple" = none) (h : PE X e te) (hg : Gl X "tuple" := by rfl) (hs1 : starEach [e] X.env = (false, eval e X.env) :: starEach [] X.env := by rfl) (hp1 : (backTo pos (starEach [] X.env)).any (·.1) = false := by rfl) :
    PE X (.Call (.Name "tuple" p) [e] [] pos) (tCB (rTupF X.K) (tCons te tNil)) := pe_callTy cr_tupF hg m (by decide +kernel) (pa_cons h pa_nil hs1) (by decide) (by decide) hs1 hp1
end
end SK
namespace SK
open PySem PySem.Spec PyProof.Rows L2
/-- w with a branch put in, or w itself -/
def Br (w w' : List Sy) : Prop := w' = w ∨ ∃ (i : Nat) (ts : List Sy) (k : Nat), (∀ s ∈ ts, isB s = false ∧ isL s = false) ∧ w' = w.take i ++ [.o] ++ ts ++ [.l k] ++ [.c] ++ w.drop i
def spBranched (K : PySem.W.Frag) : Sp := fun vs H Q _ => ∃ (r t : Addr) (S : Scr) (n L : Nat) (w : List Sy), vs = [.ref r, .ref t, .int n] ∧ RowOk K S H r ∧ WdAt H t w ∧ Flat n L w ∧ L ≤ 36 ∧ 1 ≤ n ∧ n ≤ 8 ∧
  ∀ (H' : Hp) (p : Addr) (w' : List Sy), Drawn K S r H H' → WdAt H' p w' → Good n (L + 4) w' → Br w w' → Q (.ref p) H'
section
variable {P : Program} {w : World} {K : PySem.W.Frag} {mg : Str → Option Value} {base : Heap}
theorem ok_branched {f : Addr} {fd : FuncData} {k : Nat} (F : Fun K "_law_branched" "_law_branched" s_law_branched f fd) (GT : Got P w K mg base "_law_taken" k ["row", "many"] (spTaken K)) (GP : Got P w K mg base "_law_pick" k ["row", "things"] (spPick K))
    (ml : mg "len" = none) (mL : mg "list" = none) (mT : mg "tuple" = none) : FnOk P w K mg base CX0 (k + 1) f fd ["row", "word", "letters"] (spBranched K) := by
  refine F.ok sc_law_branched (fun vs H Q E h => ?_) (fun cdv A outer s H vs Q E hr h => ?_)
  · obtain ⟨r, t, S, n, L, w, rfl, _⟩ := h
    rfl
  · obtain ⟨r, t, S, n, L, w, rfl, hR, ht, hw, hL, hn1, hn2, q⟩ := h
    have nd := sc_law_branched.nd
    refine ⟨_, pss_cons (ps_set (i := 3) nd rfl (.inl rfl) (pe_callTy call_list_of (by rfl) mL (by decide +kernel) (pa_cons (pv 1) pa_nil)))
      (pss_cons (ps_if (pt_cmpR op_eq (pcall GT hr (pa_cons (pv 0) (pa_cons pe_int pa_nil))) pe_int (nomark _))
        (pss_cons (ps_par rfl nd (i := 4) (j := 5) rfl rfl (by decide) rfl rfl
            (pa_cons (pcall GT hr (pa_cons (pv 0) (pa_cons (padd (plen ml (pv 3)) pe_int) pa_nil)))
              (pa_cons (pcall GP hr (pa_cons (pv 0) (pa_cons (pe_lst (pa_cons (pe_lst (pa_cons pe_str pa_nil)) (pa_cons (pe_lst (pa_cons pe_str pa_nil)) (pa_cons (pe_lst pa_nil) pa_nil)))) pa_nil))) pa_nil)) (by rfl))
          (pss_one (ps_set (i := 3) nd rfl (.inl rfl) (pcat (pcat (pcat (pcat (pcat (pe_slice sl_list (pv 3) po_none (po_some (pv 4))) (pe_lst (pa_cons pe_str pa_nil))) (pv 5))
            (pe_lst (pa_cons (pcall GT hr (pa_cons (pv 0) (pa_cons (pv 2) pa_nil))) pa_nil))) (pe_lst (pa_cons pe_str pa_nil))) (pe_slice sl_list (pv 3) (po_some (pv 4)) po_none))))) pss_nil)
      (pss_one (ps_ret (ptupleF mT (pv 3))))), ?_⟩
    have lw := hw.len
    refine ⟨.ref t, rfl, t, _, rfl, .inr ht.sq, fun fo nfo => ?_⟩
    have D1 : Drawn K S r H (upd H fo (.lst (wv w))) := (Drawn.refl hR).new nfo
    have hfo : (upd H fo (.lst (wv w))) fo = some (.lst (wv w)) := upd_same
    have nfr : fo ≠ r := hR.there nfo
    generalize upd H fo (.lst (wv w)) = H1 at D1 hfo
    refine ⟨_, rfl, r, S, 3, rfl, D1.row, by decide, by decide, fun H2 k1 D2 _ => ?_⟩
    have hfo2 := D2.at nfr hfo
    refine ⟨rfl, _, rfl, ite2 (fun _ => ?_) (fun _ => ?_)⟩
    · refine ⟨_, rfl, _, rfl, fo, _, rfl, .inl (SqL.of hfo2), _, _, rfl, rfl, r, S, w.length + 1, ?_, D2.row, by omega, by omega, fun H3 at' D3 hat => ?_⟩
      · show [V.ref r, V.int (((wv w).length : Int) + 1)] = [V.ref r, V.int ((w.length + 1 : Nat) : Int)]
        rw [List.length_map]; rfl
      have hfo3 := D3.at nfr hfo2
      refine ⟨_, rfl, szl 1, fun l1 n1 => ⟨szl 1, fun l2 n2 => ⟨szl 0, fun l3 n3 => ⟨szl 3, fun l4 n4 => ?_⟩⟩⟩⟩
      have n12 : l1 ≠ l2 := (ne_of_none upd_same n2)
      have n13 : l1 ≠ l3 := ne_of_none (o := .lst [.str "+"]) (by rw [upd_ne n12, upd_same]) n3
      have n23 : l2 ≠ l3 := ne_of_none upd_same n3
      have e1 : (upd (upd (upd H3 l1 (.lst [.str "+"])) l2 (.lst [.str "-"])) l3 (.lst [])) l1 = some (.lst [.str "+"]) := by rw [upd_ne n13, upd_ne n12, upd_same]
      have e2 : (upd (upd (upd H3 l1 (.lst [.str "+"])) l2 (.lst [.str "-"])) l3 (.lst [])) l2 = some (.lst [.str "-"]) := by rw [upd_ne n23, upd_same]
      have e3 : (upd (upd (upd H3 l1 (.lst [.str "+"])) l2 (.lst [.str "-"])) l3 (.lst [])) l3 = some (.lst []) := upd_same
      have D3' : Drawn K S r H3 (upd (upd (upd H3 l1 (.lst [.str "+"])) l2 (.lst [.str "-"])) l3 (.lst [])) := (((Drawn.refl D3.row).new n1).new n2).new n3
      have nr1 : l1 ≠ r := D3.row.there n1
      have nr2 : l2 ≠ r := ((Drawn.refl D3.row).new n1).row.there n2
      have nr3 : l3 ≠ r := (((Drawn.refl D3.row).new n1).new n2).row.there n3
      generalize (upd (upd (upd H3 l1 (.lst [.str "+"])) l2 (.lst [.str "-"])) l3 (.lst [])) = H4 at e1 e2 e3 D3' n4
      have D5 := D3'.new (o := .lst [.ref l1, .ref l2, .ref l3]) n4
      have nr4 : l4 ≠ r := D3'.row.there n4
      have s5 : Same H4 (upd H4 l4 (.lst [.ref l1, .ref l2, .ref l3])) := same_upd n4
      refine ⟨r, l4, S, _, rfl, D5.row, nr4, upd_same, (show 1 ≤ 3 by decide), (show 3 < 1073741824 by decide), fun H6 kk v D6 hk => ?_⟩
      -- turn
      obtain ⟨tl, ts, rfl, nrt, htl, hts, hlen⟩ : ∃ (tl : Addr) (ts : List Sy), v = .ref tl ∧ tl ≠ r ∧ H6 tl = some (.lst (wv ts)) ∧ (∀ s ∈ ts, isB s = false ∧ isL s = false) ∧ ts.length ≤ 1 := by
        match kk, hk with
        | 0, hk => cases hk; exact ⟨l1, [.p], rfl, nr1, D6.at nr1 (s5 _ _ e1), by decide, Nat.le_refl _⟩
        | 1, hk => cases hk; exact ⟨l2, [.m], rfl, nr2, D6.at nr2 (s5 _ _ e2), by decide, Nat.le_refl _⟩
        | 2, hk => cases hk; exact ⟨l3, [], rfl, nr3, D6.at nr3 (s5 _ _ e3), by decide, Nat.zero_le _⟩
        | j + 3, hk => simp at hk
      have hfo6 := D6.at nfr (s5 _ _ (D3'.at nfr hfo3))
      have D06 : Drawn K S r H H6 := (((D1.trans D2).trans D3).trans D5).trans D6
      refine ⟨_, _, rfl, ?_⟩
      -- found[:at]
      refine ⟨_, rfl, _, rfl, _, rfl, fo, _, rfl, SqL.of hfo6, fun p1 m1 => ?_⟩
      rw [cut_to]
      have s6 : Same H6 (upd H6 p1 (.lst ((wv w).take at'))) := same_upd m1
      have hp1 : (upd H6 p1 (.lst ((wv w).take at'))) p1 = some (.lst ((wv w).take at')) := upd_same
      generalize upd H6 p1 (.lst ((wv w).take at')) = H7 at s6 hp1
      -- + ["["]
      refine ⟨szl 1, fun p2 m2 => ?_⟩
      have s7 := same_upd (o := .lst [.str "["]) m2
      refine ⟨p1, p2, _, _, rfl, rfl, s7 _ _ hp1, upd_same, ?_, fun p3 m3 => ?_⟩
      · simp only [List.length_take, List.length_map, List.length_cons, List.length_nil]
        exact szl _ (by omega)
      have s8 := s7.trans (same_upd (o := .lst ((wv w).take at' ++ [.str "["])) m3)
      -- + turn
      refine ⟨_, rfl, p3, tl, _, _, rfl, rfl, upd_same, s8 _ _ (s6 _ _ htl), ?_, fun p4 m4 => ?_⟩
      · simp only [List.length_append, List.length_take, List.length_map, List.length_cons, List.length_nil]
        exact szl _ (by omega)
      have s9 := s8.trans (same_upd (o := .lst ((wv w).take at' ++ [.str "["] ++ wv ts)) m4)
      have hp4 : (upd (upd (upd H7 p2 (.lst [.str "["])) p3 (.lst ((wv w).take at' ++ [.str "["]))) p4 (.lst ((wv w).take at' ++ [.str "["] ++ wv ts))) p4 = some (.lst ((wv w).take at' ++ [.str "["] ++ wv ts)) := upd_same
      generalize (upd (upd (upd H7 p2 (.lst [.str "["])) p3 (.lst ((wv w).take at' ++ [.str "["]))) p4 (.lst ((wv w).take at' ++ [.str "["] ++ wv ts))) = H8 at s9 hp4
      have D8 : Drawn K S r H H8 := ⟨D06.same.trans (.of (s6.trans s9)), D06.row.same (s6.trans s9)⟩
      have nr4' : p4 ≠ r := by
        intro e
        subst e
        obtain ⟨_, _, _, h1, _⟩ := D06.row
        have hh := (s6.trans (s8)) _ _ h1
        rw [m4] at hh; cases hh
      -- + [_law_taken(row, letters)]
      refine ⟨_, rfl, _, rfl, r, S, n, rfl, D8.row, hn1, by omega, fun H9 lk D9 hlk => ?_⟩
      refine ⟨szl 1, fun p5 m5 => ?_⟩
      have s10 := same_upd (o := .lst [.int lk]) m5
      refine ⟨p4, p5, _, _, rfl, rfl, s10 _ _ (D9.at nr4' hp4), upd_same, ?_, fun p6 m6 => ?_⟩
      · simp only [List.length_append, List.length_take, List.length_map, List.length_cons, List.length_nil]
        exact szl _ (by omega)
      have s11 := s10.trans (same_upd (o := .lst ((wv w).take at' ++ [.str "["] ++ wv ts ++ [.int lk])) m6)
      have hp6 : (upd (upd H9 p5 (.lst [.int lk])) p6 (.lst ((wv w).take at' ++ [.str "["] ++ wv ts ++ [.int lk]))) p6 = some (.lst ((wv w).take at' ++ [.str "["] ++ wv ts ++ [.int lk])) := upd_same
      generalize (upd (upd H9 p5 (.lst [.int lk])) p6 (.lst ((wv w).take at' ++ [.str "["] ++ wv ts ++ [.int lk]))) = H10 at s11 hp6
      -- + ["]"]
      refine ⟨szl 1, fun p7 m7 => ?_⟩
      have s12 := same_upd (o := .lst [.str "]"]) m7
      refine ⟨p6, p7, _, _, rfl, rfl, s12 _ _ hp6, upd_same, ?_, fun p8 m8 => ?_⟩
      · simp only [List.length_append, List.length_take, List.length_map, List.length_cons, List.length_nil]
        exact szl _ (by omega)
      have s13 := s12.trans (same_upd (o := .lst ((wv w).take at' ++ [.str "["] ++ wv ts ++ [.int lk] ++ [.str "]"])) m8)
      have hp8 : (upd (upd H10 p7 (.lst [.str "]"])) p8 (.lst ((wv w).take at' ++ [.str "["] ++ wv ts ++ [.int lk] ++ [.str "]"]))) p8 = some (.lst ((wv w).take at' ++ [.str "["] ++ wv ts ++ [.int lk] ++ [.str "]"])) := upd_same
      generalize (upd (upd H10 p7 (.lst [.str "]"])) p8 (.lst ((wv w).take at' ++ [.str "["] ++ wv ts ++ [.int lk] ++ [.str "]"]))) = H11 at s13 hp8
      -- + found[at:]
      have hfo11 := s13 _ _ (s11 _ _ (D9.at nfr (s9 _ _ (s6 _ _ hfo6))))
      refine ⟨_, rfl, _, rfl, _, rfl, fo, _, rfl, SqL.of hfo11, fun p9 m9 => ?_⟩
      rw [cut_from]
      have s14 := same_upd (o := .lst ((wv w).drop at')) m9
      refine ⟨p8, p9, _, _, rfl, rfl, s14 _ _ hp8, upd_same, ?_, fun p10 m10 => ?_⟩
      · simp only [List.length_append, List.length_take, List.length_drop, List.length_map, List.length_cons, List.length_nil]
        exact szl _ (by omega)
      -- tuple(found)
      refine ⟨.ref p10, rfl, p10, _, rfl, SqL.of upd_same, NewW.of (fun H12 p11 S12 m11 h12 => ?_) (w := w.take at' ++ [.o] ++ ts ++ [.l lk] ++ [.c] ++ w.drop at') ?_⟩
      · have s15 := (s11.trans s13).trans ((s14.trans (same_upd m10)).trans S12)
        exact q _ p11 _ ⟨((D8.trans D9).same).trans (.of s15), D9.row.same s15⟩ h12 (hw.branch hts hlen hlk) (.inr ⟨at', ts, lk, hts, rfl⟩)
      · simp only [wv, List.map_append, List.map_take, List.map_drop, List.map_cons, List.map_nil, Sy.v]
    · exact ⟨_, rfl, fo, _, rfl, SqL.of hfo2, NewW.of (fun H3 p S3 np hp => q _ p w ((D1.trans D2).then S3) hp (hw.good (by omega)) (.inl rfl)) rfl⟩
end
end SK
namespace SK
open PySem PySem.Spec PyProof.Rows L2
/-! ### books -/
def Words (H : Hp) (as : List Addr) (ws : List (List Sy)) : Prop := Paired (fun a w => WdAt H a w) as ws
def BookAt (H : Hp) (b : Addr) (ws : List (List Sy)) (st : List Sy) : Prop := ∃ (p q : Addr) (as : List Addr), H b = some (.tup [.ref p, .ref q]) ∧ H p = some (.tup (as.map V.ref)) ∧ WdAt H q st ∧ Words H as ws
structure GoodBook (ws : List (List Sy)) (st : List Sy) : Prop where
  one : 1 ≤ ws.length
  few : ws.length ≤ 3
  words : ∀ w ∈ ws, Good ws.length 40 w
  start : Good ws.length 40 st
/-- tuples stay -/
def TupS (H H' : Hp) : Prop := (∀ b xs, H b = some (.tup xs) → H' b = some (.tup xs)) ∧ ∀ b o u, H b = some (.frz o u) → H' b = some (.frz o u)
theorem TupS.refl {H : Hp} : TupS H H := ⟨fun _ _ h => h, fun _ _ _ h => h⟩
theorem TupS.trans {H H1 H2 : Hp} (a : TupS H H1) (b : TupS H1 H2) : TupS H H2 := ⟨fun c xs h => b.1 c xs (a.1 c xs h), fun c o u h => b.2 c o u (a.2 c o u h)⟩
theorem TupS.of {H H' : Hp} (s : Same H H') : TupS H H' := ⟨fun b xs h => s b _ h, fun b o u h => s b _ h⟩
theorem TupS.lst {H H1 : Hp} {p : Addr} {xs : List V} {o : HO} (s : TupS H H1) (h : H1 p = some (.lst xs)) : TupS H (upd H1 p o) := by
  refine ⟨fun b ys e => ?_, fun b ob u e => ?_⟩
  · rw [upd_ne (ne_of (s.1 b ys e) h (by intro z; cases z))]
    exact s.1 b ys e
  · rw [upd_ne (ne_of (s.2 b ob u e) h (by intro z; cases z))]
    exact s.2 b ob u e
theorem TupS.new {H H1 : Hp} {p : Addr} {o : HO} (s : TupS H H1) (h : H1 p = none) : TupS H (upd H1 p o) := s.trans (.of (same_upd h))
theorem TupS.wd {H H' : Hp} {a : Addr} {w : List Sy} (s : TupS H H') (h : WdAt H a w) : WdAt H' a w := let ⟨o, e, d⟩ := h; ⟨o, s.2 _ _ _ e, d⟩
theorem Drawn.tups {K : PySem.W.Frag} {S : Scr} {H H' : Hp} {r : Addr} (a : Drawn K S r H H') (hr : RowOk K S H r) : TupS H H' := ⟨fun b xs h => a.tup hr h, fun b o u h => a.at (by obtain ⟨_, _, _, h1, _⟩ := hr; exact ne_of h h1 (by intro z; cases z)) h⟩
theorem Words.keep {H H' : Hp} {as : List Addr} {ws : List (List Sy)} (s : TupS H H') (h : Words H as ws) : Words H' as ws := Paired.mono (fun a w e => s.wd e) h
theorem BookAt.keep {H H' : Hp} {b : Addr} {ws : List (List Sy)} {st : List Sy} (s : TupS H H') (h : BookAt H b ws st) : BookAt H' b ws st := by
  obtain ⟨p, q, as, h1, h2, h3, h4⟩ := h
  exact ⟨p, q, as, s.1 _ _ h1, s.1 _ _ h2, s.wd h3, h4.keep s⟩
def spBook (K : PySem.W.Frag) : Sp := fun vs H Q _ => ∃ (r : Addr) (S : Scr), vs = [.ref r] ∧ RowOk K S H r ∧
  ∀ (H' : Hp) (p : Addr) (ws : List (List Sy)) (st : List Sy), Drawn K S r H H' → BookAt H' p ws st → GoodBook ws st → Q (.ref p) H'
end SK
namespace SK
open PySem PySem.Spec PyProof.Rows L2
def spWord (K : PySem.W.Frag) : Sp := fun vs H Q _ => ∃ (r : Addr) (S : Scr) (n : Nat), vs = [.ref r, .int n, .int 3] ∧ RowOk K S H r ∧ 1 ≤ n ∧ n ≤ 8 ∧
  ∀ (H' : Hp) (p : Addr) (w' : List Sy), Drawn K S r H H' → WdAt H' p w' → Flat n 6 w' → Q (.ref p) H'
theorem flat_rot {n L : Nat} {w : List Sy} (f : Flat n L w) : Flat n L (w.drop 1 ++ w.take 1) := by
  refine ⟨fun s hs => f.flat s ?_, fun k hk => f.lets k ?_, ?_, ?_, ?_⟩
  · rcases List.mem_append.mp hs with h | h
    · exact List.mem_of_mem_drop h
    · exact List.mem_of_mem_take h
  · rcases List.mem_append.mp hk with h | h
    · exact List.mem_of_mem_drop h
    · exact List.mem_of_mem_take h
  · have := f.has
    rw [← List.take_append_drop 1 w, List.any_append, Bool.or_comm] at this
    rw [List.any_append]
    exact this
  · have := f.len
    have e : (w.take 1).length + (w.drop 1).length = w.length := by rw [← List.length_append, List.take_append_drop]
    rw [List.length_append]
    omega
  · have := f.slim
    have e : (w.take 1).length + (w.drop 1).length = w.length := by rw [← List.length_append, List.take_append_drop]
    have e2 : nL (w.take 1) + nL (w.drop 1) = nL w := by rw [← nL_app, List.take_append_drop]
    rw [List.length_append, nL_app]
    omega
section
variable {P : Program} {w : World} {K : PySem.W.Frag} {mg : Str → Option Value} {base : Heap}
theorem ok_word {f : Addr} {fd : FuncData} {k : Nat} (F : Fun K "_law_word" "_law_word" s_law_word f fd) (GT : Got P w K mg base "_law_taken" k ["row", "many"] (spTaken K)) (GP : Got P w K mg base "_law_pick" k ["row", "things"] (spPick K))
    (mR : mg "range" = none) (mT : mg "tuple" = none) : FnOk P w K mg base CX0 (k + 1) f fd ["row", "letters", "most"] (spWord K) := by
  refine F.ok sc_law_word (fun vs H Q E h => ?_) (fun cdv A outer s H vs Q E hr h => ?_)
  · obtain ⟨r, S, n, rfl, _⟩ := h
    rfl
  · obtain ⟨r, S, n, rfl, hR, hn1, hn2, q⟩ := h
    have nd := sc_law_word.nd
    refine ⟨_, pss_cons (ps_set (i := 3) nd rfl (.inl rfl) (pe_lst pa_nil))
      (pss_cons (ps_for PassesOwn.never rfl (pi_range1 rfl mR (pa_cons (padd pe_int (pcall GT hr (pa_cons (pv 0) (pa_cons (pv 2) pa_nil)))) pa_nil)) (pg_name (i := 4) nd rfl (.inl rfl))
        (pss_cons (sapp (pv 3) (pcall GT hr (pa_cons (pv 0) (pa_cons (pv 1) pa_nil))))
          (pss_one (ps_if (pt_cmpR op_eq (pcall GT hr (pa_cons (pv 0) (pa_cons pe_int pa_nil))) pe_int (nomark _))
            (pss_one (sapp (pv 3) (pcall GP hr (pa_cons (pv 0) (pa_cons (pe_lst (pa_cons pe_str (pa_cons pe_str pa_nil))) pa_nil))))) pss_nil))))
      (pss_one (ps_ret (pe_ifExp (pt_cmpR op_eq (pcall GT hr (pa_cons (pv 0) (pa_cons pe_int pa_nil))) pe_int (nomark _))
        (ptupleF mT (pcat (pe_slice sl_list (pv 3) (po_some pe_int) po_none) (pe_slice sl_list (pv 3) po_none (po_some pe_int))))
        (ptupleF mT (pv 3)))))), ?_⟩
    refine ⟨szl 0, fun fo nfo => ?_⟩
    have D1 : Drawn K S r H (upd H fo (.lst [])) := (Drawn.refl hR).new nfo
    have hfo : (upd H fo (.lst [])) fo = some (.lst []) := upd_same
    have nfr : fo ≠ r := hR.there nfo
    generalize upd H fo (.lst []) = H1 at D1 hfo
    refine ⟨_, rfl, _, rfl, r, S, 3, rfl, D1.row, by decide, by decide, fun H2 kk D2 hkk => ?_⟩
    have hfo2 := D2.at nfr hfo
    have D02 := D1.trans D2
    refine ⟨1, _, rfl, rfl, ((1 + kk : Nat) : Int), ?_, by omega, by omega, ?_⟩
    · show [V.int (1 + (kk : Int))] = [V.int ((1 + kk : Nat) : Int)]
      congr 2
    rw [Int.toNat_natCast]
    refine for_range (lo := 0) (n := 1 + kk) (fun i σ H' => ∃ (ws : List Sy) (y : Option V), σ = [some (.ref r), some (.int n), some (.int 3), some (.ref fo), y] ∧ Drawn K S r H H' ∧ H' fo = some (.lst (wv ws)) ∧
        (∀ s ∈ ws, isB s = false) ∧ (∀ k, Sy.l k ∈ ws → k < n) ∧ (1 ≤ i → ws.any isL = true) ∧ ws.length ≤ 2 * i ∧ nL ws = i)
      ⟨[], _, rfl, D02, hfo2, by decide, (fun k h => nomatch h), (fun h => by omega), Nat.zero_le _, rfl⟩ ?_ ?_
    · rintro i σ H' hi ⟨ws, y, rfl, D, hf, h1, h2, h3, h4, h5⟩
      refine ⟨_, rfl, .inl ⟨rfl, _, SqL.of hf⟩, _, rfl, _, rfl, r, S, n, rfl, D.row, hn1, by omega, fun H3 lk D3 hlk => ?_⟩
      have hf3 := D3.at nfr hf
      refine ⟨fo, _, _, rfl, rfl, hf3, ?_, ?_⟩
      · rw [List.length_map]; exact Nat.lt_of_le_of_lt (show ws.length ≤ 1000 by omega) (by decide)
      have D4 : Drawn K S r H (upd H3 fo (.lst (wv ws ++ [.int lk]))) := (D.trans D3).put hR nfo
      have hf4 : (upd H3 fo (.lst (wv ws ++ [.int lk]))) fo = some (.lst (wv (ws ++ [.l lk]))) := by rw [upd_same, wv, wv, List.map_append]; rfl
      generalize (upd H3 fo (.lst (wv ws ++ [.int lk]))) = H4 at D4 hf4
      have f1 : ∀ s ∈ ws ++ [Sy.l lk], isB s = false := fun s hs => by
        rcases List.mem_append.mp hs with h | h
        · exact h1 s h
        · rw [List.mem_singleton.mp h]; rfl
      have f2 : ∀ k, Sy.l k ∈ ws ++ [Sy.l lk] → k < n := fun k hs => by
        rcases List.mem_append.mp hs with h | h
        · exact h2 k h
        · cases List.mem_singleton.mp h; exact hlk
      have f3 : (ws ++ [Sy.l lk]).any isL = true := by simp [isL]
      have f4 : (ws ++ [Sy.l lk]).length ≤ 2 * i + 1 := by rw [List.length_append, List.length_singleton]; omega
      have f5 : nL (ws ++ [Sy.l lk]) = i + 1 := by rw [nL_app, h5]; rfl
      generalize ws ++ [Sy.l lk] = ws' at hf4 f1 f2 f3 f4 f5
      refine ⟨_, rfl, r, S, 2, rfl, D4.row, by decide, by decide, fun H5 k5 D5 _ => ?_⟩
      have hf5 := D5.at nfr hf4
      refine ⟨rfl, _, rfl, ite2 (fun _ => ?_) (fun _ => ?_)⟩
      · refine ⟨_, rfl, .inl ⟨rfl, _, SqL.of hf5⟩, _, rfl, szl 2, fun l1 n1 => ?_⟩
        have D6 := D5.new (o := .lst [.str "+", .str "-"]) n1
        have nl1 := D5.row.there n1
        refine ⟨r, l1, S, _, rfl, D6.row, nl1, upd_same, (show 1 ≤ 2 by decide), (show 2 < 1073741824 by decide), fun H7 k7 v D7 hk => ?_⟩
        have hf7 := D7.at nfr (same_upd (o := .lst [.str "+", .str "-"]) n1 _ _ hf5)
        obtain ⟨sy, rfl, b1, b2⟩ : ∃ sy : Sy, v = sy.v ∧ isB sy = false ∧ isL sy = false := by
          match k7, hk with
          | 0, hk => cases hk; exact ⟨.p, rfl, rfl, rfl⟩
          | 1, hk => cases hk; exact ⟨.m, rfl, rfl, rfl⟩
          | j + 2, hk => simp at hk
        refine ⟨fo, _, _, rfl, rfl, hf7, ?_, ?_⟩
        · rw [List.length_map]; exact Nat.lt_of_le_of_lt (show ws'.length ≤ 1000 by omega) (by decide)
        refine ⟨ws' ++ [sy], _, rfl, ((D4.trans D6).trans D7).put hR nfo, ?_, ?_, ?_, ?_, ?_, ?_⟩
        · rw [upd_same, wv, wv, List.map_append]; rfl
        · intro s hs
          rcases List.mem_append.mp hs with h | h
          · exact f1 s h
          · rw [List.mem_singleton.mp h]; exact b1
        · intro k hs
          rcases List.mem_append.mp hs with h | h
          · exact f2 k h
          · rw [← List.mem_singleton.mp h] at b2; cases b2
        · intro _; rw [List.any_append, f3]; rfl
        · rw [List.length_append, List.length_singleton]; omega
        · rw [nL_app, f5]; simp [nL, b2]
      · exact ⟨ws', _, rfl, D4.trans D5, hf5, f1, f2, fun _ => f3, by omega, f5⟩
    · rintro σ H' ⟨ws, y, rfl, D, hf, h1, h2, h3, h4, h5⟩
      have fl : Flat n 6 ws := ⟨h1, h2, h3 (by omega), by omega, by omega⟩
      refine ⟨_, rfl, r, S, 3, rfl, D.row, by decide, by decide, fun H5 k5 D5 _ => ?_⟩
      have hf5 := D5.at nfr hf
      refine ⟨rfl, _, rfl, ite2 (fun _ => ?_) (fun _ => ?_)⟩
      · refine ⟨_, rfl, ((1 : Nat) : Int), rfl, fo, _, rfl, SqL.of hf5, fun p1 m1 => ?_⟩
        rw [cut_from]
        refine ⟨_, rfl, ((1 : Nat) : Int), rfl, fo, _, rfl, SqL.of (same_upd m1 _ _ hf5), fun p2 m2 => ?_⟩
        rw [cut_to]
        have s2 := (same_upd (o := .lst ((wv ws).drop 1)) m1).trans (same_upd (o := .lst ((wv ws).take 1)) m2)
        refine ⟨p1, p2, _, _, rfl, rfl, same_upd m2 _ _ upd_same, upd_same, ?_, fun p3 m3 => ?_⟩
        · simp only [List.length_take, List.length_drop, List.length_map]
          exact szl _ (by omega)
        refine ⟨p3, _, rfl, SqL.of upd_same, NewW.of (fun H4 p4 S4 m4 h4 => q _ p4 (ws.drop 1 ++ ws.take 1) ((D.trans D5).then ((s2.trans (same_upd m3)).trans S4)) h4 (flat_rot fl)) ?_⟩
        simp only [wv, List.map_append, List.map_take, List.map_drop]
      · exact ⟨_, rfl, fo, _, rfl, SqL.of hf5, NewW.of (fun H4 p4 S4 m4 h4 => q _ p4 ws ((D.trans D5).then S4) h4 fl) rfl⟩
end
end SK
namespace SK
open PySem PySem.Spec PyProof.Rows L2
section
variable {P : Program} {w : World} {K : PySem.W.Frag} {mg : Str → Option Value} {base : Heap}
theorem ok_book {f : Addr} {fd : FuncData} {k : Nat} (F : Fun K "_law_book" "_law_book" s_law_book f fd) (GT : Got P w K mg base "_law_taken" k ["row", "many"] (spTaken K))
    (GW : Got P w K mg base "_law_word" k ["row", "letters", "most"] (spWord K)) (GB : Got P w K mg base "_law_branched" k ["row", "word", "letters"] (spBranched K))
    (mR : mg "range" = none) (mT : mg "tuple" = none) : FnOk P w K mg base CX0 (k + 1) f fd ["row"] (spBook K) := by
  refine F.ok sc_law_book (fun vs H Q E h => ?_) (fun cdv A outer s H vs Q E hr h => ?_)
  · obtain ⟨r, S, rfl, _⟩ := h
    rfl
  · obtain ⟨r, S, rfl, hR, q⟩ := h
    have nd := sc_law_book.nd
    refine ⟨_, pss_cons (ps_set (i := 1) nd rfl (.inr rfl) (padd pe_int (pcall GT hr (pa_cons (pv 0) (pa_cons pe_int pa_nil)))))
      (pss_cons (ps_set (i := 2) nd rfl (.inl rfl) (pe_callTy call_tuple_of (by rfl) mT (by decide +kernel) (pa_cons
          (pe_lc (own := [("k", 3)]) (g := gName 3) (tt := tYes) rfl nd (pi_range1 rfl mR (pa_cons (pv 1) pa_nil)) (blkOk_by (N := n_law_book) (sc := defScope s_law_book) (by decide +kernel))
            (fun _ _ _ _ _ => pg_name (i := 3) nd rfl (Or.inl rfl)) (fun _ _ _ _ _ => pts_nil)
            (fun _ _ _ _ _ => pcall GB hr (pa_cons (pv 0) (pa_cons (pcall GW hr (pa_cons (pv 0) (pa_cons (pv 1) (pa_cons pe_int pa_nil)))) (pa_cons (pv 1) pa_nil)))))
          pa_nil)))
      (pss_one (ps_ret (pe_tup (pa_cons (pv 2) (pa_cons (pcall GB hr (pa_cons (pv 0) (pa_cons (pcall GW hr (pa_cons (pv 0) (pa_cons (pv 1) (pa_cons pe_int pa_nil)))) (pa_cons (pv 1) pa_nil)))) pa_nil)))))), ?_⟩
    refine ⟨_, rfl, r, S, 3, rfl, hR, by decide, by decide, fun H1 k1 D1 hk1 => ?_⟩
    refine ⟨1, _, rfl, rfl, ?_⟩
    have en : (V.int (1 + (k1 : Int))) = V.int ((1 + k1 : Nat) : Int) := by congr 1
    dsimp only; rw [en]
    have hn1 : 1 ≤ 1 + k1 := by omega
    have hn2 : 1 + k1 ≤ 8 := by omega
    have hn3 : 1 + k1 ≤ 3 := by omega
    generalize 1 + k1 = n at hn1 hn2 hn3
    refine ⟨_, rfl, (n : Int), rfl, by omega, by omega, fun D nD => ?_⟩
    rw [Int.toNat_natCast]
    have nDr := D1.row.there nD
    refine lc_range (lo := 0) (n := n) (fun i H' => ∃ (as : List Addr) (ws : List (List Sy)), Drawn K S r H1 H' ∧ H' D = some (.lst (as.map V.ref)) ∧ Words H' as ws ∧ ws.length = i ∧ ∀ w ∈ ws, Good n 40 w)
      ⟨[], [], D1.row |> fun h => (Drawn.refl h).new nD, upd_same, .nil, rfl, fun w h => nomatch h⟩ ?_ ?_
    · rintro i H' hi ⟨as, ws, D2, hD, hw, hl, hg⟩
      refine ⟨rfl, _, rfl, _, rfl, _, rfl, r, S, n, rfl, D2.row, hn1, hn2, fun H3 t w3 D3 ht hw3 => ?_⟩
      refine ⟨_, rfl, r, t, S, n, 6, w3, rfl, D3.row, ht, hw3, by decide, hn1, hn2, fun H4 p w4 D4 hp hw4 _ => ?_⟩
      have D34 := D3.trans D4
      refine ⟨_, D34.at nDr hD, ?_, as ++ [p], ws ++ [w4], (D2.trans D34).put D1.row nD, ?_, ?_, ?_, ?_⟩
      · have := hw.length
        rw [List.length_map]; exact Nat.lt_of_le_of_lt (show as.length ≤ 1000 by omega) (by decide)
      · rw [upd_same, List.map_append]; rfl
      · have s : TupS H4 (upd H4 D (.lst (as.map V.ref ++ [V.ref p]))) := TupS.refl.lst (D34.at nDr hD)
        exact Paired.snoc ((hw.keep (D34.tups D2.row)).keep s) (s.wd hp)
      · rw [List.length_append, List.length_singleton, hl]
      · intro w hw
        rcases List.mem_append.mp hw with h | h
        · exact hg w h
        · rw [List.mem_singleton.mp h]; exact hw4.mono (by decide)
    · rintro H' ⟨as, ws, D2, hD, hw, hl, hg⟩
      refine ⟨D, _, rfl, .inl ⟨SqL.of hD, fun p np => ?_⟩⟩
      have D3 := D2.new (o := .tup (as.map V.ref)) np
      have hw3 : Words (upd H' p (.tup (as.map V.ref))) as ws := hw.keep (TupS.refl.new np)
      have hp3 : (upd H' p (.tup (as.map V.ref))) p = some (.tup (as.map V.ref)) := upd_same
      generalize upd H' p (.tup (as.map V.ref)) = H3 at D3 hw3 hp3
      refine ⟨_, rfl, _, rfl, _, rfl, _, rfl, r, S, n, rfl, D3.row, hn1, hn2, fun H4 t w4 D4 ht hw4 => ?_⟩
      refine ⟨_, rfl, r, t, S, n, 6, w4, rfl, D4.row, ht, hw4, by decide, hn1, hn2, fun H5 b w5 D5 hb hw5 _ => ?_⟩
      refine ⟨szl 2, fun p6 n6 => ?_⟩
      have D35 := D4.trans D5
      have t35 := D35.tups D3.row
      have s6 : Same H5 (upd H5 p6 (.tup [.ref p, .ref b])) := same_upd n6
      subst hl
      exact q _ p6 ws w5 (((D1.trans D3).trans D35).then s6) ⟨p, b, as, upd_same, s6 _ _ (t35.1 _ _ hp3), hb.same s6, hw3.keep (t35.trans (.of s6))⟩ ⟨hn1, hn3, hg, hw5.mono (by decide)⟩
end
end SK
namespace SK
open PySem PySem.Spec PyProof.Rows L2
/-! ### new things, the heap behind them a letter -/
def New (o : HO) (H : Hp) (Q : VK) : Prop := ∀ (H' : Hp) (p : Addr), Same H H' → H p = none → H' p = some o → Q (.ref p) H'
theorem New.ok {o : HO} {H : Hp} {Q : VK} (h : New o H Q) (p : Addr) (n : H p = none) : Q (.ref p) (upd H p o) := h _ p (same_upd n) n upd_same
def rCatN : R2 := fun x y H Q => ∃ l b xs zs, x = .ref l ∧ y = .ref b ∧ H l = some (.lst xs) ∧ H b = some (.lst zs) ∧ xs.length + zs.length ≤ sizeLine ∧ New (.lst (xs ++ zs)) H Q
def rRepN : R2 := fun x y H Q => ∃ l k xs, x = .ref l ∧ y = .int k ∧ H l = some (.lst xs) ∧ -(2 ^ 63) ≤ k ∧ k < 2 ^ 63 ∧ xs.length * k.toNat ≤ sizeLine ∧ New (.lst (List.replicate k.toNat xs).flatten) H Q
def tTupN (t : TA) : TE := fun σ H Q => t σ H fun xs H1 => xs.length ≤ sizeLine ∧ New (.tup xs) H1 Q
def tLstN (t : TA) : TE := fun σ H Q => t σ H fun xs H1 => xs.length ≤ sizeLine ∧ New (.lst xs) H1 Q
def rListN (K : PySem.W.Frag) : List V → Hp → VK → Prop := fun xs H Q => ∃ p ys, xs = [.ref p] ∧ (SqL K H p ys ∨ SqT K H p ys) ∧ New (.lst ys) H Q
def rTupleN (K : PySem.W.Frag) : List V → Hp → VK → Prop := fun xs H Q => ∃ p ys, xs = [.ref p] ∧ SqL K H p ys ∧ New (.tup ys) H Q
section
variable {X : Cx} {a b e : Expr} {ta tb te : TE} {pos p : Pos} {es : List Expr} {t : TA}
theorem pcatN (ha : PE X a ta) (hb : PE X b tb) : PE X (.BinOp a .Add b pos) (tOp rCatN ta tb) :=
  pe_op (fun pins s σ H x y v u Q I rx ry ⟨l, b, xs, zs, h1, h2, h3, h4, h5, h6⟩ => op_cat pins s σ H x y v u Q I rx ry ⟨l, b, xs, zs, h1, h2, h3, h4, h5, h6.ok⟩) ha hb
theorem prepN (ha : PE X a ta) (hb : PE X b tb) : PE X (.BinOp a .Mult b pos) (tOp rRepN ta tb) :=
  pe_op (fun pins s σ H x y v u Q I rx ry ⟨l, b, xs, h1, h2, h3, h4, h5, h6, h7⟩ => op_rep pins s σ H x y v u Q I rx ry ⟨l, b, xs, h1, h2, h3, h4, h5, h6, h7.ok⟩) ha hb
/-- whatever is wanted more of the arguments' end -/
def upA (t : TA) : TA := fun σ H R => ∃ R' : List V → Hp → Prop, t σ H R' ∧ ∀ xs H1, R' xs H1 → R xs H1
theorem pa_up (h : PA X es t) : PA X es (upA t) := ⟨fun pos pins s σ H R I ⟨R', h1, h2⟩ => thn (h.run pos pins s σ H R' I h1) fun us s1 ⟨xs, H1, I1, r, q⟩ => ⟨xs, H1, I1, r, h2 xs H1 q⟩⟩
theorem ptupN {x1 : Nat} (h : PA X es t) : PE X (.Tuple es x1 pos) (tTupN t) :=
  ⟨fun pins s σ H Q I hq => (pe_tup (pa_up h)).run pins s σ H Q I ⟨_, hq, fun xs H1 ⟨z, q⟩ => ⟨z, q.ok⟩⟩⟩
theorem plstN (h : PA X es t) : PE X (.List es pos) (tLstN t) :=
  ⟨fun pins s σ H Q I hq => (pe_lst (pa_up h)).run pins s σ H Q I ⟨_, hq, fun xs H1 ⟨z, q⟩ => ⟨z, q.ok⟩⟩⟩
theorem plistN (m : X.mg "list" = none) (h : PE X e te) (hg : Gl X "list" := by rfl) (hs1 : starEach [e] X.env = (false, eval e X.env) :: starEach [] X.env := by rfl) (hp1 : (backTo pos (starEach [] X.env)).any (·.1) = false := by rfl) :
    PE X (.Call (.Name "list" p) [e] [] pos) (tCB (rListN X.K) (tCons te tNil)) :=
  pe_callTy (fun pins s σ H xs us Q I r ⟨p, ys, h1, h2, h3⟩ => call_list_of pins s σ H xs us Q I r ⟨p, ys, h1, h2, h3.ok⟩) hg m (by decide +kernel) (pa_cons h pa_nil hs1) (by decide) (by decide) hs1 hp1
theorem ptupleN (m : X.mg "tuple" = none) (h : PE X e te) (hg : Gl X "tuple" := by rfl) (hs1 : starEach [e] X.env = (false, eval e X.env) :: starEach [] X.env := by rfl) (hp1 : (backTo pos (starEach [] X.env)).any (·.1) = false := by rfl) :
    PE X (.Call (.Name "tuple" p) [e] [] pos) (tCB (rTupleN X.K) (tCons te tNil)) :=
  pe_callTy (fun pins s σ H xs us Q I r ⟨p, ys, h1, h2, h3⟩ => call_tuple_of pins s σ H xs us Q I r ⟨p, ys, h1, .inl ⟨h2, h3.ok⟩⟩) hg m (by decide +kernel) (pa_cons h pa_nil hs1) (by decide) (by decide) hs1 hp1
end
def rSlLN (K : PySem.W.Frag) : V → Option Int → Option Int → Hp → VK → Prop := fun x lo hi H Q => ∃ a xs, x = .ref a ∧ SqL K H a xs ∧ New (.lst (cutV xs lo hi)) H Q
theorem sl_listN {X : Cx} : SlR X (rSlLN X.K) := fun pins s σ H x v vl vu lo hi sl Q I rx hs pl pu ⟨a, xs, h1, h2, h3⟩ => sl_list pins s σ H x v vl vu lo hi sl Q I rx hs pl pu ⟨a, xs, h1, h2, h3.ok⟩
/-- a written word -/
def tWd (w : List Sy) : TE := fun _ H Q => NewW w H Q
def IsWd (X : Cx) (es : List Expr) (w : List Sy) : Prop := PA X es fun _ H Q => Q (wv w) H
section
variable {X : Cx}
theorem wd_nil : IsWd X [] [] := pa_nil
theorem wd_l {es : List Expr} {w : List Sy} {j : Nat} {k : Nat} {pos : Pos} (h : IsWd X es w) (hs : starEach (.Constant (.int (k : Int)) j pos :: es) X.env = (false, eval (.Constant (.int (k : Int)) j pos) X.env) :: starEach es X.env := by rfl) :
    IsWd X (.Constant (.int (k : Int)) j pos :: es) (.l k :: w) := pa_cons pe_int h hs
theorem wd_s {es : List Expr} {w : List Sy} {z : Str} {sy : Sy} {j : Nat} {pos : Pos} (e : sy.v = .str z) (h : IsWd X es w) (hs : starEach (.Constant (.str z) j pos :: es) X.env = (false, eval (.Constant (.str z) j pos) X.env) :: starEach es X.env := by rfl) :
    IsWd X (.Constant (.str z) j pos :: es) (sy :: w) := by
  have h' : PA X es fun _ H Q => Q (wv w) H := h
  have := pa_cons (pe_str (x := z) (j := j) (pos := pos)) h' hs
  show PA X _ fun _ H Q => Q (sy.v :: wv w) H
  rw [e]
  exact this
theorem pwd {es : List Expr} {w : List Sy} {x1 : Nat} {pos : Pos} (h : IsWd X es w) (hl : w.length ≤ 100) : PE X (.Tuple es x1 pos) (tWd w) :=
  ⟨fun pins s σ H Q I hq => (ptupF h).run pins s σ H Q I ⟨by rw [List.length_map]; exact szl _ (by omega), NewW.of hq rfl⟩⟩
end
/-! ### a reading put in another's place -/
theorem pimp {X : Cx} {e : Expr} {t : TE} (t' : TE) (h : PE X e t) (f : ∀ σ H Q, t' σ H Q → t σ H Q) : PE X e t' := ⟨fun pins s σ H Q I q => h.run pins s σ H Q I (f σ H Q q)⟩
theorem psimp {X : Cx} {st : Stmt} {t : TS} (t' : TS) (h : PS X st t) (f : ∀ D σ H, t' D σ H → t D σ H) : PS X st t' := ⟨fun pins s σ H D I q => h.run pins s σ H D I (f D σ H q)⟩
/-! ### good words by decision -/
def goodC (n L : Nat) (w : List Sy) : Bool := decide (nest w 0 = some 0) && w.all (fun s => match s with | .l k => decide (k < n) | _ => true) && w.any isL && decide (w.length ≤ L) && decide (w.length + 6 ≤ 8 * nL w)
theorem good_dec {n L : Nat} {w : List Sy} (h : goodC n L w = true) : Good n L w := by
  unfold goodC at h
  simp only [Bool.and_eq_true, decide_eq_true_eq, List.all_eq_true] at h
  obtain ⟨⟨⟨⟨h1, h2⟩, h3⟩, h4⟩, h5⟩ := h
  exact ⟨h1, fun k hk => by simpa using h2 _ hk, h3, h4, h5⟩
theorem words_dec {n L : Nat} {ws : List (List Sy)} (h : ws.all (goodC n L) = true) : ∀ w ∈ ws, Good n L w := fun w hw => good_dec (List.all_eq_true.mp h w hw)
end SK
namespace SK
open PySem PySem.Spec PyProof.Rows L2
theorem dp_ints {K : PySem.W.Frag} {H : Hp} : ∀ ss : List Int, DpAll K H (ss.map V.int) (ss.map PyData.int)
  | [] => .nil
  | i :: ss => .cons (.int i) (dp_ints ss)
theorem lay_ints : ∀ ss : List Int, PyData.canLayAll0 (ss.map PyData.int) = true
  | [] => by simp [PyData.canLayAll0]
  | i :: ss => by simp only [List.map_cons, PyData.canLayAll0, PyData.canLay0, Bool.true_and]; exact lay_ints ss
theorem depth_ints : ∀ ss : List Int, PyData.depthAll (ss.map PyData.int) = 0
  | [] => by simp [PyData.depthAll]
  | i :: ss => by simp only [List.map_cons, PyData.depthAll, PyData.depth]; rw [depth_ints ss]; rfl
theorem shaped_ints (ss : List Int) : SeqAt.shaped (.list (ss.map PyData.int)) = true := by
  simp only [SeqAt.shaped, PyData.canLay0, PyData.depth, lay_ints, depth_ints, Bool.true_and]
  decide
theorem eqv_nil (ss : List Int) : PyData.eqv (.list (ss.map PyData.int)) (.list []) = ss.isEmpty := by
  cases ss <;> simp [PyData.eqv, PyData.eqvAll]
/-- xs != [] of whole numbers -/
def rNeNil (K : PySem.W.Frag) : R2 := fun x y H Q => ∃ (a b : Addr) (ss : List Int), x = .ref a ∧ y = .ref b ∧ SqL K H a (ss.map V.int) ∧ H b = some (.lst []) ∧ Q (.bl (!ss.isEmpty)) H
theorem op_neNil {X : Cx} (hu : X.A.units + 64 < cLine) : OpR X (compareOp .NotEq) (rNeNil X.K) := by
  intro pins s σ H x y v u Q I rx ry h
  obtain ⟨a, b, ss, rfl, rfl, h1, h2, q⟩ := h
  refine op_neD hu pins s σ H _ _ v u Q I rx ry ⟨.list (ss.map PyData.int), .list [], .lst h1 (dp_ints ss), .lst (SqL.of h2) .nil, shaped_ints ss, shaped_ints [], ?_⟩
  rw [eqv_nil]
  exact q
/-- where a flat word's path goes -/
def dirE (h : Int) : Int × Int := if h = 0 then (1, 0) else if h = 1 then (0, 1) else if h = 2 then (-1, 0) else (0, -1)
def wstepE (p : Int × Int × Int) : Sy → Int × Int × Int
  | .p => (p.1, p.2.1, (p.2.2 + 1) % 4)
  | .m => (p.1, p.2.1, (p.2.2 + 3) % 4)
  | .l _ => (p.1 + (dirE p.2.2).1, p.2.1 + (dirE p.2.2).2, p.2.2)
  | _ => p
/-- the sum of some steps -/
def sumD : List Int → Int × Int
  | [] => (0, 0)
  | x :: l => ((dirE x).1 + (sumD l).1, (dirE x).2 + (sumD l).2)
theorem sumD_app : ∀ a b : List Int, sumD (a ++ b) = ((sumD a).1 + (sumD b).1, (sumD a).2 + (sumD b).2)
  | [], b => by show sumD b = (0 + _, 0 + _); rw [Int.zero_add, Int.zero_add]
  | x :: a, b => by
    show ((dirE x).1 + (sumD (a ++ b)).1, (dirE x).2 + (sumD (a ++ b)).2) = ((dirE x).1 + (sumD a).1 + (sumD b).1, (dirE x).2 + (sumD a).2 + (sumD b).2)
    rw [sumD_app a b, Int.add_assoc, Int.add_assoc]
theorem sumD_rep (j : Int) : ∀ n : Nat, sumD (List.replicate n j) = ((n : Int) * (dirE j).1, (n : Int) * (dirE j).2)
  | 0 => by show (0, 0) = _; rw [Int.natCast_zero, Int.zero_mul, Int.zero_mul]
  | n + 1 => by
    show ((dirE j).1 + (sumD (List.replicate n j)).1, (dirE j).2 + (sumD (List.replicate n j)).2) = _
    rw [sumD_rep j n, Int.natCast_succ, Int.add_mul, Int.add_mul, Int.one_mul, Int.one_mul, Int.add_comm, Int.add_comm (dirE j).2]
theorem sumD_erase : ∀ {l : List Int} {i : Nat} {x : Int}, l[i]? = some x → sumD l = ((dirE x).1 + (sumD (l.eraseIdx i)).1, (dirE x).2 + (sumD (l.eraseIdx i)).2)
  | y :: l, 0, x, h => by cases h; rfl
  | y :: l, i + 1, x, h => by
    have e := sumD_erase (l := l) (i := i) h
    show ((dirE y).1 + (sumD l).1, (dirE y).2 + (sumD l).2) = ((dirE x).1 + ((dirE y).1 + (sumD (l.eraseIdx i)).1), (dirE x).2 + ((dirE y).2 + (sumD (l.eraseIdx i)).2))
    rw [e]
    refine Prod.ext ?_ ?_ <;> dsimp only <;> omega
def In4 (ss : List Int) : Prop := ∀ x ∈ ss, 0 ≤ x ∧ x < 4
theorem dir_back {x : Int} (h : 0 ≤ x ∧ x < 4) : sumD [x, (x + 2) % 4] = (0, 0) := by
  have e : x = 0 ∨ x = 1 ∨ x = 2 ∨ x = 3 := by omega
  rcases e with rfl | rfl | rfl | rfl <;> rfl
/-- turns that come to m -/
def TurnsBy (tt : List Sy) (m : Int) : Prop := ∀ p : Int × Int × Int, 0 ≤ p.2.2 ∧ p.2.2 < 4 → tt.foldl wstepE p = (p.1, p.2.1, (p.2.2 + m) % 4)
theorem turn_m : TurnsBy [.m] 3 := fun p _ => rfl
theorem turn_rep : ∀ n : Nat, TurnsBy (List.replicate n .p) n
  | 0 => fun p h => by
    show p = (p.1, p.2.1, (p.2.2 + ((0 : Nat) : Int)) % 4)
    refine Prod.ext rfl (Prod.ext rfl ?_)
    show p.2.2 = (p.2.2 + ((0 : Nat) : Int)) % 4
    omega
  | n + 1 => fun p h => by
    show (List.replicate n Sy.p).foldl wstepE (p.1, p.2.1, (p.2.2 + 1) % 4) = _
    rw [turn_rep n _ ⟨Int.emod_nonneg _ (by decide), Int.emod_lt_of_pos _ (by decide)⟩]
    refine Prod.ext rfl (Prod.ext rfl ?_)
    show ((p.2.2 + 1) % 4 + (n : Int)) % 4 = (p.2.2 + ((n + 1 : Nat) : Int)) % 4
    omega
def spEvenWord (K : PySem.W.Frag) : Sp := fun vs H Q _ => ∃ (r t : Addr) (S : Scr) (n : Nat) (u v : Int), vs = [.ref r, .int n, .ref t] ∧ RowOk K S H r ∧ H t = some (.tup [.int u, .int v]) ∧ u.natAbs + v.natAbs ≤ 3 ∧ 2 ≤ u.natAbs + v.natAbs ∧ 1 ≤ n ∧ n ≤ 8 ∧
  ∀ (H' : Hp) (p : Addr) (w' : List Sy), Drawn K S r H H' → WdAt H' p w' → Flat n 17 w' → w'.foldl wstepE (0, 0, 0) = (u, v, 0) → Q (.ref p) H'
theorem rep_ints (n : Nat) (i : Int) : (List.replicate n [V.int i]).flatten = (List.replicate n i).map V.int := by
  induction n with
  | zero => rfl
  | succ n ih => rw [List.replicate_succ, List.flatten_cons, ih]; rfl
theorem rep_sy (n : Nat) (s : Sy) : (List.replicate n [s.v]).flatten = wv (List.replicate n s) := by
  induction n with
  | zero => rfl
  | succ n ih => rw [List.replicate_succ, List.flatten_cons, ih]; rfl
theorem abs_if (i : Int) : (if i < 0 then -i else i) = (i.natAbs : Int) := by split <;> omega
/-- the turns ahead of a stroke -/
theorem turns_of {t : List Sy} (h : t = [.m] ∨ ∃ j, t = List.replicate j .p) : (∀ s ∈ t, isB s = false ∧ isL s = false) := by
  rcases h with rfl | ⟨j, rfl⟩
  · decide
  · intro s hs
    rw [List.eq_of_mem_replicate hs]
    exact ⟨rfl, rfl⟩
section
variable {X : Cx}
theorem pabs {e : Expr} {te : TE} {p pos : Pos} (m : X.mg "abs" = none) (h : PE X e te) (hg : Gl X "abs" := by rfl) (hs1 : starEach [e] X.env = (false, eval e X.env) :: starEach [] X.env := by rfl) (hp1 : (backTo pos (starEach [] X.env)).any (·.1) = false := by rfl) :
    PE X (.Call (.Name "abs" p) [e] [] pos) (tCB (fun xs H Q => ∃ i : Int, xs = [.int i] ∧ Q (.int (i.natAbs : Int)) H) (tCons te tNil)) := by
  refine pe_callB (fun pins s σ H xs us Q I r ⟨i, h1, q⟩ => call_abs pins s σ H xs us Q I r ⟨i, h1, ?_⟩) hg m (by decide +kernel) (pa_cons h pa_nil hs1) (by decide) (by decide) hs1 hp1
  rw [abs_if]
  exact q
end
section
variable {P : Program} {w : World} {K : PySem.W.Frag} {mg : Str → Option Value} {base : Heap}
theorem erase_map {α β : Type} (f : α → β) : ∀ (l : List α) (i : Nat), (l.map f).eraseIdx i = (l.eraseIdx i).map f
  | [], _ => rfl
  | _ :: _, 0 => rfl
  | x :: l, i + 1 => by
    show f x :: (l.map f).eraseIdx i = f x :: (l.eraseIdx i).map f
    rw [erase_map f l i]
def tHalf (t : Addr) (u v i jp jm : Int) : TE := fun σ H Q => σ[2]? = some (some (.ref t)) ∧ H t = some (.tup [.int u, .int v]) ∧ ∀ (H2 : Hp) (p : Addr) (j : Int), Same H H2 → H p = none → H2 p = some (.lst ((List.replicate i.natAbs j).map V.int)) → (0 < i ∧ j = jp ∨ i ≤ 0 ∧ j = jm) → Q (.ref p) H2
theorem half (H1 : Hp) (i j1 : Int) (Q' : VK) (hi : i.natAbs ≤ 3) (hq : ∀ (H2 : Hp) (p : Addr), Same H1 H2 → H1 p = none → H2 p = some (.lst ((List.replicate i.natAbs j1).map V.int)) → Q' (.ref p) H2)
    (Ha : Hp) (a : Addr) (sa : Same H1 Ha) (ha : Ha a = some (.lst [.int j1])) : rRepN (.ref a) (.int (i.natAbs : Int)) Ha Q' := by
  refine ⟨a, _, _, rfl, rfl, ha, by omega, by omega, szl _ (by rw [Int.toNat_natCast]; show 1 * i.natAbs ≤ 16777216; omega), fun H2 p s2 n2 h2 => ?_⟩
  rw [Int.toNat_natCast, rep_ints] at h2
  exact hq H2 p (sa.trans s2) (sa.free n2) h2
/-- the turns ahead of a stroke -/
def tTurns : TE := fun σ H Q => ∃ m : Int, σ[8]? = some (some (.int m)) ∧ 0 ≤ m ∧ m < 4 ∧ ∀ (H2 : Hp) (p : Addr) (tt : List Sy), Same H H2 → H p = none → H2 p = some (.lst (wv tt)) → (∀ s ∈ tt, isB s = false ∧ isL s = false) → tt.length ≤ 2 → TurnsBy tt m → Q (.ref p) H2
/-- the two steps more, there and back -/
def tMore (K : PySem.W.Frag) (n : Nat) : TS := fun D σ H => ∃ (r t sa : Addr) (S : Scr) (ss : List Int) (y4 y5 y6 y7 y8 : Option V), σ = [some (.ref r), some (.int n), some (.ref t), some (.ref sa), y4, y5, y6, y7, y8] ∧ RowOk K S H r ∧ sa ≠ r ∧ H sa = some (.lst (ss.map V.int)) ∧ ss.length ≤ 3 ∧ In4 ss ∧
  ∀ (H' : Hp) (sa' : Addr) (ss' : List Int) (y4 : Option V), Drawn K S r H H' → (sa' = sa ∨ H sa' = none) → H' sa' = some (.lst (ss'.map V.int)) → ss.length ≤ ss'.length → ss'.length ≤ ss.length + 2 → In4 ss' → sumD ss' = sumD ss → D.nx [some (.ref r), some (.int n), some (.ref t), some (.ref sa'), y4, y5, y6, y7, y8] H'
theorem m4 (i : Int) : 0 ≤ i % 4 ∧ i % 4 < 4 := ⟨by omega, by omega⟩
theorem SameX.free {r p : Addr} {H H' : Hp} (s : SameX r H H') (hr : p ≠ r) (h : H' p = none) : H p = none := by
  cases q : H p with
  | none => rfl
  | some o => rw [s p o hr q] at h; cases h
theorem Drawn.free {K : PySem.W.Frag} {S : Scr} {r p : Addr} {H H' : Hp} (s : Drawn K S r H H') (h : H' p = none) : H p = none := SameX.free s.same (s.row.there h) h
theorem ok_evenword {f : Addr} {fd : FuncData} {k : Nat} (F : Fun K "_law_even_word" "_law_even_word" s_law_even_word f fd) (GT : Got P w K mg base "_law_taken" k ["row", "many"] (spTaken K))
    (ma : mg "abs" = none) (mi : mg "int" = none) (ml : mg "len" = none) (mT : mg "tuple" = none) : FnOk P w K mg base CX0 (k + 1) f fd ["row", "letters", "move"] (spEvenWord K) := by
  refine F.ok sc_law_even_word (fun vs H Q E h => ?_) (fun cdv A outer s H vs Q E hr h => ?_)
  · obtain ⟨r, t, S, n, u, v, rfl, _⟩ := h
    rfl
  · obtain ⟨r, t, S, n, u, v, rfl, hR, ht, huv, huv1, hn1, hn2, q⟩ := h
    have nd := sc_law_even_word.nd
    have hu3 : u.natAbs ≤ 3 := by omega
    have hv3 : v.natAbs ≤ 3 := by omega
    refine ⟨_, pss_cons (ps_set (i := 3) nd rfl (.inl rfl) (pimp (tHalf t u v u 0 2) (pe_ifExp (pt_cmpR op_gt (pixT (pv 2) pe_int) pe_int (nomark _)) (prepN (plstN (pa_cons pe_int pa_nil)) (pabs ma (pixT (pv 2) pe_int))) (prepN (plstN (pa_cons pe_int pa_nil)) (pabs ma (pixT (pv 2) pe_int))))
          (fun σ H Q ⟨e, h, hq⟩ => ⟨_, e, t, _, _, _, rfl, rfl, SqT.of h, at0, _, _, rfl, rfl, _, rfl, ite2 (fun g => ⟨szl 1, fun Ha a sa na ha => ⟨_, e, t, _, _, _, rfl, rfl, SqT.of (sa _ _ h), at0, _, rfl, half H u 0 Q hu3 (fun H2 p a1 a2 a3 => hq H2 p 0 a1 a2 a3 (.inl ⟨of_decide_eq_true g, rfl⟩)) Ha a sa ha⟩⟩) (fun g => ⟨szl 1, fun Ha a sa na ha => ⟨_, e, t, _, _, _, rfl, rfl, SqT.of (sa _ _ h), at0, _, rfl, half H u 2 Q hu3 (fun H2 p a1 a2 a3 => hq H2 p 2 a1 a2 a3 (.inr ⟨Int.not_lt.mp fun z => g (decide_eq_true z), rfl⟩)) Ha a sa ha⟩⟩)⟩)))
      (pss_cons (ps_set (i := 3) nd rfl (.inl rfl) (pcatN (pv 3) (pimp (tHalf t u v v 1 3) (pe_ifExp (pt_cmpR op_gt (pixT (pv 2) pe_int) pe_int (nomark _)) (prepN (plstN (pa_cons pe_int pa_nil)) (pabs ma (pixT (pv 2) pe_int))) (prepN (plstN (pa_cons pe_int pa_nil)) (pabs ma (pixT (pv 2) pe_int))))
          (fun σ H Q ⟨e, h, hq⟩ => ⟨_, e, t, _, _, _, rfl, rfl, SqT.of h, at1, _, _, rfl, rfl, _, rfl, ite2 (fun g => ⟨szl 1, fun Ha a sa na ha => ⟨_, e, t, _, _, _, rfl, rfl, SqT.of (sa _ _ h), at1, _, rfl, half H v 1 Q hv3 (fun H2 p a1 a2 a3 => hq H2 p 1 a1 a2 a3 (.inl ⟨of_decide_eq_true g, rfl⟩)) Ha a sa ha⟩⟩) (fun g => ⟨szl 1, fun Ha a sa na ha => ⟨_, e, t, _, _, _, rfl, rfl, SqT.of (sa _ _ h), at1, _, rfl, half H v 3 Q hv3 (fun H2 p a1 a2 a3 => hq H2 p 3 a1 a2 a3 (.inr ⟨Int.not_lt.mp fun z => g (decide_eq_true z), rfl⟩)) Ha a sa ha⟩⟩)⟩))))
      (pss_cons (psimp (tMore K n) (ps_if (pt_cmpR op_eq (pcall GT hr (pa_cons (pv 0) (pa_cons pe_int pa_nil))) pe_int (nomark _))
        (pss_cons (ps_set (i := 4) nd rfl (.inl rfl) (pcall GT hr (pa_cons (pv 0) (pa_cons pe_int pa_nil))))
          (pss_one (ps_set (i := 3) nd rfl (.inl rfl) (pcatN (pv 3) (plstN (pa_cons (pv 4) (pa_cons (pmod (pint mi (padd (pv 4) pe_int)) pe_int) pa_nil))))))) pss_nil) ?more)
      (pss_cons (ps_par rfl nd (i := 5) (j := 6) rfl rfl (by decide) rfl rfl (pa_cons (plstN pa_nil) (pa_cons pe_int pa_nil)) (by rfl))
      (pss_cons (ps_while PassesOwn.never (pt_cmpR (op_neNil hr.units) (pv 3) (plstN pa_nil) (nomark _))
        (pss_cons (ps_set (i := 7) nd rfl (.inl rfl) (pe_bm PySem.F.plainAttrs_list PySem.F.slot_list_pop PySem.F.type_list_pop mt_popAt (pv 3) (pa_cons (pcall GT hr (pa_cons (pv 0) (pa_cons (plen ml (pv 3)) pa_nil))) pa_nil)))
        (pss_cons (ps_set (i := 8) nd rfl (.inl rfl) (pmod (pint mi (psub (pv 7) (pv 6))) pe_int))
        (pss_cons (ps_set (i := 5) nd rfl (.inl rfl) (pcatN (pcatN (pv 5) (pimp tTurns (pe_ifExp (pt_cmpR op_eq (pv 8) pe_int (nomark _)) (plstN (pa_cons pe_str pa_nil)) (prepN (plstN (pa_cons pe_str pa_nil)) (pv 8))) ?turns))
            (plstN (pa_cons (pcall GT hr (pa_cons (pv 0) (pa_cons (pv 1) pa_nil))) pa_nil))))
        (pss_one (ps_set (i := 6) nd rfl (.inl rfl) (pv 7)))))))
      (pss_cons (ps_set (i := 8) nd rfl (.inl rfl) (pmod (pint mi (psub pe_int (pv 6))) pe_int))
      (pss_one (ps_ret (ptupleF mT (pcatN (pv 5) (pimp tTurns (pe_ifExp (pt_cmpR op_eq (pv 8) pe_int (nomark _)) (plstN (pa_cons pe_str pa_nil)) (prepN (plstN (pa_cons pe_str pa_nil)) (pv 8))) ?turns2)))))))))), ?_⟩
    case more =>
      rintro D σ H ⟨r, t, sa, S, ss, y4, y5, y6, y7, y8, rfl, hR, nsr, hs, hl, hin, q⟩
      refine ⟨_, rfl, r, S, 3, rfl, hR, by decide, by decide, fun H1 k1 D1 _ => ⟨rfl, _, rfl, ite2 (fun _ => ?_) (fun _ => ?_)⟩⟩
      · refine ⟨_, rfl, r, S, 4, rfl, D1.row, by decide, by decide, fun H2 k2 D2 hk2 => ?_⟩
        have D12 := D1.trans D2
        refine ⟨_, rfl, _, rfl, _, rfl, _, _, rfl, rfl, .inl ⟨_, rfl, _, _, rfl, rfl, (show (0 : Int) < 4 by decide), szl 2, fun H3 l s3 n3 h3 => ?_⟩⟩
        refine ⟨sa, l, _, _, rfl, rfl, s3 _ _ (D12.at nsr hs), h3, szl _ (by simp only [List.length_map, List.length_cons, List.length_nil]; omega), fun H4 p s4 n4 h4 => ?_⟩
        refine q H4 p (ss ++ [(k2 : Int), ((k2 : Int) + 2) % 4]) _ ((D12.then s3).then s4) (.inr (D12.free (s3.free n4))) ?_ (by simp) (by simp) ?_ ?_
        · rw [h4, List.map_append]; rfl
        · intro x hx
          rcases List.mem_append.mp hx with h | h
          · exact hin x h
          · simp only [List.mem_cons, List.not_mem_nil, or_false] at h
            rcases h with rfl | rfl <;> omega
        · rw [sumD_app, dir_back (by omega)]
          refine Prod.ext ?_ ?_ <;> dsimp only <;> omega
      · exact q H1 sa ss _ D1 (.inl rfl) (D1.at nsr hs) (Nat.le_refl _) (by omega) hin rfl
    case turns =>
      rintro σ H Q ⟨m, e, h0, h4, hq⟩
      refine ⟨_, e, rfl, _, rfl, ite2 (fun e => ?_) (fun e => ?_)⟩
      · obtain rfl : m = 3 := by have e := of_decide_eq_true e; injection e
        exact ⟨szl 1, fun H2 p s2 n2 h2 => hq H2 p [.m] s2 n2 h2 (by decide) (by decide) turn_m⟩
      · have hm : m ≠ 3 := fun z => e (decide_eq_true (by rw [z]))
        refine ⟨szl 1, fun Ha a sa na ha => ⟨_, ‹_›, a, m, _, rfl, rfl, ha, by omega, by omega, szl _ (by show 1 * m.toNat ≤ 16777216; omega), fun H2 p s2 n2 h2 => ?_⟩⟩
        have h2' : H2 p = some (.lst (wv (List.replicate m.toNat .p))) := by rw [← rep_sy]; exact h2
        exact hq H2 p _ (sa.trans s2) (sa.free n2) h2' (turns_of (.inr ⟨_, rfl⟩)) (by rw [List.length_replicate]; omega) (by have := turn_rep m.toNat; rw [Int.toNat_of_nonneg h0] at this; exact this)
    case turns2 =>
      rintro σ H Q ⟨m, e, h0, h4, hq⟩
      refine ⟨_, e, rfl, _, rfl, ite2 (fun e => ?_) (fun e => ?_)⟩
      · obtain rfl : m = 3 := by have e := of_decide_eq_true e; injection e
        exact ⟨szl 1, fun H2 p s2 n2 h2 => hq H2 p [.m] s2 n2 h2 (by decide) (by decide) turn_m⟩
      · have hm : m ≠ 3 := fun z => e (decide_eq_true (by rw [z]))
        refine ⟨szl 1, fun Ha a sa na ha => ⟨_, ‹_›, a, m, _, rfl, rfl, ha, by omega, by omega, szl _ (by show 1 * m.toNat ≤ 16777216; omega), fun H2 p s2 n2 h2 => ?_⟩⟩
        have h2' : H2 p = some (.lst (wv (List.replicate m.toNat .p))) := by rw [← rep_sy]; exact h2
        exact hq H2 p _ (sa.trans s2) (sa.free n2) h2' (turns_of (.inr ⟨_, rfl⟩)) (by rw [List.length_replicate]; omega) (by have := turn_rep m.toNat; rw [Int.toNat_of_nonneg h0] at this; exact this)
    -- steps
    refine ⟨rfl, ht, fun H1 p1 j1 S1 n1 h1 l1 => ?_⟩
    refine ⟨_, rfl, rfl, S1 _ _ ht, fun H2 p2 j2 S2 n2 h2 l2 => ?_⟩
    obtain ⟨s1, es1⟩ : ∃ s1, s1 = List.replicate u.natAbs j1 := ⟨_, rfl⟩
    obtain ⟨s2, es2⟩ : ∃ s2, s2 = List.replicate v.natAbs j2 := ⟨_, rfl⟩
    have d1 : In4 s1 ∧ sumD s1 = (u, 0) ∧ s1.length = u.natAbs := by
      refine ⟨fun x hx => ?_, ?_, by rw [es1, List.length_replicate]⟩
      · rw [es1] at hx
        rw [List.eq_of_mem_replicate hx]
        rcases l1 with ⟨_, rfl⟩ | ⟨_, rfl⟩ <;> decide
      · rw [es1, sumD_rep]
        rcases l1 with ⟨z, rfl⟩ | ⟨z, rfl⟩
        · show ((u.natAbs : Int) * 1, (u.natAbs : Int) * 0) = _
          refine Prod.ext ?_ ?_ <;> dsimp only <;> omega
        · show ((u.natAbs : Int) * -1, (u.natAbs : Int) * 0) = _
          refine Prod.ext ?_ ?_ <;> dsimp only <;> omega
    have d2 : In4 s2 ∧ sumD s2 = (0, v) ∧ s2.length = v.natAbs := by
      refine ⟨fun x hx => ?_, ?_, by rw [es2, List.length_replicate]⟩
      · rw [es2] at hx
        rw [List.eq_of_mem_replicate hx]
        rcases l2 with ⟨_, rfl⟩ | ⟨_, rfl⟩ <;> decide
      · rw [es2, sumD_rep]
        rcases l2 with ⟨z, rfl⟩ | ⟨z, rfl⟩
        · show ((v.natAbs : Int) * 0, (v.natAbs : Int) * 1) = _
          refine Prod.ext ?_ ?_ <;> dsimp only <;> omega
        · show ((v.natAbs : Int) * 0, (v.natAbs : Int) * -1) = _
          refine Prod.ext ?_ ?_ <;> dsimp only <;> omega
    rw [← es1] at h1
    rw [← es2] at h2
    clear es1 es2 l1 l2
    obtain ⟨i1, d1, l1⟩ := d1
    obtain ⟨i2, d2, l2⟩ := d2
    have i12 : In4 (s1 ++ s2) := fun x hx => (List.mem_append.mp hx).elim (i1 x) (i2 x)
    have d12 : sumD (s1 ++ s2) = (u, v) := by rw [sumD_app, d1, d2]; refine Prod.ext ?_ ?_ <;> dsimp only <;> omega
    refine ⟨p1, p2, _, _, rfl, rfl, S2 _ _ h1, h2, szl _ (by simp only [List.length_map]; omega), fun H3 p3 S3 n3 h3 => ?_⟩
    rw [← List.map_append] at h3
    have S03 : Same H H3 := (S1.trans S2).trans S3
    have D3 : Drawn K S r H H3 := (Drawn.refl hR).then S03
    have n3' : H p3 = none := S1.free (S2.free n3)
    have nr3 : p3 ≠ r := hR.there n3'
    refine ⟨r, t, p3, S, s1 ++ s2, _, _, _, _, _, rfl, D3.row, nr3, h3, by rw [List.length_append]; omega, i12, fun H4 p4 s4 y4 D4 hp4 h4 hl4 hl4' i4 d4 => ?_⟩
    rw [d12] at d4
    rw [List.length_append] at hl4 hl4'
    have D04 := D3.trans D4
    have n4' : H p4 = none := by
      rcases hp4 with e | e
      · rw [e]; exact n3'
      · exact S03.free e
    -- found, heading = [], 0
    refine ⟨szl 0, fun H5 p5 S5 n5 h5 => ⟨_, _, rfl, ?_⟩⟩
    have D05 := D04.then S5
    refine ⟨fun m σ H' => ∃ (fa : Addr) (ss : List Int) (ws : List Sy) (hd : Int) (y4 y7 y8 : Option V), σ = [some (.ref r), some (.int n), some (.ref t), some (.ref p4), y4, some (.ref fa), some (.int hd), y7, y8] ∧ Drawn K S r H H' ∧
      H' p4 = some (.lst (ss.map V.int)) ∧ H' fa = some (.lst (wv ws)) ∧ fa ≠ r ∧ fa ≠ p4 ∧ ss.length = m ∧ (∀ s ∈ ws, isB s = false) ∧ (∀ k, Sy.l k ∈ ws → k < n) ∧ ws.length + 3 * m ≤ 15 ∧ (1 ≤ m ∨ ws.any isL = true) ∧ 2 ≤ nL ws + m ∧ ws.length ≤ 3 * nL ws ∧ In4 ss ∧ (0 ≤ hd ∧ hd < 4) ∧ ws.foldl wstepE (0, 0, 0) = (u - (sumD ss).1, v - (sumD ss).2, hd),
      ⟨s4.length, p5, s4, [], 0, _, _, _, rfl, D05, S5 _ _ h4, h5, D04.row.there n5, (ne_of_none h4 n5).symm, rfl, by decide, (fun k h => nomatch h), (by simp only [List.length_nil]; omega), .inl (by omega), (by omega), (by decide), i4, (by decide), by rw [d4]; show (0, 0, 0) = (u - u, v - v, 0); rw [Int.sub_self, Int.sub_self]⟩, ?_⟩
    rintro m σ H' ⟨fa, ss, ws, hd, y4, y7, y8, rfl, D, hs, hf, nfr, nfp, hm, f1, f2, f3, f4, f5, f6, f7, f8, f9⟩
    have nr4 : p4 ≠ r := hR.there n4'
    refine ⟨_, rfl, szl 0, fun H6 p6 S6 n6 h6 => ?_⟩
    have D6 := D.then S6
    have hs6 := S6 _ _ hs
    have hf6 := S6 _ _ hf
    refine ⟨p4, p6, ss, rfl, rfl, SqL.of hs6, h6, _, rfl, ?_⟩
    cases ss with
    | nil =>
      refine iteF ?_
      have hm0 : m = 0 := hm.symm
      subst hm0
      have f4' : ws.any isL = true := f4.resolve_left (by omega)
      refine ⟨_, rfl, _, _, rfl, rfl, .inl ⟨_, rfl, _, _, rfl, rfl, (show (0 : Int) < 4 by decide), ?_⟩⟩
      refine ⟨_, rfl, _, rfl, (m4 _).1, (m4 _).2, fun H7 p7 tt S7 n7 h7 b7 l7 u7 => ?_⟩
      refine ⟨fa, p7, _, _, rfl, rfl, S7 _ _ hf6, h7, szl _ (by simp only [List.length_map]; omega), fun H8 p8 S8 n8 h8 => ?_⟩
      refine ⟨p8, _, rfl, SqL.of h8, NewW.of (fun H9 p9 S9 n9 h9 => ?_) (w := ws ++ tt) (by simp only [wv, List.map_append])⟩
      have fin : (ws ++ tt).foldl wstepE (0, 0, 0) = (u, v, 0) := by
        rw [List.foldl_append, f9, u7 _ f8]
        refine Prod.ext ?_ (Prod.ext ?_ ?_)
        · show u - 0 = u; omega
        · show v - 0 = v; omega
        · show (hd + (0 - hd) % 4) % 4 = 0; omega
      refine q H9 p9 (ws ++ tt) (((D6.then S7).then S8).then S9) h9 ⟨?_, ?_, ?_, ?_, ?_⟩ fin
      · intro s hs
        rcases List.mem_append.mp hs with h | h
        · exact f1 s h
        · exact (b7 s h).1
      · intro j hj
        rcases List.mem_append.mp hj with h | h
        · exact f2 j h
        · have := (b7 _ h).2; cases this
      · rw [List.any_append, f4']; rfl
      · rw [List.length_append]; omega
      · rw [List.length_append, nL_app]; omega
    | cons s0 sr =>
      refine iteT ?_
      refine ⟨fun σ' H' => ∃ (fa : Addr) (ss : List Int) (ws : List Sy) (hd : Int) (y4 y7 y8 : Option V), σ' = [some (.ref r), some (.int n), some (.ref t), some (.ref p4), y4, some (.ref fa), some (.int hd), y7, y8] ∧ Drawn K S r H H' ∧
        H' p4 = some (.lst (ss.map V.int)) ∧ H' fa = some (.lst (wv ws)) ∧ fa ≠ r ∧ fa ≠ p4 ∧ ss.length + 1 = m ∧ (∀ s ∈ ws, isB s = false) ∧ (∀ k, Sy.l k ∈ ws → k < n) ∧ ws.length + 3 * (m - 1) ≤ 15 ∧ (ws.any isL = true) ∧ 2 ≤ nL ws + (m - 1) ∧ ws.length ≤ 3 * nL ws ∧ In4 ss ∧ (0 ≤ hd ∧ hd < 4) ∧ ws.foldl wstepE (0, 0, 0) = (u - (sumD ss).1, v - (sumD ss).2, hd), ?_, ?_⟩
      · rintro σ' H' ⟨fa, ss, ws, hd, y4, y7, y8, rfl, D, hs, hf, nfr, nfp, hm, f1, f2, f3, f4, f5, f6, f789⟩
        exact ⟨m - 1, by omega, fa, ss, ws, hd, y4, y7, y8, rfl, D, hs, hf, nfr, nfp, by omega, f1, f2, f3, .inr f4, f5, f6, f789⟩
      · refine ⟨_, rfl, .inl ⟨rfl, _, SqL.of hs6⟩, _, rfl, _, rfl, p4, _, rfl, .inl (SqL.of hs6), r, S, (s0 :: sr).length, ?_, D6.row, by simp, ?_, fun H7 k7 D7 hk7 => ?_⟩
        · rw [List.length_map]; rfl
        · rw [hm]; omega
        have hs7 := D7.at nr4 hs6
        have hf7 := D7.at nfr hf6
        have hk7' : k7 < ((s0 :: sr).map V.int).length := by rw [List.length_map]; exact hk7
        have sx : seqIndex? (k7 : Int) ((s0 :: sr).map V.int).length = some k7 := by
          have := seqIndex_of (n := ((s0 :: sr).map V.int).length) (k := (k7 : Int)) (by omega) (by omega)
          rw [this, Int.toNat_natCast]
        have gx : ((s0 :: sr).map V.int)[k7]? = some (.int (s0 :: sr)[k7]) := by
          rw [List.getElem?_map, List.getElem?_eq_getElem hk7]; rfl
        have xe := List.getElem?_eq_getElem hk7
        have x4 := f7 _ (List.mem_of_getElem? xe)
        have sd := sumD_erase xe
        have in8 : In4 ((s0 :: sr).eraseIdx k7) := fun y hy => f7 y (List.mem_of_mem_eraseIdx hy)
        generalize (s0 :: sr)[k7] = x at gx xe x4 sd
        refine ⟨p4, _, _, k7, _, rfl, rfl, hs7, by omega, by omega, sx, gx, ?_⟩
        have D8 : Drawn K S r H (upd H7 p4 (.lst (((s0 :: sr).map V.int).eraseIdx k7))) := (D6.trans D7).put hR n4'
        have hs8 : (upd H7 p4 (.lst (((s0 :: sr).map V.int).eraseIdx k7))) p4 = some (.lst (((s0 :: sr).eraseIdx k7).map V.int)) := by rw [upd_same, erase_map]
        have hf8 : (upd H7 p4 (.lst (((s0 :: sr).map V.int).eraseIdx k7))) fa = some (.lst (wv ws)) := by rw [upd_ne nfp]; exact hf7
        have hl8 : ((s0 :: sr).eraseIdx k7).length + 1 = m := by
          rw [List.length_eraseIdx_of_lt hk7, ← hm]
          simp only [List.length_cons]; omega
        generalize (upd H7 p4 (.lst (((s0 :: sr).map V.int).eraseIdx k7))) = H8 at D8 hs8 hf8
        generalize (s0 :: sr).eraseIdx k7 = ss8 at hs8 hl8 sd in8
        refine ⟨_, rfl, _, rfl, _, _, rfl, rfl, .inl ⟨_, rfl, _, _, rfl, rfl, (show (0 : Int) < 4 by decide), ?_⟩⟩
        refine ⟨_, rfl, _, rfl, (m4 _).1, (m4 _).2, fun H9 p9 tt S9 n9 h9 b9 l9 u9 => ?_⟩
        refine ⟨fa, p9, _, _, rfl, rfl, S9 _ _ hf8, h9, szl _ (by simp only [List.length_map]; omega), fun Ha pa Sa na ha => ?_⟩
        have Da := (D8.then S9).then Sa
        refine ⟨_, rfl, _, rfl, r, S, n, rfl, Da.row, hn1, by omega, fun Hb kb Db hkb => ?_⟩
        refine ⟨szl 1, fun Hc pc Sc nc hc => ?_⟩
        have npr : pa ≠ r := (D8.then S9).row.there na
        refine ⟨pa, pc, _, _, rfl, rfl, Sc _ _ (Db.at npr ha), hc, szl _ (by simp only [List.length_append, List.length_map, List.length_cons, List.length_nil]; omega), fun Hd pd Sd nd hdl => ?_⟩
        have Dd := (((Da.trans Db).then Sc).then Sd)
        have hsd := Sd _ _ (Sc _ _ (Db.at nr4 (Sa _ _ (S9 _ _ hs8))))
        refine ⟨_, rfl, pd, ss8, ws ++ tt ++ [.l kb], _, _, _, _, rfl, Dd, hsd, ?_, (((Da.trans Db).then Sc).row.there nd), (ne_of_none (Sc _ _ (Db.at nr4 (Sa _ _ (S9 _ _ hs8)))) nd).symm, hl8, ?_, ?_, ?_, ?_, ?_, ?_, in8, x4, ?_⟩
        · rw [hdl, wv, wv, wv, List.map_append, List.map_append]; rfl
        · intro s hs
          rcases List.mem_append.mp hs with h | h
          · rcases List.mem_append.mp h with h | h
            · exact f1 s h
            · exact (b9 s h).1
          · rw [List.mem_singleton.mp h]; rfl
        · intro j hj
          rcases List.mem_append.mp hj with h | h
          · rcases List.mem_append.mp h with h | h
            · exact f2 j h
            · have := (b9 _ h).2; cases this
          · cases List.mem_singleton.mp h; exact hkb
        · simp only [List.length_append, List.length_singleton]; omega
        · rw [List.any_append]; simp [isL]
        · have e1 : nL [Sy.l kb] = 1 := rfl
          rw [nL_app, nL_app, e1]; omega
        · have e1 : nL [Sy.l kb] = 1 := rfl
          rw [nL_app, nL_app, e1]
          simp only [List.length_append, List.length_singleton]; omega
        · rw [List.foldl_append, List.foldl_append, f9, u9 _ f8, sd]
          have eh : (hd + (x - hd) % 4) % 4 = x := by omega
          show wstepE (u - ((dirE x).1 + (sumD ss8).1), v - ((dirE x).2 + (sumD ss8).2), (hd + (x - hd) % 4) % 4) (Sy.l kb) = _
          rw [eh]
          refine Prod.ext ?_ (Prod.ext ?_ rfl)
          · show u - ((dirE x).1 + (sumD ss8).1) + (dirE x).1 = u - (sumD ss8).1; omega
          · show v - ((dirE x).2 + (sumD ss8).2) + (dirE x).2 = v - (sumD ss8).2; omega
end
end SK
namespace SK
open PySem PySem.Spec PyProof.Rows L2
def spEvenBook (K : PySem.W.Frag) : Sp := fun vs H Q _ => ∃ (r : Addr) (S : Scr), vs = [.ref r] ∧ RowOk K S H r ∧
  ∀ (H' : Hp) (p b m : Addr) (ws : List (List Sy)) (st : List Sy), Drawn K S r H H' → H' p = some (.tup [.ref b, .ref m]) → BookAt H' b ws st → GoodBook ws st → Q (.ref p) H'
/-- words whose paths go (u, v) on, no turning in all, but for a branch -/
def EvenWs (u v : Int) (ws : List (List Sy)) : Prop := ws.length ≤ 2 ∧ ∀ w ∈ ws, ∃ w0 : List Sy, (∀ s ∈ w0, isB s = false) ∧ w0.foldl wstepE (0, 0, 0) = (u, v, 0) ∧ Br w0 w
def spEvenBookE (K : PySem.W.Frag) : Sp := fun vs H Q _ => ∃ (r : Addr) (S : Scr), vs = [.ref r] ∧ RowOk K S H r ∧
  ∀ (H' : Hp) (p b m : Addr) (ws : List (List Sy)) (st : List Sy) (u v : Int), Drawn K S r H H' → H' p = some (.tup [.ref b, .ref m]) → BookAt H' b ws st → GoodBook ws st → H' m = some (.tup [.int u, .int v]) → EvenWs u v ws → 2 ≤ u.natAbs + v.natAbs ∧ u.natAbs + v.natAbs ≤ 3 → Q (.ref p) H'
theorem good_start {n : Nat} (h : 1 ≤ n) : Good n 40 [.l (n - 1), .l 0] := ⟨rfl, fun k hk => by
  simp only [List.mem_cons, List.not_mem_nil, or_false] at hk
  rcases hk with e | e <;> cases e <;> omega, rfl, by show 2 ≤ 40; decide, by show 2 + 6 ≤ 8 * 2; decide⟩
theorem good_up {n L : Nat} {w : List Sy} (h : Good 1 L w) (hn : 1 ≤ n) : Good n L w := ⟨h.nst, fun k hk => Nat.lt_of_lt_of_le (h.lets k hk) hn, h.has, h.len, h.slim⟩
section
variable {P : Program} {w : World} {K : PySem.W.Frag} {mg : Str → Option Value} {base : Heap}
theorem ok_evenbookE {f : Addr} {fd : FuncData} {k : Nat} (F : Fun K "_law_even_book" "_law_even_book" s_law_even_book f fd) (GT : Got P w K mg base "_law_taken" k ["row", "many"] (spTaken K)) (GP : Got P w K mg base "_law_pick" k ["row", "things"] (spPick K))
    (GW : Got P w K mg base "_law_even_word" k ["row", "letters", "move"] (spEvenWord K)) (GB : Got P w K mg base "_law_branched" k ["row", "word", "letters"] (spBranched K))
    (mR : mg "range" = none) (mT : mg "tuple" = none) : FnOk P w K mg base CX0 (k + 1) f fd ["row"] (spEvenBookE K) := by
  refine F.ok sc_law_even_book (fun vs H Q E h => ?_) (fun cdv A outer s H vs Q E hr h => ?_)
  · obtain ⟨r, S, rfl, _⟩ := h
    rfl
  · obtain ⟨r, S, rfl, hR, q⟩ := h
    have nd := sc_law_even_book.nd
    refine ⟨_, pss_cons (ps_asg (ptupN (pa_cons (padd pe_int (pcall GT hr (pa_cons (pv 0) (pa_cons pe_int pa_nil)))) (pa_cons (pcall GP hr (pa_cons (pv 0) (pa_cons (plstN (pa_cons (ptupN (pa_cons pe_int (pa_cons pe_int pa_nil))) (pa_cons (ptupN (pa_cons pe_int (pa_cons pe_int pa_nil))) (pa_cons (ptupN (pa_cons pe_int (pa_cons pe_int pa_nil))) (pa_cons (ptupN (pa_cons pe_int (pa_cons pe_int pa_nil))) (pa_cons (ptupN (pa_cons pe_int (pa_cons (pe_un un_neg pe_int) pa_nil))) (pa_cons (ptupN (pa_cons (pe_un un_neg pe_int) (pa_cons pe_int pa_nil))) (pa_cons (ptupN (pa_cons pe_int (pa_cons pe_int pa_nil))) (pa_cons (ptupN (pa_cons pe_int (pa_cons pe_int pa_nil))) (pa_cons (ptupN (pa_cons pe_int (pa_cons pe_int pa_nil))) pa_nil)))))))))) pa_nil))) pa_nil)))
        (pg_tup (by rfl) (pgs_cons (pg_name (i := 1) nd rfl (.inr rfl)) (pgs_cons (pg_name (i := 2) nd rfl (.inr rfl)) pgs_nil))))
      (pss_cons (ps_set (i := 3) nd rfl (.inl rfl) (ptupleN mT
          (pe_lc (own := [("k", 5)]) (g := gName 5) (tt := tYes) rfl nd (pi_range1 rfl mR (pa_cons (pv 1) pa_nil)) (blkOk_by (N := n_law_even_book) (sc := defScope s_law_even_book) (by decide +kernel))
            (fun _ _ _ _ _ => pg_name (i := 5) nd rfl (Or.inl rfl)) (fun _ _ _ _ _ => pts_nil)
            (fun _ _ _ _ _ => pcall GB hr (pa_cons (pv 0) (pa_cons (pcall GW hr (pa_cons (pv 0) (pa_cons (pv 1) (pa_cons (pv 2) pa_nil)))) (pa_cons (pv 1) pa_nil)))))))
      (pss_cons (ps_set (i := 4) nd rfl (.inl rfl) (pcall GP hr (pa_cons (pv 0) (pa_cons (plstN (pa_cons (pwd (wd_l (k := 0) wd_nil) (by decide)) (pa_cons (pwd (wd_l (k := 0) wd_nil) (by decide)) (pa_cons (pwd (wd_l (k := 0) (wd_s (sy := .p) rfl (wd_l (k := 0) wd_nil))) (by decide)) (pa_cons (pwd (wd_l (k := 0) (wd_s (sy := .p) rfl (wd_l (k := 0) (wd_s (sy := .p) rfl (wd_l (k := 0) (wd_s (sy := .p) rfl (wd_l (k := 0) wd_nil))))))) (by decide)) (pa_cons (ptupF (pa_cons (psub (pv 1) pe_int) (pa_cons pe_int pa_nil))) pa_nil)))))) pa_nil))))
      (pss_one (ps_ret (ptupN (pa_cons (ptupN (pa_cons (pv 3) (pa_cons (pv 4) pa_nil))) (pa_cons (pv 2) pa_nil))))))), ?_⟩
    refine ⟨_, rfl, r, S, 2, rfl, hR, by decide, by decide, fun H1 k1 D1 hk1 => ?_⟩
    obtain ⟨n, hn⟩ : ∃ n : Nat, n = 1 + k1 := ⟨_, rfl⟩
    have hn1 : 1 ≤ n := by omega
    have hn2 : n ≤ 8 := by omega
    have hn3 : n ≤ 3 := by omega
    have hn4 : n ≤ 2 := by omega
    refine ⟨1, _, rfl, rfl, ?_⟩
    have en : (V.int (1 + (k1 : Int))) = V.int (n : Int) := by rw [hn]; congr 1
    dsimp only
    rw [en]
    clear en hn hk1
    refine ⟨_, rfl, ?_⟩
    refine ⟨szl 2, fun M0 a0 s0 n0 h0 => ?_⟩
    refine ⟨szl 2, fun M1 a1 s1 n1 h1 => ?_⟩
    refine ⟨szl 2, fun M2 a2 s2 n2 h2 => ?_⟩
    refine ⟨szl 2, fun M3 a3 s3 n3 h3 => ?_⟩
    refine ⟨_, rfl, szl 2, fun M4 a4 s4 n4 h4 => ?_⟩
    refine ⟨_, rfl, szl 2, fun M5 a5 s5 n5 h5 => ?_⟩
    refine ⟨szl 2, fun M6 a6 s6 n6 h6 => ?_⟩
    refine ⟨szl 2, fun M7 a7 s7 n7 h7 => ?_⟩
    refine ⟨szl 2, fun M8 a8 s8 n8 h8 => ?_⟩
    refine ⟨szl 9, fun M9 a9 s9 n9 h9 => ?_⟩
    have t9 : Same M9 M9 := Same.refl _
    have t8 : Same M8 M9 := s9.trans t9
    have t7 : Same M7 M9 := s8.trans t8
    have t6 : Same M6 M9 := s7.trans t7
    have t5 : Same M5 M9 := s6.trans t6
    have t4 : Same M4 M9 := s5.trans t5
    have t3 : Same M3 M9 := s4.trans t4
    have t2 : Same M2 M9 := s3.trans t3
    have t1 : Same M1 M9 := s2.trans t2
    have t0 : Same M0 M9 := s1.trans t1
    have tm : Same H1 M9 := s0.trans t0
    have u := ((((((((s0.trans s1).trans s2).trans s3).trans s4).trans s5).trans s6).trans s7).trans s8)
    have D2 := D1.then tm
    refine ⟨r, a9, S, _, rfl, D2.row, (D1.then u).row.there n9, h9, (show 1 ≤ 9 by decide), (show 9 < 1073741824 by decide), fun H3 kk v D3 hk => ?_⟩
    have tt := D3.tups D2.row
    obtain ⟨m, mu, mv, rfl, hm, hm1, hm2⟩ : ∃ (m : Addr) (mu mv : Int), v = .ref m ∧ H3 m = some (.tup [.int mu, .int mv]) ∧ mu.natAbs + mv.natAbs ≤ 3 ∧ 2 ≤ mu.natAbs + mv.natAbs := by
      match kk, hk with
      | 0, hk => cases hk; exact ⟨a0, 1, 1, rfl, tt.1 _ _ (t0 _ _ h0), by decide, by decide⟩
      | 1, hk => cases hk; exact ⟨a1, 1, 1, rfl, tt.1 _ _ (t1 _ _ h1), by decide, by decide⟩
      | 2, hk => cases hk; exact ⟨a2, 2, 0, rfl, tt.1 _ _ (t2 _ _ h2), by decide, by decide⟩
      | 3, hk => cases hk; exact ⟨a3, 2, 1, rfl, tt.1 _ _ (t3 _ _ h3), by decide, by decide⟩
      | 4, hk => cases hk; exact ⟨a4, 1, -1, rfl, tt.1 _ _ (t4 _ _ h4), by decide, by decide⟩
      | 5, hk => cases hk; exact ⟨a5, -1, 1, rfl, tt.1 _ _ (t5 _ _ h5), by decide, by decide⟩
      | 6, hk => cases hk; exact ⟨a6, 0, 2, rfl, tt.1 _ _ (t6 _ _ h6), by decide, by decide⟩
      | 7, hk => cases hk; exact ⟨a7, 1, 2, rfl, tt.1 _ _ (t7 _ _ h7), by decide, by decide⟩
      | 8, hk => cases hk; exact ⟨a8, 3, 0, rfl, tt.1 _ _ (t8 _ _ h8), by decide, by decide⟩
      | j + 9, hk => simp at hk
    have D03 := D1.trans (D2.trans D3 |> fun _ => (Drawn.refl D1.row).then tm |>.trans D3)
    clear tt h0 h1 h2 h3 h4 h5 h6 h7 h8 h9 hk
    refine ⟨szl 2, fun H4 p4 S4 n4 h4 => ?_⟩
    refine ⟨p4, _, rfl, SqT.of h4, rfl, _, _, rfl, _, _, rfl, rfl, ?_⟩
    have D4 := D03.then S4
    have hm4 := S4 _ _ hm
    refine ⟨_, rfl, (n : Int), rfl, by omega, by omega, fun D nD => ?_⟩
    rw [Int.toNat_natCast]
    have nDr := D4.row.there nD
    refine lc_range (lo := 0) (n := n) (fun i H' => ∃ (as : List Addr) (ws : List (List Sy)), Drawn K S r H4 H' ∧ H' D = some (.lst (as.map V.ref)) ∧ Words H' as ws ∧ ws.length = i ∧ (∀ w ∈ ws, Good n 40 w) ∧ ∀ w ∈ ws, ∃ w0 : List Sy, (∀ s ∈ w0, isB s = false) ∧ w0.foldl wstepE (0, 0, 0) = (mu, mv, 0) ∧ Br w0 w)
      ⟨[], [], (Drawn.refl D4.row).new nD, upd_same, .nil, rfl, (fun w h => nomatch h), fun w h => nomatch h⟩ ?_ ?_
    · rintro i H' hi ⟨as, ws, D2, hD, hw, hl, hg, hE⟩
      refine ⟨rfl, _, rfl, _, rfl, _, rfl, _, rfl, r, m, S, n, mu, mv, rfl, D2.row, D2.tup D4.row hm4, hm1, hm2, hn1, hn2, fun H3 t w3 D3 ht hw3 he3 => ?_⟩
      refine ⟨_, rfl, r, t, S, n, 17, w3, rfl, D3.row, ht, hw3, by decide, hn1, hn2, fun H4' p w4 D4' hp hw4 hb4 => ?_⟩
      have D34 := D3.trans D4'
      refine ⟨_, D34.at nDr hD, ?_, as ++ [p], ws ++ [w4], (D2.trans D34).put D4.row nD, ?_, ?_, ?_, ?_, ?_⟩
      · have := hw.length
        rw [List.length_map]; exact Nat.lt_of_le_of_lt (show as.length ≤ 1000 by omega) (by decide)
      · rw [upd_same, List.map_append]; rfl
      · have s : TupS H4' (upd H4' D (.lst (as.map V.ref ++ [V.ref p]))) := TupS.refl.lst (D34.at nDr hD)
        exact Paired.snoc ((hw.keep (D34.tups D2.row)).keep s) (s.wd hp)
      · rw [List.length_append, List.length_singleton, hl]
      · intro w hw
        rcases List.mem_append.mp hw with h | h
        · exact hg w h
        · rw [List.mem_singleton.mp h]; exact hw4.mono (by decide)
      · intro w hw
        rcases List.mem_append.mp hw with h | h
        · exact hE w h
        · rw [List.mem_singleton.mp h]; exact ⟨w3, hw3.flat, he3, hb4⟩
    · rintro H' ⟨as, ws, D5, hD, hw, hl, hg, hE⟩
      refine ⟨D, _, rfl, SqL.of hD, fun H6 p6 S6 n6 h6 => ?_⟩
      have D46 := D5.then S6
      have D6 := D4.trans D46
      have hw6 := hw.keep (.of S6)
      have hm6 := D46.tup D4.row hm4
      clear hD hw D5 S6 S4 n4 h4 n6
      refine ⟨_, rfl, ?_⟩
      refine fun M0 a0 s0 n0 h0 => ?_
      refine fun M1 a1 s1 n1 h1 => ?_
      refine fun M2 a2 s2 n2 h2 => ?_
      refine fun M3 a3 s3 n3 h3 => ?_
      refine ⟨_, rfl, _, _, rfl, rfl, szl 2, NewW.of (fun M4 a4 s4 n4 h4 => ?_) (w := [.l (n - 1), .l 0]) ?_⟩
      rotate_left
      · have en : (n : Int) - 1 = ((n - 1 : Nat) : Int) := by omega
        show [V.int ((n : Int) - 1), V.int 0] = _
        rw [en]; rfl
      refine ⟨szl 5, fun M5 a5 s5 n5 h5 => ?_⟩
      have t5 : Same M5 M5 := Same.refl _
      have t4 : Same M4 M5 := s5.trans t5
      have t3 : Same M3 M5 := s4.trans t4
      have t2 : Same M2 M5 := s3.trans t3
      have t1 : Same M1 M5 := s2.trans t2
      have t0 : Same M0 M5 := s1.trans t1
      have tm : Same H6 M5 := s0.trans t0
      have u := ((((s0.trans s1).trans s2).trans s3).trans s4)
      have Dl := D6.then tm
      refine ⟨r, a5, S, _, rfl, Dl.row, (D6.then u).row.there n5, h5, (show 1 ≤ 5 by decide), (show 5 < 1073741824 by decide), fun H8 kk v D8 hk => ?_⟩
      have tt := D8.tups Dl.row
      obtain ⟨b, st, rfl, hb, hst⟩ : ∃ (b : Addr) (st : List Sy), v = .ref b ∧ WdAt H8 b st ∧ Good n 40 st := by
        match kk, hk with
        | 0, hk => cases hk; exact ⟨a0, [.l 0], rfl, tt.wd (h0.same t0), good_up (good_dec (by decide)) hn1⟩
        | 1, hk => cases hk; exact ⟨a1, [.l 0], rfl, tt.wd (h1.same t1), good_up (good_dec (by decide)) hn1⟩
        | 2, hk => cases hk; exact ⟨a2, [.l 0, .p, .l 0], rfl, tt.wd (h2.same t2), good_up (good_dec (by decide)) hn1⟩
        | 3, hk => cases hk; exact ⟨a3, [.l 0, .p, .l 0, .p, .l 0, .p, .l 0], rfl, tt.wd (h3.same t3), good_up (good_dec (by decide)) hn1⟩
        | 4, hk =>
          cases hk
          exact ⟨a4, [.l (n - 1), .l 0], rfl, tt.wd (h4.same t4), good_start hn1⟩
        | j + 5, hk => simp at hk
      have D08 := Dl.trans D8
      have w8 := (hw6.keep (.of tm)).keep (D8.tups Dl.row)
      have h8 := D8.tup Dl.row (tm _ _ h6)
      have hm8 := D8.tup Dl.row (tm _ _ hm6)
      refine ⟨_, rfl, _, rfl, szl 2, fun H9 p9 S9 n9 h9 => ?_⟩
      refine ⟨_, rfl, szl 2, fun Ha pa Sa na ha => ?_⟩
      subst hl
      exact q Ha pa p9 m ws st mu mv ((D08.then S9).then Sa) ha ⟨p6, b, as, Sa _ _ h9, Sa _ _ (S9 _ _ h8), (hb.same S9).same Sa, (w8.keep (.of S9)).keep (.of Sa)⟩ ⟨hn1, hn3, hg, hst⟩ (Sa _ _ (S9 _ _ hm8)) ⟨hn4, hE⟩ ⟨hm2, hm1⟩
theorem ok_evenbook {f : Addr} {fd : FuncData} {k : Nat} (F : Fun K "_law_even_book" "_law_even_book" s_law_even_book f fd) (GT : Got P w K mg base "_law_taken" k ["row", "many"] (spTaken K)) (GP : Got P w K mg base "_law_pick" k ["row", "things"] (spPick K))
    (GW : Got P w K mg base "_law_even_word" k ["row", "letters", "move"] (spEvenWord K)) (GB : Got P w K mg base "_law_branched" k ["row", "word", "letters"] (spBranched K))
    (mR : mg "range" = none) (mT : mg "tuple" = none) : FnOk P w K mg base CX0 (k + 1) f fd ["row"] (spEvenBook K) :=
  (ok_evenbookE F GT GP GW GB mR mT).imp fun vs H Q E ⟨r, S, e, hR, q⟩ => ⟨r, S, e, hR, fun H' p b m ws st _ _ D h1 h2 h3 _ _ _ => q H' p b m ws st D h1 h2 h3⟩
end
end SK
namespace SK
open PySem PySem.Spec PyProof.Rows L2
/-! ### a list or a tuple walked -/
def Sq (K : PySem.W.Frag) (H : Hp) (a : Addr) (xs : List V) : Prop := SqL K H a xs ∨ SqT K H a xs
theorem Sq.same {K : PySem.W.Frag} {H H' : Hp} {a : Addr} {xs : List V} (h : Sq K H a xs) (s : Same H H') : Sq K H' a xs := h.elim (fun h => .inl (s.seq h)) fun h => .inr (sTup s h)
def iSeq (K : PySem.W.Frag) (i : Nat) : TI := fun σ H R => ∃ a, σ[i]? = some (some (.ref a)) ∧ (((∃ xs, SqL K H a xs) ∧ R (Itl K a) H) ∨ ((∃ xs, SqT K H a xs) ∧ R (Itt K a) H))
theorem pi_seq {X : Cx} {tg l : Expr} {i : Nat} (hl : PE X l (tVar i)) : PI X tg l (iSeq X.K i) := by
  refine ⟨fun pins s σ H R I ⟨a, e, q⟩ => ?_⟩
  rcases q with ⟨hx, q⟩ | ⟨hx, q⟩
  · exact (pi_list hl).run pins s σ H R I ⟨_, e, a, rfl, hx, q⟩
  · exact (pi_tup hl).run pins s σ H R I ⟨_, e, a, rfl, hx, q⟩
/-- the two walks by one invariant -/
theorem for_seq {K : PySem.W.Frag} {a : Addr} {xs : List V} {g : TG} {tb : TS} {D : Ends} {σ : L2.St} {H : Hp} (h : Sq K H a xs) (Pv : Nat → L2.St → Hp → Prop) (h0 : Pv 0 σ H) (hl : ∀ i σ H', i ≤ xs.length → Pv i σ H' → Same H H')
    (hs : ∀ i x σ H, xs[i]? = some x → Pv i σ H → g x σ H fun σ2 H2 => tb { D with nx := Pv (i + 1), ct := Pv (i + 1), bk := D.nx } σ2 H2) (hd : ∀ σ H, Pv xs.length σ H → D.nx σ H) :
    ((∃ xs, SqL K H a xs) ∧ ∃ W : Nat → Nat → L2.St → Hp → Prop, (∃ m, W 0 m σ H) ∧ ∀ i m σ H, W i m σ H → ((Itl K a).stop i H ∧ D.nx σ H) ∨ ((Itl K a).go i H ∧ ∃ N : L2.St → Hp → Prop, (∀ σ' H', N σ' H' → ∃ m', m' < m ∧ W (i + 1) m' σ' H') ∧ ∀ x H', (Itl K a).yld i H x H' → g x σ H' fun σ2 H2 => tb { D with nx := N, ct := N, bk := D.nx } σ2 H2)) ∨
    ((∃ xs, SqT K H a xs) ∧ ∃ W : Nat → Nat → L2.St → Hp → Prop, (∃ m, W 0 m σ H) ∧ ∀ i m σ H, W i m σ H → ((Itt K a).stop i H ∧ D.nx σ H) ∨ ((Itt K a).go i H ∧ ∃ N : L2.St → Hp → Prop, (∀ σ' H', N σ' H' → ∃ m', m' < m ∧ W (i + 1) m' σ' H') ∧ ∀ x H', (Itt K a).yld i H x H' → g x σ H' fun σ2 H2 => tb { D with nx := N, ct := N, bk := D.nx } σ2 H2)) := by
  rcases h with h | h
  · exact .inl ⟨⟨xs, h⟩, for_list (K := K) (a := a) (xs := xs) Pv h0 (fun i σ H' hi p => (hl i σ H' hi p).seq h) hs hd⟩
  · exact .inr ⟨⟨xs, h⟩, for_tup (K := K) (a := a) (xs := xs) Pv h0 (fun i σ H' hi p => sTup (hl i σ H' hi p) h) hs hd⟩
/-! ### isinstance -/
def rIs (K : PySem.W.Frag) (T : String) : List V → Hp → VK → Prop := fun xs H Q => ∃ (x : V) (n : String) (b : Bool), xs = [x, .ty T] ∧ TyX K H x (.type n) ∧ kitB n T = some b ∧ Q (.bl b) H
theorem call_is {X : Cx} (T : String) : CallR X (.builtin "isinstance") (rIs X.K T) := fun pins s σ H xs us Q I r ⟨x, n, b, e, t, k, q⟩ => call_isi pins s σ H xs us Q I r ⟨x, .ty T, .type n, .type T, b, e, .ty T, t, kit_ty k, q⟩
theorem ty_int {K : PySem.W.Frag} {H : Hp} (i : Int) : TyX K H (.int i) (.type "int") := .base (.int i)
theorem ty_str {K : PySem.W.Frag} {H : Hp} (z : Str) : TyX K H (.str z) (.type "str") := .base (.str z)
theorem ty_non {K : PySem.W.Frag} {H : Hp} : TyX K H .non (.type "NoneType") := .base .non
theorem ty_bl {K : PySem.W.Frag} {H : Hp} (b : Bool) : TyX K H (.bl b) (.type "bool") := .base (.bl b)
theorem ty_lst {K : PySem.W.Frag} {H : Hp} {a : Addr} {xs : List V} (h : H a = some (.lst xs)) : TyX K H (.ref a) (.type "list") := .base (.lst h)
theorem ty_tup {K : PySem.W.Frag} {H : Hp} {a : Addr} {xs : List V} (h : H a = some (.tup xs)) : TyX K H (.ref a) (.type "tuple") := .base (.tup h)
theorem ty_sy {K : PySem.W.Frag} {H : Hp} (s : Sy) : ∃ n b, TyX K H s.v (.type n) ∧ kitB n "str" = some b ∧ b = !isL s := by
  cases s with
  | l k => exact ⟨_, _, ty_int _, (by decide +kernel : kitB "int" "str" = some false), rfl⟩
  | p => exact ⟨_, _, ty_str _, (by decide +kernel : kitB "str" "str" = some true), rfl⟩
  | m => exact ⟨_, _, ty_str _, (by decide +kernel : kitB "str" "str" = some true), rfl⟩
  | o => exact ⟨_, _, ty_str _, (by decide +kernel : kitB "str" "str" = some true), rfl⟩
  | c => exact ⟨_, _, ty_str _, (by decide +kernel : kitB "str" "str" = some true), rfl⟩
section
variable {X : Cx}
/-- isinstance(e, T), T a built-in type by its name -/
theorem pis {e : Expr} {te : TE} {p p2 pos : Pos} {x : Str} (T : String) (hv : bootBuiltins x = some (.type T)) (mI : X.mg "isinstance" = none) (mT : X.mg x = none) (h : PE X e te) (hg : Gl X "isinstance" := by rfl) (hgx : Gl X x := by rfl) (hn : x ≠ "__name__" := by decide) (hdb : (x == ("__debug__" : Str)) = false := by decide)
    (hs2 : starEach [.Name x p2] X.env = (false, eval (.Name x p2) X.env) :: starEach [] X.env := by rfl) (hs1 : starEach [e, .Name x p2] X.env = (false, eval e X.env) :: starEach [.Name x p2] X.env := by rfl) (hp1 : (backTo pos (starEach [.Name x p2] X.env)).any (·.1) = false := by rfl) :
    PE X (.Call (.Name "isinstance" p) [e, .Name x p2] [] pos) (tCB (rIs X.K T) (tCons te (tCons (tC (.ty T)) tNil))) :=
  pe_callB (call_is T) hg mI (by decide +kernel) (pa_cons h (pa_cons (pe_bltn (v := .ty T) hgx mT hv rfl hn hdb) pa_nil hs2) hs1) (by decide) (by decide) hs1 hp1
/-- not isinstance(part, str) of a sign -/
def tSyTest (te : TE) : TT := fun σ H Q => te σ H fun x H1 => ∃ s : Sy, x = s.v ∧ Q (isL s) H1
theorem ptNotStr {e : Expr} {te : TE} {p p2 pos pos2 : Pos} (mI : X.mg "isinstance" = none) (mS : X.mg "str" = none) (h : PE X e te) (hg : Gl X "isinstance" := by rfl) (hgx : Gl X "str" := by rfl)
    (hs2 : starEach [.Name "str" p2] X.env = (false, eval (.Name "str" p2) X.env) :: starEach [] X.env := by rfl) (hs1 : starEach [e, .Name "str" p2] X.env = (false, eval e X.env) :: starEach [.Name "str" p2] X.env := by rfl) (hp1 : (backTo pos (starEach [.Name "str" p2] X.env)).any (·.1) = false := by rfl) :
    PT X (.UnaryOp .Not (.Call (.Name "isinstance" p) [e, .Name "str" p2] [] pos) pos2) (fun σ H Q => tCB (rIs X.K "str") (tCons te (tCons (tC (.ty "str")) tNil)) σ H fun x H1 => ∃ k, x = .bl k ∧ Q (!k) H1) := by
  have a := pis (X := X) (p := p) (p2 := p2) (pos := pos) "str" (by decide +kernel) mI mS h hg hgx (by decide) (by decide) hs2 hs1 hp1
  exact pt_not (pt_val a)
end
end SK
namespace SK
open PySem PySem.Spec PyProof.Rows L2
/-! ### growth -/
def img (ws : List (List Sy)) : Sy → List Sy
  | .l k => ws.getD k []
  | s => [s]
def grow (ws : List (List Sy)) (w : List Sy) : List Sy := w.flatMap (img ws)
def grown (ws : List (List Sy)) (st : List Sy) : Nat → List Sy
  | 0 => st
  | n + 1 => grow ws (grown ws st n)
theorem grow_app (ws : List (List Sy)) (a b : List Sy) : grow ws (a ++ b) = grow ws a ++ grow ws b := List.flatMap_append
theorem any_pos {w : List Sy} (h : w.any isL = true) : 1 ≤ w.length := by
  cases w with
  | nil => cases h
  | cons _ _ => simp
theorem img_lets {ws : List (List Sy)} (hg : ∀ w ∈ ws, Good ws.length 40 w) {s : Sy} (hs : ∀ k, s = .l k → k < ws.length) : ∀ k, Sy.l k ∈ img ws s → k < ws.length := by
  intro k hk
  cases s with
  | l j =>
    have hj := hs j rfl
    have e : img ws (.l j) = ws[j] := by
      show ws.getD j [] = ws[j]
      rw [List.getD_eq_getElem?_getD, List.getElem?_eq_getElem hj]; rfl
    rw [e] at hk
    exact (hg _ (List.getElem_mem hj)).lets k hk
  | p => cases List.mem_singleton.mp hk
  | m => cases List.mem_singleton.mp hk
  | o => cases List.mem_singleton.mp hk
  | c => cases List.mem_singleton.mp hk
theorem grow_lets {ws : List (List Sy)} (hg : ∀ w ∈ ws, Good ws.length 40 w) {w : List Sy} (hw : ∀ k, Sy.l k ∈ w → k < ws.length) : ∀ k, Sy.l k ∈ grow ws w → k < ws.length := by
  intro k hk
  obtain ⟨s, hs, h⟩ := List.mem_flatMap.mp hk
  exact img_lets hg (fun j e => hw j (e ▸ hs)) k h
theorem grown_lets {ws : List (List Sy)} {st : List Sy} (h : GoodBook ws st) : ∀ n k, Sy.l k ∈ grown ws st n → k < ws.length
  | 0 => h.start.lets
  | n + 1 => grow_lets h.words (grown_lets h n)
theorem img_pos {ws : List (List Sy)} (hg : ∀ w ∈ ws, Good ws.length 40 w) {s : Sy} (hs : ∀ k, s = .l k → k < ws.length) : 1 ≤ (img ws s).length ∧ (img ws s).length ≤ 40 := by
  cases s with
  | l j =>
    have hj := hs j rfl
    have e : img ws (.l j) = ws[j] := by
      show ws.getD j [] = ws[j]
      rw [List.getD_eq_getElem?_getD, List.getElem?_eq_getElem hj]; rfl
    rw [e]
    have := hg _ (List.getElem_mem hj)
    exact ⟨any_pos this.has, this.len⟩
  | p => exact ⟨Nat.le_refl _, (by decide : 1 ≤ 40)⟩
  | m => exact ⟨Nat.le_refl _, (by decide : 1 ≤ 40)⟩
  | o => exact ⟨Nat.le_refl _, (by decide : 1 ≤ 40)⟩
  | c => exact ⟨Nat.le_refl _, (by decide : 1 ≤ 40)⟩
theorem grow_le {ws : List (List Sy)} (hg : ∀ w ∈ ws, Good ws.length 40 w) : ∀ {w : List Sy}, (∀ k, Sy.l k ∈ w → k < ws.length) → w.length ≤ (grow ws w).length
  | [], _ => Nat.zero_le _
  | s :: w, h => by
    have ih := grow_le hg (w := w) fun k hk => h k (List.mem_cons_of_mem _ hk)
    have h1 := (img_pos hg (s := s) fun k e => h k (e ▸ List.mem_cons_self)).1
    show w.length + 1 ≤ (img ws s ++ grow ws w).length
    rw [List.length_append]
    omega
theorem grown_mono {ws : List (List Sy)} {st : List Sy} (h : GoodBook ws st) : ∀ {m n : Nat}, m ≤ n → (grown ws st m).length ≤ (grown ws st n).length
  | m, 0, e => by rw [Nat.le_zero.mp e]; exact Nat.le_refl _
  | m, n + 1, e => by
    rcases Nat.lt_or_ge n m with q | q
    · have : m = n + 1 := by omega
      rw [this]; exact Nat.le_refl _
    · exact Nat.le_trans (grown_mono h q) (grow_le h.words (grown_lets h n))
/-- a piece of a word grown is no longer than the whole -/
theorem grow_take {ws : List (List Sy)} (w : List Sy) (i : Nat) : (grow ws (w.take i)).length ≤ (grow ws w).length := by
  have e : grow ws w = grow ws (w.take i) ++ grow ws (w.drop i) := by rw [← grow_app, List.take_append_drop]
  rw [e, List.length_append]
  omega
theorem take_more {α : Type} : ∀ {l : List α} {i : Nat} {x : α}, l[i]? = some x → l.take (i + 1) = l.take i ++ [x]
  | [], i, x, h => by simp at h
  | a :: l, 0, x, h => by
    have e : a = x := Option.some.inj h
    subst e
    rfl
  | a :: l, i + 1, x, h => by
    have ih := take_more (l := l) (i := i) (x := x) h
    show a :: l.take (i + 1) = a :: l.take i ++ [x]
    rw [ih]
    rfl
theorem paired_get {α β : Type} {F : α → β → Prop} : ∀ {xs : List α} {ys : List β} {i : Nat} {y : β}, Paired F xs ys → ys[i]? = some y → ∃ x, xs[i]? = some x ∧ F x y
  | _, _, _, _, .nil, e => by simp at e
  | _, _, 0, _, .cons r _, e => by simp at e; subst e; exact ⟨_, rfl, r⟩
  | _, _, i + 1, y, .cons _ t, e => by
    obtain ⟨u, h1, h2⟩ := paired_get (i := i) (y := y) t (by simpa using e)
    exact ⟨u, by simpa using h1, h2⟩
theorem wv_get {w : List Sy} {i : Nat} {x : V} (h : (wv w)[i]? = some x) : ∃ s, w[i]? = some s ∧ x = s.v := by
  rw [List.getElem?_map] at h
  cases e : w[i]? with
  | none => rw [e] at h; cases h
  | some s => rw [e] at h; exact ⟨s, rfl, (Option.some.inj h).symm⟩
def spGrown (K : PySem.W.Frag) : Sp := fun vs H Q _ => ∃ (b : Addr) (n : Nat) (ws : List (List Sy)) (st : List Sy), vs = [.ref b, .int n] ∧ BookAt H b ws st ∧ GoodBook ws st ∧ n ≤ 1000 ∧ (grown ws st n).length ≤ 4000000 ∧
  New (.lst (wv (grown ws st n))) H Q
/-- what one sign is replaced by: its word's items in a new list, or itself alone -/
def tImg (ws : List (List Sy)) (st : List Sy) : TE := fun σ H Q => ∃ (b : Addr) (s : Sy), σ[0]? = some (some (.ref b)) ∧ σ[5]? = some (some s.v) ∧ BookAt H b ws st ∧ (∀ k, s = .l k → k < ws.length) ∧ New (.lst (wv (img ws s))) H Q
section
variable {P : Program} {w : World} {K : PySem.W.Frag} {mg : Str → Option Value} {base : Heap}
theorem ok_grown {f : Addr} {fd : FuncData} {k : Nat} (F : Fun K "_law_grown" "_law_grown" s_law_grown f fd) (mR : mg "range" = none) (mL : mg "list" = none) (mI : mg "isinstance" = none) (mS : mg "str" = none) :
    FnOk P w K mg base CX0 (k + 1) f fd ["book", "age"] (spGrown K) := by
  refine F.ok sc_law_grown (fun vs H Q E h => ?_) (fun cdv A outer s H vs Q E hr h => ?_)
  · obtain ⟨b, n, ws, st, rfl, _⟩ := h
    rfl
  · obtain ⟨b, n, ws, st, rfl, hb, hg, hn, hlen, q⟩ := h
    have nd := sc_law_grown.nd
    refine ⟨_, pss_cons (ps_set (i := 2) nd rfl (.inl rfl) (pixT (pv 0) pe_int))
      (pss_cons (ps_for PassesOwn.never rfl (pi_range1 rfl mR (pa_cons (pv 1) pa_nil)) (pg_name (i := 3) nd rfl (.inl rfl))
        (pss_cons (ps_set (i := 4) nd rfl (.inl rfl) (plstN pa_nil))
        (pss_cons (ps_for PassesOwn.never rfl (pi_seq (pv 2)) (pg_name (i := 5) nd rfl (.inl rfl))
          (pss_one (ps_set (i := 4) nd rfl (.inl rfl) (pcatN (pv 4) (pimp (tImg ws st) (pe_ifExp (ptNotStr mI mS (pv 5)) (plistN mL (pixT (pixT (pv 0) pe_int) (pv 5))) (plstN (pa_cons (pv 5) pa_nil))) ?img)))))
        (pss_one (ps_set (i := 2) nd rfl (.inl rfl) (pv 4))))))
      (pss_one (ps_ret (plistN mL (pv 2))))), ?_⟩
    case img =>
      rintro σ H Q ⟨b, s, e0, e5, ⟨p, pq, as, h1, h2, h3, h4⟩, hs, q⟩
      obtain ⟨tn, tb, ht, hk, htb⟩ := ty_sy (K := K) (H := H) s
      refine ⟨_, e5, s.v, tn, tb, rfl, ht, hk, tb, rfl, ?_⟩
      subst htb
      cases s with
      | l j =>
        obtain ⟨a, ha1, ha2⟩ := paired_get h4 (List.getElem?_eq_getElem (hs j rfl))
        refine ⟨_, e0, b, _, _, _, rfl, rfl, SqT.of h1, at0, _, e5, p, _, _, .ref a, rfl, rfl, SqT.of h2, atI_nat ?_, a, _, rfl, .inr ha2.sq, ?_⟩
        · rw [List.getElem?_map, ha1]; rfl
        · have e : img ws (.l j) = ws[j]'(hs j rfl) := by
            show ws.getD j [] = _
            rw [List.getD_eq_getElem?_getD, List.getElem?_eq_getElem (hs j rfl)]; rfl
          rw [← e]
          exact q
      | p => exact ⟨_, e5, szl 1, q⟩
      | m => exact ⟨_, e5, szl 1, q⟩
      | o => exact ⟨_, e5, szl 1, q⟩
      | c => exact ⟨_, e5, szl 1, q⟩
    obtain ⟨p, pq, as, h1, h2, h3, h4⟩ := id hb
    refine ⟨_, rfl, b, _, _, _, rfl, rfl, SqT.of h1, at1, ?_⟩
    refine ⟨_, rfl, (n : Int), rfl, by omega, by omega, ?_⟩
    rw [Int.toNat_natCast]
    refine for_range (lo := 0) (n := n) (fun i σ H' => ∃ (a : Addr) (y3 y4 y5 : Option V), σ = [some (.ref b), some (.int n), some (.ref a), y3, y4, y5] ∧ Same H H' ∧ Sq K H' a (wv (grown ws st i)))
      ⟨pq, _, _, _, rfl, Same.refl H, .inr h3.sq⟩ ?_ ?_
    · rintro i σ H1 hi ⟨a, y3, y4, y5, rfl, S1, ha⟩
      have l1 : (grown ws st (i + 1)).length ≤ 4000000 := Nat.le_trans (grown_mono hg (by omega)) hlen
      refine ⟨szl 0, fun H2 fa S2 n2 h2 => ?_⟩
      have hb2 : BookAt H2 b ws st := (hb.keep (.of S1)).keep (.of S2)
      refine ⟨a, rfl, for_seq (ha.same S2) (fun j σ H' => ∃ (fa : Addr) (y5 : Option V), σ = [some (.ref b), some (.int n), some (.ref a), some (.int (0 + (i : Int))), some (.ref fa), y5] ∧ Same H2 H' ∧ H' fa = some (.lst (wv (grow ws ((grown ws st i).take j)))))
        ⟨fa, _, rfl, Same.refl _, h2⟩ (fun j σ H' _ ⟨_, _, _, s, _⟩ => s) ?_ ?_⟩
      · rintro j x σ H3 hx ⟨fa, y5, rfl, S3, h3⟩
        obtain ⟨s, hs, rfl⟩ := wv_get hx
        have lj : (grow ws ((grown ws st i).take (j + 1))).length ≤ 4000000 := Nat.le_trans (grow_take _ _) l1
        rw [take_more hs, grow_app] at lj
        have e1 : grow ws [s] = img ws s := by simp [grow]
        rw [e1, List.length_append] at lj
        refine ⟨_, rfl, b, s, rfl, rfl, hb2.keep (.of S3), fun k e => grown_lets hg i k (by rw [← e]; exact List.mem_of_getElem? hs), fun H4 p4 S4 n4 h4 => ?_⟩
        refine ⟨fa, p4, _, _, rfl, rfl, S4 _ _ h3, h4, szl _ (by simp only [List.length_map]; omega), fun H5 p5 S5 n5 h5 => ?_⟩
        refine ⟨p5, _, rfl, (S3.trans S4).trans S5, ?_⟩
        rw [h5, take_more hs, grow_app, e1]
        simp only [wv, List.map_append]
      · rintro σ H3 ⟨fa, y5, rfl, S3, h3⟩
        refine ⟨_, rfl, fa, _, _, _, rfl, (S1.trans S2).trans S3, .inl (SqL.of ?_)⟩
        rw [h3, List.length_map, List.take_length]
        rfl
    · rintro σ H1 ⟨a, y3, y4, y5, rfl, S1, ha⟩
      exact ⟨_, rfl, a, _, rfl, ha, fun H2 p S2 n2 h2 => q H2 p (S1.trans S2) (S1.free n2) h2⟩
end
end SK
namespace SK
open PySem PySem.Spec PyProof.Rows L2
/-! ### how long words grow -/
theorem img_slim {ws : List (List Sy)} (hg : ∀ w ∈ ws, Good ws.length 40 w) {s : Sy} (hs : ∀ k, s = .l k → k < ws.length) : (img ws s).length + 7 * nL [s] ≤ 8 * nL (img ws s) + 1 := by
  cases s with
  | l j =>
    have hj := hs j rfl
    have e : img ws (.l j) = ws[j] := by
      show ws.getD j [] = ws[j]
      rw [List.getD_eq_getElem?_getD, List.getElem?_eq_getElem hj]; rfl
    rw [e]
    have := (hg _ (List.getElem_mem hj)).slim
    have e1 : nL [Sy.l j] = 1 := rfl
    omega
  | p => exact (by decide : 1 + 7 * 0 ≤ 8 * 0 + 1)
  | m => exact (by decide : 1 + 7 * 0 ≤ 8 * 0 + 1)
  | o => exact (by decide : 1 + 7 * 0 ≤ 8 * 0 + 1)
  | c => exact (by decide : 1 + 7 * 0 ≤ 8 * 0 + 1)
theorem grow_slim {ws : List (List Sy)} (hg : ∀ w ∈ ws, Good ws.length 40 w) : ∀ {w : List Sy}, (∀ k, Sy.l k ∈ w → k < ws.length) → (grow ws w).length + 7 * nL w ≤ 8 * nL (grow ws w) + w.length
  | [], _ => Nat.zero_le _
  | s :: w, h => by
    have ih := grow_slim hg (w := w) fun k hk => h k (List.mem_cons_of_mem _ hk)
    have h1 := img_slim hg (s := s) fun k e => h k (e ▸ List.mem_cons_self)
    have e1 : grow ws (s :: w) = img ws s ++ grow ws w := rfl
    have e2 : nL (s :: w) = nL [s] + nL w := nL_app [s] w
    rw [e1, List.length_append, nL_app, e2, List.length_cons]
    omega
theorem grow_40 {ws : List (List Sy)} (hg : ∀ w ∈ ws, Good ws.length 40 w) : ∀ {w : List Sy}, (∀ k, Sy.l k ∈ w → k < ws.length) → (grow ws w).length ≤ 40 * w.length
  | [], _ => Nat.zero_le _
  | s :: w, h => by
    have ih := grow_40 hg (w := w) fun k hk => h k (List.mem_cons_of_mem _ hk)
    have h1 := (img_pos hg (s := s) fun k e => h k (e ▸ List.mem_cons_self)).2
    have e1 : grow ws (s :: w) = img ws s ++ grow ws w := rfl
    rw [e1, List.length_append, List.length_cons]
    omega
theorem nL_le (w : List Sy) : nL w ≤ w.length := List.length_filter_le _ _
theorem grown_len {ws : List (List Sy)} {st : List Sy} {M : Nat} (h : GoodBook ws st) : ∀ n, (∀ a, a < n → nL (grown ws st a) ≤ M) → (grown ws st n).length ≤ 8 * nL (grown ws st n) + 40 + M * n
  | 0, _ => by have := h.start.len; show st.length ≤ _; omega
  | n + 1, ha => by
    have ih := grown_len h n fun a hl => ha a (by omega)
    have h1 := grow_slim h.words (grown_lets h n)
    have h2 := ha n (by omega)
    show (grow ws (grown ws st n)).length ≤ 8 * nL (grow ws (grown ws st n)) + 40 + M * (n + 1)
    rw [Nat.mul_succ]
    omega
/-- at an age that the law draws -/
def Low (M : Nat) (ws : List (List Sy)) (st : List Sy) (n : Nat) : Prop := n ≤ 8 ∧ ∀ a, a ≤ n → nL (grown ws st a) ≤ M
theorem Low.mono {M : Nat} {ws : List (List Sy)} {st : List Sy} {m n : Nat} (h : Low M ws st n) (l : m ≤ n) : Low M ws st m := ⟨Nat.le_trans l h.1, fun a ha => h.2 a (Nat.le_trans ha l)⟩
theorem Low.len {M : Nat} {ws : List (List Sy)} {st : List Sy} {n : Nat} (g : GoodBook ws st) (h : Low M ws st n) : (grown ws st n).length ≤ 16 * M + 40 := by
  have h1 := grown_len (M := M) g n fun a ha => h.2 a (by omega)
  have h2 := h.2 n (Nat.le_refl _)
  have h3 : M * n ≤ M * 8 := Nat.mul_le_mul_left M h.1
  omega
theorem Low.zero {M : Nat} {ws : List (List Sy)} {st : List Sy} (g : GoodBook ws st) (hM : 40 ≤ M) : Low M ws st 0 := ⟨Nat.zero_le _, fun a ha => by
  have e : a = 0 := by omega
  subst e
  have := nL_le st
  have := g.start.len
  show nL st ≤ M
  omega⟩
/-- the test of the names that stand in the i-th slot -/
def tNotStr (K : PySem.W.Frag) (i : Nat) : TT := fun σ H Q => tCB (rIs K "str") (tCons (tVar i) (tCons (tC (.ty "str")) tNil)) σ H fun x H1 => ∃ k, x = .bl k ∧ Q (!k) H1
end SK
namespace SK
open PySem PySem.Spec PyProof.Rows L2
/-! ### the pen -/
abbrev Stk := Int × Int × Int × Nat
structure Pen where
  x : Int
  y : Int
  h : Int
  st : List (Int × Int × Int)
  out : List Stk
def dir (h : Int) : Int × Int := if h = 0 then (1, 0) else if h = 1 then (0, 1) else if h = 2 then (-1, 0) else (0, -1)
def pstep (p : Pen) : Sy → Pen
  | .o => { p with st := p.st ++ [(p.x, p.y, p.h)] }
  | .c => match p.st.getLast? with
    | some (a, b, c) => { p with x := a, y := b, h := c, st := p.st.dropLast }
    | none => p
  | .p => { p with h := (p.h + 1) % 4 }
  | .m => { p with h := (p.h + 3) % 4 }
  | .l k => { p with out := p.out ++ [(p.x, p.y, p.h, k)], x := p.x + (dir p.h).1, y := p.y + (dir p.h).2 }
def pen (w : List Sy) : Pen := w.foldl pstep ⟨0, 0, 0, [], []⟩
def strokes (w : List Sy) : List Stk := (pen w).out
theorem pen_snoc (v : List Sy) (s : Sy) : pen (v ++ [s]) = pstep (pen v) s := by
  unfold pen
  rw [List.foldl_append]
  rfl
structure PenOk (v : List Sy) : Prop where
  nst : nest v 0 = some (pen v).st.length
  h : 0 ≤ (pen v).h ∧ (pen v).h < 4
  st : ∀ q ∈ (pen v).st, 0 ≤ q.2.2 ∧ q.2.2 < 4
  out : ∀ q ∈ (pen v).out, 0 ≤ q.2.2.1 ∧ q.2.2.1 < 4
  len : (pen v).out.length ≤ v.length ∧ (pen v).st.length ≤ v.length
theorem penOk_nil : PenOk [] := ⟨rfl, ⟨by decide, by decide⟩, (fun q h => nomatch h), (fun q h => nomatch h), ⟨Nat.le_refl _, Nat.le_refl _⟩⟩
theorem penOk_snoc {v : List Sy} {s : Sy} (p : PenOk v) (h : nest (v ++ [s]) 0 ≠ none) : PenOk (v ++ [s]) := by
  rw [nest_app, p.nst] at h
  have e : nest (v ++ [s]) 0 = nest [s] (pen v).st.length := by rw [nest_app, p.nst]; rfl
  have hl : (v ++ [s]).length = v.length + 1 := by simp
  cases s with
  | o =>
    refine ⟨?_, ?_, ?_, ?_, ?_⟩
    · rw [e, pen_snoc]
      show some ((pen v).st.length + 1) = some ((pen v).st ++ [_]).length
      rw [List.length_append]; rfl
    · rw [pen_snoc]; exact p.h
    · rw [pen_snoc]
      intro q hq
      rcases List.mem_append.mp hq with h | h
      · exact p.st q h
      · rw [List.mem_singleton.mp h]; exact p.h
    · rw [pen_snoc]; exact p.out
    · rw [pen_snoc, hl]
      have := p.len
      exact ⟨Nat.le_succ_of_le this.1, by show ((pen v).st ++ [_]).length ≤ _; rw [List.length_append, List.length_singleton]; omega⟩
  | c =>
    cases hs : (pen v).st.getLast? with
    | none =>
      rw [List.getLast?_eq_none_iff] at hs
      rw [hs] at h
      exact absurd rfl h
    | some t =>
      obtain ⟨a, b, c⟩ := t
      have e2 : pstep (pen v) .c = { pen v with x := a, y := b, h := c, st := (pen v).st.dropLast } := by
        show (match (pen v).st.getLast? with
          | some (a, b, c) => { pen v with x := a, y := b, h := c, st := (pen v).st.dropLast }
          | none => pen v) = _
        rw [hs]
      have hm : (a, b, c) ∈ (pen v).st := List.mem_of_getLast? hs
      have hne : (pen v).st ≠ [] := fun z => by rw [z] at hm; cases hm
      have hpos : 1 ≤ (pen v).st.length := List.length_pos_iff.mpr hne
      refine ⟨?_, ?_, ?_, ?_, ?_⟩
      · rw [e, pen_snoc, e2]
        show nest [.c] (pen v).st.length = some (pen v).st.dropLast.length
        rw [List.length_dropLast]
        obtain ⟨d, hd⟩ : ∃ d, (pen v).st.length = d + 1 := ⟨_, (Nat.sub_add_cancel hpos).symm⟩
        rw [hd]
        rfl
      · rw [pen_snoc, e2]; exact p.st _ hm
      · rw [pen_snoc, e2]; intro q hq; exact p.st q (List.dropLast_subset _ hq)
      · rw [pen_snoc, e2]; exact p.out
      · rw [pen_snoc, e2, hl]
        have := p.len
        exact ⟨Nat.le_succ_of_le this.1, by show (pen v).st.dropLast.length ≤ _; rw [List.length_dropLast]; omega⟩
  | p =>
    refine ⟨by rw [e, pen_snoc]; rfl, ?_, ?_, ?_, ?_⟩
    · rw [pen_snoc]; exact ⟨by show 0 ≤ ((pen v).h + 1) % 4; omega, by show ((pen v).h + 1) % 4 < 4; omega⟩
    · rw [pen_snoc]; exact p.st
    · rw [pen_snoc]; exact p.out
    · rw [pen_snoc, hl]; exact ⟨Nat.le_succ_of_le p.len.1, Nat.le_succ_of_le p.len.2⟩
  | m =>
    refine ⟨by rw [e, pen_snoc]; rfl, ?_, ?_, ?_, ?_⟩
    · rw [pen_snoc]; exact ⟨by show 0 ≤ ((pen v).h + 3) % 4; omega, by show ((pen v).h + 3) % 4 < 4; omega⟩
    · rw [pen_snoc]; exact p.st
    · rw [pen_snoc]; exact p.out
    · rw [pen_snoc, hl]; exact ⟨Nat.le_succ_of_le p.len.1, Nat.le_succ_of_le p.len.2⟩
  | l k =>
    refine ⟨by rw [e, pen_snoc]; rfl, ?_, ?_, ?_, ?_⟩
    · rw [pen_snoc]; exact p.h
    · rw [pen_snoc]; exact p.st
    · rw [pen_snoc]
      intro q hq
      rcases List.mem_append.mp (show q ∈ (pen v).out ++ [_] from hq) with h | h
      · exact p.out q h
      · rw [List.mem_singleton.mp h]; exact p.h
    · rw [pen_snoc, hl]
      exact ⟨by show ((pen v).out ++ [_]).length ≤ _; rw [List.length_append, List.length_singleton]; have := p.len.1; omega, Nat.le_succ_of_le p.len.2⟩
/-- a piece of a word whose branches end -/
theorem nest_take {w : List Sy} (h : nest w 0 ≠ none) (i : Nat) : nest (w.take i) 0 ≠ none := by
  intro z
  apply h
  rw [← List.take_append_drop i w, nest_app, z]
  rfl
theorem penOk_take {w : List Sy} (h : nest w 0 ≠ none) : ∀ i, i ≤ w.length → PenOk (w.take i)
  | 0, _ => penOk_nil
  | i + 1, hi => by
    have e : w[i]? = some w[i] := List.getElem?_eq_getElem (by omega)
    rw [take_more e]
    exact penOk_snoc (penOk_take h i (by omega)) (by rw [← take_more e]; exact nest_take h (i + 1))
theorem pen_take {w : List Sy} {i : Nat} {s : Sy} (h : w[i]? = some s) : pen (w.take (i + 1)) = pstep (pen (w.take i)) s := by rw [take_more h, pen_snoc]
/-! ### strokes in the heap -/
def stV (s : Stk) : List V := [.int s.1, .int s.2.1, .int s.2.2.1, .int s.2.2.2]
def plV (q : Int × Int × Int) : List V := [.int q.1, .int q.2.1, .int q.2.2]
def Strs (H : Hp) (as : List Addr) (ss : List Stk) : Prop := Paired (fun a s => H a = some (.tup (stV s))) as ss
def Pls (H : Hp) (as : List Addr) (ss : List (Int × Int × Int)) : Prop := Paired (fun a s => H a = some (.tup (plV s))) as ss
theorem Strs.keep {H H' : Hp} {as : List Addr} {ss : List Stk} (s : TupS H H') (h : Strs H as ss) : Strs H' as ss := Paired.mono (fun a w e => s.1 a _ e) h
theorem Pls.keep {H H' : Hp} {as : List Addr} {ss : List (Int × Int × Int)} (s : TupS H H') (h : Pls H as ss) : Pls H' as ss := Paired.mono (fun a w e => s.1 a _ e) h
theorem paired_last {α β : Type} {F : α → β → Prop} : ∀ {xs : List α} {ys : List β} {y : β}, Paired F xs ys → ys.getLast? = some y → ∃ x, xs.getLast? = some x ∧ F x y ∧ Paired F xs.dropLast ys.dropLast
  | _, _, _, .nil, h => by simp at h
  | _, _, y, .cons r .nil, h => by simp at h; subst h; exact ⟨_, rfl, r, .nil⟩
  | _, _, y, .cons r (.cons (a := a2) (b := b2) (l₁ := l1) (l₂ := l2) r2 t), h => by
    have h' : (b2 :: l2).getLast? = some y := by rw [List.getLast?_cons_cons] at h; exact h
    obtain ⟨x, h1, h2, h3⟩ := paired_last (.cons r2 t) h'
    exact ⟨x, by rw [List.getLast?_cons_cons]; exact h1, h2, .cons r h3⟩
theorem itN {c A B : Prop} [Decidable c] (hc : ¬ c) (h : B) : if decide c = true then A else B := by
  rw [decide_eq_false hc]
  exact iteF h
theorem itY {c A B : Prop} [Decidable c] (hc : c) (h : A) : if decide c = true then A else B := by
  rw [decide_eq_true hc]
  exact iteT h
end SK
namespace SK
open PySem PySem.Spec PyProof.Rows L2
theorem for_seq0 {K : PySem.W.Frag} {a : Addr} {xs : List V} {g : TG} {tb : TS} {D : Ends} {σ : L2.St} {H H0 : Hp} (h : Sq K H0 a xs) (Pv : Nat → L2.St → Hp → Prop) (h0 : Pv 0 σ H) (hl : ∀ i σ H', i ≤ xs.length → Pv i σ H' → Same H0 H')
    (hs : ∀ i x σ H, xs[i]? = some x → Pv i σ H → g x σ H fun σ2 H2 => tb { D with nx := Pv (i + 1), ct := Pv (i + 1), bk := D.nx } σ2 H2) (hd : ∀ σ H, Pv xs.length σ H → D.nx σ H) :
    ((∃ xs, SqL K H a xs) ∧ ∃ W : Nat → Nat → L2.St → Hp → Prop, (∃ m, W 0 m σ H) ∧ ∀ i m σ H, W i m σ H → ((Itl K a).stop i H ∧ D.nx σ H) ∨ ((Itl K a).go i H ∧ ∃ N : L2.St → Hp → Prop, (∀ σ' H', N σ' H' → ∃ m', m' < m ∧ W (i + 1) m' σ' H') ∧ ∀ x H', (Itl K a).yld i H x H' → g x σ H' fun σ2 H2 => tb { D with nx := N, ct := N, bk := D.nx } σ2 H2)) ∨
    ((∃ xs, SqT K H a xs) ∧ ∃ W : Nat → Nat → L2.St → Hp → Prop, (∃ m, W 0 m σ H) ∧ ∀ i m σ H, W i m σ H → ((Itt K a).stop i H ∧ D.nx σ H) ∨ ((Itt K a).go i H ∧ ∃ N : L2.St → Hp → Prop, (∀ σ' H', N σ' H' → ∃ m', m' < m ∧ W (i + 1) m' σ' H') ∧ ∀ x H', (Itt K a).yld i H x H' → g x σ H' fun σ2 H2 => tb { D with nx := N, ct := N, bk := D.nx } σ2 H2)) := by
  rcases h with h | h
  · exact .inl ⟨⟨xs, (hl 0 σ H (Nat.zero_le _) h0).seq h⟩, for_list (K := K) (a := a) (xs := xs) Pv h0 (fun i σ H' hi p => (hl i σ H' hi p).seq h) hs hd⟩
  · exact .inr ⟨⟨xs, sTup (hl 0 σ H (Nat.zero_le _) h0) h⟩, for_tup (K := K) (a := a) (xs := xs) Pv h0 (fun i σ H' hi p => sTup (hl i σ H' hi p) h) hs hd⟩
def spUnit : Sp := fun vs H Q _ => ∃ h : Int, vs = [.int h] ∧ 0 ≤ h ∧ h < 4 ∧ New (.tup [.int (dir h).1, .int (dir h).2]) H Q
def spDrawnL (K : PySem.W.Frag) : Sp := fun vs H Q _ => ∃ (a : Addr) (w : List Sy), vs = [.ref a] ∧ Sq K H a (wv w) ∧ nest w 0 ≠ none ∧ w.length ≤ 1000000 ∧
  ∀ (H' : Hp) (p fa e : Addr) (as : List Addr), Same H H' → H p = none → H' p = some (.tup [.ref fa, .ref e]) → H' fa = some (.lst (as.map V.ref)) → Strs H' as (strokes w) → H fa = none → H' e = some (.tup (plV ((pen w).x, (pen w).y, (pen w).h))) → Q (.ref p) H'
section
variable {P : Program} {w : World} {K : PySem.W.Frag} {mg : Str → Option Value} {base : Heap}
theorem ok_unit {f : Addr} {fd : FuncData} {k : Nat} (F : Fun K "_law_unit" "_law_unit" s_law_unit f fd) (mi : mg "int" = none) : FnOk P w K mg base CX0 (k + 1) f fd ["heading"] spUnit := by
  refine F.ok sc_law_unit (fun vs H Q E h => ?_) (fun cdv A outer s H vs Q E hr h => ?_)
  · obtain ⟨h, rfl, _⟩ := h
    rfl
  · obtain ⟨h, rfl, hz0, hz4, q⟩ := h
    have nd := sc_law_unit.nd
    refine ⟨_, pss_one (ps_ret (pix (plstN (pa_cons (ptupN (pa_cons pe_int (pa_cons pe_int pa_nil))) (pa_cons (ptupN (pa_cons pe_int (pa_cons pe_int pa_nil))) (pa_cons (ptupN (pa_cons (pe_un un_neg pe_int) (pa_cons pe_int pa_nil)))
        (pa_cons (ptupN (pa_cons pe_int (pa_cons (pe_un un_neg pe_int) pa_nil))) pa_nil))))) (pmod (pint mi (pv 0)) pe_int))), ?_⟩
    refine ⟨szl 2, fun H1 a1 s1 n1 h1 => ⟨szl 2, fun H2 a2 s2 n2 h2 => ⟨_, rfl, szl 2, fun H3 a3 s3 n3 h3 => ⟨_, rfl, szl 2, fun H4 a4 s4 n4 h4 => ⟨szl 4, fun H5 a5 s5 n5 h5 => ?_⟩⟩⟩⟩⟩
    refine ⟨_, rfl, .inl ⟨_, rfl, _, _, rfl, rfl, (show (0 : Int) < 4 by decide), ?_⟩⟩
    have e : h = 0 ∨ h = 1 ∨ h = 2 ∨ h = 3 := by omega
    rcases e with rfl | rfl | rfl | rfl
    · exact ⟨a5, _, 0, _, rfl, rfl, SqL.of h5, at0, q H5 a1 ((((s1.trans s2).trans s3).trans s4).trans s5) n1 (((s2.trans s3).trans (s4.trans s5)) _ _ h1)⟩
    · exact ⟨a5, _, 1, _, rfl, rfl, SqL.of h5, at1, q H5 a2 ((((s1.trans s2).trans s3).trans s4).trans s5) (s1.free n2) ((s3.trans (s4.trans s5)) _ _ h2)⟩
    · exact ⟨a5, _, 2, _, rfl, rfl, SqL.of h5, at2, q H5 a3 ((((s1.trans s2).trans s3).trans s4).trans s5) ((s1.trans s2).free n3) ((s4.trans s5) _ _ h3)⟩
    · exact ⟨a5, _, 3, _, rfl, rfl, SqL.of h5, at3, q H5 a4 ((((s1.trans s2).trans s3).trans s4).trans s5) (((s1.trans s2).trans s3).free n4) (s5 _ _ h4)⟩
theorem ok_drawnL {f : Addr} {fd : FuncData} {k : Nat} (F : Fun K "_law_drawn" "_law_drawn" s_law_drawn f fd) (GU : Got P w K mg base "_law_unit" k ["heading"] spUnit) (mi : mg "int" = none) (mI : mg "isinstance" = none) (mS : mg "str" = none) :
    FnOk P w K mg base CX0 (k + 1) f fd ["word"] (spDrawnL K) := by
  refine F.ok sc_law_drawn (fun vs H Q E h => ?_) (fun cdv A outer s H vs Q E hr h => ?_)
  · obtain ⟨a, w, rfl, _⟩ := h
    rfl
  · obtain ⟨a, w, rfl, hw, hn, hl, q⟩ := h
    have nd := sc_law_drawn.nd
    refine ⟨_, pss_cons (ps_asg (ptupN (pa_cons pe_int (pa_cons pe_int (pa_cons pe_int (pa_cons (plstN pa_nil) (pa_cons (plstN pa_nil) pa_nil))))))
        (pg_tup (by rfl) (pgs_cons (pg_name (i := 1) nd rfl (.inl rfl)) (pgs_cons (pg_name (i := 2) nd rfl (.inl rfl)) (pgs_cons (pg_name (i := 3) nd rfl (.inl rfl)) (pgs_cons (pg_name (i := 4) nd rfl (.inl rfl)) (pgs_cons (pg_name (i := 5) nd rfl (.inl rfl)) pgs_nil)))))))
      (pss_cons (ps_for PassesOwn.never rfl (pi_seq (pv 0)) (pg_name (i := 6) nd rfl (.inl rfl))
        (pss_one (ps_if (pt_cmpR op_eq (pv 6) pe_str (nomark _)) (pss_one (sapp (pv 5) (ptupN (pa_cons (pv 1) (pa_cons (pv 2) (pa_cons (pv 3) pa_nil))))))
          (pss_one (ps_if (pt_cmpR op_eq (pv 6) pe_str (nomark _))
              (pss_one (ps_asg (pe_bm0 PySem.F.plainAttrs_list PySem.F.slot_list_pop PySem.F.type_list_pop mt_pop (pv 5)) (pg_tup (by rfl) (pgs_cons (pg_name (i := 1) nd rfl (.inl rfl)) (pgs_cons (pg_name (i := 2) nd rfl (.inl rfl)) (pgs_cons (pg_name (i := 3) nd rfl (.inl rfl)) pgs_nil))))))
            (pss_one (ps_if (pt_val (pis "str" (by decide +kernel) mI mS (pv 6)))
                (pss_one (ps_set (i := 3) nd rfl (.inl rfl) (pmod (pint mi (padd (pv 3) (pe_ifExp (pt_cmpR op_eq (pv 6) pe_str (nomark _)) pe_int pe_int))) pe_int)))
              (pss_cons (sapp (pv 4) (ptupN (pa_cons (pv 1) (pa_cons (pv 2) (pa_cons (pv 3) (pa_cons (pv 6) pa_nil))))))
              (pss_one (ps_par rfl nd (i := 1) (j := 2) rfl rfl (by decide) rfl rfl (pa_cons (padd (pv 1) (pixT (pcall GU hr (pa_cons (pv 3) pa_nil)) pe_int)) (pa_cons (padd (pv 2) (pixT (pcall GU hr (pa_cons (pv 3) pa_nil)) pe_int)) pa_nil)) (by rfl)))))))))))
      (pss_one (ps_ret (ptupN (pa_cons (pv 4) (pa_cons (ptupN (pa_cons (pv 1) (pa_cons (pv 2) (pa_cons (pv 3) pa_nil)))) pa_nil)))))), ?_⟩
    refine ⟨szl 0, fun H1 fa S1 n1 h1 => ⟨szl 0, fun H2 sa S2 n2 h2 => ⟨szl 5, fun H3 ta S3 n3 h3 => ?_⟩⟩⟩
    refine ⟨ta, _, rfl, SqT.of h3, rfl, _, _, rfl, _, _, rfl, _, _, rfl, _, _, rfl, _, _, rfl, rfl, ?_⟩
    have S03 := (S1.trans S2).trans S3
    have nsa : H sa = none := S1.free n2
    have nfs : fa ≠ sa := ne_of_none h1 n2
    have hf3 := S3 _ _ (S2 _ _ h1)
    have hs3 := S3 _ _ h2
    clear S1 S2 S3 n2 n3 h1 h2 h3
    refine ⟨a, rfl, for_seq0 hw (fun i σ H' => ∃ (y6 : Option V) (as ss : List Addr), σ = [some (.ref a), some (.int (pen (w.take i)).x), some (.int (pen (w.take i)).y), some (.int (pen (w.take i)).h), some (.ref fa), some (.ref sa), y6] ∧
        Same H H' ∧ H' fa = some (.lst (as.map V.ref)) ∧ H' sa = some (.lst (ss.map V.ref)) ∧ Strs H' as (pen (w.take i)).out ∧ Pls H' ss (pen (w.take i)).st)
      ⟨none, [], [], rfl, S03, hf3, hs3, .nil, .nil⟩ (fun i σ H' _ ⟨_, _, _, _, s, _⟩ => s) ?_ ?_⟩
    · rintro i x σ H4 hx ⟨y6, as, ss, rfl, S4, hf, hs, hA, hP⟩
      obtain ⟨s, hsy, rfl⟩ := wv_get hx
      have hi : i < w.length := (List.getElem?_eq_some_iff.mp hsy).1
      have PO := penOk_take hn i (by omega)
      have PO1 := penOk_take hn (i + 1) (by omega)
      have ep := pen_take hsy
      have lt : (w.take i).length ≤ 1000000 := by rw [List.length_take]; omega
      have lA := hA.length
      have lP := hP.length
      have p1 := PO.len
      generalize pen (w.take (i + 1)) = pp at ep
      subst ep
      have nst := PO.nst
      have hst := nest_take hn (i + 1)
      rw [take_more hsy, nest_app, nst] at hst
      have ph := PO.h
      generalize pen (w.take i) = pe at hA hP lA lP p1 nst hst ph
      cases s with
      | o =>
        refine ⟨_, rfl, rfl, _, rfl, itY rfl ⟨_, rfl, .inl ⟨rfl, _, SqL.of hs⟩, _, rfl, _, rfl, _, rfl, szl 3, fun H5 p5 S5 n5 h5 => ⟨sa, _, _, rfl, rfl, S5 _ _ hs, ?_, ?_⟩⟩⟩
        · rw [List.length_map, sizeLine_eq]; omega
        · have hs5 := S5 _ _ hs
          have T5 : TupS H5 (upd H5 sa (.lst (ss.map V.ref ++ [V.ref p5]))) := TupS.refl.lst hs5
          refine ⟨_, as, ss ++ [p5], rfl, sPut (S4.trans S5) nsa, by rw [upd_ne nfs]; exact S5 _ _ hf, by rw [upd_same, List.map_append]; rfl, (hA.keep (.of S5)).keep T5, ?_⟩
          exact Paired.snoc ((hP.keep (.of S5)).keep T5) (T5.1 _ _ h5)
      | c =>
        refine ⟨_, rfl, rfl, _, rfl, itN (by decide) ⟨_, rfl, rfl, _, rfl, itY rfl ?_⟩⟩
        cases hl : pe.st.getLast? with
        | none =>
          rw [List.getLast?_eq_none_iff] at hl
          rw [hl] at hst
          exact absurd rfl hst
        | some t =>
          obtain ⟨tx, ty, th⟩ := t
          obtain ⟨la, g1, g2, g3⟩ := paired_last hP hl
          have e2 : pstep pe .c = { pe with x := tx, y := ty, h := th, st := pe.st.dropLast } := by
            show (match pe.st.getLast? with
              | some (a, b, c) => { pe with x := a, y := b, h := c, st := pe.st.dropLast }
              | none => pe) = _
            rw [hl]
          rw [e2]
          have g1' : (ss.map V.ref)[(ss.map V.ref).length - 1]? = some (V.ref la) := by
            rw [← List.getLast?_eq_getElem?, List.getLast?_map, g1]; rfl
          refine ⟨_, rfl, .inl ⟨rfl, _, SqL.of hs⟩, sa, _, _, rfl, rfl, hs, g1', ?_⟩
          have T5 : TupS H4 (upd H4 sa (.lst (ss.map V.ref).dropLast)) := TupS.refl.lst hs
          refine ⟨la, _, rfl, SqT.of (T5.1 _ _ g2), rfl, _, _, rfl, _, _, rfl, _, _, rfl, rfl, ?_⟩
          refine ⟨_, as, ss.dropLast, rfl, sPut S4 nsa, by rw [upd_ne nfs]; exact hf, by rw [upd_same, List.map_dropLast], hA.keep T5, Pls.keep T5 g3⟩
      | p =>
        refine ⟨_, rfl, rfl, _, rfl, itN (by decide) ⟨_, rfl, rfl, _, rfl, itN (by decide) ⟨_, rfl, _, _, _, rfl, ty_str _, (by decide +kernel : kitB "str" "str" = some true), true, rfl, iteT ?_⟩⟩⟩
        exact ⟨_, rfl, _, rfl, rfl, _, rfl, itY rfl ⟨_, _, rfl, rfl, .inl ⟨_, rfl, _, _, rfl, rfl, (show (0 : Int) < 4 by decide), _, as, ss, rfl, S4, hf, hs, hA, hP⟩⟩⟩
      | m =>
        refine ⟨_, rfl, rfl, _, rfl, itN (by decide) ⟨_, rfl, rfl, _, rfl, itN (by decide) ⟨_, rfl, _, _, _, rfl, ty_str _, (by decide +kernel : kitB "str" "str" = some true), true, rfl, iteT ?_⟩⟩⟩
        exact ⟨_, rfl, _, rfl, rfl, _, rfl, itN (by decide) ⟨_, _, rfl, rfl, .inl ⟨_, rfl, _, _, rfl, rfl, (show (0 : Int) < 4 by decide), _, as, ss, rfl, S4, hf, hs, hA, hP⟩⟩⟩
      | l kk =>
        refine ⟨_, rfl, rfl, _, rfl, itN (fun z => nomatch z) ⟨_, rfl, rfl, _, rfl, itN (fun z => nomatch z) ⟨_, rfl, _, _, _, rfl, ty_int _, (by decide +kernel : kitB "int" "str" = some false), false, rfl, iteF ?_⟩⟩⟩
        refine ⟨_, rfl, .inl ⟨rfl, _, SqL.of hf⟩, _, rfl, _, rfl, _, rfl, _, rfl, szl 4, fun H5 p5 S5 n5 h5 => ⟨fa, _, _, rfl, rfl, S5 _ _ hf, ?_, ?_⟩⟩
        · rw [List.length_map, sizeLine_eq]; omega
        have hf5 := S5 _ _ hf
        have T6 : TupS H5 (upd H5 fa (.lst (as.map V.ref ++ [V.ref p5]))) := TupS.refl.lst hf5
        have S6 : Same H (upd H5 fa (.lst (as.map V.ref ++ [V.ref p5]))) := sPut (S4.trans S5) n1
        have hf6 : (upd H5 fa (.lst (as.map V.ref ++ [V.ref p5]))) fa = some (.lst ((as ++ [p5]).map V.ref)) := by rw [upd_same, List.map_append]; rfl
        have hs6 : (upd H5 fa (.lst (as.map V.ref ++ [V.ref p5]))) sa = some (.lst (ss.map V.ref)) := by rw [upd_ne nfs.symm]; exact S5 _ _ hs
        have hA6 : Strs (upd H5 fa (.lst (as.map V.ref ++ [V.ref p5]))) (as ++ [p5]) (pe.out ++ [(pe.x, pe.y, pe.h, kk)]) := Paired.snoc ((hA.keep (.of S5)).keep T6) (T6.1 _ _ h5)
        have hP6 := (hP.keep (.of S5)).keep T6
        generalize upd H5 fa (.lst (as.map V.ref ++ [V.ref p5])) = H6 at S6 hf6 hs6 hA6 hP6
        refine ⟨_, rfl, _, rfl, pe.h, rfl, ph.1, ph.2, fun H7 p7 S7 n7 h7 => ⟨p7, _, _, _, rfl, rfl, SqT.of h7, at0, _, _, rfl, rfl, _, rfl, _, rfl, pe.h, rfl, ph.1, ph.2, fun H8 p8 S8 n8 h8 => ⟨p8, _, _, _, rfl, rfl, SqT.of h8, at1, _, _, rfl, rfl, _, _, rfl, ?_⟩⟩⟩
        exact ⟨_, as ++ [p5], ss, rfl, (S6.trans S7).trans S8, S8 _ _ (S7 _ _ hf6), S8 _ _ (S7 _ _ hs6), (hA6.keep (.of S7)).keep (.of S8), (hP6.keep (.of S7)).keep (.of S8)⟩
    · rintro σ H4 ⟨y6, as, ss, rfl, S4, hf, hs, hA, hP⟩
      rw [List.length_map, List.take_length] at hA
      refine ⟨_, rfl, _, rfl, _, rfl, _, rfl, szl 3, fun H5 p5 S5 n5 h5 => ⟨szl 2, fun H6 p6 S6 n6 h6 => ?_⟩⟩
      rw [List.length_map, List.take_length] at h5
      exact q H6 p6 fa p5 as ((S4.trans S5).trans S6) ((S4.trans S5).free n6) h6 (S6 _ _ (S5 _ _ hf)) ((hA.keep (.of S5)).keep (.of S6)) n1 (S6 _ _ h5)
end
end SK
namespace SK
open PySem PySem.Spec PyProof.Rows L2
/-! ### alike: the same data, at most n deep -/
def flatA : V → Bool
  | .non => true
  | .int _ => true
  | .bl _ => true
  | .str _ => true
  | _ => false
theorem rd_same {H H' : Hp} {a : Addr} {u : HO} (s : Same H H') (h : Rd H a u) : Rd H' a u := h.imp (s _ _) (fun ⟨o, e⟩ => ⟨o, s _ _ e⟩)
theorem ty_rd {K : PySem.W.Frag} {H : Hp} {a : Addr} {xs : List V} (h : Rd H a (.tup xs)) : TyX K H (.ref a) (.type "tuple") := by
  rcases h with h | ⟨o, h⟩
  · exact ty_tup h
  · exact .fTuple h
def Alk (H : Hp) : Nat → V → V → Prop
  | 0, v, u => v = u ∧ flatA v = true
  | n + 1, v, u => (v = u ∧ flatA v = true) ∨ ∃ (a b : Addr) (xs ys : List V), v = .ref a ∧ u = .ref b ∧ ((Rd H a (.tup xs) ∧ Rd H b (.tup ys)) ∨ (H a = some (.lst xs) ∧ H b = some (.lst ys))) ∧ xs.length = ys.length ∧ xs.length ≤ 10000000 ∧
      ∀ (i : Nat) (x y : V), xs[i]? = some x → ys[i]? = some y → Alk H n x y
theorem Alk.same {H H' : Hp} (s : Same H H') : ∀ {n : Nat} {v u : V}, Alk H n v u → Alk H' n v u
  | 0, _, _, h => h
  | n + 1, _, _, .inl h => .inl h
  | n + 1, _, _, .inr ⟨a, b, xs, ys, e1, e2, h, hl, hz, hi⟩ => .inr ⟨a, b, xs, ys, e1, e2, h.imp (fun z => ⟨rd_same s z.1, rd_same s z.2⟩) (fun z => ⟨s _ _ z.1, s _ _ z.2⟩), hl, hz, fun i x y h1 h2 => Alk.same s (hi i x y h1 h2)⟩
theorem Alk.up {H : Hp} : ∀ {n : Nat} {v u : V}, Alk H n v u → Alk H (n + 1) v u
  | 0, _, _, h => .inl h
  | n + 1, _, _, .inl h => .inl h
  | n + 1, _, _, .inr ⟨a, b, xs, ys, e1, e2, h, hl, hz, hi⟩ => .inr ⟨a, b, xs, ys, e1, e2, h, hl, hz, fun i x y h1 h2 => Alk.up (hi i x y h1 h2)⟩
def spAlike (n : Nat) : Sp := fun vs H Q _ => ∃ (v u : V), vs = [v, u] ∧ Alk H n v u ∧ ∀ H', Same H H' → Q (.bl true) H'
/-- isinstance(e, (tuple, list)) -/
def tIsTL (K : PySem.W.Frag) (i : Nat) : TE := fun σ H Q => ∃ (x : V) (n : String) (b1 b2 : Bool), σ[i]? = some (some x) ∧ (∀ H2, Same H H2 → TyX K H2 x (.type n)) ∧ kitB n "tuple" = some b1 ∧ kitB n "list" = some b2 ∧ ∀ H2, Same H H2 → Q (.bl (b1 || b2)) H2
theorem kit2 {K : PySem.W.Frag} {n : String} {b1 b2 : Bool} (h1 : kitB n "tuple" = some b1) (h2 : kitB n "list" = some b2) : PySem.W.kitAny K (.type n) [.type "tuple", .type "list"] = some (b1 || b2) := by
  refine kitAny_cons (kit_ty h1) (fun e => ?_) (fun e => by rw [e]; rfl)
  subst e
  refine kitAny_cons (kit_ty h2) (fun e => ?_) (fun e => by rw [e]; rfl)
  subst e
  rfl
section
variable {X : Cx}
theorem pisTL {i : Nat} {e : Expr} {p p2 p3 p4 pos : Pos} {j : Nat} (mI : X.mg "isinstance" = none) (mT : X.mg "tuple" = none) (mL : X.mg "list" = none) (h : PE X e (tVar i)) (hg : Gl X "isinstance" := by rfl) (hgt : Gl X "tuple" := by rfl) (hgl : Gl X "list" := by rfl)
    (ha1 : starEach [.Name "list" p3] X.env = (false, eval (.Name "list" p3) X.env) :: starEach [] X.env := by rfl) (ha2 : starEach [.Name "tuple" p2, .Name "list" p3] X.env = (false, eval (.Name "tuple" p2) X.env) :: starEach [.Name "list" p3] X.env := by rfl)
    (hs2 : starEach [.Tuple [.Name "tuple" p2, .Name "list" p3] j p4] X.env = (false, eval (.Tuple [.Name "tuple" p2, .Name "list" p3] j p4) X.env) :: starEach [] X.env := by rfl)
    (hs1 : starEach [e, .Tuple [.Name "tuple" p2, .Name "list" p3] j p4] X.env = (false, eval e X.env) :: starEach [.Tuple [.Name "tuple" p2, .Name "list" p3] j p4] X.env := by rfl)
    (hp1 : (backTo pos (starEach [.Tuple [.Name "tuple" p2, .Name "list" p3] j p4] X.env)).any (·.1) = false := by rfl) :
    PE X (.Call (.Name "isinstance" p) [e, .Tuple [.Name "tuple" p2, .Name "list" p3] j p4] [] pos) (tIsTL X.K i) := by
  refine pimp _ (pe_callB call_isiT hg mI (by decide +kernel) (pa_cons h (pa_cons (ptupN (pa_cons (pe_bltn (v := .ty "tuple") hgt mT (by decide +kernel) rfl (by decide) (by decide)) (pa_cons (pe_bltn (v := .ty "list") hgl mL (by decide +kernel) rfl (by decide) (by decide)) pa_nil ha1) ha2)) pa_nil hs2) hs1) (by decide) (by decide) hs1 hp1) ?_
  rintro σ H Q ⟨x, n, b1, b2, e, ht, k1, k2, q⟩
  exact ⟨x, e, szl 2, fun H2 tp s2 n2 h2 => ⟨x, tp, [.ty "tuple", .ty "list"], _, [.type "tuple", .type "list"], _, rfl, h2, .cons (.ty _) (.cons (.ty _) .nil), ht H2 s2, kit2 k1 k2, q H2 s2⟩⟩
end
/-- the kind of a flat value -/
theorem flat_ty {K : PySem.W.Frag} {v : V} (h : flatA v = true) : ∃ n cb, (∀ H, TyX K H v (.type n)) ∧ kitB n "tuple" = some false ∧ kitB n "list" = some false ∧ kitB n "bool" = some cb ∧
    ((v = .non ∧ kitB n "str" = some false) ∨ (∃ z, v = .str z ∧ kitB n "str" = some true) ∨ ((∃ i, v = .int i ∧ kitB n "str" = some false ∧ kitB n "int" = some true) ∨ ∃ b, v = .bl b ∧ kitB n "str" = some false ∧ kitB n "int" = some true)) := by
  cases v with
  | non => exact ⟨"NoneType", false, fun H => ty_non, by decide +kernel, by decide +kernel, by decide +kernel, .inl ⟨rfl, by decide +kernel⟩⟩
  | int i => exact ⟨"int", false, fun H => ty_int i, by decide +kernel, by decide +kernel, by decide +kernel, .inr (.inr (.inl ⟨i, rfl, by decide +kernel, by decide +kernel⟩))⟩
  | str z => exact ⟨"str", false, fun H => ty_str z, by decide +kernel, by decide +kernel, by decide +kernel, .inr (.inl ⟨z, rfl, by decide +kernel⟩)⟩
  | bl b => exact ⟨"bool", true, fun H => ty_bl b, by decide +kernel, by decide +kernel, by decide +kernel, .inr (.inr (.inr ⟨b, rfl, by decide +kernel, by decide +kernel⟩))⟩
  | byt b => cases h
  | flt b => cases h
  | ref a => cases h
  | ty n => cases h
section
variable {P : Program} {w : World} {K : PySem.W.Frag} {mg : Str → Option Value} {base : Heap}
structure AlkG (mg : Str → Option Value) : Prop where
  mI : mg "isinstance" = none
  mT : mg "tuple" = none
  mL : mg "list" = none
  mS : mg "str" = none
  mi : mg "int" = none
  mB : mg "bool" = none
  ml : mg "len" = none
  mR : mg "range" = none
/-- the flat values' way: behind the first test -/
def tFlatWay : TS := fun D σ H => ∃ (v : V) (y2 : Option V), σ = [some v, some v, y2] ∧ flatA v = true ∧ D.rt (.bl true) H
theorem pssimp {X : Cx} {sts : List Stmt} {t : TS} (t' : TS) (h : PSs X sts t) (f : ∀ D σ H, t' D σ H → t D σ H) : PSs X sts t' := ⟨fun pins s σ H D I q => h.run pins s σ H D I (f D σ H q)⟩
def tAlkTest (K : PySem.W.Frag) (m : Nat) : TT := fun σ H Q => tCall (spAlike m) [] E0 (tCons (tOp (rIx K) (tVar 0) (tVar 2)) (tCons (tOp (rIx K) (tVar 1) (tVar 2)) tNil)) σ H fun x H1 => ∃ k, x = .bl k ∧ Q (!k) H1
end
end SK
namespace SK
open PySem PySem.Spec PyProof.Rows L2
section
variable {P : Program} {w : World} {K : PySem.W.Frag} {mg : Str → Option Value} {base : Heap}
theorem ok_alike (n : Nat) {f : Addr} {fd : FuncData} {k : Nat} (F : Fun K "_law_alike" "_law_alike" s_law_alike f fd) (g : AlkG mg) (G : ∀ m, n = m + 1 → Got P w K mg base "_law_alike" k ["found", "due"] (spAlike m)) : FnOk P w K mg base CX0 (k + 1) f fd ["found", "due"] (spAlike n) := by
  refine F.ok sc_law_alike (fun vs H Q E h => ?_) (fun cdv A outer s H vs Q E hr h => ?_)
  · obtain ⟨v, u, rfl, _⟩ := h
    rfl
  · obtain ⟨v, u, rfl, hA, q⟩ := h
    have nd := sc_law_alike.nd
    obtain ⟨mI, mT, mL, mS, mi, mB, ml, mR⟩ := g
    have tail : PSs (cxOf CX0 P w K mg base n_law_alike "_law_alike" (defScope s_law_alike) f cdv A outer s H E).nox ((defBody s_law_alike).drop 1) tFlatWay := by
      refine pssimp _ (pss_cons (ps_if (PW.pt (pw_or (pt_cmpR op_isN (pv 1) pe_non (nomark _)) (pw_or1 (pt_val (pis "str" (by decide +kernel) mI mS (pv 1))))))
          (pss_one (ps_ret (pe_and (pe_cmpR op_eq (pv 0) (pv 1) (nomark _)) (pe_one (pe_cmpR op_eq (pis "str" (by decide +kernel) mI mS (pv 0)) (pis "str" (by decide +kernel) mI mS (pv 1)) (nomark _)))))) pss_nil)
        (pss_one (ps_ret (pe_and (pis "int" (by decide +kernel) mI mi (pv 0)) (pe_and (pe_cmpR op_eq (pis "bool" (by decide +kernel) mI mB (pv 0)) (pis "bool" (by decide +kernel) mI mB (pv 1)) (nomark _)) (pe_one (pe_cmpR op_eq (pv 0) (pv 1) (nomark _)))))))) ?_
      rintro D σ H ⟨v, y2, rfl, hv, q⟩
      obtain ⟨n, cb, ht, k1, k2, k3, hk⟩ := flat_ty (K := K) hv
      have ht' := ht H
      rcases hk with ⟨rfl, k4⟩ | ⟨z, rfl, k4⟩ | ⟨i, rfl, k4, k5⟩ | ⟨i, rfl, k4, k5⟩
      · refine ⟨_, rfl, rfl, _, rfl, itY rfl ?_⟩
        refine ⟨_, rfl, _, rfl, rfl, _, rfl, itY rfl ?_⟩
        refine ⟨_, rfl, _, n, _, rfl, ht', k4, _, rfl, _, n, _, rfl, ht', k4, rfl, ?_⟩
        exact q
      · refine ⟨_, rfl, rfl, _, rfl, itN (fun z => nomatch z) ?_⟩
        refine ⟨_, rfl, _, n, _, rfl, ht', k4, _, rfl, iteT ?_⟩
        refine ⟨_, rfl, _, rfl, rfl, _, rfl, itY rfl ?_⟩
        refine ⟨_, rfl, _, n, _, rfl, ht', k4, _, rfl, _, n, _, rfl, ht', k4, rfl, ?_⟩
        exact q
      · refine ⟨_, rfl, rfl, _, rfl, itN (fun z => nomatch z) ?_⟩
        refine ⟨_, rfl, _, n, _, rfl, ht', k4, _, rfl, iteF ?_⟩
        refine ⟨_, rfl, _, n, _, rfl, ht', k5, _, rfl, iteT ?_⟩
        refine ⟨_, rfl, _, n, _, rfl, ht', k3, _, rfl, _, n, _, rfl, ht', k3, rfl, _, rfl, itY rfl ?_⟩
        refine ⟨_, rfl, _, rfl, rfl, ?_⟩
        rw [decide_eq_true (rfl : V.int i = V.int i)]
        exact q
      · refine ⟨_, rfl, rfl, _, rfl, itN (fun z => nomatch z) ?_⟩
        refine ⟨_, rfl, _, n, _, rfl, ht', k4, _, rfl, iteF ?_⟩
        refine ⟨_, rfl, _, n, _, rfl, ht', k5, _, rfl, iteT ?_⟩
        refine ⟨_, rfl, _, n, _, rfl, ht', k3, _, rfl, _, n, _, rfl, ht', k3, rfl, _, rfl, itY rfl ?_⟩
        refine ⟨_, rfl, _, rfl, rfl, ?_⟩
        rw [decide_eq_true (rfl : V.bl i = V.bl i)]
        exact q
    have flat : ∀ (y2 : Option V) (H2 : Hp), Same H H2 → v = u → flatA v = true → tFlatWay { nx := fun _ H' => Q .non H', rt := Q } [some v, some u, y2] H2 := fun y2 H2 S e hv => by
      subst e
      exact ⟨v, y2, rfl, hv, q H2 S⟩
    cases n with
    | zero =>
      refine ⟨_, pss_cons (ps_if (pt_val (pisTL mI mT mL (pv 1))) pss_never pss_nil) tail, ?_⟩
      obtain ⟨rfl, hv⟩ := hA
      obtain ⟨n, _, ht, k1, k2, _⟩ := flat_ty (K := K) hv
      exact ⟨v, n, _, _, rfl, fun H2 _ => ht H2, k1, k2, fun H2 S2 => ⟨_, rfl, iteF (flat none H2 S2 rfl hv)⟩⟩
    | succ m =>
      have GA := G m rfl
      refine ⟨_, pss_cons (ps_if (pt_val (pisTL mI mT mL (pv 1)))
          (pss_cons (ps_if (PW.pt (pw_or (pt_not (pt_val (pisTL mI mT mL (pv 0)))) (pw_or1 (pt_cmpR op_ne (pis "list" (by decide +kernel) mI mL (pv 0)) (pis "list" (by decide +kernel) mI mL (pv 1)) (nomark _))))) pss_never pss_nil)
          (pss_cons (ps_if (pt_cmpR op_ne (plen ml (pv 0)) (plen ml (pv 1)) (nomark _)) pss_never pss_nil)
          (pss_one (ps_ret (pe_cmpR (op_eqD hr.units) (pe_lc (own := [("k", 2)]) (g := gName 2) (tt := tAlkTest K m)
              rfl nd (pi_range1 rfl mR (pa_cons (plen ml (pv 1)) pa_nil)) (blkOk_by (N := n_law_alike) (sc := defScope s_law_alike) (by decide +kernel)) (fun _ _ _ _ _ => pg_name (i := 2) nd rfl (Or.inl rfl))
              (fun _ _ _ _ _ => pts_one (pt_not (pt_val (pcall GA hr (pa_cons (pe_ix ix_seq (pv 0) (pv 2) (fun _ _ => rfl)) (pa_cons (pe_ix ix_seq (pv 1) (pv 2) (fun _ _ => rfl)) pa_nil)))))) (fun _ _ _ _ _ => pv 2)) (plstN pa_nil) (nomark _)))))) pss_nil) tail, ?_⟩
      rcases hA with ⟨rfl, hv⟩ | ⟨a, b, xs, ys, rfl, rfl, hh, hl, hz, hi⟩
      · obtain ⟨n, _, ht, k1, k2, _⟩ := flat_ty (K := K) hv
        exact ⟨v, n, _, _, rfl, fun H2 _ => ht H2, k1, k2, fun H2 S2 => ⟨_, rfl, iteF (flat none H2 S2 rfl hv)⟩⟩
      · have key : ∃ (n : String) (b1 b2 : Bool), (∀ H2, Same H H2 → TyX K H2 (.ref a) (.type n)) ∧ (∀ H2, Same H H2 → TyX K H2 (.ref b) (.type n)) ∧ kitB n "tuple" = some b1 ∧ kitB n "list" = some b2 ∧ (b1 || b2) = true ∧
            (∀ H2, Same H H2 → (SqL K H2 a xs ∨ SqT K H2 a xs) ∧ (SqL K H2 b ys ∨ SqT K H2 b ys)) := by
          rcases hh with ⟨ha, hb⟩ | ⟨ha, hb⟩
          · exact ⟨"tuple", true, false, fun H2 S => ty_rd (rd_same S ha), fun H2 S => ty_rd (rd_same S hb), by decide +kernel, by decide +kernel, rfl, fun H2 S => ⟨.inr (.inl (rd_same S ha)), .inr (.inl (rd_same S hb))⟩⟩
          · exact ⟨"list", false, true, fun H2 S => ty_lst (S _ _ ha), fun H2 S => ty_lst (S _ _ hb), by decide +kernel, by decide +kernel, rfl, fun H2 S => ⟨.inl (SqL.of (S _ _ ha)), .inl (SqL.of (S _ _ hb))⟩⟩
        obtain ⟨n, b1, b2, ta, tb, k1, k2, kk, sq⟩ := key
        refine ⟨_, n, b1, b2, rfl, tb, k1, k2, fun H2 S2 => ⟨_, rfl, ?_⟩⟩
        rw [kk]
        refine iteT ⟨_, n, b1, b2, rfl, fun H3 S3 => ta H3 (S2.trans S3), k1, k2, fun H3 S3 => ⟨_, rfl, ?_⟩⟩
        rw [kk]
        have S03 := S2.trans S3
        refine iteF ⟨_, rfl, _, n, b2, rfl, ta H3 S03, k2, _, rfl, _, n, b2, rfl, tb H3 S03, k2, rfl, _, rfl, ?_⟩
        rw [decide_eq_true (rfl : V.bl b2 = V.bl b2)]
        refine iteF ⟨_, rfl, a, xs, rfl, (sq H3 S03).1, _, rfl, b, ys, rfl, (sq H3 S03).2, rfl, _, rfl, ?_⟩
        rw [hl, decide_eq_true (rfl : V.int (ys.length : Int) = V.int (ys.length : Int))]
        refine iteF ⟨_, rfl, b, ys, rfl, (sq H3 S03).2, (ys.length : Int), rfl, by omega, by omega, fun D nD => ?_⟩
        rw [Int.toNat_natCast]
        refine lc_range (lo := 0) (n := ys.length) (fun i H' => Same H3 H' ∧ H' D = some (.lst [])) ⟨same_upd nD, upd_same⟩ ?_ ?_
        · rintro i H4 hlt ⟨S4, hD⟩
          have S04 := S03.trans S4
          have gx : xs[i]? = some xs[i] := List.getElem?_eq_getElem (by omega)
          have gy : ys[i]? = some ys[i] := List.getElem?_eq_getElem hlt
          have e0 : (0 : Int) + (i : Int) = (i : Int) := by omega
          have ix : ∀ (c : Addr) (zs : List V) (z : V) (Q' : VK), (SqL K H4 c zs ∨ SqT K H4 c zs) → zs[i]? = some z → Q' z H4 → rIx K (.ref c) (.int (0 + (i : Int))) H4 Q' := by
            intro c zs z Q' hc hg hq
            rw [e0]
            rcases hc with hc | hc
            · exact .inl ⟨c, zs, _, z, rfl, rfl, hc, atI_nat hg, hq⟩
            · exact .inr (.inl ⟨c, zs, _, z, rfl, rfl, hc, atI_nat hg, hq⟩)
          refine ⟨rfl, _, rfl, _, rfl, ix a xs _ _ (sq H4 S04).1 gx ⟨_, rfl, _, rfl, ix b ys _ _ (sq H4 S04).2 gy ⟨xs[i], ys[i], rfl, Alk.same S04 (hi i _ _ gx gy), fun H5 S5 => ⟨true, rfl, iteF ⟨S4.trans S5, S5 _ _ hD⟩⟩⟩⟩⟩
        · rintro H4 ⟨S4, hD⟩
          refine ⟨szl 0, fun H5 p5 S5 n5 h5 => ⟨.list [], .list [], .lst (SqL.of (S5 _ _ hD)) .nil, .lst (SqL.of h5) .nil, shaped_ints [], shaped_ints [], ?_⟩⟩
          have e : PyData.eqv (.list []) (.list []) = true := by simp [PyData.eqv, PyData.eqvAll]
          rw [e]
          exact q H5 ((S03.trans S4).trans S5)
end
end SK
namespace SK
open PySem PySem.Spec PyProof.Rows L2
def spAge (K : PySem.W.Frag) : Sp := fun vs H Q _ => ∃ (b : Addr) (M : Nat) (ws : List (List Sy)) (st : List Sy), vs = [.ref b, .int M] ∧ BookAt H b ws st ∧ GoodBook ws st ∧ 40 ≤ M ∧ M ≤ 1000 ∧
  ∀ (H' : Hp) (n : Nat), Same H H' → Low M ws st n → Q (.int n) H'
section
variable {P : Program} {w : World} {K : PySem.W.Frag} {mg : Str → Option Value} {base : Heap}
theorem ok_age {f : Addr} {fd : FuncData} {k : Nat} (F : Fun K "_law_age" "_law_age" s_law_age f fd) (GG : Got P w K mg base "_law_grown" k ["book", "age"] (spGrown K)) (ml : mg "len" = none) (mI : mg "isinstance" = none) (mS : mg "str" = none) :
    FnOk P w K mg base CX0 (k + 1) f fd ["book", "most"] (spAge K) := by
  refine F.ok sc_law_age (fun vs H Q E h => ?_) (fun cdv A outer s H vs Q E hr h => ?_)
  · obtain ⟨b, M, ws, st, rfl, _⟩ := h
    rfl
  · obtain ⟨b, M, ws, st, rfl, hb, hg, hM1, hM2, q⟩ := h
    have nd := sc_law_age.nd
    refine ⟨_, pss_cons (ps_set (i := 2) nd rfl (.inl rfl) pe_int)
      (pss_cons (ps_while PassesOwn.never (PW.pt (pw_and (pt_cmpR op_lt (pv 2) pe_int (nomark _)) (pw_and1 (pt_cmpR op_le (plen ml
          (pe_lc (own := [("item", 3)]) (g := gName 3) (tt := tNotStr K 3) rfl nd (pi_list (pcall GG hr (pa_cons (pv 0) (pa_cons (padd (pv 2) pe_int) pa_nil)))) (blkOk_by (N := n_law_age) (sc := defScope s_law_age) (by decide +kernel))
            (fun _ _ _ _ _ => pg_name (i := 3) nd rfl (Or.inl rfl)) (fun _ _ _ _ _ => pts_one (ptNotStr mI mS (pv 3))) (fun _ _ _ _ _ => pv 3))) (pv 1) (nomark _)))))
        (pss_one (ps_set (i := 2) nd rfl (.inl rfl) (padd (pv 2) pe_int))))
      (pss_one (ps_ret (pv 2)))), ?_⟩
    refine ⟨fun m σ H' => ∃ (n : Nat) (y3 : Option V), σ = [some (.ref b), some (.int M), some (.int n), y3] ∧ Same H H' ∧ Low M ws st n ∧ m = 8 - n, ⟨8, 0, none, rfl, Same.refl H, Low.zero hg hM1, rfl⟩, ?_⟩
    rintro m σ H1 ⟨n, y3, rfl, S1, hl, rfl⟩
    refine ⟨_, rfl, _, _, rfl, rfl, _, rfl, ite2 (fun hlt => ?_) (fun hlt => ?_)⟩
    · have hn8 : n < 8 := by
        have := of_decide_eq_true hlt
        omega
      have l1 := grow_40 hg.words (grown_lets hg n)
      have l2 := hl.len hg
      have l3 : (grown ws st (n + 1)).length ≤ 4000000 := by
        show (grow ws (grown ws st n)).length ≤ 4000000
        omega
      have en : (V.int ((n : Int) + 1)) = V.int ((n + 1 : Nat) : Int) := by congr 1
      refine ⟨_, rfl, _, rfl, _, _, rfl, rfl, b, n + 1, ws, st, ?_, hb.keep (.of S1), hg, by omega, l3, fun H2 p S2 n2 h2 => ?_⟩
      · show [V.ref b, V.int ((n : Int) + 1)] = _
        rw [en]
      generalize hG : grown ws st (n + 1) = G at l3 h2
      refine ⟨p, rfl, ⟨_, SqL.of h2⟩, fun D nD => ?_⟩
      refine lc_list (K := K) (a := p) (xs := wv G) (fun i H' => Same H2 H' ∧ H' D = some (.lst (wv ((G.take i).filter isL)))) ⟨same_upd nD, upd_same⟩ (fun i H' _ h => h.1.seq (SqL.of h2)) ?_ ?_
      · rintro i x H3 hx ⟨S3, hD⟩
        obtain ⟨s, hs, rfl⟩ := wv_get hx
        obtain ⟨tn, tb, ht, hk, htb⟩ := ty_sy (K := K) (H := H3) s
        refine ⟨rfl, _, rfl, s.v, tn, tb, rfl, ht, hk, tb, rfl, ?_⟩
        subst htb
        rw [Bool.not_not]
        cases hb : isL s with
        | true =>
          refine iteT ⟨_, rfl, _, hD, ?_, ?_, ?_⟩
          · rw [List.length_map]
            have h1 : ((G.take i).filter isL).length ≤ (G.take i).length := List.length_filter_le _ _
            have h2 : (G.take i).length ≤ G.length := by rw [List.length_take]; omega
            rw [sizeLine_eq]; omega
          · exact sPut S3 nD
          · rw [upd_same, take_more hs, List.filter_append]
            simp only [wv, List.map_append, List.filter_cons, hb]
            rfl
        | false =>
          refine iteF ⟨S3, ?_⟩
          rw [hD, take_more hs, List.filter_append]
          simp only [List.filter_cons, hb]
          simp
      · rintro H3 ⟨S3, hD⟩
        rw [List.length_map, List.take_length] at hD
        refine ⟨D, _, rfl, .inl (SqL.of hD), _, rfl, _, _, rfl, rfl, _, rfl, ite2 (fun hle => ?_) (fun hle => ?_)⟩
        · have h400 : nL (grown ws st (n + 1)) ≤ M := by
            have h := of_decide_eq_true hle
            rw [List.length_map] at h
            rw [hG]
            unfold nL
            omega
          refine ⟨fun σ' H' => ∃ (y3 : Option V), σ' = [some (.ref b), some (.int M), some (.int ((n + 1 : Nat) : Int)), y3] ∧ Same H H' ∧ Low M ws st (n + 1), ?_, ?_⟩
          · rintro σ' H' ⟨y3, rfl, S', hl'⟩
            exact ⟨8 - (n + 1), by omega, n + 1, y3, rfl, S', hl', rfl⟩
          · refine ⟨_, rfl, _, _, rfl, rfl, y3, ?_, (S1.trans S2).trans S3, by omega, fun a ha => ?_⟩
            · rw [← en]; rfl
            · by_cases e : a = n + 1
              · rw [e]; exact h400
              · exact hl.2 a (by omega)
        · exact ⟨_, rfl, q H3 n ((S1.trans S2).trans S3) hl⟩
    · exact ⟨_, rfl, q H1 n S1 hl⟩
end
end SK
namespace SK
open PySem PySem.Spec PyProof.Rows L2
theorem WdAt.ty {K : PySem.W.Frag} {H : Hp} {a : Addr} {w : List Sy} (h : WdAt H a w) : TyX K H (.ref a) (.type "tuple") := let ⟨_, e, _⟩ := h; .fTuple e
def spIsInt (K : PySem.W.Frag) : Sp := fun vs H Q _ => ∃ (v : V) (n : String) (b1 b2 : Bool), vs = [v] ∧ TyX K H v (.type n) ∧ kitB n "int" = some b1 ∧ kitB n "bool" = some b2 ∧ Q (.bl (b1 && !b2)) H
theorem sy_int {K : PySem.W.Frag} (s : Sy) : ∃ n b1, (∀ H, TyX K H s.v (.type n)) ∧ kitB n "int" = some b1 ∧ kitB n "bool" = some false ∧ b1 = isL s := by
  cases s with
  | l k => exact ⟨"int", true, fun H => ty_int _, by decide +kernel, by decide +kernel, rfl⟩
  | p => exact ⟨"str", false, fun H => ty_str _, by decide +kernel, by decide +kernel, rfl⟩
  | m => exact ⟨"str", false, fun H => ty_str _, by decide +kernel, by decide +kernel, rfl⟩
  | o => exact ⟨"str", false, fun H => ty_str _, by decide +kernel, by decide +kernel, rfl⟩
  | c => exact ⟨"str", false, fun H => ty_str _, by decide +kernel, by decide +kernel, rfl⟩
def spIsWord : Sp := fun vs H Q _ => ∃ (t : Addr) (n : Nat) (w : List Sy), vs = [.ref t, .int n] ∧ WdAt H t w ∧ Good n 40 w ∧ Q (.bl true) H
def spBookForm : Sp := fun vs H Q _ => ∃ (b : Addr) (ws : List (List Sy)) (st : List Sy), vs = [.ref b] ∧ BookAt H b ws st ∧ GoodBook ws st ∧ Q (.bl true) H
section
variable {P : Program} {w : World} {K : PySem.W.Frag} {mg : Str → Option Value} {base : Heap}
theorem ok_isint {f : Addr} {fd : FuncData} {k : Nat} (F : Fun K "is_integer" "is_integer" s_is_integer f fd) (mI : mg "isinstance" = none) (mi : mg "int" = none) (mB : mg "bool" = none) : FnOk P w K mg base CX0 (k + 1) f fd ["value"] (spIsInt K) := by
  refine F.ok sc_is_integer (fun vs H Q E h => ?_) (fun cdv A outer s H vs Q E hr h => ?_)
  · obtain ⟨v, n, b1, b2, rfl, _⟩ := h
    rfl
  · obtain ⟨v, n, b1, b2, rfl, ht, k1, k2, q⟩ := h
    refine ⟨_, pss_one (ps_ret (pe_and (pis "int" (by decide +kernel) mI mi (pv 0)) (pe_one (pe_not (pis "bool" (by decide +kernel) mI mB (pv 0)))))), ?_⟩
    refine ⟨_, rfl, _, n, b1, rfl, ht, k1, b1, rfl, ?_⟩
    cases b1 with
    | true => exact ⟨_, rfl, _, n, b2, rfl, ht, k2, b2, rfl, q⟩
    | false => exact q
theorem ok_isword {f : Addr} {fd : FuncData} {k : Nat} {t40 : Tok} (F : Fun K "is_word" "is_word" s_is_word f fd) (GI : Got P w K mg base "is_integer" k ["value"] (spIsInt K)) (mI : mg "isinstance" = none) (mT : mg "tuple" = none) (ml : mg "len" = none) (m40 : mg "MOST_PARTS" = some (.int 40 t40)) :
    FnOk P w K mg base CX0 (k + 1) f fd ["value", "many"] spIsWord := by
  refine F.ok sc_is_word (fun vs H Q E h => ?_) (fun cdv A outer s H vs Q E hr h => ?_)
  · obtain ⟨t, n, w, rfl, _⟩ := h
    rfl
  · obtain ⟨t, n, w, rfl, ht, hg, q⟩ := h
    have nd := sc_is_word.nd
    refine ⟨_, pss_cons (ps_if (PW.pt (pw_or (pt_not (pt_val (pis "tuple" (by decide +kernel) mI mT (pv 0)))) (pw_or1 (pt_cmpR op_gt (plen ml (pv 0)) (pe_glob (v := .int 40) rfl m40 ⟨_, rfl⟩) (nomark _))))) pss_never pss_nil)
      (pss_cons (ps_set (i := 2) nd rfl (.inl rfl) pe_int)
      (pss_cons (ps_set (i := 3) nd rfl (.inl rfl) pe_int)
      (pss_cons (ps_for PassesOwn.never rfl (pi_tup (pv 0)) (pg_name (i := 4) nd rfl (.inl rfl))
        (pss_one (ps_if (PW.pt (pw_and (pt_val (pcall GI hr (pa_cons (pv 4) pa_nil))) (pw_and1 (pt_chain op_le op_lt pe_int (pv 4) (pv 1)))))
            (pss_one (ps_aug (i := 2) nd rfl (.inl rfl) pe_int ip_add))
          (pss_one (ps_if (pt_cmpR op_eq (pv 4) pe_str (nomark _)) (pss_one (ps_aug (i := 3) nd rfl (.inl rfl) pe_int ip_add))
          (pss_one (ps_if (PW.pt (pw_and (pt_cmpR op_eq (pv 4) pe_str (nomark _)) (pw_and1 (pt_cmpR op_gt (pv 3) pe_int (nomark _))))) (pss_one (ps_aug (i := 3) nd rfl (.inl rfl) pe_int ip_sub))
          (pss_one (ps_if (PW.pt (pw_and (pt_cmpR op_ne (pv 4) pe_str (nomark _)) (pw_and1 (pt_cmpR op_ne (pv 4) pe_str (nomark _))))) pss_never pss_nil)))))))))
      (pss_one (ps_ret (pe_and (pe_cmpR op_gt (pv 2) pe_int (nomark _)) (pe_one (pe_cmpR op_eq (pv 3) pe_int (nomark _))))))))), ?_⟩
    have hl := hg.len
    refine ⟨_, rfl, _, "tuple", true, rfl, ht.ty, by decide +kernel, _, rfl, iteF ⟨_, rfl, t, _, rfl, .inr ht.sq, _, _, rfl, rfl, _, rfl, itN (by rw [List.length_map]; omega) ?_⟩⟩
    have hne : nest w 0 ≠ none := by rw [hg.nst]; intro z; cases z
    refine ⟨_, rfl, t, rfl, ⟨_, ht.sq⟩, for_tup (K := K) (a := t) (xs := wv w) (fun i σ H' => ∃ (d : Nat) (y4 : Option V), σ = [some (.ref t), some (.int n), some (.int (nL (w.take i) : Int)), some (.int (d : Int)), y4] ∧ nest (w.take i) 0 = some d ∧ H' = H)
      ⟨0, none, rfl, rfl, rfl⟩ (fun i σ H' _ ⟨_, _, _, _, e⟩ => by rw [e]; exact ht.sq) ?_ ?_⟩
    · rintro i x σ H1 hx ⟨d, y4, rfl, hd, rfl⟩
      obtain ⟨s, hs, rfl⟩ := wv_get hx
      have e1 : nL (w.take (i + 1)) = nL (w.take i) + nL [s] := by rw [take_more hs, nL_app]
      have e2 : nest (w.take (i + 1)) 0 = nest [s] d := by rw [take_more hs, nest_app, hd]; rfl
      have h3 := nest_take hne (i + 1)
      obtain ⟨tn, tb, ht1, k1, k2, hb⟩ := sy_int (K := K) s
      refine ⟨_, rfl, s.v, tn, tb, false, rfl, ht1 H1, k1, k2, _, rfl, ?_⟩
      subst hb
      cases s with
      | l j =>
        have hj := hg.lets j (List.mem_of_getElem? hs)
        refine ⟨_, rfl, _, _, rfl, rfl, _, rfl, itY (show (0 : Int) ≤ (j : Int) by omega) ⟨_, rfl, _, _, rfl, rfl, _, rfl, itY (show (j : Int) < (n : Int) by omega) ⟨_, rfl, _, _, rfl, rfl, d, some (Sy.v (.l j)), ?_, by rw [e2]; rfl, rfl⟩⟩⟩
        rw [e1]; rfl
      | o =>
        refine ⟨_, rfl, rfl, _, rfl, itY rfl ⟨_, rfl, _, _, rfl, rfl, d + 1, some (Sy.v .o), ?_, by rw [e2]; rfl, rfl⟩⟩
        rw [e1]; rfl
      | c =>
        cases d with
        | zero => rw [e2] at h3; exact absurd rfl h3
        | succ d =>
          refine ⟨_, rfl, rfl, _, rfl, itN (by decide) ⟨_, rfl, rfl, _, rfl, itY rfl ⟨_, rfl, _, _, rfl, rfl, _, rfl, itY (show (0 : Int) < ((d + 1 : Nat) : Int) by omega) ⟨_, rfl, _, _, rfl, rfl, d, some (Sy.v .c), ?_, by rw [e2]; rfl, rfl⟩⟩⟩⟩
          rw [e1]
          have : (((d + 1 : Nat) : Int) - 1) = (d : Int) := by omega
          show [some (V.ref t), some (V.int n), some (V.int (nL (w.take i) : Int)), some (V.int (((d + 1 : Nat) : Int) - 1)), some (Sy.v .c)] = _
          rw [this]; rfl
      | p =>
        refine ⟨_, rfl, rfl, _, rfl, itN (by decide) ⟨_, rfl, rfl, _, rfl, itN (by decide) ⟨_, rfl, rfl, _, rfl, ?_⟩⟩⟩
        refine iteF (iteF ⟨d, some (Sy.v .p), ?_, by rw [e2]; rfl, rfl⟩)
        rw [e1]; rfl
      | m =>
        refine ⟨_, rfl, rfl, _, rfl, itN (by decide) ⟨_, rfl, rfl, _, rfl, itN (by decide) ⟨_, rfl, rfl, _, rfl, ?_⟩⟩⟩
        refine iteT ⟨_, rfl, rfl, _, rfl, iteF ⟨d, some (Sy.v .m), ?_, by rw [e2]; rfl, rfl⟩⟩
        rw [e1]; rfl
    · rintro σ H1 ⟨d, y4, rfl, hd, rfl⟩
      rw [List.length_map, List.take_length, hg.nst] at hd
      cases hd
      have hs := hg.slim
      refine ⟨_, rfl, _, _, rfl, rfl, _, rfl, itY ?_ ⟨_, rfl, rfl, q⟩⟩
      rw [List.length_map, List.take_length]
      omega
theorem ok_bookform {f : Addr} {fd : FuncData} {k : Nat} {t8 : Tok} (F : Fun K "has_book_form" "has_book_form" s_has_book_form f fd) (mI : mg "isinstance" = none) (mT : mg "tuple" = none) (ml : mg "len" = none) (m8 : mg "MOST_LETTERS" = some (.int 8 t8)) :
    FnOk P w K mg base CX0 (k + 1) f fd ["value"] spBookForm := by
  refine F.ok sc_has_book_form (fun vs H Q E h => ?_) (fun cdv A outer s H vs Q E hr h => ?_)
  · obtain ⟨b, ws, st, rfl, _⟩ := h
    rfl
  · obtain ⟨b, ws, st, rfl, ⟨p, pq, as, h1, h2, h3, h4⟩, hg, q⟩ := h
    have nd := sc_has_book_form.nd
    refine ⟨_, pss_cons (ps_if (PW.pt (pw_or (pt_not (pt_val (pis "tuple" (by decide +kernel) mI mT (pv 0)))) (pw_or1 (pt_cmpR op_ne (plen ml (pv 0)) pe_int (nomark _))))) pss_never pss_nil)
      (pss_cons (ps_set (i := 1) nd rfl (.inl rfl) (pixT (pv 0) pe_int))
      (pss_one (ps_ret (pe_and (pis "tuple" (by decide +kernel) mI mT (pv 1)) (pe_one (pe_chain op_le op_le pe_int (plen ml (pv 1)) (pe_glob (v := .int 8) rfl m8 ⟨_, rfl⟩))))))), ?_⟩
    have e := h4.length
    have e1 := hg.one
    have e2 := hg.few
    refine ⟨_, rfl, _, "tuple", true, rfl, ty_tup h1, by decide +kernel, _, rfl, iteF ⟨_, rfl, b, _, rfl, .inr (SqT.of h1), rfl, _, rfl, iteF ?_⟩⟩
    refine ⟨_, rfl, b, _, _, _, rfl, rfl, SqT.of h1, at0, ?_⟩
    refine ⟨_, rfl, _, "tuple", true, rfl, ty_tup h2, by decide +kernel, _, rfl, iteT ?_⟩
    refine ⟨_, rfl, p, _, rfl, .inr (SqT.of h2), _, _, rfl, rfl, _, rfl, itY (by rw [List.length_map]; omega) ⟨_, _, rfl, rfl, ?_⟩⟩
    show Q (V.bl (decide (((as.map V.ref).length : Int) ≤ 8))) H
    rw [decide_eq_true (show ((as.map V.ref).length : Int) ≤ 8 by rw [List.length_map]; omega)]
    exact q
end
end SK
namespace SK
open PySem PySem.Spec PyProof.Rows L2
/-! ### enumerate of a tuple -/
/-- the two cells that enumerate(v) lays -/
abbrev enumCell (it : Addr) : Obj := { cls := .type "enumerate", data := .fields #[.none, .bool false, .ref it, rawInt 0, .none, .none] }
theorem enum_new1 {v : Value} {o : Obj} {J : Heap → Prop} (B : Begins v o J) : Meets (Builtin.«enumerate.__new__» ⟨[.type "enumerate", v], []⟩) (fun _ R s => J s.heap ∧ R (.ok (.ret (.ref (s.heap.push o).objs.size))) { s with heap := (s.heap.push o).push (enumCell s.heap.objs.size) }) := by
  refine .of_wp fun prog w A R s h => ?_
  obtain ⟨hp, g, d, tk, os⟩ := s
  obtain ⟨j, h⟩ := h
  have sub := sub_enumerate
  have begun : ∀ {A' : Around} {E Q : Value → Shared → Prop}, Q (.ref hp.objs.size) ⟨hp.push o, g, d, tk, os⟩ → wpAny (model prog w) A' (pyIter v) Q E ⟨hp, g, d, tk, os⟩ := fun q => B.iter prog w _ _ ⟨hp, g, d, tk, os⟩ _ j q
  wp_walk using begun
  refine wpAny_stack_any fun _ => wpAny_pure ?_
  split <;> first
    | (rename_i c _ _ _ _ _; cases (c == Value.type "enumerate") <;> (wp_walk using begun; exact ⟨_, rfl, h⟩))
    | (wp_walk using begun; exact ⟨_, rfl, h⟩)
theorem enum_call1 {prog : Program} {w : World} {A : Around} {E Q : Value → Shared → Prop} {s : Shared} {v : Value} {o : Obj} {J : Heap → Prop} (B : Begins v o J) (j : J s.heap)
    (h : ∀ h', IsEnum h' (s.heap.objs.size + 1) s.heap.objs.size 0 .none → h'.get? s.heap.objs.size = some o → (∀ b o, s.heap.get? b = some o → h'.get? b = some o) → Q (.ref (s.heap.objs.size + 1)) { s with heap := h' }) :
    wpAny (model prog w) A (call (.type "enumerate") [v]) Q E s := by
  have z : (s.heap.push o).objs.size = s.heap.objs.size + 1 := Heap.size_push ..
  refine callType_new F.called_enumerate (by decide) (F.typeCall_enumerate_1 _) (F.newCall_enumerate_1 _) (fun obj => F.args_object_init_2 obj _) F.entry_enumerate_new (enum_new1 B) ⟨j, ?_⟩
  show _ ∧ _
  rw [z]
  have cell : IsEnum ((s.heap.push o).push (enumCell s.heap.objs.size)) (s.heap.objs.size + 1) s.heap.objs.size 0 .none := by
    have e := Heap.get?_push_size (s.heap.push o) (o := enumCell s.heap.objs.size) rfl
    rw [z] at e
    exact e
  exact ⟨⟨_, cell, rfl⟩, h _ cell (Heap.get?_push_of_some _ (Heap.get?_push_size _ B.free)) fun b u e => Heap.get?_push_of_some _ (Heap.get?_push_of_some _ e)⟩
def IteT (K : PySem.W.Frag) (a : Addr) : It where
  go := fun i H => ∃ (xs : List V) (x : V), SqT K H a xs ∧ xs[i]? = some x
  yld := fun i H v H' => ∃ (T : Addr) (x : V), v = .ref T ∧ H T = none ∧ H' = upd H T (.tup [.int (i : Nat), x]) ∧ ∀ xs, SqT K H a xs → xs[i]? = some x
  stop := fun i H => ∃ xs : List V, SqT K H a xs ∧ xs.length = i
theorem turn_enumT {P : Program} {w : World} {K : PySem.W.Frag} {elts : List Expr} {kk : Nat} {tpos : Pos} {a e it : Addr} (hea : a ≠ it) : Turn P w K (.Tuple elts kk tpos) (IteT K a) [e, it] e (fun i h => (∃ old, IsEnum h e it ((i : Nat) : Int) old) ∧ h.IsTupleIter it a i ∧ e ≠ it ∧ e ≠ a) := by
  refine ⟨List.mem_cons_self, ?obj, ?keep, ?item, ?done, ?self⟩
  case obj =>
    rintro i h ⟨⟨old, he⟩, ⟨o, ho, hc, hd⟩, _⟩ b hb
    rcases List.mem_cons.mp hb with rfl | hb
    · exact ⟨_, he, fun v q => nomatch q⟩
    · cases List.mem_singleton.mp hb
      exact ⟨o, ho, fun v q => by rw [hd] at q; cases q⟩
  case keep =>
    rintro i h h' ⟨⟨old, he⟩, hi, hne⟩ k
    exact ⟨⟨old, k e (by simp) _ he⟩, hi.at fun o q => k it (by simp) o q, hne⟩
  case self =>
    rintro A i s Q E ⟨⟨_, he⟩, _⟩ h
    exact wpAny_pyIter_enum he h
  case done =>
    intro X hP hw hK hc i pins s σ H E I hf st hg
    subst hP hw hK
    obtain ⟨⟨old, he⟩, hit, hne, hea'⟩ := st
    obtain ⟨xs, hq, hx⟩ := hg
    obtain ⟨its, rv, p, hz⟩ := I.tuple hq
    have hl := rv.length
    obtain ⟨f0, f1, f2, f3, f4, f5⟩ := hf it (by simp)
    have hh : X.A.in1.handled = none := I.ok.hd hc
    have hn : i = its.toArray.size := by rw [List.size_toArray]; omega
    subst hn
    exact wpAny_pyNext_enum_endD (Draws.tuple hh it a hea its.toArray) he ⟨hit, p⟩ fun h' eb => ⟨rfl, I.turned (t' := s.toks) (fun b o hb q => eb b o hb q) f0 f1 f3 f4 f5⟩
  case item =>
    intro X hP hw hK hc i pins s σ H E I hf st hg
    subst hP hw hK
    obtain ⟨⟨old, he⟩, hit, hne, hea'⟩ := st
    obtain ⟨xs, x, hq, hx⟩ := hg
    obtain ⟨its, rv, p, hz⟩ := I.tuple hq
    obtain ⟨u, hu, ru⟩ := rv.get hx
    have hel : e < s.heap.objs.size := Heap.lt_size he
    have hil : it < s.heap.objs.size := by obtain ⟨_, q, _⟩ := hit; exact Heap.lt_size q
    have hi : i < its.toArray.size := by rw [List.size_toArray]; exact (List.getElem?_eq_some_iff.mp hu).1
    have hh : X.A.in1.handled = none := I.ok.hd hc
    refine wpAny_pyNext_enum_itemD (Draws.tuple hh it a hea its.toArray) he ⟨hit, p⟩ hi hne (by simp [hne, hea']) fun x' h' tk hp ho hst hT hsz hk => ?_
    have ex : x' = u := Option.some.inj (hp.symm.trans (by simpa using hu))
    subst ex
    refine ⟨_, rfl, wpAny_letOwnedTupleGo_enum (s := { s with heap := h', toks := tk + 1 }) ho fun h2 he2 sb => ?_⟩
    have at2 : h2.get? s.heap.objs.size = some { cls := .type "tuple", data := .seq #[.int i tk, x'] } := (sb.2 _ (Nat.ne_of_gt hel)).trans hT
    have laid : ObjOk X.prog X.w (upd H s.heap.objs.size (.tup [.int (i : Nat), x])) h2 s.heap.objs.size (.tup [.int (i : Nat), x]) := ⟨szl 2, [.int i tk, x'], .cons ⟨_, rfl⟩ (.cons ru .nil), _, at2, rfl, _, rfl⟩
    have J : Inv X pins σ (upd H s.heap.objs.size (.tup [.int (i : Nat), x])) { s with heap := h2, toks := tk + 1 } :=
      I.turnedNew (ch := [e, it]) (fun b ob hb q => (sb.2 b fun z => hb (by simp [z])).trans (hk b ob (fun z => hb (by simp [z])) (fun z => hb (by simp [z])) q)) hf (Nat.le_refl _) laid
    refine ⟨.ref s.heap.objs.size, _, J, rfl, ⟨_, x, rfl, I.hok.fresh (Nat.le_refl _), rfl, fun ys hy => ?_⟩, ⟨⟨x', ?_⟩, hst.1.at fun o q => (sb.2 it (Ne.symm hne)).trans q, hne, hea'⟩, fun b hb => ?_⟩
    · rw [I.tuple_inj hy hq]
      exact hx
    · have e1 : ((i + 1 : Nat) : Int) = (i : Int) + 1 := by omega
      rw [e1]
      exact he2
    · have hb' : b < s.heap.objs.size := by
        rcases List.mem_cons.mp hb with z | z
        · rw [z]; exact hel
        · rw [List.mem_singleton.mp z]; exact hil
      rw [upd_ne (Nat.ne_of_lt hb')]
      exact (hf b hb).1
def iEnumT (K : PySem.W.Frag) (ta : TA) : TI := fun σ H R => ta σ H fun vs H1 => ∃ a xs, vs = [.ref a] ∧ SqT K H1 a xs ∧ R (IteT K a) H1
theorem pi_enumT {X : Cx} {e : Expr} {ta : TA} {p pos tpos : Pos} {elts : List Expr} {kk : Nat} (hg : Gl X "enumerate") (hm : X.mg "enumerate" = none) (ha : PA X [e] ta) (hs : starEach [e] X.env = [(false, eval e X.env)] := by rfl) :
    PI X (.Tuple elts kk tpos) (.Call (.Name "enumerate" p) [e] [] pos) (iEnumT X.K ta) := by
  refine ⟨fun pins s σ H R I h => Call_ (ld_blt I hg hm boot_enumerate (PyProof.Rows.callWith_type1 (thn (ha.run pos pins s σ H _ I h) fun us s1 ⟨vs, H1, I1, r1, q1⟩ => ?_) hs rfl))⟩
  obtain ⟨a, xs, rfl, hq, q⟩ := q1
  rcases r1 with _ | ⟨r, rr⟩
  cases rr
  cases r
  obtain ⟨its, rv, p', hz⟩ := I1.tuple hq
  refine enum_call1 (begins_tuple a its.toArray) p' fun h' he hit hk => wpAny_pyIter_enum he ?_
  have al : a < s1.heap.objs.size := p'.lt
  refine ⟨s1.heap.objs.size + 1, [s1.heap.objs.size + 1, s1.heap.objs.size], _, _, H1, rfl, I1.kept (t' := s1.toks) hk, turn_enumT (a := a) (e := s1.heap.objs.size + 1) (it := s1.heap.objs.size) (Nat.ne_of_lt al), ⟨⟨.none, he⟩, ⟨_, hit, rfl, rfl⟩, Nat.succ_ne_self _, Nat.ne_of_gt (Nat.lt_succ_of_lt al)⟩, fun b hb => ?_, q⟩
  have hle : s1.heap.objs.size ≤ b := by
    rcases List.mem_cons.mp hb with z | z
    · rw [z]; exact Nat.le_succ _
    · rw [List.mem_singleton.mp z]; exact Nat.le_refl _
  exact I1.fpOk hle (I1.hok.fresh hle)
/-- the loop by an invariant -/
theorem for_enumT {K : PySem.W.Frag} {a : Addr} {xs : List V} {g : TG} {tb : TS} {D : Ends} {σ : L2.St} {H : Hp} (Pv : Nat → L2.St → Hp → Prop) (h0 : Pv 0 σ H) (hl : ∀ i σ H, Pv i σ H → SqT K H a xs)
    (hs : ∀ (i : Nat) (x : V) (T : Addr) (σ : L2.St) (H : Hp), xs[i]? = some x → Pv i σ H → H T = none → g (.ref T) σ (upd H T (.tup [.int (i : Nat), x])) fun σ2 H2 => tb { D with nx := Pv (i + 1), ct := Pv (i + 1), bk := D.nx } σ2 H2)
    (hd : ∀ σ H, Pv xs.length σ H → D.nx σ H) :
    ∃ W : Nat → Nat → L2.St → Hp → Prop, (∃ m, W 0 m σ H) ∧ ∀ i m σ H, W i m σ H → ((IteT K a).stop i H ∧ D.nx σ H) ∨ ((IteT K a).go i H ∧ ∃ N : L2.St → Hp → Prop, (∀ σ' H', N σ' H' → ∃ m', m' < m ∧ W (i + 1) m' σ' H') ∧ ∀ v H', (IteT K a).yld i H v H' → g v σ H' fun σ2 H2 => tb { D with nx := N, ct := N, bk := D.nx } σ2 H2) := by
  refine ⟨fun i m σ H => m = xs.length - i ∧ i ≤ xs.length ∧ Pv i σ H, ⟨_, rfl, Nat.zero_le _, h0⟩, ?_⟩
  rintro i m σ H ⟨rfl, hi, p⟩
  have q := hl i σ H p
  by_cases hlt : i < xs.length
  · refine .inr ⟨⟨xs, xs[i], q, List.getElem?_eq_getElem hlt⟩, Pv (i + 1), fun σ' H' p' => ⟨_, by omega, rfl, hlt, p'⟩, ?_⟩
    rintro v H' ⟨T, x, rfl, nT, rfl, hx⟩
    exact hs i x T σ H (hx xs q) p nT
  · have e : i = xs.length := by omega
    subst e
    exact .inl ⟨⟨xs, q, rfl⟩, hd σ H p⟩
end SK
namespace SK
open PySem PySem.Spec PyProof.Rows L2
structure GotD (P : Program) (w : World) (K : PySem.W.Frag) (mg : Str → Option Value) (base : Heap) (x : Str) (k : Nat) (ps : List Str) (dvs : List V) (sp : Sp) : Prop where
  ex : ∃ (f : Addr) (fd : FuncData) (ds : List Value), FnOk P w K mg base CX0 k f fd ps sp ∧ mg x = some (.ref f) ∧ PySem.W.keepIn K (.ref f) = true ∧ Binds K fd ps ds ∧ Vals dvs ds
theorem pcallD {X : Cx} {x : Str} {k : Nat} {ps : List Str} {dvs : List V} {sp : Sp} {e : Expr} {es : List Expr} {t : TA} {p pos : Pos} (G : GotD X.prog X.w X.K X.mg X.base x k ps dvs sp) (hr : Room k X.A) (ha : PA X (e :: es) t) (hg : Gl X x := by rfl)
    (hdb : (x == ("__debug__" : Str)) = false := by decide)
    (he : starEach (e :: es) X.env = (false, eval e X.env) :: starEach es X.env := by rfl) (hpl : (backTo pos (starEach es X.env)).any (·.1) = false := by rfl) : PE X (.Call (.Name x p) (e :: es) [] pos) (tCall sp dvs E0 t) := by
  obtain ⟨f, fd, ds, F, a, b, c, d⟩ := G.ex
  exact pe_call F hr hg a b c d pass0 ha hdb he hpl
def spCheckBook : Sp := fun vs H Q _ => ∃ (b : Addr) (ws : List (List Sy)) (st : List Sy), vs = [.ref b] ∧ BookAt H b ws st ∧ GoodBook ws st ∧ ∀ H', Same H H' → Q .non H'
def spCheckNum : Sp := fun vs H Q _ => ∃ (n lo hi : Int), vs = [.int n, .int lo, .int hi] ∧ lo ≤ n ∧ n ≤ hi ∧ Q .non H
def spCheckAge : Sp := fun vs H Q _ => ∃ (n m : Nat), vs = [.int n, .int m] ∧ n ≤ m ∧ Q .non H
def spCheckBA : Sp := fun vs H Q _ => ∃ (b : Addr) (n m : Nat) (ws : List (List Sy)) (st : List Sy), vs = [.ref b, .int n, .int m] ∧ BookAt H b ws st ∧ GoodBook ws st ∧ n ≤ m ∧ ∀ H', Same H H' → Q .non H'
section
variable {P : Program} {w : World} {K : PySem.W.Frag} {mg : Str → Option Value} {base : Heap}
theorem ok_checkbook {f : Addr} {fd : FuncData} {k : Nat} (F : Fun K "check_book" "check_book" s_check_book f fd) (GF : Got P w K mg base "has_book_form" k ["value"] spBookForm) (GW : Got P w K mg base "is_word" k ["value", "many"] spIsWord) (ml : mg "len" = none) (mE : mg "enumerate" = none) :
    FnOk P w K mg base CX0 (k + 1) f fd ["value"] spCheckBook := by
  refine F.ok sc_check_book (fun vs H Q E h => ?_) (fun cdv A outer s H vs Q E hr h => ?_)
  · obtain ⟨b, ws, st, rfl, _⟩ := h
    rfl
  · obtain ⟨b, ws, st, rfl, hb, hg, q⟩ := h
    have nd := sc_check_book.nd
    refine ⟨_, pss_cons (ps_if (pt_not (pt_val (pcall GF hr (pa_cons (pv 0) pa_nil)))) pss_never pss_nil)
      (pss_cons (ps_asg (pv 0) (pg_tup (by rfl) (pgs_cons (pg_name (i := 1) nd rfl (.inl rfl)) (pgs_cons (pg_name (i := 2) nd rfl (.inl rfl)) pgs_nil))))
      (pss_cons (ps_for PassesOwn.never rfl (pi_enumT (by rfl) mE (pa_cons (pv 1) pa_nil)) (pg_tup (by rfl) (pgs_cons (pg_name (i := 3) nd rfl (.inl rfl)) (pgs_cons (pg_name (i := 4) nd rfl (.inl rfl)) pgs_nil)))
        (pss_one (ps_if (pt_not (pt_val (pcall GW hr (pa_cons (pv 4) (pa_cons (plen ml (pv 1)) pa_nil))))) pss_never pss_nil)))
      (pss_one (ps_if (pt_not (pt_val (pcall GW hr (pa_cons (pv 2) (pa_cons (plen ml (pv 1)) pa_nil))))) pss_never pss_nil)))), ?_⟩
    obtain ⟨p, pq, as, h1, h2, h3, h4⟩ := id hb
    have el := h4.length
    refine ⟨_, rfl, b, ws, st, rfl, hb, hg, _, rfl, iteF ?_⟩
    refine ⟨_, rfl, b, _, rfl, SqT.of h1, rfl, _, _, rfl, _, _, rfl, rfl, ?_⟩
    refine ⟨_, rfl, p, _, rfl, SqT.of h2, for_enumT (K := K) (a := p) (xs := as.map V.ref) (fun i σ H' => ∃ y3 y4 : Option V, σ = [some (.ref b), some (.ref p), some (.ref pq), y3, y4] ∧ Same H H') ⟨none, none, rfl, Same.refl H⟩ (fun i σ H' ⟨_, _, _, s⟩ => sTup s (SqT.of h2)) ?_ ?_⟩
    · rintro i x T σ H1 hx ⟨y3, y4, rfl, S1⟩ nT
      have S2 := S1.trans (same_upd (o := .tup [.int (i : Nat), x]) nT)
      rw [List.getElem?_map] at hx
      obtain ⟨a, ha, rfl⟩ : ∃ a, as[i]? = some a ∧ x = V.ref a := by
        cases e : as[i]? with
        | none => rw [e] at hx; cases hx
        | some a => rw [e] at hx; exact ⟨a, rfl, (Option.some.inj hx).symm⟩
      have hi : i < ws.length := by rw [← el]; exact (List.getElem?_eq_some_iff.mp ha).1
      have hw := List.getElem?_eq_getElem hi
      have gw := hg.words _ (List.getElem_mem hi)
      generalize ws[i] = w1 at hw gw
      obtain ⟨a', ha', ht⟩ := paired_get h4 hw
      rw [ha] at ha'
      cases ha'
      refine ⟨T, _, rfl, SqT.of upd_same, rfl, _, _, rfl, _, _, rfl, rfl, ?_⟩
      refine ⟨_, rfl, _, rfl, p, _, rfl, .inr (sTup S2 (SqT.of h2)), a, ws.length, w1, ?_, ht.same S2, gw, _, rfl, iteF ⟨_, _, rfl, S2⟩⟩
      rw [List.length_map, el]; rfl
    · rintro σ H1 ⟨y3, y4, rfl, S1⟩
      refine ⟨_, rfl, _, rfl, p, _, rfl, .inr (sTup S1 (SqT.of h2)), pq, ws.length, st, ?_, h3.same S1, hg.start, _, rfl, iteF (q H1 S1)⟩
      rw [List.length_map, el]; rfl
end
end SK
namespace SK
open PySem PySem.Spec PyProof.Rows L2
section
variable {P : Program} {w : World} {K : PySem.W.Frag} {mg : Str → Option Value} {base : Heap}
theorem ok_checknum {f : Addr} {fd : FuncData} {k : Nat} (F : Fun K "check_number" "check_number" s_check_number f fd) (GI : Got P w K mg base "is_integer" k ["value"] (spIsInt K)) :
    FnOk P w K mg base CX0 (k + 1) f fd ["value", "least", "most"] spCheckNum := by
  refine F.ok sc_check_number (fun vs H Q E h => ?_) (fun cdv A outer s H vs Q E hr h => ?_)
  · obtain ⟨n, lo, hi, rfl, _⟩ := h
    rfl
  · obtain ⟨n, lo, hi, rfl, h1, h2, q⟩ := h
    refine ⟨_, pss_one (ps_if (PW.pt (pw_or (pt_not (pt_val (pcall GI hr (pa_cons (pv 0) pa_nil)))) (pw_or1 (pt_not (pt_chain op_le op_le (pv 1) (pv 0) (pv 2)))))) pss_never pss_nil), ?_⟩
    refine ⟨_, rfl, _, "int", true, false, rfl, ty_int _, by decide +kernel, by decide +kernel, _, rfl, iteF ?_⟩
    refine ⟨_, rfl, _, rfl, _, _, rfl, rfl, _, rfl, itY h1 ⟨_, rfl, _, _, rfl, rfl, _, rfl, ?_⟩⟩
    rw [decide_eq_true h2]
    exact iteF q
theorem ok_checkage {f : Addr} {fd : FuncData} {k : Nat} (F : FunD K "check_age" "check_age" (defArgs s_check_age) (defBody s_check_age) (defScope s_check_age) [.int 1000] [] f fd) (GN : Got P w K mg base "check_number" k ["value", "least", "most"] spCheckNum) :
    FnOk P w K mg base CX0 (k + 1) f fd ["value", "most"] spCheckAge := by
  refine F.ok sc_check_age (fun vs H Q E h => ?_) (fun cdv A outer s H vs Q E hr h => ?_)
  · obtain ⟨n, m, rfl, _⟩ := h
    rfl
  · obtain ⟨n, m, rfl, hn, q⟩ := h
    refine ⟨_, pss_one (ps_expr (pcall GN hr (pa_cons (pv 0) (pa_cons pe_int (pa_cons (pv 1) pa_nil))))), ?_⟩
    exact ⟨_, rfl, _, rfl, (n : Int), 0, (m : Int), rfl, by omega, by omega, q⟩
theorem binds_checkage {f : Addr} {fd : FuncData} (F : FunD K "check_age" "check_age" (defArgs s_check_age) (defBody s_check_age) (defScope s_check_age) [.int 1000] [] f fd) : ∃ ds, Vals [V.int 1000] ds ∧ Binds K fd ["value", "most"] ds := by
  refine F.binds1 (ps := ["value", "most"]) 1 0 (by simp) rfl (fun T kV doc pm an cdv ct us its h1 h2 => ?_)
  match us, its, h1, h2 with
  | [u], [i], _, _ => exact ⟨_, rfl, rfl⟩
theorem ok_checkba {f : Addr} {fd : FuncData} {k : Nat} (F : FunD K "check_book_and_age" "check_book_and_age" (defArgs s_check_book_and_age) (defBody s_check_book_and_age) (defScope s_check_book_and_age) [.int 1000] [] f fd) (GB : Got P w K mg base "check_book" k ["value"] spCheckBook) (GA : Got P w K mg base "check_age" k ["value", "most"] spCheckAge) :
    FnOk P w K mg base CX0 (k + 1) f fd ["book", "age", "most"] spCheckBA := by
  refine F.ok sc_check_book_and_age (fun vs H Q E h => ?_) (fun cdv A outer s H vs Q E hr h => ?_)
  · obtain ⟨b, n, m, ws, st, rfl, _⟩ := h
    rfl
  · obtain ⟨b, n, m, ws, st, rfl, hb, hg, hn, q⟩ := h
    refine ⟨_, pss_cons (ps_expr (pcall GB hr (pa_cons (pv 0) pa_nil))) (pss_one (ps_expr (pcall GA hr (pa_cons (pv 1) (pa_cons (pv 2) pa_nil))))), ?_⟩
    exact ⟨_, rfl, b, ws, st, rfl, hb, hg, fun H1 S1 => ⟨_, rfl, _, rfl, n, m, rfl, hn, q H1 S1⟩⟩
theorem binds_checkba {f : Addr} {fd : FuncData} (F : FunD K "check_book_and_age" "check_book_and_age" (defArgs s_check_book_and_age) (defBody s_check_book_and_age) (defScope s_check_book_and_age) [.int 1000] [] f fd) : ∃ ds, Vals [V.int 1000] ds ∧ Binds K fd ["book", "age", "most"] ds := by
  refine F.binds1 (ps := ["book", "age", "most"]) 2 0 (by simp) rfl (fun T kV doc pm an cdv ct us its h1 h2 => ?_)
  match us, its, h1, h2 with
  | [u, u2], [i], _, _ => exact ⟨_, rfl, rfl⟩
end
end SK
namespace SK
open PySem PySem.Spec PyProof.Rows L2 PpSet
/-! ### {e for target in iter if ..}, e a whole number -/
def tSci (w : World) (wi : TI) (g : TG) (tt : TT) (te : TE) (vs : List Nat) : TE := fun σ H Q => wi σ H fun J H1 => ∀ D, H1 D = none →
  ∃ W : Nat → Nat → Hp → Prop, (∃ m, W 0 m (upd H1 D (SetO w D (fun _ => false) 0))) ∧ ∀ i m H, W i m H → (J.stop i H ∧ Q (.ref D) H) ∨
    (J.go i H ∧ ∃ Nx : Hp → Prop, (∀ H', Nx H' → ∃ m', m' < m ∧ W (i + 1) m' H') ∧ ∀ x H', J.yld i H x H' → g x (wipe σ vs) H' fun σ2 H2 => wipe σ2 vs = wipe σ vs ∧ tt σ2 H2 fun b H3 =>
      if b = true then te σ2 H3 fun y H4 => ∃ (k : Int) (S : Int → Bool) (n : Nat), y = .int k ∧ H4 D = some (SetO w D S n) ∧ n + 1 < scanBound ∧ Nx (upd H4 D (SetO w D (fun j => S j || decide (j = k)) (if S k = true then n else n + 1))) else Nx H3)
section
variable {X : Cx} {elt tg iter : Expr} {ifs : List Expr} {scope : Scope} {own : List (Str × Nat)} {pos : Pos} {wi : TI} {g : TG} {tt : TT} {te : TE}
theorem pe_sci (hc : X.calm = true) (hN : X.N.Nodup) (hi : PI X tg iter wi) (ok : BlkOk X.N X.env.scope scope own) (hg : ∀ s H C cl fp, PG (X.blk s H scope (compEnvC scope cl C X.env) fp) tg g) (ht : ∀ s H C cl fp, PTs (X.blk s H scope (compEnvC scope cl C X.env) fp) ifs tt)
    (he : ∀ s H C cl fp, PE (X.blk s H scope (compEnvC scope cl C X.env) fp) elt te) (hs : ∀ x, foldedSetIterable iter X.env x = pure x := by intro _; rfl) : PE X (.SetComp elt [⟨tg, iter, ifs, 0⟩] scope pos) (tSci X.w wi g tt te (own.map (·.2))) := by
  refine ⟨fun pins s σ H Q I h => ?_⟩
  rw [eval_SetComp]
  refine wpAny_comprehension_free (use := none) rfl hs (closure_ok fun y hy e => (ok.free y hy e).elim (fun k => I.ok.has _ (.inl k)) fun k => I.ok.has _ (.inr k)) ok.kind (fun y hy e => by rw [ok.uniq y hy, e])
    (thn (hi.run pins s σ H _ I h) fun xv s1 hx => thn hx fun itv s2 ⟨it, fp, tn, J, H2, eit, I2, T, st2, f2, q⟩ => ?_)
  subst eit
  refine newSet_ok (newEnv_comp ?_)
  generalize hD : s2.heap.objs.size = D
  obtain ⟨W, ⟨m0, w0⟩, turn⟩ := q D (I2.hok.fresh (Nat.le_of_eq hD))
  let cell : Obj := { cls := .type "set", dict := none, data := .set #[] 0 (.fresh 0 0 (!X.w.params.followText "set-order")) }
  generalize hs3 : ({ s2 with heap := s2.heap.push cell } : Shared) = s3
  have h3 : s3.heap = s2.heap.push cell := by rw [← hs3]
  have I3 : Inv X pins σ (upd H2 D (SetO X.w D (fun _ => false) 0)) s3 := by
    rw [← hs3]
    exact I2.laid (t' := s2.toks) (fun b o e => Heap.get?_push_of_some _ e) (Nat.le_of_eq hD) (by rw [← hD]; exact setO_new (setR_fresh X.w))
  have f3 : ∀ b ∈ fp, FpOk X pins (upd H2 D (SetO X.w D (fun _ => false) 0)) b ∧ b < s3.heap.objs.size := fun b hb => by
    obtain ⟨o, e, _⟩ := T.obj _ _ st2 b hb
    have lt := Heap.lt_size e
    exact ⟨⟨by rw [upd_ne (by rw [← hD]; exact Nat.ne_of_lt lt)]; exact (f2 b hb).1, (f2 b hb).2⟩, by rw [h3, Heap.size_push]; exact Nat.lt_succ_of_lt lt⟩
  have st3 : tn 0 s3.heap := T.keep _ _ _ st2 fun b _ o e => by rw [h3]; exact Heap.get?_push_of_some _ e
  have I4 := block_start I3 ok hN f3
  let cells := cellsFrom (s3.heap.objs.size + 1) scope.names (cloFrom X.env.cells scope.names [])
  have pg := hg s3 (upd H2 D (SetO X.w D (fun _ => false) 0)) s3.heap.objs.size cells fp
  have pt := ht s3 (upd H2 D (SetO X.w D (fun _ => false) 0)) s3.heap.objs.size cells fp
  have pe := he s3 (upd H2 D (SetO X.w D (fun _ => false) 0)) s3.heap.objs.size cells fp
  show codeAny _ _ (.compStart _ 0 (.ref it) (.ref D) (compEnvC scope cells s3.heap.objs.size X.env)) _ { s3 with heap := pushCells (s3.heap.push { cls := .type "dict", data := .dict #[] }) scope.names }
  change Inv (X.blk s3 _ scope (compEnvC scope cells s3.heap.objs.size X.env) fp) [] _ _ _ at I4
  generalize hce : compEnvC scope cells s3.heap.objs.size X.env = ce at I4 pg pt pe ⊢
  have cL : ce.locals = s3.heap.objs.size := by rw [← hce]; rfl
  generalize hH3 : upd H2 D (SetO X.w D (fun _ => false) 0) = H3 at I3 I4 pg pt pe w0 f3
  generalize hs4 : ({ s3 with heap := pushCells (s3.heap.push { cls := .type "dict", data := .dict #[] }) scope.names } : Shared) = s4 at I4 ⊢
  have st4 : tn 0 s4.heap := T.keep _ _ _ st3 fun b _ o e => by rw [← hs4]; exact pushCells_keeps _ _ _ _ (Heap.get?_push_of_some _ e)
  -- the iterator's own cells within the block
  have inside : ∀ {σ' : L2.St} {H' : Hp} {s' : Shared}, Inv (X.blk s3 H3 scope ce fp) [] σ' H' s' → (∀ b ∈ fp, H' b = none) → ∀ b ∈ fp, FpOk (X.blk s3 H3 scope ce fp) [] H' b := fun I' hn b hb =>
    ⟨hn b hb, (I'.ok.exf b hb).1, I'.ok.exfs b hb, .inl hb, (I'.ok.exf b hb).2 |> fun k x c e => k x c e, fun p hp => nomatch hp⟩
  have loop : codeAny (model X.prog X.w) X.A (.compLoop (.SetComp elt [⟨tg, iter, ifs, 0⟩] scope pos) 0 (.ref it) (.ref D) ce) (compPost (model X.prog X.w) X.A X.xe none (EP X pins σ Q) (.ref D) s3.heap.objs.size) s4 := by
    refine compLoopS_any (fun n s' => ∃ i H', Inv (X.blk s3 H3 scope ce fp) [] (wipe σ (own.map (·.2))) H' s' ∧ tn i s'.heap ∧ (∀ b ∈ fp, H' b = none) ∧ W i n H') ?_ m0 ⟨0, H3, I4, st4, fun b hb => (f3 b hb).1.1, w0⟩
    rintro n s5 ⟨i, H5, I5, st5, n5, w5⟩
    rcases turn i n H5 w5 with ⟨stop, wish⟩ | ⟨go, Nx, hNx, step⟩
    · refine thnF (T.done (X.blk s3 H3 scope ce fp) rfl rfl rfl hc i [] s5 _ H5 (fun _ _ => False) I5 (inside I5 n5) st5 stop) fun r s6 ⟨hr, I6⟩ => ?_
      subst hr
      have I7 : Inv X pins σ H5 s6 := I3.call' (ch := fp) I6.os I6.base I6.hok I6.bare fun b hb => ⟨(f3 b hb).1.2.2.2.1, (f3 b hb).1.2.1, (f3 b hb).1.2.2.2.2.1, (f3 b hb).1.2.2.2.2.2⟩
      have nC : H5 ce.locals = none := I6.free
      obtain ⟨m, hn, _⟩ := I6.loc
      have hn' : s6.heap.Ns ce.locals m := hn
      rw [cL] at hn' nC
      obtain ⟨e0, e1, e2, e3, e4, e5⟩ := I3.fpOk (Nat.le_refl _) nC
      exact ⟨m, hn', fun h'' sb => ⟨.ref D, H5, I7.turned (t' := s6.toks) (fun b o hb e => (sb.2 b hb).trans e) e0 e1 e3 e4 e5, rfl, wish⟩⟩
    · refine thnF (T.item (X.blk s3 H3 scope ce fp) rfl rfl rfl hc i [] s5 _ H5 (fun _ _ => False) I5 (inside I5 n5) st5 go) fun r s6 ⟨u, hr, h6⟩ => ?_
      subst hr
      refine thnF h6 fun _ s7 ⟨x, H7, I7, r7, y7, st7, n7⟩ => thnF (pg.run _ s7 _ H7 x u _ (I7.pinned (inside I7 n7) (T.obj _ _ st7)) r7 (step x H7 y7)) fun _ s8 ⟨σ8, H8, I8, hw8, q8⟩ => thnF (pt.run _ s8 σ8 H8 _ I8 q8) fun b s9 ⟨H9, I9, q9⟩ => ?_
      have fin : ∀ {s' : Shared} {H' : Hp}, Inv (X.blk s3 H3 scope ce fp) ([] ++ pinsAt fp s7.heap) σ8 H' s' → Nx H' → ∃ m, m < n ∧ ∃ i H', Inv (X.blk s3 H3 scope ce fp) [] (wipe σ (own.map (·.2))) H' s' ∧ tn i s'.heap ∧ (∀ b ∈ fp, H' b = none) ∧ W i m H' := fun {s' H'} I' nx => by
        obtain ⟨m', hm, w'⟩ := hNx H' nx
        have held : ∀ b ∈ fp, ∀ o, s7.heap.get? b = some o → s'.heap.get? b = some o ∧ H' b = none := fun b hb o e => by
          have z := I'.pin (b, o) (List.mem_append_right _ (List.mem_append_right _ (mem_pinsAt hb e)))
          exact ⟨z.1, z.2.1⟩
        refine ⟨m', hm, i + 1, H', (I'.unpinned (pins := [])).weak (by rw [← hw8, wipe_length]) (fun j v e => ?_), T.keep _ _ _ st7 fun b hb o e => (held b hb o e).1, fun b hb => ?_, w'⟩
        · rw [← hw8] at e
          exact (wipe_some e).1
        · obtain ⟨o, e, _⟩ := T.obj _ _ st7 b hb
          exact (held b hb o e).2
      cases b with
      | false => exact fin I9 q9
      | true =>
        refine thnF (pe.run _ s9 σ8 H9 _ I9 q9) fun z s10 ⟨yv, H10, I10, r10, k, S0, n0, ey, hD10, hz10, nx⟩ => ?_
        subst ey
        refine thnF (mt_sadd (X := X.blk s3 H3 scope ce fp) _ s10 σ8 H10 (.ref D) [.int k] (.ref D) [z] (fun _ H' => Nx H') I10 rfl (.cons r10 .nil) ⟨D, k, S0, n0, rfl, rfl, hD10, hz10, nx⟩) fun _ s11 ⟨_, H11, I11, _, nx'⟩ => fin I11 nx'
  exact codeAny_compStart_set loop (T.self X.A 0 _ _ _ st4 loop)
end
end SK
namespace SK
open PySem PySem.Spec PyProof.Rows L2
theorem sci_it {J : It} {n : Nat} {G : Hp → Prop} {Y : Nat → Hp → V → Hp → Prop} {w : World} (wk : Walk J n G Y) {g : TG} {tt : TT} {te : TE} {vs : List Nat} {σ : L2.St} {H1 : Hp} {D : Addr} {Qd : Hp → Prop} (Pv : Nat → Hp → Prop) (h0 : Pv 0 (upd H1 D (SetO w D (fun _ => false) 0))) (hG : ∀ i H, i ≤ n → Pv i H → G H)
    (hs : ∀ i x H H', i < n → Pv i H → Y i H x H' → g x (wipe σ vs) H' fun σ2 H2 => wipe σ2 vs = wipe σ vs ∧ tt σ2 H2 fun b H3 =>
      if b = true then te σ2 H3 fun y H4 => ∃ (k : Int) (S : Int → Bool) (n : Nat), y = .int k ∧ H4 D = some (SetO w D S n) ∧ n + 1 < scanBound ∧ Pv (i + 1) (upd H4 D (SetO w D (fun j => S j || decide (j = k)) (if S k = true then n else n + 1))) else Pv (i + 1) H3)
    (hd : ∀ H, Pv n H → Qd H) : ∃ W : Nat → Nat → Hp → Prop, (∃ m, W 0 m (upd H1 D (SetO w D (fun _ => false) 0))) ∧ ∀ i m H, W i m H → (J.stop i H ∧ Qd H) ∨
      (J.go i H ∧ ∃ Nx : Hp → Prop, (∀ H', Nx H' → ∃ m', m' < m ∧ W (i + 1) m' H') ∧ ∀ x H', J.yld i H x H' → g x (wipe σ vs) H' fun σ2 H2 => wipe σ2 vs = wipe σ vs ∧ tt σ2 H2 fun b H3 =>
        if b = true then te σ2 H3 fun y H4 => ∃ (k : Int) (S : Int → Bool) (n : Nat), y = .int k ∧ H4 D = some (SetO w D S n) ∧ n + 1 < scanBound ∧ Nx (upd H4 D (SetO w D (fun j => S j || decide (j = k)) (if S k = true then n else n + 1))) else Nx H3) := by
  refine ⟨fun i m H => m = n - i ∧ i ≤ n ∧ Pv i H, ⟨_, rfl, Nat.zero_le _, h0⟩, ?_⟩
  rintro i m H ⟨rfl, hi, p⟩
  have q := hG i H hi p
  by_cases hlt : i < n
  · exact .inr ⟨wk.goes i H hlt q, Pv (i + 1), fun H' p' => ⟨_, by omega, rfl, hlt, p'⟩, fun x H' y => hs i x H H' hlt p (wk.yields i H x H' hlt q y)⟩
  · have e : i = n := by omega
    subst e
    exact .inl ⟨wk.stops H q, hd H p⟩
/-! ### the letters of a piece -/
def isI (s : Sy) (j : Int) : Bool := match s with
  | .l k => decide (j = (k : Int))
  | _ => false
def hasI (v : List Sy) (j : Int) : Bool := v.any fun s => isI s j
def numI (v : List Sy) : Nat := ((List.range 8).filter fun (j : Nat) => hasI v (j : Int)).length
theorem hasI_app (v : List Sy) (s : Sy) (j : Int) : hasI (v ++ [s]) j = (hasI v j || isI s j) := by
  unfold hasI
  rw [List.any_append]
  simp
theorem hasI_mem {v : List Sy} {k : Nat} : hasI v (k : Int) = true ↔ Sy.l k ∈ v := by
  unfold hasI
  rw [List.any_eq_true]
  constructor
  · rintro ⟨s, hs, e⟩
    cases s with
    | l j =>
      have : (k : Int) = (j : Int) := of_decide_eq_true e
      have : k = j := by omega
      subst this
      exact hs
    | p => cases e
    | m => cases e
    | o => cases e
    | c => cases e
  · intro h
    exact ⟨_, h, decide_eq_true rfl⟩
theorem count_add : ∀ {l : List Nat} {p : Nat → Bool} {k : Nat}, l.Nodup → k ∈ l → p k = false → (l.filter fun j => p j || decide ((j : Int) = (k : Int))).length = (l.filter p).length + 1
  | [], _, _, _, h, _ => by cases h
  | a :: l, p, k, nd, hm, hp => by
    have nd' := (List.nodup_cons.mp nd)
    by_cases e : a = k
    · subst e
      have rest : (l.filter fun j => p j || decide ((j : Int) = (a : Int))) = l.filter p := by
        refine List.filter_congr fun j hj => ?_
        have : ¬ ((j : Int) = (a : Int)) := fun z => by
          have : j = a := by omega
          subst this
          exact nd'.1 hj
        rw [decide_eq_false this, Bool.or_false]
      rw [List.filter_cons, List.filter_cons, rest, hp]
      simp
    · have hm' : k ∈ l := by
        rcases List.mem_cons.mp hm with h | h
        · exact absurd h.symm e
        · exact h
      have ih := count_add (p := p) nd'.2 hm' hp
      have ne : ¬ ((a : Int) = (k : Int)) := fun z => e (by omega)
      rw [List.filter_cons, List.filter_cons, decide_eq_false ne, Bool.or_false]
      cases hpa : p a with
      | true => simp only [if_true, List.length_cons, ih]
      | false => simp only [Bool.false_eq_true, if_false, ih]
theorem numI_le (v : List Sy) : numI v ≤ 8 := by
  unfold numI
  have := List.length_filter_le (fun (j : Nat) => hasI v (j : Int)) (List.range 8)
  rw [List.length_range] at this
  exact this
theorem numI_app (v : List Sy) {k : Nat} (h : k < 8) : numI (v ++ [.l k]) = if hasI v (k : Int) = true then numI v else numI v + 1 := by
  unfold numI
  have e : (fun (j : Nat) => hasI (v ++ [.l k]) (j : Int)) = fun (j : Nat) => hasI v (j : Int) || decide ((j : Int) = (k : Int)) := by
    funext j
    rw [hasI_app]
    rfl
  rw [e]
  cases hk : hasI v (k : Int) with
  | true =>
    rw [if_pos rfl]
    congr 1
    refine List.filter_congr fun j _ => ?_
    by_cases z : (j : Int) = (k : Int)
    · rw [z, hk]; rfl
    · rw [decide_eq_false z, Bool.or_false]
  | false =>
    rw [if_neg (by simp)]
    exact count_add List.nodup_range (List.mem_range.mpr h) hk
theorem nat_list : ∀ {ns : List Int}, (∀ i ∈ ns, 0 ≤ i) → ∃ ls : List Nat, ns = ls.map fun (k : Nat) => (k : Int)
  | [], _ => ⟨[], rfl⟩
  | i :: ns, h => by
    obtain ⟨ls, e⟩ := nat_list (ns := ns) fun j hj => h j (List.mem_cons_of_mem _ hj)
    exact ⟨i.toNat :: ls, by rw [e, List.map_cons, Int.toNat_of_nonneg (h i List.mem_cons_self)]⟩
def iV (ls : List Nat) : List V := ls.map fun (k : Nat) => V.int (k : Int)
def spLettersIn (K : PySem.W.Frag) : Sp := fun vs H Q _ => ∃ (a : Addr) (w : List Sy), vs = [.ref a] ∧ Sq K H a (wv w) ∧ (∀ k, Sy.l k ∈ w → k < 8) ∧
  ∀ (H' : Hp) (p : Addr) (ls : List Nat), Same H H' → H p = none → H' p = some (.lst (iV ls)) → (∀ k, k ∈ ls ↔ Sy.l k ∈ w) → ls.length ≤ 8 → Q (.ref p) H'
section
variable {P : Program} {w : World} {K : PySem.W.Frag} {mg : Str → Option Value} {base : Heap}
theorem ok_lettersin {f : Addr} {fd : FuncData} {k : Nat} (F : Fun K "letters_in" "letters_in" s_letters_in f fd) (mI : mg "isinstance" = none) (mS : mg "str" = none) (mO : mg "sorted" = none) : FnOk P w K mg base CX0 (k + 1) f fd ["parts"] (spLettersIn K) := by
  refine F.ok sc_letters_in (fun vs H Q E h => ?_) (fun cdv A outer s H vs Q E hr h => ?_)
  · obtain ⟨a, w, rfl, _⟩ := h
    rfl
  · obtain ⟨a, wd, rfl, ha, hb, q⟩ := h
    have nd := sc_letters_in.nd
    refine ⟨_, pss_one (ps_ret (pe_callB (cr_sortedSet rfl) (by rfl) mO (by decide +kernel) (pa_cons
      (pe_sci (own := [("part", 1)]) (g := gName 1) (tt := tNotStr K 1) rfl nd (pi_seq (pv 0)) (blkOk_by (N := n_letters_in) (sc := defScope s_letters_in) (by decide +kernel))
        (fun _ _ _ _ _ => pg_name (i := 1) nd rfl (Or.inl rfl)) (fun _ _ _ _ _ => pts_one (ptNotStr mI mS (pv 1))) (fun _ _ _ _ _ => pv 1)) pa_nil))), ?_⟩
    have go : ∀ {J : It} {G : Hp → Prop}, Walk J (wv wd).length G (YAt (wv wd)) → (∀ H', Same H H' → G H') → ∀ D, H D = none → ∀ (Qd : Hp → Prop), (∀ H', Same H H' → H' D = some (SetO w D (hasI wd) (numI wd)) → Qd H') →
        ∃ W : Nat → Nat → Hp → Prop, (∃ m, W 0 m (upd H D (SetO w D (fun _ => false) 0))) ∧ ∀ i m H, W i m H → (J.stop i H ∧ Qd H) ∨
          (J.go i H ∧ ∃ Nx : Hp → Prop, (∀ H', Nx H' → ∃ m', m' < m ∧ W (i + 1) m' H') ∧ ∀ x H', J.yld i H x H' → gName 1 x (wipe (L2.start n_letters_in [V.ref a]) [1]) H' fun σ2 H2 => wipe σ2 [1] = wipe (L2.start n_letters_in [V.ref a]) [1] ∧ tNotStr K 1 σ2 H2 fun b H3 =>
            if b = true then tVar 1 σ2 H3 fun y H4 => ∃ (k : Int) (S : Int → Bool) (n : Nat), y = .int k ∧ H4 D = some (SetO w D S n) ∧ n + 1 < scanBound ∧ Nx (upd H4 D (SetO w D (fun j => S j || decide (j = k)) (if S k = true then n else n + 1))) else Nx H3) := by
      intro J G wk hG D nD Qd hq
      refine sci_it wk (fun i H' => Same H H' ∧ H' D = some (SetO w D (hasI (wd.take i)) (numI (wd.take i)))) ⟨same_upd nD, upd_same⟩ (fun i H' _ p => hG H' p.1) ?_ ?_
      · rintro i x H1 H2 hi ⟨S1, hD⟩ ⟨rfl, hx⟩
        obtain ⟨sy, hs, rfl⟩ := wv_get hx
        obtain ⟨tn, tb, ht, hk, htb⟩ := ty_sy (K := K) (H := H2) sy
        refine ⟨rfl, _, rfl, sy.v, tn, tb, rfl, ht, hk, tb, rfl, ?_⟩
        subst htb
        rw [Bool.not_not, take_more hs]
        cases sy with
        | l k =>
          refine iteT ⟨_, rfl, (k : Int), hasI (wd.take i), numI (wd.take i), rfl, hD, ?_, sPut S1 nD, ?_⟩
          · have := numI_le (wd.take i)
            exact Nat.lt_of_le_of_lt (show numI (wd.take i) + 1 ≤ 9 by omega) (by decide)
          · rw [upd_same, numI_app _ (hb k (List.mem_of_getElem? hs))]
            congr 2
            funext j
            rw [hasI_app]
            rfl
        | p => exact iteF ⟨S1, by rw [hD]; congr 2; exact (funext fun j => by rw [hasI_app, show isI .p j = false from rfl, Bool.or_false]); simp only [numI, hasI_app]; simp [isI]⟩
        | m => exact iteF ⟨S1, by rw [hD]; congr 2; exact (funext fun j => by rw [hasI_app, show isI .m j = false from rfl, Bool.or_false]); simp only [numI, hasI_app]; simp [isI]⟩
        | o => exact iteF ⟨S1, by rw [hD]; congr 2; exact (funext fun j => by rw [hasI_app, show isI .o j = false from rfl, Bool.or_false]); simp only [numI, hasI_app]; simp [isI]⟩
        | c => exact iteF ⟨S1, by rw [hD]; congr 2; exact (funext fun j => by rw [hasI_app, show isI .c j = false from rfl, Bool.or_false]); simp only [numI, hasI_app]; simp [isI]⟩
      · rintro H1 ⟨S1, hD⟩
        rw [List.length_map, List.take_length] at hD
        exact hq H1 S1 hD
    have fin : ∀ (D : Addr) (H' : Hp), Same H H' → H' D = some (SetO w D (hasI wd) (numI wd)) → rSortedSet w [.ref D] H' Q := by
      intro D H' S1 hD
      refine ⟨D, hasI wd, numI wd, rfl, hD, Nat.lt_of_le_of_lt (numI_le wd) (by decide), fun ns p hs hm hl np => ?_⟩
      obtain ⟨ls, rfl⟩ := nat_list (ns := ns) fun i hi => by
        have h1 := (hm i).mp hi
        unfold hasI at h1
        obtain ⟨s, _, e⟩ := List.any_eq_true.mp h1
        cases s with
        | l j => have : i = (j : Int) := of_decide_eq_true e; omega
        | p => cases e
        | m => cases e
        | o => cases e
        | c => cases e
      refine q _ p ls (sUpd S1 np) (S1.free np) ?_ (fun k => ?_) ?_
      · rw [upd_same, List.map_map]; rfl
      · rw [← hasI_mem, ← hm (k : Int)]
        constructor
        · intro h; exact List.mem_map.mpr ⟨k, h, rfl⟩
        · intro h
          obtain ⟨j, hj, e⟩ := List.mem_map.mp h
          have : j = k := by omega
          rw [← this]; exact hj
      · rw [List.length_map] at hl
        rw [hl]; exact numI_le wd
    rcases ha with ha | ha
    · exact ⟨a, rfl, .inl ⟨⟨_, ha⟩, fun D nD => go walk_list (fun H' S => S.seq ha) D nD _ fun H' S1 hD => fin D H' S1 hD⟩⟩
    · exact ⟨a, rfl, .inr ⟨⟨_, ha⟩, fun D nD => go walk_tup (fun H' S => sTup S ha) D nD _ fun H' S1 hD => fin D H' S1 hD⟩⟩
end
end SK
namespace SK
open PySem PySem.Spec PyProof.Rows L2
/-- a walk by an invariant, told by what one turn brings -/
theorem walk_by {J : It} {n : Nat} {G : Hp → Prop} {Y : Nat → Hp → V → Hp → Prop} (wk : Walk J n G Y) {H0 : Hp} {turn : V → Hp → (Hp → Prop) → Prop} {Qd : Hp → Prop} (Pv : Nat → Hp → Prop) (h0 : Pv 0 H0) (hG : ∀ i H, Pv i H → G H)
    (hs : ∀ i x H H', i < n → Pv i H → Y i H x H' → turn x H' (Pv (i + 1))) (hd : ∀ H, Pv n H → Qd H) : ∃ W : Nat → Nat → Hp → Prop, (∃ m, W 0 m H0) ∧ ∀ i m H, W i m H → (J.stop i H ∧ Qd H) ∨
      (J.go i H ∧ ∃ Nx : Hp → Prop, (∀ H', Nx H' → ∃ m', m' < m ∧ W (i + 1) m' H') ∧ ∀ x H', J.yld i H x H' → turn x H' Nx) := by
  refine ⟨fun i m H => m = n - i ∧ i ≤ n ∧ Pv i H, ⟨_, rfl, Nat.zero_le _, h0⟩, ?_⟩
  rintro i m H ⟨rfl, hi, p⟩
  have q := hG i H p
  by_cases hlt : i < n
  · exact .inr ⟨wk.goes i H hlt q, Pv (i + 1), fun H' p' => ⟨_, by omega, rfl, hlt, p'⟩, fun x H' y => hs i x H H' hlt p (wk.yields i H x H' hlt q y)⟩
  · have e : i = n := by omega
    subst e
    exact .inl ⟨wk.stops H q, hd H p⟩
def spNext : Sp := fun vs H Q _ => ∃ (p l : Addr) (as : List Addr) (ws : List (List Sy)) (ls : List Nat), vs = [.ref p, .ref l] ∧ H p = some (.tup (as.map V.ref)) ∧ Words H as ws ∧ H l = some (.lst (iV ls)) ∧ (∀ k ∈ ls, k < ws.length) ∧ ls.length ≤ 8 ∧ ws.length ≤ 8 ∧ (∀ w ∈ ws, Good ws.length 40 w) ∧
  ∀ (H' : Hp) (q : Addr) (ls' : List Nat), Same H H' → H q = none → H' q = some (.lst (iV ls')) → (∀ k, k ∈ ls' ↔ ∃ j ∈ ls, Sy.l k ∈ ws.getD j []) → ls'.length ≤ 8 → Q (.ref q) H'
section
variable {P : Program} {w : World} {K : PySem.W.Frag} {mg : Str → Option Value} {base : Heap}
theorem ok_next {f : Addr} {fd : FuncData} {k : Nat} (F : Fun K "next_letters" "next_letters" s_next_letters f fd) (GL : Got P w K mg base "letters_in" k ["parts"] (spLettersIn K)) : FnOk P w K mg base CX0 (k + 1) f fd ["words", "letters"] spNext := by
  refine F.ok sc_next_letters (fun vs H Q E h => ?_) (fun cdv A outer s H vs Q E hr h => ?_)
  · obtain ⟨p, l, as, ws, ls, rfl, _⟩ := h
    rfl
  · obtain ⟨p, l, as, ws, ls, rfl, hp, hw, hl, hk, hz, hz2, hg, q⟩ := h
    have nd := sc_next_letters.nd
    refine ⟨_, pss_one (ps_ret (pcall GL hr (pa_cons
      (pe_lc2 (own := [("letter", 2), ("part", 3)]) (vs1 := [3]) (wi1 := iTup K (tOp (rIxT K) (tVar 0) (tVar 2))) (g := gName 2) (g1 := gName 3) (tt := tYes) (tt1 := tYes) rfl nd (pi_list (pv 1)) (blkOk_by (N := n_next_letters) (sc := defScope s_next_letters) (by decide +kernel)) (by decide)
        (fun _ _ _ _ _ => pg_name (i := 2) nd rfl (Or.inl rfl)) (fun _ _ _ _ _ => pts_nil) (fun _ _ _ _ _ => pi_tup (pixT (pv 0) (pv 2))) (fun _ _ _ _ _ => pg_name (i := 3) nd rfl (Or.inl rfl)) (fun _ _ _ _ _ => pts_nil) (fun _ _ _ _ _ => pv 3)) pa_nil))), ?_⟩
    refine ⟨_, rfl, l, rfl, ⟨_, SqL.of hl⟩, fun D nD => ?_⟩
    have lz : ∀ i, ((ls.take i).flatMap fun j => ws.getD j []).length ≤ 40 * 8 := by
      have : ∀ js : List Nat, ((js.flatMap fun j => ws.getD j []).length) ≤ 40 * js.length := by
        intro js
        induction js with
        | nil => exact Nat.zero_le _
        | cons j js ih =>
          rw [List.flatMap_cons, List.length_append, List.length_cons]
          have : (ws.getD j []).length ≤ 40 := by
            rw [List.getD_eq_getElem?_getD]
            cases e : ws[j]? with
            | none => exact Nat.zero_le _
            | some w => exact (hg w (List.mem_of_getElem? e)).len
          omega
      intro i
      have h1 := this (ls.take i)
      have h2 : (ls.take i).length ≤ ls.length := by rw [List.length_take]; omega
      omega
    refine walk_by (walk_list (K := K) (a := l) (xs := iV ls)) (fun i H' => Same H H' ∧ H' D = some (.lst (wv ((ls.take i).flatMap fun j => ws.getD j [])))) ⟨same_upd nD, upd_same⟩ (fun i H' p => p.1.seq (SqL.of hl)) ?_ ?_
    · rintro i x H1 H2 hi ⟨S1, hD⟩ ⟨rfl, hx⟩
      obtain ⟨j, hj, rfl⟩ : ∃ j, ls[i]? = some j ∧ x = V.int (j : Int) := by
        unfold iV at hx
        rw [List.getElem?_map] at hx
        cases e : ls[i]? with
        | none => rw [e] at hx; cases hx
        | some j => rw [e] at hx; exact ⟨j, rfl, (Option.some.inj hx).symm⟩
      have hjw := hk j (List.mem_of_getElem? hj)
      obtain ⟨a, ha, hta⟩ := paired_get hw (List.getElem?_eq_getElem hjw)
      have ej : ws.getD j [] = ws[j] := by rw [List.getD_eq_getElem?_getD, List.getElem?_eq_getElem hjw]; rfl
      have gj := (hg _ (List.getElem_mem hjw)).len
      have et : ((ls.take (i + 1)).flatMap fun j => ws.getD j []) = ((ls.take i).flatMap fun j => ws.getD j []) ++ ws[j] := by
        rw [take_more hj, List.flatMap_append, List.flatMap_cons, List.flatMap_nil, List.append_nil, ej]
      have li := lz i
      rw [et]
      generalize ((ls.take i).flatMap fun j => ws.getD j []) = acc at hD li
      generalize ws[j] = wj at hta gj
      refine ⟨rfl, _, rfl, _, rfl, p, _, _, .ref a, rfl, rfl, SqT.of (S1 _ _ hp), atI_nat (by rw [List.getElem?_map, ha]; rfl), a, rfl, ⟨_, (hta.same S1).sq⟩, ?_⟩
      refine walk_by (walk_tup (K := K) (a := a) (xs := wv wj)) (fun m H' => Same H H' ∧ H' D = some (.lst (wv (acc ++ wj.take m)))) ⟨S1, by rw [hD, List.take_zero, List.append_nil]⟩ (fun m H' p => (hta.same p.1).sq) ?_ ?_
      · rintro m y H3 H4 hm ⟨S3, hD3⟩ ⟨rfl, hy⟩
        obtain ⟨s, hs, rfl⟩ := wv_get hy
        refine ⟨rfl, _, rfl, _, hD3, ?_, sPut S3 nD, ?_⟩
        · have : (wj.take m).length ≤ wj.length := by rw [List.length_take]; omega
          rw [List.length_map, List.length_append, sizeLine_eq]; omega
        · rw [upd_same, take_more hs, ← List.append_assoc]
          simp only [wv, List.map_append, List.map_cons, List.map_nil]
      · rintro H3 ⟨S3, hD3⟩
        rw [List.length_map, List.take_length] at hD3
        exact ⟨S3, hD3⟩
    · rintro H1 ⟨S1, hD⟩
      have hD' : H1 D = some (.lst (wv (ls.flatMap fun j => ws.getD j []))) := by
        rw [hD]
        unfold iV
        rw [List.length_map, List.take_length]
      refine ⟨D, _, rfl, .inl (SqL.of hD'), fun k hk2 => ?_, fun H2 p2 ls' S2 n2 h2 hm hl2 => q H2 p2 ls' (S1.trans S2) (S1.free n2) h2 (fun k => ?_) hl2⟩
      · obtain ⟨j, hj, h⟩ := List.mem_flatMap.mp hk2
        rw [List.getD_eq_getElem?_getD] at h
        cases e : ws[j]? with
        | none => rw [e] at h; cases h
        | some w => rw [e] at h; have := (hg w (List.mem_of_getElem? e)).lets k h; omega
      · rw [hm, List.mem_flatMap]
end
end SK
namespace SK
open PySem PySem.Spec PyProof.Rows L2
def Sy.d : Sy → PyData
  | .l k => .int k
  | .p => .str "+"
  | .m => .str "-"
  | .o => .str "["
  | .c => .str "]"
def cnt (k : Nat) (w : List Sy) : Nat := w.countP fun s => decide (s = .l k)
theorem dp_sy {K : PySem.W.Frag} {H : Hp} : ∀ w : List Sy, DpAll K H (wv w) (w.map Sy.d)
  | [] => .nil
  | .l k :: w => .cons (.int _) (dp_sy w)
  | .p :: w => .cons (.str _) (dp_sy w)
  | .m :: w => .cons (.str _) (dp_sy w)
  | .o :: w => .cons (.str _) (dp_sy w)
  | .c :: w => .cons (.str _) (dp_sy w)
theorem cnt_eq (k : Nat) (w : List Sy) : (w.map Sy.d).countP (fun y => PyData.eqv y (.int (k : Int))) = cnt k w := by
  rw [List.countP_map]
  unfold cnt
  congr 1
  funext s
  cases s with
  | l j =>
    show PyData.eqv (.int (j : Int)) (.int (k : Int)) = decide (Sy.l j = Sy.l k)
    simp [PyData.eqv]
    by_cases e : j = k
    · subst e; simp
    · rw [decide_eq_false e]; simp; omega
  | p => simp [Sy.d, PyData.eqv]
  | m => simp [Sy.d, PyData.eqv]
  | o => simp [Sy.d, PyData.eqv]
  | c => simp [Sy.d, PyData.eqv]
theorem plain_sy : ∀ w : List Sy, PyData.plainAll (w.map Sy.d) = true
  | [] => by simp [PyData.plainAll]
  | .l k :: w => by simp only [List.map_cons, Sy.d, PyData.plainAll, PyData.plain, plain_sy w]; rfl
  | .p :: w => by simp only [List.map_cons, Sy.d, PyData.plainAll, PyData.plain, plain_sy w]; decide
  | .m :: w => by simp only [List.map_cons, Sy.d, PyData.plainAll, PyData.plain, plain_sy w]; decide
  | .o :: w => by simp only [List.map_cons, Sy.d, PyData.plainAll, PyData.plain, plain_sy w]; decide
  | .c :: w => by simp only [List.map_cons, Sy.d, PyData.plainAll, PyData.plain, plain_sy w]; decide
theorem depth_sy : ∀ w : List Sy, PyData.depthAll (w.map Sy.d) = 0
  | [] => by simp [PyData.depthAll]
  | s :: w => by
    have e : PyData.depth s.d = 0 := by cases s <;> simp [Sy.d, PyData.depth]
    simp only [List.map_cons, PyData.depthAll, e, depth_sy w]
    rfl
/-- w.count(k), w a word -/
def tCnt (to : TE) (t : TA) : TE := fun σ H Q => to σ H fun x H1 => ∃ (a : Addr) (w : List Sy), x = .ref a ∧ WdAt H1 a w ∧ t σ H1 fun ys H2 => ∃ k : Nat, ys = [.int (k : Int)] ∧ WdAt H2 a w ∧ Q (.int (cnt k w : Int)) H2
section
variable {X : Cx} {o e : Expr} {to te : TE} {apos cpos : Pos}
theorem pcount (hu : X.A.units + 64 < cLine) (ho : PE X o to) (he : PE X e te) (hb : attributeBase o "count" X.env (eval o X.env) = eval o X.env := by rfl)
    (hf : ((backTo cpos (starEach (e :: []) X.env)).all (fun x => !x.1) && (backToKw cpos (keywordEach [] X.env)).all (fun x => x.1.isSome) && decide ((e :: []).length + ([] : List Keyword).length + (if ([] : List Keyword).isEmpty then 0 else 1) < 30)) = true := by rfl)
    (hl : (apos.endLine == cpos.line) = true := by rfl) (hs : starEach [e] X.env = (false, eval e X.env) :: starEach [] X.env := by rfl) (hp : (backTo cpos (starEach [] X.env)).any (·.1) = false := by rfl) : PE X (.Call (.Attribute o "count" apos) [e] [] cpos) (tCnt to (tCons te tNil)) := by
  refine ⟨fun pins s σ H Q I h => wpAny_Call_method_late hb hf hl rfl (thn (ho.run pins s σ H _ I h) fun v s1 ⟨x, H1, I1, r1, a, w, ex, hw, q1⟩ => ?_)⟩
  subst ex
  cases r1
  obtain ⟨ob, hob, hd, _⟩ := id hw
  obtain ⟨hat, _, its, rv, o2, ho2, hc2, _⟩ := (show ObjOk X.prog X.w H1 s1.heap a (.frz ob (.tup (wv w))) from I1.hok a _ hob)
  have eo : o2 = ob := Option.some.inj (ho2.symm.trans hat)
  subst eo
  refine ⟨"tuple", "tuple.count", PySem.F.plainAttrs_tuple, PySem.F.slot_tuple_count, PySem.F.type_tuple_count, ⟨_, hat, hc2⟩, fun b e => by cases e; exact ⟨_, hat, hd⟩, ?_⟩
  have hA := (pa_cons he pa_nil hs).run cpos pins s1 σ H1 _ I1 q1
  rw [hs] at hA ⊢
  refine Calls.callWith_builtin (by show (false || (backTo cpos (starEach [] X.env)).any (·.1)) = false; rw [hp]; rfl) (Calls.evalArgs_plain (thn hA fun us s2 ⟨vs, H2, I2, r2, q2⟩ => ?_))
  obtain ⟨k, ey, hw2, q⟩ := q2
  subst ey
  rcases r2 with _ | ⟨ry, rr⟩
  cases rr
  obtain ⟨its2, rv2, pl, _⟩ := I2.tuple hw2.sq
  obtain ⟨as, ra⟩ := Dp.readsAll I2 _ _ _ (dp_sy (K := X.K) (H := H2) w) rv2
  obtain ⟨bs, rb⟩ := Dp.reads I2 _ _ _ (Dp.int (K := X.K) (H := H2) (k : Int)) ry
  refine SeqAt.count_tuple_data (xs := w.map Sy.d) (d := .int (k : Int)) pl (by simpa using ra) rb (plain_sy w) (by simp [PyData.plain]) (by rw [depth_sy]; simp [PyData.depth]; omega) ?_
  rw [cnt_eq]
  exact ⟨.int (cnt k w : Int), H2, I2.tok _, ⟨_, rfl⟩, q⟩
end
end SK
namespace SK
open PySem PySem.Spec PyProof.Rows L2
def cntL (n : Nat) (w : List Sy) : List Nat := (List.range n).map fun k => cnt k w
def spCount : Sp := fun vs H Q _ => ∃ (a : Addr) (n : Nat) (w : List Sy), vs = [.ref a, .int n] ∧ WdAt H a w ∧ n ≤ 8 ∧ New (.lst (iV (cntL n w))) H Q
theorem range_get {n i : Nat} (h : i < n) : (List.range n)[i]? = some i := by rw [List.getElem?_range h]
/-- after[k] += e: the list's item read -/
theorem get_list {X : Cx} : PGet X (fun o i H Q => ∃ (p : Addr) (xs : List V) (k : Nat) (v : V), o = .ref p ∧ i = .int (k : Int) ∧ SqL X.K H p xs ∧ xs[k]? = some v ∧ Q v H) := by
  rintro pins s σ H o i ov iv Q I ro ri ⟨p, xs, k, v, rfl, rfl, h, hk, q⟩
  obtain ⟨t, rfl⟩ := ri
  cases ro
  obtain ⟨its, rv, pl, hsz⟩ := I.list h
  obtain ⟨u, hu, ru⟩ := rv.get hk
  have hlt : k < its.length := (List.getElem?_eq_some_iff.mp hu).1
  have hz := line63
  have hl := rv.length
  exact PyProof.Rows.getItem_listL pl.isList (by omega) (by omega) (by rw [Int.toNat_natCast]; exact hu) ⟨v, H, I, ru, q⟩
section
variable {P : Program} {w : World} {K : PySem.W.Frag} {mg : Str → Option Value} {base : Heap}
theorem ok_count {f : Addr} {fd : FuncData} {k : Nat} (F : Fun K "count_letters" "count_letters" s_count_letters f fd) (mR : mg "range" = none) : FnOk P w K mg base CX0 (k + 1) f fd ["word", "many"] spCount := by
  refine F.ok sc_count_letters (fun vs H Q E h => ?_) (fun cdv A outer s H vs Q E hr h => ?_)
  · obtain ⟨a, n, w, rfl, _⟩ := h
    rfl
  · obtain ⟨a, n, wd, rfl, ha, hn, q⟩ := h
    have nd := sc_count_letters.nd
    refine ⟨_, pss_one (ps_ret (pe_lc (own := [("letter", 2)]) (g := gName 2) (tt := tYes) rfl nd (pi_range1 rfl mR (pa_cons (pv 1) pa_nil)) (blkOk_by (N := n_count_letters) (sc := defScope s_count_letters) (by decide +kernel))
      (fun _ _ _ _ _ => pg_name (i := 2) nd rfl (Or.inl rfl)) (fun _ _ _ _ _ => pts_nil) (fun _ _ _ _ _ => pcount hr.units (pv 0) (pv 2)))), ?_⟩
    refine ⟨_, rfl, (n : Int), rfl, by omega, by omega, fun D nD => ?_⟩
    rw [Int.toNat_natCast]
    refine lc_range (lo := 0) (n := n) (fun i H' => Same H H' ∧ H' D = some (.lst (iV ((List.range i).map fun k => cnt k wd)))) ⟨same_upd nD, upd_same⟩ ?_ ?_
    · rintro i H1 hi ⟨S1, hD⟩
      have e0 : (0 : Int) + (i : Int) = (i : Int) := by omega
      refine ⟨rfl, _, rfl, a, wd, rfl, ha.same S1, _, rfl, i, ?_, ha.same S1, _, hD, ?_, sPut S1 nD, ?_⟩
      · rw [e0]
      · unfold iV; rw [List.length_map, List.length_map, List.length_range, sizeLine_eq]; omega
      · rw [upd_same, List.range_succ, List.map_append]
        simp only [iV, List.map_append, List.map_cons, List.map_nil]
    · rintro H1 ⟨S1, hD⟩
      exact q H1 D S1 nD hD
end
end SK
namespace SK
open PySem PySem.Spec PyProof.Rows L2
def sumN : Nat → (Nat → Nat) → Nat
  | 0, _ => 0
  | n + 1, h => sumN n h + h n
/-- the list f 0, .., f (n - 1) -/
def fl (n : Nat) (f : Nat → Nat) : List Nat := (List.range n).map f
theorem fl_len (n : Nat) (f : Nat → Nat) : (iV (fl n f)).length = n := by simp [iV, fl]
theorem fl_get {n i : Nat} (f : Nat → Nat) (h : i < n) : (iV (fl n f))[i]? = some (.int (f i : Int)) := by
  unfold iV fl
  rw [List.getElem?_map, List.getElem?_map, range_get h]
  rfl
theorem fl_set {n m : Nat} (f : Nat → Nat) (v : Nat) (h : m < n) : (iV (fl n f)).set m (.int (v : Int)) = iV (fl n fun k => if k = m then v else f k) := by
  refine List.ext_getElem? fun i => ?_
  rw [List.getElem?_set]
  by_cases e : m = i
  · subst e
    rw [if_pos rfl, fl_len, if_pos h, fl_get _ h, if_pos rfl]
  · rw [if_neg e]
    by_cases hi : i < n
    · rw [fl_get _ hi, fl_get _ hi, if_neg (fun z => e z.symm)]
    · rw [List.getElem?_eq_none (by rw [fl_len]; omega), List.getElem?_eq_none (by rw [fl_len]; omega)]
theorem fl_congr {n : Nat} {f g : Nat → Nat} (h : ∀ k, k < n → f k = g k) : fl n f = fl n g := by
  unfold fl
  exact List.map_congr_left fun k hk => h k (List.mem_range.mp hk)
theorem rep_zero (n : Nat) : (List.replicate n [V.int 0]).flatten = iV (fl n fun _ => 0) := by
  rw [rep_ints]
  unfold iV fl
  rw [List.map_map]
  have : ∀ n : Nat, List.map V.int (List.replicate n 0) = (List.range n).map ((fun (k : Nat) => V.int (k : Int)) ∘ fun _ => 0) := fun n => by
    rw [List.map_replicate]
    refine List.ext_getElem? fun i => ?_
    rw [List.getElem?_replicate, List.getElem?_map]
    by_cases hi : i < n
    · rw [if_pos hi, range_get hi]; rfl
    · rw [if_neg hi, List.getElem?_eq_none (by rw [List.length_range]; omega)]; rfl
  exact this n
/-- the table of rows -/
def Rows (H : Hp) (n : Nat) (ts : List Addr) (g : Nat → Nat → Nat) : Prop := ts.length = n ∧ ∀ j t, ts[j]? = some t → H t = some (.lst (iV (fl n (g j))))
def spNextC : Sp := fun vs H Q _ => ∃ (a t : Addr) (n : Nat) (ts : List Addr) (f : Nat → Nat) (g : Nat → Nat → Nat), vs = [.ref a, .ref t] ∧ H a = some (.lst (iV (fl n f))) ∧ H t = some (.lst (ts.map V.ref)) ∧ Rows H n ts g ∧ n ≤ 8 ∧ (∀ j k, g j k ≤ 1000) ∧
  New (.lst (iV (fl n fun k => sumN n fun j => f j * g j k))) H Q
section
variable {P : Program} {w : World} {K : PySem.W.Frag} {mg : Str → Option Value} {base : Heap}
theorem ok_nextc {f : Addr} {fd : FuncData} {k : Nat} (F : Fun K "next_counts" "next_counts" s_next_counts f fd) (ml : mg "len" = none) (mZ : mg "zip" = none) (mE : mg "enumerate" = none) : FnOk P w K mg base CX0 (k + 1) f fd ["counts", "table"] spNextC := by
  refine F.ok sc_next_counts (fun vs H Q E h => ?_) (fun cdv A outer s H vs Q E hr h => ?_)
  · obtain ⟨a, t, n, ts, f, g, rfl, _⟩ := h
    rfl
  · obtain ⟨a, t, n, ts, f, g, rfl, ha, ht, ⟨hT1, hT2⟩, hn, hg, q⟩ := h
    have nd := sc_next_counts.nd
    refine ⟨_, pss_cons (ps_set (i := 2) nd rfl (.inl rfl) (prepN (plstN (pa_cons pe_int pa_nil)) (plen ml (pv 0))))
      (pss_cons (ps_for PassesOwn.never rfl (pi_zip (by rfl) mZ (pa_cons (pv 0) (pa_cons (pv 1) pa_nil))) (pg_tup (by rfl) (pgs_cons (pg_name (i := 3) nd rfl (.inl rfl)) (pgs_cons (pg_name (i := 4) nd rfl (.inl rfl)) pgs_nil)))
        (pss_one (ps_for PassesOwn.never rfl (pi_enum (by rfl) mE (pa_cons (pv 4) pa_nil)) (pg_tup (by rfl) (pgs_cons (pg_name (i := 5) nd rfl (.inl rfl)) (pgs_cons (pg_name (i := 6) nd rfl (.inl rfl)) pgs_nil)))
          (pss_one (ps_augS (pv 2) (pv 5) get_list (pe_op op_mul (pv 3) (pv 6)) ip_add set_list)))))
      (pss_one (ps_ret (pv 2)))), ?_⟩
    refine ⟨szl 1, fun H1 p1 S1 n1 h1 => ⟨_, rfl, a, _, rfl, .inl (SqL.of (S1 _ _ ha)), ?_⟩⟩
    rw [fl_len]
    refine ⟨p1, (n : Int), _, rfl, rfl, h1, by omega, by omega, ?_, fun H2 ao S2 n2 h2 => ?_⟩
    · rw [Int.toNat_natCast, sizeLine_eq]; show 1 * n ≤ 16777216; omega
    rw [Int.toNat_natCast, rep_zero] at h2
    have S02 := S1.trans S2
    have nao : H ao = none := S1.free n2
    refine ⟨_, rfl, _, rfl, a, t, iV (fl n f), ts.map V.ref, rfl, SqL.of (S02 _ _ ha), SqL.of (S02 _ _ ht), ?_⟩
    have hmin : n = min (iV (fl n f)).length (ts.map V.ref).length := by rw [fl_len, List.length_map, hT1]; omega
    refine for_it (walk_zip (K := K) (a := a) (b := t) hmin) (fun j σ H' => ∃ (y3 y4 y5 y6 : Option V), σ = [some (.ref a), some (.ref t), some (.ref ao), y3, y4, y5, y6] ∧ Same H H' ∧ H' ao = some (.lst (iV (fl n fun k => sumN j fun i => f i * g i k))))
      ⟨none, none, none, none, rfl, S02, h2⟩ (fun j σ H' _ ⟨_, _, _, _, _, s, _⟩ => ⟨SqL.of (s _ _ ha), SqL.of (s _ _ ht)⟩) ?_ ?_
    · rintro j x σ H3 H4 hj ⟨y3, y4, y5, y6, rfl, S3, h3⟩ ⟨T, xa, xb, rfl, nT, rfl, ga, gb⟩
      have ea : xa = V.int (f j : Int) := by
        have := (fl_get f hj).symm.trans ga
        exact (Option.some.inj this).symm
      obtain ⟨tj, htj, rfl⟩ : ∃ tj, ts[j]? = some tj ∧ xb = V.ref tj := by
        have gb : (ts.map V.ref)[j]? = some xb := gb
        rw [List.getElem?_map] at gb
        cases e : ts[j]? with
        | none => rw [e] at gb; cases gb
        | some tj => rw [e] at gb; exact ⟨tj, rfl, (Option.some.inj gb).symm⟩
      subst ea
      have hrow := hT2 j tj htj
      have ST := S3.trans (same_upd (o := .tup [V.int (f j : Int), V.ref tj]) nT)
      have haoT : (upd H3 T (.tup [V.int (f j : Int), V.ref tj])) ao = some (.lst (iV (fl n fun k => sumN j fun i => f i * g i k))) := same_upd nT _ _ h3
      refine ⟨T, _, rfl, SqT.of upd_same, rfl, _, _, rfl, _, _, rfl, rfl, ?_⟩
      generalize upd H3 T (.tup [V.int (f j : Int), V.ref tj]) = H4 at ST haoT
      refine ⟨_, rfl, tj, _, rfl, SqL.of (ST _ _ hrow), ?_⟩
      have ntj : tj ≠ ao := ne_of_none hrow nao
      refine for_it (walk_enum (K := K) (a := tj) (xs := iV (fl n (g j)))) (fun m σ H' => ∃ (y5 y6 : Option V), σ = [some (.ref a), some (.ref t), some (.ref ao), some (.int (f j : Int)), some (.ref tj), y5, y6] ∧ Same H H' ∧ H' ao = some (.lst (iV (fl n fun k => (sumN j fun i => f i * g i k) + if k < m then f j * g j k else 0))))
        ⟨y5, y6, rfl, ST, by rw [haoT]; congr 3⟩ (fun m σ H' _ ⟨_, _, _, s, _⟩ => SqL.of (s _ _ hrow)) ?_ ?_
      · rintro m x σ H5 H6 hm ⟨y5, y6, rfl, S5, h5⟩ ⟨T2, xa, xb, rfl, nT2, rfl, ga, gb⟩
        rw [fl_len] at hm
        have ea := Option.some.inj ga
        have eb : V.int (g j m : Int) = xb := Option.some.inj ((fl_get (g j) hm).symm.trans gb)
        subst ea eb
        have S6 := S5.trans (same_upd (o := .tup [V.int (m : Int), V.int (g j m : Int)]) nT2)
        have hao6 : (upd H5 T2 (.tup [V.int (m : Int), V.int (g j m : Int)])) ao = _ := same_upd nT2 _ _ h5
        refine ⟨T2, _, rfl, SqT.of upd_same, rfl, _, _, rfl, _, _, rfl, rfl, ?_⟩
        generalize upd H5 T2 (.tup [V.int (m : Int), V.int (g j m : Int)]) = H6 at S6 hao6
        have bd := hg j m
        refine ⟨_, rfl, _, rfl, ao, _, m, _, rfl, rfl, SqL.of hao6, fl_get _ hm, _, rfl, _, rfl, _, _, rfl, rfl, .inr ⟨by omega, by omega⟩, _, _, rfl, rfl, ao, _, (m : Int), m, rfl, rfl, hao6, ?_, ?_⟩
        · rw [fl_len]
          show (if 0 ≤ (m : Int) then (if (m : Int) < (n : Int) then some (m : Int).toNat else none) else _) = some m
          rw [if_pos (by omega), if_pos (by omega), Int.toNat_natCast]
        · refine ⟨_, _, rfl, sPut S6 nao, ?_⟩
          rw [upd_same]
          have ev : ((((sumN j fun i => f i * g i m) + if m < m then f j * g j m else 0 : Nat) : Int) + (f j : Int) * (g j m : Int)) = (((sumN j fun i => f i * g i m) + f j * g j m : Nat) : Int) := by
            rw [if_neg (by omega)]
            push_cast
            omega
          dsimp only
          rw [ev, fl_set _ _ hm]
          congr 3
          refine fl_congr fun k _ => ?_
          by_cases e : k = m
          · subst e; rw [if_pos rfl, if_pos (by omega)]
          · rw [if_neg e]
            by_cases e2 : k < m
            · rw [if_pos e2, if_pos (by omega)]
            · rw [if_neg e2, if_neg (by omega)]
      · rintro σ H5 ⟨y5, y6, rfl, S5, h5⟩
        rw [fl_len] at h5
        refine ⟨_, _, _, _, rfl, S5, ?_⟩
        rw [h5]
        congr 3
        exact fl_congr fun k hk => by rw [if_pos hk]; rfl
    · rintro σ H3 ⟨y3, y4, y5, y6, rfl, S3, h3⟩
      exact ⟨_, rfl, q H3 ao S3 nao h3⟩
end
end SK
namespace SK
open PySem PySem.Spec PyProof.Rows L2
/-! ### zip of a list and a tuple, equally long -/
def ItzM (K : PySem.W.Frag) (a b : Addr) : It where
  go := fun i H => ∃ (xs ys : List V) (x y : V), SqL K H a xs ∧ SqT K H b ys ∧ xs[i]? = some x ∧ ys[i]? = some y
  yld := fun i H v H' => ∃ (T : Addr) (x y : V), v = .ref T ∧ H T = none ∧ H' = upd H T (.tup [x, y]) ∧ (∀ xs, SqL K H a xs → xs[i]? = some x) ∧ ∀ ys, SqT K H b ys → ys[i]? = some y
  stop := fun i H => ∃ xs ys : List V, SqL K H a xs ∧ SqT K H b ys ∧ xs.length = i ∧ ys.length = i
theorem turn_zipM {P : Program} {w : World} {K : PySem.W.Frag} {elts : List Expr} {kk : Nat} {tpos : Pos} {a b z TI TO i1 i2 : Addr} (S : ZipSep2 z TI TO i1 i2 [i1, a] [i2, b]) (ha : a ≠ i1) (hb : b ≠ i2) :
    Turn P w K (.Tuple elts kk tpos) (ItzM K a b) [z, TI, TO, i1, i2] z (fun i h => IsZip h z TI TO .none ∧ IsTupOf2 h TI (.ref i1) (.ref i2) ∧ (∃ x y, IsTupOf2 h TO x y) ∧ h.IsListIter i1 a i ∧ h.IsTupleIter i2 b i) := by
  have z1 : z ≠ i1 := S.zi1
  have z2 : z ≠ i2 := S.zi2
  have t1 : TO ≠ i1 := S.Ti1
  have t2 : TO ≠ i2 := S.Ti2
  refine ⟨List.mem_cons_self, ?obj, ?keep, ?item, ?done, ?self⟩
  case obj =>
    rintro i h ⟨hz, hTI, ⟨x, y, hTO⟩, ⟨o1, e1, _, d1⟩, ⟨o2, e2, _, d2⟩⟩ c hc
    simp only [List.mem_cons, List.not_mem_nil, or_false] at hc
    rcases hc with rfl | rfl | rfl | rfl | rfl
    · exact ⟨_, hz, fun v q => nomatch q⟩
    · exact ⟨_, hTI, fun v q => nomatch q⟩
    · exact ⟨_, hTO, fun v q => nomatch q⟩
    · exact ⟨o1, e1, fun v q => by rw [d1] at q; cases q⟩
    · exact ⟨o2, e2, fun v q => by rw [d2] at q; cases q⟩
  case keep =>
    rintro i h h' ⟨hz, hTI, ⟨x, y, hTO⟩, h1, h2⟩ k
    exact ⟨k z (by simp) _ hz, k TI (by simp) _ hTI, ⟨x, y, k TO (by simp) _ hTO⟩, h1.at fun o q => k i1 (by simp) o q, h2.at fun o q => k i2 (by simp) o q⟩
  case self =>
    rintro A i s Q E ⟨hz, _⟩ h
    exact wpAny_pyIter_zip hz h
  case done =>
    intro X hP hw hK hc i pins s σ H E I hf st hg
    subst hP hw hK
    obtain ⟨hz, hTI, ⟨x0, y0, hTO⟩, h1, h2⟩ := st
    obtain ⟨xs, ys, hqx, hqy, hx, hy⟩ := hg
    obtain ⟨its, rv, p, _⟩ := I.list hqx
    obtain ⟨its2, rv2, p2, _⟩ := I.tuple hqy
    have l1 := rv.length
    have l2 := rv2.length
    have hh : X.A.in1.handled = none := I.ok.hd hc
    refine wpAny_pyNext_zipD2_end S (Draws.list hh i1 a ha its.toArray) (Draws.tuple hh i2 b hb its2.toArray) hz hTI hTO ⟨h1, p.isList⟩ ⟨h2, p2⟩ (by simp; omega) (by simp; omega) (.inl (by simp; omega)) fun h' tk k => ⟨rfl, ?_⟩
    exact I.turnedL (t' := tk) (ch := [z, TI, TO, i1, i2]) (fun c o hc q => k c o (fun e => hc (by simp [e])) (fun e => hc (by simp [e])) (fun e => hc (by simp [e])) (fun e => hc (by simp [e])) q) hf
  case item =>
    intro X hP hw hK hc i pins s σ H E I hf st hg
    subst hP hw hK
    obtain ⟨hz, hTI, ⟨x0, y0, hTO⟩, h1, h2⟩ := st
    obtain ⟨xs, ys, x, y, hqx, hqy, hx, hy⟩ := hg
    obtain ⟨its, rv, p, _⟩ := I.list hqx
    obtain ⟨its2, rv2, p2, _⟩ := I.tuple hqy
    obtain ⟨u, hu, ru⟩ := rv.get hx
    obtain ⟨u2, hu2, ru2⟩ := rv2.get hy
    have hh : X.A.in1.handled = none := I.ok.hd hc
    have hzl : z < s.heap.objs.size := Heap.lt_size hz
    refine wpAny_pyNext_zipD2_item S (Draws.list hh i1 a ha its.toArray) (Draws.tuple hh i2 b hb its2.toArray) hz hTI hTO ⟨h1, p.isList⟩ ⟨h2, p2⟩ (by simpa using (List.getElem?_eq_some_iff.mp hu).1) (by simpa using (List.getElem?_eq_some_iff.mp hu2).1) fun v1 v2 h' tk e1 e2 z' TO' d1 d2 hT hsz hk => ?_
    have ev1 : v1 = u := Option.some.inj (e1.symm.trans (by simpa using hu))
    have ev2 : v2 = u2 := Option.some.inj (e2.symm.trans (by simpa using hu2))
    subst ev1 ev2
    refine ⟨_, rfl, wpAny_letOwnedTupleGo_zip (s := { s with heap := h', toks := tk }) z' fun h2' z2' sb => ?_⟩
    have at2 : h2'.get? s.heap.objs.size = some { cls := .type "tuple", data := .seq #[v1, v2] } := (sb.2 _ (Nat.ne_of_gt hzl)).trans hT
    have laid : ObjOk X.prog X.w (upd H s.heap.objs.size (.tup [x, y])) h2' s.heap.objs.size (.tup [x, y]) := ⟨szl 2, [v1, v2], .cons ru (.cons ru2 .nil), _, at2, rfl, _, rfl⟩
    have J : Inv X pins σ (upd H s.heap.objs.size (.tup [x, y])) { s with heap := h2', toks := tk } :=
      I.turnedNew (ch := [z, TI, TO, i1, i2]) (fun c o hb q => (sb.2 c fun e => hb (by simp [e])).trans (hk c o (fun e => hb (by simp [e])) (fun e => hb (by simp [e])) (fun e => hb (by simp [e])) (fun e => hb (by simp [e])) q)) hf (Nat.le_refl _) laid
    refine ⟨.ref s.heap.objs.size, _, J, rfl, ⟨_, x, y, rfl, I.hok.fresh (Nat.le_refl _), rfl, fun l hl => by rw [I.list_inj hl hqx]; exact hx, fun l hl => by rw [I.tuple_inj hl hqy]; exact hy⟩, ⟨z2', ?_, ⟨v1, v2, ?_⟩, ?_, ?_⟩, fun c hcm => ?_⟩
    · exact (sb.2 _ S.TIz).trans (hk _ _ S.TIz S.TITO S.TIi1 S.TIi2 hTI)
    · exact (sb.2 _ S.TOz).trans TO'
    · exact d1.1.at fun o q => (sb.2 _ (Ne.symm z1)).trans q
    · exact d2.1.at fun o q => (sb.2 _ (Ne.symm z2)).trans q
    · have hlt : c < s.heap.objs.size := by
        simp only [List.mem_cons, List.not_mem_nil, or_false] at hcm
        obtain ⟨_, g1, _⟩ := h1
        obtain ⟨_, g2, _⟩ := h2
        rcases hcm with e | e | e | e | e <;> rw [e] <;> first
          | exact hzl
          | exact Heap.lt_size hTI
          | exact Heap.lt_size hTO
          | exact Heap.lt_size g1
          | exact Heap.lt_size g2
      rw [upd_ne (Nat.ne_of_lt hlt)]
      exact (hf c hcm).1
def iZipM (K : PySem.W.Frag) (ta : TA) : TI := fun σ H R => ta σ H fun vs H1 => ∃ a b xs ys, vs = [.ref a, .ref b] ∧ SqL K H1 a xs ∧ SqT K H1 b ys ∧ R (ItzM K a b) H1
theorem pi_zipM {X : Cx} {e e2 : Expr} {ta : TA} {p pos tpos : Pos} {elts : List Expr} {kk : Nat} (hg : Gl X "zip") (hm : X.mg "zip" = none) (ha : PA X [e, e2] ta)
    (hs : starEach [e, e2] X.env = (false, eval e X.env) :: starEach [e2] X.env := by rfl) (hpl : (backTo pos (starEach [e2] X.env)).any (·.1) = false := by rfl) : PI X (.Tuple elts kk tpos) (.Call (.Name "zip" p) [e, e2] [] pos) (iZipM X.K ta) := by
  refine ⟨fun pins s σ H R I h => Call_ (ld_blt I hg hm PyProof.Rows.boot_zip (PyProof.Rows.callWith_type1 (thn (ha.run pos pins s σ H _ I h) fun us s1 ⟨vs, H1, I1, r1, q1⟩ => ?_) hs hpl))⟩
  obtain ⟨a, b, xs, ys, rfl, hqx, hqy, q⟩ := q1
  rcases r1 with _ | ⟨r, rr⟩
  rcases rr with _ | ⟨r', rr⟩
  cases rr
  cases r
  cases r'
  obtain ⟨its, rv, p1, _⟩ := I1.list hqx
  obtain ⟨its2, rv2, p2, _⟩ := I1.tuple hqy
  have la : a < s1.heap.objs.size := p1.lt
  have lb : b < s1.heap.objs.size := p2.lt
  refine zip_begins2 (begins_list a its.toArray) (begins_tuple b its2.toArray) p1.isList p2 fun h' hz hTI hTO h1 h2 hsz hk => wpAny_pyIter_zip hz ?_
  refine ⟨s1.heap.objs.size + 4, [s1.heap.objs.size + 4, s1.heap.objs.size + 2, s1.heap.objs.size + 3, s1.heap.objs.size, s1.heap.objs.size + 1], _, _, H1, rfl, I1.kept (t' := s1.toks) hk,
    turn_zipM (zip_sep2 (N := s1.heap.objs.size) (fp1 := [a]) (fp2 := [b]) (by simpa using la) (by simpa using lb)) (Nat.ne_of_lt la) (Nat.ne_of_lt (Nat.lt_succ_of_lt lb)), ⟨hz, hTI, ⟨_, _, hTO⟩, ⟨_, h1, rfl, rfl⟩, ⟨_, h2, rfl, rfl⟩⟩, fun c hcm => ?_, q⟩
  have hle : s1.heap.objs.size ≤ c := by
    simp only [List.mem_cons, List.not_mem_nil, or_false] at hcm
    rcases hcm with e | e | e | e | e <;> rw [e] <;> first
      | exact Nat.le_refl _
      | exact Nat.le_add_right _ _
  exact I1.fpOk hle (I1.hok.fresh hle)
theorem walk_zipM {K : PySem.W.Frag} {a b : Addr} {xs ys : List V} (h : xs.length = ys.length) : Walk (ItzM K a b) xs.length (fun H => SqL K H a xs ∧ SqT K H b ys) (YPair (fun i => xs[i]?) (fun i => ys[i]?)) := by
  refine ⟨fun i H hi ⟨h1, h2⟩ => ⟨xs, ys, _, _, h1, h2, List.getElem?_eq_getElem hi, List.getElem?_eq_getElem (h ▸ hi)⟩, fun H ⟨h1, h2⟩ => ⟨xs, ys, h1, h2, rfl, h.symm⟩, ?_⟩
  rintro i H x H' hi ⟨h1, h2⟩ ⟨T, y, z, rfl, nT, rfl, g1, g2⟩
  exact ⟨T, y, z, rfl, nT, rfl, g1 xs h1, g2 ys h2⟩
end SK
namespace SK
open PySem PySem.Spec PyProof.Rows L2
/-! ### counts and sizes -/
theorem sumN_congr {n : Nat} {f g : Nat → Nat} (h : ∀ j, j < n → f j = g j) : sumN n f = sumN n g := by
  induction n with
  | zero => rfl
  | succ n ih =>
    show sumN n f + f n = sumN n g + g n
    rw [ih fun j hj => h j (by omega), h n (by omega)]
theorem sumN_add (n : Nat) (f g : Nat → Nat) : sumN n (fun j => f j + g j) = sumN n f + sumN n g := by
  induction n with
  | zero => rfl
  | succ n ih =>
    show sumN n (fun j => f j + g j) + (f n + g n) = (sumN n f + f n) + (sumN n g + g n)
    rw [ih]; omega
theorem sumN_zero (n : Nat) : sumN n (fun _ => 0) = 0 := by
  induction n with
  | zero => rfl
  | succ n ih =>
    show sumN n (fun _ => 0) + 0 = 0
    rw [ih]
theorem sumN_one {n k : Nat} (f : Nat → Nat) (h : k < n) : sumN n (fun j => if j = k then f j else 0) = f k := by
  induction n with
  | zero => omega
  | succ n ih =>
    show sumN n (fun j => if j = k then f j else 0) + (if n = k then f n else 0) = f k
    by_cases e : n = k
    · subst e
      rw [if_pos rfl, sumN_congr (g := fun _ => 0) (fun j hj => if_neg (by omega)), sumN_zero]
      omega
    · rw [if_neg e, ih (by omega)]
      omega
theorem cnt_cons (k : Nat) (s : Sy) (w : List Sy) : cnt k (s :: w) = (if s = .l k then 1 else 0) + cnt k w := by
  unfold cnt
  rw [List.countP_cons]
  by_cases e : s = .l k
  · subst e; simp; omega
  · simp [e]
theorem cnt_app (k : Nat) (a b : List Sy) : cnt k (a ++ b) = cnt k a + cnt k b := by
  unfold cnt
  exact List.countP_append
/-- a sum over the letters of a word -/
theorem sum_cons {n : Nat} (s : Sy) (w : List Sy) (h : Nat → Nat) : sumN n (fun j => cnt j (s :: w) * h j) = sumN n (fun j => (if s = .l j then 1 else 0) * h j) + sumN n (fun j => cnt j w * h j) := by
  rw [← sumN_add]
  exact sumN_congr fun j _ => by rw [cnt_cons, Nat.add_mul]
theorem sum_letter {n k : Nat} (h : Nat → Nat) (hk : k < n) : sumN n (fun j => (if Sy.l k = .l j then 1 else 0) * h j) = h k := by
  rw [← sumN_one h hk]
  refine sumN_congr fun j _ => ?_
  by_cases e : j = k
  · subst e; rw [if_pos rfl, if_pos rfl, Nat.one_mul]
  · rw [if_neg (fun z => e (by cases z; rfl)), if_neg e, Nat.zero_mul]
theorem sum_other {n : Nat} {s : Sy} (h : Nat → Nat) (hs : isL s = false) : sumN n (fun j => (if s = .l j then 1 else 0) * h j) = 0 := by
  refine (sumN_congr (g := fun _ => 0) fun j _ => ?_).trans (sumN_zero n)
  rw [if_neg (fun z => by rw [z] at hs; cases hs), Nat.zero_mul]
theorem grow_cons (ws : List (List Sy)) (s : Sy) (w : List Sy) : grow ws (s :: w) = img ws s ++ grow ws w := rfl
theorem img_other {ws : List (List Sy)} {s : Sy} (hs : isL s = false) : img ws s = [s] := by cases s <;> first | rfl | cases hs
theorem cnt_other {k : Nat} {s : Sy} (hs : isL s = false) : cnt k [s] = 0 := by
  rw [cnt_cons, if_neg (fun z => by rw [z] at hs; cases hs)]
  rfl
theorem grow_cnt {ws : List (List Sy)} {n : Nat} (k : Nat) : ∀ {w : List Sy}, (∀ j, Sy.l j ∈ w → j < n) → cnt k (grow ws w) = sumN n fun j => cnt j w * cnt k (ws.getD j [])
  | [], _ => by
    show 0 = _
    rw [← sumN_zero n]
    exact sumN_congr fun j _ => (Nat.zero_mul _).symm
  | s :: w, h => by
    rw [grow_cons, cnt_app, sum_cons, grow_cnt k (w := w) fun j hj => h j (List.mem_cons_of_mem _ hj)]
    congr 1
    cases hs : isL s with
    | false => rw [img_other hs, cnt_other hs, sum_other _ hs]
    | true =>
      cases s with
      | l j => exact (sum_letter (fun j => cnt k (ws.getD j [])) (h j List.mem_cons_self)).symm
      | p => cases hs
      | m => cases hs
      | o => cases hs
      | c => cases hs
theorem grow_length {ws : List (List Sy)} {n : Nat} (hw : ∀ j, j < n → 1 ≤ (ws.getD j []).length) : ∀ {w : List Sy}, (∀ j, Sy.l j ∈ w → j < n) → (grow ws w).length = w.length + sumN n fun j => cnt j w * ((ws.getD j []).length - 1)
  | [], _ => by
    have e : sumN n (fun j => cnt j [] * ((ws.getD j []).length - 1)) = 0 := (sumN_congr (g := fun _ => 0) fun j _ => Nat.zero_mul _).trans (sumN_zero n)
    show 0 = 0 + _
    rw [e]
  | s :: w, h => by
    have ih := grow_length hw (w := w) fun j hj => h j (List.mem_cons_of_mem _ hj)
    rw [grow_cons, List.length_append, sum_cons, ih, List.length_cons]
    cases hs : isL s with
    | false => rw [img_other hs, sum_other _ hs]; simp only [List.length_singleton]; omega
    | true =>
      cases s with
      | l j =>
        have hj := h j List.mem_cons_self
        have := hw j hj
        rw [sum_letter (fun j => (ws.getD j []).length - 1) hj]
        show (ws.getD j []).length + _ = _
        omega
      | p => cases hs
      | m => cases hs
      | o => cases hs
      | c => cases hs
theorem good_len {ws : List (List Sy)} (hg : ∀ w ∈ ws, Good ws.length 40 w) (j : Nat) (hj : j < ws.length) : 1 ≤ (ws.getD j []).length ∧ (ws.getD j []).length ≤ 40 := by
  rw [List.getD_eq_getElem?_getD, List.getElem?_eq_getElem hj]
  have := hg _ (List.getElem_mem hj)
  exact ⟨any_pos this.has, this.len⟩
theorem cnt_le (k : Nat) (w : List Sy) : cnt k w ≤ w.length := List.countP_le_length
theorem sum_ints (n : Nat) (h : Nat → Nat) : ((fl n h).map fun (k : Nat) => (k : Int)).sum = ((sumN n h : Nat) : Int) := by
  induction n with
  | zero => rfl
  | succ n ih =>
    have e : fl (n + 1) h = fl n h ++ [h n] := by unfold fl; rw [List.range_succ, List.map_append]; rfl
    rw [e, List.map_append, List.sum_append, ih]
    show ((sumN n h : Nat) : Int) + (((h n : Nat) : Int) + 0) = ((sumN n h + h n : Nat) : Int)
    omega
theorem cntL_fl (n : Nat) (w : List Sy) : cntL n w = fl n fun k => cnt k w := rfl
end SK
namespace SK
open PySem PySem.Spec PyProof.Rows L2
def spSize : Sp := fun vs H Q _ => ∃ (p q : Addr) (n : Nat) (as : List Addr) (ws : List (List Sy)) (st : List Sy), vs = [.ref p, .ref q, .int n] ∧ H p = some (.tup (as.map V.ref)) ∧ Words H as ws ∧ WdAt H q st ∧ GoodBook ws st ∧ n ≤ 1000 ∧ (grown ws st n).length ≤ 60000 ∧
  ∀ H', Same H H' → Q .non H'
/-- the target count, word -/
def gCW (K : PySem.W.Frag) : TG := gTup K 2 (gCons (gName 9) (gCons (gName 8) gNil))
/-- count * (len(word) - 1) -/
def tCL (K : PySem.W.Frag) : TE := tOp (rI CMul fun i j => .int (i * j)) (tVar 9) (tOp (rI0 fun i j => .int (i - j)) (tCB (rLenS K) (tCons (tVar 8) tNil)) (tC (.int 1)))
section
variable {P : Program} {w : World} {K : PySem.W.Frag} {mg : Str → Option Value} {base : Heap}
theorem ok_size {f : Addr} {fd : FuncData} {k : Nat} {t6 : Tok} (F : Fun K "check_size" "check_size" s_check_size f fd) (GC : Got P w K mg base "count_letters" k ["word", "many"] spCount) (GN : Got P w K mg base "next_counts" k ["counts", "table"] spNextC)
    (ml : mg "len" = none) (mR : mg "range" = none) (mZ : mg "zip" = none) (mU : mg "sum" = none) (m6 : mg "MOST_GROWN" = some (.int 60000 t6)) : FnOk P w K mg base CX0 (k + 1) f fd ["words", "start", "age"] spSize := by
  refine F.ok sc_check_size (fun vs H Q E h => ?_) (fun cdv A outer s H vs Q E hr h => ?_)
  · obtain ⟨p, q, n, as, ws, st, rfl, _⟩ := h
    rfl
  · obtain ⟨p, pq, n, as, ws, st, rfl, hp, hw, hq, hg, hn, hlen, q⟩ := h
    have nd := sc_check_size.nd
    refine ⟨_, pss_cons (ps_set (i := 3) nd rfl (.inr rfl) (plen ml (pv 0)))
      (pss_cons (ps_setLc (i := 4) (own := [("word", 8)]) (g := gName 8) (tt := tYes) rfl nd rfl rfl (sw_true rfl rfl rfl (by decide +kernel)) (pi_tup (pv 0)) (blkOk_by (N := n_check_size) (sc := defScope s_check_size) (by decide +kernel))
        (fun _ _ _ _ _ => pg_name (i := 8) nd rfl (Or.inl rfl)) (fun _ _ _ _ _ => pts_nil) (fun _ _ _ _ _ => pcall GC hr (pa_cons (pv 8) (pa_cons (pv 3) pa_nil))))
      (pss_cons (ps_set (i := 5) nd rfl (.inl rfl) (pcall GC hr (pa_cons (pv 1) (pa_cons (pv 3) pa_nil))))
      (pss_cons (ps_set (i := 6) nd rfl (.inl rfl) (plen ml (pv 1)))
      (pss_one (ps_for PassesOwn.never rfl (pi_range1 rfl mR (pa_cons (pv 2) pa_nil)) (pg_name (i := 7) nd rfl (.inl rfl))
        (pss_cons (ps_aug (i := 6) nd rfl (.inl rfl) (pe_callB (cr_sum rfl) (by rfl) mU (by decide +kernel) (pa_cons
            (pe_lc (own := [("count", 9), ("word", 8)]) (g := gCW K) (tt := tYes) (te := tCL K) rfl nd (pi_zipM (by rfl) mZ (pa_cons (pv 5) (pa_cons (pv 0) pa_nil))) (blkOk_by (N := n_check_size) (sc := defScope s_check_size) (by decide +kernel))
              (fun _ _ _ _ _ => pg_tup (by rfl) (pgs_cons (pg_name (i := 9) nd rfl (.inl rfl)) (pgs_cons (pg_name (i := 8) nd rfl (.inl rfl)) pgs_nil))) (fun _ _ _ _ _ => pts_nil)
              (fun _ _ _ _ _ => pe_op op_mul (pv 9) (psub (plen ml (pv 8)) pe_int))) pa_nil)) ip_add)
        (pss_cons (ps_if (pt_cmpR op_gt (pv 6) (pe_glob (v := .int 60000) rfl m6 ⟨_, rfl⟩) (nomark _)) pss_never pss_nil)
        (pss_one (ps_set (i := 5) nd rfl (.inl rfl) (pcall GN hr (pa_cons (pv 5) (pa_cons (pv 4) pa_nil)))))))))))), ?_⟩
    have el := hw.length
    have hN : ws.length ≤ 8 := by have := hg.few; omega
    have hst := hg.start.len
    -- many, table
    refine ⟨_, rfl, p, _, rfl, .inr (SqT.of hp), ?_⟩
    rw [List.length_map, el]
    refine ⟨_, rfl, p, rfl, ⟨_, SqT.of hp⟩, fun D nD => ?_⟩
    refine walk_by (walk_tup (K := K) (a := p) (xs := as.map V.ref)) (fun i H' => ∃ ts : List Addr, Same H H' ∧ H' D = some (.lst (ts.map V.ref)) ∧ ts.length = i ∧ ∀ j t, ts[j]? = some t → H t = none ∧ H' t = some (.lst (iV (fl ws.length fun k => cnt k (ws.getD j []))))) ⟨[], same_upd nD, upd_same, rfl, fun j t h => by simp at h⟩ (fun i H' ⟨_, s, _⟩ => sTup s (SqT.of hp)) ?_ ?_
    · rintro i x H1 H2 hi ⟨ts, S1, hD, hl, hts⟩ ⟨rfl, hx⟩
      rw [List.length_map] at hi
      obtain ⟨a, ha, rfl⟩ : ∃ a, as[i]? = some a ∧ x = V.ref a := by
        rw [List.getElem?_map] at hx
        cases e : as[i]? with
        | none => rw [e] at hx; cases hx
        | some a => rw [e] at hx; exact ⟨a, rfl, (Option.some.inj hx).symm⟩
      have hiw : i < ws.length := by omega
      obtain ⟨a', ha', hwa⟩ := paired_get hw (List.getElem?_eq_getElem hiw)
      rw [ha] at ha'
      cases ha'
      have ed : ws.getD i [] = ws[i] := by rw [List.getD_eq_getElem?_getD, List.getElem?_eq_getElem hiw]; rfl
      rw [← ed] at hwa
      refine ⟨rfl, _, rfl, _, rfl, a, ws.length, _, rfl, hwa.same S1, hN, fun H3 t S3 n3 h3 => ⟨_, S3 _ _ hD, ?_, ts ++ [t], sPut (S1.trans S3) nD, by rw [upd_same, List.map_append]; rfl, by rw [List.length_append, List.length_singleton, hl], ?_⟩⟩
      · rw [List.length_map, sizeLine_eq]; omega
      · intro j u hju
        have tD : t ≠ D := (ne_of_none hD n3).symm
        rcases Nat.lt_or_ge j ts.length with h | h
        · rw [List.getElem?_append_left h] at hju
          obtain ⟨g1, g2⟩ := hts j u hju
          have uD : u ≠ D := fun e => by
            rw [e, hD] at g2
            have g3 := Option.some.inj g2
            injection g3 with g4
            cases ts with
            | nil => simp at hju
            | cons y ys =>
              have g5 : (iV (fl ws.length fun k => cnt k (ws.getD j [])))[0]? = some (V.ref y) := by rw [← g4]; rfl
              have h0 : 0 < ws.length := hg.one
              rw [fl_get _ h0] at g5
              cases g5
          exact ⟨g1, by rw [upd_ne uD]; exact S3 _ _ g2⟩
        · have ej : j = ts.length := by
            have := (List.getElem?_eq_some_iff.mp hju).1
            rw [List.length_append, List.length_singleton] at this
            omega
          subst ej
          rw [List.getElem?_append_right (Nat.le_refl _), Nat.sub_self] at hju
          cases hju
          exact ⟨S1.free n3, by rw [upd_ne tD, hl]; exact h3⟩
    · rintro H1 ⟨ts, S1, hD, hl, hts⟩
      rw [List.length_map] at hl
      have hq1 := hq.same S1
      have hrows : Rows H1 ws.length ts (fun j k => cnt k (ws.getD j [])) := ⟨by omega, fun j t h => (hts j t h).2⟩
      -- counts, size
      refine ⟨_, rfl, _, rfl, pq, ws.length, st, rfl, hq1, hN, fun H2 c0 S2 n2 h2 => ?_⟩
      refine ⟨_, rfl, pq, _, rfl, .inr (hq1.same S2).sq, ?_⟩
      rw [List.length_map]
      refine ⟨_, rfl, (n : Int), rfl, by omega, by omega, ?_⟩
      rw [Int.toNat_natCast]
      have S02 := S1.trans S2
      refine for_range (lo := 0) (n := n) (fun i σ H' => ∃ (co : Addr) (y7 y8 y9 : Option V), σ = [some (.ref p), some (.ref pq), some (.int n), some (.int (ws.length : Int)), some (.ref D), some (.ref co), some (.int ((grown ws st i).length : Int)), y7, y8, y9] ∧
          Same H2 H' ∧ H' co = some (.lst (iV (fl ws.length fun k => cnt k (grown ws st i))))) ⟨c0, _, _, _, rfl, Same.refl _, h2⟩ ?_ ?_
      · rintro i σ H3 hi ⟨co, y7, y8, y9, rfl, S3, h3⟩
        have gl := grown_lets hg i
        have S03 := S02.trans S3
        have hlen1 : (grown ws st (i + 1)).length ≤ 60000 := Nat.le_trans (grown_mono hg (by omega)) hlen
        have hlen0 : (grown ws st i).length ≤ 60000 := Nat.le_trans (grown_mono hg (by omega)) hlen
        have eqlen := grow_length (ws := ws) (fun j hj => (good_len hg.words j hj).1) gl
        refine ⟨_, rfl, _, rfl, _, rfl, co, p, _, _, rfl, SqL.of h3, SqT.of (S03 _ _ hp), fun L nL => ?_⟩
        have ll : (iV (fl ws.length fun k => cnt k (grown ws st i))).length = (as.map V.ref).length := by rw [fl_len, List.length_map, el]
        refine walk_by (walk_zipM (K := K) (a := co) (b := p) ll) (fun m H' => Same H3 H' ∧ H' L = some (.lst (iV (fl m fun j => cnt j (grown ws st i) * ((ws.getD j []).length - 1))))) ⟨same_upd nL, upd_same⟩ (fun m H' ⟨s, _⟩ => ⟨SqL.of (s _ _ h3), SqT.of (s _ _ (S03 _ _ hp))⟩) ?_ ?_
        · rintro m x H4 H5 hm ⟨S4, hL⟩ ⟨T, xa, xb, rfl, nT, rfl, ga, gb⟩
          rw [fl_len] at hm
          have ea : V.int (cnt m (grown ws st i) : Int) = xa := Option.some.inj ((fl_get _ hm).symm.trans ga)
          subst ea
          have gb : (as.map V.ref)[m]? = some xb := gb
          rw [List.getElem?_map] at gb
          obtain ⟨a, ha, hwa⟩ := paired_get hw (List.getElem?_eq_getElem hm)
          rw [ha] at gb
          have eb : V.ref a = xb := Option.some.inj gb
          subst eb
          have ed : ws.getD m [] = ws[m] := by rw [List.getD_eq_getElem?_getD, List.getElem?_eq_getElem hm]; rfl
          rw [← ed] at hwa
          have S5 := S4.trans (same_upd (o := .tup [V.int (cnt m (grown ws st i) : Int), V.ref a]) nT)
          have hL5 : (upd H4 T (.tup [V.int (cnt m (grown ws st i) : Int), V.ref a])) L = _ := same_upd nT _ _ hL
          have g40 := good_len hg.words m hm
          have bd := cnt_le m (grown ws st i)
          refine ⟨T, _, rfl, SqT.of upd_same, rfl, _, _, rfl, _, _, rfl, rfl, rfl, _, rfl, _, rfl, a, _, rfl, .inr ((hwa.same (S03.trans S5)).sq), _, _, rfl, rfl, _, _, rfl, rfl, .inl ⟨by omega, by omega⟩, _, hL5, ?_, sPut S5 nL, ?_⟩
          · rw [fl_len, sizeLine_eq]; omega
          · have ev : (cnt m (grown ws st i) : Int) * (((wv (ws.getD m [])).length : Int) - 1) = ((cnt m (grown ws st i) * ((ws.getD m []).length - 1) : Nat) : Int) := by
              rw [List.length_map, Int.natCast_mul]
              congr 1
              omega
            have e2 : fl (m + 1) (fun j => cnt j (grown ws st i) * ((ws.getD j []).length - 1)) = fl m (fun j => cnt j (grown ws st i) * ((ws.getD j []).length - 1)) ++ [cnt m (grown ws st i) * ((ws.getD m []).length - 1)] := by
              unfold fl; rw [List.range_succ, List.map_append]; rfl
            dsimp only
            rw [upd_same, e2, ev]
            simp only [iV, List.map_append, List.map_cons, List.map_nil]
        · rintro H4 ⟨S4, hL⟩
          rw [fl_len] at hL
          refine ⟨L, (fl ws.length fun j => cnt j (grown ws st i) * ((ws.getD j []).length - 1)).map (fun (k : Nat) => (k : Int)), rfl, SqL.of (by rw [hL, List.map_map]; rfl), _, _, rfl, rfl, ?_⟩
          rw [sum_ints]
          have ez : ((grown ws st i).length : Int) + ((sumN ws.length (fun j => cnt j (grown ws st i) * ((ws.getD j []).length - 1)) : Nat) : Int) = ((grown ws st (i + 1)).length : Int) := by
            show _ = ((grow ws (grown ws st i)).length : Int)
            rw [eqlen]; omega
          dsimp only
          rw [ez]
          refine ⟨_, rfl, _, _, rfl, rfl, _, rfl, itN (by omega) ?_⟩
          have S24 := S3.trans S4
          refine ⟨_, rfl, _, rfl, co, D, ws.length, ts, (fun k => cnt k (grown ws st i)), (fun j k => cnt k (ws.getD j [])), rfl, S4 _ _ h3, S24 _ _ (S2 _ _ hD), ⟨hrows.1, fun j t h => S24 _ _ (S2 _ _ (hrows.2 j t h))⟩, hN, fun j k => ?_, fun H5 c5 S5 n5 h5 => ?_⟩
          · show cnt k (ws.getD j []) ≤ 1000
            have h1 := cnt_le k (ws.getD j [])
            by_cases hj : j < ws.length
            · have := (good_len hg.words j hj).2; omega
            · have : ws.getD j [] = [] := by rw [List.getD_eq_getElem?_getD, List.getElem?_eq_none (by omega)]; rfl
              rw [this] at h1 ⊢
              exact Nat.le_trans h1 (Nat.zero_le _)
          · refine ⟨c5, _, _, _, rfl, S24.trans S5, ?_⟩
            rw [h5]
            congr 3
            exact fl_congr fun k _ => (grow_cnt k gl).symm
      · rintro σ H3 ⟨co, y7, y8, y9, rfl, S3, h3⟩
        exact q H3 (S02.trans S3)
end
end SK
namespace SK
open PySem PySem.Spec PyProof.Rows L2
/-! ### xs.extend(w), w a word -/
def rExtW : V → List V → Hp → VK → Prop := fun x vs H Q => ∃ (l b : Addr) (xs : List V) (w : List Sy), x = .ref l ∧ vs = [.ref b] ∧ H l = some (.lst xs) ∧ WdAt H b w ∧ xs.length + w.length ≤ sizeLine ∧ Q .non (upd H l (.lst (xs ++ wv w)))
theorem mt_extW {X : Cx} : MtM X "list.extend" rExtW := by
  rintro pins s σ H x vs v us Q I rx rv ⟨l, b, xs, w, rfl, rfl, hH, ⟨ob, hob, hd, hsl⟩, hz, q⟩
  cases rx
  obtain ⟨u, rfl, ru⟩ := rv.one
  cases ru
  obtain ⟨z, its, n, r, hl, e⟩ := I.lstM hH
  obtain ⟨hat, _, its2, r2, o2, ho2, hc2, n2, hd2⟩ := (show ObjOk X.prog X.w H s.heap b (.frz ob (.tup (wv w))) from I.hok b _ hob)
  have eo : o2 = ob := Option.some.inj (ho2.symm.trans hat)
  subst eo
  obtain ⟨cls, dct, dat, slo⟩ := o2
  simp only at hc2 hd2 hd hsl
  subst hc2 hd2 hd hsl
  have l1 := r.length
  have l2 := r2.length
  rw [List.length_map] at l2
  have fit : its.toArray.size + its2.toArray.size ≤ sizeLine := by simp only [List.size_toArray]; omega
  have short : ¬ (!its.toArray.isEmpty && Builtin.List.listTooLong (its.toArray.size + its2.toArray.size)) = true := by rw [notLongL fit, Bool.and_false]; exact Bool.false_ne_true
  refine call_meets F.slot_list_extend ⟨_, e, rfl⟩ F.entry_list_extend (F.args_list_extend_2 _ _) (AutoSeq1.list_extend_list_tuple_0 l its.toArray n b its2.toArray n2 short (by simp only [List.size_toArray]; omega) (by omega)) ⟨e, hat, ?_⟩
  exact ⟨.non, _, I.lset (its' := its ++ its2) hH e (by simp) (r.append r2) (by rw [List.length_append, List.length_map]; exact hz), rfl, q⟩
/-! ### the letters of each age -/
structure RowsL (n : Nat) (ws : List (List Sy)) (st : List Sy) (L : List (List Nat)) : Prop where
  len : L.length = n + 1
  first : ∀ k, Sy.l k ∈ st → k ∈ L.getD 0 []
  next : ∀ m, m < n → ∀ j ∈ L.getD m [], ∀ k, Sy.l k ∈ ws.getD j [] → k ∈ L.getD (m + 1) []
  few : ∀ ls ∈ L, (∀ j ∈ ls, j < ws.length) ∧ ls.length ≤ 8
  there : ∀ m, m ≤ n → ∀ j ∈ L.getD m [], Sy.l j ∈ grown ws st m
theorem RowsL.snoc {n : Nat} {ws : List (List Sy)} {st : List Sy} {L : List (List Nat)} {ls : List Nat} (h : RowsL n ws st L) (hn : ∀ j ∈ L.getD n [], ∀ k, Sy.l k ∈ ws.getD j [] → k ∈ ls) (hf : (∀ j ∈ ls, j < ws.length) ∧ ls.length ≤ 8) (ht : ∀ k ∈ ls, Sy.l k ∈ grown ws st (n + 1)) : RowsL (n + 1) ws st (L ++ [ls]) := by
  have old : ∀ m, m ≤ n → (L ++ [ls]).getD m [] = L.getD m [] := fun m hm => by
    rw [List.getD_eq_getElem?_getD, List.getD_eq_getElem?_getD, List.getElem?_append_left (by rw [h.len]; omega)]
  have last : (L ++ [ls]).getD (n + 1) [] = ls := by
    rw [List.getD_eq_getElem?_getD, List.getElem?_append_right (by rw [h.len]; omega), h.len, Nat.sub_self]
    rfl
  refine ⟨by rw [List.length_append, List.length_singleton, h.len], fun k hk => by rw [old 0 (Nat.zero_le _)]; exact h.first k hk, fun m hm j hj k hk => ?_, fun l hl => ?_, fun m hm j hj => ?_⟩
  · rw [old m (by omega)] at hj
    by_cases e : m = n
    · subst e
      rw [last]
      exact hn j hj k hk
    · rw [old (m + 1) (by omega)]
      exact h.next m (by omega) j hj k hk
  · rcases List.mem_append.mp hl with h2 | h2
    · exact h.few l h2
    · rw [List.mem_singleton.mp h2]; exact hf
  · by_cases e : m = n + 1
    · subst e
      rw [last] at hj
      exact ht j hj
    · rw [old m (by omega)] at hj
      exact h.there m (by omega) j hj
def spRows : Sp := fun vs H Q _ => ∃ (p q : Addr) (n : Nat) (as : List Addr) (ws : List (List Sy)) (st : List Sy), vs = [.ref p, .ref q, .int n] ∧ H p = some (.tup (as.map V.ref)) ∧ Words H as ws ∧ WdAt H q st ∧ GoodBook ws st ∧ n ≤ 1000 ∧
  ∀ (H' : Hp) (ro : Addr) (rs : List Addr) (L : List (List Nat)), Same H H' → H ro = none → H' ro = some (.lst (rs.map V.ref)) → Paired (fun a ls => H' a = some (.lst (iV ls))) rs L → RowsL n ws st L → Q (.ref ro) H'
section
variable {P : Program} {w : World} {K : PySem.W.Frag} {mg : Str → Option Value} {base : Heap}
theorem ok_rows {f : Addr} {fd : FuncData} {k : Nat} (F : Fun K "letters_by_age" "letters_by_age" s_letters_by_age f fd) (GL : Got P w K mg base "letters_in" k ["parts"] (spLettersIn K)) (GN : Got P w K mg base "next_letters" k ["words", "letters"] spNext) (mR : mg "range" = none) :
    FnOk P w K mg base CX0 (k + 1) f fd ["words", "start", "age"] spRows := by
  refine F.ok sc_letters_by_age (fun vs H Q E h => ?_) (fun cdv A outer s H vs Q E hr h => ?_)
  · obtain ⟨p, q, n, as, ws, st, rfl, _⟩ := h
    rfl
  · obtain ⟨p, pq, n, as, ws, st, rfl, hp, hw, hq, hg, hn, q⟩ := h
    have nd := sc_letters_by_age.nd
    refine ⟨_, pss_cons (ps_set (i := 3) nd rfl (.inl rfl) (plstN (pa_cons (pcall GL hr (pa_cons (pv 1) pa_nil)) pa_nil)))
      (pss_cons (ps_for PassesOwn.never rfl (pi_range1 rfl mR (pa_cons (pv 2) pa_nil)) (pg_name (i := 4) nd rfl (.inl rfl))
        (pss_one (sapp (pv 3) (pcall GN hr (pa_cons (pv 0) (pa_cons (pix (pv 3) (pe_un un_neg pe_int)) pa_nil))))))
      (pss_one (ps_ret (pv 3)))), ?_⟩
    have hf : ws.length ≤ 8 := by have := hg.few; omega
    refine ⟨_, rfl, pq, st, rfl, .inr hq.sq, fun k hk => Nat.lt_of_lt_of_le (hg.start.lets k hk) hf, fun H1 a1 l1 S1 n1 h1 hm1 hl1 => ⟨szl 1, fun H2 ro S2 n2 h2 => ?_⟩⟩
    have nro : H ro = none := S1.free n2
    refine ⟨_, rfl, (n : Int), rfl, by omega, by omega, ?_⟩
    rw [Int.toNat_natCast]
    refine for_range (lo := 0) (n := n) (fun i σ H' => ∃ (rs : List Addr) (L : List (List Nat)) (y4 : Option V), σ = [some (.ref p), some (.ref pq), some (.int n), some (.ref ro), y4] ∧ Same H H' ∧ H' ro = some (.lst (rs.map V.ref)) ∧ Paired (fun a ls => H' a = some (.lst (iV ls)) ∧ a ≠ ro) rs L ∧ RowsL i ws st L)
      ⟨[a1], [l1], _, rfl, S1.trans S2, h2, .cons ⟨S2 _ _ h1, ne_of_none h1 n2⟩ .nil, ⟨rfl, fun k hk => (hm1 k).mpr hk, fun m hm => absurd hm (Nat.not_lt_zero _), fun ls hls => by rw [List.mem_singleton.mp hls]; exact ⟨fun j hj => hg.start.lets j ((hm1 j).mp hj), hl1⟩, fun m hm j hj => by
        have e : m = 0 := by omega
        subst e
        exact (hm1 j).mp hj⟩⟩ ?_ ?_
    · rintro i σ H3 hi ⟨rs, L, y4, rfl, S3, hro, hP, hL⟩
      have lrs := hP.length
      have lL := hL.len
      have hLi : L[i]? = some L[i] := List.getElem?_eq_getElem (by omega)
      have eLi : L.getD i [] = L[i] := by rw [List.getD_eq_getElem?_getD, hLi]; rfl
      obtain ⟨ai, hai, hat, hne⟩ := paired_get hP hLi
      have hfi := hL.few _ (List.getElem_mem (show i < L.length by omega))
      rw [← eLi] at hat hfi
      have hlast : atI (rs.map V.ref) (-1) = some (V.ref ai) := by
        have hx : rs = rs.take i ++ [ai] := by
          rw [← take_more hai, List.take_of_length_le (by omega)]
        rw [hx, List.map_append]
        exact atI_last _ _
      refine ⟨_, rfl, .inl ⟨rfl, _, SqL.of hro⟩, _, rfl, _, rfl, _, rfl, ro, _, _, _, rfl, rfl, SqL.of hro, hlast, p, ai, as, ws, L.getD i [], rfl, S3 _ _ hp, hw.keep (.of S3), hat, hfi.1, hfi.2, hf, hg.words, fun H4 a4 l4 S4 n4 h4 hm4 hl4 => ?_⟩
      have hro4 := S4 _ _ hro
      have nro4 : a4 ≠ ro := (ne_of_none hro n4).symm
      refine ⟨ro, _, _, rfl, rfl, hro4, ?_, rs ++ [a4], L ++ [l4], _, rfl, sPut (S3.trans S4) nro, by rw [upd_same, List.map_append]; rfl, ?_, ?_⟩
      · rw [List.length_map, sizeLine_eq]; omega
      · refine Paired.snoc (Paired.mono (fun a ls ⟨e, ne⟩ => ⟨by rw [upd_ne ne]; exact S4 _ _ e, ne⟩) hP) ⟨by rw [upd_ne nro4]; exact h4, nro4⟩
      · refine hL.snoc (fun j hj k hk => (hm4 k).mpr ⟨j, hj, hk⟩) ⟨fun k hk => ?_, hl4⟩ fun k hk => ?_
        · obtain ⟨j, hj, hk'⟩ := (hm4 k).mp hk
          have hjn := hfi.1 j hj
          rw [List.getD_eq_getElem?_getD, List.getElem?_eq_getElem hjn] at hk'
          exact (hg.words _ (List.getElem_mem hjn)).lets k hk'
        · obtain ⟨j, hj, hk'⟩ := (hm4 k).mp hk
          exact List.mem_flatMap.mpr ⟨.l j, hL.there i (Nat.le_refl _) j hj, hk'⟩
    · rintro σ H3 ⟨rs, L, y4, rfl, S3, hro, hP, hL⟩
      exact ⟨_, rfl, q H3 ro rs L S3 nro hro (Paired.mono (fun a ls h => h.1) hP) hL⟩
end
end SK
namespace SK
open PySem PySem.Spec PyProof.Rows L2
/-! ### a pen along paths: each letter a whole path, that ends somewhere -/
abbrev Plc := Int × Int × Int
abbrev Pth := Nat → Plc
def rot (h : Int) (p : Int × Int) : Int × Int := if h % 4 = 0 then p else if h % 4 = 1 then (-p.2, p.1) else if h % 4 = 2 then (-p.1, -p.2) else (p.2, -p.1)
/-- a place with a heading, as seen from another one -/
def mv (a q : Plc) : Plc := (a.1 + (rot a.2.2 (q.1, q.2.1)).1, a.2.1 + (rot a.2.2 (q.1, q.2.1)).2, (a.2.2 + q.2.2) % 4)
def sh (a : Plc) (s : Stk) : Stk := ((mv a (s.1, s.2.1, s.2.2.1)).1, (mv a (s.1, s.2.1, s.2.2.1)).2.1, (mv a (s.1, s.2.1, s.2.2.1)).2.2, s.2.2.2)
def Pen.pl (p : Pen) : Plc := (p.x, p.y, p.h)
def pstepE (E : Pth) (p : Pen) : Sy → Pen
  | .l k => { p with out := p.out ++ [(p.x, p.y, p.h, k)], x := (mv p.pl (E k)).1, y := (mv p.pl (E k)).2.1, h := (mv p.pl (E k)).2.2 }
  | s => pstep p s
def penF (E : Pth) (p : Pen) (w : List Sy) : Pen := w.foldl (pstepE E) p
def org : Pen := ⟨0, 0, 0, [], []⟩
def penE (E : Pth) (w : List Sy) : Pen := penF E org w
/-- each letter a stroke -/
def one : Pth := fun _ => (1, 0, 0)
theorem penF_app (E : Pth) (p : Pen) (v w : List Sy) : penF E p (v ++ w) = penF E (penF E p v) w := List.foldl_append
theorem penF_cons (E : Pth) (p : Pen) (s : Sy) (w : List Sy) : penF E p (s :: w) = penF E (pstepE E p s) w := rfl
theorem rot_mod (h : Int) (p : Int × Int) : rot (h % 4) p = rot h p := by
  unfold rot
  rw [show h % 4 % 4 = h % 4 by omega]
theorem rot4 (h : Int) : (h % 4 = 0 ∧ ∀ p, rot h p = p) ∨ (h % 4 = 1 ∧ ∀ p, rot h p = (-p.2, p.1)) ∨ (h % 4 = 2 ∧ ∀ p, rot h p = (-p.1, -p.2)) ∨ (h % 4 = 3 ∧ ∀ p, rot h p = (p.2, -p.1)) := by
  have e : h % 4 = 0 ∨ h % 4 = 1 ∨ h % 4 = 2 ∨ h % 4 = 3 := by omega
  rcases e with e | e | e | e
  · exact .inl ⟨e, fun p => by unfold rot; rw [if_pos e]⟩
  · exact .inr (.inl ⟨e, fun p => by unfold rot; rw [if_neg (by omega), if_pos e]⟩)
  · exact .inr (.inr (.inl ⟨e, fun p => by unfold rot; rw [if_neg (by omega), if_neg (by omega), if_pos e]⟩))
  · exact .inr (.inr (.inr ⟨e, fun p => by unfold rot; rw [if_neg (by omega), if_neg (by omega), if_neg (by omega)]⟩))
theorem rot_rot (a b : Int) (p : Int × Int) : rot a (rot b p) = rot (a + b) p := by
  obtain ⟨x, y⟩ := p
  rcases rot4 a with ⟨ha, ea⟩ | ⟨ha, ea⟩ | ⟨ha, ea⟩ | ⟨ha, ea⟩ <;> rcases rot4 b with ⟨hb, eb⟩ | ⟨hb, eb⟩ | ⟨hb, eb⟩ | ⟨hb, eb⟩ <;>
    rcases rot4 (a + b) with ⟨hc, ec⟩ | ⟨hc, ec⟩ | ⟨hc, ec⟩ | ⟨hc, ec⟩ <;> first | (exfalso; omega) | (rw [ea, eb, ec] <;> first | done | (refine Prod.ext ?_ ?_ <;> dsimp only <;> omega))
theorem rot_add (h : Int) (p q : Int × Int) : rot h (p.1 + q.1, p.2 + q.2) = ((rot h p).1 + (rot h q).1, (rot h p).2 + (rot h q).2) := by
  rcases rot4 h with ⟨ha, ea⟩ | ⟨ha, ea⟩ | ⟨ha, ea⟩ | ⟨ha, ea⟩ <;> rw [ea, ea, ea] <;> simp <;> omega
theorem mv_mv (a b c : Plc) : mv (mv a b) c = mv a (mv b c) := by
  have e1 : rot (mv a b).2.2 (c.1, c.2.1) = rot a.2.2 (rot b.2.2 (c.1, c.2.1)) := by
    rw [rot_rot]
    show rot ((a.2.2 + b.2.2) % 4) _ = _
    rw [rot_mod]
  have e2 := rot_add a.2.2 (b.1, b.2.1) (rot b.2.2 (c.1, c.2.1))
  show ((mv a b).1 + (rot (mv a b).2.2 (c.1, c.2.1)).1, (mv a b).2.1 + (rot (mv a b).2.2 (c.1, c.2.1)).2, ((mv a b).2.2 + c.2.2) % 4) =
    (a.1 + (rot a.2.2 (b.1 + (rot b.2.2 (c.1, c.2.1)).1, b.2.1 + (rot b.2.2 (c.1, c.2.1)).2)).1, a.2.1 + (rot a.2.2 (b.1 + (rot b.2.2 (c.1, c.2.1)).1, b.2.1 + (rot b.2.2 (c.1, c.2.1)).2)).2, (a.2.2 + (b.2.2 + c.2.2) % 4) % 4)
  rw [e1, e2]
  refine Prod.ext ?_ (Prod.ext ?_ ?_)
  · show a.1 + (rot a.2.2 (b.1, b.2.1)).1 + _ = a.1 + ((rot a.2.2 (b.1, b.2.1)).1 + _)
    omega
  · show a.2.1 + (rot a.2.2 (b.1, b.2.1)).2 + _ = a.2.1 + ((rot a.2.2 (b.1, b.2.1)).2 + _)
    omega
  · show ((a.2.2 + b.2.2) % 4 + c.2.2) % 4 = (a.2.2 + (b.2.2 + c.2.2) % 4) % 4
    omega
/-- a pen as seen from a place, with what stood ahead of it -/
def comp (a : Plc) (st : List Plc) (out : List Stk) (q : Pen) : Pen := ⟨(mv a q.pl).1, (mv a q.pl).2.1, (mv a q.pl).2.2, st ++ q.st.map (mv a), out ++ q.out.map (sh a)⟩
theorem comp_step (E : Pth) (a : Plc) (st : List Plc) (out : List Stk) (q : Pen) (s : Sy) (h : s = .c → q.st ≠ []) : pstepE E (comp a st out q) s = comp a st out (pstepE E q s) := by
  cases s with
  | o =>
    show Pen.mk _ _ _ _ _ = Pen.mk _ _ _ _ _
    congr 1
    show (st ++ q.st.map (mv a)) ++ [_] = st ++ (q.st ++ [_]).map (mv a)
    rw [List.map_append, List.append_assoc]
    rfl
  | c =>
    have hne := h rfl
    obtain ⟨t, ht⟩ : ∃ t, q.st.getLast? = some t := ⟨_, List.getLast?_eq_getLast hne⟩
    obtain ⟨tx, ty, th⟩ := t
    have e1 : pstepE E q .c = { q with x := tx, y := ty, h := th, st := q.st.dropLast } := by
      show (match q.st.getLast? with
        | some (a, b, c) => { q with x := a, y := b, h := c, st := q.st.dropLast }
        | none => q) = _
      rw [ht]
    have h2 : (comp a st out q).st.getLast? = some (mv a (tx, ty, th)) := by
      show (st ++ q.st.map (mv a)).getLast? = _
      rw [List.getLast?_append, List.getLast?_map, ht]
      rfl
    have e2 : pstepE E (comp a st out q) .c = { comp a st out q with x := (mv a (tx, ty, th)).1, y := (mv a (tx, ty, th)).2.1, h := (mv a (tx, ty, th)).2.2, st := (comp a st out q).st.dropLast } := by
      show (match (comp a st out q).st.getLast? with
        | some (a', b, c) => { comp a st out q with x := a', y := b, h := c, st := (comp a st out q).st.dropLast }
        | none => comp a st out q) = _
      rw [h2]
    rw [e1, e2]
    show Pen.mk _ _ _ _ _ = Pen.mk _ _ _ _ _
    congr 1
    show (st ++ q.st.map (mv a)).dropLast = st ++ q.st.dropLast.map (mv a)
    rw [List.dropLast_append_of_ne_nil (by simpa using hne), List.map_dropLast]
  | p =>
    show Pen.mk _ _ _ _ _ = Pen.mk _ _ _ _ _
    congr 1
    show ((a.2.2 + q.h) % 4 + 1) % 4 = (a.2.2 + (q.h + 1) % 4) % 4
    omega
  | m =>
    show Pen.mk _ _ _ _ _ = Pen.mk _ _ _ _ _
    congr 1
    show ((a.2.2 + q.h) % 4 + 3) % 4 = (a.2.2 + (q.h + 3) % 4) % 4
    omega
  | l k =>
    have e : mv (comp a st out q).pl (E k) = mv a (mv q.pl (E k)) := mv_mv a q.pl (E k)
    show Pen.mk _ _ _ _ _ = Pen.mk _ _ _ _ _
    rw [e]
    congr 1
    show (out ++ q.out.map (sh a)) ++ [_] = out ++ (q.out ++ [_]).map (sh a)
    rw [List.map_append, List.append_assoc]
    rfl
theorem st_step (E : Pth) (q : Pen) (s : Sy) {d : Nat} (h : nest [s] q.st.length = some d) : (pstepE E q s).st.length = d := by
  cases s with
  | o =>
    have h : some (q.st.length + 1) = some d := h
    show (q.st ++ [_]).length = d
    rw [List.length_append]
    exact Option.some.inj h
  | c =>
    cases hs : q.st.getLast? with
    | none =>
      rw [List.getLast?_eq_none_iff] at hs
      rw [hs] at h
      cases h
    | some t =>
      obtain ⟨a, b, c⟩ := t
      have e2 : pstepE E q .c = { q with x := a, y := b, h := c, st := q.st.dropLast } := by
        show (match q.st.getLast? with
          | some (a, b, c) => { q with x := a, y := b, h := c, st := q.st.dropLast }
          | none => q) = _
        rw [hs]
      rw [e2]
      show q.st.dropLast.length = d
      have hne : 1 ≤ q.st.length := List.length_pos_iff.mpr fun z => by rw [z] at hs; cases hs
      obtain ⟨e, he⟩ : ∃ e, q.st.length = e + 1 := ⟨_, (Nat.sub_add_cancel hne).symm⟩
      rw [he] at h
      have h : some e = some d := h
      rw [List.length_dropLast, he]
      have := Option.some.inj h
      omega
  | p => exact Option.some.inj h
  | m => exact Option.some.inj h
  | l k => exact Option.some.inj h
theorem nest_cons (s : Sy) (w : List Sy) (d : Nat) : nest (s :: w) d = (nest [s] d).bind (nest w) := nest_app [s] w d
theorem st_run (E : Pth) : ∀ (w : List Sy) (q : Pen) {d : Nat}, nest w q.st.length = some d → (penF E q w).st.length = d
  | [], q, d, h => Option.some.inj h
  | s :: w, q, d, h => by
    rw [nest_cons] at h
    cases h1 : nest [s] q.st.length with
    | none => rw [h1] at h; cases h
    | some e =>
      rw [h1] at h
      have e1 := st_step E q s h1
      exact st_run E w (pstepE E q s) (by rw [e1]; exact h)
theorem comp_run (E : Pth) (a : Plc) (st : List Plc) (out : List Stk) : ∀ (w : List Sy) (q : Pen), nest w q.st.length ≠ none → penF E (comp a st out q) w = comp a st out (penF E q w)
  | [], q, _ => rfl
  | s :: w, q, h => by
    rw [nest_cons] at h
    cases h1 : nest [s] q.st.length with
    | none => rw [h1] at h; exact absurd rfl h
    | some e =>
      rw [h1] at h
      have e1 := st_step E q s h1
      rw [penF_cons, penF_cons, comp_step E a st out q s, comp_run E a st out w (pstepE E q s) (by rw [e1]; exact h)]
      rintro rfl z
      rw [z] at h1
      cases h1
/-- headings are 0 to 3 -/
structure HOk (p : Pen) : Prop where
  h : 0 ≤ p.h ∧ p.h < 4
  st : ∀ q ∈ p.st, 0 ≤ q.2.2 ∧ q.2.2 < 4
  out : ∀ q ∈ p.out, 0 ≤ q.2.2.1 ∧ q.2.2.1 < 4
theorem hok_org : HOk org := ⟨⟨by decide, by decide⟩, (fun q h => nomatch h), (fun q h => nomatch h)⟩
theorem hok_step {E : Pth} {p : Pen} (k : HOk p) (s : Sy) : HOk (pstepE E p s) := by
  cases s with
  | o =>
    refine ⟨k.h, fun q hq => ?_, k.out⟩
    rcases List.mem_append.mp (show q ∈ p.st ++ [_] from hq) with h | h
    · exact k.st q h
    · rw [List.mem_singleton.mp h]; exact k.h
  | c =>
    cases hs : p.st.getLast? with
    | none =>
      have e2 : pstepE E p .c = p := by
        show (match p.st.getLast? with
          | some (a, b, c) => { p with x := a, y := b, h := c, st := p.st.dropLast }
          | none => p) = _
        rw [hs]
      rw [e2]
      exact k
    | some t =>
      obtain ⟨a, b, c⟩ := t
      have e2 : pstepE E p .c = { p with x := a, y := b, h := c, st := p.st.dropLast } := by
        show (match p.st.getLast? with
          | some (a, b, c) => { p with x := a, y := b, h := c, st := p.st.dropLast }
          | none => p) = _
        rw [hs]
      rw [e2]
      exact ⟨k.st _ (List.mem_of_getLast? hs), fun q hq => k.st q (List.dropLast_subset _ hq), k.out⟩
  | p => exact ⟨⟨by show 0 ≤ (p.h + 1) % 4; omega, by show (p.h + 1) % 4 < 4; omega⟩, k.st, k.out⟩
  | m => exact ⟨⟨by show 0 ≤ (p.h + 3) % 4; omega, by show (p.h + 3) % 4 < 4; omega⟩, k.st, k.out⟩
  | l j =>
    refine ⟨⟨by show 0 ≤ (p.h + (E j).2.2) % 4; omega, by show (p.h + (E j).2.2) % 4 < 4; omega⟩, k.st, fun q hq => ?_⟩
    rcases List.mem_append.mp (show q ∈ p.out ++ [_] from hq) with h | h
    · exact k.out q h
    · rw [List.mem_singleton.mp h]; exact k.h
theorem hok_run {E : Pth} : ∀ (w : List Sy) {p : Pen}, HOk p → HOk (penF E p w)
  | [], p, k => k
  | s :: w, p, k => hok_run w (hok_step k s)
theorem pen_ext {p q : Pen} (h : p.pl = q.pl) (s : p.st = q.st) (o : p.out = q.out) : p = q := by
  obtain ⟨x, y, h1, st, out⟩ := p
  obtain ⟨x', y', h', st', out'⟩ := q
  cases h
  cases s
  cases o
  rfl
theorem comp_org {p : Pen} (k : HOk p) : comp p.pl p.st p.out org = p := by
  have e : mv p.pl org.pl = p.pl := by
    have e0 : rot p.h (0, 0) = (0, 0) := by rcases rot4 p.h with ⟨_, e⟩ | ⟨_, e⟩ | ⟨_, e⟩ | ⟨_, e⟩ <;> rw [e] <;> rfl
    refine Prod.ext ?_ (Prod.ext ?_ ?_)
    · show p.x + (rot p.h (0, 0)).1 = p.x
      rw [e0]; omega
    · show p.y + (rot p.h (0, 0)).2 = p.y
      rw [e0]; omega
    · show (p.h + 0) % 4 = p.h
      have := k.h
      omega
  refine pen_ext ?_ ?_ ?_
  · exact e
  · exact List.append_nil _
  · exact List.append_nil _
/-- a whole word from wherever the pen stands -/
theorem path_run (E : Pth) {w : List Sy} (hw : nest w 0 = some 0) {p : Pen} (k : HOk p) : (penF E p w).pl = mv p.pl (penE E w).pl ∧ (penF E p w).st = p.st ∧ (penF E p w).out = p.out ++ (penE E w).out.map (sh p.pl) := by
  have e : penF E p w = comp p.pl p.st p.out (penE E w) := by
    have h := comp_run E p.pl p.st p.out w org (by show nest w 0 ≠ none; rw [hw]; exact fun z => nomatch z)
    rw [comp_org k] at h
    exact h
  have hst : (penE E w).st = [] := List.eq_nil_of_length_eq_zero (st_run E w org (show nest w 0 = some 0 from hw))
  rw [e]
  refine ⟨rfl, ?_, rfl⟩
  show p.st ++ (penE E w).st.map (mv p.pl) = p.st
  rw [hst]
  exact List.append_nil _
/-- what a stroke of the coarser path is drawn as -/
def fine (E : Pth) (ws : List (List Sy)) (s : Stk) : List Stk := (penE E (ws.getD s.2.2.2 [])).out.map (sh (s.1, s.2.1, s.2.2.1))
theorem grow_pen {ws : List (List Sy)} {E E' : Pth} : ∀ (w : List Sy), (∀ k, Sy.l k ∈ w → nest (ws.getD k []) 0 = some 0 ∧ E' k = (penE E (ws.getD k [])).pl) → ∀ (p p' : Pen), p.pl = p'.pl → p.st = p'.st → HOk p → p.out = p'.out.flatMap (fine E ws) →
    (penF E p (grow ws w)).pl = (penF E' p' w).pl ∧ (penF E p (grow ws w)).st = (penF E' p' w).st ∧ (penF E p (grow ws w)).out = (penF E' p' w).out.flatMap (fine E ws)
  | [], _, p, p', h1, h2, _, h4 => ⟨h1, h2, h4⟩
  | s :: w, hw, p, p', h1, h2, hk, h4 => by
    have hw' : ∀ k, Sy.l k ∈ w → nest (ws.getD k []) 0 = some 0 ∧ E' k = (penE E (ws.getD k [])).pl := fun k hk => hw k (List.mem_cons_of_mem _ hk)
    rw [show grow ws (s :: w) = img ws s ++ grow ws w from rfl, penF_app, penF_cons]
    have step : ∀ q q' : Pen, q.pl = q'.pl → q.st = q'.st → HOk q → q.out = q'.out.flatMap (fine E ws) → _ := fun q q' a b c d => grow_pen w hw' q q' a b c d
    have hxy : p.x = p'.x ∧ p.y = p'.y ∧ p.h = p'.h := ⟨congrArg (·.1) h1, congrArg (·.2.1) h1, congrArg (·.2.2) h1⟩
    cases s with
    | l k =>
      obtain ⟨hn, he⟩ := hw k List.mem_cons_self
      obtain ⟨r1, r2, r3⟩ := path_run E hn hk
      refine step _ _ ?_ (r2.trans h2) (hok_run _ hk) ?_
      · show (penF E p (ws.getD k [])).pl = mv p'.pl (E' k)
        rw [r1, h1, he]
      · show (penF E p (ws.getD k [])).out = (p'.out ++ [(p'.x, p'.y, p'.h, k)]).flatMap (fine E ws)
        rw [r3, h4, List.flatMap_append, h1]
        simp only [List.flatMap_cons, List.flatMap_nil, List.append_nil]
        rfl
    | o =>
      refine step _ _ h1 ?_ (hok_step (E := E) hk .o) h4
      show p.st ++ [(p.x, p.y, p.h)] = p'.st ++ [(p'.x, p'.y, p'.h)]
      rw [h2, hxy.1, hxy.2.1, hxy.2.2]
    | c =>
      show _
      have e : ∀ (F : Pth) (q : Pen), pstepE F q .c = match q.st.getLast? with
        | some (a, b, c) => { q with x := a, y := b, h := c, st := q.st.dropLast }
        | none => q := fun _ _ => rfl
      refine step (pstepE E p .c) (pstepE E' p' .c) ?_ ?_ (hok_step (E := E) hk .c) ?_ <;> rw [e, e, h2] <;> cases p'.st.getLast? <;> first | exact h1 | exact h2 | exact h4 | rfl
    | p =>
      refine step _ _ ?_ h2 (hok_step (E := E) hk .p) h4
      show (p.x, p.y, (p.h + 1) % 4) = (p'.x, p'.y, (p'.h + 1) % 4)
      rw [hxy.1, hxy.2.1, hxy.2.2]
    | m =>
      refine step _ _ ?_ h2 (hok_step (E := E) hk .m) h4
      show (p.x, p.y, (p.h + 3) % 4) = (p'.x, p'.y, (p'.h + 3) % 4)
      rw [hxy.1, hxy.2.1, hxy.2.2]
theorem dir_rot {h : Int} (h0 : 0 ≤ h) (h4 : h < 4) : dir h = rot h (1, 0) := by
  have e : h = 0 ∨ h = 1 ∨ h = 2 ∨ h = 3 := by omega
  rcases e with rfl | rfl | rfl | rfl <;> rfl
/-- the pen of strokes is the pen along paths of one step -/
theorem pstep_one {p : Pen} (k : HOk p) (s : Sy) : pstepE one p s = pstep p s := by
  cases s with
  | l j =>
    show Pen.mk _ _ _ _ _ = Pen.mk _ _ _ _ _
    rw [dir_rot k.h.1 k.h.2]
    congr 1
    show (p.h + 0) % 4 = p.h
    have := k.h
    omega
  | o => rfl
  | c => rfl
  | p => rfl
  | m => rfl
theorem pen_one' : ∀ (w : List Sy) {p : Pen}, HOk p → penF one p w = w.foldl pstep p
  | [], p, _ => rfl
  | s :: w, p, k => by
    rw [penF_cons, pen_one' w (hok_step k s), pstep_one k]
    rfl
theorem pen_one (w : List Sy) : penE one w = pen w := pen_one' w hok_org
theorem hok_pen (w : List Sy) : HOk (pen w) := by
  rw [← pen_one]
  exact hok_run w hok_org
/-! ### even books -/
def scl (u v : Int) (q : Plc) : Plc := (u * q.1 - v * q.2.1, u * q.2.1 + v * q.1, q.2.2)
def sclS (u v : Int) (s : Stk) : Stk := (u * s.1 - v * s.2.1, u * s.2.1 + v * s.1, s.2.2.1, s.2.2.2)
theorem mv_scl (u v : Int) (a : Plc) : mv (scl u v a) (u, v, 0) = scl u v (mv a (1, 0, 0)) := by
  obtain ⟨x, y, h⟩ := a
  show (u * x - v * y + (rot h (u, v)).1, u * y + v * x + (rot h (u, v)).2, (h + 0) % 4) = (u * (x + (rot h (1, 0)).1) - v * (y + (rot h (1, 0)).2), u * (y + (rot h (1, 0)).2) + v * (x + (rot h (1, 0)).1), (h + 0) % 4)
  rcases rot4 h with ⟨_, e⟩ | ⟨_, e⟩ | ⟨_, e⟩ | ⟨_, e⟩ <;> rw [e, e] <;> refine Prod.ext ?_ (Prod.ext ?_ rfl) <;> simp only [Int.mul_add] <;> omega
def sclP (u v : Int) (p : Pen) : Pen := ⟨(scl u v p.pl).1, (scl u v p.pl).2.1, p.h, p.st.map (scl u v), p.out.map (sclS u v)⟩
theorem sclP_step (u v : Int) (p : Pen) (s : Sy) : pstepE (fun _ => (u, v, 0)) (sclP u v p) s = sclP u v (pstepE one p s) := by
  cases s with
  | l k =>
    have e : mv (sclP u v p).pl (u, v, 0) = scl u v (mv p.pl (1, 0, 0)) := mv_scl u v p.pl
    show Pen.mk _ _ _ _ _ = Pen.mk _ _ _ _ _
    dsimp only
    rw [e]
    congr 1
    show p.out.map (sclS u v) ++ [_] = (p.out ++ [_]).map (sclS u v)
    rw [List.map_append]
    rfl
  | o =>
    show Pen.mk _ _ _ _ _ = Pen.mk _ _ _ _ _
    congr 1
    show p.st.map (scl u v) ++ [_] = (p.st ++ [_]).map (scl u v)
    rw [List.map_append]
    rfl
  | c =>
    have e : ∀ (F : Pth) (q : Pen), pstepE F q .c = match q.st.getLast? with
      | some (a, b, c) => { q with x := a, y := b, h := c, st := q.st.dropLast }
      | none => q := fun _ _ => rfl
    rw [e, e]
    have h2 : (sclP u v p).st.getLast? = p.st.getLast?.map (scl u v) := List.getLast?_map
    rw [h2]
    cases p.st.getLast? with
    | none => rfl
    | some t =>
      obtain ⟨a, b, c⟩ := t
      show Pen.mk _ _ _ _ _ = Pen.mk _ _ _ _ _
      congr 1
      show (p.st.map (scl u v)).dropLast = p.st.dropLast.map (scl u v)
      rw [List.map_dropLast]
  | p => rfl
  | m => rfl
theorem sclP_run (u v : Int) : ∀ (w : List Sy) (p : Pen), penF (fun _ => (u, v, 0)) (sclP u v p) w = sclP u v (penF one p w)
  | [], p => rfl
  | s :: w, p => by
    rw [penF_cons, penF_cons, sclP_step, sclP_run u v w]
theorem org_scl (u v : Int) : sclP u v org = org := by
  show Pen.mk _ _ _ _ _ = Pen.mk _ _ _ _ _
  congr 1
  · show u * 0 - v * 0 = 0
    omega
  · show u * 0 + v * 0 = 0
    omega
/-- the next age of an even book, stroke by stroke -/
theorem even_next {ws : List (List Sy)} {w : List Sy} {u v : Int} (h : ∀ k, Sy.l k ∈ w → nest (ws.getD k []) 0 = some 0 ∧ (pen (ws.getD k [])).pl = (u, v, 0)) :
    strokes (grow ws w) = (strokes w).flatMap fun s => (strokes (ws.getD s.2.2.2 [])).map (sh (u * s.1 - v * s.2.1, u * s.2.1 + v * s.1, s.2.2.1)) := by
  have g := grow_pen (ws := ws) (E := one) (E' := fun _ => (u, v, 0)) w (fun k hk => ⟨(h k hk).1, by rw [pen_one]; exact (h k hk).2.symm⟩) org org rfl rfl hok_org rfl
  have e1 : (penF one org (grow ws w)).out = strokes (grow ws w) := by
    show (penE one (grow ws w)).out = _
    rw [pen_one]; rfl
  have e2 := sclP_run u v w org
  rw [org_scl] at e2
  have e3 : (penF one org w).out = strokes w := by
    show (penE one w).out = _
    rw [pen_one]; rfl
  rw [e1, e2] at g
  rw [g.2.2]
  show ((penF one org w).out.map (sclS u v)).flatMap (fine one ws) = _
  rw [e3, List.flatMap_map]
  congr 1
  funext s
  show (penE one (ws.getD s.2.2.2 [])).out.map _ = _
  rw [pen_one]
  rfl
end SK
namespace SK
open PySem PySem.Spec PyProof.Rows L2
/-! ### what letters become -/
def imgG (G : Nat → List Sy) : Sy → List Sy
  | .l k => G k
  | s => [s]
def growG (G : Nat → List Sy) (w : List Sy) : List Sy := w.flatMap (imgG G)
theorem growG_app (G : Nat → List Sy) (a b : List Sy) : growG G (a ++ b) = growG G a ++ growG G b := List.flatMap_append
theorem growG_one (G : Nat → List Sy) (s : Sy) : growG G [s] = imgG G s := by simp [growG]
theorem growG_take (G : Nat → List Sy) (w : List Sy) (i : Nat) : (growG G (w.take i)).length ≤ (growG G w).length := by
  have e : growG G w = growG G (w.take i) ++ growG G (w.drop i) := by rw [← growG_app, List.take_append_drop]
  rw [e, List.length_append]
  omega
theorem growG_mem {G : Nat → List Sy} {w : List Sy} {k : Nat} (h : Sy.l k ∈ w) : (G k).length ≤ (growG G w).length := by
  obtain ⟨a, b, rfl⟩ := List.append_of_mem h
  have e : growG G (a ++ .l k :: b) = growG G a ++ (G k ++ growG G b) := by rw [growG_app]; rfl
  rw [e, List.length_append, List.length_append]
  omega
/-- what a letter is after so many ages -/
def gI (ws : List (List Sy)) : Nat → Nat → List Sy
  | 0, k => [.l k]
  | i + 1, k => growG (gI ws i) (ws.getD k [])
theorem growG_zero (ws : List (List Sy)) (w : List Sy) : growG (gI ws 0) w = w := by
  induction w with
  | nil => rfl
  | cons s w ih =>
    have e : imgG (gI ws 0) s = [s] := by cases s <;> rfl
    show imgG (gI ws 0) s ++ growG (gI ws 0) w = s :: w
    rw [e, ih]
    rfl
theorem growG_grow (ws : List (List Sy)) (i : Nat) (w : List Sy) : growG (gI ws (i + 1)) w = growG (gI ws i) (grow ws w) := by
  induction w with
  | nil => rfl
  | cons s w ih =>
    have e : imgG (gI ws (i + 1)) s = growG (gI ws i) (img ws s) := by
      cases s with
      | l k => rfl
      | p => exact (growG_one _ _).symm
      | m => exact (growG_one _ _).symm
      | o => exact (growG_one _ _).symm
      | c => exact (growG_one _ _).symm
    show imgG (gI ws (i + 1)) s ++ growG (gI ws (i + 1)) w = _
    rw [e, ih, show grow ws (s :: w) = img ws s ++ grow ws w from rfl, growG_app]
theorem growG_grown (ws : List (List Sy)) (st : List Sy) : ∀ i m, growG (gI ws i) (grown ws st m) = grown ws st (m + i)
  | 0, m => growG_zero ws _
  | i + 1, m => by
    rw [growG_grow]
    have := growG_grown ws st i (m + 1)
    rw [show m + (i + 1) = m + 1 + i by omega]
    exact this
theorem TupS.dict {H : Hp} {D : Addr} {kvs : List (Key × V)} {o : HO} (h : H D = some (.dK kvs)) : TupS H (upd H D o) := by
  refine ⟨fun b ys e => ?_, fun b ob u e => ?_⟩
  · rw [upd_ne (ne_of e h (by intro z; cases z))]
    exact e
  · rw [upd_ne (ne_of e h (by intro z; cases z))]
    exact e
theorem iV_get {ls : List Nat} {i : Nat} {x : V} (h : (iV ls)[i]? = some x) : ∃ k, ls[i]? = some k ∧ x = V.int (k : Int) := by
  unfold iV at h
  rw [List.getElem?_map] at h
  cases e : ls[i]? with
  | none => rw [e] at h; cases h
  | some k => rw [e] at h; exact ⟨k, rfl, (Option.some.inj h).symm⟩
end SK
namespace SK
open PySem PySem.Spec PyProof.Rows L2
def spReplace : Sp := fun vs H Q _ => ∃ (a d : Addr) (w : List Sy) (kvs : List (Key × V)) (G : Nat → List Sy), vs = [.ref a, .ref d] ∧ WdAt H a w ∧ H d = some (.dK kvs) ∧ (∀ k, Sy.l k ∈ w → ∃ b, valV kvs (.inl (k : Int)) = some (.ref b) ∧ WdAt H b (G k)) ∧ (growG G w).length ≤ 1000000 ∧
  NewW (growG G w) H Q
section
variable {P : Program} {w : World} {K : PySem.W.Frag} {mg : Str → Option Value} {base : Heap}
theorem ok_replace {f : Addr} {fd : FuncData} {k : Nat} (F : Fun K "replace_letters" "replace_letters" s_replace_letters f fd) (mI : mg "isinstance" = none) (mS : mg "str" = none) (mT : mg "tuple" = none) : FnOk P w K mg base CX0 (k + 1) f fd ["word", "grown"] spReplace := by
  refine F.ok sc_replace_letters (fun vs H Q E h => ?_) (fun cdv A outer s H vs Q E hr h => ?_)
  · obtain ⟨a, d, w, kvs, G, rfl, _⟩ := h
    rfl
  · obtain ⟨a, d, wd, kvs, G, rfl, ha, hd, hG, hlen, q⟩ := h
    have nd := sc_replace_letters.nd
    refine ⟨_, pss_cons (ps_set (i := 2) nd rfl (.inl rfl) (plstN pa_nil))
      (pss_cons (ps_for PassesOwn.never rfl (pi_tup (pv 0)) (pg_name (i := 3) nd rfl (.inl rfl))
        (pss_one (ps_if (pt_val (pis "str" (by decide +kernel) mI mS (pv 3))) (pss_one (sapp (pv 2) (pv 3)))
          (pss_one (ps_expr (pe_bm PySem.F.plainAttrs_list PySem.F.slot_list_extend PySem.F.type_list_extend mt_extW (pv 2) (pa_cons (pe_dget (hu_of hr) (pv 1) (pv 3) (fun _ _ => rfl)) pa_nil)))))))
      (pss_one (ps_ret (ptupleF mT (pv 2))))), ?_⟩
    refine ⟨szl 0, fun H1 po S1 n1 h1 => ⟨_, rfl, a, rfl, ⟨_, (ha.same S1).sq⟩, for_tup (K := K) (a := a) (xs := wv wd) (fun i σ H' => ∃ y3 : Option V, σ = [some (.ref a), some (.ref d), some (.ref po), y3] ∧ Same H H' ∧ H' po = some (.lst (wv (growG G (wd.take i)))))
      ⟨none, rfl, S1, h1⟩ (fun i σ H' _ ⟨_, _, s, _⟩ => (ha.same s).sq) ?_ ?_⟩⟩
    · rintro i x σ H2 hx ⟨y3, rfl, S2, hp⟩
      obtain ⟨s, hs, rfl⟩ := wv_get hx
      have e1 : growG G (wd.take (i + 1)) = growG G (wd.take i) ++ imgG G s := by rw [take_more hs, growG_app, growG_one]
      have l1 : (growG G (wd.take (i + 1))).length ≤ 1000000 := Nat.le_trans (growG_take _ _ _) hlen
      rw [e1, List.length_append] at l1
      obtain ⟨tn, tb, ht, hk, htb⟩ := ty_sy (K := K) (H := H2) s
      refine ⟨_, rfl, s.v, tn, tb, rfl, ht, hk, tb, rfl, ?_⟩
      subst htb
      have one : isL s = false → (if (!isL s) = true then (tDrop (tBM K "list" rAppend (tVar 2) (tCons (tVar 3) tNil)) { nx := fun σ' H' => ∃ y3 : Option V, σ' = [some (.ref a), some (.ref d), some (.ref po), y3] ∧ Same H H' ∧ H' po = some (.lst (wv (growG G (wd.take (i + 1))))), rt := Q, bk := fun σ' H' => False, ct := fun _ _ => False } [some (.ref a), some (.ref d), some (.ref po), some s.v] H2 : Prop) else True) := fun _ => by
        by_cases z : (!isL s) = true
        · rw [if_pos z]
          refine ⟨_, rfl, .inl ⟨rfl, _, SqL.of hp⟩, _, rfl, po, _, _, rfl, rfl, hp, ?_, some s.v, rfl, sPut S2 n1, ?_⟩
          · rw [List.length_map, sizeLine_eq]; omega
          · have ei : imgG G s = [s] := by
              cases s <;> first
                | rfl
                | cases z
            rw [upd_same, e1, ei]
            simp only [wv, List.map_append, List.map_cons, List.map_nil]
        · rw [if_neg z]; trivial
      cases s with
      | l j =>
        obtain ⟨b, hb1, hb2⟩ := hG j (List.mem_of_getElem? hs)
        refine iteF ⟨_, rfl, .inl ⟨rfl, _, SqL.of hp⟩, _, rfl, _, rfl, d, .ref b, rfl, by rw [← hb1]; exact DGet.k (k := Sum.inl (j : Int)) (S2 _ _ hd), po, b, _, G j, rfl, rfl, hp, hb2.same S2, ?_, some (Sy.v (.l j)), rfl, sPut S2 n1, ?_⟩
        · have l2 : (imgG G (.l j)).length = (G j).length := rfl
          rw [List.length_map, sizeLine_eq]; omega
        · rw [upd_same, e1]
          show some (HO.lst (wv (growG G (wd.take i)) ++ wv (G j))) = some (HO.lst (wv (growG G (wd.take i) ++ G j)))
          simp only [wv, List.map_append]
      | p => exact one rfl
      | m => exact one rfl
      | o => exact one rfl
      | c => exact one rfl
    · rintro σ H2 ⟨y3, rfl, S2, hp⟩
      rw [List.length_map, List.take_length] at hp
      exact ⟨_, rfl, po, _, rfl, SqL.of hp, NewW.of (fun H3 p3 S3 n3 h3 => q H3 p3 (S2.trans S3) (S2.free n3) h3) rfl⟩
end
end SK
namespace SK
open PySem PySem.Spec PyProof.Rows L2
def spWordAt : Sp := fun vs H Q _ => ∃ (b : Addr) (n : Nat) (ws : List (List Sy)) (st : List Sy), vs = [.ref b, .int n] ∧ BookAt H b ws st ∧ GoodBook ws st ∧ n ≤ 1000 ∧ (grown ws st n).length ≤ 60000 ∧ NewW (grown ws st n) H Q
/-- a table of letters' words -/
def Tab (H : Hp) (kvs : List (Key × V)) (ls : List Nat) (G : Nat → List Sy) : Prop := ∀ k ∈ ls, ∃ b, valV kvs (.inl (k : Int)) = some (.ref b) ∧ WdAt H b (G k)
theorem Tab.put {H H' : Hp} {kvs : List (Key × V)} {ls : List Nat} {G : Nat → List Sy} {k : Nat} {b : Addr} (t : Tab H kvs ls G) (s : TupS H H') (h : WdAt H' b (G k)) : Tab H' (putK kvs (.inl (k : Int)) (.ref b)) (ls ++ [k]) G := by
  intro j hj
  rw [valV_put]
  by_cases e : j = k
  · subst e
    exact ⟨b, by rw [if_pos rfl], h⟩
  · have hj' : j ∈ ls := by
      rcases List.mem_append.mp hj with h | h
      · exact h
      · exact absurd (List.mem_singleton.mp h) e
    obtain ⟨c, h1, h2⟩ := t j hj'
    refine ⟨c, ?_, s.wd h2⟩
    rw [if_neg (fun z => e (by injection z with z; omega))]
    exact h1
section
variable {P : Program} {w : World} {K : PySem.W.Frag} {mg : Str → Option Value} {base : Heap}
theorem ok_wordat {f : Addr} {fd : FuncData} {k : Nat} (F : Fun K "word_at" "word_at" s_word_at f fd) (GB : GotD P w K mg base "check_book_and_age" k ["book", "age", "most"] [.int 1000] spCheckBA)
    (GS : Got P w K mg base "check_size" k ["words", "start", "age"] spSize) (GR : Got P w K mg base "letters_by_age" k ["words", "start", "age"] spRows) (GP : Got P w K mg base "replace_letters" k ["word", "grown"] spReplace) (mV : mg "reversed" = none) :
    FnOk P w K mg base CX0 (k + 1) f fd ["book", "age"] spWordAt := by
  refine F.ok sc_word_at (fun vs H Q E h => ?_) (fun cdv A outer s H vs Q E hr h => ?_)
  · obtain ⟨b, n, ws, st, rfl, _⟩ := h
    rfl
  · obtain ⟨b, n, ws, st, rfl, hb, hg, hn, hlen, q⟩ := h
    have nd := sc_word_at.nd
    refine ⟨_, pss_cons (ps_expr (pcallD GB hr (pa_cons (pv 0) (pa_cons (pv 1) pa_nil))))
      (pss_cons (ps_asg (pv 0) (pg_tup (by rfl) (pgs_cons (pg_name (i := 2) nd rfl (.inr rfl)) (pgs_cons (pg_name (i := 3) nd rfl (.inl rfl)) pgs_nil))))
      (pss_cons (ps_expr (pcall GS hr (pa_cons (pv 2) (pa_cons (pv 3) (pa_cons (pv 1) pa_nil)))))
      (pss_cons (ps_set (i := 4) nd rfl (.inl rfl) (pcall GR hr (pa_cons (pv 2) (pa_cons (pv 3) (pa_cons (pv 1) pa_nil)))))
      (pss_cons (ps_set (i := 5) nd rfl (.inr rfl) (pe_dc (own := [("letter", 7)]) (g := gName 7) (tt := tYes) (tk := tVar 7) (tv := tTupF (tCons (tVar 7) tNil)) rfl nd (pi_list (pix (pv 4) (pv 1))) (blkOk_by (N := n_word_at) (sc := defScope s_word_at) (by decide +kernel))
          (fun _ _ _ _ _ => pg_name (i := 7) nd rfl (Or.inl rfl)) (fun _ _ _ _ _ => pts_nil) (fun _ _ _ _ _ => pv 7) (fun _ _ _ _ _ => ptupF (pa_cons (pv 7) pa_nil))))
      (pss_cons (ps_for PassesOwn.never rfl (pi_reversed rfl mV (pa_cons (pe_slice sl_listN (pv 4) po_none (po_some (pv 1))) pa_nil)) (pg_name (i := 6) nd rfl (.inl rfl))
        (pss_one (ps_set (i := 5) nd rfl (.inr rfl) (pe_dc (own := [("letter", 7)]) (g := gName 7) (tt := tYes) (tk := tVar 7) (tv := tCall spReplace [] E0 (tCons (tOp (rIxT K) (tVar 2) (tVar 7)) (tCons (tVar 5) tNil))) rfl nd (pi_list (pv 6)) (blkOk_by (N := n_word_at) (sc := defScope s_word_at) (by decide +kernel))
          (fun _ _ _ _ _ => pg_name (i := 7) nd rfl (Or.inl rfl)) (fun _ _ _ _ _ => pts_nil) (fun _ _ _ _ _ => pv 7) (fun _ _ _ _ _ => pcall GP hr (pa_cons (pixT (pv 2) (pv 7)) (pa_cons (pv 5) pa_nil)))))))
      (pss_one (ps_ret (pcall GP hr (pa_cons (pv 3) (pa_cons (pv 5) pa_nil)))))))))), ?_⟩
    obtain ⟨p, pq, as, h1, h2, h3, h4⟩ := id hb
    refine ⟨_, rfl, _, rfl, b, n, 1000, ws, st, rfl, hb, hg, hn, fun H1 S1 => ?_⟩
    refine ⟨_, rfl, b, _, rfl, SqT.of (S1 _ _ h1), rfl, _, _, rfl, _, _, rfl, rfl, ?_⟩
    refine ⟨_, rfl, _, rfl, _, rfl, p, pq, n, as, ws, st, rfl, S1 _ _ h2, h4.keep (.of S1), h3.same S1, hg, hn, hlen, fun H2 S2 => ?_⟩
    have S02 := S1.trans S2
    refine ⟨_, rfl, _, rfl, _, rfl, p, pq, n, as, ws, st, rfl, S02 _ _ h2, h4.keep (.of S02), h3.same S02, hg, hn, fun H3 ro rs L S3 n3 hro hP hL => ?_⟩
    have S03 := S02.trans S3
    have lrs := hP.length
    have lL := hL.len
    -- the rows' lists
    have row : ∀ m, m ≤ n → ∃ a, rs[m]? = some a ∧ H3 a = some (.lst (iV (L.getD m []))) := fun m hm => by
      have hLm : L[m]? = some L[m] := List.getElem?_eq_getElem (by omega)
      obtain ⟨a, ha, hat⟩ := paired_get hP hLm
      exact ⟨a, ha, by rw [List.getD_eq_getElem?_getD, hLm]; exact hat⟩
    have few : ∀ m, m ≤ n → (∀ j ∈ L.getD m [], j < ws.length) ∧ (L.getD m []).length ≤ 8 := fun m hm => by
      have hLm : L[m]? = some L[m] := List.getElem?_eq_getElem (by omega)
      rw [List.getD_eq_getElem?_getD, hLm]
      exact hL.few _ (List.getElem_mem _)
    -- no piece is longer than the whole
    have piece : ∀ i m j, m + i = n → j ∈ L.getD m [] → (gI ws i j).length ≤ 60000 := fun i m j e hj => by
      have h := growG_mem (G := gI ws i) (hL.there m (by omega) j hj)
      rw [growG_grown, e] at h
      exact Nat.le_trans h hlen
    obtain ⟨an, han, hatn⟩ := row n (Nat.le_refl _)
    refine ⟨_, rfl, _, rfl, ro, _, _, .ref an, rfl, rfl, SqL.of hro, atI_nat (by rw [List.getElem?_map, han]; rfl), an, rfl, ⟨_, SqL.of hatn⟩, fun D nD => ?_⟩
    have fn := few n (Nat.le_refl _)
    refine walk_by (walk_list (K := K) (a := an) (xs := iV (L.getD n []))) (fun i H' => ∃ kvs, Same H3 H' ∧ H' D = some (.dK kvs) ∧ kvs.length ≤ i ∧ Tab H' kvs ((L.getD n []).take i) (gI ws 0)) ⟨[], same_upd nD, upd_same, Nat.le_refl _, fun k hk => by simp at hk⟩ (fun i H' ⟨_, s, _⟩ => s.seq (SqL.of hatn)) ?_ ?_
    · rintro i x H4 H5 hi ⟨kvs, S4, hD, hl, ht⟩ ⟨rfl, hx⟩
      obtain ⟨j, hj, rfl⟩ := iV_get hx
      have hi8 : i < 8 := by
        have := (List.getElem?_eq_some_iff.mp hj).1
        omega
      refine ⟨rfl, _, rfl, _, rfl, szl 1, NewW.of (fun H6 t S6 n6 h6 => ⟨kvs, Sum.inl (j : Int), rfl, S6 _ _ hD, ?_, putK kvs (Sum.inl (j : Int)) (.ref t), sPut (S4.trans S6) nD, upd_same, ?_, ?_⟩) (w := [.l j]) rfl⟩
      · rw [sizeLine_eq]; omega
      · have := length_putK kvs (Sum.inl (j : Int)) (.ref t); omega
      · rw [take_more hj]
        have sT : TupS H6 (upd H6 D (.dK (putK kvs (Sum.inl (j : Int)) (.ref t)))) := TupS.dict (S6 _ _ hD)
        exact Tab.put ht ((TupS.of S6).trans sT) (sT.wd h6)
    · rintro H4 ⟨kvs, S4, hD, hl, ht⟩
      have lz : (iV (L.getD n [])).length = (L.getD n []).length := by unfold iV; rw [List.length_map]
      rw [lz, List.take_length] at ht
      -- the ages back to the first
      have hro4 := S4 _ _ hro
      refine ⟨_, rfl, _, rfl, (n : Int), rfl, ro, _, rfl, SqL.of hro4, fun H5 c S5 n5 h5 => ?_⟩
      rw [cut_to, ← List.map_take] at h5
      have S35 := S4.trans S5
      have lc : ((rs.take n).map V.ref).length = n := by rw [List.length_map, List.length_take]; omega
      refine ⟨c, _, rfl, SqL.of h5, ?_⟩
      refine for_it (walk_rev (K := K) (a := c) (xs := (rs.take n).map V.ref)) (fun i σ H' => ∃ (d : Addr) (kvs : List (Key × V)) (y6 y7 : Option V), σ = [some (.ref b), some (.int n), some (.ref p), some (.ref pq), some (.ref ro), some (.ref d), y6, y7] ∧ Same H5 H' ∧ H' d = some (.dK kvs) ∧ Tab H' kvs (L.getD (n - i) []) (gI ws i))
        ⟨D, kvs, _, _, rfl, Same.refl _, S5 _ _ hD, fun k hk => by obtain ⟨bb, g1, g2⟩ := ht k hk; exact ⟨bb, g1, g2.same S5⟩⟩ (fun i σ H' _ ⟨_, _, _, _, _, s, _⟩ => SqL.of (s _ _ h5)) ?_ ?_
      · rintro i x σ H6 H7 hi ⟨d, kvs, y6, y7, rfl, S6, hd, ht⟩ ⟨rfl, hx⟩
        rw [lc] at hi hx
        obtain ⟨m, hm⟩ : ∃ m, m = n - 1 - i := ⟨_, rfl⟩
        obtain ⟨am, ham, hatm⟩ := row m (by omega)
        have ex : x = V.ref am := by
          rw [← hm, List.getElem?_map, List.getElem?_take, if_pos (by omega), ham] at hx
          exact (Option.some.inj hx).symm
        subst ex
        have fm := few m (by omega)
        have S36 := S35.trans S6
        have S06 := S03.trans S36
        have enm : n - i = m + 1 := by omega
        refine ⟨_, rfl, am, rfl, ⟨_, SqL.of (S36 _ _ hatm)⟩, fun D2 nD2 => ?_⟩
        refine walk_by (walk_list (K := K) (a := am) (xs := iV (L.getD m []))) (fun t H' => ∃ kvs2, Same H7 H' ∧ H' D2 = some (.dK kvs2) ∧ kvs2.length ≤ t ∧ Tab H' kvs2 ((L.getD m []).take t) (gI ws (i + 1))) ⟨[], same_upd nD2, upd_same, Nat.le_refl _, fun k hk => by simp at hk⟩ (fun t H' ⟨_, s, _⟩ => s.seq (SqL.of (S36 _ _ hatm))) ?_ ?_
        · rintro t x H8 H9 htl ⟨kvs2, S8, hD2, hl2, ht2⟩ ⟨rfl, hx⟩
          obtain ⟨j, hj, rfl⟩ := iV_get hx
          have hjm := List.mem_of_getElem? hj
          have hjw := fm.1 j hjm
          have ht8 : t < 8 := by
            have := (List.getElem?_eq_some_iff.mp hj).1
            omega
          obtain ⟨wa, hwa, hwt⟩ := paired_get h4 (List.getElem?_eq_getElem hjw)
          have ed : ws.getD j [] = ws[j] := by rw [List.getD_eq_getElem?_getD, List.getElem?_eq_getElem hjw]; rfl
          rw [← ed] at hwt
          have S08 := S06.trans S8
          have len1 := piece (i + 1) m j (by omega) hjm
          refine ⟨rfl, _, rfl, _, rfl, _, rfl, p, _, _, .ref wa, rfl, rfl, SqT.of (S08 _ _ h2), atI_nat (by rw [List.getElem?_map, hwa]; rfl), _, rfl, wa, d, ws.getD j [], kvs, gI ws i, rfl, hwt.same S08, S8 _ _ hd, fun k hk => ?_, ?_, fun Ha t2 Sa na ha => ⟨kvs2, Sum.inl (j : Int), rfl, Sa _ _ hD2, ?_, putK kvs2 (Sum.inl (j : Int)) (.ref t2), sPut (S8.trans Sa) nD2, upd_same, ?_, ?_⟩⟩
          · have hk2 := hL.next m (by omega) j hjm k hk
            rw [← enm] at hk2
            obtain ⟨bb, g1, g2⟩ := ht k hk2
            exact ⟨bb, g1, g2.same S8⟩
          · have len2 : (growG (gI ws i) (ws.getD j [])).length ≤ 60000 := len1
            omega
          · rw [sizeLine_eq]; omega
          · have := length_putK kvs2 (Sum.inl (j : Int)) (.ref t2); omega
          · rw [take_more hj]
            have sT : TupS Ha (upd Ha D2 (.dK (putK kvs2 (Sum.inl (j : Int)) (.ref t2)))) := TupS.dict (Sa _ _ hD2)
            exact Tab.put ht2 ((TupS.of Sa).trans sT) (sT.wd ha)
        · rintro H8 ⟨kvs2, S8, hD2, hl2, ht2⟩
          have lz : (iV (L.getD m [])).length = (L.getD m []).length := by unfold iV; rw [List.length_map]
          rw [lz, List.take_length] at ht2
          refine ⟨D2, kvs2, _, _, rfl, S6.trans S8, hD2, ?_⟩
          have e2 : n - (i + 1) = m := by omega
          rw [e2]
          exact ht2
      · rintro σ H6 ⟨d, kvs, y6, y7, rfl, S6, hd, ht⟩
        rw [lc, Nat.sub_self] at ht
        have S06 := S03.trans (S35.trans S6)
        have eg : growG (gI ws n) st = grown ws st n := by
          have := growG_grown ws st n 0
          rw [Nat.zero_add] at this
          exact this
        refine ⟨_, rfl, _, rfl, pq, d, st, kvs, gI ws n, rfl, h3.same S06, hd, fun k hk => ht k (hL.first k hk), by rw [eg]; omega, ?_⟩
        rw [eg]
        exact fun H7 p7 S7 n7 h7 => q H7 p7 (S06.trans S7) (S06.free n7) h7
end
end SK
/-! t[::-1] of a tuple -/
namespace SK
open PySem PySem.Spec PyProof.Rows L2
theorem adj_rev (n : Nat) : Builtin.Slice.sliceAdjust none none (-1) (n : Int) = ((n : Int) - 1, -1) := by
  unfold Builtin.Slice.sliceAdjust
  simp
theorem plc_rev (n : Nat) : Builtin.Slice.slicePlaces ((n : Int) - 1) (-1) (-1) = n := by
  unfold Builtin.Slice.slicePlaces
  have h : ¬ ((-1 : Int) > 0) := by decide
  rw [if_neg h]
  by_cases z : (n : Int) - 1 > -1
  · rw [if_pos z, show (- -1 : Int) = 1 by decide, Int.ediv_one]; omega
  · rw [if_neg z]; omega
theorem pick_rev (xs : Array Value) : ((List.range xs.size).filterMap fun (k : Nat) => xs[(((xs.size : Nat) : Int) - 1 + (k : Int) * (-1)).toNat]?).toArray = xs.toList.reverse.toArray := by
  congr 1
  have e : (fun (k : Nat) => xs[(((xs.size : Nat) : Int) - 1 + (k : Int) * (-1)).toNat]?) = (fun k => xs[xs.size - 1 - k]?) := by
    funext k
    congr 1
    omega
  rw [e]
  apply List.ext_getElem?
  intro i
  have key : ∀ m, (List.range m).filterMap (fun k => xs[xs.size - 1 - k]?) = (xs.toList.reverse.take m) ∨ xs.size < m := by
    intro m
    induction m with
    | zero => left; rfl
    | succ m ih =>
      by_cases z : xs.size < m + 1
      · exact .inr z
      · left
        have ih := ih.resolve_right (by omega)
        rw [List.range_succ, List.filterMap_append, ih]
        have hm : m < xs.toList.reverse.length := by rw [List.length_reverse, Array.length_toList]; omega
        rw [List.take_succ_eq_append_getElem hm]
        congr 1
        have : xs[xs.size - 1 - m]? = some (xs.toList.reverse[m]) := by
          rw [List.getElem_reverse, Array.getElem?_eq_getElem (by omega)]
          simp [Array.length_toList]
        simp [this]
  rw [(key xs.size).resolve_right (by omega), List.take_of_length_le (by rw [List.length_reverse, Array.length_toList]; exact Nat.le_refl _)]
section
variable {prog : Program} {w : World} {A : Around} {E : Value → Shared → Prop} {s : Shared}
theorem sliceApplied_rev {sl : Addr} {vl vu vs : Value} {n : Nat} {Q : Int × Int × Nat → Shared → Prop} (hs : s.heap.IsSliceOf sl vl vu vs) (pl : IsPart vl none) (pu : IsPart vu none) (pk : IsPart vs (some (-1)))
    (h : Q ((n : Int) - 1, -1, n) s) : wpAny (model prog w) A (Builtin.Slice.sliceApplied (.ref sl) (pure (n : Int))) Q E s := by
  obtain ⟨os, hos, hcs, hds⟩ := id hs
  unfold Builtin.Slice.sliceApplied Builtin.Slice.sliceFields
  refine wpAny_bind (wpAny_bind (wpAny_field hos hds (x := vl) rfl (wpAny_bind (wpAny_field hos hds (x := vu) rfl (wpAny_bind (wpAny_field hos hds (x := vs) rfl (wpAny_pure ?_)))))))
  refine wpAny_bind (HT.slicePart_ pk ?_)
  show wpAny _ _ (if ((-1 : Int) == 0) = true then _ else _) _ _ s
  rw [if_neg (by decide)]
  refine wpAny_bind (HT.slicePart_ pl (wpAny_bind (HT.slicePart_ pu (wpAny_bind (wpAny_pure ?_)))))
  show wpAny _ _ (match Builtin.Slice.sliceAdjust none none (-1) (n : Int) with | (lo, hi) => pure (lo, (-1 : Int), Builtin.Slice.slicePlaces lo hi (-1))) _ _ s
  rw [adj_rev n]
  show wpAny _ _ (pure ((n : Int) - 1, (-1 : Int), Builtin.Slice.slicePlaces ((n : Int) - 1) (-1) (-1))) _ _ s
  rw [plc_rev]
  exact wpAny_pure h
theorem getItem_tuple_rev {t sl : Addr} {items : Array Value} {vl vu vs : Value} {Q : Value → Shared → Prop} (ht : IsTup s.heap t items) (hs : s.heap.IsSliceOf sl vl vu vs) (pl : IsPart vl none) (pu : IsPart vu none) (pk : IsPart vs (some (-1)))
    (h : Q (.ref s.heap.objs.size) { s with heap := s.heap.push { cls := .type "tuple", data := .seq items.toList.reverse.toArray } })
    (hsz : items.size ≤ sizeLine) : wpAny (model prog w) A (getItem (.ref t) (.ref sl)) Q E s := by
  have htake : sizeOk (.seq items.toList.reverse.toArray) := by
    show items.toList.reverse.toArray.size ≤ sizeLine
    rw [List.size_toArray, List.length_reverse, Array.length_toList]
    exact hsz
  obtain ⟨os, hos, hcs, hds⟩ := id hs
  have hTs : s.TypeIs (.ref sl) "slice" := ⟨os, hos, hcs⟩
  unfold getItem
  try with_reducible refine wpAny_holding ?_
  first | refine wpAny_bind (wpAny_pure ?_) | skip
  refine wpAny_bind (wpAny_sequenceKey ht.typeIs (by decide) ?_)
  refine wpAny_bind (wpAny_callSpecial?_slot (name := Str.ofString "__getitem__") ht.typeIs PyProof.Rows.slot_tuple_getitem
    (wpAny_call_entry PyProof.Rows.slot_tuple_getitem ht.typeIs entry_tuple_getitem ?_ (args_tuple_getitem _ _)))
  show wpAny _ _ (Builtin.Tuple.tupleItemsOf (.ref t) >>= _) _ _ s
  refine wpAny_bind (tupleItemsOf_ ht ?_)
  refine wpAny_bind (wpAny_typeOf hTs ?_)
  rw [if_pos (by decide)]
  refine wpAny_bind (sliceApplied_rev hs pl pu pk ?_)
  have hno : ¬ ((((items.size : Nat) : Int) - 1 == 0 && (-1 : Int) == 1 && items.size == items.size) = true) := by
    rw [show ((-1 : Int) == 1) = false by decide, Bool.and_false, Bool.false_and]
    exact Bool.false_ne_true
  show wpAny _ _ (if (((items.size : Nat) : Int) - 1 == 0 && (-1 : Int) == 1 && items.size == items.size) = true then _ else _) _ _ s
  rw [if_neg hno, pick_rev]
  first
    | exact wpAny_bind (m := Builtin.Tuple.tupleExact _) (wpAny_newObj_type (wpAny_pure ⟨_, rfl, wpAny_pure h⟩) htake)
    | exact wpAny_bind (m := Builtin.Tuple.tupleExact _) (wpAny_newObj_type (wpAny_bind (wpAny_pure (wpAny_pure ⟨_, rfl, wpAny_pure h⟩))) htake)
    | exact wpAny_bind (wpAny_bind (m := Builtin.Tuple.tupleExact _) (wpAny_newObj_type (wpAny_pure (wpAny_pure ⟨_, rfl, wpAny_pure h⟩)) htake))
    | exact wpAny_bind (wpAny_bind (m := Builtin.Tuple.tupleExact _) (wpAny_newObj_type (wpAny_pure ⟨_, rfl, wpAny_pure h⟩) htake))
end
end SK
/-! a dict of the module with text keys, asked by get with any flat key -/
namespace SK
open PySem PySem.Spec PyProof.Rows L2
structure WDict (K : PySem.W.Frag) (w : World) (d : Addr) (kvs : List (Str × V)) : Prop where
  ex : ∃ (es : Array DictEntry) (n : Nat), K.lookup d = some ⟨.type "dict", none, .dict es n, #[]⟩ ∧ PySem.W.KeysLit w.params es.toList ∧ Paired (fun (e : DictEntry) (p : Str × V) => (∃ t, e.key = .str p.1 t) ∧ RelV p.2 e.val) es.toList kvs
  low : (d == sysModules) = false
theorem relO_find {P : World} {es : List DictEntry} {kvs : List (Str × V)} (h : Paired (fun (e : DictEntry) (p : Str × V) => (∃ t, e.key = .str p.1 t) ∧ RelV p.2 e.val) es kvs) (k : Key) :
    RelO (valV (kvs.map fun p => ((Sum.inr p.1 : Key), p.2)) k) ((es.find? fun e => keyIs k e.key).map (·.val)) := by
  induction h with
  | nil => trivial
  | @cons e p es kvs h t ih =>
    obtain ⟨⟨tk, hk⟩, hr⟩ := h
    have e1 : keyIs k e.key = decide (Sum.inr p.1 = k) := by
      rw [hk]
      cases k with
      | inl i => rw [decide_eq_false (fun z => nomatch z)]; rfl
      | inr x =>
        by_cases z : p.1 = x
        · subst z
          rw [decide_eq_true rfl]
          show keyIs (Sum.inr p.1) (.str p.1 tk) = true
          simp [keyIs, Value.isStr, Value.isStrOf]
        · rw [decide_eq_false (fun q => z (Sum.inr.inj q))]
          have z' : ¬ x = p.1 := fun q => z q.symm
          simp [keyIs, Value.isStr, Value.isStrOf, z, z']
    rw [List.map_cons]
    unfold valV at ih ⊢
    rw [List.find?_cons, List.find?_cons, e1]
    by_cases z : Sum.inr p.1 = k
    · rw [decide_eq_true z]
      simp only [z]
      first
        | exact hr
        | (simp; exact hr)
    · rw [decide_eq_false z]
      simp only [z]
      first
        | exact ih
        | (simp; exact ih)
section
variable {X : Cx} {d : Addr} {kvs : List (Str × V)}
theorem WDict.map {h : Heap} (D : WDict X.K X.w d kvs) (hk : X.K.In h) : ∃ f, h.MapOf (mixKind X.prog X.w) d f ∧ ∀ k, RelO (valV (kvs.map fun p => ((Sum.inr p.1 : Key), p.2)) k) (f k) := by
  obtain ⟨es, n, hl, hkl, hp⟩ := D.ex
  refine ⟨fun k => findBy keyIs es k, ⟨_, es, n, hk _ _ hl, ⟨rfl, rfl, rfl⟩, rfl, fun e he => ?_, fun _ => rfl⟩, fun k => ?_⟩
  · obtain ⟨x, t, e1, e2⟩ := hkl.all e (Array.mem_toList_iff.mpr he)
    refine ⟨Sum.inr x, ?_, e2⟩
    rw [e1]
    show keyIs (Sum.inr x) (.str x t) = true
    simp [keyIs, Value.isStr, Value.isStrOf]
  · have := relO_find (P := X.w) hp k
    obtain ⟨l⟩ := es
    simpa [findBy] using this
def tWGet2 (d : Addr) (kvs : List (Str × V)) (td ty tx : TE) : TE := fun σ H Q => td σ H fun x H1 => x = .ref d ∧ ty σ H1 fun y H2 => tx σ H2 fun z H3 => ∃ k : Key, y = kV k ∧ Q ((valV (kvs.map fun p => ((Sum.inr p.1 : Key), p.2)) k).getD z) H3
theorem RelO.getD {o : Option V} {u : Option Value} {z : V} {r : Value} (h : RelO o u) (rz : RelV z r) : RelV (o.getD z) (u.getD r) := by
  cases o with
  | none => cases u with
    | none => exact rz
    | some u => exact False.elim h
  | some v => cases u with
    | none => exact False.elim h
    | some u => exact h
theorem pe_wget2 {o e f : Expr} {td ty tx : TE} {apos cpos : Pos} (D : WDict X.K X.w d kvs) (ho : PE X o td) (he : PE X e ty) (hf : PE X f tx) (m : M2 X o "get" apos e f cpos) : PE X (.Call (.Attribute o "get" apos) [e, f] [] cpos) (tWGet2 d kvs td ty tx) := by
  refine ⟨fun pins s σ H Q I h => ?_⟩
  refine wpAny_Call_method m.base m.few m.line PySem.F.plainAttrs_dict PySem.F.slot_dict_get PySem.F.type_dict_get (thn (ho.run pins s σ H _ I h) fun u s1 ⟨x, H1, I1, rx, ex, q1⟩ => ?_)
  subst ex
  obtain rfl : u = Value.ref d := rx
  obtain ⟨fm, mo, hr⟩ := D.map I1.kIn
  obtain ⟨es, n, hl, _, _⟩ := D.ex
  refine ⟨mo.typeIs, fun b q => ?_, ?_⟩
  · cases q
    exact ⟨_, I1.kIn _ _ hl, rfl⟩
  rw [m.trees]
  refine Calls.callWith_builtin rfl (Calls.evalArgs_plain (Calls.spliced_cons (thn (he.run pins s1 σ H1 _ I1 q1) fun iv s2 ⟨y, H2, I2, ry, q2⟩ =>
    Calls.spliced_cons (thn (hf.run pins s2 σ H2 _ I2 q2) fun fv s3 ⟨z, H3, I3, rz, k, ey, q3⟩ => Calls.spliced_nil ?_))))
  subst ey
  obtain ⟨fm3, mo3, hr3⟩ := D.map I3.kIn
  exact call_meetsIn PySem.F.slot_dict_get mo3.typeIs PySem.F.entry_dict_get (PySem.F.args_dict_get_3 _ _ _) (meets_dict_get_default (mixKind X.prog X.w) d (kV_is ry) D.low fv) ⟨_, mo3, _, H3, I3.tok _, (hr3 k).getD rz, q3⟩
end
end SK
/-! an error of the program's own whose making begins with super: its making, its field -/
namespace SK
open PySem PySem.Spec PyProof.Rows L2
open PySem.W PySem.Calls PySem.HandSPX
/-- what is written of the class and of its __init__ -/
structure TmTxt (P : Program) (K : Frag) (mg : Str → Option Value) (C fI : Addr) : Prop where
  gC : mg "TooMany" = some (.ref C)
  gS : mg "super" = none
  cls : ∃ nm q N bs bm sn sub ab col dd k0 k1 k2 k3 k5, K.lookup C = some (excClassObj nm q C N bs bm true sn sub ab col dd k0 k1 k2 k3 k5 "ValueError.__new__") ∧ refsVE bm = true
  sa : findIn K (.ref C) "__setattr__" = some (some (.builtin "object.__setattr__"))
  ga : findIn K (.ref C) "__getattribute__" = some (some (.builtin "BaseException.__getattribute__"))
  gg : findIn K (.ref C) "__getattr__" = some none
  noN : findIn K (.ref C) "most" = some none
  iC : findIn K (.ref C) "__init__" = some (some (.ref fI))
  tC : typeIn K (.ref fI) = some (.type "function")
  kC : keepIn K (.ref C) = true
  exC : subIn K (.ref C) (.type "BaseException") = some true
  veC : subIn K (.ref C) (.type "ValueError") = some true
  tyC : typeIn K (.ref C) = some (.type "type")
  hdC : hasDictIn K C = true
  sup : ks_superIn K C C "__init__" = some (some (.builtin "ValueError.__init__"))
  own : mroIn K C (.ref C) = some true
  opq : nsIn K cStatics "thirdparty.any" = some none
  top : (P.main.scope.names.lookup ("super" : Str)).isSome = false
  fn : ∃ (oc : Value) (od : Option Addr) (doc pm : Value) (an : Option Addr) (cda : Addr) (ct : Value) (cc : Addr) (osl : Array (Option Value)),
    K.lookup fI = some ⟨oc, od, .func (ksFn "__init__" "TooMany.__init__" (defArgs s_TooMany_init) (defBody s_TooMany_init) (defScope s_TooMany_init) .none .none doc pm an (.ref cda) ct cc), osl⟩ ∧ codeIn K (.ref cda) "TooMany.__init__" = true ∧
    (∃ ccl cdd vs ccs file tf, K.lookup cda = some ⟨ccl, cdd, .fields vs, ccs⟩ ∧ vs[2]? = some (.str file tf) ∧ ((P.main.file : Str) == file) = true) ∧ ∃ cl cld csl, K.lookup cc = some ⟨cl, cld, .cell (some (.ref C)), csl⟩
/-- what the making leaves of a fresh one at x -/
structure TmEnd (h h' : Heap) (x C dx : Addr) (v : Value) : Prop where
  keep : ∀ b o, b ≠ x → h.get? b = some o → h'.get? b = some o
  obj : ∃ t1 : Addr, h'.get? x = some { cls := .ref C, dict := some dx, data := .fields #[.ref t1, .none, .none, .none, .bool false, .none] }
  dbig : h.objs.size ≤ dx
  dne : dx ≠ x
  ns : h'.Ns1 dx (fun y => if y = "most" then some v else none)
section
variable {prog : Program} {w : World} {A : Around} {R : Result → Shared → Prop} {s : Shared} {K : Frag} {mg : Str → Option Value} {C fI : Addr}
theorem tm_cw {M : Model} {E : Value → Shared → Prop} {pos : Pos} {env : Env} {e : Expr} {rest : List Expr} {u x : Addr} {i : String} {Q : Value → Shared → Prop}
    (h : wpAny M A (spliced (backTo pos (starEach (e :: rest) env))) (fun vs s₁ => KxsAt i u x s₁.heap ∧ wpAny M A (call (.ref u) vs) Q E s₁) E s)
    (he : starEach (e :: rest) env = (false, eval e env) :: starEach rest env := by rfl) (hplain : (backTo pos (starEach rest env)).any (·.1) = false := by rfl) :
    wpAny M A (callWith pos (.ref u) [] (backTo pos (starEach (e :: rest) env)) []) Q E s := by
  rw [he] at h ⊢
  refine kxs_callWith (i := i) (x := x) (by show (false || (backTo pos (starEach rest env)).any (·.1)) = false; rw [hplain]; rfl) ?_
  exact evalArgs_plain h
theorem tm_call {E : Value → Shared → Prop} {h : Heap} {g : Array GenState} {d : PySem.Drawn} {tk : Nat} {os : OsState} {nm q : Str} {N : Addr} {bs bm : List Value} {hdct : Bool} {sn : List Str} {sub : List Value} {ab : Bool} {col : Option Bool} {dd : Option Addr} {k0 k1 k2 k3 k5 : Option Value}
    {u x t : Addr} {rest : List Value} {Q : Value → Shared → Prop} (hC : h.get? C = some (excClassObj nm q C N bs bm hdct sn sub ab col dd k0 k1 k2 k3 k5 "ValueError.__new__")) (he : h.get? x = some (excO C t)) (hu : h.get? u = some (kxs_mw "ValueError.__init__" x)) (hz : rest.length ≤ sizeLine)
    (hq : ∀ h' t', (∀ b o, b ≠ x → h.get? b = some o → h'.get? b = some o) → h'.get? x = some (excO C t') → Q .none ⟨h', g, d, tk, os⟩) :
    wpAny (model prog w) A (call (.ref u) rest) Q E ⟨h, g, d, tk, os⟩ := by
  refine wpAny_call (codeAny_of_tree ?_)
  show wpAny _ A.in1 (callAny (.ref u) ⟨rest, []⟩) _ _ _
  simp only [callAny]
  refine wpAny_bind (wpAny_load hu ?_)
  simp only [kxs_mw, show (Value.type "method-wrapper" == Value.type "method" || Value.type "method-wrapper" == Value.type "builtin_function_or_method" || Value.type "method-wrapper" == Value.type "method-wrapper") = true by decide, if_true]
  refine KFB.if_so (by decide) ?_
  refine wpAny_bind (check_bound_init PySem.F.excBase_ValueError.toExcCallFacts hC he rfl ?_)
  refine wpAny_bind (wpAny_pure (wpAny_pure ?_))
  refine ⟨plainId_quiet PySem.F.excBase_ValueError.init.plain _, codeAny_builtin PySem.F.excBase_ValueError.initEntry ?_⟩
  exact exc_init_tree (cls := .ref C) (t0 := t) (dv := none) (c2 := .none) (c3 := .none) (b4 := .bool false) he hz fun h' k e _ => hq h' _ k e
theorem tm_init (T : TmTxt prog K mg C fI) {x t0 : Addr} {i : Int} {t : Tok} (X : K.In s.heap) (hlim : s.heap.NoLimit) (hns : s.heap.Ns mainGlobals mg) (hbl : ∃ mb, s.heap.Ns builtinsNs mb ∧ ∀ x : Str, x ≠ "__name__" → mb x = bootBuiltins x)
    (hx : s.heap.get? x = some (excO C t0)) (hnx : K.lookup x = none) (hroom : A.depth < recursionLimit) (hi : i.natAbs.log2 < 1920) (hl : (Str.empty ++ (Str.ofString "more than ") ++ (toString i : Str)).length ≤ sizeLine)
    (hq : ∀ h' tk dx, TmEnd s.heap h' x C dx (.int i t) → R (.ok (.ret .none)) { s with heap := h', toks := tk }) :
    codeAny (model prog w) A (.call (.ref fI) ⟨[.ref x, .int i t], []⟩) R s := by
  obtain ⟨oc, od, doc, pm, an, cda, ct, cc, osl, ho, hcd, ⟨ccl, cdd, vs, ccs, file, tf, hcode, hvs, hfile⟩, cl, cld, csl, hcell⟩ := T.fn
  obtain ⟨nm, q, N, bs, bm, sn, sub, ab, col, dd, k0, k1, k2, k3, k5, hC, hbm⟩ := T.cls
  have hcl : clsIn K C = some { name := nm, bases := bs, mro := .ref C :: bm, ns := N, qualname := q, hasDict := true, slotNames := sn, subclasses := sub, abstract := ab, collection := col, hasDel := false } := by unfold clsIn; rw [hC] <;> rfl
  obtain ⟨hp, g, dr, tk0, os⟩ := s
  refine ks_codeAny_call_defAt (fd := ksFn "__init__" "TooMany.__init__" (defArgs s_TooMany_init) (defBody s_TooMany_init) (defScope s_TooMany_init) .none .none doc pm an (.ref cda) ct cc) (body := defBody s_TooMany_init) (binds := [("self", .ref x), ("most", .int i t)]) hroom (X _ _ ho) rfl hlim (codeRec_of X hcd) rfl
    (BindsTo.of_eq (by first | rfl | with_unfolding_all rfl)) (by show ∀ x ∈ (defScope s_TooMany_init).names, x.2 ≠ .cell; decide +kernel) (fun y hy => by
      rcases List.mem_cons.mp hy with rfl | hy
      · rfl
      · rw [List.mem_singleton.mp hy]; rfl) (fun h₁ hn k => ?_) rfl rfl rfl
  have hxL : hp.objs.size ≠ x := Nat.ne_of_gt (Heap.lt_size hx)
  have X₁ : K.In h₁ := X.keeps k
  have hx₁ := k _ _ hx
  obtain ⟨mb, hb1, hb2⟩ := hbl
  refine ks_wpAt_execs_cons (ks_wpAt_Expr_any (ks_wpAt_MethodCall ?_))
  refine ks_wpAt_super_base (f := fI) (cc := cda) rfl rfl rfl rfl (X₁ _ _ ho) rfl rfl rfl (X₁ _ _ hcode) rfl hvs hfile T.top ?_
  refine ks_loadName_global rfl rfl (loadGlobal_builtin (hns.keeps k) T.gS (hb1.keeps k) ((hb2 _ (by decide +kernel)).trans (by decide +kernel : bootBuiltins "super" = some (.type "super"))) ⟨rfl, ?_⟩)
  refine wpAny_loadName_free rfl rfl rfl ⟨_, X₁ _ _ hcell, rfl⟩ ?_
  refine wpAny_loadName_local rfl rfl hn (by first | rfl | with_unfolding_all rfl) ?_
  refine ks_wpAny_isType_cls (X₁ _ _ hC) rfl ⟨rfl, ?_⟩
  refine ks_wpAny_call_super (X₁ _ _ hC) rfl hx₁ rfl (fun c e => by cases e) (looks_mroIn X₁ T.own) (fun h₂ e2 k2 => ?_)
  have X₂ : K.In h₂ := X₁.keeps k2
  have hx₂ := k2 _ _ hx₁
  have I₂ : InstAt h₂ x (excO C t0) C none := ⟨hx₂, rfl, rfl, trivial⟩
  have hsup := T.sup
  unfold ks_superIn at hsup
  rw [hcl] at hsup
  refine kxs_getMethod kxs_ValueError e2 (looks_opaque X₂ T.opq) (l₀ := .ref C :: bm) (fun A Q E s k q => wpAny_bind ((looks_clsIn X₂ hcl) A _ E s k (wpAny_pure q))) rfl X₂ hsup (I₂.type.andThen (looks_subIn X₂ T.veC)) (ks_ne X₂ I₂ hcl) rfl ?_
  have N₃ : ∀ b o, h₂.get? b = some o → (h₂.push (kxs_mw "ValueError.__init__" x)).get? b = some o := fun b o e => Heap.get?_push_of_some _ e
  have hu₃ : (h₂.push (kxs_mw "ValueError.__init__" x)).get? h₂.objs.size = some (kxs_mw "ValueError.__init__" x) := Heap.get?_push_at rfl rfl
  have k3 : ∀ b o, hp.get? b = some o → (h₂.push (kxs_mw "ValueError.__init__" x)).get? b = some o := fun b o e => N₃ _ _ (k2 _ _ (k _ _ e))
  have kL : ∀ o, h₁.get? hp.objs.size = some o → (h₂.push (kxs_mw "ValueError.__init__" x)).get? hp.objs.size = some o := fun o e => N₃ _ _ (k2 _ _ e)
  have hn3 : (h₂.push (kxs_mw "ValueError.__init__" x)).Ns hp.objs.size (fun y => ([("self", .ref x), ("most", .int i t)] : List (Str × Value)).reverse.lookup y) := by
    obtain ⟨o, es, ep, e1, r⟩ := hn
    exact ⟨o, es, ep, kL _ e1, r⟩
  have hx₃ := N₃ _ _ hx₂
  generalize h₂.push (kxs_mw "ValueError.__init__" x) = h₃ at N₃ hu₃ k3 kL hn3 hx₃ ⊢
  show wpAny _ _ (callWith _ (.ref h₂.objs.size) [] (backTo _ (starEach [_] _)) []) _ _ _
  refine tm_cw (i := "ValueError.__init__") (x := x) (Calls.spliced_cons (wpAny_JoinedStr (pos := jp_TooMany_init) ?_))
  refine Calls.Constant_str ⟨_, _, rfl, ?_, ?_⟩
  · rw [sizeLine_eq]; decide +kernel
  refine wpAny_FormattedValue_plain (wpAny_Name (wpAny_loadName_local rfl rfl hn3 (by first | rfl | with_unfolding_all rfl) ?_) (by decide))
  refine wpAny_formatField_int hi ⟨_, _, rfl, hl, ?_⟩
  refine ⟨hl, Calls.spliced_nil ⟨hu₃, ?_⟩⟩
  refine tm_call (k3 _ _ (X _ _ hC)) hx₃ hu₃ (by show 1 ≤ sizeLine; rw [sizeLine_eq]; decide) fun h₄ t4 k4 hx₄ => ?_
  have X₄ : K.In h₄ := fun a o e => k4 a o (fun z => by rw [z, hnx] at e; cases e) (k3 _ _ (X _ _ e))
  have hn4 : h₄.Ns hp.objs.size (fun y => ([("self", .ref x), ("most", .int i t)] : List (Str × Value)).reverse.lookup y) := by
    obtain ⟨o, es, ep, e1, r⟩ := hn3
    exact ⟨o, es, ep, k4 _ _ hxL e1, r⟩
  refine wpAt_of_wpAny (wpAny_execs_cons (plainObj_wpAny_Assign_Attribute ?_))
  refine wpAny_Name (wpAny_loadName_local rfl rfl hn4 (by first | rfl | with_unfolding_all rfl) ?_) (by decide)
  refine wpAny_Name (wpAny_loadName_local rfl rfl hn4 (by first | rfl | with_unfolding_all rfl) ?_) (by decide)
  refine set_plain X₄ (ox := excO C t4) (od := none) ⟨hx₄, rfl, rfl, trivial⟩ T.sa ?_
  refine exc_osa X₄ hx₄ hcl (show refsVE (.ref C :: bm) = true from hbm) rfl T.noN (fun h₅ tk₅ dx k₅ dn dne hx₅ hn₅ => ?_)
  refine wpAny_execs_nil (hq h₅ tk₅ dx ⟨fun b o hb e => k₅ b o hb (k4 b o hb (k3 b o e)), ⟨t4, hx₅⟩, ?_, dne, hn₅⟩)
  have z := hn4.lt
  exact Nat.le_of_lt (Nat.lt_of_lt_of_le z dn)
end
end SK
namespace SK
open PySem PySem.Spec PyProof.Rows L2
open PySem.W PySem.Calls PySem.HandSPX
/-- a made one at e, its dict at d -/
structure TmMade (h h' : Heap) (e C d : Addr) (v : Value) : Prop where
  keep : ∀ b o, h.get? b = some o → h'.get? b = some o
  new : h.objs.size ≤ e
  obj : ∃ oe vs, h'.get? e = some oe ∧ oe.cls = .ref C ∧ oe.dict = some d ∧ oe.data = .fields vs ∧ vs[1]? = some .none ∧ vs[2]? = some .none
  dbig : h.objs.size ≤ d
  dne : d ≠ e
  ns : h'.Ns1 d (fun y => if y = "most" then some v else none)
section
variable {prog : Program} {w : World} {A : Around} {R : Result → Shared → Prop} {s : Shared} {K : Frag} {mg : Str → Option Value} {C fI : Addr}
theorem tm_made (T : TmTxt prog K mg C fI) {i : Int} {t : Tok} (X : K.In s.heap) (hlim : s.heap.NoLimit) (hns : s.heap.Ns mainGlobals mg) (hbl : ∃ mb, s.heap.Ns builtinsNs mb ∧ ∀ x : Str, x ≠ "__name__" → mb x = bootBuiltins x) (hroom : A.depth + 1 < recursionLimit)
    (hi : i.natAbs.log2 < 1920) (hl : (Str.empty ++ (Str.ofString "more than ") ++ (toString i : Str)).length ≤ sizeLine)
    (hq : ∀ h' tk e d, TmMade s.heap h' e C d (.int i t) → R (.ok (.ret (.ref e))) { s with heap := h', toks := tk }) : codeAny (model prog w) A (.call (.ref C) ⟨[.int i t], []⟩) R s := by
  obtain ⟨nm, q, N, bs, bm, sn, sub, ab, col, dd, k0, k1, k2, k3, k5, hC, hbm⟩ := T.cls
  obtain ⟨hp, g, dr, tk, os⟩ := s
  have k : ∀ b o, hp.get? b = some o → ((hp.push (kdv_tup [.int i t])).push (excO C hp.objs.size)).get? b = some o := fun b o e => Heap.get?_push_of_some _ (Heap.get?_push_of_some _ e)
  have hget : ((hp.push (kdv_tup [.int i t])).push (excO C hp.objs.size)).get? (hp.objs.size + 1) = some (excO C hp.objs.size) := by heap_get
  have hnx : K.lookup (hp.objs.size + 1) = none := by
    cases e : K.lookup (hp.objs.size + 1) with
    | none => rfl
    | some o => exact absurd (Nat.lt_of_succ_lt (Heap.lt_size (show hp.get? (hp.objs.size + 1) = some o from X _ _ e))) (Nat.lt_irrefl _)
  obtain ⟨mb, hb1, hb2⟩ := hbl
  refine call_own PySem.F.excBase_ValueError (fun Y => refsVE_contains Y bm hbm) (X _ _ hC) (looks_findIn X T.iC) (fun self => bind_fn X self T.tC) (by show 1 ≤ sizeLine; rw [sizeLine_eq]; decide) ?_
  refine tm_init (s := ⟨(hp.push (kdv_tup [.int i t])).push (excO C hp.objs.size), g, dr, tk, os⟩) T (X.keeps k) (hlim.keeps k) (hns.keeps k) ⟨mb, hb1.keeps k, hb2⟩ hget hnx hroom hi hl fun h' tk' dx M => ?_
  have old : ∀ b o, hp.get? b = some o → h'.get? b = some o := fun b o e => M.keep b o (Nat.ne_of_lt (Nat.lt_succ_of_lt (Heap.lt_size e))) (k b o e)
  have z : hp.objs.size + 1 + 1 ≤ dx := by
    have q := M.dbig
    first
      | exact q
      | (rw [Heap.size_push, Heap.size_push] at q; exact q)
  obtain ⟨t1, hx⟩ := M.obj
  exact ⟨rfl, hq h' tk' (hp.objs.size + 1) dx ⟨old, Nat.le_succ _, ⟨_, _, hx, rfl, rfl, rfl, rfl, rfl⟩, (by show hp.objs.size ≤ dx; omega), M.dne, M.ns⟩⟩
end
theorem relO_most {v : V} {u : Value} (r : RelV v u) (f : Str) : RelO (List.lookup f [(("most" : Str), v)]) (if f = "most" then some u else none) := by
  by_cases h : f = "most"
  · rw [if_pos h, h]
    exact (show RelO (some v) (some u) from r)
  · rw [if_neg h]
    have e : (f == ("most" : Str)) = false := by simpa using h
    have e2 : List.lookup f [(("most" : Str), v)] = none := by simp [List.lookup, e]
    rw [e2]
    trivial
section
variable {X : Cx} {C fI : Addr}
/-- TooMany(i) -/
def tMkTm (C : Addr) (ta : TA) : L2.St → Hp → XK → Prop := fun σ H Q => ta σ H fun vs H1 => ∃ i : Int, vs = [.int i] ∧ i.natAbs.log2 < 1920 ∧ (Str.empty ++ (Str.ofString "more than ") ++ (toString i : Str)).length ≤ sizeLine ∧ ∀ d, H1 d = none → Q (.ref C) (some d) (upd H1 d (.xd [(("most" : Str), .int i)]))
theorem pmk_tm {a : Expr} {ta : TA} {p pos : Pos} {k : Nat} (T : TmTxt X.prog X.K X.mg C fI) (hr : Room k X.A) (ha : PA X [a] ta) (hg : Gl X "TooMany" := by rfl)
    (he : starEach (a :: []) X.env = (false, eval a X.env) :: starEach [] X.env := by rfl) (hpl : (backTo pos (starEach [] X.env)).any (·.1) = false := by rfl) :
    PMk X (.Call (.Name "TooMany" p) [a] [] pos) (tMkTm C ta) := by
  intro pins s σ H Q I h
  refine wpAny_Call_Name_kw (ld_glob I hg T.gC ?_)
  refine PySem.W.callWith_K (h₀ := X.base) I.ok.mod.kin T.kC (thn (ha.run pos pins s σ H _ I h) fun us s1 hh => ?_) he hpl
  obtain ⟨vs, H1, I1, r1, i, ev, hi, hl, q1⟩ := hh
  subst ev
  refine ⟨I1.kIn, ?_⟩
  obtain ⟨v', rfl, rv⟩ := vals1 r1
  obtain ⟨t, rfl⟩ := id rv
  show wpAny _ _ (call (.ref C) [.int i t]) _ _ _
  have hlim := I1.nolimit
  obtain ⟨mb, hb1, hb2⟩ := I1.mod.blt
  have hns := I1.mod.glob.keeps I1.bk
  have hb1' := hb1.keeps I1.bk
  obtain ⟨hp, g, dr, tk, os⟩ := s1
  refine wpAny_call (tm_made T I1.kIn hlim hns ⟨mb, hb1', hb2⟩ (by have := hr.dp; omega) hi hl fun h' tk' e d M => ?_)
  show MkP X pins σ Q (.ref e) ⟨h', g, dr, tk', os⟩
  obtain ⟨oe, fv, hoe, hc, hd, hdat, h1, _⟩ := M.obj
  obtain ⟨G', g1, g2⟩ := restrict h' fun b => decide (b ≠ e)
  have gk : ∀ b, b ≠ e → G'.get? b = h'.get? b := fun b hb => g1 b (decide_eq_true hb)
  have ge : G'.get? e = none := g2 e (by simp)
  have old : ∀ b o, hp.get? b = some o → G'.get? b = some o := fun b o q => (gk b (Nat.ne_of_lt (Nat.lt_of_lt_of_le (Heap.lt_size q) M.new))).trans (M.keep b o q)
  have ob : ObjOk X.prog X.w (upd H1 d (.xd [(("most" : Str), .int i)])) G' d (.xd [(("most" : Str), .int i)]) := ⟨_, M.ns.at (fun o q => (gk d M.dne).trans q), fun f => relO_most rv f⟩
  have J : Inv X pins σ (upd H1 d (.xd [(("most" : Str), .int i)])) ⟨G', g, dr, tk', os⟩ := I1.laid (t' := tk') old M.dbig ob
  refine ⟨e, oe, fv, ⟨G', g, dr, tk', os⟩, _, .ref C, some d, rfl, J, fun b o q => ?_, ge, hoe, ⟨hc, hd⟩, hdat, h1, ?_, rfl, I1.bare, raises_own T.exC T.tyC, q1 d (I1.hok.fresh M.dbig)⟩
  · by_cases hb : b = e
    · rw [hb] at q
      exact absurd (show G'.get? e = some o from q) (by rw [ge]; exact fun z => nomatch z)
    · exact (gk b hb).symm.trans q
  · rw [upd_ne (Ne.symm M.dne)]
    exact I1.hok.fresh M.new
def tRaiseTm (C : Addr) (W : WX) (ta : TA) : TS := fun _ σ H => tMkTm C ta σ H fun cls d H' => W cls d σ H'
theorem ps_raiseTm {a : Expr} {ta : TA} {W : WX} {p pos pos2 : Pos} {k : Nat} (hc : X.calm = true) (T : TmTxt X.prog X.K X.mg C fI) (hr : Room k X.A) (tk : Takes X W) (ha : PA X [a] ta) (hg : Gl X "TooMany" := by rfl)
    (he : starEach (a :: []) X.env = (false, eval a X.env) :: starEach [] X.env := by rfl) (hpl : (backTo pos (starEach [] X.env)).any (·.1) = false := by rfl) :
    PS X (.Raise (some (.Call (.Name "TooMany" p) [a] [] pos)) none pos2) (tRaiseTm C W ta) := ps_raise hc tk (pmk_tm T hr ha hg he hpl)
/-- error.most, the error that the suite holds at a -/
def tMost (C : Addr) (a : Addr) (cls : Value) (d : Option Addr) (te : TE) : TE := fun σ H Q => te σ H fun x H1 => x = .ref a ∧ cls = .ref C ∧ ∃ (dd : Addr) (v : V), d = some dd ∧ H1 dd = some (.xd [(("most" : Str), v)]) ∧ Q v H1
theorem pe_most {a : Addr} {oe : Obj} {cls : Value} {d : Option Addr} {pn : List (Addr × Obj)} {e : Expr} {te : TE} {pos : Pos} (T : TmTxt X.prog X.K X.mg C fI) (hz : Zc cls d oe) (hf : ∃ vs, oe.data = .fields vs) (he : PE (X.suite a ((a, oe) :: pn)) e te)
    (hb : attributeBase e "most" X.env (eval e X.env) = eval e X.env := by rfl) : PE (X.suite a ((a, oe) :: pn)) (.Attribute e "most" pos) (tMost C a cls d te) := by
  refine ⟨fun pins s σ H Q I h => ?_⟩
  refine attr_of hb (thn (he.run pins s σ H _ I h) fun u s1 hh => ?_)
  obtain ⟨x, H1, I1, rx, ex, ec, dd, v, ed, ea, q⟩ := hh
  subst ex ec ed
  obtain rfl : u = Value.ref a := rx
  obtain ⟨ha, _⟩ := I1.pin (a, oe) (List.mem_append_left _ List.mem_cons_self)
  obtain ⟨vs, hd⟩ := hf
  obtain ⟨mA, hns, hr⟩ := (show ObjOk X.prog X.w H1 s1.heap dd (.xd [(("most" : Str), v)]) from I1.hok dd _ ea)
  obtain ⟨od, ho, hl⟩ := lookIn_ns hns
  have l : List.lookup ("most" : Str) [(("most" : Str), v)] = some v := by simp [List.lookup]
  obtain ⟨u, hu, ru⟩ := RelO.some_of (v := v) (o := mA "most") (by rw [← l]; exact hr "most")
  have J : PySem.W.InstAt s1.heap a oe C (some od) := ⟨ha, hz.1, by unfold PySem.W.notCls; rw [hd] <;> rfl, by rw [hz.2]; exact ho⟩
  exact HandSPX.exc_get I1.kIn J T.ga T.gg T.exC (PySem.W.findObj_own T.hdC T.noN rfl (by rw [hl, hu])) (handed_of ru) ⟨v, H1, I1.tok _, ru, q⟩
end
end SK
namespace SK
open PySem PySem.Spec PyProof.Rows L2
theorem wv_in_o : ∀ w : List Sy, inV (.str "[") (wv w) = decide (Sy.o ∈ w)
  | [] => rfl
  | s :: w => by
    have ih := wv_in_o w
    unfold inV at ih ⊢
    rw [show wv (s :: w) = s.v :: wv w from rfl, List.any_cons, ih]
    cases s with
    | o =>
      rw [show eqV (Sy.v .o) (.str "[") = true by decide +kernel]
      simp
    | l k => rw [show eqV (Sy.v (.l k)) (.str "[") = false from rfl]; simp
    | p => rw [show eqV (Sy.v .p) (.str "[") = false by decide +kernel]; simp
    | m => rw [show eqV (Sy.v .m) (.str "[") = false by decide +kernel]; simp
    | c => rw [show eqV (Sy.v .c) (.str "[") = false by decide +kernel]; simp
theorem wv_flat : ∀ w : List Sy, (wv w).all flatV = true
  | [] => rfl
  | s :: w => by
    rw [show wv (s :: w) = s.v :: wv w from rfl, List.all_cons, wv_flat w]
    cases s <;> rfl
end SK
namespace SK
open PySem PySem.Spec PyProof.Rows L2
/-- the way out: an error of the class at C that tells the number -/
def ErrN (C : Addr) (n : Int) (H : Hp) (E : XK) : Prop := ∀ (H' : Hp) (d : Addr), Same H H' → H d = none → H' d = some (.xd [(("most" : Str), .int n)]) → E (.ref C) (some d) H'
theorem ErrN.keep {C : Addr} {n : Int} {H H' : Hp} {E : XK} (s : Same H H') (h : ErrN C n H E) : ErrN C n H' E := fun H2 d s2 n e => h H2 d (s.trans s2) (s.free n) e
end SK
namespace SK
open PySem PySem.Spec PyProof.Rows L2
/-! name = {k: v for ..}, the name a local -/
theorem ps_setDc {X : Cx} {i : Nat} {y : Str} {py : Pos} {kx vx tg iter : Expr} {ifs : List Expr} {scope : Scope} {own : List (Str × Nat)} {pos spos : Pos} {wi : TI} {g : TG} {tt : TT} {tk tv : TE} (hc : X.calm = true) (hN : X.N.Nodup) (hy : X.N[i]? = some y) (hyl : X.env.scope.names.lookup y = some .local)
    (hsw : swapsWith (.DictComp kx vx [⟨tg, iter, ifs, 0⟩] scope pos) (some (.Name y py)) spos.line X.env = pure true) (hi : PI X tg iter wi) (ok : BlkOk X.N X.env.scope scope own)
    (hg : ∀ (s : Shared) (H : Hp) (C : Addr) (cl : List (Str × Addr)) (fp : List Addr), PG (X.blk s H scope (compEnvC scope cl C X.env) fp) tg g) (ht : ∀ (s : Shared) (H : Hp) (C : Addr) (cl : List (Str × Addr)) (fp : List Addr), PTs (X.blk s H scope (compEnvC scope cl C X.env) fp) ifs tt)
    (hk : ∀ (s : Shared) (H : Hp) (C : Addr) (cl : List (Str × Addr)) (fp : List Addr), PE (X.blk s H scope (compEnvC scope cl C X.env) fp) kx tk)
    (he : ∀ (s : Shared) (H : Hp) (C : Addr) (cl : List (Str × Addr)) (fp : List Addr), PE (X.blk s H scope (compEnvC scope cl C X.env) fp) vx tv) (hs : ∀ x, foldedSetIterable iter X.env x = pure x := by intro _; rfl) :
    PS X (.Assign [.Name y py] (.DictComp kx vx [⟨tg, iter, ifs, 0⟩] scope pos) spos) (tAsg (tDc wi g tt tk tv (own.map (·.2))) (gName i)) := by
  refine ⟨fun pins s σ H D I h => ?_⟩
  rw [exec_Assign_Name_used _ _ _ _ hsw]
  refine wpAny_bind (wpAny_standAt (wpAny_bind ?_))
  show wpAny _ X.A (do let _ ← comprehension (.DictComp kx vx [⟨tg, iter, ifs, 0⟩] scope pos) scope X.env (firstIterPos [⟨tg, iter, ifs, 0⟩] pos) newDict false (eval iter X.env) (some (assign (.Name y py) X.env))) _ _ s
  have h : tDc wi g tt tk tv (own.map (·.2)) σ H (fun x H1 => gName i x σ H1 D.nx) := h
  refine wpAny_bind (thn (dc_core (Qf := fun _ s' => SP X pins D .next s') hc hN I hi ok hg ht hk he hs h fun L C s' m H' I' q hn f => ?_) fun _ s' hq => wpAny_pure (wpAny_pure hq))
  show wpAny _ _ (assign (.Name y py) X.env (.ref L)) _ _ _
  refine wpAny_assign_Name (store_ok2 (v := V.ref L) I' hN hy (.inl hyl) rfl (fun s2 I2 ⟨a, sb, ha⟩ => ?_) (.inr hyl))
  obtain ⟨f0, f1, f2, f3, f4, f5⟩ := f
  have haC : C ≠ a := by
    rcases ha with z | z
    · rw [z]; exact f1
    · exact fun e => f4 y a z e.symm
  refine ⟨m, hn.sameBut sb haC, fun h3 sb3 => ?_⟩
  exact ⟨_, H', I2.turned (t' := s2.toks) (fun b o hb e => (sb3.2 b hb).trans e) f0 f1 f3 f4 f5, q⟩
theorem sw_trueD {kx vx : Expr} {gs : List Comprehension} {scope : Scope} {pos py : Pos} {y : Str} {l : Nat} {env : Env} (hk : env.scope.kind = .function) (hy : env.scope.names.lookup y = some .local) (hl : (py.line == pos.line) = true)
    (ha : (scope.names.any fun (n, k) => n == y && (k == .local || k == .cell)) = false) : swapsWith (.DictComp kx vx gs scope pos) (some (.Name y py)) l env = pure true := by
  have ky : env.kindOf y = some .local := hy
  have hb : env.blockKind = .function := by unfold Env.blockKind; rw [hk]; rfl
  unfold swapsWith
  simp only [hb, ky, ha, Expr.pos, hl]
  rfl
end SK
namespace SK
open PySem PySem.Spec PyProof.Rows L2
theorem ex_nox {X : Cx} {st : List Stmt} {D : Ends} {σ : L2.St} {H : Hp} (h : ∃ t, PSs X.nox st t ∧ t D σ H) : ∃ t, PSs X st t ∧ t D σ H := let ⟨t, a, b⟩ := h; ⟨t, a.nox, b⟩
/-- a tuple of the module -/
def ModT (K : PySem.W.Frag) (a : Addr) (xs : List V) : Prop := ∃ (o : Obj) (its : Array Value) (n : Nat), K.lookup a = some o ∧ o.cls = .type "tuple" ∧ o.data = .seq its n ∧ its.size ≤ sizeLine ∧ Vals xs its.toList
theorem ModT.sq {K : PySem.W.Frag} {a : Addr} {xs : List V} {H : Hp} (h : ModT K a xs) : SqT K H a xs := .inr h
/-- a new tuple of strokes -/
def NewStrs (ss : List Stk) (H : Hp) (Q : VK) : Prop := ∀ (H' : Hp) (p : Addr) (as : List Addr), Same H H' → H p = none → H' p = some (.tup (as.map V.ref)) → Strs H' as ss → Q (.ref p) H'
/-- a pen that begins there -/
def stt (p : Plc) : Pen := ⟨p.1, p.2.1, p.2.2, [], []⟩
theorem hok_stt {p : Plc} (h : 0 ≤ p.2.2 ∧ p.2.2 < 4) : HOk (stt p) := ⟨h, (fun q h => nomatch h), (fun q h => nomatch h)⟩
theorem len_step (E : Pth) (p : Pen) (s : Sy) : (pstepE E p s).out.length ≤ p.out.length + 1 ∧ (pstepE E p s).st.length ≤ p.st.length + 1 := by
  cases s with
  | l k => exact ⟨by show (p.out ++ [_]).length ≤ _; rw [List.length_append]; exact Nat.le_refl _, Nat.le_succ _⟩
  | o => exact ⟨Nat.le_succ _, by show (p.st ++ [_]).length ≤ _; rw [List.length_append]; exact Nat.le_refl _⟩
  | c =>
    have e : pstepE E p .c = match p.st.getLast? with
      | some (a, b, c) => { p with x := a, y := b, h := c, st := p.st.dropLast }
      | none => p := rfl
    rw [e]
    cases p.st.getLast? with
    | none => exact ⟨Nat.le_succ _, Nat.le_succ _⟩
    | some t => exact ⟨Nat.le_succ _, by show p.st.dropLast.length ≤ _; rw [List.length_dropLast]; omega⟩
  | p => exact ⟨Nat.le_succ _, Nat.le_succ _⟩
  | m => exact ⟨Nat.le_succ _, Nat.le_succ _⟩
theorem len_run (E : Pth) : ∀ (w : List Sy) (p : Pen), (penF E p w).out.length ≤ p.out.length + w.length ∧ (penF E p w).st.length ≤ p.st.length + w.length
  | [], p => ⟨Nat.le_refl _, Nat.le_refl _⟩
  | s :: w, p => by
    have h1 := len_run E w (pstepE E p s)
    have h2 := len_step E p s
    rw [penF_cons, List.length_cons]
    omega
theorem penF_take {E : Pth} {p : Pen} {w : List Sy} {i : Nat} {s : Sy} (h : w[i]? = some s) : penF E p (w.take (i + 1)) = pstepE E (penF E p (w.take i)) s := by rw [take_more h, penF_app]; rfl
/-- a new pair of a list of strokes and the pen's place -/
def NewLaid (p : Pen) (H : Hp) (Q : VK) : Prop := ∀ (H' : Hp) (t la e : Addr) (as : List Addr), Same H H' → H t = none → H' t = some (.tup [.ref la, .ref e]) → H la = none → H' la = some (.lst (as.map V.ref)) → Strs H' as p.out → H' e = some (.tup (plV p.pl)) → Q (.ref t) H'
/-- a table of where paths end -/
def EndsT (K : PySem.W.Frag) (H : Hp) (kvs : List (Key × V)) (E : Pth) (k : Nat) : Prop := ∃ e, valV kvs (.inl (k : Int)) = some (.ref e) ∧ SqT K H e (plV (E k))
theorem EndsT.same {K : PySem.W.Frag} {H H' : Hp} {kvs : List (Key × V)} {E : Pth} {k : Nat} (h : EndsT K H kvs E k) (s : Same H H') : EndsT K H' kvs E k := let ⟨e, a, b⟩ := h; ⟨e, a, sTup s b⟩
def spRotate : Sp := fun vs H Q _ => ∃ x y h : Int, vs = [.int x, .int y, .int h] ∧ 0 ≤ h ∧ h < 4 ∧ New (.tup [.int (rot h (x, y)).1, .int (rot h (x, y)).2]) H Q
def spLay (K : PySem.W.Frag) : Sp := fun vs H Q _ => ∃ (a d pn : Addr) (w : List Sy) (kvs : List (Key × V)) (E : Pth) (p : Plc), vs = [.ref a, .ref d, .ref pn] ∧ WdAt H a w ∧ H d = some (.dK kvs) ∧ (∀ k, Sy.l k ∈ w → EndsT K H kvs E k) ∧ SqT K H pn (plV p) ∧
  0 ≤ p.2.2 ∧ p.2.2 < 4 ∧ nest w 0 ≠ none ∧ w.length ≤ 1000000 ∧ NewLaid (penF E (stt p) w) H Q
section
variable {P : Program} {w : World} {K : PySem.W.Frag} {mg : Str → Option Value} {base : Heap}
theorem ok_rotate {f : Addr} {fd : FuncData} {k : Nat} (F : Fun K "rotate" "rotate" s_rotate f fd) : FnOk P w K mg base CX0 (k + 1) f fd ["x", "y", "quarters"] spRotate := by
  refine F.ok sc_rotate (fun vs H Q E h => ?_) (fun cdv A outer s H vs Q E hr h => ?_)
  · obtain ⟨x, y, h, rfl, _⟩ := h
    rfl
  · obtain ⟨x, y, h, rfl, h0, h4, q⟩ := h
    refine ⟨_, pss_cons (ps_if (pt_cmpR op_eq (pv 2) pe_int (nomark _)) (pss_one (ps_ret (ptupN (pa_cons (pv 0) (pa_cons (pv 1) pa_nil))))) pss_nil)
      (pss_cons (ps_if (pt_cmpR op_eq (pv 2) pe_int (nomark _)) (pss_one (ps_ret (ptupN (pa_cons (pe_un un_neg (pv 1)) (pa_cons (pv 0) pa_nil))))) pss_nil)
      (pss_cons (ps_if (pt_cmpR op_eq (pv 2) pe_int (nomark _)) (pss_one (ps_ret (ptupN (pa_cons (pe_un un_neg (pv 0)) (pa_cons (pe_un un_neg (pv 1)) pa_nil))))) pss_nil)
      (pss_one (ps_ret (ptupN (pa_cons (pv 1) (pa_cons (pe_un un_neg (pv 0)) pa_nil))))))), ?_⟩
    have e : h = 0 ∨ h = 1 ∨ h = 2 ∨ h = 3 := by omega
    rcases e with rfl | rfl | rfl | rfl
    · exact ⟨_, rfl, rfl, _, rfl, itY rfl ⟨_, rfl, _, rfl, szl 2, q⟩⟩
    · exact ⟨_, rfl, rfl, _, rfl, itN (by decide) ⟨_, rfl, rfl, _, rfl, itY rfl ⟨_, rfl, _, rfl, _, rfl, szl 2, q⟩⟩⟩
    · exact ⟨_, rfl, rfl, _, rfl, itN (by decide) ⟨_, rfl, rfl, _, rfl, itN (by decide) ⟨_, rfl, rfl, _, rfl, itY rfl ⟨_, rfl, _, rfl, _, rfl, _, rfl, szl 2, q⟩⟩⟩⟩
    · exact ⟨_, rfl, rfl, _, rfl, itN (by decide) ⟨_, rfl, rfl, _, rfl, itN (by decide) ⟨_, rfl, rfl, _, rfl, itN (by decide) ⟨_, rfl, _, rfl, _, rfl, szl 2, q⟩⟩⟩⟩
theorem ok_lay {f : Addr} {fd : FuncData} {k : Nat} {dflt : Addr} (F : FunD K "lay" "lay" (defArgs s_lay) (defBody s_lay) (defScope s_lay) [.ref dflt] [] f fd) (GR : Got P w K mg base "rotate" k ["x", "y", "quarters"] spRotate) :
    FnOk P w K mg base CX0 (k + 1) f fd ["word", "ends", "pen"] (spLay K) := by
  refine F.ok sc_lay (fun vs H Q E h => ?_) (fun cdv A outer s H vs Q EE hr h => ex_nox ?_)
  · obtain ⟨a, d, pn, w, kvs, E', p, rfl, _⟩ := h
    rfl
  · obtain ⟨a, d, pn, w, kvs, E, p, rfl, hw, hd, hE, hp, p0, p4, hn, hl, q⟩ := h
    have nd := sc_lay.nd
    refine ⟨_, pss_cons (ps_asg (pv 2) (pg_tup (by rfl) (pgs_cons (pg_name (i := 3) nd rfl (.inl rfl)) (pgs_cons (pg_name (i := 4) nd rfl (.inl rfl)) (pgs_cons (pg_name (i := 5) nd rfl (.inl rfl)) pgs_nil)))))
      (pss_cons (ps_set (i := 6) nd rfl (.inl rfl) (plstN pa_nil)) (pss_cons (ps_set (i := 7) nd rfl (.inl rfl) (plstN pa_nil))
      (pss_cons (ps_for PassesOwn.never rfl (pi_tup (pv 0)) (pg_name (i := 8) nd rfl (.inl rfl))
        (pss_one (ps_if (pt_cmpR op_eq (pv 8) pe_str (nomark _)) (pss_one (ps_set (i := 5) nd rfl (.inl rfl) (pmod (padd (pv 5) pe_int) pe_int)))
          (pss_one (ps_if (pt_cmpR op_eq (pv 8) pe_str (nomark _)) (pss_one (ps_set (i := 5) nd rfl (.inl rfl) (pmod (psub (pv 5) pe_int) pe_int)))
            (pss_one (ps_if (pt_cmpR op_eq (pv 8) pe_str (nomark _)) (pss_one (sapp (pv 6) (ptupN (pa_cons (pv 3) (pa_cons (pv 4) (pa_cons (pv 5) pa_nil))))))
              (pss_one (ps_if (pt_cmpR op_eq (pv 8) pe_str (nomark _))
                (pss_one (ps_asg (pe_bm0 PySem.F.plainAttrs_list PySem.F.slot_list_pop PySem.F.type_list_pop mt_pop (pv 6)) (pg_tup (by rfl) (pgs_cons (pg_name (i := 3) nd rfl (.inl rfl)) (pgs_cons (pg_name (i := 4) nd rfl (.inl rfl)) (pgs_cons (pg_name (i := 5) nd rfl (.inl rfl)) pgs_nil))))))
                (pss_cons (sapp (pv 7) (ptupN (pa_cons (pv 3) (pa_cons (pv 4) (pa_cons (pv 5) (pa_cons (pv 8) pa_nil))))))
                (pss_cons (ps_asg (pe_dget (hu_of hr) (pv 1) (pv 8) (fun _ _ => rfl)) (pg_tup (by rfl) (pgs_cons (pg_name (i := 9) nd rfl (.inl rfl)) (pgs_cons (pg_name (i := 10) nd rfl (.inl rfl)) (pgs_cons (pg_name (i := 11) nd rfl (.inl rfl)) pgs_nil)))))
                (pss_cons (ps_asg (pcall GR hr (pa_cons (pv 9) (pa_cons (pv 10) (pa_cons (pv 5) pa_nil)))) (pg_tup (by rfl) (pgs_cons (pg_name (i := 12) nd rfl (.inl rfl)) (pgs_cons (pg_name (i := 13) nd rfl (.inl rfl)) pgs_nil))))
                (pss_cons (ps_aug (i := 3) nd rfl (.inl rfl) (pv 12) ip_add) (pss_cons (ps_aug (i := 4) nd rfl (.inl rfl) (pv 13) ip_add)
                (pss_one (ps_set (i := 5) nd rfl (.inl rfl) (pmod (padd (pv 5) (pv 11)) pe_int)))))))))))))))))
      (pss_one (ps_ret (ptupN (pa_cons (pv 7) (pa_cons (ptupN (pa_cons (pv 3) (pa_cons (pv 4) (pa_cons (pv 5) pa_nil)))) pa_nil)))))))), ?_⟩
    refine ⟨_, rfl, pn, _, rfl, hp, rfl, _, _, rfl, _, _, rfl, _, _, rfl, rfl, ?_⟩
    refine ⟨szl 0, fun H1 sb S1 n1 h1 => ⟨szl 0, fun H2 fa S2 n2 h2 => ?_⟩⟩
    have S03 := S1.trans S2
    have nfa : H fa = none := S1.free n2
    have nfs : fa ≠ sb := (ne_of_none h1 n2).symm
    have hs3 := S2 _ _ h1
    clear S1 S2 n2 h1
    refine ⟨_, rfl, a, rfl, ⟨_, (hw.same S03).sq⟩, for_tup (K := K) (a := a) (xs := wv w) (fun i σ H' => ∃ (y8 y9 y10 y11 y12 y13 : Option V) (as ss : List Addr), σ = [some (.ref a), some (.ref d), some (.ref pn), some (.int (penF E (stt p) (w.take i)).x), some (.int (penF E (stt p) (w.take i)).y), some (.int (penF E (stt p) (w.take i)).h), some (.ref sb), some (.ref fa), y8, y9, y10, y11, y12, y13] ∧
        Same H H' ∧ H' fa = some (.lst (as.map V.ref)) ∧ H' sb = some (.lst (ss.map V.ref)) ∧ Strs H' as (penF E (stt p) (w.take i)).out ∧ Pls H' ss (penF E (stt p) (w.take i)).st)
      ⟨none, none, none, none, none, none, [], [], rfl, S03, h2, hs3, .nil, .nil⟩ (fun i σ H' _ ⟨_, _, _, _, _, _, _, _, _, s, _⟩ => (hw.same s).sq) ?_ ?_⟩
    · rintro i x σ H4 hx ⟨y8, y9, y10, y11, y12, y13, as, ss, rfl, S4, hf, hs, hA, hP⟩
      obtain ⟨s, hsy, rfl⟩ := wv_get hx
      have hi : i < w.length := (List.getElem?_eq_some_iff.mp hsy).1
      have ep := penF_take (E := E) (p := stt p) hsy
      have lt : (w.take i).length ≤ 1000000 := by rw [List.length_take]; omega
      have lA := hA.length
      have lP := hP.length
      have p1 := len_run E (w.take i) (stt p)
      have z1 : (stt p).out.length = 0 := rfl
      have z2 : (stt p).st.length = 0 := rfl
      have hst := nest_take hn (i + 1)
      have hst0 := nest_take hn i
      have nst : nest (w.take i) 0 = some (penF E (stt p) (w.take i)).st.length := by
        cases hz : nest (w.take i) 0 with
        | none => exact absurd hz hst0
        | some dd => rw [st_run E (w.take i) (stt p) (show nest (w.take i) (stt p).st.length = some dd from hz)]
      rw [take_more hsy, nest_app, nst] at hst
      have ph := (hok_run (E := E) (w.take i) (hok_stt (p := p) ⟨p0, p4⟩)).h
      generalize penF E (stt p) (w.take (i + 1)) = pp at ep
      subst ep
      generalize penF E (stt p) (w.take i) = pe at hA hP lA lP p1 nst hst ph
      cases s with
      | p =>
        refine ⟨_, rfl, rfl, _, rfl, itY rfl ⟨_, rfl, _, _, rfl, rfl, _, _, rfl, rfl, (show (0 : Int) < 4 by decide), ?_⟩⟩
        exact ⟨_, y9, y10, y11, y12, y13, as, ss, rfl, S4, hf, hs, hA, hP⟩
      | m =>
        refine ⟨_, rfl, rfl, _, rfl, itN (by decide) ⟨_, rfl, rfl, _, rfl, itY rfl ⟨_, rfl, _, _, rfl, rfl, _, _, rfl, rfl, (show (0 : Int) < 4 by decide), ?_⟩⟩⟩
        refine ⟨some (Sy.v .m), y9, y10, y11, y12, y13, as, ss, ?_, S4, hf, hs, hA, hP⟩
        have e : (pe.h - 1) % 4 = (pe.h + 3) % 4 := by omega
        show [_, _, _, _, _, some (V.int ((pe.h - 1) % 4)), _, _, _, _, _, _, _, _] = _
        rw [e]
        rfl
      | o =>
        refine ⟨_, rfl, rfl, _, rfl, itN (by decide) ⟨_, rfl, rfl, _, rfl, itN (by decide) ⟨_, rfl, rfl, _, rfl, itY rfl ⟨_, rfl, .inl ⟨rfl, _, SqL.of hs⟩, _, rfl, _, rfl, _, rfl, szl 3, fun H5 p5 S5 n5 h5 => ⟨sb, _, _, rfl, rfl, S5 _ _ hs, ?_, ?_⟩⟩⟩⟩⟩
        · rw [List.length_map, sizeLine_eq]; omega
        · have hs5 := S5 _ _ hs
          have T5 : TupS H5 (upd H5 sb (.lst (ss.map V.ref ++ [V.ref p5]))) := TupS.refl.lst hs5
          refine ⟨_, y9, y10, y11, y12, y13, as, ss ++ [p5], rfl, sPut (S4.trans S5) n1, by rw [upd_ne nfs]; exact S5 _ _ hf, by rw [upd_same, List.map_append]; rfl, (hA.keep (.of S5)).keep T5, ?_⟩
          exact Paired.snoc ((hP.keep (.of S5)).keep T5) (T5.1 _ _ h5)
      | c =>
        refine ⟨_, rfl, rfl, _, rfl, itN (by decide) ⟨_, rfl, rfl, _, rfl, itN (by decide) ⟨_, rfl, rfl, _, rfl, itN (by decide) ⟨_, rfl, rfl, _, rfl, itY rfl ?_⟩⟩⟩⟩
        cases hl : pe.st.getLast? with
        | none =>
          rw [List.getLast?_eq_none_iff] at hl
          rw [hl] at hst
          exact absurd rfl hst
        | some t =>
          obtain ⟨tx, ty, th⟩ := t
          obtain ⟨la, g1, g2, g3⟩ := paired_last hP hl
          have e2 : pstepE E pe .c = { pe with x := tx, y := ty, h := th, st := pe.st.dropLast } := by
            show (match pe.st.getLast? with
              | some (a, b, c) => { pe with x := a, y := b, h := c, st := pe.st.dropLast }
              | none => pe) = _
            rw [hl]
          rw [e2]
          have g1' : (ss.map V.ref)[(ss.map V.ref).length - 1]? = some (V.ref la) := by
            rw [← List.getLast?_eq_getElem?, List.getLast?_map, g1]; rfl
          refine ⟨_, rfl, .inl ⟨rfl, _, SqL.of hs⟩, sb, _, _, rfl, rfl, hs, g1', ?_⟩
          have T5 : TupS H4 (upd H4 sb (.lst (ss.map V.ref).dropLast)) := TupS.refl.lst hs
          refine ⟨la, _, rfl, SqT.of (T5.1 _ _ g2), rfl, _, _, rfl, _, _, rfl, _, _, rfl, rfl, ?_⟩
          exact ⟨_, y9, y10, y11, y12, y13, as, ss.dropLast, rfl, sPut S4 n1, by rw [upd_ne nfs]; exact hf, by rw [upd_same, List.map_dropLast], hA.keep T5, Pls.keep T5 g3⟩
      | l kk =>
        refine ⟨_, rfl, rfl, _, rfl, itN (fun z => nomatch z) ⟨_, rfl, rfl, _, rfl, itN (fun z => nomatch z) ⟨_, rfl, rfl, _, rfl, itN (fun z => nomatch z) ⟨_, rfl, rfl, _, rfl, itN (fun z => nomatch z) ?_⟩⟩⟩⟩
        refine ⟨_, rfl, .inl ⟨rfl, _, SqL.of hf⟩, _, rfl, _, rfl, _, rfl, _, rfl, szl 4, fun H5 p5 S5 n5 h5 => ⟨fa, _, _, rfl, rfl, S5 _ _ hf, ?_, ?_⟩⟩
        · rw [List.length_map, sizeLine_eq]; omega
        have hf5 := S5 _ _ hf
        have T6 : TupS H5 (upd H5 fa (.lst (as.map V.ref ++ [V.ref p5]))) := TupS.refl.lst hf5
        have S6 : Same H (upd H5 fa (.lst (as.map V.ref ++ [V.ref p5]))) := sPut (S4.trans S5) nfa
        have hf6 : (upd H5 fa (.lst (as.map V.ref ++ [V.ref p5]))) fa = some (.lst ((as ++ [p5]).map V.ref)) := by rw [upd_same, List.map_append]; rfl
        have hs6 : (upd H5 fa (.lst (as.map V.ref ++ [V.ref p5]))) sb = some (.lst (ss.map V.ref)) := by rw [upd_ne nfs.symm]; exact S5 _ _ hs
        have hA6 : Strs (upd H5 fa (.lst (as.map V.ref ++ [V.ref p5]))) (as ++ [p5]) (pe.out ++ [(pe.x, pe.y, pe.h, kk)]) := Paired.snoc ((hA.keep (.of S5)).keep T6) (T6.1 _ _ h5)
        have hP6 := (hP.keep (.of S5)).keep T6
        generalize upd H5 fa (.lst (as.map V.ref ++ [V.ref p5])) = H6 at S6 hf6 hs6 hA6 hP6
        obtain ⟨te, v1, v2⟩ := (hE kk (List.mem_of_getElem? hsy)).same S6
        refine ⟨_, rfl, _, rfl, d, .ref te, rfl, by rw [← v1]; exact DGet.k (k := Sum.inl (kk : Int)) (S6 _ _ hd), te, _, rfl, v2, rfl, _, _, rfl, _, _, rfl, _, _, rfl, rfl, ?_⟩
        refine ⟨_, rfl, _, rfl, _, rfl, _, _, _, rfl, ph.1, ph.2, fun H7 p7 S7 n7 h7 => ?_⟩
        refine ⟨p7, _, rfl, SqT.of h7, rfl, _, _, rfl, _, _, rfl, rfl, _, rfl, _, rfl, _, _, rfl, rfl, _, rfl, _, rfl, _, _, rfl, rfl, ?_⟩
        refine ⟨_, rfl, _, rfl, _, _, rfl, rfl, _, _, rfl, rfl, (show (0 : Int) < 4 by decide), ?_⟩
        exact ⟨_, _, _, _, _, _, as ++ [p5], ss, rfl, S6.trans S7, S7 _ _ hf6, S7 _ _ hs6, hA6.keep (.of S7), hP6.keep (.of S7)⟩
    · rintro σ H4 ⟨y8, y9, y10, y11, y12, y13, as, ss, rfl, S4, hf, hs, hA, hP⟩
      rw [List.length_map, List.take_length] at hA
      refine ⟨_, rfl, _, rfl, _, rfl, _, rfl, szl 3, fun H5 e5 S5 n5 h5 => ⟨szl 2, fun H6 t6 S6 n6 h6 => ?_⟩⟩
      rw [List.length_map, List.take_length] at h5
      exact q H6 t6 fa e5 as ((S4.trans S5).trans S6) ((S4.trans S5).free n6) h6 nfa (S6 _ _ (S5 _ _ hf)) ((hA.keep (.of S5)).keep (.of S6)) (S6 _ _ h5)
end
end SK
namespace SK
open PySem PySem.Spec PyProof.Rows L2
/-! ### what letters come to, age by age -/
/-- a sum over the letters of a word -/
def wsum (N : Nat → Nat) : List Sy → Nat
  | [] => 0
  | .l k :: w => N k + wsum N w
  | _ :: w => wsum N w
def vlist (N : Nat → Nat) : List Sy → List Int
  | [] => []
  | .l k :: w => (N k : Int) :: vlist N w
  | _ :: w => vlist N w
theorem vlist_app (N : Nat → Nat) : ∀ a b : List Sy, vlist N (a ++ b) = vlist N a ++ vlist N b
  | [], b => rfl
  | .l k :: a, b => congrArg (_ :: ·) (vlist_app N a b)
  | .p :: a, b => vlist_app N a b
  | .m :: a, b => vlist_app N a b
  | .o :: a, b => vlist_app N a b
  | .c :: a, b => vlist_app N a b
theorem vlist_sum (N : Nat → Nat) : ∀ w : List Sy, (vlist N w).sum = (wsum N w : Int)
  | [] => rfl
  | .l k :: w => by
    show (N k : Int) + (vlist N w).sum = ((N k + wsum N w : Nat) : Int)
    rw [vlist_sum N w, Int.natCast_add]
  | .p :: w => vlist_sum N w
  | .m :: w => vlist_sum N w
  | .o :: w => vlist_sum N w
  | .c :: w => vlist_sum N w
theorem vlist_len (N : Nat → Nat) : ∀ w : List Sy, (vlist N w).length ≤ w.length
  | [] => Nat.le_refl _
  | .l k :: w => Nat.succ_le_succ (vlist_len N w)
  | .p :: w => Nat.le_succ_of_le (vlist_len N w)
  | .m :: w => Nat.le_succ_of_le (vlist_len N w)
  | .o :: w => Nat.le_succ_of_le (vlist_len N w)
  | .c :: w => Nat.le_succ_of_le (vlist_len N w)
theorem nL_growG (G : Nat → List Sy) : ∀ w : List Sy, nL (growG G w) = wsum (fun k => nL (G k)) w
  | [] => rfl
  | s :: w => by
    have e : growG G (s :: w) = imgG G s ++ growG G w := rfl
    rw [e, nL_app, nL_growG G w]
    cases s with
    | l k => rfl
    | p => exact Nat.zero_add _
    | m => exact Nat.zero_add _
    | o => exact Nat.zero_add _
    | c => exact Nat.zero_add _
/-- how many strokes a letter has become -/
def nLg (ws : List (List Sy)) (m k : Nat) : Nat := nL (gI ws m k)
theorem nLg_zero (ws : List (List Sy)) (k : Nat) : nLg ws 0 k = 1 := rfl
theorem nLg_succ (ws : List (List Sy)) (m k : Nat) : nLg ws (m + 1) k = wsum (nLg ws m) (ws.getD k []) := nL_growG (gI ws m) (ws.getD k [])
theorem nL_grown (ws : List (List Sy)) (st : List Sy) (n : Nat) : nL (grown ws st n) = wsum (nLg ws n) st := by
  have e := growG_grown ws st n 0
  rw [Nat.zero_add] at e
  rw [← e]
  exact nL_growG _ _
theorem nest_growG {G : Nat → List Sy} : ∀ {w : List Sy} {d e : Nat}, (∀ k, Sy.l k ∈ w → nest (G k) 0 = some 0) → nest w d = some e → nest (growG G w) d = some e
  | [], d, e, _, h => h
  | s :: w, d, e, hl, h => by
    have hl' : ∀ k, Sy.l k ∈ w → nest (G k) 0 = some 0 := fun k hk => hl k (List.mem_cons_of_mem _ hk)
    show nest (imgG G s ++ growG G w) d = some e
    rw [nest_app]
    cases s with
    | l j =>
      have up : ∀ (w : List Sy) (d e k : Nat), nest w d = some e → nest w (d + k) = some (e + k) := by
        intro w
        induction w with
        | nil => intro d e k h; cases h; rfl
        | cons s w ih =>
          intro d e k h
          cases s with
          | o =>
            have := ih (d + 1) e k h
            rw [show d + 1 + k = d + k + 1 by omega] at this
            exact this
          | c =>
            cases d with
            | zero => cases h
            | succ d =>
              have := ih d e k h
              rw [show d + 1 + k = (d + k) + 1 by omega]
              exact this
          | p => exact ih d e k h
          | m => exact ih d e k h
          | l j => exact ih d e k h
      have := up (G j) 0 0 d (hl j List.mem_cons_self)
      rw [Nat.zero_add] at this
      show (nest (G j) d).bind (nest (growG G w)) = some e
      rw [this]
      exact nest_growG hl' h
    | o => exact nest_growG hl' (show nest w (d + 1) = some e from h)
    | c =>
      cases d with
      | zero => cases h
      | succ d => exact nest_growG hl' (show nest w d = some e from h)
    | p => exact nest_growG hl' (show nest w d = some e from h)
    | m => exact nest_growG hl' (show nest w d = some e from h)
theorem getD_good {ws : List (List Sy)} (hg : ∀ w ∈ ws, Good ws.length 40 w) {k : Nat} (h : k < ws.length) : Good ws.length 40 (ws.getD k []) := by
  rw [List.getD_eq_getElem?_getD, List.getElem?_eq_getElem h]
  exact hg _ (List.getElem_mem h)
theorem nest_gI {ws : List (List Sy)} (hg : ∀ w ∈ ws, Good ws.length 40 w) : ∀ m k, k < ws.length → nest (gI ws m k) 0 = some 0
  | 0, k, _ => rfl
  | m + 1, k, h => nest_growG (fun j hj => nest_gI hg m j ((getD_good hg h).lets j hj)) (getD_good hg h).nst
/-- the strokes that a stroke of the coarser path is drawn as -/
def fineG (E : Pth) (G : Nat → List Sy) (s : Stk) : List Stk := (penE E (G s.2.2.2)).out.map (sh (s.1, s.2.1, s.2.2.1))
theorem grow_penG {G : Nat → List Sy} {E E' : Pth} : ∀ (w : List Sy), (∀ k, Sy.l k ∈ w → nest (G k) 0 = some 0 ∧ E' k = (penE E (G k)).pl) → ∀ (p p' : Pen), p.pl = p'.pl → p.st = p'.st → HOk p → p.out = p'.out.flatMap (fineG E G) →
    (penF E p (growG G w)).pl = (penF E' p' w).pl ∧ (penF E p (growG G w)).st = (penF E' p' w).st ∧ (penF E p (growG G w)).out = (penF E' p' w).out.flatMap (fineG E G)
  | [], _, p, p', h1, h2, _, h4 => ⟨h1, h2, h4⟩
  | s :: w, hw, p, p', h1, h2, hk, h4 => by
    have hw' : ∀ k, Sy.l k ∈ w → nest (G k) 0 = some 0 ∧ E' k = (penE E (G k)).pl := fun k hk => hw k (List.mem_cons_of_mem _ hk)
    rw [show growG G (s :: w) = imgG G s ++ growG G w from rfl, penF_app, penF_cons]
    have step : ∀ q q' : Pen, q.pl = q'.pl → q.st = q'.st → HOk q → q.out = q'.out.flatMap (fineG E G) → _ := fun q q' a b c d => grow_penG w hw' q q' a b c d
    have hxy : p.x = p'.x ∧ p.y = p'.y ∧ p.h = p'.h := ⟨congrArg (·.1) h1, congrArg (·.2.1) h1, congrArg (·.2.2) h1⟩
    cases s with
    | l k =>
      obtain ⟨hn, he⟩ := hw k List.mem_cons_self
      obtain ⟨r1, r2, r3⟩ := path_run E hn hk
      refine step _ _ ?_ (r2.trans h2) (hok_run _ hk) ?_
      · show (penF E p (G k)).pl = mv p'.pl (E' k)
        rw [r1, h1, he]
      · show (penF E p (G k)).out = (p'.out ++ [(p'.x, p'.y, p'.h, k)]).flatMap (fineG E G)
        rw [r3, h4, List.flatMap_append, h1]
        simp only [List.flatMap_cons, List.flatMap_nil, List.append_nil]
        rfl
    | o =>
      refine step _ _ h1 ?_ (hok_step (E := E) hk .o) h4
      show p.st ++ [(p.x, p.y, p.h)] = p'.st ++ [(p'.x, p'.y, p'.h)]
      rw [h2, hxy.1, hxy.2.1, hxy.2.2]
    | c =>
      have e : ∀ (F : Pth) (q : Pen), pstepE F q .c = match q.st.getLast? with
        | some (a, b, c) => { q with x := a, y := b, h := c, st := q.st.dropLast }
        | none => q := fun _ _ => rfl
      refine step (pstepE E p .c) (pstepE E' p' .c) ?_ ?_ (hok_step (E := E) hk .c) ?_ <;> rw [e, e, h2] <;> cases p'.st.getLast? <;> first | exact h1 | exact h2 | exact h4 | rfl
    | p =>
      refine step _ _ ?_ h2 (hok_step (E := E) hk .p) h4
      show (p.x, p.y, (p.h + 1) % 4) = (p'.x, p'.y, (p'.h + 1) % 4)
      rw [hxy.1, hxy.2.1, hxy.2.2]
    | m =>
      refine step _ _ ?_ h2 (hok_step (E := E) hk .m) h4
      show (p.x, p.y, (p.h + 3) % 4) = (p'.x, p'.y, (p'.h + 3) % 4)
      rw [hxy.1, hxy.2.1, hxy.2.2]
/-- where a letter's path ends -/
def Eg (ws : List (List Sy)) (m k : Nat) : Plc := (penE one (gI ws m k)).pl
theorem Eg_zero (ws : List (List Sy)) (k : Nat) : Eg ws 0 k = (1, 0, 0) := rfl
/-- the strokes of what a word has become, from a place on -/
theorem far_pen {ws : List (List Sy)} (hg : ∀ w ∈ ws, Good ws.length 40 w) (m : Nat) {w : List Sy} (hl : ∀ k, Sy.l k ∈ w → k < ws.length) {p : Plc} (hp : 0 ≤ p.2.2 ∧ p.2.2 < 4) :
    (penF one (stt p) (growG (gI ws m) w)).pl = (penF (Eg ws m) (stt p) w).pl ∧ (penF one (stt p) (growG (gI ws m) w)).out = (penF (Eg ws m) (stt p) w).out.flatMap (fineG one (gI ws m)) := by
  have := grow_penG (G := gI ws m) (E := one) (E' := Eg ws m) w (fun k hk => ⟨nest_gI hg m k (hl k hk), rfl⟩) (stt p) (stt p) rfl rfl (hok_stt hp) rfl
  exact ⟨this.1, this.2.2⟩
theorem Eg_succ {ws : List (List Sy)} (hg : ∀ w ∈ ws, Good ws.length 40 w) (m k : Nat) (h : k < ws.length) : Eg ws (m + 1) k = (penE (Eg ws m) (ws.getD k [])).pl :=
  (far_pen hg m (p := (0, 0, 0)) (fun j hj => (getD_good hg h).lets j hj) ⟨by decide, by decide⟩).1
theorem grown_gI (ws : List (List Sy)) (st : List Sy) (n : Nat) : grown ws st n = growG (gI ws n) st := by
  have e := growG_grown ws st n 0
  rw [Nat.zero_add] at e
  exact e.symm
/-- as many strokes as letters -/
theorem out_len (E : Pth) : ∀ (w : List Sy) (p : Pen), (penF E p w).out.length = p.out.length + nL w
  | [], p => rfl
  | s :: w, p => by
    rw [penF_cons, out_len E w, show nL (s :: w) = nL [s] + nL w from nL_app [s] w]
    cases s with
    | l k => show (p.out ++ [_]).length + _ = _; rw [List.length_append]; show p.out.length + 1 + nL w = p.out.length + (1 + nL w); omega
    | o => show p.out.length + nL w = p.out.length + (0 + nL w); omega
    | p => show p.out.length + nL w = p.out.length + (0 + nL w); omega
    | m => show p.out.length + nL w = p.out.length + (0 + nL w); omega
    | c =>
      have e : pstepE E p .c = match p.st.getLast? with
        | some (a, b, c) => { p with x := a, y := b, h := c, st := p.st.dropLast }
        | none => p := rfl
      have e2 : (pstepE E p .c).out = p.out := by rw [e]; cases p.st.getLast? <;> rfl
      rw [e2]
      show p.out.length + nL w = p.out.length + (0 + nL w)
      omega
theorem fine_len (ws : List (List Sy)) (m : Nat) (s : Stk) : (fineG one (gI ws m) s).length = nLg ws m s.2.2.2 := by
  unfold fineG nLg penE
  rw [List.length_map, out_len]
  exact Nat.zero_add _
theorem sh_zero {a : Plc} (h : 0 ≤ a.2.2 ∧ a.2.2 < 4) (k : Nat) : sh a (0, 0, 0, k) = (a.1, a.2.1, a.2.2, k) := by
  have e0 : rot a.2.2 (0, 0) = (0, 0) := by rcases rot4 a.2.2 with ⟨_, e⟩ | ⟨_, e⟩ | ⟨_, e⟩ | ⟨_, e⟩ <;> rw [e] <;> rfl
  unfold sh mv
  dsimp only
  rw [e0]
  refine Prod.ext ?_ (Prod.ext ?_ (Prod.ext ?_ rfl))
  · show a.1 + 0 = a.1; omega
  · show a.2.1 + 0 = a.2.1; omega
  · show (a.2.2 + 0) % 4 = a.2.2; omega
theorem fine_zero (ws : List (List Sy)) {s : Stk} (h : 0 ≤ s.2.2.1 ∧ s.2.2.1 < 4) : fineG one (gI ws 0) s = [s] := by
  show [sh (s.1, s.2.1, s.2.2.1) (0, 0, 0, s.2.2.2)] = [s]
  rw [sh_zero (a := (s.1, s.2.1, s.2.2.1)) h]
theorem fine_succ {ws : List (List Sy)} (hg : ∀ w ∈ ws, Good ws.length 40 w) (m : Nat) {s : Stk} (hs : s.2.2.2 < ws.length) (h : 0 ≤ s.2.2.1 ∧ s.2.2.1 < 4) :
    fineG one (gI ws (m + 1)) s = (penF (Eg ws m) (stt (s.1, s.2.1, s.2.2.1)) (ws.getD s.2.2.2 [])).out.flatMap (fineG one (gI ws m)) := by
  have hn := nest_gI hg (m + 1) s.2.2.2 hs
  have r := path_run one hn (hok_stt (p := (s.1, s.2.1, s.2.2.1)) h)
  have f := far_pen hg m (p := (s.1, s.2.1, s.2.2.1)) (fun j hj => (getD_good hg hs).lets j hj) h
  have e : gI ws (m + 1) s.2.2.2 = growG (gI ws m) (ws.getD s.2.2.2 []) := rfl
  rw [← f.2, ← e, r.2.2]
  rfl
end SK
namespace SK
open PySem PySem.Spec PyProof.Rows L2
/-! ### t[::-1] -/
def tRevF (K : PySem.W.Frag) (te : TE) : TE := fun σ H Q => te σ H fun x H1 => ∃ a xs, x = .ref a ∧ SqT K H1 a xs ∧ NewT xs.reverse H1 Q
theorem pe_revF {X : Cx} {e : Expr} {te : TE} {k : Nat} {p1 p2 p3 pos : Pos} (he : PE X e te) : PE X (.Subscript e (.Slice none none (some (.UnaryOp .USub (.Constant (.int 1) k p1) p2)) p3) pos) (tRevF X.K te) := by
  refine ⟨fun pins s σ H Q I h => ?_⟩
  refine Subscript_ (thn (he.run pins s σ H _ I h) fun v s1 ⟨x, H1, I1, r1, q1⟩ => ?_)
  obtain ⟨a, xs, ex, hx, q⟩ := q1
  subst ex
  cases r1
  have hst : PO X (some (.UnaryOp .USub (.Constant (.int 1) k p1) p2)) (tPart (tUn (rU fun i => .int (-i)) (tC (.int 1)))) := po_some (pe_un un_neg pe_int)
  refine wpAny_Slice (thn (po_none.run pins s1 σ H1 (fun o H2 => o = none ∧ H2 = H1) I1 ⟨rfl, rfl⟩) fun vl s2 ⟨l, H2, I2, pl, el, e2⟩ => ?_)
  subst el e2
  refine thn (po_none.run pins s2 σ H2 (fun o H3 => o = none ∧ H3 = H2) I2 ⟨rfl, rfl⟩) fun vu s3 ⟨u, H3, I3, pu, eu, e3⟩ => ?_
  subst eu e3
  refine thn (hst.run pins s3 σ H3 (fun o H4 => o = some (-1) ∧ H4 = H3) I3 ⟨1, rfl, -1, rfl, rfl, rfl⟩) fun vs s4 ⟨o, H4, I4, ps, eo, e4⟩ => ?_
  subst eo e4
  have I5 : Inv X pins σ H4 { s4 with heap := s4.heap.push { cls := .type "slice", data := .fields #[vl, vu, vs] } } := I4.kept (t' := s4.toks) fun b ob q => Heap.get?_push_of_some _ q
  obtain ⟨its, r, ht, hz⟩ := I5.tuple hx
  have hlen := r.length
  show wpAny (model X.prog X.w) X.A (subscriptTail e (.Slice none none (some (.UnaryOp .USub (.Constant (.int 1) k p1) p2)) p3) (.ref a) (.ref s4.heap.objs.size)) (EP X pins σ Q) X.xe { s4 with heap := s4.heap.push { cls := .type "slice", data := .fields #[vl, vu, vs] } }
  refine tail_any (ops := [.ref a, .ref s4.heap.objs.size]) ht.typeIs (PyProof.Rows.slot_tuple_getitem.lookup) ?_ (by with_unfolding_all rfl)
  refine getItem_tuple_rev ht (Heap.IsSliceOf.new _ vl vu vs) pl pu ps ?_ (by rw [List.size_toArray]; omega)
  have fr := I5.hok.fresh (Nat.le_refl _)
  generalize s4.heap.push { cls := .type "slice", data := .fields #[vl, vu, vs] } = hp at I5 ht fr ⊢
  let ob : Obj := { cls := .type "tuple", data := .seq its.reverse.toArray }
  have at1 : (hp.push ob).get? hp.objs.size = some ob := Heap.get?_push_size _ rfl
  exact ⟨.ref hp.objs.size, upd H4 _ (.frz ob (.tup xs.reverse)), I5.laid (t' := s4.toks) (fun b u e => Heap.get?_push_of_some _ e) (Nat.le_refl _) ⟨at1, by rw [List.length_reverse]; exact hz, _, r.reverse, ob, at1, rfl, _, rfl⟩, rfl, q _ _ ob (same_upd fr) fr upd_same ⟨rfl, rfl⟩⟩
/-! ### turned over, turned round -/
def flipS : Sy → Sy
  | .p => .m
  | .m => .p
  | s => s
def flipW (w : List Sy) : List Sy := w.map flipS
def backW (w : List Sy) : List Sy := (flipW w).reverse
def turnsKV : List (Str × V) := [("+", .str "-"), ("-", .str "+")]
def keyS : Sy → Key
  | .l k => .inl (k : Int)
  | .p => .inr "+"
  | .m => .inr "-"
  | .o => .inr "["
  | .c => .inr "]"
theorem keyS_v (s : Sy) : s.v = kV (keyS s) := by cases s <;> rfl
theorem flip_get (s : Sy) : (valV (turnsKV.map fun p => ((Sum.inr p.1 : Key), p.2)) (keyS s)).getD s.v = (flipS s).v := by
  cases s with
  | l k => rfl
  | p => decide +kernel
  | m => decide +kernel
  | o => decide +kernel
  | c => decide +kernel
theorem flipW_len (w : List Sy) : (flipW w).length = w.length := by unfold flipW; rw [List.length_map]
theorem backW_len (w : List Sy) : (backW w).length = w.length := by unfold backW; rw [List.length_reverse, flipW_len]
def NewB (ws : List (List Sy)) (st : List Sy) (H : Hp) (Q : VK) : Prop := ∀ (H' : Hp) (p : Addr), Same H H' → H p = none → BookAt H' p ws st → Q (.ref p) H'
def spTurned : Sp := fun vs H Q _ => ∃ (a : Addr) (w : List Sy), vs = [.ref a] ∧ WdAt H a w ∧ w.length ≤ 1000 ∧ NewW (flipW w) H Q
def spMirrored : Sp := fun vs H Q _ => ∃ (b : Addr) (ws : List (List Sy)) (st : List Sy), vs = [.ref b] ∧ BookAt H b ws st ∧ GoodBook ws st ∧ NewB (ws.map flipW) (flipW st) H Q
def Plain (ws : List (List Sy)) (st : List Sy) : Prop := ∀ w ∈ ws ++ [st], Sy.o ∉ w
def spBackX (CB : Addr) : Sp := fun vs H Q E => ∃ (b : Addr) (ws : List (List Sy)) (st : List Sy), vs = [.ref b] ∧ BookAt H b ws st ∧ GoodBook ws st ∧ (Plain ws st → NewB (ws.map backW) (backW st) H Q) ∧ (¬ Plain ws st → ∀ H', Same H H' → E (.ref CB) none H')
theorem word_get {H : Hp} {as : List Addr} {ws : List (List Sy)} {n : Nat} {i : Nat} {x : V} (h : Words H as ws) (hg : ∀ w ∈ ws, Good n 40 w) (hx : (as.map V.ref)[i]? = some x) : ∃ a w, x = .ref a ∧ i < ws.length ∧ ws[i]? = some w ∧ WdAt H a w ∧ Good n 40 w := by
  rw [List.getElem?_map] at hx
  cases e : as[i]? with
  | none => rw [e] at hx; cases hx
  | some a =>
    rw [e] at hx
    have hi : i < ws.length := by rw [← h.length]; exact (List.getElem?_eq_some_iff.mp e).1
    have hw := List.getElem?_eq_getElem hi
    obtain ⟨a', ha', hwa⟩ := paired_get h hw
    rw [e] at ha'
    cases ha'
    exact ⟨a, ws[i], (Option.some.inj hx).symm, hi, hw, hwa, hg _ (List.getElem_mem hi)⟩
section
variable {P : Program} {w : World} {K : PySem.W.Frag} {mg : Str → Option Value} {base : Heap}
theorem ok_turned {f : Addr} {fd : FuncData} {k : Nat} {d : Addr} (F : Fun K "turned_over" "turned_over" s_turned_over f fd) (D : WDict K w d turnsKV) (mO : mg "OTHER_TURNS" = some (.ref d)) (mT : mg "tuple" = none) :
    FnOk P w K mg base CX0 (k + 1) f fd ["word"] spTurned := by
  refine F.ok sc_turned_over (fun vs H Q E h => ?_) (fun cdv A outer s H vs Q E hr h => ?_)
  · obtain ⟨a, wd, rfl, _⟩ := h
    rfl
  · obtain ⟨a, wd, rfl, ha, hl, q⟩ := h
    have nd := sc_turned_over.nd
    refine ⟨_, pss_one (ps_ret (ptupleF mT (pe_lc (own := [("part", 1)]) (g := gName 1) (tt := tYes) (te := tWGet2 d turnsKV (tC (.ref d)) (tVar 1) (tVar 1)) rfl nd (pi_tup (pv 0)) (blkOk_by (N := n_turned_over) (sc := defScope s_turned_over) (by decide +kernel))
        (fun _ _ _ _ _ => pg_name (i := 1) nd rfl (Or.inl rfl)) (fun _ _ _ _ _ => pts_nil) (fun _ _ _ _ _ => pe_wget2 D (pe_glob (v := .ref d) rfl mO rfl) (pv 1) (pv 1) ⟨rfl, rfl, rfl, rfl⟩)))), ?_⟩
    refine ⟨_, rfl, a, rfl, ⟨_, ha.sq⟩, fun D nD => ?_⟩
    refine lc_tup (K := K) (a := a) (xs := wv wd) (fun i H' => Same H H' ∧ H' D = some (.lst (wv (flipW (wd.take i))))) ⟨same_upd nD, upd_same⟩ (fun i H' _ h => (ha.same h.1).sq) ?_ ?_
    · rintro i x H1 hx ⟨S1, hD⟩
      obtain ⟨s, hs, rfl⟩ := wv_get hx
      have hi : i < wd.length := (List.getElem?_eq_some_iff.mp hs).1
      refine ⟨rfl, rfl, _, rfl, _, rfl, keyS s, keyS_v s, ?_⟩
      rw [flip_get]
      refine ⟨_, hD, ?_, sPut S1 nD, ?_⟩
      · rw [List.length_map, flipW_len, List.length_take, sizeLine_eq]; omega
      · rw [upd_same, take_more hs]
        simp only [flipW, wv, List.map_append, List.map_cons, List.map_nil]
    · rintro H1 ⟨S1, hD⟩
      rw [List.length_map, List.take_length] at hD
      exact ⟨D, _, rfl, SqL.of hD, NewW.of (fun H2 p2 S2 n2 h2 => q H2 p2 (S1.trans S2) (S1.free n2) h2) rfl⟩
theorem ok_mirrored {f : Addr} {fd : FuncData} {k : Nat} (F : Fun K "mirrored" "mirrored" s_mirrored f fd) (GB : Got P w K mg base "check_book" k ["value"] spCheckBook) (GT : Got P w K mg base "turned_over" k ["word"] spTurned) (mT : mg "tuple" = none) :
    FnOk P w K mg base CX0 (k + 1) f fd ["book"] spMirrored := by
  refine F.ok sc_mirrored (fun vs H Q E h => ?_) (fun cdv A outer s H vs Q E hr h => ?_)
  · obtain ⟨b, ws, st, rfl, _⟩ := h
    rfl
  · obtain ⟨b, ws, st, rfl, hb, hg, q⟩ := h
    have nd := sc_mirrored.nd
    refine ⟨_, pss_cons (ps_expr (pcall GB hr (pa_cons (pv 0) pa_nil)))
      (pss_cons (ps_asg (pv 0) (pg_tup (by rfl) (pgs_cons (pg_name (i := 1) nd rfl (.inl rfl)) (pgs_cons (pg_name (i := 2) nd rfl (.inl rfl)) pgs_nil))))
      (pss_one (ps_ret (ptupN (pa_cons (ptupleN mT (pe_lc (own := [("word", 3)]) (g := gName 3) (tt := tYes) (te := tCall spTurned [] E0 (tCons (tVar 3) tNil)) rfl nd (pi_tup (pv 1)) (blkOk_by (N := n_mirrored) (sc := defScope s_mirrored) (by decide +kernel))
        (fun _ _ _ _ _ => pg_name (i := 3) nd rfl (Or.inl rfl)) (fun _ _ _ _ _ => pts_nil) (fun _ _ _ _ _ => pcall GT hr (pa_cons (pv 3) pa_nil)))) (pa_cons (pcall GT hr (pa_cons (pv 2) pa_nil)) pa_nil)))))), ?_⟩
    refine ⟨_, rfl, b, ws, st, rfl, hb, hg, fun H1 S1 => ?_⟩
    obtain ⟨p, pq, as, b1, b2, b3, b4⟩ := id (hb.keep (.of S1))
    have el := b4.length
    have few := hg.few
    refine ⟨_, rfl, b, _, rfl, SqT.of b1, rfl, _, _, rfl, _, _, rfl, rfl, ?_⟩
    refine ⟨_, rfl, p, rfl, ⟨_, SqT.of b2⟩, fun D nD => ?_⟩
    refine lc_tup (K := K) (a := p) (xs := as.map V.ref) (fun i H' => Same H1 H' ∧ ∃ fs : List Addr, H' D = some (.lst (fs.map V.ref)) ∧ Words H' fs ((ws.take i).map flipW)) ⟨same_upd nD, [], upd_same, .nil⟩ (fun i H' _ h => SqT.of (h.1 _ _ b2)) ?_ ?_
    · rintro i x H2 hx ⟨S2, fs, hD, hF⟩
      obtain ⟨a, w1, rfl, hi, ea, hwa, gw⟩ := word_get b4 hg.words hx
      have gl := gw.len
      have lF := hF.length
      rw [List.length_map, List.length_take] at lF
      refine ⟨rfl, _, rfl, a, w1, rfl, hwa.same S2, by omega, fun H3 t S3 n3 h3 => ⟨_, S3 _ _ hD, ?_, sPut (S2.trans S3) nD, fs ++ [t], ?_, ?_⟩⟩
      · rw [List.length_map, sizeLine_eq]; omega
      · rw [upd_same, List.map_append]; rfl
      · have T3 : TupS H3 (upd H3 D (.lst (fs.map V.ref ++ [V.ref t]))) := TupS.refl.lst (S3 _ _ hD)
        rw [take_more ea, List.map_append]
        exact Paired.snoc ((hF.keep (.of S3)).keep T3) (T3.wd h3)
    · rintro H2 ⟨S2, fs, hD, hF⟩
      rw [List.length_map, el, List.take_length] at hF
      refine ⟨D, _, rfl, SqL.of hD, fun H3 p3 S3 n3 h3 => ?_⟩
      have S13 := S2.trans S3
      have sl := hg.start.len
      refine ⟨_, rfl, pq, st, rfl, b3.same S13, by omega, fun H4 p4 S4 n4 h4 => ⟨szl 2, fun H5 p5 S5 n5 h5 => ?_⟩⟩
      have S35 := S4.trans S5
      exact q H5 p5 ((S1.trans S13).trans S35) (((S1.trans S13).trans S4).free n5) ⟨p3, p4, fs, h5, S35 _ _ h3, h4.same S5, ((hF.keep (.of S3)).keep (.of S35))⟩
theorem ok_backward {f : Addr} {fd : FuncData} {k : Nat} {CB : Addr} (F : Fun K "backward" "backward" s_backward f fd) (GB : Got P w K mg base "check_book" k ["value"] spCheckBook) (GT : Got P w K mg base "turned_over" k ["word"] spTurned) (mT : mg "tuple" = none)
    (gB : mg "Branching" = some (.ref CB)) (xB : PySem.W.excIn K CB [.type "ValueError", .type "Exception", .type "BaseException", .type "object"] "ValueError.__new__" = true) (kB : PySem.W.keepIn K (.ref CB) = true) (sB : PySem.W.subIn K (.ref CB) (.type "BaseException") = some true) (tB : PySem.W.typeIn K (.ref CB) = some (.type "type")) :
    FnOk P w K mg base (L2.CX P w) (k + 1) f fd ["book"] (spBackX CB) := by
  refine F.okX sc_backward (fun vs H Q E h => ?_) (fun cdv A outer s H vs Q E hr h => ?_)
  · obtain ⟨b, ws, st, rfl, _⟩ := h
    rfl
  · obtain ⟨b, ws, st, rfl, hb, hg, q1, q2⟩ := h
    have nd := sc_backward.nd
    refine ⟨_, pss_cons (ps_expr (pcall GB hr (pa_cons (pv 0) pa_nil)))
      (pss_cons (ps_asg (pv 0) (pg_tup (by rfl) (pgs_cons (pg_name (i := 1) nd rfl (.inl rfl)) (pgs_cons (pg_name (i := 2) nd rfl (.inl rfl)) pgs_nil))))
      (pss_cons (ps_for (passes_of rfl) rfl (pi_tup (pe_op op_catT (pv 1) (ptupN (pa_cons (pv 2) pa_nil)))) (pg_name (i := 3) nd rfl (.inl rfl))
        (pss_one (ps_if (pt_cmpR op_in_seq pe_str (pv 3) (by rfl)) (pss_one (ps_raise rfl (takes_of rfl rfl rfl rfl) (pmk_own PySem.F.excBase_ValueError xB gB kB (raises_own sB tB) (by rfl)))) pss_nil)))
      (pss_one (ps_ret (ptupN (pa_cons (ptupleN mT (pe_lc (own := [("word", 3)]) (g := gName 3) (tt := tYes) (te := tRevF K (tCall spTurned [] E0 (tCons (tVar 3) tNil))) rfl nd (pi_tup (pv 1)) (blkOk_by (N := n_backward) (sc := defScope s_backward) (by decide +kernel))
        (fun _ _ _ _ _ => pg_name (i := 3) nd rfl (Or.inl rfl)) (fun _ _ _ _ _ => pts_nil) (fun _ _ _ _ _ => pe_revF (pcall GT hr (pa_cons (pv 3) pa_nil))))) (pa_cons (pe_revF (pcall GT hr (pa_cons (pv 2) pa_nil))) pa_nil))))))), ?_⟩
    refine ⟨_, rfl, b, ws, st, rfl, hb, hg, fun H1 S1 => ?_⟩
    obtain ⟨p, pq, as, b1, b2, b3, b4⟩ := id (hb.keep (.of S1))
    have el := b4.length
    have few := hg.few
    have hne : as.map V.ref ≠ [] := fun z => by
      have h := congrArg List.length z
      rw [List.length_map, el] at h
      have h : ws.length = 0 := h
      have := hg.one
      omega
    refine ⟨_, rfl, b, _, rfl, SqT.of b1, rfl, _, _, rfl, _, _, rfl, rfl, ?_⟩
    refine ⟨_, rfl, _, rfl, szl 1, fun H2 t2 S2 n2 h2 => ⟨p, t2, _, _, rfl, rfl, SqT.of (S2 _ _ b2), SqT.of h2, hne, ?_, (fun z => nomatch z), fun _ p3 np3 => ⟨p3, rfl, ⟨_, SqT.of upd_same⟩, ?_⟩⟩⟩
    · rw [List.length_map, el, sizeLine_eq]
      show ws.length + 1 ≤ _
      omega
    have S13 : Same H1 (upd H2 p3 (.tup (as.map V.ref ++ [.ref pq]))) := S2.trans (same_upd np3)
    have h3 : (upd H2 p3 (.tup (as.map V.ref ++ [.ref pq]))) p3 = some (.tup (as.map V.ref ++ [.ref pq])) := upd_same
    generalize upd H2 p3 (.tup (as.map V.ref ++ [.ref pq])) = H3 at S13 h3 ⊢
    have wsAll : Words H1 (as ++ [pq]) (ws ++ [st]) := Paired.snoc b4 b3
    have wl : (as.map V.ref ++ [V.ref pq]).length = (ws ++ [st]).length := by rw [List.length_append, List.length_append, List.length_map, el]; rfl
    have gall : ∀ w ∈ ws ++ [st], Good ws.length 40 w := fun w hw => by
      rcases List.mem_append.mp hw with h | h
      · exact hg.words w h
      · rw [List.mem_singleton.mp h]; exact hg.start
    refine for_tup (K := K) (a := p3) (xs := as.map V.ref ++ [V.ref pq]) (fun i σ H' => ∃ y3 : Option V, σ = [some (.ref b), some (.ref p), some (.ref pq), y3] ∧ Same H3 H' ∧ ∀ w ∈ (ws ++ [st]).take i, Sy.o ∉ w)
      ⟨none, rfl, Same.refl _, fun w hw => by simp at hw⟩ (fun i σ H' _ ⟨_, _, s, _⟩ => SqT.of (s _ _ h3)) ?_ ?_
    · rintro i x σ H4 hx ⟨y3, rfl, S4, hv⟩
      have hx' : ((as ++ [pq]).map V.ref)[i]? = some x := by rw [List.map_append]; exact hx
      obtain ⟨a, w1, rfl, hi, ea, hwa, gw⟩ := word_get wsAll gall hx'
      refine ⟨_, rfl, a, wv w1, rfl, .inr ((hwa.same S13).same S4).sq, rfl, wv_flat w1, _, rfl, ?_⟩
      rw [wv_in_o]
      by_cases z : Sy.o ∈ w1
      · rw [decide_eq_true z]
        refine iteT (q2 (fun pl => pl w1 (List.mem_of_getElem? ea) z) H4 ((S1.trans S13).trans S4))
      · rw [decide_eq_false z]
        refine iteF ⟨_, rfl, S4, fun w hw => ?_⟩
        rw [take_more ea] at hw
        rcases List.mem_append.mp hw with hw | hw
        · exact hv w hw
        · rw [List.mem_singleton.mp hw]; exact z
    · rintro σ H4 ⟨y3, rfl, S4, hv⟩
      rw [wl, List.take_length] at hv
      have q := q1 hv
      have S14 := S13.trans S4
      refine ⟨_, rfl, p, rfl, ⟨_, SqT.of (S14 _ _ b2)⟩, fun D nD => ?_⟩
      refine lc_tup (K := K) (a := p) (xs := as.map V.ref) (fun i H' => Same H4 H' ∧ ∃ fs : List Addr, H' D = some (.lst (fs.map V.ref)) ∧ Words H' fs ((ws.take i).map backW)) ⟨same_upd nD, [], upd_same, .nil⟩ (fun i H' _ h => SqT.of (h.1 _ _ (S14 _ _ b2))) ?_ ?_
      · rintro i x H5 hx ⟨S5, fs, hD, hF⟩
        obtain ⟨a, w1, rfl, hi, ea, hwa, gw⟩ := word_get b4 hg.words hx
        have gl := gw.len
        have lF := hF.length
        rw [List.length_map, List.length_take] at lF
        refine ⟨rfl, _, rfl, a, w1, rfl, (hwa.same S14).same S5, by omega, fun H6 t S6 n6 h6 => ⟨t, _, rfl, h6.sq, NewW.of (w := backW w1) (fun H7 u S7 n7 h7 => ⟨_, S7 _ _ (S6 _ _ hD), ?_, sPut ((S5.trans S6).trans S7) nD, fs ++ [u], ?_, ?_⟩) (by simp only [backW, wv, List.map_reverse])⟩⟩
        · rw [List.length_map, sizeLine_eq]; omega
        · rw [upd_same, List.map_append]; rfl
        · have T7 : TupS H7 (upd H7 D (.lst (fs.map V.ref ++ [V.ref u]))) := TupS.refl.lst (S7 _ _ (S6 _ _ hD))
          rw [take_more ea, List.map_append]
          exact Paired.snoc ((hF.keep (.of (S6.trans S7))).keep T7) (T7.wd h7)
      · rintro H5 ⟨S5, fs, hD, hF⟩
        rw [List.length_map, el, List.take_length] at hF
        refine ⟨D, _, rfl, SqL.of hD, fun H6 p6 S6 n6 h6 => ?_⟩
        have S46 := S5.trans S6
        have S06 := (S1.trans S14).trans S46
        have sl := hg.start.len
        refine ⟨_, rfl, pq, st, rfl, (b3.same S14).same S46, by omega, fun H7 t S7 n7 h7 => ⟨t, _, rfl, h7.sq, NewW.of (w := backW st) (fun H8 u S8 n8 h8 => ⟨szl 2, fun H9 p9 S9 n9 h9 => ?_⟩) (by simp only [backW, wv, List.map_reverse])⟩⟩
        have S69 := (S7.trans S8).trans S9
        exact q H9 p9 (S06.trans S69) ((S06.trans (S7.trans S8)).free n9) ⟨p6, u, fs, h9, S69 _ _ h6, h8.same S9, ((hF.keep (.of S6)).keep (.of S69))⟩
end
/-! ### sped -/
/-- letters replaced out of a tuple of words -/
def spReplaceT : Sp := fun vs H Q _ => ∃ (a d : Addr) (w : List Sy) (ds : List Addr) (gs : List (List Sy)), vs = [.ref a, .ref d] ∧ WdAt H a w ∧ H d = some (.tup (ds.map V.ref)) ∧ Words H ds gs ∧ (∀ k, Sy.l k ∈ w → k < gs.length) ∧ (growG (fun k => gs.getD k []) w).length ≤ 1000000 ∧
  NewW (growG (fun k => gs.getD k []) w) H Q
def sW (ws : List (List Sy)) (m : Nat) : List (List Sy) := (List.range ws.length).map (gI ws m)
theorem sW_len (ws : List (List Sy)) (m : Nat) : (sW ws m).length = ws.length := by unfold sW; rw [List.length_map, List.length_range]
theorem sW_get (ws : List (List Sy)) (m : Nat) {k : Nat} (h : k < ws.length) : (sW ws m).getD k [] = gI ws m k := by
  unfold sW
  rw [List.getD_eq_getElem?_getD, List.getElem?_map, List.getElem?_range h]
  rfl
theorem sW_get? (ws : List (List Sy)) (m : Nat) {k : Nat} (h : k < ws.length) : (sW ws m)[k]? = some (gI ws m k) := by
  unfold sW
  rw [List.getElem?_map, List.getElem?_range h]
  rfl
theorem growG_congr {G G' : Nat → List Sy} : ∀ {w : List Sy}, (∀ k, Sy.l k ∈ w → G k = G' k) → growG G w = growG G' w
  | [], _ => rfl
  | s :: w, h => by
    have ih := growG_congr (w := w) fun k hk => h k (List.mem_cons_of_mem _ hk)
    rw [show s :: w = [s] ++ w from rfl, growG_app, growG_app, ih, growG_one, growG_one]
    congr 1
    cases s with
    | l k => exact h k List.mem_cons_self
    | p => rfl
    | m => rfl
    | o => rfl
    | c => rfl
theorem gI_one (ws : List (List Sy)) (k : Nat) : gI ws 1 k = ws.getD k [] := by
  show growG (gI ws 0) (ws.getD k []) = _
  rw [growG_zero]
theorem sW_one (ws : List (List Sy)) : sW ws 1 = ws := by
  apply List.ext_getElem?
  intro i
  by_cases h : i < ws.length
  · rw [sW_get? ws 1 h, gI_one, List.getD_eq_getElem?_getD, List.getElem?_eq_getElem h]
    rfl
  · rw [List.getElem?_eq_none (by rw [sW_len]; omega), List.getElem?_eq_none (by omega)]
theorem gI_mono {ws : List (List Sy)} {st : List Sy} (g : GoodBook ws st) (m k : Nat) (h : k < ws.length) : (gI ws m k).length ≤ (gI ws (m + 1) k).length := by
  have e : ∀ n, gI ws n k = grown ws [.l k] n := fun n => by rw [grown_gI, growG_one]; rfl
  rw [e, e]
  refine grown_mono (ws := ws) (st := [.l k]) ⟨g.one, g.few, g.words, ⟨rfl, fun j hj => ?_, rfl, by show 1 ≤ 40; decide, by show 1 + 6 ≤ 8 * 1; decide⟩⟩ (by omega)
  rw [List.mem_singleton] at hj
  cases hj
  exact h
theorem gI_le {ws : List (List Sy)} {st : List Sy} (g : GoodBook ws st) {k : Nat} (h : k < ws.length) {m n : Nat} (l : m ≤ n) : (gI ws m k).length ≤ (gI ws n k).length := by
  induction n with
  | zero => rw [Nat.le_zero.mp l]; exact Nat.le_refl _
  | succ n ih =>
    by_cases e : m = n + 1
    · rw [e]; exact Nat.le_refl _
    · exact Nat.le_trans (ih (by omega)) (gI_mono g n k h)
def Short (ws : List (List Sy)) (m : Nat) : Prop := ∀ k, k < ws.length → (gI ws m k).length ≤ 40
def spSpedX (C : Addr) : Sp := fun vs H Q E => ∃ (b : Addr) (m : Nat) (ws : List (List Sy)) (st : List Sy), vs = [.ref b, .int m] ∧ BookAt H b ws st ∧ GoodBook ws st ∧ 1 ≤ m ∧ m ≤ 4 ∧ (Short ws m → NewB (sW ws m) st H Q) ∧ (¬ Short ws m → ErrN C 40 H E)
theorem growG_40 {ws gs : List (List Sy)} (hs : ∀ w ∈ gs, w.length ≤ 40) : ∀ w : List Sy, (growG (fun k => gs.getD k []) w).length ≤ 40 * w.length
  | [] => Nat.zero_le _
  | s :: w => by
    have ih := growG_40 (ws := ws) hs w
    rw [show s :: w = [s] ++ w from rfl, growG_app, growG_one, List.length_append, List.length_append, List.length_singleton]
    have h1 : (imgG (fun k => gs.getD k []) s).length ≤ 40 := by
      cases s with
      | l k =>
        show (gs.getD k []).length ≤ 40
        rw [List.getD_eq_getElem?_getD]
        cases e : gs[k]? with
        | none => exact Nat.zero_le _
        | some w => exact hs w (List.mem_of_getElem? e)
      | p => show 1 ≤ 40; decide
      | m => show 1 ≤ 40; decide
      | o => show 1 ≤ 40; decide
      | c => show 1 ≤ 40; decide
    omega
section
variable {P : Program} {w : World} {K : PySem.W.Frag} {mg : Str → Option Value} {base : Heap}
theorem ok_replaceT {f : Addr} {fd : FuncData} {k : Nat} (F : Fun K "replace_letters" "replace_letters" s_replace_letters f fd) (mI : mg "isinstance" = none) (mS : mg "str" = none) (mT : mg "tuple" = none) : FnOk P w K mg base CX0 (k + 1) f fd ["word", "grown"] spReplaceT := by
  refine F.ok sc_replace_letters (fun vs H Q E h => ?_) (fun cdv A outer s H vs Q E hr h => ?_)
  · obtain ⟨a, d, w, ds, gs, rfl, _⟩ := h
    rfl
  · obtain ⟨a, d, wd, ds, gs, rfl, ha, hd, hG, hk, hlen, q⟩ := h
    have nd := sc_replace_letters.nd
    refine ⟨_, pss_cons (ps_set (i := 2) nd rfl (.inl rfl) (plstN pa_nil))
      (pss_cons (ps_for PassesOwn.never rfl (pi_tup (pv 0)) (pg_name (i := 3) nd rfl (.inl rfl))
        (pss_one (ps_if (pt_val (pis "str" (by decide +kernel) mI mS (pv 3))) (pss_one (sapp (pv 2) (pv 3)))
          (pss_one (ps_expr (pe_bm PySem.F.plainAttrs_list PySem.F.slot_list_extend PySem.F.type_list_extend mt_extW (pv 2) (pa_cons (pixT (pv 1) (pv 3)) pa_nil)))))))
      (pss_one (ps_ret (ptupleF mT (pv 2))))), ?_⟩
    generalize hGG : (fun k => gs.getD k []) = G at hlen q
    refine ⟨szl 0, fun H1 po S1 n1 h1 => ⟨_, rfl, a, rfl, ⟨_, (ha.same S1).sq⟩, for_tup (K := K) (a := a) (xs := wv wd) (fun i σ H' => ∃ y3 : Option V, σ = [some (.ref a), some (.ref d), some (.ref po), y3] ∧ Same H H' ∧ H' po = some (.lst (wv (growG G (wd.take i)))))
      ⟨none, rfl, S1, h1⟩ (fun i σ H' _ ⟨_, _, s, _⟩ => (ha.same s).sq) ?_ ?_⟩⟩
    · rintro i x σ H2 hx ⟨y3, rfl, S2, hp⟩
      obtain ⟨s, hs, rfl⟩ := wv_get hx
      have e1 : growG G (wd.take (i + 1)) = growG G (wd.take i) ++ imgG G s := by rw [take_more hs, growG_app, growG_one]
      have l1 : (growG G (wd.take (i + 1))).length ≤ 1000000 := Nat.le_trans (growG_take _ _ _) hlen
      rw [e1, List.length_append] at l1
      obtain ⟨tn, tb, ht, hk2, htb⟩ := ty_sy (K := K) (H := H2) s
      refine ⟨_, rfl, s.v, tn, tb, rfl, ht, hk2, tb, rfl, ?_⟩
      subst htb
      have one : isL s = false → (if (!isL s) = true then (tDrop (tBM K "list" rAppend (tVar 2) (tCons (tVar 3) tNil)) { nx := fun σ' H' => ∃ y3 : Option V, σ' = [some (.ref a), some (.ref d), some (.ref po), y3] ∧ Same H H' ∧ H' po = some (.lst (wv (growG G (wd.take (i + 1))))), rt := Q, bk := fun σ' H' => False, ct := fun _ _ => False } [some (.ref a), some (.ref d), some (.ref po), some s.v] H2 : Prop) else True) := fun _ => by
        by_cases z : (!isL s) = true
        · rw [if_pos z]
          refine ⟨_, rfl, .inl ⟨rfl, _, SqL.of hp⟩, _, rfl, po, _, _, rfl, rfl, hp, ?_, some s.v, rfl, sPut S2 n1, ?_⟩
          · rw [List.length_map, sizeLine_eq]; omega
          · have ei : imgG G s = [s] := by
              cases s <;> first
                | rfl
                | cases z
            rw [upd_same, e1, ei]
            simp only [wv, List.map_append, List.map_cons, List.map_nil]
        · rw [if_neg z]; trivial
      cases s with
      | l j =>
        have hj := hk j (List.mem_of_getElem? hs)
        obtain ⟨b, hb1, hb2⟩ := paired_get hG (List.getElem?_eq_getElem hj)
        have ej : G j = gs[j] := by rw [← hGG]; show gs.getD j [] = _; rw [List.getD_eq_getElem?_getD, List.getElem?_eq_getElem hj]; rfl
        rw [← ej] at hb2
        refine iteF ⟨_, rfl, .inl ⟨rfl, _, SqL.of hp⟩, _, rfl, _, rfl, d, _, _, .ref b, rfl, rfl, SqT.of (S2 _ _ hd), atI_nat (by rw [List.getElem?_map, hb1]; rfl), po, b, _, G j, rfl, rfl, hp, hb2.same S2, ?_, some (Sy.v (.l j)), rfl, sPut S2 n1, ?_⟩
        · have l2 : (imgG G (.l j)).length = (G j).length := rfl
          rw [List.length_map, sizeLine_eq]; omega
        · rw [upd_same, e1]
          show some (HO.lst (wv (growG G (wd.take i)) ++ wv (G j))) = some (HO.lst (wv (growG G (wd.take i) ++ G j)))
          simp only [wv, List.map_append]
      | p => exact one rfl
      | m => exact one rfl
      | o => exact one rfl
      | c => exact one rfl
    · rintro σ H2 ⟨y3, rfl, S2, hp⟩
      rw [List.length_map, List.take_length] at hp
      exact ⟨_, rfl, po, _, rfl, SqL.of hp, NewW.of (fun H3 p3 S3 n3 h3 => q H3 p3 (S2.trans S3) (S2.free n3) h3) rfl⟩
theorem ok_sped {f : Addr} {fd : FuncData} {k : Nat} {C fI : Addr} {t40 t4 : Tok} (T : TmTxt P K mg C fI) (F : Fun K "sped" "sped" s_sped f fd) (GB : Got P w K mg base "check_book" k ["value"] spCheckBook) (GN : Got P w K mg base "check_number" k ["value", "least", "most"] spCheckNum)
    (GR : Got P w K mg base "replace_letters" k ["word", "grown"] spReplaceT) (mR : mg "range" = none) (mT : mg "tuple" = none) (mA : mg "any" = none) (ml : mg "len" = none) (m4 : mg "MOST_SPEED" = some (.int 4 t4)) (m40 : mg "MOST_PARTS" = some (.int 40 t40)) :
    FnOk P w K mg base (L2.CX P w) (k + 1) f fd ["book", "many"] (spSpedX C) := by
  refine F.okX sc_sped (fun vs H Q E h => ?_) (fun cdv A outer s H vs Q E hr h => ?_)
  · obtain ⟨b, m, ws, st, rfl, _⟩ := h
    rfl
  · obtain ⟨b, m, ws, st, rfl, hb, hg, hm1, hm4, q1, q2⟩ := h
    have nd := sc_sped.nd
    refine ⟨_, pss_cons (ps_expr (pcall GB hr (pa_cons (pv 0) pa_nil)))
      (pss_cons (ps_expr (pcall GN hr (pa_cons (pv 1) (pa_cons pe_int (pa_cons (pe_glob (v := .int 4) rfl m4 ⟨_, rfl⟩) pa_nil)))))
      (pss_cons (ps_asg (pv 0) (pg_tup (by rfl) (pgs_cons (pg_name (i := 2) nd rfl (.inl rfl)) (pgs_cons (pg_name (i := 3) nd rfl (.inl rfl)) pgs_nil))))
      (pss_cons (ps_set (i := 4) nd rfl (.inr rfl) (pv 2))
      (pss_cons (ps_for (passes_of rfl) rfl (pi_range1 rfl mR (pa_cons (pe_op op_sub (pv 1) pe_int) pa_nil)) (pg_name (i := 5) nd rfl (.inl rfl))
        (pss_cons (ps_set (i := 4) nd rfl (.inr rfl) (ptupleN mT (pe_lc (own := [("word", 6)]) (g := gName 6) (tt := tYes) (te := tCall spReplaceT [] E0 (tCons (tVar 6) (tCons (tVar 4) tNil))) rfl nd (pi_tup (pv 2)) (blkOk_by (N := n_sped) (sc := defScope s_sped) (by decide +kernel))
          (fun _ _ _ _ _ => pg_name (i := 6) nd rfl (Or.inl rfl)) (fun _ _ _ _ _ => pts_nil) (fun _ _ _ _ _ => pcall GR hr (pa_cons (pv 6) (pa_cons (pv 4) pa_nil))))))
        (pss_one (ps_if (pt_val (pe_callB (cr_any rfl) (by rfl) mA (by decide +kernel) (pa_cons (pe_lc (own := [("word", 6)]) (g := gName 6) (tt := tYes) (te := tOp (rI0 fun i j => .bl (decide (j < i))) (tCB (rLenS K) (tCons (tVar 6) tNil)) (tC (.int 40))) rfl nd (pi_tup (pv 4)) (blkOk_by (N := n_sped) (sc := defScope s_sped) (by decide +kernel))
          (fun _ _ _ _ _ => pg_name (i := 6) nd rfl (Or.inl rfl)) (fun _ _ _ _ _ => pts_nil) (fun _ _ _ _ _ => pe_cmpR op_gt (plen ml (pv 6)) (pe_glob (v := .int 40) rfl m40 ⟨_, rfl⟩) (nomark _))) pa_nil) (by decide) (by decide)))
          (pss_one (ps_raiseTm rfl T hr (takes_of rfl rfl rfl rfl) (by exact (pa_cons (pe_glob (v := .int 40) rfl m40 ⟨_, rfl⟩) pa_nil)))) pss_nil))))
      (pss_one (ps_ret (ptupN (pa_cons (pv 4) (pa_cons (pv 3) pa_nil))))))))), ?_⟩
    refine ⟨_, rfl, b, ws, st, rfl, hb, hg, fun H1 S1 => ?_⟩
    obtain ⟨p, pq, as, b1, b2, b3, b4⟩ := id (hb.keep (.of S1))
    have el := b4.length
    have few := hg.few
    refine ⟨_, rfl, (m : Int), 1, 4, rfl, by omega, by omega, ?_⟩
    refine ⟨_, rfl, b, _, rfl, SqT.of b1, rfl, _, _, rfl, _, _, rfl, rfl, ?_⟩
    refine ⟨_, rfl, ?_⟩
    refine ⟨_, rfl, _, _, rfl, rfl, (m : Int) - 1, rfl, by omega, by omega, ?_⟩
    rw [show ((m : Int) - 1).toNat = m - 1 by omega]
    have short1 : Short ws 1 := fun k hk => by rw [gI_one]; exact (getD_good hg.words hk).len
    have sle : ∀ {i : Nat}, Short ws i → ∀ w ∈ sW ws i, w.length ≤ 40 := fun hs w hw => by
      obtain ⟨k, hk, rfl⟩ := List.mem_map.mp hw
      exact hs k (List.mem_range.mp hk)
    refine for_range (lo := 0) (n := m - 1) (fun i σ H' => ∃ (g : Addr) (ds : List Addr) (y5 y6 : Option V), σ = [some (.ref b), some (.int m), some (.ref p), some (.ref pq), some (.ref g), y5, y6] ∧ Same H1 H' ∧ H' g = some (.tup (ds.map V.ref)) ∧ Words H' ds (sW ws (i + 1)) ∧ Short ws (i + 1))
      ⟨p, as, _, _, rfl, Same.refl _, b2, by rw [sW_one]; exact b4, short1⟩ ?_ ?_
    · rintro i σ H2 hi ⟨g, ds, y5, y6, rfl, S2, hgd, hW, hsh⟩
      refine ⟨_, rfl, p, rfl, ⟨_, SqT.of (S2 _ _ b2)⟩, fun D nD => ?_⟩
      refine lc_tup (K := K) (a := p) (xs := as.map V.ref) (fun j H' => Same H2 H' ∧ ∃ fs : List Addr, H' D = some (.lst (fs.map V.ref)) ∧ Words H' fs ((sW ws (i + 2)).take j)) ⟨same_upd nD, [], upd_same, .nil⟩ (fun j H' _ h => SqT.of (h.1 _ _ (S2 _ _ b2))) ?_ ?_
      · rintro j x H3 hx ⟨S3, fs, hD, hF⟩
        obtain ⟨a, w1, rfl, hj, ea, hwa, gw⟩ := word_get b4 hg.words hx
        have gl := gw.len
        have lF := hF.length
        rw [List.length_take, sW_len] at lF
        have h40 := growG_40 (ws := ws) (sle hsh) w1
        have eg : growG (fun k => (sW ws (i + 1)).getD k []) w1 = gI ws (i + 2) j := by
          show _ = growG (gI ws (i + 1)) (ws.getD j [])
          rw [List.getD_eq_getElem?_getD, ea]
          exact growG_congr fun k hk => sW_get ws (i + 1) (gw.lets k hk)
        refine ⟨rfl, _, rfl, _, rfl, a, g, w1, ds, sW ws (i + 1), rfl, (hwa.same S2).same S3, S3 _ _ hgd, hW.keep (.of S3), fun k hk => by rw [sW_len]; exact gw.lets k hk, by omega, fun H4 t S4 n4 h4 => ⟨_, S4 _ _ hD, ?_, sPut (S3.trans S4) nD, fs ++ [t], ?_, ?_⟩⟩
        · rw [List.length_map, sizeLine_eq]; omega
        · rw [upd_same, List.map_append]; rfl
        · have T4 : TupS H4 (upd H4 D (.lst (fs.map V.ref ++ [V.ref t]))) := TupS.refl.lst (S4 _ _ hD)
          rw [take_more (sW_get? ws (i + 2) hj)]
          rw [eg] at h4
          exact Paired.snoc ((hF.keep (.of S4)).keep T4) (T4.wd h4)
      · rintro H3 ⟨S3, fs, hD, hF⟩
        rw [List.length_map, el, List.take_of_length_le (by rw [sW_len]; exact Nat.le_refl _)] at hF
        refine ⟨D, _, rfl, SqL.of hD, fun H4 g2 S4 n4 h4 => ?_⟩
        have S24 := S3.trans S4
        have hF4 := hF.keep (.of S4)
        have lF := hF4.length
        rw [sW_len] at lF
        refine ⟨_, rfl, g2, rfl, ⟨_, SqT.of h4⟩, fun D2 nD2 => ?_⟩
        refine lc_tup (K := K) (a := g2) (xs := fs.map V.ref) (fun j H' => Same H4 H' ∧ H' D2 = some (.lst ((((sW ws (i + 2)).take j).map fun w => decide (40 < w.length)).map V.bl))) ⟨same_upd nD2, upd_same⟩ (fun j H' _ h => SqT.of (h.1 _ _ h4)) ?_ ?_
        · rintro j x H5 hx ⟨S5, hD2⟩
          obtain ⟨a, rfl, ha⟩ : ∃ a, x = V.ref a ∧ fs[j]? = some a := by
            rw [List.getElem?_map] at hx
            cases e : fs[j]? with
            | none => rw [e] at hx; cases hx
            | some a => rw [e] at hx; exact ⟨a, (Option.some.inj hx).symm, rfl⟩
          have hj : j < (sW ws (i + 2)).length := by
            have := (List.getElem?_eq_some_iff.mp ha).1
            rw [sW_len]; omega
          have hjs := hj
          rw [sW_len] at hjs
          have ew := sW_get? ws (i + 2) hjs
          obtain ⟨a', ha', hwa⟩ := paired_get hF4 ew
          rw [ha] at ha'
          cases ha'
          refine ⟨rfl, _, rfl, a, _, rfl, .inr (hwa.same S5).sq, _, _, rfl, rfl, _, hD2, ?_, sPut S5 nD2, ?_⟩
          · rw [List.length_map, List.length_map, List.length_take, sW_len, sizeLine_eq]; omega
          · have ed : decide ((40 : Int) < ((wv (gI ws (i + 2) j)).length : Int)) = decide (40 < (gI ws (i + 2) j).length) := by
              rw [List.length_map]
              exact decide_eq_decide.mpr (by omega)
            rw [upd_same, take_more ew, List.map_append, List.map_append]
            dsimp only
            rw [ed]
            rfl
        · rintro H5 ⟨S5, hD2⟩
          rw [List.length_map, lF, List.take_of_length_le (by rw [sW_len]; exact Nat.le_refl _)] at hD2
          refine ⟨D2, _, rfl, SqL.of hD2, _, rfl, ?_⟩
          have S25 := S24.trans S5
          by_cases z : Short ws (i + 2)
          · have e : ((sW ws (i + 2)).map fun w => decide (40 < w.length)).any id = false := by
              rw [List.any_eq_false]
              intro x hx
              obtain ⟨w2, hw2, rfl⟩ := List.mem_map.mp hx
              have := sle z w2 hw2
              show ¬ (decide (40 < w2.length)) = true
              rw [decide_eq_false (by omega)]
              exact Bool.false_ne_true
            rw [e]
            exact iteF ⟨g2, fs, _, _, rfl, S2.trans S25, S5 _ _ h4, hF4.keep (.of S5), z⟩
          · have e : ((sW ws (i + 2)).map fun w => decide (40 < w.length)).any id = true := by
              refine Classical.byContradiction fun ne => z fun k hk => ?_
              refine Classical.byContradiction fun hl => ne ?_
              rw [List.any_eq_true]
              exact ⟨true, List.mem_map.mpr ⟨gI ws (i + 2) k, List.mem_map.mpr ⟨k, List.mem_range.mpr hk, rfl⟩, decide_eq_true (by omega)⟩, rfl⟩
            rw [e]
            refine iteT ⟨40, rfl, by decide +kernel, by rw [sizeLine_eq]; decide +kernel, fun d hd => ?_⟩
            have S05 := (S1.trans S2).trans S25
            exact q2 (fun hs => z fun k hk => Nat.le_trans (gI_le hg hk (by omega)) (hs k hk)) _ d (sUpd S05 hd) (S05.free hd) upd_same
    · rintro σ H2 ⟨g, ds, y5, y6, rfl, S2, hgd, hW, hsh⟩
      rw [show m - 1 + 1 = m by omega] at hW hsh
      refine ⟨_, rfl, _, rfl, szl 2, fun H3 p3 S3 n3 h3 => ?_⟩
      have S03 := (S1.trans S2).trans S3
      exact q1 hsh H3 p3 S03 ((S1.trans S2).free n3) ⟨g, pq, ds, h3, S3 _ _ hgd, (b3.same S2).same S3, hW.keep (.of S3)⟩
end
end SK
namespace SK
open PySem PySem.Spec PyProof.Rows L2
/-! ### words turned over and turned round: how they grow -/
theorem flipW_app (a b : List Sy) : flipW (a ++ b) = flipW a ++ flipW b := List.map_append
theorem getD_flip (ws : List (List Sy)) (k : Nat) : (ws.map flipW).getD k [] = flipW (ws.getD k []) := by
  rw [List.getD_eq_getElem?_getD, List.getD_eq_getElem?_getD, List.getElem?_map]
  cases ws[k]? <;> rfl
theorem img_flip (ws : List (List Sy)) (s : Sy) : img (ws.map flipW) (flipS s) = flipW (img ws s) := by
  cases s with
  | l k => exact getD_flip ws k
  | p => rfl
  | m => rfl
  | o => rfl
  | c => rfl
theorem grow_flip (ws : List (List Sy)) : ∀ w : List Sy, grow (ws.map flipW) (flipW w) = flipW (grow ws w)
  | [] => rfl
  | s :: w => by
    show img (ws.map flipW) (flipS s) ++ grow (ws.map flipW) (flipW w) = flipW (img ws s ++ grow ws w)
    rw [flipW_app, img_flip, grow_flip]
theorem grown_flip (ws : List (List Sy)) (st : List Sy) : ∀ n, grown (ws.map flipW) (flipW st) n = flipW (grown ws st n)
  | 0 => rfl
  | n + 1 => by
    show grow _ (grown (ws.map flipW) (flipW st) n) = flipW (grow ws (grown ws st n))
    rw [grown_flip, grow_flip]
theorem backW_app (a b : List Sy) : backW (a ++ b) = backW b ++ backW a := by
  unfold backW
  rw [flipW_app, List.reverse_append]
theorem getD_back (ws : List (List Sy)) (k : Nat) : (ws.map backW).getD k [] = backW (ws.getD k []) := by
  rw [List.getD_eq_getElem?_getD, List.getD_eq_getElem?_getD, List.getElem?_map]
  cases ws[k]? <;> rfl
theorem img_back (ws : List (List Sy)) (s : Sy) : img (ws.map backW) (flipS s) = backW (img ws s) := by
  cases s with
  | l k => exact getD_back ws k
  | p => rfl
  | m => rfl
  | o => rfl
  | c => rfl
theorem grow_back (ws : List (List Sy)) : ∀ w : List Sy, grow (ws.map backW) (backW w) = backW (grow ws w)
  | [] => rfl
  | s :: w => by
    rw [show backW (s :: w) = backW w ++ [flipS s] from by unfold backW flipW; rw [List.map_cons, List.reverse_cons], grow_app, grow_back]
    show backW (grow ws w) ++ (img (ws.map backW) (flipS s) ++ []) = backW (img ws s ++ grow ws w)
    rw [backW_app, img_back, List.append_nil]
theorem grown_back (ws : List (List Sy)) (st : List Sy) : ∀ n, grown (ws.map backW) (backW st) n = backW (grown ws st n)
  | 0 => rfl
  | n + 1 => by
    show grow _ (grown (ws.map backW) (backW st) n) = backW (grow ws (grown ws st n))
    rw [grown_back, grow_back]
/-! ### they are good -/
theorem isL_flip (s : Sy) : isL (flipS s) = isL s := by cases s <;> rfl
theorem nL_flip (w : List Sy) : nL (flipW w) = nL w := by
  unfold nL flipW
  rw [List.filter_map, List.length_map]
  congr 1
  refine List.filter_congr fun s _ => ?_
  exact isL_flip s
theorem nest_flip : ∀ (w : List Sy) (d : Nat), nest (flipW w) d = nest w d
  | [], _ => rfl
  | .l k :: w, d => nest_flip w d
  | .p :: w, d => nest_flip w d
  | .m :: w, d => nest_flip w d
  | .o :: w, d => nest_flip w (d + 1)
  | .c :: w, d => by
    cases d with
    | zero => rfl
    | succ d => exact nest_flip w d
theorem l_flip {k : Nat} {w : List Sy} (h : Sy.l k ∈ flipW w) : Sy.l k ∈ w := by
  obtain ⟨s, hs, e⟩ := List.mem_map.mp h
  cases s <;> first | (cases e; exact hs) | cases e
theorem good_flip {n L : Nat} {w : List Sy} (h : Good n L w) : Good n L (flipW w) := by
  refine ⟨by rw [nest_flip]; exact h.nst, fun k hk => h.lets k (l_flip hk), ?_, by rw [flipW_len]; exact h.len, by rw [flipW_len, nL_flip]; exact h.slim⟩
  have e := h.has
  rw [List.any_eq_true] at e ⊢
  obtain ⟨s, hs, e⟩ := e
  exact ⟨flipS s, List.mem_map_of_mem hs, by rw [isL_flip]; exact e⟩
theorem book_flip {ws : List (List Sy)} {st : List Sy} (g : GoodBook ws st) : GoodBook (ws.map flipW) (flipW st) := by
  have e : (ws.map flipW).length = ws.length := List.length_map _
  refine ⟨by rw [e]; exact g.one, by rw [e]; exact g.few, fun w hw => ?_, by rw [e]; exact good_flip g.start⟩
  obtain ⟨v, hv, rfl⟩ := List.mem_map.mp hw
  rw [e]
  exact good_flip (g.words v hv)
def FlatW (w : List Sy) : Prop := Sy.o ∉ w ∧ Sy.c ∉ w
theorem nest_noO : ∀ (w : List Sy) (d e : Nat), Sy.o ∉ w → nest w d = some e → e ≤ d ∧ (Sy.c ∈ w → e < d)
  | [], d, e, _, h => by
    cases h
    exact ⟨Nat.le_refl _, fun z => nomatch z⟩
  | .l k :: w, d, e, ho, h => by
    obtain ⟨a, b⟩ := nest_noO w d e (fun z => ho (List.mem_cons_of_mem _ z)) h
    exact ⟨a, fun z => b (by rcases List.mem_cons.mp z with z | z; exact absurd z (by intro q; cases q); exact z)⟩
  | .p :: w, d, e, ho, h => by
    obtain ⟨a, b⟩ := nest_noO w d e (fun z => ho (List.mem_cons_of_mem _ z)) h
    exact ⟨a, fun z => b (by rcases List.mem_cons.mp z with z | z; exact absurd z (by intro q; cases q); exact z)⟩
  | .m :: w, d, e, ho, h => by
    obtain ⟨a, b⟩ := nest_noO w d e (fun z => ho (List.mem_cons_of_mem _ z)) h
    exact ⟨a, fun z => b (by rcases List.mem_cons.mp z with z | z; exact absurd z (by intro q; cases q); exact z)⟩
  | .o :: w, d, e, ho, h => absurd List.mem_cons_self ho
  | .c :: w, d, e, ho, h => by
    cases d with
    | zero => cases h
    | succ d =>
      obtain ⟨a, b⟩ := nest_noO w d e (fun z => ho (List.mem_cons_of_mem _ z)) h
      exact ⟨by omega, fun _ => by omega⟩
theorem flat_of {w : List Sy} (h : nest w 0 = some 0) (ho : Sy.o ∉ w) : FlatW w := ⟨ho, fun hc => absurd ((nest_noO w 0 0 ho h).2 hc) (Nat.lt_irrefl _)⟩
theorem nest_flatW : ∀ {w : List Sy} (d : Nat), FlatW w → nest w d = some d
  | [], _, _ => rfl
  | .l k :: w, d, h => nest_flatW (w := w) d ⟨fun z => h.1 (List.mem_cons_of_mem _ z), fun z => h.2 (List.mem_cons_of_mem _ z)⟩
  | .p :: w, d, h => nest_flatW (w := w) d ⟨fun z => h.1 (List.mem_cons_of_mem _ z), fun z => h.2 (List.mem_cons_of_mem _ z)⟩
  | .m :: w, d, h => nest_flatW (w := w) d ⟨fun z => h.1 (List.mem_cons_of_mem _ z), fun z => h.2 (List.mem_cons_of_mem _ z)⟩
  | .o :: w, d, h => absurd List.mem_cons_self h.1
  | .c :: w, d, h => absurd List.mem_cons_self h.2
theorem o_flip {w : List Sy} (h : Sy.o ∈ flipW w) : Sy.o ∈ w := by
  obtain ⟨s, hs, e⟩ := List.mem_map.mp h
  cases s <;> first | (cases e; exact hs) | cases e
theorem c_flip {w : List Sy} (h : Sy.c ∈ flipW w) : Sy.c ∈ w := by
  obtain ⟨s, hs, e⟩ := List.mem_map.mp h
  cases s <;> first | (cases e; exact hs) | cases e
theorem flat_back {w : List Sy} (h : FlatW w) : FlatW (backW w) := ⟨fun z => h.1 (o_flip (List.mem_reverse.mp z)), fun z => h.2 (c_flip (List.mem_reverse.mp z))⟩
theorem nL_rev (w : List Sy) : nL w.reverse = nL w := by unfold nL; rw [List.filter_reverse, List.length_reverse]
theorem good_back {n L : Nat} {w : List Sy} (h : Good n L w) (ho : Sy.o ∉ w) : Good n L (backW w) := by
  have g := good_flip h
  refine ⟨nest_flatW 0 (flat_back (flat_of h.nst ho)), fun k hk => g.lets k (List.mem_reverse.mp hk), ?_, by rw [backW_len]; exact h.len, by rw [backW_len]; unfold backW; rw [nL_rev, nL_flip]; exact h.slim⟩
  unfold backW
  rw [List.any_reverse]
  exact g.has
theorem book_back {ws : List (List Sy)} {st : List Sy} (g : GoodBook ws st) (h : Plain ws st) : GoodBook (ws.map backW) (backW st) := by
  have e : (ws.map backW).length = ws.length := List.length_map _
  refine ⟨by rw [e]; exact g.one, by rw [e]; exact g.few, fun w hw => ?_, by rw [e]; exact good_back g.start (h st (by simp))⟩
  obtain ⟨v, hv, rfl⟩ := List.mem_map.mp hw
  rw [e]
  exact good_back (g.words v hv) (h v (by simp [hv]))
theorem grown_noO {ws : List (List Sy)} {st : List Sy} (h : Plain ws st) : ∀ n, Sy.o ∉ grown ws st n
  | 0 => h st (by simp)
  | n + 1 => fun z => by
    obtain ⟨s, hs, hi⟩ := List.mem_flatMap.mp (show Sy.o ∈ (grown ws st n).flatMap (img ws) from z)
    cases s with
    | l k =>
      have hi : Sy.o ∈ ws.getD k [] := hi
      rw [List.getD_eq_getElem?_getD] at hi
      cases e : ws[k]? with
      | none => rw [e] at hi; exact nomatch hi
      | some v => rw [e] at hi; exact h v (List.mem_append_left _ (List.mem_of_getElem? e)) hi
    | o => exact grown_noO h n hs
    | p => cases List.mem_singleton.mp hi
    | m => cases List.mem_singleton.mp hi
    | c => cases List.mem_singleton.mp hi
/-! ### the drawing of a word turned over -/
def cjS (s : Stk) : Stk := (s.1, 0 - s.2.1, (0 - s.2.2.1) % 4, s.2.2.2)
def cjQ (q : Plc) : Plc := (q.1, 0 - q.2.1, (0 - q.2.2) % 4)
def cjP (p : Pen) : Pen := ⟨p.x, 0 - p.y, (0 - p.h) % 4, p.st.map cjQ, p.out.map cjS⟩
theorem rot_cj (h : Int) : rot ((0 - h) % 4) (1, 0) = ((rot h (1, 0)).1, 0 - (rot h (1, 0)).2) := by
  rw [rot_mod]
  rcases rot4 h with ⟨a, e⟩ | ⟨a, e⟩ | ⟨a, e⟩ | ⟨a, e⟩ <;> rcases rot4 (0 - h) with ⟨b, f⟩ | ⟨b, f⟩ | ⟨b, f⟩ | ⟨b, f⟩ <;> first | (exfalso; omega) | (rw [e, f]; rfl)
theorem cj_step (p : Pen) (s : Sy) : pstepE one (cjP p) (flipS s) = cjP (pstepE one p s) := by
  cases s with
  | l k =>
    show Pen.mk _ _ _ _ _ = Pen.mk _ _ _ _ _
    have r := rot_cj p.h
    have e1 : (mv (cjP p).pl (one k)).1 = (mv p.pl (one k)).1 := by
      show p.x + (rot ((0 - p.h) % 4) (1, 0)).1 = p.x + (rot p.h (1, 0)).1
      rw [r]
    have e2 : (mv (cjP p).pl (one k)).2.1 = 0 - (mv p.pl (one k)).2.1 := by
      show 0 - p.y + (rot ((0 - p.h) % 4) (1, 0)).2 = 0 - (p.y + (rot p.h (1, 0)).2)
      rw [r]
      dsimp only
      omega
    have e3 : (mv (cjP p).pl (one k)).2.2 = (0 - (mv p.pl (one k)).2.2) % 4 := by
      show ((0 - p.h) % 4 + 0) % 4 = (0 - (p.h + 0) % 4) % 4
      omega
    rw [e1, e2, e3]
    congr 1
    show p.out.map cjS ++ [_] = (p.out ++ [_]).map cjS
    rw [List.map_append]
    rfl
  | o =>
    show Pen.mk _ _ _ _ _ = Pen.mk _ _ _ _ _
    congr 1
    show p.st.map cjQ ++ [_] = (p.st ++ [_]).map cjQ
    rw [List.map_append]
    rfl
  | c =>
    show (match (p.st.map cjQ).getLast? with
        | some (a, b, c) => { cjP p with x := a, y := b, h := c, st := (p.st.map cjQ).dropLast }
        | none => cjP p) = cjP (match p.st.getLast? with
        | some (a, b, c) => { p with x := a, y := b, h := c, st := p.st.dropLast }
        | none => p)
    rw [List.getLast?_map]
    cases p.st.getLast? with
    | none => rfl
    | some t =>
      obtain ⟨a, b, c⟩ := t
      show Pen.mk _ _ _ _ _ = Pen.mk _ _ _ _ _
      congr 1
      exact (List.map_dropLast (f := cjQ)).symm
  | p =>
    show Pen.mk _ _ _ _ _ = Pen.mk _ _ _ _ _
    congr 1
    show ((0 - p.h) % 4 + 3) % 4 = (0 - (p.h + 1) % 4) % 4
    omega
  | m =>
    show Pen.mk _ _ _ _ _ = Pen.mk _ _ _ _ _
    congr 1
    show ((0 - p.h) % 4 + 1) % 4 = (0 - (p.h + 3) % 4) % 4
    omega
theorem cj_run : ∀ (w : List Sy) (p : Pen), penF one (cjP p) (flipW w) = cjP (penF one p w)
  | [], p => rfl
  | s :: w, p => by
    show penF one (pstepE one (cjP p) (flipS s)) (flipW w) = cjP (penF one (pstepE one p s) w)
    rw [cj_step, cj_run]
theorem strokes_flip (w : List Sy) : strokes (flipW w) = (strokes w).map cjS := by
  unfold strokes
  rw [← pen_one, ← pen_one]
  have h := cj_run w org
  rw [show cjP org = org from rfl] at h
  rw [show penE one (flipW w) = cjP (penE one w) from h]
  rfl
/-! ### the drawing of a word turned round -/
def bS (e : Plc) (s : Stk) : Stk :=
  ((rot (0 - e.2.2 - 2) (s.1 + (dir s.2.2.1).1 - e.1, s.2.1 + (dir s.2.2.1).2 - e.2.1)).1, (rot (0 - e.2.2 - 2) (s.1 + (dir s.2.2.1).1 - e.1, s.2.1 + (dir s.2.2.1).2 - e.2.1)).2, (s.2.2.1 - e.2.2) % 4, s.2.2.2)
theorem pen_cons (s : Sy) {w : List Sy} (h : nest w 0 ≠ none) (hs : (pstepE one org s).st = []) : (pen (s :: w)).out = (pstepE one org s).out ++ (pen w).out.map (sh (pstepE one org s).pl) := by
  rw [← pen_one, ← pen_one]
  show (penF one (pstepE one org s) w).out = _
  have k := hok_step (E := one) hok_org s
  have r := comp_run one (pstepE one org s).pl (pstepE one org s).st (pstepE one org s).out w org h
  rw [comp_org k] at r
  rw [r]
  rfl
theorem pen_snocE (v : List Sy) (s : Sy) : pen (v ++ [s]) = pstepE one (pen v) s := by rw [pen_snoc, pstep_one (hok_pen v)]
theorem h4 {h : Int} (a : 0 ≤ h ∧ h < 4) : h = 0 ∨ h = 1 ∨ h = 2 ∨ h = 3 := by omega
theorem sh_bS_l {x y h : Int} (hh : 0 ≤ h ∧ h < 4) (k : Nat) (s : Stk) : sh (1, 0, 0) (bS (x, y, h) s) = bS (mv (x, y, h) (1, 0, 0)) s := by
  generalize ha : s.1 + (dir s.2.2.1).1 = a
  generalize hb : s.2.1 + (dir s.2.2.1).2 = b
  have e1 : bS (x, y, h) s = ((rot (0 - h - 2) (a - x, b - y)).1, (rot (0 - h - 2) (a - x, b - y)).2, (s.2.2.1 - h) % 4, s.2.2.2) := by unfold bS; rw [ha, hb]
  have e2 : bS (mv (x, y, h) (1, 0, 0)) s = ((rot (0 - (h + 0) % 4 - 2) (a - (x + (rot h (1, 0)).1), b - (y + (rot h (1, 0)).2))).1, (rot (0 - (h + 0) % 4 - 2) (a - (x + (rot h (1, 0)).1), b - (y + (rot h (1, 0)).2))).2, (s.2.2.1 - (h + 0) % 4) % 4, s.2.2.2) := by unfold bS; rw [ha, hb]; rfl
  rw [e1, e2]
  rcases h4 hh with rfl | rfl | rfl | rfl <;> simp [sh, mv, rot] <;> omega
theorem sh_bS_p {x y h : Int} (hh : 0 ≤ h ∧ h < 4) (s : Stk) : sh (0, 0, 3) (bS (x, y, h) s) = bS (x, y, (h + 1) % 4) s := by
  generalize ha : s.1 + (dir s.2.2.1).1 = a
  generalize hb : s.2.1 + (dir s.2.2.1).2 = b
  have e1 : ∀ h, bS (x, y, h) s = ((rot (0 - h - 2) (a - x, b - y)).1, (rot (0 - h - 2) (a - x, b - y)).2, (s.2.2.1 - h) % 4, s.2.2.2) := fun h => by unfold bS; rw [ha, hb]
  rw [e1, e1]
  rcases h4 hh with rfl | rfl | rfl | rfl <;> simp [sh, mv, rot] <;> omega
theorem sh_bS_m {x y h : Int} (hh : 0 ≤ h ∧ h < 4) (s : Stk) : sh (0, 0, 1) (bS (x, y, h) s) = bS (x, y, (h + 3) % 4) s := by
  generalize ha : s.1 + (dir s.2.2.1).1 = a
  generalize hb : s.2.1 + (dir s.2.2.1).2 = b
  have e1 : ∀ h, bS (x, y, h) s = ((rot (0 - h - 2) (a - x, b - y)).1, (rot (0 - h - 2) (a - x, b - y)).2, (s.2.2.1 - h) % 4, s.2.2.2) := fun h => by unfold bS; rw [ha, hb]
  rw [e1, e1]
  rcases h4 hh with rfl | rfl | rfl | rfl <;> simp [sh, mv, rot] <;> omega
theorem bS_end {x y h : Int} (hh : 0 ≤ h ∧ h < 4) (k : Nat) : bS (mv (x, y, h) (1, 0, 0)) (x, y, h, k) = (0, 0, 0, k) := by
  rcases h4 hh with rfl | rfl | rfl | rfl <;> simp [bS, mv, rot, dir] <;> omega
theorem strokes_back' : ∀ u : List Sy, FlatW u.reverse → strokes (backW u.reverse) = (strokes u.reverse).reverse.map (bS (pen u.reverse).pl)
  | [], _ => rfl
  | s :: u, hf => by
    have hf' : FlatW u.reverse := ⟨fun z => hf.1 (by rw [List.reverse_cons]; exact List.mem_append_left _ z), fun z => hf.2 (by rw [List.reverse_cons]; exact List.mem_append_left _ z)⟩
    have ih := strokes_back' u hf'
    have hn : nest (backW u.reverse) 0 ≠ none := by rw [nest_flatW 0 (flat_back hf')]; exact fun z => nomatch z
    rw [List.reverse_cons]
    generalize hv : u.reverse = v at ih hn
    have hh := (hok_pen v).h
    have eb : backW (v ++ [s]) = flipS s :: backW v := by rw [backW_app]; rfl
    unfold strokes at ih ⊢
    rw [eb, pen_snocE]
    cases s with
    | l k =>
      rw [show flipS (.l k) = .l k from rfl, pen_cons _ hn rfl, ih]
      show [((0 : Int), (0 : Int), (0 : Int), k)] ++ List.map (sh (1, 0, 0)) ((pen v).out.reverse.map (bS (pen v).pl)) = ((pen v).out ++ [((pen v).x, (pen v).y, (pen v).h, k)]).reverse.map (bS (mv (pen v).pl (1, 0, 0)))
      rw [List.reverse_append, List.map_append, List.map_map]
      show _ :: _ = bS (mv ((pen v).x, (pen v).y, (pen v).h) (1, 0, 0)) ((pen v).x, (pen v).y, (pen v).h, k) :: _
      rw [bS_end hh]
      congr 1
      refine List.map_congr_left fun t _ => ?_
      exact sh_bS_l hh k t
    | p =>
      rw [show flipS .p = .m from rfl, pen_cons _ hn rfl, ih]
      show List.map (sh (0, 0, 3)) ((pen v).out.reverse.map (bS (pen v).pl)) = (pen v).out.reverse.map (bS ((pen v).x, (pen v).y, ((pen v).h + 1) % 4))
      rw [List.map_map]
      exact List.map_congr_left fun t _ => sh_bS_p hh t
    | m =>
      rw [show flipS .m = .p from rfl, pen_cons _ hn rfl, ih]
      show List.map (sh (0, 0, 1)) ((pen v).out.reverse.map (bS (pen v).pl)) = (pen v).out.reverse.map (bS ((pen v).x, (pen v).y, ((pen v).h + 3) % 4))
      rw [List.map_map]
      exact List.map_congr_left fun t _ => sh_bS_m hh t
    | o => exact absurd (by simp) hf.1
    | c => exact absurd (by simp) hf.2
theorem strokes_back {w : List Sy} (h : FlatW w) : strokes (backW w) = (strokes w).reverse.map (bS ((pen w).x, (pen w).y, (pen w).h)) := by
  have e := strokes_back' w.reverse (by rw [List.reverse_reverse]; exact h)
  rw [List.reverse_reverse] at e
  exact e
end SK
/-! what may raise, where it doesn't; fields as targets; what stands when an instance is written -/
namespace SK
open PySem PySem.Spec PyProof.Rows L2
section
variable {P : Program} {w : World} {K : PySem.W.Frag} {mg : Str → Option Value} {base : Heap}
/-- a def that may raise lets nothing out where its promise has no way out -/
theorem cool {k : Nat} {f : Addr} {fd : FuncData} {ps : List Str} {sp sp0 : Sp} (F : FnOk P w K mg base (L2.CX P w) k f fd ps sp) (h : ∀ vs H Q E, sp0 vs H Q E → sp vs H Q E0) : FnOk P w K mg base CX0 k f fd ps sp0 :=
  ⟨fun vs H Q E z => F.len vs H Q E0 (h _ _ _ _ z), fun A outer s H args us vs Q E hr e0 b r z => codeAny_mono (F.run A outer s H args us vs Q E0 hr e0 b r (h _ _ _ _ z)) fun r s' hq => match r, hq with
    | .ok (.ret _), hq => hq
    | .ok .next, hq => hq
    | .ok .brk, hq => hq
    | .ok .cont, hq => hq
    | .error _, ⟨_, _, _, _, _, _, _, _, _, _, _, _, z⟩ => z⟩
end
def gFld (K : PySem.W.Frag) (to : TE) (f : Str) : TG := fun v σ H Q => to σ H fun o H1 => ∃ a C dx fs, o = .ref a ∧ H1 a = some (.ins C dx fs) ∧ Cls K C ∧ NoAttr K C f ∧ fs.length < 1000 ∧ Q σ (upd H1 a (.ins C dx (putF f v fs)))
theorem pg_fld {X : Cx} {o : Expr} {f : Str} {to : TE} {pos : Pos} (ho : PE X o to)
    (ha : ∀ v, assign (.Attribute o f pos) X.env v = (do
      let ov ← holding [v] (eval o X.env)
      standAt pos.atName
      holding [v, ov] (setAttr ov f v)
      release [v, ov] []) := by intro _; rfl) : PG X (.Attribute o f pos) (gFld X.K to f) := by
  refine ⟨fun pins s σ H v u Q I r h => ?_⟩
  rw [ha]
  refine wpAny_bind (wpAny_holding (thn (ho.run pins s σ H _ I h) fun ov s1 ⟨x, H1, I1, r1, a, C, dx, fs, ex, ea, c, n, l, q⟩ => ?_))
  subst ex
  obtain rfl : ov = Value.ref a := r1
  refine wpAny_bind (wpAny_standAt (wpAny_bind (wpAny_holding (setattr_ok I1 ea c n l r fun s3 I3 => ?_))))
  exact wpAny_release ⟨σ, _, I3, q⟩
theorem lk0 {f : Str} {v : V} {l : List (Str × V)} : List.lookup f ((f, v) :: l) = some v := by simp [List.lookup]
theorem lkS {f g : Str} {v : V} {l : List (Str × V)} (h : ¬ f = g) : List.lookup f ((g, v) :: l) = List.lookup f l := by
  have e : (f == g) = false := by simpa using h
  simp [List.lookup, e]
theorem putF_new {f : Str} {v : V} : ∀ {fs : List (Str × V)}, (∀ p ∈ fs, ¬ p.1 = f) → putF f v fs = fs ++ [(f, v)]
  | [], _ => rfl
  | (g, u) :: fs, h => by
    show (if g = f then _ else (g, u) :: putF f v fs) = _
    rw [if_neg (h (g, u) List.mem_cons_self), putF_new fun p hp => h p (List.mem_cons_of_mem _ hp)]
    rfl
/-- all that is no instance stands -/
def KeepI (H H' : Hp) : Prop := ∀ c o, (∀ C dx fs, o ≠ .ins C dx fs) → H c = some o → H' c = some o
theorem KeepI.of {H H' : Hp} (s : Same H H') : KeepI H H' := fun c o _ e => s c o e
theorem KeepI.trans {H H' H2 : Hp} (a : KeepI H H') (b : KeepI H' H2) : KeepI H H2 := fun c o n e => b c o n (a c o n e)
theorem KeepI.ins {H : Hp} {p C dx : Addr} {fs : List (Str × V)} {o : HO} (h : H p = some (.ins C dx fs)) : KeepI H (upd H p o) := fun c u n e => by
  have z : c ≠ p := fun z => by
    rw [z, h] at e
    exact n C dx fs (Option.some.inj e).symm
  rw [upd_ne z]
  exact e
theorem KeepI.tup {H H' : Hp} (k : KeepI H H') : TupS H H' := ⟨fun b xs e => k b _ (fun _ _ _ z => nomatch z) e, fun b o u e => k b _ (fun _ _ _ z => nomatch z) e⟩
theorem KeepI.lst {H H' : Hp} (k : KeepI H H') {b : Addr} {xs : List V} (e : H b = some (.lst xs)) : H' b = some (.lst xs) := k b _ (fun _ _ _ z => nomatch z) e
theorem KeepI.dK {H H' : Hp} (k : KeepI H H') {b : Addr} {kvs : List (Key × V)} (e : H b = some (.dK kvs)) : H' b = some (.dK kvs) := k b _ (fun _ _ _ z => nomatch z) e
end SK
/-! what is known of defs that may raise, of methods, of the making of instances -/
namespace SK
open PySem PySem.Spec PyProof.Rows L2
/-- a method of a class of the module -/
structure GotM (P : Program) (w : World) (K : PySem.W.Frag) (mg : Str → Option Value) (base : Heap) (CX : CXT) (C : Addr) (m : Str) (k : Nat) (ps : List Str) (sp : Sp) : Prop where
  ex : ∃ (f : Addr) (fd : FuncData), FnOk P w K mg base CX k f fd ps sp ∧ Meth K C m f ∧ Binds K fd ps []
theorem pmeth {X : Cx} {C : Addr} {m : Str} {k : Nat} {ps : List Str} {sp : Sp} {e o : Expr} {es : List Expr} {ta : TE} {t : TA} {pos apos : Pos} {pl : Sem Bool} (G : GotM X.prog X.w X.K X.mg X.base CX0 C m k ps sp) (hr : Room k X.A) (c : Cls X.K C) (he : PE X o ta) (ha : PA X (e :: es) t)
    (hst : starEach (e :: es) X.env = (false, eval e X.env) :: starEach es X.env := by rfl) (hpl : (backTo pos (starEach es X.env)).any (·.1) = false := by rfl)
    (ht : eval (.Call (.Attribute o m apos) (e :: es) [] pos) X.env = (do
      let ov ← eval o X.env
      standAt apos.atName
      let (f, first) ← holding [ov] (getMethod ov m pl)
      callWith pos f first (backTo pos (starEach (e :: es) X.env)) (backToKw pos (keywordEach [] X.env))) := by rfl) :
    PE X (.Call (.Attribute o m apos) (e :: es) [] pos) (tMeth C m sp [] E0 ta t) := by
  obtain ⟨f, fd, F, hm, b⟩ := G.ex
  exact pe_meth he c hm F hr b .nil pass0 ha hst hpl ht
/-- a def that may raise -/
structure GotX (P : Program) (w : World) (K : PySem.W.Frag) (mg : Str → Option Value) (base : Heap) (x : Str) (k : Nat) (ps : List Str) (sp : Sp) : Prop where
  ex : ∃ (f : Addr) (fd : FuncData), FnOk P w K mg base (L2.CX P w) k f fd ps sp ∧ mg x = some (.ref f) ∧ PySem.W.keepIn K (.ref f) = true ∧ Binds K fd ps []
theorem pcallX {X : Cx} {W : WX} {x : Str} {k : Nat} {ps : List Str} {sp : Sp} {e : Expr} {es : List Expr} {t : TA} {p pos : Pos} (G : GotX X.prog X.w X.K X.mg X.base x k ps sp) (hr : Room k X.A) (tk : Takes X W) (ha : PA X (e :: es) t) (hg : Gl X x := by rfl)
    (hdb : (x == ("__debug__" : Str)) = false := by decide)
    (he : starEach (e :: es) X.env = (false, eval e X.env) :: starEach es X.env := by rfl) (hpl : (backTo pos (starEach es X.env)).any (·.1) = false := by rfl) : PE X (.Call (.Name x p) (e :: es) [] pos) (tCallS sp (WE W) t) := by
  obtain ⟨f, fd, F, a, b, c⟩ := G.ex
  exact pe_callS F hr hg a b c (fun σ => passAt tk σ) ha hdb he hpl
theorem GotX.mono {P : Program} {w : World} {K : PySem.W.Frag} {mg : Str → Option Value} {base : Heap} {x : Str} {j k : Nat} {ps : List Str} {sp : Sp} (g : GotX P w K mg base x j ps sp) (h : j ≤ k) : GotX P w K mg base x k ps sp := by
  obtain ⟨f, fd, F, a, b, c⟩ := g.ex
  exact ⟨f, fd, F.mono h, a, b, c⟩
/-- .. and lets nothing out -/
theorem GotX.cool {P : Program} {w : World} {K : PySem.W.Frag} {mg : Str → Option Value} {base : Heap} {x : Str} {k : Nat} {ps : List Str} {sp sp0 : Sp} (g : GotX P w K mg base x k ps sp) (h : ∀ vs H Q E, sp0 vs H Q E → sp vs H Q E0) : Got P w K mg base x k ps sp0 := by
  obtain ⟨f, fd, F, a, b, c⟩ := g.ex
  exact ⟨f, fd, SK.cool F h, a, b, c⟩
theorem GotM.mono {P : Program} {w : World} {K : PySem.W.Frag} {mg : Str → Option Value} {base : Heap} {CX : CXT} {C : Addr} {m : Str} {j k : Nat} {ps : List Str} {sp : Sp} (g : GotM P w K mg base CX C m j ps sp) (h : j ≤ k) : GotM P w K mg base CX C m k ps sp := by
  obtain ⟨f, fd, F, a, b⟩ := g.ex
  exact ⟨f, fd, F.mono h, a, b⟩
theorem pmethX {X : Cx} {C : Addr} {m : Str} {k : Nat} {ps : List Str} {sp : Sp} {e o : Expr} {es : List Expr} {ta : TE} {t : TA} {pos apos : Pos} {pl : Sem Bool} {W : WX} {E : XK} (G : GotM X.prog X.w X.K X.mg X.base (L2.CX X.prog X.w) C m k ps sp) (hr : Room k X.A) (c : Cls X.K C) (tk : Takes X W) (hW : ∀ cls d σ H, E cls d H → W cls d σ H) (he : PE X o ta) (ha : PA X (e :: es) t)
    (hst : starEach (e :: es) X.env = (false, eval e X.env) :: starEach es X.env := by rfl) (hpl : (backTo pos (starEach es X.env)).any (·.1) = false := by rfl)
    (ht : eval (.Call (.Attribute o m apos) (e :: es) [] pos) X.env = (do
      let ov ← eval o X.env
      standAt apos.atName
      let (f, first) ← holding [ov] (getMethod ov m pl)
      callWith pos f first (backTo pos (starEach (e :: es) X.env)) (backToKw pos (keywordEach [] X.env))) := by rfl) :
    PE X (.Call (.Attribute o m apos) (e :: es) [] pos) (tMeth C m sp [] E ta t) := by
  obtain ⟨f, fd, F, hm, b⟩ := G.ex
  exact pe_meth he c hm F hr b .nil (passes_call tk hW) ha hst hpl ht
/-- the making of a class of the module -/
structure GotC (P : Program) (w : World) (K : PySem.W.Frag) (mg : Str → Option Value) (base : Heap) (x : Str) (C : Addr) (k : Nat) (ps : List Str) (sp : Sp) : Prop where
  gC : mg x = some (.ref C)
  ex : ∃ (f : Addr) (fd : FuncData), Mk K C f ∧ FnOk P w K mg base CX0 k f fd ps sp ∧ Binds K fd ps []
theorem GotC.mono {P : Program} {w : World} {K : PySem.W.Frag} {mg : Str → Option Value} {base : Heap} {x : Str} {C : Addr} {j k : Nat} {ps : List Str} {sp : Sp} (g : GotC P w K mg base x C j ps sp) (h : j ≤ k) : GotC P w K mg base x C k ps sp := by
  obtain ⟨f, fd, M, F, b⟩ := g.ex
  exact ⟨g.gC, f, fd, M, F.mono h, b⟩
theorem pmake {X : Cx} {C : Addr} {x : Str} {k : Nat} {ps : List Str} {sp : Sp} {e : Expr} {es : List Expr} {t : TA} {p pos : Pos} (G : GotC X.prog X.w X.K X.mg X.base x C k ps sp) (hr : Room (k + 1) X.A) (ha : PA X (e :: es) t) (hg : Gl X x := by rfl) (hdb : (x == ("__debug__" : Str)) = false := by decide)
    (he : starEach (e :: es) X.env = (false, eval e X.env) :: starEach es X.env := by rfl) (hpl : (backTo pos (starEach es X.env)).any (·.1) = false := by rfl) : PE X (.Call (.Name x p) (e :: es) [] pos) (tMake C sp [] E0 t) := by
  obtain ⟨f, fd, M, F, b⟩ := G.ex
  exact pe_make M F hr hg G.gC b .nil pass0 ha hdb he hpl
end SK
/-! errors whose context is None: TooMany raised, defs that let such out -/
namespace SK
open PySem PySem.Spec PyProof.Rows L2
open PySem.W PySem.Calls PySem.HandSPX
section
variable {X : Cx} {C fI : Addr}
theorem pmk_tmN {a : Expr} {ta : TA} {p pos : Pos} {k : Nat} (T : TmTxt X.prog X.K X.mg C fI) (hr : Room k X.A) (ha : PA X [a] ta) (hg : Gl X "TooMany" := by rfl)
    (he : starEach (a :: []) X.env = (false, eval a X.env) :: starEach [] X.env := by rfl) (hpl : (backTo pos (starEach [] X.env)).any (·.1) = false := by rfl) :
    L2N.PMk X (.Call (.Name "TooMany" p) [a] [] pos) (tMkTm C ta) := by
  intro pins s σ H Q I h
  refine wpAny_Call_Name_kw (ld_glob I hg T.gC ?_)
  refine PySem.W.callWith_K (h₀ := X.base) I.ok.mod.kin T.kC (thn (ha.run pos pins s σ H _ I h) fun us s1 hh => ?_) he hpl
  obtain ⟨vs, H1, I1, r1, i, ev, hi, hl, q1⟩ := hh
  subst ev
  refine ⟨I1.kIn, ?_⟩
  obtain ⟨v', rfl, rv⟩ := vals1 r1
  obtain ⟨t, rfl⟩ := id rv
  show wpAny _ _ (call (.ref C) [.int i t]) _ _ _
  have hlim := I1.nolimit
  obtain ⟨mb, hb1, hb2⟩ := I1.mod.blt
  have hns := I1.mod.glob.keeps I1.bk
  have hb1' := hb1.keeps I1.bk
  obtain ⟨hp, g, dr, tk, os⟩ := s1
  refine wpAny_call (tm_made T I1.kIn hlim hns ⟨mb, hb1', hb2⟩ (by have := hr.dp; omega) hi hl fun h' tk' e d M => ?_)
  show L2N.MkP X pins σ Q (.ref e) ⟨h', g, dr, tk', os⟩
  obtain ⟨oe, fv, hoe, hc, hd, hdat, h1, h2⟩ := M.obj
  obtain ⟨G', g1, g2⟩ := restrict h' fun b => decide (b ≠ e)
  have gk : ∀ b, b ≠ e → G'.get? b = h'.get? b := fun b hb => g1 b (decide_eq_true hb)
  have ge : G'.get? e = none := g2 e (by simp)
  have old : ∀ b o, hp.get? b = some o → G'.get? b = some o := fun b o q => (gk b (Nat.ne_of_lt (Nat.lt_of_lt_of_le (Heap.lt_size q) M.new))).trans (M.keep b o q)
  have ob : ObjOk X.prog X.w (upd H1 d (.xd [(("most" : Str), .int i)])) G' d (.xd [(("most" : Str), .int i)]) := ⟨_, M.ns.at (fun o q => (gk d M.dne).trans q), fun f => relO_most rv f⟩
  have J : Inv X pins σ (upd H1 d (.xd [(("most" : Str), .int i)])) ⟨G', g, dr, tk', os⟩ := I1.laid (t' := tk') old M.dbig ob
  refine ⟨e, oe, fv, ⟨G', g, dr, tk', os⟩, _, .ref C, some d, rfl, J, fun b o q => ?_, ge, hoe, ⟨hc, hd, fun vs e => by rw [hdat] at e; cases e; exact h2⟩, hdat, h1, ?_, rfl, I1.bare, raises_own T.exC T.tyC, q1 d (I1.hok.fresh M.dbig)⟩
  · by_cases hb : b = e
    · rw [hb] at q
      exact absurd (show G'.get? e = some o from q) (by rw [ge]; exact fun z => nomatch z)
    · exact (gk b hb).symm.trans q
  · rw [upd_ne (Ne.symm M.dne)]
    exact I1.hok.fresh M.new
theorem ps_raiseTmN {a : Expr} {ta : TA} {W : WX} {p pos pos2 : Pos} {k : Nat} (hc : X.calm = true) (T : TmTxt X.prog X.K X.mg C fI) (hr : Room k X.A) (tk : L2N.Takes X W) (ha : PA X [a] ta) (hg : Gl X "TooMany" := by rfl)
    (he : starEach (a :: []) X.env = (false, eval a X.env) :: starEach [] X.env := by rfl) (hpl : (backTo pos (starEach [] X.env)).any (·.1) = false := by rfl) :
    PS X (.Raise (some (.Call (.Name "TooMany" p) [a] [] pos)) none pos2) (tRaiseTm C W ta) := L2N.ps_raise hc tk (pmk_tmN T hr ha hg he hpl)
end
section
variable {P : Program} {w : World} {K : PySem.W.Frag} {mg : Str → Option Value} {base : Heap}
theorem okXN {x qual : Str} {st : Stmt} {f : Addr} {fd : FuncData} {N ps : List Str} {k : Nat} {sp : Sp} (F : Fun K x qual st f fd) (S : FnScope N ps (defScope st)) (len : ∀ vs H Q E, sp vs H Q E → vs.length = ps.length)
    (hb : ∀ (cdv : Value) (A : Around) (outer : List Env) (s : Shared) (H : Hp) (vs : List V) (Q : VK) (E : XK), Room k (A.deeper (envOfC qual (defScope st) s.heap.objs.size f cdv)) → sp vs H Q E →
      ∃ t, PSs (cxOf (L2N.CX P w) P w K mg base N qual (defScope st) f cdv A outer s H E) (defBody st) t ∧ t { nx := fun _ H' => Q .non H', rt := Q } (start N vs) H) : FnOk P w K mg base (L2N.CX P w) (k + 1) f fd ps sp := by
  obtain ⟨oc, od, kV, doc, pm, an, cdv, ct, osl, rfl, lk, hcd⟩ := F.ex
  exact fn_of lk hcd S len fun A outer s H vs Q E hr h => hb cdv A outer s H vs Q E hr h
/-- a def that may raise, the error's context None -/
structure GotN (P : Program) (w : World) (K : PySem.W.Frag) (mg : Str → Option Value) (base : Heap) (x : Str) (k : Nat) (ps : List Str) (sp : Sp) : Prop where
  ex : ∃ (f : Addr) (fd : FuncData), FnOk P w K mg base (L2N.CX P w) k f fd ps sp ∧ mg x = some (.ref f) ∧ PySem.W.keepIn K (.ref f) = true ∧ Binds K fd ps []
theorem GotN.mono {x : Str} {j k : Nat} {ps : List Str} {sp : Sp} (g : GotN P w K mg base x j ps sp) (h : j ≤ k) : GotN P w K mg base x k ps sp := by
  obtain ⟨f, fd, F, a, b, c⟩ := g.ex
  exact ⟨f, fd, F.mono h, a, b, c⟩
end
theorem pcallN {X : Cx} {W : WX} {x : Str} {k : Nat} {ps : List Str} {sp : Sp} {e : Expr} {es : List Expr} {t : TA} {p pos : Pos} (G : GotN X.prog X.w X.K X.mg X.base x k ps sp) (hr : Room k X.A) (tk : L2N.Takes X W) (ha : PA X (e :: es) t) (hg : Gl X x := by rfl)
    (hdb : (x == ("__debug__" : Str)) = false := by decide)
    (he : starEach (e :: es) X.env = (false, eval e X.env) :: starEach es X.env := by rfl) (hpl : (backTo pos (starEach es X.env)).any (·.1) = false := by rfl) : PE X (.Call (.Name x p) (e :: es) [] pos) (tCallS sp (WE W) t) := by
  obtain ⟨f, fd, F, a, b, c⟩ := G.ex
  exact pe_callS F hr hg a b c (fun σ => L2N.passAt tk σ) ha hdb he hpl
/-- what is handled in a suite -/
theorem hotSuite {X : Cx} {a : Addr} {oe : Obj} {cls : Value} {d : Option Addr} {pn : List (Addr × Obj)} (hz : L2N.Zn cls d oe) (hf : ∃ vs, oe.data = .fields vs) : L2H.HotC (X.suite a ((a, oe) :: pn)) := by
  obtain ⟨vs, e⟩ := hf
  exact ⟨(a, oe), ⟨rfl, vs, e, hz.2.2 vs e⟩, List.mem_cons_self⟩
end SK
namespace SK
open PySem PySem.Spec PyProof.Rows L2
section
variable {P : Program} {w : World} {K : PySem.W.Frag} {mg : Str → Option Value} {base : Heap}
theorem ok_spedN {f : Addr} {fd : FuncData} {k : Nat} {C fI : Addr} {t40 t4 : Tok} (T : TmTxt P K mg C fI) (F : Fun K "sped" "sped" s_sped f fd) (GB : Got P w K mg base "check_book" k ["value"] spCheckBook) (GN : Got P w K mg base "check_number" k ["value", "least", "most"] spCheckNum)
    (GR : Got P w K mg base "replace_letters" k ["word", "grown"] spReplaceT) (mR : mg "range" = none) (mT : mg "tuple" = none) (mA : mg "any" = none) (ml : mg "len" = none) (m4 : mg "MOST_SPEED" = some (.int 4 t4)) (m40 : mg "MOST_PARTS" = some (.int 40 t40)) :
    FnOk P w K mg base (L2N.CX P w) (k + 1) f fd ["book", "many"] (spSpedX C) := by
  refine okXN F sc_sped (fun vs H Q E h => ?_) (fun cdv A outer s H vs Q E hr h => ?_)
  · obtain ⟨b, m, ws, st, rfl, _⟩ := h
    rfl
  · obtain ⟨b, m, ws, st, rfl, hb, hg, hm1, hm4, q1, q2⟩ := h
    have nd := sc_sped.nd
    refine ⟨_, pss_cons (ps_expr (pcall GB hr (pa_cons (pv 0) pa_nil)))
      (pss_cons (ps_expr (pcall GN hr (pa_cons (pv 1) (pa_cons pe_int (pa_cons (pe_glob (v := .int 4) rfl m4 ⟨_, rfl⟩) pa_nil)))))
      (pss_cons (ps_asg (pv 0) (pg_tup (by rfl) (pgs_cons (pg_name (i := 2) nd rfl (.inl rfl)) (pgs_cons (pg_name (i := 3) nd rfl (.inl rfl)) pgs_nil))))
      (pss_cons (ps_set (i := 4) nd rfl (.inr rfl) (pv 2))
      (pss_cons (ps_for (passes_of rfl) rfl (pi_range1 rfl mR (pa_cons (pe_op op_sub (pv 1) pe_int) pa_nil)) (pg_name (i := 5) nd rfl (.inl rfl))
        (pss_cons (ps_set (i := 4) nd rfl (.inr rfl) (ptupleN mT (pe_lc (own := [("word", 6)]) (g := gName 6) (tt := tYes) (te := tCall spReplaceT [] E0 (tCons (tVar 6) (tCons (tVar 4) tNil))) rfl nd (pi_tup (pv 2)) (blkOk_by (N := n_sped) (sc := defScope s_sped) (by decide +kernel))
          (fun _ _ _ _ _ => pg_name (i := 6) nd rfl (Or.inl rfl)) (fun _ _ _ _ _ => pts_nil) (fun _ _ _ _ _ => pcall GR hr (pa_cons (pv 6) (pa_cons (pv 4) pa_nil))))))
        (pss_one (ps_if (pt_val (pe_callB (cr_any rfl) (by rfl) mA (by decide +kernel) (pa_cons (pe_lc (own := [("word", 6)]) (g := gName 6) (tt := tYes) (te := tOp (rI0 fun i j => .bl (decide (j < i))) (tCB (rLenS K) (tCons (tVar 6) tNil)) (tC (.int 40))) rfl nd (pi_tup (pv 4)) (blkOk_by (N := n_sped) (sc := defScope s_sped) (by decide +kernel))
          (fun _ _ _ _ _ => pg_name (i := 6) nd rfl (Or.inl rfl)) (fun _ _ _ _ _ => pts_nil) (fun _ _ _ _ _ => pe_cmpR op_gt (plen ml (pv 6)) (pe_glob (v := .int 40) rfl m40 ⟨_, rfl⟩) (nomark _))) pa_nil) (by decide) (by decide)))
          (pss_one (ps_raiseTmN rfl T hr (L2N.takes_of rfl rfl rfl rfl) (by exact (pa_cons (pe_glob (v := .int 40) rfl m40 ⟨_, rfl⟩) pa_nil)))) pss_nil))))
      (pss_one (ps_ret (ptupN (pa_cons (pv 4) (pa_cons (pv 3) pa_nil))))))))), ?_⟩
    refine ⟨_, rfl, b, ws, st, rfl, hb, hg, fun H1 S1 => ?_⟩
    obtain ⟨p, pq, as, b1, b2, b3, b4⟩ := id (hb.keep (.of S1))
    have el := b4.length
    have few := hg.few
    refine ⟨_, rfl, (m : Int), 1, 4, rfl, by omega, by omega, ?_⟩
    refine ⟨_, rfl, b, _, rfl, SqT.of b1, rfl, _, _, rfl, _, _, rfl, rfl, ?_⟩
    refine ⟨_, rfl, ?_⟩
    refine ⟨_, rfl, _, _, rfl, rfl, (m : Int) - 1, rfl, by omega, by omega, ?_⟩
    rw [show ((m : Int) - 1).toNat = m - 1 by omega]
    have short1 : Short ws 1 := fun k hk => by rw [gI_one]; exact (getD_good hg.words hk).len
    have sle : ∀ {i : Nat}, Short ws i → ∀ w ∈ sW ws i, w.length ≤ 40 := fun hs w hw => by
      obtain ⟨k, hk, rfl⟩ := List.mem_map.mp hw
      exact hs k (List.mem_range.mp hk)
    refine for_range (lo := 0) (n := m - 1) (fun i σ H' => ∃ (g : Addr) (ds : List Addr) (y5 y6 : Option V), σ = [some (.ref b), some (.int m), some (.ref p), some (.ref pq), some (.ref g), y5, y6] ∧ Same H1 H' ∧ H' g = some (.tup (ds.map V.ref)) ∧ Words H' ds (sW ws (i + 1)) ∧ Short ws (i + 1))
      ⟨p, as, _, _, rfl, Same.refl _, b2, by rw [sW_one]; exact b4, short1⟩ ?_ ?_
    · rintro i σ H2 hi ⟨g, ds, y5, y6, rfl, S2, hgd, hW, hsh⟩
      refine ⟨_, rfl, p, rfl, ⟨_, SqT.of (S2 _ _ b2)⟩, fun D nD => ?_⟩
      refine lc_tup (K := K) (a := p) (xs := as.map V.ref) (fun j H' => Same H2 H' ∧ ∃ fs : List Addr, H' D = some (.lst (fs.map V.ref)) ∧ Words H' fs ((sW ws (i + 2)).take j)) ⟨same_upd nD, [], upd_same, .nil⟩ (fun j H' _ h => SqT.of (h.1 _ _ (S2 _ _ b2))) ?_ ?_
      · rintro j x H3 hx ⟨S3, fs, hD, hF⟩
        obtain ⟨a, w1, rfl, hj, ea, hwa, gw⟩ := word_get b4 hg.words hx
        have gl := gw.len
        have lF := hF.length
        rw [List.length_take, sW_len] at lF
        have h40 := growG_40 (ws := ws) (sle hsh) w1
        have eg : growG (fun k => (sW ws (i + 1)).getD k []) w1 = gI ws (i + 2) j := by
          show _ = growG (gI ws (i + 1)) (ws.getD j [])
          rw [List.getD_eq_getElem?_getD, ea]
          exact growG_congr fun k hk => sW_get ws (i + 1) (gw.lets k hk)
        refine ⟨rfl, _, rfl, _, rfl, a, g, w1, ds, sW ws (i + 1), rfl, (hwa.same S2).same S3, S3 _ _ hgd, hW.keep (.of S3), fun k hk => by rw [sW_len]; exact gw.lets k hk, by omega, fun H4 t S4 n4 h4 => ⟨_, S4 _ _ hD, ?_, sPut (S3.trans S4) nD, fs ++ [t], ?_, ?_⟩⟩
        · rw [List.length_map, sizeLine_eq]; omega
        · rw [upd_same, List.map_append]; rfl
        · have T4 : TupS H4 (upd H4 D (.lst (fs.map V.ref ++ [V.ref t]))) := TupS.refl.lst (S4 _ _ hD)
          rw [take_more (sW_get? ws (i + 2) hj)]
          rw [eg] at h4
          exact Paired.snoc ((hF.keep (.of S4)).keep T4) (T4.wd h4)
      · rintro H3 ⟨S3, fs, hD, hF⟩
        rw [List.length_map, el, List.take_of_length_le (by rw [sW_len]; exact Nat.le_refl _)] at hF
        refine ⟨D, _, rfl, SqL.of hD, fun H4 g2 S4 n4 h4 => ?_⟩
        have S24 := S3.trans S4
        have hF4 := hF.keep (.of S4)
        have lF := hF4.length
        rw [sW_len] at lF
        refine ⟨_, rfl, g2, rfl, ⟨_, SqT.of h4⟩, fun D2 nD2 => ?_⟩
        refine lc_tup (K := K) (a := g2) (xs := fs.map V.ref) (fun j H' => Same H4 H' ∧ H' D2 = some (.lst ((((sW ws (i + 2)).take j).map fun w => decide (40 < w.length)).map V.bl))) ⟨same_upd nD2, upd_same⟩ (fun j H' _ h => SqT.of (h.1 _ _ h4)) ?_ ?_
        · rintro j x H5 hx ⟨S5, hD2⟩
          obtain ⟨a, rfl, ha⟩ : ∃ a, x = V.ref a ∧ fs[j]? = some a := by
            rw [List.getElem?_map] at hx
            cases e : fs[j]? with
            | none => rw [e] at hx; cases hx
            | some a => rw [e] at hx; exact ⟨a, (Option.some.inj hx).symm, rfl⟩
          have hj : j < (sW ws (i + 2)).length := by
            have := (List.getElem?_eq_some_iff.mp ha).1
            rw [sW_len]; omega
          have hjs := hj
          rw [sW_len] at hjs
          have ew := sW_get? ws (i + 2) hjs
          obtain ⟨a', ha', hwa⟩ := paired_get hF4 ew
          rw [ha] at ha'
          cases ha'
          refine ⟨rfl, _, rfl, a, _, rfl, .inr (hwa.same S5).sq, _, _, rfl, rfl, _, hD2, ?_, sPut S5 nD2, ?_⟩
          · rw [List.length_map, List.length_map, List.length_take, sW_len, sizeLine_eq]; omega
          · have ed : decide ((40 : Int) < ((wv (gI ws (i + 2) j)).length : Int)) = decide (40 < (gI ws (i + 2) j).length) := by
              rw [List.length_map]
              exact decide_eq_decide.mpr (by omega)
            rw [upd_same, take_more ew, List.map_append, List.map_append]
            dsimp only
            rw [ed]
            rfl
        · rintro H5 ⟨S5, hD2⟩
          rw [List.length_map, lF, List.take_of_length_le (by rw [sW_len]; exact Nat.le_refl _)] at hD2
          refine ⟨D2, _, rfl, SqL.of hD2, _, rfl, ?_⟩
          have S25 := S24.trans S5
          by_cases z : Short ws (i + 2)
          · have e : ((sW ws (i + 2)).map fun w => decide (40 < w.length)).any id = false := by
              rw [List.any_eq_false]
              intro x hx
              obtain ⟨w2, hw2, rfl⟩ := List.mem_map.mp hx
              have := sle z w2 hw2
              show ¬ (decide (40 < w2.length)) = true
              rw [decide_eq_false (by omega)]
              exact Bool.false_ne_true
            rw [e]
            exact iteF ⟨g2, fs, _, _, rfl, S2.trans S25, S5 _ _ h4, hF4.keep (.of S5), z⟩
          · have e : ((sW ws (i + 2)).map fun w => decide (40 < w.length)).any id = true := by
              refine Classical.byContradiction fun ne => z fun k hk => ?_
              refine Classical.byContradiction fun hl => ne ?_
              rw [List.any_eq_true]
              exact ⟨true, List.mem_map.mpr ⟨gI ws (i + 2) k, List.mem_map.mpr ⟨k, List.mem_range.mpr hk, rfl⟩, decide_eq_true (by omega)⟩, rfl⟩
            rw [e]
            refine iteT ⟨40, rfl, by decide +kernel, by rw [sizeLine_eq]; decide +kernel, fun d hd => ?_⟩
            have S05 := (S1.trans S2).trans S25
            exact q2 (fun hs => z fun k hk => Nat.le_trans (gI_le hg hk (by omega)) (hs k hk)) _ d (sUpd S05 hd) (S05.free hd) upd_same
    · rintro σ H2 ⟨g, ds, y5, y6, rfl, S2, hgd, hW, hsh⟩
      rw [show m - 1 + 1 = m by omega] at hW hsh
      refine ⟨_, rfl, _, rfl, szl 2, fun H3 p3 S3 n3 h3 => ?_⟩
      have S03 := (S1.trans S2).trans S3
      exact q1 hsh H3 p3 S03 ((S1.trans S2).free n3) ⟨g, pq, ds, h3, S3 _ _ hgd, (b3.same S2).same S3, hW.keep (.of S3)⟩
end
end SK
/-! while an error is handled: lists walked to their end, comprehensions over lists, max of a list -/
namespace HotM
open PySem PySem.Spec PyProof.Rows L2 HotX
section
variable {prog : Program} {w : World} {A : Around} {E : Value → Shared → Prop} {s : Shared}
/-- a list's iterator ends -/
theorem endList {it l x1 : Addr} {i : Nat} {items : Array Value} {Q : Option Value → Shared → Prop} (hot : HotAt A x1 s.heap) (hx1 : x1 ≠ it) (hit : s.heap.IsListIter it l i) (hl : s.heap.IsList l items) (hx : items[i]? = none)
    (hQ : ∀ h2, Heap.ExtBut it s.heap h2 → Q none { s with heap := h2 }) : wpAny (model prog w) A (pyNext (.ref it)) Q E s := by
  obtain ⟨oi, hoi, ci, di⟩ := id hit
  obtain ⟨ol, hol, _, nl, hdl⟩ := hl
  obtain ⟨hh, o1, vs1, h1, d1, c1⟩ := hot
  unfold pyNext
  refine wpAny_bind (wpAny_attempt (wpAny_callSpecial?_slot (name := Str.ofString "__next__") hit.typeIs slot_listiter_next (wpAny_call_entry slot_listiter_next hit.typeIs entry_listiter_next ?_ (args_listiter_next _))))
  show wpAny _ _ (field (.ref it) 0 >>= _) _ _ s
  refine wpAny_bind (wpAny_field hoi di (x := .ref l) rfl ?_)
  show wpAny _ _ (if (Value.ref l == Value.none) = true then _ else _) _ _ s
  rw [if_neg (by intro z; cases z)]
  show wpAny _ _ (field (.ref it) 1 >>= _) _ _ s
  refine wpAny_bind (wpAny_field hoi di (x := .int i 0) rfl ?_)
  show wpAny _ _ (seqItems? (.ref l) >>= _) _ _ s
  refine wpAny_bind (wpAny_seqItems hol hdl ?_)
  simp only [Int.toNat_natCast, hx]
  refine wpAny_bind (wpAny_rule (wpAny_bind (wpAny_setField hoi di (by simp) ?_)))
  generalize hu : s.heap.update it (Obj.mapFields (·.setIfInBounds 0 Value.none)) = hu1
  have g1 : hu1.get? x1 = some o1 := by rw [← hu, Heap.get?_update_other _ _ (fun z => hx1 z.symm)]; exact h1
  have be : Heap.ExtBut it s.heap hu1 := by rw [← hu]; exact (Heap.SameBut.update ..).extBut
  show wpAny _ _ (newExc (.type "StopIteration") [] >>= _) _ _ _
  refine wpAny_bind ?_
  simp only [newExc, newTuple]
  refine wpAny_bind (wpAny_newObj_type ?_ (by size_fits))
  refine wpAny_bind (m := firstArgMember _ _) (wpAny_of_eq (a := Value.none) (by first | rfl | (simp only [firstArgMember]; rfl)) ?_)
  refine wpAny_newObj_type ?_ (by size_fits)
  have g3 := Heap.get?_push_of_some { cls := .type "StopIteration", data := .fields #[.ref hu1.objs.size, .none, .none, .none, .bool false, .none, .none] } (Heap.get?_push_of_some { cls := .type "tuple", data := .seq ([] : List Value).toArray } g1)
  refine raiseNew_hot ⟨hh, o1, vs1, Heap.get?_push_of_some _ (Heap.get?_push_of_some _ g1), d1, c1⟩ (Nat.ne_of_lt (Heap.lt_size (Heap.get?_push_of_some _ g1))) (Heap.get?_push_size _ rfl) rfl (by first | (simp; done) | (simp; omega) | (simp only [Array.size_append]; simp; omega)) ?_
  refine wpAny_bind (wpAny_isInstance (T := "StopIteration") (b := true) ⟨_, Heap.get?_update_self _ (Heap.get?_push_size _ rfl) rfl, rfl⟩ isSubtype_stop ?_)
  refine wpAny_pure (hQ _ fun b o hb e => ?_)
  have e2 := be b o hb e
  rw [Heap.get?_update_other _ _ (Nat.ne_of_gt (Heap.lt_size (Heap.get?_push_of_some _ e2)))]
  exact Heap.get?_push_of_some _ (Heap.get?_push_of_some _ e2)
theorem walksL {x1 : Addr} {o1 : Obj} {vs1 : Array Value} (hh : A.handled = some (.ref x1)) (d1 : o1.data = .fields vs1) (c1 : vs1[2]? = some .none) (I ax : Addr) (hne : ax ≠ I) (hx1 : x1 ≠ I) (items : Array Value) :
    Walks prog w A I [I, ax, x1] [I] items.size (fun i v => items[i]? = some v) (fun i h => h.IsListIter I ax i ∧ h.IsList ax items ∧ h.get? x1 = some o1) where
  sub := fun b hb => by simp at hb; simp [hb]
  frame := fun _ _ _ st hk => ⟨st.1.at fun o e => hk I (by simp) o e, st.2.1.at fun o e => hk ax (by simp) o e, hk x1 (by simp) o1 st.2.2⟩
  item := fun i s Q E hi st hQ => by
    refine wpAny_pyNext_list_item st.1 st.2.1 (x := items[i]) (by simp [hi]) fun h2 hit2 hs2 => ?_
    have keep := fun b o hb e => hs2.extBut b o hb e
    exact hQ _ h2 s.toks (by simp [hi]) ⟨hit2, st.2.1.extBut hs2.extBut hne, keep x1 o1 hx1 st.2.2⟩ fun b o hb e => keep b o (fun h => hb (by simp [h])) e
  done := fun s Q E st hQ => endList ⟨hh, o1, vs1, st.2.2, d1, c1⟩ hx1 st.1 st.2.1 (by simp) fun h2 he => hQ h2 s.toks fun b o hb e => he b o (fun h => hb (by simp [h])) e
  self := fun _ _ _ _ st hQ => wpAny_pyIter_listiter st.1 hQ
theorem maxInts {l x1 : Addr} {xs : Array (Int × Tok)} {Q : Value → Shared → Prop} (hot : HotAt A x1 s.heap) (hl : s.heap.IsList l (intItems xs)) (hne : 0 < xs.size)
    (h : ∀ v h2 tk, (intItems xs)[argBest (fun i j => decide (numAt xs i > numAt xs j)) (xs.size - 1)]? = some v → (∀ b o, s.heap.get? b = some o → h2.get? b = some o) → Q v { s with heap := h2, toks := tk }) :
    wpAny (model prog w) A (call (.builtin "max") [.ref l]) Q E s := by
  obtain ⟨hh, o1, vs1, h1, d1, c1⟩ := hot
  refine call_max_walk (iter_intList hl fun s2 e st hfp hlI => ?_)
  subst e
  have lt1 : x1 < s.heap.objs.size := Heap.lt_size h1
  refine ⟨s.heap.objs.size, [s.heap.objs.size, l, x1], _, _, _, _, _, rfl, walksL (A := A.in1) hh d1 c1 _ l hlI (Nat.ne_of_lt lt1) (intItems xs), ⟨st.1, st.2, Heap.get?_push_of_some _ h1⟩, fun b hb => ?_, by simpa [intItems] using hne, CmpOf.ints_gt (numAt xs) (fun _ _ => intItems_at), fun v h2 tk hP hk => ?_⟩
  · rcases List.mem_cons.mp hb with rfl | hb
    · exact hfp _ (by simp)
    · rcases List.mem_cons.mp hb with rfl | hb
      · exact hfp _ (by simp)
      · rw [List.mem_singleton.mp hb]
        show x1 < (s.heap.push _).objs.size
        rw [Heap.size_push]
        exact Nat.lt_succ_of_lt lt1
  · exact h v h2 tk (by simpa [intItems] using hP) (old_kept hk)
theorem maxRaw {l x1 : Addr} {its : List Value} {ns : List Int} {Q : Value → Shared → Prop} (hot : HotAt A x1 s.heap) (hl : s.heap.IsList l its.toArray) (hi : IntsAre its ns) (hne : 0 < ns.length)
    (h : ∀ h2 tk M t2, (∀ b o, s.heap.get? b = some o → h2.get? b = some o) → M ∈ ns → (∀ a, a ∈ ns → a ≤ M) → Q (.int M t2) { s with heap := h2, toks := tk }) : wpAny (model prog w) A (call (.builtin "max") [.ref l]) Q E s := by
  obtain ⟨xs, e⟩ := hi.allInts.items
  have en : numsOf (intItems xs).toList = ns := by rw [← e]; exact hi.numsOf
  rw [nums_intItems] at en
  rw [e] at hl
  subst en
  refine maxInts hot hl (by simpa using hne) fun v h2 tk hv hk => ?_
  obtain ⟨t, rfl⟩ := intItems_at hv
  obtain ⟨b1, b2⟩ := argBest_gt (numAt xs) (xs.size - 1)
  have pos : 0 < xs.size := by simpa using hne
  refine h h2 tk _ t hk (by rw [numAt_eq]; exact PySem.getD_mem (by rw [List.length_map, Array.length_toList]; omega)) fun a ha => ?_
  obtain ⟨j, hj, rfl⟩ := mem_getD ha
  rw [List.length_map, Array.length_toList] at hj
  have b3 := b2 j (by omega)
  rwa [← numAt_eq]
end
section
variable {X : Cx}
theorem cr_maxH (hc : L2H.HotC X) : CallR X (.builtin "max") (rMax X.K) := by
  intro pins s σ H vs us Q I r h
  obtain ⟨a, ns, rfl, hs, hne, q⟩ := h
  obtain ⟨its, rv, hl, _⟩ := I.list hs
  obtain ⟨x1, hot⟩ := hc.at I
  rw [Vals.ref1 r]
  exact maxRaw hot hl.isList rv.ints hne fun h2 tk m t2 hk b1 b2 => ⟨.int _, H, I.kept hk, ⟨_, rfl⟩, q m b1 b2⟩
end
/-- the walk of a list -/
theorem turnL {P : Program} {w : World} {K : PySem.W.Frag} {tg : Expr} (a it : Addr) : L2H.TurnH P w K tg (Itl K a) [it] it (fun i h => h.IsListIter it a i) where
  mem := by simp
  obj := fun i h st b hb => (turn_list (P := P) (w := w) (K := K) (tg := tg) a it).obj i h st b hb
  keep := fun i h h2 st k => (turn_list (P := P) (w := w) (K := K) (tg := tg) a it).keep i h h2 st k
  item := by
    intro X hP hw hK hc i pins s σ H E I hf st hg
    subst hP hw hK
    obtain ⟨xs, x, hq, hx⟩ := hg
    obtain ⟨its, rv, p, hz⟩ := I.list hq
    obtain ⟨u, hu, ru⟩ := rv.get hx
    obtain ⟨f0, f1, f2, f3, f4, f5⟩ := hf it (by simp)
    refine wpAny_pyNext_list_item st p.isList (x := u) (by simpa using hu) fun h2 st2 sb => ?_
    obtain ⟨o, e, c, d⟩ := id st2
    have J : Inv X pins σ H { s with heap := h2 } := I.turned (t' := s.toks) (fun b o hb e => (sb.2 b hb).trans e) f0 f1 f3 f4 f5
    refine ⟨u, rfl, go_of (s := { s with heap := h2 }) e c d (by decide) ⟨x, H, J, ru, ⟨rfl, fun ys hy => ?_⟩, st2, fun b hb => (hf b hb).1⟩⟩
    rw [I.list_inj hy hq]
    exact hx
  done := by
    intro X hP hw hK hc i pins s σ H E I hf st hg
    subst hP hw hK
    obtain ⟨xs, hq, hx⟩ := hg
    obtain ⟨its, rv, p, hz⟩ := I.list hq
    obtain ⟨f0, f1, f2, f3, f4, f5⟩ := hf it (by simp)
    have hl := rv.length
    obtain ⟨q, ⟨hh, v1, e1, c1⟩, hp⟩ := hc
    have P1 := I.pin q (List.mem_append_left _ hp)
    exact endList ⟨hh, q.2, v1, P1.1, e1, c1⟩ (f5 q (List.mem_append_left _ hp)) st p.isList (by simp; omega) fun h2 eb => ⟨rfl, I.turned (t' := s.toks) (fun b o hb e => eb b o hb e) f0 f1 f3 f4 f5⟩
  self := fun _ _ _ _ _ st h => wpAny_pyIter_listiter st h
section
variable {X : Cx}
theorem pi_listH {tg l : Expr} {tl : TE} (hl : PE X l tl) : L2H.PIH X tg l (iList X.K tl) := by
  refine ⟨fun pins s σ H R I h => ?_⟩
  refine thn (hl.run pins s σ H _ I h) fun v s1 ⟨x, H1, I1, r1, q1⟩ => ?_
  obtain ⟨a, e, ⟨xs, hq⟩, q⟩ := q1
  subst e
  cases r1
  obtain ⟨its, rv, p, hz⟩ := I1.list hq
  refine wpAny_pyIter_list p.isList ⟨s1.heap.objs.size, [s1.heap.objs.size], _, _, H1, rfl, I1.kept (t' := s1.toks) fun b o e => Heap.get?_push_of_some _ e, turnL a _, ⟨_, Heap.get?_push_size _ rfl, rfl, rfl⟩, fun b hb => ?_, q⟩
  obtain rfl : b = s1.heap.objs.size := by simpa using hb
  exact I1.fpOk (Nat.le_refl _) (I1.hok.fresh (Nat.le_refl _))
/-- a comprehension's block within a suite: the handled error stays pinned -/
abbrev blkH (X : Cx) (s : Shared) (H : Hp) (scope : Scope) (ce : Env) (fp : List Addr) : Cx := { X.blk s H scope ce fp with pn := X.pn }
theorem invH {pins : List (Addr × Obj)} {σ τ : L2.St} {H : Hp} {s s2 : Shared} {scope : Scope} {ce : Env} {fp : List Addr} (I : Inv X pins σ H s) (J : Inv (X.blk s H scope ce fp) [] τ H s2) (hL : s.heap.objs.size ≤ ce.locals) (kp : ∀ b o, s.heap.get? b = some o → s2.heap.get? b = some o) :
    Inv (blkH X s H scope ce fp) [] τ H s2 := by
  have ok := J.ok
  refine ⟨⟨ok.mod, ok.kind, ok.glob, ok.blt, ok.above, ok.inj, ok.has, ok.cab, ok.hd, ok.frames, ok.stk, ok.exf, ok.bs, ok.bsz, ok.noex, ok.exfs, ok.funs, ok.frf⟩, J.os, J.bare, J.base, J.loc, J.cell, J.free, J.freeC, fun q hq => ?_, J.hok, J.len⟩
  have hq : q ∈ X.pn := by simpa using hq
  obtain ⟨p1, p2, p3, p4, p5⟩ := I.pin q (List.mem_append_left _ hq)
  refine ⟨kp _ _ p1, p2, ?_, fun z => ?_, p5⟩
  · have lt := Heap.lt_size p1
    exact Nat.ne_of_lt (Nat.lt_of_lt_of_le lt hL)
  · rcases List.mem_cons.mp (I.stkSub q.1 z) with z | z
    · exact p3 z
    · exact p4 z
theorem lcH {pins : List (Addr × Obj)} {s : Shared} {σ : L2.St} {H : Hp} {Q : VK} {elt tg iter : Expr} {ifs : List Expr} {scope : Scope} {own : List (Str × Nat)} {pos pos2 : Pos} {wi : TI} {g : TG} {tt : TT} {te : TE} {use : Option (Value → Sem Unit)} {Qf : Value → Shared → Prop}
    (hot : L2H.HotC X) (hN : X.N.Nodup) (I : Inv X pins σ H s) (hi : L2H.PIH X tg iter wi) (ok : BlkOk X.N X.env.scope scope own)
    (hg : ∀ (s : Shared) (H : Hp) (C : Addr) (cl : List (Str × Addr)) (fp : List Addr), PG (blkH X s H scope (compEnvC scope cl C X.env) fp) tg g) (ht : ∀ (s : Shared) (H : Hp) (C : Addr) (cl : List (Str × Addr)) (fp : List Addr), PTs (blkH X s H scope (compEnvC scope cl C X.env) fp) ifs tt)
    (he : ∀ (s : Shared) (H : Hp) (C : Addr) (cl : List (Str × Addr)) (fp : List Addr), PE (blkH X s H scope (compEnvC scope cl C X.env) fp) elt te) (hs : ∀ x, foldedSetIterable iter X.env x = pure x)
    (h : tLc wi g tt te (own.map (·.2)) σ H Q)
    (hRR : ∀ D C s2 m H2, Inv X pins σ H2 s2 → Q (.ref D) H2 → s2.heap.Ns C m → FpOk X pins H2 C → compPost (model X.prog X.w) X.A X.xe use Qf (.ref D) C (.ok .next) s2) :
    wpAny (model X.prog X.w) X.A (comprehension (.ListComp elt [⟨tg, iter, ifs, 0⟩] scope pos) scope X.env pos2 (newList []) false (eval iter X.env) use) Qf X.xe s := by
  have frees : ∀ y ∈ scope.names, y.2 = .free → ∃ c, X.env.cells.lookup y.1 = some c := fun y hy e => (ok.free y hy e).elim (fun k => I.ok.has _ (.inl k)) fun k => I.ok.has _ (.inr k)
  refine wpAny_comprehension_free (use := use) rfl hs (closure_ok frees) ok.kind (fun y hy e => by rw [ok.uniq y hy, e]) (thn (hi.run pins s σ H _ I h) fun xv s1 hx => thn hx fun iv s2 h2 => ?_)
  obtain ⟨it, fp, tn, J, H2, rfl, I2, T, st2, f2, q⟩ := h2
  refine wpAny_newObj_type (newEnv_comp ?_) (by show 0 ≤ sizeLine; decide)
  generalize hD : s2.heap.objs.size = D
  have nD : H2 D = none := I2.hok.fresh (Nat.le_of_eq hD)
  obtain ⟨W, ⟨m0, w0⟩, turn⟩ := q D nD
  generalize h3e : ({ s2 with heap := s2.heap.push { cls := .type "list", data := .seq ([] : List Value).toArray } } : Shared) = s3
  have h3 : s3.heap = s2.heap.push { cls := .type "list", data := .seq ([] : List Value).toArray } := by rw [← h3e]
  have I3 : Inv X pins σ (upd H2 D (.lst [])) s3 := by
    rw [← h3e]
    exact I2.laid (t' := s2.toks) (fun b o e => Heap.get?_push_of_some _ e) (Nat.le_of_eq hD) ⟨Nat.zero_le _, [], 0, .nil, by rw [← hD]; exact Heap.get?_push_size _ rfl⟩
  have f3 : ∀ b ∈ fp, FpOk X pins (upd H2 D (.lst [])) b ∧ b < s3.heap.objs.size := fun b hb => by
    obtain ⟨o, e, _⟩ := T.obj _ _ st2 b hb
    have lt := Heap.lt_size e
    refine ⟨⟨?_, (f2 b hb).2⟩, by rw [h3, Heap.size_push]; exact Nat.lt_succ_of_lt lt⟩
    rw [upd_ne (by rw [← hD]; exact Nat.ne_of_lt lt)]
    exact (f2 b hb).1
  have nf : ∀ b ∈ fp, (upd H2 D (.lst [])) b = none := fun b hb => (f3 b hb).1.1
  have st3 : tn 0 s3.heap := T.keep _ _ _ st2 fun b _ o e => by rw [h3]; exact Heap.get?_push_of_some _ e
  have I4 := block_start I3 ok hN f3
  have kp4 : ∀ b o, s3.heap.get? b = some o → (pushCells (s3.heap.push { cls := .type "dict", data := .dict #[] }) scope.names).get? b = some o := fun b o e => pushCells_keeps _ _ _ _ (Heap.get?_push_of_some _ e)
  have I5 := invH I3 I4 (Nat.le_refl _) kp4
  have pg := hg s3 (upd H2 D (.lst [])) s3.heap.objs.size (cellsFrom (s3.heap.objs.size + 1) scope.names (cloFrom X.env.cells scope.names [])) fp
  have pt := ht s3 (upd H2 D (.lst [])) s3.heap.objs.size (cellsFrom (s3.heap.objs.size + 1) scope.names (cloFrom X.env.cells scope.names [])) fp
  have pe := he s3 (upd H2 D (.lst [])) s3.heap.objs.size (cellsFrom (s3.heap.objs.size + 1) scope.names (cloFrom X.env.cells scope.names [])) fp
  show codeAny _ _ (.compStart (.ListComp elt [⟨tg, iter, ifs, 0⟩] scope pos) 0 (.ref it) (.ref D) (compEnvC scope (cellsFrom (s3.heap.objs.size + 1) scope.names (cloFrom X.env.cells scope.names [])) s3.heap.objs.size X.env)) (compPost (model X.prog X.w) X.A X.xe use Qf (.ref D) s3.heap.objs.size) { s3 with heap := pushCells (s3.heap.push { cls := .type "dict", data := .dict #[] }) scope.names }
  generalize hce : compEnvC scope (cellsFrom (s3.heap.objs.size + 1) scope.names (cloFrom X.env.cells scope.names [])) s3.heap.objs.size X.env = ce at I5 pg pt pe ⊢
  have cL : ce.locals = s3.heap.objs.size := by subst hce; rfl
  generalize hH3 : upd H2 D (.lst []) = H3 at I3 I5 pg pt pe w0 nf f3
  generalize h4e : ({ s3 with heap := pushCells (s3.heap.push { cls := .type "dict", data := .dict #[] }) scope.names } : Shared) = s4 at I5 ⊢
  have st4 : tn 0 s4.heap := T.keep _ _ _ st3 fun b _ o e => by rw [← h4e]; exact kp4 b o e
  have hotB : L2H.HotC (blkH X s3 H3 scope ce fp) := hot
  have pnf : ∀ b ∈ fp, ∀ p ∈ X.pn, p.1 ≠ b := fun b hb p hp => (f3 b hb).1.2.2.2.2.2 p (List.mem_append_left _ hp)
  have stat : ∀ {τ : L2.St} {H' : Hp} {t : Shared}, Inv (blkH X s3 H3 scope ce fp) [] τ H' t → (∀ b ∈ fp, H' b = none) → ∀ b ∈ fp, FpOk (blkH X s3 H3 scope ce fp) [] H' b := fun {τ H' t} J' hn b hb =>
    ⟨hn b hb, (J'.ok.exf b hb).1, J'.ok.exfs b hb, .inl hb, fun x c e => (J'.ok.exf b hb).2 x c e, fun p hp => pnf b hb p (by simpa using hp)⟩
  have turns : codeAny (model X.prog X.w) X.A (.compLoop (.ListComp elt [⟨tg, iter, ifs, 0⟩] scope pos) 0 (.ref it) (.ref D) ce) (compPost (model X.prog X.w) X.A X.xe use Qf (.ref D) s3.heap.objs.size) s4 := by
    refine compLoop_any (fun n t => ∃ i H', Inv (blkH X s3 H3 scope ce fp) [] (wipe σ (own.map (·.2))) H' t ∧ tn i t.heap ∧ (∀ b ∈ fp, H' b = none) ∧ W i n H') ?_ m0 ⟨0, H3, I5, st4, nf, w0⟩
    rintro n s5 ⟨i, H5, J5, st5, n5, w5⟩
    rcases turn i n H5 w5 with ⟨stop, fin⟩ | ⟨go, Nx, hNx, step⟩
    · refine thnF (T.done (blkH X s3 H3 scope ce fp) rfl rfl rfl hotB i [] s5 _ H5 (fun _ _ => False) J5 (stat J5 n5) st5 stop) fun r s6 ⟨hr, J6⟩ => ?_
      subst hr
      have I7 : Inv X pins σ H5 s6 := I3.call' (ch := fp) J6.os J6.base J6.hok J6.bare fun b hb => ⟨(f3 b hb).1.2.2.2.1, (f3 b hb).1.2.1, (f3 b hb).1.2.2.2.2.1, (f3 b hb).1.2.2.2.2.2⟩
      have nC : H5 s3.heap.objs.size = none := by
        have z : H5 ce.locals = none := J6.free
        rwa [cL] at z
      obtain ⟨m, hn, _⟩ := J6.loc
      have hn : s6.heap.Ns ce.locals m := hn
      rw [cL] at hn
      exact hRR D s3.heap.objs.size s6 m H5 I7 fin hn (I3.fpOk (Nat.le_refl _) nC)
    · refine thnF (T.item (blkH X s3 H3 scope ce fp) rfl rfl rfl hotB i [] s5 _ H5 (fun _ _ => False) J5 (stat J5 n5) st5 go) fun r s6 ⟨u, hr, h6⟩ => ?_
      subst hr
      refine thnF h6 fun _ s7 ⟨x, H7, J7, r7, y7, st7, n7⟩ => ?_
      refine thnF (pg.run _ s7 _ H7 x u _ (J7.pinned (stat J7 n7) (T.obj _ _ st7)) r7 (step x H7 y7)) fun _ s8 ⟨σ8, H8, J8, hw8, q8⟩ => thnF (pt.run _ s8 σ8 H8 _ J8 q8) fun b s9 ⟨H9, J9, q9⟩ => ?_
      have fin : ∀ {t : Shared} {H' : Hp}, Inv (blkH X s3 H3 scope ce fp) ([] ++ pinsAt fp s7.heap) σ8 H' t → Nx H' → ∃ m, m < n ∧ ∃ i H', Inv (blkH X s3 H3 scope ce fp) [] (wipe σ (own.map (·.2))) H' t ∧ tn i t.heap ∧ (∀ b ∈ fp, H' b = none) ∧ W i m H' := fun {t H'} J' nx => by
        obtain ⟨m2, hm, w2⟩ := hNx H' nx
        have still : ∀ b ∈ fp, ∀ o, s7.heap.get? b = some o → t.heap.get? b = some o ∧ H' b = none := fun b hb o e => by
          have z := J'.pin (b, o) (List.mem_append_right _ (List.mem_append_right _ (mem_pinsAt hb e)))
          exact ⟨z.1, z.2.1⟩
        have hl : (wipe σ (own.map (·.2))).length = σ8.length := by rw [← hw8, wipe_length]
        refine ⟨m2, hm, i + 1, H', (J'.unpinned (pins := [])).weak hl (fun j v e => (wipe_some (hw8 ▸ e)).1), T.keep _ _ _ st7 fun b hb o e => (still b hb o e).1, fun b hb => ?_, w2⟩
        obtain ⟨o, e, _⟩ := T.obj _ _ st7 b hb
        exact (still b hb o e).2
      cases b with
      | false =>
        simp only [Bool.false_eq_true, if_false] at q9 ⊢
        exact fin J9 q9
      | true =>
        simp only [if_true] at q9 ⊢
        exact thnF (pe.run _ s9 σ8 H9 _ J9 q9) fun z s10 ⟨yv, H10, J10, r10, acc, hD10, hz10, nx⟩ => app_ok (X := blkH X s3 H3 scope ce fp) J10 hD10 hz10 r10 fun s11 J11 => fin J11 nx
  exact codeAny_compStart_list turns (T.self X.A 0 _ _ _ st4 turns)
/-- as a value -/
theorem pe_lcH {elt tg iter : Expr} {ifs : List Expr} {scope : Scope} {own : List (Str × Nat)} {pos : Pos} {wi : TI} {g : TG} {tt : TT} {te : TE} (hot : L2H.HotC X) (hN : X.N.Nodup) (hi : L2H.PIH X tg iter wi) (ok : BlkOk X.N X.env.scope scope own)
    (hg : ∀ (s : Shared) (H : Hp) (C : Addr) (cl : List (Str × Addr)) (fp : List Addr), PG (blkH X s H scope (compEnvC scope cl C X.env) fp) tg g) (ht : ∀ (s : Shared) (H : Hp) (C : Addr) (cl : List (Str × Addr)) (fp : List Addr), PTs (blkH X s H scope (compEnvC scope cl C X.env) fp) ifs tt)
    (he : ∀ (s : Shared) (H : Hp) (C : Addr) (cl : List (Str × Addr)) (fp : List Addr), PE (blkH X s H scope (compEnvC scope cl C X.env) fp) elt te) (hs : ∀ x, foldedSetIterable iter X.env x = pure x := by intro _; rfl) :
    PE X (.ListComp elt [⟨tg, iter, ifs, 0⟩] scope pos) (tLc wi g tt te (own.map (·.2))) := by
  refine ⟨fun pins s σ H Q I h => ?_⟩
  rw [eval_ListComp]
  refine lcH hot hN I hi ok hg ht he hs h fun D C s2 m H2 J q hn f => ⟨m, hn, fun h3 sb => ?_⟩
  obtain ⟨f0, f1, f2, f3, f4, f5⟩ := f
  exact ⟨.ref D, H2, J.turned (t' := s2.toks) (fun b o hb e => (sb.2 b hb).trans e) f0 f1 f3 f4 f5, rfl, q⟩
end
end HotM
namespace SK
open PySem PySem.Spec PyProof.Rows L2
/-- a list, new: none of the written part either -/
def tLstK (K : PySem.W.Frag) (t : TA) : TE := fun σ H Q => t σ H fun xs H1 => xs.length ≤ sizeLine ∧ ∀ (H' : Hp) (p : Addr), Same H1 H' → H1 p = none → K.lookup p = none → H' p = some (.lst xs) → Q (.ref p) H'
theorem plstK {X : Cx} {es : List Expr} {t : TA} {pos : Pos} (h : PA X es t) : PE X (.List es pos) (tLstK X.K t) := by
  refine ⟨fun pins s σ H Q I hq => ?_⟩
  refine wpAny_List_spliced (thn (h.run pos pins s σ H _ I hq) fun us s1 ⟨xs, H1, I1, r, z, q⟩ => ⟨by rw [← r.length]; exact z, ?_⟩)
  have hf : H1 s1.heap.objs.size = none := I1.hok.fresh (Nat.le_refl _)
  have hk : X.K.lookup s1.heap.objs.size = none := by
    cases e : X.K.lookup s1.heap.objs.size with
    | none => rfl
    | some o => exact absurd (Heap.lt_size (I1.kIn _ _ e)) (Nat.lt_irrefl _)
  refine ⟨.ref s1.heap.objs.size, upd H1 s1.heap.objs.size (.lst xs), I1.laid (t' := s1.toks) (fun b u e => Heap.get?_push_of_some _ e) (Nat.le_refl _) ?_, rfl, q _ _ (same_upd hf) hf hk upd_same⟩
  exact ⟨z, us, 0, r, Heap.get?_push_size _ rfl⟩
def rSlTN (K : PySem.W.Frag) : V → Option Int → Option Int → Hp → VK → Prop := fun x lo hi H Q => ∃ a xs, x = .ref a ∧ SqT K H a xs ∧ ¬ (HT.sIx xs.length 0 lo = 0 ∧ HT.sIx xs.length xs.length hi = xs.length) ∧ New (.tup (cutV xs lo hi)) H Q
theorem sl_tupN {X : Cx} : SlR X (rSlTN X.K) := fun pins s σ H x v vl vu lo hi sl Q I rx hs pl pu ⟨a, xs, h1, h2, h3, h4⟩ => sl_tup pins s σ H x v vl vu lo hi sl Q I rx hs pl pu ⟨a, xs, h1, h2, h3, h4.ok⟩
end SK
namespace SK
open PySem PySem.Spec PyProof.Rows L2
def spQuarter (K : PySem.W.Frag) : Sp := fun vs H Q _ => ∃ (a : Addr) (x y h : Int), vs = [.ref a, .int h] ∧ SqT K H a [.int x, .int y] ∧ New (.tup [.int (rot h (x, y)).1, .int (rot h (x, y)).2]) H Q
section
variable {P : Program} {w : World} {K : PySem.W.Frag} {mg : Str → Option Value} {base : Heap}
theorem ok_quarter {f : Addr} {fd : FuncData} {k : Nat} (F : Fun K "_law_quarter" "_law_quarter" s_law_quarter f fd) (mi : mg "int" = none) : FnOk P w K mg base CX0 (k + 1) f fd ["place", "many"] (spQuarter K) := by
  refine F.ok sc_law_quarter (fun vs H Q E h => ?_) (fun cdv A outer s H vs Q E hr h => ?_)
  · obtain ⟨a, x, y, h, rfl, _⟩ := h
    rfl
  · obtain ⟨a, x, y, h, rfl, ha, q⟩ := h
    have nd := sc_law_quarter.nd
    refine ⟨_, pss_cons (ps_asg (pv 0) (pg_tup (by rfl) (pgs_cons (pg_name (i := 2) nd rfl (.inl rfl)) (pgs_cons (pg_name (i := 3) nd rfl (.inl rfl)) pgs_nil))))
      (pss_one (ps_ret (pix (plstN (pa_cons (ptupN (pa_cons (pv 2) (pa_cons (pv 3) pa_nil))) (pa_cons (ptupN (pa_cons (psub pe_int (pv 3)) (pa_cons (pv 2) pa_nil))) (pa_cons (ptupN (pa_cons (psub pe_int (pv 2)) (pa_cons (psub pe_int (pv 3)) pa_nil)))
        (pa_cons (ptupN (pa_cons (pv 3) (pa_cons (psub pe_int (pv 2)) pa_nil))) pa_nil))))) (pmod (pint mi (pv 1)) pe_int)))), ?_⟩
    refine ⟨_, rfl, a, _, rfl, ha, rfl, _, _, rfl, _, _, rfl, rfl, ?_⟩
    refine ⟨_, rfl, _, rfl, szl 2, fun H1 a1 s1 n1 h1 => ⟨_, rfl, _, _, rfl, rfl, _, rfl, szl 2, fun H2 a2 s2 n2 h2 => ⟨_, rfl, _, _, rfl, rfl, _, rfl, _, _, rfl, rfl, szl 2, fun H3 a3 s3 n3 h3 => ⟨_, rfl, _, rfl, _, _, rfl, rfl, szl 2, fun H4 a4 s4 n4 h4 => ⟨szl 4, fun H5 a5 s5 n5 h5 => ?_⟩⟩⟩⟩⟩
    refine ⟨_, rfl, .inl ⟨_, rfl, _, _, rfl, rfl, (show (0 : Int) < 4 by decide), ?_⟩⟩
    have h2 : H2 a2 = some (.tup [.int (-y), .int x]) := by
      rw [h2]; show some (HO.tup [V.int (0 - y), V.int x]) = _; rw [Int.zero_sub]
    have h3 : H3 a3 = some (.tup [.int (-x), .int (-y)]) := by
      rw [h3]; show some (HO.tup [V.int (0 - x), V.int (0 - y)]) = _; rw [Int.zero_sub, Int.zero_sub]
    have h4 : H4 a4 = some (.tup [.int y, .int (-x)]) := by
      rw [h4]; show some (HO.tup [V.int y, V.int (0 - x)]) = _; rw [Int.zero_sub]
    dsimp only
    rcases rot4 h with ⟨e, er⟩ | ⟨e, er⟩ | ⟨e, er⟩ | ⟨e, er⟩ <;> rw [er] at q <;> rw [e]
    · exact ⟨a5, _, 0, _, rfl, rfl, SqL.of h5, at0, q H5 a1 ((((s1.trans s2).trans s3).trans s4).trans s5) n1 (((s2.trans s3).trans (s4.trans s5)) _ _ h1)⟩
    · exact ⟨a5, _, 1, _, rfl, rfl, SqL.of h5, at1, q H5 a2 ((((s1.trans s2).trans s3).trans s4).trans s5) (s1.free n2) ((s3.trans (s4.trans s5)) _ _ h2)⟩
    · exact ⟨a5, _, 2, _, rfl, rfl, SqL.of h5, at2, q H5 a3 ((((s1.trans s2).trans s3).trans s4).trans s5) ((s1.trans s2).free n3) ((s4.trans s5) _ _ h3)⟩
    · exact ⟨a5, _, 3, _, rfl, rfl, SqL.of h5, at3, q H5 a4 ((((s1.trans s2).trans s3).trans s4).trans s5) (((s1.trans s2).trans s3).free n4) (s5 _ _ h4)⟩
end
end SK
namespace SK
open PySem PySem.Spec PyProof.Rows L2
/-- the known books -/
def kitL : List (List (List Sy) × List Sy) := [([[.l 0, .p, .l 1, .m], [.p, .l 0, .m, .l 1]], [.l 0]), ([[.l 0, .p, .l 0, .m, .l 0, .m, .l 0, .p, .l 0]], [.l 0]), ([[.l 0, .p, .l 0, .m]], [.l 0]), ([[.l 0, .p, .l 1, .m], [.p, .l 0, .m, .l 1]], [.l 1, .p, .l 0]), ([[.l 0, .p, .l 0, .m, .l 0, .m, .l 0, .p, .l 0]], [.l 0, .m, .l 0]), ([[.l 0, .p, .l 0, .m, .m, .l 0, .p, .l 0, .l 0]], [.l 0])]
def spKitL (K : PySem.W.Frag) : Sp := fun vs H Q _ => ∃ (r : Addr) (S : Scr), vs = [.ref r] ∧ RowOk K S H r ∧
  ∀ (H' : Hp) (p : Addr) (ws : List (List Sy)) (st : List Sy), Drawn K S r H H' → BookAt H' p ws st → GoodBook ws st → (ws, st) ∈ kitL → Q (.ref p) H'
section
variable {P : Program} {w : World} {K : PySem.W.Frag} {mg : Str → Option Value} {base : Heap}
theorem ok_kitL {f : Addr} {fd : FuncData} {k : Nat} (F : Fun K "_law_kit" "_law_kit" s_law_kit f fd) (GP : Got P w K mg base "_law_pick" k ["row", "things"] (spPick K)) : FnOk P w K mg base CX0 (k + 1) f fd ["row"] (spKitL K) := by
  refine F.ok sc_law_kit (fun vs H Q E h => ?_) (fun cdv A outer s H vs Q E hr h => ?_)
  · obtain ⟨r, S, rfl, _⟩ := h
    rfl
  · obtain ⟨r, S, rfl, hR, q⟩ := h
    have nd := sc_law_kit.nd
    refine ⟨_, pss_cons (ps_set (i := 1) nd rfl (.inl rfl) (ptupN (pa_cons (pwd (wd_l (k := 0) (wd_s (sy := .p) rfl (wd_l (k := 1) (wd_s (sy := .m) rfl wd_nil)))) (by decide)) (pa_cons (pwd (wd_s (sy := .p) rfl (wd_l (k := 0) (wd_s (sy := .m) rfl (wd_l (k := 1) wd_nil)))) (by decide)) pa_nil))))
      (pss_cons (ps_set (i := 2) nd rfl (.inl rfl) (ptupN (pa_cons (pwd (wd_l (k := 0) (wd_s (sy := .p) rfl (wd_l (k := 0) (wd_s (sy := .m) rfl (wd_l (k := 0) (wd_s (sy := .m) rfl (wd_l (k := 0) (wd_s (sy := .p) rfl (wd_l (k := 0) wd_nil))))))))) (by decide)) pa_nil)))
      (pss_cons (ps_asg (ptupN (pa_cons (ptupN (pa_cons (pwd (wd_l (k := 0) (wd_s (sy := .p) rfl (wd_l (k := 0) (wd_s (sy := .m) rfl wd_nil)))) (by decide)) pa_nil)) (pa_cons (ptupN (pa_cons (pwd (wd_l (k := 0) (wd_s (sy := .p) rfl (wd_l (k := 0) (wd_s (sy := .m) rfl (wd_s (sy := .m) rfl (wd_l (k := 0) (wd_s (sy := .p) rfl (wd_l (k := 0) (wd_l (k := 0) wd_nil))))))))) (by decide)) pa_nil)) pa_nil))) (pg_tup (by rfl) (pgs_cons (pg_name (i := 3) nd rfl (.inl rfl)) (pgs_cons (pg_name (i := 4) nd rfl (.inl rfl)) pgs_nil))))
      (pss_one (ps_ret (pcall GP hr (pa_cons (pv 0) (pa_cons (plstN (pa_cons (ptupN (pa_cons (pv 1) (pa_cons (pwd (wd_l (k := 0) wd_nil) (by decide)) pa_nil))) (pa_cons (ptupN (pa_cons (pv 2) (pa_cons (pwd (wd_l (k := 0) wd_nil) (by decide)) pa_nil))) (pa_cons (ptupN (pa_cons (pv 3) (pa_cons (pwd (wd_l (k := 0) wd_nil) (by decide)) pa_nil))) (pa_cons (ptupN (pa_cons (pv 1) (pa_cons (pwd (wd_l (k := 1) (wd_s (sy := .p) rfl (wd_l (k := 0) wd_nil))) (by decide)) pa_nil))) (pa_cons (ptupN (pa_cons (pv 2) (pa_cons (pwd (wd_l (k := 0) (wd_s (sy := .m) rfl (wd_l (k := 0) wd_nil))) (by decide)) pa_nil))) (pa_cons (ptupN (pa_cons (pv 4) (pa_cons (pwd (wd_l (k := 0) wd_nil) (by decide)) pa_nil))) pa_nil))))))) pa_nil))))))), ?_⟩
    refine fun H1 a1 s1 n1 h1 => ?_
    refine fun H2 a2 s2 n2 h2 => ?_
    refine ⟨szl 2, fun H3 a3 s3 n3 h3 => ?_⟩
    refine fun H4 a4 s4 n4 h4 => ?_
    refine ⟨szl 1, fun H5 a5 s5 n5 h5 => ?_⟩
    refine fun H6 a6 s6 n6 h6 => ?_
    refine ⟨szl 1, fun H7 a7 s7 n7 h7 => ?_⟩
    refine fun H8 a8 s8 n8 h8 => ?_
    refine ⟨szl 1, fun H9 a9 s9 n9 h9 => ?_⟩
    refine ⟨szl 2, fun H10 a10 s10 n10 h10 => ?_⟩
    refine ⟨a10, _, rfl, SqT.of h10, rfl, _, _, rfl, _, _, rfl, rfl, ?_⟩
    refine ⟨_, rfl, ?_⟩
    refine ⟨_, rfl, ?_⟩
    refine fun H11 a11 s11 n11 h11 => ?_
    refine ⟨szl 2, fun H12 a12 s12 n12 h12 => ?_⟩
    refine ⟨_, rfl, ?_⟩
    refine fun H13 a13 s13 n13 h13 => ?_
    refine ⟨szl 2, fun H14 a14 s14 n14 h14 => ?_⟩
    refine ⟨_, rfl, ?_⟩
    refine fun H15 a15 s15 n15 h15 => ?_
    refine ⟨szl 2, fun H16 a16 s16 n16 h16 => ?_⟩
    refine ⟨_, rfl, ?_⟩
    refine fun H17 a17 s17 n17 h17 => ?_
    refine ⟨szl 2, fun H18 a18 s18 n18 h18 => ?_⟩
    refine ⟨_, rfl, ?_⟩
    refine fun H19 a19 s19 n19 h19 => ?_
    refine ⟨szl 2, fun H20 a20 s20 n20 h20 => ?_⟩
    refine ⟨_, rfl, ?_⟩
    refine fun H21 a21 s21 n21 h21 => ?_
    refine ⟨szl 2, fun H22 a22 s22 n22 h22 => ?_⟩
    refine ⟨szl 6, fun H23 a23 s23 n23 h23 => ?_⟩
    have t23 : Same H23 H23 := Same.refl _
    have t22 : Same H22 H23 := s23.trans t23
    have t21 : Same H21 H23 := s22.trans t22
    have t20 : Same H20 H23 := s21.trans t21
    have t19 : Same H19 H23 := s20.trans t20
    have t18 : Same H18 H23 := s19.trans t19
    have t17 : Same H17 H23 := s18.trans t18
    have t16 : Same H16 H23 := s17.trans t17
    have t15 : Same H15 H23 := s16.trans t16
    have t14 : Same H14 H23 := s15.trans t15
    have t13 : Same H13 H23 := s14.trans t14
    have t12 : Same H12 H23 := s13.trans t13
    have t11 : Same H11 H23 := s12.trans t12
    have t10 : Same H10 H23 := s11.trans t11
    have t9 : Same H9 H23 := s10.trans t10
    have t8 : Same H8 H23 := s9.trans t9
    have t7 : Same H7 H23 := s8.trans t8
    have t6 : Same H6 H23 := s7.trans t7
    have t5 : Same H5 H23 := s6.trans t6
    have t4 : Same H4 H23 := s5.trans t5
    have t3 : Same H3 H23 := s4.trans t4
    have t2 : Same H2 H23 := s3.trans t3
    have t1 : Same H1 H23 := s2.trans t2
    have t0 : Same H H23 := s1.trans t1
    have hR' := hR.same t0
    have u := (((((((((((((((((((((s1.trans s2).trans s3).trans s4).trans s5).trans s6).trans s7).trans s8).trans s9).trans s10).trans s11).trans s12).trans s13).trans s14).trans s15).trans s16).trans s17).trans s18).trans s19).trans s20).trans s21).trans s22)
    refine ⟨r, a23, S, _, rfl, hR', (hR.same u).there n23, h23, (show 1 ≤ 6 by decide), (show 6 < 1073741824 by decide), fun H' kk v D hk => ?_⟩
    have tt := D.tups hR'
    match kk, hk with
    | 0, hk =>
      cases hk
      exact q H' a12 [[.l 0, .p, .l 1, .m], [.p, .l 0, .m, .l 1]] [.l 0] (((Drawn.refl hR).then t0).trans D) ⟨a3, a11, [a1, a2], tt.1 _ _ (t12 _ _ h12), tt.1 _ _ (t3 _ _ h3), tt.wd (h11.same t11), (.cons (tt.wd (h1.same t1)) (.cons (tt.wd (h2.same t2)) .nil))⟩ ⟨by decide, by decide, words_dec (by decide), good_dec (by decide)⟩ (.head _)
    | 1, hk =>
      cases hk
      exact q H' a14 [[.l 0, .p, .l 0, .m, .l 0, .m, .l 0, .p, .l 0]] [.l 0] (((Drawn.refl hR).then t0).trans D) ⟨a5, a13, [a4], tt.1 _ _ (t14 _ _ h14), tt.1 _ _ (t5 _ _ h5), tt.wd (h13.same t13), (.cons (tt.wd (h4.same t4)) .nil)⟩ ⟨by decide, by decide, words_dec (by decide), good_dec (by decide)⟩ (.tail _ (.head _))
    | 2, hk =>
      cases hk
      exact q H' a16 [[.l 0, .p, .l 0, .m]] [.l 0] (((Drawn.refl hR).then t0).trans D) ⟨a7, a15, [a6], tt.1 _ _ (t16 _ _ h16), tt.1 _ _ (t7 _ _ h7), tt.wd (h15.same t15), (.cons (tt.wd (h6.same t6)) .nil)⟩ ⟨by decide, by decide, words_dec (by decide), good_dec (by decide)⟩ (.tail _ (.tail _ (.head _)))
    | 3, hk =>
      cases hk
      exact q H' a18 [[.l 0, .p, .l 1, .m], [.p, .l 0, .m, .l 1]] [.l 1, .p, .l 0] (((Drawn.refl hR).then t0).trans D) ⟨a3, a17, [a1, a2], tt.1 _ _ (t18 _ _ h18), tt.1 _ _ (t3 _ _ h3), tt.wd (h17.same t17), (.cons (tt.wd (h1.same t1)) (.cons (tt.wd (h2.same t2)) .nil))⟩ ⟨by decide, by decide, words_dec (by decide), good_dec (by decide)⟩ (.tail _ (.tail _ (.tail _ (.head _))))
    | 4, hk =>
      cases hk
      exact q H' a20 [[.l 0, .p, .l 0, .m, .l 0, .m, .l 0, .p, .l 0]] [.l 0, .m, .l 0] (((Drawn.refl hR).then t0).trans D) ⟨a5, a19, [a4], tt.1 _ _ (t20 _ _ h20), tt.1 _ _ (t5 _ _ h5), tt.wd (h19.same t19), (.cons (tt.wd (h4.same t4)) .nil)⟩ ⟨by decide, by decide, words_dec (by decide), good_dec (by decide)⟩ (.tail _ (.tail _ (.tail _ (.tail _ (.head _)))))
    | 5, hk =>
      cases hk
      exact q H' a22 [[.l 0, .p, .l 0, .m, .m, .l 0, .p, .l 0, .l 0]] [.l 0] (((Drawn.refl hR).then t0).trans D) ⟨a9, a21, [a8], tt.1 _ _ (t22 _ _ h22), tt.1 _ _ (t9 _ _ h9), tt.wd (h21.same t21), (.cons (tt.wd (h8.same t8)) .nil)⟩ ⟨by decide, by decide, words_dec (by decide), good_dec (by decide)⟩ (.tail _ (.tail _ (.tail _ (.tail _ (.tail _ (.head _))))))
    | j + 6, hk => simp at hk
theorem ok_kit {f : Addr} {fd : FuncData} {k : Nat} (F : Fun K "_law_kit" "_law_kit" s_law_kit f fd) (GP : Got P w K mg base "_law_pick" k ["row", "things"] (spPick K)) : FnOk P w K mg base CX0 (k + 1) f fd ["row"] (spBook K) :=
  (ok_kitL F GP).imp fun vs H Q E ⟨r, S, e, hR, q⟩ => ⟨r, S, e, hR, fun H' p ws st D B g _ => q H' p ws st D B g⟩
end
end SK
namespace SK
open PySem PySem.Spec PyProof.Rows L2
def spLayS (K : PySem.W.Frag) : Sp := fun vs H Q _ => ∃ (a pn : Addr) (w : List Sy) (p : Plc), vs = [.ref a, .ref pn] ∧ WdAt H a w ∧ SqT K H pn (plV p) ∧ 0 ≤ p.2.2 ∧ p.2.2 < 4 ∧ nest w 0 ≠ none ∧ w.length ≤ 1000000 ∧ NewLaid (penF one (stt p) w) H Q
def spDraw : Sp := fun vs H Q _ => ∃ (a : Addr) (w : List Sy), vs = [.ref a] ∧ WdAt H a w ∧ nest w 0 ≠ none ∧ w.length ≤ 1000000 ∧ NewStrs (strokes w) H Q
section
variable {P : Program} {w : World} {K : PySem.W.Frag} {mg : Str → Option Value} {base : Heap}
theorem ok_lays {f : Addr} {fd : FuncData} {k : Nat} {dflt sa : Addr} (F : FunD K "lay_strokes" "lay_strokes" (defArgs s_lay_strokes) (defBody s_lay_strokes) (defScope s_lay_strokes) [.ref dflt] [] f fd) (GL : Got P w K mg base "lay" k ["word", "ends", "pen"] (spLay K))
    (mS : mg "STROKE" = some (.ref sa)) (hS : ModT K sa (plV (1, 0, 0))) (mI : mg "isinstance" = none) (mSt : mg "str" = none) :
    FnOk P w K mg base CX0 (k + 1) f fd ["word", "pen"] (spLayS K) := by
  refine F.ok sc_lay_strokes (fun vs H Q E h => ?_) (fun cdv A outer s H vs Q EE hr h => ex_nox ?_)
  · obtain ⟨a, pn, w, p, rfl, _⟩ := h
    rfl
  · obtain ⟨a, pn, w, p, rfl, hw, hp, p0, p4, hn, hl, q⟩ := h
    have nd := sc_lay_strokes.nd
    refine ⟨_, pss_cons (ps_setDc (i := 2) (own := [("part", 3)]) (g := gName 3) (tt := tNotStr K 3) (tk := tVar 3) (tv := tC (.ref sa)) rfl nd rfl rfl (sw_trueD rfl rfl rfl (by decide +kernel)) (pi_tup (pv 0)) (blkOk_by (N := n_lay_strokes) (sc := defScope s_lay_strokes) (by decide +kernel))
          (fun _ _ _ _ _ => pg_name (i := 3) nd rfl (Or.inl rfl)) (fun _ _ _ _ _ => pts_one (ptNotStr mI mSt (pv 3))) (fun _ _ _ _ _ => pv 3) (fun _ _ _ _ _ => pe_glob (v := .ref sa) rfl mS rfl))
      (pss_one (ps_ret (pcall GL hr (pa_cons (pv 0) (pa_cons (pv 2) (pa_cons (pv 1) pa_nil)))))), ?_⟩
    refine ⟨_, rfl, a, rfl, ⟨_, hw.sq⟩, fun D nD => ?_⟩
    refine dc_tup (K := K) (a := a) (xs := wv w) (fun i H' => ∃ kvs, Same H H' ∧ H' D = some (.dK kvs) ∧ kvs.length ≤ i ∧ ∀ k, Sy.l k ∈ w.take i → valV kvs (.inl (k : Int)) = some (.ref sa))
      ⟨[], same_upd nD, upd_same, Nat.le_refl _, fun k hk => by simp at hk⟩ (fun i H' _ ⟨_, s, _⟩ => (hw.same s).sq) ?_ ?_
    · rintro i x H1 hx ⟨kvs, S1, hD, hlen, hv⟩
      obtain ⟨s, hs, rfl⟩ := wv_get hx
      have hi : i < w.length := (List.getElem?_eq_some_iff.mp hs).1
      obtain ⟨tn, tb, ht, hk, htb⟩ := ty_sy (K := K) (H := H1) s
      refine ⟨rfl, _, rfl, s.v, tn, tb, rfl, ht, hk, tb, rfl, ?_⟩
      subst htb
      rw [Bool.not_not]
      have no : isL s = false → ∀ k, Sy.l k ∈ w.take (i + 1) → Sy.l k ∈ w.take i := fun z k hk => by
        rw [take_more hs] at hk
        rcases List.mem_append.mp hk with h | h
        · exact h
        · rw [← List.mem_singleton.mp h] at z; cases z
      cases s with
      | l j =>
        refine iteT ⟨_, rfl, kvs, Sum.inl (j : Int), rfl, hD, ?_, putK kvs (Sum.inl (j : Int)) (.ref sa), sPut S1 nD, upd_same, ?_, fun k hk => ?_⟩
        · rw [sizeLine_eq]; omega
        · have := length_putK kvs (Sum.inl (j : Int)) (.ref sa); omega
        · rw [valV_put]
          by_cases e : k = j
          · subst e
            rw [if_pos rfl]
          · rw [if_neg (fun z => e (by injection z with z; omega))]
            rw [take_more hs] at hk
            rcases List.mem_append.mp hk with h | h
            · exact hv k h
            · exact absurd (by injection List.mem_singleton.mp h) e
      | p => exact iteF ⟨kvs, S1, hD, by omega, fun k hk => hv k (no rfl k hk)⟩
      | m => exact iteF ⟨kvs, S1, hD, by omega, fun k hk => hv k (no rfl k hk)⟩
      | o => exact iteF ⟨kvs, S1, hD, by omega, fun k hk => hv k (no rfl k hk)⟩
      | c => exact iteF ⟨kvs, S1, hD, by omega, fun k hk => hv k (no rfl k hk)⟩
    · rintro H1 ⟨kvs, S1, hD, hlen, hv⟩
      rw [List.length_map, List.take_length] at hv
      refine ⟨_, rfl, _, rfl, _, rfl, a, D, pn, w, kvs, one, p, rfl, hw.same S1, hD, fun k hk => ⟨sa, hv k hk, hS.sq⟩, sTup S1 hp, p0, p4, hn, hl, ?_⟩
      exact fun H2 t la e as S2 n2 h2 n3 h3 hA he => q H2 t la e as (S1.trans S2) (S1.free n2) h2 (S1.free n3) h3 hA he
theorem ok_draw {f : Addr} {fd : FuncData} {k : Nat} {pd : Addr} (F : Fun K "draw" "draw" s_draw f fd) (GL : GotD P w K mg base "lay_strokes" k ["word", "pen"] [.ref pd] (spLayS K)) (hP : ModT K pd (plV (0, 0, 0))) (mT : mg "tuple" = none) :
    FnOk P w K mg base CX0 (k + 1) f fd ["word"] spDraw := by
  refine F.ok sc_draw (fun vs H Q E h => ?_) (fun cdv A outer s H vs Q E hr h => ?_)
  · obtain ⟨a, w, rfl, _⟩ := h
    rfl
  · obtain ⟨a, w, rfl, hw, hn, hl, q⟩ := h
    have nd := sc_draw.nd
    refine ⟨_, pss_cons (ps_asg (pcallD GL hr (pa_cons (pv 0) pa_nil)) (pg_tup (by rfl) (pgs_cons (pg_name (i := 1) nd rfl (.inl rfl)) (pgs_cons (pg_name (i := 2) nd rfl (.inl rfl)) pgs_nil))))
      (pss_one (ps_ret (ptupleN mT (pv 1)))), ?_⟩
    refine ⟨_, rfl, a, pd, w, (0, 0, 0), rfl, hw, hP.sq, by decide, by decide, hn, hl, fun H1 t la e as S1 n1 h1 n2 h2 hA he => ?_⟩
    refine ⟨t, _, rfl, SqT.of h1, rfl, _, _, rfl, _, _, rfl, rfl, ?_⟩
    refine ⟨_, rfl, la, _, rfl, SqL.of h2, fun H5 p5 S5 n5 h5 => q H5 p5 as (S1.trans S5) (S1.free n5) h5 ?_⟩
    have e1 : (penF one (stt (0, 0, 0)) w).out = strokes w := by
      show (penE one w).out = _
      rw [pen_one]; rfl
    rw [← e1]
    exact hA.keep (.of S5)
def spDrawing : Sp := fun vs H Q _ => ∃ (b : Addr) (n : Nat) (ws : List (List Sy)) (st : List Sy), vs = [.ref b, .int n] ∧ BookAt H b ws st ∧ GoodBook ws st ∧ n ≤ 1000 ∧ (grown ws st n).length ≤ 60000 ∧ nest (grown ws st n) 0 ≠ none ∧ NewStrs (strokes (grown ws st n)) H Q
theorem ok_drawing {f : Addr} {fd : FuncData} {k : Nat} (F : Fun K "drawing" "drawing" s_drawing f fd) (GW : Got P w K mg base "word_at" k ["book", "age"] spWordAt) (GD : Got P w K mg base "draw" k ["word"] spDraw) :
    FnOk P w K mg base CX0 (k + 1) f fd ["book", "age"] spDrawing := by
  refine F.ok sc_drawing (fun vs H Q E h => ?_) (fun cdv A outer s H vs Q E hr h => ?_)
  · obtain ⟨b, n, ws, st, rfl, _⟩ := h
    rfl
  · obtain ⟨b, n, ws, st, rfl, hb, hg, hn, hl, hnest, q⟩ := h
    refine ⟨_, pss_one (ps_ret (pcall GD hr (pa_cons (pcall GW hr (pa_cons (pv 0) (pa_cons (pv 1) pa_nil))) pa_nil))), ?_⟩
    refine ⟨_, rfl, _, rfl, b, n, ws, st, rfl, hb, hg, hn, hl, fun H1 p1 S1 n1 h1 => ⟨p1, _, rfl, h1, hnest, by omega, fun H2 p2 as S2 n2 h2 hA => q H2 p2 as (S1.trans S2) (S1.free n2) h2 hA⟩⟩
end
end SK
namespace SK
open PySem PySem.Spec PyProof.Rows L2
theorem stk_get {H : Hp} {as : List Addr} {ss : List Stk} {i : Nat} {x : V} (h : Strs H as ss) (hx : (as.map V.ref)[i]? = some x) : ∃ a s, x = .ref a ∧ ss[i]? = some s ∧ H a = some (.tup (stV s)) := by
  rw [List.getElem?_map] at hx
  cases e : as[i]? with
  | none => rw [e] at hx; cases hx
  | some a =>
    rw [e] at hx
    have hi : i < ss.length := by
      have := h.length
      have := (List.getElem?_eq_some_iff.mp e).1
      omega
    have hs := List.getElem?_eq_getElem hi
    obtain ⟨a', ha', ht⟩ := paired_get h hs
    rw [e] at ha'
    cases ha'
    exact ⟨a, ss[i], (Option.some.inj hx).symm, hs, ht⟩
theorem strokes_ok {w : List Sy} (hn : nest w 0 ≠ none) : (∀ q ∈ strokes w, 0 ≤ q.2.2.1 ∧ q.2.2.1 < 4) ∧ (strokes w).length ≤ w.length := by
  have PO := penOk_take hn w.length (Nat.le_refl _)
  rw [List.take_length] at PO
  exact ⟨PO.out, PO.len.1⟩
theorem nest_up : ∀ (w : List Sy) (d e k : Nat), nest w d = some e → nest w (d + k) = some (e + k)
  | [], d, e, k, h => by
    have h : some d = some e := h
    cases h
    rfl
  | s :: w, d, e, k, h => by
    cases s with
    | o =>
      have := nest_up w (d + 1) e k h
      rw [show d + 1 + k = d + k + 1 by omega] at this
      exact this
    | c =>
      cases d with
      | zero => cases h
      | succ d =>
        have := nest_up w d e k h
        rw [show d + 1 + k = (d + k) + 1 by omega]
        exact this
    | p => exact nest_up w d e k h
    | m => exact nest_up w d e k h
    | l j => exact nest_up w d e k h
theorem nest_grow {ws : List (List Sy)} {n : Nat} (hg : ∀ w ∈ ws, Good n 40 w) : ∀ {w : List Sy} {d e : Nat}, (∀ k, Sy.l k ∈ w → k < ws.length) → nest w d = some e → nest (grow ws w) d = some e
  | [], d, e, _, h => h
  | s :: w, d, e, hl, h => by
    have hl' : ∀ k, Sy.l k ∈ w → k < ws.length := fun k hk => hl k (List.mem_cons_of_mem _ hk)
    show nest (img ws s ++ grow ws w) d = some e
    rw [nest_app]
    cases s with
    | l j =>
      have hj := hl j List.mem_cons_self
      have ew : ws.getD j [] = ws[j] := by rw [List.getD_eq_getElem?_getD, List.getElem?_eq_getElem hj]; rfl
      have g := (hg _ (List.getElem_mem hj)).nst
      have := nest_up ws[j] 0 0 d g
      rw [Nat.zero_add] at this
      show (nest (ws.getD j []) d).bind (nest (grow ws w)) = some e
      rw [ew, this]
      exact nest_grow hg hl' h
    | o => exact nest_grow hg hl' (show nest w (d + 1) = some e from h)
    | c =>
      cases d with
      | zero => cases h
      | succ d => exact nest_grow hg hl' (show nest w d = some e from h)
    | p => exact nest_grow hg hl' (show nest w d = some e from h)
    | m => exact nest_grow hg hl' (show nest w d = some e from h)
theorem nest_grown {ws : List (List Sy)} {st : List Sy} (g : GoodBook ws st) : ∀ n, nest (grown ws st n) 0 = some 0
  | 0 => g.start.nst
  | n + 1 => nest_grow g.words (grown_lets g n) (nest_grown g n)
theorem nest_grown' {ws : List (List Sy)} {st : List Sy} (g : GoodBook ws st) (n : Nat) : nest (grown ws st n) 0 ≠ none := by
  rw [nest_grown g n]
  exact fun z => nomatch z
/-! alike -/
theorem Alk.flat {H : Hp} {v : V} (h : flatA v = true) : ∀ n, Alk H n v v
  | 0 => ⟨rfl, h⟩
  | n + 1 => .inl ⟨rfl, h⟩
theorem Alk.tup {H : Hp} {n : Nat} {a b : Addr} {xs ys : List V} (ha : Rd H a (.tup xs)) (hb : Rd H b (.tup ys)) (hl : xs.length = ys.length) (hz : xs.length ≤ 10000000) (hi : ∀ (i : Nat) (x y : V), xs[i]? = some x → ys[i]? = some y → Alk H n x y) : Alk H (n + 1) (.ref a) (.ref b) :=
  .inr ⟨a, b, xs, ys, rfl, rfl, .inl ⟨ha, hb⟩, hl, hz, hi⟩
theorem Alk.lst {H : Hp} {n : Nat} {a b : Addr} {xs ys : List V} (ha : H a = some (.lst xs)) (hb : H b = some (.lst ys)) (hl : xs.length = ys.length) (hz : xs.length ≤ 10000000) (hi : ∀ (i : Nat) (x y : V), xs[i]? = some x → ys[i]? = some y → Alk H n x y) : Alk H (n + 1) (.ref a) (.ref b) :=
  .inr ⟨a, b, xs, ys, rfl, rfl, .inr ⟨ha, hb⟩, hl, hz, hi⟩
/-- a tuple of flat things, twice -/
theorem Alk.flats {H : Hp} {n : Nat} {a b : Addr} {xs : List V} (ha : Rd H a (.tup xs)) (hb : Rd H b (.tup xs)) (hz : xs.length ≤ 10000000) (hf : ∀ x ∈ xs, flatA x = true) : Alk H (n + 1) (.ref a) (.ref b) :=
  Alk.tup ha hb rfl hz fun i x y hx hy => by
    rw [hx] at hy
    cases hy
    exact Alk.flat (hf x (List.mem_of_getElem? hx)) n
theorem flat_sy (s : Sy) : flatA s.v = true := by cases s <;> rfl
theorem alk_word {H : Hp} {n : Nat} {a b : Addr} {w : List Sy} (ha : WdAt H a w) (hb : H b = some (.tup (wv w))) (hz : w.length ≤ 10000000) : Alk H (n + 1) (.ref a) (.ref b) := by
  obtain ⟨o, e, _⟩ := ha
  refine Alk.flats (.inr ⟨o, e⟩) (.inl hb) (by rw [List.length_map]; exact hz) fun x hx => ?_
  obtain ⟨s, _, rfl⟩ := List.mem_map.mp hx
  exact flat_sy s
theorem alk_strs {H : Hp} {n : Nat} {a b : Addr} {as bs : List Addr} {ss : List Stk} (ha : H a = some (.tup (as.map V.ref))) (hb : H b = some (.tup (bs.map V.ref))) (hA : Strs H as ss) (hB : Strs H bs ss) (hz : ss.length ≤ 10000000) : Alk H (n + 2) (.ref a) (.ref b) := by
  have la := hA.length
  have lb := hB.length
  refine Alk.tup (.inl ha) (.inl hb) (by rw [List.length_map, List.length_map, la, lb]) (by rw [List.length_map, la]; exact hz) fun i x y hx hy => ?_
  obtain ⟨a1, s1, rfl, e1, t1⟩ := stk_get hA hx
  obtain ⟨b1, s2, rfl, e2, t2⟩ := stk_get hB hy
  rw [e1] at e2
  cases e2
  refine Alk.flats (.inl t1) (.inl t2) (by show 4 ≤ _; decide) fun x hx => ?_
  simp only [stV, List.mem_cons, List.not_mem_nil, or_false] at hx
  rcases hx with rfl | rfl | rfl | rfl <;> rfl
end SK
namespace SK
open PySem PySem.Spec PyProof.Rows L2
def spLaw (K : PySem.W.Frag) : Sp := fun vs H Q _ => ∃ (a : Addr) (ns : List Int), vs = [.ref a] ∧ SqL K H a (ns.map V.int) ∧ ns.length ≤ 63 ∧ ∀ H', Q (.bl true) H'
theorem RowOk.neL {K : PySem.W.Frag} {S : Scr} {H : Hp} {r p : Addr} {xs : List Addr} (h : RowOk K S H r) (e : H p = some (.lst (xs.map V.ref))) : p ≠ r := by
  obtain ⟨i, st, c, h1, _⟩ := h
  intro z
  rw [z, h1] at e
  injection e with e
  injection e with e
  cases xs with
  | nil => cases e
  | cons x xs => cases xs with
    | nil => cases e
    | cons y ys => cases e
structure LawG14 (P : Program) (w : World) (K : PySem.W.Frag) (mg : Str → Option Value) (base : Heap) (CB CT : Addr) (k : Nat) : Prop where
  pick : Got P w K mg base "_law_pick" k ["row", "things"] (spPick K)
  book : Got P w K mg base "_law_book" k ["row"] (spBook K)
  kit : Got P w K mg base "_law_kit" k ["row"] (spBook K)
  even : Got P w K mg base "_law_even_book" k ["row"] (spEvenBook K)
  taken : Got P w K mg base "_law_taken" k ["row", "many"] (spTaken K)
  age : Got P w K mg base "_law_age" k ["book", "most"] (spAge K)
  grown : Got P w K mg base "_law_grown" k ["book", "age"] (spGrown K)
  drawn : Got P w K mg base "_law_drawn" k ["word"] (spDrawnL K)
  unit : Got P w K mg base "_law_unit" k ["heading"] spUnit
  quarter : Got P w K mg base "_law_quarter" k ["place", "many"] (spQuarter K)
  alike : Got P w K mg base "_law_alike" k ["found", "due"] (spAlike 4)
  mir : Got P w K mg base "mirrored" k ["book"] spMirrored
  back : GotX P w K mg base "backward" k ["book"] (spBackX CB)
  sped : GotN P w K mg base "sped" k ["book", "many"] (spSpedX CT)
  drawing : Got P w K mg base "drawing" k ["book", "age"] spDrawing
  mR : mg "range" = none
  ml : mg "len" = none
  mT : mg "tuple" = none
  mI : mg "isinstance" = none
  mi : mg "int" = none
  mRv : mg "reversed" = none
  mMx : mg "max" = none
/-! ### book[0] + (book[1],), and which of these words have branches -/
abbrev tAllW (K : PySem.W.Frag) : TE := tOp (rCatT K) (tOp (rIxT K) (tVar 2) (tC (.int 0))) (tTupN (tCons (tOp (rIxT K) (tVar 2) (tC (.int 1))) tNil))
theorem allw_rd {K : PySem.W.Frag} {σ : L2.St} {H : Hp} {b : Addr} {ws : List (List Sy)} {st : List Sy} {R : It → Hp → Prop} (hb : σ[2]? = some (some (.ref b))) (B : BookAt H b ws st) (g : GoodBook ws st)
    (q : ∀ (H' : Hp) (p : Addr) (as : List Addr), Same H H' → H' p = some (.tup (as.map V.ref)) → Words H' as (ws ++ [st]) → R (Itt K p) H') : iTup K (tAllW K) σ H R := by
  obtain ⟨pb, pq, as, b1, b2, b3, b4⟩ := id B
  have lw := b4.length
  have g1 := g.one
  have g3 := g.few
  have hne : as.map V.ref ≠ [] := fun z => by
    have := congrArg List.length z
    rw [List.length_map, lw] at this
    have : ws.length = 0 := this
    omega
  refine ⟨_, hb, b, _, _, .ref pb, rfl, rfl, SqT.of b1, at0, _, hb, b, _, _, .ref pq, rfl, rfl, SqT.of b1, at1, szl 1, fun H1 t1 S1 n1 h1 => ⟨pb, t1, _, _, rfl, rfl, SqT.of (S1 _ _ b2), SqT.of h1, hne, ?_, (fun z => nomatch z), fun _ p2 np2 => ⟨p2, rfl, ⟨_, SqT.of upd_same⟩, ?_⟩⟩⟩
  · rw [List.length_map, lw, sizeLine_eq]
    show ws.length + 1 ≤ _
    omega
  have S2 : Same H (upd H1 p2 (.tup (as.map V.ref ++ [.ref pq]))) := S1.trans (same_upd np2)
  refine q _ p2 (as ++ [pq]) S2 (by rw [upd_same, List.map_append]; rfl) ?_
  have h : Words H (as ++ [pq]) (ws ++ [st]) := Paired.snoc b4 b3
  exact Words.keep (.of S2) h
def dSy : Sy → PyData
  | .l k => .int k
  | .p => .str "+"
  | .m => .str "-"
  | .o => .str "["
  | .c => .str "]"
def dWd (w : List Sy) : PyData := .tuple (w.map dSy)
theorem dp_syW {K : PySem.W.Frag} {H : Hp} : ∀ w : List Sy, DpAll K H (wv w) (w.map dSy)
  | [] => .nil
  | s :: w => .cons (by cases s <;> first | exact .int _ | exact .str _) (dp_syW w)
theorem dp_wds {K : PySem.W.Frag} {H : Hp} : ∀ {fs : List Addr} {vs : List (List Sy)}, Words H fs vs → DpAll K H (fs.map V.ref) (vs.map dWd)
  | _, _, .nil => .nil
  | _, _, .cons r t => .cons (.tup r.sq (dp_syW _)) (dp_wds t)
theorem lay_sy : ∀ w : List Sy, PyData.canLayAll0 (w.map dSy) = true ∧ PyData.depthAll (w.map dSy) ≤ 2
  | [] => ⟨rfl, by decide⟩
  | s :: w => by
    have ih := lay_sy w
    have h1 : PyData.canLay0 (dSy s) = true := by cases s <;> first | rfl | (unfold dSy PyData.canLay0; decide +kernel)
    have h2 : PyData.depth (dSy s) ≤ 1 := by cases s <;> (unfold dSy PyData.depth; decide)
    refine ⟨?_, ?_⟩
    · rw [List.map_cons]
      simp [PyData.canLayAll0, h1, ih.1]
    · rw [List.map_cons]
      have := ih.2
      simp [PyData.depthAll]
      omega
theorem sh_wds (vs : List (List Sy)) : SeqAt.shaped (.list (vs.map dWd)) = true := by
  have h : PyData.canLayAll0 (vs.map dWd) = true ∧ PyData.depthAll (vs.map dWd) ≤ 4 := by
    induction vs with
    | nil => exact ⟨rfl, by decide⟩
    | cons w vs ih =>
      have a := lay_sy w
      refine ⟨?_, ?_⟩
      · rw [List.map_cons]
        simp [PyData.canLayAll0, dWd, PyData.canLay0, ih.1, a.1]
      · rw [List.map_cons]
        have := ih.2
        have := a.2
        simp [PyData.depthAll, dWd, PyData.depth]
        omega
  unfold SeqAt.shaped PyData.canLay0 PyData.depth
  rw [h.1]
  have := h.2
  simp
  omega
theorem eqv_nilL (ds : List PyData) : PyData.eqv (.list ds) (.list []) = ds.isEmpty := by
  cases ds with
  | nil => simp [PyData.eqv, PyData.eqvAll]
  | cons d ds => simp [PyData.eqv, PyData.eqvAll]
instance (ws : List (List Sy)) (st : List Sy) : Decidable (Plain ws st) := by unfold Plain; infer_instance
theorem plain_rd {K : PySem.W.Frag} {σ : L2.St} {H : Hp} {b : Addr} {ws : List (List Sy)} {st : List Sy} {Q : VK} (hb : σ[2]? = some (some (.ref b))) (hj : 23 < σ.length) (B : BookAt H b ws st) (g : GoodBook ws st)
    (q : ∀ H', Same H H' → Q (.bl (decide (Plain ws st))) H') : tOp (rEqD K) (tLc (iTup K (tAllW K)) (gName 23) (tTest (tOp (rIn K false) (tC (.str "[")) (tVar 23))) (tVar 23) [23]) (tLstN tNil) σ H Q := by
  show tLc (iTup K (tAllW K)) (gName 23) (tTest (tOp (rIn K false) (tC (V.str "[")) (tVar 23))) (tVar 23) [23] σ H _
  unfold tLc
  refine allw_rd hb B g fun H2 p2 as S2 h2 wsAll => ?_
  intro L nnL
  have wl := wsAll.length
  have lw : (ws ++ [st]).length = ws.length + 1 := by rw [List.length_append]; rfl
  have g3 := g.few
  refine lc_tup (K := K) (a := p2) (xs := as.map V.ref) (fun i H' => Same H2 H' ∧ ∃ (fs : List Addr) (vs : List (List Sy)), H' L = some (.lst (fs.map V.ref)) ∧ Words H' fs vs ∧ fs.length ≤ i ∧ (vs = [] ↔ ∀ w ∈ (ws ++ [st]).take i, Sy.o ∉ w)) ⟨same_upd nnL, [], [], upd_same, .nil, Nat.le_refl _, by simp⟩ (fun i H' _ h => SqT.of (h.1 _ _ h2)) ?_ ?_
  · rintro i x H3 hx ⟨S3, fs, vs, hD, hW, hl, hv⟩
    rw [List.getElem?_map] at hx
    cases e : as[i]? with
    | none => rw [e] at hx; cases hx
    | some wa =>
      rw [e] at hx
      cases hx
      have hi : i < (ws ++ [st]).length := by
        have := (List.getElem?_eq_some_iff.mp e).1
        omega
      have hvv := List.getElem?_eq_getElem hi
      generalize (ws ++ [st])[i] = v at hvv
      obtain ⟨wa', hwa', hwt⟩ := paired_get wsAll hvv
      rw [e] at hwa'
      cases hwa'
      have hwt3 := hwt.same S3
      have s23 : ((wipe σ [23]).set 23 (some (V.ref wa)))[23]? = some (some (V.ref wa)) := by
        rw [List.getElem?_set_self]
        show 23 < (wipe σ [23]).length
        rw [wipe_length]; exact hj
      refine ⟨?_, _, s23, wa, wv v, rfl, .inr hwt3.sq, rfl, wv_flat v, _, rfl, ?_⟩
      · show (((σ.set 23 none).set 23 (some (V.ref wa))).set 23 none) = σ.set 23 none
        rw [List.set_set, List.set_set]
      rw [wv_in_o]
      by_cases z : Sy.o ∈ v
      · rw [decide_eq_true z]
        refine iteT ⟨_, s23, _, hD, ?_, sPut S3 nnL, fs ++ [wa], vs ++ [v], ?_, ?_, ?_, ?_⟩
        · rw [List.length_map, sizeLine_eq]; omega
        · rw [upd_same, List.map_append]; rfl
        · have T : TupS H3 (upd H3 L (.lst (fs.map V.ref ++ [V.ref wa]))) := TupS.refl.lst hD
          exact Paired.snoc (hW.keep T) (T.wd hwt3)
        · rw [List.length_append, List.length_singleton]; omega
        · refine ⟨fun h => absurd h (by simp), fun h => absurd z (h v ?_)⟩
          rw [take_more hvv]
          exact List.mem_append_right _ (List.mem_singleton.mpr rfl)
      · rw [decide_eq_false z]
        refine iteF ⟨S3, fs, vs, hD, hW, by omega, hv.trans ?_⟩
        rw [take_more hvv]
        refine ⟨fun h w hw => ?_, fun h w hw => h w (List.mem_append_left _ hw)⟩
        rcases List.mem_append.mp hw with hw | hw
        · exact h w hw
        · rw [List.mem_singleton.mp hw]; exact z
  · rintro H3 ⟨S3, fs, vs, hD, hW, hl, hv⟩
    rw [List.length_map, wl, List.take_length] at hv
    refine ⟨szl 0, fun H4 l4 S4 n4 h4 => ⟨_, _, .lst (SqL.of (S4 _ _ hD)) (dp_wds (hW.keep (.of S4))), .lst (SqL.of h4) .nil, sh_wds vs, sh_wds [], ?_⟩⟩
    rw [eqv_nilL]
    have e : (vs.map dWd).isEmpty = decide (Plain ws st) := by
      have e1 : (vs.map dWd).isEmpty = true ↔ vs = [] := by cases vs <;> simp
      rw [Bool.eq_iff_iff, e1, hv, decide_eq_true_iff]
      rfl
    rw [e]
    exact q H4 ((S2.trans S3).trans S4)
/-- isinstance(e, c), e the error that the suite holds -/
def rIsN (K : PySem.W.Frag) (D a : Addr) (cls : Value) (d : Option Addr) : List V → Hp → VK → Prop := fun xs H Q => cls = .ref D ∧ d = none ∧ rIsE K D a xs H Q
theorem call_isN {X : Cx} {a D : Addr} {oe : Obj} {cls : Value} {d : Option Addr} {pn : List (Addr × Obj)} (C : ExcC X.K D) (hz : Zc cls d oe) (hf : ∃ vs, oe.data = .fields vs) : CallR (X.suite a ((a, oe) :: pn)) (.builtin "isinstance") (rIsN X.K D a cls d) := by
  intro pins s σ H xs us Q I r h
  obtain ⟨rfl, rfl, h⟩ := h
  exact call_isE C hz hf pins s σ H xs us Q I r h
/-! ### what stands between the law's parts -/
structure D14 (K : PySem.W.Frag) (S : Scr) (r b : Addr) (ws : List (List Sy)) (st : List Sy) (H : Hp) : Prop where
  row : RowOk K S H r
  bk : BookAt H b ws st
  g : GoodBook ws st
theorem D14.same {K : PySem.W.Frag} {S : Scr} {r b : Addr} {ws : List (List Sy)} {st : List Sy} {H H' : Hp} (h : D14 K S r b ws st H) (s : Same H H') : D14 K S r b ws st H' := ⟨h.row.same s, h.bk.keep (.of s), h.g⟩
theorem D14.drawn {K : PySem.W.Frag} {S : Scr} {r b : Addr} {ws : List (List Sy)} {st : List Sy} {H H' : Hp} (h : D14 K S r b ws st H) (d : Drawn K S r H H') : D14 K S r b ws st H' := ⟨d.row, h.bk.keep (d.tups h.row), h.g⟩
def tR4 (K : PySem.W.Frag) : TS := fun D σ H => ∃ (a r b o : Addr) (ns : List Int) (fs : List Addr) (ws : List (List Sy)) (st : List Sy) (y3 : Option V), σ = [some (.ref a), some (.ref r), some (.ref b), y3, some (.ref o), none, none, none, none, none, none, none, none, none, none, none, none, none, none, none, none, none, none, none] ∧
  D14 K (a, ns) r b ws st H ∧ H o = some (.tup (fs.map V.ref)) ∧ Words H fs ((ws ++ [st]).map flipW) ∧ ∀ H', D.rt (.bl true) H'
/-- the book that is turned round, if none of its words has a branch -/
def BackIs (H : Hp) (k : Addr) (ws : List (List Sy)) (st : List Sy) : Prop := Plain ws st → BookAt H k (ws.map backW) (backW st)
def tR8 (K : PySem.W.Frag) : TS := fun D σ H => ∃ (a r b : Addr) (ns : List Int) (ws : List (List Sy)) (st : List Sy) (bk : V) (y3 y4 : Option V), σ = [some (.ref a), some (.ref r), some (.ref b), y3, y4, some (.bl (decide (Plain ws st))), some bk, none, none, none, none, none, none, none, none, none, none, none, none, none, none, none, none, none] ∧
  D14 K (a, ns) r b ws st H ∧ (Plain ws st → ∃ k, bk = .ref k ∧ BookAt H k (ws.map backW) (backW st)) ∧ ∀ H', D.rt (.bl true) H'
def tR12 (K : PySem.W.Frag) : TS := fun D σ H => ∃ (a r b fa e : Addr) (ns : List Int) (as : List Addr) (ws : List (List Sy)) (st : List Sy) (age : Nat) (bk : V) (y3 y4 y15 : Option V), σ = [some (.ref a), some (.ref r), some (.ref b), y3, y4, some (.bl (decide (Plain ws st))), some bk, none, some (.int age), some (.ref fa), some (.ref e), none, none, none, none, y15, none, none, none, none, none, none, none, none] ∧
  D14 K (a, ns) r b ws st H ∧ (Plain ws st → ∃ k, bk = .ref k ∧ BookAt H k (ws.map backW) (backW st)) ∧ Low 200 ws st age ∧ H fa = some (.lst (as.map V.ref)) ∧ Strs H as (strokes (grown ws st age)) ∧ H e = some (.tup (plV ((pen (grown ws st age)).x, (pen (grown ws st age)).y, (pen (grown ws st age)).h))) ∧ ∀ H', D.rt (.bl true) H'
def tR15 (K : PySem.W.Frag) : TS := fun D σ H => ∃ (a r b : Addr) (ns : List Int) (ws : List (List Sy)) (st : List Sy) (y3 y4 y5 y6 y7 y8 y9 y10 y11 y12 y13 y14 y15 y16 y17 y18 : Option V), σ = [some (.ref a), some (.ref r), some (.ref b), y3, y4, y5, y6, y7, y8, y9, y10, y11, y12, y13, y14, y15, y16, y17, y18, none, none, none, none, none] ∧
  D14 K (a, ns) r b ws st H ∧ ∀ H', D.rt (.bl true) H'
end SK
namespace SK
open PySem PySem.Spec PyProof.Rows L2
def lcSc : Expr → Scope
  | .ListComp _ _ sc _ => sc
  | _ => defScope s_law
def firstArg : Expr → Expr
  | .Call _ (a :: _) _ _ => a
  | e => e
def valOf : Stmt → Expr
  | .Assign _ e _ => e
  | _ => .Name "x" ⟨0, 0, 0, 0⟩
def stAt (n : Nat) : Stmt := (defBody s_law).getD n s_law
def flipKV : List (Key × V) := turnsKV.map fun p => (Sum.inr p.1, p.2)
abbrev tFlipW (K : PySem.W.Frag) : TE := tCB (rTupF K) (tCons (tLc (iTup K (tVar 23)) (gName 22) tYes (tDGet2 (tVar 3) (tVar 22) (tVar 22)) [22]) tNil)
section
variable {P : Program} {w : World} {K : PySem.W.Frag} {mg : Str → Option Value} {base : Heap}
theorem law14_a {f CB CT : Addr} {fd : FuncData} {k : Nat} (F : Fun K "law" "law" s_law f fd) (G : LawG14 P w K mg base CB CT k)
    (R : ∀ (cdv : Value) (A : Around) (outer : List Env) (s : Shared) (H : Hp) (E : XK), Room k (A.deeper (envOfC "law" (defScope s_law) s.heap.objs.size f cdv)) → PSs (cxOf CX0 P w K mg base n_law "law" (defScope s_law) f cdv A outer s H E).nox ((defBody s_law).drop 4) (tR4 K)) :
    FnOk P w K mg base CX0 (k + 1) f fd ["script"] (spLaw K) := by
  refine F.ok sc_law (fun vs H Q E h => ?_) (fun cdv A outer s H vs Q E hr h => ?_)
  · obtain ⟨a, ns, rfl, _⟩ := h
    rfl
  · obtain ⟨a, ns, rfl, ha, hns, q⟩ := h
    have nd := sc_law.nd
    have hu := hu_of hr
    obtain ⟨GP, GB, GK, GE, GT, GA, GG, GD, GU, GQ, GL, GM, GBk, GS, GDr, mR, ml, mT, mI, mi, mRv, mMx⟩ := G
    refine ⟨_, pss_cons (ps_set (i := 1) nd rfl (.inl rfl) (plstK (pa_cons (pv 0) (pa_cons pe_int (pa_cons pe_int (pa_cons pe_int pa_nil))))))
      (pss_cons (ps_set (i := 2) nd rfl (.inr rfl) (pcall GP hr (pa_cons (pv 1) (pa_cons (plstN (pa_cons (pcall GB hr (pa_cons (pv 1) pa_nil)) (pa_cons (pcall GK hr (pa_cons (pv 1) pa_nil)) (pa_cons (pixT (pcall GE hr (pa_cons (pv 1) pa_nil)) pe_int) pa_nil)))) pa_nil))))
      (pss_cons (ps_set (i := 3) nd rfl (.inr rfl) (pe_disp (pps_cons pe_str pe_str (pps_cons pe_str pe_str pps_nil)) (by rfl) (by rfl) (fun z => by cases z) (by decide)))
      (pss_cons (ps_set (i := 4) nd rfl (.inl rfl) (ptupleN mT (pe_lc (own := [("word", 23)]) (g := gName 23) (tt := tYes) (te := tFlipW K) rfl nd (pi_tup (pe_op op_catT (pixT (pv 2) pe_int) (ptupN (pa_cons (pixT (pv 2) pe_int) pa_nil)))) (blkOk_by (N := n_law) (sc := defScope s_law) (by decide +kernel))
        (fun _ _ _ _ _ => pg_name (i := 23) nd rfl (Or.inl rfl)) (fun _ _ _ _ _ => pts_nil) (fun _ _ _ _ _ => ptupleF mT (pe_lc (own := [("item", 22)]) (g := gName 22) (tt := tYes) (te := tDGet2 (tVar 3) (tVar 22) (tVar 22)) rfl nd (pi_tup (pv 23)) (blkOk_by (N := n_law) (sc := relS (lcSc (firstArg (valOf (stAt 3)))) (defScope s_law)) (by decide +kernel))
          (fun _ _ _ _ _ => pg_name (i := 22) nd rfl (Or.inl rfl)) (fun _ _ _ _ _ => pts_nil) (fun _ _ _ _ _ => pe_dget2 hu (pv 3) (pv 22) (pv 22) ⟨rfl, rfl, rfl, rfl⟩))))))
      (R cdv A outer s H E hr)))), ?_⟩
    refine ⟨_, rfl, szl 4, fun H1 r S1 n1 k1 h1 => ?_⟩
    have nar : a ≠ r := by
      rcases ha with (e | ⟨o, e⟩) | ⟨o, its, n, e, _⟩
      · exact ne_of_none e n1
      · exact ne_of_none e n1
      · intro z; rw [z, show K.lookup r = none from k1] at e; cases e
    have hR1 : RowOk K (a, ns) H1 r := ⟨0, 11314, 0, h1, S1.seq ha, Int.le_refl _, nar, hns⟩
    refine ⟨_, rfl, _, rfl, r, (a, ns), rfl, hR1, fun H2 b1 ws1 st1 D1 B1 g1 => ⟨_, rfl, r, (a, ns), rfl, D1.row, fun H3 b2 ws2 st2 D2 B2 g2 => ⟨_, rfl, r, (a, ns), rfl, D2.row, fun H4 p3 b3 m3 ws3 st3 D3 h3 B3 g3 => ?_⟩⟩⟩
    refine ⟨p3, _, _, _, rfl, rfl, SqT.of h3, at0, szl 3, fun H5 q5 S5 n5 h5 => ?_⟩
    have hR5 := D3.row.same S5
    refine ⟨r, q5, (a, ns), _, rfl, hR5, D3.row.there n5, h5, by show 1 ≤ 3; decide, by show 3 < _; decide, fun H6 k6 v6 D6 hv6 => ?_⟩
    have T56 := D6.tups hR5
    have bk : ∃ b ws st, v6 = .ref b ∧ BookAt H6 b ws st ∧ GoodBook ws st := by
      have hm := List.mem_of_getElem? hv6
      simp only [List.mem_cons, List.not_mem_nil, or_false] at hm
      rcases hm with rfl | rfl | rfl
      · exact ⟨b1, ws1, st1, rfl, (((B1.keep (D2.tups D1.row)).keep (D3.tups D2.row)).keep (.of S5)).keep T56, g1⟩
      · exact ⟨b2, ws2, st2, rfl, ((B2.keep (D3.tups D2.row)).keep (.of S5)).keep T56, g2⟩
      · exact ⟨b3, ws3, st3, rfl, (B3.keep (.of S5)).keep T56, g3⟩
    obtain ⟨b, ws, st, rfl, B6, g⟩ := bk
    have hR6 := D6.row
    clear B1 B2 B3 g1 g2 g3 D1 D2 D3 D6 hR5 T56 hv6 h3 S5 n5 h5 hR1 h1 S1 n1
    refine fun t nt => ⟨upd_same, [((Sum.inr "+" : Key), V.str "-"), (Sum.inr "-", V.str "+")], rfl, by decide, ?_⟩
    have et : mergeK [] [((Sum.inr "+" : Key), V.str "-"), (Sum.inr "-", V.str "+")] = flipKV := by decide +kernel
    rw [et]
    have S7 : Same H6 (upd (upd H6 t (.dK [])) t (.dK flipKV)) := sPut (same_upd nt) nt
    have h7 : (upd (upd H6 t (.dK [])) t (.dK flipKV)) t = some (.dK flipKV) := upd_same
    generalize upd (upd H6 t (.dK [])) t (.dK flipKV) = H7 at S7 h7 ⊢
    have B7 := B6.keep (.of S7)
    have hR7 := hR6.same S7
    clear B6 hR6 S7 nt
    dsimp only [gName, tSeq, tAsg, tCB, tCons]
    show tLc (iTup K (tAllW K)) (gName 23) tYes (tFlipW K) [23] _ H7 _
    unfold tLc
    refine allw_rd rfl B7 g fun H8 p8 as S8 h8 wsAll => ?_
    intro D nD
    have el := wsAll.length
    have lw : (ws ++ [st]).length = ws.length + 1 := by rw [List.length_append]; rfl
    have few := g.few
    have gall : ∀ w ∈ ws ++ [st], Good ws.length 40 w := fun w hw => by
      rcases List.mem_append.mp hw with h | h
      · exact g.words w h
      · rw [List.mem_singleton.mp h]; exact g.start
    refine lc_tup (K := K) (a := p8) (xs := as.map V.ref) (fun i H' => Same H8 H' ∧ ∃ fs : List Addr, H' D = some (.lst (fs.map V.ref)) ∧ Words H' fs (((ws ++ [st]).take i).map flipW)) ⟨same_upd nD, [], upd_same, .nil⟩ (fun i H' _ h => SqT.of (h.1 _ _ h8)) ?_ ?_
    · rintro i x H9 hx ⟨S9, fs, hD, hF⟩
      obtain ⟨wa, w1, rfl, hi, ea, hwa, gw⟩ := word_get wsAll gall hx
      have gl := gw.len
      have lF := hF.length
      rw [List.length_map, List.length_take] at lF
      have hw9 := hwa.same S9
      have ht9 := S9 _ _ (S8 _ _ h7)
      refine ⟨rfl, _, rfl, wa, rfl, ⟨_, hw9.sq⟩, fun D2 nD2 => ?_⟩
      refine lc_tup (K := K) (a := wa) (xs := wv w1) (fun j H' => Same H9 H' ∧ H' D2 = some (.lst (wv (flipW (w1.take j))))) ⟨same_upd nD2, upd_same⟩ (fun j H' _ h => (hw9.same h.1).sq) ?_ ?_
      · rintro j x H10 hx ⟨S10, hD2⟩
        obtain ⟨s1, hs, rfl⟩ := wv_get hx
        have hj : j < w1.length := (List.getElem?_eq_some_iff.mp hs).1
        have ht10 := S10 _ _ ht9
        refine ⟨rfl, _, rfl, t, rfl, .inl ⟨_, .inl ht10⟩, _, rfl, _, rfl, _, by rw [keyS_v]; exact DGet.k ht10, ?_⟩
        have eg : (valV flipKV (keyS s1)).getD s1.v = (flipS s1).v := flip_get s1
        rw [eg]
        refine ⟨_, hD2, ?_, sPut S10 nD2, ?_⟩
        · rw [List.length_map, flipW_len, List.length_take, sizeLine_eq]; omega
        · rw [upd_same, take_more hs]
          simp only [flipW, wv, List.map_append, List.map_cons, List.map_nil]
      · rintro H10 ⟨S10, hD2⟩
        rw [List.length_map, List.take_length] at hD2
        refine ⟨D2, _, rfl, SqL.of hD2, NewW.of (w := flipW w1) (fun H11 t11 S11 n11 h11 => ?_) rfl⟩
        have S911 := S10.trans S11
        refine ⟨_, S911 _ _ hD, ?_, sPut (S9.trans S911) nD, fs ++ [t11], ?_, ?_⟩
        · rw [List.length_map, sizeLine_eq]; omega
        · rw [upd_same, List.map_append]; rfl
        · have T3 : TupS H11 (upd H11 D (.lst (fs.map V.ref ++ [V.ref t11]))) := TupS.refl.lst (S911 _ _ hD)
          rw [take_more ea, List.map_append]
          exact Paired.snoc ((hF.keep (.of S911)).keep T3) (T3.wd h11)
    · rintro H9 ⟨S9, fs, hD, hF⟩
      rw [List.length_map, el, List.take_length] at hF
      refine ⟨D, _, rfl, SqL.of hD, fun H10 o S10 n10 h10 => ?_⟩
      have S710 := (S8.trans S9).trans S10
      exact ⟨a, r, b, o, ns, fs, ws, st, _, rfl, ⟨hR7.same S710, B7.keep (.of S710), g⟩, h10, hF.keep (.of S10), q⟩
end
end SK
namespace SK
open PySem PySem.Spec PyProof.Rows L2
theorem cut_init (xs : List V) (x : V) : cutV (xs ++ [x]) none (some (-1)) = xs ∧ ¬ (HT.sIx (xs ++ [x]).length 0 (none : Option Int) = 0 ∧ HT.sIx (xs ++ [x]).length (xs ++ [x]).length (some (-1 : Int)) = (xs ++ [x]).length) := by
  have l : (xs ++ [x]).length = xs.length + 1 := by rw [List.length_append]; rfl
  have e : HT.sIx (xs ++ [x]).length (xs ++ [x]).length (some (-1)) = xs.length := by
    show (if (-1 : Int) < 0 then ((-1 : Int) + ((xs ++ [x]).length : Int)).toNat else min (-1 : Int).toNat (xs ++ [x]).length) = _
    rw [if_pos (by decide), l]
    omega
  refine ⟨?_, fun z => ?_⟩
  · unfold cutV
    rw [e, HT.sIx_none, List.drop_zero, Nat.sub_zero]
    exact List.take_left
  · have z := z.2
    rw [e, l] at z
    omega
theorem paired_take {α β : Type} {F : α → β → Prop} : ∀ (n : Nat) {xs : List α} {ys : List β}, Paired F xs ys → Paired F (xs.take n) (ys.take n)
  | 0, _, _, _ => .nil
  | _ + 1, _, _, .nil => .nil
  | n + 1, _, _, .cons r t => .cons r (paired_take n t)
/-- the parts of all words turned over -/
theorem flips_split {H : Hp} {fs : List Addr} {ws : List (List Sy)} {st : List Sy} (h : Words H fs ((ws ++ [st]).map flipW)) : ∃ (gs : List Addr) (z : Addr), fs = gs ++ [z] ∧ Words H gs (ws.map flipW) ∧ WdAt H z (flipW st) := by
  have l := h.length
  rw [List.length_map, List.length_append, List.length_singleton] at l
  have e1 : ((ws ++ [st]).map flipW)[ws.length]? = some (flipW st) := by rw [List.getElem?_map, List.getElem?_append_right (Nat.le_refl _), Nat.sub_self]; rfl
  obtain ⟨z, ez, hz⟩ := paired_get h e1
  refine ⟨fs.take ws.length, z, ?_, ?_, hz⟩
  · rw [← take_more ez, List.take_of_length_le (by omega)]
  · have t := paired_take ws.length h
    rw [show ((ws ++ [st]).map flipW).take ws.length = ws.map flipW by rw [List.map_append, List.take_append_of_le_length (by rw [List.length_map]; exact Nat.le_refl _), List.take_of_length_le (by rw [List.length_map]; exact Nat.le_refl _)]] at t
    exact t
/-! ### books alike -/
theorem sy_flat (w : List Sy) : ∀ x ∈ wv w, flatA x = true := fun x hx => by
  obtain ⟨s, _, rfl⟩ := List.mem_map.mp hx
  cases s <;> rfl
theorem alk_wd {H : Hp} {a b : Addr} {w : List Sy} (h1 : WdAt H a w) (h2 : WdAt H b w) (hl : w.length ≤ 10000000) : Alk H 1 (.ref a) (.ref b) := by
  obtain ⟨o1, e1, _⟩ := h1
  obtain ⟨o2, e2, _⟩ := h2
  refine .inr ⟨a, b, wv w, wv w, rfl, rfl, .inl ⟨.inr ⟨o1, e1⟩, .inr ⟨o2, e2⟩⟩, rfl, by rw [List.length_map]; exact hl, fun i x y h1 h2 => ?_⟩
  rw [h1] at h2
  cases h2
  exact ⟨rfl, sy_flat w x (List.mem_of_getElem? h1)⟩
theorem alk_wds {H : Hp} {p q : Addr} {as bs : List Addr} {ws : List (List Sy)} (hp : H p = some (.tup (as.map V.ref))) (hq : H q = some (.tup (bs.map V.ref))) (h1 : Words H as ws) (h2 : Words H bs ws) (hl : ws.length ≤ 1000) (hw : ∀ w ∈ ws, w.length ≤ 10000000) : Alk H 2 (.ref p) (.ref q) := by
  have l1 := h1.length
  have l2 := h2.length
  refine .inr ⟨p, q, _, _, rfl, rfl, .inl ⟨.inl hp, .inl hq⟩, by rw [List.length_map, List.length_map]; omega, by rw [List.length_map]; omega, fun i x y hx hy => ?_⟩
  have hi : i < ws.length := by have := (List.getElem?_eq_some_iff.mp hx).1; rw [List.length_map] at this; omega
  have hwi := List.getElem?_eq_getElem hi
  obtain ⟨a, ea, ha⟩ := paired_get h1 hwi
  obtain ⟨b, eb, hb⟩ := paired_get h2 hwi
  rw [List.getElem?_map, ea] at hx
  rw [List.getElem?_map, eb] at hy
  cases hx
  cases hy
  exact alk_wd ha hb (hw _ (List.getElem_mem hi))
theorem alk_book {H : Hp} {b c : Addr} {ws : List (List Sy)} {st : List Sy} (h1 : BookAt H b ws st) (h2 : BookAt H c ws st) (hl : ws.length ≤ 1000) (hw : ∀ w ∈ ws ++ [st], w.length ≤ 10000000) : Alk H 3 (.ref b) (.ref c) := by
  obtain ⟨p, q, as, a1, a2, a3, a4⟩ := h1
  obtain ⟨p', q', as', b1, b2, b3, b4⟩ := h2
  refine .inr ⟨b, c, _, _, rfl, rfl, .inl ⟨.inl a1, .inl b1⟩, rfl, by show 2 ≤ _; decide, fun i x y hx hy => ?_⟩
  match i, hx, hy with
  | 0, hx, hy =>
    cases hx
    cases hy
    exact alk_wds a2 b2 a4 b4 hl fun w h => hw w (List.mem_append_left _ h)
  | 1, hx, hy =>
    cases hx
    cases hy
    exact (alk_wd a3 b3 (hw st (by simp))).up
  | n + 2, hx, hy => cases hx
def tR6 (K : PySem.W.Frag) : TS := fun D σ H => ∃ (a r b o : Addr) (ns : List Int) (fs : List Addr) (ws : List (List Sy)) (st : List Sy) (y3 : Option V), σ = [some (.ref a), some (.ref r), some (.ref b), y3, some (.ref o), some (.bl (decide (Plain ws st))), some .non, none, none, none, none, none, none, none, none, none, none, none, none, none, none, none, none, none] ∧
  D14 K (a, ns) r b ws st H ∧ H o = some (.tup (fs.map V.ref)) ∧ Words H fs ((ws ++ [st]).map flipW) ∧ ∀ H', D.rt (.bl true) H'
section
variable {P : Program} {w : World} {K : PySem.W.Frag} {mg : Str → Option Value} {base : Heap}
theorem law14_b {f CB CT : Addr} {cdv : Value} {k : Nat} (G : LawG14 P w K mg base CB CT k) {A : Around} {outer : List Env} {s : Shared} {H : Hp} {E : XK} (hr : Room k (A.deeper (envOfC "law" (defScope s_law) s.heap.objs.size f cdv)))
    (R : PSs (cxOf CX0 P w K mg base n_law "law" (defScope s_law) f cdv A outer s H E).nox ((defBody s_law).drop 6) (tR6 K)) :
    PSs (cxOf CX0 P w K mg base n_law "law" (defScope s_law) f cdv A outer s H E).nox ((defBody s_law).drop 4) (tR4 K) := by
  have nd := sc_law.nd
  obtain ⟨GP, GB, GK, GE, GT, GA, GG, GD, GU, GQ, GL, GM, GBk, GS, GDr, mR, ml, mT, mI, mi, mRv, mMx⟩ := G
  refine pssimp _ (pss_cons (ps_if (pt_not (pt_val (pcall GL hr (pa_cons (pcall GM hr (pa_cons (pv 2) pa_nil)) (pa_cons (ptupN (pa_cons (pe_slice sl_tupN (pv 4) po_none (po_some (pe_un un_neg pe_int))) (pa_cons (pixT (pv 4) (pe_un un_neg pe_int)) pa_nil))) pa_nil))))) pss_never pss_nil)
    (pss_cons (ps_par rfl nd (i := 5) (j := 6) rfl rfl (by decide) rfl rfl (pa_cons (pe_cmpR (op_eqD hr.units) (pe_lc (own := [("word", 23)]) (g := gName 23) (tt := tTest (tOp (rIn K false) (tC (.str "[")) (tVar 23))) (te := tVar 23) rfl nd (pi_tup (pe_op op_catT (pixT (pv 2) pe_int) (ptupN (pa_cons (pixT (pv 2) pe_int) pa_nil)))) (blkOk_by (N := n_law) (sc := defScope s_law) (by decide +kernel))
        (fun _ _ _ _ _ => pg_name (i := 23) nd rfl (Or.inl rfl)) (fun _ _ _ _ _ => pts_one (pt_cmpR op_in_seq pe_str (pv 23) (by rfl))) (fun _ _ _ _ _ => pv 23)) (plstN pa_nil) (nomark _)) (pa_cons pe_non pa_nil)) (by rfl))
    R)) ?_
  rintro D σ H0 ⟨a, r, b, o, ns, fs, ws, st, y3, rfl, d, ho, hF, q⟩
  obtain ⟨gs, z, rfl, hG, hz⟩ := flips_split hF
  have few := d.g.few
  rw [List.map_append] at ho
  obtain ⟨c1, c2⟩ := cut_init (gs.map V.ref) (V.ref z)
  refine ⟨_, rfl, b, ws, st, rfl, d.bk, d.g, fun H1 m S1 n1 hm => ?_⟩
  refine ⟨_, rfl, 1, rfl, -1, rfl, o, _, rfl, SqT.of (S1 _ _ ho), c2, fun H2 p2 S2 n2 h2 => ?_⟩
  rw [show cutV (gs.map V.ref ++ List.map V.ref [z]) none (some (-1)) = gs.map V.ref from c1] at h2
  refine ⟨_, rfl, 1, rfl, o, _, _, .ref z, rfl, rfl, SqT.of ((S1.trans S2) _ _ ho), atI_last _ _, szl 2, fun H3 t3 S3 n3 h3 => ?_⟩
  have S13 := S2.trans S3
  have S03 := S1.trans S13
  have bt : BookAt H3 t3 (ws.map flipW) (flipW st) := ⟨p2, z, gs, h3, S3 _ _ h2, hz.same S03, hG.keep (.of S03)⟩
  refine ⟨_, _, rfl, (alk_book (hm.keep (.of S13)) bt (by rw [List.length_map]; omega) fun w hw => ?_).up, fun H4 S4 => ⟨_, rfl, iteF ?_⟩⟩
  · have gf := book_flip d.g
    rcases List.mem_append.mp hw with h | h
    · have := (gf.words w h).len; omega
    · rw [List.mem_singleton.mp h]; have := gf.start.len; omega
  have S04 := S03.trans S4
  have d4 := d.same S04
  have ho4 := S04 _ _ ho
  have hF4 := hF.keep (.of S04)
  clear hF hG hz d ho hm bt S1 S2 S3 S13 S03 S04 h2 h3
  dsimp only [tSeq, tPar, tCons]
  show tOp (rEqD K) (tLc (iTup K (tAllW K)) (gName 23) (tTest (tOp (rIn K false) (tC (V.str "[")) (tVar 23))) (tVar 23) [23]) (tLstN tNil) _ H4 _
  refine plain_rd rfl (by show 23 < 24; decide) d4.bk d4.g fun H5 S5 => ?_
  refine ⟨_, _, rfl, ?_⟩
  exact ⟨a, r, b, o, ns, gs ++ [z], ws, st, y3, rfl, d4.same S5, by rw [List.map_append]; exact S5 _ _ ho4, hF4.keep (.of S5), q⟩
end
end SK
namespace SK
open PySem PySem.Spec PyProof.Rows L2
/-- the try's body -/
def tBk (CB : Addr) (W : WX) : TS := tAsg (tCallS (spBackX CB) (WE W) (tCons (tVar 2) tNil)) (gName 6)
/-- back = "branching" if isinstance(error, Branching) else "other" -/
def tSuiteBk (CB a : Addr) (cls : Value) (d : Option Addr) : TS := fun D σ H => σ[7]? = some (some (.ref a)) ∧ cls = .ref CB ∧ d = none ∧ D.nx (σ.set 6 (some (.str "branching"))) H
def tR7 (K : PySem.W.Frag) : TS := fun D σ H => ∃ (a r b o : Addr) (ns : List Int) (fs : List Addr) (ws : List (List Sy)) (st : List Sy) (bk : V) (y3 : Option V), σ = [some (.ref a), some (.ref r), some (.ref b), y3, some (.ref o), some (.bl (decide (Plain ws st))), some bk, none, none, none, none, none, none, none, none, none, none, none, none, none, none, none, none, none] ∧
  D14 K (a, ns) r b ws st H ∧ H o = some (.tup (fs.map V.ref)) ∧ Words H fs ((ws ++ [st]).map flipW) ∧ (Plain ws st → ∃ k, bk = .ref k ∧ BookAt H k (ws.map backW) (backW st)) ∧ (¬ Plain ws st → bk = .str "branching") ∧ ∀ H', D.rt (.bl true) H'
theorem rev_flip (w : List Sy) : (wv (flipW w)).reverse = wv (backW w) := by unfold backW wv; rw [List.map_reverse]
section
variable {P : Program} {w : World} {K : PySem.W.Frag} {mg : Str → Option Value} {base : Heap}
theorem law14_c2 {f CB CT : Addr} {cdv : Value} {k : Nat} (G : LawG14 P w K mg base CB CT k) {A : Around} {outer : List Env} {s : Shared} {H : Hp} {E : XK} (hr : Room k (A.deeper (envOfC "law" (defScope s_law) s.heap.objs.size f cdv)))
    (R : PSs (cxOf CX0 P w K mg base n_law "law" (defScope s_law) f cdv A outer s H E).nox ((defBody s_law).drop 8) (tR8 K)) :
    PSs (cxOf CX0 P w K mg base n_law "law" (defScope s_law) f cdv A outer s H E).nox ((defBody s_law).drop 7) (tR7 K) := by
  have nd := sc_law.nd
  obtain ⟨GP, GB, GK, GE, GT, GA, GG, GD, GU, GQ, GL, GM, GBk, GS, GDr, mR, ml, mT, mI, mi, mRv, mMx⟩ := G
  refine pssimp _ (pss_cons (ps_if (pt_not (pt_val (pcall GL hr (pa_cons (pv 6) (pa_cons (pe_ifExp (pt_val (pv 5)) (ptupN (pa_cons (ptupleN mT (pe_lc (own := [("word", 23)]) (g := gName 23) (tt := tYes) (te := tRevF K (tVar 23)) rfl nd (pi_tup (pe_slice sl_tupN (pv 4) po_none (po_some (pe_un un_neg pe_int)))) (blkOk_by (N := n_law) (sc := defScope s_law) (by decide +kernel))
        (fun _ _ _ _ _ => pg_name (i := 23) nd rfl (Or.inl rfl)) (fun _ _ _ _ _ => pts_nil) (fun _ _ _ _ _ => pe_revF (pv 23)))) (pa_cons (pe_revF (pixT (pv 4) (pe_un un_neg pe_int))) pa_nil))) pe_str) pa_nil))))) pss_never pss_nil)
    R) ?_
  rintro D σ H0 ⟨a, r, b, o, ns, fs, ws, st, bk, y3, rfl, d, ho, hF, hb1, hb2, q⟩
  by_cases pl : Plain ws st
  · obtain ⟨kb, rfl, hkb⟩ := hb1 pl
    obtain ⟨gs, z, rfl, hG, hz⟩ := flips_split hF
    have few := d.g.few
    have lG := hG.length
    rw [List.length_map] at lG
    rw [List.map_append] at ho
    obtain ⟨c1, c2⟩ := cut_init (gs.map V.ref) (V.ref z)
    rw [decide_eq_true pl]
    refine ⟨_, rfl, _, rfl, true, rfl, iteT ?_⟩
    refine ⟨_, rfl, 1, rfl, -1, rfl, o, _, rfl, SqT.of ho, c2, fun H2 p2 S2 n2 h2 => ?_⟩
    rw [show cutV (gs.map V.ref ++ List.map V.ref [z]) none (some (-1)) = gs.map V.ref from c1] at h2
    refine ⟨p2, rfl, ⟨_, SqT.of h2⟩, fun D2 nD2 => ?_⟩
    refine lc_tup (K := K) (a := p2) (xs := gs.map V.ref) (fun i H' => Same H2 H' ∧ ∃ hs : List Addr, H' D2 = some (.lst (hs.map V.ref)) ∧ Words H' hs ((ws.take i).map backW)) ⟨same_upd nD2, [], upd_same, .nil⟩ (fun i H' _ h => SqT.of (h.1 _ _ h2)) ?_ ?_
    · rintro i x H3 hx ⟨S3, hs, hD, hH⟩
      have hi : i < ws.length := by have := (List.getElem?_eq_some_iff.mp hx).1; rw [List.length_map] at this; omega
      have hwi := List.getElem?_eq_getElem hi
      generalize ws[i] = w1 at hwi
      have hwf : (ws.map flipW)[i]? = some (flipW w1) := by rw [List.getElem?_map, hwi]; rfl
      obtain ⟨ga, ega, hga⟩ := paired_get hG hwf
      rw [List.getElem?_map, ega] at hx
      cases hx
      have lH := hH.length
      rw [List.length_map, List.length_take] at lH
      refine ⟨rfl, _, rfl, ga, _, rfl, ((hga.same S2).same S3).sq, NewW.of (w := backW w1) (fun H4 u S4 n4 h4 => ⟨_, S4 _ _ hD, ?_, sPut (S3.trans S4) nD2, hs ++ [u], ?_, ?_⟩) (rev_flip w1)⟩
      · rw [List.length_map, sizeLine_eq]; omega
      · rw [upd_same, List.map_append]; rfl
      · have T7 : TupS H4 (upd H4 D2 (.lst (hs.map V.ref ++ [V.ref u]))) := TupS.refl.lst (S4 _ _ hD)
        rw [take_more hwi, List.map_append]
        exact Paired.snoc ((hH.keep (.of S4)).keep T7) (T7.wd h4)
    · rintro H3 ⟨S3, hs, hD, hH⟩
      rw [List.length_map, lG, List.take_length] at hH
      refine ⟨D2, _, rfl, SqL.of hD, fun H4 p4 S4 n4 h4 => ?_⟩
      have S04 := (S2.trans S3).trans S4
      refine ⟨_, rfl, 1, rfl, o, _, _, .ref z, rfl, rfl, SqT.of (S04 _ _ ho), atI_last _ _, z, _, rfl, (hz.same S04).sq, NewW.of (w := backW st) (fun H5 u S5 n5 h5 => ⟨szl 2, fun H6 p6 S6 n6 h6 => ?_⟩) (rev_flip st)⟩
      have S46 := S5.trans S6
      have S06 := S04.trans S46
      have bt : BookAt H6 p6 (ws.map backW) (backW st) := ⟨p4, u, hs, h6, S46 _ _ h4, h5.same S6, (hH.keep (.of S4)).keep (.of S46)⟩
      refine ⟨_, _, rfl, (alk_book (hkb.keep (.of S06)) bt (by rw [List.length_map]; omega) fun w hw => ?_).up, fun H7 S7 => ⟨_, rfl, iteF ?_⟩⟩
      · have gf := book_back d.g pl
        rcases List.mem_append.mp hw with h | h
        · have := (gf.words w h).len; omega
        · rw [List.mem_singleton.mp h]; have := gf.start.len; omega
      have S07 := S06.trans S7
      exact ⟨a, r, b, ns, ws, st, _, _, _, by rw [decide_eq_true pl], d.same S07, fun _ => ⟨kb, rfl, hkb.keep (.of S07)⟩, q⟩
  · rw [hb2 pl, decide_eq_false pl]
    refine ⟨_, rfl, _, rfl, false, rfl, iteF ⟨_, _, rfl, .inl ⟨rfl, rfl⟩, fun H7 S7 => ⟨_, rfl, iteF ?_⟩⟩⟩
    exact ⟨a, r, b, ns, ws, st, _, _, _, by rw [decide_eq_false pl], d.same S7, fun h => absurd h pl, q⟩
theorem law14_c {f CB CT CS : Addr} {cdv : Value} {k : Nat} (EC : ExcC K CB) (gB : mg "Branching" = some (.ref CB)) (kiB : PySem.W.kitOne K (.ref CB) (.ref CB) = some true) (gS : mg "StrokeError" = some (.ref CS)) (te : PySem.W.exmOne K (.ref CB) (.ref CS) = some true)
    (G : LawG14 P w K mg base CB CT k) {A : Around} {outer : List Env} {s : Shared} {H : Hp} {E : XK} (hr : Room k (A.deeper (envOfC "law" (defScope s_law) s.heap.objs.size f cdv)))
    (R : PSs (cxOf CX0 P w K mg base n_law "law" (defScope s_law) f cdv A outer s H E).nox ((defBody s_law).drop 7) (tR7 K)) :
    PSs (cxOf CX0 P w K mg base n_law "law" (defScope s_law) f cdv A outer s H E).nox ((defBody s_law).drop 6) (tR6 K) := by
  have nd := sc_law.nd
  have GBk := G.back
  have mI := G.mI
  refine pssimp _ (pss_cons (ps_try_as (i := 7) (tb := tBk CB) (ts := tSuiteBk CB) (Wout := fun _ _ _ _ => False) rfl rfl nd rfl rfl ⟨rfl, by decide, .inl gS⟩ takes0
        (fun W pn xe tk _ => pss_one (ps_set (i := 6) nd rfl (.inl rfl) (pcallX GBk hr tk (pa_cons (pv 2) pa_nil))))
        (fun a oe cls d pn hz hf => pssimp _ (pss_one (ps_set (i := 6) nd rfl (.inl rfl) (pe_ifExp (pt_val (pe_callB (call_isN EC hz hf) (by rfl) mI (by decide +kernel) (pa_cons (pv 7) (pa_cons (pe_glob (v := .ref CB) rfl gB rfl) pa_nil)) (by decide) (by decide))) pe_str pe_str))) ?suite))
    R) ?_
  case suite =>
    rintro D σ H ⟨e7, rfl, rfl, q⟩
    exact ⟨_, e7, rfl, rfl, .ref CB, .ref CB, true, rfl, (fun u r => r), kiB, true, rfl, iteT q⟩
  rintro D σ H0 ⟨a, r, b, o, ns, fs, ws, st, y3, rfl, d, ho, hF, q⟩
  refine ⟨_, rfl, b, ws, st, rfl, d.bk, d.g, fun pl H1 m S1 n1 hm => ?_, fun npl H1 S1 => ⟨true, te, fun _ a' ha' => ⟨rfl, rfl, rfl, ?_⟩, fun z => Bool.noConfusion z⟩⟩
  · exact ⟨a, r, b, o, ns, fs, ws, st, _, y3, rfl, d.same S1, S1 _ _ ho, hF.keep (.of S1), fun _ => ⟨m, rfl, hm⟩, fun z => absurd pl z, q⟩
  · exact ⟨a, r, b, o, ns, fs, ws, st, _, y3, rfl, d.same S1, S1 _ _ ho, hF.keep (.of S1), fun z => absurd z npl, fun _ => rfl, q⟩
end
end SK
namespace SK
open PySem PySem.Spec PyProof.Rows L2
theorem stV_flat (s : Stk) : ∀ x ∈ stV s, flatA x = true := fun x hx => by
  simp only [stV, List.mem_cons, List.not_mem_nil, or_false] at hx
  rcases hx with rfl | rfl | rfl | rfl <;> rfl
theorem alkS {H : Hp} {p q : Addr} {as bs : List Addr} {ss : List Stk} (hp : H p = some (.tup (as.map V.ref))) (hq : H q = some (.tup (bs.map V.ref))) (h1 : Strs H as ss) (h2 : Strs H bs ss) (hl : ss.length ≤ 10000000) : Alk H 2 (.ref p) (.ref q) := by
  have l1 := h1.length
  have l2 := h2.length
  refine .inr ⟨p, q, _, _, rfl, rfl, .inl ⟨.inl hp, .inl hq⟩, by rw [List.length_map, List.length_map]; omega, by rw [List.length_map]; omega, fun i x y hx hy => ?_⟩
  have hi : i < ss.length := by have := (List.getElem?_eq_some_iff.mp hx).1; rw [List.length_map] at this; omega
  have hwi := List.getElem?_eq_getElem hi
  obtain ⟨a, ea, ha⟩ := paired_get h1 hwi
  obtain ⟨b, eb, hb⟩ := paired_get h2 hwi
  rw [List.getElem?_map, ea] at hx
  rw [List.getElem?_map, eb] at hy
  cases hx
  cases hy
  exact Alk.flats (.inl ha) (.inl hb) (by show 4 ≤ _; decide) (stV_flat _)
section
variable {P : Program} {w : World} {K : PySem.W.Frag} {mg : Str → Option Value} {base : Heap}
theorem law14_d {f CB CT : Addr} {cdv : Value} {k : Nat} (G : LawG14 P w K mg base CB CT k) {A : Around} {outer : List Env} {s : Shared} {H : Hp} {E : XK} (hr : Room k (A.deeper (envOfC "law" (defScope s_law) s.heap.objs.size f cdv)))
    (R : PSs (cxOf CX0 P w K mg base n_law "law" (defScope s_law) f cdv A outer s H E).nox ((defBody s_law).drop 12) (tR12 K)) :
    PSs (cxOf CX0 P w K mg base n_law "law" (defScope s_law) f cdv A outer s H E).nox ((defBody s_law).drop 8) (tR8 K) := by
  have nd := sc_law.nd
  obtain ⟨GP, GB, GK, GE, GT, GA, GG, GD, GU, GQ, GL, GM, GBk, GS, GDr, mR, ml, mT, mI, mi, mRv, mMx⟩ := G
  refine pssimp _ (pss_cons (ps_set (i := 8) nd rfl (.inl rfl) (pcall GT hr (pa_cons (pv 1) (pa_cons (padd pe_int (pcall GA hr (pa_cons (pv 2) (pa_cons pe_int pa_nil)))) pa_nil))))
    (pss_cons (ps_asg (pcall GD hr (pa_cons (pcall GG hr (pa_cons (pv 2) (pa_cons (pv 8) pa_nil))) pa_nil)) (pg_tup (by rfl) (pgs_cons (pg_name (i := 9) nd rfl (.inl rfl)) (pgs_cons (pg_name (i := 10) nd rfl (.inl rfl)) pgs_nil))))
    (pss_cons (ps_set (i := 15) nd rfl (.inl rfl) (ptupleN mT (pe_lc (own := [("x", 11), ("y", 12), ("heading", 13), ("letter", 14)]) (g := gTup K 4 (gCons (gName 11) (gCons (gName 12) (gCons (gName 13) (gCons (gName 14) gNil))))) (tt := tYes)
        (te := tTupN (tCons (tVar 11) (tCons (tOp (rI0 fun i j => .int (i - j)) (tC (.int 0)) (tVar 12)) (tCons (tOp (rI (fun _ j => 0 < j) fun i j => .int (i % j)) (tCB rInt1 (tCons (tOp (rI0 fun i j => .int (i - j)) (tC (.int 0)) (tVar 13)) tNil)) (tC (.int 4))) (tCons (tVar 14) tNil))))) rfl nd (pi_list (pv 9)) (blkOk_by (N := n_law) (sc := defScope s_law) (by decide +kernel))
        (fun _ _ _ _ _ => pg_tup (by rfl) (pgs_cons (pg_name (i := 11) nd rfl (.inl rfl)) (pgs_cons (pg_name (i := 12) nd rfl (.inl rfl)) (pgs_cons (pg_name (i := 13) nd rfl (.inl rfl)) (pgs_cons (pg_name (i := 14) nd rfl (.inl rfl)) pgs_nil))))) (fun _ _ _ _ _ => pts_nil)
        (fun _ _ _ _ _ => ptupN (pa_cons (pv 11) (pa_cons (psub pe_int (pv 12)) (pa_cons (pmod (pint mi (psub pe_int (pv 13))) pe_int) (pa_cons (pv 14) pa_nil))))))))
    (pss_cons (ps_if (pt_not (pt_val (pcall GL hr (pa_cons (pcall GDr hr (pa_cons (pcall GM hr (pa_cons (pv 2) pa_nil)) (pa_cons (pv 8) pa_nil))) (pa_cons (pv 15) pa_nil))))) pss_never pss_nil)
    R)))) ?_
  rintro D σ H6 ⟨a, r, b, ns, ws, st, bk, y3, y4, rfl, d, hbk, q⟩
  have g := d.g
  refine ⟨_, rfl, _, rfl, b, 200, ws, st, rfl, d.bk, g, by decide, by decide, fun H7 n S7 low => ⟨_, _, rfl, rfl, ?_⟩⟩
  have en : (V.int (1 + (n : Int))) = V.int ((1 + n : Nat) : Int) := by congr 1
  dsimp only; rw [en]
  have hn8 := low.1
  have d7 := d.same S7
  refine ⟨r, (a, ns), 1 + n, rfl, d7.row, by omega, by omega, fun H8 age D8 hage => ?_⟩
  have d8 := d7.drawn D8
  have low8 := low.mono (show age ≤ n by omega)
  have len8 := low8.len g
  have nst := nest_grown' g age
  have a8 := low8.1
  have hbk8 : Plain ws st → ∃ k, bk = .ref k ∧ BookAt H8 k (ws.map backW) (backW st) := fun pl => by
    obtain ⟨kk, e, h⟩ := hbk pl
    exact ⟨kk, e, (h.keep (.of S7)).keep (D8.tups d7.row)⟩
  clear low en hage hn8 d7 d hbk D8 S7
  refine ⟨_, rfl, _, rfl, b, age, ws, st, rfl, d8.bk, g, by omega, by omega, fun H9 p9 S9 n9 h9 => ?_⟩
  refine ⟨p9, _, rfl, .inl (SqL.of h9), nst, by omega, fun H10 pp fa pe as S10 n10 h10 hfa hA nfa he10 => ?_⟩
  refine ⟨pp, _, rfl, SqT.of h10, rfl, _, _, rfl, _, _, rfl, rfl, ?_⟩
  have S810 := S9.trans S10
  have d10 := d8.same S810
  have hbk10 : Plain ws st → ∃ k, bk = .ref k ∧ BookAt H10 k (ws.map backW) (backW st) := fun pl => by
    obtain ⟨kk, e, h⟩ := hbk8 pl
    exact ⟨kk, e, h.keep (.of S810)⟩
  clear d8 hbk8 S9 S10 S810 n9 h9 n10 h10
  have few : (strokes (grown ws st age)).length ≤ 10000 := Nat.le_trans (strokes_ok nst).2 (by omega)
  have lA := hA.length
  refine ⟨_, rfl, fa, rfl, ⟨_, SqL.of hfa⟩, fun L nL => ?_⟩
  refine lc_list (K := K) (a := fa) (xs := as.map V.ref) (fun i H' => ∃ ds : List Addr, Same H10 H' ∧ H' L = some (.lst (ds.map V.ref)) ∧ Strs H' ds (((strokes (grown ws st age)).take i).map cjS)) ⟨[], same_upd nL, upd_same, .nil⟩ (fun i H' _ ⟨_, s, _⟩ => s.seq (SqL.of hfa)) ?_ ?_
  · rintro i x H11 hx ⟨ds, S11, hL, hD⟩
    obtain ⟨sa, s1, rfl, es, hs1⟩ := stk_get hA hx
    have hs11 := S11 _ _ hs1
    have lD := hD.length
    rw [List.length_map, List.length_take] at lD
    refine ⟨sa, _, rfl, SqT.of hs11, rfl, _, _, rfl, _, _, rfl, _, _, rfl, _, _, rfl, rfl, rfl, ?_⟩
    refine ⟨_, rfl, _, rfl, _, _, rfl, rfl, _, rfl, _, _, rfl, rfl, .inl ⟨_, rfl, _, _, rfl, rfl, (show (0 : Int) < 4 by decide), _, rfl, szl 4, fun H12 t12 S12 n12 h12 => ⟨_, S12 _ _ hL, ?_, ds ++ [t12], sPut (S11.trans S12) nL, by rw [upd_same, List.map_append]; rfl, ?_⟩⟩⟩
    · rw [List.length_map, sizeLine_eq]; omega
    · rw [take_more es, List.map_append]
      have T8 : TupS H12 (upd H12 L (.lst (ds.map V.ref ++ [V.ref t12]))) := TupS.refl.lst (S12 _ _ hL)
      exact Paired.snoc (((hD.keep (.of S12))).keep T8) (T8.1 _ _ h12)
  · rintro H11 ⟨ds, S11, hL, hD⟩
    rw [List.length_map, lA, List.take_length] at hD
    refine ⟨L, _, rfl, SqL.of hL, fun H12 du S12 n12 h12 => ?_⟩
    have S1012 := S11.trans S12
    have d12 := d10.same S1012
    refine ⟨_, rfl, b, ws, st, rfl, d12.bk, g, fun H13 m S13 n13 hm => ⟨_, rfl, m, age, _, _, rfl, hm, book_flip g, by omega, ?_, ?_, fun H14 t as2 S14 n14 h14 hA2 => ⟨_, rfl, _, _, rfl, ?_, fun H15 S15 => ⟨_, rfl, iteF ?_⟩⟩⟩⟩
    · rw [grown_flip, flipW_len]; omega
    · rw [grown_flip, nest_flip]; exact nst
    · rw [grown_flip, strokes_flip] at hA2
      have S1214 := S13.trans S14
      exact (alkS h14 (S1214 _ _ h12) hA2 ((hD.keep (.of S12)).keep (.of S1214)) (by rw [List.length_map]; omega)).up.up
    · have S1015 := (S1012.trans (S13.trans S14)).trans S15
      refine ⟨a, r, b, fa, pe, ns, as, ws, st, age, bk, _, _, _, rfl, d10.same S1015, fun pl => ?_, low8, S1015 _ _ hfa, hA.keep (.of S1015), S1015 _ _ he10, q⟩
      obtain ⟨kk, e, h⟩ := hbk10 pl
      exact ⟨kk, e, h.keep (.of S1015)⟩
end
end SK
namespace SK
open PySem PySem.Spec PyProof.Rows L2
section
variable {P : Program} {w : World} {K : PySem.W.Frag} {mg : Str → Option Value} {base : Heap}
def tR14 (K : PySem.W.Frag) : TS := fun D σ H => ∃ (a r b fo : Addr) (ns : List Int) (ds : List Addr) (ws : List (List Sy)) (st : List Sy) (age : Nat) (bk : V) (y3 y4 y9 y10 y11 y12 y13 y14 y15 y17 y18 : Option V), σ = [some (.ref a), some (.ref r), some (.ref b), y3, y4, some (.bl (decide (Plain ws st))), some bk, none, some (.int age), y9, y10, y11, y12, y13, y14, y15, some (.ref fo), y17, y18, none, none, none, none, none] ∧
  D14 K (a, ns) r b ws st H ∧ (Plain ws st → ∃ k, bk = .ref k ∧ BookAt H k (ws.map backW) (backW st)) ∧ Low 200 ws st age ∧ H fo = some (.lst (ds.map V.ref)) ∧ Strs H ds ((strokes (grown ws st age)).reverse.map (bS ((pen (grown ws st age)).x, (pen (grown ws st age)).y, (pen (grown ws st age)).h))) ∧ ∀ H', D.rt (.bl true) H'
theorem law14_e1 {f CB CT : Addr} {cdv : Value} {k : Nat} (G : LawG14 P w K mg base CB CT k) {A : Around} {outer : List Env} {s : Shared} {H : Hp} {E : XK} (hr : Room k (A.deeper (envOfC "law" (defScope s_law) s.heap.objs.size f cdv)))
    (R : PSs (cxOf CX0 P w K mg base n_law "law" (defScope s_law) f cdv A outer s H E).nox ((defBody s_law).drop 14) (tR14 K)) :
    PSs (cxOf CX0 P w K mg base n_law "law" (defScope s_law) f cdv A outer s H E).nox ((defBody s_law).drop 12) (tR12 K) := by
  have nd := sc_law.nd
  obtain ⟨GP, GB, GK, GE, GT, GA, GG, GD, GU, GQ, GL, GM, GBk, GS, GDr, mR, ml, mT, mI, mi, mRv, mMx⟩ := G
  refine pssimp _ (pss_cons (ps_set (i := 16) nd rfl (.inl rfl) (plstN pa_nil))
    (pss_cons (ps_for PassesOwn.never rfl (pi_reversed rfl mRv (pa_cons (pv 9) pa_nil)) (pg_tup (by rfl) (pgs_cons (pg_name (i := 11) nd rfl (.inl rfl)) (pgs_cons (pg_name (i := 12) nd rfl (.inl rfl)) (pgs_cons (pg_name (i := 13) nd rfl (.inl rfl)) (pgs_cons (pg_name (i := 14) nd rfl (.inl rfl)) pgs_nil)))))
      (pss_cons (ps_set (i := 17) nd rfl (.inl rfl) (pcall GU hr (pa_cons (pv 13) pa_nil)))
      (pss_cons (ps_set (i := 18) nd rfl (.inl rfl) (pcall GQ hr (pa_cons (ptupN (pa_cons (psub (padd (pv 11) (pixT (pv 17) pe_int)) (pixT (pv 10) pe_int)) (pa_cons (psub (padd (pv 12) (pixT (pv 17) pe_int)) (pixT (pv 10) pe_int)) pa_nil))) (pa_cons (psub (psub pe_int (pixT (pv 10) pe_int)) pe_int) pa_nil))))
      (pss_one (sapp (pv 16) (pe_op op_catT (pv 18) (ptupN (pa_cons (pmod (pint mi (psub (pv 13) (pixT (pv 10) pe_int))) pe_int) (pa_cons (pv 14) pa_nil)))))))))
    R)) ?_
  rintro D σ H0 ⟨a, r, b, fa, e, ns, as, ws, st, age, bk, y3, y4, y15, rfl, d, hbk, low, hfa, hA, he, q⟩
  have g := d.g
  have len8 := low.len g
  have nst := nest_grown' g age
  obtain ⟨so, sl⟩ := strokes_ok nst
  have few : (strokes (grown ws st age)).length ≤ 10000 := Nat.le_trans sl (by omega)
  refine ⟨szl 0, fun H1 fo S1 n1 h1 => ?_⟩
  have lA := hA.length
  have hfa1 := S1 _ _ hfa
  have hA1 := hA.keep (.of S1)
  have he1 := S1 _ _ he
  have nfo : ∀ {p : Addr} {o : HO}, H0 p = some o → p ≠ fo := fun h => ne_of_none h n1
  have nfa := nfo hfa
  have nro : fo ≠ r := (d.row.there n1)
  generalize hss : strokes (grown ws st age) = ss at hA1 so lA few
  generalize hX : (pen (grown ws st age)).x = X at he1
  generalize hY : (pen (grown ws st age)).y = Y at he1
  generalize hZ : (pen (grown ws st age)).h = Z at he1
  have at2' : atI (plV (X, Y, Z)) 2 = some (.int Z) := at2
  refine ⟨_, rfl, fa, _, rfl, SqL.of hfa1, ?_⟩
  refine for_it (walk_rev (K := K) (a := fa) (xs := as.map V.ref)) (fun i σ H' => ∃ (ds : List Addr) (y11 y12 y13 y14 y17 y18 : Option V), σ = [some (.ref a), some (.ref r), some (.ref b), y3, y4, some (.bl (decide (Plain ws st))), some bk, none, some (.int age), some (.ref fa), some (.ref e), y11, y12, y13, y14, y15, some (.ref fo), y17, y18, none, none, none, none, none] ∧
      Same H0 H' ∧ H' fo = some (.lst (ds.map V.ref)) ∧ Strs H' ds ((ss.reverse.take i).map (bS (X, Y, Z))))
    ⟨[], _, _, _, _, _, _, rfl, S1, h1, .nil⟩ (fun i σ H' _ ⟨_, _, _, _, _, _, _, _, s, _⟩ => SqL.of (s _ _ hfa)) ?_ ?_
  · rintro i x σ H2 H3 hi ⟨ds, y11, y12, y13, y14, y17, y18, rfl, S2, hfo, hD⟩ ⟨rfl, hx⟩
    rw [List.length_map, lA] at hi hx
    obtain ⟨sa, s1, rfl, es, hs1⟩ := stk_get hA hx
    rw [hss] at es
    have er : ss.reverse[i]? = some s1 := by rw [List.getElem?_reverse hi]; exact es
    have hs3 := S2 _ _ hs1
    have he3 := S2 _ _ he
    rw [hX, hY, hZ] at he3
    have hh := so s1 (List.mem_of_getElem? es)
    have lD := hD.length
    rw [List.length_map, List.length_take, List.length_reverse] at lD
    refine ⟨sa, _, rfl, SqT.of hs3, rfl, _, _, rfl, _, _, rfl, _, _, rfl, _, _, rfl, rfl, ?_⟩
    refine ⟨_, rfl, s1.2.2.1, rfl, hh.1, hh.2, fun H4 u S4 n4 h4 => ?_⟩
    have he4 := S4 _ _ he3
    refine ⟨_, rfl, _, rfl, u, _, _, _, rfl, rfl, SqT.of h4, at0, _, _, rfl, rfl, _, rfl, e, _, _, _, rfl, rfl, SqT.of he4, at0, _, _, rfl, rfl, ?_⟩
    refine ⟨_, rfl, _, rfl, u, _, _, _, rfl, rfl, SqT.of h4, at1, _, _, rfl, rfl, _, rfl, e, _, _, _, rfl, rfl, SqT.of he4, at1, _, _, rfl, rfl, szl 2, fun H5 t5 S5 n5 h5 => ?_⟩
    have he5 := S5 _ _ he4
    refine ⟨_, rfl, e, _, _, _, rfl, rfl, SqT.of he5, at2', _, _, rfl, rfl, _, _, rfl, rfl, t5, _, _, _, rfl, SqT.of h5, fun H6 wy S6 n6 h6 => ?_⟩
    have he6 := S6 _ _ he5
    have S36 := (S4.trans S5).trans S6
    refine ⟨_, rfl, .inl ⟨rfl, _, SqL.of (S36 _ _ hfo)⟩, _, rfl, _, rfl, _, rfl, e, _, _, _, rfl, rfl, SqT.of he6, at2', _, _, rfl, rfl, .inl ⟨_, rfl, _, _, rfl, rfl, (show (0 : Int) < 4 by decide), _, rfl, szl 2, fun H7 t7 S7 n7 h7 => ?_⟩⟩
    refine ⟨wy, t7, _, _, rfl, rfl, SqT.of (S7 _ _ h6), SqT.of h7, (fun z => nomatch z), by show 4 ≤ sizeLine; rw [sizeLine_eq]; decide, (fun z => nomatch z), fun _ p8 n8 => ?_⟩
    have S8 : Same H7 (upd H7 p8 (.tup ([V.int (rot (0 - Z - 2) (s1.1 + (dir s1.2.2.1).1 - X, s1.2.1 + (dir s1.2.2.1).2 - Y)).1, V.int (rot (0 - Z - 2) (s1.1 + (dir s1.2.2.1).1 - X, s1.2.1 + (dir s1.2.2.1).2 - Y)).2] ++ [V.int ((s1.2.2.1 - Z) % 4), V.int s1.2.2.2]))) := same_upd n8
    have h8 : (upd H7 p8 (.tup ([V.int (rot (0 - Z - 2) (s1.1 + (dir s1.2.2.1).1 - X, s1.2.1 + (dir s1.2.2.1).2 - Y)).1, V.int (rot (0 - Z - 2) (s1.1 + (dir s1.2.2.1).1 - X, s1.2.1 + (dir s1.2.2.1).2 - Y)).2] ++ [V.int ((s1.2.2.1 - Z) % 4), V.int s1.2.2.2]))) p8 = some (.tup (stV (bS (X, Y, Z) s1))) := upd_same
    have S38 := (S36.trans S7).trans S8
    have hfo8 := S38 _ _ hfo
    have hD8 := hD.keep (.of S38)
    refine ⟨fo, _, _, rfl, rfl, hfo8, ?_, ds ++ [p8], _, _, _, _, _, _, rfl, ?_, by rw [upd_same, List.map_append]; rfl, ?_⟩
    · rw [List.length_map, sizeLine_eq]; omega
    · exact sPut (S2.trans S38) n1
    · rw [take_more er, List.map_append]
      have T8 : TupS _ (upd _ fo (.lst (ds.map V.ref ++ [V.ref p8]))) := TupS.refl.lst hfo8
      exact Paired.snoc (hD8.keep T8) (T8.1 _ _ h8)
  · rintro σ H2 ⟨ds, y11, y12, y13, y14, y17, y18, rfl, S2, hfo, hD⟩
    rw [List.length_map, lA, ← List.length_reverse, List.take_length] at hD
    rw [← hss, ← hX, ← hY, ← hZ] at hD
    refine ⟨a, r, b, fo, ns, ds, ws, st, age, bk, y3, y4, _, _, _, _, _, _, _, _, _, rfl, d.same S2, fun pl => ?_, low, hfo, hD, q⟩
    obtain ⟨kk, e, h⟩ := hbk pl
    exact ⟨kk, e, h.keep (.of S2)⟩
theorem law14_e2 {f CB CT : Addr} {cdv : Value} {k : Nat} (G : LawG14 P w K mg base CB CT k) {A : Around} {outer : List Env} {s : Shared} {H : Hp} {E : XK} (hr : Room k (A.deeper (envOfC "law" (defScope s_law) s.heap.objs.size f cdv)))
    (R : PSs (cxOf CX0 P w K mg base n_law "law" (defScope s_law) f cdv A outer s H E).nox ((defBody s_law).drop 15) (tR15 K)) :
    PSs (cxOf CX0 P w K mg base n_law "law" (defScope s_law) f cdv A outer s H E).nox ((defBody s_law).drop 14) (tR14 K) := by
  have nd := sc_law.nd
  obtain ⟨GP, GB, GK, GE, GT, GA, GG, GD, GU, GQ, GL, GM, GBk, GS, GDr, mR, ml, mT, mI, mi, mRv, mMx⟩ := G
  refine pssimp _ (pss_cons (ps_if (PW.pt (pw_and (pt_val (pv 5)) (pw_and1 (pt_not (pt_val (pcall GL hr (pa_cons (pcall GDr hr (pa_cons (pv 6) (pa_cons (pv 8) pa_nil))) (pa_cons (ptupleN mT (pv 16)) pa_nil)))))))) pss_never pss_nil)
    R) ?_
  rintro D σ H0 ⟨a, r, b, fo, ns, ds, ws, st, age, bk, y3, y4, y9, y10, y11, y12, y13, y14, y15, y17, y18, rfl, d, hbk, low, hfo, hD, q⟩
  have g := d.g
  have len8 := low.len g
  have a8 := low.1
  have nst := nest_grown' g age
  obtain ⟨so, sl⟩ := strokes_ok nst
  by_cases pl : Plain ws st
  · obtain ⟨kb, rfl, hkb⟩ := hbk pl
    rw [decide_eq_true pl]
    have ns0 : nest (grown ws st age) 0 = some 0 := by
      cases hn : nest (grown ws st age) 0 with
      | none => exact absurd hn nst
      | some d =>
        have := (nest_noO _ 0 d (grown_noO pl age) hn).1
        rw [Nat.le_zero.mp this]
    have fl := flat_of ns0 (grown_noO pl age)
    refine ⟨_, rfl, _, rfl, iteT ⟨_, rfl, _, rfl, kb, age, _, _, rfl, hkb, book_back g pl, by omega, ?_, ?_, fun H1 t as2 S1 n1 h1 hA2 => ?_⟩⟩
    · rw [grown_back, backW_len]; omega
    · rw [grown_back, nest_flatW 0 (flat_back fl)]; exact fun z => nomatch z
    · rw [grown_back, strokes_back fl] at hA2
      refine ⟨_, rfl, fo, _, rfl, SqL.of (S1 _ _ hfo), fun H2 u S2 n2 h2 => ⟨_, _, rfl, (alkS (S2 _ _ h1) h2 (hA2.keep (.of S2)) ((hD.keep (.of S1)).keep (.of S2)) ?_).up.up, fun H3 S3 => ⟨_, rfl, iteF ?_⟩⟩⟩
      · rw [List.length_map, List.length_reverse]; omega
      · exact ⟨a, r, b, ns, ws, st, _, _, _, _, _, _, _, _, _, _, _, _, _, _, _, _, rfl, d.same ((S1.trans S2).trans S3), q⟩
  · rw [decide_eq_false pl]
    exact ⟨_, rfl, _, rfl, iteF ⟨a, r, b, ns, ws, st, _, _, _, _, _, _, _, _, _, _, _, _, _, _, _, _, rfl, d, q⟩⟩
end
end SK
namespace SK
open PySem PySem.Spec PyProof.Rows L2
theorem takes0N {X : Cx} : L2N.Takes X (fun _ _ _ _ => False) := fun _ _ ⟨_, _, _, _, _, _, _, _, _, _, _, _, _, _, _, _, z⟩ => False.elim z
theorem gI_40 {ws : List (List Sy)} (hg : ∀ w ∈ ws, Good ws.length 40 w) : ∀ m k, k < ws.length → (gI ws m k).length ≤ 40 ^ m
  | 0, k, _ => by show 1 ≤ _; exact Nat.le_refl _
  | m + 1, k, h => by
    have h1 := growG_40 (ws := ws) (gs := ws) (fun w hw => (hg w hw).len)
    have ih := gI_40 hg m
    have e : ∀ w : List Sy, (∀ j, Sy.l j ∈ w → j < ws.length) → (growG (gI ws m) w).length ≤ w.length * 40 ^ m := by
      intro w
      induction w with
      | nil => intro _; exact Nat.zero_le _
      | cons s w iw =>
        intro hw
        have i2 := iw fun j hj => hw j (List.mem_cons_of_mem _ hj)
        have p1 : 1 ≤ 40 ^ m := Nat.one_le_pow _ _ (by decide)
        have i1 : (imgG (gI ws m) s).length ≤ 40 ^ m := by
          cases s with
          | l j => exact ih j (hw j List.mem_cons_self)
          | p => exact p1
          | m => exact p1
          | o => exact p1
          | c => exact p1
        rw [show growG (gI ws m) (s :: w) = imgG (gI ws m) s ++ growG (gI ws m) w from rfl, List.length_append, List.length_cons, Nat.succ_mul]
        omega
    have gk := getD_good hg h
    show (growG (gI ws m) (ws.getD k [])).length ≤ _
    refine Nat.le_trans (e _ gk.lets) ?_
    rw [Nat.pow_succ, Nat.mul_comm]
    exact Nat.mul_le_mul_left _ gk.len
theorem book_one {ws : List (List Sy)} {st : List Sy} (g : GoodBook ws st) {k : Nat} (h : k < ws.length) : GoodBook ws [.l k] :=
  ⟨g.one, g.few, g.words, ⟨rfl, fun j hj => by rw [List.mem_singleton] at hj; cases hj; exact h, rfl, by show 1 ≤ 40; decide, by show 1 + 6 ≤ 8 * 1; decide⟩⟩
theorem gI_grown (ws : List (List Sy)) (m k : Nat) : gI ws m k = grown ws [.l k] m := by rw [grown_gI, growG_one]; rfl
/-- lists of words, none of them the one at D -/
def LWs (H : Hp) (D : Addr) (gs : List Addr) (vs : List (List Sy)) : Prop := Paired (fun a w => a ≠ D ∧ H a = some (.lst (wv w))) gs vs
theorem LWs.same {H H' : Hp} {D : Addr} {gs : List Addr} {vs : List (List Sy)} (s : Same H H') (h : LWs H D gs vs) : LWs H' D gs vs := Paired.mono (fun a w e => ⟨e.1, s _ _ e.2⟩) h
theorem LWs.put {H : Hp} {D : Addr} {o : HO} {gs : List Addr} {vs : List (List Sy)} (h : LWs H D gs vs) : LWs (upd H D o) D gs vs := Paired.mono (fun a w e => ⟨e.1, by rw [upd_ne e.1]; exact e.2⟩) h
/-- the try's body -/
def tSp (CT : Addr) (W : WX) : TS := tAsg (tCallS (spSpedX CT) (WE W) (tCons (tVar 2) (tCons (tVar 19) tNil))) (gName 20)
def tSuiteSp (CT a : Addr) (cls : Value) (d : Option Addr) : TS := fun D σ H => ∃ (dd wl : Addr) (gs : List Addr) (ws : List (List Sy)) (m : Nat), σ[7]? = some (some (.ref a)) ∧ cls = .ref CT ∧ d = some dd ∧ H dd = some (.xd [(("most" : Str), .int 40)]) ∧ 23 < σ.length ∧ σ[21]? = some (some (.ref wl)) ∧
  H wl = some (.lst (gs.map V.ref)) ∧ LWs H wl gs (sW ws m) ∧ 1 ≤ ws.length ∧ ws.length ≤ 3 ∧ ¬ Short ws m ∧ ∀ H', D.rt (.bl true) H'
def tR17 (K : PySem.W.Frag) : TS := fun D σ H => ∃ (a r b wl : Addr) (ns : List Int) (gs : List Addr) (ws : List (List Sy)) (st : List Sy) (m : Nat) (y3 y4 y5 y6 y7 y8 y9 y10 y11 y12 y13 y14 y15 y16 y17 y18 y20 : Option V), σ = [some (.ref a), some (.ref r), some (.ref b), y3, y4, y5, y6, y7, y8, y9, y10, y11, y12, y13, y14, y15, y16, y17, y18, some (.int m), y20, some (.ref wl), none, none] ∧
  BookAt H b ws st ∧ GoodBook ws st ∧ 1 ≤ m ∧ m ≤ 4 ∧ H wl = some (.lst (gs.map V.ref)) ∧ LWs H wl gs (sW ws m) ∧ ∀ H', D.rt (.bl true) H'
section
variable {P : Program} {w : World} {K : PySem.W.Frag} {mg : Str → Option Value} {base : Heap}
theorem law14_f {f CB CT : Addr} {cdv : Value} {k : Nat} (G : LawG14 P w K mg base CB CT k) {A : Around} {outer : List Env} {s : Shared} {H : Hp} {E : XK} (hr : Room k (A.deeper (envOfC "law" (defScope s_law) s.heap.objs.size f cdv)))
    (R : PSs (cxOf CX0 P w K mg base n_law "law" (defScope s_law) f cdv A outer s H E).nox ((defBody s_law).drop 17) (tR17 K)) :
    PSs (cxOf CX0 P w K mg base n_law "law" (defScope s_law) f cdv A outer s H E).nox ((defBody s_law).drop 15) (tR15 K) := by
  have nd := sc_law.nd
  obtain ⟨GP, GB, GK, GE, GT, GA, GG, GD, GU, GQ, GL, GM, GBk, GS, GDr, mR, ml, mT, mI, mi, mRv, mMx⟩ := G
  refine pssimp _ (pss_cons (ps_asg (ptupN (pa_cons (padd pe_int (pcall GT hr (pa_cons (pv 1) (pa_cons pe_int pa_nil)))) (pa_cons pe_non pa_nil))) (pg_tup (by rfl) (pgs_cons (pg_name (i := 19) nd rfl (.inr rfl)) (pgs_cons (pg_name (i := 20) nd rfl (.inl rfl)) pgs_nil))))
    (pss_cons (ps_setLc (i := 21) (own := [("letter", 14)]) (g := gName 14) (tt := tYes) (te := tCall (spGrown K) [] E0 (tCons (tTupN (tCons (tOp (rIxT K) (tVar 2) (tC (.int 0))) (tCons (tTupF (tCons (tVar 14) tNil)) tNil))) (tCons (tVar 19) tNil))) rfl nd rfl rfl (sw_true rfl rfl rfl (by decide +kernel))
        (pi_range1 rfl mR (pa_cons (plen ml (pixT (pv 2) pe_int)) pa_nil)) (blkOk_by (N := n_law) (sc := defScope s_law) (by decide +kernel))
        (fun _ _ _ _ _ => pg_name (i := 14) nd rfl (Or.inl rfl)) (fun _ _ _ _ _ => pts_nil) (fun _ _ _ _ _ => pcall GG hr (pa_cons (ptupN (pa_cons (pixT (pv 2) pe_int) (pa_cons (ptupF (pa_cons (pv 14) pa_nil)) pa_nil))) (pa_cons (pv 19) pa_nil))))
    R)) ?_
  rintro D σ H0 ⟨a, r, b, ns, ws, st, y3, y4, y5, y6, y7, y8, y9, y10, y11, y12, y13, y14, y15, y16, y17, y18, rfl, d, q⟩
  have g := d.g
  refine ⟨_, rfl, r, (a, ns), 4, rfl, d.row, by decide, .inl (by decide), fun H1 m0 D1 hm => ⟨_, _, rfl, rfl, szl 2, fun H2 t2 S2 n2 h2 => ⟨t2, _, rfl, SqT.of h2, rfl, _, _, rfl, _, _, rfl, rfl, ?_⟩⟩⟩
  have d2 := (d.drawn D1).same S2
  obtain ⟨m, hm1, hm4, em⟩ : ∃ m : Nat, 1 ≤ m ∧ m ≤ 4 ∧ (1 + (m0 : Int)) = (m : Int) := ⟨1 + m0, by omega, by omega, by omega⟩
  dsimp only [List.set]
  rw [em]
  obtain ⟨p, pq, as, b1, b2, b3, b4⟩ := id d2.bk
  have el := b4.length
  have few := g.few
  have B2 := d2.bk
  clear d d2 D1 S2 n2 h2 hm em
  refine ⟨_, rfl, b, _, _, .ref p, rfl, rfl, SqT.of b1, at0, p, _, rfl, .inr (SqT.of b2), ((as.map V.ref).length : Int), rfl, by omega, by rw [List.length_map]; omega, fun L nL => ?_⟩
  rw [List.length_map, el, Int.toNat_natCast]
  refine lc_range (lo := 0) (n := ws.length) (fun i H' => Same H2 H' ∧ ∃ gs : List Addr, H' L = some (.lst (gs.map V.ref)) ∧ LWs H' L gs ((sW ws m).take i)) ⟨same_upd nL, [], upd_same, .nil⟩ ?_ ?_
  · rintro i H3 hi ⟨S3, gs, hL, hW⟩
    rw [Int.zero_add]
    have lW := hW.length
    rw [List.length_take, sW_len] at lW
    refine ⟨rfl, _, rfl, b, _, _, .ref p, rfl, rfl, SqT.of (S3 _ _ b1), at0, _, rfl, szl 1, NewW.of (w := [.l i]) (fun H4 t4 S4 n4 h4 => ⟨szl 2, fun H5 t5 S5 n5 h5 => ?_⟩) rfl⟩
    have S25 := (S3.trans S4).trans S5
    have len := gI_40 g.words m i hi
    have p4 : 40 ^ m ≤ 40 ^ 4 := Nat.pow_le_pow_right (by decide) hm4
    refine ⟨_, rfl, t5, m, ws, [.l i], rfl, ⟨p, t4, as, h5, S25 _ _ b2, h4.same S5, b4.keep (.of S25)⟩, book_one g hi, by omega, ?_, fun H6 x S6 n6 h6 => ?_⟩
    · rw [← gI_grown]; omega
    · rw [← gI_grown] at h6
      have S36 := (S4.trans S5).trans S6
      have hL6 := S36 _ _ hL
      have nxL : x ≠ L := (ne_of_none ((S4.trans S5) _ _ hL) n6).symm
      refine ⟨_, hL6, ?_, sPut (S3.trans S36) nL, gs ++ [x], by rw [upd_same, List.map_append]; rfl, ?_⟩
      · rw [List.length_map, sizeLine_eq]; omega
      · rw [take_more (sW_get? ws m hi)]
        exact LWs.put (Paired.snoc (hW.same S36) ⟨nxL, h6⟩)
  · rintro H3 ⟨S3, gs, hL, hW⟩
    rw [List.take_of_length_le (by rw [sW_len]; exact Nat.le_refl _)] at hW
    exact ⟨a, r, b, L, ns, gs, ws, st, m, _, _, _, _, _, _, _, _, _, _, _, _, _, _, _, _, _, rfl, B2.keep (.of S3), g, hm1, hm4, hL, hW, q⟩
end
end SK
namespace SK
open PySem PySem.Spec PyProof.Rows L2
/-- what isinstance asks of the class of an error -/
structure IsTxt (K : PySem.W.Frag) (C : Addr) : Prop where
  ha : PySem.W.findIn K (.ref C) "__class__" = some (some (.builtin "object.__class__"))
  hn : PySem.W.specialIn K (.builtin "object.__class__") "__get__" = some (some (.builtin "getset_descriptor.__get__"))
  ht : PySem.W.takesIn K (.builtin "object.__class__") = some true
  hm : PySem.W.mroIn K C (.type "object") = some true
  kit : PySem.W.kitOne K (.ref C) (.ref C) = some true
def rIsTm (C a : Addr) (cls : Value) (d : Option Addr) : List V → Hp → VK → Prop := fun xs H Q => xs = [.ref a, .ref C] ∧ cls = .ref C ∧ ∃ (dd : Addr) (fs : List (Str × V)), d = some dd ∧ H dd = some (.xd fs) ∧ Q (.bl true) H
theorem call_isTm {X : Cx} {a C fI : Addr} {oe : Obj} {cls : Value} {d : Option Addr} {pn : List (Addr × Obj)} (T : TmTxt X.prog X.K X.mg C fI) (T2 : IsTxt X.K C) (hz : Zc cls d oe) (hf : ∃ vs, oe.data = .fields vs) : CallR (X.suite a ((a, oe) :: pn)) (.builtin "isinstance") (rIsTm C a cls d) := by
  intro pins s σ H xs us Q I r h
  obtain ⟨rfl, rfl, dd, fs, rfl, hd, q⟩ := h
  obtain ⟨u, w', rfl, r1, r2⟩ := vals2 r
  obtain rfl : u = Value.ref a := r1
  obtain rfl : w' = Value.ref C := r2
  obtain ⟨hget, _⟩ := I.pin (a, oe) (List.mem_append.mpr (.inl List.mem_cons_self))
  obtain ⟨vs, hv⟩ := hf
  obtain ⟨mA, hns, hr⟩ := (show ObjOk X.prog X.w H s.heap dd (.xd fs) from I.hok dd _ hd)
  obtain ⟨od, ho, hl⟩ := lookIn_ns hns
  have J : PySem.W.InstAt s.heap a oe C (some od) := ⟨hget, hz.1, by unfold PySem.W.notCls; rw [hv] <;> rfl, by rw [hz.2]; exact ho⟩
  have hcl : (PySem.W.clsIn X.K C).isSome = true := by
    obtain ⟨nm, q, N, bs, bm, sn, sub, ab, col, dd, k0, k1, k2, k3, k5, hC, hbm⟩ := T.cls
    unfold PySem.W.clsIn
    rw [hC] <;> rfl
  exact PySem.W.kia_one (PySem.W.kitx_exc (ox := oe) (od := some od) hcl T.ga T.gg T.exC T2.ha T2.hn T2.ht T2.hm) I.kIn J T2.kit (fun z => nomatch z) fun tk => ⟨.bl true, H, I.kept (t' := tk) fun _ _ z => z, rfl, q⟩
end SK
namespace SK
open PySem PySem.Spec PyProof.Rows L2
/-- max([len(word) for word in words]) > 40 -/
abbrev tMaxLen (K : PySem.W.Frag) : TE := tOp (rI0 fun i j => .bl (decide (j < i))) (tCB (rMax K) (tCons (tLc (iList K (tVar 21)) (gName 23) tYes (tCB (rLenS K) (tCons (tVar 23) tNil)) [23]) tNil)) (tC (.int 40))
theorem maxlen_rd {K : PySem.W.Frag} {σ : L2.St} {H : Hp} {wl : Addr} {gs : List Addr} {ws : List (List Sy)} {m : Nat} {Q : VK} (hl : 23 < σ.length) (h21 : σ[21]? = some (some (.ref wl))) (hw : H wl = some (.lst (gs.map V.ref))) (hW : LWs H wl gs (sW ws m)) (h1 : 1 ≤ ws.length) (h3 : ws.length ≤ 3) (hs : ¬ Short ws m)
    (q : ∀ H', Q (.bl true) H') : tMaxLen K σ H Q := by
  dsimp only [tMaxLen, tOp, tCB, tCons]
  show tLc (iList K (tVar 21)) (gName 23) tYes (tCB (rLenS K) (tCons (tVar 23) tNil)) [23] σ H _
  have lW := hW.length
  rw [sW_len] at lW
  refine ⟨_, h21, wl, rfl, ⟨_, SqL.of hw⟩, fun D nD => ?_⟩
  refine lc_list (K := K) (a := wl) (xs := gs.map V.ref) (fun i H' => Same H H' ∧ H' D = some (.lst ((((sW ws m).take i).map fun w => (w.length : Int)).map V.int))) ⟨same_upd nD, upd_same⟩ (fun i H' _ h => SqL.of (h.1 _ _ hw)) ?_ ?_
  · rintro i x H2 hx ⟨S2, hD⟩
    have hi : i < ws.length := by have := (List.getElem?_eq_some_iff.mp hx).1; rw [List.length_map] at this; omega
    obtain ⟨ga, ega, hga⟩ := paired_get hW (sW_get? ws m hi)
    rw [List.getElem?_map, ega] at hx
    cases hx
    have s23 : ((wipe σ [23]).set 23 (some (V.ref ga)))[23]? = some (some (V.ref ga)) := by
      rw [List.getElem?_set_self]
      show 23 < (wipe σ [23]).length
      rw [wipe_length]; exact hl
    refine ⟨?_, _, s23, ga, _, rfl, .inl (SqL.of (S2 _ _ hga.2)), _, hD, ?_, sPut S2 nD, ?_⟩
    · show (((σ.set 23 none).set 23 (some (V.ref ga))).set 23 none) = σ.set 23 none
      rw [List.set_set, List.set_set]
    · rw [List.length_map, List.length_map, List.length_take, sW_len, sizeLine_eq]; omega
    · rw [upd_same, take_more (sW_get? ws m hi), List.map_append, List.map_append, List.length_map]
      rfl
  · rintro H2 ⟨S2, hD⟩
    rw [List.length_map, lW, List.take_of_length_le (by rw [sW_len]; exact Nat.le_refl _)] at hD
    refine ⟨D, _, rfl, SqL.of hD, by rw [List.length_map, sW_len]; omega, fun mx h1 h2 => ?_⟩
    refine ⟨_, _, rfl, rfl, ?_⟩
    have e : decide ((40 : Int) < mx) = true := by
      refine decide_eq_true ?_
      refine Classical.byContradiction fun z => hs fun k hk => ?_
      have := h2 ((gI ws m k).length : Int) (List.mem_map.mpr ⟨gI ws m k, List.mem_of_getElem? (sW_get? ws m hk), rfl⟩)
      omega
    dsimp only
    rw [e]
    exact q H2
section
variable {P : Program} {w : World} {K : PySem.W.Frag} {mg : Str → Option Value} {base : Heap}
theorem law14_g {f CB CT CS fI : Addr} {cdv : Value} {k : Nat} (T : TmTxt P K mg CT fI) (T2 : IsTxt K CT) (gS : mg "StrokeError" = some (.ref CS)) (te : PySem.W.exmOne K (.ref CT) (.ref CS) = some true)
    (G : LawG14 P w K mg base CB CT k) {A : Around} {outer : List Env} {s : Shared} {H : Hp} {E : XK} (hr : Room k (A.deeper (envOfC "law" (defScope s_law) s.heap.objs.size f cdv))) :
    PSs (cxOf CX0 P w K mg base n_law "law" (defScope s_law) f cdv A outer s H E).nox ((defBody s_law).drop 17) (tR17 K) := by
  have nd := sc_law.nd
  obtain ⟨GP, GB, GK, GE, GT, GA, GG, GD, GU, GQ, GL, GM, GBk, GS, GDr, mR, ml, mT, mI, mi, mRv, mMx⟩ := G
  refine pssimp _ (pss_cons (L2N.ps_try_as (i := 7) (tb := tSp CT) (ts := tSuiteSp CT) (Wout := fun _ _ _ _ => False) rfl rfl nd rfl rfl ⟨rfl, by decide, .inl gS⟩ takes0N
        (fun W pn xe tk _ => pss_one (ps_set (i := 20) nd rfl (.inl rfl) (pcallN GS hr tk (pa_cons (pv 2) (pa_cons (pv 19) pa_nil)))))
        (fun a oe cls d pn hz hf => pssimp _ (pss_one (ps_ret (pe_and (pe_callB (call_isTm T T2 hz.zc hf) (by rfl) mI (by decide +kernel) (pa_cons (pv 7) (pa_cons (pe_glob (v := .ref CT) rfl T.gC rfl) pa_nil)) (by decide) (by decide))
          (pe_and (pe_cmpR op_eq (pe_most T hz.zc hf (pv 7)) pe_int (nomark _))
          (pe_one (pe_cmpR op_gt (pe_callB (HotM.cr_maxH (hotSuite hz hf)) (by rfl) mMx (by decide +kernel) (pa_cons (HotM.pe_lcH (own := [("word", 23)]) (g := gName 23) (tt := tYes) (te := tCB (rLenS K) (tCons (tVar 23) tNil)) (hotSuite hz hf) nd (HotM.pi_listH (pv 21)) (blkOk_by (N := n_law) (sc := defScope s_law) (by decide +kernel))
            (fun _ _ _ _ _ => pg_name (i := 23) nd rfl (Or.inl rfl)) (fun _ _ _ _ _ => pts_nil) (fun _ _ _ _ _ => plen ml (pv 23))) pa_nil) (by decide) (by decide)) pe_int (nomark _))))))) ?suite))
    (pss_one (ps_ret (pcall GL hr (pa_cons (pv 20) (pa_cons (ptupN (pa_cons (ptupleN mT (pe_lc (own := [("word", 23)]) (g := gName 23) (tt := tYes) (te := tCB (rTupF K) (tCons (tVar 23) tNil)) rfl nd (pi_list (pv 21)) (blkOk_by (N := n_law) (sc := defScope s_law) (by decide +kernel))
        (fun _ _ _ _ _ => pg_name (i := 23) nd rfl (Or.inl rfl)) (fun _ _ _ _ _ => pts_nil) (fun _ _ _ _ _ => ptupleF mT (pv 23)))) (pa_cons (pixT (pv 2) pe_int) pa_nil))) pa_nil)))))) ?_
  case suite =>
    rintro D σ H ⟨dd, wl, gs, ws, m, e7, rfl, rfl, hd, hl, h21, hwl, hW, h1, h3, ns, q⟩
    refine ⟨_, e7, rfl, rfl, dd, _, rfl, hd, true, rfl, iteT ⟨_, e7, rfl, rfl, dd, _, rfl, hd, rfl, ?_⟩⟩
    rw [decide_eq_true (rfl : V.int 40 = V.int 40)]
    refine ⟨true, rfl, iteT ?_⟩
    exact maxlen_rd hl h21 hwl hW h1 h3 ns q
  rintro D σ H0 ⟨a, r, b, wl, ns, gs, ws, st, m, y3, y4, y5, y6, y7, y8, y9, y10, y11, y12, y13, y14, y15, y16, y17, y18, y20, rfl, hB, g, hm1, hm4, hwl, hW, q⟩
  have lW := hW.length
  rw [sW_len] at lW
  have few := g.few
  have one := g.one
  refine ⟨_, rfl, _, rfl, b, m, ws, st, rfl, hB, g, hm1, hm4, fun sh H1 bk S1 n1 hbk => ?_, fun nsh H1 dd S1 n1 hd => ⟨true, te, fun _ a' ha' => ⟨dd, wl, gs, ws, m, rfl, rfl, rfl, hd, by show 23 < 24; decide, rfl, S1 _ _ hwl, hW.same S1, one, few, nsh, q⟩, fun z => Bool.noConfusion z⟩⟩
  have hwl1 := S1 _ _ hwl
  have hW1 := hW.same S1
  have B1 := hB.keep (.of S1)
  obtain ⟨p, pq, as, b1, b2, b3, b4⟩ := id B1
  refine ⟨_, rfl, _, rfl, wl, rfl, ⟨_, SqL.of hwl1⟩, fun D nD => ?_⟩
  refine lc_list (K := K) (a := wl) (xs := gs.map V.ref) (fun i H' => Same H1 H' ∧ ∃ ts : List Addr, H' D = some (.lst (ts.map V.ref)) ∧ Words H' ts ((sW ws m).take i)) ⟨same_upd nD, [], upd_same, .nil⟩ (fun i H' _ h => SqL.of (h.1 _ _ hwl1)) ?_ ?_
  · rintro i x H2 hx ⟨S2, ts, hD, hT⟩
    have hi : i < ws.length := by have := (List.getElem?_eq_some_iff.mp hx).1; rw [List.length_map] at this; omega
    obtain ⟨ga, ega, hga⟩ := paired_get hW1 (sW_get? ws m hi)
    rw [List.getElem?_map, ega] at hx
    cases hx
    have lT := hT.length
    rw [List.length_take, sW_len] at lT
    refine ⟨rfl, _, rfl, ga, _, rfl, SqL.of (S2 _ _ hga.2), NewW.of (w := gI ws m i) (fun H3 t S3 n3 h3 => ⟨_, S3 _ _ hD, ?_, sPut (S2.trans S3) nD, ts ++ [t], ?_, ?_⟩) rfl⟩
    · rw [List.length_map, sizeLine_eq]; omega
    · rw [upd_same, List.map_append]; rfl
    · have T3 : TupS H3 (upd H3 D (.lst (ts.map V.ref ++ [V.ref t]))) := TupS.refl.lst (S3 _ _ hD)
      rw [take_more (sW_get? ws m hi)]
      exact Paired.snoc ((hT.keep (.of S3)).keep T3) (T3.wd h3)
  · rintro H2 ⟨S2, ts, hD, hT⟩
    rw [List.length_map, lW, List.take_of_length_le (by rw [sW_len]; exact Nat.le_refl _)] at hT
    refine ⟨D, _, rfl, SqL.of hD, fun H3 t3 S3 n3 h3 => ?_⟩
    have S13 := S2.trans S3
    refine ⟨_, rfl, b, _, _, .ref pq, rfl, rfl, SqT.of (S13 _ _ b1), at1, szl 2, fun H4 t4 S4 n4 h4 => ?_⟩
    have S14 := S13.trans S4
    refine ⟨_, _, rfl, (alk_book (hbk.keep (.of S14)) ⟨t3, pq, ts, h4, S4 _ _ h3, b3.same S14, (hT.keep (.of S3)).keep (.of S4)⟩ (by rw [sW_len]; omega) fun w hw => ?_).up, fun H5 S5 => q H5⟩
    rcases List.mem_append.mp hw with h | h
    · obtain ⟨k, hk, rfl⟩ := List.mem_map.mp h
      have := sh k (List.mem_range.mp hk)
      omega
    · rw [List.mem_singleton.mp h]; have := g.start.len; omega
end
end SK
namespace SK
open PySem PySem.Spec PyProof.Rows L2
section
variable {P : Program} {w : World} {K : PySem.W.Frag} {mg : Str → Option Value} {base : Heap}
theorem ok_law14 {f CB CT CS fI : Addr} {fd : FuncData} {k : Nat} (F : Fun K "law" "law" s_law f fd) (G : TmTxt P K mg CT fI ∧ IsTxt K CT ∧ mg "StrokeError" = some (.ref CS) ∧ PySem.W.exmOne K (.ref CT) (.ref CS) = some true ∧ ExcC K CB ∧ mg "Branching" = some (.ref CB) ∧ PySem.W.kitOne K (.ref CB) (.ref CB) = some true ∧ PySem.W.exmOne K (.ref CB) (.ref CS) = some true ∧ LawG14 P w K mg base CB CT k) :
    FnOk P w K mg base CX0 (k + 1) f fd ["script"] (spLaw K) := by
  obtain ⟨T, T2, gS, teT, EC, gB, kiB, teB, G⟩ := G
  exact law14_a F G fun _ _ _ _ _ _ hr => law14_b G hr (law14_c EC gB kiB gS teB G hr (law14_c2 G hr (law14_d G hr (law14_e1 G hr (law14_e2 G hr (law14_f G hr (law14_g T T2 gS teT G hr)))))))
end
end SK
namespace SK
open PySem PySem.Spec PyProof.Rows L2
/-- a def of the module -/
def DefAt (K : PySem.W.Frag) (mg : Str → Option Value) (x : Str) (st : Stmt) : Prop := ∃ (f : Addr) (fd : FuncData), mg x = some (.ref f) ∧ Fun K x x st f fd
/-- a def of the module with defaults -/
def DefDAt (K : PySem.W.Frag) (mg : Str → Option Value) (x : Str) (st : Stmt) (dvs : List V) : Prop := ∃ (f : Addr) (fd : FuncData), mg x = some (.ref f) ∧ FunD K x x (defArgs st) (defBody st) (defScope st) dvs [] f fd
structure Defs (K : PySem.W.Frag) (mg : Str → Option Value) : Prop where
  taken : DefAt K mg "_law_taken" s_law_taken
  pick : DefAt K mg "_law_pick" s_law_pick
  branched : DefAt K mg "_law_branched" s_law_branched
  word : DefAt K mg "_law_word" s_law_word
  book : DefAt K mg "_law_book" s_law_book
  kit : DefAt K mg "_law_kit" s_law_kit
  even_word : DefAt K mg "_law_even_word" s_law_even_word
  even_book : DefAt K mg "_law_even_book" s_law_even_book
  grown : DefAt K mg "_law_grown" s_law_grown
  unit : DefAt K mg "_law_unit" s_law_unit
  drawn : DefAt K mg "_law_drawn" s_law_drawn
  alike : DefAt K mg "_law_alike" s_law_alike
  age : DefAt K mg "_law_age" s_law_age
  quarter : DefAt K mg "_law_quarter" s_law_quarter
  is_integer : DefAt K mg "is_integer" s_is_integer
  is_word : DefAt K mg "is_word" s_is_word
  has_book_form : DefAt K mg "has_book_form" s_has_book_form
  check_book : DefAt K mg "check_book" s_check_book
  check_number : DefAt K mg "check_number" s_check_number
  letters_in : DefAt K mg "letters_in" s_letters_in
  next_letters : DefAt K mg "next_letters" s_next_letters
  count_letters : DefAt K mg "count_letters" s_count_letters
  next_counts : DefAt K mg "next_counts" s_next_counts
  check_size : DefAt K mg "check_size" s_check_size
  letters_by_age : DefAt K mg "letters_by_age" s_letters_by_age
  replace_letters : DefAt K mg "replace_letters" s_replace_letters
  word_at : DefAt K mg "word_at" s_word_at
  draw : DefAt K mg "draw" s_draw
  drawing : DefAt K mg "drawing" s_drawing
  rotate : DefAt K mg "rotate" s_rotate
  turned_over : DefAt K mg "turned_over" s_turned_over
  mirrored : DefAt K mg "mirrored" s_mirrored
  backward : DefAt K mg "backward" s_backward
  sped : DefAt K mg "sped" s_sped
structure Blt (mg : Str → Option Value) : Prop where
  isinstance : mg "isinstance" = none
  int : mg "int" = none
  bool : mg "bool" = none
  str : mg "str" = none
  tuple : mg "tuple" = none
  list : mg "list" = none
  len : mg "len" = none
  enumerate : mg "enumerate" = none
  sorted : mg "sorted" = none
  range : mg "range" = none
  zip : mg "zip" = none
  sum : mg "sum" = none
  reversed : mg "reversed" = none
  abs : mg "abs" = none
  max : mg "max" = none
  any : mg "any" = none
section
variable {P : Program} {w : World} {K : PySem.W.Frag} {mg : Str → Option Value} {base : Heap}
theorem got {x : Str} {st : Stmt} {k : Nat} {ps : List Str} {sp : Sp} (D : DefAt K mg x st) (h : ∀ (f : Addr) (fd : FuncData), Fun K x x st f fd → FnOk P w K mg base CX0 k f fd ps sp)
    (b : ∀ (kV doc pm : Value) (an : Option Addr) (cdv ct : Value) (us : List Value), us.length = ps.length → bindArgs (PySem.W.fnOf x x (defArgs st) (defBody st) (defScope st) .none kV doc pm an cdv ct) ⟨us, []⟩ = pure (ps.zip us)) : Got P w K mg base x k ps sp := by
  obtain ⟨f, fd, m, F⟩ := D
  exact ⟨f, fd, h f fd F, m, F.kp, F.binds b⟩
theorem gotX {x : Str} {st : Stmt} {k : Nat} {ps : List Str} {sp : Sp} (D : DefAt K mg x st) (h : ∀ (f : Addr) (fd : FuncData), Fun K x x st f fd → FnOk P w K mg base (L2.CX P w) k f fd ps sp)
    (b : ∀ (kV doc pm : Value) (an : Option Addr) (cdv ct : Value) (us : List Value), us.length = ps.length → bindArgs (PySem.W.fnOf x x (defArgs st) (defBody st) (defScope st) .none kV doc pm an cdv ct) ⟨us, []⟩ = pure (ps.zip us)) : GotX P w K mg base x k ps sp := by
  obtain ⟨f, fd, m, F⟩ := D
  exact ⟨f, fd, h f fd F, m, F.kp, F.binds b⟩
theorem gotN {x : Str} {st : Stmt} {k : Nat} {ps : List Str} {sp : Sp} (D : DefAt K mg x st) (h : ∀ (f : Addr) (fd : FuncData), Fun K x x st f fd → FnOk P w K mg base (L2N.CX P w) k f fd ps sp)
    (b : ∀ (kV doc pm : Value) (an : Option Addr) (cdv ct : Value) (us : List Value), us.length = ps.length → bindArgs (PySem.W.fnOf x x (defArgs st) (defBody st) (defScope st) .none kV doc pm an cdv ct) ⟨us, []⟩ = pure (ps.zip us)) : GotN P w K mg base x k ps sp := by
  obtain ⟨f, fd, m, F⟩ := D
  exact ⟨f, fd, h f fd F, m, F.kp, F.binds b⟩
theorem GotD.mono {x : Str} {j k : Nat} {ps : List Str} {dvs : List V} {sp : Sp} (g : GotD P w K mg base x j ps dvs sp) (h : j ≤ k) : GotD P w K mg base x k ps dvs sp := by
  obtain ⟨f, fd, ds, F, a, b, c, d⟩ := g.ex
  exact ⟨f, fd, ds, F.mono h, a, b, c, d⟩
/-- with the default, and without -/
theorem gotD {x : Str} {st : Stmt} {k : Nat} {ps : List Str} {dv : V} {sp : Sp} (D : DefDAt K mg x st [dv]) (h : ∀ (f : Addr) (fd : FuncData), FunD K x x (defArgs st) (defBody st) (defScope st) [dv] [] f fd → FnOk P w K mg base CX0 k f fd ps sp)
    (b : ∀ (f : Addr) (fd : FuncData), FunD K x x (defArgs st) (defBody st) (defScope st) [dv] [] f fd → ∃ ds, Vals [dv] ds ∧ Binds K fd ps ds) : GotD P w K mg base x k ps [dv] sp := by
  obtain ⟨f, fd, m, F⟩ := D
  obtain ⟨ds, v, b⟩ := b f fd F
  exact ⟨f, fd, ds, h f fd F, m, F.kp, b, v⟩
theorem gotF {x : Str} {st : Stmt} {k : Nat} {ps : List Str} {dv : V} {sp : Sp} (D : DefDAt K mg x st [dv]) (h : ∀ (f : Addr) (fd : FuncData), FunD K x x (defArgs st) (defBody st) (defScope st) [dv] [] f fd → FnOk P w K mg base CX0 k f fd ps sp)
    (b : ∀ (f : Addr) (fd : FuncData), FunD K x x (defArgs st) (defBody st) (defScope st) [dv] [] f fd → ∃ ds, Vals [] ds ∧ Binds K fd ps ds) : Got P w K mg base x k ps sp := by
  obtain ⟨f, fd, m, F⟩ := D
  obtain ⟨ds, v, b⟩ := b f fd F
  cases v
  exact ⟨f, fd, h f fd F, m, F.kp, b⟩
theorem bd_ca (f : Addr) (fd : FuncData) (F : FunD K "check_age" "check_age" (defArgs s_check_age) (defBody s_check_age) (defScope s_check_age) [V.int 1000] [] f fd) : ∃ ds, Vals [V.int 1000] ds ∧ Binds K fd ["value", "most"] ds := by
  refine F.binds1 (ps := ["value", "most"]) 1 0 (by simp) rfl (fun T kV doc pm an cdv ct us its h1 h2 => ?_)
  match us, its, h1, h2 with
  | [_], [i], _, _ => exact ⟨_, rfl, rfl⟩
theorem bf_ca (f : Addr) (fd : FuncData) (F : FunD K "check_age" "check_age" (defArgs s_check_age) (defBody s_check_age) (defScope s_check_age) [V.int 1000] [] f fd) : ∃ ds, Vals [] ds ∧ Binds K fd ["value", "most"] ds := by
  refine F.binds1 (ps := ["value", "most"]) 2 1 (by simp) rfl (fun T kV doc pm an cdv ct us its h1 h2 => ?_)
  match us, its, h1, h2 with
  | [_, _], [i], _, _ => exact ⟨_, rfl, rfl⟩
theorem bd_ba (f : Addr) (fd : FuncData) (F : FunD K "check_book_and_age" "check_book_and_age" (defArgs s_check_book_and_age) (defBody s_check_book_and_age) (defScope s_check_book_and_age) [V.int 1000] [] f fd) : ∃ ds, Vals [V.int 1000] ds ∧ Binds K fd ["book", "age", "most"] ds := by
  refine F.binds1 (ps := ["book", "age", "most"]) 2 0 (by simp) rfl (fun T kV doc pm an cdv ct us its h1 h2 => ?_)
  match us, its, h1, h2 with
  | [_, _], [i], _, _ => exact ⟨_, rfl, rfl⟩
theorem bf_ba (f : Addr) (fd : FuncData) (F : FunD K "check_book_and_age" "check_book_and_age" (defArgs s_check_book_and_age) (defBody s_check_book_and_age) (defScope s_check_book_and_age) [V.int 1000] [] f fd) : ∃ ds, Vals [] ds ∧ Binds K fd ["book", "age", "most"] ds := by
  refine F.binds1 (ps := ["book", "age", "most"]) 3 1 (by simp) rfl (fun T kV doc pm an cdv ct us its h1 h2 => ?_)
  match us, its, h1, h2 with
  | [_, _, _], [i], _, _ => exact ⟨_, rfl, rfl⟩
theorem bd_ly {pd : Addr} (f : Addr) (fd : FuncData) (F : FunD K "lay" "lay" (defArgs s_lay) (defBody s_lay) (defScope s_lay) [V.ref pd] [] f fd) : ∃ ds, Vals [V.ref pd] ds ∧ Binds K fd ["word", "ends", "pen"] ds := by
  refine F.binds1 (ps := ["word", "ends", "pen"]) 2 0 (by simp) rfl (fun T kV doc pm an cdv ct us its h1 h2 => ?_)
  match us, its, h1, h2 with
  | [_, _], [i], _, _ => exact ⟨_, rfl, rfl⟩
theorem bf_ly {pd : Addr} (f : Addr) (fd : FuncData) (F : FunD K "lay" "lay" (defArgs s_lay) (defBody s_lay) (defScope s_lay) [V.ref pd] [] f fd) : ∃ ds, Vals [] ds ∧ Binds K fd ["word", "ends", "pen"] ds := by
  refine F.binds1 (ps := ["word", "ends", "pen"]) 3 1 (by simp) rfl (fun T kV doc pm an cdv ct us its h1 h2 => ?_)
  match us, its, h1, h2 with
  | [_, _, _], [i], _, _ => exact ⟨_, rfl, rfl⟩
theorem bd_ls {pd : Addr} (f : Addr) (fd : FuncData) (F : FunD K "lay_strokes" "lay_strokes" (defArgs s_lay_strokes) (defBody s_lay_strokes) (defScope s_lay_strokes) [V.ref pd] [] f fd) : ∃ ds, Vals [V.ref pd] ds ∧ Binds K fd ["word", "pen"] ds := by
  refine F.binds1 (ps := ["word", "pen"]) 1 0 (by simp) rfl (fun T kV doc pm an cdv ct us its h1 h2 => ?_)
  match us, its, h1, h2 with
  | [_], [i], _, _ => exact ⟨_, rfl, rfl⟩
theorem bf_ls {pd : Addr} (f : Addr) (fd : FuncData) (F : FunD K "lay_strokes" "lay_strokes" (defArgs s_lay_strokes) (defBody s_lay_strokes) (defScope s_lay_strokes) [V.ref pd] [] f fd) : ∃ ds, Vals [] ds ∧ Binds K fd ["word", "pen"] ds := by
  refine F.binds1 (ps := ["word", "pen"]) 2 1 (by simp) rfl (fun T kV doc pm an cdv ct us its h1 h2 => ?_)
  match us, its, h1, h2 with
  | [_, _], [i], _, _ => exact ⟨_, rfl, rfl⟩
theorem all_got {pd_ly : Addr} {pd_ls : Addr} {t_MOST_PARTS : Tok} {t_MOST_LETTERS : Tok} {t_MOST_GROWN : Tok} {t_MOST_SPEED : Tok} {a_STROKE : Addr} {CS : Addr} {C fI : Addr} {E_Branching : Addr} {a_OTHER_TURNS : Addr} (D : Defs K mg) (B : Blt mg) (D_ca : DefDAt K mg "check_age" s_check_age [.int 1000]) (D_ba : DefDAt K mg "check_book_and_age" s_check_book_and_age [.int 1000]) (D_ly : DefDAt K mg "lay" s_lay [.ref pd_ly]) (P_ly : ModT K pd_ly [.int 0, .int 0, .int 0]) (D_ls : DefDAt K mg "lay_strokes" s_lay_strokes [.ref pd_ls]) (P_ls : ModT K pd_ls [.int 0, .int 0, .int 0]) (m_MOST_PARTS : mg "MOST_PARTS" = some (.int 40 t_MOST_PARTS)) (m_MOST_LETTERS : mg "MOST_LETTERS" = some (.int 8 t_MOST_LETTERS)) (m_MOST_GROWN : mg "MOST_GROWN" = some (.int 60000 t_MOST_GROWN)) (m_MOST_SPEED : mg "MOST_SPEED" = some (.int 4 t_MOST_SPEED)) (m_STROKE : mg "STROKE" = some (.ref a_STROKE)) (h_STROKE : ModT K a_STROKE [.int 1, .int 0, .int 0]) (gS : mg "StrokeError" = some (.ref CS)) (T : TmTxt P K mg C fI) (T2 : IsTxt K C) (teC : PySem.W.exmOne K (.ref C) (.ref CS) = some true) (gBranching : mg "Branching" = some (.ref E_Branching)) (xBranching : PySem.W.excIn K E_Branching [.type "ValueError", .type "Exception", .type "BaseException", .type "object"] "ValueError.__new__" = true) (kBranching : PySem.W.keepIn K (.ref E_Branching) = true) (sBranching : PySem.W.subIn K (.ref E_Branching) (.type "BaseException") = some true) (tBranching : PySem.W.typeIn K (.ref E_Branching) = some (.type "type")) (cBranching : ExcC K E_Branching) (teBranching : PySem.W.exmOne K (.ref E_Branching) (.ref CS) = some true) (kiBranching : PySem.W.kitOne K (.ref E_Branching) (.ref E_Branching) = some true) (m_OTHER_TURNS : mg "OTHER_TURNS" = some (.ref a_OTHER_TURNS)) (w_OTHER_TURNS : WDict K w a_OTHER_TURNS [("+", .str "-"), ("-", .str "+")]) : TmTxt P K mg C fI ∧ IsTxt K C ∧ mg "StrokeError" = some (.ref CS) ∧ PySem.W.exmOne K (.ref C) (.ref CS) = some true ∧ ExcC K E_Branching ∧ mg "Branching" = some (.ref E_Branching) ∧ PySem.W.kitOne K (.ref E_Branching) (.ref E_Branching) = some true ∧ PySem.W.exmOne K (.ref E_Branching) (.ref CS) = some true ∧ LawG14 P w K mg base E_Branching C 6 := by
  have gTk : Got P w K mg base "_law_taken" 1 ["row", "many"] (spTaken K) := got D.taken (fun f fd F => ok_taken F B.int B.len) fun _ _ _ _ _ _ us hl => match us, hl with | [_, _], _ => rfl
  have gPk : Got P w K mg base "_law_pick" 2 ["row", "things"] (spPick K) := got D.pick (fun f fd F => ok_pick F gTk B.len) fun _ _ _ _ _ _ us hl => match us, hl with | [_, _], _ => rfl
  have gBr : Got P w K mg base "_law_branched" 3 ["row", "word", "letters"] (spBranched K) := got D.branched (fun f fd F => ok_branched F (gTk.mono (by decide)) gPk B.len B.list B.tuple) fun _ _ _ _ _ _ us hl => match us, hl with | [_, _, _], _ => rfl
  have gWd : Got P w K mg base "_law_word" 3 ["row", "letters", "most"] (spWord K) := got D.word (fun f fd F => ok_word F (gTk.mono (by decide)) gPk B.range B.tuple) fun _ _ _ _ _ _ us hl => match us, hl with | [_, _, _], _ => rfl
  have gBk : Got P w K mg base "_law_book" 4 ["row"] (spBook K) := got D.book (fun f fd F => ok_book F (gTk.mono (by decide)) gWd gBr B.range B.tuple) fun _ _ _ _ _ _ us hl => match us, hl with | [_], _ => rfl
  have gKt : Got P w K mg base "_law_kit" 3 ["row"] (spBook K) := got D.kit (fun f fd F => ok_kit F gPk) fun _ _ _ _ _ _ us hl => match us, hl with | [_], _ => rfl
  have gEw : Got P w K mg base "_law_even_word" 3 ["row", "letters", "move"] (spEvenWord K) := got D.even_word (fun f fd F => ok_evenword F (gTk.mono (by decide)) B.abs B.int B.len B.tuple) fun _ _ _ _ _ _ us hl => match us, hl with | [_, _, _], _ => rfl
  have gEb : Got P w K mg base "_law_even_book" 4 ["row"] (spEvenBook K) := got D.even_book (fun f fd F => ok_evenbook F (gTk.mono (by decide)) (gPk.mono (by decide)) gEw gBr B.range B.tuple) fun _ _ _ _ _ _ us hl => match us, hl with | [_], _ => rfl
  have gGr : Got P w K mg base "_law_grown" 1 ["book", "age"] (spGrown K) := got D.grown (fun f fd F => ok_grown F B.range B.list B.isinstance B.str) fun _ _ _ _ _ _ us hl => match us, hl with | [_, _], _ => rfl
  have gAg : Got P w K mg base "_law_age" 2 ["book", "most"] (spAge K) := got D.age (fun f fd F => ok_age F gGr B.len B.isinstance B.str) fun _ _ _ _ _ _ us hl => match us, hl with | [_, _], _ => rfl
  have gUn : Got P w K mg base "_law_unit" 1 ["heading"] spUnit := got D.unit (fun f fd F => ok_unit F B.int) fun _ _ _ _ _ _ us hl => match us, hl with | [_], _ => rfl
  have gDn : Got P w K mg base "_law_drawn" 2 ["word"] (spDrawnL K) := got D.drawn (fun f fd F => ok_drawnL F gUn B.int B.isinstance B.str) fun _ _ _ _ _ _ us hl => match us, hl with | [_], _ => rfl
  have gA : AlkG mg := ⟨B.isinstance, B.tuple, B.list, B.str, B.int, B.bool, B.len, B.range⟩
  have bA : ∀ (kV doc pm : Value) (an : Option Addr) (cdv ct : Value) (us : List Value), us.length = (["found", "due"] : List Str).length → bindArgs (PySem.W.fnOf "_law_alike" "_law_alike" (defArgs s_law_alike) (defBody s_law_alike) (defScope s_law_alike) .none kV doc pm an cdv ct) ⟨us, []⟩ = pure ((["found", "due"] : List Str).zip us) :=
    fun _ _ _ _ _ _ us hl => (match us, hl with | [_, _], _ => rfl)
  have gAl : ∀ n, Got P w K mg base "_law_alike" (n + 1) ["found", "due"] (spAlike n) := fun n => by
    induction n with
    | zero => exact got D.alike (fun f fd F => ok_alike 0 F gA fun m e => absurd e (by omega)) bA
    | succ n ih =>
      refine got D.alike (fun f fd F => ok_alike (n + 1) F gA fun m e => ?_) bA
      have e : n = m := by omega
      subst e
      exact ih
  have gII : Got P w K mg base "is_integer" 1 ["value"] (spIsInt K) := got D.is_integer (fun f fd F => ok_isint F B.isinstance B.int B.bool) fun _ _ _ _ _ _ us hl => match us, hl with | [_], _ => rfl
  have gIW : Got P w K mg base "is_word" 2 ["value", "many"] spIsWord := got D.is_word (fun f fd F => ok_isword F gII B.isinstance B.tuple B.len m_MOST_PARTS) fun _ _ _ _ _ _ us hl => match us, hl with | [_, _], _ => rfl
  have gBF : Got P w K mg base "has_book_form" 2 ["value"] spBookForm := got D.has_book_form (fun f fd F => ok_bookform F B.isinstance B.tuple B.len m_MOST_LETTERS) fun _ _ _ _ _ _ us hl => match us, hl with | [_], _ => rfl
  have gCN : Got P w K mg base "check_number" 2 ["value", "least", "most"] spCheckNum := got D.check_number (fun f fd F => ok_checknum F gII) fun _ _ _ _ _ _ us hl => match us, hl with | [_, _, _], _ => rfl
  have gCB : Got P w K mg base "check_book" 3 ["value"] spCheckBook := got D.check_book (fun f fd F => ok_checkbook F gBF gIW B.len B.enumerate) fun _ _ _ _ _ _ us hl => match us, hl with | [_], _ => rfl
  have gCA : Got P w K mg base "check_age" 3 ["value", "most"] spCheckAge := gotF D_ca (fun f fd F => ok_checkage F gCN) bf_ca
  have gBA : GotD P w K mg base "check_book_and_age" 4 ["book", "age", "most"] [.int 1000] spCheckBA := gotD D_ba (fun f fd F => ok_checkba F gCB (gCA.mono (by decide))) bd_ba
  have gLI : Got P w K mg base "letters_in" 1 ["parts"] (spLettersIn K) := got D.letters_in (fun f fd F => ok_lettersin F B.isinstance B.str B.sorted) fun _ _ _ _ _ _ us hl => match us, hl with | [_], _ => rfl
  have gNL : Got P w K mg base "next_letters" 2 ["words", "letters"] spNext := got D.next_letters (fun f fd F => ok_next F gLI) fun _ _ _ _ _ _ us hl => match us, hl with | [_, _], _ => rfl
  have gCL : Got P w K mg base "count_letters" 1 ["word", "many"] spCount := got D.count_letters (fun f fd F => ok_count F B.range) fun _ _ _ _ _ _ us hl => match us, hl with | [_, _], _ => rfl
  have gNC : Got P w K mg base "next_counts" 1 ["counts", "table"] spNextC := got D.next_counts (fun f fd F => ok_nextc F B.len B.zip B.enumerate) fun _ _ _ _ _ _ us hl => match us, hl with | [_, _], _ => rfl
  have gSz : Got P w K mg base "check_size" 2 ["words", "start", "age"] spSize := got D.check_size (fun f fd F => ok_size F gCL gNC B.len B.range B.zip B.sum m_MOST_GROWN) fun _ _ _ _ _ _ us hl => match us, hl with | [_, _, _], _ => rfl
  have gRw : Got P w K mg base "letters_by_age" 3 ["words", "start", "age"] spRows := got D.letters_by_age (fun f fd F => ok_rows F (gLI.mono (by decide)) gNL B.range) fun _ _ _ _ _ _ us hl => match us, hl with | [_, _, _], _ => rfl
  have gRp : Got P w K mg base "replace_letters" 1 ["word", "grown"] spReplace := got D.replace_letters (fun f fd F => ok_replace F B.isinstance B.str B.tuple) fun _ _ _ _ _ _ us hl => match us, hl with | [_, _], _ => rfl
  have gWA : Got P w K mg base "word_at" 5 ["book", "age"] spWordAt := got D.word_at (fun f fd F => ok_wordat F gBA (gSz.mono (by decide)) (gRw.mono (by decide)) (gRp.mono (by decide)) B.reversed) fun _ _ _ _ _ _ us hl => match us, hl with | [_, _], _ => rfl
  have gRt : Got P w K mg base "rotate" 1 ["x", "y", "quarters"] spRotate := got D.rotate (fun f fd F => ok_rotate F) fun _ _ _ _ _ _ us hl => match us, hl with | [_, _, _], _ => rfl
  have gLy : Got P w K mg base "lay" 2 ["word", "ends", "pen"] (spLay K) := gotF D_ly (fun f fd F => ok_lay F gRt) bf_ly
  have gLS : GotD P w K mg base "lay_strokes" 3 ["word", "pen"] [.ref pd_ls] (spLayS K) := gotD D_ls (fun f fd F => ok_lays F gLy m_STROKE h_STROKE B.isinstance B.str) bd_ls
  have gDw : Got P w K mg base "draw" 4 ["word"] spDraw := got D.draw (fun f fd F => ok_draw F gLS P_ls B.tuple) fun _ _ _ _ _ _ us hl => match us, hl with | [_], _ => rfl
  have gDr : Got P w K mg base "drawing" 6 ["book", "age"] spDrawing := got D.drawing (fun f fd F => ok_drawing F gWA (gDw.mono (by decide))) fun _ _ _ _ _ _ us hl => match us, hl with | [_, _], _ => rfl
  have gQu : Got P w K mg base "_law_quarter" 1 ["place", "many"] (spQuarter K) := got D.quarter (fun f fd F => ok_quarter F B.int) fun _ _ _ _ _ _ us hl => match us, hl with | [_, _], _ => rfl
  have gTo : Got P w K mg base "turned_over" 1 ["word"] spTurned := got D.turned_over (fun f fd F => ok_turned F w_OTHER_TURNS m_OTHER_TURNS B.tuple) fun _ _ _ _ _ _ us hl => match us, hl with | [_], _ => rfl
  have gMi : Got P w K mg base "mirrored" 4 ["book"] spMirrored := got D.mirrored (fun f fd F => ok_mirrored F gCB (gTo.mono (by decide)) B.tuple) fun _ _ _ _ _ _ us hl => match us, hl with | [_], _ => rfl
  have gBa : GotX P w K mg base "backward" 4 ["book"] (spBackX E_Branching) := gotX D.backward (fun f fd F => ok_backward F gCB (gTo.mono (by decide)) B.tuple gBranching xBranching kBranching sBranching tBranching) fun _ _ _ _ _ _ us hl => match us, hl with | [_], _ => rfl
  have gRT : Got P w K mg base "replace_letters" 1 ["word", "grown"] spReplaceT := got D.replace_letters (fun f fd F => ok_replaceT F B.isinstance B.str B.tuple) fun _ _ _ _ _ _ us hl => match us, hl with | [_, _], _ => rfl
  have gSp : GotN P w K mg base "sped" 4 ["book", "many"] (spSpedX C) := gotN D.sped (fun f fd F => ok_spedN T F gCB (gCN.mono (by decide)) (gRT.mono (by decide)) B.range B.tuple B.any B.len m_MOST_SPEED m_MOST_PARTS) fun _ _ _ _ _ _ us hl => match us, hl with | [_, _], _ => rfl
  exact ⟨T, T2, gS, teC, cBranching, gBranching, kiBranching, teBranching, ⟨gPk.mono (by decide), gBk.mono (by decide), gKt.mono (by decide), gEb.mono (by decide), gTk.mono (by decide), gAg.mono (by decide), gGr.mono (by decide), gDn.mono (by decide), gUn.mono (by decide), gQu.mono (by decide), (gAl 4).mono (by decide), gMi.mono (by decide), gBa.mono (by decide), gSp.mono (by decide), gDr.mono (by decide), B.range, B.len, B.tuple, B.isinstance, B.int, B.reversed, B.max⟩⟩
/-- one tuple of the written part -/
theorem modT_of {K : PySem.W.Frag} {a : Addr} {o : Obj} {its : Array Value} {n : Nat} {xs : List V} (h : K.lookup a = some o) (h1 : o.cls = .type "tuple") (h2 : o.data = .seq its n) (h3 : its.size ≤ 16777216) (h4 : Vals xs its.toList) : ModT K a xs :=
  ⟨o, its, n, h, h1, h2, by rw [sizeLine_eq]; exact h3, h4⟩
end
end SK
namespace SK
open PySem PySem.Spec PyProof.Rows L2
theorem def_mk {K : PySem.W.Frag} {h : Heap} {mg : Str → Option Value} {x : Str} {st : Stmt} {f : Addr} {oc kV doc pm cdv ct : Value} {od an : Option Addr} {osl : Array (Option Value)} (X : K.In h) (G : h.Ns mainGlobals mg) (a : PySem.W.nsIn K mainGlobals x = some (some (.ref f)))
    (l : K.lookup f = some ⟨oc, od, .func (PySem.W.fnOf x x (defArgs st) (defBody st) (defScope st) .none kV doc pm an cdv ct), osl⟩) (c : PySem.W.codeIn K cdv x = true) (k : PySem.W.keepIn K (.ref f) = true) : DefAt K mg x st := ⟨f, _, PySem.W.mg_of X G a, fun_mk (st := st) l c k⟩
theorem law_mk {l : PySem.W.OpenLaw} {w : World} {K : PySem.W.Frag} {h : Heap} {mg : Str → Option Value} {fa : Addr} (X : K.In h) (G : h.Ns mainGlobals mg) (hfa : mg "law" = some (.ref fa))
    {f_taken : Addr} {oc_taken kV_taken dc_taken pm_taken cd_taken ct_taken : Value} {od_taken an_taken : Option Addr} {sl_taken : Array (Option Value)}
    {f_pick : Addr} {oc_pick kV_pick dc_pick pm_pick cd_pick ct_pick : Value} {od_pick an_pick : Option Addr} {sl_pick : Array (Option Value)}
    {f_branched : Addr} {oc_branched kV_branched dc_branched pm_branched cd_branched ct_branched : Value} {od_branched an_branched : Option Addr} {sl_branched : Array (Option Value)}
    {f_word : Addr} {oc_word kV_word dc_word pm_word cd_word ct_word : Value} {od_word an_word : Option Addr} {sl_word : Array (Option Value)}
    {f_book : Addr} {oc_book kV_book dc_book pm_book cd_book ct_book : Value} {od_book an_book : Option Addr} {sl_book : Array (Option Value)}
    {f_kit : Addr} {oc_kit kV_kit dc_kit pm_kit cd_kit ct_kit : Value} {od_kit an_kit : Option Addr} {sl_kit : Array (Option Value)}
    {f_even_word : Addr} {oc_even_word kV_even_word dc_even_word pm_even_word cd_even_word ct_even_word : Value} {od_even_word an_even_word : Option Addr} {sl_even_word : Array (Option Value)}
    {f_even_book : Addr} {oc_even_book kV_even_book dc_even_book pm_even_book cd_even_book ct_even_book : Value} {od_even_book an_even_book : Option Addr} {sl_even_book : Array (Option Value)}
    {f_grown : Addr} {oc_grown kV_grown dc_grown pm_grown cd_grown ct_grown : Value} {od_grown an_grown : Option Addr} {sl_grown : Array (Option Value)}
    {f_unit : Addr} {oc_unit kV_unit dc_unit pm_unit cd_unit ct_unit : Value} {od_unit an_unit : Option Addr} {sl_unit : Array (Option Value)}
    {f_drawn : Addr} {oc_drawn kV_drawn dc_drawn pm_drawn cd_drawn ct_drawn : Value} {od_drawn an_drawn : Option Addr} {sl_drawn : Array (Option Value)}
    {f_alike : Addr} {oc_alike kV_alike dc_alike pm_alike cd_alike ct_alike : Value} {od_alike an_alike : Option Addr} {sl_alike : Array (Option Value)}
    {f_age : Addr} {oc_age kV_age dc_age pm_age cd_age ct_age : Value} {od_age an_age : Option Addr} {sl_age : Array (Option Value)}
    {f_quarter : Addr} {oc_quarter kV_quarter dc_quarter pm_quarter cd_quarter ct_quarter : Value} {od_quarter an_quarter : Option Addr} {sl_quarter : Array (Option Value)}
    {f_is_integer : Addr} {oc_is_integer kV_is_integer dc_is_integer pm_is_integer cd_is_integer ct_is_integer : Value} {od_is_integer an_is_integer : Option Addr} {sl_is_integer : Array (Option Value)}
    {f_is_word : Addr} {oc_is_word kV_is_word dc_is_word pm_is_word cd_is_word ct_is_word : Value} {od_is_word an_is_word : Option Addr} {sl_is_word : Array (Option Value)}
    {f_has_book_form : Addr} {oc_has_book_form kV_has_book_form dc_has_book_form pm_has_book_form cd_has_book_form ct_has_book_form : Value} {od_has_book_form an_has_book_form : Option Addr} {sl_has_book_form : Array (Option Value)}
    {f_check_book : Addr} {oc_check_book kV_check_book dc_check_book pm_check_book cd_check_book ct_check_book : Value} {od_check_book an_check_book : Option Addr} {sl_check_book : Array (Option Value)}
    {f_check_number : Addr} {oc_check_number kV_check_number dc_check_number pm_check_number cd_check_number ct_check_number : Value} {od_check_number an_check_number : Option Addr} {sl_check_number : Array (Option Value)}
    {f_letters_in : Addr} {oc_letters_in kV_letters_in dc_letters_in pm_letters_in cd_letters_in ct_letters_in : Value} {od_letters_in an_letters_in : Option Addr} {sl_letters_in : Array (Option Value)}
    {f_next_letters : Addr} {oc_next_letters kV_next_letters dc_next_letters pm_next_letters cd_next_letters ct_next_letters : Value} {od_next_letters an_next_letters : Option Addr} {sl_next_letters : Array (Option Value)}
    {f_count_letters : Addr} {oc_count_letters kV_count_letters dc_count_letters pm_count_letters cd_count_letters ct_count_letters : Value} {od_count_letters an_count_letters : Option Addr} {sl_count_letters : Array (Option Value)}
    {f_next_counts : Addr} {oc_next_counts kV_next_counts dc_next_counts pm_next_counts cd_next_counts ct_next_counts : Value} {od_next_counts an_next_counts : Option Addr} {sl_next_counts : Array (Option Value)}
    {f_check_size : Addr} {oc_check_size kV_check_size dc_check_size pm_check_size cd_check_size ct_check_size : Value} {od_check_size an_check_size : Option Addr} {sl_check_size : Array (Option Value)}
    {f_letters_by_age : Addr} {oc_letters_by_age kV_letters_by_age dc_letters_by_age pm_letters_by_age cd_letters_by_age ct_letters_by_age : Value} {od_letters_by_age an_letters_by_age : Option Addr} {sl_letters_by_age : Array (Option Value)}
    {f_replace_letters : Addr} {oc_replace_letters kV_replace_letters dc_replace_letters pm_replace_letters cd_replace_letters ct_replace_letters : Value} {od_replace_letters an_replace_letters : Option Addr} {sl_replace_letters : Array (Option Value)}
    {f_word_at : Addr} {oc_word_at kV_word_at dc_word_at pm_word_at cd_word_at ct_word_at : Value} {od_word_at an_word_at : Option Addr} {sl_word_at : Array (Option Value)}
    {f_draw : Addr} {oc_draw kV_draw dc_draw pm_draw cd_draw ct_draw : Value} {od_draw an_draw : Option Addr} {sl_draw : Array (Option Value)}
    {f_drawing : Addr} {oc_drawing kV_drawing dc_drawing pm_drawing cd_drawing ct_drawing : Value} {od_drawing an_drawing : Option Addr} {sl_drawing : Array (Option Value)}
    {f_rotate : Addr} {oc_rotate kV_rotate dc_rotate pm_rotate cd_rotate ct_rotate : Value} {od_rotate an_rotate : Option Addr} {sl_rotate : Array (Option Value)}
    {f_turned_over : Addr} {oc_turned_over kV_turned_over dc_turned_over pm_turned_over cd_turned_over ct_turned_over : Value} {od_turned_over an_turned_over : Option Addr} {sl_turned_over : Array (Option Value)}
    {f_mirrored : Addr} {oc_mirrored kV_mirrored dc_mirrored pm_mirrored cd_mirrored ct_mirrored : Value} {od_mirrored an_mirrored : Option Addr} {sl_mirrored : Array (Option Value)}
    {f_backward : Addr} {oc_backward kV_backward dc_backward pm_backward cd_backward ct_backward : Value} {od_backward an_backward : Option Addr} {sl_backward : Array (Option Value)}
    {f_sped : Addr} {oc_sped kV_sped dc_sped pm_sped cd_sped ct_sped : Value} {od_sped an_sped : Option Addr} {sl_sped : Array (Option Value)}
    {T_ca : Addr} {o_ca : Obj} {n_ca : Nat}
    {f_ca : Addr} {oc_ca kV_ca dc_ca pm_ca cd_ca ct_ca : Value} {od_ca an_ca : Option Addr} {sl_ca : Array (Option Value)}
    {tk_ca : Tok}
    {T_ba : Addr} {o_ba : Obj} {n_ba : Nat}
    {f_ba : Addr} {oc_ba kV_ba dc_ba pm_ba cd_ba ct_ba : Value} {od_ba an_ba : Option Addr} {sl_ba : Array (Option Value)}
    {tk_ba : Tok}
    {T_ly : Addr} {o_ly : Obj} {n_ly : Nat}
    {f_ly : Addr} {oc_ly kV_ly dc_ly pm_ly cd_ly ct_ly : Value} {od_ly an_ly : Option Addr} {sl_ly : Array (Option Value)}
    {p_ly : Addr}
    {u0_ly u1_ly u2_ly : Tok} {ob_ly : Obj} {nn_ly : Nat}
    {T_ls : Addr} {o_ls : Obj} {n_ls : Nat}
    {f_ls : Addr} {oc_ls kV_ls dc_ls pm_ls cd_ls ct_ls : Value} {od_ls an_ls : Option Addr} {sl_ls : Array (Option Value)}
    {p_ls : Addr}
    {u0_ls u1_ls u2_ls : Tok} {ob_ls : Obj} {nn_ls : Nat}
    {t_MOST_PARTS : Tok}
    {t_MOST_LETTERS : Tok}
    {t_MOST_GROWN : Tok}
    {t_MOST_SPEED : Tok}
    {a_STROKE : Addr}
    {u0_STROKE u1_STROKE u2_STROKE : Tok} {ob_STROKE : Obj} {nn_STROKE : Nat}
    {CS : Addr}
    {C fI NC : Addr} {nmC qC : Str} {bsC : List Value} {snC : List Str} {subC : List Value} {abC : Bool} {colC : Option Bool} {ddC : Option Addr} {k0C k1C k2C k3C k5C : Option Value}
    {ocI ctI : Value} {odI anI : Option Addr} {dcI pmI : Value} {cdI ccI : Addr} {slI : Array (Option Value)} {cclI clI : Value} {cddI cldI : Option Addr} {vsI : Array Value} {ccsI cslI : Array (Option Value)} {fileI : Str} {tfI : Tok}
    {E_Branching : Addr}
    {a_OTHER_TURNS : Addr} {n_OTHER_TURNS : Nat} {h0_OTHER_TURNS : Int} {t0_OTHER_TURNS u0_OTHER_TURNS : Tok} {h1_OTHER_TURNS : Int} {t1_OTHER_TURNS u1_OTHER_TURNS : Tok}
    {f_law : Addr} {oc_law kV_law dc_law pm_law cd_law ct_law : Value} {od_law an_law : Option Addr} {sl_law : Array (Option Value)}
    (a_taken : PySem.W.nsIn K mainGlobals "_law_taken" = some (some (.ref f_taken)))
    (l_taken : K.lookup f_taken = some ⟨oc_taken, od_taken, .func (PySem.W.fnOf "_law_taken" "_law_taken" (defArgs s_law_taken) (defBody s_law_taken) (defScope s_law_taken) .none kV_taken dc_taken pm_taken an_taken cd_taken ct_taken), sl_taken⟩)
    (c_taken : PySem.W.codeIn K cd_taken "_law_taken" = true)
    (k_taken : PySem.W.keepIn K (.ref f_taken) = true)
    (a_pick : PySem.W.nsIn K mainGlobals "_law_pick" = some (some (.ref f_pick)))
    (l_pick : K.lookup f_pick = some ⟨oc_pick, od_pick, .func (PySem.W.fnOf "_law_pick" "_law_pick" (defArgs s_law_pick) (defBody s_law_pick) (defScope s_law_pick) .none kV_pick dc_pick pm_pick an_pick cd_pick ct_pick), sl_pick⟩)
    (c_pick : PySem.W.codeIn K cd_pick "_law_pick" = true)
    (k_pick : PySem.W.keepIn K (.ref f_pick) = true)
    (a_branched : PySem.W.nsIn K mainGlobals "_law_branched" = some (some (.ref f_branched)))
    (l_branched : K.lookup f_branched = some ⟨oc_branched, od_branched, .func (PySem.W.fnOf "_law_branched" "_law_branched" (defArgs s_law_branched) (defBody s_law_branched) (defScope s_law_branched) .none kV_branched dc_branched pm_branched an_branched cd_branched ct_branched), sl_branched⟩)
    (c_branched : PySem.W.codeIn K cd_branched "_law_branched" = true)
    (k_branched : PySem.W.keepIn K (.ref f_branched) = true)
    (a_word : PySem.W.nsIn K mainGlobals "_law_word" = some (some (.ref f_word)))
    (l_word : K.lookup f_word = some ⟨oc_word, od_word, .func (PySem.W.fnOf "_law_word" "_law_word" (defArgs s_law_word) (defBody s_law_word) (defScope s_law_word) .none kV_word dc_word pm_word an_word cd_word ct_word), sl_word⟩)
    (c_word : PySem.W.codeIn K cd_word "_law_word" = true)
    (k_word : PySem.W.keepIn K (.ref f_word) = true)
    (a_book : PySem.W.nsIn K mainGlobals "_law_book" = some (some (.ref f_book)))
    (l_book : K.lookup f_book = some ⟨oc_book, od_book, .func (PySem.W.fnOf "_law_book" "_law_book" (defArgs s_law_book) (defBody s_law_book) (defScope s_law_book) .none kV_book dc_book pm_book an_book cd_book ct_book), sl_book⟩)
    (c_book : PySem.W.codeIn K cd_book "_law_book" = true)
    (k_book : PySem.W.keepIn K (.ref f_book) = true)
    (a_kit : PySem.W.nsIn K mainGlobals "_law_kit" = some (some (.ref f_kit)))
    (l_kit : K.lookup f_kit = some ⟨oc_kit, od_kit, .func (PySem.W.fnOf "_law_kit" "_law_kit" (defArgs s_law_kit) (defBody s_law_kit) (defScope s_law_kit) .none kV_kit dc_kit pm_kit an_kit cd_kit ct_kit), sl_kit⟩)
    (c_kit : PySem.W.codeIn K cd_kit "_law_kit" = true)
    (k_kit : PySem.W.keepIn K (.ref f_kit) = true)
    (a_even_word : PySem.W.nsIn K mainGlobals "_law_even_word" = some (some (.ref f_even_word)))
    (l_even_word : K.lookup f_even_word = some ⟨oc_even_word, od_even_word, .func (PySem.W.fnOf "_law_even_word" "_law_even_word" (defArgs s_law_even_word) (defBody s_law_even_word) (defScope s_law_even_word) .none kV_even_word dc_even_word pm_even_word an_even_word cd_even_word ct_even_word), sl_even_word⟩)
    (c_even_word : PySem.W.codeIn K cd_even_word "_law_even_word" = true)
    (k_even_word : PySem.W.keepIn K (.ref f_even_word) = true)
    (a_even_book : PySem.W.nsIn K mainGlobals "_law_even_book" = some (some (.ref f_even_book)))
    (l_even_book : K.lookup f_even_book = some ⟨oc_even_book, od_even_book, .func (PySem.W.fnOf "_law_even_book" "_law_even_book" (defArgs s_law_even_book) (defBody s_law_even_book) (defScope s_law_even_book) .none kV_even_book dc_even_book pm_even_book an_even_book cd_even_book ct_even_book), sl_even_book⟩)
    (c_even_book : PySem.W.codeIn K cd_even_book "_law_even_book" = true)
    (k_even_book : PySem.W.keepIn K (.ref f_even_book) = true)
    (a_grown : PySem.W.nsIn K mainGlobals "_law_grown" = some (some (.ref f_grown)))
    (l_grown : K.lookup f_grown = some ⟨oc_grown, od_grown, .func (PySem.W.fnOf "_law_grown" "_law_grown" (defArgs s_law_grown) (defBody s_law_grown) (defScope s_law_grown) .none kV_grown dc_grown pm_grown an_grown cd_grown ct_grown), sl_grown⟩)
    (c_grown : PySem.W.codeIn K cd_grown "_law_grown" = true)
    (k_grown : PySem.W.keepIn K (.ref f_grown) = true)
    (a_unit : PySem.W.nsIn K mainGlobals "_law_unit" = some (some (.ref f_unit)))
    (l_unit : K.lookup f_unit = some ⟨oc_unit, od_unit, .func (PySem.W.fnOf "_law_unit" "_law_unit" (defArgs s_law_unit) (defBody s_law_unit) (defScope s_law_unit) .none kV_unit dc_unit pm_unit an_unit cd_unit ct_unit), sl_unit⟩)
    (c_unit : PySem.W.codeIn K cd_unit "_law_unit" = true)
    (k_unit : PySem.W.keepIn K (.ref f_unit) = true)
    (a_drawn : PySem.W.nsIn K mainGlobals "_law_drawn" = some (some (.ref f_drawn)))
    (l_drawn : K.lookup f_drawn = some ⟨oc_drawn, od_drawn, .func (PySem.W.fnOf "_law_drawn" "_law_drawn" (defArgs s_law_drawn) (defBody s_law_drawn) (defScope s_law_drawn) .none kV_drawn dc_drawn pm_drawn an_drawn cd_drawn ct_drawn), sl_drawn⟩)
    (c_drawn : PySem.W.codeIn K cd_drawn "_law_drawn" = true)
    (k_drawn : PySem.W.keepIn K (.ref f_drawn) = true)
    (a_alike : PySem.W.nsIn K mainGlobals "_law_alike" = some (some (.ref f_alike)))
    (l_alike : K.lookup f_alike = some ⟨oc_alike, od_alike, .func (PySem.W.fnOf "_law_alike" "_law_alike" (defArgs s_law_alike) (defBody s_law_alike) (defScope s_law_alike) .none kV_alike dc_alike pm_alike an_alike cd_alike ct_alike), sl_alike⟩)
    (c_alike : PySem.W.codeIn K cd_alike "_law_alike" = true)
    (k_alike : PySem.W.keepIn K (.ref f_alike) = true)
    (a_age : PySem.W.nsIn K mainGlobals "_law_age" = some (some (.ref f_age)))
    (l_age : K.lookup f_age = some ⟨oc_age, od_age, .func (PySem.W.fnOf "_law_age" "_law_age" (defArgs s_law_age) (defBody s_law_age) (defScope s_law_age) .none kV_age dc_age pm_age an_age cd_age ct_age), sl_age⟩)
    (c_age : PySem.W.codeIn K cd_age "_law_age" = true)
    (k_age : PySem.W.keepIn K (.ref f_age) = true)
    (a_quarter : PySem.W.nsIn K mainGlobals "_law_quarter" = some (some (.ref f_quarter)))
    (l_quarter : K.lookup f_quarter = some ⟨oc_quarter, od_quarter, .func (PySem.W.fnOf "_law_quarter" "_law_quarter" (defArgs s_law_quarter) (defBody s_law_quarter) (defScope s_law_quarter) .none kV_quarter dc_quarter pm_quarter an_quarter cd_quarter ct_quarter), sl_quarter⟩)
    (c_quarter : PySem.W.codeIn K cd_quarter "_law_quarter" = true)
    (k_quarter : PySem.W.keepIn K (.ref f_quarter) = true)
    (a_is_integer : PySem.W.nsIn K mainGlobals "is_integer" = some (some (.ref f_is_integer)))
    (l_is_integer : K.lookup f_is_integer = some ⟨oc_is_integer, od_is_integer, .func (PySem.W.fnOf "is_integer" "is_integer" (defArgs s_is_integer) (defBody s_is_integer) (defScope s_is_integer) .none kV_is_integer dc_is_integer pm_is_integer an_is_integer cd_is_integer ct_is_integer), sl_is_integer⟩)
    (c_is_integer : PySem.W.codeIn K cd_is_integer "is_integer" = true)
    (k_is_integer : PySem.W.keepIn K (.ref f_is_integer) = true)
    (a_is_word : PySem.W.nsIn K mainGlobals "is_word" = some (some (.ref f_is_word)))
    (l_is_word : K.lookup f_is_word = some ⟨oc_is_word, od_is_word, .func (PySem.W.fnOf "is_word" "is_word" (defArgs s_is_word) (defBody s_is_word) (defScope s_is_word) .none kV_is_word dc_is_word pm_is_word an_is_word cd_is_word ct_is_word), sl_is_word⟩)
    (c_is_word : PySem.W.codeIn K cd_is_word "is_word" = true)
    (k_is_word : PySem.W.keepIn K (.ref f_is_word) = true)
    (a_has_book_form : PySem.W.nsIn K mainGlobals "has_book_form" = some (some (.ref f_has_book_form)))
    (l_has_book_form : K.lookup f_has_book_form = some ⟨oc_has_book_form, od_has_book_form, .func (PySem.W.fnOf "has_book_form" "has_book_form" (defArgs s_has_book_form) (defBody s_has_book_form) (defScope s_has_book_form) .none kV_has_book_form dc_has_book_form pm_has_book_form an_has_book_form cd_has_book_form ct_has_book_form), sl_has_book_form⟩)
    (c_has_book_form : PySem.W.codeIn K cd_has_book_form "has_book_form" = true)
    (k_has_book_form : PySem.W.keepIn K (.ref f_has_book_form) = true)
    (a_check_book : PySem.W.nsIn K mainGlobals "check_book" = some (some (.ref f_check_book)))
    (l_check_book : K.lookup f_check_book = some ⟨oc_check_book, od_check_book, .func (PySem.W.fnOf "check_book" "check_book" (defArgs s_check_book) (defBody s_check_book) (defScope s_check_book) .none kV_check_book dc_check_book pm_check_book an_check_book cd_check_book ct_check_book), sl_check_book⟩)
    (c_check_book : PySem.W.codeIn K cd_check_book "check_book" = true)
    (k_check_book : PySem.W.keepIn K (.ref f_check_book) = true)
    (a_check_number : PySem.W.nsIn K mainGlobals "check_number" = some (some (.ref f_check_number)))
    (l_check_number : K.lookup f_check_number = some ⟨oc_check_number, od_check_number, .func (PySem.W.fnOf "check_number" "check_number" (defArgs s_check_number) (defBody s_check_number) (defScope s_check_number) .none kV_check_number dc_check_number pm_check_number an_check_number cd_check_number ct_check_number), sl_check_number⟩)
    (c_check_number : PySem.W.codeIn K cd_check_number "check_number" = true)
    (k_check_number : PySem.W.keepIn K (.ref f_check_number) = true)
    (a_letters_in : PySem.W.nsIn K mainGlobals "letters_in" = some (some (.ref f_letters_in)))
    (l_letters_in : K.lookup f_letters_in = some ⟨oc_letters_in, od_letters_in, .func (PySem.W.fnOf "letters_in" "letters_in" (defArgs s_letters_in) (defBody s_letters_in) (defScope s_letters_in) .none kV_letters_in dc_letters_in pm_letters_in an_letters_in cd_letters_in ct_letters_in), sl_letters_in⟩)
    (c_letters_in : PySem.W.codeIn K cd_letters_in "letters_in" = true)
    (k_letters_in : PySem.W.keepIn K (.ref f_letters_in) = true)
    (a_next_letters : PySem.W.nsIn K mainGlobals "next_letters" = some (some (.ref f_next_letters)))
    (l_next_letters : K.lookup f_next_letters = some ⟨oc_next_letters, od_next_letters, .func (PySem.W.fnOf "next_letters" "next_letters" (defArgs s_next_letters) (defBody s_next_letters) (defScope s_next_letters) .none kV_next_letters dc_next_letters pm_next_letters an_next_letters cd_next_letters ct_next_letters), sl_next_letters⟩)
    (c_next_letters : PySem.W.codeIn K cd_next_letters "next_letters" = true)
    (k_next_letters : PySem.W.keepIn K (.ref f_next_letters) = true)
    (a_count_letters : PySem.W.nsIn K mainGlobals "count_letters" = some (some (.ref f_count_letters)))
    (l_count_letters : K.lookup f_count_letters = some ⟨oc_count_letters, od_count_letters, .func (PySem.W.fnOf "count_letters" "count_letters" (defArgs s_count_letters) (defBody s_count_letters) (defScope s_count_letters) .none kV_count_letters dc_count_letters pm_count_letters an_count_letters cd_count_letters ct_count_letters), sl_count_letters⟩)
    (c_count_letters : PySem.W.codeIn K cd_count_letters "count_letters" = true)
    (k_count_letters : PySem.W.keepIn K (.ref f_count_letters) = true)
    (a_next_counts : PySem.W.nsIn K mainGlobals "next_counts" = some (some (.ref f_next_counts)))
    (l_next_counts : K.lookup f_next_counts = some ⟨oc_next_counts, od_next_counts, .func (PySem.W.fnOf "next_counts" "next_counts" (defArgs s_next_counts) (defBody s_next_counts) (defScope s_next_counts) .none kV_next_counts dc_next_counts pm_next_counts an_next_counts cd_next_counts ct_next_counts), sl_next_counts⟩)
    (c_next_counts : PySem.W.codeIn K cd_next_counts "next_counts" = true)
    (k_next_counts : PySem.W.keepIn K (.ref f_next_counts) = true)
    (a_check_size : PySem.W.nsIn K mainGlobals "check_size" = some (some (.ref f_check_size)))
    (l_check_size : K.lookup f_check_size = some ⟨oc_check_size, od_check_size, .func (PySem.W.fnOf "check_size" "check_size" (defArgs s_check_size) (defBody s_check_size) (defScope s_check_size) .none kV_check_size dc_check_size pm_check_size an_check_size cd_check_size ct_check_size), sl_check_size⟩)
    (c_check_size : PySem.W.codeIn K cd_check_size "check_size" = true)
    (k_check_size : PySem.W.keepIn K (.ref f_check_size) = true)
    (a_letters_by_age : PySem.W.nsIn K mainGlobals "letters_by_age" = some (some (.ref f_letters_by_age)))
    (l_letters_by_age : K.lookup f_letters_by_age = some ⟨oc_letters_by_age, od_letters_by_age, .func (PySem.W.fnOf "letters_by_age" "letters_by_age" (defArgs s_letters_by_age) (defBody s_letters_by_age) (defScope s_letters_by_age) .none kV_letters_by_age dc_letters_by_age pm_letters_by_age an_letters_by_age cd_letters_by_age ct_letters_by_age), sl_letters_by_age⟩)
    (c_letters_by_age : PySem.W.codeIn K cd_letters_by_age "letters_by_age" = true)
    (k_letters_by_age : PySem.W.keepIn K (.ref f_letters_by_age) = true)
    (a_replace_letters : PySem.W.nsIn K mainGlobals "replace_letters" = some (some (.ref f_replace_letters)))
    (l_replace_letters : K.lookup f_replace_letters = some ⟨oc_replace_letters, od_replace_letters, .func (PySem.W.fnOf "replace_letters" "replace_letters" (defArgs s_replace_letters) (defBody s_replace_letters) (defScope s_replace_letters) .none kV_replace_letters dc_replace_letters pm_replace_letters an_replace_letters cd_replace_letters ct_replace_letters), sl_replace_letters⟩)
    (c_replace_letters : PySem.W.codeIn K cd_replace_letters "replace_letters" = true)
    (k_replace_letters : PySem.W.keepIn K (.ref f_replace_letters) = true)
    (a_word_at : PySem.W.nsIn K mainGlobals "word_at" = some (some (.ref f_word_at)))
    (l_word_at : K.lookup f_word_at = some ⟨oc_word_at, od_word_at, .func (PySem.W.fnOf "word_at" "word_at" (defArgs s_word_at) (defBody s_word_at) (defScope s_word_at) .none kV_word_at dc_word_at pm_word_at an_word_at cd_word_at ct_word_at), sl_word_at⟩)
    (c_word_at : PySem.W.codeIn K cd_word_at "word_at" = true)
    (k_word_at : PySem.W.keepIn K (.ref f_word_at) = true)
    (a_draw : PySem.W.nsIn K mainGlobals "draw" = some (some (.ref f_draw)))
    (l_draw : K.lookup f_draw = some ⟨oc_draw, od_draw, .func (PySem.W.fnOf "draw" "draw" (defArgs s_draw) (defBody s_draw) (defScope s_draw) .none kV_draw dc_draw pm_draw an_draw cd_draw ct_draw), sl_draw⟩)
    (c_draw : PySem.W.codeIn K cd_draw "draw" = true)
    (k_draw : PySem.W.keepIn K (.ref f_draw) = true)
    (a_drawing : PySem.W.nsIn K mainGlobals "drawing" = some (some (.ref f_drawing)))
    (l_drawing : K.lookup f_drawing = some ⟨oc_drawing, od_drawing, .func (PySem.W.fnOf "drawing" "drawing" (defArgs s_drawing) (defBody s_drawing) (defScope s_drawing) .none kV_drawing dc_drawing pm_drawing an_drawing cd_drawing ct_drawing), sl_drawing⟩)
    (c_drawing : PySem.W.codeIn K cd_drawing "drawing" = true)
    (k_drawing : PySem.W.keepIn K (.ref f_drawing) = true)
    (a_rotate : PySem.W.nsIn K mainGlobals "rotate" = some (some (.ref f_rotate)))
    (l_rotate : K.lookup f_rotate = some ⟨oc_rotate, od_rotate, .func (PySem.W.fnOf "rotate" "rotate" (defArgs s_rotate) (defBody s_rotate) (defScope s_rotate) .none kV_rotate dc_rotate pm_rotate an_rotate cd_rotate ct_rotate), sl_rotate⟩)
    (c_rotate : PySem.W.codeIn K cd_rotate "rotate" = true)
    (k_rotate : PySem.W.keepIn K (.ref f_rotate) = true)
    (a_turned_over : PySem.W.nsIn K mainGlobals "turned_over" = some (some (.ref f_turned_over)))
    (l_turned_over : K.lookup f_turned_over = some ⟨oc_turned_over, od_turned_over, .func (PySem.W.fnOf "turned_over" "turned_over" (defArgs s_turned_over) (defBody s_turned_over) (defScope s_turned_over) .none kV_turned_over dc_turned_over pm_turned_over an_turned_over cd_turned_over ct_turned_over), sl_turned_over⟩)
    (c_turned_over : PySem.W.codeIn K cd_turned_over "turned_over" = true)
    (k_turned_over : PySem.W.keepIn K (.ref f_turned_over) = true)
    (a_mirrored : PySem.W.nsIn K mainGlobals "mirrored" = some (some (.ref f_mirrored)))
    (l_mirrored : K.lookup f_mirrored = some ⟨oc_mirrored, od_mirrored, .func (PySem.W.fnOf "mirrored" "mirrored" (defArgs s_mirrored) (defBody s_mirrored) (defScope s_mirrored) .none kV_mirrored dc_mirrored pm_mirrored an_mirrored cd_mirrored ct_mirrored), sl_mirrored⟩)
    (c_mirrored : PySem.W.codeIn K cd_mirrored "mirrored" = true)
    (k_mirrored : PySem.W.keepIn K (.ref f_mirrored) = true)
    (a_backward : PySem.W.nsIn K mainGlobals "backward" = some (some (.ref f_backward)))
    (l_backward : K.lookup f_backward = some ⟨oc_backward, od_backward, .func (PySem.W.fnOf "backward" "backward" (defArgs s_backward) (defBody s_backward) (defScope s_backward) .none kV_backward dc_backward pm_backward an_backward cd_backward ct_backward), sl_backward⟩)
    (c_backward : PySem.W.codeIn K cd_backward "backward" = true)
    (k_backward : PySem.W.keepIn K (.ref f_backward) = true)
    (a_sped : PySem.W.nsIn K mainGlobals "sped" = some (some (.ref f_sped)))
    (l_sped : K.lookup f_sped = some ⟨oc_sped, od_sped, .func (PySem.W.fnOf "sped" "sped" (defArgs s_sped) (defBody s_sped) (defScope s_sped) .none kV_sped dc_sped pm_sped an_sped cd_sped ct_sped), sl_sped⟩)
    (c_sped : PySem.W.codeIn K cd_sped "sped" = true)
    (k_sped : PySem.W.keepIn K (.ref f_sped) = true)
    (z_isinstance : PySem.W.nsIn K mainGlobals "isinstance" = some none)
    (z_int : PySem.W.nsIn K mainGlobals "int" = some none)
    (z_bool : PySem.W.nsIn K mainGlobals "bool" = some none)
    (z_str : PySem.W.nsIn K mainGlobals "str" = some none)
    (z_tuple : PySem.W.nsIn K mainGlobals "tuple" = some none)
    (z_list : PySem.W.nsIn K mainGlobals "list" = some none)
    (z_len : PySem.W.nsIn K mainGlobals "len" = some none)
    (z_enumerate : PySem.W.nsIn K mainGlobals "enumerate" = some none)
    (z_sorted : PySem.W.nsIn K mainGlobals "sorted" = some none)
    (z_range : PySem.W.nsIn K mainGlobals "range" = some none)
    (z_zip : PySem.W.nsIn K mainGlobals "zip" = some none)
    (z_sum : PySem.W.nsIn K mainGlobals "sum" = some none)
    (z_reversed : PySem.W.nsIn K mainGlobals "reversed" = some none)
    (z_abs : PySem.W.nsIn K mainGlobals "abs" = some none)
    (z_max : PySem.W.nsIn K mainGlobals "max" = some none)
    (z_any : PySem.W.nsIn K mainGlobals "any" = some none)
    (a_ca : PySem.W.nsIn K mainGlobals "check_age" = some (some (.ref f_ca)))
    (l_ca : K.lookup f_ca = some ⟨oc_ca, od_ca, .func (PySem.W.fnOf "check_age" "check_age" (defArgs s_check_age) (defBody s_check_age) (defScope s_check_age) (.ref T_ca) kV_ca dc_ca pm_ca an_ca cd_ca ct_ca), sl_ca⟩)
    (c_ca : PySem.W.codeIn K cd_ca "check_age" = true)
    (k_ca : PySem.W.keepIn K (.ref f_ca) = true)
    (tt_ca : K.lookup T_ca = some o_ca)
    (u_ca : o_ca.data = .seq (([.int 1000 tk_ca] : List Value).toArray) n_ca)
    (a_ba : PySem.W.nsIn K mainGlobals "check_book_and_age" = some (some (.ref f_ba)))
    (l_ba : K.lookup f_ba = some ⟨oc_ba, od_ba, .func (PySem.W.fnOf "check_book_and_age" "check_book_and_age" (defArgs s_check_book_and_age) (defBody s_check_book_and_age) (defScope s_check_book_and_age) (.ref T_ba) kV_ba dc_ba pm_ba an_ba cd_ba ct_ba), sl_ba⟩)
    (c_ba : PySem.W.codeIn K cd_ba "check_book_and_age" = true)
    (k_ba : PySem.W.keepIn K (.ref f_ba) = true)
    (tt_ba : K.lookup T_ba = some o_ba)
    (u_ba : o_ba.data = .seq (([.int 1000 tk_ba] : List Value).toArray) n_ba)
    (a_ly : PySem.W.nsIn K mainGlobals "lay" = some (some (.ref f_ly)))
    (l_ly : K.lookup f_ly = some ⟨oc_ly, od_ly, .func (PySem.W.fnOf "lay" "lay" (defArgs s_lay) (defBody s_lay) (defScope s_lay) (.ref T_ly) kV_ly dc_ly pm_ly an_ly cd_ly ct_ly), sl_ly⟩)
    (c_ly : PySem.W.codeIn K cd_ly "lay" = true)
    (k_ly : PySem.W.keepIn K (.ref f_ly) = true)
    (tt_ly : K.lookup T_ly = some o_ly)
    (u_ly : o_ly.data = .seq (([.ref p_ly] : List Value).toArray) n_ly)
    (lp_ly : K.lookup p_ly = some ob_ly)
    (e_ly : ob_ly.cls = .type "tuple" ∧ ob_ly.data = .seq (([.int (0) u0_ly, .int (0) u1_ly, .int (0) u2_ly] : List Value).toArray) nn_ly)
    (a_ls : PySem.W.nsIn K mainGlobals "lay_strokes" = some (some (.ref f_ls)))
    (l_ls : K.lookup f_ls = some ⟨oc_ls, od_ls, .func (PySem.W.fnOf "lay_strokes" "lay_strokes" (defArgs s_lay_strokes) (defBody s_lay_strokes) (defScope s_lay_strokes) (.ref T_ls) kV_ls dc_ls pm_ls an_ls cd_ls ct_ls), sl_ls⟩)
    (c_ls : PySem.W.codeIn K cd_ls "lay_strokes" = true)
    (k_ls : PySem.W.keepIn K (.ref f_ls) = true)
    (tt_ls : K.lookup T_ls = some o_ls)
    (u_ls : o_ls.data = .seq (([.ref p_ls] : List Value).toArray) n_ls)
    (lp_ls : K.lookup p_ls = some ob_ls)
    (e_ls : ob_ls.cls = .type "tuple" ∧ ob_ls.data = .seq (([.int (0) u0_ls, .int (0) u1_ls, .int (0) u2_ls] : List Value).toArray) nn_ls)
    (m_MOST_PARTS : PySem.W.nsIn K mainGlobals "MOST_PARTS" = some (some (.int 40 t_MOST_PARTS)))
    (m_MOST_LETTERS : PySem.W.nsIn K mainGlobals "MOST_LETTERS" = some (some (.int 8 t_MOST_LETTERS)))
    (m_MOST_GROWN : PySem.W.nsIn K mainGlobals "MOST_GROWN" = some (some (.int 60000 t_MOST_GROWN)))
    (m_MOST_SPEED : PySem.W.nsIn K mainGlobals "MOST_SPEED" = some (some (.int 4 t_MOST_SPEED)))
    (m_STROKE : PySem.W.nsIn K mainGlobals "STROKE" = some (some (.ref a_STROKE)))
    (l_STROKE : K.lookup a_STROKE = some ob_STROKE)
    (e_STROKE : ob_STROKE.cls = .type "tuple" ∧ ob_STROKE.data = .seq (([.int (1) u0_STROKE, .int (0) u1_STROKE, .int (0) u2_STROKE] : List Value).toArray) nn_STROKE)
    (aCS : PySem.W.nsIn K mainGlobals "StrokeError" = some (some (.ref CS)))
    (exS : PySem.W.subIn K (.ref CS) (.type "BaseException") = some true)
    (hdS : PySem.W.hasDictIn K CS = true)
    (tyS : PySem.W.typeIn K (.ref CS) = some (.type "type"))
    (hnC : PySem.W.specialIn K (.builtin "object.__class__") "__get__" = some (some (.builtin "getset_descriptor.__get__")))
    (htC : PySem.W.takesIn K (.builtin "object.__class__") = some true)
    (z_super : PySem.W.nsIn K mainGlobals "super" = some none)
    (aC : PySem.W.nsIn K mainGlobals "TooMany" = some (some (.ref C)))
    (xC : K.lookup C = some (excClassObj nmC qC C NC bsC [.ref CS, .type "ValueError", .type "Exception", .type "BaseException", .type "object"] true snC subC abC colC ddC k0C k1C k2C k3C k5C "ValueError.__new__"))
    (gaC : PySem.W.findIn K (.ref C) "__getattribute__" = some (some (.builtin "BaseException.__getattribute__")))
    (ggC : PySem.W.findIn K (.ref C) "__getattr__" = some none)
    (exC : PySem.W.subIn K (.ref C) (.type "BaseException") = some true)
    (hdC : PySem.W.hasDictIn K C = true)
    (tyC : PySem.W.typeIn K (.ref C) = some (.type "type"))
    (kpC : PySem.W.keepIn K (.ref C) = true)
    (haC : PySem.W.findIn K (.ref C) "__class__" = some (some (.builtin "object.__class__")))
    (hmC : PySem.W.mroIn K C (.type "object") = some true)
    (suC : PySem.W.subIn K (.ref C) (.ref CS) = some true)
    (saC : PySem.W.findIn K (.ref C) "__setattr__" = some (some (.builtin "object.__setattr__")))
    (noC : PySem.W.findIn K (.ref C) "most" = some none)
    (iC : PySem.W.findIn K (.ref C) "__init__" = some (some (.ref fI)))
    (tC : PySem.W.typeIn K (.ref fI) = some (.type "function"))
    (veC : PySem.W.subIn K (.ref C) (.type "ValueError") = some true)
    (supC : PySem.W.ks_superIn K C C "__init__" = some (some (.builtin "ValueError.__init__")))
    (ownC : PySem.W.mroIn K C (.ref C) = some true)
    (opq : PySem.W.nsIn K cStatics "thirdparty.any" = some none)
    (lI : K.lookup fI = some ⟨ocI, odI, .func (PySem.W.ksFn "__init__" "TooMany.__init__" (defArgs s_TooMany_init) (defBody s_TooMany_init) (defScope s_TooMany_init) .none .none dcI pmI anI (.ref cdI) ctI ccI), slI⟩)
    (cI : PySem.W.codeIn K (.ref cdI) "TooMany.__init__" = true)
    (lcd : K.lookup cdI = some ⟨cclI, cddI, .fields vsI, ccsI⟩)
    (vI : vsI[2]? = some (.str fileI tfI))
    (fiI : ((l.prog.main.file : Str) == fileI) = true)
    (lcc : K.lookup ccI = some ⟨clI, cldI, .cell (some (.ref C)), cslI⟩)
    (topS : (l.prog.main.scope.names.lookup ("super" : Str)).isSome = false)
    (kitC : PySem.W.kitOne K (.ref C) (.ref C) = some true)
    (aEBranching : PySem.W.nsIn K mainGlobals "Branching" = some (some (.ref E_Branching)))
    (gaBranching : PySem.W.findIn K (.ref E_Branching) "__getattribute__" = some (some (.builtin "BaseException.__getattribute__")))
    (ggBranching : PySem.W.findIn K (.ref E_Branching) "__getattr__" = some none)
    (exBranching : PySem.W.subIn K (.ref E_Branching) (.type "BaseException") = some true)
    (hdBranching : PySem.W.hasDictIn K E_Branching = true)
    (tyBranching : PySem.W.typeIn K (.ref E_Branching) = some (.type "type"))
    (kpBranching : PySem.W.keepIn K (.ref E_Branching) = true)
    (haBranching : PySem.W.findIn K (.ref E_Branching) "__class__" = some (some (.builtin "object.__class__")))
    (hmBranching : PySem.W.mroIn K E_Branching (.type "object") = some true)
    (suBranching : PySem.W.subIn K (.ref E_Branching) (.ref CS) = some true)
    (xiBranching : PySem.W.excIn K E_Branching [.type "ValueError", .type "Exception", .type "BaseException", .type "object"] "ValueError.__new__" = true)
    (kiBranching : PySem.W.kitOne K (.ref E_Branching) (.ref E_Branching) = some true)
    (m_OTHER_TURNS : PySem.W.nsIn K mainGlobals "OTHER_TURNS" = some (some (.ref a_OTHER_TURNS)))
    (l_OTHER_TURNS : K.lookup a_OTHER_TURNS = some ⟨.type "dict", none, .dict ([⟨h0_OTHER_TURNS, .str "+" t0_OTHER_TURNS, .str "-" u0_OTHER_TURNS⟩, ⟨h1_OTHER_TURNS, .str "-" t1_OTHER_TURNS, .str "+" u1_OTHER_TURNS⟩] : List DictEntry).toArray n_OTHER_TURNS, #[]⟩)
    (y_OTHER_TURNS : PySem.W.KeysLit w.params ([⟨h0_OTHER_TURNS, .str "+" t0_OTHER_TURNS, .str "-" u0_OTHER_TURNS⟩, ⟨h1_OTHER_TURNS, .str "-" t1_OTHER_TURNS, .str "+" u1_OTHER_TURNS⟩] : List DictEntry))
    (b_OTHER_TURNS : (a_OTHER_TURNS == sysModules) = false)
    (a_law : PySem.W.nsIn K mainGlobals "law" = some (some (.ref f_law)))
    (l_law : K.lookup f_law = some ⟨oc_law, od_law, .func (PySem.W.fnOf "law" "law" (defArgs s_law) (defBody s_law) (defScope s_law) .none kV_law dc_law pm_law an_law cd_law ct_law), sl_law⟩)
    (c_law : PySem.W.codeIn K cd_law "law" = true)
    (k_law : PySem.W.keepIn K (.ref f_law) = true) :
    ∃ fd : FuncData, (∀ (s : Shared) (v : Value), BindsTo s fd ⟨[v], []⟩ [("script", v)]) ∧ ∀ base : Heap, K.In base → base.Ns mainGlobals mg → FnOk l.prog w K mg base CX0 7 fa fd ["script"] (spLaw K) := by
  have e := hfa.symm.trans (PySem.W.mg_of X G a_law)
  cases e
  have m : ∀ {x : Str} {u : Value}, PySem.W.nsIn K mainGlobals x = some (some u) → mg x = some u := fun h => PySem.W.mg_of X G h
  have z : ∀ {x : Str}, PySem.W.nsIn K mainGlobals x = some none → mg x = none := fun h => PySem.W.mg_none_of X G h
  have D : Defs K mg := ⟨def_mk X G a_taken l_taken c_taken k_taken, def_mk X G a_pick l_pick c_pick k_pick, def_mk X G a_branched l_branched c_branched k_branched, def_mk X G a_word l_word c_word k_word, def_mk X G a_book l_book c_book k_book, def_mk X G a_kit l_kit c_kit k_kit, def_mk X G a_even_word l_even_word c_even_word k_even_word, def_mk X G a_even_book l_even_book c_even_book k_even_book, def_mk X G a_grown l_grown c_grown k_grown, def_mk X G a_unit l_unit c_unit k_unit, def_mk X G a_drawn l_drawn c_drawn k_drawn, def_mk X G a_alike l_alike c_alike k_alike, def_mk X G a_age l_age c_age k_age, def_mk X G a_quarter l_quarter c_quarter k_quarter, def_mk X G a_is_integer l_is_integer c_is_integer k_is_integer, def_mk X G a_is_word l_is_word c_is_word k_is_word, def_mk X G a_has_book_form l_has_book_form c_has_book_form k_has_book_form, def_mk X G a_check_book l_check_book c_check_book k_check_book, def_mk X G a_check_number l_check_number c_check_number k_check_number, def_mk X G a_letters_in l_letters_in c_letters_in k_letters_in, def_mk X G a_next_letters l_next_letters c_next_letters k_next_letters, def_mk X G a_count_letters l_count_letters c_count_letters k_count_letters, def_mk X G a_next_counts l_next_counts c_next_counts k_next_counts, def_mk X G a_check_size l_check_size c_check_size k_check_size, def_mk X G a_letters_by_age l_letters_by_age c_letters_by_age k_letters_by_age, def_mk X G a_replace_letters l_replace_letters c_replace_letters k_replace_letters, def_mk X G a_word_at l_word_at c_word_at k_word_at, def_mk X G a_draw l_draw c_draw k_draw, def_mk X G a_drawing l_drawing c_drawing k_drawing, def_mk X G a_rotate l_rotate c_rotate k_rotate, def_mk X G a_turned_over l_turned_over c_turned_over k_turned_over, def_mk X G a_mirrored l_mirrored c_mirrored k_mirrored, def_mk X G a_backward l_backward c_backward k_backward, def_mk X G a_sped l_sped c_sped k_sped⟩
  have B : Blt mg := ⟨z z_isinstance, z z_int, z z_bool, z z_str, z z_tuple, z z_list, z z_len, z z_enumerate, z z_sorted, z z_range, z z_zip, z z_sum, z z_reversed, z z_abs, z z_max, z z_any⟩
  have D_ca : DefDAt K mg "check_age" s_check_age [.int 1000] := ⟨f_ca, _, m a_ca, ⟨_, _, _, _, _, _, _, _, _, _, rfl, l_ca, c_ca, .inr ⟨by simp, T_ca, o_ca, _, _, rfl, tt_ca, u_ca, .cons ⟨_, rfl⟩ .nil⟩, .inl rfl⟩, k_ca⟩
  have D_ba : DefDAt K mg "check_book_and_age" s_check_book_and_age [.int 1000] := ⟨f_ba, _, m a_ba, ⟨_, _, _, _, _, _, _, _, _, _, rfl, l_ba, c_ba, .inr ⟨by simp, T_ba, o_ba, _, _, rfl, tt_ba, u_ba, .cons ⟨_, rfl⟩ .nil⟩, .inl rfl⟩, k_ba⟩
  have P_ly : ModT K p_ly [.int (0), .int (0), .int (0)] := modT_of lp_ly e_ly.1 e_ly.2 (by show 3 ≤ 16777216; decide) (.cons ⟨_, rfl⟩ (.cons ⟨_, rfl⟩ (.cons ⟨_, rfl⟩ (.nil))))
  have D_ly : DefDAt K mg "lay" s_lay [.ref p_ly] := ⟨f_ly, _, m a_ly, ⟨_, _, _, _, _, _, _, _, _, _, rfl, l_ly, c_ly, .inr ⟨by simp, T_ly, o_ly, _, _, rfl, tt_ly, u_ly, .cons rfl .nil⟩, .inl rfl⟩, k_ly⟩
  have P_ls : ModT K p_ls [.int (0), .int (0), .int (0)] := modT_of lp_ls e_ls.1 e_ls.2 (by show 3 ≤ 16777216; decide) (.cons ⟨_, rfl⟩ (.cons ⟨_, rfl⟩ (.cons ⟨_, rfl⟩ (.nil))))
  have D_ls : DefDAt K mg "lay_strokes" s_lay_strokes [.ref p_ls] := ⟨f_ls, _, m a_ls, ⟨_, _, _, _, _, _, _, _, _, _, rfl, l_ls, c_ls, .inr ⟨by simp, T_ls, o_ls, _, _, rfl, tt_ls, u_ls, .cons rfl .nil⟩, .inl rfl⟩, k_ls⟩
  have h_STROKE : ModT K a_STROKE [.int (1), .int (0), .int (0)] := modT_of l_STROKE e_STROKE.1 e_STROKE.2 (by show 3 ≤ 16777216; decide) (.cons ⟨_, rfl⟩ (.cons ⟨_, rfl⟩ (.cons ⟨_, rfl⟩ (.nil))))
  have T : TmTxt l.prog K mg C fI := ⟨m aC, z z_super, ⟨_, _, _, _, _, _, _, _, _, _, _, _, _, _, _, xC, rfl⟩, saC, gaC, ggC, noC, iC, tC, kpC, exC, veC, tyC, hdC, supC, ownC, opq, topS, ⟨_, _, _, _, _, _, _, _, _, lI, cI, ⟨_, _, _, _, _, _, lcd, vI, fiI⟩, _, _, _, lcc⟩⟩
  have T2 : IsTxt K C := ⟨haC, hnC, htC, hmC, kitC⟩
  have teC : PySem.W.exmOne K (.ref C) (.ref CS) = some true := PySem.W.exm_ref exS hdS tyS suC
  have w_OTHER_TURNS : WDict K w a_OTHER_TURNS [("+", .str "-"), ("-", .str "+")] := ⟨⟨_, _, l_OTHER_TURNS, y_OTHER_TURNS, .cons ⟨⟨_, rfl⟩, ⟨_, rfl⟩⟩ (.cons ⟨⟨_, rfl⟩, ⟨_, rfl⟩⟩ (.nil))⟩, b_OTHER_TURNS⟩
  exact ⟨PySem.W.fnOf "law" "law" (defArgs s_law) (defBody s_law) (defScope s_law) .none kV_law dc_law pm_law an_law cd_law ct_law, fun s v => .of_eq (by first | rfl | with_unfolding_all rfl), fun base _ _ =>
    ok_law14 (fun_mk (st := s_law) l_law c_law k_law) (all_got D B D_ca D_ba D_ly P_ly D_ls P_ls (m m_MOST_PARTS) (m m_MOST_LETTERS) (m m_MOST_GROWN) (m m_MOST_SPEED) (m m_STROKE) h_STROKE (m aCS) T T2 teC (m aEBranching) xiBranching kpBranching exBranching tyBranching ⟨gaBranching, ggBranching, exBranching, hdBranching, haBranching, hnC, htC, hmBranching⟩ (PySem.W.exm_ref exS hdS tyS suBranching) kiBranching (m m_OTHER_TURNS) w_OTHER_TURNS)⟩
theorem walk_law {l : PySem.W.OpenLaw} {q : Program} {loose : List Str} {XP : (Str → Option Value) → Heap → Prop} {YP : World → Heap → Prop} {d : DefRec} {K : Params → PySem.W.Frag} (hn : l.most = some 63) (hdf : d.params.defaults = [])
    (hY : ∀ (w : World) (h : Heap), YP w h → (K w.params).In h)
    (F : ∀ (w : World) (mg : Str → Option Value) (fa : Addr) (h : Heap), (K w.params).In h → h.Ns mainGlobals mg → mg d.name = some (.ref fa) →
      ∃ fd : FuncData, (∀ (s : Shared) (u : Value), BindsTo s fd ⟨[u], []⟩ [("script", u)]) ∧ ∀ base : Heap, (K w.params).In base → base.Ns mainGlobals mg → FnOk l.prog w (K w.params) mg base CX0 7 fa fd ["script"] (spLaw (K w.params))) :
    PySem.W.WalkO q loose XP YP l.row.toRowW d [] (fun f vs => PySem.call f vs) :=
  L2.walk_of (n := 63) (k := 7) (x := "script") (CX := fun _ => CX0) (sp := fun w => spLaw (K w.params)) hn (by decide) hdf ⟨rfl, by decide, by decide⟩ hY F (fun _ _ a ns hl _ hS => ⟨a, ns, rfl, hS, hl, fun _ => rfl⟩) fun _ _ _ _ _ z => z
end SK
open PySem PySem.W PyProof.Rows in
set_option maxRecDepth 100000 in
set_option maxHeartbeats 0 in
theorem PySem.Challenge.cw_strokeonce_k14_whole_variants_holds : PySem.Challenge.rw_strokeonce_k14_whole_variants.Holds := by
  w_on; o_law; k_head; (case hw => w_witness2)
  k_fill
  refine SK.walk_law (l := PySem.Challenge.rw_strokeonce_k14_whole_variants) rfl rfl (fun w h Y => PySem.W.kIn_of Y) ?F
  case F =>
    intro w mg fa h KX G hmg
    refine' SK.law_mk KX G hmg ?a_taken ?l_taken ?c_taken ?k_taken ?a_pick ?l_pick ?c_pick ?k_pick ?a_branched ?l_branched ?c_branched ?k_branched ?a_word ?l_word ?c_word ?k_word ?a_book ?l_book ?c_book ?k_book ?a_kit ?l_kit ?c_kit ?k_kit ?a_even_word ?l_even_word ?c_even_word ?k_even_word ?a_even_book ?l_even_book ?c_even_book ?k_even_book ?a_grown ?l_grown ?c_grown ?k_grown ?a_unit ?l_unit ?c_unit ?k_unit ?a_drawn ?l_drawn ?c_drawn ?k_drawn ?a_alike ?l_alike ?c_alike ?k_alike ?a_age ?l_age ?c_age ?k_age ?a_quarter ?l_quarter ?c_quarter ?k_quarter ?a_is_integer ?l_is_integer ?c_is_integer ?k_is_integer ?a_is_word ?l_is_word ?c_is_word ?k_is_word ?a_has_book_form ?l_has_book_form ?c_has_book_form ?k_has_book_form ?a_check_book ?l_check_book ?c_check_book ?k_check_book ?a_check_number ?l_check_number ?c_check_number ?k_check_number ?a_letters_in ?l_letters_in ?c_letters_in ?k_letters_in ?a_next_letters ?l_next_letters ?c_next_letters ?k_next_letters ?a_count_letters ?l_count_letters ?c_count_letters ?k_count_letters ?a_next_counts ?l_next_counts ?c_next_counts ?k_next_counts ?a_check_size ?l_check_size ?c_check_size ?k_check_size ?a_letters_by_age ?l_letters_by_age ?c_letters_by_age ?k_letters_by_age ?a_replace_letters ?l_replace_letters ?c_replace_letters ?k_replace_letters ?a_word_at ?l_word_at ?c_word_at ?k_word_at ?a_draw ?l_draw ?c_draw ?k_draw ?a_drawing ?l_drawing ?c_drawing ?k_drawing ?a_rotate ?l_rotate ?c_rotate ?k_rotate ?a_turned_over ?l_turned_over ?c_turned_over ?k_turned_over ?a_mirrored ?l_mirrored ?c_mirrored ?k_mirrored ?a_backward ?l_backward ?c_backward ?k_backward ?a_sped ?l_sped ?c_sped ?k_sped ?z_isinstance ?z_int ?z_bool ?z_str ?z_tuple ?z_list ?z_len ?z_enumerate ?z_sorted ?z_range ?z_zip ?z_sum ?z_reversed ?z_abs ?z_max ?z_any ?a_ca ?l_ca ?c_ca ?k_ca ?tt_ca ?u_ca ?a_ba ?l_ba ?c_ba ?k_ba ?tt_ba ?u_ba ?a_ly ?l_ly ?c_ly ?k_ly ?tt_ly ?u_ly ?lp_ly ?e_ly ?a_ls ?l_ls ?c_ls ?k_ls ?tt_ls ?u_ls ?lp_ls ?e_ls ?m_MOST_PARTS ?m_MOST_LETTERS ?m_MOST_GROWN ?m_MOST_SPEED ?m_STROKE ?l_STROKE ?e_STROKE ?aCS ?exS ?hdS ?tyS ?hnC ?htC ?z_super ?aC ?xC ?gaC ?ggC ?exC ?hdC ?tyC ?kpC ?haC ?hmC ?suC ?saC ?noC ?iC ?tC ?veC ?supC ?ownC ?opq ?lI ?cI ?lcd ?vI ?fiI ?lcc ?topS ?kitC ?aEBranching ?gaBranching ?ggBranching ?exBranching ?hdBranching ?tyBranching ?kpBranching ?haBranching ?hmBranching ?suBranching ?xiBranching ?kiBranching ?m_OTHER_TURNS ?l_OTHER_TURNS ?y_OTHER_TURNS ?b_OTHER_TURNS ?a_law ?l_law ?c_law ?k_law
    (case a_taken => k_is)
    (case l_taken => k_is)
    (case c_taken => k_is)
    (case k_taken => k_is)
    (case a_pick => k_is)
    (case l_pick => k_is)
    (case c_pick => k_is)
    (case k_pick => k_is)
    (case a_branched => k_is)
    (case l_branched => k_is)
    (case c_branched => k_is)
    (case k_branched => k_is)
    (case a_word => k_is)
    (case l_word => k_is)
    (case c_word => k_is)
    (case k_word => k_is)
    (case a_book => k_is)
    (case l_book => k_is)
    (case c_book => k_is)
    (case k_book => k_is)
    (case a_kit => k_is)
    (case l_kit => k_is)
    (case c_kit => k_is)
    (case k_kit => k_is)
    (case a_even_word => k_is)
    (case l_even_word => k_is)
    (case c_even_word => k_is)
    (case k_even_word => k_is)
    (case a_even_book => k_is)
    (case l_even_book => k_is)
    (case c_even_book => k_is)
    (case k_even_book => k_is)
    (case a_grown => k_is)
    (case l_grown => k_is)
    (case c_grown => k_is)
    (case k_grown => k_is)
    (case a_unit => k_is)
    (case l_unit => k_is)
    (case c_unit => k_is)
    (case k_unit => k_is)
    (case a_drawn => k_is)
    (case l_drawn => k_is)
    (case c_drawn => k_is)
    (case k_drawn => k_is)
    (case a_alike => k_is)
    (case l_alike => k_is)
    (case c_alike => k_is)
    (case k_alike => k_is)
    (case a_age => k_is)
    (case l_age => k_is)
    (case c_age => k_is)
    (case k_age => k_is)
    (case a_quarter => k_is)
    (case l_quarter => k_is)
    (case c_quarter => k_is)
    (case k_quarter => k_is)
    (case a_is_integer => k_is)
    (case l_is_integer => k_is)
    (case c_is_integer => k_is)
    (case k_is_integer => k_is)
    (case a_is_word => k_is)
    (case l_is_word => k_is)
    (case c_is_word => k_is)
    (case k_is_word => k_is)
    (case a_has_book_form => k_is)
    (case l_has_book_form => k_is)
    (case c_has_book_form => k_is)
    (case k_has_book_form => k_is)
    (case a_check_book => k_is)
    (case l_check_book => k_is)
    (case c_check_book => k_is)
    (case k_check_book => k_is)
    (case a_check_number => k_is)
    (case l_check_number => k_is)
    (case c_check_number => k_is)
    (case k_check_number => k_is)
    (case a_letters_in => k_is)
    (case l_letters_in => k_is)
    (case c_letters_in => k_is)
    (case k_letters_in => k_is)
    (case a_next_letters => k_is)
    (case l_next_letters => k_is)
    (case c_next_letters => k_is)
    (case k_next_letters => k_is)
    (case a_count_letters => k_is)
    (case l_count_letters => k_is)
    (case c_count_letters => k_is)
    (case k_count_letters => k_is)
    (case a_next_counts => k_is)
    (case l_next_counts => k_is)
    (case c_next_counts => k_is)
    (case k_next_counts => k_is)
    (case a_check_size => k_is)
    (case l_check_size => k_is)
    (case c_check_size => k_is)
    (case k_check_size => k_is)
    (case a_letters_by_age => k_is)
    (case l_letters_by_age => k_is)
    (case c_letters_by_age => k_is)
    (case k_letters_by_age => k_is)
    (case a_replace_letters => k_is)
    (case l_replace_letters => k_is)
    (case c_replace_letters => k_is)
    (case k_replace_letters => k_is)
    (case a_word_at => k_is)
    (case l_word_at => k_is)
    (case c_word_at => k_is)
    (case k_word_at => k_is)
    (case a_draw => k_is)
    (case l_draw => k_is)
    (case c_draw => k_is)
    (case k_draw => k_is)
    (case a_drawing => k_is)
    (case l_drawing => k_is)
    (case c_drawing => k_is)
    (case k_drawing => k_is)
    (case a_rotate => k_is)
    (case l_rotate => k_is)
    (case c_rotate => k_is)
    (case k_rotate => k_is)
    (case a_turned_over => k_is)
    (case l_turned_over => k_is)
    (case c_turned_over => k_is)
    (case k_turned_over => k_is)
    (case a_mirrored => k_is)
    (case l_mirrored => k_is)
    (case c_mirrored => k_is)
    (case k_mirrored => k_is)
    (case a_backward => k_is)
    (case l_backward => k_is)
    (case c_backward => k_is)
    (case k_backward => k_is)
    (case a_sped => k_is)
    (case l_sped => k_is)
    (case c_sped => k_is)
    (case k_sped => k_is)
    (case z_isinstance => k_is)
    (case z_int => k_is)
    (case z_bool => k_is)
    (case z_str => k_is)
    (case z_tuple => k_is)
    (case z_list => k_is)
    (case z_len => k_is)
    (case z_enumerate => k_is)
    (case z_sorted => k_is)
    (case z_range => k_is)
    (case z_zip => k_is)
    (case z_sum => k_is)
    (case z_reversed => k_is)
    (case z_abs => k_is)
    (case z_max => k_is)
    (case z_any => k_is)
    (case a_ca => k_is)
    (case l_ca => k_is)
    (case c_ca => k_is)
    (case k_ca => k_is)
    (case tt_ca => k_is)
    (case u_ca => exact rfl)
    (case a_ba => k_is)
    (case l_ba => k_is)
    (case c_ba => k_is)
    (case k_ba => k_is)
    (case tt_ba => k_is)
    (case u_ba => exact rfl)
    (case a_ly => k_is)
    (case l_ly => k_is)
    (case c_ly => k_is)
    (case k_ly => k_is)
    (case tt_ly => k_is)
    (case u_ly => exact rfl)
    (case lp_ly => k_is)
    (case e_ly => exact ⟨rfl, rfl⟩)
    (case a_ls => k_is)
    (case l_ls => k_is)
    (case c_ls => k_is)
    (case k_ls => k_is)
    (case tt_ls => k_is)
    (case u_ls => exact rfl)
    (case lp_ls => k_is)
    (case e_ls => exact ⟨rfl, rfl⟩)
    (case m_MOST_PARTS => k_is)
    (case m_MOST_LETTERS => k_is)
    (case m_MOST_GROWN => k_is)
    (case m_MOST_SPEED => k_is)
    (case m_STROKE => k_is)
    (case l_STROKE => k_is)
    (case e_STROKE => exact ⟨rfl, rfl⟩)
    (case aCS => k_is)
    (case exS => k_is)
    (case hdS => k_is)
    (case tyS => k_is)
    (case hnC => k_is)
    (case htC => k_is)
    (case z_super => k_is)
    (case aC => k_is)
    (case xC => k_is)
    (case gaC => k_is)
    (case ggC => k_is)
    (case exC => k_is)
    (case hdC => k_is)
    (case tyC => k_is)
    (case kpC => k_is)
    (case haC => k_is)
    (case hmC => k_is)
    (case suC => k_is)
    (case saC => k_is)
    (case noC => k_is)
    (case iC => k_is)
    (case tC => k_is)
    (case veC => k_is)
    (case supC => first | ks_is | kernel_rfl)
    (case ownC => k_is)
    (case opq => k_is)
    (case lI => k_is)
    (case cI => k_is)
    (case lcd => k_is)
    (case vI => exact rfl)
    (case fiI => decide +kernel)
    (case lcc => k_is)
    (case topS => decide +kernel)
    (case kitC => first | kernel_rfl | decide +kernel)
    (case aEBranching => k_is)
    (case gaBranching => k_is)
    (case ggBranching => k_is)
    (case exBranching => k_is)
    (case hdBranching => k_is)
    (case tyBranching => k_is)
    (case kpBranching => k_is)
    (case haBranching => k_is)
    (case hmBranching => k_is)
    (case suBranching => k_is)
    (case xiBranching => first | k_exc | k_is | first | kernel_rfl | decide +kernel)
    (case kiBranching => first | kernel_rfl | decide +kernel)
    (case m_OTHER_TURNS => k_is)
    (case l_OTHER_TURNS => k_is)
    (case y_OTHER_TURNS => exact ⟨⟨_, _, rfl, rfl⟩, ⟨⟨_, _, rfl, rfl⟩, trivial⟩⟩)
    (case b_OTHER_TURNS => first | rfl | decide +kernel)
    (case a_law => k_is)
    (case l_law => k_is)
    (case c_law => k_is)
    (case k_law => k_is)
#print axioms PySem.Challenge.cw_strokeonce_k14_whole_variants_holds
