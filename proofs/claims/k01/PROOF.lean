import PyProof.Rows.All
import Wide.All
import OpenK.AllK
import Wide.FinOn
import HandS.ForMost
import HandS.IsInst
import HandS.Flow
import PySem.Challenge.RW_strokeonce_k01_whole_drawings
import HandS.Wide
import KE.GoesEnum
import HandS.Iter
import HandS.Defaults
import KE.KExcSuper
import KE.KSuper
import HandS.ForExc
import HandS.FStr
import HandS.Codes
import KE.KExcIs
import HandS.SetBool
import HandS.Strs
import HandS.Walk
import KE.DataFind
import HandS.Zip
import KE.GoesMore
import KE.KDflt
import HandS.Lambda
import HandS.DictComp
import KE.DataMinMax
import KE.SortData
import KE.KDictKeyed
import HandS.Rev
import HandS.SortRule
import HandS.EndOwn
import HandS.ExcIs
set_option Elab.async false
set_option linter.all false
set_option maxRecDepth 100000
set_option maxHeartbeats 4000000
/-! common words: heaps, the row of draws, words of signs, books -/
namespace SK
open PySem PySem.Spec PyProof.Rows L2

/-! ### heaps -/
theorem same_upd {H : Hp} {p : Addr} {o : HO} (h : H p = none) : Same H (upd H p o) := fun b x e => by
  rw [upd_ne (ne_of_none e h)]
  exact e
theorem sUpd {H H1 : Hp} {p : Addr} {o : HO} (s : Same H H1) (h : H1 p = none) : Same H (upd H1 p o) := s.trans (same_upd h)
theorem sNone {H H1 : Hp} {p : Addr} (s : Same H H1) (h : H1 p = none) : H p = none := s.free h
/-- a change of a new thing is none of what stood -/
theorem sPut {H H1 : Hp} {p : Addr} {o : HO} (s : Same H H1) (h : H p = none) : Same H (L2.upd H1 p o) := fun b x e => by
  rw [upd_ne (ne_of_none e h)]
  exact s b x e
theorem sTup {K : PySem.W.Frag} {H H' : Hp} {a : Addr} {xs : List V} (e : Same H H') (h : SqT K H a xs) : SqT K H' a xs := by
  rcases h with (h | ⟨o, h⟩) | h
  · exact .inl (.inl (e _ _ h))
  · exact .inl (.inr ⟨o, e _ _ h⟩)
  · exact .inr h
/-- all that was tracked but r is as it was -/
def SameX (r : Addr) (H H' : Hp) : Prop := ∀ b o, b ≠ r → H b = some o → H' b = some o
theorem SameX.refl {r : Addr} {H : Hp} : SameX r H H := fun _ _ _ h => h
theorem SameX.trans {r : Addr} {H H1 H2 : Hp} (a : SameX r H H1) (b : SameX r H1 H2) : SameX r H H2 := fun c o n h => b c o n (a c o n h)
theorem SameX.of {r : Addr} {H H' : Hp} (s : Same H H') : SameX r H H' := fun b o _ h => s b o h
theorem SameX.new {r : Addr} {H H1 : Hp} {p : Addr} {o : HO} (s : SameX r H H1) (h : H1 p = none) : SameX r H (upd H1 p o) := s.trans (.of (same_upd h))
theorem SameX.at {r : Addr} {H H1 : Hp} {o : HO} (s : SameX r H H1) : SameX r H (upd H1 r o) := fun b x n e => by
  rw [upd_ne n]
  exact s b x n e
theorem SameX.put {r : Addr} {H H1 : Hp} {p : Addr} {o : HO} (s : SameX r H H1) (h : H p = none) : SameX r H (upd H1 p o) := fun b x n e => by
  rw [upd_ne (ne_of_none e h)]
  exact s b x n e

/-! ### the row of draws: [script, how many are taken, mixed, the rest] -/
abbrev Scr := Addr × List Int
def RowOk (K : PySem.W.Frag) (S : Scr) (H : Hp) (r : Addr) : Prop := ∃ (i s c : Int),
  H r = some (.lst [.ref S.1, .int i, .int s, .int c]) ∧ SqL K H S.1 (S.2.map V.int) ∧ 0 ≤ i ∧ S.1 ≠ r ∧ S.2.length ≤ 63
theorem sqX {K : PySem.W.Frag} {H H' : Hp} {a r : Addr} {xs : List V} (s : SameX r H H') (n : a ≠ r) (h : SqL K H a xs) : SqL K H' a xs := by
  rcases h with (h | ⟨o, h⟩) | h
  · exact .inl (.inl (s _ _ n h))
  · exact .inl (.inr ⟨o, s _ _ n h⟩)
  · exact .inr h
/-- what was readable ahead of a new thing at p is so behind a change of p -/
theorem sqPut {K : PySem.W.Frag} {H H' : Hp} {a p : Addr} {xs : List V} {o : HO} (h : SqL K H a xs) (n : H p = none) (h' : SqL K H' a xs) : SqL K (upd H' p o) a xs := by
  have go : a ≠ p → SqL K (upd H' p o) a xs := fun ne => by
    rcases h' with (h | ⟨o, h⟩) | h
    · exact .inl (.inl (by rw [upd_ne ne]; exact h))
    · exact .inl (.inr ⟨o, by rw [upd_ne ne]; exact h⟩)
    · exact .inr h
  rcases h with (h | ⟨o, h⟩) | h
  · exact go (ne_of_none h n)
  · exact go (ne_of_none h n)
  · exact .inr h
section
variable {K : PySem.W.Frag} {S : Scr} {H H' H1 H2 : Hp} {r p : Addr} {o : HO}
theorem RowOk.same (h : RowOk K S H r) (s : Same H H') : RowOk K S H' r := by
  obtain ⟨i, st, c, h1, h2, h3, h4, h5⟩ := h
  exact ⟨i, st, c, s _ _ h1, s.seq h2, h3, h4, h5⟩
theorem RowOk.there (h : RowOk K S H r) {p : Addr} (n : H p = none) : p ≠ r := by
  obtain ⟨i, st, c, h1, _⟩ := h
  exact (ne_of_none h1 n).symm
theorem RowOk.put (h : RowOk K S H r) (n : H p = none) (h' : RowOk K S H' r) : RowOk K S (upd H' p o) r := by
  have hp : p ≠ r := h.there n
  obtain ⟨i, st, c, h1, h2, h3, h4, h5⟩ := h'
  obtain ⟨_, _, _, _, g, _⟩ := h
  exact ⟨i, st, c, by rw [upd_ne hp.symm]; exact h1, sqPut g n h2, h3, h4, h5⟩
/-- between: what a step that draws may change -/
structure Drawn (K : PySem.W.Frag) (S : Scr) (r : Addr) (H H' : Hp) : Prop where
  same : SameX r H H'
  row : RowOk K S H' r
theorem Drawn.trans (a : Drawn K S r H H1) (b : Drawn K S r H1 H2) : Drawn K S r H H2 := ⟨a.same.trans b.same, b.row⟩
theorem Drawn.new (a : Drawn K S r H H1) (h : H1 p = none) : Drawn K S r H (upd H1 p o) := ⟨a.same.new h, a.row.same (same_upd h)⟩
theorem Drawn.refl (h : RowOk K S H r) : Drawn K S r H H := ⟨.refl, h⟩
theorem Drawn.then (a : Drawn K S r H H1) (b : Same H1 H2) : Drawn K S r H H2 := ⟨a.same.trans (.of b), a.row.same b⟩
/-- a thing that is new since H is changed -/
theorem Drawn.put (a : Drawn K S r H H1) (h : RowOk K S H r) (n : H p = none) : Drawn K S r H (upd H1 p o) := ⟨a.same.put n, h.put n a.row⟩
/-- what stands and is not the row -/
theorem Drawn.at (a : Drawn K S r H H') {b : Addr} {o : HO} (n : b ≠ r) (h : H b = some o) : H' b = some o := a.same b o n h
theorem RowOk.ne (hr : RowOk K S H r) {b : Addr} {xs : List V} (h : H b = some (.tup xs)) : b ≠ r := by
  obtain ⟨_, _, _, h1, _⟩ := hr
  exact ne_of h h1 (by intro z; cases z)
theorem Drawn.tup (a : Drawn K S r H H') (hr : RowOk K S H r) {b : Addr} {xs : List V} (h : H b = some (.tup xs)) : H' b = some (.tup xs) := a.at (hr.ne h) h
end

/-! ### short words -/
section
variable {X : Cx}
theorem pcat {a b : Expr} {ta tb : TE} {pos : Pos} (ha : PE X a ta) (hb : PE X b tb) : PE X (.BinOp a .Add b pos) (tOp rCat ta tb) := pe_op op_cat ha hb
theorem padd {a b : Expr} {ta tb : TE} {pos : Pos} (ha : PE X a ta) (hb : PE X b tb) : PE X (.BinOp a .Add b pos) (tOp (rI0 fun i j => .int (i + j)) ta tb) := pe_op op_add ha hb
theorem psub {a b : Expr} {ta tb : TE} {pos : Pos} (ha : PE X a ta) (hb : PE X b tb) : PE X (.BinOp a .Sub b pos) (tOp (rI0 fun i j => .int (i - j)) ta tb) := pe_op op_sub ha hb
theorem pmod {a b : Expr} {ta tb : TE} {pos : Pos} (ha : PE X a ta) (hb : PE X b tb) : PE X (.BinOp a .Mod b pos) (tOp (rI (fun _ j => 0 < j) fun i j => .int (i % j)) ta tb) := pe_op op_mod ha hb
def rInt1 : List V → Hp → VK → Prop := fun xs H Q => (∃ i, xs = [.int i] ∧ Q (.int i) H) ∨ ∃ k, xs = [.bl k] ∧ Q (.int (if k then 1 else 0)) H
theorem pint {e : Expr} {te : TE} {p pos : Pos} (m : X.mg "int" = none) (h : PE X e te) (hg : Gl X "int" := by rfl) (hs1 : starEach [e] X.env = (false, eval e X.env) :: starEach [] X.env := by rfl) (hp1 : (backTo pos (starEach [] X.env)).any (·.1) = false := by rfl) : PE X (.Call (.Name "int" p) [e] [] pos) (tCB rInt1 (tCons te tNil)) :=
  pe_callTy call_int1 hg m (by decide +kernel) (pa_cons h pa_nil hs1) (by decide) (by decide) hs1 hp1
theorem pix {a : Expr} {ta : TE} {b : Expr} {tb : TE} {pos : Pos} (ha : PE X a ta) (hb : PE X b tb) (hs : PlainIx b := by exact fun _ _ => rfl) : PE X (.Subscript a b pos) (tOp (rIxL X.K) ta tb) := pe_ix ix_list ha hb hs
theorem pixT {a : Expr} {ta : TE} {b : Expr} {tb : TE} {pos : Pos} (ha : PE X a ta) (hb : PE X b tb) (hs : PlainIx b := by exact fun _ _ => rfl) : PE X (.Subscript a b pos) (tOp (rIxT X.K) ta tb) := pe_ix ix_tup ha hb hs
def rLenS (K : PySem.W.Frag) : List V → Hp → VK → Prop := fun xs H Q => ∃ p ys, xs = [.ref p] ∧ (SqL K H p ys ∨ SqT K H p ys) ∧ Q (.int ys.length) H
theorem plen {e : Expr} {te : TE} {p pos : Pos} (m : X.mg "len" = none) (h : PE X e te) (hg : Gl X "len" := by rfl) (hs1 : starEach [e] X.env = (false, eval e X.env) :: starEach [] X.env := by rfl) (hp1 : (backTo pos (starEach [] X.env)).any (·.1) = false := by rfl) : PE X (.Call (.Name "len" p) [e] [] pos) (tCB (rLenS X.K) (tCons te tNil)) :=
  pe_callB call_len_seq hg m PySem.boot_len (pa_cons h pa_nil hs1) (by decide) (by decide) hs1 hp1
theorem sapp {a e : Expr} {ta te : TE} {p1 p2 p3 : Pos} (ha : PE X a ta) (he : PE X e te) (hb : attributeBase a "append" X.env (eval a X.env) = eval a X.env := by rfl)
    (hf : ((backTo p2 (starEach (e :: []) X.env)).all (fun x => !x.1) && (backToKw p2 (keywordEach [] X.env)).all (fun x => x.1.isSome) && decide ((e :: []).length + ([] : List Keyword).length + (if ([] : List Keyword).isEmpty then 0 else 1) < 30)) = true := by rfl)
    (hl : (p1.endLine == p2.line) = true := by rfl) (hs1 : starEach [e] X.env = (false, eval e X.env) :: starEach [] X.env := by rfl) (hp1 : (backTo p2 (starEach [] X.env)).any (·.1) = false := by rfl) : PS X (.Expr (.Call (.Attribute a "append" p1) [e] [] p2) p3) (tDrop (tBM X.K "list" rAppend ta (tCons te tNil))) :=
  ps_expr (pe_bm PySem.F.plainAttrs_list PySem.F.slot_list_append PySem.F.type_list_append mt_append ha (pa_cons he pa_nil hs1) hb hf hl hs1 hp1)
end
theorem at0 {α : Type} {x : α} {xs : List α} : atI (x :: xs) 0 = some x := atI_nat (j := 0) rfl
theorem at1 {α : Type} {x y : α} {xs : List α} : atI (x :: y :: xs) 1 = some y := atI_nat (j := 1) rfl
theorem at2 {α : Type} {x y z : α} {xs : List α} : atI (x :: y :: z :: xs) 2 = some z := atI_nat (j := 2) rfl
theorem at3 {α : Type} {x y z u : α} {xs : List α} : atI (x :: y :: z :: u :: xs) 3 = some u := atI_nat (j := 3) rfl
theorem szl (n : Nat) (h : n ≤ 16777216 := by first | decide | omega | simp) : n ≤ sizeLine := by rw [sizeLine_eq]; exact h
end SK
/-! the program's text by places -/
namespace SK
open PySem PySem.Spec PyProof.Rows L2
def topS (i : Nat) : Stmt := PySem.Challenge.pw_strokeonce_k01_whole_drawings.main.body.getD i (.Pass ⟨0, 0, 0, 0⟩)
def clsB : Stmt → List Stmt
  | .ClassDef (body := b) .. => b
  | _ => []
abbrev c_StrokeError : Stmt := topS 1
abbrev c_BadBook : Stmt := topS 2
abbrev s_BadBook_init : Stmt := (clsB c_BadBook).getD 0 (.Pass ⟨0, 0, 0, 0⟩)
abbrev n_BadBook_init : List Str := ["self", "letter"]
abbrev jp_BadBook_init : Pos := ⟨7, 25, 7, 54⟩
abbrev c_BadNumber : Stmt := topS 3
abbrev c_TooMany : Stmt := topS 4
abbrev s_TooMany_init : Stmt := (clsB c_TooMany).getD 0 (.Pass ⟨0, 0, 0, 0⟩)
abbrev n_TooMany_init : List Str := ["self", "most"]
abbrev jp_TooMany_init : Pos := ⟨14, 25, 14, 44⟩
abbrev s_is_integer : Stmt := topS 9
abbrev n_is_integer : List Str := ["value"]
theorem sc_is_integer : FnScope n_is_integer ["value"] (defScope s_is_integer) := ⟨rfl, rfl, rfl, by decide +kernel, rfl, by decide +kernel, by decide +kernel⟩
abbrev s_is_word : Stmt := topS 10
abbrev n_is_word : List Str := ["value", "many", "letters", "depth", "part"]
theorem sc_is_word : FnScope n_is_word ["value", "many"] (defScope s_is_word) := ⟨rfl, rfl, rfl, by decide +kernel, rfl, by decide +kernel, by decide +kernel⟩
abbrev s_has_book_form : Stmt := topS 11
abbrev n_has_book_form : List Str := ["value", "words"]
theorem sc_has_book_form : FnScope n_has_book_form ["value"] (defScope s_has_book_form) := ⟨rfl, rfl, rfl, by decide +kernel, rfl, by decide +kernel, by decide +kernel⟩
abbrev s_check_book : Stmt := topS 12
abbrev n_check_book : List Str := ["value", "words", "start", "letter", "word"]
theorem sc_check_book : FnScope n_check_book ["value"] (defScope s_check_book) := ⟨rfl, rfl, rfl, by decide +kernel, rfl, by decide +kernel, by decide +kernel⟩
abbrev s_check_number : Stmt := topS 13
abbrev n_check_number : List Str := ["value", "least", "most"]
theorem sc_check_number : FnScope n_check_number ["value", "least", "most"] (defScope s_check_number) := ⟨rfl, rfl, rfl, by decide +kernel, rfl, by decide +kernel, by decide +kernel⟩
abbrev s_check_age : Stmt := topS 14
abbrev n_check_age : List Str := ["value", "most"]
theorem sc_check_age : FnScope n_check_age ["value", "most"] (defScope s_check_age) := ⟨rfl, rfl, rfl, by decide +kernel, rfl, by decide +kernel, by decide +kernel⟩
abbrev s_check_book_and_age : Stmt := topS 15
abbrev n_check_book_and_age : List Str := ["book", "age", "most"]
theorem sc_check_book_and_age : FnScope n_check_book_and_age ["book", "age", "most"] (defScope s_check_book_and_age) := ⟨rfl, rfl, rfl, by decide +kernel, rfl, by decide +kernel, by decide +kernel⟩
abbrev s_letters_in : Stmt := topS 17
abbrev n_letters_in : List Str := ["parts", "part"]
theorem sc_letters_in : FnScope n_letters_in ["parts"] (defScope s_letters_in) := ⟨rfl, rfl, rfl, by decide +kernel, rfl, by decide +kernel, by decide +kernel⟩
abbrev s_next_letters : Stmt := topS 18
abbrev n_next_letters : List Str := ["words", "letters", "letter", "part"]
theorem sc_next_letters : FnScope n_next_letters ["words", "letters"] (defScope s_next_letters) := ⟨rfl, rfl, rfl, by decide +kernel, rfl, by decide +kernel, by decide +kernel⟩
abbrev s_rotate : Stmt := topS 22
abbrev n_rotate : List Str := ["x", "y", "quarters"]
theorem sc_rotate : FnScope n_rotate ["x", "y", "quarters"] (defScope s_rotate) := ⟨rfl, rfl, rfl, by decide +kernel, rfl, by decide +kernel, by decide +kernel⟩
abbrev s_lay : Stmt := topS 23
abbrev n_lay : List Str := ["word", "ends", "pen", "x", "y", "heading", "begun", "laid", "part", "ahead", "aside", "turned", "right", "up"]
theorem sc_lay : FnScope n_lay ["word", "ends", "pen"] (defScope s_lay) := ⟨rfl, rfl, rfl, by decide +kernel, rfl, by decide +kernel, by decide +kernel⟩
abbrev s_lay_strokes : Stmt := topS 24
abbrev n_lay_strokes : List Str := ["word", "pen", "ends", "part"]
theorem sc_lay_strokes : FnScope n_lay_strokes ["word", "pen"] (defScope s_lay_strokes) := ⟨rfl, rfl, rfl, by decide +kernel, rfl, by decide +kernel, by decide +kernel⟩
abbrev s_end_of_stroke : Stmt := topS 25
abbrev n_end_of_stroke : List Str := ["stroke", "x", "y", "heading", "_", "right", "up"]
theorem sc_end_of_stroke : FnScope n_end_of_stroke ["stroke"] (defScope s_end_of_stroke) := ⟨rfl, rfl, rfl, by decide +kernel, rfl, by decide +kernel, by decide +kernel⟩
abbrev s_count_letters : Stmt := topS 28
abbrev n_count_letters : List Str := ["word", "many", "letter"]
theorem sc_count_letters : FnScope n_count_letters ["word", "many"] (defScope s_count_letters) := ⟨rfl, rfl, rfl, by decide +kernel, rfl, by decide +kernel, by decide +kernel⟩
abbrev s_next_counts : Stmt := topS 29
abbrev n_next_counts : List Str := ["counts", "table", "after", "count", "row", "letter", "each"]
theorem sc_next_counts : FnScope n_next_counts ["counts", "table"] (defScope s_next_counts) := ⟨rfl, rfl, rfl, by decide +kernel, rfl, by decide +kernel, by decide +kernel⟩
abbrev s_check_size : Stmt := topS 30
abbrev n_check_size : List Str := ["words", "start", "age", "many", "table", "counts", "size", "_", "word", "count"]
theorem sc_check_size : FnScope n_check_size ["words", "start", "age"] (defScope s_check_size) := ⟨rfl, rfl, rfl, by decide +kernel, rfl, by decide +kernel, by decide +kernel⟩
abbrev s_letters_by_age : Stmt := topS 31
abbrev n_letters_by_age : List Str := ["words", "start", "age", "rows", "_"]
theorem sc_letters_by_age : FnScope n_letters_by_age ["words", "start", "age"] (defScope s_letters_by_age) := ⟨rfl, rfl, rfl, by decide +kernel, rfl, by decide +kernel, by decide +kernel⟩
abbrev s_replace_letters : Stmt := topS 32
abbrev n_replace_letters : List Str := ["word", "grown", "parts", "part"]
theorem sc_replace_letters : FnScope n_replace_letters ["word", "grown"] (defScope s_replace_letters) := ⟨rfl, rfl, rfl, by decide +kernel, rfl, by decide +kernel, by decide +kernel⟩
abbrev s_word_at : Stmt := topS 33
abbrev n_word_at : List Str := ["book", "age", "words", "start", "rows", "grown", "letters", "letter"]
theorem sc_word_at : FnScope n_word_at ["book", "age"] (defScope s_word_at) := ⟨rfl, rfl, rfl, by decide +kernel, rfl, by decide +kernel, by decide +kernel⟩
abbrev s_draw : Stmt := topS 34
abbrev n_draw : List Str := ["word", "strokes", "_"]
theorem sc_draw : FnScope n_draw ["word"] (defScope s_draw) := ⟨rfl, rfl, rfl, by decide +kernel, rfl, by decide +kernel, by decide +kernel⟩
abbrev s_drawing : Stmt := topS 35
abbrev n_drawing : List Str := ["book", "age"]
theorem sc_drawing : FnScope n_drawing ["book", "age"] (defScope s_drawing) := ⟨rfl, rfl, rfl, by decide +kernel, rfl, by decide +kernel, by decide +kernel⟩
abbrev s_ends_of : Stmt := topS 36
abbrev n_ends_of : List Str := ["stroke", "begin", "end"]
theorem sc_ends_of : FnScope n_ends_of ["stroke"] (defScope s_ends_of) := ⟨rfl, rfl, rfl, by decide +kernel, rfl, by decide +kernel, by decide +kernel⟩
abbrev s_drawn_twice : Stmt := topS 37
abbrev n_drawn_twice : List Str := ["book", "age", "numbers", "number", "stroke", "ends"]
theorem sc_drawn_twice : FnScope n_drawn_twice ["book", "age"] (defScope s_drawn_twice) := ⟨rfl, rfl, rfl, by decide +kernel, rfl, by decide +kernel, by decide +kernel⟩
abbrev s_law_taken : Stmt := topS 39
abbrev n_law_taken : List Str := ["row", "many", "found", "cell"]
theorem sc_law_taken : FnScope n_law_taken ["row", "many"] (defScope s_law_taken) := ⟨rfl, rfl, rfl, by decide +kernel, rfl, by decide +kernel, by decide +kernel⟩
abbrev s_law_pick : Stmt := topS 40
abbrev n_law_pick : List Str := ["row", "things"]
theorem sc_law_pick : FnScope n_law_pick ["row", "things"] (defScope s_law_pick) := ⟨rfl, rfl, rfl, by decide +kernel, rfl, by decide +kernel, by decide +kernel⟩
abbrev s_law_branched : Stmt := topS 41
abbrev n_law_branched : List Str := ["row", "word", "letters", "found", "at", "turn"]
theorem sc_law_branched : FnScope n_law_branched ["row", "word", "letters"] (defScope s_law_branched) := ⟨rfl, rfl, rfl, by decide +kernel, rfl, by decide +kernel, by decide +kernel⟩
abbrev s_law_word : Stmt := topS 42
abbrev n_law_word : List Str := ["row", "letters", "most", "found", "turn"]
theorem sc_law_word : FnScope n_law_word ["row", "letters", "most"] (defScope s_law_word) := ⟨rfl, rfl, rfl, by decide +kernel, rfl, by decide +kernel, by decide +kernel⟩
abbrev s_law_book : Stmt := topS 43
abbrev n_law_book : List Str := ["row", "letters", "words", "k"]
theorem sc_law_book : FnScope n_law_book ["row"] (defScope s_law_book) := ⟨rfl, rfl, rfl, by decide +kernel, rfl, by decide +kernel, by decide +kernel⟩
abbrev s_law_kit : Stmt := topS 44
abbrev n_law_kit : List Str := ["row", "dragon", "square", "levy", "wide"]
theorem sc_law_kit : FnScope n_law_kit ["row"] (defScope s_law_kit) := ⟨rfl, rfl, rfl, by decide +kernel, rfl, by decide +kernel, by decide +kernel⟩
abbrev s_law_even_word : Stmt := topS 45
abbrev n_law_even_word : List Str := ["row", "letters", "move", "steps", "way", "found", "heading", "step", "many"]
theorem sc_law_even_word : FnScope n_law_even_word ["row", "letters", "move"] (defScope s_law_even_word) := ⟨rfl, rfl, rfl, by decide +kernel, rfl, by decide +kernel, by decide +kernel⟩
abbrev s_law_even_book : Stmt := topS 46
abbrev n_law_even_book : List Str := ["row", "letters", "move", "words", "start", "k"]
theorem sc_law_even_book : FnScope n_law_even_book ["row"] (defScope s_law_even_book) := ⟨rfl, rfl, rfl, by decide +kernel, rfl, by decide +kernel, by decide +kernel⟩
abbrev s_law_grown : Stmt := topS 47
abbrev n_law_grown : List Str := ["book", "age", "word", "turn", "found", "item"]
theorem sc_law_grown : FnScope n_law_grown ["book", "age"] (defScope s_law_grown) := ⟨rfl, rfl, rfl, by decide +kernel, rfl, by decide +kernel, by decide +kernel⟩
abbrev s_law_age : Stmt := topS 48
abbrev n_law_age : List Str := ["book", "most", "found", "item"]
theorem sc_law_age : FnScope n_law_age ["book", "most"] (defScope s_law_age) := ⟨rfl, rfl, rfl, by decide +kernel, rfl, by decide +kernel, by decide +kernel⟩
abbrev s_law_unit : Stmt := topS 49
abbrev n_law_unit : List Str := ["heading"]
theorem sc_law_unit : FnScope n_law_unit ["heading"] (defScope s_law_unit) := ⟨rfl, rfl, rfl, by decide +kernel, rfl, by decide +kernel, by decide +kernel⟩
abbrev s_law_drawn : Stmt := topS 50
abbrev n_law_drawn : List Str := ["word", "x", "y", "heading", "found", "stands", "item"]
theorem sc_law_drawn : FnScope n_law_drawn ["word"] (defScope s_law_drawn) := ⟨rfl, rfl, rfl, by decide +kernel, rfl, by decide +kernel, by decide +kernel⟩
abbrev s_law_alike : Stmt := topS 51
abbrev n_law_alike : List Str := ["found", "due", "k"]
theorem sc_law_alike : FnScope n_law_alike ["found", "due"] (defScope s_law_alike) := ⟨rfl, rfl, rfl, by decide +kernel, rfl, by decide +kernel, by decide +kernel⟩
abbrev s_law : Stmt := topS 52
abbrev n_law : List Str := ["script", "row", "book", "age", "word", "strokes", "end", "due", "seen", "k", "unit", "key", "many", "work", "error", "a"]
theorem sc_law : FnScope n_law ["script"] (defScope s_law) := ⟨rfl, rfl, rfl, by decide +kernel, rfl, by decide +kernel, by decide +kernel⟩
end SK
namespace SK
open PySem PySem.Spec PyProof.Rows L2
def spTaken (K : PySem.W.Frag) : Sp := fun vs H Q _ => ∃ (r : Addr) (S : Scr) (many : Nat), vs = [.ref r, .int many] ∧ RowOk K S H r ∧ 1 ≤ many ∧ (many < 1073741824 ∨ many.log2 < 9000) ∧
  ∀ (H' : Hp) (k : Nat), Drawn K S r H H' → k < many → Q (.int k) H'
theorem mod_nat (i : Int) (m : Nat) (h : 1 ≤ m) : ∃ k : Nat, i % (m : Int) = (k : Int) ∧ k < m := by
  have h1 : (0 : Int) < m := by omega
  have a := Int.emod_nonneg i (show (m : Int) ≠ 0 by omega)
  have b := Int.emod_lt_of_pos i h1
  exact ⟨(i % (m : Int)).toNat, by omega, by omega⟩
section
variable {P : Program} {w : World} {K : PySem.W.Frag} {mg : Str → Option Value} {base : Heap}
theorem ok_taken {f : Addr} {fd : FuncData} {k : Nat} (F : Fun K "_law_taken" "_law_taken" s_law_taken f fd) (mi : mg "int" = none) (ml : mg "len" = none) : FnOk P w K mg base CX0 (k + 1) f fd ["row", "many"] (spTaken K) := by
  refine F.ok sc_law_taken (fun vs H Q E h => ?_) (fun cdv A outer s H vs Q E hr h => ?_)
  · obtain ⟨r, S, many, rfl, _⟩ := h
    rfl
  · obtain ⟨r, ⟨a, ns⟩, many, rfl, ⟨i, st, c, h1, h2, h3, h4, h5⟩, hm1, hm2, q⟩ := h
    have nd := sc_law_taken.nd
    refine ⟨_, pss_cons (ps_if (pt_cmpR op_gt (pix (pv 0) pe_int) pe_int (nomark _))
        (pss_cons (ps_set (i := 2) nd rfl (.inl rfl) (pmod (pint mi (pix (pv 0) pe_int)) (pv 1)))
          (pss_cons (ps_asg (pe_op op_fdivW (pix (pv 0) pe_int) (pv 1)) (pg_sub (pv 0) pe_int set_list)) (pss_one (ps_ret (pv 2))))) pss_nil)
      (pss_cons (ps_asg (padd (pix (pv 0) pe_int) pe_int) (pg_sub (pv 0) pe_int set_list))
      (pss_cons (ps_if (pt_cmpR op_gt (pix (pv 0) pe_int) (plen ml (pix (pv 0) pe_int)) (nomark _))
        (pss_cons (ps_asg (pmod (pint mi (padd (pe_op op_mul (pix (pv 0) pe_int) pe_int) pe_int)) pe_int) (pg_sub (pv 0) pe_int set_list))
          (pss_one (ps_ret (pmod (pint mi (pe_op op_fdiv (pix (pv 0) pe_int) pe_int)) (pv 1))))) pss_nil)
      (pss_cons (ps_set (i := 3) nd rfl (.inl rfl) (pix (pix (pv 0) pe_int) (psub (pix (pv 0) pe_int) pe_int)))
      (pss_cons (ps_asg (pmod (pint mi (padd (padd (pe_op op_mul (pix (pv 0) pe_int) pe_int) (pv 3)) pe_int)) pe_int) (pg_sub (pv 0) pe_int set_list))
      (pss_cons (ps_if (pt_cmpR op_ge (pv 3) (pe_op op_pow pe_int pe_int) (nomark _))
        (pss_one (ps_asg (pe_op op_fdivW (pv 3) (pv 1)) (pg_sub (pv 0) pe_int set_list))) pss_nil)
      (pss_one (ps_ret (pmod (pint mi (pv 3)) (pv 1))))))))), ?_⟩
    change H r = some (.lst [.ref a, .int i, .int st, .int c]) at h1
    change SqL K H a (ns.map V.int) at h2
    change a ≠ r at h4
    change ns.length ≤ 63 at h5
    have m0 : (0 : Int) < many := by omega
    have hm9 : (many : Int).natAbs.log2 < 9000 := by
      rw [Int.natAbs_natCast]
      rcases hm2 with h | h
      · have := (Nat.log2_lt (n := many) (k := 30) (by omega)).mpr (by omega)
        omega
      · exact h
    have nl : ∀ (xs : List V) (ns : List Int), (V.ref a :: xs) ≠ ns.map V.int := fun xs ns e => by cases ns <;> cases e
    -- a row with other numbers
    have row : ∀ (i s c : Int), 0 ≤ i → RowOk K (a, ns) (upd H r (.lst [.ref a, .int i, .int s, .int c])) r := fun i s c h => by
      refine ⟨i, s, c, upd_same, ?_, h, h4, h5⟩
      rcases h2 with (h | ⟨o, h⟩) | h
      · exact .inl (.inl (by rw [upd_ne h4]; exact h))
      · exact .inl (.inr ⟨o, by rw [upd_ne h4]; exact h⟩)
      · exact .inr h
    have dr : ∀ (i s c : Int), 0 ≤ i → Drawn K (a, ns) r H (upd H r (.lst [.ref a, .int i, .int s, .int c])) := fun i s c h => ⟨SameX.refl.at, row i s c h⟩
    refine ⟨.ref r, rfl, r, _, _, _, rfl, rfl, SqL.of h1, at3, _, _, rfl, rfl, _, rfl, ite2 (fun e => ?_) (fun e => ?_)⟩
    · refine ⟨.ref r, rfl, r, _, _, _, rfl, rfl, SqL.of h1, at3, .inl ⟨_, rfl, _, rfl, _, _, rfl, rfl, m0, ?_⟩⟩
      refine ⟨.ref r, rfl, r, _, _, _, rfl, rfl, SqL.of h1, at3, _, rfl, _, _, rfl, rfl, ⟨m0, hm9⟩, .ref r, rfl, r, _, _, 3, rfl, rfl, h1, rfl, _, rfl, ?_⟩
      obtain ⟨k, e1, e2⟩ := mod_nat c many hm1
      show Q (V.int (c % (many : Int))) _
      rw [e1]
      exact q _ k (dr _ _ _ h3) e2
    · refine ⟨.ref r, rfl, r, _, _, _, rfl, rfl, SqL.of h1, at1, _, _, rfl, rfl, .ref r, rfl, r, _, _, 1, rfl, rfl, h1, rfl, ?_⟩
      have g1 : (upd H r (.lst [.ref a, .int (i + 1), .int st, .int c])) r = some (.lst [.ref a, .int (i + 1), .int st, .int c]) := upd_same
      have sa : ∀ (i s c : Int), SqL K (upd H r (.lst [.ref a, .int i, .int s, .int c])) a (ns.map V.int) := fun i s c => by
        rcases h2 with (h | ⟨o, h⟩) | h
        · exact .inl (.inl (by rw [upd_ne h4]; exact h))
        · exact .inl (.inr ⟨o, by rw [upd_ne h4]; exact h⟩)
        · exact .inr h
      refine ⟨.ref r, rfl, r, _, _, _, rfl, rfl, SqL.of g1, at1, .ref r, rfl, r, _, _, _, rfl, rfl, SqL.of g1, at0, a, _, rfl, .inl (sa _ _ _), _, _, rfl, rfl, _, rfl, ite2 (fun e => ?_) (fun e2 => ?_)⟩
      · refine ⟨.ref r, rfl, r, _, _, _, rfl, rfl, SqL.of g1, at2, _, _, rfl, rfl, .inr (by decide), _, _, rfl, rfl, .inl ⟨_, rfl, _, _, rfl, rfl, (show (0 : Int) < 2147483647 by decide), .ref r, rfl, r, _, _, 2, rfl, rfl, g1, rfl, ?_⟩⟩
        rw [upd_upd]
        refine ⟨.ref r, rfl, r, _, _, _, rfl, rfl, SqL.of upd_same, at2, _, _, rfl, rfl, ⟨by decide, by decide⟩, .inl ⟨_, rfl, _, rfl, _, _, rfl, rfl, m0, ?_⟩⟩
        obtain ⟨k, e1, e2⟩ := mod_nat ((st * 48271 + 11) % 2147483647 / 7) many hm1
        show Q (V.int ((st * 48271 + 11) % 2147483647 / 7 % (many : Int))) _
        rw [e1]
        exact q _ k (dr _ _ _ (by omega)) e2
      · have e3 : ¬ ((ns.length : Int) < i + 1) := by
          have e2' := e2
          simp only [List.length_map] at e2'
          exact fun z => e2' (decide_eq_true z)
        have hlt : i.toNat < ns.length := by omega
        have gi : atI (ns.map V.int) (i + 1 - 1) = some (.int ns[i.toNat]) := by
          have e4 : i + 1 - 1 = ((i.toNat : Nat) : Int) := by omega
          rw [e4]
          refine atI_nat ?_
          rw [List.getElem?_map, List.getElem?_eq_getElem hlt]
          rfl
        generalize ns[i.toNat] = cell at gi
        refine ⟨.ref r, rfl, r, _, _, _, rfl, rfl, SqL.of g1, at0, .ref r, rfl, r, _, _, _, rfl, rfl, SqL.of g1, at1, _, _, rfl, rfl, a, _, _, _, rfl, rfl, sa _ _ _, gi, ?_⟩
        refine ⟨.ref r, rfl, r, _, _, _, rfl, rfl, SqL.of g1, at2, _, _, rfl, rfl, .inr (by decide), _, rfl, _, _, rfl, rfl, _, _, rfl, rfl, .inl ⟨_, rfl, _, _, rfl, rfl, (show (0 : Int) < 2147483647 by decide), .ref r, rfl, r, _, _, 2, rfl, rfl, g1, rfl, ?_⟩⟩
        rw [upd_upd]
        refine ⟨_, rfl, _, _, rfl, rfl, ⟨by decide, by decide, by decide⟩, _, _, rfl, rfl, _, rfl, ite2 (fun e => ?_) (fun e => ?_)⟩
        · refine ⟨_, rfl, _, rfl, _, _, rfl, rfl, ⟨m0, hm9⟩, .ref r, rfl, r, _, _, 3, rfl, rfl, upd_same, rfl, ?_⟩
          rw [upd_upd]
          refine ⟨_, rfl, .inl ⟨_, rfl, _, rfl, _, _, rfl, rfl, m0, ?_⟩⟩
          obtain ⟨k, e1, e2⟩ := mod_nat cell many hm1
          show Q (V.int (cell % (many : Int))) _
          rw [e1]
          exact q _ k (dr _ _ _ (by omega)) e2
        · refine ⟨_, rfl, .inl ⟨_, rfl, _, rfl, _, _, rfl, rfl, m0, ?_⟩⟩
          obtain ⟨k, e1, e2⟩ := mod_nat cell many hm1
          show Q (V.int (cell % (many : Int))) _
          rw [e1]
          exact q _ k (dr _ _ _ (by omega)) e2
end
end SK
namespace SK
open PySem PySem.Spec PyProof.Rows L2
/-- a def that stands in the module under its name and keeps its promise, not raising -/
structure Got (P : Program) (w : World) (K : PySem.W.Frag) (mg : Str → Option Value) (base : Heap) (x : Str) (k : Nat) (ps : List Str) (sp : Sp) : Prop where
  ex : ∃ (f : Addr) (fd : FuncData), FnOk P w K mg base CX0 k f fd ps sp ∧ mg x = some (.ref f) ∧ PySem.W.keepIn K (.ref f) = true ∧ Binds K fd ps []
theorem Got.mono {P : Program} {w : World} {K : PySem.W.Frag} {mg : Str → Option Value} {base : Heap} {x : Str} {j k : Nat} {ps : List Str} {sp : Sp} (g : Got P w K mg base x j ps sp) (h : j ≤ k) : Got P w K mg base x k ps sp := by
  obtain ⟨f, fd, F, a, b, c⟩ := g.ex
  exact ⟨f, fd, F.mono h, a, b, c⟩
theorem pcall {X : Cx} {x : Str} {k : Nat} {ps : List Str} {sp : Sp} {e : Expr} {es : List Expr} {t : TA} {p pos : Pos} (G : Got X.prog X.w X.K X.mg X.base x k ps sp) (hr : Room k X.A) (ha : PA X (e :: es) t) (hg : Gl X x := by rfl)
    (hdb : (x == ("__debug__" : Str)) = false := by decide)
    (he : starEach (e :: es) X.env = (false, eval e X.env) :: starEach es X.env := by rfl) (hpl : (backTo pos (starEach es X.env)).any (·.1) = false := by rfl) : PE X (.Call (.Name x p) (e :: es) [] pos) (tCall sp [] E0 t) := by
  obtain ⟨f, fd, F, a, b, c⟩ := G.ex
  exact pe_call F hr hg a b c .nil pass0 ha hdb he hpl
def spPick (K : PySem.W.Frag) : Sp := fun vs H Q _ => ∃ (r q : Addr) (S : Scr) (xs : List V), vs = [.ref r, .ref q] ∧ RowOk K S H r ∧ q ≠ r ∧ H q = some (.lst xs) ∧ 1 ≤ xs.length ∧ xs.length < 1073741824 ∧
  ∀ (H' : Hp) (k : Nat) (v : V), Drawn K S r H H' → xs[k]? = some v → Q v H'
section
variable {P : Program} {w : World} {K : PySem.W.Frag} {mg : Str → Option Value} {base : Heap}
theorem ok_pick {f : Addr} {fd : FuncData} {k : Nat} (F : Fun K "_law_pick" "_law_pick" s_law_pick f fd) (G : Got P w K mg base "_law_taken" k ["row", "many"] (spTaken K)) (ml : mg "len" = none) : FnOk P w K mg base CX0 (k + 1) f fd ["row", "things"] (spPick K) := by
  refine F.ok sc_law_pick (fun vs H Q E h => ?_) (fun cdv A outer s H vs Q E hr h => ?_)
  · obtain ⟨r, q, S, xs, rfl, _⟩ := h
    rfl
  · obtain ⟨r, q, S, xs, rfl, hR, hq, hx, h1, h2, hQ⟩ := h
    refine ⟨_, pss_one (ps_ret (pix (pv 1) (pcall G hr (pa_cons (pv 0) (pa_cons (plen ml (pv 1)) pa_nil))))), ?_⟩
    refine ⟨_, rfl, _, rfl, .ref q, rfl, q, xs, rfl, .inl (SqL.of hx), r, S, xs.length, rfl, hR, h1, .inl h2, fun H' k D hk => ?_⟩
    have hx' := D.at hq hx
    exact ⟨q, xs, k, _, rfl, rfl, SqL.of hx', atI_nat (List.getElem?_eq_getElem hk), hQ H' k _ D (List.getElem?_eq_getElem hk)⟩
end
end SK
namespace SK
open PySem PySem.Spec PyProof.Rows L2
/-! ### signs and words -/
inductive Sy where
  | l (k : Nat) | p | m | o | c
  deriving DecidableEq
def Sy.v : Sy → V
  | .l k => .int k
  | .p => .str "+"
  | .m => .str "-"
  | .o => .str "["
  | .c => .str "]"
abbrev wv (w : List Sy) : List V := w.map Sy.v
/-- how deep one stands behind a piece, none where a branch is ended that isn't begun -/
def nest : List Sy → Nat → Option Nat
  | [], d => some d
  | .o :: w, d => nest w (d + 1)
  | .c :: w, d => match d with
    | 0 => none
    | d + 1 => nest w d
  | _ :: w, d => nest w d
def isL : Sy → Bool
  | .l _ => true
  | _ => false
def isB : Sy → Bool
  | .o => true
  | .c => true
  | _ => false
def nL (w : List Sy) : Nat := (w.filter isL).length
theorem nL_app (a b : List Sy) : nL (a ++ b) = nL a + nL b := by unfold nL; rw [List.filter_append, List.length_append]
structure Flat (n L : Nat) (w : List Sy) : Prop where
  flat : ∀ s ∈ w, isB s = false
  lets : ∀ k, Sy.l k ∈ w → k < n
  has : w.any isL = true
  len : w.length ≤ L
  slim : w.length + 6 ≤ 8 * nL w
structure Good (n L : Nat) (w : List Sy) : Prop where
  nst : nest w 0 = some 0
  lets : ∀ k, Sy.l k ∈ w → k < n
  has : w.any isL = true
  len : w.length ≤ L
  slim : w.length + 6 ≤ 8 * nL w
theorem nest_app : ∀ (a b : List Sy) (d : Nat), nest (a ++ b) d = (nest a d).bind (nest b)
  | [], b, d => rfl
  | .l k :: a, b, d => nest_app a b d
  | .p :: a, b, d => nest_app a b d
  | .m :: a, b, d => nest_app a b d
  | .o :: a, b, d => nest_app a b (d + 1)
  | .c :: a, b, 0 => rfl
  | .c :: a, b, d + 1 => nest_app a b d
theorem nest_flat : ∀ (a : List Sy) (d : Nat), (∀ s ∈ a, isB s = false) → nest a d = some d
  | [], d, _ => rfl
  | .l k :: a, d, h => nest_flat a d fun s hs => h s (List.mem_cons_of_mem _ hs)
  | .p :: a, d, h => nest_flat a d fun s hs => h s (List.mem_cons_of_mem _ hs)
  | .m :: a, d, h => nest_flat a d fun s hs => h s (List.mem_cons_of_mem _ hs)
  | .o :: a, d, h => by have := h .o List.mem_cons_self; cases this
  | .c :: a, d, h => by have := h .c List.mem_cons_self; cases this
theorem Flat.good {n L M : Nat} {w : List Sy} (f : Flat n L w) (h : L ≤ M) : Good n M w := ⟨nest_flat w 0 f.flat, f.lets, f.has, Nat.le_trans f.len h, f.slim⟩
theorem Good.mono {n L M : Nat} {w : List Sy} (f : Good n L w) (h : L ≤ M) : Good n M w := ⟨f.nst, f.lets, f.has, Nat.le_trans f.len h, f.slim⟩
theorem Flat.mono {n L M : Nat} {w : List Sy} (f : Flat n L w) (h : L ≤ M) : Flat n M w := ⟨f.flat, f.lets, f.has, Nat.le_trans f.len h, f.slim⟩
/-- a branch put in -/
theorem Flat.branch {n L : Nat} {w t : List Sy} {at' k : Nat} (f : Flat n L w) (ht : ∀ s ∈ t, isB s = false ∧ isL s = false) (hl : t.length ≤ 1) (hk : k < n) : Good n (L + 4) (w.take at' ++ [.o] ++ t ++ [.l k] ++ [.c] ++ w.drop at') := by
  have f1 : ∀ s ∈ w.take at', isB s = false := fun s hs => f.flat s (List.mem_of_mem_take hs)
  have f2 : ∀ s ∈ w.drop at', isB s = false := fun s hs => f.flat s (List.mem_of_mem_drop hs)
  refine ⟨?_, ?_, ?_, ?_, ?_⟩
  · rw [nest_app, nest_app, nest_app, nest_app, nest_app, nest_flat _ 0 f1]
    show ((((nest t 1).bind (nest [.l k])).bind (nest [.c])).bind (nest (w.drop at'))) = some 0
    rw [nest_flat t 1 fun s hs => (ht s hs).1]
    show nest (w.drop at') 0 = some 0
    exact nest_flat _ 0 f2
  · intro j hj
    simp only [List.mem_append, List.mem_singleton] at hj
    rcases hj with ((((h | h) | h) | h) | h) | h
    · exact f.lets j (List.mem_of_mem_take h)
    · cases h
    · have := (ht _ h).2; cases this
    · cases h; exact hk
    · cases h
    · exact f.lets j (List.mem_of_mem_drop h)
  · simp only [List.any_append, List.any_cons, isL, Bool.true_or, Bool.or_true]
  · have := f.len
    have e : (w.take at').length + (w.drop at').length = w.length := by rw [← List.length_append, List.take_append_drop]
    simp only [List.length_append, List.length_singleton]
    omega
  · have := f.slim
    have e : (w.take at').length + (w.drop at').length = w.length := by rw [← List.length_append, List.take_append_drop]
    have e2 : nL (w.take at') + nL (w.drop at') = nL w := by rw [← nL_app, List.take_append_drop]
    have e3 : nL [Sy.l k] = 1 := rfl
    simp only [List.length_append, List.length_singleton, nL_app]
    omega
theorem cut_to (xs : List V) (k : Nat) : cutV xs none (some (k : Int)) = xs.take k := by
  unfold cutV
  rw [HT.sIx_none, show HT.sIx xs.length xs.length (some ((k : Nat) : Int)) = min k xs.length from HT.sIx_nat xs.length xs.length k, List.drop_zero, Nat.sub_zero]
  by_cases h : k ≤ xs.length
  · rw [Nat.min_eq_left h]
  · rw [Nat.min_eq_right (by omega), List.take_of_length_le (Nat.le_refl _), List.take_of_length_le (by omega)]
theorem cut_from (xs : List V) (k : Nat) : cutV xs (some (k : Int)) none = xs.drop k := by
  unfold cutV
  rw [HT.sIx_none, show HT.sIx xs.length 0 (some ((k : Nat) : Int)) = min k xs.length from HT.sIx_nat xs.length 0 k]
  by_cases h : k ≤ xs.length
  · rw [Nat.min_eq_left h]
    exact List.take_of_length_le (by rw [List.length_drop]; exact Nat.le_refl _)
  · rw [Nat.min_eq_right (by omega), Nat.sub_self, List.take_zero, List.drop_eq_nil_of_le (by omega)]
/-! ### words in the heap: frozen tuples without a dict -/
def WdAt (H : Hp) (a : Addr) (w : List Sy) : Prop := ∃ o : Obj, H a = some (.frz o (.tup (wv w))) ∧ o.dict = none ∧ o.slots = #[]
def NewT (xs : List V) (H : Hp) (Q : VK) : Prop := ∀ (H' : Hp) (p : Addr) (o : Obj), Same H H' → H p = none → H' p = some (.frz o (.tup xs)) → (o.dict = none ∧ o.slots = #[]) → Q (.ref p) H'
def NewW (w : List Sy) (H : Hp) (Q : VK) : Prop := ∀ (H' : Hp) (p : Addr), Same H H' → H p = none → WdAt H' p w → Q (.ref p) H'
theorem NewW.of {w : List Sy} {xs : List V} {H : Hp} {Q : VK} (h : NewW w H Q) (e : xs = wv w) : NewT xs H Q := fun H' p o s n e' d => h H' p s n ⟨o, by rw [← e]; exact e', d⟩
section
variable {K : PySem.W.Frag} {S : Scr} {H H' : Hp} {a r : Addr} {w : List Sy}
theorem WdAt.same (h : WdAt H a w) (s : Same H H') : WdAt H' a w := let ⟨o, e, d⟩ := h; ⟨o, s _ _ e, d⟩
theorem WdAt.sq (h : WdAt H a w) : SqT K H a (wv w) := let ⟨o, e, _⟩ := h; .inl (.inr ⟨o, e⟩)
theorem WdAt.ne (h : WdAt H a w) (hr : RowOk K S H r) : a ≠ r := by
  obtain ⟨o, e, _⟩ := h
  obtain ⟨_, _, _, h1, _⟩ := hr
  exact ne_of e h1 (by intro z; cases z)
theorem Drawn.wd (d : Drawn K S r H H') (hr : RowOk K S H r) (h : WdAt H a w) : WdAt H' a w := by
  have n := h.ne hr
  obtain ⟨o, e, hd⟩ := h
  exact ⟨o, d.at n e, hd⟩
end
def rTupF (K : PySem.W.Frag) : List V → Hp → VK → Prop := fun xs H Q => ∃ p ys, xs = [.ref p] ∧ SqL K H p ys ∧ NewT ys H Q
def tTupF (t : TA) : TE := fun σ H Q => t σ H fun xs H1 => xs.length ≤ sizeLine ∧ NewT xs H1 Q
section
variable {X : Cx}
theorem cr_tupF : CallR X (.type "tuple") (rTupF X.K) := by
  rintro pins s σ H xs us Q I r ⟨p, ys, rfl, hq, q⟩
  obtain ⟨u, rfl, rx⟩ := vals1 r
  cases rx
  obtain ⟨its, rv, pl, hz⟩ := I.list hq
  have hlen := rv.length
  refine call_tuple_list pl.isList (fun h1 kp => ?_) (by simp only [List.size_toArray]; omega)
  have I1 : Inv X pins σ H { s with heap := h1 } := I.kept (t' := s.toks) kp
  have fr := I1.hok.fresh (Nat.le_refl _)
  let ob : Obj := { cls := .type "tuple", data := .seq its.toArray }
  have at1 : (h1.push ob).get? h1.objs.size = some ob := Heap.get?_push_size _ rfl
  have I2 : Inv X pins σ (upd H h1.objs.size (.frz ob (.tup ys))) { s with heap := h1.push ob } := I1.laid (t' := s.toks) (fun b o e => Heap.get?_push_of_some _ e) (Nat.le_refl _) ⟨at1, hz, its, rv, ob, at1, rfl, _, rfl⟩
  exact ⟨.ref h1.objs.size, _, I2, rfl, q _ _ ob (same_upd fr) fr upd_same ⟨rfl, rfl⟩⟩
theorem ptupF {x1 : Nat} {es : List Expr} {t : TA} {pos : Pos} (h : PA X es t) : PE X (.Tuple es x1 pos) (tTupF t) := by
  refine ⟨fun pins s σ H Q I hq => wpAny_Tuple_spliced (thn (h.run pos pins s σ H _ I hq) fun us s1 ⟨xs, H1, I1, r, z, q⟩ => ⟨by rw [← r.length]; exact z, ?_⟩)⟩
  have fr := I1.hok.fresh (Nat.le_refl _)
  let ob : Obj := { cls := .type "tuple", data := .seq us.toArray }
  have at1 : (s1.heap.push ob).get? s1.heap.objs.size = some ob := Heap.get?_push_size _ rfl
  exact ⟨.ref _, upd H1 _ (.frz ob (.tup xs)), I1.laid (t' := s1.toks) (fun b u e => Heap.get?_push_of_some _ e) (Nat.le_refl _) ⟨at1, z, us, r, ob, at1, rfl, _, rfl⟩, rfl, q _ _ ob (same_upd fr) fr upd_same ⟨rfl, rfl⟩⟩
theorem ptupleF {e : Expr} {te : TE} {p pos : Pos} (m : X.mg "tuple" = none) (h : PE X e te) (hg : Gl X "tuple" := by rfl) (hs1 : starEach [e] X.env = (false, eval e X.env) :: starEach [] X.env := by rfl) (hp1 : (backTo pos (starEach [] X.env)).any (·.1) = false := by rfl) :
    PE X (.Call (.Name "tuple" p) [e] [] pos) (tCB (rTupF X.K) (tCons te tNil)) := pe_callTy cr_tupF hg m (by decide +kernel) (pa_cons h pa_nil hs1) (by decide) (by decide) hs1 hp1
end
end SK
namespace SK
open PySem PySem.Spec PyProof.Rows L2
/-- w with a branch put in, or w itself -/
def Br (w w' : List Sy) : Prop := w' = w ∨ ∃ (i : Nat) (ts : List Sy) (k : Nat), (∀ s ∈ ts, isB s = false ∧ isL s = false) ∧ w' = w.take i ++ [.o] ++ ts ++ [.l k] ++ [.c] ++ w.drop i
def spBranched (K : PySem.W.Frag) : Sp := fun vs H Q _ => ∃ (r t : Addr) (S : Scr) (n L : Nat) (w : List Sy), vs = [.ref r, .ref t, .int n] ∧ RowOk K S H r ∧ WdAt H t w ∧ Flat n L w ∧ L ≤ 36 ∧ 1 ≤ n ∧ n ≤ 8 ∧
  ∀ (H' : Hp) (p : Addr) (w' : List Sy), Drawn K S r H H' → WdAt H' p w' → Good n (L + 4) w' → Br w w' → Q (.ref p) H'
section
variable {P : Program} {w : World} {K : PySem.W.Frag} {mg : Str → Option Value} {base : Heap}
theorem ok_branched {f : Addr} {fd : FuncData} {k : Nat} (F : Fun K "_law_branched" "_law_branched" s_law_branched f fd) (GT : Got P w K mg base "_law_taken" k ["row", "many"] (spTaken K)) (GP : Got P w K mg base "_law_pick" k ["row", "things"] (spPick K))
    (ml : mg "len" = none) (mL : mg "list" = none) (mT : mg "tuple" = none) : FnOk P w K mg base CX0 (k + 1) f fd ["row", "word", "letters"] (spBranched K) := by
  refine F.ok sc_law_branched (fun vs H Q E h => ?_) (fun cdv A outer s H vs Q E hr h => ?_)
  · obtain ⟨r, t, S, n, L, w, rfl, _⟩ := h
    rfl
  · obtain ⟨r, t, S, n, L, w, rfl, hR, ht, hw, hL, hn1, hn2, q⟩ := h
    have nd := sc_law_branched.nd
    refine ⟨_, pss_cons (ps_set (i := 3) nd rfl (.inl rfl) (pe_callTy call_list_of (by rfl) mL (by decide +kernel) (pa_cons (pv 1) pa_nil)))
      (pss_cons (ps_if (pt_cmpR op_eq (pcall GT hr (pa_cons (pv 0) (pa_cons pe_int pa_nil))) pe_int (nomark _))
        (pss_cons (ps_par rfl nd (i := 4) (j := 5) rfl rfl (by decide) rfl rfl
            (pa_cons (pcall GT hr (pa_cons (pv 0) (pa_cons (padd (plen ml (pv 3)) pe_int) pa_nil)))
              (pa_cons (pcall GP hr (pa_cons (pv 0) (pa_cons (pe_lst (pa_cons (pe_lst (pa_cons pe_str pa_nil)) (pa_cons (pe_lst (pa_cons pe_str pa_nil)) (pa_cons (pe_lst pa_nil) pa_nil)))) pa_nil))) pa_nil)) (by rfl))
          (pss_one (ps_set (i := 3) nd rfl (.inl rfl) (pcat (pcat (pcat (pcat (pcat (pe_slice sl_list (pv 3) po_none (po_some (pv 4))) (pe_lst (pa_cons pe_str pa_nil))) (pv 5))
            (pe_lst (pa_cons (pcall GT hr (pa_cons (pv 0) (pa_cons (pv 2) pa_nil))) pa_nil))) (pe_lst (pa_cons pe_str pa_nil))) (pe_slice sl_list (pv 3) (po_some (pv 4)) po_none))))) pss_nil)
      (pss_one (ps_ret (ptupleF mT (pv 3))))), ?_⟩
    have lw := hw.len
    refine ⟨.ref t, rfl, t, _, rfl, .inr ht.sq, fun fo nfo => ?_⟩
    have D1 : Drawn K S r H (upd H fo (.lst (wv w))) := (Drawn.refl hR).new nfo
    have hfo : (upd H fo (.lst (wv w))) fo = some (.lst (wv w)) := upd_same
    have nfr : fo ≠ r := hR.there nfo
    generalize upd H fo (.lst (wv w)) = H1 at D1 hfo
    refine ⟨_, rfl, r, S, 3, rfl, D1.row, by decide, by decide, fun H2 k1 D2 _ => ?_⟩
    have hfo2 := D2.at nfr hfo
    refine ⟨rfl, _, rfl, ite2 (fun _ => ?_) (fun _ => ?_)⟩
    · refine ⟨_, rfl, _, rfl, fo, _, rfl, .inl (SqL.of hfo2), _, _, rfl, rfl, r, S, w.length + 1, ?_, D2.row, by omega, by omega, fun H3 at' D3 hat => ?_⟩
      · show [V.ref r, V.int (((wv w).length : Int) + 1)] = [V.ref r, V.int ((w.length + 1 : Nat) : Int)]
        rw [List.length_map]; rfl
      have hfo3 := D3.at nfr hfo2
      refine ⟨_, rfl, szl 1, fun l1 n1 => ⟨szl 1, fun l2 n2 => ⟨szl 0, fun l3 n3 => ⟨szl 3, fun l4 n4 => ?_⟩⟩⟩⟩
      have n12 : l1 ≠ l2 := (ne_of_none upd_same n2)
      have n13 : l1 ≠ l3 := ne_of_none (o := .lst [.str "+"]) (by rw [upd_ne n12, upd_same]) n3
      have n23 : l2 ≠ l3 := ne_of_none upd_same n3
      have e1 : (upd (upd (upd H3 l1 (.lst [.str "+"])) l2 (.lst [.str "-"])) l3 (.lst [])) l1 = some (.lst [.str "+"]) := by rw [upd_ne n13, upd_ne n12, upd_same]
      have e2 : (upd (upd (upd H3 l1 (.lst [.str "+"])) l2 (.lst [.str "-"])) l3 (.lst [])) l2 = some (.lst [.str "-"]) := by rw [upd_ne n23, upd_same]
      have e3 : (upd (upd (upd H3 l1 (.lst [.str "+"])) l2 (.lst [.str "-"])) l3 (.lst [])) l3 = some (.lst []) := upd_same
      have D3' : Drawn K S r H3 (upd (upd (upd H3 l1 (.lst [.str "+"])) l2 (.lst [.str "-"])) l3 (.lst [])) := (((Drawn.refl D3.row).new n1).new n2).new n3
      have nr1 : l1 ≠ r := D3.row.there n1
      have nr2 : l2 ≠ r := ((Drawn.refl D3.row).new n1).row.there n2
      have nr3 : l3 ≠ r := (((Drawn.refl D3.row).new n1).new n2).row.there n3
      generalize (upd (upd (upd H3 l1 (.lst [.str "+"])) l2 (.lst [.str "-"])) l3 (.lst [])) = H4 at e1 e2 e3 D3' n4
      have D5 := D3'.new (o := .lst [.ref l1, .ref l2, .ref l3]) n4
      have nr4 : l4 ≠ r := D3'.row.there n4
      have s5 : Same H4 (upd H4 l4 (.lst [.ref l1, .ref l2, .ref l3])) := same_upd n4
      refine ⟨r, l4, S, _, rfl, D5.row, nr4, upd_same, (show 1 ≤ 3 by decide), (show 3 < 1073741824 by decide), fun H6 kk v D6 hk => ?_⟩
      -- turn
      obtain ⟨tl, ts, rfl, nrt, htl, hts, hlen⟩ : ∃ (tl : Addr) (ts : List Sy), v = .ref tl ∧ tl ≠ r ∧ H6 tl = some (.lst (wv ts)) ∧ (∀ s ∈ ts, isB s = false ∧ isL s = false) ∧ ts.length ≤ 1 := by
        match kk, hk with
        | 0, hk => cases hk; exact ⟨l1, [.p], rfl, nr1, D6.at nr1 (s5 _ _ e1), by decide, Nat.le_refl _⟩
        | 1, hk => cases hk; exact ⟨l2, [.m], rfl, nr2, D6.at nr2 (s5 _ _ e2), by decide, Nat.le_refl _⟩
        | 2, hk => cases hk; exact ⟨l3, [], rfl, nr3, D6.at nr3 (s5 _ _ e3), by decide, Nat.zero_le _⟩
        | j + 3, hk => simp at hk
      have hfo6 := D6.at nfr (s5 _ _ (D3'.at nfr hfo3))
      have D06 : Drawn K S r H H6 := (((D1.trans D2).trans D3).trans D5).trans D6
      refine ⟨_, _, rfl, ?_⟩
      -- found[:at]
      refine ⟨_, rfl, _, rfl, _, rfl, fo, _, rfl, SqL.of hfo6, fun p1 m1 => ?_⟩
      rw [cut_to]
      have s6 : Same H6 (upd H6 p1 (.lst ((wv w).take at'))) := same_upd m1
      have hp1 : (upd H6 p1 (.lst ((wv w).take at'))) p1 = some (.lst ((wv w).take at')) := upd_same
      generalize upd H6 p1 (.lst ((wv w).take at')) = H7 at s6 hp1
      -- + ["["]
      refine ⟨szl 1, fun p2 m2 => ?_⟩
      have s7 := same_upd (o := .lst [.str "["]) m2
      refine ⟨p1, p2, _, _, rfl, rfl, s7 _ _ hp1, upd_same, ?_, fun p3 m3 => ?_⟩
      · simp only [List.length_take, List.length_map, List.length_cons, List.length_nil]
        exact szl _ (by omega)
      have s8 := s7.trans (same_upd (o := .lst ((wv w).take at' ++ [.str "["])) m3)
      -- + turn
      refine ⟨_, rfl, p3, tl, _, _, rfl, rfl, upd_same, s8 _ _ (s6 _ _ htl), ?_, fun p4 m4 => ?_⟩
      · simp only [List.length_append, List.length_take, List.length_map, List.length_cons, List.length_nil]
        exact szl _ (by omega)
      have s9 := s8.trans (same_upd (o := .lst ((wv w).take at' ++ [.str "["] ++ wv ts)) m4)
      have hp4 : (upd (upd (upd H7 p2 (.lst [.str "["])) p3 (.lst ((wv w).take at' ++ [.str "["]))) p4 (.lst ((wv w).take at' ++ [.str "["] ++ wv ts))) p4 = some (.lst ((wv w).take at' ++ [.str "["] ++ wv ts)) := upd_same
      generalize (upd (upd (upd H7 p2 (.lst [.str "["])) p3 (.lst ((wv w).take at' ++ [.str "["]))) p4 (.lst ((wv w).take at' ++ [.str "["] ++ wv ts))) = H8 at s9 hp4
      have D8 : Drawn K S r H H8 := ⟨D06.same.trans (.of (s6.trans s9)), D06.row.same (s6.trans s9)⟩
      have nr4' : p4 ≠ r := by
        intro e
        subst e
        obtain ⟨_, _, _, h1, _⟩ := D06.row
        have hh := (s6.trans (s8)) _ _ h1
        rw [m4] at hh; cases hh
      -- + [_law_taken(row, letters)]
      refine ⟨_, rfl, _, rfl, r, S, n, rfl, D8.row, hn1, by omega, fun H9 lk D9 hlk => ?_⟩
      refine ⟨szl 1, fun p5 m5 => ?_⟩
      have s10 := same_upd (o := .lst [.int lk]) m5
      refine ⟨p4, p5, _, _, rfl, rfl, s10 _ _ (D9.at nr4' hp4), upd_same, ?_, fun p6 m6 => ?_⟩
      · simp only [List.length_append, List.length_take, List.length_map, List.length_cons, List.length_nil]
        exact szl _ (by omega)
      have s11 := s10.trans (same_upd (o := .lst ((wv w).take at' ++ [.str "["] ++ wv ts ++ [.int lk])) m6)
      have hp6 : (upd (upd H9 p5 (.lst [.int lk])) p6 (.lst ((wv w).take at' ++ [.str "["] ++ wv ts ++ [.int lk]))) p6 = some (.lst ((wv w).take at' ++ [.str "["] ++ wv ts ++ [.int lk])) := upd_same
      generalize (upd (upd H9 p5 (.lst [.int lk])) p6 (.lst ((wv w).take at' ++ [.str "["] ++ wv ts ++ [.int lk]))) = H10 at s11 hp6
      -- + ["]"]
      refine ⟨szl 1, fun p7 m7 => ?_⟩
      have s12 := same_upd (o := .lst [.str "]"]) m7
      refine ⟨p6, p7, _, _, rfl, rfl, s12 _ _ hp6, upd_same, ?_, fun p8 m8 => ?_⟩
      · simp only [List.length_append, List.length_take, List.length_map, List.length_cons, List.length_nil]
        exact szl _ (by omega)
      have s13 := s12.trans (same_upd (o := .lst ((wv w).take at' ++ [.str "["] ++ wv ts ++ [.int lk] ++ [.str "]"])) m8)
      have hp8 : (upd (upd H10 p7 (.lst [.str "]"])) p8 (.lst ((wv w).take at' ++ [.str "["] ++ wv ts ++ [.int lk] ++ [.str "]"]))) p8 = some (.lst ((wv w).take at' ++ [.str "["] ++ wv ts ++ [.int lk] ++ [.str "]"])) := upd_same
      generalize (upd (upd H10 p7 (.lst [.str "]"])) p8 (.lst ((wv w).take at' ++ [.str "["] ++ wv ts ++ [.int lk] ++ [.str "]"]))) = H11 at s13 hp8
      -- + found[at:]
      have hfo11 := s13 _ _ (s11 _ _ (D9.at nfr (s9 _ _ (s6 _ _ hfo6))))
      refine ⟨_, rfl, _, rfl, _, rfl, fo, _, rfl, SqL.of hfo11, fun p9 m9 => ?_⟩
      rw [cut_from]
      have s14 := same_upd (o := .lst ((wv w).drop at')) m9
      refine ⟨p8, p9, _, _, rfl, rfl, s14 _ _ hp8, upd_same, ?_, fun p10 m10 => ?_⟩
      · simp only [List.length_append, List.length_take, List.length_drop, List.length_map, List.length_cons, List.length_nil]
        exact szl _ (by omega)
      -- tuple(found)
      refine ⟨.ref p10, rfl, p10, _, rfl, SqL.of upd_same, NewW.of (fun H12 p11 S12 m11 h12 => ?_) (w := w.take at' ++ [.o] ++ ts ++ [.l lk] ++ [.c] ++ w.drop at') ?_⟩
      · have s15 := (s11.trans s13).trans ((s14.trans (same_upd m10)).trans S12)
        exact q _ p11 _ ⟨((D8.trans D9).same).trans (.of s15), D9.row.same s15⟩ h12 (hw.branch hts hlen hlk) (.inr ⟨at', ts, lk, hts, rfl⟩)
      · simp only [wv, List.map_append, List.map_take, List.map_drop, List.map_cons, List.map_nil, Sy.v]
    · exact ⟨_, rfl, fo, _, rfl, SqL.of hfo2, NewW.of (fun H3 p S3 np hp => q _ p w ((D1.trans D2).then S3) hp (hw.good (by omega)) (.inl rfl)) rfl⟩
end
end SK
namespace SK
open PySem PySem.Spec PyProof.Rows L2
/-! ### books -/
def Words (H : Hp) (as : List Addr) (ws : List (List Sy)) : Prop := Paired (fun a w => WdAt H a w) as ws
def BookAt (H : Hp) (b : Addr) (ws : List (List Sy)) (st : List Sy) : Prop := ∃ (p q : Addr) (as : List Addr), H b = some (.tup [.ref p, .ref q]) ∧ H p = some (.tup (as.map V.ref)) ∧ WdAt H q st ∧ Words H as ws
structure GoodBook (ws : List (List Sy)) (st : List Sy) : Prop where
  one : 1 ≤ ws.length
  few : ws.length ≤ 3
  words : ∀ w ∈ ws, Good ws.length 40 w
  start : Good ws.length 40 st
/-- tuples stay -/
def TupS (H H' : Hp) : Prop := (∀ b xs, H b = some (.tup xs) → H' b = some (.tup xs)) ∧ ∀ b o u, H b = some (.frz o u) → H' b = some (.frz o u)
theorem TupS.refl {H : Hp} : TupS H H := ⟨fun _ _ h => h, fun _ _ _ h => h⟩
theorem TupS.trans {H H1 H2 : Hp} (a : TupS H H1) (b : TupS H1 H2) : TupS H H2 := ⟨fun c xs h => b.1 c xs (a.1 c xs h), fun c o u h => b.2 c o u (a.2 c o u h)⟩
theorem TupS.of {H H' : Hp} (s : Same H H') : TupS H H' := ⟨fun b xs h => s b _ h, fun b o u h => s b _ h⟩
theorem TupS.lst {H H1 : Hp} {p : Addr} {xs : List V} {o : HO} (s : TupS H H1) (h : H1 p = some (.lst xs)) : TupS H (upd H1 p o) := by
  refine ⟨fun b ys e => ?_, fun b ob u e => ?_⟩
  · rw [upd_ne (ne_of (s.1 b ys e) h (by intro z; cases z))]
    exact s.1 b ys e
  · rw [upd_ne (ne_of (s.2 b ob u e) h (by intro z; cases z))]
    exact s.2 b ob u e
theorem TupS.new {H H1 : Hp} {p : Addr} {o : HO} (s : TupS H H1) (h : H1 p = none) : TupS H (upd H1 p o) := s.trans (.of (same_upd h))
theorem TupS.wd {H H' : Hp} {a : Addr} {w : List Sy} (s : TupS H H') (h : WdAt H a w) : WdAt H' a w := let ⟨o, e, d⟩ := h; ⟨o, s.2 _ _ _ e, d⟩
theorem Drawn.tups {K : PySem.W.Frag} {S : Scr} {H H' : Hp} {r : Addr} (a : Drawn K S r H H') (hr : RowOk K S H r) : TupS H H' := ⟨fun b xs h => a.tup hr h, fun b o u h => a.at (by obtain ⟨_, _, _, h1, _⟩ := hr; exact ne_of h h1 (by intro z; cases z)) h⟩
theorem Words.keep {H H' : Hp} {as : List Addr} {ws : List (List Sy)} (s : TupS H H') (h : Words H as ws) : Words H' as ws := Paired.mono (fun a w e => s.wd e) h
theorem BookAt.keep {H H' : Hp} {b : Addr} {ws : List (List Sy)} {st : List Sy} (s : TupS H H') (h : BookAt H b ws st) : BookAt H' b ws st := by
  obtain ⟨p, q, as, h1, h2, h3, h4⟩ := h
  exact ⟨p, q, as, s.1 _ _ h1, s.1 _ _ h2, s.wd h3, h4.keep s⟩
def spBook (K : PySem.W.Frag) : Sp := fun vs H Q _ => ∃ (r : Addr) (S : Scr), vs = [.ref r] ∧ RowOk K S H r ∧
  ∀ (H' : Hp) (p : Addr) (ws : List (List Sy)) (st : List Sy), Drawn K S r H H' → BookAt H' p ws st → GoodBook ws st → Q (.ref p) H'
end SK
namespace SK
open PySem PySem.Spec PyProof.Rows L2
def spWord (K : PySem.W.Frag) : Sp := fun vs H Q _ => ∃ (r : Addr) (S : Scr) (n : Nat), vs = [.ref r, .int n, .int 3] ∧ RowOk K S H r ∧ 1 ≤ n ∧ n ≤ 8 ∧
  ∀ (H' : Hp) (p : Addr) (w' : List Sy), Drawn K S r H H' → WdAt H' p w' → Flat n 6 w' → Q (.ref p) H'
theorem flat_rot {n L : Nat} {w : List Sy} (f : Flat n L w) : Flat n L (w.drop 1 ++ w.take 1) := by
  refine ⟨fun s hs => f.flat s ?_, fun k hk => f.lets k ?_, ?_, ?_, ?_⟩
  · rcases List.mem_append.mp hs with h | h
    · exact List.mem_of_mem_drop h
    · exact List.mem_of_mem_take h
  · rcases List.mem_append.mp hk with h | h
    · exact List.mem_of_mem_drop h
    · exact List.mem_of_mem_take h
  · have := f.has
    rw [← List.take_append_drop 1 w, List.any_append, Bool.or_comm] at this
    rw [List.any_append]
    exact this
  · have := f.len
    have e : (w.take 1).length + (w.drop 1).length = w.length := by rw [← List.length_append, List.take_append_drop]
    rw [List.length_append]
    omega
  · have := f.slim
    have e : (w.take 1).length + (w.drop 1).length = w.length := by rw [← List.length_append, List.take_append_drop]
    have e2 : nL (w.take 1) + nL (w.drop 1) = nL w := by rw [← nL_app, List.take_append_drop]
    rw [List.length_append, nL_app]
    omega
section
variable {P : Program} {w : World} {K : PySem.W.Frag} {mg : Str → Option Value} {base : Heap}
theorem ok_word {f : Addr} {fd : FuncData} {k : Nat} (F : Fun K "_law_word" "_law_word" s_law_word f fd) (GT : Got P w K mg base "_law_taken" k ["row", "many"] (spTaken K)) (GP : Got P w K mg base "_law_pick" k ["row", "things"] (spPick K))
    (mR : mg "range" = none) (mT : mg "tuple" = none) : FnOk P w K mg base CX0 (k + 1) f fd ["row", "letters", "most"] (spWord K) := by
  refine F.ok sc_law_word (fun vs H Q E h => ?_) (fun cdv A outer s H vs Q E hr h => ?_)
  · obtain ⟨r, S, n, rfl, _⟩ := h
    rfl
  · obtain ⟨r, S, n, rfl, hR, hn1, hn2, q⟩ := h
    have nd := sc_law_word.nd
    refine ⟨_, pss_cons (ps_set (i := 3) nd rfl (.inl rfl) (pe_lst pa_nil))
      (pss_cons (ps_for PassesOwn.never rfl (pi_range1 rfl mR (pa_cons (padd pe_int (pcall GT hr (pa_cons (pv 0) (pa_cons (pv 2) pa_nil)))) pa_nil)) (pg_name (i := 4) nd rfl (.inl rfl))
        (pss_cons (sapp (pv 3) (pcall GT hr (pa_cons (pv 0) (pa_cons (pv 1) pa_nil))))
          (pss_one (ps_if (pt_cmpR op_eq (pcall GT hr (pa_cons (pv 0) (pa_cons pe_int pa_nil))) pe_int (nomark _))
            (pss_one (sapp (pv 3) (pcall GP hr (pa_cons (pv 0) (pa_cons (pe_lst (pa_cons pe_str (pa_cons pe_str pa_nil))) pa_nil))))) pss_nil))))
      (pss_one (ps_ret (pe_ifExp (pt_cmpR op_eq (pcall GT hr (pa_cons (pv 0) (pa_cons pe_int pa_nil))) pe_int (nomark _))
        (ptupleF mT (pcat (pe_slice sl_list (pv 3) (po_some pe_int) po_none) (pe_slice sl_list (pv 3) po_none (po_some pe_int))))
        (ptupleF mT (pv 3)))))), ?_⟩
    refine ⟨szl 0, fun fo nfo => ?_⟩
    have D1 : Drawn K S r H (upd H fo (.lst [])) := (Drawn.refl hR).new nfo
    have hfo : (upd H fo (.lst [])) fo = some (.lst []) := upd_same
    have nfr : fo ≠ r := hR.there nfo
    generalize upd H fo (.lst []) = H1 at D1 hfo
    refine ⟨_, rfl, _, rfl, r, S, 3, rfl, D1.row, by decide, by decide, fun H2 kk D2 hkk => ?_⟩
    have hfo2 := D2.at nfr hfo
    have D02 := D1.trans D2
    refine ⟨1, _, rfl, rfl, ((1 + kk : Nat) : Int), ?_, by omega, by omega, ?_⟩
    · show [V.int (1 + (kk : Int))] = [V.int ((1 + kk : Nat) : Int)]
      congr 2
    rw [Int.toNat_natCast]
    refine for_range (lo := 0) (n := 1 + kk) (fun i σ H' => ∃ (ws : List Sy) (y : Option V), σ = [some (.ref r), some (.int n), some (.int 3), some (.ref fo), y] ∧ Drawn K S r H H' ∧ H' fo = some (.lst (wv ws)) ∧
        (∀ s ∈ ws, isB s = false) ∧ (∀ k, Sy.l k ∈ ws → k < n) ∧ (1 ≤ i → ws.any isL = true) ∧ ws.length ≤ 2 * i ∧ nL ws = i)
      ⟨[], _, rfl, D02, hfo2, by decide, (fun k h => nomatch h), (fun h => by omega), Nat.zero_le _, rfl⟩ ?_ ?_
    · rintro i σ H' hi ⟨ws, y, rfl, D, hf, h1, h2, h3, h4, h5⟩
      refine ⟨_, rfl, .inl ⟨rfl, _, SqL.of hf⟩, _, rfl, _, rfl, r, S, n, rfl, D.row, hn1, by omega, fun H3 lk D3 hlk => ?_⟩
      have hf3 := D3.at nfr hf
      refine ⟨fo, _, _, rfl, rfl, hf3, ?_, ?_⟩
      · rw [List.length_map]; exact Nat.lt_of_le_of_lt (show ws.length ≤ 1000 by omega) (by decide)
      have D4 : Drawn K S r H (upd H3 fo (.lst (wv ws ++ [.int lk]))) := (D.trans D3).put hR nfo
      have hf4 : (upd H3 fo (.lst (wv ws ++ [.int lk]))) fo = some (.lst (wv (ws ++ [.l lk]))) := by rw [upd_same, wv, wv, List.map_append]; rfl
      generalize (upd H3 fo (.lst (wv ws ++ [.int lk]))) = H4 at D4 hf4
      have f1 : ∀ s ∈ ws ++ [Sy.l lk], isB s = false := fun s hs => by
        rcases List.mem_append.mp hs with h | h
        · exact h1 s h
        · rw [List.mem_singleton.mp h]; rfl
      have f2 : ∀ k, Sy.l k ∈ ws ++ [Sy.l lk] → k < n := fun k hs => by
        rcases List.mem_append.mp hs with h | h
        · exact h2 k h
        · cases List.mem_singleton.mp h; exact hlk
      have f3 : (ws ++ [Sy.l lk]).any isL = true := by simp [isL]
      have f4 : (ws ++ [Sy.l lk]).length ≤ 2 * i + 1 := by rw [List.length_append, List.length_singleton]; omega
      have f5 : nL (ws ++ [Sy.l lk]) = i + 1 := by rw [nL_app, h5]; rfl
      generalize ws ++ [Sy.l lk] = ws' at hf4 f1 f2 f3 f4 f5
      refine ⟨_, rfl, r, S, 2, rfl, D4.row, by decide, by decide, fun H5 k5 D5 _ => ?_⟩
      have hf5 := D5.at nfr hf4
      refine ⟨rfl, _, rfl, ite2 (fun _ => ?_) (fun _ => ?_)⟩
      · refine ⟨_, rfl, .inl ⟨rfl, _, SqL.of hf5⟩, _, rfl, szl 2, fun l1 n1 => ?_⟩
        have D6 := D5.new (o := .lst [.str "+", .str "-"]) n1
        have nl1 := D5.row.there n1
        refine ⟨r, l1, S, _, rfl, D6.row, nl1, upd_same, (show 1 ≤ 2 by decide), (show 2 < 1073741824 by decide), fun H7 k7 v D7 hk => ?_⟩
        have hf7 := D7.at nfr (same_upd (o := .lst [.str "+", .str "-"]) n1 _ _ hf5)
        obtain ⟨sy, rfl, b1, b2⟩ : ∃ sy : Sy, v = sy.v ∧ isB sy = false ∧ isL sy = false := by
          match k7, hk with
          | 0, hk => cases hk; exact ⟨.p, rfl, rfl, rfl⟩
          | 1, hk => cases hk; exact ⟨.m, rfl, rfl, rfl⟩
          | j + 2, hk => simp at hk
        refine ⟨fo, _, _, rfl, rfl, hf7, ?_, ?_⟩
        · rw [List.length_map]; exact Nat.lt_of_le_of_lt (show ws'.length ≤ 1000 by omega) (by decide)
        refine ⟨ws' ++ [sy], _, rfl, ((D4.trans D6).trans D7).put hR nfo, ?_, ?_, ?_, ?_, ?_, ?_⟩
        · rw [upd_same, wv, wv, List.map_append]; rfl
        · intro s hs
          rcases List.mem_append.mp hs with h | h
          · exact f1 s h
          · rw [List.mem_singleton.mp h]; exact b1
        · intro k hs
          rcases List.mem_append.mp hs with h | h
          · exact f2 k h
          · rw [← List.mem_singleton.mp h] at b2; cases b2
        · intro _; rw [List.any_append, f3]; rfl
        · rw [List.length_append, List.length_singleton]; omega
        · rw [nL_app, f5]; simp [nL, b2]
      · exact ⟨ws', _, rfl, D4.trans D5, hf5, f1, f2, fun _ => f3, by omega, f5⟩
    · rintro σ H' ⟨ws, y, rfl, D, hf, h1, h2, h3, h4, h5⟩
      have fl : Flat n 6 ws := ⟨h1, h2, h3 (by omega), by omega, by omega⟩
      refine ⟨_, rfl, r, S, 3, rfl, D.row, by decide, by decide, fun H5 k5 D5 _ => ?_⟩
      have hf5 := D5.at nfr hf
      refine ⟨rfl, _, rfl, ite2 (fun _ => ?_) (fun _ => ?_)⟩
      · refine ⟨_, rfl, ((1 : Nat) : Int), rfl, fo, _, rfl, SqL.of hf5, fun p1 m1 => ?_⟩
        rw [cut_from]
        refine ⟨_, rfl, ((1 : Nat) : Int), rfl, fo, _, rfl, SqL.of (same_upd m1 _ _ hf5), fun p2 m2 => ?_⟩
        rw [cut_to]
        have s2 := (same_upd (o := .lst ((wv ws).drop 1)) m1).trans (same_upd (o := .lst ((wv ws).take 1)) m2)
        refine ⟨p1, p2, _, _, rfl, rfl, same_upd m2 _ _ upd_same, upd_same, ?_, fun p3 m3 => ?_⟩
        · simp only [List.length_take, List.length_drop, List.length_map]
          exact szl _ (by omega)
        refine ⟨p3, _, rfl, SqL.of upd_same, NewW.of (fun H4 p4 S4 m4 h4 => q _ p4 (ws.drop 1 ++ ws.take 1) ((D.trans D5).then ((s2.trans (same_upd m3)).trans S4)) h4 (flat_rot fl)) ?_⟩
        simp only [wv, List.map_append, List.map_take, List.map_drop]
      · exact ⟨_, rfl, fo, _, rfl, SqL.of hf5, NewW.of (fun H4 p4 S4 m4 h4 => q _ p4 ws ((D.trans D5).then S4) h4 fl) rfl⟩
end
end SK
namespace SK
open PySem PySem.Spec PyProof.Rows L2
section
variable {P : Program} {w : World} {K : PySem.W.Frag} {mg : Str → Option Value} {base : Heap}
theorem ok_book {f : Addr} {fd : FuncData} {k : Nat} (F : Fun K "_law_book" "_law_book" s_law_book f fd) (GT : Got P w K mg base "_law_taken" k ["row", "many"] (spTaken K))
    (GW : Got P w K mg base "_law_word" k ["row", "letters", "most"] (spWord K)) (GB : Got P w K mg base "_law_branched" k ["row", "word", "letters"] (spBranched K))
    (mR : mg "range" = none) (mT : mg "tuple" = none) : FnOk P w K mg base CX0 (k + 1) f fd ["row"] (spBook K) := by
  refine F.ok sc_law_book (fun vs H Q E h => ?_) (fun cdv A outer s H vs Q E hr h => ?_)
  · obtain ⟨r, S, rfl, _⟩ := h
    rfl
  · obtain ⟨r, S, rfl, hR, q⟩ := h
    have nd := sc_law_book.nd
    refine ⟨_, pss_cons (ps_set (i := 1) nd rfl (.inr rfl) (padd pe_int (pcall GT hr (pa_cons (pv 0) (pa_cons pe_int pa_nil)))))
      (pss_cons (ps_set (i := 2) nd rfl (.inl rfl) (pe_callTy call_tuple_of (by rfl) mT (by decide +kernel) (pa_cons
          (pe_lc (own := [("k", 3)]) (g := gName 3) (tt := tYes) rfl nd (pi_range1 rfl mR (pa_cons (pv 1) pa_nil)) (blkOk_by (N := n_law_book) (sc := defScope s_law_book) (by decide +kernel))
            (fun _ _ _ _ _ => pg_name (i := 3) nd rfl (Or.inl rfl)) (fun _ _ _ _ _ => pts_nil)
            (fun _ _ _ _ _ => pcall GB hr (pa_cons (pv 0) (pa_cons (pcall GW hr (pa_cons (pv 0) (pa_cons (pv 1) (pa_cons pe_int pa_nil)))) (pa_cons (pv 1) pa_nil)))))
          pa_nil)))
      (pss_one (ps_ret (pe_tup (pa_cons (pv 2) (pa_cons (pcall GB hr (pa_cons (pv 0) (pa_cons (pcall GW hr (pa_cons (pv 0) (pa_cons (pv 1) (pa_cons pe_int pa_nil)))) (pa_cons (pv 1) pa_nil)))) pa_nil)))))), ?_⟩
    refine ⟨_, rfl, r, S, 3, rfl, hR, by decide, by decide, fun H1 k1 D1 hk1 => ?_⟩
    refine ⟨1, _, rfl, rfl, ?_⟩
    have en : (V.int (1 + (k1 : Int))) = V.int ((1 + k1 : Nat) : Int) := by congr 1
    dsimp only; rw [en]
    have hn1 : 1 ≤ 1 + k1 := by omega
    have hn2 : 1 + k1 ≤ 8 := by omega
    have hn3 : 1 + k1 ≤ 3 := by omega
    generalize 1 + k1 = n at hn1 hn2 hn3
    refine ⟨_, rfl, (n : Int), rfl, by omega, by omega, fun D nD => ?_⟩
    rw [Int.toNat_natCast]
    have nDr := D1.row.there nD
    refine lc_range (lo := 0) (n := n) (fun i H' => ∃ (as : List Addr) (ws : List (List Sy)), Drawn K S r H1 H' ∧ H' D = some (.lst (as.map V.ref)) ∧ Words H' as ws ∧ ws.length = i ∧ ∀ w ∈ ws, Good n 40 w)
      ⟨[], [], D1.row |> fun h => (Drawn.refl h).new nD, upd_same, .nil, rfl, fun w h => nomatch h⟩ ?_ ?_
    · rintro i H' hi ⟨as, ws, D2, hD, hw, hl, hg⟩
      refine ⟨rfl, _, rfl, _, rfl, _, rfl, r, S, n, rfl, D2.row, hn1, hn2, fun H3 t w3 D3 ht hw3 => ?_⟩
      refine ⟨_, rfl, r, t, S, n, 6, w3, rfl, D3.row, ht, hw3, by decide, hn1, hn2, fun H4 p w4 D4 hp hw4 _ => ?_⟩
      have D34 := D3.trans D4
      refine ⟨_, D34.at nDr hD, ?_, as ++ [p], ws ++ [w4], (D2.trans D34).put D1.row nD, ?_, ?_, ?_, ?_⟩
      · have := hw.length
        rw [List.length_map]; exact Nat.lt_of_le_of_lt (show as.length ≤ 1000 by omega) (by decide)
      · rw [upd_same, List.map_append]; rfl
      · have s : TupS H4 (upd H4 D (.lst (as.map V.ref ++ [V.ref p]))) := TupS.refl.lst (D34.at nDr hD)
        exact Paired.snoc ((hw.keep (D34.tups D2.row)).keep s) (s.wd hp)
      · rw [List.length_append, List.length_singleton, hl]
      · intro w hw
        rcases List.mem_append.mp hw with h | h
        · exact hg w h
        · rw [List.mem_singleton.mp h]; exact hw4.mono (by decide)
    · rintro H' ⟨as, ws, D2, hD, hw, hl, hg⟩
      refine ⟨D, _, rfl, .inl ⟨SqL.of hD, fun p np => ?_⟩⟩
      have D3 := D2.new (o := .tup (as.map V.ref)) np
      have hw3 : Words (upd H' p (.tup (as.map V.ref))) as ws := hw.keep (TupS.refl.new np)
      have hp3 : (upd H' p (.tup (as.map V.ref))) p = some (.tup (as.map V.ref)) := upd_same
      generalize upd H' p (.tup (as.map V.ref)) = H3 at D3 hw3 hp3
      refine ⟨_, rfl, _, rfl, _, rfl, _, rfl, r, S, n, rfl, D3.row, hn1, hn2, fun H4 t w4 D4 ht hw4 => ?_⟩
      refine ⟨_, rfl, r, t, S, n, 6, w4, rfl, D4.row, ht, hw4, by decide, hn1, hn2, fun H5 b w5 D5 hb hw5 _ => ?_⟩
      refine ⟨szl 2, fun p6 n6 => ?_⟩
      have D35 := D4.trans D5
      have t35 := D35.tups D3.row
      have s6 : Same H5 (upd H5 p6 (.tup [.ref p, .ref b])) := same_upd n6
      subst hl
      exact q _ p6 ws w5 (((D1.trans D3).trans D35).then s6) ⟨p, b, as, upd_same, s6 _ _ (t35.1 _ _ hp3), hb.same s6, hw3.keep (t35.trans (.of s6))⟩ ⟨hn1, hn3, hg, hw5.mono (by decide)⟩
end
end SK
namespace SK
open PySem PySem.Spec PyProof.Rows L2
/-! ### new things, the heap behind them a letter -/
def New (o : HO) (H : Hp) (Q : VK) : Prop := ∀ (H' : Hp) (p : Addr), Same H H' → H p = none → H' p = some o → Q (.ref p) H'
theorem New.ok {o : HO} {H : Hp} {Q : VK} (h : New o H Q) (p : Addr) (n : H p = none) : Q (.ref p) (upd H p o) := h _ p (same_upd n) n upd_same
def rCatN : R2 := fun x y H Q => ∃ l b xs zs, x = .ref l ∧ y = .ref b ∧ H l = some (.lst xs) ∧ H b = some (.lst zs) ∧ xs.length + zs.length ≤ sizeLine ∧ New (.lst (xs ++ zs)) H Q
def rRepN : R2 := fun x y H Q => ∃ l k xs, x = .ref l ∧ y = .int k ∧ H l = some (.lst xs) ∧ -(2 ^ 63) ≤ k ∧ k < 2 ^ 63 ∧ xs.length * k.toNat ≤ sizeLine ∧ New (.lst (List.replicate k.toNat xs).flatten) H Q
def tTupN (t : TA) : TE := fun σ H Q => t σ H fun xs H1 => xs.length ≤ sizeLine ∧ New (.tup xs) H1 Q
def tLstN (t : TA) : TE := fun σ H Q => t σ H fun xs H1 => xs.length ≤ sizeLine ∧ New (.lst xs) H1 Q
def rListN (K : PySem.W.Frag) : List V → Hp → VK → Prop := fun xs H Q => ∃ p ys, xs = [.ref p] ∧ (SqL K H p ys ∨ SqT K H p ys) ∧ New (.lst ys) H Q
def rTupleN (K : PySem.W.Frag) : List V → Hp → VK → Prop := fun xs H Q => ∃ p ys, xs = [.ref p] ∧ SqL K H p ys ∧ New (.tup ys) H Q
section
variable {X : Cx} {a b e : Expr} {ta tb te : TE} {pos p : Pos} {es : List Expr} {t : TA}
theorem pcatN (ha : PE X a ta) (hb : PE X b tb) : PE X (.BinOp a .Add b pos) (tOp rCatN ta tb) :=
  pe_op (fun pins s σ H x y v u Q I rx ry ⟨l, b, xs, zs, h1, h2, h3, h4, h5, h6⟩ => op_cat pins s σ H x y v u Q I rx ry ⟨l, b, xs, zs, h1, h2, h3, h4, h5, h6.ok⟩) ha hb
theorem prepN (ha : PE X a ta) (hb : PE X b tb) : PE X (.BinOp a .Mult b pos) (tOp rRepN ta tb) :=
  pe_op (fun pins s σ H x y v u Q I rx ry ⟨l, b, xs, h1, h2, h3, h4, h5, h6, h7⟩ => op_rep pins s σ H x y v u Q I rx ry ⟨l, b, xs, h1, h2, h3, h4, h5, h6, h7.ok⟩) ha hb
/-- whatever is wanted more of the arguments' end -/
def upA (t : TA) : TA := fun σ H R => ∃ R' : List V → Hp → Prop, t σ H R' ∧ ∀ xs H1, R' xs H1 → R xs H1
theorem pa_up (h : PA X es t) : PA X es (upA t) := ⟨fun pos pins s σ H R I ⟨R', h1, h2⟩ => thn (h.run pos pins s σ H R' I h1) fun us s1 ⟨xs, H1, I1, r, q⟩ => ⟨xs, H1, I1, r, h2 xs H1 q⟩⟩
theorem ptupN {x1 : Nat} (h : PA X es t) : PE X (.Tuple es x1 pos) (tTupN t) :=
  ⟨fun pins s σ H Q I hq => (pe_tup (pa_up h)).run pins s σ H Q I ⟨_, hq, fun xs H1 ⟨z, q⟩ => ⟨z, q.ok⟩⟩⟩
theorem plstN (h : PA X es t) : PE X (.List es pos) (tLstN t) :=
  ⟨fun pins s σ H Q I hq => (pe_lst (pa_up h)).run pins s σ H Q I ⟨_, hq, fun xs H1 ⟨z, q⟩ => ⟨z, q.ok⟩⟩⟩
theorem plistN (m : X.mg "list" = none) (h : PE X e te) (hg : Gl X "list" := by rfl) (hs1 : starEach [e] X.env = (false, eval e X.env) :: starEach [] X.env := by rfl) (hp1 : (backTo pos (starEach [] X.env)).any (·.1) = false := by rfl) :
    PE X (.Call (.Name "list" p) [e] [] pos) (tCB (rListN X.K) (tCons te tNil)) :=
  pe_callTy (fun pins s σ H xs us Q I r ⟨p, ys, h1, h2, h3⟩ => call_list_of pins s σ H xs us Q I r ⟨p, ys, h1, h2, h3.ok⟩) hg m (by decide +kernel) (pa_cons h pa_nil hs1) (by decide) (by decide) hs1 hp1
theorem ptupleN (m : X.mg "tuple" = none) (h : PE X e te) (hg : Gl X "tuple" := by rfl) (hs1 : starEach [e] X.env = (false, eval e X.env) :: starEach [] X.env := by rfl) (hp1 : (backTo pos (starEach [] X.env)).any (·.1) = false := by rfl) :
    PE X (.Call (.Name "tuple" p) [e] [] pos) (tCB (rTupleN X.K) (tCons te tNil)) :=
  pe_callTy (fun pins s σ H xs us Q I r ⟨p, ys, h1, h2, h3⟩ => call_tuple_of pins s σ H xs us Q I r ⟨p, ys, h1, .inl ⟨h2, h3.ok⟩⟩) hg m (by decide +kernel) (pa_cons h pa_nil hs1) (by decide) (by decide) hs1 hp1
end
def rSlLN (K : PySem.W.Frag) : V → Option Int → Option Int → Hp → VK → Prop := fun x lo hi H Q => ∃ a xs, x = .ref a ∧ SqL K H a xs ∧ New (.lst (cutV xs lo hi)) H Q
theorem sl_listN {X : Cx} : SlR X (rSlLN X.K) := fun pins s σ H x v vl vu lo hi sl Q I rx hs pl pu ⟨a, xs, h1, h2, h3⟩ => sl_list pins s σ H x v vl vu lo hi sl Q I rx hs pl pu ⟨a, xs, h1, h2, h3.ok⟩
/-- a written word -/
def tWd (w : List Sy) : TE := fun _ H Q => NewW w H Q
def IsWd (X : Cx) (es : List Expr) (w : List Sy) : Prop := PA X es fun _ H Q => Q (wv w) H
section
variable {X : Cx}
theorem wd_nil : IsWd X [] [] := pa_nil
theorem wd_l {es : List Expr} {w : List Sy} {j : Nat} {k : Nat} {pos : Pos} (h : IsWd X es w) (hs : starEach (.Constant (.int (k : Int)) j pos :: es) X.env = (false, eval (.Constant (.int (k : Int)) j pos) X.env) :: starEach es X.env := by rfl) :
    IsWd X (.Constant (.int (k : Int)) j pos :: es) (.l k :: w) := pa_cons pe_int h hs
theorem wd_s {es : List Expr} {w : List Sy} {z : Str} {sy : Sy} {j : Nat} {pos : Pos} (e : sy.v = .str z) (h : IsWd X es w) (hs : starEach (.Constant (.str z) j pos :: es) X.env = (false, eval (.Constant (.str z) j pos) X.env) :: starEach es X.env := by rfl) :
    IsWd X (.Constant (.str z) j pos :: es) (sy :: w) := by
  have h' : PA X es fun _ H Q => Q (wv w) H := h
  have := pa_cons (pe_str (x := z) (j := j) (pos := pos)) h' hs
  show PA X _ fun _ H Q => Q (sy.v :: wv w) H
  rw [e]
  exact this
theorem pwd {es : List Expr} {w : List Sy} {x1 : Nat} {pos : Pos} (h : IsWd X es w) (hl : w.length ≤ 100) : PE X (.Tuple es x1 pos) (tWd w) :=
  ⟨fun pins s σ H Q I hq => (ptupF h).run pins s σ H Q I ⟨by rw [List.length_map]; exact szl _ (by omega), NewW.of hq rfl⟩⟩
end
/-! ### a reading put in another's place -/
theorem pimp {X : Cx} {e : Expr} {t : TE} (t' : TE) (h : PE X e t) (f : ∀ σ H Q, t' σ H Q → t σ H Q) : PE X e t' := ⟨fun pins s σ H Q I q => h.run pins s σ H Q I (f σ H Q q)⟩
theorem psimp {X : Cx} {st : Stmt} {t : TS} (t' : TS) (h : PS X st t) (f : ∀ D σ H, t' D σ H → t D σ H) : PS X st t' := ⟨fun pins s σ H D I q => h.run pins s σ H D I (f D σ H q)⟩
/-! ### good words by decision -/
def goodC (n L : Nat) (w : List Sy) : Bool := decide (nest w 0 = some 0) && w.all (fun s => match s with | .l k => decide (k < n) | _ => true) && w.any isL && decide (w.length ≤ L) && decide (w.length + 6 ≤ 8 * nL w)
theorem good_dec {n L : Nat} {w : List Sy} (h : goodC n L w = true) : Good n L w := by
  unfold goodC at h
  simp only [Bool.and_eq_true, decide_eq_true_eq, List.all_eq_true] at h
  obtain ⟨⟨⟨⟨h1, h2⟩, h3⟩, h4⟩, h5⟩ := h
  exact ⟨h1, fun k hk => by simpa using h2 _ hk, h3, h4, h5⟩
theorem words_dec {n L : Nat} {ws : List (List Sy)} (h : ws.all (goodC n L) = true) : ∀ w ∈ ws, Good n L w := fun w hw => good_dec (List.all_eq_true.mp h w hw)
end SK
namespace SK
open PySem PySem.Spec PyProof.Rows L2
theorem dp_ints {K : PySem.W.Frag} {H : Hp} : ∀ ss : List Int, DpAll K H (ss.map V.int) (ss.map PyData.int)
  | [] => .nil
  | i :: ss => .cons (.int i) (dp_ints ss)
theorem lay_ints : ∀ ss : List Int, PyData.canLayAll0 (ss.map PyData.int) = true
  | [] => by simp [PyData.canLayAll0]
  | i :: ss => by simp only [List.map_cons, PyData.canLayAll0, PyData.canLay0, Bool.true_and]; exact lay_ints ss
theorem depth_ints : ∀ ss : List Int, PyData.depthAll (ss.map PyData.int) = 0
  | [] => by simp [PyData.depthAll]
  | i :: ss => by simp only [List.map_cons, PyData.depthAll, PyData.depth]; rw [depth_ints ss]; rfl
theorem shaped_ints (ss : List Int) : SeqAt.shaped (.list (ss.map PyData.int)) = true := by
  simp only [SeqAt.shaped, PyData.canLay0, PyData.depth, lay_ints, depth_ints, Bool.true_and]
  decide
theorem eqv_nil (ss : List Int) : PyData.eqv (.list (ss.map PyData.int)) (.list []) = ss.isEmpty := by
  cases ss <;> simp [PyData.eqv, PyData.eqvAll]
/-- xs != [] of whole numbers -/
def rNeNil (K : PySem.W.Frag) : R2 := fun x y H Q => ∃ (a b : Addr) (ss : List Int), x = .ref a ∧ y = .ref b ∧ SqL K H a (ss.map V.int) ∧ H b = some (.lst []) ∧ Q (.bl (!ss.isEmpty)) H
theorem op_neNil {X : Cx} (hu : X.A.units + 64 < cLine) : OpR X (compareOp .NotEq) (rNeNil X.K) := by
  intro pins s σ H x y v u Q I rx ry h
  obtain ⟨a, b, ss, rfl, rfl, h1, h2, q⟩ := h
  refine op_neD hu pins s σ H _ _ v u Q I rx ry ⟨.list (ss.map PyData.int), .list [], .lst h1 (dp_ints ss), .lst (SqL.of h2) .nil, shaped_ints ss, shaped_ints [], ?_⟩
  rw [eqv_nil]
  exact q
/-- where a flat word's path goes -/
def dirE (h : Int) : Int × Int := if h = 0 then (1, 0) else if h = 1 then (0, 1) else if h = 2 then (-1, 0) else (0, -1)
def wstepE (p : Int × Int × Int) : Sy → Int × Int × Int
  | .p => (p.1, p.2.1, (p.2.2 + 1) % 4)
  | .m => (p.1, p.2.1, (p.2.2 + 3) % 4)
  | .l _ => (p.1 + (dirE p.2.2).1, p.2.1 + (dirE p.2.2).2, p.2.2)
  | _ => p
/-- the sum of some steps -/
def sumD : List Int → Int × Int
  | [] => (0, 0)
  | x :: l => ((dirE x).1 + (sumD l).1, (dirE x).2 + (sumD l).2)
theorem sumD_app : ∀ a b : List Int, sumD (a ++ b) = ((sumD a).1 + (sumD b).1, (sumD a).2 + (sumD b).2)
  | [], b => by show sumD b = (0 + _, 0 + _); rw [Int.zero_add, Int.zero_add]
  | x :: a, b => by
    show ((dirE x).1 + (sumD (a ++ b)).1, (dirE x).2 + (sumD (a ++ b)).2) = ((dirE x).1 + (sumD a).1 + (sumD b).1, (dirE x).2 + (sumD a).2 + (sumD b).2)
    rw [sumD_app a b, Int.add_assoc, Int.add_assoc]
theorem sumD_rep (j : Int) : ∀ n : Nat, sumD (List.replicate n j) = ((n : Int) * (dirE j).1, (n : Int) * (dirE j).2)
  | 0 => by show (0, 0) = _; rw [Int.natCast_zero, Int.zero_mul, Int.zero_mul]
  | n + 1 => by
    show ((dirE j).1 + (sumD (List.replicate n j)).1, (dirE j).2 + (sumD (List.replicate n j)).2) = _
    rw [sumD_rep j n, Int.natCast_succ, Int.add_mul, Int.add_mul, Int.one_mul, Int.one_mul, Int.add_comm, Int.add_comm (dirE j).2]
theorem sumD_erase : ∀ {l : List Int} {i : Nat} {x : Int}, l[i]? = some x → sumD l = ((dirE x).1 + (sumD (l.eraseIdx i)).1, (dirE x).2 + (sumD (l.eraseIdx i)).2)
  | y :: l, 0, x, h => by cases h; rfl
  | y :: l, i + 1, x, h => by
    have e := sumD_erase (l := l) (i := i) h
    show ((dirE y).1 + (sumD l).1, (dirE y).2 + (sumD l).2) = ((dirE x).1 + ((dirE y).1 + (sumD (l.eraseIdx i)).1), (dirE x).2 + ((dirE y).2 + (sumD (l.eraseIdx i)).2))
    rw [e]
    refine Prod.ext ?_ ?_ <;> dsimp only <;> omega
def In4 (ss : List Int) : Prop := ∀ x ∈ ss, 0 ≤ x ∧ x < 4
theorem dir_back {x : Int} (h : 0 ≤ x ∧ x < 4) : sumD [x, (x + 2) % 4] = (0, 0) := by
  have e : x = 0 ∨ x = 1 ∨ x = 2 ∨ x = 3 := by omega
  rcases e with rfl | rfl | rfl | rfl <;> rfl
/-- turns that come to m -/
def TurnsBy (tt : List Sy) (m : Int) : Prop := ∀ p : Int × Int × Int, 0 ≤ p.2.2 ∧ p.2.2 < 4 → tt.foldl wstepE p = (p.1, p.2.1, (p.2.2 + m) % 4)
theorem turn_m : TurnsBy [.m] 3 := fun p _ => rfl
theorem turn_rep : ∀ n : Nat, TurnsBy (List.replicate n .p) n
  | 0 => fun p h => by
    show p = (p.1, p.2.1, (p.2.2 + ((0 : Nat) : Int)) % 4)
    refine Prod.ext rfl (Prod.ext rfl ?_)
    show p.2.2 = (p.2.2 + ((0 : Nat) : Int)) % 4
    omega
  | n + 1 => fun p h => by
    show (List.replicate n Sy.p).foldl wstepE (p.1, p.2.1, (p.2.2 + 1) % 4) = _
    rw [turn_rep n _ ⟨Int.emod_nonneg _ (by decide), Int.emod_lt_of_pos _ (by decide)⟩]
    refine Prod.ext rfl (Prod.ext rfl ?_)
    show ((p.2.2 + 1) % 4 + (n : Int)) % 4 = (p.2.2 + ((n + 1 : Nat) : Int)) % 4
    omega
def spEvenWord (K : PySem.W.Frag) : Sp := fun vs H Q _ => ∃ (r t : Addr) (S : Scr) (n : Nat) (u v : Int), vs = [.ref r, .int n, .ref t] ∧ RowOk K S H r ∧ H t = some (.tup [.int u, .int v]) ∧ u.natAbs + v.natAbs ≤ 3 ∧ 2 ≤ u.natAbs + v.natAbs ∧ 1 ≤ n ∧ n ≤ 8 ∧
  ∀ (H' : Hp) (p : Addr) (w' : List Sy), Drawn K S r H H' → WdAt H' p w' → Flat n 17 w' → w'.foldl wstepE (0, 0, 0) = (u, v, 0) → Q (.ref p) H'
theorem rep_ints (n : Nat) (i : Int) : (List.replicate n [V.int i]).flatten = (List.replicate n i).map V.int := by
  induction n with
  | zero => rfl
  | succ n ih => rw [List.replicate_succ, List.flatten_cons, ih]; rfl
theorem rep_sy (n : Nat) (s : Sy) : (List.replicate n [s.v]).flatten = wv (List.replicate n s) := by
  induction n with
  | zero => rfl
  | succ n ih => rw [List.replicate_succ, List.flatten_cons, ih]; rfl
theorem abs_if (i : Int) : (if i < 0 then -i else i) = (i.natAbs : Int) := by split <;> omega
/-- the turns ahead of a stroke -/
theorem turns_of {t : List Sy} (h : t = [.m] ∨ ∃ j, t = List.replicate j .p) : (∀ s ∈ t, isB s = false ∧ isL s = false) := by
  rcases h with rfl | ⟨j, rfl⟩
  · decide
  · intro s hs
    rw [List.eq_of_mem_replicate hs]
    exact ⟨rfl, rfl⟩
section
variable {X : Cx}
theorem pabs {e : Expr} {te : TE} {p pos : Pos} (m : X.mg "abs" = none) (h : PE X e te) (hg : Gl X "abs" := by rfl) (hs1 : starEach [e] X.env = (false, eval e X.env) :: starEach [] X.env := by rfl) (hp1 : (backTo pos (starEach [] X.env)).any (·.1) = false := by rfl) :
    PE X (.Call (.Name "abs" p) [e] [] pos) (tCB (fun xs H Q => ∃ i : Int, xs = [.int i] ∧ Q (.int (i.natAbs : Int)) H) (tCons te tNil)) := by
  refine pe_callB (fun pins s σ H xs us Q I r ⟨i, h1, q⟩ => call_abs pins s σ H xs us Q I r ⟨i, h1, ?_⟩) hg m (by decide +kernel) (pa_cons h pa_nil hs1) (by decide) (by decide) hs1 hp1
  rw [abs_if]
  exact q
end
section
variable {P : Program} {w : World} {K : PySem.W.Frag} {mg : Str → Option Value} {base : Heap}
theorem erase_map {α β : Type} (f : α → β) : ∀ (l : List α) (i : Nat), (l.map f).eraseIdx i = (l.eraseIdx i).map f
  | [], _ => rfl
  | _ :: _, 0 => rfl
  | x :: l, i + 1 => by
    show f x :: (l.map f).eraseIdx i = f x :: (l.eraseIdx i).map f
    rw [erase_map f l i]
def tHalf (t : Addr) (u v i jp jm : Int) : TE := fun σ H Q => σ[2]? = some (some (.ref t)) ∧ H t = some (.tup [.int u, .int v]) ∧ ∀ (H2 : Hp) (p : Addr) (j : Int), Same H H2 → H p = none → H2 p = some (.lst ((List.replicate i.natAbs j).map V.int)) → (0 < i ∧ j = jp ∨ i ≤ 0 ∧ j = jm) → Q (.ref p) H2
theorem half (H1 : Hp) (i j1 : Int) (Q' : VK) (hi : i.natAbs ≤ 3) (hq : ∀ (H2 : Hp) (p : Addr), Same H1 H2 → H1 p = none → H2 p = some (.lst ((List.replicate i.natAbs j1).map V.int)) → Q' (.ref p) H2)
    (Ha : Hp) (a : Addr) (sa : Same H1 Ha) (ha : Ha a = some (.lst [.int j1])) : rRepN (.ref a) (.int (i.natAbs : Int)) Ha Q' := by
  refine ⟨a, _, _, rfl, rfl, ha, by omega, by omega, szl _ (by rw [Int.toNat_natCast]; show 1 * i.natAbs ≤ 16777216; omega), fun H2 p s2 n2 h2 => ?_⟩
  rw [Int.toNat_natCast, rep_ints] at h2
  exact hq H2 p (sa.trans s2) (sa.free n2) h2
/-- the turns ahead of a stroke -/
def tTurns : TE := fun σ H Q => ∃ m : Int, σ[8]? = some (some (.int m)) ∧ 0 ≤ m ∧ m < 4 ∧ ∀ (H2 : Hp) (p : Addr) (tt : List Sy), Same H H2 → H p = none → H2 p = some (.lst (wv tt)) → (∀ s ∈ tt, isB s = false ∧ isL s = false) → tt.length ≤ 2 → TurnsBy tt m → Q (.ref p) H2
/-- the two steps more, there and back -/
def tMore (K : PySem.W.Frag) (n : Nat) : TS := fun D σ H => ∃ (r t sa : Addr) (S : Scr) (ss : List Int) (y4 y5 y6 y7 y8 : Option V), σ = [some (.ref r), some (.int n), some (.ref t), some (.ref sa), y4, y5, y6, y7, y8] ∧ RowOk K S H r ∧ sa ≠ r ∧ H sa = some (.lst (ss.map V.int)) ∧ ss.length ≤ 3 ∧ In4 ss ∧
  ∀ (H' : Hp) (sa' : Addr) (ss' : List Int) (y4 : Option V), Drawn K S r H H' → (sa' = sa ∨ H sa' = none) → H' sa' = some (.lst (ss'.map V.int)) → ss.length ≤ ss'.length → ss'.length ≤ ss.length + 2 → In4 ss' → sumD ss' = sumD ss → D.nx [some (.ref r), some (.int n), some (.ref t), some (.ref sa'), y4, y5, y6, y7, y8] H'
theorem m4 (i : Int) : 0 ≤ i % 4 ∧ i % 4 < 4 := ⟨by omega, by omega⟩
theorem SameX.free {r p : Addr} {H H' : Hp} (s : SameX r H H') (hr : p ≠ r) (h : H' p = none) : H p = none := by
  cases q : H p with
  | none => rfl
  | some o => rw [s p o hr q] at h; cases h
theorem Drawn.free {K : PySem.W.Frag} {S : Scr} {r p : Addr} {H H' : Hp} (s : Drawn K S r H H') (h : H' p = none) : H p = none := SameX.free s.same (s.row.there h) h
theorem ok_evenword {f : Addr} {fd : FuncData} {k : Nat} (F : Fun K "_law_even_word" "_law_even_word" s_law_even_word f fd) (GT : Got P w K mg base "_law_taken" k ["row", "many"] (spTaken K))
    (ma : mg "abs" = none) (mi : mg "int" = none) (ml : mg "len" = none) (mT : mg "tuple" = none) : FnOk P w K mg base CX0 (k + 1) f fd ["row", "letters", "move"] (spEvenWord K) := by
  refine F.ok sc_law_even_word (fun vs H Q E h => ?_) (fun cdv A outer s H vs Q E hr h => ?_)
  · obtain ⟨r, t, S, n, u, v, rfl, _⟩ := h
    rfl
  · obtain ⟨r, t, S, n, u, v, rfl, hR, ht, huv, huv1, hn1, hn2, q⟩ := h
    have nd := sc_law_even_word.nd
    have hu3 : u.natAbs ≤ 3 := by omega
    have hv3 : v.natAbs ≤ 3 := by omega
    refine ⟨_, pss_cons (ps_set (i := 3) nd rfl (.inl rfl) (pimp (tHalf t u v u 0 2) (pe_ifExp (pt_cmpR op_gt (pixT (pv 2) pe_int) pe_int (nomark _)) (prepN (plstN (pa_cons pe_int pa_nil)) (pabs ma (pixT (pv 2) pe_int))) (prepN (plstN (pa_cons pe_int pa_nil)) (pabs ma (pixT (pv 2) pe_int))))
          (fun σ H Q ⟨e, h, hq⟩ => ⟨_, e, t, _, _, _, rfl, rfl, SqT.of h, at0, _, _, rfl, rfl, _, rfl, ite2 (fun g => ⟨szl 1, fun Ha a sa na ha => ⟨_, e, t, _, _, _, rfl, rfl, SqT.of (sa _ _ h), at0, _, rfl, half H u 0 Q hu3 (fun H2 p a1 a2 a3 => hq H2 p 0 a1 a2 a3 (.inl ⟨of_decide_eq_true g, rfl⟩)) Ha a sa ha⟩⟩) (fun g => ⟨szl 1, fun Ha a sa na ha => ⟨_, e, t, _, _, _, rfl, rfl, SqT.of (sa _ _ h), at0, _, rfl, half H u 2 Q hu3 (fun H2 p a1 a2 a3 => hq H2 p 2 a1 a2 a3 (.inr ⟨Int.not_lt.mp fun z => g (decide_eq_true z), rfl⟩)) Ha a sa ha⟩⟩)⟩)))
      (pss_cons (ps_set (i := 3) nd rfl (.inl rfl) (pcatN (pv 3) (pimp (tHalf t u v v 1 3) (pe_ifExp (pt_cmpR op_gt (pixT (pv 2) pe_int) pe_int (nomark _)) (prepN (plstN (pa_cons pe_int pa_nil)) (pabs ma (pixT (pv 2) pe_int))) (prepN (plstN (pa_cons pe_int pa_nil)) (pabs ma (pixT (pv 2) pe_int))))
          (fun σ H Q ⟨e, h, hq⟩ => ⟨_, e, t, _, _, _, rfl, rfl, SqT.of h, at1, _, _, rfl, rfl, _, rfl, ite2 (fun g => ⟨szl 1, fun Ha a sa na ha => ⟨_, e, t, _, _, _, rfl, rfl, SqT.of (sa _ _ h), at1, _, rfl, half H v 1 Q hv3 (fun H2 p a1 a2 a3 => hq H2 p 1 a1 a2 a3 (.inl ⟨of_decide_eq_true g, rfl⟩)) Ha a sa ha⟩⟩) (fun g => ⟨szl 1, fun Ha a sa na ha => ⟨_, e, t, _, _, _, rfl, rfl, SqT.of (sa _ _ h), at1, _, rfl, half H v 3 Q hv3 (fun H2 p a1 a2 a3 => hq H2 p 3 a1 a2 a3 (.inr ⟨Int.not_lt.mp fun z => g (decide_eq_true z), rfl⟩)) Ha a sa ha⟩⟩)⟩))))
      (pss_cons (psimp (tMore K n) (ps_if (pt_cmpR op_eq (pcall GT hr (pa_cons (pv 0) (pa_cons pe_int pa_nil))) pe_int (nomark _))
        (pss_cons (ps_set (i := 4) nd rfl (.inl rfl) (pcall GT hr (pa_cons (pv 0) (pa_cons pe_int pa_nil))))
          (pss_one (ps_set (i := 3) nd rfl (.inl rfl) (pcatN (pv 3) (plstN (pa_cons (pv 4) (pa_cons (pmod (pint mi (padd (pv 4) pe_int)) pe_int) pa_nil))))))) pss_nil) ?more)
      (pss_cons (ps_par rfl nd (i := 5) (j := 6) rfl rfl (by decide) rfl rfl (pa_cons (plstN pa_nil) (pa_cons pe_int pa_nil)) (by rfl))
      (pss_cons (ps_while PassesOwn.never (pt_cmpR (op_neNil hr.units) (pv 3) (plstN pa_nil) (nomark _))
        (pss_cons (ps_set (i := 7) nd rfl (.inl rfl) (pe_bm PySem.F.plainAttrs_list PySem.F.slot_list_pop PySem.F.type_list_pop mt_popAt (pv 3) (pa_cons (pcall GT hr (pa_cons (pv 0) (pa_cons (plen ml (pv 3)) pa_nil))) pa_nil)))
        (pss_cons (ps_set (i := 8) nd rfl (.inl rfl) (pmod (pint mi (psub (pv 7) (pv 6))) pe_int))
        (pss_cons (ps_set (i := 5) nd rfl (.inl rfl) (pcatN (pcatN (pv 5) (pimp tTurns (pe_ifExp (pt_cmpR op_eq (pv 8) pe_int (nomark _)) (plstN (pa_cons pe_str pa_nil)) (prepN (plstN (pa_cons pe_str pa_nil)) (pv 8))) ?turns))
            (plstN (pa_cons (pcall GT hr (pa_cons (pv 0) (pa_cons (pv 1) pa_nil))) pa_nil))))
        (pss_one (ps_set (i := 6) nd rfl (.inl rfl) (pv 7)))))))
      (pss_cons (ps_set (i := 8) nd rfl (.inl rfl) (pmod (pint mi (psub pe_int (pv 6))) pe_int))
      (pss_one (ps_ret (ptupleF mT (pcatN (pv 5) (pimp tTurns (pe_ifExp (pt_cmpR op_eq (pv 8) pe_int (nomark _)) (plstN (pa_cons pe_str pa_nil)) (prepN (plstN (pa_cons pe_str pa_nil)) (pv 8))) ?turns2)))))))))), ?_⟩
    case more =>
      rintro D σ H ⟨r, t, sa, S, ss, y4, y5, y6, y7, y8, rfl, hR, nsr, hs, hl, hin, q⟩
      refine ⟨_, rfl, r, S, 3, rfl, hR, by decide, by decide, fun H1 k1 D1 _ => ⟨rfl, _, rfl, ite2 (fun _ => ?_) (fun _ => ?_)⟩⟩
      · refine ⟨_, rfl, r, S, 4, rfl, D1.row, by decide, by decide, fun H2 k2 D2 hk2 => ?_⟩
        have D12 := D1.trans D2
        refine ⟨_, rfl, _, rfl, _, rfl, _, _, rfl, rfl, .inl ⟨_, rfl, _, _, rfl, rfl, (show (0 : Int) < 4 by decide), szl 2, fun H3 l s3 n3 h3 => ?_⟩⟩
        refine ⟨sa, l, _, _, rfl, rfl, s3 _ _ (D12.at nsr hs), h3, szl _ (by simp only [List.length_map, List.length_cons, List.length_nil]; omega), fun H4 p s4 n4 h4 => ?_⟩
        refine q H4 p (ss ++ [(k2 : Int), ((k2 : Int) + 2) % 4]) _ ((D12.then s3).then s4) (.inr (D12.free (s3.free n4))) ?_ (by simp) (by simp) ?_ ?_
        · rw [h4, List.map_append]; rfl
        · intro x hx
          rcases List.mem_append.mp hx with h | h
          · exact hin x h
          · simp only [List.mem_cons, List.not_mem_nil, or_false] at h
            rcases h with rfl | rfl <;> omega
        · rw [sumD_app, dir_back (by omega)]
          refine Prod.ext ?_ ?_ <;> dsimp only <;> omega
      · exact q H1 sa ss _ D1 (.inl rfl) (D1.at nsr hs) (Nat.le_refl _) (by omega) hin rfl
    case turns =>
      rintro σ H Q ⟨m, e, h0, h4, hq⟩
      refine ⟨_, e, rfl, _, rfl, ite2 (fun e => ?_) (fun e => ?_)⟩
      · obtain rfl : m = 3 := by have e := of_decide_eq_true e; injection e
        exact ⟨szl 1, fun H2 p s2 n2 h2 => hq H2 p [.m] s2 n2 h2 (by decide) (by decide) turn_m⟩
      · have hm : m ≠ 3 := fun z => e (decide_eq_true (by rw [z]))
        refine ⟨szl 1, fun Ha a sa na ha => ⟨_, ‹_›, a, m, _, rfl, rfl, ha, by omega, by omega, szl _ (by show 1 * m.toNat ≤ 16777216; omega), fun H2 p s2 n2 h2 => ?_⟩⟩
        have h2' : H2 p = some (.lst (wv (List.replicate m.toNat .p))) := by rw [← rep_sy]; exact h2
        exact hq H2 p _ (sa.trans s2) (sa.free n2) h2' (turns_of (.inr ⟨_, rfl⟩)) (by rw [List.length_replicate]; omega) (by have := turn_rep m.toNat; rw [Int.toNat_of_nonneg h0] at this; exact this)
    case turns2 =>
      rintro σ H Q ⟨m, e, h0, h4, hq⟩
      refine ⟨_, e, rfl, _, rfl, ite2 (fun e => ?_) (fun e => ?_)⟩
      · obtain rfl : m = 3 := by have e := of_decide_eq_true e; injection e
        exact ⟨szl 1, fun H2 p s2 n2 h2 => hq H2 p [.m] s2 n2 h2 (by decide) (by decide) turn_m⟩
      · have hm : m ≠ 3 := fun z => e (decide_eq_true (by rw [z]))
        refine ⟨szl 1, fun Ha a sa na ha => ⟨_, ‹_›, a, m, _, rfl, rfl, ha, by omega, by omega, szl _ (by show 1 * m.toNat ≤ 16777216; omega), fun H2 p s2 n2 h2 => ?_⟩⟩
        have h2' : H2 p = some (.lst (wv (List.replicate m.toNat .p))) := by rw [← rep_sy]; exact h2
        exact hq H2 p _ (sa.trans s2) (sa.free n2) h2' (turns_of (.inr ⟨_, rfl⟩)) (by rw [List.length_replicate]; omega) (by have := turn_rep m.toNat; rw [Int.toNat_of_nonneg h0] at this; exact this)
    -- steps
    refine ⟨rfl, ht, fun H1 p1 j1 S1 n1 h1 l1 => ?_⟩
    refine ⟨_, rfl, rfl, S1 _ _ ht, fun H2 p2 j2 S2 n2 h2 l2 => ?_⟩
    obtain ⟨s1, es1⟩ : ∃ s1, s1 = List.replicate u.natAbs j1 := ⟨_, rfl⟩
    obtain ⟨s2, es2⟩ : ∃ s2, s2 = List.replicate v.natAbs j2 := ⟨_, rfl⟩
    have d1 : In4 s1 ∧ sumD s1 = (u, 0) ∧ s1.length = u.natAbs := by
      refine ⟨fun x hx => ?_, ?_, by rw [es1, List.length_replicate]⟩
      · rw [es1] at hx
        rw [List.eq_of_mem_replicate hx]
        rcases l1 with ⟨_, rfl⟩ | ⟨_, rfl⟩ <;> decide
      · rw [es1, sumD_rep]
        rcases l1 with ⟨z, rfl⟩ | ⟨z, rfl⟩
        · show ((u.natAbs : Int) * 1, (u.natAbs : Int) * 0) = _
          refine Prod.ext ?_ ?_ <;> dsimp only <;> omega
        · show ((u.natAbs : Int) * -1, (u.natAbs : Int) * 0) = _
          refine Prod.ext ?_ ?_ <;> dsimp only <;> omega
    have d2 : In4 s2 ∧ sumD s2 = (0, v) ∧ s2.length = v.natAbs := by
      refine ⟨fun x hx => ?_, ?_, by rw [es2, List.length_replicate]⟩
      · rw [es2] at hx
        rw [List.eq_of_mem_replicate hx]
        rcases l2 with ⟨_, rfl⟩ | ⟨_, rfl⟩ <;> decide
      · rw [es2, sumD_rep]
        rcases l2 with ⟨z, rfl⟩ | ⟨z, rfl⟩
        · show ((v.natAbs : Int) * 0, (v.natAbs : Int) * 1) = _
          refine Prod.ext ?_ ?_ <;> dsimp only <;> omega
        · show ((v.natAbs : Int) * 0, (v.natAbs : Int) * -1) = _
          refine Prod.ext ?_ ?_ <;> dsimp only <;> omega
    rw [← es1] at h1
    rw [← es2] at h2
    clear es1 es2 l1 l2
    obtain ⟨i1, d1, l1⟩ := d1
    obtain ⟨i2, d2, l2⟩ := d2
    have i12 : In4 (s1 ++ s2) := fun x hx => (List.mem_append.mp hx).elim (i1 x) (i2 x)
    have d12 : sumD (s1 ++ s2) = (u, v) := by rw [sumD_app, d1, d2]; refine Prod.ext ?_ ?_ <;> dsimp only <;> omega
    refine ⟨p1, p2, _, _, rfl, rfl, S2 _ _ h1, h2, szl _ (by simp only [List.length_map]; omega), fun H3 p3 S3 n3 h3 => ?_⟩
    rw [← List.map_append] at h3
    have S03 : Same H H3 := (S1.trans S2).trans S3
    have D3 : Drawn K S r H H3 := (Drawn.refl hR).then S03
    have n3' : H p3 = none := S1.free (S2.free n3)
    have nr3 : p3 ≠ r := hR.there n3'
    refine ⟨r, t, p3, S, s1 ++ s2, _, _, _, _, _, rfl, D3.row, nr3, h3, by rw [List.length_append]; omega, i12, fun H4 p4 s4 y4 D4 hp4 h4 hl4 hl4' i4 d4 => ?_⟩
    rw [d12] at d4
    rw [List.length_append] at hl4 hl4'
    have D04 := D3.trans D4
    have n4' : H p4 = none := by
      rcases hp4 with e | e
      · rw [e]; exact n3'
      · exact S03.free e
    -- found, heading = [], 0
    refine ⟨szl 0, fun H5 p5 S5 n5 h5 => ⟨_, _, rfl, ?_⟩⟩
    have D05 := D04.then S5
    refine ⟨fun m σ H' => ∃ (fa : Addr) (ss : List Int) (ws : List Sy) (hd : Int) (y4 y7 y8 : Option V), σ = [some (.ref r), some (.int n), some (.ref t), some (.ref p4), y4, some (.ref fa), some (.int hd), y7, y8] ∧ Drawn K S r H H' ∧
      H' p4 = some (.lst (ss.map V.int)) ∧ H' fa = some (.lst (wv ws)) ∧ fa ≠ r ∧ fa ≠ p4 ∧ ss.length = m ∧ (∀ s ∈ ws, isB s = false) ∧ (∀ k, Sy.l k ∈ ws → k < n) ∧ ws.length + 3 * m ≤ 15 ∧ (1 ≤ m ∨ ws.any isL = true) ∧ 2 ≤ nL ws + m ∧ ws.length ≤ 3 * nL ws ∧ In4 ss ∧ (0 ≤ hd ∧ hd < 4) ∧ ws.foldl wstepE (0, 0, 0) = (u - (sumD ss).1, v - (sumD ss).2, hd),
      ⟨s4.length, p5, s4, [], 0, _, _, _, rfl, D05, S5 _ _ h4, h5, D04.row.there n5, (ne_of_none h4 n5).symm, rfl, by decide, (fun k h => nomatch h), (by simp only [List.length_nil]; omega), .inl (by omega), (by omega), (by decide), i4, (by decide), by rw [d4]; show (0, 0, 0) = (u - u, v - v, 0); rw [Int.sub_self, Int.sub_self]⟩, ?_⟩
    rintro m σ H' ⟨fa, ss, ws, hd, y4, y7, y8, rfl, D, hs, hf, nfr, nfp, hm, f1, f2, f3, f4, f5, f6, f7, f8, f9⟩
    have nr4 : p4 ≠ r := hR.there n4'
    refine ⟨_, rfl, szl 0, fun H6 p6 S6 n6 h6 => ?_⟩
    have D6 := D.then S6
    have hs6 := S6 _ _ hs
    have hf6 := S6 _ _ hf
    refine ⟨p4, p6, ss, rfl, rfl, SqL.of hs6, h6, _, rfl, ?_⟩
    cases ss with
    | nil =>
      refine iteF ?_
      have hm0 : m = 0 := hm.symm
      subst hm0
      have f4' : ws.any isL = true := f4.resolve_left (by omega)
      refine ⟨_, rfl, _, _, rfl, rfl, .inl ⟨_, rfl, _, _, rfl, rfl, (show (0 : Int) < 4 by decide), ?_⟩⟩
      refine ⟨_, rfl, _, rfl, (m4 _).1, (m4 _).2, fun H7 p7 tt S7 n7 h7 b7 l7 u7 => ?_⟩
      refine ⟨fa, p7, _, _, rfl, rfl, S7 _ _ hf6, h7, szl _ (by simp only [List.length_map]; omega), fun H8 p8 S8 n8 h8 => ?_⟩
      refine ⟨p8, _, rfl, SqL.of h8, NewW.of (fun H9 p9 S9 n9 h9 => ?_) (w := ws ++ tt) (by simp only [wv, List.map_append])⟩
      have fin : (ws ++ tt).foldl wstepE (0, 0, 0) = (u, v, 0) := by
        rw [List.foldl_append, f9, u7 _ f8]
        refine Prod.ext ?_ (Prod.ext ?_ ?_)
        · show u - 0 = u; omega
        · show v - 0 = v; omega
        · show (hd + (0 - hd) % 4) % 4 = 0; omega
      refine q H9 p9 (ws ++ tt) (((D6.then S7).then S8).then S9) h9 ⟨?_, ?_, ?_, ?_, ?_⟩ fin
      · intro s hs
        rcases List.mem_append.mp hs with h | h
        · exact f1 s h
        · exact (b7 s h).1
      · intro j hj
        rcases List.mem_append.mp hj with h | h
        · exact f2 j h
        · have := (b7 _ h).2; cases this
      · rw [List.any_append, f4']; rfl
      · rw [List.length_append]; omega
      · rw [List.length_append, nL_app]; omega
    | cons s0 sr =>
      refine iteT ?_
      refine ⟨fun σ' H' => ∃ (fa : Addr) (ss : List Int) (ws : List Sy) (hd : Int) (y4 y7 y8 : Option V), σ' = [some (.ref r), some (.int n), some (.ref t), some (.ref p4), y4, some (.ref fa), some (.int hd), y7, y8] ∧ Drawn K S r H H' ∧
        H' p4 = some (.lst (ss.map V.int)) ∧ H' fa = some (.lst (wv ws)) ∧ fa ≠ r ∧ fa ≠ p4 ∧ ss.length + 1 = m ∧ (∀ s ∈ ws, isB s = false) ∧ (∀ k, Sy.l k ∈ ws → k < n) ∧ ws.length + 3 * (m - 1) ≤ 15 ∧ (ws.any isL = true) ∧ 2 ≤ nL ws + (m - 1) ∧ ws.length ≤ 3 * nL ws ∧ In4 ss ∧ (0 ≤ hd ∧ hd < 4) ∧ ws.foldl wstepE (0, 0, 0) = (u - (sumD ss).1, v - (sumD ss).2, hd), ?_, ?_⟩
      · rintro σ' H' ⟨fa, ss, ws, hd, y4, y7, y8, rfl, D, hs, hf, nfr, nfp, hm, f1, f2, f3, f4, f5, f6, f789⟩
        exact ⟨m - 1, by omega, fa, ss, ws, hd, y4, y7, y8, rfl, D, hs, hf, nfr, nfp, by omega, f1, f2, f3, .inr f4, f5, f6, f789⟩
      · refine ⟨_, rfl, .inl ⟨rfl, _, SqL.of hs6⟩, _, rfl, _, rfl, p4, _, rfl, .inl (SqL.of hs6), r, S, (s0 :: sr).length, ?_, D6.row, by simp, ?_, fun H7 k7 D7 hk7 => ?_⟩
        · rw [List.length_map]; rfl
        · rw [hm]; omega
        have hs7 := D7.at nr4 hs6
        have hf7 := D7.at nfr hf6
        have hk7' : k7 < ((s0 :: sr).map V.int).length := by rw [List.length_map]; exact hk7
        have sx : seqIndex? (k7 : Int) ((s0 :: sr).map V.int).length = some k7 := by
          have := seqIndex_of (n := ((s0 :: sr).map V.int).length) (k := (k7 : Int)) (by omega) (by omega)
          rw [this, Int.toNat_natCast]
        have gx : ((s0 :: sr).map V.int)[k7]? = some (.int (s0 :: sr)[k7]) := by
          rw [List.getElem?_map, List.getElem?_eq_getElem hk7]; rfl
        have xe := List.getElem?_eq_getElem hk7
        have x4 := f7 _ (List.mem_of_getElem? xe)
        have sd := sumD_erase xe
        have in8 : In4 ((s0 :: sr).eraseIdx k7) := fun y hy => f7 y (List.mem_of_mem_eraseIdx hy)
        generalize (s0 :: sr)[k7] = x at gx xe x4 sd
        refine ⟨p4, _, _, k7, _, rfl, rfl, hs7, by omega, by omega, sx, gx, ?_⟩
        have D8 : Drawn K S r H (upd H7 p4 (.lst (((s0 :: sr).map V.int).eraseIdx k7))) := (D6.trans D7).put hR n4'
        have hs8 : (upd H7 p4 (.lst (((s0 :: sr).map V.int).eraseIdx k7))) p4 = some (.lst (((s0 :: sr).eraseIdx k7).map V.int)) := by rw [upd_same, erase_map]
        have hf8 : (upd H7 p4 (.lst (((s0 :: sr).map V.int).eraseIdx k7))) fa = some (.lst (wv ws)) := by rw [upd_ne nfp]; exact hf7
        have hl8 : ((s0 :: sr).eraseIdx k7).length + 1 = m := by
          rw [List.length_eraseIdx_of_lt hk7, ← hm]
          simp only [List.length_cons]; omega
        generalize (upd H7 p4 (.lst (((s0 :: sr).map V.int).eraseIdx k7))) = H8 at D8 hs8 hf8
        generalize (s0 :: sr).eraseIdx k7 = ss8 at hs8 hl8 sd in8
        refine ⟨_, rfl, _, rfl, _, _, rfl, rfl, .inl ⟨_, rfl, _, _, rfl, rfl, (show (0 : Int) < 4 by decide), ?_⟩⟩
        refine ⟨_, rfl, _, rfl, (m4 _).1, (m4 _).2, fun H9 p9 tt S9 n9 h9 b9 l9 u9 => ?_⟩
        refine ⟨fa, p9, _, _, rfl, rfl, S9 _ _ hf8, h9, szl _ (by simp only [List.length_map]; omega), fun Ha pa Sa na ha => ?_⟩
        have Da := (D8.then S9).then Sa
        refine ⟨_, rfl, _, rfl, r, S, n, rfl, Da.row, hn1, by omega, fun Hb kb Db hkb => ?_⟩
        refine ⟨szl 1, fun Hc pc Sc nc hc => ?_⟩
        have npr : pa ≠ r := (D8.then S9).row.there na
        refine ⟨pa, pc, _, _, rfl, rfl, Sc _ _ (Db.at npr ha), hc, szl _ (by simp only [List.length_append, List.length_map, List.length_cons, List.length_nil]; omega), fun Hd pd Sd nd hdl => ?_⟩
        have Dd := (((Da.trans Db).then Sc).then Sd)
        have hsd := Sd _ _ (Sc _ _ (Db.at nr4 (Sa _ _ (S9 _ _ hs8))))
        refine ⟨_, rfl, pd, ss8, ws ++ tt ++ [.l kb], _, _, _, _, rfl, Dd, hsd, ?_, (((Da.trans Db).then Sc).row.there nd), (ne_of_none (Sc _ _ (Db.at nr4 (Sa _ _ (S9 _ _ hs8)))) nd).symm, hl8, ?_, ?_, ?_, ?_, ?_, ?_, in8, x4, ?_⟩
        · rw [hdl, wv, wv, wv, List.map_append, List.map_append]; rfl
        · intro s hs
          rcases List.mem_append.mp hs with h | h
          · rcases List.mem_append.mp h with h | h
            · exact f1 s h
            · exact (b9 s h).1
          · rw [List.mem_singleton.mp h]; rfl
        · intro j hj
          rcases List.mem_append.mp hj with h | h
          · rcases List.mem_append.mp h with h | h
            · exact f2 j h
            · have := (b9 _ h).2; cases this
          · cases List.mem_singleton.mp h; exact hkb
        · simp only [List.length_append, List.length_singleton]; omega
        · rw [List.any_append]; simp [isL]
        · have e1 : nL [Sy.l kb] = 1 := rfl
          rw [nL_app, nL_app, e1]; omega
        · have e1 : nL [Sy.l kb] = 1 := rfl
          rw [nL_app, nL_app, e1]
          simp only [List.length_append, List.length_singleton]; omega
        · rw [List.foldl_append, List.foldl_append, f9, u9 _ f8, sd]
          have eh : (hd + (x - hd) % 4) % 4 = x := by omega
          show wstepE (u - ((dirE x).1 + (sumD ss8).1), v - ((dirE x).2 + (sumD ss8).2), (hd + (x - hd) % 4) % 4) (Sy.l kb) = _
          rw [eh]
          refine Prod.ext ?_ (Prod.ext ?_ rfl)
          · show u - ((dirE x).1 + (sumD ss8).1) + (dirE x).1 = u - (sumD ss8).1; omega
          · show v - ((dirE x).2 + (sumD ss8).2) + (dirE x).2 = v - (sumD ss8).2; omega
end
end SK
namespace SK
open PySem PySem.Spec PyProof.Rows L2
def spEvenBook (K : PySem.W.Frag) : Sp := fun vs H Q _ => ∃ (r : Addr) (S : Scr), vs = [.ref r] ∧ RowOk K S H r ∧
  ∀ (H' : Hp) (p b m : Addr) (ws : List (List Sy)) (st : List Sy), Drawn K S r H H' → H' p = some (.tup [.ref b, .ref m]) → BookAt H' b ws st → GoodBook ws st → Q (.ref p) H'
/-- words whose paths go (u, v) on, no turning in all, but for a branch -/
def EvenWs (u v : Int) (ws : List (List Sy)) : Prop := ws.length ≤ 2 ∧ ∀ w ∈ ws, ∃ w0 : List Sy, (∀ s ∈ w0, isB s = false) ∧ w0.foldl wstepE (0, 0, 0) = (u, v, 0) ∧ Br w0 w
def spEvenBookE (K : PySem.W.Frag) : Sp := fun vs H Q _ => ∃ (r : Addr) (S : Scr), vs = [.ref r] ∧ RowOk K S H r ∧
  ∀ (H' : Hp) (p b m : Addr) (ws : List (List Sy)) (st : List Sy) (u v : Int), Drawn K S r H H' → H' p = some (.tup [.ref b, .ref m]) → BookAt H' b ws st → GoodBook ws st → H' m = some (.tup [.int u, .int v]) → EvenWs u v ws → 2 ≤ u.natAbs + v.natAbs ∧ u.natAbs + v.natAbs ≤ 3 → Q (.ref p) H'
theorem good_start {n : Nat} (h : 1 ≤ n) : Good n 40 [.l (n - 1), .l 0] := ⟨rfl, fun k hk => by
  simp only [List.mem_cons, List.not_mem_nil, or_false] at hk
  rcases hk with e | e <;> cases e <;> omega, rfl, by show 2 ≤ 40; decide, by show 2 + 6 ≤ 8 * 2; decide⟩
theorem good_up {n L : Nat} {w : List Sy} (h : Good 1 L w) (hn : 1 ≤ n) : Good n L w := ⟨h.nst, fun k hk => Nat.lt_of_lt_of_le (h.lets k hk) hn, h.has, h.len, h.slim⟩
section
variable {P : Program} {w : World} {K : PySem.W.Frag} {mg : Str → Option Value} {base : Heap}
theorem ok_evenbookE {f : Addr} {fd : FuncData} {k : Nat} (F : Fun K "_law_even_book" "_law_even_book" s_law_even_book f fd) (GT : Got P w K mg base "_law_taken" k ["row", "many"] (spTaken K)) (GP : Got P w K mg base "_law_pick" k ["row", "things"] (spPick K))
    (GW : Got P w K mg base "_law_even_word" k ["row", "letters", "move"] (spEvenWord K)) (GB : Got P w K mg base "_law_branched" k ["row", "word", "letters"] (spBranched K))
    (mR : mg "range" = none) (mT : mg "tuple" = none) : FnOk P w K mg base CX0 (k + 1) f fd ["row"] (spEvenBookE K) := by
  refine F.ok sc_law_even_book (fun vs H Q E h => ?_) (fun cdv A outer s H vs Q E hr h => ?_)
  · obtain ⟨r, S, rfl, _⟩ := h
    rfl
  · obtain ⟨r, S, rfl, hR, q⟩ := h
    have nd := sc_law_even_book.nd
    refine ⟨_, pss_cons (ps_asg (ptupN (pa_cons (padd pe_int (pcall GT hr (pa_cons (pv 0) (pa_cons pe_int pa_nil)))) (pa_cons (pcall GP hr (pa_cons (pv 0) (pa_cons (plstN (pa_cons (ptupN (pa_cons pe_int (pa_cons pe_int pa_nil))) (pa_cons (ptupN (pa_cons pe_int (pa_cons pe_int pa_nil))) (pa_cons (ptupN (pa_cons pe_int (pa_cons pe_int pa_nil))) (pa_cons (ptupN (pa_cons pe_int (pa_cons pe_int pa_nil))) (pa_cons (ptupN (pa_cons pe_int (pa_cons (pe_un un_neg pe_int) pa_nil))) (pa_cons (ptupN (pa_cons (pe_un un_neg pe_int) (pa_cons pe_int pa_nil))) (pa_cons (ptupN (pa_cons pe_int (pa_cons pe_int pa_nil))) (pa_cons (ptupN (pa_cons pe_int (pa_cons pe_int pa_nil))) (pa_cons (ptupN (pa_cons pe_int (pa_cons pe_int pa_nil))) pa_nil)))))))))) pa_nil))) pa_nil)))
        (pg_tup (by rfl) (pgs_cons (pg_name (i := 1) nd rfl (.inr rfl)) (pgs_cons (pg_name (i := 2) nd rfl (.inr rfl)) pgs_nil))))
      (pss_cons (ps_set (i := 3) nd rfl (.inl rfl) (ptupleN mT
          (pe_lc (own := [("k", 5)]) (g := gName 5) (tt := tYes) rfl nd (pi_range1 rfl mR (pa_cons (pv 1) pa_nil)) (blkOk_by (N := n_law_even_book) (sc := defScope s_law_even_book) (by decide +kernel))
            (fun _ _ _ _ _ => pg_name (i := 5) nd rfl (Or.inl rfl)) (fun _ _ _ _ _ => pts_nil)
            (fun _ _ _ _ _ => pcall GB hr (pa_cons (pv 0) (pa_cons (pcall GW hr (pa_cons (pv 0) (pa_cons (pv 1) (pa_cons (pv 2) pa_nil)))) (pa_cons (pv 1) pa_nil)))))))
      (pss_cons (ps_set (i := 4) nd rfl (.inl rfl) (pcall GP hr (pa_cons (pv 0) (pa_cons (plstN (pa_cons (pwd (wd_l (k := 0) wd_nil) (by decide)) (pa_cons (pwd (wd_l (k := 0) wd_nil) (by decide)) (pa_cons (pwd (wd_l (k := 0) (wd_s (sy := .p) rfl (wd_l (k := 0) wd_nil))) (by decide)) (pa_cons (pwd (wd_l (k := 0) (wd_s (sy := .p) rfl (wd_l (k := 0) (wd_s (sy := .p) rfl (wd_l (k := 0) (wd_s (sy := .p) rfl (wd_l (k := 0) wd_nil))))))) (by decide)) (pa_cons (ptupF (pa_cons (psub (pv 1) pe_int) (pa_cons pe_int pa_nil))) pa_nil)))))) pa_nil))))
      (pss_one (ps_ret (ptupN (pa_cons (ptupN (pa_cons (pv 3) (pa_cons (pv 4) pa_nil))) (pa_cons (pv 2) pa_nil))))))), ?_⟩
    refine ⟨_, rfl, r, S, 2, rfl, hR, by decide, by decide, fun H1 k1 D1 hk1 => ?_⟩
    obtain ⟨n, hn⟩ : ∃ n : Nat, n = 1 + k1 := ⟨_, rfl⟩
    have hn1 : 1 ≤ n := by omega
    have hn2 : n ≤ 8 := by omega
    have hn3 : n ≤ 3 := by omega
    have hn4 : n ≤ 2 := by omega
    refine ⟨1, _, rfl, rfl, ?_⟩
    have en : (V.int (1 + (k1 : Int))) = V.int (n : Int) := by rw [hn]; congr 1
    dsimp only
    rw [en]
    clear en hn hk1
    refine ⟨_, rfl, ?_⟩
    refine ⟨szl 2, fun M0 a0 s0 n0 h0 => ?_⟩
    refine ⟨szl 2, fun M1 a1 s1 n1 h1 => ?_⟩
    refine ⟨szl 2, fun M2 a2 s2 n2 h2 => ?_⟩
    refine ⟨szl 2, fun M3 a3 s3 n3 h3 => ?_⟩
    refine ⟨_, rfl, szl 2, fun M4 a4 s4 n4 h4 => ?_⟩
    refine ⟨_, rfl, szl 2, fun M5 a5 s5 n5 h5 => ?_⟩
    refine ⟨szl 2, fun M6 a6 s6 n6 h6 => ?_⟩
    refine ⟨szl 2, fun M7 a7 s7 n7 h7 => ?_⟩
    refine ⟨szl 2, fun M8 a8 s8 n8 h8 => ?_⟩
    refine ⟨szl 9, fun M9 a9 s9 n9 h9 => ?_⟩
    have t9 : Same M9 M9 := Same.refl _
    have t8 : Same M8 M9 := s9.trans t9
    have t7 : Same M7 M9 := s8.trans t8
    have t6 : Same M6 M9 := s7.trans t7
    have t5 : Same M5 M9 := s6.trans t6
    have t4 : Same M4 M9 := s5.trans t5
    have t3 : Same M3 M9 := s4.trans t4
    have t2 : Same M2 M9 := s3.trans t3
    have t1 : Same M1 M9 := s2.trans t2
    have t0 : Same M0 M9 := s1.trans t1
    have tm : Same H1 M9 := s0.trans t0
    have u := ((((((((s0.trans s1).trans s2).trans s3).trans s4).trans s5).trans s6).trans s7).trans s8)
    have D2 := D1.then tm
    refine ⟨r, a9, S, _, rfl, D2.row, (D1.then u).row.there n9, h9, (show 1 ≤ 9 by decide), (show 9 < 1073741824 by decide), fun H3 kk v D3 hk => ?_⟩
    have tt := D3.tups D2.row
    obtain ⟨m, mu, mv, rfl, hm, hm1, hm2⟩ : ∃ (m : Addr) (mu mv : Int), v = .ref m ∧ H3 m = some (.tup [.int mu, .int mv]) ∧ mu.natAbs + mv.natAbs ≤ 3 ∧ 2 ≤ mu.natAbs + mv.natAbs := by
      match kk, hk with
      | 0, hk => cases hk; exact ⟨a0, 1, 1, rfl, tt.1 _ _ (t0 _ _ h0), by decide, by decide⟩
      | 1, hk => cases hk; exact ⟨a1, 1, 1, rfl, tt.1 _ _ (t1 _ _ h1), by decide, by decide⟩
      | 2, hk => cases hk; exact ⟨a2, 2, 0, rfl, tt.1 _ _ (t2 _ _ h2), by decide, by decide⟩
      | 3, hk => cases hk; exact ⟨a3, 2, 1, rfl, tt.1 _ _ (t3 _ _ h3), by decide, by decide⟩
      | 4, hk => cases hk; exact ⟨a4, 1, -1, rfl, tt.1 _ _ (t4 _ _ h4), by decide, by decide⟩
      | 5, hk => cases hk; exact ⟨a5, -1, 1, rfl, tt.1 _ _ (t5 _ _ h5), by decide, by decide⟩
      | 6, hk => cases hk; exact ⟨a6, 0, 2, rfl, tt.1 _ _ (t6 _ _ h6), by decide, by decide⟩
      | 7, hk => cases hk; exact ⟨a7, 1, 2, rfl, tt.1 _ _ (t7 _ _ h7), by decide, by decide⟩
      | 8, hk => cases hk; exact ⟨a8, 3, 0, rfl, tt.1 _ _ (t8 _ _ h8), by decide, by decide⟩
      | j + 9, hk => simp at hk
    have D03 := D1.trans (D2.trans D3 |> fun _ => (Drawn.refl D1.row).then tm |>.trans D3)
    clear tt h0 h1 h2 h3 h4 h5 h6 h7 h8 h9 hk
    refine ⟨szl 2, fun H4 p4 S4 n4 h4 => ?_⟩
    refine ⟨p4, _, rfl, SqT.of h4, rfl, _, _, rfl, _, _, rfl, rfl, ?_⟩
    have D4 := D03.then S4
    have hm4 := S4 _ _ hm
    refine ⟨_, rfl, (n : Int), rfl, by omega, by omega, fun D nD => ?_⟩
    rw [Int.toNat_natCast]
    have nDr := D4.row.there nD
    refine lc_range (lo := 0) (n := n) (fun i H' => ∃ (as : List Addr) (ws : List (List Sy)), Drawn K S r H4 H' ∧ H' D = some (.lst (as.map V.ref)) ∧ Words H' as ws ∧ ws.length = i ∧ (∀ w ∈ ws, Good n 40 w) ∧ ∀ w ∈ ws, ∃ w0 : List Sy, (∀ s ∈ w0, isB s = false) ∧ w0.foldl wstepE (0, 0, 0) = (mu, mv, 0) ∧ Br w0 w)
      ⟨[], [], (Drawn.refl D4.row).new nD, upd_same, .nil, rfl, (fun w h => nomatch h), fun w h => nomatch h⟩ ?_ ?_
    · rintro i H' hi ⟨as, ws, D2, hD, hw, hl, hg, hE⟩
      refine ⟨rfl, _, rfl, _, rfl, _, rfl, _, rfl, r, m, S, n, mu, mv, rfl, D2.row, D2.tup D4.row hm4, hm1, hm2, hn1, hn2, fun H3 t w3 D3 ht hw3 he3 => ?_⟩
      refine ⟨_, rfl, r, t, S, n, 17, w3, rfl, D3.row, ht, hw3, by decide, hn1, hn2, fun H4' p w4 D4' hp hw4 hb4 => ?_⟩
      have D34 := D3.trans D4'
      refine ⟨_, D34.at nDr hD, ?_, as ++ [p], ws ++ [w4], (D2.trans D34).put D4.row nD, ?_, ?_, ?_, ?_, ?_⟩
      · have := hw.length
        rw [List.length_map]; exact Nat.lt_of_le_of_lt (show as.length ≤ 1000 by omega) (by decide)
      · rw [upd_same, List.map_append]; rfl
      · have s : TupS H4' (upd H4' D (.lst (as.map V.ref ++ [V.ref p]))) := TupS.refl.lst (D34.at nDr hD)
        exact Paired.snoc ((hw.keep (D34.tups D2.row)).keep s) (s.wd hp)
      · rw [List.length_append, List.length_singleton, hl]
      · intro w hw
        rcases List.mem_append.mp hw with h | h
        · exact hg w h
        · rw [List.mem_singleton.mp h]; exact hw4.mono (by decide)
      · intro w hw
        rcases List.mem_append.mp hw with h | h
        · exact hE w h
        · rw [List.mem_singleton.mp h]; exact ⟨w3, hw3.flat, he3, hb4⟩
    · rintro H' ⟨as, ws, D5, hD, hw, hl, hg, hE⟩
      refine ⟨D, _, rfl, SqL.of hD, fun H6 p6 S6 n6 h6 => ?_⟩
      have D46 := D5.then S6
      have D6 := D4.trans D46
      have hw6 := hw.keep (.of S6)
      have hm6 := D46.tup D4.row hm4
      clear hD hw D5 S6 S4 n4 h4 n6
      refine ⟨_, rfl, ?_⟩
      refine fun M0 a0 s0 n0 h0 => ?_
      refine fun M1 a1 s1 n1 h1 => ?_
      refine fun M2 a2 s2 n2 h2 => ?_
      refine fun M3 a3 s3 n3 h3 => ?_
      refine ⟨_, rfl, _, _, rfl, rfl, szl 2, NewW.of (fun M4 a4 s4 n4 h4 => ?_) (w := [.l (n - 1), .l 0]) ?_⟩
      rotate_left
      · have en : (n : Int) - 1 = ((n - 1 : Nat) : Int) := by omega
        show [V.int ((n : Int) - 1), V.int 0] = _
        rw [en]; rfl
      refine ⟨szl 5, fun M5 a5 s5 n5 h5 => ?_⟩
      have t5 : Same M5 M5 := Same.refl _
      have t4 : Same M4 M5 := s5.trans t5
      have t3 : Same M3 M5 := s4.trans t4
      have t2 : Same M2 M5 := s3.trans t3
      have t1 : Same M1 M5 := s2.trans t2
      have t0 : Same M0 M5 := s1.trans t1
      have tm : Same H6 M5 := s0.trans t0
      have u := ((((s0.trans s1).trans s2).trans s3).trans s4)
      have Dl := D6.then tm
      refine ⟨r, a5, S, _, rfl, Dl.row, (D6.then u).row.there n5, h5, (show 1 ≤ 5 by decide), (show 5 < 1073741824 by decide), fun H8 kk v D8 hk => ?_⟩
      have tt := D8.tups Dl.row
      obtain ⟨b, st, rfl, hb, hst⟩ : ∃ (b : Addr) (st : List Sy), v = .ref b ∧ WdAt H8 b st ∧ Good n 40 st := by
        match kk, hk with
        | 0, hk => cases hk; exact ⟨a0, [.l 0], rfl, tt.wd (h0.same t0), good_up (good_dec (by decide)) hn1⟩
        | 1, hk => cases hk; exact ⟨a1, [.l 0], rfl, tt.wd (h1.same t1), good_up (good_dec (by decide)) hn1⟩
        | 2, hk => cases hk; exact ⟨a2, [.l 0, .p, .l 0], rfl, tt.wd (h2.same t2), good_up (good_dec (by decide)) hn1⟩
        | 3, hk => cases hk; exact ⟨a3, [.l 0, .p, .l 0, .p, .l 0, .p, .l 0], rfl, tt.wd (h3.same t3), good_up (good_dec (by decide)) hn1⟩
        | 4, hk =>
          cases hk
          exact ⟨a4, [.l (n - 1), .l 0], rfl, tt.wd (h4.same t4), good_start hn1⟩
        | j + 5, hk => simp at hk
      have D08 := Dl.trans D8
      have w8 := (hw6.keep (.of tm)).keep (D8.tups Dl.row)
      have h8 := D8.tup Dl.row (tm _ _ h6)
      have hm8 := D8.tup Dl.row (tm _ _ hm6)
      refine ⟨_, rfl, _, rfl, szl 2, fun H9 p9 S9 n9 h9 => ?_⟩
      refine ⟨_, rfl, szl 2, fun Ha pa Sa na ha => ?_⟩
      subst hl
      exact q Ha pa p9 m ws st mu mv ((D08.then S9).then Sa) ha ⟨p6, b, as, Sa _ _ h9, Sa _ _ (S9 _ _ h8), (hb.same S9).same Sa, (w8.keep (.of S9)).keep (.of Sa)⟩ ⟨hn1, hn3, hg, hst⟩ (Sa _ _ (S9 _ _ hm8)) ⟨hn4, hE⟩ ⟨hm2, hm1⟩
theorem ok_evenbook {f : Addr} {fd : FuncData} {k : Nat} (F : Fun K "_law_even_book" "_law_even_book" s_law_even_book f fd) (GT : Got P w K mg base "_law_taken" k ["row", "many"] (spTaken K)) (GP : Got P w K mg base "_law_pick" k ["row", "things"] (spPick K))
    (GW : Got P w K mg base "_law_even_word" k ["row", "letters", "move"] (spEvenWord K)) (GB : Got P w K mg base "_law_branched" k ["row", "word", "letters"] (spBranched K))
    (mR : mg "range" = none) (mT : mg "tuple" = none) : FnOk P w K mg base CX0 (k + 1) f fd ["row"] (spEvenBook K) :=
  (ok_evenbookE F GT GP GW GB mR mT).imp fun vs H Q E ⟨r, S, e, hR, q⟩ => ⟨r, S, e, hR, fun H' p b m ws st _ _ D h1 h2 h3 _ _ _ => q H' p b m ws st D h1 h2 h3⟩
end
end SK
namespace SK
open PySem PySem.Spec PyProof.Rows L2
/-! ### a list or a tuple walked -/
def Sq (K : PySem.W.Frag) (H : Hp) (a : Addr) (xs : List V) : Prop := SqL K H a xs ∨ SqT K H a xs
theorem Sq.same {K : PySem.W.Frag} {H H' : Hp} {a : Addr} {xs : List V} (h : Sq K H a xs) (s : Same H H') : Sq K H' a xs := h.elim (fun h => .inl (s.seq h)) fun h => .inr (sTup s h)
def iSeq (K : PySem.W.Frag) (i : Nat) : TI := fun σ H R => ∃ a, σ[i]? = some (some (.ref a)) ∧ (((∃ xs, SqL K H a xs) ∧ R (Itl K a) H) ∨ ((∃ xs, SqT K H a xs) ∧ R (Itt K a) H))
theorem pi_seq {X : Cx} {tg l : Expr} {i : Nat} (hl : PE X l (tVar i)) : PI X tg l (iSeq X.K i) := by
  refine ⟨fun pins s σ H R I ⟨a, e, q⟩ => ?_⟩
  rcases q with ⟨hx, q⟩ | ⟨hx, q⟩
  · exact (pi_list hl).run pins s σ H R I ⟨_, e, a, rfl, hx, q⟩
  · exact (pi_tup hl).run pins s σ H R I ⟨_, e, a, rfl, hx, q⟩
/-- the two walks by one invariant -/
theorem for_seq {K : PySem.W.Frag} {a : Addr} {xs : List V} {g : TG} {tb : TS} {D : Ends} {σ : L2.St} {H : Hp} (h : Sq K H a xs) (Pv : Nat → L2.St → Hp → Prop) (h0 : Pv 0 σ H) (hl : ∀ i σ H', i ≤ xs.length → Pv i σ H' → Same H H')
    (hs : ∀ i x σ H, xs[i]? = some x → Pv i σ H → g x σ H fun σ2 H2 => tb { D with nx := Pv (i + 1), ct := Pv (i + 1), bk := D.nx } σ2 H2) (hd : ∀ σ H, Pv xs.length σ H → D.nx σ H) :
    ((∃ xs, SqL K H a xs) ∧ ∃ W : Nat → Nat → L2.St → Hp → Prop, (∃ m, W 0 m σ H) ∧ ∀ i m σ H, W i m σ H → ((Itl K a).stop i H ∧ D.nx σ H) ∨ ((Itl K a).go i H ∧ ∃ N : L2.St → Hp → Prop, (∀ σ' H', N σ' H' → ∃ m', m' < m ∧ W (i + 1) m' σ' H') ∧ ∀ x H', (Itl K a).yld i H x H' → g x σ H' fun σ2 H2 => tb { D with nx := N, ct := N, bk := D.nx } σ2 H2)) ∨
    ((∃ xs, SqT K H a xs) ∧ ∃ W : Nat → Nat → L2.St → Hp → Prop, (∃ m, W 0 m σ H) ∧ ∀ i m σ H, W i m σ H → ((Itt K a).stop i H ∧ D.nx σ H) ∨ ((Itt K a).go i H ∧ ∃ N : L2.St → Hp → Prop, (∀ σ' H', N σ' H' → ∃ m', m' < m ∧ W (i + 1) m' σ' H') ∧ ∀ x H', (Itt K a).yld i H x H' → g x σ H' fun σ2 H2 => tb { D with nx := N, ct := N, bk := D.nx } σ2 H2)) := by
  rcases h with h | h
  · exact .inl ⟨⟨xs, h⟩, for_list (K := K) (a := a) (xs := xs) Pv h0 (fun i σ H' hi p => (hl i σ H' hi p).seq h) hs hd⟩
  · exact .inr ⟨⟨xs, h⟩, for_tup (K := K) (a := a) (xs := xs) Pv h0 (fun i σ H' hi p => sTup (hl i σ H' hi p) h) hs hd⟩
/-! ### isinstance -/
def rIs (K : PySem.W.Frag) (T : String) : List V → Hp → VK → Prop := fun xs H Q => ∃ (x : V) (n : String) (b : Bool), xs = [x, .ty T] ∧ TyX K H x (.type n) ∧ kitB n T = some b ∧ Q (.bl b) H
theorem call_is {X : Cx} (T : String) : CallR X (.builtin "isinstance") (rIs X.K T) := fun pins s σ H xs us Q I r ⟨x, n, b, e, t, k, q⟩ => call_isi pins s σ H xs us Q I r ⟨x, .ty T, .type n, .type T, b, e, .ty T, t, kit_ty k, q⟩
theorem ty_int {K : PySem.W.Frag} {H : Hp} (i : Int) : TyX K H (.int i) (.type "int") := .base (.int i)
theorem ty_str {K : PySem.W.Frag} {H : Hp} (z : Str) : TyX K H (.str z) (.type "str") := .base (.str z)
theorem ty_non {K : PySem.W.Frag} {H : Hp} : TyX K H .non (.type "NoneType") := .base .non
theorem ty_bl {K : PySem.W.Frag} {H : Hp} (b : Bool) : TyX K H (.bl b) (.type "bool") := .base (.bl b)
theorem ty_lst {K : PySem.W.Frag} {H : Hp} {a : Addr} {xs : List V} (h : H a = some (.lst xs)) : TyX K H (.ref a) (.type "list") := .base (.lst h)
theorem ty_tup {K : PySem.W.Frag} {H : Hp} {a : Addr} {xs : List V} (h : H a = some (.tup xs)) : TyX K H (.ref a) (.type "tuple") := .base (.tup h)
theorem ty_sy {K : PySem.W.Frag} {H : Hp} (s : Sy) : ∃ n b, TyX K H s.v (.type n) ∧ kitB n "str" = some b ∧ b = !isL s := by
  cases s with
  | l k => exact ⟨_, _, ty_int _, (by decide +kernel : kitB "int" "str" = some false), rfl⟩
  | p => exact ⟨_, _, ty_str _, (by decide +kernel : kitB "str" "str" = some true), rfl⟩
  | m => exact ⟨_, _, ty_str _, (by decide +kernel : kitB "str" "str" = some true), rfl⟩
  | o => exact ⟨_, _, ty_str _, (by decide +kernel : kitB "str" "str" = some true), rfl⟩
  | c => exact ⟨_, _, ty_str _, (by decide +kernel : kitB "str" "str" = some true), rfl⟩
section
variable {X : Cx}
/-- isinstance(e, T), T a built-in type by its name -/
theorem pis {e : Expr} {te : TE} {p p2 pos : Pos} {x : Str} (T : String) (hv : bootBuiltins x = some (.type T)) (mI : X.mg "isinstance" = none) (mT : X.mg x = none) (h : PE X e te) (hg : Gl X "isinstance" := by rfl) (hgx : Gl X x := by rfl) (hn : x ≠ "__name__" := by decide) (hdb : (x == ("__debug__" : Str)) = false := by decide)
    (hs2 : starEach [.Name x p2] X.env = (false, eval (.Name x p2) X.env) :: starEach [] X.env := by rfl) (hs1 : starEach [e, .Name x p2] X.env = (false, eval e X.env) :: starEach [.Name x p2] X.env := by rfl) (hp1 : (backTo pos (starEach [.Name x p2] X.env)).any (·.1) = false := by rfl) :
    PE X (.Call (.Name "isinstance" p) [e, .Name x p2] [] pos) (tCB (rIs X.K T) (tCons te (tCons (tC (.ty T)) tNil))) :=
  pe_callB (call_is T) hg mI (by decide +kernel) (pa_cons h (pa_cons (pe_bltn (v := .ty T) hgx mT hv rfl hn hdb) pa_nil hs2) hs1) (by decide) (by decide) hs1 hp1
/-- not isinstance(part, str) of a sign -/
def tSyTest (te : TE) : TT := fun σ H Q => te σ H fun x H1 => ∃ s : Sy, x = s.v ∧ Q (isL s) H1
theorem ptNotStr {e : Expr} {te : TE} {p p2 pos pos2 : Pos} (mI : X.mg "isinstance" = none) (mS : X.mg "str" = none) (h : PE X e te) (hg : Gl X "isinstance" := by rfl) (hgx : Gl X "str" := by rfl)
    (hs2 : starEach [.Name "str" p2] X.env = (false, eval (.Name "str" p2) X.env) :: starEach [] X.env := by rfl) (hs1 : starEach [e, .Name "str" p2] X.env = (false, eval e X.env) :: starEach [.Name "str" p2] X.env := by rfl) (hp1 : (backTo pos (starEach [.Name "str" p2] X.env)).any (·.1) = false := by rfl) :
    PT X (.UnaryOp .Not (.Call (.Name "isinstance" p) [e, .Name "str" p2] [] pos) pos2) (fun σ H Q => tCB (rIs X.K "str") (tCons te (tCons (tC (.ty "str")) tNil)) σ H fun x H1 => ∃ k, x = .bl k ∧ Q (!k) H1) := by
  have a := pis (X := X) (p := p) (p2 := p2) (pos := pos) "str" (by decide +kernel) mI mS h hg hgx (by decide) (by decide) hs2 hs1 hp1
  exact pt_not (pt_val a)
end
end SK
namespace SK
open PySem PySem.Spec PyProof.Rows L2
/-! ### growth -/
def img (ws : List (List Sy)) : Sy → List Sy
  | .l k => ws.getD k []
  | s => [s]
def grow (ws : List (List Sy)) (w : List Sy) : List Sy := w.flatMap (img ws)
def grown (ws : List (List Sy)) (st : List Sy) : Nat → List Sy
  | 0 => st
  | n + 1 => grow ws (grown ws st n)
theorem grow_app (ws : List (List Sy)) (a b : List Sy) : grow ws (a ++ b) = grow ws a ++ grow ws b := List.flatMap_append
theorem any_pos {w : List Sy} (h : w.any isL = true) : 1 ≤ w.length := by
  cases w with
  | nil => cases h
  | cons _ _ => simp
theorem img_lets {ws : List (List Sy)} (hg : ∀ w ∈ ws, Good ws.length 40 w) {s : Sy} (hs : ∀ k, s = .l k → k < ws.length) : ∀ k, Sy.l k ∈ img ws s → k < ws.length := by
  intro k hk
  cases s with
  | l j =>
    have hj := hs j rfl
    have e : img ws (.l j) = ws[j] := by
      show ws.getD j [] = ws[j]
      rw [List.getD_eq_getElem?_getD, List.getElem?_eq_getElem hj]; rfl
    rw [e] at hk
    exact (hg _ (List.getElem_mem hj)).lets k hk
  | p => cases List.mem_singleton.mp hk
  | m => cases List.mem_singleton.mp hk
  | o => cases List.mem_singleton.mp hk
  | c => cases List.mem_singleton.mp hk
theorem grow_lets {ws : List (List Sy)} (hg : ∀ w ∈ ws, Good ws.length 40 w) {w : List Sy} (hw : ∀ k, Sy.l k ∈ w → k < ws.length) : ∀ k, Sy.l k ∈ grow ws w → k < ws.length := by
  intro k hk
  obtain ⟨s, hs, h⟩ := List.mem_flatMap.mp hk
  exact img_lets hg (fun j e => hw j (e ▸ hs)) k h
theorem grown_lets {ws : List (List Sy)} {st : List Sy} (h : GoodBook ws st) : ∀ n k, Sy.l k ∈ grown ws st n → k < ws.length
  | 0 => h.start.lets
  | n + 1 => grow_lets h.words (grown_lets h n)
theorem img_pos {ws : List (List Sy)} (hg : ∀ w ∈ ws, Good ws.length 40 w) {s : Sy} (hs : ∀ k, s = .l k → k < ws.length) : 1 ≤ (img ws s).length ∧ (img ws s).length ≤ 40 := by
  cases s with
  | l j =>
    have hj := hs j rfl
    have e : img ws (.l j) = ws[j] := by
      show ws.getD j [] = ws[j]
      rw [List.getD_eq_getElem?_getD, List.getElem?_eq_getElem hj]; rfl
    rw [e]
    have := hg _ (List.getElem_mem hj)
    exact ⟨any_pos this.has, this.len⟩
  | p => exact ⟨Nat.le_refl _, (by decide : 1 ≤ 40)⟩
  | m => exact ⟨Nat.le_refl _, (by decide : 1 ≤ 40)⟩
  | o => exact ⟨Nat.le_refl _, (by decide : 1 ≤ 40)⟩
  | c => exact ⟨Nat.le_refl _, (by decide : 1 ≤ 40)⟩
theorem grow_le {ws : List (List Sy)} (hg : ∀ w ∈ ws, Good ws.length 40 w) : ∀ {w : List Sy}, (∀ k, Sy.l k ∈ w → k < ws.length) → w.length ≤ (grow ws w).length
  | [], _ => Nat.zero_le _
  | s :: w, h => by
    have ih := grow_le hg (w := w) fun k hk => h k (List.mem_cons_of_mem _ hk)
    have h1 := (img_pos hg (s := s) fun k e => h k (e ▸ List.mem_cons_self)).1
    show w.length + 1 ≤ (img ws s ++ grow ws w).length
    rw [List.length_append]
    omega
theorem grown_mono {ws : List (List Sy)} {st : List Sy} (h : GoodBook ws st) : ∀ {m n : Nat}, m ≤ n → (grown ws st m).length ≤ (grown ws st n).length
  | m, 0, e => by rw [Nat.le_zero.mp e]; exact Nat.le_refl _
  | m, n + 1, e => by
    rcases Nat.lt_or_ge n m with q | q
    · have : m = n + 1 := by omega
      rw [this]; exact Nat.le_refl _
    · exact Nat.le_trans (grown_mono h q) (grow_le h.words (grown_lets h n))
/-- a piece of a word grown is no longer than the whole -/
theorem grow_take {ws : List (List Sy)} (w : List Sy) (i : Nat) : (grow ws (w.take i)).length ≤ (grow ws w).length := by
  have e : grow ws w = grow ws (w.take i) ++ grow ws (w.drop i) := by rw [← grow_app, List.take_append_drop]
  rw [e, List.length_append]
  omega
theorem take_more {α : Type} : ∀ {l : List α} {i : Nat} {x : α}, l[i]? = some x → l.take (i + 1) = l.take i ++ [x]
  | [], i, x, h => by simp at h
  | a :: l, 0, x, h => by
    have e : a = x := Option.some.inj h
    subst e
    rfl
  | a :: l, i + 1, x, h => by
    have ih := take_more (l := l) (i := i) (x := x) h
    show a :: l.take (i + 1) = a :: l.take i ++ [x]
    rw [ih]
    rfl
theorem paired_get {α β : Type} {F : α → β → Prop} : ∀ {xs : List α} {ys : List β} {i : Nat} {y : β}, Paired F xs ys → ys[i]? = some y → ∃ x, xs[i]? = some x ∧ F x y
  | _, _, _, _, .nil, e => by simp at e
  | _, _, 0, _, .cons r _, e => by simp at e; subst e; exact ⟨_, rfl, r⟩
  | _, _, i + 1, y, .cons _ t, e => by
    obtain ⟨u, h1, h2⟩ := paired_get (i := i) (y := y) t (by simpa using e)
    exact ⟨u, by simpa using h1, h2⟩
theorem wv_get {w : List Sy} {i : Nat} {x : V} (h : (wv w)[i]? = some x) : ∃ s, w[i]? = some s ∧ x = s.v := by
  rw [List.getElem?_map] at h
  cases e : w[i]? with
  | none => rw [e] at h; cases h
  | some s => rw [e] at h; exact ⟨s, rfl, (Option.some.inj h).symm⟩
def spGrown (K : PySem.W.Frag) : Sp := fun vs H Q _ => ∃ (b : Addr) (n : Nat) (ws : List (List Sy)) (st : List Sy), vs = [.ref b, .int n] ∧ BookAt H b ws st ∧ GoodBook ws st ∧ n ≤ 1000 ∧ (grown ws st n).length ≤ 4000000 ∧
  New (.lst (wv (grown ws st n))) H Q
/-- what one sign is replaced by: its word's items in a new list, or itself alone -/
def tImg (ws : List (List Sy)) (st : List Sy) : TE := fun σ H Q => ∃ (b : Addr) (s : Sy), σ[0]? = some (some (.ref b)) ∧ σ[5]? = some (some s.v) ∧ BookAt H b ws st ∧ (∀ k, s = .l k → k < ws.length) ∧ New (.lst (wv (img ws s))) H Q
section
variable {P : Program} {w : World} {K : PySem.W.Frag} {mg : Str → Option Value} {base : Heap}
theorem ok_grown {f : Addr} {fd : FuncData} {k : Nat} (F : Fun K "_law_grown" "_law_grown" s_law_grown f fd) (mR : mg "range" = none) (mL : mg "list" = none) (mI : mg "isinstance" = none) (mS : mg "str" = none) :
    FnOk P w K mg base CX0 (k + 1) f fd ["book", "age"] (spGrown K) := by
  refine F.ok sc_law_grown (fun vs H Q E h => ?_) (fun cdv A outer s H vs Q E hr h => ?_)
  · obtain ⟨b, n, ws, st, rfl, _⟩ := h
    rfl
  · obtain ⟨b, n, ws, st, rfl, hb, hg, hn, hlen, q⟩ := h
    have nd := sc_law_grown.nd
    refine ⟨_, pss_cons (ps_set (i := 2) nd rfl (.inl rfl) (pixT (pv 0) pe_int))
      (pss_cons (ps_for PassesOwn.never rfl (pi_range1 rfl mR (pa_cons (pv 1) pa_nil)) (pg_name (i := 3) nd rfl (.inl rfl))
        (pss_cons (ps_set (i := 4) nd rfl (.inl rfl) (plstN pa_nil))
        (pss_cons (ps_for PassesOwn.never rfl (pi_seq (pv 2)) (pg_name (i := 5) nd rfl (.inl rfl))
          (pss_one (ps_set (i := 4) nd rfl (.inl rfl) (pcatN (pv 4) (pimp (tImg ws st) (pe_ifExp (ptNotStr mI mS (pv 5)) (plistN mL (pixT (pixT (pv 0) pe_int) (pv 5))) (plstN (pa_cons (pv 5) pa_nil))) ?img)))))
        (pss_one (ps_set (i := 2) nd rfl (.inl rfl) (pv 4))))))
      (pss_one (ps_ret (plistN mL (pv 2))))), ?_⟩
    case img =>
      rintro σ H Q ⟨b, s, e0, e5, ⟨p, pq, as, h1, h2, h3, h4⟩, hs, q⟩
      obtain ⟨tn, tb, ht, hk, htb⟩ := ty_sy (K := K) (H := H) s
      refine ⟨_, e5, s.v, tn, tb, rfl, ht, hk, tb, rfl, ?_⟩
      subst htb
      cases s with
      | l j =>
        obtain ⟨a, ha1, ha2⟩ := paired_get h4 (List.getElem?_eq_getElem (hs j rfl))
        refine ⟨_, e0, b, _, _, _, rfl, rfl, SqT.of h1, at0, _, e5, p, _, _, .ref a, rfl, rfl, SqT.of h2, atI_nat ?_, a, _, rfl, .inr ha2.sq, ?_⟩
        · rw [List.getElem?_map, ha1]; rfl
        · have e : img ws (.l j) = ws[j]'(hs j rfl) := by
            show ws.getD j [] = _
            rw [List.getD_eq_getElem?_getD, List.getElem?_eq_getElem (hs j rfl)]; rfl
          rw [← e]
          exact q
      | p => exact ⟨_, e5, szl 1, q⟩
      | m => exact ⟨_, e5, szl 1, q⟩
      | o => exact ⟨_, e5, szl 1, q⟩
      | c => exact ⟨_, e5, szl 1, q⟩
    obtain ⟨p, pq, as, h1, h2, h3, h4⟩ := id hb
    refine ⟨_, rfl, b, _, _, _, rfl, rfl, SqT.of h1, at1, ?_⟩
    refine ⟨_, rfl, (n : Int), rfl, by omega, by omega, ?_⟩
    rw [Int.toNat_natCast]
    refine for_range (lo := 0) (n := n) (fun i σ H' => ∃ (a : Addr) (y3 y4 y5 : Option V), σ = [some (.ref b), some (.int n), some (.ref a), y3, y4, y5] ∧ Same H H' ∧ Sq K H' a (wv (grown ws st i)))
      ⟨pq, _, _, _, rfl, Same.refl H, .inr h3.sq⟩ ?_ ?_
    · rintro i σ H1 hi ⟨a, y3, y4, y5, rfl, S1, ha⟩
      have l1 : (grown ws st (i + 1)).length ≤ 4000000 := Nat.le_trans (grown_mono hg (by omega)) hlen
      refine ⟨szl 0, fun H2 fa S2 n2 h2 => ?_⟩
      have hb2 : BookAt H2 b ws st := (hb.keep (.of S1)).keep (.of S2)
      refine ⟨a, rfl, for_seq (ha.same S2) (fun j σ H' => ∃ (fa : Addr) (y5 : Option V), σ = [some (.ref b), some (.int n), some (.ref a), some (.int (0 + (i : Int))), some (.ref fa), y5] ∧ Same H2 H' ∧ H' fa = some (.lst (wv (grow ws ((grown ws st i).take j)))))
        ⟨fa, _, rfl, Same.refl _, h2⟩ (fun j σ H' _ ⟨_, _, _, s, _⟩ => s) ?_ ?_⟩
      · rintro j x σ H3 hx ⟨fa, y5, rfl, S3, h3⟩
        obtain ⟨s, hs, rfl⟩ := wv_get hx
        have lj : (grow ws ((grown ws st i).take (j + 1))).length ≤ 4000000 := Nat.le_trans (grow_take _ _) l1
        rw [take_more hs, grow_app] at lj
        have e1 : grow ws [s] = img ws s := by simp [grow]
        rw [e1, List.length_append] at lj
        refine ⟨_, rfl, b, s, rfl, rfl, hb2.keep (.of S3), fun k e => grown_lets hg i k (by rw [← e]; exact List.mem_of_getElem? hs), fun H4 p4 S4 n4 h4 => ?_⟩
        refine ⟨fa, p4, _, _, rfl, rfl, S4 _ _ h3, h4, szl _ (by simp only [List.length_map]; omega), fun H5 p5 S5 n5 h5 => ?_⟩
        refine ⟨p5, _, rfl, (S3.trans S4).trans S5, ?_⟩
        rw [h5, take_more hs, grow_app, e1]
        simp only [wv, List.map_append]
      · rintro σ H3 ⟨fa, y5, rfl, S3, h3⟩
        refine ⟨_, rfl, fa, _, _, _, rfl, (S1.trans S2).trans S3, .inl (SqL.of ?_)⟩
        rw [h3, List.length_map, List.take_length]
        rfl
    · rintro σ H1 ⟨a, y3, y4, y5, rfl, S1, ha⟩
      exact ⟨_, rfl, a, _, rfl, ha, fun H2 p S2 n2 h2 => q H2 p (S1.trans S2) (S1.free n2) h2⟩
end
end SK
namespace SK
open PySem PySem.Spec PyProof.Rows L2
/-! ### how long words grow -/
theorem img_slim {ws : List (List Sy)} (hg : ∀ w ∈ ws, Good ws.length 40 w) {s : Sy} (hs : ∀ k, s = .l k → k < ws.length) : (img ws s).length + 7 * nL [s] ≤ 8 * nL (img ws s) + 1 := by
  cases s with
  | l j =>
    have hj := hs j rfl
    have e : img ws (.l j) = ws[j] := by
      show ws.getD j [] = ws[j]
      rw [List.getD_eq_getElem?_getD, List.getElem?_eq_getElem hj]; rfl
    rw [e]
    have := (hg _ (List.getElem_mem hj)).slim
    have e1 : nL [Sy.l j] = 1 := rfl
    omega
  | p => exact (by decide : 1 + 7 * 0 ≤ 8 * 0 + 1)
  | m => exact (by decide : 1 + 7 * 0 ≤ 8 * 0 + 1)
  | o => exact (by decide : 1 + 7 * 0 ≤ 8 * 0 + 1)
  | c => exact (by decide : 1 + 7 * 0 ≤ 8 * 0 + 1)
theorem grow_slim {ws : List (List Sy)} (hg : ∀ w ∈ ws, Good ws.length 40 w) : ∀ {w : List Sy}, (∀ k, Sy.l k ∈ w → k < ws.length) → (grow ws w).length + 7 * nL w ≤ 8 * nL (grow ws w) + w.length
  | [], _ => Nat.zero_le _
  | s :: w, h => by
    have ih := grow_slim hg (w := w) fun k hk => h k (List.mem_cons_of_mem _ hk)
    have h1 := img_slim hg (s := s) fun k e => h k (e ▸ List.mem_cons_self)
    have e1 : grow ws (s :: w) = img ws s ++ grow ws w := rfl
    have e2 : nL (s :: w) = nL [s] + nL w := nL_app [s] w
    rw [e1, List.length_append, nL_app, e2, List.length_cons]
    omega
theorem grow_40 {ws : List (List Sy)} (hg : ∀ w ∈ ws, Good ws.length 40 w) : ∀ {w : List Sy}, (∀ k, Sy.l k ∈ w → k < ws.length) → (grow ws w).length ≤ 40 * w.length
  | [], _ => Nat.zero_le _
  | s :: w, h => by
    have ih := grow_40 hg (w := w) fun k hk => h k (List.mem_cons_of_mem _ hk)
    have h1 := (img_pos hg (s := s) fun k e => h k (e ▸ List.mem_cons_self)).2
    have e1 : grow ws (s :: w) = img ws s ++ grow ws w := rfl
    rw [e1, List.length_append, List.length_cons]
    omega
theorem nL_le (w : List Sy) : nL w ≤ w.length := List.length_filter_le _ _
theorem grown_len {ws : List (List Sy)} {st : List Sy} {M : Nat} (h : GoodBook ws st) : ∀ n, (∀ a, a < n → nL (grown ws st a) ≤ M) → (grown ws st n).length ≤ 8 * nL (grown ws st n) + 40 + M * n
  | 0, _ => by have := h.start.len; show st.length ≤ _; omega
  | n + 1, ha => by
    have ih := grown_len h n fun a hl => ha a (by omega)
    have h1 := grow_slim h.words (grown_lets h n)
    have h2 := ha n (by omega)
    show (grow ws (grown ws st n)).length ≤ 8 * nL (grow ws (grown ws st n)) + 40 + M * (n + 1)
    rw [Nat.mul_succ]
    omega
/-- at an age that the law draws -/
def Low (M : Nat) (ws : List (List Sy)) (st : List Sy) (n : Nat) : Prop := n ≤ 8 ∧ ∀ a, a ≤ n → nL (grown ws st a) ≤ M
theorem Low.mono {M : Nat} {ws : List (List Sy)} {st : List Sy} {m n : Nat} (h : Low M ws st n) (l : m ≤ n) : Low M ws st m := ⟨Nat.le_trans l h.1, fun a ha => h.2 a (Nat.le_trans ha l)⟩
theorem Low.len {M : Nat} {ws : List (List Sy)} {st : List Sy} {n : Nat} (g : GoodBook ws st) (h : Low M ws st n) : (grown ws st n).length ≤ 16 * M + 40 := by
  have h1 := grown_len (M := M) g n fun a ha => h.2 a (by omega)
  have h2 := h.2 n (Nat.le_refl _)
  have h3 : M * n ≤ M * 8 := Nat.mul_le_mul_left M h.1
  omega
theorem Low.zero {M : Nat} {ws : List (List Sy)} {st : List Sy} (g : GoodBook ws st) (hM : 40 ≤ M) : Low M ws st 0 := ⟨Nat.zero_le _, fun a ha => by
  have e : a = 0 := by omega
  subst e
  have := nL_le st
  have := g.start.len
  show nL st ≤ M
  omega⟩
/-- the test of the names that stand in the i-th slot -/
def tNotStr (K : PySem.W.Frag) (i : Nat) : TT := fun σ H Q => tCB (rIs K "str") (tCons (tVar i) (tCons (tC (.ty "str")) tNil)) σ H fun x H1 => ∃ k, x = .bl k ∧ Q (!k) H1
end SK
namespace SK
open PySem PySem.Spec PyProof.Rows L2
/-! ### the pen -/
abbrev Stk := Int × Int × Int × Nat
structure Pen where
  x : Int
  y : Int
  h : Int
  st : List (Int × Int × Int)
  out : List Stk
def dir (h : Int) : Int × Int := if h = 0 then (1, 0) else if h = 1 then (0, 1) else if h = 2 then (-1, 0) else (0, -1)
def pstep (p : Pen) : Sy → Pen
  | .o => { p with st := p.st ++ [(p.x, p.y, p.h)] }
  | .c => match p.st.getLast? with
    | some (a, b, c) => { p with x := a, y := b, h := c, st := p.st.dropLast }
    | none => p
  | .p => { p with h := (p.h + 1) % 4 }
  | .m => { p with h := (p.h + 3) % 4 }
  | .l k => { p with out := p.out ++ [(p.x, p.y, p.h, k)], x := p.x + (dir p.h).1, y := p.y + (dir p.h).2 }
def pen (w : List Sy) : Pen := w.foldl pstep ⟨0, 0, 0, [], []⟩
def strokes (w : List Sy) : List Stk := (pen w).out
theorem pen_snoc (v : List Sy) (s : Sy) : pen (v ++ [s]) = pstep (pen v) s := by
  unfold pen
  rw [List.foldl_append]
  rfl
structure PenOk (v : List Sy) : Prop where
  nst : nest v 0 = some (pen v).st.length
  h : 0 ≤ (pen v).h ∧ (pen v).h < 4
  st : ∀ q ∈ (pen v).st, 0 ≤ q.2.2 ∧ q.2.2 < 4
  out : ∀ q ∈ (pen v).out, 0 ≤ q.2.2.1 ∧ q.2.2.1 < 4
  len : (pen v).out.length ≤ v.length ∧ (pen v).st.length ≤ v.length
theorem penOk_nil : PenOk [] := ⟨rfl, ⟨by decide, by decide⟩, (fun q h => nomatch h), (fun q h => nomatch h), ⟨Nat.le_refl _, Nat.le_refl _⟩⟩
theorem penOk_snoc {v : List Sy} {s : Sy} (p : PenOk v) (h : nest (v ++ [s]) 0 ≠ none) : PenOk (v ++ [s]) := by
  rw [nest_app, p.nst] at h
  have e : nest (v ++ [s]) 0 = nest [s] (pen v).st.length := by rw [nest_app, p.nst]; rfl
  have hl : (v ++ [s]).length = v.length + 1 := by simp
  cases s with
  | o =>
    refine ⟨?_, ?_, ?_, ?_, ?_⟩
    · rw [e, pen_snoc]
      show some ((pen v).st.length + 1) = some ((pen v).st ++ [_]).length
      rw [List.length_append]; rfl
    · rw [pen_snoc]; exact p.h
    · rw [pen_snoc]
      intro q hq
      rcases List.mem_append.mp hq with h | h
      · exact p.st q h
      · rw [List.mem_singleton.mp h]; exact p.h
    · rw [pen_snoc]; exact p.out
    · rw [pen_snoc, hl]
      have := p.len
      exact ⟨Nat.le_succ_of_le this.1, by show ((pen v).st ++ [_]).length ≤ _; rw [List.length_append, List.length_singleton]; omega⟩
  | c =>
    cases hs : (pen v).st.getLast? with
    | none =>
      rw [List.getLast?_eq_none_iff] at hs
      rw [hs] at h
      exact absurd rfl h
    | some t =>
      obtain ⟨a, b, c⟩ := t
      have e2 : pstep (pen v) .c = { pen v with x := a, y := b, h := c, st := (pen v).st.dropLast } := by
        show (match (pen v).st.getLast? with
          | some (a, b, c) => { pen v with x := a, y := b, h := c, st := (pen v).st.dropLast }
          | none => pen v) = _
        rw [hs]
      have hm : (a, b, c) ∈ (pen v).st := List.mem_of_getLast? hs
      have hne : (pen v).st ≠ [] := fun z => by rw [z] at hm; cases hm
      have hpos : 1 ≤ (pen v).st.length := List.length_pos_iff.mpr hne
      refine ⟨?_, ?_, ?_, ?_, ?_⟩
      · rw [e, pen_snoc, e2]
        show nest [.c] (pen v).st.length = some (pen v).st.dropLast.length
        rw [List.length_dropLast]
        obtain ⟨d, hd⟩ : ∃ d, (pen v).st.length = d + 1 := ⟨_, (Nat.sub_add_cancel hpos).symm⟩
        rw [hd]
        rfl
      · rw [pen_snoc, e2]; exact p.st _ hm
      · rw [pen_snoc, e2]; intro q hq; exact p.st q (List.dropLast_subset _ hq)
      · rw [pen_snoc, e2]; exact p.out
      · rw [pen_snoc, e2, hl]
        have := p.len
        exact ⟨Nat.le_succ_of_le this.1, by show (pen v).st.dropLast.length ≤ _; rw [List.length_dropLast]; omega⟩
  | p =>
    refine ⟨by rw [e, pen_snoc]; rfl, ?_, ?_, ?_, ?_⟩
    · rw [pen_snoc]; exact ⟨by show 0 ≤ ((pen v).h + 1) % 4; omega, by show ((pen v).h + 1) % 4 < 4; omega⟩
    · rw [pen_snoc]; exact p.st
    · rw [pen_snoc]; exact p.out
    · rw [pen_snoc, hl]; exact ⟨Nat.le_succ_of_le p.len.1, Nat.le_succ_of_le p.len.2⟩
  | m =>
    refine ⟨by rw [e, pen_snoc]; rfl, ?_, ?_, ?_, ?_⟩
    · rw [pen_snoc]; exact ⟨by show 0 ≤ ((pen v).h + 3) % 4; omega, by show ((pen v).h + 3) % 4 < 4; omega⟩
    · rw [pen_snoc]; exact p.st
    · rw [pen_snoc]; exact p.out
    · rw [pen_snoc, hl]; exact ⟨Nat.le_succ_of_le p.len.1, Nat.le_succ_of_le p.len.2⟩
  | l k =>
    refine ⟨by rw [e, pen_snoc]; rfl, ?_, ?_, ?_, ?_⟩
    · rw [pen_snoc]; exact p.h
    · rw [pen_snoc]; exact p.st
    · rw [pen_snoc]
      intro q hq
      rcases List.mem_append.mp (show q ∈ (pen v).out ++ [_] from hq) with h | h
      · exact p.out q h
      · rw [List.mem_singleton.mp h]; exact p.h
    · rw [pen_snoc, hl]
      exact ⟨by show ((pen v).out ++ [_]).length ≤ _; rw [List.length_append, List.length_singleton]; have := p.len.1; omega, Nat.le_succ_of_le p.len.2⟩
/-- a piece of a word whose branches end -/
theorem nest_take {w : List Sy} (h : nest w 0 ≠ none) (i : Nat) : nest (w.take i) 0 ≠ none := by
  intro z
  apply h
  rw [← List.take_append_drop i w, nest_app, z]
  rfl
theorem penOk_take {w : List Sy} (h : nest w 0 ≠ none) : ∀ i, i ≤ w.length → PenOk (w.take i)
  | 0, _ => penOk_nil
  | i + 1, hi => by
    have e : w[i]? = some w[i] := List.getElem?_eq_getElem (by omega)
    rw [take_more e]
    exact penOk_snoc (penOk_take h i (by omega)) (by rw [← take_more e]; exact nest_take h (i + 1))
theorem pen_take {w : List Sy} {i : Nat} {s : Sy} (h : w[i]? = some s) : pen (w.take (i + 1)) = pstep (pen (w.take i)) s := by rw [take_more h, pen_snoc]
/-! ### strokes in the heap -/
def stV (s : Stk) : List V := [.int s.1, .int s.2.1, .int s.2.2.1, .int s.2.2.2]
def plV (q : Int × Int × Int) : List V := [.int q.1, .int q.2.1, .int q.2.2]
def Strs (H : Hp) (as : List Addr) (ss : List Stk) : Prop := Paired (fun a s => H a = some (.tup (stV s))) as ss
def Pls (H : Hp) (as : List Addr) (ss : List (Int × Int × Int)) : Prop := Paired (fun a s => H a = some (.tup (plV s))) as ss
theorem Strs.keep {H H' : Hp} {as : List Addr} {ss : List Stk} (s : TupS H H') (h : Strs H as ss) : Strs H' as ss := Paired.mono (fun a w e => s.1 a _ e) h
theorem Pls.keep {H H' : Hp} {as : List Addr} {ss : List (Int × Int × Int)} (s : TupS H H') (h : Pls H as ss) : Pls H' as ss := Paired.mono (fun a w e => s.1 a _ e) h
theorem paired_last {α β : Type} {F : α → β → Prop} : ∀ {xs : List α} {ys : List β} {y : β}, Paired F xs ys → ys.getLast? = some y → ∃ x, xs.getLast? = some x ∧ F x y ∧ Paired F xs.dropLast ys.dropLast
  | _, _, _, .nil, h => by simp at h
  | _, _, y, .cons r .nil, h => by simp at h; subst h; exact ⟨_, rfl, r, .nil⟩
  | _, _, y, .cons r (.cons (a := a2) (b := b2) (l₁ := l1) (l₂ := l2) r2 t), h => by
    have h' : (b2 :: l2).getLast? = some y := by rw [List.getLast?_cons_cons] at h; exact h
    obtain ⟨x, h1, h2, h3⟩ := paired_last (.cons r2 t) h'
    exact ⟨x, by rw [List.getLast?_cons_cons]; exact h1, h2, .cons r h3⟩
theorem itN {c A B : Prop} [Decidable c] (hc : ¬ c) (h : B) : if decide c = true then A else B := by
  rw [decide_eq_false hc]
  exact iteF h
theorem itY {c A B : Prop} [Decidable c] (hc : c) (h : A) : if decide c = true then A else B := by
  rw [decide_eq_true hc]
  exact iteT h
end SK
namespace SK
open PySem PySem.Spec PyProof.Rows L2
theorem for_seq0 {K : PySem.W.Frag} {a : Addr} {xs : List V} {g : TG} {tb : TS} {D : Ends} {σ : L2.St} {H H0 : Hp} (h : Sq K H0 a xs) (Pv : Nat → L2.St → Hp → Prop) (h0 : Pv 0 σ H) (hl : ∀ i σ H', i ≤ xs.length → Pv i σ H' → Same H0 H')
    (hs : ∀ i x σ H, xs[i]? = some x → Pv i σ H → g x σ H fun σ2 H2 => tb { D with nx := Pv (i + 1), ct := Pv (i + 1), bk := D.nx } σ2 H2) (hd : ∀ σ H, Pv xs.length σ H → D.nx σ H) :
    ((∃ xs, SqL K H a xs) ∧ ∃ W : Nat → Nat → L2.St → Hp → Prop, (∃ m, W 0 m σ H) ∧ ∀ i m σ H, W i m σ H → ((Itl K a).stop i H ∧ D.nx σ H) ∨ ((Itl K a).go i H ∧ ∃ N : L2.St → Hp → Prop, (∀ σ' H', N σ' H' → ∃ m', m' < m ∧ W (i + 1) m' σ' H') ∧ ∀ x H', (Itl K a).yld i H x H' → g x σ H' fun σ2 H2 => tb { D with nx := N, ct := N, bk := D.nx } σ2 H2)) ∨
    ((∃ xs, SqT K H a xs) ∧ ∃ W : Nat → Nat → L2.St → Hp → Prop, (∃ m, W 0 m σ H) ∧ ∀ i m σ H, W i m σ H → ((Itt K a).stop i H ∧ D.nx σ H) ∨ ((Itt K a).go i H ∧ ∃ N : L2.St → Hp → Prop, (∀ σ' H', N σ' H' → ∃ m', m' < m ∧ W (i + 1) m' σ' H') ∧ ∀ x H', (Itt K a).yld i H x H' → g x σ H' fun σ2 H2 => tb { D with nx := N, ct := N, bk := D.nx } σ2 H2)) := by
  rcases h with h | h
  · exact .inl ⟨⟨xs, (hl 0 σ H (Nat.zero_le _) h0).seq h⟩, for_list (K := K) (a := a) (xs := xs) Pv h0 (fun i σ H' hi p => (hl i σ H' hi p).seq h) hs hd⟩
  · exact .inr ⟨⟨xs, sTup (hl 0 σ H (Nat.zero_le _) h0) h⟩, for_tup (K := K) (a := a) (xs := xs) Pv h0 (fun i σ H' hi p => sTup (hl i σ H' hi p) h) hs hd⟩
def spUnit : Sp := fun vs H Q _ => ∃ h : Int, vs = [.int h] ∧ 0 ≤ h ∧ h < 4 ∧ New (.tup [.int (dir h).1, .int (dir h).2]) H Q
def spDrawnL (K : PySem.W.Frag) : Sp := fun vs H Q _ => ∃ (a : Addr) (w : List Sy), vs = [.ref a] ∧ Sq K H a (wv w) ∧ nest w 0 ≠ none ∧ w.length ≤ 1000000 ∧
  ∀ (H' : Hp) (p fa e : Addr) (as : List Addr), Same H H' → H p = none → H' p = some (.tup [.ref fa, .ref e]) → H' fa = some (.lst (as.map V.ref)) → Strs H' as (strokes w) → H fa = none → H' e = some (.tup (plV ((pen w).x, (pen w).y, (pen w).h))) → Q (.ref p) H'
section
variable {P : Program} {w : World} {K : PySem.W.Frag} {mg : Str → Option Value} {base : Heap}
theorem ok_unit {f : Addr} {fd : FuncData} {k : Nat} (F : Fun K "_law_unit" "_law_unit" s_law_unit f fd) (mi : mg "int" = none) : FnOk P w K mg base CX0 (k + 1) f fd ["heading"] spUnit := by
  refine F.ok sc_law_unit (fun vs H Q E h => ?_) (fun cdv A outer s H vs Q E hr h => ?_)
  · obtain ⟨h, rfl, _⟩ := h
    rfl
  · obtain ⟨h, rfl, hz0, hz4, q⟩ := h
    have nd := sc_law_unit.nd
    refine ⟨_, pss_one (ps_ret (pix (plstN (pa_cons (ptupN (pa_cons pe_int (pa_cons pe_int pa_nil))) (pa_cons (ptupN (pa_cons pe_int (pa_cons pe_int pa_nil))) (pa_cons (ptupN (pa_cons (pe_un un_neg pe_int) (pa_cons pe_int pa_nil)))
        (pa_cons (ptupN (pa_cons pe_int (pa_cons (pe_un un_neg pe_int) pa_nil))) pa_nil))))) (pmod (pint mi (pv 0)) pe_int))), ?_⟩
    refine ⟨szl 2, fun H1 a1 s1 n1 h1 => ⟨szl 2, fun H2 a2 s2 n2 h2 => ⟨_, rfl, szl 2, fun H3 a3 s3 n3 h3 => ⟨_, rfl, szl 2, fun H4 a4 s4 n4 h4 => ⟨szl 4, fun H5 a5 s5 n5 h5 => ?_⟩⟩⟩⟩⟩
    refine ⟨_, rfl, .inl ⟨_, rfl, _, _, rfl, rfl, (show (0 : Int) < 4 by decide), ?_⟩⟩
    have e : h = 0 ∨ h = 1 ∨ h = 2 ∨ h = 3 := by omega
    rcases e with rfl | rfl | rfl | rfl
    · exact ⟨a5, _, 0, _, rfl, rfl, SqL.of h5, at0, q H5 a1 ((((s1.trans s2).trans s3).trans s4).trans s5) n1 (((s2.trans s3).trans (s4.trans s5)) _ _ h1)⟩
    · exact ⟨a5, _, 1, _, rfl, rfl, SqL.of h5, at1, q H5 a2 ((((s1.trans s2).trans s3).trans s4).trans s5) (s1.free n2) ((s3.trans (s4.trans s5)) _ _ h2)⟩
    · exact ⟨a5, _, 2, _, rfl, rfl, SqL.of h5, at2, q H5 a3 ((((s1.trans s2).trans s3).trans s4).trans s5) ((s1.trans s2).free n3) ((s4.trans s5) _ _ h3)⟩
    · exact ⟨a5, _, 3, _, rfl, rfl, SqL.of h5, at3, q H5 a4 ((((s1.trans s2).trans s3).trans s4).trans s5) (((s1.trans s2).trans s3).free n4) (s5 _ _ h4)⟩
theorem ok_drawnL {f : Addr} {fd : FuncData} {k : Nat} (F : Fun K "_law_drawn" "_law_drawn" s_law_drawn f fd) (GU : Got P w K mg base "_law_unit" k ["heading"] spUnit) (mi : mg "int" = none) (mI : mg "isinstance" = none) (mS : mg "str" = none) :
    FnOk P w K mg base CX0 (k + 1) f fd ["word"] (spDrawnL K) := by
  refine F.ok sc_law_drawn (fun vs H Q E h => ?_) (fun cdv A outer s H vs Q E hr h => ?_)
  · obtain ⟨a, w, rfl, _⟩ := h
    rfl
  · obtain ⟨a, w, rfl, hw, hn, hl, q⟩ := h
    have nd := sc_law_drawn.nd
    refine ⟨_, pss_cons (ps_asg (ptupN (pa_cons pe_int (pa_cons pe_int (pa_cons pe_int (pa_cons (plstN pa_nil) (pa_cons (plstN pa_nil) pa_nil))))))
        (pg_tup (by rfl) (pgs_cons (pg_name (i := 1) nd rfl (.inl rfl)) (pgs_cons (pg_name (i := 2) nd rfl (.inl rfl)) (pgs_cons (pg_name (i := 3) nd rfl (.inl rfl)) (pgs_cons (pg_name (i := 4) nd rfl (.inl rfl)) (pgs_cons (pg_name (i := 5) nd rfl (.inl rfl)) pgs_nil)))))))
      (pss_cons (ps_for PassesOwn.never rfl (pi_seq (pv 0)) (pg_name (i := 6) nd rfl (.inl rfl))
        (pss_one (ps_if (pt_cmpR op_eq (pv 6) pe_str (nomark _)) (pss_one (sapp (pv 5) (ptupN (pa_cons (pv 1) (pa_cons (pv 2) (pa_cons (pv 3) pa_nil))))))
          (pss_one (ps_if (pt_cmpR op_eq (pv 6) pe_str (nomark _))
              (pss_one (ps_asg (pe_bm0 PySem.F.plainAttrs_list PySem.F.slot_list_pop PySem.F.type_list_pop mt_pop (pv 5)) (pg_tup (by rfl) (pgs_cons (pg_name (i := 1) nd rfl (.inl rfl)) (pgs_cons (pg_name (i := 2) nd rfl (.inl rfl)) (pgs_cons (pg_name (i := 3) nd rfl (.inl rfl)) pgs_nil))))))
            (pss_one (ps_if (pt_val (pis "str" (by decide +kernel) mI mS (pv 6)))
                (pss_one (ps_set (i := 3) nd rfl (.inl rfl) (pmod (pint mi (padd (pv 3) (pe_ifExp (pt_cmpR op_eq (pv 6) pe_str (nomark _)) pe_int pe_int))) pe_int)))
              (pss_cons (sapp (pv 4) (ptupN (pa_cons (pv 1) (pa_cons (pv 2) (pa_cons (pv 3) (pa_cons (pv 6) pa_nil))))))
              (pss_one (ps_par rfl nd (i := 1) (j := 2) rfl rfl (by decide) rfl rfl (pa_cons (padd (pv 1) (pixT (pcall GU hr (pa_cons (pv 3) pa_nil)) pe_int)) (pa_cons (padd (pv 2) (pixT (pcall GU hr (pa_cons (pv 3) pa_nil)) pe_int)) pa_nil)) (by rfl)))))))))))
      (pss_one (ps_ret (ptupN (pa_cons (pv 4) (pa_cons (ptupN (pa_cons (pv 1) (pa_cons (pv 2) (pa_cons (pv 3) pa_nil)))) pa_nil)))))), ?_⟩
    refine ⟨szl 0, fun H1 fa S1 n1 h1 => ⟨szl 0, fun H2 sa S2 n2 h2 => ⟨szl 5, fun H3 ta S3 n3 h3 => ?_⟩⟩⟩
    refine ⟨ta, _, rfl, SqT.of h3, rfl, _, _, rfl, _, _, rfl, _, _, rfl, _, _, rfl, _, _, rfl, rfl, ?_⟩
    have S03 := (S1.trans S2).trans S3
    have nsa : H sa = none := S1.free n2
    have nfs : fa ≠ sa := ne_of_none h1 n2
    have hf3 := S3 _ _ (S2 _ _ h1)
    have hs3 := S3 _ _ h2
    clear S1 S2 S3 n2 n3 h1 h2 h3
    refine ⟨a, rfl, for_seq0 hw (fun i σ H' => ∃ (y6 : Option V) (as ss : List Addr), σ = [some (.ref a), some (.int (pen (w.take i)).x), some (.int (pen (w.take i)).y), some (.int (pen (w.take i)).h), some (.ref fa), some (.ref sa), y6] ∧
        Same H H' ∧ H' fa = some (.lst (as.map V.ref)) ∧ H' sa = some (.lst (ss.map V.ref)) ∧ Strs H' as (pen (w.take i)).out ∧ Pls H' ss (pen (w.take i)).st)
      ⟨none, [], [], rfl, S03, hf3, hs3, .nil, .nil⟩ (fun i σ H' _ ⟨_, _, _, _, s, _⟩ => s) ?_ ?_⟩
    · rintro i x σ H4 hx ⟨y6, as, ss, rfl, S4, hf, hs, hA, hP⟩
      obtain ⟨s, hsy, rfl⟩ := wv_get hx
      have hi : i < w.length := (List.getElem?_eq_some_iff.mp hsy).1
      have PO := penOk_take hn i (by omega)
      have PO1 := penOk_take hn (i + 1) (by omega)
      have ep := pen_take hsy
      have lt : (w.take i).length ≤ 1000000 := by rw [List.length_take]; omega
      have lA := hA.length
      have lP := hP.length
      have p1 := PO.len
      generalize pen (w.take (i + 1)) = pp at ep
      subst ep
      have nst := PO.nst
      have hst := nest_take hn (i + 1)
      rw [take_more hsy, nest_app, nst] at hst
      have ph := PO.h
      generalize pen (w.take i) = pe at hA hP lA lP p1 nst hst ph
      cases s with
      | o =>
        refine ⟨_, rfl, rfl, _, rfl, itY rfl ⟨_, rfl, .inl ⟨rfl, _, SqL.of hs⟩, _, rfl, _, rfl, _, rfl, szl 3, fun H5 p5 S5 n5 h5 => ⟨sa, _, _, rfl, rfl, S5 _ _ hs, ?_, ?_⟩⟩⟩
        · rw [List.length_map, sizeLine_eq]; omega
        · have hs5 := S5 _ _ hs
          have T5 : TupS H5 (upd H5 sa (.lst (ss.map V.ref ++ [V.ref p5]))) := TupS.refl.lst hs5
          refine ⟨_, as, ss ++ [p5], rfl, sPut (S4.trans S5) nsa, by rw [upd_ne nfs]; exact S5 _ _ hf, by rw [upd_same, List.map_append]; rfl, (hA.keep (.of S5)).keep T5, ?_⟩
          exact Paired.snoc ((hP.keep (.of S5)).keep T5) (T5.1 _ _ h5)
      | c =>
        refine ⟨_, rfl, rfl, _, rfl, itN (by decide) ⟨_, rfl, rfl, _, rfl, itY rfl ?_⟩⟩
        cases hl : pe.st.getLast? with
        | none =>
          rw [List.getLast?_eq_none_iff] at hl
          rw [hl] at hst
          exact absurd rfl hst
        | some t =>
          obtain ⟨tx, ty, th⟩ := t
          obtain ⟨la, g1, g2, g3⟩ := paired_last hP hl
          have e2 : pstep pe .c = { pe with x := tx, y := ty, h := th, st := pe.st.dropLast } := by
            show (match pe.st.getLast? with
              | some (a, b, c) => { pe with x := a, y := b, h := c, st := pe.st.dropLast }
              | none => pe) = _
            rw [hl]
          rw [e2]
          have g1' : (ss.map V.ref)[(ss.map V.ref).length - 1]? = some (V.ref la) := by
            rw [← List.getLast?_eq_getElem?, List.getLast?_map, g1]; rfl
          refine ⟨_, rfl, .inl ⟨rfl, _, SqL.of hs⟩, sa, _, _, rfl, rfl, hs, g1', ?_⟩
          have T5 : TupS H4 (upd H4 sa (.lst (ss.map V.ref).dropLast)) := TupS.refl.lst hs
          refine ⟨la, _, rfl, SqT.of (T5.1 _ _ g2), rfl, _, _, rfl, _, _, rfl, _, _, rfl, rfl, ?_⟩
          refine ⟨_, as, ss.dropLast, rfl, sPut S4 nsa, by rw [upd_ne nfs]; exact hf, by rw [upd_same, List.map_dropLast], hA.keep T5, Pls.keep T5 g3⟩
      | p =>
        refine ⟨_, rfl, rfl, _, rfl, itN (by decide) ⟨_, rfl, rfl, _, rfl, itN (by decide) ⟨_, rfl, _, _, _, rfl, ty_str _, (by decide +kernel : kitB "str" "str" = some true), true, rfl, iteT ?_⟩⟩⟩
        exact ⟨_, rfl, _, rfl, rfl, _, rfl, itY rfl ⟨_, _, rfl, rfl, .inl ⟨_, rfl, _, _, rfl, rfl, (show (0 : Int) < 4 by decide), _, as, ss, rfl, S4, hf, hs, hA, hP⟩⟩⟩
      | m =>
        refine ⟨_, rfl, rfl, _, rfl, itN (by decide) ⟨_, rfl, rfl, _, rfl, itN (by decide) ⟨_, rfl, _, _, _, rfl, ty_str _, (by decide +kernel : kitB "str" "str" = some true), true, rfl, iteT ?_⟩⟩⟩
        exact ⟨_, rfl, _, rfl, rfl, _, rfl, itN (by decide) ⟨_, _, rfl, rfl, .inl ⟨_, rfl, _, _, rfl, rfl, (show (0 : Int) < 4 by decide), _, as, ss, rfl, S4, hf, hs, hA, hP⟩⟩⟩
      | l kk =>
        refine ⟨_, rfl, rfl, _, rfl, itN (fun z => nomatch z) ⟨_, rfl, rfl, _, rfl, itN (fun z => nomatch z) ⟨_, rfl, _, _, _, rfl, ty_int _, (by decide +kernel : kitB "int" "str" = some false), false, rfl, iteF ?_⟩⟩⟩
        refine ⟨_, rfl, .inl ⟨rfl, _, SqL.of hf⟩, _, rfl, _, rfl, _, rfl, _, rfl, szl 4, fun H5 p5 S5 n5 h5 => ⟨fa, _, _, rfl, rfl, S5 _ _ hf, ?_, ?_⟩⟩
        · rw [List.length_map, sizeLine_eq]; omega
        have hf5 := S5 _ _ hf
        have T6 : TupS H5 (upd H5 fa (.lst (as.map V.ref ++ [V.ref p5]))) := TupS.refl.lst hf5
        have S6 : Same H (upd H5 fa (.lst (as.map V.ref ++ [V.ref p5]))) := sPut (S4.trans S5) n1
        have hf6 : (upd H5 fa (.lst (as.map V.ref ++ [V.ref p5]))) fa = some (.lst ((as ++ [p5]).map V.ref)) := by rw [upd_same, List.map_append]; rfl
        have hs6 : (upd H5 fa (.lst (as.map V.ref ++ [V.ref p5]))) sa = some (.lst (ss.map V.ref)) := by rw [upd_ne nfs.symm]; exact S5 _ _ hs
        have hA6 : Strs (upd H5 fa (.lst (as.map V.ref ++ [V.ref p5]))) (as ++ [p5]) (pe.out ++ [(pe.x, pe.y, pe.h, kk)]) := Paired.snoc ((hA.keep (.of S5)).keep T6) (T6.1 _ _ h5)
        have hP6 := (hP.keep (.of S5)).keep T6
        generalize upd H5 fa (.lst (as.map V.ref ++ [V.ref p5])) = H6 at S6 hf6 hs6 hA6 hP6
        refine ⟨_, rfl, _, rfl, pe.h, rfl, ph.1, ph.2, fun H7 p7 S7 n7 h7 => ⟨p7, _, _, _, rfl, rfl, SqT.of h7, at0, _, _, rfl, rfl, _, rfl, _, rfl, pe.h, rfl, ph.1, ph.2, fun H8 p8 S8 n8 h8 => ⟨p8, _, _, _, rfl, rfl, SqT.of h8, at1, _, _, rfl, rfl, _, _, rfl, ?_⟩⟩⟩
        exact ⟨_, as ++ [p5], ss, rfl, (S6.trans S7).trans S8, S8 _ _ (S7 _ _ hf6), S8 _ _ (S7 _ _ hs6), (hA6.keep (.of S7)).keep (.of S8), (hP6.keep (.of S7)).keep (.of S8)⟩
    · rintro σ H4 ⟨y6, as, ss, rfl, S4, hf, hs, hA, hP⟩
      rw [List.length_map, List.take_length] at hA
      refine ⟨_, rfl, _, rfl, _, rfl, _, rfl, szl 3, fun H5 p5 S5 n5 h5 => ⟨szl 2, fun H6 p6 S6 n6 h6 => ?_⟩⟩
      rw [List.length_map, List.take_length] at h5
      exact q H6 p6 fa p5 as ((S4.trans S5).trans S6) ((S4.trans S5).free n6) h6 (S6 _ _ (S5 _ _ hf)) ((hA.keep (.of S5)).keep (.of S6)) n1 (S6 _ _ h5)
end
end SK
namespace SK
open PySem PySem.Spec PyProof.Rows L2
/-! ### alike: the same data, at most n deep -/
def flatA : V → Bool
  | .non => true
  | .int _ => true
  | .bl _ => true
  | .str _ => true
  | _ => false
theorem rd_same {H H' : Hp} {a : Addr} {u : HO} (s : Same H H') (h : Rd H a u) : Rd H' a u := h.imp (s _ _) (fun ⟨o, e⟩ => ⟨o, s _ _ e⟩)
theorem ty_rd {K : PySem.W.Frag} {H : Hp} {a : Addr} {xs : List V} (h : Rd H a (.tup xs)) : TyX K H (.ref a) (.type "tuple") := by
  rcases h with h | ⟨o, h⟩
  · exact ty_tup h
  · exact .fTuple h
def Alk (H : Hp) : Nat → V → V → Prop
  | 0, v, u => v = u ∧ flatA v = true
  | n + 1, v, u => (v = u ∧ flatA v = true) ∨ ∃ (a b : Addr) (xs ys : List V), v = .ref a ∧ u = .ref b ∧ ((Rd H a (.tup xs) ∧ Rd H b (.tup ys)) ∨ (H a = some (.lst xs) ∧ H b = some (.lst ys))) ∧ xs.length = ys.length ∧ xs.length ≤ 10000000 ∧
      ∀ (i : Nat) (x y : V), xs[i]? = some x → ys[i]? = some y → Alk H n x y
theorem Alk.same {H H' : Hp} (s : Same H H') : ∀ {n : Nat} {v u : V}, Alk H n v u → Alk H' n v u
  | 0, _, _, h => h
  | n + 1, _, _, .inl h => .inl h
  | n + 1, _, _, .inr ⟨a, b, xs, ys, e1, e2, h, hl, hz, hi⟩ => .inr ⟨a, b, xs, ys, e1, e2, h.imp (fun z => ⟨rd_same s z.1, rd_same s z.2⟩) (fun z => ⟨s _ _ z.1, s _ _ z.2⟩), hl, hz, fun i x y h1 h2 => Alk.same s (hi i x y h1 h2)⟩
theorem Alk.up {H : Hp} : ∀ {n : Nat} {v u : V}, Alk H n v u → Alk H (n + 1) v u
  | 0, _, _, h => .inl h
  | n + 1, _, _, .inl h => .inl h
  | n + 1, _, _, .inr ⟨a, b, xs, ys, e1, e2, h, hl, hz, hi⟩ => .inr ⟨a, b, xs, ys, e1, e2, h, hl, hz, fun i x y h1 h2 => Alk.up (hi i x y h1 h2)⟩
def spAlike (n : Nat) : Sp := fun vs H Q _ => ∃ (v u : V), vs = [v, u] ∧ Alk H n v u ∧ ∀ H', Same H H' → Q (.bl true) H'
/-- isinstance(e, (tuple, list)) -/
def tIsTL (K : PySem.W.Frag) (i : Nat) : TE := fun σ H Q => ∃ (x : V) (n : String) (b1 b2 : Bool), σ[i]? = some (some x) ∧ (∀ H2, Same H H2 → TyX K H2 x (.type n)) ∧ kitB n "tuple" = some b1 ∧ kitB n "list" = some b2 ∧ ∀ H2, Same H H2 → Q (.bl (b1 || b2)) H2
theorem kit2 {K : PySem.W.Frag} {n : String} {b1 b2 : Bool} (h1 : kitB n "tuple" = some b1) (h2 : kitB n "list" = some b2) : PySem.W.kitAny K (.type n) [.type "tuple", .type "list"] = some (b1 || b2) := by
  refine kitAny_cons (kit_ty h1) (fun e => ?_) (fun e => by rw [e]; rfl)
  subst e
  refine kitAny_cons (kit_ty h2) (fun e => ?_) (fun e => by rw [e]; rfl)
  subst e
  rfl
section
variable {X : Cx}
theorem pisTL {i : Nat} {e : Expr} {p p2 p3 p4 pos : Pos} {j : Nat} (mI : X.mg "isinstance" = none) (mT : X.mg "tuple" = none) (mL : X.mg "list" = none) (h : PE X e (tVar i)) (hg : Gl X "isinstance" := by rfl) (hgt : Gl X "tuple" := by rfl) (hgl : Gl X "list" := by rfl)
    (ha1 : starEach [.Name "list" p3] X.env = (false, eval (.Name "list" p3) X.env) :: starEach [] X.env := by rfl) (ha2 : starEach [.Name "tuple" p2, .Name "list" p3] X.env = (false, eval (.Name "tuple" p2) X.env) :: starEach [.Name "list" p3] X.env := by rfl)
    (hs2 : starEach [.Tuple [.Name "tuple" p2, .Name "list" p3] j p4] X.env = (false, eval (.Tuple [.Name "tuple" p2, .Name "list" p3] j p4) X.env) :: starEach [] X.env := by rfl)
    (hs1 : starEach [e, .Tuple [.Name "tuple" p2, .Name "list" p3] j p4] X.env = (false, eval e X.env) :: starEach [.Tuple [.Name "tuple" p2, .Name "list" p3] j p4] X.env := by rfl)
    (hp1 : (backTo pos (starEach [.Tuple [.Name "tuple" p2, .Name "list" p3] j p4] X.env)).any (·.1) = false := by rfl) :
    PE X (.Call (.Name "isinstance" p) [e, .Tuple [.Name "tuple" p2, .Name "list" p3] j p4] [] pos) (tIsTL X.K i) := by
  refine pimp _ (pe_callB call_isiT hg mI (by decide +kernel) (pa_cons h (pa_cons (ptupN (pa_cons (pe_bltn (v := .ty "tuple") hgt mT (by decide +kernel) rfl (by decide) (by decide)) (pa_cons (pe_bltn (v := .ty "list") hgl mL (by decide +kernel) rfl (by decide) (by decide)) pa_nil ha1) ha2)) pa_nil hs2) hs1) (by decide) (by decide) hs1 hp1) ?_
  rintro σ H Q ⟨x, n, b1, b2, e, ht, k1, k2, q⟩
  exact ⟨x, e, szl 2, fun H2 tp s2 n2 h2 => ⟨x, tp, [.ty "tuple", .ty "list"], _, [.type "tuple", .type "list"], _, rfl, h2, .cons (.ty _) (.cons (.ty _) .nil), ht H2 s2, kit2 k1 k2, q H2 s2⟩⟩
end
/-- the kind of a flat value -/
theorem flat_ty {K : PySem.W.Frag} {v : V} (h : flatA v = true) : ∃ n cb, (∀ H, TyX K H v (.type n)) ∧ kitB n "tuple" = some false ∧ kitB n "list" = some false ∧ kitB n "bool" = some cb ∧
    ((v = .non ∧ kitB n "str" = some false) ∨ (∃ z, v = .str z ∧ kitB n "str" = some true) ∨ ((∃ i, v = .int i ∧ kitB n "str" = some false ∧ kitB n "int" = some true) ∨ ∃ b, v = .bl b ∧ kitB n "str" = some false ∧ kitB n "int" = some true)) := by
  cases v with
  | non => exact ⟨"NoneType", false, fun H => ty_non, by decide +kernel, by decide +kernel, by decide +kernel, .inl ⟨rfl, by decide +kernel⟩⟩
  | int i => exact ⟨"int", false, fun H => ty_int i, by decide +kernel, by decide +kernel, by decide +kernel, .inr (.inr (.inl ⟨i, rfl, by decide +kernel, by decide +kernel⟩))⟩
  | str z => exact ⟨"str", false, fun H => ty_str z, by decide +kernel, by decide +kernel, by decide +kernel, .inr (.inl ⟨z, rfl, by decide +kernel⟩)⟩
  | bl b => exact ⟨"bool", true, fun H => ty_bl b, by decide +kernel, by decide +kernel, by decide +kernel, .inr (.inr (.inr ⟨b, rfl, by decide +kernel, by decide +kernel⟩))⟩
  | byt b => cases h
  | flt b => cases h
  | ref a => cases h
  | ty n => cases h
section
variable {P : Program} {w : World} {K : PySem.W.Frag} {mg : Str → Option Value} {base : Heap}
structure AlkG (mg : Str → Option Value) : Prop where
  mI : mg "isinstance" = none
  mT : mg "tuple" = none
  mL : mg "list" = none
  mS : mg "str" = none
  mi : mg "int" = none
  mB : mg "bool" = none
  ml : mg "len" = none
  mR : mg "range" = none
/-- the flat values' way: behind the first test -/
def tFlatWay : TS := fun D σ H => ∃ (v : V) (y2 : Option V), σ = [some v, some v, y2] ∧ flatA v = true ∧ D.rt (.bl true) H
theorem pssimp {X : Cx} {sts : List Stmt} {t : TS} (t' : TS) (h : PSs X sts t) (f : ∀ D σ H, t' D σ H → t D σ H) : PSs X sts t' := ⟨fun pins s σ H D I q => h.run pins s σ H D I (f D σ H q)⟩
def tAlkTest (K : PySem.W.Frag) (m : Nat) : TT := fun σ H Q => tCall (spAlike m) [] E0 (tCons (tOp (rIx K) (tVar 0) (tVar 2)) (tCons (tOp (rIx K) (tVar 1) (tVar 2)) tNil)) σ H fun x H1 => ∃ k, x = .bl k ∧ Q (!k) H1
end
end SK
namespace SK
open PySem PySem.Spec PyProof.Rows L2
section
variable {P : Program} {w : World} {K : PySem.W.Frag} {mg : Str → Option Value} {base : Heap}
theorem ok_alike (n : Nat) {f : Addr} {fd : FuncData} {k : Nat} (F : Fun K "_law_alike" "_law_alike" s_law_alike f fd) (g : AlkG mg) (G : ∀ m, n = m + 1 → Got P w K mg base "_law_alike" k ["found", "due"] (spAlike m)) : FnOk P w K mg base CX0 (k + 1) f fd ["found", "due"] (spAlike n) := by
  refine F.ok sc_law_alike (fun vs H Q E h => ?_) (fun cdv A outer s H vs Q E hr h => ?_)
  · obtain ⟨v, u, rfl, _⟩ := h
    rfl
  · obtain ⟨v, u, rfl, hA, q⟩ := h
    have nd := sc_law_alike.nd
    obtain ⟨mI, mT, mL, mS, mi, mB, ml, mR⟩ := g
    have tail : PSs (cxOf CX0 P w K mg base n_law_alike "_law_alike" (defScope s_law_alike) f cdv A outer s H E).nox ((defBody s_law_alike).drop 1) tFlatWay := by
      refine pssimp _ (pss_cons (ps_if (PW.pt (pw_or (pt_cmpR op_isN (pv 1) pe_non (nomark _)) (pw_or1 (pt_val (pis "str" (by decide +kernel) mI mS (pv 1))))))
          (pss_one (ps_ret (pe_and (pe_cmpR op_eq (pv 0) (pv 1) (nomark _)) (pe_one (pe_cmpR op_eq (pis "str" (by decide +kernel) mI mS (pv 0)) (pis "str" (by decide +kernel) mI mS (pv 1)) (nomark _)))))) pss_nil)
        (pss_one (ps_ret (pe_and (pis "int" (by decide +kernel) mI mi (pv 0)) (pe_and (pe_cmpR op_eq (pis "bool" (by decide +kernel) mI mB (pv 0)) (pis "bool" (by decide +kernel) mI mB (pv 1)) (nomark _)) (pe_one (pe_cmpR op_eq (pv 0) (pv 1) (nomark _)))))))) ?_
      rintro D σ H ⟨v, y2, rfl, hv, q⟩
      obtain ⟨n, cb, ht, k1, k2, k3, hk⟩ := flat_ty (K := K) hv
      have ht' := ht H
      rcases hk with ⟨rfl, k4⟩ | ⟨z, rfl, k4⟩ | ⟨i, rfl, k4, k5⟩ | ⟨i, rfl, k4, k5⟩
      · refine ⟨_, rfl, rfl, _, rfl, itY rfl ?_⟩
        refine ⟨_, rfl, _, rfl, rfl, _, rfl, itY rfl ?_⟩
        refine ⟨_, rfl, _, n, _, rfl, ht', k4, _, rfl, _, n, _, rfl, ht', k4, rfl, ?_⟩
        exact q
      · refine ⟨_, rfl, rfl, _, rfl, itN (fun z => nomatch z) ?_⟩
        refine ⟨_, rfl, _, n, _, rfl, ht', k4, _, rfl, iteT ?_⟩
        refine ⟨_, rfl, _, rfl, rfl, _, rfl, itY rfl ?_⟩
        refine ⟨_, rfl, _, n, _, rfl, ht', k4, _, rfl, _, n, _, rfl, ht', k4, rfl, ?_⟩
        exact q
      · refine ⟨_, rfl, rfl, _, rfl, itN (fun z => nomatch z) ?_⟩
        refine ⟨_, rfl, _, n, _, rfl, ht', k4, _, rfl, iteF ?_⟩
        refine ⟨_, rfl, _, n, _, rfl, ht', k5, _, rfl, iteT ?_⟩
        refine ⟨_, rfl, _, n, _, rfl, ht', k3, _, rfl, _, n, _, rfl, ht', k3, rfl, _, rfl, itY rfl ?_⟩
        refine ⟨_, rfl, _, rfl, rfl, ?_⟩
        rw [decide_eq_true (rfl : V.int i = V.int i)]
        exact q
      · refine ⟨_, rfl, rfl, _, rfl, itN (fun z => nomatch z) ?_⟩
        refine ⟨_, rfl, _, n, _, rfl, ht', k4, _, rfl, iteF ?_⟩
        refine ⟨_, rfl, _, n, _, rfl, ht', k5, _, rfl, iteT ?_⟩
        refine ⟨_, rfl, _, n, _, rfl, ht', k3, _, rfl, _, n, _, rfl, ht', k3, rfl, _, rfl, itY rfl ?_⟩
        refine ⟨_, rfl, _, rfl, rfl, ?_⟩
        rw [decide_eq_true (rfl : V.bl i = V.bl i)]
        exact q
    have flat : ∀ (y2 : Option V) (H2 : Hp), Same H H2 → v = u → flatA v = true → tFlatWay { nx := fun _ H' => Q .non H', rt := Q } [some v, some u, y2] H2 := fun y2 H2 S e hv => by
      subst e
      exact ⟨v, y2, rfl, hv, q H2 S⟩
    cases n with
    | zero =>
      refine ⟨_, pss_cons (ps_if (pt_val (pisTL mI mT mL (pv 1))) pss_never pss_nil) tail, ?_⟩
      obtain ⟨rfl, hv⟩ := hA
      obtain ⟨n, _, ht, k1, k2, _⟩ := flat_ty (K := K) hv
      exact ⟨v, n, _, _, rfl, fun H2 _ => ht H2, k1, k2, fun H2 S2 => ⟨_, rfl, iteF (flat none H2 S2 rfl hv)⟩⟩
    | succ m =>
      have GA := G m rfl
      refine ⟨_, pss_cons (ps_if (pt_val (pisTL mI mT mL (pv 1)))
          (pss_cons (ps_if (PW.pt (pw_or (pt_not (pt_val (pisTL mI mT mL (pv 0)))) (pw_or1 (pt_cmpR op_ne (pis "list" (by decide +kernel) mI mL (pv 0)) (pis "list" (by decide +kernel) mI mL (pv 1)) (nomark _))))) pss_never pss_nil)
          (pss_cons (ps_if (pt_cmpR op_ne (plen ml (pv 0)) (plen ml (pv 1)) (nomark _)) pss_never pss_nil)
          (pss_one (ps_ret (pe_cmpR (op_eqD hr.units) (pe_lc (own := [("k", 2)]) (g := gName 2) (tt := tAlkTest K m)
              rfl nd (pi_range1 rfl mR (pa_cons (plen ml (pv 1)) pa_nil)) (blkOk_by (N := n_law_alike) (sc := defScope s_law_alike) (by decide +kernel)) (fun _ _ _ _ _ => pg_name (i := 2) nd rfl (Or.inl rfl))
              (fun _ _ _ _ _ => pts_one (pt_not (pt_val (pcall GA hr (pa_cons (pe_ix ix_seq (pv 0) (pv 2) (fun _ _ => rfl)) (pa_cons (pe_ix ix_seq (pv 1) (pv 2) (fun _ _ => rfl)) pa_nil)))))) (fun _ _ _ _ _ => pv 2)) (plstN pa_nil) (nomark _)))))) pss_nil) tail, ?_⟩
      rcases hA with ⟨rfl, hv⟩ | ⟨a, b, xs, ys, rfl, rfl, hh, hl, hz, hi⟩
      · obtain ⟨n, _, ht, k1, k2, _⟩ := flat_ty (K := K) hv
        exact ⟨v, n, _, _, rfl, fun H2 _ => ht H2, k1, k2, fun H2 S2 => ⟨_, rfl, iteF (flat none H2 S2 rfl hv)⟩⟩
      · have key : ∃ (n : String) (b1 b2 : Bool), (∀ H2, Same H H2 → TyX K H2 (.ref a) (.type n)) ∧ (∀ H2, Same H H2 → TyX K H2 (.ref b) (.type n)) ∧ kitB n "tuple" = some b1 ∧ kitB n "list" = some b2 ∧ (b1 || b2) = true ∧
            (∀ H2, Same H H2 → (SqL K H2 a xs ∨ SqT K H2 a xs) ∧ (SqL K H2 b ys ∨ SqT K H2 b ys)) := by
          rcases hh with ⟨ha, hb⟩ | ⟨ha, hb⟩
          · exact ⟨"tuple", true, false, fun H2 S => ty_rd (rd_same S ha), fun H2 S => ty_rd (rd_same S hb), by decide +kernel, by decide +kernel, rfl, fun H2 S => ⟨.inr (.inl (rd_same S ha)), .inr (.inl (rd_same S hb))⟩⟩
          · exact ⟨"list", false, true, fun H2 S => ty_lst (S _ _ ha), fun H2 S => ty_lst (S _ _ hb), by decide +kernel, by decide +kernel, rfl, fun H2 S => ⟨.inl (SqL.of (S _ _ ha)), .inl (SqL.of (S _ _ hb))⟩⟩
        obtain ⟨n, b1, b2, ta, tb, k1, k2, kk, sq⟩ := key
        refine ⟨_, n, b1, b2, rfl, tb, k1, k2, fun H2 S2 => ⟨_, rfl, ?_⟩⟩
        rw [kk]
        refine iteT ⟨_, n, b1, b2, rfl, fun H3 S3 => ta H3 (S2.trans S3), k1, k2, fun H3 S3 => ⟨_, rfl, ?_⟩⟩
        rw [kk]
        have S03 := S2.trans S3
        refine iteF ⟨_, rfl, _, n, b2, rfl, ta H3 S03, k2, _, rfl, _, n, b2, rfl, tb H3 S03, k2, rfl, _, rfl, ?_⟩
        rw [decide_eq_true (rfl : V.bl b2 = V.bl b2)]
        refine iteF ⟨_, rfl, a, xs, rfl, (sq H3 S03).1, _, rfl, b, ys, rfl, (sq H3 S03).2, rfl, _, rfl, ?_⟩
        rw [hl, decide_eq_true (rfl : V.int (ys.length : Int) = V.int (ys.length : Int))]
        refine iteF ⟨_, rfl, b, ys, rfl, (sq H3 S03).2, (ys.length : Int), rfl, by omega, by omega, fun D nD => ?_⟩
        rw [Int.toNat_natCast]
        refine lc_range (lo := 0) (n := ys.length) (fun i H' => Same H3 H' ∧ H' D = some (.lst [])) ⟨same_upd nD, upd_same⟩ ?_ ?_
        · rintro i H4 hlt ⟨S4, hD⟩
          have S04 := S03.trans S4
          have gx : xs[i]? = some xs[i] := List.getElem?_eq_getElem (by omega)
          have gy : ys[i]? = some ys[i] := List.getElem?_eq_getElem hlt
          have e0 : (0 : Int) + (i : Int) = (i : Int) := by omega
          have ix : ∀ (c : Addr) (zs : List V) (z : V) (Q' : VK), (SqL K H4 c zs ∨ SqT K H4 c zs) → zs[i]? = some z → Q' z H4 → rIx K (.ref c) (.int (0 + (i : Int))) H4 Q' := by
            intro c zs z Q' hc hg hq
            rw [e0]
            rcases hc with hc | hc
            · exact .inl ⟨c, zs, _, z, rfl, rfl, hc, atI_nat hg, hq⟩
            · exact .inr (.inl ⟨c, zs, _, z, rfl, rfl, hc, atI_nat hg, hq⟩)
          refine ⟨rfl, _, rfl, _, rfl, ix a xs _ _ (sq H4 S04).1 gx ⟨_, rfl, _, rfl, ix b ys _ _ (sq H4 S04).2 gy ⟨xs[i], ys[i], rfl, Alk.same S04 (hi i _ _ gx gy), fun H5 S5 => ⟨true, rfl, iteF ⟨S4.trans S5, S5 _ _ hD⟩⟩⟩⟩⟩
        · rintro H4 ⟨S4, hD⟩
          refine ⟨szl 0, fun H5 p5 S5 n5 h5 => ⟨.list [], .list [], .lst (SqL.of (S5 _ _ hD)) .nil, .lst (SqL.of h5) .nil, shaped_ints [], shaped_ints [], ?_⟩⟩
          have e : PyData.eqv (.list []) (.list []) = true := by simp [PyData.eqv, PyData.eqvAll]
          rw [e]
          exact q H5 ((S03.trans S4).trans S5)
end
end SK
namespace SK
open PySem PySem.Spec PyProof.Rows L2
def spAge (K : PySem.W.Frag) : Sp := fun vs H Q _ => ∃ (b : Addr) (M : Nat) (ws : List (List Sy)) (st : List Sy), vs = [.ref b, .int M] ∧ BookAt H b ws st ∧ GoodBook ws st ∧ 40 ≤ M ∧ M ≤ 1000 ∧
  ∀ (H' : Hp) (n : Nat), Same H H' → Low M ws st n → Q (.int n) H'
section
variable {P : Program} {w : World} {K : PySem.W.Frag} {mg : Str → Option Value} {base : Heap}
theorem ok_age {f : Addr} {fd : FuncData} {k : Nat} (F : Fun K "_law_age" "_law_age" s_law_age f fd) (GG : Got P w K mg base "_law_grown" k ["book", "age"] (spGrown K)) (ml : mg "len" = none) (mI : mg "isinstance" = none) (mS : mg "str" = none) :
    FnOk P w K mg base CX0 (k + 1) f fd ["book", "most"] (spAge K) := by
  refine F.ok sc_law_age (fun vs H Q E h => ?_) (fun cdv A outer s H vs Q E hr h => ?_)
  · obtain ⟨b, M, ws, st, rfl, _⟩ := h
    rfl
  · obtain ⟨b, M, ws, st, rfl, hb, hg, hM1, hM2, q⟩ := h
    have nd := sc_law_age.nd
    refine ⟨_, pss_cons (ps_set (i := 2) nd rfl (.inl rfl) pe_int)
      (pss_cons (ps_while PassesOwn.never (PW.pt (pw_and (pt_cmpR op_lt (pv 2) pe_int (nomark _)) (pw_and1 (pt_cmpR op_le (plen ml
          (pe_lc (own := [("item", 3)]) (g := gName 3) (tt := tNotStr K 3) rfl nd (pi_list (pcall GG hr (pa_cons (pv 0) (pa_cons (padd (pv 2) pe_int) pa_nil)))) (blkOk_by (N := n_law_age) (sc := defScope s_law_age) (by decide +kernel))
            (fun _ _ _ _ _ => pg_name (i := 3) nd rfl (Or.inl rfl)) (fun _ _ _ _ _ => pts_one (ptNotStr mI mS (pv 3))) (fun _ _ _ _ _ => pv 3))) (pv 1) (nomark _)))))
        (pss_one (ps_set (i := 2) nd rfl (.inl rfl) (padd (pv 2) pe_int))))
      (pss_one (ps_ret (pv 2)))), ?_⟩
    refine ⟨fun m σ H' => ∃ (n : Nat) (y3 : Option V), σ = [some (.ref b), some (.int M), some (.int n), y3] ∧ Same H H' ∧ Low M ws st n ∧ m = 8 - n, ⟨8, 0, none, rfl, Same.refl H, Low.zero hg hM1, rfl⟩, ?_⟩
    rintro m σ H1 ⟨n, y3, rfl, S1, hl, rfl⟩
    refine ⟨_, rfl, _, _, rfl, rfl, _, rfl, ite2 (fun hlt => ?_) (fun hlt => ?_)⟩
    · have hn8 : n < 8 := by
        have := of_decide_eq_true hlt
        omega
      have l1 := grow_40 hg.words (grown_lets hg n)
      have l2 := hl.len hg
      have l3 : (grown ws st (n + 1)).length ≤ 4000000 := by
        show (grow ws (grown ws st n)).length ≤ 4000000
        omega
      have en : (V.int ((n : Int) + 1)) = V.int ((n + 1 : Nat) : Int) := by congr 1
      refine ⟨_, rfl, _, rfl, _, _, rfl, rfl, b, n + 1, ws, st, ?_, hb.keep (.of S1), hg, by omega, l3, fun H2 p S2 n2 h2 => ?_⟩
      · show [V.ref b, V.int ((n : Int) + 1)] = _
        rw [en]
      generalize hG : grown ws st (n + 1) = G at l3 h2
      refine ⟨p, rfl, ⟨_, SqL.of h2⟩, fun D nD => ?_⟩
      refine lc_list (K := K) (a := p) (xs := wv G) (fun i H' => Same H2 H' ∧ H' D = some (.lst (wv ((G.take i).filter isL)))) ⟨same_upd nD, upd_same⟩ (fun i H' _ h => h.1.seq (SqL.of h2)) ?_ ?_
      · rintro i x H3 hx ⟨S3, hD⟩
        obtain ⟨s, hs, rfl⟩ := wv_get hx
        obtain ⟨tn, tb, ht, hk, htb⟩ := ty_sy (K := K) (H := H3) s
        refine ⟨rfl, _, rfl, s.v, tn, tb, rfl, ht, hk, tb, rfl, ?_⟩
        subst htb
        rw [Bool.not_not]
        cases hb : isL s with
        | true =>
          refine iteT ⟨_, rfl, _, hD, ?_, ?_, ?_⟩
          · rw [List.length_map]
            have h1 : ((G.take i).filter isL).length ≤ (G.take i).length := List.length_filter_le _ _
            have h2 : (G.take i).length ≤ G.length := by rw [List.length_take]; omega
            rw [sizeLine_eq]; omega
          · exact sPut S3 nD
          · rw [upd_same, take_more hs, List.filter_append]
            simp only [wv, List.map_append, List.filter_cons, hb]
            rfl
        | false =>
          refine iteF ⟨S3, ?_⟩
          rw [hD, take_more hs, List.filter_append]
          simp only [List.filter_cons, hb]
          simp
      · rintro H3 ⟨S3, hD⟩
        rw [List.length_map, List.take_length] at hD
        refine ⟨D, _, rfl, .inl (SqL.of hD), _, rfl, _, _, rfl, rfl, _, rfl, ite2 (fun hle => ?_) (fun hle => ?_)⟩
        · have h400 : nL (grown ws st (n + 1)) ≤ M := by
            have h := of_decide_eq_true hle
            rw [List.length_map] at h
            rw [hG]
            unfold nL
            omega
          refine ⟨fun σ' H' => ∃ (y3 : Option V), σ' = [some (.ref b), some (.int M), some (.int ((n + 1 : Nat) : Int)), y3] ∧ Same H H' ∧ Low M ws st (n + 1), ?_, ?_⟩
          · rintro σ' H' ⟨y3, rfl, S', hl'⟩
            exact ⟨8 - (n + 1), by omega, n + 1, y3, rfl, S', hl', rfl⟩
          · refine ⟨_, rfl, _, _, rfl, rfl, y3, ?_, (S1.trans S2).trans S3, by omega, fun a ha => ?_⟩
            · rw [← en]; rfl
            · by_cases e : a = n + 1
              · rw [e]; exact h400
              · exact hl.2 a (by omega)
        · exact ⟨_, rfl, q H3 n ((S1.trans S2).trans S3) hl⟩
    · exact ⟨_, rfl, q H1 n S1 hl⟩
end
end SK
namespace SK
open PySem PySem.Spec PyProof.Rows L2
theorem WdAt.ty {K : PySem.W.Frag} {H : Hp} {a : Addr} {w : List Sy} (h : WdAt H a w) : TyX K H (.ref a) (.type "tuple") := let ⟨_, e, _⟩ := h; .fTuple e
def spIsInt (K : PySem.W.Frag) : Sp := fun vs H Q _ => ∃ (v : V) (n : String) (b1 b2 : Bool), vs = [v] ∧ TyX K H v (.type n) ∧ kitB n "int" = some b1 ∧ kitB n "bool" = some b2 ∧ Q (.bl (b1 && !b2)) H
theorem sy_int {K : PySem.W.Frag} (s : Sy) : ∃ n b1, (∀ H, TyX K H s.v (.type n)) ∧ kitB n "int" = some b1 ∧ kitB n "bool" = some false ∧ b1 = isL s := by
  cases s with
  | l k => exact ⟨"int", true, fun H => ty_int _, by decide +kernel, by decide +kernel, rfl⟩
  | p => exact ⟨"str", false, fun H => ty_str _, by decide +kernel, by decide +kernel, rfl⟩
  | m => exact ⟨"str", false, fun H => ty_str _, by decide +kernel, by decide +kernel, rfl⟩
  | o => exact ⟨"str", false, fun H => ty_str _, by decide +kernel, by decide +kernel, rfl⟩
  | c => exact ⟨"str", false, fun H => ty_str _, by decide +kernel, by decide +kernel, rfl⟩
def spIsWord : Sp := fun vs H Q _ => ∃ (t : Addr) (n : Nat) (w : List Sy), vs = [.ref t, .int n] ∧ WdAt H t w ∧ Good n 40 w ∧ Q (.bl true) H
def spBookForm : Sp := fun vs H Q _ => ∃ (b : Addr) (ws : List (List Sy)) (st : List Sy), vs = [.ref b] ∧ BookAt H b ws st ∧ GoodBook ws st ∧ Q (.bl true) H
section
variable {P : Program} {w : World} {K : PySem.W.Frag} {mg : Str → Option Value} {base : Heap}
theorem ok_isint {f : Addr} {fd : FuncData} {k : Nat} (F : Fun K "is_integer" "is_integer" s_is_integer f fd) (mI : mg "isinstance" = none) (mi : mg "int" = none) (mB : mg "bool" = none) : FnOk P w K mg base CX0 (k + 1) f fd ["value"] (spIsInt K) := by
  refine F.ok sc_is_integer (fun vs H Q E h => ?_) (fun cdv A outer s H vs Q E hr h => ?_)
  · obtain ⟨v, n, b1, b2, rfl, _⟩ := h
    rfl
  · obtain ⟨v, n, b1, b2, rfl, ht, k1, k2, q⟩ := h
    refine ⟨_, pss_one (ps_ret (pe_and (pis "int" (by decide +kernel) mI mi (pv 0)) (pe_one (pe_not (pis "bool" (by decide +kernel) mI mB (pv 0)))))), ?_⟩
    refine ⟨_, rfl, _, n, b1, rfl, ht, k1, b1, rfl, ?_⟩
    cases b1 with
    | true => exact ⟨_, rfl, _, n, b2, rfl, ht, k2, b2, rfl, q⟩
    | false => exact q
theorem ok_isword {f : Addr} {fd : FuncData} {k : Nat} {t40 : Tok} (F : Fun K "is_word" "is_word" s_is_word f fd) (GI : Got P w K mg base "is_integer" k ["value"] (spIsInt K)) (mI : mg "isinstance" = none) (mT : mg "tuple" = none) (ml : mg "len" = none) (m40 : mg "MOST_PARTS" = some (.int 40 t40)) :
    FnOk P w K mg base CX0 (k + 1) f fd ["value", "many"] spIsWord := by
  refine F.ok sc_is_word (fun vs H Q E h => ?_) (fun cdv A outer s H vs Q E hr h => ?_)
  · obtain ⟨t, n, w, rfl, _⟩ := h
    rfl
  · obtain ⟨t, n, w, rfl, ht, hg, q⟩ := h
    have nd := sc_is_word.nd
    refine ⟨_, pss_cons (ps_if (PW.pt (pw_or (pt_not (pt_val (pis "tuple" (by decide +kernel) mI mT (pv 0)))) (pw_or1 (pt_cmpR op_gt (plen ml (pv 0)) (pe_glob (v := .int 40) rfl m40 ⟨_, rfl⟩) (nomark _))))) pss_never pss_nil)
      (pss_cons (ps_set (i := 2) nd rfl (.inl rfl) pe_int)
      (pss_cons (ps_set (i := 3) nd rfl (.inl rfl) pe_int)
      (pss_cons (ps_for PassesOwn.never rfl (pi_tup (pv 0)) (pg_name (i := 4) nd rfl (.inl rfl))
        (pss_one (ps_if (PW.pt (pw_and (pt_val (pcall GI hr (pa_cons (pv 4) pa_nil))) (pw_and1 (pt_chain op_le op_lt pe_int (pv 4) (pv 1)))))
            (pss_one (ps_aug (i := 2) nd rfl (.inl rfl) pe_int ip_add))
          (pss_one (ps_if (pt_cmpR op_eq (pv 4) pe_str (nomark _)) (pss_one (ps_aug (i := 3) nd rfl (.inl rfl) pe_int ip_add))
          (pss_one (ps_if (PW.pt (pw_and (pt_cmpR op_eq (pv 4) pe_str (nomark _)) (pw_and1 (pt_cmpR op_gt (pv 3) pe_int (nomark _))))) (pss_one (ps_aug (i := 3) nd rfl (.inl rfl) pe_int ip_sub))
          (pss_one (ps_if (PW.pt (pw_and (pt_cmpR op_ne (pv 4) pe_str (nomark _)) (pw_and1 (pt_cmpR op_ne (pv 4) pe_str (nomark _))))) pss_never pss_nil)))))))))
      (pss_one (ps_ret (pe_and (pe_cmpR op_gt (pv 2) pe_int (nomark _)) (pe_one (pe_cmpR op_eq (pv 3) pe_int (nomark _))))))))), ?_⟩
    have hl := hg.len
    refine ⟨_, rfl, _, "tuple", true, rfl, ht.ty, by decide +kernel, _, rfl, iteF ⟨_, rfl, t, _, rfl, .inr ht.sq, _, _, rfl, rfl, _, rfl, itN (by rw [List.length_map]; omega) ?_⟩⟩
    have hne : nest w 0 ≠ none := by rw [hg.nst]; intro z; cases z
    refine ⟨_, rfl, t, rfl, ⟨_, ht.sq⟩, for_tup (K := K) (a := t) (xs := wv w) (fun i σ H' => ∃ (d : Nat) (y4 : Option V), σ = [some (.ref t), some (.int n), some (.int (nL (w.take i) : Int)), some (.int (d : Int)), y4] ∧ nest (w.take i) 0 = some d ∧ H' = H)
      ⟨0, none, rfl, rfl, rfl⟩ (fun i σ H' _ ⟨_, _, _, _, e⟩ => by rw [e]; exact ht.sq) ?_ ?_⟩
    · rintro i x σ H1 hx ⟨d, y4, rfl, hd, rfl⟩
      obtain ⟨s, hs, rfl⟩ := wv_get hx
      have e1 : nL (w.take (i + 1)) = nL (w.take i) + nL [s] := by rw [take_more hs, nL_app]
      have e2 : nest (w.take (i + 1)) 0 = nest [s] d := by rw [take_more hs, nest_app, hd]; rfl
      have h3 := nest_take hne (i + 1)
      obtain ⟨tn, tb, ht1, k1, k2, hb⟩ := sy_int (K := K) s
      refine ⟨_, rfl, s.v, tn, tb, false, rfl, ht1 H1, k1, k2, _, rfl, ?_⟩
      subst hb
      cases s with
      | l j =>
        have hj := hg.lets j (List.mem_of_getElem? hs)
        refine ⟨_, rfl, _, _, rfl, rfl, _, rfl, itY (show (0 : Int) ≤ (j : Int) by omega) ⟨_, rfl, _, _, rfl, rfl, _, rfl, itY (show (j : Int) < (n : Int) by omega) ⟨_, rfl, _, _, rfl, rfl, d, some (Sy.v (.l j)), ?_, by rw [e2]; rfl, rfl⟩⟩⟩
        rw [e1]; rfl
      | o =>
        refine ⟨_, rfl, rfl, _, rfl, itY rfl ⟨_, rfl, _, _, rfl, rfl, d + 1, some (Sy.v .o), ?_, by rw [e2]; rfl, rfl⟩⟩
        rw [e1]; rfl
      | c =>
        cases d with
        | zero => rw [e2] at h3; exact absurd rfl h3
        | succ d =>
          refine ⟨_, rfl, rfl, _, rfl, itN (by decide) ⟨_, rfl, rfl, _, rfl, itY rfl ⟨_, rfl, _, _, rfl, rfl, _, rfl, itY (show (0 : Int) < ((d + 1 : Nat) : Int) by omega) ⟨_, rfl, _, _, rfl, rfl, d, some (Sy.v .c), ?_, by rw [e2]; rfl, rfl⟩⟩⟩⟩
          rw [e1]
          have : (((d + 1 : Nat) : Int) - 1) = (d : Int) := by omega
          show [some (V.ref t), some (V.int n), some (V.int (nL (w.take i) : Int)), some (V.int (((d + 1 : Nat) : Int) - 1)), some (Sy.v .c)] = _
          rw [this]; rfl
      | p =>
        refine ⟨_, rfl, rfl, _, rfl, itN (by decide) ⟨_, rfl, rfl, _, rfl, itN (by decide) ⟨_, rfl, rfl, _, rfl, ?_⟩⟩⟩
        refine iteF (iteF ⟨d, some (Sy.v .p), ?_, by rw [e2]; rfl, rfl⟩)
        rw [e1]; rfl
      | m =>
        refine ⟨_, rfl, rfl, _, rfl, itN (by decide) ⟨_, rfl, rfl, _, rfl, itN (by decide) ⟨_, rfl, rfl, _, rfl, ?_⟩⟩⟩
        refine iteT ⟨_, rfl, rfl, _, rfl, iteF ⟨d, some (Sy.v .m), ?_, by rw [e2]; rfl, rfl⟩⟩
        rw [e1]; rfl
    · rintro σ H1 ⟨d, y4, rfl, hd, rfl⟩
      rw [List.length_map, List.take_length, hg.nst] at hd
      cases hd
      have hs := hg.slim
      refine ⟨_, rfl, _, _, rfl, rfl, _, rfl, itY ?_ ⟨_, rfl, rfl, q⟩⟩
      rw [List.length_map, List.take_length]
      omega
theorem ok_bookform {f : Addr} {fd : FuncData} {k : Nat} {t8 : Tok} (F : Fun K "has_book_form" "has_book_form" s_has_book_form f fd) (mI : mg "isinstance" = none) (mT : mg "tuple" = none) (ml : mg "len" = none) (m8 : mg "MOST_LETTERS" = some (.int 8 t8)) :
    FnOk P w K mg base CX0 (k + 1) f fd ["value"] spBookForm := by
  refine F.ok sc_has_book_form (fun vs H Q E h => ?_) (fun cdv A outer s H vs Q E hr h => ?_)
  · obtain ⟨b, ws, st, rfl, _⟩ := h
    rfl
  · obtain ⟨b, ws, st, rfl, ⟨p, pq, as, h1, h2, h3, h4⟩, hg, q⟩ := h
    have nd := sc_has_book_form.nd
    refine ⟨_, pss_cons (ps_if (PW.pt (pw_or (pt_not (pt_val (pis "tuple" (by decide +kernel) mI mT (pv 0)))) (pw_or1 (pt_cmpR op_ne (plen ml (pv 0)) pe_int (nomark _))))) pss_never pss_nil)
      (pss_cons (ps_set (i := 1) nd rfl (.inl rfl) (pixT (pv 0) pe_int))
      (pss_one (ps_ret (pe_and (pis "tuple" (by decide +kernel) mI mT (pv 1)) (pe_one (pe_chain op_le op_le pe_int (plen ml (pv 1)) (pe_glob (v := .int 8) rfl m8 ⟨_, rfl⟩))))))), ?_⟩
    have e := h4.length
    have e1 := hg.one
    have e2 := hg.few
    refine ⟨_, rfl, _, "tuple", true, rfl, ty_tup h1, by decide +kernel, _, rfl, iteF ⟨_, rfl, b, _, rfl, .inr (SqT.of h1), rfl, _, rfl, iteF ?_⟩⟩
    refine ⟨_, rfl, b, _, _, _, rfl, rfl, SqT.of h1, at0, ?_⟩
    refine ⟨_, rfl, _, "tuple", true, rfl, ty_tup h2, by decide +kernel, _, rfl, iteT ?_⟩
    refine ⟨_, rfl, p, _, rfl, .inr (SqT.of h2), _, _, rfl, rfl, _, rfl, itY (by rw [List.length_map]; omega) ⟨_, _, rfl, rfl, ?_⟩⟩
    show Q (V.bl (decide (((as.map V.ref).length : Int) ≤ 8))) H
    rw [decide_eq_true (show ((as.map V.ref).length : Int) ≤ 8 by rw [List.length_map]; omega)]
    exact q
end
end SK
namespace SK
open PySem PySem.Spec PyProof.Rows L2
/-! ### enumerate of a tuple -/
/-- the two cells that enumerate(v) lays -/
abbrev enumCell (it : Addr) : Obj := { cls := .type "enumerate", data := .fields #[.none, .bool false, .ref it, rawInt 0, .none, .none] }
theorem enum_new1 {v : Value} {o : Obj} {J : Heap → Prop} (B : Begins v o J) : Meets (Builtin.«enumerate.__new__» ⟨[.type "enumerate", v], []⟩) (fun _ R s => J s.heap ∧ R (.ok (.ret (.ref (s.heap.push o).objs.size))) { s with heap := (s.heap.push o).push (enumCell s.heap.objs.size) }) := by
  refine .of_wp fun prog w A R s h => ?_
  obtain ⟨hp, g, d, tk, os⟩ := s
  obtain ⟨j, h⟩ := h
  have sub := sub_enumerate
  have begun : ∀ {A' : Around} {E Q : Value → Shared → Prop}, Q (.ref hp.objs.size) ⟨hp.push o, g, d, tk, os⟩ → wpAny (model prog w) A' (pyIter v) Q E ⟨hp, g, d, tk, os⟩ := fun q => B.iter prog w _ _ ⟨hp, g, d, tk, os⟩ _ j q
  wp_walk using begun
  refine wpAny_stack_any fun _ => wpAny_pure ?_
  split <;> first
    | (rename_i c _ _ _ _ _; cases (c == Value.type "enumerate") <;> (wp_walk using begun; exact ⟨_, rfl, h⟩))
    | (wp_walk using begun; exact ⟨_, rfl, h⟩)
theorem enum_call1 {prog : Program} {w : World} {A : Around} {E Q : Value → Shared → Prop} {s : Shared} {v : Value} {o : Obj} {J : Heap → Prop} (B : Begins v o J) (j : J s.heap)
    (h : ∀ h', IsEnum h' (s.heap.objs.size + 1) s.heap.objs.size 0 .none → h'.get? s.heap.objs.size = some o → (∀ b o, s.heap.get? b = some o → h'.get? b = some o) → Q (.ref (s.heap.objs.size + 1)) { s with heap := h' }) :
    wpAny (model prog w) A (call (.type "enumerate") [v]) Q E s := by
  have z : (s.heap.push o).objs.size = s.heap.objs.size + 1 := Heap.size_push ..
  refine callType_new F.called_enumerate (by decide) (F.typeCall_enumerate_1 _) (F.newCall_enumerate_1 _) (fun obj => F.args_object_init_2 obj _) F.entry_enumerate_new (enum_new1 B) ⟨j, ?_⟩
  show _ ∧ _
  rw [z]
  have cell : IsEnum ((s.heap.push o).push (enumCell s.heap.objs.size)) (s.heap.objs.size + 1) s.heap.objs.size 0 .none := by
    have e := Heap.get?_push_size (s.heap.push o) (o := enumCell s.heap.objs.size) rfl
    rw [z] at e
    exact e
  exact ⟨⟨_, cell, rfl⟩, h _ cell (Heap.get?_push_of_some _ (Heap.get?_push_size _ B.free)) fun b u e => Heap.get?_push_of_some _ (Heap.get?_push_of_some _ e)⟩
def IteT (K : PySem.W.Frag) (a : Addr) : It where
  go := fun i H => ∃ (xs : List V) (x : V), SqT K H a xs ∧ xs[i]? = some x
  yld := fun i H v H' => ∃ (T : Addr) (x : V), v = .ref T ∧ H T = none ∧ H' = upd H T (.tup [.int (i : Nat), x]) ∧ ∀ xs, SqT K H a xs → xs[i]? = some x
  stop := fun i H => ∃ xs : List V, SqT K H a xs ∧ xs.length = i
theorem turn_enumT {P : Program} {w : World} {K : PySem.W.Frag} {elts : List Expr} {kk : Nat} {tpos : Pos} {a e it : Addr} (hea : a ≠ it) : Turn P w K (.Tuple elts kk tpos) (IteT K a) [e, it] e (fun i h => (∃ old, IsEnum h e it ((i : Nat) : Int) old) ∧ h.IsTupleIter it a i ∧ e ≠ it ∧ e ≠ a) := by
  refine ⟨List.mem_cons_self, ?obj, ?keep, ?item, ?done, ?self⟩
  case obj =>
    rintro i h ⟨⟨old, he⟩, ⟨o, ho, hc, hd⟩, _⟩ b hb
    rcases List.mem_cons.mp hb with rfl | hb
    · exact ⟨_, he, fun v q => nomatch q⟩
    · cases List.mem_singleton.mp hb
      exact ⟨o, ho, fun v q => by rw [hd] at q; cases q⟩
  case keep =>
    rintro i h h' ⟨⟨old, he⟩, hi, hne⟩ k
    exact ⟨⟨old, k e (by simp) _ he⟩, hi.at fun o q => k it (by simp) o q, hne⟩
  case self =>
    rintro A i s Q E ⟨⟨_, he⟩, _⟩ h
    exact wpAny_pyIter_enum he h
  case done =>
    intro X hP hw hK hc i pins s σ H E I hf st hg
    subst hP hw hK
    obtain ⟨⟨old, he⟩, hit, hne, hea'⟩ := st
    obtain ⟨xs, hq, hx⟩ := hg
    obtain ⟨its, rv, p, hz⟩ := I.tuple hq
    have hl := rv.length
    obtain ⟨f0, f1, f2, f3, f4, f5⟩ := hf it (by simp)
    have hh : X.A.in1.handled = none := I.ok.hd hc
    have hn : i = its.toArray.size := by rw [List.size_toArray]; omega
    subst hn
    exact wpAny_pyNext_enum_endD (Draws.tuple hh it a hea its.toArray) he ⟨hit, p⟩ fun h' eb => ⟨rfl, I.turned (t' := s.toks) (fun b o hb q => eb b o hb q) f0 f1 f3 f4 f5⟩
  case item =>
    intro X hP hw hK hc i pins s σ H E I hf st hg
    subst hP hw hK
    obtain ⟨⟨old, he⟩, hit, hne, hea'⟩ := st
    obtain ⟨xs, x, hq, hx⟩ := hg
    obtain ⟨its, rv, p, hz⟩ := I.tuple hq
    obtain ⟨u, hu, ru⟩ := rv.get hx
    have hel : e < s.heap.objs.size := Heap.lt_size he
    have hil : it < s.heap.objs.size := by obtain ⟨_, q, _⟩ := hit; exact Heap.lt_size q
    have hi : i < its.toArray.size := by rw [List.size_toArray]; exact (List.getElem?_eq_some_iff.mp hu).1
    have hh : X.A.in1.handled = none := I.ok.hd hc
    refine wpAny_pyNext_enum_itemD (Draws.tuple hh it a hea its.toArray) he ⟨hit, p⟩ hi hne (by simp [hne, hea']) fun x' h' tk hp ho hst hT hsz hk => ?_
    have ex : x' = u := Option.some.inj (hp.symm.trans (by simpa using hu))
    subst ex
    refine ⟨_, rfl, wpAny_letOwnedTupleGo_enum (s := { s with heap := h', toks := tk + 1 }) ho fun h2 he2 sb => ?_⟩
    have at2 : h2.get? s.heap.objs.size = some { cls := .type "tuple", data := .seq #[.int i tk, x'] } := (sb.2 _ (Nat.ne_of_gt hel)).trans hT
    have laid : ObjOk X.prog X.w (upd H s.heap.objs.size (.tup [.int (i : Nat), x])) h2 s.heap.objs.size (.tup [.int (i : Nat), x]) := ⟨szl 2, [.int i tk, x'], .cons ⟨_, rfl⟩ (.cons ru .nil), _, at2, rfl, _, rfl⟩
    have J : Inv X pins σ (upd H s.heap.objs.size (.tup [.int (i : Nat), x])) { s with heap := h2, toks := tk + 1 } :=
      I.turnedNew (ch := [e, it]) (fun b ob hb q => (sb.2 b fun z => hb (by simp [z])).trans (hk b ob (fun z => hb (by simp [z])) (fun z => hb (by simp [z])) q)) hf (Nat.le_refl _) laid
    refine ⟨.ref s.heap.objs.size, _, J, rfl, ⟨_, x, rfl, I.hok.fresh (Nat.le_refl _), rfl, fun ys hy => ?_⟩, ⟨⟨x', ?_⟩, hst.1.at fun o q => (sb.2 it (Ne.symm hne)).trans q, hne, hea'⟩, fun b hb => ?_⟩
    · rw [I.tuple_inj hy hq]
      exact hx
    · have e1 : ((i + 1 : Nat) : Int) = (i : Int) + 1 := by omega
      rw [e1]
      exact he2
    · have hb' : b < s.heap.objs.size := by
        rcases List.mem_cons.mp hb with z | z
        · rw [z]; exact hel
        · rw [List.mem_singleton.mp z]; exact hil
      rw [upd_ne (Nat.ne_of_lt hb')]
      exact (hf b hb).1
def iEnumT (K : PySem.W.Frag) (ta : TA) : TI := fun σ H R => ta σ H fun vs H1 => ∃ a xs, vs = [.ref a] ∧ SqT K H1 a xs ∧ R (IteT K a) H1
theorem pi_enumT {X : Cx} {e : Expr} {ta : TA} {p pos tpos : Pos} {elts : List Expr} {kk : Nat} (hg : Gl X "enumerate") (hm : X.mg "enumerate" = none) (ha : PA X [e] ta) (hs : starEach [e] X.env = [(false, eval e X.env)] := by rfl) :
    PI X (.Tuple elts kk tpos) (.Call (.Name "enumerate" p) [e] [] pos) (iEnumT X.K ta) := by
  refine ⟨fun pins s σ H R I h => Call_ (ld_blt I hg hm boot_enumerate (PyProof.Rows.callWith_type1 (thn (ha.run pos pins s σ H _ I h) fun us s1 ⟨vs, H1, I1, r1, q1⟩ => ?_) hs rfl))⟩
  obtain ⟨a, xs, rfl, hq, q⟩ := q1
  rcases r1 with _ | ⟨r, rr⟩
  cases rr
  cases r
  obtain ⟨its, rv, p', hz⟩ := I1.tuple hq
  refine enum_call1 (begins_tuple a its.toArray) p' fun h' he hit hk => wpAny_pyIter_enum he ?_
  have al : a < s1.heap.objs.size := p'.lt
  refine ⟨s1.heap.objs.size + 1, [s1.heap.objs.size + 1, s1.heap.objs.size], _, _, H1, rfl, I1.kept (t' := s1.toks) hk, turn_enumT (a := a) (e := s1.heap.objs.size + 1) (it := s1.heap.objs.size) (Nat.ne_of_lt al), ⟨⟨.none, he⟩, ⟨_, hit, rfl, rfl⟩, Nat.succ_ne_self _, Nat.ne_of_gt (Nat.lt_succ_of_lt al)⟩, fun b hb => ?_, q⟩
  have hle : s1.heap.objs.size ≤ b := by
    rcases List.mem_cons.mp hb with z | z
    · rw [z]; exact Nat.le_succ _
    · rw [List.mem_singleton.mp z]; exact Nat.le_refl _
  exact I1.fpOk hle (I1.hok.fresh hle)
/-- the loop by an invariant -/
theorem for_enumT {K : PySem.W.Frag} {a : Addr} {xs : List V} {g : TG} {tb : TS} {D : Ends} {σ : L2.St} {H : Hp} (Pv : Nat → L2.St → Hp → Prop) (h0 : Pv 0 σ H) (hl : ∀ i σ H, Pv i σ H → SqT K H a xs)
    (hs : ∀ (i : Nat) (x : V) (T : Addr) (σ : L2.St) (H : Hp), xs[i]? = some x → Pv i σ H → H T = none → g (.ref T) σ (upd H T (.tup [.int (i : Nat), x])) fun σ2 H2 => tb { D with nx := Pv (i + 1), ct := Pv (i + 1), bk := D.nx } σ2 H2)
    (hd : ∀ σ H, Pv xs.length σ H → D.nx σ H) :
    ∃ W : Nat → Nat → L2.St → Hp → Prop, (∃ m, W 0 m σ H) ∧ ∀ i m σ H, W i m σ H → ((IteT K a).stop i H ∧ D.nx σ H) ∨ ((IteT K a).go i H ∧ ∃ N : L2.St → Hp → Prop, (∀ σ' H', N σ' H' → ∃ m', m' < m ∧ W (i + 1) m' σ' H') ∧ ∀ v H', (IteT K a).yld i H v H' → g v σ H' fun σ2 H2 => tb { D with nx := N, ct := N, bk := D.nx } σ2 H2) := by
  refine ⟨fun i m σ H => m = xs.length - i ∧ i ≤ xs.length ∧ Pv i σ H, ⟨_, rfl, Nat.zero_le _, h0⟩, ?_⟩
  rintro i m σ H ⟨rfl, hi, p⟩
  have q := hl i σ H p
  by_cases hlt : i < xs.length
  · refine .inr ⟨⟨xs, xs[i], q, List.getElem?_eq_getElem hlt⟩, Pv (i + 1), fun σ' H' p' => ⟨_, by omega, rfl, hlt, p'⟩, ?_⟩
    rintro v H' ⟨T, x, rfl, nT, rfl, hx⟩
    exact hs i x T σ H (hx xs q) p nT
  · have e : i = xs.length := by omega
    subst e
    exact .inl ⟨⟨xs, q, rfl⟩, hd σ H p⟩
end SK
namespace SK
open PySem PySem.Spec PyProof.Rows L2
structure GotD (P : Program) (w : World) (K : PySem.W.Frag) (mg : Str → Option Value) (base : Heap) (x : Str) (k : Nat) (ps : List Str) (dvs : List V) (sp : Sp) : Prop where
  ex : ∃ (f : Addr) (fd : FuncData) (ds : List Value), FnOk P w K mg base CX0 k f fd ps sp ∧ mg x = some (.ref f) ∧ PySem.W.keepIn K (.ref f) = true ∧ Binds K fd ps ds ∧ Vals dvs ds
theorem pcallD {X : Cx} {x : Str} {k : Nat} {ps : List Str} {dvs : List V} {sp : Sp} {e : Expr} {es : List Expr} {t : TA} {p pos : Pos} (G : GotD X.prog X.w X.K X.mg X.base x k ps dvs sp) (hr : Room k X.A) (ha : PA X (e :: es) t) (hg : Gl X x := by rfl)
    (hdb : (x == ("__debug__" : Str)) = false := by decide)
    (he : starEach (e :: es) X.env = (false, eval e X.env) :: starEach es X.env := by rfl) (hpl : (backTo pos (starEach es X.env)).any (·.1) = false := by rfl) : PE X (.Call (.Name x p) (e :: es) [] pos) (tCall sp dvs E0 t) := by
  obtain ⟨f, fd, ds, F, a, b, c, d⟩ := G.ex
  exact pe_call F hr hg a b c d pass0 ha hdb he hpl
def spCheckBook : Sp := fun vs H Q _ => ∃ (b : Addr) (ws : List (List Sy)) (st : List Sy), vs = [.ref b] ∧ BookAt H b ws st ∧ GoodBook ws st ∧ ∀ H', Same H H' → Q .non H'
def spCheckNum : Sp := fun vs H Q _ => ∃ (n lo hi : Int), vs = [.int n, .int lo, .int hi] ∧ lo ≤ n ∧ n ≤ hi ∧ Q .non H
def spCheckAge : Sp := fun vs H Q _ => ∃ (n m : Nat), vs = [.int n, .int m] ∧ n ≤ m ∧ Q .non H
def spCheckBA : Sp := fun vs H Q _ => ∃ (b : Addr) (n m : Nat) (ws : List (List Sy)) (st : List Sy), vs = [.ref b, .int n, .int m] ∧ BookAt H b ws st ∧ GoodBook ws st ∧ n ≤ m ∧ ∀ H', Same H H' → Q .non H'
section
variable {P : Program} {w : World} {K : PySem.W.Frag} {mg : Str → Option Value} {base : Heap}
theorem ok_checkbook {f : Addr} {fd : FuncData} {k : Nat} (F : Fun K "check_book" "check_book" s_check_book f fd) (GF : Got P w K mg base "has_book_form" k ["value"] spBookForm) (GW : Got P w K mg base "is_word" k ["value", "many"] spIsWord) (ml : mg "len" = none) (mE : mg "enumerate" = none) :
    FnOk P w K mg base CX0 (k + 1) f fd ["value"] spCheckBook := by
  refine F.ok sc_check_book (fun vs H Q E h => ?_) (fun cdv A outer s H vs Q E hr h => ?_)
  · obtain ⟨b, ws, st, rfl, _⟩ := h
    rfl
  · obtain ⟨b, ws, st, rfl, hb, hg, q⟩ := h
    have nd := sc_check_book.nd
    refine ⟨_, pss_cons (ps_if (pt_not (pt_val (pcall GF hr (pa_cons (pv 0) pa_nil)))) pss_never pss_nil)
      (pss_cons (ps_asg (pv 0) (pg_tup (by rfl) (pgs_cons (pg_name (i := 1) nd rfl (.inl rfl)) (pgs_cons (pg_name (i := 2) nd rfl (.inl rfl)) pgs_nil))))
      (pss_cons (ps_for PassesOwn.never rfl (pi_enumT (by rfl) mE (pa_cons (pv 1) pa_nil)) (pg_tup (by rfl) (pgs_cons (pg_name (i := 3) nd rfl (.inl rfl)) (pgs_cons (pg_name (i := 4) nd rfl (.inl rfl)) pgs_nil)))
        (pss_one (ps_if (pt_not (pt_val (pcall GW hr (pa_cons (pv 4) (pa_cons (plen ml (pv 1)) pa_nil))))) pss_never pss_nil)))
      (pss_one (ps_if (pt_not (pt_val (pcall GW hr (pa_cons (pv 2) (pa_cons (plen ml (pv 1)) pa_nil))))) pss_never pss_nil)))), ?_⟩
    obtain ⟨p, pq, as, h1, h2, h3, h4⟩ := id hb
    have el := h4.length
    refine ⟨_, rfl, b, ws, st, rfl, hb, hg, _, rfl, iteF ?_⟩
    refine ⟨_, rfl, b, _, rfl, SqT.of h1, rfl, _, _, rfl, _, _, rfl, rfl, ?_⟩
    refine ⟨_, rfl, p, _, rfl, SqT.of h2, for_enumT (K := K) (a := p) (xs := as.map V.ref) (fun i σ H' => ∃ y3 y4 : Option V, σ = [some (.ref b), some (.ref p), some (.ref pq), y3, y4] ∧ Same H H') ⟨none, none, rfl, Same.refl H⟩ (fun i σ H' ⟨_, _, _, s⟩ => sTup s (SqT.of h2)) ?_ ?_⟩
    · rintro i x T σ H1 hx ⟨y3, y4, rfl, S1⟩ nT
      have S2 := S1.trans (same_upd (o := .tup [.int (i : Nat), x]) nT)
      rw [List.getElem?_map] at hx
      obtain ⟨a, ha, rfl⟩ : ∃ a, as[i]? = some a ∧ x = V.ref a := by
        cases e : as[i]? with
        | none => rw [e] at hx; cases hx
        | some a => rw [e] at hx; exact ⟨a, rfl, (Option.some.inj hx).symm⟩
      have hi : i < ws.length := by rw [← el]; exact (List.getElem?_eq_some_iff.mp ha).1
      have hw := List.getElem?_eq_getElem hi
      have gw := hg.words _ (List.getElem_mem hi)
      generalize ws[i] = w1 at hw gw
      obtain ⟨a', ha', ht⟩ := paired_get h4 hw
      rw [ha] at ha'
      cases ha'
      refine ⟨T, _, rfl, SqT.of upd_same, rfl, _, _, rfl, _, _, rfl, rfl, ?_⟩
      refine ⟨_, rfl, _, rfl, p, _, rfl, .inr (sTup S2 (SqT.of h2)), a, ws.length, w1, ?_, ht.same S2, gw, _, rfl, iteF ⟨_, _, rfl, S2⟩⟩
      rw [List.length_map, el]; rfl
    · rintro σ H1 ⟨y3, y4, rfl, S1⟩
      refine ⟨_, rfl, _, rfl, p, _, rfl, .inr (sTup S1 (SqT.of h2)), pq, ws.length, st, ?_, h3.same S1, hg.start, _, rfl, iteF (q H1 S1)⟩
      rw [List.length_map, el]; rfl
end
end SK
namespace SK
open PySem PySem.Spec PyProof.Rows L2
section
variable {P : Program} {w : World} {K : PySem.W.Frag} {mg : Str → Option Value} {base : Heap}
theorem ok_checknum {f : Addr} {fd : FuncData} {k : Nat} (F : Fun K "check_number" "check_number" s_check_number f fd) (GI : Got P w K mg base "is_integer" k ["value"] (spIsInt K)) :
    FnOk P w K mg base CX0 (k + 1) f fd ["value", "least", "most"] spCheckNum := by
  refine F.ok sc_check_number (fun vs H Q E h => ?_) (fun cdv A outer s H vs Q E hr h => ?_)
  · obtain ⟨n, lo, hi, rfl, _⟩ := h
    rfl
  · obtain ⟨n, lo, hi, rfl, h1, h2, q⟩ := h
    refine ⟨_, pss_one (ps_if (PW.pt (pw_or (pt_not (pt_val (pcall GI hr (pa_cons (pv 0) pa_nil)))) (pw_or1 (pt_not (pt_chain op_le op_le (pv 1) (pv 0) (pv 2)))))) pss_never pss_nil), ?_⟩
    refine ⟨_, rfl, _, "int", true, false, rfl, ty_int _, by decide +kernel, by decide +kernel, _, rfl, iteF ?_⟩
    refine ⟨_, rfl, _, rfl, _, _, rfl, rfl, _, rfl, itY h1 ⟨_, rfl, _, _, rfl, rfl, _, rfl, ?_⟩⟩
    rw [decide_eq_true h2]
    exact iteF q
theorem ok_checkage {f : Addr} {fd : FuncData} {k : Nat} (F : FunD K "check_age" "check_age" (defArgs s_check_age) (defBody s_check_age) (defScope s_check_age) [.int 1000] [] f fd) (GN : Got P w K mg base "check_number" k ["value", "least", "most"] spCheckNum) :
    FnOk P w K mg base CX0 (k + 1) f fd ["value", "most"] spCheckAge := by
  refine F.ok sc_check_age (fun vs H Q E h => ?_) (fun cdv A outer s H vs Q E hr h => ?_)
  · obtain ⟨n, m, rfl, _⟩ := h
    rfl
  · obtain ⟨n, m, rfl, hn, q⟩ := h
    refine ⟨_, pss_one (ps_expr (pcall GN hr (pa_cons (pv 0) (pa_cons pe_int (pa_cons (pv 1) pa_nil))))), ?_⟩
    exact ⟨_, rfl, _, rfl, (n : Int), 0, (m : Int), rfl, by omega, by omega, q⟩
theorem binds_checkage {f : Addr} {fd : FuncData} (F : FunD K "check_age" "check_age" (defArgs s_check_age) (defBody s_check_age) (defScope s_check_age) [.int 1000] [] f fd) : ∃ ds, Vals [V.int 1000] ds ∧ Binds K fd ["value", "most"] ds := by
  refine F.binds1 (ps := ["value", "most"]) 1 0 (by simp) rfl (fun T kV doc pm an cdv ct us its h1 h2 => ?_)
  match us, its, h1, h2 with
  | [u], [i], _, _ => exact ⟨_, rfl, rfl⟩
theorem ok_checkba {f : Addr} {fd : FuncData} {k : Nat} (F : FunD K "check_book_and_age" "check_book_and_age" (defArgs s_check_book_and_age) (defBody s_check_book_and_age) (defScope s_check_book_and_age) [.int 1000] [] f fd) (GB : Got P w K mg base "check_book" k ["value"] spCheckBook) (GA : Got P w K mg base "check_age" k ["value", "most"] spCheckAge) :
    FnOk P w K mg base CX0 (k + 1) f fd ["book", "age", "most"] spCheckBA := by
  refine F.ok sc_check_book_and_age (fun vs H Q E h => ?_) (fun cdv A outer s H vs Q E hr h => ?_)
  · obtain ⟨b, n, m, ws, st, rfl, _⟩ := h
    rfl
  · obtain ⟨b, n, m, ws, st, rfl, hb, hg, hn, q⟩ := h
    refine ⟨_, pss_cons (ps_expr (pcall GB hr (pa_cons (pv 0) pa_nil))) (pss_one (ps_expr (pcall GA hr (pa_cons (pv 1) (pa_cons (pv 2) pa_nil))))), ?_⟩
    exact ⟨_, rfl, b, ws, st, rfl, hb, hg, fun H1 S1 => ⟨_, rfl, _, rfl, n, m, rfl, hn, q H1 S1⟩⟩
theorem binds_checkba {f : Addr} {fd : FuncData} (F : FunD K "check_book_and_age" "check_book_and_age" (defArgs s_check_book_and_age) (defBody s_check_book_and_age) (defScope s_check_book_and_age) [.int 1000] [] f fd) : ∃ ds, Vals [V.int 1000] ds ∧ Binds K fd ["book", "age", "most"] ds := by
  refine F.binds1 (ps := ["book", "age", "most"]) 2 0 (by simp) rfl (fun T kV doc pm an cdv ct us its h1 h2 => ?_)
  match us, its, h1, h2 with
  | [u, u2], [i], _, _ => exact ⟨_, rfl, rfl⟩
end
end SK
/-! an error of the program's own whose making begins with super: its making, its field -/
namespace SK
open PySem PySem.Spec PyProof.Rows L2
open PySem.W PySem.Calls PySem.HandSPX
/-- what is written of the class and of its __init__ -/
structure TmTxt (P : Program) (K : Frag) (mg : Str → Option Value) (C fI : Addr) : Prop where
  gC : mg "TooMany" = some (.ref C)
  gS : mg "super" = none
  cls : ∃ nm q N bs bm sn sub ab col dd k0 k1 k2 k3 k5, K.lookup C = some (excClassObj nm q C N bs bm true sn sub ab col dd k0 k1 k2 k3 k5 "ValueError.__new__") ∧ refsVE bm = true
  sa : findIn K (.ref C) "__setattr__" = some (some (.builtin "object.__setattr__"))
  ga : findIn K (.ref C) "__getattribute__" = some (some (.builtin "BaseException.__getattribute__"))
  gg : findIn K (.ref C) "__getattr__" = some none
  noN : findIn K (.ref C) "most" = some none
  iC : findIn K (.ref C) "__init__" = some (some (.ref fI))
  tC : typeIn K (.ref fI) = some (.type "function")
  kC : keepIn K (.ref C) = true
  exC : subIn K (.ref C) (.type "BaseException") = some true
  veC : subIn K (.ref C) (.type "ValueError") = some true
  tyC : typeIn K (.ref C) = some (.type "type")
  hdC : hasDictIn K C = true
  sup : ks_superIn K C C "__init__" = some (some (.builtin "ValueError.__init__"))
  own : mroIn K C (.ref C) = some true
  opq : nsIn K cStatics "thirdparty.any" = some none
  top : (P.main.scope.names.lookup ("super" : Str)).isSome = false
  fn : ∃ (oc : Value) (od : Option Addr) (doc pm : Value) (an : Option Addr) (cda : Addr) (ct : Value) (cc : Addr) (osl : Array (Option Value)),
    K.lookup fI = some ⟨oc, od, .func (ksFn "__init__" "TooMany.__init__" (defArgs s_TooMany_init) (defBody s_TooMany_init) (defScope s_TooMany_init) .none .none doc pm an (.ref cda) ct cc), osl⟩ ∧ codeIn K (.ref cda) "TooMany.__init__" = true ∧
    (∃ ccl cdd vs ccs file tf, K.lookup cda = some ⟨ccl, cdd, .fields vs, ccs⟩ ∧ vs[2]? = some (.str file tf) ∧ ((P.main.file : Str) == file) = true) ∧ ∃ cl cld csl, K.lookup cc = some ⟨cl, cld, .cell (some (.ref C)), csl⟩
/-- what the making leaves of a fresh one at x -/
structure TmEnd (h h' : Heap) (x C dx : Addr) (v : Value) : Prop where
  keep : ∀ b o, b ≠ x → h.get? b = some o → h'.get? b = some o
  obj : ∃ t1 : Addr, h'.get? x = some { cls := .ref C, dict := some dx, data := .fields #[.ref t1, .none, .none, .none, .bool false, .none] }
  dbig : h.objs.size ≤ dx
  dne : dx ≠ x
  ns : h'.Ns1 dx (fun y => if y = "most" then some v else none)
section
variable {prog : Program} {w : World} {A : Around} {R : Result → Shared → Prop} {s : Shared} {K : Frag} {mg : Str → Option Value} {C fI : Addr}
theorem tm_cw {M : Model} {E : Value → Shared → Prop} {pos : Pos} {env : Env} {e : Expr} {rest : List Expr} {u x : Addr} {i : String} {Q : Value → Shared → Prop}
    (h : wpAny M A (spliced (backTo pos (starEach (e :: rest) env))) (fun vs s₁ => KxsAt i u x s₁.heap ∧ wpAny M A (call (.ref u) vs) Q E s₁) E s)
    (he : starEach (e :: rest) env = (false, eval e env) :: starEach rest env := by rfl) (hplain : (backTo pos (starEach rest env)).any (·.1) = false := by rfl) :
    wpAny M A (callWith pos (.ref u) [] (backTo pos (starEach (e :: rest) env)) []) Q E s := by
  rw [he] at h ⊢
  refine kxs_callWith (i := i) (x := x) (by show (false || (backTo pos (starEach rest env)).any (·.1)) = false; rw [hplain]; rfl) ?_
  exact evalArgs_plain h
theorem tm_call {E : Value → Shared → Prop} {h : Heap} {g : Array GenState} {d : PySem.Drawn} {tk : Nat} {os : OsState} {nm q : Str} {N : Addr} {bs bm : List Value} {hdct : Bool} {sn : List Str} {sub : List Value} {ab : Bool} {col : Option Bool} {dd : Option Addr} {k0 k1 k2 k3 k5 : Option Value}
    {u x t : Addr} {rest : List Value} {Q : Value → Shared → Prop} (hC : h.get? C = some (excClassObj nm q C N bs bm hdct sn sub ab col dd k0 k1 k2 k3 k5 "ValueError.__new__")) (he : h.get? x = some (excO C t)) (hu : h.get? u = some (kxs_mw "ValueError.__init__" x)) (hz : rest.length ≤ sizeLine)
    (hq : ∀ h' t', (∀ b o, b ≠ x → h.get? b = some o → h'.get? b = some o) → h'.get? x = some (excO C t') → Q .none ⟨h', g, d, tk, os⟩) :
    wpAny (model prog w) A (call (.ref u) rest) Q E ⟨h, g, d, tk, os⟩ := by
  refine wpAny_call (codeAny_of_tree ?_)
  show wpAny _ A.in1 (callAny (.ref u) ⟨rest, []⟩) _ _ _
  simp only [callAny]
  refine wpAny_bind (wpAny_load hu ?_)
  simp only [kxs_mw, show (Value.type "method-wrapper" == Value.type "method" || Value.type "method-wrapper" == Value.type "builtin_function_or_method" || Value.type "method-wrapper" == Value.type "method-wrapper") = true by decide, if_true]
  refine KFB.if_so (by decide) ?_
  refine wpAny_bind (check_bound_init PySem.F.excBase_ValueError.toExcCallFacts hC he rfl ?_)
  refine wpAny_bind (wpAny_pure (wpAny_pure ?_))
  refine ⟨plainId_quiet PySem.F.excBase_ValueError.init.plain _, codeAny_builtin PySem.F.excBase_ValueError.initEntry ?_⟩
  exact exc_init_tree (cls := .ref C) (t0 := t) (dv := none) (c2 := .none) (c3 := .none) (b4 := .bool false) he hz fun h' k e _ => hq h' _ k e
theorem tm_init (T : TmTxt prog K mg C fI) {x t0 : Addr} {i : Int} {t : Tok} (X : K.In s.heap) (hlim : s.heap.NoLimit) (hns : s.heap.Ns mainGlobals mg) (hbl : ∃ mb, s.heap.Ns builtinsNs mb ∧ ∀ x : Str, x ≠ "__name__" → mb x = bootBuiltins x)
    (hx : s.heap.get? x = some (excO C t0)) (hnx : K.lookup x = none) (hroom : A.depth < recursionLimit) (hi : i.natAbs.log2 < 1920) (hl : (Str.empty ++ (Str.ofString "more than ") ++ (toString i : Str)).length ≤ sizeLine)
    (hq : ∀ h' tk dx, TmEnd s.heap h' x C dx (.int i t) → R (.ok (.ret .none)) { s with heap := h', toks := tk }) :
    codeAny (model prog w) A (.call (.ref fI) ⟨[.ref x, .int i t], []⟩) R s := by
  obtain ⟨oc, od, doc, pm, an, cda, ct, cc, osl, ho, hcd, ⟨ccl, cdd, vs, ccs, file, tf, hcode, hvs, hfile⟩, cl, cld, csl, hcell⟩ := T.fn
  obtain ⟨nm, q, N, bs, bm, sn, sub, ab, col, dd, k0, k1, k2, k3, k5, hC, hbm⟩ := T.cls
  have hcl : clsIn K C = some { name := nm, bases := bs, mro := .ref C :: bm, ns := N, qualname := q, hasDict := true, slotNames := sn, subclasses := sub, abstract := ab, collection := col, hasDel := false } := by unfold clsIn; rw [hC] <;> rfl
  obtain ⟨hp, g, dr, tk0, os⟩ := s
  refine ks_codeAny_call_defAt (fd := ksFn "__init__" "TooMany.__init__" (defArgs s_TooMany_init) (defBody s_TooMany_init) (defScope s_TooMany_init) .none .none doc pm an (.ref cda) ct cc) (body := defBody s_TooMany_init) (binds := [("self", .ref x), ("most", .int i t)]) hroom (X _ _ ho) rfl hlim (codeRec_of X hcd) rfl
    (BindsTo.of_eq (by first | rfl | with_unfolding_all rfl)) (by show ∀ x ∈ (defScope s_TooMany_init).names, x.2 ≠ .cell; decide +kernel) (fun y hy => by
      rcases List.mem_cons.mp hy with rfl | hy
      · rfl
      · rw [List.mem_singleton.mp hy]; rfl) (fun h₁ hn k => ?_) rfl rfl rfl
  have hxL : hp.objs.size ≠ x := Nat.ne_of_gt (Heap.lt_size hx)
  have X₁ : K.In h₁ := X.keeps k
  have hx₁ := k _ _ hx
  obtain ⟨mb, hb1, hb2⟩ := hbl
  refine ks_wpAt_execs_cons (ks_wpAt_Expr_any (ks_wpAt_MethodCall ?_))
  refine ks_wpAt_super_base (f := fI) (cc := cda) rfl rfl rfl rfl (X₁ _ _ ho) rfl rfl rfl (X₁ _ _ hcode) rfl hvs hfile T.top ?_
  refine ks_loadName_global rfl rfl (loadGlobal_builtin (hns.keeps k) T.gS (hb1.keeps k) ((hb2 _ (by decide +kernel)).trans (by decide +kernel : bootBuiltins "super" = some (.type "super"))) ⟨rfl, ?_⟩)
  refine wpAny_loadName_free rfl rfl rfl ⟨_, X₁ _ _ hcell, rfl⟩ ?_
  refine wpAny_loadName_local rfl rfl hn (by first | rfl | with_unfolding_all rfl) ?_
  refine ks_wpAny_isType_cls (X₁ _ _ hC) rfl ⟨rfl, ?_⟩
  refine ks_wpAny_call_super (X₁ _ _ hC) rfl hx₁ rfl (fun c e => by cases e) (looks_mroIn X₁ T.own) (fun h₂ e2 k2 => ?_)
  have X₂ : K.In h₂ := X₁.keeps k2
  have hx₂ := k2 _ _ hx₁
  have I₂ : InstAt h₂ x (excO C t0) C none := ⟨hx₂, rfl, rfl, trivial⟩
  have hsup := T.sup
  unfold ks_superIn at hsup
  rw [hcl] at hsup
  refine kxs_getMethod kxs_ValueError e2 (looks_opaque X₂ T.opq) (l₀ := .ref C :: bm) (fun A Q E s k q => wpAny_bind ((looks_clsIn X₂ hcl) A _ E s k (wpAny_pure q))) rfl X₂ hsup (I₂.type.andThen (looks_subIn X₂ T.veC)) (ks_ne X₂ I₂ hcl) rfl ?_
  have N₃ : ∀ b o, h₂.get? b = some o → (h₂.push (kxs_mw "ValueError.__init__" x)).get? b = some o := fun b o e => Heap.get?_push_of_some _ e
  have hu₃ : (h₂.push (kxs_mw "ValueError.__init__" x)).get? h₂.objs.size = some (kxs_mw "ValueError.__init__" x) := Heap.get?_push_at rfl rfl
  have k3 : ∀ b o, hp.get? b = some o → (h₂.push (kxs_mw "ValueError.__init__" x)).get? b = some o := fun b o e => N₃ _ _ (k2 _ _ (k _ _ e))
  have kL : ∀ o, h₁.get? hp.objs.size = some o → (h₂.push (kxs_mw "ValueError.__init__" x)).get? hp.objs.size = some o := fun o e => N₃ _ _ (k2 _ _ e)
  have hn3 : (h₂.push (kxs_mw "ValueError.__init__" x)).Ns hp.objs.size (fun y => ([("self", .ref x), ("most", .int i t)] : List (Str × Value)).reverse.lookup y) := by
    obtain ⟨o, es, ep, e1, r⟩ := hn
    exact ⟨o, es, ep, kL _ e1, r⟩
  have hx₃ := N₃ _ _ hx₂
  generalize h₂.push (kxs_mw "ValueError.__init__" x) = h₃ at N₃ hu₃ k3 kL hn3 hx₃ ⊢
  show wpAny _ _ (callWith _ (.ref h₂.objs.size) [] (backTo _ (starEach [_] _)) []) _ _ _
  refine tm_cw (i := "ValueError.__init__") (x := x) (Calls.spliced_cons (wpAny_JoinedStr (pos := jp_TooMany_init) ?_))
  refine Calls.Constant_str ⟨_, _, rfl, ?_, ?_⟩
  · rw [sizeLine_eq]; decide +kernel
  refine wpAny_FormattedValue_plain (wpAny_Name (wpAny_loadName_local rfl rfl hn3 (by first | rfl | with_unfolding_all rfl) ?_) (by decide))
  refine wpAny_formatField_int hi ⟨_, _, rfl, hl, ?_⟩
  refine ⟨hl, Calls.spliced_nil ⟨hu₃, ?_⟩⟩
  refine tm_call (k3 _ _ (X _ _ hC)) hx₃ hu₃ (by show 1 ≤ sizeLine; rw [sizeLine_eq]; decide) fun h₄ t4 k4 hx₄ => ?_
  have X₄ : K.In h₄ := fun a o e => k4 a o (fun z => by rw [z, hnx] at e; cases e) (k3 _ _ (X _ _ e))
  have hn4 : h₄.Ns hp.objs.size (fun y => ([("self", .ref x), ("most", .int i t)] : List (Str × Value)).reverse.lookup y) := by
    obtain ⟨o, es, ep, e1, r⟩ := hn3
    exact ⟨o, es, ep, k4 _ _ hxL e1, r⟩
  refine wpAt_of_wpAny (wpAny_execs_cons (plainObj_wpAny_Assign_Attribute ?_))
  refine wpAny_Name (wpAny_loadName_local rfl rfl hn4 (by first | rfl | with_unfolding_all rfl) ?_) (by decide)
  refine wpAny_Name (wpAny_loadName_local rfl rfl hn4 (by first | rfl | with_unfolding_all rfl) ?_) (by decide)
  refine set_plain X₄ (ox := excO C t4) (od := none) ⟨hx₄, rfl, rfl, trivial⟩ T.sa ?_
  refine exc_osa X₄ hx₄ hcl (show refsVE (.ref C :: bm) = true from hbm) rfl T.noN (fun h₅ tk₅ dx k₅ dn dne hx₅ hn₅ => ?_)
  refine wpAny_execs_nil (hq h₅ tk₅ dx ⟨fun b o hb e => k₅ b o hb (k4 b o hb (k3 b o e)), ⟨t4, hx₅⟩, ?_, dne, hn₅⟩)
  have z := hn4.lt
  exact Nat.le_of_lt (Nat.lt_of_lt_of_le z dn)
end
end SK
namespace SK
open PySem PySem.Spec PyProof.Rows L2
open PySem.W PySem.Calls PySem.HandSPX
/-- a made one at e, its dict at d -/
structure TmMade (h h' : Heap) (e C d : Addr) (v : Value) : Prop where
  keep : ∀ b o, h.get? b = some o → h'.get? b = some o
  new : h.objs.size ≤ e
  obj : ∃ oe vs, h'.get? e = some oe ∧ oe.cls = .ref C ∧ oe.dict = some d ∧ oe.data = .fields vs ∧ vs[1]? = some .none ∧ vs[2]? = some .none
  dbig : h.objs.size ≤ d
  dne : d ≠ e
  ns : h'.Ns1 d (fun y => if y = "most" then some v else none)
section
variable {prog : Program} {w : World} {A : Around} {R : Result → Shared → Prop} {s : Shared} {K : Frag} {mg : Str → Option Value} {C fI : Addr}
theorem tm_made (T : TmTxt prog K mg C fI) {i : Int} {t : Tok} (X : K.In s.heap) (hlim : s.heap.NoLimit) (hns : s.heap.Ns mainGlobals mg) (hbl : ∃ mb, s.heap.Ns builtinsNs mb ∧ ∀ x : Str, x ≠ "__name__" → mb x = bootBuiltins x) (hroom : A.depth + 1 < recursionLimit)
    (hi : i.natAbs.log2 < 1920) (hl : (Str.empty ++ (Str.ofString "more than ") ++ (toString i : Str)).length ≤ sizeLine)
    (hq : ∀ h' tk e d, TmMade s.heap h' e C d (.int i t) → R (.ok (.ret (.ref e))) { s with heap := h', toks := tk }) : codeAny (model prog w) A (.call (.ref C) ⟨[.int i t], []⟩) R s := by
  obtain ⟨nm, q, N, bs, bm, sn, sub, ab, col, dd, k0, k1, k2, k3, k5, hC, hbm⟩ := T.cls
  obtain ⟨hp, g, dr, tk, os⟩ := s
  have k : ∀ b o, hp.get? b = some o → ((hp.push (kdv_tup [.int i t])).push (excO C hp.objs.size)).get? b = some o := fun b o e => Heap.get?_push_of_some _ (Heap.get?_push_of_some _ e)
  have hget : ((hp.push (kdv_tup [.int i t])).push (excO C hp.objs.size)).get? (hp.objs.size + 1) = some (excO C hp.objs.size) := by heap_get
  have hnx : K.lookup (hp.objs.size + 1) = none := by
    cases e : K.lookup (hp.objs.size + 1) with
    | none => rfl
    | some o => exact absurd (Nat.lt_of_succ_lt (Heap.lt_size (show hp.get? (hp.objs.size + 1) = some o from X _ _ e))) (Nat.lt_irrefl _)
  obtain ⟨mb, hb1, hb2⟩ := hbl
  refine call_own PySem.F.excBase_ValueError (fun Y => refsVE_contains Y bm hbm) (X _ _ hC) (looks_findIn X T.iC) (fun self => bind_fn X self T.tC) (by show 1 ≤ sizeLine; rw [sizeLine_eq]; decide) ?_
  refine tm_init (s := ⟨(hp.push (kdv_tup [.int i t])).push (excO C hp.objs.size), g, dr, tk, os⟩) T (X.keeps k) (hlim.keeps k) (hns.keeps k) ⟨mb, hb1.keeps k, hb2⟩ hget hnx hroom hi hl fun h' tk' dx M => ?_
  have old : ∀ b o, hp.get? b = some o → h'.get? b = some o := fun b o e => M.keep b o (Nat.ne_of_lt (Nat.lt_succ_of_lt (Heap.lt_size e))) (k b o e)
  have z : hp.objs.size + 1 + 1 ≤ dx := by
    have q := M.dbig
    first
      | exact q
      | (rw [Heap.size_push, Heap.size_push] at q; exact q)
  obtain ⟨t1, hx⟩ := M.obj
  exact ⟨rfl, hq h' tk' (hp.objs.size + 1) dx ⟨old, Nat.le_succ _, ⟨_, _, hx, rfl, rfl, rfl, rfl, rfl⟩, (by show hp.objs.size ≤ dx; omega), M.dne, M.ns⟩⟩
end
theorem relO_most {v : V} {u : Value} (r : RelV v u) (f : Str) : RelO (List.lookup f [(("most" : Str), v)]) (if f = "most" then some u else none) := by
  by_cases h : f = "most"
  · rw [if_pos h, h]
    exact (show RelO (some v) (some u) from r)
  · rw [if_neg h]
    have e : (f == ("most" : Str)) = false := by simpa using h
    have e2 : List.lookup f [(("most" : Str), v)] = none := by simp [List.lookup, e]
    rw [e2]
    trivial
section
variable {X : Cx} {C fI : Addr}
/-- TooMany(i) -/
def tMkTm (C : Addr) (ta : TA) : L2.St → Hp → XK → Prop := fun σ H Q => ta σ H fun vs H1 => ∃ i : Int, vs = [.int i] ∧ i.natAbs.log2 < 1920 ∧ (Str.empty ++ (Str.ofString "more than ") ++ (toString i : Str)).length ≤ sizeLine ∧ ∀ d, H1 d = none → Q (.ref C) (some d) (upd H1 d (.xd [(("most" : Str), .int i)]))
theorem pmk_tm {a : Expr} {ta : TA} {p pos : Pos} {k : Nat} (T : TmTxt X.prog X.K X.mg C fI) (hr : Room k X.A) (ha : PA X [a] ta) (hg : Gl X "TooMany" := by rfl)
    (he : starEach (a :: []) X.env = (false, eval a X.env) :: starEach [] X.env := by rfl) (hpl : (backTo pos (starEach [] X.env)).any (·.1) = false := by rfl) :
    PMk X (.Call (.Name "TooMany" p) [a] [] pos) (tMkTm C ta) := by
  intro pins s σ H Q I h
  refine wpAny_Call_Name_kw (ld_glob I hg T.gC ?_)
  refine PySem.W.callWith_K (h₀ := X.base) I.ok.mod.kin T.kC (thn (ha.run pos pins s σ H _ I h) fun us s1 hh => ?_) he hpl
  obtain ⟨vs, H1, I1, r1, i, ev, hi, hl, q1⟩ := hh
  subst ev
  refine ⟨I1.kIn, ?_⟩
  obtain ⟨v', rfl, rv⟩ := vals1 r1
  obtain ⟨t, rfl⟩ := id rv
  show wpAny _ _ (call (.ref C) [.int i t]) _ _ _
  have hlim := I1.nolimit
  obtain ⟨mb, hb1, hb2⟩ := I1.mod.blt
  have hns := I1.mod.glob.keeps I1.bk
  have hb1' := hb1.keeps I1.bk
  obtain ⟨hp, g, dr, tk, os⟩ := s1
  refine wpAny_call (tm_made T I1.kIn hlim hns ⟨mb, hb1', hb2⟩ (by have := hr.dp; omega) hi hl fun h' tk' e d M => ?_)
  show MkP X pins σ Q (.ref e) ⟨h', g, dr, tk', os⟩
  obtain ⟨oe, fv, hoe, hc, hd, hdat, h1, _⟩ := M.obj
  obtain ⟨G', g1, g2⟩ := restrict h' fun b => decide (b ≠ e)
  have gk : ∀ b, b ≠ e → G'.get? b = h'.get? b := fun b hb => g1 b (decide_eq_true hb)
  have ge : G'.get? e = none := g2 e (by simp)
  have old : ∀ b o, hp.get? b = some o → G'.get? b = some o := fun b o q => (gk b (Nat.ne_of_lt (Nat.lt_of_lt_of_le (Heap.lt_size q) M.new))).trans (M.keep b o q)
  have ob : ObjOk X.prog X.w (upd H1 d (.xd [(("most" : Str), .int i)])) G' d (.xd [(("most" : Str), .int i)]) := ⟨_, M.ns.at (fun o q => (gk d M.dne).trans q), fun f => relO_most rv f⟩
  have J : Inv X pins σ (upd H1 d (.xd [(("most" : Str), .int i)])) ⟨G', g, dr, tk', os⟩ := I1.laid (t' := tk') old M.dbig ob
  refine ⟨e, oe, fv, ⟨G', g, dr, tk', os⟩, _, .ref C, some d, rfl, J, fun b o q => ?_, ge, hoe, ⟨hc, hd⟩, hdat, h1, ?_, rfl, I1.bare, raises_own T.exC T.tyC, q1 d (I1.hok.fresh M.dbig)⟩
  · by_cases hb : b = e
    · rw [hb] at q
      exact absurd (show G'.get? e = some o from q) (by rw [ge]; exact fun z => nomatch z)
    · exact (gk b hb).symm.trans q
  · rw [upd_ne (Ne.symm M.dne)]
    exact I1.hok.fresh M.new
def tRaiseTm (C : Addr) (W : WX) (ta : TA) : TS := fun _ σ H => tMkTm C ta σ H fun cls d H' => W cls d σ H'
theorem ps_raiseTm {a : Expr} {ta : TA} {W : WX} {p pos pos2 : Pos} {k : Nat} (hc : X.calm = true) (T : TmTxt X.prog X.K X.mg C fI) (hr : Room k X.A) (tk : Takes X W) (ha : PA X [a] ta) (hg : Gl X "TooMany" := by rfl)
    (he : starEach (a :: []) X.env = (false, eval a X.env) :: starEach [] X.env := by rfl) (hpl : (backTo pos (starEach [] X.env)).any (·.1) = false := by rfl) :
    PS X (.Raise (some (.Call (.Name "TooMany" p) [a] [] pos)) none pos2) (tRaiseTm C W ta) := ps_raise hc tk (pmk_tm T hr ha hg he hpl)
/-- error.most, the error that the suite holds at a -/
def tMost (C : Addr) (a : Addr) (cls : Value) (d : Option Addr) (te : TE) : TE := fun σ H Q => te σ H fun x H1 => x = .ref a ∧ cls = .ref C ∧ ∃ (dd : Addr) (v : V), d = some dd ∧ H1 dd = some (.xd [(("most" : Str), v)]) ∧ Q v H1
theorem pe_most {a : Addr} {oe : Obj} {cls : Value} {d : Option Addr} {pn : List (Addr × Obj)} {e : Expr} {te : TE} {pos : Pos} (T : TmTxt X.prog X.K X.mg C fI) (hz : Zc cls d oe) (hf : ∃ vs, oe.data = .fields vs) (he : PE (X.suite a ((a, oe) :: pn)) e te)
    (hb : attributeBase e "most" X.env (eval e X.env) = eval e X.env := by rfl) : PE (X.suite a ((a, oe) :: pn)) (.Attribute e "most" pos) (tMost C a cls d te) := by
  refine ⟨fun pins s σ H Q I h => ?_⟩
  refine attr_of hb (thn (he.run pins s σ H _ I h) fun u s1 hh => ?_)
  obtain ⟨x, H1, I1, rx, ex, ec, dd, v, ed, ea, q⟩ := hh
  subst ex ec ed
  obtain rfl : u = Value.ref a := rx
  obtain ⟨ha, _⟩ := I1.pin (a, oe) (List.mem_append_left _ List.mem_cons_self)
  obtain ⟨vs, hd⟩ := hf
  obtain ⟨mA, hns, hr⟩ := (show ObjOk X.prog X.w H1 s1.heap dd (.xd [(("most" : Str), v)]) from I1.hok dd _ ea)
  obtain ⟨od, ho, hl⟩ := lookIn_ns hns
  have l : List.lookup ("most" : Str) [(("most" : Str), v)] = some v := by simp [List.lookup]
  obtain ⟨u, hu, ru⟩ := RelO.some_of (v := v) (o := mA "most") (by rw [← l]; exact hr "most")
  have J : PySem.W.InstAt s1.heap a oe C (some od) := ⟨ha, hz.1, by unfold PySem.W.notCls; rw [hd] <;> rfl, by rw [hz.2]; exact ho⟩
  exact HandSPX.exc_get I1.kIn J T.ga T.gg T.exC (PySem.W.findObj_own T.hdC T.noN rfl (by rw [hl, hu])) (handed_of ru) ⟨v, H1, I1.tok _, ru, q⟩
end
end SK
namespace SK
open PySem PySem.Spec PyProof.Rows L2
/-- what isinstance asks of the class of an error -/
structure IsTxt (K : PySem.W.Frag) (C : Addr) : Prop where
  ha : PySem.W.findIn K (.ref C) "__class__" = some (some (.builtin "object.__class__"))
  hn : PySem.W.specialIn K (.builtin "object.__class__") "__get__" = some (some (.builtin "getset_descriptor.__get__"))
  ht : PySem.W.takesIn K (.builtin "object.__class__") = some true
  hm : PySem.W.mroIn K C (.type "object") = some true
  kit : PySem.W.kitOne K (.ref C) (.ref C) = some true
def rIsTm (C a : Addr) (cls : Value) (d : Option Addr) : List V → Hp → VK → Prop := fun xs H Q => xs = [.ref a, .ref C] ∧ cls = .ref C ∧ ∃ (dd : Addr) (fs : List (Str × V)), d = some dd ∧ H dd = some (.xd fs) ∧ Q (.bl true) H
theorem call_isTm {X : Cx} {a C fI : Addr} {oe : Obj} {cls : Value} {d : Option Addr} {pn : List (Addr × Obj)} (T : TmTxt X.prog X.K X.mg C fI) (T2 : IsTxt X.K C) (hz : Zc cls d oe) (hf : ∃ vs, oe.data = .fields vs) : CallR (X.suite a ((a, oe) :: pn)) (.builtin "isinstance") (rIsTm C a cls d) := by
  intro pins s σ H xs us Q I r h
  obtain ⟨rfl, rfl, dd, fs, rfl, hd, q⟩ := h
  obtain ⟨u, w', rfl, r1, r2⟩ := vals2 r
  obtain rfl : u = Value.ref a := r1
  obtain rfl : w' = Value.ref C := r2
  obtain ⟨hget, _⟩ := I.pin (a, oe) (List.mem_append.mpr (.inl List.mem_cons_self))
  obtain ⟨vs, hv⟩ := hf
  obtain ⟨mA, hns, hr⟩ := (show ObjOk X.prog X.w H s.heap dd (.xd fs) from I.hok dd _ hd)
  obtain ⟨od, ho, hl⟩ := lookIn_ns hns
  have J : PySem.W.InstAt s.heap a oe C (some od) := ⟨hget, hz.1, by unfold PySem.W.notCls; rw [hv] <;> rfl, by rw [hz.2]; exact ho⟩
  have hcl : (PySem.W.clsIn X.K C).isSome = true := by
    obtain ⟨nm, q, N, bs, bm, sn, sub, ab, col, dd, k0, k1, k2, k3, k5, hC, hbm⟩ := T.cls
    unfold PySem.W.clsIn
    rw [hC] <;> rfl
  exact PySem.W.kia_one (PySem.W.kitx_exc (ox := oe) (od := some od) hcl T.ga T.gg T.exC T2.ha T2.hn T2.ht T2.hm) I.kIn J T2.kit (fun z => nomatch z) fun tk => ⟨.bl true, H, I.kept (t' := tk) fun _ _ z => z, rfl, q⟩
end SK
namespace SK
open PySem PySem.Spec PyProof.Rows L2 PpSet
/-! ### {e for target in iter if ..}, e a whole number -/
def tSci (w : World) (wi : TI) (g : TG) (tt : TT) (te : TE) (vs : List Nat) : TE := fun σ H Q => wi σ H fun J H1 => ∀ D, H1 D = none →
  ∃ W : Nat → Nat → Hp → Prop, (∃ m, W 0 m (upd H1 D (SetO w D (fun _ => false) 0))) ∧ ∀ i m H, W i m H → (J.stop i H ∧ Q (.ref D) H) ∨
    (J.go i H ∧ ∃ Nx : Hp → Prop, (∀ H', Nx H' → ∃ m', m' < m ∧ W (i + 1) m' H') ∧ ∀ x H', J.yld i H x H' → g x (wipe σ vs) H' fun σ2 H2 => wipe σ2 vs = wipe σ vs ∧ tt σ2 H2 fun b H3 =>
      if b = true then te σ2 H3 fun y H4 => ∃ (k : Int) (S : Int → Bool) (n : Nat), y = .int k ∧ H4 D = some (SetO w D S n) ∧ n + 1 < scanBound ∧ Nx (upd H4 D (SetO w D (fun j => S j || decide (j = k)) (if S k = true then n else n + 1))) else Nx H3)
section
variable {X : Cx} {elt tg iter : Expr} {ifs : List Expr} {scope : Scope} {own : List (Str × Nat)} {pos : Pos} {wi : TI} {g : TG} {tt : TT} {te : TE}
theorem pe_sci (hc : X.calm = true) (hN : X.N.Nodup) (hi : PI X tg iter wi) (ok : BlkOk X.N X.env.scope scope own) (hg : ∀ s H C cl fp, PG (X.blk s H scope (compEnvC scope cl C X.env) fp) tg g) (ht : ∀ s H C cl fp, PTs (X.blk s H scope (compEnvC scope cl C X.env) fp) ifs tt)
    (he : ∀ s H C cl fp, PE (X.blk s H scope (compEnvC scope cl C X.env) fp) elt te) (hs : ∀ x, foldedSetIterable iter X.env x = pure x := by intro _; rfl) : PE X (.SetComp elt [⟨tg, iter, ifs, 0⟩] scope pos) (tSci X.w wi g tt te (own.map (·.2))) := by
  refine ⟨fun pins s σ H Q I h => ?_⟩
  rw [eval_SetComp]
  refine wpAny_comprehension_free (use := none) rfl hs (closure_ok fun y hy e => (ok.free y hy e).elim (fun k => I.ok.has _ (.inl k)) fun k => I.ok.has _ (.inr k)) ok.kind (fun y hy e => by rw [ok.uniq y hy, e])
    (thn (hi.run pins s σ H _ I h) fun xv s1 hx => thn hx fun itv s2 ⟨it, fp, tn, J, H2, eit, I2, T, st2, f2, q⟩ => ?_)
  subst eit
  refine newSet_ok (newEnv_comp ?_)
  generalize hD : s2.heap.objs.size = D
  obtain ⟨W, ⟨m0, w0⟩, turn⟩ := q D (I2.hok.fresh (Nat.le_of_eq hD))
  let cell : Obj := { cls := .type "set", dict := none, data := .set #[] 0 (.fresh 0 0 (!X.w.params.followText "set-order")) }
  generalize hs3 : ({ s2 with heap := s2.heap.push cell } : Shared) = s3
  have h3 : s3.heap = s2.heap.push cell := by rw [← hs3]
  have I3 : Inv X pins σ (upd H2 D (SetO X.w D (fun _ => false) 0)) s3 := by
    rw [← hs3]
    exact I2.laid (t' := s2.toks) (fun b o e => Heap.get?_push_of_some _ e) (Nat.le_of_eq hD) (by rw [← hD]; exact setO_new (setR_fresh X.w))
  have f3 : ∀ b ∈ fp, FpOk X pins (upd H2 D (SetO X.w D (fun _ => false) 0)) b ∧ b < s3.heap.objs.size := fun b hb => by
    obtain ⟨o, e, _⟩ := T.obj _ _ st2 b hb
    have lt := Heap.lt_size e
    exact ⟨⟨by rw [upd_ne (by rw [← hD]; exact Nat.ne_of_lt lt)]; exact (f2 b hb).1, (f2 b hb).2⟩, by rw [h3, Heap.size_push]; exact Nat.lt_succ_of_lt lt⟩
  have st3 : tn 0 s3.heap := T.keep _ _ _ st2 fun b _ o e => by rw [h3]; exact Heap.get?_push_of_some _ e
  have I4 := block_start I3 ok hN f3
  let cells := cellsFrom (s3.heap.objs.size + 1) scope.names (cloFrom X.env.cells scope.names [])
  have pg := hg s3 (upd H2 D (SetO X.w D (fun _ => false) 0)) s3.heap.objs.size cells fp
  have pt := ht s3 (upd H2 D (SetO X.w D (fun _ => false) 0)) s3.heap.objs.size cells fp
  have pe := he s3 (upd H2 D (SetO X.w D (fun _ => false) 0)) s3.heap.objs.size cells fp
  show codeAny _ _ (.compStart _ 0 (.ref it) (.ref D) (compEnvC scope cells s3.heap.objs.size X.env)) _ { s3 with heap := pushCells (s3.heap.push { cls := .type "dict", data := .dict #[] }) scope.names }
  change Inv (X.blk s3 _ scope (compEnvC scope cells s3.heap.objs.size X.env) fp) [] _ _ _ at I4
  generalize hce : compEnvC scope cells s3.heap.objs.size X.env = ce at I4 pg pt pe ⊢
  have cL : ce.locals = s3.heap.objs.size := by rw [← hce]; rfl
  generalize hH3 : upd H2 D (SetO X.w D (fun _ => false) 0) = H3 at I3 I4 pg pt pe w0 f3
  generalize hs4 : ({ s3 with heap := pushCells (s3.heap.push { cls := .type "dict", data := .dict #[] }) scope.names } : Shared) = s4 at I4 ⊢
  have st4 : tn 0 s4.heap := T.keep _ _ _ st3 fun b _ o e => by rw [← hs4]; exact pushCells_keeps _ _ _ _ (Heap.get?_push_of_some _ e)
  -- the iterator's own cells within the block
  have inside : ∀ {σ' : L2.St} {H' : Hp} {s' : Shared}, Inv (X.blk s3 H3 scope ce fp) [] σ' H' s' → (∀ b ∈ fp, H' b = none) → ∀ b ∈ fp, FpOk (X.blk s3 H3 scope ce fp) [] H' b := fun I' hn b hb =>
    ⟨hn b hb, (I'.ok.exf b hb).1, I'.ok.exfs b hb, .inl hb, (I'.ok.exf b hb).2 |> fun k x c e => k x c e, fun p hp => nomatch hp⟩
  have loop : codeAny (model X.prog X.w) X.A (.compLoop (.SetComp elt [⟨tg, iter, ifs, 0⟩] scope pos) 0 (.ref it) (.ref D) ce) (compPost (model X.prog X.w) X.A X.xe none (EP X pins σ Q) (.ref D) s3.heap.objs.size) s4 := by
    refine compLoopS_any (fun n s' => ∃ i H', Inv (X.blk s3 H3 scope ce fp) [] (wipe σ (own.map (·.2))) H' s' ∧ tn i s'.heap ∧ (∀ b ∈ fp, H' b = none) ∧ W i n H') ?_ m0 ⟨0, H3, I4, st4, fun b hb => (f3 b hb).1.1, w0⟩
    rintro n s5 ⟨i, H5, I5, st5, n5, w5⟩
    rcases turn i n H5 w5 with ⟨stop, wish⟩ | ⟨go, Nx, hNx, step⟩
    · refine thnF (T.done (X.blk s3 H3 scope ce fp) rfl rfl rfl hc i [] s5 _ H5 (fun _ _ => False) I5 (inside I5 n5) st5 stop) fun r s6 ⟨hr, I6⟩ => ?_
      subst hr
      have I7 : Inv X pins σ H5 s6 := I3.call' (ch := fp) I6.os I6.base I6.hok I6.bare fun b hb => ⟨(f3 b hb).1.2.2.2.1, (f3 b hb).1.2.1, (f3 b hb).1.2.2.2.2.1, (f3 b hb).1.2.2.2.2.2⟩
      have nC : H5 ce.locals = none := I6.free
      obtain ⟨m, hn, _⟩ := I6.loc
      have hn' : s6.heap.Ns ce.locals m := hn
      rw [cL] at hn' nC
      obtain ⟨e0, e1, e2, e3, e4, e5⟩ := I3.fpOk (Nat.le_refl _) nC
      exact ⟨m, hn', fun h'' sb => ⟨.ref D, H5, I7.turned (t' := s6.toks) (fun b o hb e => (sb.2 b hb).trans e) e0 e1 e3 e4 e5, rfl, wish⟩⟩
    · refine thnF (T.item (X.blk s3 H3 scope ce fp) rfl rfl rfl hc i [] s5 _ H5 (fun _ _ => False) I5 (inside I5 n5) st5 go) fun r s6 ⟨u, hr, h6⟩ => ?_
      subst hr
      refine thnF h6 fun _ s7 ⟨x, H7, I7, r7, y7, st7, n7⟩ => thnF (pg.run _ s7 _ H7 x u _ (I7.pinned (inside I7 n7) (T.obj _ _ st7)) r7 (step x H7 y7)) fun _ s8 ⟨σ8, H8, I8, hw8, q8⟩ => thnF (pt.run _ s8 σ8 H8 _ I8 q8) fun b s9 ⟨H9, I9, q9⟩ => ?_
      have fin : ∀ {s' : Shared} {H' : Hp}, Inv (X.blk s3 H3 scope ce fp) ([] ++ pinsAt fp s7.heap) σ8 H' s' → Nx H' → ∃ m, m < n ∧ ∃ i H', Inv (X.blk s3 H3 scope ce fp) [] (wipe σ (own.map (·.2))) H' s' ∧ tn i s'.heap ∧ (∀ b ∈ fp, H' b = none) ∧ W i m H' := fun {s' H'} I' nx => by
        obtain ⟨m', hm, w'⟩ := hNx H' nx
        have held : ∀ b ∈ fp, ∀ o, s7.heap.get? b = some o → s'.heap.get? b = some o ∧ H' b = none := fun b hb o e => by
          have z := I'.pin (b, o) (List.mem_append_right _ (List.mem_append_right _ (mem_pinsAt hb e)))
          exact ⟨z.1, z.2.1⟩
        refine ⟨m', hm, i + 1, H', (I'.unpinned (pins := [])).weak (by rw [← hw8, wipe_length]) (fun j v e => ?_), T.keep _ _ _ st7 fun b hb o e => (held b hb o e).1, fun b hb => ?_, w'⟩
        · rw [← hw8] at e
          exact (wipe_some e).1
        · obtain ⟨o, e, _⟩ := T.obj _ _ st7 b hb
          exact (held b hb o e).2
      cases b with
      | false => exact fin I9 q9
      | true =>
        refine thnF (pe.run _ s9 σ8 H9 _ I9 q9) fun z s10 ⟨yv, H10, I10, r10, k, S0, n0, ey, hD10, hz10, nx⟩ => ?_
        subst ey
        refine thnF (mt_sadd (X := X.blk s3 H3 scope ce fp) _ s10 σ8 H10 (.ref D) [.int k] (.ref D) [z] (fun _ H' => Nx H') I10 rfl (.cons r10 .nil) ⟨D, k, S0, n0, rfl, rfl, hD10, hz10, nx⟩) fun _ s11 ⟨_, H11, I11, _, nx'⟩ => fin I11 nx'
  exact codeAny_compStart_set loop (T.self X.A 0 _ _ _ st4 loop)
end
end SK
namespace SK
open PySem PySem.Spec PyProof.Rows L2
theorem sci_it {J : It} {n : Nat} {G : Hp → Prop} {Y : Nat → Hp → V → Hp → Prop} {w : World} (wk : Walk J n G Y) {g : TG} {tt : TT} {te : TE} {vs : List Nat} {σ : L2.St} {H1 : Hp} {D : Addr} {Qd : Hp → Prop} (Pv : Nat → Hp → Prop) (h0 : Pv 0 (upd H1 D (SetO w D (fun _ => false) 0))) (hG : ∀ i H, i ≤ n → Pv i H → G H)
    (hs : ∀ i x H H', i < n → Pv i H → Y i H x H' → g x (wipe σ vs) H' fun σ2 H2 => wipe σ2 vs = wipe σ vs ∧ tt σ2 H2 fun b H3 =>
      if b = true then te σ2 H3 fun y H4 => ∃ (k : Int) (S : Int → Bool) (n : Nat), y = .int k ∧ H4 D = some (SetO w D S n) ∧ n + 1 < scanBound ∧ Pv (i + 1) (upd H4 D (SetO w D (fun j => S j || decide (j = k)) (if S k = true then n else n + 1))) else Pv (i + 1) H3)
    (hd : ∀ H, Pv n H → Qd H) : ∃ W : Nat → Nat → Hp → Prop, (∃ m, W 0 m (upd H1 D (SetO w D (fun _ => false) 0))) ∧ ∀ i m H, W i m H → (J.stop i H ∧ Qd H) ∨
      (J.go i H ∧ ∃ Nx : Hp → Prop, (∀ H', Nx H' → ∃ m', m' < m ∧ W (i + 1) m' H') ∧ ∀ x H', J.yld i H x H' → g x (wipe σ vs) H' fun σ2 H2 => wipe σ2 vs = wipe σ vs ∧ tt σ2 H2 fun b H3 =>
        if b = true then te σ2 H3 fun y H4 => ∃ (k : Int) (S : Int → Bool) (n : Nat), y = .int k ∧ H4 D = some (SetO w D S n) ∧ n + 1 < scanBound ∧ Nx (upd H4 D (SetO w D (fun j => S j || decide (j = k)) (if S k = true then n else n + 1))) else Nx H3) := by
  refine ⟨fun i m H => m = n - i ∧ i ≤ n ∧ Pv i H, ⟨_, rfl, Nat.zero_le _, h0⟩, ?_⟩
  rintro i m H ⟨rfl, hi, p⟩
  have q := hG i H hi p
  by_cases hlt : i < n
  · exact .inr ⟨wk.goes i H hlt q, Pv (i + 1), fun H' p' => ⟨_, by omega, rfl, hlt, p'⟩, fun x H' y => hs i x H H' hlt p (wk.yields i H x H' hlt q y)⟩
  · have e : i = n := by omega
    subst e
    exact .inl ⟨wk.stops H q, hd H p⟩
/-! ### the letters of a piece -/
def isI (s : Sy) (j : Int) : Bool := match s with
  | .l k => decide (j = (k : Int))
  | _ => false
def hasI (v : List Sy) (j : Int) : Bool := v.any fun s => isI s j
def numI (v : List Sy) : Nat := ((List.range 8).filter fun (j : Nat) => hasI v (j : Int)).length
theorem hasI_app (v : List Sy) (s : Sy) (j : Int) : hasI (v ++ [s]) j = (hasI v j || isI s j) := by
  unfold hasI
  rw [List.any_append]
  simp
theorem hasI_mem {v : List Sy} {k : Nat} : hasI v (k : Int) = true ↔ Sy.l k ∈ v := by
  unfold hasI
  rw [List.any_eq_true]
  constructor
  · rintro ⟨s, hs, e⟩
    cases s with
    | l j =>
      have : (k : Int) = (j : Int) := of_decide_eq_true e
      have : k = j := by omega
      subst this
      exact hs
    | p => cases e
    | m => cases e
    | o => cases e
    | c => cases e
  · intro h
    exact ⟨_, h, decide_eq_true rfl⟩
theorem count_add : ∀ {l : List Nat} {p : Nat → Bool} {k : Nat}, l.Nodup → k ∈ l → p k = false → (l.filter fun j => p j || decide ((j : Int) = (k : Int))).length = (l.filter p).length + 1
  | [], _, _, _, h, _ => by cases h
  | a :: l, p, k, nd, hm, hp => by
    have nd' := (List.nodup_cons.mp nd)
    by_cases e : a = k
    · subst e
      have rest : (l.filter fun j => p j || decide ((j : Int) = (a : Int))) = l.filter p := by
        refine List.filter_congr fun j hj => ?_
        have : ¬ ((j : Int) = (a : Int)) := fun z => by
          have : j = a := by omega
          subst this
          exact nd'.1 hj
        rw [decide_eq_false this, Bool.or_false]
      rw [List.filter_cons, List.filter_cons, rest, hp]
      simp
    · have hm' : k ∈ l := by
        rcases List.mem_cons.mp hm with h | h
        · exact absurd h.symm e
        · exact h
      have ih := count_add (p := p) nd'.2 hm' hp
      have ne : ¬ ((a : Int) = (k : Int)) := fun z => e (by omega)
      rw [List.filter_cons, List.filter_cons, decide_eq_false ne, Bool.or_false]
      cases hpa : p a with
      | true => simp only [if_true, List.length_cons, ih]
      | false => simp only [Bool.false_eq_true, if_false, ih]
theorem numI_le (v : List Sy) : numI v ≤ 8 := by
  unfold numI
  have := List.length_filter_le (fun (j : Nat) => hasI v (j : Int)) (List.range 8)
  rw [List.length_range] at this
  exact this
theorem numI_app (v : List Sy) {k : Nat} (h : k < 8) : numI (v ++ [.l k]) = if hasI v (k : Int) = true then numI v else numI v + 1 := by
  unfold numI
  have e : (fun (j : Nat) => hasI (v ++ [.l k]) (j : Int)) = fun (j : Nat) => hasI v (j : Int) || decide ((j : Int) = (k : Int)) := by
    funext j
    rw [hasI_app]
    rfl
  rw [e]
  cases hk : hasI v (k : Int) with
  | true =>
    rw [if_pos rfl]
    congr 1
    refine List.filter_congr fun j _ => ?_
    by_cases z : (j : Int) = (k : Int)
    · rw [z, hk]; rfl
    · rw [decide_eq_false z, Bool.or_false]
  | false =>
    rw [if_neg (by simp)]
    exact count_add List.nodup_range (List.mem_range.mpr h) hk
theorem nat_list : ∀ {ns : List Int}, (∀ i ∈ ns, 0 ≤ i) → ∃ ls : List Nat, ns = ls.map fun (k : Nat) => (k : Int)
  | [], _ => ⟨[], rfl⟩
  | i :: ns, h => by
    obtain ⟨ls, e⟩ := nat_list (ns := ns) fun j hj => h j (List.mem_cons_of_mem _ hj)
    exact ⟨i.toNat :: ls, by rw [e, List.map_cons, Int.toNat_of_nonneg (h i List.mem_cons_self)]⟩
def iV (ls : List Nat) : List V := ls.map fun (k : Nat) => V.int (k : Int)
def spLettersIn (K : PySem.W.Frag) : Sp := fun vs H Q _ => ∃ (a : Addr) (w : List Sy), vs = [.ref a] ∧ Sq K H a (wv w) ∧ (∀ k, Sy.l k ∈ w → k < 8) ∧
  ∀ (H' : Hp) (p : Addr) (ls : List Nat), Same H H' → H p = none → H' p = some (.lst (iV ls)) → (∀ k, k ∈ ls ↔ Sy.l k ∈ w) → ls.length ≤ 8 → Q (.ref p) H'
section
variable {P : Program} {w : World} {K : PySem.W.Frag} {mg : Str → Option Value} {base : Heap}
theorem ok_lettersin {f : Addr} {fd : FuncData} {k : Nat} (F : Fun K "letters_in" "letters_in" s_letters_in f fd) (mI : mg "isinstance" = none) (mS : mg "str" = none) (mO : mg "sorted" = none) : FnOk P w K mg base CX0 (k + 1) f fd ["parts"] (spLettersIn K) := by
  refine F.ok sc_letters_in (fun vs H Q E h => ?_) (fun cdv A outer s H vs Q E hr h => ?_)
  · obtain ⟨a, w, rfl, _⟩ := h
    rfl
  · obtain ⟨a, wd, rfl, ha, hb, q⟩ := h
    have nd := sc_letters_in.nd
    refine ⟨_, pss_one (ps_ret (pe_callB (cr_sortedSet rfl) (by rfl) mO (by decide +kernel) (pa_cons
      (pe_sci (own := [("part", 1)]) (g := gName 1) (tt := tNotStr K 1) rfl nd (pi_seq (pv 0)) (blkOk_by (N := n_letters_in) (sc := defScope s_letters_in) (by decide +kernel))
        (fun _ _ _ _ _ => pg_name (i := 1) nd rfl (Or.inl rfl)) (fun _ _ _ _ _ => pts_one (ptNotStr mI mS (pv 1))) (fun _ _ _ _ _ => pv 1)) pa_nil))), ?_⟩
    have go : ∀ {J : It} {G : Hp → Prop}, Walk J (wv wd).length G (YAt (wv wd)) → (∀ H', Same H H' → G H') → ∀ D, H D = none → ∀ (Qd : Hp → Prop), (∀ H', Same H H' → H' D = some (SetO w D (hasI wd) (numI wd)) → Qd H') →
        ∃ W : Nat → Nat → Hp → Prop, (∃ m, W 0 m (upd H D (SetO w D (fun _ => false) 0))) ∧ ∀ i m H, W i m H → (J.stop i H ∧ Qd H) ∨
          (J.go i H ∧ ∃ Nx : Hp → Prop, (∀ H', Nx H' → ∃ m', m' < m ∧ W (i + 1) m' H') ∧ ∀ x H', J.yld i H x H' → gName 1 x (wipe (L2.start n_letters_in [V.ref a]) [1]) H' fun σ2 H2 => wipe σ2 [1] = wipe (L2.start n_letters_in [V.ref a]) [1] ∧ tNotStr K 1 σ2 H2 fun b H3 =>
            if b = true then tVar 1 σ2 H3 fun y H4 => ∃ (k : Int) (S : Int → Bool) (n : Nat), y = .int k ∧ H4 D = some (SetO w D S n) ∧ n + 1 < scanBound ∧ Nx (upd H4 D (SetO w D (fun j => S j || decide (j = k)) (if S k = true then n else n + 1))) else Nx H3) := by
      intro J G wk hG D nD Qd hq
      refine sci_it wk (fun i H' => Same H H' ∧ H' D = some (SetO w D (hasI (wd.take i)) (numI (wd.take i)))) ⟨same_upd nD, upd_same⟩ (fun i H' _ p => hG H' p.1) ?_ ?_
      · rintro i x H1 H2 hi ⟨S1, hD⟩ ⟨rfl, hx⟩
        obtain ⟨sy, hs, rfl⟩ := wv_get hx
        obtain ⟨tn, tb, ht, hk, htb⟩ := ty_sy (K := K) (H := H2) sy
        refine ⟨rfl, _, rfl, sy.v, tn, tb, rfl, ht, hk, tb, rfl, ?_⟩
        subst htb
        rw [Bool.not_not, take_more hs]
        cases sy with
        | l k =>
          refine iteT ⟨_, rfl, (k : Int), hasI (wd.take i), numI (wd.take i), rfl, hD, ?_, sPut S1 nD, ?_⟩
          · have := numI_le (wd.take i)
            exact Nat.lt_of_le_of_lt (show numI (wd.take i) + 1 ≤ 9 by omega) (by decide)
          · rw [upd_same, numI_app _ (hb k (List.mem_of_getElem? hs))]
            congr 2
            funext j
            rw [hasI_app]
            rfl
        | p => exact iteF ⟨S1, by rw [hD]; congr 2; exact (funext fun j => by rw [hasI_app, show isI .p j = false from rfl, Bool.or_false]); simp only [numI, hasI_app]; simp [isI]⟩
        | m => exact iteF ⟨S1, by rw [hD]; congr 2; exact (funext fun j => by rw [hasI_app, show isI .m j = false from rfl, Bool.or_false]); simp only [numI, hasI_app]; simp [isI]⟩
        | o => exact iteF ⟨S1, by rw [hD]; congr 2; exact (funext fun j => by rw [hasI_app, show isI .o j = false from rfl, Bool.or_false]); simp only [numI, hasI_app]; simp [isI]⟩
        | c => exact iteF ⟨S1, by rw [hD]; congr 2; exact (funext fun j => by rw [hasI_app, show isI .c j = false from rfl, Bool.or_false]); simp only [numI, hasI_app]; simp [isI]⟩
      · rintro H1 ⟨S1, hD⟩
        rw [List.length_map, List.take_length] at hD
        exact hq H1 S1 hD
    have fin : ∀ (D : Addr) (H' : Hp), Same H H' → H' D = some (SetO w D (hasI wd) (numI wd)) → rSortedSet w [.ref D] H' Q := by
      intro D H' S1 hD
      refine ⟨D, hasI wd, numI wd, rfl, hD, Nat.lt_of_le_of_lt (numI_le wd) (by decide), fun ns p hs hm hl np => ?_⟩
      obtain ⟨ls, rfl⟩ := nat_list (ns := ns) fun i hi => by
        have h1 := (hm i).mp hi
        unfold hasI at h1
        obtain ⟨s, _, e⟩ := List.any_eq_true.mp h1
        cases s with
        | l j => have : i = (j : Int) := of_decide_eq_true e; omega
        | p => cases e
        | m => cases e
        | o => cases e
        | c => cases e
      refine q _ p ls (sUpd S1 np) (S1.free np) ?_ (fun k => ?_) ?_
      · rw [upd_same, List.map_map]; rfl
      · rw [← hasI_mem, ← hm (k : Int)]
        constructor
        · intro h; exact List.mem_map.mpr ⟨k, h, rfl⟩
        · intro h
          obtain ⟨j, hj, e⟩ := List.mem_map.mp h
          have : j = k := by omega
          rw [← this]; exact hj
      · rw [List.length_map] at hl
        rw [hl]; exact numI_le wd
    rcases ha with ha | ha
    · exact ⟨a, rfl, .inl ⟨⟨_, ha⟩, fun D nD => go walk_list (fun H' S => S.seq ha) D nD _ fun H' S1 hD => fin D H' S1 hD⟩⟩
    · exact ⟨a, rfl, .inr ⟨⟨_, ha⟩, fun D nD => go walk_tup (fun H' S => sTup S ha) D nD _ fun H' S1 hD => fin D H' S1 hD⟩⟩
end
end SK
namespace SK
open PySem PySem.Spec PyProof.Rows L2
/-- a walk by an invariant, told by what one turn brings -/
theorem walk_by {J : It} {n : Nat} {G : Hp → Prop} {Y : Nat → Hp → V → Hp → Prop} (wk : Walk J n G Y) {H0 : Hp} {turn : V → Hp → (Hp → Prop) → Prop} {Qd : Hp → Prop} (Pv : Nat → Hp → Prop) (h0 : Pv 0 H0) (hG : ∀ i H, Pv i H → G H)
    (hs : ∀ i x H H', i < n → Pv i H → Y i H x H' → turn x H' (Pv (i + 1))) (hd : ∀ H, Pv n H → Qd H) : ∃ W : Nat → Nat → Hp → Prop, (∃ m, W 0 m H0) ∧ ∀ i m H, W i m H → (J.stop i H ∧ Qd H) ∨
      (J.go i H ∧ ∃ Nx : Hp → Prop, (∀ H', Nx H' → ∃ m', m' < m ∧ W (i + 1) m' H') ∧ ∀ x H', J.yld i H x H' → turn x H' Nx) := by
  refine ⟨fun i m H => m = n - i ∧ i ≤ n ∧ Pv i H, ⟨_, rfl, Nat.zero_le _, h0⟩, ?_⟩
  rintro i m H ⟨rfl, hi, p⟩
  have q := hG i H p
  by_cases hlt : i < n
  · exact .inr ⟨wk.goes i H hlt q, Pv (i + 1), fun H' p' => ⟨_, by omega, rfl, hlt, p'⟩, fun x H' y => hs i x H H' hlt p (wk.yields i H x H' hlt q y)⟩
  · have e : i = n := by omega
    subst e
    exact .inl ⟨wk.stops H q, hd H p⟩
def spNext : Sp := fun vs H Q _ => ∃ (p l : Addr) (as : List Addr) (ws : List (List Sy)) (ls : List Nat), vs = [.ref p, .ref l] ∧ H p = some (.tup (as.map V.ref)) ∧ Words H as ws ∧ H l = some (.lst (iV ls)) ∧ (∀ k ∈ ls, k < ws.length) ∧ ls.length ≤ 8 ∧ ws.length ≤ 8 ∧ (∀ w ∈ ws, Good ws.length 40 w) ∧
  ∀ (H' : Hp) (q : Addr) (ls' : List Nat), Same H H' → H q = none → H' q = some (.lst (iV ls')) → (∀ k, k ∈ ls' ↔ ∃ j ∈ ls, Sy.l k ∈ ws.getD j []) → ls'.length ≤ 8 → Q (.ref q) H'
section
variable {P : Program} {w : World} {K : PySem.W.Frag} {mg : Str → Option Value} {base : Heap}
theorem ok_next {f : Addr} {fd : FuncData} {k : Nat} (F : Fun K "next_letters" "next_letters" s_next_letters f fd) (GL : Got P w K mg base "letters_in" k ["parts"] (spLettersIn K)) : FnOk P w K mg base CX0 (k + 1) f fd ["words", "letters"] spNext := by
  refine F.ok sc_next_letters (fun vs H Q E h => ?_) (fun cdv A outer s H vs Q E hr h => ?_)
  · obtain ⟨p, l, as, ws, ls, rfl, _⟩ := h
    rfl
  · obtain ⟨p, l, as, ws, ls, rfl, hp, hw, hl, hk, hz, hz2, hg, q⟩ := h
    have nd := sc_next_letters.nd
    refine ⟨_, pss_one (ps_ret (pcall GL hr (pa_cons
      (pe_lc2 (own := [("letter", 2), ("part", 3)]) (vs1 := [3]) (wi1 := iTup K (tOp (rIxT K) (tVar 0) (tVar 2))) (g := gName 2) (g1 := gName 3) (tt := tYes) (tt1 := tYes) rfl nd (pi_list (pv 1)) (blkOk_by (N := n_next_letters) (sc := defScope s_next_letters) (by decide +kernel)) (by decide)
        (fun _ _ _ _ _ => pg_name (i := 2) nd rfl (Or.inl rfl)) (fun _ _ _ _ _ => pts_nil) (fun _ _ _ _ _ => pi_tup (pixT (pv 0) (pv 2))) (fun _ _ _ _ _ => pg_name (i := 3) nd rfl (Or.inl rfl)) (fun _ _ _ _ _ => pts_nil) (fun _ _ _ _ _ => pv 3)) pa_nil))), ?_⟩
    refine ⟨_, rfl, l, rfl, ⟨_, SqL.of hl⟩, fun D nD => ?_⟩
    have lz : ∀ i, ((ls.take i).flatMap fun j => ws.getD j []).length ≤ 40 * 8 := by
      have : ∀ js : List Nat, ((js.flatMap fun j => ws.getD j []).length) ≤ 40 * js.length := by
        intro js
        induction js with
        | nil => exact Nat.zero_le _
        | cons j js ih =>
          rw [List.flatMap_cons, List.length_append, List.length_cons]
          have : (ws.getD j []).length ≤ 40 := by
            rw [List.getD_eq_getElem?_getD]
            cases e : ws[j]? with
            | none => exact Nat.zero_le _
            | some w => exact (hg w (List.mem_of_getElem? e)).len
          omega
      intro i
      have h1 := this (ls.take i)
      have h2 : (ls.take i).length ≤ ls.length := by rw [List.length_take]; omega
      omega
    refine walk_by (walk_list (K := K) (a := l) (xs := iV ls)) (fun i H' => Same H H' ∧ H' D = some (.lst (wv ((ls.take i).flatMap fun j => ws.getD j [])))) ⟨same_upd nD, upd_same⟩ (fun i H' p => p.1.seq (SqL.of hl)) ?_ ?_
    · rintro i x H1 H2 hi ⟨S1, hD⟩ ⟨rfl, hx⟩
      obtain ⟨j, hj, rfl⟩ : ∃ j, ls[i]? = some j ∧ x = V.int (j : Int) := by
        unfold iV at hx
        rw [List.getElem?_map] at hx
        cases e : ls[i]? with
        | none => rw [e] at hx; cases hx
        | some j => rw [e] at hx; exact ⟨j, rfl, (Option.some.inj hx).symm⟩
      have hjw := hk j (List.mem_of_getElem? hj)
      obtain ⟨a, ha, hta⟩ := paired_get hw (List.getElem?_eq_getElem hjw)
      have ej : ws.getD j [] = ws[j] := by rw [List.getD_eq_getElem?_getD, List.getElem?_eq_getElem hjw]; rfl
      have gj := (hg _ (List.getElem_mem hjw)).len
      have et : ((ls.take (i + 1)).flatMap fun j => ws.getD j []) = ((ls.take i).flatMap fun j => ws.getD j []) ++ ws[j] := by
        rw [take_more hj, List.flatMap_append, List.flatMap_cons, List.flatMap_nil, List.append_nil, ej]
      have li := lz i
      rw [et]
      generalize ((ls.take i).flatMap fun j => ws.getD j []) = acc at hD li
      generalize ws[j] = wj at hta gj
      refine ⟨rfl, _, rfl, _, rfl, p, _, _, .ref a, rfl, rfl, SqT.of (S1 _ _ hp), atI_nat (by rw [List.getElem?_map, ha]; rfl), a, rfl, ⟨_, (hta.same S1).sq⟩, ?_⟩
      refine walk_by (walk_tup (K := K) (a := a) (xs := wv wj)) (fun m H' => Same H H' ∧ H' D = some (.lst (wv (acc ++ wj.take m)))) ⟨S1, by rw [hD, List.take_zero, List.append_nil]⟩ (fun m H' p => (hta.same p.1).sq) ?_ ?_
      · rintro m y H3 H4 hm ⟨S3, hD3⟩ ⟨rfl, hy⟩
        obtain ⟨s, hs, rfl⟩ := wv_get hy
        refine ⟨rfl, _, rfl, _, hD3, ?_, sPut S3 nD, ?_⟩
        · have : (wj.take m).length ≤ wj.length := by rw [List.length_take]; omega
          rw [List.length_map, List.length_append, sizeLine_eq]; omega
        · rw [upd_same, take_more hs, ← List.append_assoc]
          simp only [wv, List.map_append, List.map_cons, List.map_nil]
      · rintro H3 ⟨S3, hD3⟩
        rw [List.length_map, List.take_length] at hD3
        exact ⟨S3, hD3⟩
    · rintro H1 ⟨S1, hD⟩
      have hD' : H1 D = some (.lst (wv (ls.flatMap fun j => ws.getD j []))) := by
        rw [hD]
        unfold iV
        rw [List.length_map, List.take_length]
      refine ⟨D, _, rfl, .inl (SqL.of hD'), fun k hk2 => ?_, fun H2 p2 ls' S2 n2 h2 hm hl2 => q H2 p2 ls' (S1.trans S2) (S1.free n2) h2 (fun k => ?_) hl2⟩
      · obtain ⟨j, hj, h⟩ := List.mem_flatMap.mp hk2
        rw [List.getD_eq_getElem?_getD] at h
        cases e : ws[j]? with
        | none => rw [e] at h; cases h
        | some w => rw [e] at h; have := (hg w (List.mem_of_getElem? e)).lets k h; omega
      · rw [hm, List.mem_flatMap]
end
end SK
namespace SK
open PySem PySem.Spec PyProof.Rows L2
def Sy.d : Sy → PyData
  | .l k => .int k
  | .p => .str "+"
  | .m => .str "-"
  | .o => .str "["
  | .c => .str "]"
def cnt (k : Nat) (w : List Sy) : Nat := w.countP fun s => decide (s = .l k)
theorem dp_sy {K : PySem.W.Frag} {H : Hp} : ∀ w : List Sy, DpAll K H (wv w) (w.map Sy.d)
  | [] => .nil
  | .l k :: w => .cons (.int _) (dp_sy w)
  | .p :: w => .cons (.str _) (dp_sy w)
  | .m :: w => .cons (.str _) (dp_sy w)
  | .o :: w => .cons (.str _) (dp_sy w)
  | .c :: w => .cons (.str _) (dp_sy w)
theorem cnt_eq (k : Nat) (w : List Sy) : (w.map Sy.d).countP (fun y => PyData.eqv y (.int (k : Int))) = cnt k w := by
  rw [List.countP_map]
  unfold cnt
  congr 1
  funext s
  cases s with
  | l j =>
    show PyData.eqv (.int (j : Int)) (.int (k : Int)) = decide (Sy.l j = Sy.l k)
    simp [PyData.eqv]
    by_cases e : j = k
    · subst e; simp
    · rw [decide_eq_false e]; simp; omega
  | p => simp [Sy.d, PyData.eqv]
  | m => simp [Sy.d, PyData.eqv]
  | o => simp [Sy.d, PyData.eqv]
  | c => simp [Sy.d, PyData.eqv]
theorem plain_sy : ∀ w : List Sy, PyData.plainAll (w.map Sy.d) = true
  | [] => by simp [PyData.plainAll]
  | .l k :: w => by simp only [List.map_cons, Sy.d, PyData.plainAll, PyData.plain, plain_sy w]; rfl
  | .p :: w => by simp only [List.map_cons, Sy.d, PyData.plainAll, PyData.plain, plain_sy w]; decide
  | .m :: w => by simp only [List.map_cons, Sy.d, PyData.plainAll, PyData.plain, plain_sy w]; decide
  | .o :: w => by simp only [List.map_cons, Sy.d, PyData.plainAll, PyData.plain, plain_sy w]; decide
  | .c :: w => by simp only [List.map_cons, Sy.d, PyData.plainAll, PyData.plain, plain_sy w]; decide
theorem depth_sy : ∀ w : List Sy, PyData.depthAll (w.map Sy.d) = 0
  | [] => by simp [PyData.depthAll]
  | s :: w => by
    have e : PyData.depth s.d = 0 := by cases s <;> simp [Sy.d, PyData.depth]
    simp only [List.map_cons, PyData.depthAll, e, depth_sy w]
    rfl
/-- w.count(k), w a word -/
def tCnt (to : TE) (t : TA) : TE := fun σ H Q => to σ H fun x H1 => ∃ (a : Addr) (w : List Sy), x = .ref a ∧ WdAt H1 a w ∧ t σ H1 fun ys H2 => ∃ k : Nat, ys = [.int (k : Int)] ∧ WdAt H2 a w ∧ Q (.int (cnt k w : Int)) H2
section
variable {X : Cx} {o e : Expr} {to te : TE} {apos cpos : Pos}
theorem pcount (hu : X.A.units + 64 < cLine) (ho : PE X o to) (he : PE X e te) (hb : attributeBase o "count" X.env (eval o X.env) = eval o X.env := by rfl)
    (hf : ((backTo cpos (starEach (e :: []) X.env)).all (fun x => !x.1) && (backToKw cpos (keywordEach [] X.env)).all (fun x => x.1.isSome) && decide ((e :: []).length + ([] : List Keyword).length + (if ([] : List Keyword).isEmpty then 0 else 1) < 30)) = true := by rfl)
    (hl : (apos.endLine == cpos.line) = true := by rfl) (hs : starEach [e] X.env = (false, eval e X.env) :: starEach [] X.env := by rfl) (hp : (backTo cpos (starEach [] X.env)).any (·.1) = false := by rfl) : PE X (.Call (.Attribute o "count" apos) [e] [] cpos) (tCnt to (tCons te tNil)) := by
  refine ⟨fun pins s σ H Q I h => wpAny_Call_method_late hb hf hl rfl (thn (ho.run pins s σ H _ I h) fun v s1 ⟨x, H1, I1, r1, a, w, ex, hw, q1⟩ => ?_)⟩
  subst ex
  cases r1
  obtain ⟨ob, hob, hd, _⟩ := id hw
  obtain ⟨hat, _, its, rv, o2, ho2, hc2, _⟩ := (show ObjOk X.prog X.w H1 s1.heap a (.frz ob (.tup (wv w))) from I1.hok a _ hob)
  have eo : o2 = ob := Option.some.inj (ho2.symm.trans hat)
  subst eo
  refine ⟨"tuple", "tuple.count", PySem.F.plainAttrs_tuple, PySem.F.slot_tuple_count, PySem.F.type_tuple_count, ⟨_, hat, hc2⟩, fun b e => by cases e; exact ⟨_, hat, hd⟩, ?_⟩
  have hA := (pa_cons he pa_nil hs).run cpos pins s1 σ H1 _ I1 q1
  rw [hs] at hA ⊢
  refine Calls.callWith_builtin (by show (false || (backTo cpos (starEach [] X.env)).any (·.1)) = false; rw [hp]; rfl) (Calls.evalArgs_plain (thn hA fun us s2 ⟨vs, H2, I2, r2, q2⟩ => ?_))
  obtain ⟨k, ey, hw2, q⟩ := q2
  subst ey
  rcases r2 with _ | ⟨ry, rr⟩
  cases rr
  obtain ⟨its2, rv2, pl, _⟩ := I2.tuple hw2.sq
  obtain ⟨as, ra⟩ := Dp.readsAll I2 _ _ _ (dp_sy (K := X.K) (H := H2) w) rv2
  obtain ⟨bs, rb⟩ := Dp.reads I2 _ _ _ (Dp.int (K := X.K) (H := H2) (k : Int)) ry
  refine SeqAt.count_tuple_data (xs := w.map Sy.d) (d := .int (k : Int)) pl (by simpa using ra) rb (plain_sy w) (by simp [PyData.plain]) (by rw [depth_sy]; simp [PyData.depth]; omega) ?_
  rw [cnt_eq]
  exact ⟨.int (cnt k w : Int), H2, I2.tok _, ⟨_, rfl⟩, q⟩
end
end SK
namespace SK
open PySem PySem.Spec PyProof.Rows L2
def cntL (n : Nat) (w : List Sy) : List Nat := (List.range n).map fun k => cnt k w
def spCount : Sp := fun vs H Q _ => ∃ (a : Addr) (n : Nat) (w : List Sy), vs = [.ref a, .int n] ∧ WdAt H a w ∧ n ≤ 8 ∧ New (.lst (iV (cntL n w))) H Q
theorem range_get {n i : Nat} (h : i < n) : (List.range n)[i]? = some i := by rw [List.getElem?_range h]
/-- after[k] += e: the list's item read -/
theorem get_list {X : Cx} : PGet X (fun o i H Q => ∃ (p : Addr) (xs : List V) (k : Nat) (v : V), o = .ref p ∧ i = .int (k : Int) ∧ SqL X.K H p xs ∧ xs[k]? = some v ∧ Q v H) := by
  rintro pins s σ H o i ov iv Q I ro ri ⟨p, xs, k, v, rfl, rfl, h, hk, q⟩
  obtain ⟨t, rfl⟩ := ri
  cases ro
  obtain ⟨its, rv, pl, hsz⟩ := I.list h
  obtain ⟨u, hu, ru⟩ := rv.get hk
  have hlt : k < its.length := (List.getElem?_eq_some_iff.mp hu).1
  have hz := line63
  have hl := rv.length
  exact PyProof.Rows.getItem_listL pl.isList (by omega) (by omega) (by rw [Int.toNat_natCast]; exact hu) ⟨v, H, I, ru, q⟩
section
variable {P : Program} {w : World} {K : PySem.W.Frag} {mg : Str → Option Value} {base : Heap}
theorem ok_count {f : Addr} {fd : FuncData} {k : Nat} (F : Fun K "count_letters" "count_letters" s_count_letters f fd) (mR : mg "range" = none) : FnOk P w K mg base CX0 (k + 1) f fd ["word", "many"] spCount := by
  refine F.ok sc_count_letters (fun vs H Q E h => ?_) (fun cdv A outer s H vs Q E hr h => ?_)
  · obtain ⟨a, n, w, rfl, _⟩ := h
    rfl
  · obtain ⟨a, n, wd, rfl, ha, hn, q⟩ := h
    have nd := sc_count_letters.nd
    refine ⟨_, pss_one (ps_ret (pe_lc (own := [("letter", 2)]) (g := gName 2) (tt := tYes) rfl nd (pi_range1 rfl mR (pa_cons (pv 1) pa_nil)) (blkOk_by (N := n_count_letters) (sc := defScope s_count_letters) (by decide +kernel))
      (fun _ _ _ _ _ => pg_name (i := 2) nd rfl (Or.inl rfl)) (fun _ _ _ _ _ => pts_nil) (fun _ _ _ _ _ => pcount hr.units (pv 0) (pv 2)))), ?_⟩
    refine ⟨_, rfl, (n : Int), rfl, by omega, by omega, fun D nD => ?_⟩
    rw [Int.toNat_natCast]
    refine lc_range (lo := 0) (n := n) (fun i H' => Same H H' ∧ H' D = some (.lst (iV ((List.range i).map fun k => cnt k wd)))) ⟨same_upd nD, upd_same⟩ ?_ ?_
    · rintro i H1 hi ⟨S1, hD⟩
      have e0 : (0 : Int) + (i : Int) = (i : Int) := by omega
      refine ⟨rfl, _, rfl, a, wd, rfl, ha.same S1, _, rfl, i, ?_, ha.same S1, _, hD, ?_, sPut S1 nD, ?_⟩
      · rw [e0]
      · unfold iV; rw [List.length_map, List.length_map, List.length_range, sizeLine_eq]; omega
      · rw [upd_same, List.range_succ, List.map_append]
        simp only [iV, List.map_append, List.map_cons, List.map_nil]
    · rintro H1 ⟨S1, hD⟩
      exact q H1 D S1 nD hD
end
end SK
namespace SK
open PySem PySem.Spec PyProof.Rows L2
def sumN : Nat → (Nat → Nat) → Nat
  | 0, _ => 0
  | n + 1, h => sumN n h + h n
/-- the list f 0, .., f (n - 1) -/
def fl (n : Nat) (f : Nat → Nat) : List Nat := (List.range n).map f
theorem fl_len (n : Nat) (f : Nat → Nat) : (iV (fl n f)).length = n := by simp [iV, fl]
theorem fl_get {n i : Nat} (f : Nat → Nat) (h : i < n) : (iV (fl n f))[i]? = some (.int (f i : Int)) := by
  unfold iV fl
  rw [List.getElem?_map, List.getElem?_map, range_get h]
  rfl
theorem fl_set {n m : Nat} (f : Nat → Nat) (v : Nat) (h : m < n) : (iV (fl n f)).set m (.int (v : Int)) = iV (fl n fun k => if k = m then v else f k) := by
  refine List.ext_getElem? fun i => ?_
  rw [List.getElem?_set]
  by_cases e : m = i
  · subst e
    rw [if_pos rfl, fl_len, if_pos h, fl_get _ h, if_pos rfl]
  · rw [if_neg e]
    by_cases hi : i < n
    · rw [fl_get _ hi, fl_get _ hi, if_neg (fun z => e z.symm)]
    · rw [List.getElem?_eq_none (by rw [fl_len]; omega), List.getElem?_eq_none (by rw [fl_len]; omega)]
theorem fl_congr {n : Nat} {f g : Nat → Nat} (h : ∀ k, k < n → f k = g k) : fl n f = fl n g := by
  unfold fl
  exact List.map_congr_left fun k hk => h k (List.mem_range.mp hk)
theorem rep_zero (n : Nat) : (List.replicate n [V.int 0]).flatten = iV (fl n fun _ => 0) := by
  rw [rep_ints]
  unfold iV fl
  rw [List.map_map]
  have : ∀ n : Nat, List.map V.int (List.replicate n 0) = (List.range n).map ((fun (k : Nat) => V.int (k : Int)) ∘ fun _ => 0) := fun n => by
    rw [List.map_replicate]
    refine List.ext_getElem? fun i => ?_
    rw [List.getElem?_replicate, List.getElem?_map]
    by_cases hi : i < n
    · rw [if_pos hi, range_get hi]; rfl
    · rw [if_neg hi, List.getElem?_eq_none (by rw [List.length_range]; omega)]; rfl
  exact this n
/-- the table of rows -/
def Rows (H : Hp) (n : Nat) (ts : List Addr) (g : Nat → Nat → Nat) : Prop := ts.length = n ∧ ∀ j t, ts[j]? = some t → H t = some (.lst (iV (fl n (g j))))
def spNextC : Sp := fun vs H Q _ => ∃ (a t : Addr) (n : Nat) (ts : List Addr) (f : Nat → Nat) (g : Nat → Nat → Nat), vs = [.ref a, .ref t] ∧ H a = some (.lst (iV (fl n f))) ∧ H t = some (.lst (ts.map V.ref)) ∧ Rows H n ts g ∧ n ≤ 8 ∧ (∀ j k, g j k ≤ 1000) ∧
  New (.lst (iV (fl n fun k => sumN n fun j => f j * g j k))) H Q
section
variable {P : Program} {w : World} {K : PySem.W.Frag} {mg : Str → Option Value} {base : Heap}
theorem ok_nextc {f : Addr} {fd : FuncData} {k : Nat} (F : Fun K "next_counts" "next_counts" s_next_counts f fd) (ml : mg "len" = none) (mZ : mg "zip" = none) (mE : mg "enumerate" = none) : FnOk P w K mg base CX0 (k + 1) f fd ["counts", "table"] spNextC := by
  refine F.ok sc_next_counts (fun vs H Q E h => ?_) (fun cdv A outer s H vs Q E hr h => ?_)
  · obtain ⟨a, t, n, ts, f, g, rfl, _⟩ := h
    rfl
  · obtain ⟨a, t, n, ts, f, g, rfl, ha, ht, ⟨hT1, hT2⟩, hn, hg, q⟩ := h
    have nd := sc_next_counts.nd
    refine ⟨_, pss_cons (ps_set (i := 2) nd rfl (.inl rfl) (prepN (plstN (pa_cons pe_int pa_nil)) (plen ml (pv 0))))
      (pss_cons (ps_for PassesOwn.never rfl (pi_zip (by rfl) mZ (pa_cons (pv 0) (pa_cons (pv 1) pa_nil))) (pg_tup (by rfl) (pgs_cons (pg_name (i := 3) nd rfl (.inl rfl)) (pgs_cons (pg_name (i := 4) nd rfl (.inl rfl)) pgs_nil)))
        (pss_one (ps_for PassesOwn.never rfl (pi_enum (by rfl) mE (pa_cons (pv 4) pa_nil)) (pg_tup (by rfl) (pgs_cons (pg_name (i := 5) nd rfl (.inl rfl)) (pgs_cons (pg_name (i := 6) nd rfl (.inl rfl)) pgs_nil)))
          (pss_one (ps_augS (pv 2) (pv 5) get_list (pe_op op_mul (pv 3) (pv 6)) ip_add set_list)))))
      (pss_one (ps_ret (pv 2)))), ?_⟩
    refine ⟨szl 1, fun H1 p1 S1 n1 h1 => ⟨_, rfl, a, _, rfl, .inl (SqL.of (S1 _ _ ha)), ?_⟩⟩
    rw [fl_len]
    refine ⟨p1, (n : Int), _, rfl, rfl, h1, by omega, by omega, ?_, fun H2 ao S2 n2 h2 => ?_⟩
    · rw [Int.toNat_natCast, sizeLine_eq]; show 1 * n ≤ 16777216; omega
    rw [Int.toNat_natCast, rep_zero] at h2
    have S02 := S1.trans S2
    have nao : H ao = none := S1.free n2
    refine ⟨_, rfl, _, rfl, a, t, iV (fl n f), ts.map V.ref, rfl, SqL.of (S02 _ _ ha), SqL.of (S02 _ _ ht), ?_⟩
    have hmin : n = min (iV (fl n f)).length (ts.map V.ref).length := by rw [fl_len, List.length_map, hT1]; omega
    refine for_it (walk_zip (K := K) (a := a) (b := t) hmin) (fun j σ H' => ∃ (y3 y4 y5 y6 : Option V), σ = [some (.ref a), some (.ref t), some (.ref ao), y3, y4, y5, y6] ∧ Same H H' ∧ H' ao = some (.lst (iV (fl n fun k => sumN j fun i => f i * g i k))))
      ⟨none, none, none, none, rfl, S02, h2⟩ (fun j σ H' _ ⟨_, _, _, _, _, s, _⟩ => ⟨SqL.of (s _ _ ha), SqL.of (s _ _ ht)⟩) ?_ ?_
    · rintro j x σ H3 H4 hj ⟨y3, y4, y5, y6, rfl, S3, h3⟩ ⟨T, xa, xb, rfl, nT, rfl, ga, gb⟩
      have ea : xa = V.int (f j : Int) := by
        have := (fl_get f hj).symm.trans ga
        exact (Option.some.inj this).symm
      obtain ⟨tj, htj, rfl⟩ : ∃ tj, ts[j]? = some tj ∧ xb = V.ref tj := by
        have gb : (ts.map V.ref)[j]? = some xb := gb
        rw [List.getElem?_map] at gb
        cases e : ts[j]? with
        | none => rw [e] at gb; cases gb
        | some tj => rw [e] at gb; exact ⟨tj, rfl, (Option.some.inj gb).symm⟩
      subst ea
      have hrow := hT2 j tj htj
      have ST := S3.trans (same_upd (o := .tup [V.int (f j : Int), V.ref tj]) nT)
      have haoT : (upd H3 T (.tup [V.int (f j : Int), V.ref tj])) ao = some (.lst (iV (fl n fun k => sumN j fun i => f i * g i k))) := same_upd nT _ _ h3
      refine ⟨T, _, rfl, SqT.of upd_same, rfl, _, _, rfl, _, _, rfl, rfl, ?_⟩
      generalize upd H3 T (.tup [V.int (f j : Int), V.ref tj]) = H4 at ST haoT
      refine ⟨_, rfl, tj, _, rfl, SqL.of (ST _ _ hrow), ?_⟩
      have ntj : tj ≠ ao := ne_of_none hrow nao
      refine for_it (walk_enum (K := K) (a := tj) (xs := iV (fl n (g j)))) (fun m σ H' => ∃ (y5 y6 : Option V), σ = [some (.ref a), some (.ref t), some (.ref ao), some (.int (f j : Int)), some (.ref tj), y5, y6] ∧ Same H H' ∧ H' ao = some (.lst (iV (fl n fun k => (sumN j fun i => f i * g i k) + if k < m then f j * g j k else 0))))
        ⟨y5, y6, rfl, ST, by rw [haoT]; congr 3⟩ (fun m σ H' _ ⟨_, _, _, s, _⟩ => SqL.of (s _ _ hrow)) ?_ ?_
      · rintro m x σ H5 H6 hm ⟨y5, y6, rfl, S5, h5⟩ ⟨T2, xa, xb, rfl, nT2, rfl, ga, gb⟩
        rw [fl_len] at hm
        have ea := Option.some.inj ga
        have eb : V.int (g j m : Int) = xb := Option.some.inj ((fl_get (g j) hm).symm.trans gb)
        subst ea eb
        have S6 := S5.trans (same_upd (o := .tup [V.int (m : Int), V.int (g j m : Int)]) nT2)
        have hao6 : (upd H5 T2 (.tup [V.int (m : Int), V.int (g j m : Int)])) ao = _ := same_upd nT2 _ _ h5
        refine ⟨T2, _, rfl, SqT.of upd_same, rfl, _, _, rfl, _, _, rfl, rfl, ?_⟩
        generalize upd H5 T2 (.tup [V.int (m : Int), V.int (g j m : Int)]) = H6 at S6 hao6
        have bd := hg j m
        refine ⟨_, rfl, _, rfl, ao, _, m, _, rfl, rfl, SqL.of hao6, fl_get _ hm, _, rfl, _, rfl, _, _, rfl, rfl, .inr ⟨by omega, by omega⟩, _, _, rfl, rfl, ao, _, (m : Int), m, rfl, rfl, hao6, ?_, ?_⟩
        · rw [fl_len]
          show (if 0 ≤ (m : Int) then (if (m : Int) < (n : Int) then some (m : Int).toNat else none) else _) = some m
          rw [if_pos (by omega), if_pos (by omega), Int.toNat_natCast]
        · refine ⟨_, _, rfl, sPut S6 nao, ?_⟩
          rw [upd_same]
          have ev : ((((sumN j fun i => f i * g i m) + if m < m then f j * g j m else 0 : Nat) : Int) + (f j : Int) * (g j m : Int)) = (((sumN j fun i => f i * g i m) + f j * g j m : Nat) : Int) := by
            rw [if_neg (by omega)]
            push_cast
            omega
          dsimp only
          rw [ev, fl_set _ _ hm]
          congr 3
          refine fl_congr fun k _ => ?_
          by_cases e : k = m
          · subst e; rw [if_pos rfl, if_pos (by omega)]
          · rw [if_neg e]
            by_cases e2 : k < m
            · rw [if_pos e2, if_pos (by omega)]
            · rw [if_neg e2, if_neg (by omega)]
      · rintro σ H5 ⟨y5, y6, rfl, S5, h5⟩
        rw [fl_len] at h5
        refine ⟨_, _, _, _, rfl, S5, ?_⟩
        rw [h5]
        congr 3
        exact fl_congr fun k hk => by rw [if_pos hk]; rfl
    · rintro σ H3 ⟨y3, y4, y5, y6, rfl, S3, h3⟩
      exact ⟨_, rfl, q H3 ao S3 nao h3⟩
end
end SK
namespace SK
open PySem PySem.Spec PyProof.Rows L2
/-! ### zip of a list and a tuple, equally long -/
def ItzM (K : PySem.W.Frag) (a b : Addr) : It where
  go := fun i H => ∃ (xs ys : List V) (x y : V), SqL K H a xs ∧ SqT K H b ys ∧ xs[i]? = some x ∧ ys[i]? = some y
  yld := fun i H v H' => ∃ (T : Addr) (x y : V), v = .ref T ∧ H T = none ∧ H' = upd H T (.tup [x, y]) ∧ (∀ xs, SqL K H a xs → xs[i]? = some x) ∧ ∀ ys, SqT K H b ys → ys[i]? = some y
  stop := fun i H => ∃ xs ys : List V, SqL K H a xs ∧ SqT K H b ys ∧ xs.length = i ∧ ys.length = i
theorem turn_zipM {P : Program} {w : World} {K : PySem.W.Frag} {elts : List Expr} {kk : Nat} {tpos : Pos} {a b z TI TO i1 i2 : Addr} (S : ZipSep2 z TI TO i1 i2 [i1, a] [i2, b]) (ha : a ≠ i1) (hb : b ≠ i2) :
    Turn P w K (.Tuple elts kk tpos) (ItzM K a b) [z, TI, TO, i1, i2] z (fun i h => IsZip h z TI TO .none ∧ IsTupOf2 h TI (.ref i1) (.ref i2) ∧ (∃ x y, IsTupOf2 h TO x y) ∧ h.IsListIter i1 a i ∧ h.IsTupleIter i2 b i) := by
  have z1 : z ≠ i1 := S.zi1
  have z2 : z ≠ i2 := S.zi2
  have t1 : TO ≠ i1 := S.Ti1
  have t2 : TO ≠ i2 := S.Ti2
  refine ⟨List.mem_cons_self, ?obj, ?keep, ?item, ?done, ?self⟩
  case obj =>
    rintro i h ⟨hz, hTI, ⟨x, y, hTO⟩, ⟨o1, e1, _, d1⟩, ⟨o2, e2, _, d2⟩⟩ c hc
    simp only [List.mem_cons, List.not_mem_nil, or_false] at hc
    rcases hc with rfl | rfl | rfl | rfl | rfl
    · exact ⟨_, hz, fun v q => nomatch q⟩
    · exact ⟨_, hTI, fun v q => nomatch q⟩
    · exact ⟨_, hTO, fun v q => nomatch q⟩
    · exact ⟨o1, e1, fun v q => by rw [d1] at q; cases q⟩
    · exact ⟨o2, e2, fun v q => by rw [d2] at q; cases q⟩
  case keep =>
    rintro i h h' ⟨hz, hTI, ⟨x, y, hTO⟩, h1, h2⟩ k
    exact ⟨k z (by simp) _ hz, k TI (by simp) _ hTI, ⟨x, y, k TO (by simp) _ hTO⟩, h1.at fun o q => k i1 (by simp) o q, h2.at fun o q => k i2 (by simp) o q⟩
  case self =>
    rintro A i s Q E ⟨hz, _⟩ h
    exact wpAny_pyIter_zip hz h
  case done =>
    intro X hP hw hK hc i pins s σ H E I hf st hg
    subst hP hw hK
    obtain ⟨hz, hTI, ⟨x0, y0, hTO⟩, h1, h2⟩ := st
    obtain ⟨xs, ys, hqx, hqy, hx, hy⟩ := hg
    obtain ⟨its, rv, p, _⟩ := I.list hqx
    obtain ⟨its2, rv2, p2, _⟩ := I.tuple hqy
    have l1 := rv.length
    have l2 := rv2.length
    have hh : X.A.in1.handled = none := I.ok.hd hc
    refine wpAny_pyNext_zipD2_end S (Draws.list hh i1 a ha its.toArray) (Draws.tuple hh i2 b hb its2.toArray) hz hTI hTO ⟨h1, p.isList⟩ ⟨h2, p2⟩ (by simp; omega) (by simp; omega) (.inl (by simp; omega)) fun h' tk k => ⟨rfl, ?_⟩
    exact I.turnedL (t' := tk) (ch := [z, TI, TO, i1, i2]) (fun c o hc q => k c o (fun e => hc (by simp [e])) (fun e => hc (by simp [e])) (fun e => hc (by simp [e])) (fun e => hc (by simp [e])) q) hf
  case item =>
    intro X hP hw hK hc i pins s σ H E I hf st hg
    subst hP hw hK
    obtain ⟨hz, hTI, ⟨x0, y0, hTO⟩, h1, h2⟩ := st
    obtain ⟨xs, ys, x, y, hqx, hqy, hx, hy⟩ := hg
    obtain ⟨its, rv, p, _⟩ := I.list hqx
    obtain ⟨its2, rv2, p2, _⟩ := I.tuple hqy
    obtain ⟨u, hu, ru⟩ := rv.get hx
    obtain ⟨u2, hu2, ru2⟩ := rv2.get hy
    have hh : X.A.in1.handled = none := I.ok.hd hc
    have hzl : z < s.heap.objs.size := Heap.lt_size hz
    refine wpAny_pyNext_zipD2_item S (Draws.list hh i1 a ha its.toArray) (Draws.tuple hh i2 b hb its2.toArray) hz hTI hTO ⟨h1, p.isList⟩ ⟨h2, p2⟩ (by simpa using (List.getElem?_eq_some_iff.mp hu).1) (by simpa using (List.getElem?_eq_some_iff.mp hu2).1) fun v1 v2 h' tk e1 e2 z' TO' d1 d2 hT hsz hk => ?_
    have ev1 : v1 = u := Option.some.inj (e1.symm.trans (by simpa using hu))
    have ev2 : v2 = u2 := Option.some.inj (e2.symm.trans (by simpa using hu2))
    subst ev1 ev2
    refine ⟨_, rfl, wpAny_letOwnedTupleGo_zip (s := { s with heap := h', toks := tk }) z' fun h2' z2' sb => ?_⟩
    have at2 : h2'.get? s.heap.objs.size = some { cls := .type "tuple", data := .seq #[v1, v2] } := (sb.2 _ (Nat.ne_of_gt hzl)).trans hT
    have laid : ObjOk X.prog X.w (upd H s.heap.objs.size (.tup [x, y])) h2' s.heap.objs.size (.tup [x, y]) := ⟨szl 2, [v1, v2], .cons ru (.cons ru2 .nil), _, at2, rfl, _, rfl⟩
    have J : Inv X pins σ (upd H s.heap.objs.size (.tup [x, y])) { s with heap := h2', toks := tk } :=
      I.turnedNew (ch := [z, TI, TO, i1, i2]) (fun c o hb q => (sb.2 c fun e => hb (by simp [e])).trans (hk c o (fun e => hb (by simp [e])) (fun e => hb (by simp [e])) (fun e => hb (by simp [e])) (fun e => hb (by simp [e])) q)) hf (Nat.le_refl _) laid
    refine ⟨.ref s.heap.objs.size, _, J, rfl, ⟨_, x, y, rfl, I.hok.fresh (Nat.le_refl _), rfl, fun l hl => by rw [I.list_inj hl hqx]; exact hx, fun l hl => by rw [I.tuple_inj hl hqy]; exact hy⟩, ⟨z2', ?_, ⟨v1, v2, ?_⟩, ?_, ?_⟩, fun c hcm => ?_⟩
    · exact (sb.2 _ S.TIz).trans (hk _ _ S.TIz S.TITO S.TIi1 S.TIi2 hTI)
    · exact (sb.2 _ S.TOz).trans TO'
    · exact d1.1.at fun o q => (sb.2 _ (Ne.symm z1)).trans q
    · exact d2.1.at fun o q => (sb.2 _ (Ne.symm z2)).trans q
    · have hlt : c < s.heap.objs.size := by
        simp only [List.mem_cons, List.not_mem_nil, or_false] at hcm
        obtain ⟨_, g1, _⟩ := h1
        obtain ⟨_, g2, _⟩ := h2
        rcases hcm with e | e | e | e | e <;> rw [e] <;> first
          | exact hzl
          | exact Heap.lt_size hTI
          | exact Heap.lt_size hTO
          | exact Heap.lt_size g1
          | exact Heap.lt_size g2
      rw [upd_ne (Nat.ne_of_lt hlt)]
      exact (hf c hcm).1
def iZipM (K : PySem.W.Frag) (ta : TA) : TI := fun σ H R => ta σ H fun vs H1 => ∃ a b xs ys, vs = [.ref a, .ref b] ∧ SqL K H1 a xs ∧ SqT K H1 b ys ∧ R (ItzM K a b) H1
theorem pi_zipM {X : Cx} {e e2 : Expr} {ta : TA} {p pos tpos : Pos} {elts : List Expr} {kk : Nat} (hg : Gl X "zip") (hm : X.mg "zip" = none) (ha : PA X [e, e2] ta)
    (hs : starEach [e, e2] X.env = (false, eval e X.env) :: starEach [e2] X.env := by rfl) (hpl : (backTo pos (starEach [e2] X.env)).any (·.1) = false := by rfl) : PI X (.Tuple elts kk tpos) (.Call (.Name "zip" p) [e, e2] [] pos) (iZipM X.K ta) := by
  refine ⟨fun pins s σ H R I h => Call_ (ld_blt I hg hm PyProof.Rows.boot_zip (PyProof.Rows.callWith_type1 (thn (ha.run pos pins s σ H _ I h) fun us s1 ⟨vs, H1, I1, r1, q1⟩ => ?_) hs hpl))⟩
  obtain ⟨a, b, xs, ys, rfl, hqx, hqy, q⟩ := q1
  rcases r1 with _ | ⟨r, rr⟩
  rcases rr with _ | ⟨r', rr⟩
  cases rr
  cases r
  cases r'
  obtain ⟨its, rv, p1, _⟩ := I1.list hqx
  obtain ⟨its2, rv2, p2, _⟩ := I1.tuple hqy
  have la : a < s1.heap.objs.size := p1.lt
  have lb : b < s1.heap.objs.size := p2.lt
  refine zip_begins2 (begins_list a its.toArray) (begins_tuple b its2.toArray) p1.isList p2 fun h' hz hTI hTO h1 h2 hsz hk => wpAny_pyIter_zip hz ?_
  refine ⟨s1.heap.objs.size + 4, [s1.heap.objs.size + 4, s1.heap.objs.size + 2, s1.heap.objs.size + 3, s1.heap.objs.size, s1.heap.objs.size + 1], _, _, H1, rfl, I1.kept (t' := s1.toks) hk,
    turn_zipM (zip_sep2 (N := s1.heap.objs.size) (fp1 := [a]) (fp2 := [b]) (by simpa using la) (by simpa using lb)) (Nat.ne_of_lt la) (Nat.ne_of_lt (Nat.lt_succ_of_lt lb)), ⟨hz, hTI, ⟨_, _, hTO⟩, ⟨_, h1, rfl, rfl⟩, ⟨_, h2, rfl, rfl⟩⟩, fun c hcm => ?_, q⟩
  have hle : s1.heap.objs.size ≤ c := by
    simp only [List.mem_cons, List.not_mem_nil, or_false] at hcm
    rcases hcm with e | e | e | e | e <;> rw [e] <;> first
      | exact Nat.le_refl _
      | exact Nat.le_add_right _ _
  exact I1.fpOk hle (I1.hok.fresh hle)
theorem walk_zipM {K : PySem.W.Frag} {a b : Addr} {xs ys : List V} (h : xs.length = ys.length) : Walk (ItzM K a b) xs.length (fun H => SqL K H a xs ∧ SqT K H b ys) (YPair (fun i => xs[i]?) (fun i => ys[i]?)) := by
  refine ⟨fun i H hi ⟨h1, h2⟩ => ⟨xs, ys, _, _, h1, h2, List.getElem?_eq_getElem hi, List.getElem?_eq_getElem (h ▸ hi)⟩, fun H ⟨h1, h2⟩ => ⟨xs, ys, h1, h2, rfl, h.symm⟩, ?_⟩
  rintro i H x H' hi ⟨h1, h2⟩ ⟨T, y, z, rfl, nT, rfl, g1, g2⟩
  exact ⟨T, y, z, rfl, nT, rfl, g1 xs h1, g2 ys h2⟩
end SK
namespace SK
open PySem PySem.Spec PyProof.Rows L2
/-! ### counts and sizes -/
theorem sumN_congr {n : Nat} {f g : Nat → Nat} (h : ∀ j, j < n → f j = g j) : sumN n f = sumN n g := by
  induction n with
  | zero => rfl
  | succ n ih =>
    show sumN n f + f n = sumN n g + g n
    rw [ih fun j hj => h j (by omega), h n (by omega)]
theorem sumN_add (n : Nat) (f g : Nat → Nat) : sumN n (fun j => f j + g j) = sumN n f + sumN n g := by
  induction n with
  | zero => rfl
  | succ n ih =>
    show sumN n (fun j => f j + g j) + (f n + g n) = (sumN n f + f n) + (sumN n g + g n)
    rw [ih]; omega
theorem sumN_zero (n : Nat) : sumN n (fun _ => 0) = 0 := by
  induction n with
  | zero => rfl
  | succ n ih =>
    show sumN n (fun _ => 0) + 0 = 0
    rw [ih]
theorem sumN_one {n k : Nat} (f : Nat → Nat) (h : k < n) : sumN n (fun j => if j = k then f j else 0) = f k := by
  induction n with
  | zero => omega
  | succ n ih =>
    show sumN n (fun j => if j = k then f j else 0) + (if n = k then f n else 0) = f k
    by_cases e : n = k
    · subst e
      rw [if_pos rfl, sumN_congr (g := fun _ => 0) (fun j hj => if_neg (by omega)), sumN_zero]
      omega
    · rw [if_neg e, ih (by omega)]
      omega
theorem cnt_cons (k : Nat) (s : Sy) (w : List Sy) : cnt k (s :: w) = (if s = .l k then 1 else 0) + cnt k w := by
  unfold cnt
  rw [List.countP_cons]
  by_cases e : s = .l k
  · subst e; simp; omega
  · simp [e]
theorem cnt_app (k : Nat) (a b : List Sy) : cnt k (a ++ b) = cnt k a + cnt k b := by
  unfold cnt
  exact List.countP_append
/-- a sum over the letters of a word -/
theorem sum_cons {n : Nat} (s : Sy) (w : List Sy) (h : Nat → Nat) : sumN n (fun j => cnt j (s :: w) * h j) = sumN n (fun j => (if s = .l j then 1 else 0) * h j) + sumN n (fun j => cnt j w * h j) := by
  rw [← sumN_add]
  exact sumN_congr fun j _ => by rw [cnt_cons, Nat.add_mul]
theorem sum_letter {n k : Nat} (h : Nat → Nat) (hk : k < n) : sumN n (fun j => (if Sy.l k = .l j then 1 else 0) * h j) = h k := by
  rw [← sumN_one h hk]
  refine sumN_congr fun j _ => ?_
  by_cases e : j = k
  · subst e; rw [if_pos rfl, if_pos rfl, Nat.one_mul]
  · rw [if_neg (fun z => e (by cases z; rfl)), if_neg e, Nat.zero_mul]
theorem sum_other {n : Nat} {s : Sy} (h : Nat → Nat) (hs : isL s = false) : sumN n (fun j => (if s = .l j then 1 else 0) * h j) = 0 := by
  refine (sumN_congr (g := fun _ => 0) fun j _ => ?_).trans (sumN_zero n)
  rw [if_neg (fun z => by rw [z] at hs; cases hs), Nat.zero_mul]
theorem grow_cons (ws : List (List Sy)) (s : Sy) (w : List Sy) : grow ws (s :: w) = img ws s ++ grow ws w := rfl
theorem img_other {ws : List (List Sy)} {s : Sy} (hs : isL s = false) : img ws s = [s] := by cases s <;> first | rfl | cases hs
theorem cnt_other {k : Nat} {s : Sy} (hs : isL s = false) : cnt k [s] = 0 := by
  rw [cnt_cons, if_neg (fun z => by rw [z] at hs; cases hs)]
  rfl
theorem grow_cnt {ws : List (List Sy)} {n : Nat} (k : Nat) : ∀ {w : List Sy}, (∀ j, Sy.l j ∈ w → j < n) → cnt k (grow ws w) = sumN n fun j => cnt j w * cnt k (ws.getD j [])
  | [], _ => by
    show 0 = _
    rw [← sumN_zero n]
    exact sumN_congr fun j _ => (Nat.zero_mul _).symm
  | s :: w, h => by
    rw [grow_cons, cnt_app, sum_cons, grow_cnt k (w := w) fun j hj => h j (List.mem_cons_of_mem _ hj)]
    congr 1
    cases hs : isL s with
    | false => rw [img_other hs, cnt_other hs, sum_other _ hs]
    | true =>
      cases s with
      | l j => exact (sum_letter (fun j => cnt k (ws.getD j [])) (h j List.mem_cons_self)).symm
      | p => cases hs
      | m => cases hs
      | o => cases hs
      | c => cases hs
theorem grow_length {ws : List (List Sy)} {n : Nat} (hw : ∀ j, j < n → 1 ≤ (ws.getD j []).length) : ∀ {w : List Sy}, (∀ j, Sy.l j ∈ w → j < n) → (grow ws w).length = w.length + sumN n fun j => cnt j w * ((ws.getD j []).length - 1)
  | [], _ => by
    have e : sumN n (fun j => cnt j [] * ((ws.getD j []).length - 1)) = 0 := (sumN_congr (g := fun _ => 0) fun j _ => Nat.zero_mul _).trans (sumN_zero n)
    show 0 = 0 + _
    rw [e]
  | s :: w, h => by
    have ih := grow_length hw (w := w) fun j hj => h j (List.mem_cons_of_mem _ hj)
    rw [grow_cons, List.length_append, sum_cons, ih, List.length_cons]
    cases hs : isL s with
    | false => rw [img_other hs, sum_other _ hs]; simp only [List.length_singleton]; omega
    | true =>
      cases s with
      | l j =>
        have hj := h j List.mem_cons_self
        have := hw j hj
        rw [sum_letter (fun j => (ws.getD j []).length - 1) hj]
        show (ws.getD j []).length + _ = _
        omega
      | p => cases hs
      | m => cases hs
      | o => cases hs
      | c => cases hs
theorem good_len {ws : List (List Sy)} (hg : ∀ w ∈ ws, Good ws.length 40 w) (j : Nat) (hj : j < ws.length) : 1 ≤ (ws.getD j []).length ∧ (ws.getD j []).length ≤ 40 := by
  rw [List.getD_eq_getElem?_getD, List.getElem?_eq_getElem hj]
  have := hg _ (List.getElem_mem hj)
  exact ⟨any_pos this.has, this.len⟩
theorem cnt_le (k : Nat) (w : List Sy) : cnt k w ≤ w.length := List.countP_le_length
theorem sum_ints (n : Nat) (h : Nat → Nat) : ((fl n h).map fun (k : Nat) => (k : Int)).sum = ((sumN n h : Nat) : Int) := by
  induction n with
  | zero => rfl
  | succ n ih =>
    have e : fl (n + 1) h = fl n h ++ [h n] := by unfold fl; rw [List.range_succ, List.map_append]; rfl
    rw [e, List.map_append, List.sum_append, ih]
    show ((sumN n h : Nat) : Int) + (((h n : Nat) : Int) + 0) = ((sumN n h + h n : Nat) : Int)
    omega
theorem cntL_fl (n : Nat) (w : List Sy) : cntL n w = fl n fun k => cnt k w := rfl
end SK
namespace SK
open PySem PySem.Spec PyProof.Rows L2
def spSize : Sp := fun vs H Q _ => ∃ (p q : Addr) (n : Nat) (as : List Addr) (ws : List (List Sy)) (st : List Sy), vs = [.ref p, .ref q, .int n] ∧ H p = some (.tup (as.map V.ref)) ∧ Words H as ws ∧ WdAt H q st ∧ GoodBook ws st ∧ n ≤ 1000 ∧ (grown ws st n).length ≤ 60000 ∧
  ∀ H', Same H H' → Q .non H'
/-- the target count, word -/
def gCW (K : PySem.W.Frag) : TG := gTup K 2 (gCons (gName 9) (gCons (gName 8) gNil))
/-- count * (len(word) - 1) -/
def tCL (K : PySem.W.Frag) : TE := tOp (rI CMul fun i j => .int (i * j)) (tVar 9) (tOp (rI0 fun i j => .int (i - j)) (tCB (rLenS K) (tCons (tVar 8) tNil)) (tC (.int 1)))
section
variable {P : Program} {w : World} {K : PySem.W.Frag} {mg : Str → Option Value} {base : Heap}
theorem ok_size {f : Addr} {fd : FuncData} {k : Nat} {t6 : Tok} (F : Fun K "check_size" "check_size" s_check_size f fd) (GC : Got P w K mg base "count_letters" k ["word", "many"] spCount) (GN : Got P w K mg base "next_counts" k ["counts", "table"] spNextC)
    (ml : mg "len" = none) (mR : mg "range" = none) (mZ : mg "zip" = none) (mU : mg "sum" = none) (m6 : mg "MOST_GROWN" = some (.int 60000 t6)) : FnOk P w K mg base CX0 (k + 1) f fd ["words", "start", "age"] spSize := by
  refine F.ok sc_check_size (fun vs H Q E h => ?_) (fun cdv A outer s H vs Q E hr h => ?_)
  · obtain ⟨p, q, n, as, ws, st, rfl, _⟩ := h
    rfl
  · obtain ⟨p, pq, n, as, ws, st, rfl, hp, hw, hq, hg, hn, hlen, q⟩ := h
    have nd := sc_check_size.nd
    refine ⟨_, pss_cons (ps_set (i := 3) nd rfl (.inr rfl) (plen ml (pv 0)))
      (pss_cons (ps_setLc (i := 4) (own := [("word", 8)]) (g := gName 8) (tt := tYes) rfl nd rfl rfl (sw_true rfl rfl rfl (by decide +kernel)) (pi_tup (pv 0)) (blkOk_by (N := n_check_size) (sc := defScope s_check_size) (by decide +kernel))
        (fun _ _ _ _ _ => pg_name (i := 8) nd rfl (Or.inl rfl)) (fun _ _ _ _ _ => pts_nil) (fun _ _ _ _ _ => pcall GC hr (pa_cons (pv 8) (pa_cons (pv 3) pa_nil))))
      (pss_cons (ps_set (i := 5) nd rfl (.inl rfl) (pcall GC hr (pa_cons (pv 1) (pa_cons (pv 3) pa_nil))))
      (pss_cons (ps_set (i := 6) nd rfl (.inl rfl) (plen ml (pv 1)))
      (pss_one (ps_for PassesOwn.never rfl (pi_range1 rfl mR (pa_cons (pv 2) pa_nil)) (pg_name (i := 7) nd rfl (.inl rfl))
        (pss_cons (ps_aug (i := 6) nd rfl (.inl rfl) (pe_callB (cr_sum rfl) (by rfl) mU (by decide +kernel) (pa_cons
            (pe_lc (own := [("count", 9), ("word", 8)]) (g := gCW K) (tt := tYes) (te := tCL K) rfl nd (pi_zipM (by rfl) mZ (pa_cons (pv 5) (pa_cons (pv 0) pa_nil))) (blkOk_by (N := n_check_size) (sc := defScope s_check_size) (by decide +kernel))
              (fun _ _ _ _ _ => pg_tup (by rfl) (pgs_cons (pg_name (i := 9) nd rfl (.inl rfl)) (pgs_cons (pg_name (i := 8) nd rfl (.inl rfl)) pgs_nil))) (fun _ _ _ _ _ => pts_nil)
              (fun _ _ _ _ _ => pe_op op_mul (pv 9) (psub (plen ml (pv 8)) pe_int))) pa_nil)) ip_add)
        (pss_cons (ps_if (pt_cmpR op_gt (pv 6) (pe_glob (v := .int 60000) rfl m6 ⟨_, rfl⟩) (nomark _)) pss_never pss_nil)
        (pss_one (ps_set (i := 5) nd rfl (.inl rfl) (pcall GN hr (pa_cons (pv 5) (pa_cons (pv 4) pa_nil)))))))))))), ?_⟩
    have el := hw.length
    have hN : ws.length ≤ 8 := by have := hg.few; omega
    have hst := hg.start.len
    -- many, table
    refine ⟨_, rfl, p, _, rfl, .inr (SqT.of hp), ?_⟩
    rw [List.length_map, el]
    refine ⟨_, rfl, p, rfl, ⟨_, SqT.of hp⟩, fun D nD => ?_⟩
    refine walk_by (walk_tup (K := K) (a := p) (xs := as.map V.ref)) (fun i H' => ∃ ts : List Addr, Same H H' ∧ H' D = some (.lst (ts.map V.ref)) ∧ ts.length = i ∧ ∀ j t, ts[j]? = some t → H t = none ∧ H' t = some (.lst (iV (fl ws.length fun k => cnt k (ws.getD j []))))) ⟨[], same_upd nD, upd_same, rfl, fun j t h => by simp at h⟩ (fun i H' ⟨_, s, _⟩ => sTup s (SqT.of hp)) ?_ ?_
    · rintro i x H1 H2 hi ⟨ts, S1, hD, hl, hts⟩ ⟨rfl, hx⟩
      rw [List.length_map] at hi
      obtain ⟨a, ha, rfl⟩ : ∃ a, as[i]? = some a ∧ x = V.ref a := by
        rw [List.getElem?_map] at hx
        cases e : as[i]? with
        | none => rw [e] at hx; cases hx
        | some a => rw [e] at hx; exact ⟨a, rfl, (Option.some.inj hx).symm⟩
      have hiw : i < ws.length := by omega
      obtain ⟨a', ha', hwa⟩ := paired_get hw (List.getElem?_eq_getElem hiw)
      rw [ha] at ha'
      cases ha'
      have ed : ws.getD i [] = ws[i] := by rw [List.getD_eq_getElem?_getD, List.getElem?_eq_getElem hiw]; rfl
      rw [← ed] at hwa
      refine ⟨rfl, _, rfl, _, rfl, a, ws.length, _, rfl, hwa.same S1, hN, fun H3 t S3 n3 h3 => ⟨_, S3 _ _ hD, ?_, ts ++ [t], sPut (S1.trans S3) nD, by rw [upd_same, List.map_append]; rfl, by rw [List.length_append, List.length_singleton, hl], ?_⟩⟩
      · rw [List.length_map, sizeLine_eq]; omega
      · intro j u hju
        have tD : t ≠ D := (ne_of_none hD n3).symm
        rcases Nat.lt_or_ge j ts.length with h | h
        · rw [List.getElem?_append_left h] at hju
          obtain ⟨g1, g2⟩ := hts j u hju
          have uD : u ≠ D := fun e => by
            rw [e, hD] at g2
            have g3 := Option.some.inj g2
            injection g3 with g4
            cases ts with
            | nil => simp at hju
            | cons y ys =>
              have g5 : (iV (fl ws.length fun k => cnt k (ws.getD j [])))[0]? = some (V.ref y) := by rw [← g4]; rfl
              have h0 : 0 < ws.length := hg.one
              rw [fl_get _ h0] at g5
              cases g5
          exact ⟨g1, by rw [upd_ne uD]; exact S3 _ _ g2⟩
        · have ej : j = ts.length := by
            have := (List.getElem?_eq_some_iff.mp hju).1
            rw [List.length_append, List.length_singleton] at this
            omega
          subst ej
          rw [List.getElem?_append_right (Nat.le_refl _), Nat.sub_self] at hju
          cases hju
          exact ⟨S1.free n3, by rw [upd_ne tD, hl]; exact h3⟩
    · rintro H1 ⟨ts, S1, hD, hl, hts⟩
      rw [List.length_map] at hl
      have hq1 := hq.same S1
      have hrows : Rows H1 ws.length ts (fun j k => cnt k (ws.getD j [])) := ⟨by omega, fun j t h => (hts j t h).2⟩
      -- counts, size
      refine ⟨_, rfl, _, rfl, pq, ws.length, st, rfl, hq1, hN, fun H2 c0 S2 n2 h2 => ?_⟩
      refine ⟨_, rfl, pq, _, rfl, .inr (hq1.same S2).sq, ?_⟩
      rw [List.length_map]
      refine ⟨_, rfl, (n : Int), rfl, by omega, by omega, ?_⟩
      rw [Int.toNat_natCast]
      have S02 := S1.trans S2
      refine for_range (lo := 0) (n := n) (fun i σ H' => ∃ (co : Addr) (y7 y8 y9 : Option V), σ = [some (.ref p), some (.ref pq), some (.int n), some (.int (ws.length : Int)), some (.ref D), some (.ref co), some (.int ((grown ws st i).length : Int)), y7, y8, y9] ∧
          Same H2 H' ∧ H' co = some (.lst (iV (fl ws.length fun k => cnt k (grown ws st i))))) ⟨c0, _, _, _, rfl, Same.refl _, h2⟩ ?_ ?_
      · rintro i σ H3 hi ⟨co, y7, y8, y9, rfl, S3, h3⟩
        have gl := grown_lets hg i
        have S03 := S02.trans S3
        have hlen1 : (grown ws st (i + 1)).length ≤ 60000 := Nat.le_trans (grown_mono hg (by omega)) hlen
        have hlen0 : (grown ws st i).length ≤ 60000 := Nat.le_trans (grown_mono hg (by omega)) hlen
        have eqlen := grow_length (ws := ws) (fun j hj => (good_len hg.words j hj).1) gl
        refine ⟨_, rfl, _, rfl, _, rfl, co, p, _, _, rfl, SqL.of h3, SqT.of (S03 _ _ hp), fun L nL => ?_⟩
        have ll : (iV (fl ws.length fun k => cnt k (grown ws st i))).length = (as.map V.ref).length := by rw [fl_len, List.length_map, el]
        refine walk_by (walk_zipM (K := K) (a := co) (b := p) ll) (fun m H' => Same H3 H' ∧ H' L = some (.lst (iV (fl m fun j => cnt j (grown ws st i) * ((ws.getD j []).length - 1))))) ⟨same_upd nL, upd_same⟩ (fun m H' ⟨s, _⟩ => ⟨SqL.of (s _ _ h3), SqT.of (s _ _ (S03 _ _ hp))⟩) ?_ ?_
        · rintro m x H4 H5 hm ⟨S4, hL⟩ ⟨T, xa, xb, rfl, nT, rfl, ga, gb⟩
          rw [fl_len] at hm
          have ea : V.int (cnt m (grown ws st i) : Int) = xa := Option.some.inj ((fl_get _ hm).symm.trans ga)
          subst ea
          have gb : (as.map V.ref)[m]? = some xb := gb
          rw [List.getElem?_map] at gb
          obtain ⟨a, ha, hwa⟩ := paired_get hw (List.getElem?_eq_getElem hm)
          rw [ha] at gb
          have eb : V.ref a = xb := Option.some.inj gb
          subst eb
          have ed : ws.getD m [] = ws[m] := by rw [List.getD_eq_getElem?_getD, List.getElem?_eq_getElem hm]; rfl
          rw [← ed] at hwa
          have S5 := S4.trans (same_upd (o := .tup [V.int (cnt m (grown ws st i) : Int), V.ref a]) nT)
          have hL5 : (upd H4 T (.tup [V.int (cnt m (grown ws st i) : Int), V.ref a])) L = _ := same_upd nT _ _ hL
          have g40 := good_len hg.words m hm
          have bd := cnt_le m (grown ws st i)
          refine ⟨T, _, rfl, SqT.of upd_same, rfl, _, _, rfl, _, _, rfl, rfl, rfl, _, rfl, _, rfl, a, _, rfl, .inr ((hwa.same (S03.trans S5)).sq), _, _, rfl, rfl, _, _, rfl, rfl, .inl ⟨by omega, by omega⟩, _, hL5, ?_, sPut S5 nL, ?_⟩
          · rw [fl_len, sizeLine_eq]; omega
          · have ev : (cnt m (grown ws st i) : Int) * (((wv (ws.getD m [])).length : Int) - 1) = ((cnt m (grown ws st i) * ((ws.getD m []).length - 1) : Nat) : Int) := by
              rw [List.length_map, Int.natCast_mul]
              congr 1
              omega
            have e2 : fl (m + 1) (fun j => cnt j (grown ws st i) * ((ws.getD j []).length - 1)) = fl m (fun j => cnt j (grown ws st i) * ((ws.getD j []).length - 1)) ++ [cnt m (grown ws st i) * ((ws.getD m []).length - 1)] := by
              unfold fl; rw [List.range_succ, List.map_append]; rfl
            dsimp only
            rw [upd_same, e2, ev]
            simp only [iV, List.map_append, List.map_cons, List.map_nil]
        · rintro H4 ⟨S4, hL⟩
          rw [fl_len] at hL
          refine ⟨L, (fl ws.length fun j => cnt j (grown ws st i) * ((ws.getD j []).length - 1)).map (fun (k : Nat) => (k : Int)), rfl, SqL.of (by rw [hL, List.map_map]; rfl), _, _, rfl, rfl, ?_⟩
          rw [sum_ints]
          have ez : ((grown ws st i).length : Int) + ((sumN ws.length (fun j => cnt j (grown ws st i) * ((ws.getD j []).length - 1)) : Nat) : Int) = ((grown ws st (i + 1)).length : Int) := by
            show _ = ((grow ws (grown ws st i)).length : Int)
            rw [eqlen]; omega
          dsimp only
          rw [ez]
          refine ⟨_, rfl, _, _, rfl, rfl, _, rfl, itN (by omega) ?_⟩
          have S24 := S3.trans S4
          refine ⟨_, rfl, _, rfl, co, D, ws.length, ts, (fun k => cnt k (grown ws st i)), (fun j k => cnt k (ws.getD j [])), rfl, S4 _ _ h3, S24 _ _ (S2 _ _ hD), ⟨hrows.1, fun j t h => S24 _ _ (S2 _ _ (hrows.2 j t h))⟩, hN, fun j k => ?_, fun H5 c5 S5 n5 h5 => ?_⟩
          · show cnt k (ws.getD j []) ≤ 1000
            have h1 := cnt_le k (ws.getD j [])
            by_cases hj : j < ws.length
            · have := (good_len hg.words j hj).2; omega
            · have : ws.getD j [] = [] := by rw [List.getD_eq_getElem?_getD, List.getElem?_eq_none (by omega)]; rfl
              rw [this] at h1 ⊢
              exact Nat.le_trans h1 (Nat.zero_le _)
          · refine ⟨c5, _, _, _, rfl, S24.trans S5, ?_⟩
            rw [h5]
            congr 3
            exact fl_congr fun k _ => (grow_cnt k gl).symm
      · rintro σ H3 ⟨co, y7, y8, y9, rfl, S3, h3⟩
        exact q H3 (S02.trans S3)
end
end SK
namespace SK
open PySem PySem.Spec PyProof.Rows L2
/-- the way out: an error of the class at C that tells the number -/
def ErrTm (C : Addr) (H : Hp) (E : XK) : Prop := ∀ (H' : Hp) (d : Addr), Same H H' → H d = none → H' d = some (.xd [(("most" : Str), .int 60000)]) → E (.ref C) (some d) H'
def spSizeX (C : Addr) : Sp := fun vs H _ E => ∃ (p q : Addr) (n : Nat) (as : List Addr) (ws : List (List Sy)) (st : List Sy), vs = [.ref p, .ref q, .int n] ∧ H p = some (.tup (as.map V.ref)) ∧ Words H as ws ∧ WdAt H q st ∧ GoodBook ws st ∧ n ≤ 1000 ∧ 60000 < (grown ws st n).length ∧
  ErrTm C H E
section
variable {P : Program} {w : World} {K : PySem.W.Frag} {mg : Str → Option Value} {base : Heap}
theorem ok_sizeX {f : Addr} {fd : FuncData} {k : Nat} {t6 : Tok} {C fI : Addr} (T : TmTxt P K mg C fI) (F : Fun K "check_size" "check_size" s_check_size f fd) (GC : Got P w K mg base "count_letters" k ["word", "many"] spCount) (GN : Got P w K mg base "next_counts" k ["counts", "table"] spNextC)
    (ml : mg "len" = none) (mR : mg "range" = none) (mZ : mg "zip" = none) (mU : mg "sum" = none) (m6 : mg "MOST_GROWN" = some (.int 60000 t6)) : FnOk P w K mg base (L2.CX P w) (k + 1) f fd ["words", "start", "age"] (spSizeX C) := by
  refine F.okX sc_check_size (fun vs H Q E h => ?_) (fun cdv A outer s H vs Q E hr h => ?_)
  · obtain ⟨p, q, n, as, ws, st, rfl, _⟩ := h
    rfl
  · obtain ⟨p, pq, n, as, ws, st, rfl, hp, hw, hq, hg, hn, hlen, q⟩ := h
    have nd := sc_check_size.nd
    refine ⟨_, pss_cons (ps_set (i := 3) nd rfl (.inr rfl) (plen ml (pv 0)))
      (pss_cons (ps_setLc (i := 4) (own := [("word", 8)]) (g := gName 8) (tt := tYes) rfl nd rfl rfl (sw_true rfl rfl rfl (by decide +kernel)) (pi_tup (pv 0)) (blkOk_by (N := n_check_size) (sc := defScope s_check_size) (by decide +kernel))
        (fun _ _ _ _ _ => pg_name (i := 8) nd rfl (Or.inl rfl)) (fun _ _ _ _ _ => pts_nil) (fun _ _ _ _ _ => pcall GC hr (pa_cons (pv 8) (pa_cons (pv 3) pa_nil))))
      (pss_cons (ps_set (i := 5) nd rfl (.inl rfl) (pcall GC hr (pa_cons (pv 1) (pa_cons (pv 3) pa_nil))))
      (pss_cons (ps_set (i := 6) nd rfl (.inl rfl) (plen ml (pv 1)))
      (pss_one (ps_for (passes_of rfl) rfl (pi_range1 rfl mR (pa_cons (pv 2) pa_nil)) (pg_name (i := 7) nd rfl (.inl rfl))
        (pss_cons (ps_aug (i := 6) nd rfl (.inl rfl) (pe_callB (cr_sum rfl) (by rfl) mU (by decide +kernel) (pa_cons
            (pe_lc (own := [("count", 9), ("word", 8)]) (g := gCW K) (tt := tYes) (te := tCL K) rfl nd (pi_zipM (by rfl) mZ (pa_cons (pv 5) (pa_cons (pv 0) pa_nil))) (blkOk_by (N := n_check_size) (sc := defScope s_check_size) (by decide +kernel))
              (fun _ _ _ _ _ => pg_tup (by rfl) (pgs_cons (pg_name (i := 9) nd rfl (.inl rfl)) (pgs_cons (pg_name (i := 8) nd rfl (.inl rfl)) pgs_nil))) (fun _ _ _ _ _ => pts_nil)
              (fun _ _ _ _ _ => pe_op op_mul (pv 9) (psub (plen ml (pv 8)) pe_int))) pa_nil)) ip_add)
        (pss_cons (ps_if (pt_cmpR op_gt (pv 6) (pe_glob (v := .int 60000) rfl m6 ⟨_, rfl⟩) (nomark _)) (pss_one (ps_raiseTm rfl T hr (takes_of rfl rfl rfl rfl) (by exact (pa_cons (pe_glob (v := .int 60000) rfl m6 ⟨_, rfl⟩) pa_nil)))) pss_nil)
        (pss_one (ps_set (i := 5) nd rfl (.inl rfl) (pcall GN hr (pa_cons (pv 5) (pa_cons (pv 4) pa_nil)))))))))))), ?_⟩
    have el := hw.length
    have hN : ws.length ≤ 8 := by have := hg.few; omega
    have hst := hg.start.len
    -- many, table
    refine ⟨_, rfl, p, _, rfl, .inr (SqT.of hp), ?_⟩
    rw [List.length_map, el]
    refine ⟨_, rfl, p, rfl, ⟨_, SqT.of hp⟩, fun D nD => ?_⟩
    refine walk_by (walk_tup (K := K) (a := p) (xs := as.map V.ref)) (fun i H' => ∃ ts : List Addr, Same H H' ∧ H' D = some (.lst (ts.map V.ref)) ∧ ts.length = i ∧ ∀ j t, ts[j]? = some t → H t = none ∧ H' t = some (.lst (iV (fl ws.length fun k => cnt k (ws.getD j []))))) ⟨[], same_upd nD, upd_same, rfl, fun j t h => by simp at h⟩ (fun i H' ⟨_, s, _⟩ => sTup s (SqT.of hp)) ?_ ?_
    · rintro i x H1 H2 hi ⟨ts, S1, hD, hl, hts⟩ ⟨rfl, hx⟩
      rw [List.length_map] at hi
      obtain ⟨a, ha, rfl⟩ : ∃ a, as[i]? = some a ∧ x = V.ref a := by
        rw [List.getElem?_map] at hx
        cases e : as[i]? with
        | none => rw [e] at hx; cases hx
        | some a => rw [e] at hx; exact ⟨a, rfl, (Option.some.inj hx).symm⟩
      have hiw : i < ws.length := by omega
      obtain ⟨a', ha', hwa⟩ := paired_get hw (List.getElem?_eq_getElem hiw)
      rw [ha] at ha'
      cases ha'
      have ed : ws.getD i [] = ws[i] := by rw [List.getD_eq_getElem?_getD, List.getElem?_eq_getElem hiw]; rfl
      rw [← ed] at hwa
      refine ⟨rfl, _, rfl, _, rfl, a, ws.length, _, rfl, hwa.same S1, hN, fun H3 t S3 n3 h3 => ⟨_, S3 _ _ hD, ?_, ts ++ [t], sPut (S1.trans S3) nD, by rw [upd_same, List.map_append]; rfl, by rw [List.length_append, List.length_singleton, hl], ?_⟩⟩
      · rw [List.length_map, sizeLine_eq]; omega
      · intro j u hju
        have tD : t ≠ D := (ne_of_none hD n3).symm
        rcases Nat.lt_or_ge j ts.length with h | h
        · rw [List.getElem?_append_left h] at hju
          obtain ⟨g1, g2⟩ := hts j u hju
          have uD : u ≠ D := fun e => by
            rw [e, hD] at g2
            have g3 := Option.some.inj g2
            injection g3 with g4
            cases ts with
            | nil => simp at hju
            | cons y ys =>
              have g5 : (iV (fl ws.length fun k => cnt k (ws.getD j [])))[0]? = some (V.ref y) := by rw [← g4]; rfl
              have h0 : 0 < ws.length := hg.one
              rw [fl_get _ h0] at g5
              cases g5
          exact ⟨g1, by rw [upd_ne uD]; exact S3 _ _ g2⟩
        · have ej : j = ts.length := by
            have := (List.getElem?_eq_some_iff.mp hju).1
            rw [List.length_append, List.length_singleton] at this
            omega
          subst ej
          rw [List.getElem?_append_right (Nat.le_refl _), Nat.sub_self] at hju
          cases hju
          exact ⟨S1.free n3, by rw [upd_ne tD, hl]; exact h3⟩
    · rintro H1 ⟨ts, S1, hD, hl, hts⟩
      rw [List.length_map] at hl
      have hq1 := hq.same S1
      have hrows : Rows H1 ws.length ts (fun j k => cnt k (ws.getD j [])) := ⟨by omega, fun j t h => (hts j t h).2⟩
      -- counts, size
      refine ⟨_, rfl, _, rfl, pq, ws.length, st, rfl, hq1, hN, fun H2 c0 S2 n2 h2 => ?_⟩
      refine ⟨_, rfl, pq, _, rfl, .inr (hq1.same S2).sq, ?_⟩
      rw [List.length_map]
      refine ⟨_, rfl, (n : Int), rfl, by omega, by omega, ?_⟩
      rw [Int.toNat_natCast]
      have S02 := S1.trans S2
      refine for_range (lo := 0) (n := n) (fun i σ H' => ∃ (co : Addr) (y7 y8 y9 : Option V), σ = [some (.ref p), some (.ref pq), some (.int n), some (.int (ws.length : Int)), some (.ref D), some (.ref co), some (.int ((grown ws st i).length : Int)), y7, y8, y9] ∧
          Same H2 H' ∧ H' co = some (.lst (iV (fl ws.length fun k => cnt k (grown ws st i)))) ∧ (grown ws st i).length ≤ 60000) ⟨c0, _, _, _, rfl, Same.refl _, h2, by show st.length ≤ 60000; omega⟩ ?_ ?_
      · rintro i σ H3 hi ⟨co, y7, y8, y9, rfl, S3, h3, hlen0⟩
        have gl := grown_lets hg i
        have S03 := S02.trans S3
        have eqlen := grow_length (ws := ws) (fun j hj => (good_len hg.words j hj).1) gl
        refine ⟨_, rfl, _, rfl, _, rfl, co, p, _, _, rfl, SqL.of h3, SqT.of (S03 _ _ hp), fun L nL => ?_⟩
        have ll : (iV (fl ws.length fun k => cnt k (grown ws st i))).length = (as.map V.ref).length := by rw [fl_len, List.length_map, el]
        refine walk_by (walk_zipM (K := K) (a := co) (b := p) ll) (fun m H' => Same H3 H' ∧ H' L = some (.lst (iV (fl m fun j => cnt j (grown ws st i) * ((ws.getD j []).length - 1))))) ⟨same_upd nL, upd_same⟩ (fun m H' ⟨s, _⟩ => ⟨SqL.of (s _ _ h3), SqT.of (s _ _ (S03 _ _ hp))⟩) ?_ ?_
        · rintro m x H4 H5 hm ⟨S4, hL⟩ ⟨T, xa, xb, rfl, nT, rfl, ga, gb⟩
          rw [fl_len] at hm
          have ea : V.int (cnt m (grown ws st i) : Int) = xa := Option.some.inj ((fl_get _ hm).symm.trans ga)
          subst ea
          have gb : (as.map V.ref)[m]? = some xb := gb
          rw [List.getElem?_map] at gb
          obtain ⟨a, ha, hwa⟩ := paired_get hw (List.getElem?_eq_getElem hm)
          rw [ha] at gb
          have eb : V.ref a = xb := Option.some.inj gb
          subst eb
          have ed : ws.getD m [] = ws[m] := by rw [List.getD_eq_getElem?_getD, List.getElem?_eq_getElem hm]; rfl
          rw [← ed] at hwa
          have S5 := S4.trans (same_upd (o := .tup [V.int (cnt m (grown ws st i) : Int), V.ref a]) nT)
          have hL5 : (upd H4 T (.tup [V.int (cnt m (grown ws st i) : Int), V.ref a])) L = _ := same_upd nT _ _ hL
          have g40 := good_len hg.words m hm
          have bd := cnt_le m (grown ws st i)
          refine ⟨T, _, rfl, SqT.of upd_same, rfl, _, _, rfl, _, _, rfl, rfl, rfl, _, rfl, _, rfl, a, _, rfl, .inr ((hwa.same (S03.trans S5)).sq), _, _, rfl, rfl, _, _, rfl, rfl, .inl ⟨by omega, by omega⟩, _, hL5, ?_, sPut S5 nL, ?_⟩
          · rw [fl_len, sizeLine_eq]; omega
          · have ev : (cnt m (grown ws st i) : Int) * (((wv (ws.getD m [])).length : Int) - 1) = ((cnt m (grown ws st i) * ((ws.getD m []).length - 1) : Nat) : Int) := by
              rw [List.length_map, Int.natCast_mul]
              congr 1
              omega
            have e2 : fl (m + 1) (fun j => cnt j (grown ws st i) * ((ws.getD j []).length - 1)) = fl m (fun j => cnt j (grown ws st i) * ((ws.getD j []).length - 1)) ++ [cnt m (grown ws st i) * ((ws.getD m []).length - 1)] := by
              unfold fl; rw [List.range_succ, List.map_append]; rfl
            dsimp only
            rw [upd_same, e2, ev]
            simp only [iV, List.map_append, List.map_cons, List.map_nil]
        · rintro H4 ⟨S4, hL⟩
          rw [fl_len] at hL
          refine ⟨L, (fl ws.length fun j => cnt j (grown ws st i) * ((ws.getD j []).length - 1)).map (fun (k : Nat) => (k : Int)), rfl, SqL.of (by rw [hL, List.map_map]; rfl), _, _, rfl, rfl, ?_⟩
          rw [sum_ints]
          have ez : ((grown ws st i).length : Int) + ((sumN ws.length (fun j => cnt j (grown ws st i) * ((ws.getD j []).length - 1)) : Nat) : Int) = ((grown ws st (i + 1)).length : Int) := by
            show _ = ((grow ws (grown ws st i)).length : Int)
            rw [eqlen]; omega
          dsimp only
          rw [ez]
          have S24 := S3.trans S4
          by_cases hb : 60000 < (grown ws st (i + 1)).length
          · refine ⟨_, rfl, _, _, rfl, rfl, _, rfl, itY (by omega) ⟨60000, rfl, by decide +kernel, by rw [sizeLine_eq]; decide +kernel, fun d hd => ?_⟩⟩
            exact q _ d (sUpd (S02.trans S24) hd) ((S02.trans S24).free hd) upd_same
          refine ⟨_, rfl, _, _, rfl, rfl, _, rfl, itN (by omega) ?_⟩
          refine ⟨_, rfl, _, rfl, co, D, ws.length, ts, (fun k => cnt k (grown ws st i)), (fun j k => cnt k (ws.getD j [])), rfl, S4 _ _ h3, S24 _ _ (S2 _ _ hD), ⟨hrows.1, fun j t h => S24 _ _ (S2 _ _ (hrows.2 j t h))⟩, hN, fun j k => ?_, fun H5 c5 S5 n5 h5 => ?_⟩
          · show cnt k (ws.getD j []) ≤ 1000
            have h1 := cnt_le k (ws.getD j [])
            by_cases hj : j < ws.length
            · have := (good_len hg.words j hj).2; omega
            · have : ws.getD j [] = [] := by rw [List.getD_eq_getElem?_getD, List.getElem?_eq_none (by omega)]; rfl
              rw [this] at h1 ⊢
              exact Nat.le_trans h1 (Nat.zero_le _)
          · refine ⟨c5, _, _, _, rfl, S24.trans S5, ?_, by omega⟩
            rw [h5]
            congr 3
            exact fl_congr fun k _ => (grow_cnt k gl).symm
      · rintro σ H3 ⟨co, y7, y8, y9, rfl, S3, h3, h4⟩
        omega
end
end SK
namespace SK
open PySem PySem.Spec PyProof.Rows L2
/-- the way out: an error of the class at C that tells the number -/
def ErrN (C : Addr) (n : Int) (H : Hp) (E : XK) : Prop := ∀ (H' : Hp) (d : Addr), Same H H' → H d = none → H' d = some (.xd [(("most" : Str), .int n)]) → E (.ref C) (some d) H'
theorem ErrN.keep {C : Addr} {n : Int} {H H' : Hp} {E : XK} (s : Same H H') (h : ErrN C n H E) : ErrN C n H' E := fun H2 d s2 n e => h H2 d (s.trans s2) (s.free n) e
end SK
/-! what may raise, where it doesn't; fields as targets; what stands when an instance is written -/
namespace SK
open PySem PySem.Spec PyProof.Rows L2
section
variable {P : Program} {w : World} {K : PySem.W.Frag} {mg : Str → Option Value} {base : Heap}
/-- a def that may raise lets nothing out where its promise has no way out -/
theorem cool {k : Nat} {f : Addr} {fd : FuncData} {ps : List Str} {sp sp0 : Sp} (F : FnOk P w K mg base (L2.CX P w) k f fd ps sp) (h : ∀ vs H Q E, sp0 vs H Q E → sp vs H Q E0) : FnOk P w K mg base CX0 k f fd ps sp0 :=
  ⟨fun vs H Q E z => F.len vs H Q E0 (h _ _ _ _ z), fun A outer s H args us vs Q E hr e0 b r z => codeAny_mono (F.run A outer s H args us vs Q E0 hr e0 b r (h _ _ _ _ z)) fun r s' hq => match r, hq with
    | .ok (.ret _), hq => hq
    | .ok .next, hq => hq
    | .ok .brk, hq => hq
    | .ok .cont, hq => hq
    | .error _, ⟨_, _, _, _, _, _, _, _, _, _, _, _, z⟩ => z⟩
end
def gFld (K : PySem.W.Frag) (to : TE) (f : Str) : TG := fun v σ H Q => to σ H fun o H1 => ∃ a C dx fs, o = .ref a ∧ H1 a = some (.ins C dx fs) ∧ Cls K C ∧ NoAttr K C f ∧ fs.length < 1000 ∧ Q σ (upd H1 a (.ins C dx (putF f v fs)))
theorem pg_fld {X : Cx} {o : Expr} {f : Str} {to : TE} {pos : Pos} (ho : PE X o to)
    (ha : ∀ v, assign (.Attribute o f pos) X.env v = (do
      let ov ← holding [v] (eval o X.env)
      standAt pos.atName
      holding [v, ov] (setAttr ov f v)
      release [v, ov] []) := by intro _; rfl) : PG X (.Attribute o f pos) (gFld X.K to f) := by
  refine ⟨fun pins s σ H v u Q I r h => ?_⟩
  rw [ha]
  refine wpAny_bind (wpAny_holding (thn (ho.run pins s σ H _ I h) fun ov s1 ⟨x, H1, I1, r1, a, C, dx, fs, ex, ea, c, n, l, q⟩ => ?_))
  subst ex
  obtain rfl : ov = Value.ref a := r1
  refine wpAny_bind (wpAny_standAt (wpAny_bind (wpAny_holding (setattr_ok I1 ea c n l r fun s3 I3 => ?_))))
  exact wpAny_release ⟨σ, _, I3, q⟩
theorem lk0 {f : Str} {v : V} {l : List (Str × V)} : List.lookup f ((f, v) :: l) = some v := by simp [List.lookup]
theorem lkS {f g : Str} {v : V} {l : List (Str × V)} (h : ¬ f = g) : List.lookup f ((g, v) :: l) = List.lookup f l := by
  have e : (f == g) = false := by simpa using h
  simp [List.lookup, e]
theorem putF_new {f : Str} {v : V} : ∀ {fs : List (Str × V)}, (∀ p ∈ fs, ¬ p.1 = f) → putF f v fs = fs ++ [(f, v)]
  | [], _ => rfl
  | (g, u) :: fs, h => by
    show (if g = f then _ else (g, u) :: putF f v fs) = _
    rw [if_neg (h (g, u) List.mem_cons_self), putF_new fun p hp => h p (List.mem_cons_of_mem _ hp)]
    rfl
/-- all that is no instance stands -/
def KeepI (H H' : Hp) : Prop := ∀ c o, (∀ C dx fs, o ≠ .ins C dx fs) → H c = some o → H' c = some o
theorem KeepI.of {H H' : Hp} (s : Same H H') : KeepI H H' := fun c o _ e => s c o e
theorem KeepI.trans {H H' H2 : Hp} (a : KeepI H H') (b : KeepI H' H2) : KeepI H H2 := fun c o n e => b c o n (a c o n e)
theorem KeepI.ins {H : Hp} {p C dx : Addr} {fs : List (Str × V)} {o : HO} (h : H p = some (.ins C dx fs)) : KeepI H (upd H p o) := fun c u n e => by
  have z : c ≠ p := fun z => by
    rw [z, h] at e
    exact n C dx fs (Option.some.inj e).symm
  rw [upd_ne z]
  exact e
theorem KeepI.tup {H H' : Hp} (k : KeepI H H') : TupS H H' := ⟨fun b xs e => k b _ (fun _ _ _ z => nomatch z) e, fun b o u e => k b _ (fun _ _ _ z => nomatch z) e⟩
theorem KeepI.lst {H H' : Hp} (k : KeepI H H') {b : Addr} {xs : List V} (e : H b = some (.lst xs)) : H' b = some (.lst xs) := k b _ (fun _ _ _ z => nomatch z) e
theorem KeepI.dK {H H' : Hp} (k : KeepI H H') {b : Addr} {kvs : List (Key × V)} (e : H b = some (.dK kvs)) : H' b = some (.dK kvs) := k b _ (fun _ _ _ z => nomatch z) e
end SK
/-! what is known of defs that may raise, of methods, of the making of instances -/
namespace SK
open PySem PySem.Spec PyProof.Rows L2
/-- a method of a class of the module -/
structure GotM (P : Program) (w : World) (K : PySem.W.Frag) (mg : Str → Option Value) (base : Heap) (CX : CXT) (C : Addr) (m : Str) (k : Nat) (ps : List Str) (sp : Sp) : Prop where
  ex : ∃ (f : Addr) (fd : FuncData), FnOk P w K mg base CX k f fd ps sp ∧ Meth K C m f ∧ Binds K fd ps []
theorem pmeth {X : Cx} {C : Addr} {m : Str} {k : Nat} {ps : List Str} {sp : Sp} {e o : Expr} {es : List Expr} {ta : TE} {t : TA} {pos apos : Pos} {pl : Sem Bool} (G : GotM X.prog X.w X.K X.mg X.base CX0 C m k ps sp) (hr : Room k X.A) (c : Cls X.K C) (he : PE X o ta) (ha : PA X (e :: es) t)
    (hst : starEach (e :: es) X.env = (false, eval e X.env) :: starEach es X.env := by rfl) (hpl : (backTo pos (starEach es X.env)).any (·.1) = false := by rfl)
    (ht : eval (.Call (.Attribute o m apos) (e :: es) [] pos) X.env = (do
      let ov ← eval o X.env
      standAt apos.atName
      let (f, first) ← holding [ov] (getMethod ov m pl)
      callWith pos f first (backTo pos (starEach (e :: es) X.env)) (backToKw pos (keywordEach [] X.env))) := by rfl) :
    PE X (.Call (.Attribute o m apos) (e :: es) [] pos) (tMeth C m sp [] E0 ta t) := by
  obtain ⟨f, fd, F, hm, b⟩ := G.ex
  exact pe_meth he c hm F hr b .nil pass0 ha hst hpl ht
/-- a def that may raise -/
structure GotX (P : Program) (w : World) (K : PySem.W.Frag) (mg : Str → Option Value) (base : Heap) (x : Str) (k : Nat) (ps : List Str) (sp : Sp) : Prop where
  ex : ∃ (f : Addr) (fd : FuncData), FnOk P w K mg base (L2.CX P w) k f fd ps sp ∧ mg x = some (.ref f) ∧ PySem.W.keepIn K (.ref f) = true ∧ Binds K fd ps []
theorem pcallX {X : Cx} {W : WX} {x : Str} {k : Nat} {ps : List Str} {sp : Sp} {e : Expr} {es : List Expr} {t : TA} {p pos : Pos} (G : GotX X.prog X.w X.K X.mg X.base x k ps sp) (hr : Room k X.A) (tk : Takes X W) (ha : PA X (e :: es) t) (hg : Gl X x := by rfl)
    (hdb : (x == ("__debug__" : Str)) = false := by decide)
    (he : starEach (e :: es) X.env = (false, eval e X.env) :: starEach es X.env := by rfl) (hpl : (backTo pos (starEach es X.env)).any (·.1) = false := by rfl) : PE X (.Call (.Name x p) (e :: es) [] pos) (tCallS sp (WE W) t) := by
  obtain ⟨f, fd, F, a, b, c⟩ := G.ex
  exact pe_callS F hr hg a b c (fun σ => passAt tk σ) ha hdb he hpl
theorem GotX.mono {P : Program} {w : World} {K : PySem.W.Frag} {mg : Str → Option Value} {base : Heap} {x : Str} {j k : Nat} {ps : List Str} {sp : Sp} (g : GotX P w K mg base x j ps sp) (h : j ≤ k) : GotX P w K mg base x k ps sp := by
  obtain ⟨f, fd, F, a, b, c⟩ := g.ex
  exact ⟨f, fd, F.mono h, a, b, c⟩
/-- .. and lets nothing out -/
theorem GotX.cool {P : Program} {w : World} {K : PySem.W.Frag} {mg : Str → Option Value} {base : Heap} {x : Str} {k : Nat} {ps : List Str} {sp sp0 : Sp} (g : GotX P w K mg base x k ps sp) (h : ∀ vs H Q E, sp0 vs H Q E → sp vs H Q E0) : Got P w K mg base x k ps sp0 := by
  obtain ⟨f, fd, F, a, b, c⟩ := g.ex
  exact ⟨f, fd, SK.cool F h, a, b, c⟩
theorem GotM.mono {P : Program} {w : World} {K : PySem.W.Frag} {mg : Str → Option Value} {base : Heap} {CX : CXT} {C : Addr} {m : Str} {j k : Nat} {ps : List Str} {sp : Sp} (g : GotM P w K mg base CX C m j ps sp) (h : j ≤ k) : GotM P w K mg base CX C m k ps sp := by
  obtain ⟨f, fd, F, a, b⟩ := g.ex
  exact ⟨f, fd, F.mono h, a, b⟩
theorem pmethX {X : Cx} {C : Addr} {m : Str} {k : Nat} {ps : List Str} {sp : Sp} {e o : Expr} {es : List Expr} {ta : TE} {t : TA} {pos apos : Pos} {pl : Sem Bool} {W : WX} {E : XK} (G : GotM X.prog X.w X.K X.mg X.base (L2.CX X.prog X.w) C m k ps sp) (hr : Room k X.A) (c : Cls X.K C) (tk : Takes X W) (hW : ∀ cls d σ H, E cls d H → W cls d σ H) (he : PE X o ta) (ha : PA X (e :: es) t)
    (hst : starEach (e :: es) X.env = (false, eval e X.env) :: starEach es X.env := by rfl) (hpl : (backTo pos (starEach es X.env)).any (·.1) = false := by rfl)
    (ht : eval (.Call (.Attribute o m apos) (e :: es) [] pos) X.env = (do
      let ov ← eval o X.env
      standAt apos.atName
      let (f, first) ← holding [ov] (getMethod ov m pl)
      callWith pos f first (backTo pos (starEach (e :: es) X.env)) (backToKw pos (keywordEach [] X.env))) := by rfl) :
    PE X (.Call (.Attribute o m apos) (e :: es) [] pos) (tMeth C m sp [] E ta t) := by
  obtain ⟨f, fd, F, hm, b⟩ := G.ex
  exact pe_meth he c hm F hr b .nil (passes_call tk hW) ha hst hpl ht
/-- the making of a class of the module -/
structure GotC (P : Program) (w : World) (K : PySem.W.Frag) (mg : Str → Option Value) (base : Heap) (x : Str) (C : Addr) (k : Nat) (ps : List Str) (sp : Sp) : Prop where
  gC : mg x = some (.ref C)
  ex : ∃ (f : Addr) (fd : FuncData), Mk K C f ∧ FnOk P w K mg base CX0 k f fd ps sp ∧ Binds K fd ps []
theorem GotC.mono {P : Program} {w : World} {K : PySem.W.Frag} {mg : Str → Option Value} {base : Heap} {x : Str} {C : Addr} {j k : Nat} {ps : List Str} {sp : Sp} (g : GotC P w K mg base x C j ps sp) (h : j ≤ k) : GotC P w K mg base x C k ps sp := by
  obtain ⟨f, fd, M, F, b⟩ := g.ex
  exact ⟨g.gC, f, fd, M, F.mono h, b⟩
theorem pmake {X : Cx} {C : Addr} {x : Str} {k : Nat} {ps : List Str} {sp : Sp} {e : Expr} {es : List Expr} {t : TA} {p pos : Pos} (G : GotC X.prog X.w X.K X.mg X.base x C k ps sp) (hr : Room (k + 1) X.A) (ha : PA X (e :: es) t) (hg : Gl X x := by rfl) (hdb : (x == ("__debug__" : Str)) = false := by decide)
    (he : starEach (e :: es) X.env = (false, eval e X.env) :: starEach es X.env := by rfl) (hpl : (backTo pos (starEach es X.env)).any (·.1) = false := by rfl) : PE X (.Call (.Name x p) (e :: es) [] pos) (tMake C sp [] E0 t) := by
  obtain ⟨f, fd, M, F, b⟩ := G.ex
  exact pe_make M F hr hg G.gC b .nil pass0 ha hdb he hpl
end SK
namespace SK
open PySem PySem.Spec PyProof.Rows L2
def spWordX (C : Addr) : Sp := fun vs H _ E => ∃ (b : Addr) (n : Nat) (ws : List (List Sy)) (st : List Sy), vs = [.ref b, .int n] ∧ BookAt H b ws st ∧ GoodBook ws st ∧ n ≤ 1000 ∧ 60000 < (grown ws st n).length ∧ ErrTm C H E
theorem ErrTm.keep {C : Addr} {H H' : Hp} {E : XK} (s : Same H H') (h : ErrTm C H E) : ErrTm C H' E := fun H2 d s2 n e => h H2 d (s.trans s2) (s.free n) e
section
variable {P : Program} {w : World} {K : PySem.W.Frag} {mg : Str → Option Value} {base : Heap} {C : Addr}
theorem ok_wordX {f : Addr} {fd : FuncData} {k : Nat} (F : Fun K "word_at" "word_at" s_word_at f fd) (GB : GotD P w K mg base "check_book_and_age" k ["book", "age", "most"] [.int 1000] spCheckBA)
    (GS : GotX P w K mg base "check_size" k ["words", "start", "age"] (spSizeX C)) : FnOk P w K mg base (L2.CX P w) (k + 1) f fd ["book", "age"] (spWordX C) := by
  refine F.okX sc_word_at (fun vs H Q E h => ?_) (fun cdv A outer s H vs Q E hr h => ?_)
  · obtain ⟨b, n, ws, st, rfl, _⟩ := h
    rfl
  · obtain ⟨b, n, ws, st, rfl, hb, hg, hn, hlen, q⟩ := h
    have nd := sc_word_at.nd
    refine ⟨_, pss_cons (ps_expr (pcallD GB hr (pa_cons (pv 0) (pa_cons (pv 1) pa_nil))))
      (pss_cons (ps_asg (pv 0) (pg_tup (by rfl) (pgs_cons (pg_name (i := 2) nd rfl (.inr rfl)) (pgs_cons (pg_name (i := 3) nd rfl (.inl rfl)) pgs_nil))))
      (pss_cons (ps_expr (pcallX GS hr (takes_of rfl rfl rfl rfl) (pa_cons (pv 2) (pa_cons (pv 3) (pa_cons (pv 1) pa_nil))))) pss_never)), ?_⟩
    obtain ⟨p, pq, as, h1, h2, h3, h4⟩ := id hb
    refine ⟨_, rfl, _, rfl, b, n, 1000, ws, st, rfl, hb, hg, hn, fun H1 S1 => ?_⟩
    refine ⟨_, rfl, b, _, rfl, SqT.of (S1 _ _ h1), rfl, _, _, rfl, _, _, rfl, rfl, ?_⟩
    exact ⟨_, rfl, _, rfl, _, rfl, p, pq, n, as, ws, st, rfl, S1 _ _ h2, h4.keep (.of S1), h3.same S1, hg, hn, hlen, q.keep S1⟩
theorem ok_drawingX {f : Addr} {fd : FuncData} {k : Nat} (F : Fun K "drawing" "drawing" s_drawing f fd) (GW : GotX P w K mg base "word_at" k ["book", "age"] (spWordX C)) (GD : Got P w K mg base "draw" k ["word"] spDraw) :
    FnOk P w K mg base (L2.CX P w) (k + 1) f fd ["book", "age"] (spWordX C) := by
  refine F.okX sc_drawing (fun vs H Q E h => ?_) (fun cdv A outer s H vs Q E hr h => ?_)
  · obtain ⟨b, n, ws, st, rfl, _⟩ := h
    rfl
  · obtain ⟨b, n, ws, st, rfl, hb, hg, hn, hlen, q⟩ := h
    refine ⟨_, pss_one (ps_ret (pcall GD hr (pa_cons (pcallX GW hr (takes_of rfl rfl rfl rfl) (pa_cons (pv 0) (pa_cons (pv 1) pa_nil))) pa_nil))), ?_⟩
    exact ⟨_, rfl, _, rfl, b, n, ws, st, rfl, hb, hg, hn, hlen, q⟩
end
end SK
/-! lambdas held in a list, called later -/
namespace SK
open PySem PySem.Spec PyProof.Rows L2
open LamX (CodeO TabS ExtN TabB inv_table among_app codeO_ne)
/-- a lambda's own object -/
def LamO (f : Addr) (q : Str) (params : Arguments) (body : Expr) (scope : Scope) (dV : Value) (c' : Addr) : HO := .ext fun h => ∃ doc pm ctv, h.get? f = some (PySem.W.kdv_obj "<lambda>" q params (.expr body) scope [] dV doc pm c' ctv)
theorem lamO_ok {P : Program} {w : World} {H : Hp} {h : Heap} {f c' : Addr} {q : Str} {params : Arguments} {body : Expr} {scope : Scope} {dV doc pm ctv : Value} (e : h.get? f = some (PySem.W.kdv_obj "<lambda>" q params (.expr body) scope [] dV doc pm c' ctv)) : ObjOk P w H h f (LamO f q params body scope dV c') :=
  ⟨⟨doc, pm, ctv, e⟩, ⟨_, e⟩, fun h1 h2 ⟨doc, pm, ctv, e⟩ k => ⟨doc, pm, ctv, k _ e⟩⟩
section
variable {X : Cx} {pins : List (Addr × Obj)} {σ : L2.St} {H : Hp} {s : Shared}
theorem lam_tail {c P : Addr} {q : Str} {params : Arguments} {body : Expr} {scope : Scope} {dV : Value} {pos : Pos} {fl : Nat} {E : Value → Shared → Prop} {Q : Value → Shared → Prop} (I : Inv X pins σ H s) (TB : TabB X.base X.mg c P) (hcode : X.env.code = .ref c)
    (hT : TabS H P q) (hcl : closureFor scope X.env = pure [])
    (h : ∀ (f c' : Addr) (H1 : Hp) (s' : Shared), Inv X pins σ (upd H1 f (LamO f q params body scope dV c')) s' → ExtN H H1 → TabS H1 P q → H1 f = none → H f = none → H1 c' = some (CodeO c' q) → Q (.ref f) s') :
    wpAny (model X.prog X.w) X.A (PySem.makeTail "<lambda>" q params (.expr body) scope X.env dV .none none pos fl) Q E s := by
  obtain ⟨ps, hP, ht, ha⟩ := hT
  have bP : s.heap.BuiltinsAt X.mg P := TB.bm.keeps I.bk
  have hP' : s.heap.get? P = some { cls := .none, data := .fields ps } := I.hok P _ hP
  cases hc : codeAmong pos ps.toList with
  | none =>
    refine PySem.W.kdv_makeTail (mg := X.mg) (c := c) (P := P) (ps := ps) hcl I.ok.glob (I.mod.glob.keeps I.bk) hcode (TB.code.keeps I.bk) hP' ht hc TB.gP bP fun c' ctv doc h' tk hx hge hlt hrec htb => ?_
    obtain ⟨c2, oc, vs, t, e2, hoc, hd, hv⟩ := hrec
    cases e2
    have hsz : s.heap.objs.size ≤ h'.objs.size := Nat.le_trans hge (Nat.le_of_lt hlt)
    have nC : H c' = none := I.hok.fresh hge
    have I1 := inv_table (t' := tk) (more := #[rawInt pos.line, rawInt pos.col, .ref c']) (h' := h') I hP hx htb hge ⟨oc, vs, t, hoc, hd, hv⟩
    have hE : ExtN H (upd (upd H P (.tbl (ps ++ #[rawInt pos.line, rawInt pos.col, .ref c']))) c' (CodeO c' q)) := fun b o e n => by
      rw [upd_ne (ne_of_none e nC), upd_ne (fun z => n ps (Option.some.inj (e.symm.trans (by rw [z]; exact hP))))]
      exact e
    have eL : (ps ++ #[rawInt pos.line, rawInt pos.col, .ref c']).toList = ps.toList ++ [rawInt pos.line, rawInt pos.col, .ref c'] := by simp
    have nf : (upd (upd H P (.tbl (ps ++ #[rawInt pos.line, rawInt pos.col, .ref c']))) c' (CodeO c' q)) h'.objs.size = none := I1.hok.fresh (Nat.le_refl _)
    refine h h'.objs.size c' _ _ (I1.laid (t' := tk) (a := h'.objs.size) (fun b o e => Heap.get?_push_of_some _ e) (Nat.le_refl _) (lamO_ok (Heap.get?_push_size _ rfl))) hE ?_ nf (I.hok.fresh hsz) upd_same
    refine ⟨_, by rw [upd_ne (ne_of_none hP nC), upd_same], by rw [eL]; exact PySem.TriplesOk_snoc _ _ _ _ ht, fun p' cv hcv => ?_⟩
    rw [eL] at hcv
    rcases among_app _ ht hcv with z | z
    · obtain ⟨c0, e1, e2⟩ := ha p' cv z
      exact ⟨c0, e1, hE _ _ e2 codeO_ne⟩
    · exact ⟨c', z, upd_same⟩
  | some cv =>
    obtain ⟨c', e, hco⟩ := ha pos cv hc
    subst e
    refine PySem.W.kdv_makeTailHit (mg := X.mg) (c := c) (P := P) (ps := ps) hcl I.ok.glob (I.mod.glob.keeps I.bk) hcode (TB.code.keeps I.bk) hP' ht hc bP fun ctv doc h' tk hx hsz => ?_
    have I1 : Inv X pins σ H { s with heap := h', toks := tk } := I.kept hx
    exact h h'.objs.size c' H _ (I1.laid (t' := tk) (a := h'.objs.size) (fun b o e => Heap.get?_push_of_some _ e) (Nat.le_refl _) (lamO_ok (Heap.get?_push_size _ rfl))) (ExtN.refl H) ⟨ps, hP, ht, ha⟩ (I1.hok.fresh (Nat.le_refl _)) (I.hok.fresh hsz) hco
end
/-- lambda: body -/
def tLam0 (P : Addr) (q : Str) (params : Arguments) (body : Expr) (scope : Scope) : TE := fun _ H Q => TabS H P q ∧ ∀ (f c' : Addr) (H1 : Hp), ExtN H H1 → TabS H1 P q → H1 f = none → H f = none → H1 c' = some (CodeO c' q) → Q (.ref f) (upd H1 f (LamO f q params body scope .none c'))
/-- lambda a=i: body -/
def tLam1 (P : Addr) (q : Str) (params : Arguments) (body : Expr) (scope : Scope) (i : Int) : TE := fun _ H Q => TabS H P q ∧ ∀ (d f c' : Addr) (H1 : Hp), H d = none → ExtN (upd H d (.tup [.int i])) H1 → TabS H1 P q → H1 f = none → H f = none → H1 c' = some (CodeO c' q) → Q (.ref f) (upd H1 f (LamO f q params body scope (.ref d) c'))
section
variable {X : Cx}
theorem pe_lam0 {c P : Addr} {q : Str} {params : Arguments} {body : Expr} {scope : Scope} {pos : Pos} (TB : TabB X.base X.mg c P) (hcode : X.env.code = .ref c) (hq : q = X.env.qual ++ "<lambda>") (hcl : closureFor scope X.env = pure []) (hdef : defaultsOf params X.env = ([], [])) :
    PE X (.Lambda params body scope pos) (tLam0 P q params body scope) := by
  subst hq
  refine ⟨fun pins s σ H Q I ⟨hT, h⟩ => PySem.W.kla_eval hdef ?_⟩
  rw [PySem.makeFunction_eq]
  simp only [List.zip_nil_right, List.filterMap_nil, List.isEmpty_nil, if_true, pure_bind]
  exact lam_tail I TB hcode hT hcl fun f c' H1 s' I1 e1 t1 n1 n0 hc => ⟨.ref f, _, I1, rfl, h f c' H1 e1 t1 n1 n0 hc⟩
theorem pe_lam1 {c P : Addr} {q : Str} {params : Arguments} {body : Expr} {scope : Scope} {pos p0 : Pos} {i : Int} {j : Nat} (TB : TabB X.base X.mg c P) (hcode : X.env.code = .ref c) (hq : q = X.env.qual ++ "<lambda>") (hcl : closureFor scope X.env = pure []) (hd : params.defaults = [.Constant (.int i) j p0]) (hk0 : params.kw_defaults = []) :
    PE X (.Lambda params body scope pos) (tLam1 P q params body scope i) := by
  subst hq
  refine ⟨fun pins s σ H Q I ⟨hT, h⟩ => PySem.W.kdv_lam (by rw [hd]; rfl) hk0 ?_⟩
  rw [hd]
  refine PySem.W.kdv_all1 (wpAny_Constant_int (PySem.W.kdv_all0 ?_))
  rw [PySem.makeFunction_eq]
  simp only [List.zip_nil_right, List.filterMap_nil, List.isEmpty_nil, if_true, pure_bind, List.isEmpty_cons, Bool.false_eq_true, if_false]
  refine wpAny_bind (wpAny_newTextTuple ?_)
  have n0 : H s.heap.objs.size = none := I.hok.fresh (Nat.le_refl _)
  have I2 : Inv X pins σ (upd H s.heap.objs.size (.tup [.int i])) { s with heap := s.heap.push (PySem.W.kdv_tup [.int i s.toks]), toks := s.toks + 1 } := I.laid (t' := s.toks + 1) (a := s.heap.objs.size) (fun b o e => Heap.get?_push_of_some _ e) (Nat.le_refl _) ⟨by show 1 ≤ sizeLine; rw [sizeLine_eq]; decide, [.int i s.toks], .cons ⟨_, rfl⟩ .nil, ⟨_, Heap.get?_push_size _ rfl, rfl, _, rfl⟩⟩
  obtain ⟨ps, t1, t2, t3⟩ := hT
  have hT2 : TabS (upd H s.heap.objs.size (.tup [.int i])) P (X.env.qual ++ "<lambda>") := ⟨ps, by rw [upd_ne (ne_of_none t1 n0)]; exact t1, t2, fun pos cv hc => by
    obtain ⟨c, e1, e2⟩ := t3 pos cv hc
    exact ⟨c, e1, by rw [upd_ne (ne_of_none e2 n0)]; exact e2⟩⟩
  refine lam_tail I2 TB hcode hT2 hcl fun f c' H1 s' I1 e1 t1 n1 nf hc => ⟨.ref f, _, I1, rfl, h _ f c' H1 n0 e1 t1 n1 ?_ hc⟩
  cases e : H f with
  | none => rfl
  | some o =>
    rw [upd_ne (ne_of_none e n0), e] at nf
    cases nf
end
end SK
namespace SK
open PySem PySem.Spec PyProof.Rows L2
open LamX (CodeO TabS ExtN TabB)
theorem lam_run {P : Program} {w : World} {K : PySem.W.Frag} {mg : Str → Option Value} {base : Heap} {f c' : Addr} {q : Str} {params : Arguments} {body : Expr} {scope : Scope} {dV doc pm ctv : Value} {N ps : List Str} {k : Nat} (S : FnScope N ps scope) {A : Around} {outer : List Env} {s : Shared} {H : Hp}
    {us : List Value} {vs : List V} {Q : VK} {E : XK} (hr : Room (k + 1) A) (e0 : Env0 P w K mg base A outer s H) (hf : s.heap.get? f = some (PySem.W.kdv_obj "<lambda>" q params (.expr body) scope [] dV doc pm c' ctv)) (hc : H c' = some (CodeO c' q))
    (hb : BindsTo s (PySem.W.kdv_fn "<lambda>" q params (.expr body) scope [] dV doc pm (.ref c') ctv) ⟨[], []⟩ (ps.zip us)) (r : Vals vs us) (hl : vs.length = ps.length)
    (hbody : Room k (A.deeper (envOfC q scope s.heap.objs.size f (.ref c'))) → ∃ t, PE (cxOf (L2.CX P w) P w K mg base N q scope f (.ref c') A outer s H E) body t ∧ t (start N vs) H Q) :
    codeAny (model P w) A (.call (.ref f) ⟨[], []⟩) (CR (L2.CX P w) outer P w H s Q E) s := by
  have lim : s.heap.NoLimit := e0.mod.nolimit.keeps fun b o e => (e0.bs b o e).1
  have hkind : ∀ y ∈ ps.zip us, scope.names.lookup y.1 = some .local ∨ (scope.names.lookup y.1 = some .cell ∧ ((cellsFrom (s.heap.objs.size + 1) scope.names []).lookup y.1).isSome = true) := fun ⟨n, v⟩ hy => by
    rcases S.par n (List.of_mem_zip hy).1 with q | q
    · exact .inl q
    · exact .inr ⟨q, PySem.W.cellsFrom_some _ _ _ (.inl q)⟩
  obtain ⟨⟨oc, cvs, t, hoc, hdc, hvc⟩, _, _⟩ := (show ObjOk P w H s.heap c' (CodeO c' q) from e0.hok c' _ hc)
  refine PySem.W.kla_callFunE hr.depth hf rfl S.co S.gen rfl ⟨c', oc, cvs, t, rfl, hoc, hdc, hvc⟩ (hb _ _ _ _ ?_)
  refine wpAny_newFunctionEnv_cells S.kind hkind fun env he s1 x => ?_
  subst he
  refine ⟨lim.keeps x.toInCall.keep, ?_⟩
  obtain ⟨t, ht, hq⟩ := hbody (hr.deeper _)
  have I : Inv (cxOf (L2.CX P w) P w K mg base N q scope f (.ref c') A outer s H E) [] (start N vs) H s1 := inv_start S hr.hd e0 hl r x
  show codeAny _ _ (.expr body (envOfC q scope s.heap.objs.size f (.ref c'))) _ _
  refine PySem.W.kla_codeExpr (wpAny_mono (ht.run [] s1 (start N vs) H Q I hq) (fun v s' hv => ?_) fun e s' he => he)
  obtain ⟨y, H', J, rv, q⟩ := hv
  exact ⟨y, H', J.os, J.bare, J.base, J.hok, rv, q⟩
/-- the lambda at f, called where H stands -/
def LamRuns (P : Program) (w : World) (K : PySem.W.Frag) (mg : Str → Option Value) (base : Heap) (k : Nat) (f : Addr) (H : Hp) (Q : VK) (E : XK) : Prop :=
  (∃ (q : Str) (params : Arguments) (body : Expr) (scope : Scope) (dV : Value) (c' : Addr), H f = some (LamO f q params body scope dV c')) ∧
  ∀ (A : Around) (outer : List Env) (s : Shared), Room k A → Env0 P w K mg base A outer s H → codeAny (model P w) A (.call (.ref f) ⟨[], []⟩) (CR (L2.CX P w) outer P w H s Q E) s
def tCallLam (X : Cx) (k i : Nat) (E : L2.St → XK) : TE := fun σ H Q => ∃ f, σ[i]? = some (some (.ref f)) ∧ LamRuns X.prog X.w X.K X.mg X.base k f H Q (E σ)
theorem pe_callLam {X : Cx} {W : WX} {k i : Nat} {a : Str} {p1 p2 : Pos} (tk : Takes X W) (hr : Room k X.A) (hN : X.N[i]? = some a) (hv : Vis X.env.scope a) (hd : (a == ("__debug__" : Str)) = false := by decide) (hcd : (a == ("__classdict__" : Str)) = false := by decide) :
    PE X (.Call (.Name a p1) [] [] p2) (tCallLam X k i (WE W)) := by
  refine ⟨fun pins s σ H Q I ⟨f, hs, ⟨q, params, body, scope, dV, c', hf⟩, run⟩ => ?_⟩
  refine wpAny_Call_Name_kw (thn ((pe_var (pos := p1) (i := i) hN hv hd hcd).run pins s σ H (fun v H1 => v = .ref f ∧ H1 = H) I ⟨.ref f, hs, rfl, rfl⟩) fun u s1 ⟨v, H1, I1, r1, q1⟩ => ?_)
  obtain ⟨rfl, rfl⟩ := q1
  obtain rfl : u = Value.ref f := r1
  obtain ⟨⟨doc, pm, ctv, of1⟩, _, _⟩ := (show ObjOk X.prog X.w H1 s1.heap f (LamO f q params body scope dV c') from I1.hok f _ hf)
  refine PySem.W.callWith_F0 ⟨_, _, _, _, of1⟩ ?_
  refine wpAny_call (codeAny_mono (run X.A X.stack s1 hr I1.env0) fun r s' hq => ?_)
  cases r with
  | error e => exact passAt tk σ pins H1 s1 e s' I1 hq
  | ok fl =>
    cases fl with
    | ret u => exact I1.after hq
    | next => exact False.elim hq
    | brk => exact False.elim hq
    | cont => exact False.elim hq
end SK
namespace SK
open PySem PySem.Spec PyProof.Rows L2
/-! ### a pen along paths: each letter a whole path, that ends somewhere -/
abbrev Plc := Int × Int × Int
abbrev Pth := Nat → Plc
def rot (h : Int) (p : Int × Int) : Int × Int := if h % 4 = 0 then p else if h % 4 = 1 then (-p.2, p.1) else if h % 4 = 2 then (-p.1, -p.2) else (p.2, -p.1)
/-- a place with a heading, as seen from another one -/
def mv (a q : Plc) : Plc := (a.1 + (rot a.2.2 (q.1, q.2.1)).1, a.2.1 + (rot a.2.2 (q.1, q.2.1)).2, (a.2.2 + q.2.2) % 4)
def sh (a : Plc) (s : Stk) : Stk := ((mv a (s.1, s.2.1, s.2.2.1)).1, (mv a (s.1, s.2.1, s.2.2.1)).2.1, (mv a (s.1, s.2.1, s.2.2.1)).2.2, s.2.2.2)
def Pen.pl (p : Pen) : Plc := (p.x, p.y, p.h)
def pstepE (E : Pth) (p : Pen) : Sy → Pen
  | .l k => { p with out := p.out ++ [(p.x, p.y, p.h, k)], x := (mv p.pl (E k)).1, y := (mv p.pl (E k)).2.1, h := (mv p.pl (E k)).2.2 }
  | s => pstep p s
def penF (E : Pth) (p : Pen) (w : List Sy) : Pen := w.foldl (pstepE E) p
def org : Pen := ⟨0, 0, 0, [], []⟩
def penE (E : Pth) (w : List Sy) : Pen := penF E org w
/-- each letter a stroke -/
def one : Pth := fun _ => (1, 0, 0)
theorem penF_app (E : Pth) (p : Pen) (v w : List Sy) : penF E p (v ++ w) = penF E (penF E p v) w := List.foldl_append
theorem penF_cons (E : Pth) (p : Pen) (s : Sy) (w : List Sy) : penF E p (s :: w) = penF E (pstepE E p s) w := rfl
theorem rot_mod (h : Int) (p : Int × Int) : rot (h % 4) p = rot h p := by
  unfold rot
  rw [show h % 4 % 4 = h % 4 by omega]
theorem rot4 (h : Int) : (h % 4 = 0 ∧ ∀ p, rot h p = p) ∨ (h % 4 = 1 ∧ ∀ p, rot h p = (-p.2, p.1)) ∨ (h % 4 = 2 ∧ ∀ p, rot h p = (-p.1, -p.2)) ∨ (h % 4 = 3 ∧ ∀ p, rot h p = (p.2, -p.1)) := by
  have e : h % 4 = 0 ∨ h % 4 = 1 ∨ h % 4 = 2 ∨ h % 4 = 3 := by omega
  rcases e with e | e | e | e
  · exact .inl ⟨e, fun p => by unfold rot; rw [if_pos e]⟩
  · exact .inr (.inl ⟨e, fun p => by unfold rot; rw [if_neg (by omega), if_pos e]⟩)
  · exact .inr (.inr (.inl ⟨e, fun p => by unfold rot; rw [if_neg (by omega), if_neg (by omega), if_pos e]⟩))
  · exact .inr (.inr (.inr ⟨e, fun p => by unfold rot; rw [if_neg (by omega), if_neg (by omega), if_neg (by omega)]⟩))
theorem rot_rot (a b : Int) (p : Int × Int) : rot a (rot b p) = rot (a + b) p := by
  obtain ⟨x, y⟩ := p
  rcases rot4 a with ⟨ha, ea⟩ | ⟨ha, ea⟩ | ⟨ha, ea⟩ | ⟨ha, ea⟩ <;> rcases rot4 b with ⟨hb, eb⟩ | ⟨hb, eb⟩ | ⟨hb, eb⟩ | ⟨hb, eb⟩ <;>
    rcases rot4 (a + b) with ⟨hc, ec⟩ | ⟨hc, ec⟩ | ⟨hc, ec⟩ | ⟨hc, ec⟩ <;> first | (exfalso; omega) | (rw [ea, eb, ec] <;> first | done | (refine Prod.ext ?_ ?_ <;> dsimp only <;> omega))
theorem rot_add (h : Int) (p q : Int × Int) : rot h (p.1 + q.1, p.2 + q.2) = ((rot h p).1 + (rot h q).1, (rot h p).2 + (rot h q).2) := by
  rcases rot4 h with ⟨ha, ea⟩ | ⟨ha, ea⟩ | ⟨ha, ea⟩ | ⟨ha, ea⟩ <;> rw [ea, ea, ea] <;> simp <;> omega
theorem mv_mv (a b c : Plc) : mv (mv a b) c = mv a (mv b c) := by
  have e1 : rot (mv a b).2.2 (c.1, c.2.1) = rot a.2.2 (rot b.2.2 (c.1, c.2.1)) := by
    rw [rot_rot]
    show rot ((a.2.2 + b.2.2) % 4) _ = _
    rw [rot_mod]
  have e2 := rot_add a.2.2 (b.1, b.2.1) (rot b.2.2 (c.1, c.2.1))
  show ((mv a b).1 + (rot (mv a b).2.2 (c.1, c.2.1)).1, (mv a b).2.1 + (rot (mv a b).2.2 (c.1, c.2.1)).2, ((mv a b).2.2 + c.2.2) % 4) =
    (a.1 + (rot a.2.2 (b.1 + (rot b.2.2 (c.1, c.2.1)).1, b.2.1 + (rot b.2.2 (c.1, c.2.1)).2)).1, a.2.1 + (rot a.2.2 (b.1 + (rot b.2.2 (c.1, c.2.1)).1, b.2.1 + (rot b.2.2 (c.1, c.2.1)).2)).2, (a.2.2 + (b.2.2 + c.2.2) % 4) % 4)
  rw [e1, e2]
  refine Prod.ext ?_ (Prod.ext ?_ ?_)
  · show a.1 + (rot a.2.2 (b.1, b.2.1)).1 + _ = a.1 + ((rot a.2.2 (b.1, b.2.1)).1 + _)
    omega
  · show a.2.1 + (rot a.2.2 (b.1, b.2.1)).2 + _ = a.2.1 + ((rot a.2.2 (b.1, b.2.1)).2 + _)
    omega
  · show ((a.2.2 + b.2.2) % 4 + c.2.2) % 4 = (a.2.2 + (b.2.2 + c.2.2) % 4) % 4
    omega
/-- a pen as seen from a place, with what stood ahead of it -/
def comp (a : Plc) (st : List Plc) (out : List Stk) (q : Pen) : Pen := ⟨(mv a q.pl).1, (mv a q.pl).2.1, (mv a q.pl).2.2, st ++ q.st.map (mv a), out ++ q.out.map (sh a)⟩
theorem comp_step (E : Pth) (a : Plc) (st : List Plc) (out : List Stk) (q : Pen) (s : Sy) (h : s = .c → q.st ≠ []) : pstepE E (comp a st out q) s = comp a st out (pstepE E q s) := by
  cases s with
  | o =>
    show Pen.mk _ _ _ _ _ = Pen.mk _ _ _ _ _
    congr 1
    show (st ++ q.st.map (mv a)) ++ [_] = st ++ (q.st ++ [_]).map (mv a)
    rw [List.map_append, List.append_assoc]
    rfl
  | c =>
    have hne := h rfl
    obtain ⟨t, ht⟩ : ∃ t, q.st.getLast? = some t := ⟨_, List.getLast?_eq_getLast hne⟩
    obtain ⟨tx, ty, th⟩ := t
    have e1 : pstepE E q .c = { q with x := tx, y := ty, h := th, st := q.st.dropLast } := by
      show (match q.st.getLast? with
        | some (a, b, c) => { q with x := a, y := b, h := c, st := q.st.dropLast }
        | none => q) = _
      rw [ht]
    have h2 : (comp a st out q).st.getLast? = some (mv a (tx, ty, th)) := by
      show (st ++ q.st.map (mv a)).getLast? = _
      rw [List.getLast?_append, List.getLast?_map, ht]
      rfl
    have e2 : pstepE E (comp a st out q) .c = { comp a st out q with x := (mv a (tx, ty, th)).1, y := (mv a (tx, ty, th)).2.1, h := (mv a (tx, ty, th)).2.2, st := (comp a st out q).st.dropLast } := by
      show (match (comp a st out q).st.getLast? with
        | some (a', b, c) => { comp a st out q with x := a', y := b, h := c, st := (comp a st out q).st.dropLast }
        | none => comp a st out q) = _
      rw [h2]
    rw [e1, e2]
    show Pen.mk _ _ _ _ _ = Pen.mk _ _ _ _ _
    congr 1
    show (st ++ q.st.map (mv a)).dropLast = st ++ q.st.dropLast.map (mv a)
    rw [List.dropLast_append_of_ne_nil (by simpa using hne), List.map_dropLast]
  | p =>
    show Pen.mk _ _ _ _ _ = Pen.mk _ _ _ _ _
    congr 1
    show ((a.2.2 + q.h) % 4 + 1) % 4 = (a.2.2 + (q.h + 1) % 4) % 4
    omega
  | m =>
    show Pen.mk _ _ _ _ _ = Pen.mk _ _ _ _ _
    congr 1
    show ((a.2.2 + q.h) % 4 + 3) % 4 = (a.2.2 + (q.h + 3) % 4) % 4
    omega
  | l k =>
    have e : mv (comp a st out q).pl (E k) = mv a (mv q.pl (E k)) := mv_mv a q.pl (E k)
    show Pen.mk _ _ _ _ _ = Pen.mk _ _ _ _ _
    rw [e]
    congr 1
    show (out ++ q.out.map (sh a)) ++ [_] = out ++ (q.out ++ [_]).map (sh a)
    rw [List.map_append, List.append_assoc]
    rfl
theorem st_step (E : Pth) (q : Pen) (s : Sy) {d : Nat} (h : nest [s] q.st.length = some d) : (pstepE E q s).st.length = d := by
  cases s with
  | o =>
    have h : some (q.st.length + 1) = some d := h
    show (q.st ++ [_]).length = d
    rw [List.length_append]
    exact Option.some.inj h
  | c =>
    cases hs : q.st.getLast? with
    | none =>
      rw [List.getLast?_eq_none_iff] at hs
      rw [hs] at h
      cases h
    | some t =>
      obtain ⟨a, b, c⟩ := t
      have e2 : pstepE E q .c = { q with x := a, y := b, h := c, st := q.st.dropLast } := by
        show (match q.st.getLast? with
          | some (a, b, c) => { q with x := a, y := b, h := c, st := q.st.dropLast }
          | none => q) = _
        rw [hs]
      rw [e2]
      show q.st.dropLast.length = d
      have hne : 1 ≤ q.st.length := List.length_pos_iff.mpr fun z => by rw [z] at hs; cases hs
      obtain ⟨e, he⟩ : ∃ e, q.st.length = e + 1 := ⟨_, (Nat.sub_add_cancel hne).symm⟩
      rw [he] at h
      have h : some e = some d := h
      rw [List.length_dropLast, he]
      have := Option.some.inj h
      omega
  | p => exact Option.some.inj h
  | m => exact Option.some.inj h
  | l k => exact Option.some.inj h
theorem nest_cons (s : Sy) (w : List Sy) (d : Nat) : nest (s :: w) d = (nest [s] d).bind (nest w) := nest_app [s] w d
theorem st_run (E : Pth) : ∀ (w : List Sy) (q : Pen) {d : Nat}, nest w q.st.length = some d → (penF E q w).st.length = d
  | [], q, d, h => Option.some.inj h
  | s :: w, q, d, h => by
    rw [nest_cons] at h
    cases h1 : nest [s] q.st.length with
    | none => rw [h1] at h; cases h
    | some e =>
      rw [h1] at h
      have e1 := st_step E q s h1
      exact st_run E w (pstepE E q s) (by rw [e1]; exact h)
theorem comp_run (E : Pth) (a : Plc) (st : List Plc) (out : List Stk) : ∀ (w : List Sy) (q : Pen), nest w q.st.length ≠ none → penF E (comp a st out q) w = comp a st out (penF E q w)
  | [], q, _ => rfl
  | s :: w, q, h => by
    rw [nest_cons] at h
    cases h1 : nest [s] q.st.length with
    | none => rw [h1] at h; exact absurd rfl h
    | some e =>
      rw [h1] at h
      have e1 := st_step E q s h1
      rw [penF_cons, penF_cons, comp_step E a st out q s, comp_run E a st out w (pstepE E q s) (by rw [e1]; exact h)]
      rintro rfl z
      rw [z] at h1
      cases h1
/-- headings are 0 to 3 -/
structure HOk (p : Pen) : Prop where
  h : 0 ≤ p.h ∧ p.h < 4
  st : ∀ q ∈ p.st, 0 ≤ q.2.2 ∧ q.2.2 < 4
  out : ∀ q ∈ p.out, 0 ≤ q.2.2.1 ∧ q.2.2.1 < 4
theorem hok_org : HOk org := ⟨⟨by decide, by decide⟩, (fun q h => nomatch h), (fun q h => nomatch h)⟩
theorem hok_step {E : Pth} {p : Pen} (k : HOk p) (s : Sy) : HOk (pstepE E p s) := by
  cases s with
  | o =>
    refine ⟨k.h, fun q hq => ?_, k.out⟩
    rcases List.mem_append.mp (show q ∈ p.st ++ [_] from hq) with h | h
    · exact k.st q h
    · rw [List.mem_singleton.mp h]; exact k.h
  | c =>
    cases hs : p.st.getLast? with
    | none =>
      have e2 : pstepE E p .c = p := by
        show (match p.st.getLast? with
          | some (a, b, c) => { p with x := a, y := b, h := c, st := p.st.dropLast }
          | none => p) = _
        rw [hs]
      rw [e2]
      exact k
    | some t =>
      obtain ⟨a, b, c⟩ := t
      have e2 : pstepE E p .c = { p with x := a, y := b, h := c, st := p.st.dropLast } := by
        show (match p.st.getLast? with
          | some (a, b, c) => { p with x := a, y := b, h := c, st := p.st.dropLast }
          | none => p) = _
        rw [hs]
      rw [e2]
      exact ⟨k.st _ (List.mem_of_getLast? hs), fun q hq => k.st q (List.dropLast_subset _ hq), k.out⟩
  | p => exact ⟨⟨by show 0 ≤ (p.h + 1) % 4; omega, by show (p.h + 1) % 4 < 4; omega⟩, k.st, k.out⟩
  | m => exact ⟨⟨by show 0 ≤ (p.h + 3) % 4; omega, by show (p.h + 3) % 4 < 4; omega⟩, k.st, k.out⟩
  | l j =>
    refine ⟨⟨by show 0 ≤ (p.h + (E j).2.2) % 4; omega, by show (p.h + (E j).2.2) % 4 < 4; omega⟩, k.st, fun q hq => ?_⟩
    rcases List.mem_append.mp (show q ∈ p.out ++ [_] from hq) with h | h
    · exact k.out q h
    · rw [List.mem_singleton.mp h]; exact k.h
theorem hok_run {E : Pth} : ∀ (w : List Sy) {p : Pen}, HOk p → HOk (penF E p w)
  | [], p, k => k
  | s :: w, p, k => hok_run w (hok_step k s)
theorem pen_ext {p q : Pen} (h : p.pl = q.pl) (s : p.st = q.st) (o : p.out = q.out) : p = q := by
  obtain ⟨x, y, h1, st, out⟩ := p
  obtain ⟨x', y', h', st', out'⟩ := q
  cases h
  cases s
  cases o
  rfl
theorem comp_org {p : Pen} (k : HOk p) : comp p.pl p.st p.out org = p := by
  have e : mv p.pl org.pl = p.pl := by
    have e0 : rot p.h (0, 0) = (0, 0) := by rcases rot4 p.h with ⟨_, e⟩ | ⟨_, e⟩ | ⟨_, e⟩ | ⟨_, e⟩ <;> rw [e] <;> rfl
    refine Prod.ext ?_ (Prod.ext ?_ ?_)
    · show p.x + (rot p.h (0, 0)).1 = p.x
      rw [e0]; omega
    · show p.y + (rot p.h (0, 0)).2 = p.y
      rw [e0]; omega
    · show (p.h + 0) % 4 = p.h
      have := k.h
      omega
  refine pen_ext ?_ ?_ ?_
  · exact e
  · exact List.append_nil _
  · exact List.append_nil _
/-- a whole word from wherever the pen stands -/
theorem path_run (E : Pth) {w : List Sy} (hw : nest w 0 = some 0) {p : Pen} (k : HOk p) : (penF E p w).pl = mv p.pl (penE E w).pl ∧ (penF E p w).st = p.st ∧ (penF E p w).out = p.out ++ (penE E w).out.map (sh p.pl) := by
  have e : penF E p w = comp p.pl p.st p.out (penE E w) := by
    have h := comp_run E p.pl p.st p.out w org (by show nest w 0 ≠ none; rw [hw]; exact fun z => nomatch z)
    rw [comp_org k] at h
    exact h
  have hst : (penE E w).st = [] := List.eq_nil_of_length_eq_zero (st_run E w org (show nest w 0 = some 0 from hw))
  rw [e]
  refine ⟨rfl, ?_, rfl⟩
  show p.st ++ (penE E w).st.map (mv p.pl) = p.st
  rw [hst]
  exact List.append_nil _
/-- what a stroke of the coarser path is drawn as -/
def fine (E : Pth) (ws : List (List Sy)) (s : Stk) : List Stk := (penE E (ws.getD s.2.2.2 [])).out.map (sh (s.1, s.2.1, s.2.2.1))
theorem grow_pen {ws : List (List Sy)} {E E' : Pth} : ∀ (w : List Sy), (∀ k, Sy.l k ∈ w → nest (ws.getD k []) 0 = some 0 ∧ E' k = (penE E (ws.getD k [])).pl) → ∀ (p p' : Pen), p.pl = p'.pl → p.st = p'.st → HOk p → p.out = p'.out.flatMap (fine E ws) →
    (penF E p (grow ws w)).pl = (penF E' p' w).pl ∧ (penF E p (grow ws w)).st = (penF E' p' w).st ∧ (penF E p (grow ws w)).out = (penF E' p' w).out.flatMap (fine E ws)
  | [], _, p, p', h1, h2, _, h4 => ⟨h1, h2, h4⟩
  | s :: w, hw, p, p', h1, h2, hk, h4 => by
    have hw' : ∀ k, Sy.l k ∈ w → nest (ws.getD k []) 0 = some 0 ∧ E' k = (penE E (ws.getD k [])).pl := fun k hk => hw k (List.mem_cons_of_mem _ hk)
    rw [show grow ws (s :: w) = img ws s ++ grow ws w from rfl, penF_app, penF_cons]
    have step : ∀ q q' : Pen, q.pl = q'.pl → q.st = q'.st → HOk q → q.out = q'.out.flatMap (fine E ws) → _ := fun q q' a b c d => grow_pen w hw' q q' a b c d
    have hxy : p.x = p'.x ∧ p.y = p'.y ∧ p.h = p'.h := ⟨congrArg (·.1) h1, congrArg (·.2.1) h1, congrArg (·.2.2) h1⟩
    cases s with
    | l k =>
      obtain ⟨hn, he⟩ := hw k List.mem_cons_self
      obtain ⟨r1, r2, r3⟩ := path_run E hn hk
      refine step _ _ ?_ (r2.trans h2) (hok_run _ hk) ?_
      · show (penF E p (ws.getD k [])).pl = mv p'.pl (E' k)
        rw [r1, h1, he]
      · show (penF E p (ws.getD k [])).out = (p'.out ++ [(p'.x, p'.y, p'.h, k)]).flatMap (fine E ws)
        rw [r3, h4, List.flatMap_append, h1]
        simp only [List.flatMap_cons, List.flatMap_nil, List.append_nil]
        rfl
    | o =>
      refine step _ _ h1 ?_ (hok_step (E := E) hk .o) h4
      show p.st ++ [(p.x, p.y, p.h)] = p'.st ++ [(p'.x, p'.y, p'.h)]
      rw [h2, hxy.1, hxy.2.1, hxy.2.2]
    | c =>
      show _
      have e : ∀ (F : Pth) (q : Pen), pstepE F q .c = match q.st.getLast? with
        | some (a, b, c) => { q with x := a, y := b, h := c, st := q.st.dropLast }
        | none => q := fun _ _ => rfl
      refine step (pstepE E p .c) (pstepE E' p' .c) ?_ ?_ (hok_step (E := E) hk .c) ?_ <;> rw [e, e, h2] <;> cases p'.st.getLast? <;> first | exact h1 | exact h2 | exact h4 | rfl
    | p =>
      refine step _ _ ?_ h2 (hok_step (E := E) hk .p) h4
      show (p.x, p.y, (p.h + 1) % 4) = (p'.x, p'.y, (p'.h + 1) % 4)
      rw [hxy.1, hxy.2.1, hxy.2.2]
    | m =>
      refine step _ _ ?_ h2 (hok_step (E := E) hk .m) h4
      show (p.x, p.y, (p.h + 3) % 4) = (p'.x, p'.y, (p'.h + 3) % 4)
      rw [hxy.1, hxy.2.1, hxy.2.2]
theorem dir_rot {h : Int} (h0 : 0 ≤ h) (h4 : h < 4) : dir h = rot h (1, 0) := by
  have e : h = 0 ∨ h = 1 ∨ h = 2 ∨ h = 3 := by omega
  rcases e with rfl | rfl | rfl | rfl <;> rfl
/-- the pen of strokes is the pen along paths of one step -/
theorem pstep_one {p : Pen} (k : HOk p) (s : Sy) : pstepE one p s = pstep p s := by
  cases s with
  | l j =>
    show Pen.mk _ _ _ _ _ = Pen.mk _ _ _ _ _
    rw [dir_rot k.h.1 k.h.2]
    congr 1
    show (p.h + 0) % 4 = p.h
    have := k.h
    omega
  | o => rfl
  | c => rfl
  | p => rfl
  | m => rfl
theorem pen_one' : ∀ (w : List Sy) {p : Pen}, HOk p → penF one p w = w.foldl pstep p
  | [], p, _ => rfl
  | s :: w, p, k => by
    rw [penF_cons, pen_one' w (hok_step k s), pstep_one k]
    rfl
theorem pen_one (w : List Sy) : penE one w = pen w := pen_one' w hok_org
theorem hok_pen (w : List Sy) : HOk (pen w) := by
  rw [← pen_one]
  exact hok_run w hok_org
/-! ### even books -/
def scl (u v : Int) (q : Plc) : Plc := (u * q.1 - v * q.2.1, u * q.2.1 + v * q.1, q.2.2)
def sclS (u v : Int) (s : Stk) : Stk := (u * s.1 - v * s.2.1, u * s.2.1 + v * s.1, s.2.2.1, s.2.2.2)
theorem mv_scl (u v : Int) (a : Plc) : mv (scl u v a) (u, v, 0) = scl u v (mv a (1, 0, 0)) := by
  obtain ⟨x, y, h⟩ := a
  show (u * x - v * y + (rot h (u, v)).1, u * y + v * x + (rot h (u, v)).2, (h + 0) % 4) = (u * (x + (rot h (1, 0)).1) - v * (y + (rot h (1, 0)).2), u * (y + (rot h (1, 0)).2) + v * (x + (rot h (1, 0)).1), (h + 0) % 4)
  rcases rot4 h with ⟨_, e⟩ | ⟨_, e⟩ | ⟨_, e⟩ | ⟨_, e⟩ <;> rw [e, e] <;> refine Prod.ext ?_ (Prod.ext ?_ rfl) <;> simp only [Int.mul_add] <;> omega
def sclP (u v : Int) (p : Pen) : Pen := ⟨(scl u v p.pl).1, (scl u v p.pl).2.1, p.h, p.st.map (scl u v), p.out.map (sclS u v)⟩
theorem sclP_step (u v : Int) (p : Pen) (s : Sy) : pstepE (fun _ => (u, v, 0)) (sclP u v p) s = sclP u v (pstepE one p s) := by
  cases s with
  | l k =>
    have e : mv (sclP u v p).pl (u, v, 0) = scl u v (mv p.pl (1, 0, 0)) := mv_scl u v p.pl
    show Pen.mk _ _ _ _ _ = Pen.mk _ _ _ _ _
    dsimp only
    rw [e]
    congr 1
    show p.out.map (sclS u v) ++ [_] = (p.out ++ [_]).map (sclS u v)
    rw [List.map_append]
    rfl
  | o =>
    show Pen.mk _ _ _ _ _ = Pen.mk _ _ _ _ _
    congr 1
    show p.st.map (scl u v) ++ [_] = (p.st ++ [_]).map (scl u v)
    rw [List.map_append]
    rfl
  | c =>
    have e : ∀ (F : Pth) (q : Pen), pstepE F q .c = match q.st.getLast? with
      | some (a, b, c) => { q with x := a, y := b, h := c, st := q.st.dropLast }
      | none => q := fun _ _ => rfl
    rw [e, e]
    have h2 : (sclP u v p).st.getLast? = p.st.getLast?.map (scl u v) := List.getLast?_map
    rw [h2]
    cases p.st.getLast? with
    | none => rfl
    | some t =>
      obtain ⟨a, b, c⟩ := t
      show Pen.mk _ _ _ _ _ = Pen.mk _ _ _ _ _
      congr 1
      show (p.st.map (scl u v)).dropLast = p.st.dropLast.map (scl u v)
      rw [List.map_dropLast]
  | p => rfl
  | m => rfl
theorem sclP_run (u v : Int) : ∀ (w : List Sy) (p : Pen), penF (fun _ => (u, v, 0)) (sclP u v p) w = sclP u v (penF one p w)
  | [], p => rfl
  | s :: w, p => by
    rw [penF_cons, penF_cons, sclP_step, sclP_run u v w]
theorem org_scl (u v : Int) : sclP u v org = org := by
  show Pen.mk _ _ _ _ _ = Pen.mk _ _ _ _ _
  congr 1
  · show u * 0 - v * 0 = 0
    omega
  · show u * 0 + v * 0 = 0
    omega
/-- the next age of an even book, stroke by stroke -/
theorem even_next {ws : List (List Sy)} {w : List Sy} {u v : Int} (h : ∀ k, Sy.l k ∈ w → nest (ws.getD k []) 0 = some 0 ∧ (pen (ws.getD k [])).pl = (u, v, 0)) :
    strokes (grow ws w) = (strokes w).flatMap fun s => (strokes (ws.getD s.2.2.2 [])).map (sh (u * s.1 - v * s.2.1, u * s.2.1 + v * s.1, s.2.2.1)) := by
  have g := grow_pen (ws := ws) (E := one) (E' := fun _ => (u, v, 0)) w (fun k hk => ⟨(h k hk).1, by rw [pen_one]; exact (h k hk).2.symm⟩) org org rfl rfl hok_org rfl
  have e1 : (penF one org (grow ws w)).out = strokes (grow ws w) := by
    show (penE one (grow ws w)).out = _
    rw [pen_one]; rfl
  have e2 := sclP_run u v w org
  rw [org_scl] at e2
  have e3 : (penF one org w).out = strokes w := by
    show (penE one w).out = _
    rw [pen_one]; rfl
  rw [e1, e2] at g
  rw [g.2.2]
  show ((penF one org w).out.map (sclS u v)).flatMap (fine one ws) = _
  rw [e3, List.flatMap_map]
  congr 1
  funext s
  show (penE one (ws.getD s.2.2.2 [])).out.map _ = _
  rw [pen_one]
  rfl
end SK
namespace SK
open PySem PySem.Spec PyProof.Rows L2
/-! ### what letters become -/
def imgG (G : Nat → List Sy) : Sy → List Sy
  | .l k => G k
  | s => [s]
def growG (G : Nat → List Sy) (w : List Sy) : List Sy := w.flatMap (imgG G)
theorem growG_app (G : Nat → List Sy) (a b : List Sy) : growG G (a ++ b) = growG G a ++ growG G b := List.flatMap_append
theorem growG_one (G : Nat → List Sy) (s : Sy) : growG G [s] = imgG G s := by simp [growG]
theorem growG_take (G : Nat → List Sy) (w : List Sy) (i : Nat) : (growG G (w.take i)).length ≤ (growG G w).length := by
  have e : growG G w = growG G (w.take i) ++ growG G (w.drop i) := by rw [← growG_app, List.take_append_drop]
  rw [e, List.length_append]
  omega
theorem growG_mem {G : Nat → List Sy} {w : List Sy} {k : Nat} (h : Sy.l k ∈ w) : (G k).length ≤ (growG G w).length := by
  obtain ⟨a, b, rfl⟩ := List.append_of_mem h
  have e : growG G (a ++ .l k :: b) = growG G a ++ (G k ++ growG G b) := by rw [growG_app]; rfl
  rw [e, List.length_append, List.length_append]
  omega
/-- what a letter is after so many ages -/
def gI (ws : List (List Sy)) : Nat → Nat → List Sy
  | 0, k => [.l k]
  | i + 1, k => growG (gI ws i) (ws.getD k [])
theorem growG_zero (ws : List (List Sy)) (w : List Sy) : growG (gI ws 0) w = w := by
  induction w with
  | nil => rfl
  | cons s w ih =>
    have e : imgG (gI ws 0) s = [s] := by cases s <;> rfl
    show imgG (gI ws 0) s ++ growG (gI ws 0) w = s :: w
    rw [e, ih]
    rfl
theorem growG_grow (ws : List (List Sy)) (i : Nat) (w : List Sy) : growG (gI ws (i + 1)) w = growG (gI ws i) (grow ws w) := by
  induction w with
  | nil => rfl
  | cons s w ih =>
    have e : imgG (gI ws (i + 1)) s = growG (gI ws i) (img ws s) := by
      cases s with
      | l k => rfl
      | p => exact (growG_one _ _).symm
      | m => exact (growG_one _ _).symm
      | o => exact (growG_one _ _).symm
      | c => exact (growG_one _ _).symm
    show imgG (gI ws (i + 1)) s ++ growG (gI ws (i + 1)) w = _
    rw [e, ih, show grow ws (s :: w) = img ws s ++ grow ws w from rfl, growG_app]
theorem growG_grown (ws : List (List Sy)) (st : List Sy) : ∀ i m, growG (gI ws i) (grown ws st m) = grown ws st (m + i)
  | 0, m => growG_zero ws _
  | i + 1, m => by
    rw [growG_grow]
    have := growG_grown ws st i (m + 1)
    rw [show m + (i + 1) = m + 1 + i by omega]
    exact this
theorem TupS.dict {H : Hp} {D : Addr} {kvs : List (Key × V)} {o : HO} (h : H D = some (.dK kvs)) : TupS H (upd H D o) := by
  refine ⟨fun b ys e => ?_, fun b ob u e => ?_⟩
  · rw [upd_ne (ne_of e h (by intro z; cases z))]
    exact e
  · rw [upd_ne (ne_of e h (by intro z; cases z))]
    exact e
theorem iV_get {ls : List Nat} {i : Nat} {x : V} (h : (iV ls)[i]? = some x) : ∃ k, ls[i]? = some k ∧ x = V.int (k : Int) := by
  unfold iV at h
  rw [List.getElem?_map] at h
  cases e : ls[i]? with
  | none => rw [e] at h; cases h
  | some k => rw [e] at h; exact ⟨k, rfl, (Option.some.inj h).symm⟩
end SK
namespace SK
open PySem PySem.Spec PyProof.Rows L2
/-! name = {k: v for ..}, the name a local -/
theorem ps_setDc {X : Cx} {i : Nat} {y : Str} {py : Pos} {kx vx tg iter : Expr} {ifs : List Expr} {scope : Scope} {own : List (Str × Nat)} {pos spos : Pos} {wi : TI} {g : TG} {tt : TT} {tk tv : TE} (hc : X.calm = true) (hN : X.N.Nodup) (hy : X.N[i]? = some y) (hyl : X.env.scope.names.lookup y = some .local)
    (hsw : swapsWith (.DictComp kx vx [⟨tg, iter, ifs, 0⟩] scope pos) (some (.Name y py)) spos.line X.env = pure true) (hi : PI X tg iter wi) (ok : BlkOk X.N X.env.scope scope own)
    (hg : ∀ (s : Shared) (H : Hp) (C : Addr) (cl : List (Str × Addr)) (fp : List Addr), PG (X.blk s H scope (compEnvC scope cl C X.env) fp) tg g) (ht : ∀ (s : Shared) (H : Hp) (C : Addr) (cl : List (Str × Addr)) (fp : List Addr), PTs (X.blk s H scope (compEnvC scope cl C X.env) fp) ifs tt)
    (hk : ∀ (s : Shared) (H : Hp) (C : Addr) (cl : List (Str × Addr)) (fp : List Addr), PE (X.blk s H scope (compEnvC scope cl C X.env) fp) kx tk)
    (he : ∀ (s : Shared) (H : Hp) (C : Addr) (cl : List (Str × Addr)) (fp : List Addr), PE (X.blk s H scope (compEnvC scope cl C X.env) fp) vx tv) (hs : ∀ x, foldedSetIterable iter X.env x = pure x := by intro _; rfl) :
    PS X (.Assign [.Name y py] (.DictComp kx vx [⟨tg, iter, ifs, 0⟩] scope pos) spos) (tAsg (tDc wi g tt tk tv (own.map (·.2))) (gName i)) := by
  refine ⟨fun pins s σ H D I h => ?_⟩
  rw [exec_Assign_Name_used _ _ _ _ hsw]
  refine wpAny_bind (wpAny_standAt (wpAny_bind ?_))
  show wpAny _ X.A (do let _ ← comprehension (.DictComp kx vx [⟨tg, iter, ifs, 0⟩] scope pos) scope X.env (firstIterPos [⟨tg, iter, ifs, 0⟩] pos) newDict false (eval iter X.env) (some (assign (.Name y py) X.env))) _ _ s
  have h : tDc wi g tt tk tv (own.map (·.2)) σ H (fun x H1 => gName i x σ H1 D.nx) := h
  refine wpAny_bind (thn (dc_core (Qf := fun _ s' => SP X pins D .next s') hc hN I hi ok hg ht hk he hs h fun L C s' m H' I' q hn f => ?_) fun _ s' hq => wpAny_pure (wpAny_pure hq))
  show wpAny _ _ (assign (.Name y py) X.env (.ref L)) _ _ _
  refine wpAny_assign_Name (store_ok2 (v := V.ref L) I' hN hy (.inl hyl) rfl (fun s2 I2 ⟨a, sb, ha⟩ => ?_) (.inr hyl))
  obtain ⟨f0, f1, f2, f3, f4, f5⟩ := f
  have haC : C ≠ a := by
    rcases ha with z | z
    · rw [z]; exact f1
    · exact fun e => f4 y a z e.symm
  refine ⟨m, hn.sameBut sb haC, fun h3 sb3 => ?_⟩
  exact ⟨_, H', I2.turned (t' := s2.toks) (fun b o hb e => (sb3.2 b hb).trans e) f0 f1 f3 f4 f5, q⟩
theorem sw_trueD {kx vx : Expr} {gs : List Comprehension} {scope : Scope} {pos py : Pos} {y : Str} {l : Nat} {env : Env} (hk : env.scope.kind = .function) (hy : env.scope.names.lookup y = some .local) (hl : (py.line == pos.line) = true)
    (ha : (scope.names.any fun (n, k) => n == y && (k == .local || k == .cell)) = false) : swapsWith (.DictComp kx vx gs scope pos) (some (.Name y py)) l env = pure true := by
  have ky : env.kindOf y = some .local := hy
  have hb : env.blockKind = .function := by unfold Env.blockKind; rw [hk]; rfl
  unfold swapsWith
  simp only [hb, ky, ha, Expr.pos, hl]
  rfl
end SK
namespace SK
open PySem PySem.Spec PyProof.Rows L2
theorem ex_nox {X : Cx} {st : List Stmt} {D : Ends} {σ : L2.St} {H : Hp} (h : ∃ t, PSs X.nox st t ∧ t D σ H) : ∃ t, PSs X st t ∧ t D σ H := let ⟨t, a, b⟩ := h; ⟨t, a.nox, b⟩
/-- a tuple of the module -/
def ModT (K : PySem.W.Frag) (a : Addr) (xs : List V) : Prop := ∃ (o : Obj) (its : Array Value) (n : Nat), K.lookup a = some o ∧ o.cls = .type "tuple" ∧ o.data = .seq its n ∧ its.size ≤ sizeLine ∧ Vals xs its.toList
theorem ModT.sq {K : PySem.W.Frag} {a : Addr} {xs : List V} {H : Hp} (h : ModT K a xs) : SqT K H a xs := .inr h
/-- a new tuple of strokes -/
def NewStrs (ss : List Stk) (H : Hp) (Q : VK) : Prop := ∀ (H' : Hp) (p : Addr) (as : List Addr), Same H H' → H p = none → H' p = some (.tup (as.map V.ref)) → Strs H' as ss → Q (.ref p) H'
/-- a pen that begins there -/
def stt (p : Plc) : Pen := ⟨p.1, p.2.1, p.2.2, [], []⟩
theorem hok_stt {p : Plc} (h : 0 ≤ p.2.2 ∧ p.2.2 < 4) : HOk (stt p) := ⟨h, (fun q h => nomatch h), (fun q h => nomatch h)⟩
theorem len_step (E : Pth) (p : Pen) (s : Sy) : (pstepE E p s).out.length ≤ p.out.length + 1 ∧ (pstepE E p s).st.length ≤ p.st.length + 1 := by
  cases s with
  | l k => exact ⟨by show (p.out ++ [_]).length ≤ _; rw [List.length_append]; exact Nat.le_refl _, Nat.le_succ _⟩
  | o => exact ⟨Nat.le_succ _, by show (p.st ++ [_]).length ≤ _; rw [List.length_append]; exact Nat.le_refl _⟩
  | c =>
    have e : pstepE E p .c = match p.st.getLast? with
      | some (a, b, c) => { p with x := a, y := b, h := c, st := p.st.dropLast }
      | none => p := rfl
    rw [e]
    cases p.st.getLast? with
    | none => exact ⟨Nat.le_succ _, Nat.le_succ _⟩
    | some t => exact ⟨Nat.le_succ _, by show p.st.dropLast.length ≤ _; rw [List.length_dropLast]; omega⟩
  | p => exact ⟨Nat.le_succ _, Nat.le_succ _⟩
  | m => exact ⟨Nat.le_succ _, Nat.le_succ _⟩
theorem len_run (E : Pth) : ∀ (w : List Sy) (p : Pen), (penF E p w).out.length ≤ p.out.length + w.length ∧ (penF E p w).st.length ≤ p.st.length + w.length
  | [], p => ⟨Nat.le_refl _, Nat.le_refl _⟩
  | s :: w, p => by
    have h1 := len_run E w (pstepE E p s)
    have h2 := len_step E p s
    rw [penF_cons, List.length_cons]
    omega
theorem penF_take {E : Pth} {p : Pen} {w : List Sy} {i : Nat} {s : Sy} (h : w[i]? = some s) : penF E p (w.take (i + 1)) = pstepE E (penF E p (w.take i)) s := by rw [take_more h, penF_app]; rfl
/-- a new pair of a list of strokes and the pen's place -/
def NewLaid (p : Pen) (H : Hp) (Q : VK) : Prop := ∀ (H' : Hp) (t la e : Addr) (as : List Addr), Same H H' → H t = none → H' t = some (.tup [.ref la, .ref e]) → H la = none → H' la = some (.lst (as.map V.ref)) → Strs H' as p.out → H' e = some (.tup (plV p.pl)) → Q (.ref t) H'
/-- a table of where paths end -/
def EndsT (K : PySem.W.Frag) (H : Hp) (kvs : List (Key × V)) (E : Pth) (k : Nat) : Prop := ∃ e, valV kvs (.inl (k : Int)) = some (.ref e) ∧ SqT K H e (plV (E k))
theorem EndsT.same {K : PySem.W.Frag} {H H' : Hp} {kvs : List (Key × V)} {E : Pth} {k : Nat} (h : EndsT K H kvs E k) (s : Same H H') : EndsT K H' kvs E k := let ⟨e, a, b⟩ := h; ⟨e, a, sTup s b⟩
def spRotate : Sp := fun vs H Q _ => ∃ x y h : Int, vs = [.int x, .int y, .int h] ∧ 0 ≤ h ∧ h < 4 ∧ New (.tup [.int (rot h (x, y)).1, .int (rot h (x, y)).2]) H Q
def spLay (K : PySem.W.Frag) : Sp := fun vs H Q _ => ∃ (a d pn : Addr) (w : List Sy) (kvs : List (Key × V)) (E : Pth) (p : Plc), vs = [.ref a, .ref d, .ref pn] ∧ WdAt H a w ∧ H d = some (.dK kvs) ∧ (∀ k, Sy.l k ∈ w → EndsT K H kvs E k) ∧ SqT K H pn (plV p) ∧
  0 ≤ p.2.2 ∧ p.2.2 < 4 ∧ nest w 0 ≠ none ∧ w.length ≤ 1000000 ∧ NewLaid (penF E (stt p) w) H Q
section
variable {P : Program} {w : World} {K : PySem.W.Frag} {mg : Str → Option Value} {base : Heap}
theorem ok_rotate {f : Addr} {fd : FuncData} {k : Nat} (F : Fun K "rotate" "rotate" s_rotate f fd) : FnOk P w K mg base CX0 (k + 1) f fd ["x", "y", "quarters"] spRotate := by
  refine F.ok sc_rotate (fun vs H Q E h => ?_) (fun cdv A outer s H vs Q E hr h => ?_)
  · obtain ⟨x, y, h, rfl, _⟩ := h
    rfl
  · obtain ⟨x, y, h, rfl, h0, h4, q⟩ := h
    refine ⟨_, pss_cons (ps_if (pt_cmpR op_eq (pv 2) pe_int (nomark _)) (pss_one (ps_ret (ptupN (pa_cons (pv 0) (pa_cons (pv 1) pa_nil))))) pss_nil)
      (pss_cons (ps_if (pt_cmpR op_eq (pv 2) pe_int (nomark _)) (pss_one (ps_ret (ptupN (pa_cons (pe_un un_neg (pv 1)) (pa_cons (pv 0) pa_nil))))) pss_nil)
      (pss_cons (ps_if (pt_cmpR op_eq (pv 2) pe_int (nomark _)) (pss_one (ps_ret (ptupN (pa_cons (pe_un un_neg (pv 0)) (pa_cons (pe_un un_neg (pv 1)) pa_nil))))) pss_nil)
      (pss_one (ps_ret (ptupN (pa_cons (pv 1) (pa_cons (pe_un un_neg (pv 0)) pa_nil))))))), ?_⟩
    have e : h = 0 ∨ h = 1 ∨ h = 2 ∨ h = 3 := by omega
    rcases e with rfl | rfl | rfl | rfl
    · exact ⟨_, rfl, rfl, _, rfl, itY rfl ⟨_, rfl, _, rfl, szl 2, q⟩⟩
    · exact ⟨_, rfl, rfl, _, rfl, itN (by decide) ⟨_, rfl, rfl, _, rfl, itY rfl ⟨_, rfl, _, rfl, _, rfl, szl 2, q⟩⟩⟩
    · exact ⟨_, rfl, rfl, _, rfl, itN (by decide) ⟨_, rfl, rfl, _, rfl, itN (by decide) ⟨_, rfl, rfl, _, rfl, itY rfl ⟨_, rfl, _, rfl, _, rfl, _, rfl, szl 2, q⟩⟩⟩⟩
    · exact ⟨_, rfl, rfl, _, rfl, itN (by decide) ⟨_, rfl, rfl, _, rfl, itN (by decide) ⟨_, rfl, rfl, _, rfl, itN (by decide) ⟨_, rfl, _, rfl, _, rfl, szl 2, q⟩⟩⟩⟩
theorem ok_lay {f : Addr} {fd : FuncData} {k : Nat} {dflt : Addr} (F : FunD K "lay" "lay" (defArgs s_lay) (defBody s_lay) (defScope s_lay) [.ref dflt] [] f fd) (GR : Got P w K mg base "rotate" k ["x", "y", "quarters"] spRotate) :
    FnOk P w K mg base CX0 (k + 1) f fd ["word", "ends", "pen"] (spLay K) := by
  refine F.ok sc_lay (fun vs H Q E h => ?_) (fun cdv A outer s H vs Q EE hr h => ex_nox ?_)
  · obtain ⟨a, d, pn, w, kvs, E', p, rfl, _⟩ := h
    rfl
  · obtain ⟨a, d, pn, w, kvs, E, p, rfl, hw, hd, hE, hp, p0, p4, hn, hl, q⟩ := h
    have nd := sc_lay.nd
    refine ⟨_, pss_cons (ps_asg (pv 2) (pg_tup (by rfl) (pgs_cons (pg_name (i := 3) nd rfl (.inl rfl)) (pgs_cons (pg_name (i := 4) nd rfl (.inl rfl)) (pgs_cons (pg_name (i := 5) nd rfl (.inl rfl)) pgs_nil)))))
      (pss_cons (ps_set (i := 6) nd rfl (.inl rfl) (plstN pa_nil)) (pss_cons (ps_set (i := 7) nd rfl (.inl rfl) (plstN pa_nil))
      (pss_cons (ps_for PassesOwn.never rfl (pi_tup (pv 0)) (pg_name (i := 8) nd rfl (.inl rfl))
        (pss_one (ps_if (pt_cmpR op_eq (pv 8) pe_str (nomark _)) (pss_one (ps_set (i := 5) nd rfl (.inl rfl) (pmod (padd (pv 5) pe_int) pe_int)))
          (pss_one (ps_if (pt_cmpR op_eq (pv 8) pe_str (nomark _)) (pss_one (ps_set (i := 5) nd rfl (.inl rfl) (pmod (psub (pv 5) pe_int) pe_int)))
            (pss_one (ps_if (pt_cmpR op_eq (pv 8) pe_str (nomark _)) (pss_one (sapp (pv 6) (ptupN (pa_cons (pv 3) (pa_cons (pv 4) (pa_cons (pv 5) pa_nil))))))
              (pss_one (ps_if (pt_cmpR op_eq (pv 8) pe_str (nomark _))
                (pss_one (ps_asg (pe_bm0 PySem.F.plainAttrs_list PySem.F.slot_list_pop PySem.F.type_list_pop mt_pop (pv 6)) (pg_tup (by rfl) (pgs_cons (pg_name (i := 3) nd rfl (.inl rfl)) (pgs_cons (pg_name (i := 4) nd rfl (.inl rfl)) (pgs_cons (pg_name (i := 5) nd rfl (.inl rfl)) pgs_nil))))))
                (pss_cons (sapp (pv 7) (ptupN (pa_cons (pv 3) (pa_cons (pv 4) (pa_cons (pv 5) (pa_cons (pv 8) pa_nil))))))
                (pss_cons (ps_asg (pe_dget (hu_of hr) (pv 1) (pv 8) (fun _ _ => rfl)) (pg_tup (by rfl) (pgs_cons (pg_name (i := 9) nd rfl (.inl rfl)) (pgs_cons (pg_name (i := 10) nd rfl (.inl rfl)) (pgs_cons (pg_name (i := 11) nd rfl (.inl rfl)) pgs_nil)))))
                (pss_cons (ps_asg (pcall GR hr (pa_cons (pv 9) (pa_cons (pv 10) (pa_cons (pv 5) pa_nil)))) (pg_tup (by rfl) (pgs_cons (pg_name (i := 12) nd rfl (.inl rfl)) (pgs_cons (pg_name (i := 13) nd rfl (.inl rfl)) pgs_nil))))
                (pss_cons (ps_aug (i := 3) nd rfl (.inl rfl) (pv 12) ip_add) (pss_cons (ps_aug (i := 4) nd rfl (.inl rfl) (pv 13) ip_add)
                (pss_one (ps_set (i := 5) nd rfl (.inl rfl) (pmod (padd (pv 5) (pv 11)) pe_int)))))))))))))))))
      (pss_one (ps_ret (ptupN (pa_cons (pv 7) (pa_cons (ptupN (pa_cons (pv 3) (pa_cons (pv 4) (pa_cons (pv 5) pa_nil)))) pa_nil)))))))), ?_⟩
    refine ⟨_, rfl, pn, _, rfl, hp, rfl, _, _, rfl, _, _, rfl, _, _, rfl, rfl, ?_⟩
    refine ⟨szl 0, fun H1 sb S1 n1 h1 => ⟨szl 0, fun H2 fa S2 n2 h2 => ?_⟩⟩
    have S03 := S1.trans S2
    have nfa : H fa = none := S1.free n2
    have nfs : fa ≠ sb := (ne_of_none h1 n2).symm
    have hs3 := S2 _ _ h1
    clear S1 S2 n2 h1
    refine ⟨_, rfl, a, rfl, ⟨_, (hw.same S03).sq⟩, for_tup (K := K) (a := a) (xs := wv w) (fun i σ H' => ∃ (y8 y9 y10 y11 y12 y13 : Option V) (as ss : List Addr), σ = [some (.ref a), some (.ref d), some (.ref pn), some (.int (penF E (stt p) (w.take i)).x), some (.int (penF E (stt p) (w.take i)).y), some (.int (penF E (stt p) (w.take i)).h), some (.ref sb), some (.ref fa), y8, y9, y10, y11, y12, y13] ∧
        Same H H' ∧ H' fa = some (.lst (as.map V.ref)) ∧ H' sb = some (.lst (ss.map V.ref)) ∧ Strs H' as (penF E (stt p) (w.take i)).out ∧ Pls H' ss (penF E (stt p) (w.take i)).st)
      ⟨none, none, none, none, none, none, [], [], rfl, S03, h2, hs3, .nil, .nil⟩ (fun i σ H' _ ⟨_, _, _, _, _, _, _, _, _, s, _⟩ => (hw.same s).sq) ?_ ?_⟩
    · rintro i x σ H4 hx ⟨y8, y9, y10, y11, y12, y13, as, ss, rfl, S4, hf, hs, hA, hP⟩
      obtain ⟨s, hsy, rfl⟩ := wv_get hx
      have hi : i < w.length := (List.getElem?_eq_some_iff.mp hsy).1
      have ep := penF_take (E := E) (p := stt p) hsy
      have lt : (w.take i).length ≤ 1000000 := by rw [List.length_take]; omega
      have lA := hA.length
      have lP := hP.length
      have p1 := len_run E (w.take i) (stt p)
      have z1 : (stt p).out.length = 0 := rfl
      have z2 : (stt p).st.length = 0 := rfl
      have hst := nest_take hn (i + 1)
      have hst0 := nest_take hn i
      have nst : nest (w.take i) 0 = some (penF E (stt p) (w.take i)).st.length := by
        cases hz : nest (w.take i) 0 with
        | none => exact absurd hz hst0
        | some dd => rw [st_run E (w.take i) (stt p) (show nest (w.take i) (stt p).st.length = some dd from hz)]
      rw [take_more hsy, nest_app, nst] at hst
      have ph := (hok_run (E := E) (w.take i) (hok_stt (p := p) ⟨p0, p4⟩)).h
      generalize penF E (stt p) (w.take (i + 1)) = pp at ep
      subst ep
      generalize penF E (stt p) (w.take i) = pe at hA hP lA lP p1 nst hst ph
      cases s with
      | p =>
        refine ⟨_, rfl, rfl, _, rfl, itY rfl ⟨_, rfl, _, _, rfl, rfl, _, _, rfl, rfl, (show (0 : Int) < 4 by decide), ?_⟩⟩
        exact ⟨_, y9, y10, y11, y12, y13, as, ss, rfl, S4, hf, hs, hA, hP⟩
      | m =>
        refine ⟨_, rfl, rfl, _, rfl, itN (by decide) ⟨_, rfl, rfl, _, rfl, itY rfl ⟨_, rfl, _, _, rfl, rfl, _, _, rfl, rfl, (show (0 : Int) < 4 by decide), ?_⟩⟩⟩
        refine ⟨some (Sy.v .m), y9, y10, y11, y12, y13, as, ss, ?_, S4, hf, hs, hA, hP⟩
        have e : (pe.h - 1) % 4 = (pe.h + 3) % 4 := by omega
        show [_, _, _, _, _, some (V.int ((pe.h - 1) % 4)), _, _, _, _, _, _, _, _] = _
        rw [e]
        rfl
      | o =>
        refine ⟨_, rfl, rfl, _, rfl, itN (by decide) ⟨_, rfl, rfl, _, rfl, itN (by decide) ⟨_, rfl, rfl, _, rfl, itY rfl ⟨_, rfl, .inl ⟨rfl, _, SqL.of hs⟩, _, rfl, _, rfl, _, rfl, szl 3, fun H5 p5 S5 n5 h5 => ⟨sb, _, _, rfl, rfl, S5 _ _ hs, ?_, ?_⟩⟩⟩⟩⟩
        · rw [List.length_map, sizeLine_eq]; omega
        · have hs5 := S5 _ _ hs
          have T5 : TupS H5 (upd H5 sb (.lst (ss.map V.ref ++ [V.ref p5]))) := TupS.refl.lst hs5
          refine ⟨_, y9, y10, y11, y12, y13, as, ss ++ [p5], rfl, sPut (S4.trans S5) n1, by rw [upd_ne nfs]; exact S5 _ _ hf, by rw [upd_same, List.map_append]; rfl, (hA.keep (.of S5)).keep T5, ?_⟩
          exact Paired.snoc ((hP.keep (.of S5)).keep T5) (T5.1 _ _ h5)
      | c =>
        refine ⟨_, rfl, rfl, _, rfl, itN (by decide) ⟨_, rfl, rfl, _, rfl, itN (by decide) ⟨_, rfl, rfl, _, rfl, itN (by decide) ⟨_, rfl, rfl, _, rfl, itY rfl ?_⟩⟩⟩⟩
        cases hl : pe.st.getLast? with
        | none =>
          rw [List.getLast?_eq_none_iff] at hl
          rw [hl] at hst
          exact absurd rfl hst
        | some t =>
          obtain ⟨tx, ty, th⟩ := t
          obtain ⟨la, g1, g2, g3⟩ := paired_last hP hl
          have e2 : pstepE E pe .c = { pe with x := tx, y := ty, h := th, st := pe.st.dropLast } := by
            show (match pe.st.getLast? with
              | some (a, b, c) => { pe with x := a, y := b, h := c, st := pe.st.dropLast }
              | none => pe) = _
            rw [hl]
          rw [e2]
          have g1' : (ss.map V.ref)[(ss.map V.ref).length - 1]? = some (V.ref la) := by
            rw [← List.getLast?_eq_getElem?, List.getLast?_map, g1]; rfl
          refine ⟨_, rfl, .inl ⟨rfl, _, SqL.of hs⟩, sb, _, _, rfl, rfl, hs, g1', ?_⟩
          have T5 : TupS H4 (upd H4 sb (.lst (ss.map V.ref).dropLast)) := TupS.refl.lst hs
          refine ⟨la, _, rfl, SqT.of (T5.1 _ _ g2), rfl, _, _, rfl, _, _, rfl, _, _, rfl, rfl, ?_⟩
          exact ⟨_, y9, y10, y11, y12, y13, as, ss.dropLast, rfl, sPut S4 n1, by rw [upd_ne nfs]; exact hf, by rw [upd_same, List.map_dropLast], hA.keep T5, Pls.keep T5 g3⟩
      | l kk =>
        refine ⟨_, rfl, rfl, _, rfl, itN (fun z => nomatch z) ⟨_, rfl, rfl, _, rfl, itN (fun z => nomatch z) ⟨_, rfl, rfl, _, rfl, itN (fun z => nomatch z) ⟨_, rfl, rfl, _, rfl, itN (fun z => nomatch z) ?_⟩⟩⟩⟩
        refine ⟨_, rfl, .inl ⟨rfl, _, SqL.of hf⟩, _, rfl, _, rfl, _, rfl, _, rfl, szl 4, fun H5 p5 S5 n5 h5 => ⟨fa, _, _, rfl, rfl, S5 _ _ hf, ?_, ?_⟩⟩
        · rw [List.length_map, sizeLine_eq]; omega
        have hf5 := S5 _ _ hf
        have T6 : TupS H5 (upd H5 fa (.lst (as.map V.ref ++ [V.ref p5]))) := TupS.refl.lst hf5
        have S6 : Same H (upd H5 fa (.lst (as.map V.ref ++ [V.ref p5]))) := sPut (S4.trans S5) nfa
        have hf6 : (upd H5 fa (.lst (as.map V.ref ++ [V.ref p5]))) fa = some (.lst ((as ++ [p5]).map V.ref)) := by rw [upd_same, List.map_append]; rfl
        have hs6 : (upd H5 fa (.lst (as.map V.ref ++ [V.ref p5]))) sb = some (.lst (ss.map V.ref)) := by rw [upd_ne nfs.symm]; exact S5 _ _ hs
        have hA6 : Strs (upd H5 fa (.lst (as.map V.ref ++ [V.ref p5]))) (as ++ [p5]) (pe.out ++ [(pe.x, pe.y, pe.h, kk)]) := Paired.snoc ((hA.keep (.of S5)).keep T6) (T6.1 _ _ h5)
        have hP6 := (hP.keep (.of S5)).keep T6
        generalize upd H5 fa (.lst (as.map V.ref ++ [V.ref p5])) = H6 at S6 hf6 hs6 hA6 hP6
        obtain ⟨te, v1, v2⟩ := (hE kk (List.mem_of_getElem? hsy)).same S6
        refine ⟨_, rfl, _, rfl, d, .ref te, rfl, by rw [← v1]; exact DGet.k (k := Sum.inl (kk : Int)) (S6 _ _ hd), te, _, rfl, v2, rfl, _, _, rfl, _, _, rfl, _, _, rfl, rfl, ?_⟩
        refine ⟨_, rfl, _, rfl, _, rfl, _, _, _, rfl, ph.1, ph.2, fun H7 p7 S7 n7 h7 => ?_⟩
        refine ⟨p7, _, rfl, SqT.of h7, rfl, _, _, rfl, _, _, rfl, rfl, _, rfl, _, rfl, _, _, rfl, rfl, _, rfl, _, rfl, _, _, rfl, rfl, ?_⟩
        refine ⟨_, rfl, _, rfl, _, _, rfl, rfl, _, _, rfl, rfl, (show (0 : Int) < 4 by decide), ?_⟩
        exact ⟨_, _, _, _, _, _, as ++ [p5], ss, rfl, S6.trans S7, S7 _ _ hf6, S7 _ _ hs6, hA6.keep (.of S7), hP6.keep (.of S7)⟩
    · rintro σ H4 ⟨y8, y9, y10, y11, y12, y13, as, ss, rfl, S4, hf, hs, hA, hP⟩
      rw [List.length_map, List.take_length] at hA
      refine ⟨_, rfl, _, rfl, _, rfl, _, rfl, szl 3, fun H5 e5 S5 n5 h5 => ⟨szl 2, fun H6 t6 S6 n6 h6 => ?_⟩⟩
      rw [List.length_map, List.take_length] at h5
      exact q H6 t6 fa e5 as ((S4.trans S5).trans S6) ((S4.trans S5).free n6) h6 nfa (S6 _ _ (S5 _ _ hf)) ((hA.keep (.of S5)).keep (.of S6)) (S6 _ _ h5)
end
end SK
namespace SK
open PySem PySem.Spec PyProof.Rows L2
/-- a list, new: none of the written part either -/
def tLstK (K : PySem.W.Frag) (t : TA) : TE := fun σ H Q => t σ H fun xs H1 => xs.length ≤ sizeLine ∧ ∀ (H' : Hp) (p : Addr), Same H1 H' → H1 p = none → K.lookup p = none → H' p = some (.lst xs) → Q (.ref p) H'
theorem plstK {X : Cx} {es : List Expr} {t : TA} {pos : Pos} (h : PA X es t) : PE X (.List es pos) (tLstK X.K t) := by
  refine ⟨fun pins s σ H Q I hq => ?_⟩
  refine wpAny_List_spliced (thn (h.run pos pins s σ H _ I hq) fun us s1 ⟨xs, H1, I1, r, z, q⟩ => ⟨by rw [← r.length]; exact z, ?_⟩)
  have hf : H1 s1.heap.objs.size = none := I1.hok.fresh (Nat.le_refl _)
  have hk : X.K.lookup s1.heap.objs.size = none := by
    cases e : X.K.lookup s1.heap.objs.size with
    | none => rfl
    | some o => exact absurd (Heap.lt_size (I1.kIn _ _ e)) (Nat.lt_irrefl _)
  refine ⟨.ref s1.heap.objs.size, upd H1 s1.heap.objs.size (.lst xs), I1.laid (t' := s1.toks) (fun b u e => Heap.get?_push_of_some _ e) (Nat.le_refl _) ?_, rfl, q _ _ (same_upd hf) hf hk upd_same⟩
  exact ⟨z, us, 0, r, Heap.get?_push_size _ rfl⟩
def rSlTN (K : PySem.W.Frag) : V → Option Int → Option Int → Hp → VK → Prop := fun x lo hi H Q => ∃ a xs, x = .ref a ∧ SqT K H a xs ∧ ¬ (HT.sIx xs.length 0 lo = 0 ∧ HT.sIx xs.length xs.length hi = xs.length) ∧ New (.tup (cutV xs lo hi)) H Q
theorem sl_tupN {X : Cx} : SlR X (rSlTN X.K) := fun pins s σ H x v vl vu lo hi sl Q I rx hs pl pu ⟨a, xs, h1, h2, h3, h4⟩ => sl_tup pins s σ H x v vl vu lo hi sl Q I rx hs pl pu ⟨a, xs, h1, h2, h3, h4.ok⟩
end SK
namespace SK
open PySem PySem.Spec PyProof.Rows L2
theorem stk_get {H : Hp} {as : List Addr} {ss : List Stk} {i : Nat} {x : V} (h : Strs H as ss) (hx : (as.map V.ref)[i]? = some x) : ∃ a s, x = .ref a ∧ ss[i]? = some s ∧ H a = some (.tup (stV s)) := by
  rw [List.getElem?_map] at hx
  cases e : as[i]? with
  | none => rw [e] at hx; cases hx
  | some a =>
    rw [e] at hx
    have hi : i < ss.length := by
      have := h.length
      have := (List.getElem?_eq_some_iff.mp e).1
      omega
    have hs := List.getElem?_eq_getElem hi
    obtain ⟨a', ha', ht⟩ := paired_get h hs
    rw [e] at ha'
    cases ha'
    exact ⟨a, ss[i], (Option.some.inj hx).symm, hs, ht⟩
theorem strokes_ok {w : List Sy} (hn : nest w 0 ≠ none) : (∀ q ∈ strokes w, 0 ≤ q.2.2.1 ∧ q.2.2.1 < 4) ∧ (strokes w).length ≤ w.length := by
  have PO := penOk_take hn w.length (Nat.le_refl _)
  rw [List.take_length] at PO
  exact ⟨PO.out, PO.len.1⟩
theorem nest_up : ∀ (w : List Sy) (d e k : Nat), nest w d = some e → nest w (d + k) = some (e + k)
  | [], d, e, k, h => by
    have h : some d = some e := h
    cases h
    rfl
  | s :: w, d, e, k, h => by
    cases s with
    | o =>
      have := nest_up w (d + 1) e k h
      rw [show d + 1 + k = d + k + 1 by omega] at this
      exact this
    | c =>
      cases d with
      | zero => cases h
      | succ d =>
        have := nest_up w d e k h
        rw [show d + 1 + k = (d + k) + 1 by omega]
        exact this
    | p => exact nest_up w d e k h
    | m => exact nest_up w d e k h
    | l j => exact nest_up w d e k h
theorem nest_grow {ws : List (List Sy)} {n : Nat} (hg : ∀ w ∈ ws, Good n 40 w) : ∀ {w : List Sy} {d e : Nat}, (∀ k, Sy.l k ∈ w → k < ws.length) → nest w d = some e → nest (grow ws w) d = some e
  | [], d, e, _, h => h
  | s :: w, d, e, hl, h => by
    have hl' : ∀ k, Sy.l k ∈ w → k < ws.length := fun k hk => hl k (List.mem_cons_of_mem _ hk)
    show nest (img ws s ++ grow ws w) d = some e
    rw [nest_app]
    cases s with
    | l j =>
      have hj := hl j List.mem_cons_self
      have ew : ws.getD j [] = ws[j] := by rw [List.getD_eq_getElem?_getD, List.getElem?_eq_getElem hj]; rfl
      have g := (hg _ (List.getElem_mem hj)).nst
      have := nest_up ws[j] 0 0 d g
      rw [Nat.zero_add] at this
      show (nest (ws.getD j []) d).bind (nest (grow ws w)) = some e
      rw [ew, this]
      exact nest_grow hg hl' h
    | o => exact nest_grow hg hl' (show nest w (d + 1) = some e from h)
    | c =>
      cases d with
      | zero => cases h
      | succ d => exact nest_grow hg hl' (show nest w d = some e from h)
    | p => exact nest_grow hg hl' (show nest w d = some e from h)
    | m => exact nest_grow hg hl' (show nest w d = some e from h)
theorem nest_grown {ws : List (List Sy)} {st : List Sy} (g : GoodBook ws st) : ∀ n, nest (grown ws st n) 0 = some 0
  | 0 => g.start.nst
  | n + 1 => nest_grow g.words (grown_lets g n) (nest_grown g n)
theorem nest_grown' {ws : List (List Sy)} {st : List Sy} (g : GoodBook ws st) (n : Nat) : nest (grown ws st n) 0 ≠ none := by
  rw [nest_grown g n]
  exact fun z => nomatch z
/-! alike -/
theorem Alk.flat {H : Hp} {v : V} (h : flatA v = true) : ∀ n, Alk H n v v
  | 0 => ⟨rfl, h⟩
  | n + 1 => .inl ⟨rfl, h⟩
theorem Alk.tup {H : Hp} {n : Nat} {a b : Addr} {xs ys : List V} (ha : Rd H a (.tup xs)) (hb : Rd H b (.tup ys)) (hl : xs.length = ys.length) (hz : xs.length ≤ 10000000) (hi : ∀ (i : Nat) (x y : V), xs[i]? = some x → ys[i]? = some y → Alk H n x y) : Alk H (n + 1) (.ref a) (.ref b) :=
  .inr ⟨a, b, xs, ys, rfl, rfl, .inl ⟨ha, hb⟩, hl, hz, hi⟩
theorem Alk.lst {H : Hp} {n : Nat} {a b : Addr} {xs ys : List V} (ha : H a = some (.lst xs)) (hb : H b = some (.lst ys)) (hl : xs.length = ys.length) (hz : xs.length ≤ 10000000) (hi : ∀ (i : Nat) (x y : V), xs[i]? = some x → ys[i]? = some y → Alk H n x y) : Alk H (n + 1) (.ref a) (.ref b) :=
  .inr ⟨a, b, xs, ys, rfl, rfl, .inr ⟨ha, hb⟩, hl, hz, hi⟩
/-- a tuple of flat things, twice -/
theorem Alk.flats {H : Hp} {n : Nat} {a b : Addr} {xs : List V} (ha : Rd H a (.tup xs)) (hb : Rd H b (.tup xs)) (hz : xs.length ≤ 10000000) (hf : ∀ x ∈ xs, flatA x = true) : Alk H (n + 1) (.ref a) (.ref b) :=
  Alk.tup ha hb rfl hz fun i x y hx hy => by
    rw [hx] at hy
    cases hy
    exact Alk.flat (hf x (List.mem_of_getElem? hx)) n
theorem flat_sy (s : Sy) : flatA s.v = true := by cases s <;> rfl
theorem alk_word {H : Hp} {n : Nat} {a b : Addr} {w : List Sy} (ha : WdAt H a w) (hb : H b = some (.tup (wv w))) (hz : w.length ≤ 10000000) : Alk H (n + 1) (.ref a) (.ref b) := by
  obtain ⟨o, e, _⟩ := ha
  refine Alk.flats (.inr ⟨o, e⟩) (.inl hb) (by rw [List.length_map]; exact hz) fun x hx => ?_
  obtain ⟨s, _, rfl⟩ := List.mem_map.mp hx
  exact flat_sy s
theorem alk_strs {H : Hp} {n : Nat} {a b : Addr} {as bs : List Addr} {ss : List Stk} (ha : H a = some (.tup (as.map V.ref))) (hb : H b = some (.tup (bs.map V.ref))) (hA : Strs H as ss) (hB : Strs H bs ss) (hz : ss.length ≤ 10000000) : Alk H (n + 2) (.ref a) (.ref b) := by
  have la := hA.length
  have lb := hB.length
  refine Alk.tup (.inl ha) (.inl hb) (by rw [List.length_map, List.length_map, la, lb]) (by rw [List.length_map, la]; exact hz) fun i x y hx hy => ?_
  obtain ⟨a1, s1, rfl, e1, t1⟩ := stk_get hA hx
  obtain ⟨b1, s2, rfl, e2, t2⟩ := stk_get hB hy
  rw [e1] at e2
  cases e2
  refine Alk.flats (.inl t1) (.inl t2) (by show 4 ≤ _; decide) fun x hx => ?_
  simp only [stV, List.mem_cons, List.not_mem_nil, or_false] at hx
  rcases hx with rfl | rfl | rfl | rfl <;> rfl
end SK
namespace PySem.W
open PySem PySem.SeqAt PyProof.Rows
section
variable {prog : Program} {w : World} {A : Around} {E : Value → Shared → Prop} {s : Shared}
theorem call_min_two_walkH {x y : Value} {Q : Value → Shared → Prop}
    (h : wpAny (model prog w) A.in1 (pyIter (.ref s.heap.objs.size)) (fun it s₂ => ∃ I fp wr G n P St H bt, it = .ref I ∧ WalksS prog w A.in1 I fp wr G n P St ∧ St 0 s₂ ∧ (∀ b ∈ fp, b < s₂.heap.objs.size) ∧ 0 < n ∧
      (∀ b o, H.get? b = some o → b ∉ wr) ∧ (∀ b o, H.get? b = some o → s₂.heap.get? b = some o) ∧ CmpIn prog w A.in1 .Lt H P bt ∧ ∀ v s', P (argBest bt (n - 1)) v → Moved wr G s₂ s' → Q v s') E
      { s with heap := s.heap.push { cls := .type "tuple", data := .seq #[x, y] } }) :
    wpAny (model prog w) A (call (.builtin "min") [x, y]) Q E s := by
  have hname : (toString "min" ++ toString ".loop" : String) = "min.loop" := by decide
  refine call_function_tree F.kind_min F.plain_min F.entry_min (F.args_min2 _ _) ?_
  show wpAny _ A.in1 (Builtin.Builtins.bindParams "min" ["key", "default"] 0 ⟨[], []⟩ >>= _) _ _ s
  refine wpAny_bind (wpAny_of_eq (show Builtin.Builtins.bindParams "min" ["key", "default"] 0 ⟨[], []⟩ = pure [none, none] from rfl) ?_)
  show wpAny _ A.in1 (newTuple [x, y] >>= _) _ _ s
  refine wpAny_bind (wpAny_newObj_type ?_)
  refine wpAny_bind (wpAny_mono h (fun it s₂ h₂ => ?_) fun _ _ e => e)
  obtain ⟨I, fp, wr, G, n, P, St, H, bt, rfl, W, hst, hfp, hn, hw, hkeep, hcmp, hQ⟩ := h₂
  refine wpAny_bind (wpAny_newObj_type ?_)
  have hSf : s₂.heap.objs.size ∉ fp := fun hm => Nat.lt_irrefl _ (hfp _ hm)
  rw [hname]
  refine wpAny_pure ⟨plainId_quiet F.plain_min_loop _, codeAny_min_loop_firstH W H hw bt hcmp s₂.heap.objs.size hSf (fresh_in hkeep) _ hn (fun b o e => Heap.get?_push_of_some _ (hkeep b o e)) (W.frame 0 s₂ _ s₂.toks hst (Nat.le_refl _) fun b _ o e => Heap.get?_push_of_some _ e) (Heap.get?_push_size _ rfl) fun v s' hP hm => ?_⟩
  exact hQ v s' hP (Moved.drop_new (tk := s₂.toks) hm (Nat.le_refl _))
theorem call_max_two_walkH {x y : Value} {Q : Value → Shared → Prop}
    (h : wpAny (model prog w) A.in1 (pyIter (.ref s.heap.objs.size)) (fun it s₂ => ∃ I fp wr G n P St H bt, it = .ref I ∧ WalksS prog w A.in1 I fp wr G n P St ∧ St 0 s₂ ∧ (∀ b ∈ fp, b < s₂.heap.objs.size) ∧ 0 < n ∧
      (∀ b o, H.get? b = some o → b ∉ wr) ∧ (∀ b o, H.get? b = some o → s₂.heap.get? b = some o) ∧ CmpIn prog w A.in1 .Gt H P bt ∧ ∀ v s', P (argBest bt (n - 1)) v → Moved wr G s₂ s' → Q v s') E
      { s with heap := s.heap.push { cls := .type "tuple", data := .seq #[x, y] } }) :
    wpAny (model prog w) A (call (.builtin "max") [x, y]) Q E s := by
  have hname : (toString "max" ++ toString ".loop" : String) = "max.loop" := by decide
  refine call_function_tree F.kind_max F.plain_max F.entry_max (F.args_max2 _ _) ?_
  show wpAny _ A.in1 (Builtin.Builtins.bindParams "max" ["key", "default"] 0 ⟨[], []⟩ >>= _) _ _ s
  refine wpAny_bind (wpAny_of_eq (show Builtin.Builtins.bindParams "max" ["key", "default"] 0 ⟨[], []⟩ = pure [none, none] from rfl) ?_)
  show wpAny _ A.in1 (newTuple [x, y] >>= _) _ _ s
  refine wpAny_bind (wpAny_newObj_type ?_)
  refine wpAny_bind (wpAny_mono h (fun it s₂ h₂ => ?_) fun _ _ e => e)
  obtain ⟨I, fp, wr, G, n, P, St, H, bt, rfl, W, hst, hfp, hn, hw, hkeep, hcmp, hQ⟩ := h₂
  refine wpAny_bind (wpAny_newObj_type ?_)
  have hSf : s₂.heap.objs.size ∉ fp := fun hm => Nat.lt_irrefl _ (hfp _ hm)
  rw [hname]
  refine wpAny_pure ⟨plainId_quiet F.plain_max_loop _, codeAny_max_loop_firstH W H hw bt hcmp s₂.heap.objs.size hSf (fresh_in hkeep) _ hn (fun b o e => Heap.get?_push_of_some _ (hkeep b o e)) (W.frame 0 s₂ _ s₂.toks hst (Nat.le_refl _) fun b _ o e => Heap.get?_push_of_some _ e) (Heap.get?_push_size _ rfl) fun v s' hP hm => ?_⟩
  exact hQ v s' hP (Moved.drop_new (tk := s₂.toks) hm (Nat.le_refl _))
theorem two_old {s₂ s' : Shared} {a : Addr} {o o1 : Obj} (e : s₂ = { ({ s with heap := s.heap.push o1 } : Shared) with heap := (s.heap.push o1).push o }) (ha : a = (s.heap.push o1).objs.size) (m : Moved [a] (fun a b => b = a) s₂ s') : ∃ h' tk, s' = { s with heap := h', toks := tk } ∧ ∀ b o, s.heap.get? b = some o → h'.get? b = some o := by
  obtain ⟨h', tk, e1, k⟩ := moved_old (s := { s with heap := s.heap.push o1 }) e ha m
  exact ⟨h', tk, e1, fun b o e => k b o (Heap.get?_push_of_some _ e)⟩
theorem min_two_data {x y : Value} {dx dy : PyData} {as bs : List Addr} {Q : Value → Shared → Prop} (hh : A.handled = none) (rx : Reads s.heap x dx as) (ry : Reads s.heap y dy bs) (ha : AlikeAll [dx, dy]) (hu : A.units + 1 + PyData.depthAll [dx, dy] < cLine)
    (h : ∀ h' tk, (∀ b o, s.heap.get? b = some o → h'.get? b = some o) → Q (if dataLt dy dx = true then y else x) { s with heap := h', toks := tk }) :
    wpAny (model prog w) A (call (.builtin "min") [x, y]) Q E s := by
  have k0 : ∀ b o, s.heap.get? b = some o → (s.heap.push { cls := .type "tuple", data := .seq #[x, y] }).get? b = some o := fun b o e => Heap.get?_push_of_some _ e
  have hr : ReadsAll (s.heap.push { cls := .type "tuple", data := .seq #[x, y] }) (#[x, y] : Array Value).toList [dx, dy] (as ++ (bs ++ [])) := .cons (Reads.keeps k0 rx) (.cons (Reads.keeps k0 ry) .nil)
  refine call_min_two_walkH (iter_tupleW (vs := #[x, y]) (A := A.in1) hh ⟨_, Heap.get?_push_size _ rfl, rfl, _, rfl⟩ fun s₂ e W st hfp hw hk => ?_)
  refine ⟨_, _, _, _, _, _, _, _, _, rfl, W, st, hfp, (by show 0 < 2; decide : 0 < (#[x, y] : Array Value).size), hw, hk, cmpIn_lt (A := A.in1) (s := { s with heap := s.heap.push { cls := .type "tuple", data := .seq #[x, y] } }) hr ha (by show A.units + 1 + _ < _; exact hu), fun v s' hP m => ?_⟩
  obtain ⟨h', tk, rfl, hk'⟩ := two_old e rfl m
  have e1 : v = if dataLt dy dx = true then y else x := by
    have hP : (#[x, y] : Array Value)[if dataLt dy dx = true then 1 else 0]? = some v := hP
    by_cases z : dataLt dy dx = true
    · rw [if_pos z] at hP ⊢; exact (Option.some.inj hP).symm
    · rw [if_neg z] at hP ⊢; exact (Option.some.inj hP).symm
  rw [e1]
  exact h h' tk hk'
theorem max_two_data {x y : Value} {dx dy : PyData} {as bs : List Addr} {Q : Value → Shared → Prop} (hh : A.handled = none) (rx : Reads s.heap x dx as) (ry : Reads s.heap y dy bs) (ha : AlikeAll [dx, dy]) (hu : A.units + 1 + PyData.depthAll [dx, dy] < cLine)
    (h : ∀ h' tk, (∀ b o, s.heap.get? b = some o → h'.get? b = some o) → Q (if dataLt dx dy = true then y else x) { s with heap := h', toks := tk }) :
    wpAny (model prog w) A (call (.builtin "max") [x, y]) Q E s := by
  have k0 : ∀ b o, s.heap.get? b = some o → (s.heap.push { cls := .type "tuple", data := .seq #[x, y] }).get? b = some o := fun b o e => Heap.get?_push_of_some _ e
  have hr : ReadsAll (s.heap.push { cls := .type "tuple", data := .seq #[x, y] }) (#[x, y] : Array Value).toList [dx, dy] (as ++ (bs ++ [])) := .cons (Reads.keeps k0 rx) (.cons (Reads.keeps k0 ry) .nil)
  refine call_max_two_walkH (iter_tupleW (vs := #[x, y]) (A := A.in1) hh ⟨_, Heap.get?_push_size _ rfl, rfl, _, rfl⟩ fun s₂ e W st hfp hw hk => ?_)
  refine ⟨_, _, _, _, _, _, _, _, _, rfl, W, st, hfp, (by show 0 < 2; decide : 0 < (#[x, y] : Array Value).size), hw, hk, cmpIn_gt (A := A.in1) (s := { s with heap := s.heap.push { cls := .type "tuple", data := .seq #[x, y] } }) hr ha (by show A.units + 1 + _ < _; exact hu), fun v s' hP m => ?_⟩
  obtain ⟨h', tk, rfl, hk'⟩ := two_old e rfl m
  have e1 : v = if dataLt dx dy = true then y else x := by
    have hP : (#[x, y] : Array Value)[if dataLt dx dy = true then 1 else 0]? = some v := hP
    by_cases z : dataLt dx dy = true
    · rw [if_pos z] at hP ⊢; exact (Option.some.inj hP).symm
    · rw [if_neg z] at hP ⊢; exact (Option.some.inj hP).symm
  rw [e1]
  exact h h' tk hk'
end
end PySem.W
namespace SK
open PySem PySem.Spec PyProof.Rows L2 PySem.W
/-- one pair of numbers ahead of another -/
def ltZ (a b : Int × Int) : Bool := decide (a.1 < b.1 ∨ (a.1 = b.1 ∧ a.2 < b.2))
def pD (a : Int × Int) : PyData := .tuple [.int a.1, .int a.2]
theorem ltZ_data (a b : Int × Int) : dataLt (pD a) (pD b) = ltZ a b := dataLt_ii _ _ _ _
theorem alike_pD (a b : Int × Int) : AlikeAll [pD a, pD b] := by
  refine ⟨fun x hx y hy => ?_, fun x hx => ?_⟩
  · simp only [List.mem_cons, List.not_mem_nil, or_false] at hx hy
    rcases hx with rfl | rfl <;> rcases hy with rfl | rfl <;> rfl
  · simp only [List.mem_cons, List.not_mem_nil, or_false] at hx
    rcases hx with rfl | rfl <;> (intro h; cases h)
def rMinT (K : PySem.W.Frag) : List V → Hp → VK → Prop := fun xs H Q => ∃ (p q : Addr) (a b : Int × Int), xs = [.ref p, .ref q] ∧ SqT K H p [.int a.1, .int a.2] ∧ SqT K H q [.int b.1, .int b.2] ∧ Q (if ltZ b a = true then .ref q else .ref p) H
def rMaxT (K : PySem.W.Frag) : List V → Hp → VK → Prop := fun xs H Q => ∃ (p q : Addr) (a b : Int × Int), xs = [.ref p, .ref q] ∧ SqT K H p [.int a.1, .int a.2] ∧ SqT K H q [.int b.1, .int b.2] ∧ Q (if ltZ a b = true then .ref q else .ref p) H
section
variable {X : Cx}
theorem dp_pair {K : PySem.W.Frag} {H : Hp} {p : Addr} {a : Int × Int} (h : SqT K H p [.int a.1, .int a.2]) : Dp K H (.ref p) (pD a) := .tup h (.cons (.int _) (.cons (.int _) .nil))
theorem depth_pD (a b : Int × Int) : PyData.depthAll [pD a, pD b] ≤ 8 := by
  have e : PyData.depthAll [pD a, pD b] = PyData.depthAll [pD (0, 0), pD (0, 0)] := by
    unfold pD
    simp [PyData.depthAll, PyData.depth]
  rw [e]
  decide
theorem call_minT (hc : X.calm = true) (hu : X.A.units + 64 < cLine) : CallR X (.builtin "min") (rMinT X.K) := by
  intro pins s σ H xs us Q I r h
  obtain ⟨p, q, a, b, rfl, hp, hq, h⟩ := h
  obtain ⟨u, w', rfl, r1, r2⟩ := vals2 r
  obtain rfl : u = Value.ref p := r1
  obtain rfl : w' = Value.ref q := r2
  obtain ⟨as, ra⟩ := Dp.reads I _ _ _ (dp_pair hp) rfl
  obtain ⟨bs, rb⟩ := Dp.reads I _ _ _ (dp_pair hq) rfl
  refine min_two_data (I.ok.hd hc) ra rb (alike_pD _ _) (by have := depth_pD a b; omega) fun h' tk k => ⟨_, H, I.kept k, ?_, h⟩
  rw [ltZ_data]
  by_cases z : ltZ b a = true
  · rw [if_pos z, if_pos z]; rfl
  · rw [if_neg z, if_neg z]; rfl
theorem call_maxT (hc : X.calm = true) (hu : X.A.units + 64 < cLine) : CallR X (.builtin "max") (rMaxT X.K) := by
  intro pins s σ H xs us Q I r h
  obtain ⟨p, q, a, b, rfl, hp, hq, h⟩ := h
  obtain ⟨u, w', rfl, r1, r2⟩ := vals2 r
  obtain rfl : u = Value.ref p := r1
  obtain rfl : w' = Value.ref q := r2
  obtain ⟨as, ra⟩ := Dp.reads I _ _ _ (dp_pair hp) rfl
  obtain ⟨bs, rb⟩ := Dp.reads I _ _ _ (dp_pair hq) rfl
  refine max_two_data (I.ok.hd hc) ra rb (alike_pD _ _) (by have := depth_pD a b; omega) fun h' tk k => ⟨_, H, I.kept k, ?_, h⟩
  rw [ltZ_data]
  by_cases z : ltZ a b = true
  · rw [if_pos z, if_pos z]; rfl
  · rw [if_neg z, if_neg z]; rfl
end
end SK
namespace SK
open PySem PySem.Spec PyProof.Rows L2
/-- where a stroke ends -/
def endS (s : Stk) : Int × Int := (s.1 + (dir s.2.2.1).1, s.2.1 + (dir s.2.2.1).2)
end SK
namespace SK
open PySem PySem.Spec PyProof.Rows L2
abbrev Edge := (Int × Int) × (Int × Int)
def edge (s : Stk) : Edge := if ltZ (s.1 + (dir s.2.2.1).1, s.2.1 + (dir s.2.2.1).2) (s.1, s.2.1) = true then ((s.1 + (dir s.2.2.1).1, s.2.1 + (dir s.2.2.1).2), (s.1, s.2.1)) else ((s.1, s.2.1), (s.1 + (dir s.2.2.1).1, s.2.1 + (dir s.2.2.1).2))
def EdgeAt (H : Hp) (p : Addr) (e : Edge) : Prop := ∃ t1 t2, H p = some (.tup [.ref t1, .ref t2]) ∧ H t1 = some (.tup [.int e.1.1, .int e.1.2]) ∧ H t2 = some (.tup [.int e.2.1, .int e.2.2])
theorem EdgeAt.keep {H H' : Hp} {p : Addr} {e : Edge} (s : TupS H H') (h : EdgeAt H p e) : EdgeAt H' p e := by
  obtain ⟨t1, t2, h0, h1, h2⟩ := h
  exact ⟨t1, t2, s.1 _ _ h0, s.1 _ _ h1, s.1 _ _ h2⟩
theorem dir_ne {h : Int} : (dir h).1 ≠ 0 ∨ (dir h).2 ≠ 0 := by
  unfold dir
  by_cases z : h = 0
  · rw [if_pos z]; exact .inl (by decide)
  · rw [if_neg z]
    by_cases z : h = 1
    · rw [if_pos z]; exact .inr (by decide)
    · rw [if_neg z]
      by_cases z : h = 2
      · rw [if_pos z]; exact .inl (by decide)
      · rw [if_neg z]; exact .inr (by decide)
theorem ltZ_other {a b : Int × Int} (h : a ≠ b) : ltZ b a = !ltZ a b := by
  unfold ltZ
  have h' : a.1 ≠ b.1 ∨ a.2 ≠ b.2 := by
    by_cases z : a.1 = b.1
    · exact .inr (fun y => h (Prod.ext z y))
    · exact .inl z
  rw [← decide_not]
  exact decide_eq_decide.mpr (by omega)
theorem step_ne (s : Stk) : (s.1, s.2.1) ≠ ((s.1 + (dir s.2.2.1).1, s.2.1 + (dir s.2.2.1).2) : Int × Int) := by
  intro z
  injection z with z1 z2
  have := @dir_ne s.2.2.1
  omega
def spEndsOf : Sp := fun vs H Q _ => ∃ (p : Addr) (s : Stk), vs = [.ref p] ∧ H p = some (.tup (stV s)) ∧ 0 ≤ s.2.2.1 ∧ s.2.2.1 < 4 ∧ ∀ (H' : Hp) (r : Addr), Same H H' → H r = none → EdgeAt H' r (edge s) → Q (.ref r) H'
/-- the four steps -/
def StepsAt (K : PySem.W.Frag) (sa : Addr) : Prop := ∃ a0 a1 a2 a3, ModT K sa [.ref a0, .ref a1, .ref a2, .ref a3] ∧ ModT K a0 [.int 1, .int 0] ∧ ModT K a1 [.int 0, .int 1] ∧ ModT K a2 [.int (-1), .int 0] ∧ ModT K a3 [.int 0, .int (-1)]
theorem StepsAt.get {K : PySem.W.Frag} {sa : Addr} {h : Int} (S : StepsAt K sa) (h0 : 0 ≤ h) (h4 : h < 4) : ∃ xs t, ModT K sa xs ∧ atI xs h = some (.ref t) ∧ ModT K t [.int (dir h).1, .int (dir h).2] := by
  obtain ⟨a0, a1, a2, a3, m, m0, m1, m2, m3⟩ := S
  have e : h = 0 ∨ h = 1 ∨ h = 2 ∨ h = 3 := by omega
  rcases e with rfl | rfl | rfl | rfl
  · exact ⟨_, a0, m, rfl, m0⟩
  · exact ⟨_, a1, m, rfl, m1⟩
  · exact ⟨_, a2, m, rfl, m2⟩
  · exact ⟨_, a3, m, rfl, m3⟩
def spEndOf (K : PySem.W.Frag) : Sp := fun vs H Q _ => ∃ (p : Addr) (s : Stk), vs = [.ref p] ∧ SqT K H p (stV s) ∧ 0 ≤ s.2.2.1 ∧ s.2.2.1 < 4 ∧ New (.tup [.int (endS s).1, .int (endS s).2]) H Q
end SK
namespace SK
open PySem PySem.Spec PyProof.Rows L2 PySem.W
/-! ### a dict whose keys are pairs of places -/
def EK (e : Edge) : NestedKey := .tup [.tup [.num e.1.1, .num e.1.2], .tup [.num e.2.1, .num e.2.2]]
theorem EK_inj {a b : Edge} (h : EK a = EK b) : a = b := by
  obtain ⟨⟨a1, a2⟩, ⟨a3, a4⟩⟩ := a
  obtain ⟨⟨b1, b2⟩, ⟨b3, b4⟩⟩ := b
  simp [EK] at h
  obtain ⟨⟨h1, h2⟩, h3, h4⟩ := h
  subst h1 h2 h3 h4
  rfl
abbrev ERow := Edge × Addr × V
def valE (ys : List ERow) (e : Edge) : Option V := (ys.find? fun y => decide (y.1 = e)).map (·.2.2)
def putE (ys : List ERow) (e : Edge) (b : Addr) (v : V) : List ERow := if (valE ys e).isSome then ys.map (fun y => if y.1 = e then (y.1, y.2.1, v) else y) else ys ++ [(e, b, v)]
abbrev EP2 : List ERow → List (NestedKey × Addr × Value) → Prop := Paired fun y x => x.1 = EK y.1 ∧ x.2.1 = y.2.1 ∧ RelV y.2.2 x.2.2
theorem valE_pos {y : ERow} {r : List ERow} {e : Edge} (h : y.1 = e) : valE (y :: r) e = some y.2.2 := by simp [valE, List.find?_cons, h]
theorem valE_neg {y : ERow} {r : List ERow} {e : Edge} (h : ¬ y.1 = e) : valE (y :: r) e = valE r e := by simp [valE, List.find?_cons, h]
theorem EP2.val {ys : List ERow} {xs : List (NestedKey × Addr × Value)} (r : EP2 ys xs) (e : Edge) : RelO (valE ys e) ((atKey xs (EK e)).map (·.2)) := by
  induction r with
  | nil => exact True.intro
  | @cons p q ps qs h t ih =>
    obtain ⟨h1, _, h2⟩ := h
    by_cases z : p.1 = e
    · have e' : q.1 = EK e := by rw [h1, z]
      have b : atKey (q :: qs) (EK e) = some q.2 := by simp [atKey, List.find?_cons, e']
      rw [valE_pos z, b]; exact h2
    · have e' : ¬ q.1 = EK e := fun y => z (EK_inj (h1.symm.trans y))
      have b : atKey (q :: qs) (EK e) = atKey qs (EK e) := by simp [atKey, List.find?_cons, e']
      rw [valE_neg z, b]; exact ih
theorem EP2.put {ys : List ERow} {xs : List (NestedKey × Addr × Value)} (r : EP2 ys xs) (e : Edge) (b : Addr) {v : V} {u : Value} (rv : RelV v u) : EP2 (putE ys e b v) (storedH xs (EK e) b u) := by
  have q := (r.val e).isSome_eq
  rw [Option.isSome_map] at q
  unfold putE storedH
  rw [q]
  by_cases z : (atKey xs (EK e)).isSome = true
  · rw [if_pos z, if_pos z]
    clear q z
    induction r with
    | nil => exact .nil
    | @cons p q ps qs h t ih =>
      rw [List.map_cons, List.map_cons]
      refine .cons ?_ ih
      obtain ⟨h1, h2, h3⟩ := h
      unfold putAt
      by_cases z : p.1 = e
      · rw [if_pos z, if_pos (by rw [h1, z])]; exact ⟨h1, h2, rv⟩
      · rw [if_neg z, if_neg (fun y => z (EK_inj (h1.symm.trans y)))]; exact ⟨h1, h2, h3⟩
  · rw [if_neg z, if_neg z]
    exact Paired.snoc r ⟨rfl, rfl, rv⟩
theorem putE_len (ys : List ERow) (e : Edge) (b : Addr) (v : V) : (putE ys e b v).length ≤ ys.length + 1 := by
  unfold putE
  split
  · rw [List.length_map]; omega
  · rw [List.length_append, List.length_singleton]; exact Nat.le_refl _
theorem valE_map (e f : Edge) (v : V) : ∀ ys : List ERow, valE (ys.map fun y => if y.1 = e then (y.1, y.2.1, v) else y) f = (valE ys f).map fun x => if f = e then v else x
  | [] => rfl
  | y :: r => by
    rw [List.map_cons]
    by_cases h : y.1 = f
    · by_cases g : y.1 = e
      · rw [if_pos g, valE_pos (y := (y.1, y.2.1, v)) h, valE_pos h]
        show some v = some (if f = e then v else _)
        rw [if_pos (h.symm.trans g)]
      · rw [if_neg g, valE_pos h, valE_pos h]
        show some y.2.2 = some (if f = e then v else _)
        rw [if_neg (fun z => g (h.trans z))]
    · have : valE ((if y.1 = e then (y.1, y.2.1, v) else y) :: (r.map fun y => if y.1 = e then (y.1, y.2.1, v) else y)) f = valE (r.map fun y => if y.1 = e then (y.1, y.2.1, v) else y) f := by
        by_cases g : y.1 = e
        · rw [if_pos g]; exact valE_neg (y := (y.1, y.2.1, v)) h
        · rw [if_neg g]; exact valE_neg h
      rw [this, valE_neg h]
      exact valE_map e f v r
theorem valE_snoc (e f : Edge) (b : Addr) (v : V) : ∀ ys : List ERow, valE ys e = none → valE (ys ++ [(e, b, v)]) f = if f = e then some v else valE ys f
  | [], _ => by
    by_cases h : f = e
    · rw [if_pos h]; exact valE_pos (y := (e, b, v)) h.symm
    · rw [if_neg h]; exact valE_neg (y := (e, b, v)) (fun z => h z.symm)
  | y :: r, n => by
    have ny : ¬ y.1 = e := fun z => by rw [valE_pos z] at n; cases n
    rw [valE_neg ny] at n
    rw [List.cons_append]
    by_cases h : y.1 = f
    · rw [valE_pos h, valE_pos h, if_neg (fun z => ny (h.trans z))]
    · rw [valE_neg h, valE_neg h]; exact valE_snoc e f b v r n
theorem valE_put (ys : List ERow) (e f : Edge) (b : Addr) (v : V) : valE (putE ys e b v) f = if f = e then some v else valE ys f := by
  unfold putE
  cases h : valE ys e with
  | none => exact valE_snoc e f b v ys h
  | some x =>
    rw [if_pos (show (some x).isSome = true from rfl), valE_map]
    by_cases z : f = e
    · subst z; rw [h, if_pos rfl]; show some (if f = f then v else x) = _; rw [if_pos rfl]
    · rw [if_neg z]
      cases valE ys f with
      | none => rfl
      | some u => show some (if f = e then v else u) = some u; rw [if_neg z]
theorem putE_mem {ys : List ERow} {e : Edge} {b : Addr} {v : V} {y : ERow} (h : y ∈ putE ys e b v) : (∃ z ∈ ys, y.1 = z.1 ∧ y.2.1 = z.2.1) ∨ (y.1 = e ∧ y.2.1 = b) := by
  unfold putE at h
  split at h
  · obtain ⟨z, hz, rfl⟩ := List.mem_map.mp h
    refine .inl ⟨z, hz, ?_⟩
    by_cases g : z.1 = e
    · rw [if_pos g]; exact ⟨rfl, rfl⟩
    · rw [if_neg g]; exact ⟨rfl, rfl⟩
  · rcases List.mem_append.mp h with h | h
    · exact .inl ⟨y, h, rfl, rfl⟩
    · rw [List.mem_singleton.mp h]; exact .inr ⟨rfl, rfl⟩
def ERaw (P : Program) (w : World) (h : Heap) (d : Addr) (xs : List (NestedKey × Addr × Value)) : Prop := ∃ o es ep, h.get? d = some o ∧ o.ExactDict ∧ o.data = .dict es ep ∧ es.toList = xs.map (entryOfKey (nestedKind P w)) ∧ (xs.map (·.1)).Nodup
def edF (P : Program) (w : World) (d : Addr) (ys : List ERow) (h : Heap) : Prop := ys.length ≤ sizeLine ∧ (d == sysModules) = false ∧ ∃ xs : List (NestedKey × Addr × Value), EP2 ys xs ∧ ERaw P w h d xs
def edO (P : Program) (w : World) (d : Addr) (ys : List ERow) : HO := .ext (edF P w d ys)
theorem edO_ok {P : Program} {w : World} {H : Hp} {h : Heap} {d : Addr} {ys : List ERow} (x : edF P w d ys h) : ObjOk P w H h d (edO P w d ys) := by
  refine ⟨x, ?_, fun h1 h2 q k => ?_⟩
  · obtain ⟨_, _, _, _, o, _, _, ho, _⟩ := x
    exact ⟨o, ho⟩
  · obtain ⟨z, n, xs, r, o, es, ep, ho, h3⟩ := q
    exact ⟨z, n, xs, r, o, es, ep, k _ ho, h3⟩
def EDict (P : Program) (w : World) (H : Hp) (d : Addr) (ys : List ERow) : Prop := H d = some (edO P w d ys) ∧ ∀ y ∈ ys, EdgeAt H y.2.1 y.1
theorem EDict.keep {P : Program} {w : World} {H H' : Hp} {d : Addr} {ys : List ERow} (s : Same H H') (h : EDict P w H d ys) : EDict P w H' d ys := ⟨s _ _ h.1, fun y hy => (h.2 y hy).keep (.of s)⟩
theorem TupS.ext {H : Hp} {D : Addr} {φ : Heap → Prop} {o : HO} (h : H D = some (.ext φ)) : TupS H (upd H D o) := by
  refine ⟨fun b ys e => ?_, fun b ob u e => ?_⟩
  · rw [upd_ne (ne_of e h (by intro z; cases z))]
    exact e
  · rw [upd_ne (ne_of e h (by intro z; cases z))]
    exact e
theorem EDict.put {P : Program} {w : World} {H : Hp} {d b : Addr} {ys : List ERow} {e : Edge} (h : EDict P w H d ys) (hb : EdgeAt H b e) (v : V) : EDict P w (upd H d (edO P w d (putE ys e b v))) d (putE ys e b v) := by
  refine ⟨upd_same, fun y hy => ?_⟩
  have s : TupS H (upd H d (edO P w d (putE ys e b v))) := TupS.ext h.1
  rcases putE_mem hy with ⟨z, hz, e1, e2⟩ | ⟨e1, e2⟩
  · rw [e1, e2]; exact (h.2 z hz).keep s
  · rw [e1, e2]; exact hb.keep s
section
variable {X : Cx} {pins : List (Addr × Obj)} {σ : L2.St} {H : Hp} {s : Shared} {a b : Addr} {ys : List ERow} {e : Edge}
theorem nest_pair (I : Inv X pins σ H s) {t : Addr} {i j : Int} (h : H t = some (.tup [.int i, .int j])) : NestedIs s.heap (.tup [.num i, .num j]) (.ref t) := by
  obtain ⟨_, its, r, o, h1, h2, n, h3⟩ := (show ObjOk X.prog X.w H s.heap t (.tup [.int i, .int j]) from I.hok t _ h)
  obtain ⟨u, w', rfl, ⟨t1, rfl⟩, ⟨t2, rfl⟩⟩ := vals2 r
  exact .tup h1 h2 h3 (.cons (.int _ _) (.cons (.int _ _) .nil))
theorem edge_is (I : Inv X pins σ H s) (h : EdgeAt H b e) : (nestedKind X.prog X.w).is s.heap (EK e) b := by
  obtain ⟨t1, t2, h0, h1, h2⟩ := h
  obtain ⟨_, its, r, o, g1, g2, n, g3⟩ := (show ObjOk X.prog X.w H s.heap b (.tup [.ref t1, .ref t2]) from I.hok b _ h0)
  obtain ⟨u, w', rfl, r1, r2⟩ := vals2 r
  obtain rfl : u = Value.ref t1 := r1
  obtain rfl : w' = Value.ref t2 := r2
  exact ⟨.tup g1 g2 g3 (.cons (nest_pair I h1) (.cons (nest_pair I h2) .nil)), by simp [EK, NestedKey.depth, NestedKey.depthAll]⟩
theorem ed_of (I : Inv X pins σ H s) (h : EDict X.prog X.w H a ys) : ys.length ≤ sizeLine ∧ (a == sysModules) = false ∧ ∃ xs, EP2 ys xs ∧ s.heap.DictOfH (nestedKind X.prog X.w) a xs := by
  obtain ⟨⟨z, n, xs, r, o, es, ep, h1, h2, h3, h4, h5⟩, _⟩ := (show ObjOk X.prog X.w H s.heap a (edO X.prog X.w a ys) from I.hok a _ h.1)
  refine ⟨z, n, xs, r, o, es, ep, h1, h2, h3, h4, ?_, h5⟩
  have all : ∀ {l : List ERow} {m : List (NestedKey × Addr × Value)}, EP2 l m → (∀ y ∈ l, EdgeAt H y.2.1 y.1) → ∀ x ∈ m, (nestedKind X.prog X.w).is s.heap x.1 x.2.1 := by
    intro l m q
    induction q with
    | nil => intro _ x hx; exact nomatch hx
    | @cons p q ps qs hq t ih =>
      intro hl x hx
      rcases List.mem_cons.mp hx with z | hx
      · subst z
        rw [hq.1, hq.2.1]
        exact edge_is I (hl _ List.mem_cons_self)
      · exact ih (fun y hy => hl y (List.mem_cons_of_mem _ hy)) x hx
  exact all r h.2
variable {A : Around} {E : Value → Shared → Prop}
theorem roomE (hu : A.units + 64 < cLine) : (nestedKind X.prog X.w).room A.in1 := by
  show A.units + 1 + 8 < cLine
  omega
theorem e_getItem {v : V} {Q : Value → Shared → Prop} (hu : A.units + 64 < cLine) (I : Inv X pins σ H s) (hd : EDict X.prog X.w H a ys) (hk : EdgeAt H b e) (hv : valE ys e = some v) (h : ∀ w' s', Inv X pins σ H s' → RelV v w' → Q w' s') :
    wpAny (model X.prog X.w) A (getItem (.ref a) (.ref b)) Q E s := by
  obtain ⟨z, n, xs, r, dd⟩ := ed_of I hd
  obtain ⟨w', hw, rw'⟩ := RelO.some_of (v := v) (o := (atKey xs (EK e)).map (·.2)) (by rw [← hv]; exact r.val e)
  obtain ⟨p, hp, hp2⟩ := Option.map_eq_some_iff.mp hw
  refine wpAny_getItem_heap (roomE hu) (edge_is I hk) dd hp ?_
  rw [hp2]
  exact h w' _ (I.tok _) rw'
theorem e_in {Q : Value → Shared → Prop} (hu : A.units + 64 < cLine) (I : Inv X pins σ H s) (hd : EDict X.prog X.w H a ys) (hk : EdgeAt H b e) (h : ∀ s', Inv X pins σ H s' → Q (.bool (valE ys e).isSome) s') :
    wpAny (model X.prog X.w) A (compareOp .In (.ref b) (.ref a)) Q E s := by
  obtain ⟨z, n, xs, r, dd⟩ := ed_of I hd
  refine wpAny_in_heap (roomE hu) (edge_is I hk) n dd ?_
  have q := (r.val e).isSome_eq
  rw [Option.isSome_map] at q
  rw [← q]
  exact h _ (I.tok _)
theorem e_setItem {v : V} {r : Value} {Q : Unit → Shared → Prop} (hu : A.units + 64 < cLine) (I : Inv X pins σ H s) (hd : EDict X.prog X.w H a ys) (hk : EdgeAt H b e) (hl : ys.length < sizeLine) (rv : RelV v r)
    (h : ∀ s', Inv X pins σ (upd H a (edO X.prog X.w a (putE ys e b v))) s' → Q () s') : wpAny (model X.prog X.w) A (setItem (.ref a) (.ref b) r) Q E s := by
  obtain ⟨z, n, xs, rr, dd⟩ := ed_of I hd
  have hz : xs.length ≤ sizeLine := by rw [← Paired.length rr]; exact z
  have hl2 : (putE ys e b v).length ≤ sizeLine := by have := putE_len ys e b v; omega
  refine wpAny_setItem_heap (hsz := hz) (roomE hu) (edge_is I hk) dd fun h' dd' hs => h _ ?_
  obtain ⟨q, es, ep, hq, h2, h3, h4, _, h5⟩ := dd'
  exact d_write I (by rw [hd.1]; exact True.intro) hs ⟨q, hq⟩ (edO_ok ⟨hl2, n, _, rr.put e b rv, q, es, ep, hq, h2, h3, h4, h5⟩)
theorem e_get2 {d : V} {r : Value} {Q : Value → Shared → Prop} (hu : A.units + 64 < cLine) (I : Inv X pins σ H s) (hd : EDict X.prog X.w H a ys) (hk : EdgeAt H b e) (rd : RelV d r) (h : ∀ w' s', Inv X pins σ H s' → RelV ((valE ys e).getD d) w' → Q w' s') :
    wpAny (model X.prog X.w) A (call (.builtin "dict.get") [.ref a, .ref b, r]) Q E s := by
  obtain ⟨z, n, xs, rr, dd⟩ := ed_of I hd
  exact call_meetsIn PySem.F.slot_dict_get dd.typeIs PySem.F.entry_dict_get (PySem.F.args_dict_get_3 _ _ _) (meetsH_dict_get_default (nestedKind X.prog X.w) a b n r) ⟨roomE hu, EK e, xs, edge_is I hk, dd, h _ _ (I.tok _) ((rr.val e).getD rd)⟩
theorem ed_typeIs (I : Inv X pins σ H s) (h : EDict X.prog X.w H a ys) : s.TypeIs (.ref a) "dict" := let ⟨_, _, _, _, dd⟩ := ed_of I h; dd.typeIs
theorem ed_noDict (I : Inv X pins σ H s) (h : EDict X.prog X.w H a ys) : ∀ b, Value.ref a = .ref b → ∃ ob, s.heap.get? b = some ob ∧ ob.dict = none := fun b q => by
  cases q
  obtain ⟨_, _, _, _, ob, _, _, h1, h2, _⟩ := ed_of I h
  exact ⟨ob, h1, h2.2.1⟩
end
/-! readings and rules -/
def tEGet (X : Cx) (td ty : TE) : TE := fun σ H Q => td σ H fun x H1 => ty σ H1 fun y H2 => ∃ a b e ys v, x = .ref a ∧ y = .ref b ∧ EDict X.prog X.w H2 a ys ∧ EdgeAt H2 b e ∧ valE ys e = some v ∧ Q v H2
def tEIn (X : Cx) (ty td : TE) : TE := fun σ H Q => ty σ H fun y H1 => td σ H1 fun x H2 => ∃ a b e ys, x = .ref a ∧ y = .ref b ∧ EDict X.prog X.w H2 a ys ∧ EdgeAt H2 b e ∧ Q (.bl (valE ys e).isSome) H2
def sEPut (X : Cx) (td ty tv : TE) : TS := fun D σ H => tv σ H fun v H1 => td σ H1 fun x H2 => ty σ H2 fun y H3 => ∃ a b e ys, x = .ref a ∧ y = .ref b ∧ EDict X.prog X.w H3 a ys ∧ EdgeAt H3 b e ∧ ys.length < sizeLine ∧ D.nx σ (upd H3 a (edO X.prog X.w a (putE ys e b v)))
def tEGet2 (X : Cx) (td ty tx : TE) : TE := fun σ H Q => td σ H fun x H1 => ∃ a ys, x = .ref a ∧ EDict X.prog X.w H1 a ys ∧ ty σ H1 fun y H2 => tx σ H2 fun z H3 => ∃ b e, y = .ref b ∧ EDict X.prog X.w H3 a ys ∧ EdgeAt H3 b e ∧ Q ((valE ys e).getD z) H3
def tENew (X : Cx) : TE := fun _ H Q => ∀ p, H p = none → Q (.ref p) (upd H p (edO X.prog X.w p []))
section
variable {X : Cx} {o i e f value : Expr} {pos pos' tpos apos cpos : Pos} {td ty tv tx : TE}
theorem pe_eget (hu : X.A.units + 64 < cLine) (ho : PE X o td) (hi : PE X i ty) (hs : NoSl i) : PE X (.Subscript o i pos) (tEGet X td ty) := by
  refine ⟨fun pins s σ H Q I h => ?_⟩
  refine subD_of PySem.F.slot_dict_getitem.lookup hs (thn (ho.run pins s σ H _ I h) fun u s1 ⟨x, H1, I1, rx, q1⟩ => thn (hi.run pins s1 σ H1 _ I1 q1) fun iv s2 ⟨y, H2, I2, ry, a, b, e, ys, v, ex, ey, g, gb, gv, q2⟩ => ?_)
  subst ex ey
  obtain rfl : u = Value.ref a := rx
  obtain rfl : iv = Value.ref b := ry
  exact ⟨ed_typeIs I2 g, e_getItem hu I2 g gb gv fun w' s3 I3 rw' => ⟨v, H2, I3, rw', q2⟩⟩
theorem pc_ein (hu : X.A.units + 64 < cLine) (hi : PE X i ty) (ho : PE X o td) : PC X .In i o (tEIn X ty td) := by
  refine ⟨fun pins s σ H Q I h => ?_⟩
  refine thn (hi.run pins s σ H _ I h) fun iv s1 ⟨y, H1, I1, ry, q1⟩ => thn (ho.run pins s1 σ H1 _ I1 q1) fun u s2 ⟨x, H2, I2, rx, a, b, e, ys, ex, ey, g, gb, q2⟩ => ?_
  subst ex ey
  obtain rfl : u = Value.ref a := rx
  obtain rfl : iv = Value.ref b := ry
  exact e_in hu I2 g gb fun s3 I3 => ⟨.bl _, H2, I3, rfl, q2⟩
theorem ps_eput (hu : X.A.units + 64 < cLine) (ho : PE X o td) (hi : PE X i ty) (hv : PE X value tv) (hs : swapsWith value (some (.Subscript o i pos')) pos.line X.env = pure false) :
    PS X (.Assign [.Subscript o i pos'] value pos) (sEPut X td ty tv) := by
  refine ⟨fun pins s σ H D I h => ?_⟩
  refine wpAny_Assign_Subscript (thn (hv.run pins s σ H _ I h) fun r s1 ⟨v, H1, I1, rv, q1⟩ => thn (ho.run pins s1 σ H1 _ I1 q1) fun u s2 ⟨x, H2, I2, rx, q2⟩ => thn (hi.run pins s2 σ H2 _ I2 q2) fun iv s3 ⟨y, H3, I3, ry, a, b, e, ys, ex, ey, g, gb, gl, q3⟩ => ?_) hs
  subst ex ey
  obtain rfl : u = Value.ref a := rx
  obtain rfl : iv = Value.ref b := ry
  exact e_setItem hu I3 g gb gl rv fun s4 I4 => ⟨σ, _, I4, q3⟩
theorem pe_eget2 (hu : X.A.units + 64 < cLine) (ho : PE X o td) (he : PE X e ty) (hf : PE X f tx) (m : M2 X o "get" apos e f cpos) : PE X (.Call (.Attribute o "get" apos) [e, f] [] cpos) (tEGet2 X td ty tx) := by
  refine ⟨fun pins s σ H Q I h => ?_⟩
  refine wpAny_Call_method m.base m.few m.line PySem.F.plainAttrs_dict PySem.F.slot_dict_get PySem.F.type_dict_get (thn (ho.run pins s σ H _ I h) fun u s1 ⟨x, H1, I1, rx, a, ys, ex, d, q1⟩ => ?_)
  subst ex
  obtain rfl : u = Value.ref a := rx
  refine ⟨ed_typeIs I1 d, ed_noDict I1 d, ?_⟩
  rw [m.trees]
  refine Calls.callWith_builtin rfl (Calls.evalArgs_plain (Calls.spliced_cons (thn (he.run pins s1 σ H1 _ I1 q1) fun iv s2 ⟨y, H2, I2, ry, q2⟩ =>
    Calls.spliced_cons (thn (hf.run pins s2 σ H2 _ I2 q2) fun fv s3 ⟨z, H3, I3, rz, b, e, ey, g, gb, q3⟩ => Calls.spliced_nil ?_))))
  subst ey
  obtain rfl : iv = Value.ref b := ry
  exact e_get2 hu I3 g gb rz fun w' s4 I4 rw' => ⟨_, H3, I4, rw', q3⟩
theorem pe_enew : PE X (.Dict [] [] pos) (tENew X) := ⟨fun pins s σ H Q I h =>
  wpAny_Dict_empty ⟨.ref s.heap.objs.size, _, I.laid (a := s.heap.objs.size) (o := edO X.prog X.w s.heap.objs.size []) (t' := s.toks) (fun _ _ q => Heap.get?_push_of_some _ q) (Nat.le_refl _)
    (edO_ok ⟨Nat.zero_le _, beq_eq_false_iff_ne.mpr (Ne.symm (Nat.ne_of_lt I.big)), [], .nil, _, #[], 0, Heap.get?_push_size _ rfl, ⟨rfl, rfl, rfl⟩, rfl, rfl, List.nodup_nil⟩), rfl, h _ (I.hok.fresh (Nat.le_refl _))⟩⟩
end
end SK
namespace SK
open PySem PySem.Spec PyProof.Rows L2
section
variable {P : Program} {w : World} {K : PySem.W.Frag} {mg : Str → Option Value} {base : Heap}
theorem ok_endof {f : Addr} {fd : FuncData} {k : Nat} {sa : Addr} (F : Fun K "end_of_stroke" "end_of_stroke" s_end_of_stroke f fd) (mS : mg "STEPS" = some (.ref sa)) (hS : StepsAt K sa) :
    FnOk P w K mg base CX0 (k + 1) f fd ["stroke"] (spEndOf K) := by
  refine F.ok sc_end_of_stroke (fun vs H Q E h => ?_) (fun cdv A outer s H vs Q E hr h => ?_)
  · obtain ⟨p, s, rfl, _⟩ := h
    rfl
  · obtain ⟨p, s, rfl, hp, h0, h4, q⟩ := h
    have nd := sc_end_of_stroke.nd
    refine ⟨_, pss_cons (ps_asg (pv 0) (pg_tup (by rfl) (pgs_cons (pg_name (i := 1) nd rfl (.inl rfl)) (pgs_cons (pg_name (i := 2) nd rfl (.inl rfl)) (pgs_cons (pg_name (i := 3) nd rfl (.inl rfl)) (pgs_cons (pg_name (i := 4) nd rfl (.inl rfl)) pgs_nil))))))
      (pss_cons (ps_asg (pixT (pe_glob (v := .ref sa) rfl mS rfl) (pv 3)) (pg_tup (by rfl) (pgs_cons (pg_name (i := 5) nd rfl (.inl rfl)) (pgs_cons (pg_name (i := 6) nd rfl (.inl rfl)) pgs_nil))))
      (pss_one (ps_ret (ptupN (pa_cons (padd (pv 1) (pv 5)) (pa_cons (padd (pv 2) (pv 6)) pa_nil)))))), ?_⟩
    refine ⟨_, rfl, p, _, rfl, hp, rfl, _, _, rfl, _, _, rfl, _, _, rfl, _, _, rfl, rfl, ?_⟩
    obtain ⟨xs, t, m1, m2, m3⟩ := hS.get h0 h4
    refine ⟨_, rfl, sa, _, _, _, rfl, rfl, m1.sq, m2, t, _, rfl, m3.sq, rfl, _, _, rfl, _, _, rfl, rfl, ?_⟩
    exact ⟨_, rfl, _, rfl, _, _, rfl, rfl, _, rfl, _, rfl, _, _, rfl, rfl, szl 2, fun H2 pe S2 n2 h2 => q H2 pe S2 n2 h2⟩
end
end SK
namespace SK
open PySem PySem.Spec PyProof.Rows L2
section
variable {P : Program} {w : World} {K : PySem.W.Frag} {mg : Str → Option Value} {base : Heap}
theorem ok_endsof {f : Addr} {fd : FuncData} {k : Nat} (F : Fun K "ends_of" "ends_of" s_ends_of f fd) (GE : Got P w K mg base "end_of_stroke" k ["stroke"] (spEndOf K)) (mi : mg "min" = none) (mx : mg "max" = none) :
    FnOk P w K mg base CX0 (k + 1) f fd ["stroke"] spEndsOf := by
  refine F.ok sc_ends_of (fun vs H Q E h => ?_) (fun cdv A outer s H vs Q E hr h => ?_)
  · obtain ⟨p, s, rfl, _⟩ := h
    rfl
  · obtain ⟨p, s, rfl, hp, h0, h4, q⟩ := h
    have nd := sc_ends_of.nd
    refine ⟨_, pss_cons (ps_set (i := 1) nd rfl (.inl rfl) (pe_slice sl_tupN (pv 0) po_none (po_some pe_int)))
      (pss_cons (ps_set (i := 2) nd rfl (.inl rfl) (pcall GE hr (pa_cons (pv 0) pa_nil)))
      (pss_one (ps_ret (ptupN (pa_cons (pe_callB (call_minT rfl hr.units) (by rfl) mi (by decide +kernel) (pa_cons (pv 1) (pa_cons (pv 2) pa_nil)) (by decide) (by decide))
        (pa_cons (pe_callB (call_maxT rfl hr.units) (by rfl) mx (by decide +kernel) (pa_cons (pv 1) (pa_cons (pv 2) pa_nil)) (by decide) (by decide)) pa_nil)))))), ?_⟩
    refine ⟨_, rfl, 2, rfl, p, _, rfl, SqT.of hp, ?_, fun H1 pb S1 n1 h1 => ?_⟩
    · rintro ⟨_, z⟩
      have z : HT.sIx 4 4 (some ((2 : Nat) : Int)) = 4 := z
      rw [HT.sIx_nat] at z
      cases z
    have h1 : H1 pb = some (.tup [.int s.1, .int s.2.1]) := by
      rw [h1, show cutV (stV s) none (some 2) = (stV s).take 2 from cut_to _ 2]
      rfl
    refine ⟨_, rfl, p, s, rfl, SqT.of (S1 _ _ hp), h0, h4, fun H2 pe S2 n2 h2 => ?_⟩
    have h1' := S2 _ _ h1
    refine ⟨_, rfl, _, rfl, pb, pe, (s.1, s.2.1), (s.1 + (dir s.2.2.1).1, s.2.1 + (dir s.2.2.1).2), rfl, SqT.of h1', SqT.of h2, ?_⟩
    refine ⟨_, rfl, _, rfl, pb, pe, (s.1, s.2.1), (s.1 + (dir s.2.2.1).1, s.2.1 + (dir s.2.2.1).2), rfl, SqT.of h1', SqT.of h2, szl 2, fun H3 r S3 n3 h3 => ?_⟩
    refine q H3 r ((S1.trans S2).trans S3) ((S1.trans S2).free n3) ?_
    have ee := ltZ_other (step_ne s)
    unfold edge
    by_cases z : ltZ (s.1 + (dir s.2.2.1).1, s.2.1 + (dir s.2.2.1).2) (s.1, s.2.1) = true
    · rw [z] at ee
      have e2 : ¬ ltZ (s.1, s.2.1) (s.1 + (dir s.2.2.1).1, s.2.1 + (dir s.2.2.1).2) = true := by
        intro y; rw [y] at ee; cases ee
      rw [if_pos z, if_neg e2] at h3
      rw [if_pos z]
      exact ⟨pe, pb, h3, S3 _ _ h2, S3 _ _ h1'⟩
    · have e2 : ltZ (s.1, s.2.1) (s.1 + (dir s.2.2.1).1, s.2.1 + (dir s.2.2.1).2) = true := by
        cases y : ltZ (s.1, s.2.1) (s.1 + (dir s.2.2.1).1, s.2.1 + (dir s.2.2.1).2) with
        | true => rfl
        | false => rw [y] at ee; exact absurd ee z
      rw [if_neg z, if_pos e2] at h3
      rw [if_neg z]
      exact ⟨pb, pe, h3, S3 _ _ h1', S3 _ _ h2⟩
end
end SK
namespace SK
open PySem PySem.Spec PyProof.Rows L2
/-! ### xs.extend(w), w a word -/
def rExtW : V → List V → Hp → VK → Prop := fun x vs H Q => ∃ (l b : Addr) (xs : List V) (w : List Sy), x = .ref l ∧ vs = [.ref b] ∧ H l = some (.lst xs) ∧ WdAt H b w ∧ xs.length + w.length ≤ sizeLine ∧ Q .non (upd H l (.lst (xs ++ wv w)))
theorem mt_extW {X : Cx} : MtM X "list.extend" rExtW := by
  rintro pins s σ H x vs v us Q I rx rv ⟨l, b, xs, w, rfl, rfl, hH, ⟨ob, hob, hd, hsl⟩, hz, q⟩
  cases rx
  obtain ⟨u, rfl, ru⟩ := rv.one
  cases ru
  obtain ⟨z, its, n, r, hl, e⟩ := I.lstM hH
  obtain ⟨hat, _, its2, r2, o2, ho2, hc2, n2, hd2⟩ := (show ObjOk X.prog X.w H s.heap b (.frz ob (.tup (wv w))) from I.hok b _ hob)
  have eo : o2 = ob := Option.some.inj (ho2.symm.trans hat)
  subst eo
  obtain ⟨cls, dct, dat, slo⟩ := o2
  simp only at hc2 hd2 hd hsl
  subst hc2 hd2 hd hsl
  have l1 := r.length
  have l2 := r2.length
  rw [List.length_map] at l2
  have fit : its.toArray.size + its2.toArray.size ≤ sizeLine := by simp only [List.size_toArray]; omega
  have short : ¬ (!its.toArray.isEmpty && Builtin.List.listTooLong (its.toArray.size + its2.toArray.size)) = true := by rw [notLongL fit, Bool.and_false]; exact Bool.false_ne_true
  refine call_meets F.slot_list_extend ⟨_, e, rfl⟩ F.entry_list_extend (F.args_list_extend_2 _ _) (AutoSeq1.list_extend_list_tuple_0 l its.toArray n b its2.toArray n2 short (by simp only [List.size_toArray]; omega) (by omega)) ⟨e, hat, ?_⟩
  exact ⟨.non, _, I.lset (its' := its ++ its2) hH e (by simp) (r.append r2) (by rw [List.length_append, List.length_map]; exact hz), rfl, q⟩
/-! ### the letters of each age -/
structure RowsL (n : Nat) (ws : List (List Sy)) (st : List Sy) (L : List (List Nat)) : Prop where
  len : L.length = n + 1
  first : ∀ k, Sy.l k ∈ st → k ∈ L.getD 0 []
  next : ∀ m, m < n → ∀ j ∈ L.getD m [], ∀ k, Sy.l k ∈ ws.getD j [] → k ∈ L.getD (m + 1) []
  few : ∀ ls ∈ L, (∀ j ∈ ls, j < ws.length) ∧ ls.length ≤ 8
  there : ∀ m, m ≤ n → ∀ j ∈ L.getD m [], Sy.l j ∈ grown ws st m
theorem RowsL.snoc {n : Nat} {ws : List (List Sy)} {st : List Sy} {L : List (List Nat)} {ls : List Nat} (h : RowsL n ws st L) (hn : ∀ j ∈ L.getD n [], ∀ k, Sy.l k ∈ ws.getD j [] → k ∈ ls) (hf : (∀ j ∈ ls, j < ws.length) ∧ ls.length ≤ 8) (ht : ∀ k ∈ ls, Sy.l k ∈ grown ws st (n + 1)) : RowsL (n + 1) ws st (L ++ [ls]) := by
  have old : ∀ m, m ≤ n → (L ++ [ls]).getD m [] = L.getD m [] := fun m hm => by
    rw [List.getD_eq_getElem?_getD, List.getD_eq_getElem?_getD, List.getElem?_append_left (by rw [h.len]; omega)]
  have last : (L ++ [ls]).getD (n + 1) [] = ls := by
    rw [List.getD_eq_getElem?_getD, List.getElem?_append_right (by rw [h.len]; omega), h.len, Nat.sub_self]
    rfl
  refine ⟨by rw [List.length_append, List.length_singleton, h.len], fun k hk => by rw [old 0 (Nat.zero_le _)]; exact h.first k hk, fun m hm j hj k hk => ?_, fun l hl => ?_, fun m hm j hj => ?_⟩
  · rw [old m (by omega)] at hj
    by_cases e : m = n
    · subst e
      rw [last]
      exact hn j hj k hk
    · rw [old (m + 1) (by omega)]
      exact h.next m (by omega) j hj k hk
  · rcases List.mem_append.mp hl with h2 | h2
    · exact h.few l h2
    · rw [List.mem_singleton.mp h2]; exact hf
  · by_cases e : m = n + 1
    · subst e
      rw [last] at hj
      exact ht j hj
    · rw [old m (by omega)] at hj
      exact h.there m (by omega) j hj
def spRows : Sp := fun vs H Q _ => ∃ (p q : Addr) (n : Nat) (as : List Addr) (ws : List (List Sy)) (st : List Sy), vs = [.ref p, .ref q, .int n] ∧ H p = some (.tup (as.map V.ref)) ∧ Words H as ws ∧ WdAt H q st ∧ GoodBook ws st ∧ n ≤ 1000 ∧
  ∀ (H' : Hp) (ro : Addr) (rs : List Addr) (L : List (List Nat)), Same H H' → H ro = none → H' ro = some (.lst (rs.map V.ref)) → Paired (fun a ls => H' a = some (.lst (iV ls))) rs L → RowsL n ws st L → Q (.ref ro) H'
section
variable {P : Program} {w : World} {K : PySem.W.Frag} {mg : Str → Option Value} {base : Heap}
theorem ok_rows {f : Addr} {fd : FuncData} {k : Nat} (F : Fun K "letters_by_age" "letters_by_age" s_letters_by_age f fd) (GL : Got P w K mg base "letters_in" k ["parts"] (spLettersIn K)) (GN : Got P w K mg base "next_letters" k ["words", "letters"] spNext) (mR : mg "range" = none) :
    FnOk P w K mg base CX0 (k + 1) f fd ["words", "start", "age"] spRows := by
  refine F.ok sc_letters_by_age (fun vs H Q E h => ?_) (fun cdv A outer s H vs Q E hr h => ?_)
  · obtain ⟨p, q, n, as, ws, st, rfl, _⟩ := h
    rfl
  · obtain ⟨p, pq, n, as, ws, st, rfl, hp, hw, hq, hg, hn, q⟩ := h
    have nd := sc_letters_by_age.nd
    refine ⟨_, pss_cons (ps_set (i := 3) nd rfl (.inl rfl) (plstN (pa_cons (pcall GL hr (pa_cons (pv 1) pa_nil)) pa_nil)))
      (pss_cons (ps_for PassesOwn.never rfl (pi_range1 rfl mR (pa_cons (pv 2) pa_nil)) (pg_name (i := 4) nd rfl (.inl rfl))
        (pss_one (sapp (pv 3) (pcall GN hr (pa_cons (pv 0) (pa_cons (pix (pv 3) (pe_un un_neg pe_int)) pa_nil))))))
      (pss_one (ps_ret (pv 3)))), ?_⟩
    have hf : ws.length ≤ 8 := by have := hg.few; omega
    refine ⟨_, rfl, pq, st, rfl, .inr hq.sq, fun k hk => Nat.lt_of_lt_of_le (hg.start.lets k hk) hf, fun H1 a1 l1 S1 n1 h1 hm1 hl1 => ⟨szl 1, fun H2 ro S2 n2 h2 => ?_⟩⟩
    have nro : H ro = none := S1.free n2
    refine ⟨_, rfl, (n : Int), rfl, by omega, by omega, ?_⟩
    rw [Int.toNat_natCast]
    refine for_range (lo := 0) (n := n) (fun i σ H' => ∃ (rs : List Addr) (L : List (List Nat)) (y4 : Option V), σ = [some (.ref p), some (.ref pq), some (.int n), some (.ref ro), y4] ∧ Same H H' ∧ H' ro = some (.lst (rs.map V.ref)) ∧ Paired (fun a ls => H' a = some (.lst (iV ls)) ∧ a ≠ ro) rs L ∧ RowsL i ws st L)
      ⟨[a1], [l1], _, rfl, S1.trans S2, h2, .cons ⟨S2 _ _ h1, ne_of_none h1 n2⟩ .nil, ⟨rfl, fun k hk => (hm1 k).mpr hk, fun m hm => absurd hm (Nat.not_lt_zero _), fun ls hls => by rw [List.mem_singleton.mp hls]; exact ⟨fun j hj => hg.start.lets j ((hm1 j).mp hj), hl1⟩, fun m hm j hj => by
        have e : m = 0 := by omega
        subst e
        exact (hm1 j).mp hj⟩⟩ ?_ ?_
    · rintro i σ H3 hi ⟨rs, L, y4, rfl, S3, hro, hP, hL⟩
      have lrs := hP.length
      have lL := hL.len
      have hLi : L[i]? = some L[i] := List.getElem?_eq_getElem (by omega)
      have eLi : L.getD i [] = L[i] := by rw [List.getD_eq_getElem?_getD, hLi]; rfl
      obtain ⟨ai, hai, hat, hne⟩ := paired_get hP hLi
      have hfi := hL.few _ (List.getElem_mem (show i < L.length by omega))
      rw [← eLi] at hat hfi
      have hlast : atI (rs.map V.ref) (-1) = some (V.ref ai) := by
        have hx : rs = rs.take i ++ [ai] := by
          rw [← take_more hai, List.take_of_length_le (by omega)]
        rw [hx, List.map_append]
        exact atI_last _ _
      refine ⟨_, rfl, .inl ⟨rfl, _, SqL.of hro⟩, _, rfl, _, rfl, _, rfl, ro, _, _, _, rfl, rfl, SqL.of hro, hlast, p, ai, as, ws, L.getD i [], rfl, S3 _ _ hp, hw.keep (.of S3), hat, hfi.1, hfi.2, hf, hg.words, fun H4 a4 l4 S4 n4 h4 hm4 hl4 => ?_⟩
      have hro4 := S4 _ _ hro
      have nro4 : a4 ≠ ro := (ne_of_none hro n4).symm
      refine ⟨ro, _, _, rfl, rfl, hro4, ?_, rs ++ [a4], L ++ [l4], _, rfl, sPut (S3.trans S4) nro, by rw [upd_same, List.map_append]; rfl, ?_, ?_⟩
      · rw [List.length_map, sizeLine_eq]; omega
      · refine Paired.snoc (Paired.mono (fun a ls ⟨e, ne⟩ => ⟨by rw [upd_ne ne]; exact S4 _ _ e, ne⟩) hP) ⟨by rw [upd_ne nro4]; exact h4, nro4⟩
      · refine hL.snoc (fun j hj k hk => (hm4 k).mpr ⟨j, hj, hk⟩) ⟨fun k hk => ?_, hl4⟩ fun k hk => ?_
        · obtain ⟨j, hj, hk'⟩ := (hm4 k).mp hk
          have hjn := hfi.1 j hj
          rw [List.getD_eq_getElem?_getD, List.getElem?_eq_getElem hjn] at hk'
          exact (hg.words _ (List.getElem_mem hjn)).lets k hk'
        · obtain ⟨j, hj, hk'⟩ := (hm4 k).mp hk
          exact List.mem_flatMap.mpr ⟨.l j, hL.there i (Nat.le_refl _) j hj, hk'⟩
    · rintro σ H3 ⟨rs, L, y4, rfl, S3, hro, hP, hL⟩
      exact ⟨_, rfl, q H3 ro rs L S3 nro hro (Paired.mono (fun a ls h => h.1) hP) hL⟩
end
end SK
namespace SK
open PySem PySem.Spec PyProof.Rows L2
def spReplace : Sp := fun vs H Q _ => ∃ (a d : Addr) (w : List Sy) (kvs : List (Key × V)) (G : Nat → List Sy), vs = [.ref a, .ref d] ∧ WdAt H a w ∧ H d = some (.dK kvs) ∧ (∀ k, Sy.l k ∈ w → ∃ b, valV kvs (.inl (k : Int)) = some (.ref b) ∧ WdAt H b (G k)) ∧ (growG G w).length ≤ 1000000 ∧
  NewW (growG G w) H Q
section
variable {P : Program} {w : World} {K : PySem.W.Frag} {mg : Str → Option Value} {base : Heap}
theorem ok_replace {f : Addr} {fd : FuncData} {k : Nat} (F : Fun K "replace_letters" "replace_letters" s_replace_letters f fd) (mI : mg "isinstance" = none) (mS : mg "str" = none) (mT : mg "tuple" = none) : FnOk P w K mg base CX0 (k + 1) f fd ["word", "grown"] spReplace := by
  refine F.ok sc_replace_letters (fun vs H Q E h => ?_) (fun cdv A outer s H vs Q E hr h => ?_)
  · obtain ⟨a, d, w, kvs, G, rfl, _⟩ := h
    rfl
  · obtain ⟨a, d, wd, kvs, G, rfl, ha, hd, hG, hlen, q⟩ := h
    have nd := sc_replace_letters.nd
    refine ⟨_, pss_cons (ps_set (i := 2) nd rfl (.inl rfl) (plstN pa_nil))
      (pss_cons (ps_for PassesOwn.never rfl (pi_tup (pv 0)) (pg_name (i := 3) nd rfl (.inl rfl))
        (pss_one (ps_if (pt_val (pis "str" (by decide +kernel) mI mS (pv 3))) (pss_one (sapp (pv 2) (pv 3)))
          (pss_one (ps_expr (pe_bm PySem.F.plainAttrs_list PySem.F.slot_list_extend PySem.F.type_list_extend mt_extW (pv 2) (pa_cons (pe_dget (hu_of hr) (pv 1) (pv 3) (fun _ _ => rfl)) pa_nil)))))))
      (pss_one (ps_ret (ptupleF mT (pv 2))))), ?_⟩
    refine ⟨szl 0, fun H1 po S1 n1 h1 => ⟨_, rfl, a, rfl, ⟨_, (ha.same S1).sq⟩, for_tup (K := K) (a := a) (xs := wv wd) (fun i σ H' => ∃ y3 : Option V, σ = [some (.ref a), some (.ref d), some (.ref po), y3] ∧ Same H H' ∧ H' po = some (.lst (wv (growG G (wd.take i)))))
      ⟨none, rfl, S1, h1⟩ (fun i σ H' _ ⟨_, _, s, _⟩ => (ha.same s).sq) ?_ ?_⟩⟩
    · rintro i x σ H2 hx ⟨y3, rfl, S2, hp⟩
      obtain ⟨s, hs, rfl⟩ := wv_get hx
      have e1 : growG G (wd.take (i + 1)) = growG G (wd.take i) ++ imgG G s := by rw [take_more hs, growG_app, growG_one]
      have l1 : (growG G (wd.take (i + 1))).length ≤ 1000000 := Nat.le_trans (growG_take _ _ _) hlen
      rw [e1, List.length_append] at l1
      obtain ⟨tn, tb, ht, hk, htb⟩ := ty_sy (K := K) (H := H2) s
      refine ⟨_, rfl, s.v, tn, tb, rfl, ht, hk, tb, rfl, ?_⟩
      subst htb
      have one : isL s = false → (if (!isL s) = true then (tDrop (tBM K "list" rAppend (tVar 2) (tCons (tVar 3) tNil)) { nx := fun σ' H' => ∃ y3 : Option V, σ' = [some (.ref a), some (.ref d), some (.ref po), y3] ∧ Same H H' ∧ H' po = some (.lst (wv (growG G (wd.take (i + 1))))), rt := Q, bk := fun σ' H' => False, ct := fun _ _ => False } [some (.ref a), some (.ref d), some (.ref po), some s.v] H2 : Prop) else True) := fun _ => by
        by_cases z : (!isL s) = true
        · rw [if_pos z]
          refine ⟨_, rfl, .inl ⟨rfl, _, SqL.of hp⟩, _, rfl, po, _, _, rfl, rfl, hp, ?_, some s.v, rfl, sPut S2 n1, ?_⟩
          · rw [List.length_map, sizeLine_eq]; omega
          · have ei : imgG G s = [s] := by
              cases s <;> first
                | rfl
                | cases z
            rw [upd_same, e1, ei]
            simp only [wv, List.map_append, List.map_cons, List.map_nil]
        · rw [if_neg z]; trivial
      cases s with
      | l j =>
        obtain ⟨b, hb1, hb2⟩ := hG j (List.mem_of_getElem? hs)
        refine iteF ⟨_, rfl, .inl ⟨rfl, _, SqL.of hp⟩, _, rfl, _, rfl, d, .ref b, rfl, by rw [← hb1]; exact DGet.k (k := Sum.inl (j : Int)) (S2 _ _ hd), po, b, _, G j, rfl, rfl, hp, hb2.same S2, ?_, some (Sy.v (.l j)), rfl, sPut S2 n1, ?_⟩
        · have l2 : (imgG G (.l j)).length = (G j).length := rfl
          rw [List.length_map, sizeLine_eq]; omega
        · rw [upd_same, e1]
          show some (HO.lst (wv (growG G (wd.take i)) ++ wv (G j))) = some (HO.lst (wv (growG G (wd.take i) ++ G j)))
          simp only [wv, List.map_append]
      | p => exact one rfl
      | m => exact one rfl
      | o => exact one rfl
      | c => exact one rfl
    · rintro σ H2 ⟨y3, rfl, S2, hp⟩
      rw [List.length_map, List.take_length] at hp
      exact ⟨_, rfl, po, _, rfl, SqL.of hp, NewW.of (fun H3 p3 S3 n3 h3 => q H3 p3 (S2.trans S3) (S2.free n3) h3) rfl⟩
end
end SK
namespace SK
open PySem PySem.Spec PyProof.Rows L2
def spWordAt : Sp := fun vs H Q _ => ∃ (b : Addr) (n : Nat) (ws : List (List Sy)) (st : List Sy), vs = [.ref b, .int n] ∧ BookAt H b ws st ∧ GoodBook ws st ∧ n ≤ 1000 ∧ (grown ws st n).length ≤ 60000 ∧ NewW (grown ws st n) H Q
/-- a table of letters' words -/
def Tab (H : Hp) (kvs : List (Key × V)) (ls : List Nat) (G : Nat → List Sy) : Prop := ∀ k ∈ ls, ∃ b, valV kvs (.inl (k : Int)) = some (.ref b) ∧ WdAt H b (G k)
theorem Tab.put {H H' : Hp} {kvs : List (Key × V)} {ls : List Nat} {G : Nat → List Sy} {k : Nat} {b : Addr} (t : Tab H kvs ls G) (s : TupS H H') (h : WdAt H' b (G k)) : Tab H' (putK kvs (.inl (k : Int)) (.ref b)) (ls ++ [k]) G := by
  intro j hj
  rw [valV_put]
  by_cases e : j = k
  · subst e
    exact ⟨b, by rw [if_pos rfl], h⟩
  · have hj' : j ∈ ls := by
      rcases List.mem_append.mp hj with h | h
      · exact h
      · exact absurd (List.mem_singleton.mp h) e
    obtain ⟨c, h1, h2⟩ := t j hj'
    refine ⟨c, ?_, s.wd h2⟩
    rw [if_neg (fun z => e (by injection z with z; omega))]
    exact h1
section
variable {P : Program} {w : World} {K : PySem.W.Frag} {mg : Str → Option Value} {base : Heap}
theorem ok_wordat {f : Addr} {fd : FuncData} {k : Nat} (F : Fun K "word_at" "word_at" s_word_at f fd) (GB : GotD P w K mg base "check_book_and_age" k ["book", "age", "most"] [.int 1000] spCheckBA)
    (GS : Got P w K mg base "check_size" k ["words", "start", "age"] spSize) (GR : Got P w K mg base "letters_by_age" k ["words", "start", "age"] spRows) (GP : Got P w K mg base "replace_letters" k ["word", "grown"] spReplace) (mV : mg "reversed" = none) :
    FnOk P w K mg base CX0 (k + 1) f fd ["book", "age"] spWordAt := by
  refine F.ok sc_word_at (fun vs H Q E h => ?_) (fun cdv A outer s H vs Q E hr h => ?_)
  · obtain ⟨b, n, ws, st, rfl, _⟩ := h
    rfl
  · obtain ⟨b, n, ws, st, rfl, hb, hg, hn, hlen, q⟩ := h
    have nd := sc_word_at.nd
    refine ⟨_, pss_cons (ps_expr (pcallD GB hr (pa_cons (pv 0) (pa_cons (pv 1) pa_nil))))
      (pss_cons (ps_asg (pv 0) (pg_tup (by rfl) (pgs_cons (pg_name (i := 2) nd rfl (.inr rfl)) (pgs_cons (pg_name (i := 3) nd rfl (.inl rfl)) pgs_nil))))
      (pss_cons (ps_expr (pcall GS hr (pa_cons (pv 2) (pa_cons (pv 3) (pa_cons (pv 1) pa_nil)))))
      (pss_cons (ps_set (i := 4) nd rfl (.inl rfl) (pcall GR hr (pa_cons (pv 2) (pa_cons (pv 3) (pa_cons (pv 1) pa_nil)))))
      (pss_cons (ps_set (i := 5) nd rfl (.inr rfl) (pe_dc (own := [("letter", 7)]) (g := gName 7) (tt := tYes) (tk := tVar 7) (tv := tTupF (tCons (tVar 7) tNil)) rfl nd (pi_list (pix (pv 4) (pv 1))) (blkOk_by (N := n_word_at) (sc := defScope s_word_at) (by decide +kernel))
          (fun _ _ _ _ _ => pg_name (i := 7) nd rfl (Or.inl rfl)) (fun _ _ _ _ _ => pts_nil) (fun _ _ _ _ _ => pv 7) (fun _ _ _ _ _ => ptupF (pa_cons (pv 7) pa_nil))))
      (pss_cons (ps_for PassesOwn.never rfl (pi_reversed rfl mV (pa_cons (pe_slice sl_listN (pv 4) po_none (po_some (pv 1))) pa_nil)) (pg_name (i := 6) nd rfl (.inl rfl))
        (pss_one (ps_set (i := 5) nd rfl (.inr rfl) (pe_dc (own := [("letter", 7)]) (g := gName 7) (tt := tYes) (tk := tVar 7) (tv := tCall spReplace [] E0 (tCons (tOp (rIxT K) (tVar 2) (tVar 7)) (tCons (tVar 5) tNil))) rfl nd (pi_list (pv 6)) (blkOk_by (N := n_word_at) (sc := defScope s_word_at) (by decide +kernel))
          (fun _ _ _ _ _ => pg_name (i := 7) nd rfl (Or.inl rfl)) (fun _ _ _ _ _ => pts_nil) (fun _ _ _ _ _ => pv 7) (fun _ _ _ _ _ => pcall GP hr (pa_cons (pixT (pv 2) (pv 7)) (pa_cons (pv 5) pa_nil)))))))
      (pss_one (ps_ret (pcall GP hr (pa_cons (pv 3) (pa_cons (pv 5) pa_nil)))))))))), ?_⟩
    obtain ⟨p, pq, as, h1, h2, h3, h4⟩ := id hb
    refine ⟨_, rfl, _, rfl, b, n, 1000, ws, st, rfl, hb, hg, hn, fun H1 S1 => ?_⟩
    refine ⟨_, rfl, b, _, rfl, SqT.of (S1 _ _ h1), rfl, _, _, rfl, _, _, rfl, rfl, ?_⟩
    refine ⟨_, rfl, _, rfl, _, rfl, p, pq, n, as, ws, st, rfl, S1 _ _ h2, h4.keep (.of S1), h3.same S1, hg, hn, hlen, fun H2 S2 => ?_⟩
    have S02 := S1.trans S2
    refine ⟨_, rfl, _, rfl, _, rfl, p, pq, n, as, ws, st, rfl, S02 _ _ h2, h4.keep (.of S02), h3.same S02, hg, hn, fun H3 ro rs L S3 n3 hro hP hL => ?_⟩
    have S03 := S02.trans S3
    have lrs := hP.length
    have lL := hL.len
    -- the rows' lists
    have row : ∀ m, m ≤ n → ∃ a, rs[m]? = some a ∧ H3 a = some (.lst (iV (L.getD m []))) := fun m hm => by
      have hLm : L[m]? = some L[m] := List.getElem?_eq_getElem (by omega)
      obtain ⟨a, ha, hat⟩ := paired_get hP hLm
      exact ⟨a, ha, by rw [List.getD_eq_getElem?_getD, hLm]; exact hat⟩
    have few : ∀ m, m ≤ n → (∀ j ∈ L.getD m [], j < ws.length) ∧ (L.getD m []).length ≤ 8 := fun m hm => by
      have hLm : L[m]? = some L[m] := List.getElem?_eq_getElem (by omega)
      rw [List.getD_eq_getElem?_getD, hLm]
      exact hL.few _ (List.getElem_mem _)
    -- no piece is longer than the whole
    have piece : ∀ i m j, m + i = n → j ∈ L.getD m [] → (gI ws i j).length ≤ 60000 := fun i m j e hj => by
      have h := growG_mem (G := gI ws i) (hL.there m (by omega) j hj)
      rw [growG_grown, e] at h
      exact Nat.le_trans h hlen
    obtain ⟨an, han, hatn⟩ := row n (Nat.le_refl _)
    refine ⟨_, rfl, _, rfl, ro, _, _, .ref an, rfl, rfl, SqL.of hro, atI_nat (by rw [List.getElem?_map, han]; rfl), an, rfl, ⟨_, SqL.of hatn⟩, fun D nD => ?_⟩
    have fn := few n (Nat.le_refl _)
    refine walk_by (walk_list (K := K) (a := an) (xs := iV (L.getD n []))) (fun i H' => ∃ kvs, Same H3 H' ∧ H' D = some (.dK kvs) ∧ kvs.length ≤ i ∧ Tab H' kvs ((L.getD n []).take i) (gI ws 0)) ⟨[], same_upd nD, upd_same, Nat.le_refl _, fun k hk => by simp at hk⟩ (fun i H' ⟨_, s, _⟩ => s.seq (SqL.of hatn)) ?_ ?_
    · rintro i x H4 H5 hi ⟨kvs, S4, hD, hl, ht⟩ ⟨rfl, hx⟩
      obtain ⟨j, hj, rfl⟩ := iV_get hx
      have hi8 : i < 8 := by
        have := (List.getElem?_eq_some_iff.mp hj).1
        omega
      refine ⟨rfl, _, rfl, _, rfl, szl 1, NewW.of (fun H6 t S6 n6 h6 => ⟨kvs, Sum.inl (j : Int), rfl, S6 _ _ hD, ?_, putK kvs (Sum.inl (j : Int)) (.ref t), sPut (S4.trans S6) nD, upd_same, ?_, ?_⟩) (w := [.l j]) rfl⟩
      · rw [sizeLine_eq]; omega
      · have := length_putK kvs (Sum.inl (j : Int)) (.ref t); omega
      · rw [take_more hj]
        have sT : TupS H6 (upd H6 D (.dK (putK kvs (Sum.inl (j : Int)) (.ref t)))) := TupS.dict (S6 _ _ hD)
        exact Tab.put ht ((TupS.of S6).trans sT) (sT.wd h6)
    · rintro H4 ⟨kvs, S4, hD, hl, ht⟩
      have lz : (iV (L.getD n [])).length = (L.getD n []).length := by unfold iV; rw [List.length_map]
      rw [lz, List.take_length] at ht
      -- the ages back to the first
      have hro4 := S4 _ _ hro
      refine ⟨_, rfl, _, rfl, (n : Int), rfl, ro, _, rfl, SqL.of hro4, fun H5 c S5 n5 h5 => ?_⟩
      rw [cut_to, ← List.map_take] at h5
      have S35 := S4.trans S5
      have lc : ((rs.take n).map V.ref).length = n := by rw [List.length_map, List.length_take]; omega
      refine ⟨c, _, rfl, SqL.of h5, ?_⟩
      refine for_it (walk_rev (K := K) (a := c) (xs := (rs.take n).map V.ref)) (fun i σ H' => ∃ (d : Addr) (kvs : List (Key × V)) (y6 y7 : Option V), σ = [some (.ref b), some (.int n), some (.ref p), some (.ref pq), some (.ref ro), some (.ref d), y6, y7] ∧ Same H5 H' ∧ H' d = some (.dK kvs) ∧ Tab H' kvs (L.getD (n - i) []) (gI ws i))
        ⟨D, kvs, _, _, rfl, Same.refl _, S5 _ _ hD, fun k hk => by obtain ⟨bb, g1, g2⟩ := ht k hk; exact ⟨bb, g1, g2.same S5⟩⟩ (fun i σ H' _ ⟨_, _, _, _, _, s, _⟩ => SqL.of (s _ _ h5)) ?_ ?_
      · rintro i x σ H6 H7 hi ⟨d, kvs, y6, y7, rfl, S6, hd, ht⟩ ⟨rfl, hx⟩
        rw [lc] at hi hx
        obtain ⟨m, hm⟩ : ∃ m, m = n - 1 - i := ⟨_, rfl⟩
        obtain ⟨am, ham, hatm⟩ := row m (by omega)
        have ex : x = V.ref am := by
          rw [← hm, List.getElem?_map, List.getElem?_take, if_pos (by omega), ham] at hx
          exact (Option.some.inj hx).symm
        subst ex
        have fm := few m (by omega)
        have S36 := S35.trans S6
        have S06 := S03.trans S36
        have enm : n - i = m + 1 := by omega
        refine ⟨_, rfl, am, rfl, ⟨_, SqL.of (S36 _ _ hatm)⟩, fun D2 nD2 => ?_⟩
        refine walk_by (walk_list (K := K) (a := am) (xs := iV (L.getD m []))) (fun t H' => ∃ kvs2, Same H7 H' ∧ H' D2 = some (.dK kvs2) ∧ kvs2.length ≤ t ∧ Tab H' kvs2 ((L.getD m []).take t) (gI ws (i + 1))) ⟨[], same_upd nD2, upd_same, Nat.le_refl _, fun k hk => by simp at hk⟩ (fun t H' ⟨_, s, _⟩ => s.seq (SqL.of (S36 _ _ hatm))) ?_ ?_
        · rintro t x H8 H9 htl ⟨kvs2, S8, hD2, hl2, ht2⟩ ⟨rfl, hx⟩
          obtain ⟨j, hj, rfl⟩ := iV_get hx
          have hjm := List.mem_of_getElem? hj
          have hjw := fm.1 j hjm
          have ht8 : t < 8 := by
            have := (List.getElem?_eq_some_iff.mp hj).1
            omega
          obtain ⟨wa, hwa, hwt⟩ := paired_get h4 (List.getElem?_eq_getElem hjw)
          have ed : ws.getD j [] = ws[j] := by rw [List.getD_eq_getElem?_getD, List.getElem?_eq_getElem hjw]; rfl
          rw [← ed] at hwt
          have S08 := S06.trans S8
          have len1 := piece (i + 1) m j (by omega) hjm
          refine ⟨rfl, _, rfl, _, rfl, _, rfl, p, _, _, .ref wa, rfl, rfl, SqT.of (S08 _ _ h2), atI_nat (by rw [List.getElem?_map, hwa]; rfl), _, rfl, wa, d, ws.getD j [], kvs, gI ws i, rfl, hwt.same S08, S8 _ _ hd, fun k hk => ?_, ?_, fun Ha t2 Sa na ha => ⟨kvs2, Sum.inl (j : Int), rfl, Sa _ _ hD2, ?_, putK kvs2 (Sum.inl (j : Int)) (.ref t2), sPut (S8.trans Sa) nD2, upd_same, ?_, ?_⟩⟩
          · have hk2 := hL.next m (by omega) j hjm k hk
            rw [← enm] at hk2
            obtain ⟨bb, g1, g2⟩ := ht k hk2
            exact ⟨bb, g1, g2.same S8⟩
          · have len2 : (growG (gI ws i) (ws.getD j [])).length ≤ 60000 := len1
            omega
          · rw [sizeLine_eq]; omega
          · have := length_putK kvs2 (Sum.inl (j : Int)) (.ref t2); omega
          · rw [take_more hj]
            have sT : TupS Ha (upd Ha D2 (.dK (putK kvs2 (Sum.inl (j : Int)) (.ref t2)))) := TupS.dict (Sa _ _ hD2)
            exact Tab.put ht2 ((TupS.of Sa).trans sT) (sT.wd ha)
        · rintro H8 ⟨kvs2, S8, hD2, hl2, ht2⟩
          have lz : (iV (L.getD m [])).length = (L.getD m []).length := by unfold iV; rw [List.length_map]
          rw [lz, List.take_length] at ht2
          refine ⟨D2, kvs2, _, _, rfl, S6.trans S8, hD2, ?_⟩
          have e2 : n - (i + 1) = m := by omega
          rw [e2]
          exact ht2
      · rintro σ H6 ⟨d, kvs, y6, y7, rfl, S6, hd, ht⟩
        rw [lc, Nat.sub_self] at ht
        have S06 := S03.trans (S35.trans S6)
        have eg : growG (gI ws n) st = grown ws st n := by
          have := growG_grown ws st n 0
          rw [Nat.zero_add] at this
          exact this
        refine ⟨_, rfl, _, rfl, pq, d, st, kvs, gI ws n, rfl, h3.same S06, hd, fun k hk => ht k (hL.first k hk), by rw [eg]; omega, ?_⟩
        rw [eg]
        exact fun H7 p7 S7 n7 h7 => q H7 p7 (S06.trans S7) (S06.free n7) h7
end
end SK
namespace SK
open PySem PySem.Spec PyProof.Rows L2
def spLayS (K : PySem.W.Frag) : Sp := fun vs H Q _ => ∃ (a pn : Addr) (w : List Sy) (p : Plc), vs = [.ref a, .ref pn] ∧ WdAt H a w ∧ SqT K H pn (plV p) ∧ 0 ≤ p.2.2 ∧ p.2.2 < 4 ∧ nest w 0 ≠ none ∧ w.length ≤ 1000000 ∧ NewLaid (penF one (stt p) w) H Q
def spDraw : Sp := fun vs H Q _ => ∃ (a : Addr) (w : List Sy), vs = [.ref a] ∧ WdAt H a w ∧ nest w 0 ≠ none ∧ w.length ≤ 1000000 ∧ NewStrs (strokes w) H Q
section
variable {P : Program} {w : World} {K : PySem.W.Frag} {mg : Str → Option Value} {base : Heap}
theorem ok_lays {f : Addr} {fd : FuncData} {k : Nat} {dflt sa : Addr} (F : FunD K "lay_strokes" "lay_strokes" (defArgs s_lay_strokes) (defBody s_lay_strokes) (defScope s_lay_strokes) [.ref dflt] [] f fd) (GL : Got P w K mg base "lay" k ["word", "ends", "pen"] (spLay K))
    (mS : mg "STROKE" = some (.ref sa)) (hS : ModT K sa (plV (1, 0, 0))) (mI : mg "isinstance" = none) (mSt : mg "str" = none) :
    FnOk P w K mg base CX0 (k + 1) f fd ["word", "pen"] (spLayS K) := by
  refine F.ok sc_lay_strokes (fun vs H Q E h => ?_) (fun cdv A outer s H vs Q EE hr h => ex_nox ?_)
  · obtain ⟨a, pn, w, p, rfl, _⟩ := h
    rfl
  · obtain ⟨a, pn, w, p, rfl, hw, hp, p0, p4, hn, hl, q⟩ := h
    have nd := sc_lay_strokes.nd
    refine ⟨_, pss_cons (ps_setDc (i := 2) (own := [("part", 3)]) (g := gName 3) (tt := tNotStr K 3) (tk := tVar 3) (tv := tC (.ref sa)) rfl nd rfl rfl (sw_trueD rfl rfl rfl (by decide +kernel)) (pi_tup (pv 0)) (blkOk_by (N := n_lay_strokes) (sc := defScope s_lay_strokes) (by decide +kernel))
          (fun _ _ _ _ _ => pg_name (i := 3) nd rfl (Or.inl rfl)) (fun _ _ _ _ _ => pts_one (ptNotStr mI mSt (pv 3))) (fun _ _ _ _ _ => pv 3) (fun _ _ _ _ _ => pe_glob (v := .ref sa) rfl mS rfl))
      (pss_one (ps_ret (pcall GL hr (pa_cons (pv 0) (pa_cons (pv 2) (pa_cons (pv 1) pa_nil)))))), ?_⟩
    refine ⟨_, rfl, a, rfl, ⟨_, hw.sq⟩, fun D nD => ?_⟩
    refine dc_tup (K := K) (a := a) (xs := wv w) (fun i H' => ∃ kvs, Same H H' ∧ H' D = some (.dK kvs) ∧ kvs.length ≤ i ∧ ∀ k, Sy.l k ∈ w.take i → valV kvs (.inl (k : Int)) = some (.ref sa))
      ⟨[], same_upd nD, upd_same, Nat.le_refl _, fun k hk => by simp at hk⟩ (fun i H' _ ⟨_, s, _⟩ => (hw.same s).sq) ?_ ?_
    · rintro i x H1 hx ⟨kvs, S1, hD, hlen, hv⟩
      obtain ⟨s, hs, rfl⟩ := wv_get hx
      have hi : i < w.length := (List.getElem?_eq_some_iff.mp hs).1
      obtain ⟨tn, tb, ht, hk, htb⟩ := ty_sy (K := K) (H := H1) s
      refine ⟨rfl, _, rfl, s.v, tn, tb, rfl, ht, hk, tb, rfl, ?_⟩
      subst htb
      rw [Bool.not_not]
      have no : isL s = false → ∀ k, Sy.l k ∈ w.take (i + 1) → Sy.l k ∈ w.take i := fun z k hk => by
        rw [take_more hs] at hk
        rcases List.mem_append.mp hk with h | h
        · exact h
        · rw [← List.mem_singleton.mp h] at z; cases z
      cases s with
      | l j =>
        refine iteT ⟨_, rfl, kvs, Sum.inl (j : Int), rfl, hD, ?_, putK kvs (Sum.inl (j : Int)) (.ref sa), sPut S1 nD, upd_same, ?_, fun k hk => ?_⟩
        · rw [sizeLine_eq]; omega
        · have := length_putK kvs (Sum.inl (j : Int)) (.ref sa); omega
        · rw [valV_put]
          by_cases e : k = j
          · subst e
            rw [if_pos rfl]
          · rw [if_neg (fun z => e (by injection z with z; omega))]
            rw [take_more hs] at hk
            rcases List.mem_append.mp hk with h | h
            · exact hv k h
            · exact absurd (by injection List.mem_singleton.mp h) e
      | p => exact iteF ⟨kvs, S1, hD, by omega, fun k hk => hv k (no rfl k hk)⟩
      | m => exact iteF ⟨kvs, S1, hD, by omega, fun k hk => hv k (no rfl k hk)⟩
      | o => exact iteF ⟨kvs, S1, hD, by omega, fun k hk => hv k (no rfl k hk)⟩
      | c => exact iteF ⟨kvs, S1, hD, by omega, fun k hk => hv k (no rfl k hk)⟩
    · rintro H1 ⟨kvs, S1, hD, hlen, hv⟩
      rw [List.length_map, List.take_length] at hv
      refine ⟨_, rfl, _, rfl, _, rfl, a, D, pn, w, kvs, one, p, rfl, hw.same S1, hD, fun k hk => ⟨sa, hv k hk, hS.sq⟩, sTup S1 hp, p0, p4, hn, hl, ?_⟩
      exact fun H2 t la e as S2 n2 h2 n3 h3 hA he => q H2 t la e as (S1.trans S2) (S1.free n2) h2 (S1.free n3) h3 hA he
theorem ok_draw {f : Addr} {fd : FuncData} {k : Nat} {pd : Addr} (F : Fun K "draw" "draw" s_draw f fd) (GL : GotD P w K mg base "lay_strokes" k ["word", "pen"] [.ref pd] (spLayS K)) (hP : ModT K pd (plV (0, 0, 0))) (mT : mg "tuple" = none) :
    FnOk P w K mg base CX0 (k + 1) f fd ["word"] spDraw := by
  refine F.ok sc_draw (fun vs H Q E h => ?_) (fun cdv A outer s H vs Q E hr h => ?_)
  · obtain ⟨a, w, rfl, _⟩ := h
    rfl
  · obtain ⟨a, w, rfl, hw, hn, hl, q⟩ := h
    have nd := sc_draw.nd
    refine ⟨_, pss_cons (ps_asg (pcallD GL hr (pa_cons (pv 0) pa_nil)) (pg_tup (by rfl) (pgs_cons (pg_name (i := 1) nd rfl (.inl rfl)) (pgs_cons (pg_name (i := 2) nd rfl (.inl rfl)) pgs_nil))))
      (pss_one (ps_ret (ptupleN mT (pv 1)))), ?_⟩
    refine ⟨_, rfl, a, pd, w, (0, 0, 0), rfl, hw, hP.sq, by decide, by decide, hn, hl, fun H1 t la e as S1 n1 h1 n2 h2 hA he => ?_⟩
    refine ⟨t, _, rfl, SqT.of h1, rfl, _, _, rfl, _, _, rfl, rfl, ?_⟩
    refine ⟨_, rfl, la, _, rfl, SqL.of h2, fun H5 p5 S5 n5 h5 => q H5 p5 as (S1.trans S5) (S1.free n5) h5 ?_⟩
    have e1 : (penF one (stt (0, 0, 0)) w).out = strokes w := by
      show (penE one w).out = _
      rw [pen_one]; rfl
    rw [← e1]
    exact hA.keep (.of S5)
def spDrawing : Sp := fun vs H Q _ => ∃ (b : Addr) (n : Nat) (ws : List (List Sy)) (st : List Sy), vs = [.ref b, .int n] ∧ BookAt H b ws st ∧ GoodBook ws st ∧ n ≤ 1000 ∧ (grown ws st n).length ≤ 60000 ∧ nest (grown ws st n) 0 ≠ none ∧ NewStrs (strokes (grown ws st n)) H Q
theorem ok_drawing {f : Addr} {fd : FuncData} {k : Nat} (F : Fun K "drawing" "drawing" s_drawing f fd) (GW : Got P w K mg base "word_at" k ["book", "age"] spWordAt) (GD : Got P w K mg base "draw" k ["word"] spDraw) :
    FnOk P w K mg base CX0 (k + 1) f fd ["book", "age"] spDrawing := by
  refine F.ok sc_drawing (fun vs H Q E h => ?_) (fun cdv A outer s H vs Q E hr h => ?_)
  · obtain ⟨b, n, ws, st, rfl, _⟩ := h
    rfl
  · obtain ⟨b, n, ws, st, rfl, hb, hg, hn, hl, hnest, q⟩ := h
    refine ⟨_, pss_one (ps_ret (pcall GD hr (pa_cons (pcall GW hr (pa_cons (pv 0) (pa_cons (pv 1) pa_nil))) pa_nil))), ?_⟩
    refine ⟨_, rfl, _, rfl, b, n, ws, st, rfl, hb, hg, hn, hl, fun H1 p1 S1 n1 h1 => ⟨p1, _, rfl, h1, hnest, by omega, fun H2 p2 as S2 n2 h2 hA => q H2 p2 as (S1.trans S2) (S1.free n2) h2 hA⟩⟩
end
end SK
namespace SK
open PySem PySem.Spec PyProof.Rows L2
/-- the number of the first of i strokes that lies so -/
def fst (ss : List Stk) : Nat → Edge → Option Nat
  | 0, _ => none
  | i + 1, e => match fst ss i e with
    | some m => some m
    | none => match ss[i]? with
      | some s => if e = edge s then some i else none
      | none => none
/-- the first stroke that draws the same as one ahead of it -/
def tw (ss : List Stk) : Nat → Option (Nat × Nat)
  | 0 => none
  | i + 1 => match tw ss i with
    | some x => some x
    | none => match ss[i]? with
      | some s => match fst ss i (edge s) with
        | some m => some (m, i)
        | none => none
      | none => none
theorem tw_more {ss : List Stk} {i : Nat} {x : Nat × Nat} (h : tw ss i = some x) : ∀ n, tw ss (i + n) = some x
  | 0 => h
  | n + 1 => by
    show (match tw ss (i + n) with | some x => some x | none => _) = _
    rw [tw_more h n]
theorem tw_some {ss : List Stk} {i m : Nat} {s : Stk} (h : tw ss i = none) (hs : ss[i]? = some s) (hf : fst ss i (edge s) = some m) : tw ss (i + 1) = some (m, i) := by
  unfold tw
  rw [h]
  dsimp only
  rw [hs]
  dsimp only
  rw [hf]
theorem tw_none {ss : List Stk} {i : Nat} {s : Stk} (h : tw ss i = none) (hs : ss[i]? = some s) (hf : fst ss i (edge s) = none) : tw ss (i + 1) = none := by
  unfold tw
  rw [h]
  dsimp only
  rw [hs]
  dsimp only
  rw [hf]
theorem fst_lt {ss : List Stk} {e : Edge} : ∀ {i m : Nat}, fst ss i e = some m → m < i
  | 0, _, h => by cases h
  | i + 1, m, h => by
    unfold fst at h
    cases g : fst ss i e with
    | some k =>
      rw [g] at h
      cases h
      have := fst_lt g
      omega
    | none =>
      rw [g] at h
      cases q : ss[i]? with
      | none => rw [q] at h; cases h
      | some s =>
        rw [q] at h
        by_cases z : e = edge s
        · have h : (if e = edge s then some i else none) = some m := h
          rw [if_pos z] at h; cases h; omega
        · have h : (if e = edge s then some i else none) = some m := h
          rw [if_neg z] at h; cases h
/-- the value of it -/
def TwV (H H' : Hp) (t : Option (Nat × Nat)) (v : V) : Prop := match t with
  | none => v = .non
  | some (m, n) => ∃ p, v = .ref p ∧ H p = none ∧ H' p = some (.tup [.int (m : Int), .int (n : Int)])
def SeenAt (P : Program) (w : World) (H : Hp) (D : Addr) (ss : List Stk) (i : Nat) : Prop := ∃ ys, EDict P w H D ys ∧ ys.length ≤ i ∧ ∀ e, valE ys e = (fst ss i e).map fun m => V.int (m : Int)
theorem seen_next {P : Program} {w : World} {H : Hp} {D b : Addr} {ss : List Stk} {i : Nat} {s : Stk} {ys : List ERow} (h1 : EDict P w H D ys) (h2 : ys.length ≤ i) (h3 : ∀ e, valE ys e = (fst ss i e).map fun m => V.int (m : Int)) (hb : EdgeAt H b (edge s)) (hs : ss[i]? = some s)
    {v : V} (hv : v = .int ((fst ss i (edge s)).getD i : Nat)) : SeenAt P w (upd H D (edO P w D (putE ys (edge s) b v))) D ss (i + 1) := by
  refine ⟨_, h1.put hb v, by have := putE_len ys (edge s) b v; omega, fun e => ?_⟩
  rw [valE_put, h3]
  show _ = (match fst ss i e with | some m => some m | none => match ss[i]? with | some s => if e = edge s then some i else none | none => none).map fun m => V.int (m : Int)
  rw [hs]
  by_cases z : e = edge s
  · subst z
    rw [if_pos rfl, hv]
    cases fst ss i (edge s) with
    | some m => rfl
    | none => show some (V.int (i : Int)) = (if edge s = edge s then some i else none).map fun m => V.int (m : Int); rw [if_pos rfl]; rfl
  · rw [if_neg z]
    cases fst ss i e with
    | some m => rfl
    | none => show none = (if e = edge s then some i else none).map fun m => V.int (m : Int); rw [if_neg z]; rfl
def spTwice : Sp := fun vs H Q _ => ∃ (b : Addr) (n : Nat) (ws : List (List Sy)) (st : List Sy), vs = [.ref b, .int n] ∧ BookAt H b ws st ∧ GoodBook ws st ∧ n ≤ 1000 ∧ (grown ws st n).length ≤ 60000 ∧ nest (grown ws st n) 0 ≠ none ∧
  ∀ H' v, Same H H' → TwV H H' (tw (strokes (grown ws st n)) (strokes (grown ws st n)).length) v → Q v H'
section
variable {P : Program} {w : World} {K : PySem.W.Frag} {mg : Str → Option Value} {base : Heap}
theorem ok_twice {f : Addr} {fd : FuncData} {k : Nat} (F : Fun K "drawn_twice" "drawn_twice" s_drawn_twice f fd) (GD : Got P w K mg base "drawing" k ["book", "age"] spDrawing) (GE : Got P w K mg base "ends_of" k ["stroke"] spEndsOf) (mE : mg "enumerate" = none) :
    FnOk P w K mg base CX0 (k + 1) f fd ["book", "age"] spTwice := by
  refine F.ok sc_drawn_twice (fun vs H Q E h => ?_) (fun cdv A outer s H vs Q E hr h => ?_)
  · obtain ⟨b, n, ws, st, rfl, _⟩ := h
    rfl
  · obtain ⟨b, n, ws, st, rfl, hb, hg, hn, hl, hnest, q⟩ := h
    have nd := sc_drawn_twice.nd
    refine ⟨_, pss_cons (ps_set (i := 2) nd rfl (.inl rfl) pe_enew)
      (pss_cons (ps_for PassesOwn.never rfl (pi_enumT (by rfl) mE (pa_cons (pcall GD hr (pa_cons (pv 0) (pa_cons (pv 1) pa_nil))) pa_nil)) (pg_tup (by rfl) (pgs_cons (pg_name (i := 3) nd rfl (.inl rfl)) (pgs_cons (pg_name (i := 4) nd rfl (.inl rfl)) pgs_nil)))
        (pss_cons (ps_set (i := 5) nd rfl (.inl rfl) (pcall GE hr (pa_cons (pv 4) pa_nil)))
        (pss_cons (ps_if (pt_cmp (pc_ein hr.units (pv 5) (pv 2))) (pss_one (ps_ret (ptupN (pa_cons (pe_eget hr.units (pv 2) (pv 5) (fun _ _ => rfl)) (pa_cons (pv 3) pa_nil))))) pss_nil)
        (pss_one (ps_eput hr.units (pv 2) (pv 5) (pv 3) rfl)))))
      (pss_one (ps_ret pe_non))), ?_⟩
    intro D nD
    have S0 : Same H (upd H D (edO P w D [])) := same_upd nD
    have hD0 : EDict P w (upd H D (edO P w D [])) D [] := ⟨upd_same, fun y hy => nomatch hy⟩
    refine ⟨_, rfl, _, rfl, b, n, ws, st, rfl, hb.keep (.of S0), hg, hn, hl, hnest, ?_⟩
    · intro H1 tp as S1 n1 h1 hA
      have S01 := S0.trans S1
      obtain ⟨so, sl⟩ := strokes_ok hnest
      generalize strokes (grown ws st n) = ss at hA so sl q
      refine ⟨tp, _, rfl, SqT.of h1, for_enumT (K := K) (a := tp) (xs := as.map V.ref) (fun i σ H' => ∃ (y3 y4 y5 : Option V), σ = [some (.ref b), some (.int n), some (.ref D), y3, y4, y5] ∧ Same H H' ∧ SeenAt P w H' D ss i ∧ H' tp = some (.tup (as.map V.ref)) ∧ Strs H' as ss ∧ tw ss i = none)
        ⟨none, none, none, rfl, S01, ⟨[], hD0.keep S1, Nat.le_refl _, fun e => rfl⟩, h1, hA, rfl⟩ (fun i σ H' ⟨_, _, _, _, _, _, h, _⟩ => SqT.of h) ?_ ?_⟩
      · rintro i x T σ H2 hx ⟨y3, y4, y5, rfl, S2, ⟨ys, hd, hyl, hv⟩, ht, hA2, ht2⟩ nT
        obtain ⟨a, s, rfl, hs, ha⟩ := stk_get hA2 hx
        have sT : Same H2 (upd H2 T (.tup [.int (i : Nat), .ref a])) := same_upd nT
        refine ⟨T, _, rfl, SqT.of upd_same, rfl, _, _, rfl, _, _, rfl, rfl, ?_⟩
        have ho := so s (List.mem_of_getElem? hs)
        refine ⟨_, rfl, a, s, rfl, sT _ _ ha, ho.1, ho.2, fun H3 r S3 n3 hr3 => ?_⟩
        have S23 := sT.trans S3
        have hd3 := hd.keep S23
        refine ⟨_, rfl, _, rfl, D, r, edge s, ys, rfl, rfl, hd3, hr3, ?_⟩
        have il : i < ss.length := (List.getElem?_eq_some_iff.mp hs).1
        have hve := hv (edge s)
        cases hf : fst ss i (edge s) with
        | some m =>
          rw [hf] at hve
          refine ⟨_, rfl, ?_⟩
          rw [hve]
          refine iteT ⟨_, rfl, _, rfl, D, r, edge s, ys, _, rfl, rfl, hd3, hr3, hve, _, rfl, szl 2, fun H4 p4 S4 n4 h4 => ?_⟩
          have S04 := (S2.trans S23).trans S4
          refine q H4 _ S04 ?_
          have e1 := tw_some ht2 hs hf
          have e2 : tw ss ss.length = some (m, i) := by
            have := tw_more e1 (ss.length - (i + 1))
            rw [show i + 1 + (ss.length - (i + 1)) = ss.length by omega] at this
            exact this
          rw [e2]
          exact ⟨p4, rfl, (S2.trans S23).free n4, h4⟩
        | none =>
          rw [hf] at hve
          refine ⟨_, rfl, ?_⟩
          rw [hve]
          refine iteF ⟨_, rfl, _, rfl, _, rfl, D, r, edge s, ys, rfl, rfl, hd3, hr3, ?_, ?_⟩
          · rw [sizeLine_eq]; omega
          have tS : TupS H3 (upd H3 D (edO P w D (putE ys (edge s) r (.int (i : Nat))))) := TupS.ext hd3.1
          refine ⟨_, _, _, rfl, sPut (S2.trans S23) nD, seen_next hd3 hyl hv hr3 hs (by rw [hf]; rfl), tS.1 _ _ (S23 _ _ ht), (hA2.keep (.of S23)).keep tS, tw_none ht2 hs hf⟩
      · rintro σ H2 ⟨y3, y4, y5, rfl, S2, _, _, hA2, ht2⟩
        refine q H2 _ S2 ?_
        have e : (as.map V.ref).length = ss.length := by rw [List.length_map]; exact hA2.length
        rw [e] at ht2
        rw [ht2]
        rfl
end
end SK
namespace SK
open PySem PySem.Spec PyProof.Rows L2
/-- two, sorted -/
theorem sort_two {k : V → Int × Int} {x y : V} {ys : List V} (hs : SrtO.Srtd (ltP k) ys) (hp : SrtO.Stb (ltP k) ys [x, y]) : ys = if ltZ (k y) (k x) = true then [y, x] else [x, y] := by
  have e : ∀ a b : Int × Int, SrtO.lexB a b = ltZ a b := fun a b => by
    unfold ltZ
    cases h : SrtO.lexB a b with
    | true => exact (decide_eq_true (SrtO.lexB_iff.mp h)).symm
    | false => exact (decide_eq_false (SrtO.lexB_no.mp h)).symm
  by_cases z : ltZ (k y) (k x) = true
  · rw [if_pos z]
    have hz : ltP k y x = true := (e _ _).trans z
    have hn : ltP k x y = false := by
      have h := SrtO.lexB_iff.mp hz
      refine SrtO.lexB_no.mpr ?_
      omega
    refine SrtO.stb_uniq (ltP_swo k) hs ?_ (hp.trans ⟨List.Perm.swap _ _ _, fun v => ?_⟩)
    · exact List.pairwise_cons.mpr ⟨fun a ha => by rw [List.mem_singleton.mp ha]; exact hn, List.pairwise_singleton _ _⟩
    · cases hx : SrtO.eqv (ltP k) v x with
      | false =>
        rw [List.filter_cons_of_neg (by rw [hx]; decide)]
        cases hy : SrtO.eqv (ltP k) v y with
        | false => rw [List.filter_cons_of_neg (by rw [hy]; decide), List.filter_cons_of_neg (by rw [hy]; decide), List.filter_cons_of_neg (by rw [hx]; decide)]
        | true => rw [List.filter_cons_of_pos hy, List.filter_cons_of_pos hy, List.filter_cons_of_neg (by rw [hx]; decide)]
      | true =>
        have hy : SrtO.eqv (ltP k) v y = false := by
          rw [← SrtO.eqv_trans (ltP_swo k) (show SrtO.eqv (ltP k) x v = true by
            obtain ⟨a, b⟩ := SrtO.eqv_iff.mp hx
            exact SrtO.eqv_iff.mpr ⟨b, a⟩)]
          unfold SrtO.eqv
          rw [hz]
          simp
        rw [List.filter_cons_of_pos hx, List.filter_cons_of_neg (by rw [hy]; decide), List.filter_cons_of_neg (by rw [hy]; decide), List.filter_cons_of_pos hx]
  · rw [if_neg z]
    refine SrtO.stb_uniq (ltP_swo k) hs ?_ hp
    exact List.pairwise_cons.mpr ⟨fun a ha => by
      rw [List.mem_singleton.mp ha]
      cases h : ltP k y x with
      | false => rfl
      | true => exact absurd ((e _ _).symm.trans h) z, List.pairwise_singleton _ _⟩
end SK
namespace SK
open PySem PySem.Spec PyProof.Rows L2
/-- the pair of numbers as it stands in a heap -/
def TwAt (H : Hp) (t : Option (Nat × Nat)) (v : V) : Prop := match t with
  | none => v = .non
  | some (m, n) => ∃ p, v = .ref p ∧ H p = some (.tup [.int (m : Int), .int (n : Int)])
theorem TwV.at {H H' : Hp} {t : Option (Nat × Nat)} {v : V} (h : TwV H H' t v) : TwAt H' t v := by
  cases t with
  | none => exact h
  | some x => obtain ⟨p, e, _, g⟩ := h; exact ⟨p, e, g⟩
theorem TwAt.keep {H H' : Hp} (s : TupS H H') {t : Option (Nat × Nat)} {v : V} (h : TwAt H t v) : TwAt H' t v := by
  cases t with
  | none => exact h
  | some x => obtain ⟨p, e, g⟩ := h; exact ⟨p, e, s.1 _ _ g⟩
theorem alk_tw {H : Hp} {n : Nat} {t : Option (Nat × Nat)} {v u : V} (h : TwAt H t v) (g : TwAt H t u) : Alk H (n + 1) v u := by
  cases t with
  | none =>
    have h : v = .non := h
    have g : u = .non := g
    subst h g
    exact Alk.flat rfl _
  | some x =>
    obtain ⟨p, rfl, hp⟩ := h
    obtain ⟨q, rfl, hq⟩ := g
    refine Alk.flats (.inl hp) (.inl hq) (by show 2 ≤ _; decide) fun x hx => ?_
    simp only [List.mem_cons, List.not_mem_nil, or_false] at hx
    rcases hx with rfl | rfl <;> rfl
end SK
namespace SK
open PySem PySem.Spec PyProof.Rows L2
abbrev n_lawB : List Str := ["script", "row", "book", "age", "word", "strokes", "end", "due", "seen", "k", "unit", "key", "many", "work", "error"]
theorem sc_lawB : FnScope n_lawB ["script"] (defScope s_law) := ⟨rfl, rfl, rfl, by decide +kernel, rfl, by decide +kernel, by decide +kernel⟩
def spLaw (K : PySem.W.Frag) (TP : Addr) : Sp := fun vs H Q _ => ∃ (a : Addr) (ns : List Int), vs = [.ref a] ∧ SqL K H a (ns.map V.int) ∧ ns.length ≤ 63 ∧ H TP = some (.tbl #[]) ∧ ∀ H', Q (.bl true) H'
/-- what is left of the law behind the three that are compared -/
def tRest (TP : Addr) : TS := fun D σ H => H TP = some (.tbl #[]) ∧ ∃ (y0 y1 y2 y3 y4 y5 y6 y7 y8 y9 y10 y11 y12 y13 y14 : Option V), σ = [y0, y1, y2, y3, y4, y5, y6, y7, y8, y9, y10, y11, y12, y13, y14] ∧ ∀ H', D.rt (.bl true) H'
structure LawG (P : Program) (w : World) (K : PySem.W.Frag) (mg : Str → Option Value) (base : Heap) (k : Nat) : Prop where
  pick : Got P w K mg base "_law_pick" k ["row", "things"] (spPick K)
  book : Got P w K mg base "_law_book" k ["row"] (spBook K)
  kit : Got P w K mg base "_law_kit" k ["row"] (spBook K)
  even : Got P w K mg base "_law_even_book" k ["row"] (spEvenBook K)
  taken : Got P w K mg base "_law_taken" k ["row", "many"] (spTaken K)
  age : Got P w K mg base "_law_age" k ["book", "most"] (spAge K)
  grown : Got P w K mg base "_law_grown" k ["book", "age"] (spGrown K)
  drawn : Got P w K mg base "_law_drawn" k ["word"] (spDrawnL K)
  unit : Got P w K mg base "_law_unit" k ["heading"] spUnit
  alike : Got P w K mg base "_law_alike" k ["found", "due"] (spAlike 4)
  wordat : Got P w K mg base "word_at" k ["book", "age"] spWordAt
  drawing : Got P w K mg base "drawing" k ["book", "age"] spDrawing
  twice : Got P w K mg base "drawn_twice" k ["book", "age"] spTwice
  mR : mg "range" = none
  ml : mg "len" = none
  mT : mg "tuple" = none
  mO : mg "sorted" = none
/-- what holds ahead of each turn of the law's own walk over the strokes -/
def LawInv (P : Program) (w : World) (a r b p9 fa pe D : Addr) (age : Nat) (H10 : Hp) (ss : List Stk) (i : Nat) : L2.St → Hp → Prop := fun σ H' => ∃ (dv : V) (y9 y10 y11 : Option V), σ = [some (.ref a), some (.ref r), some (.ref b), some (.int age), some (.ref p9), some (.ref fa), some (.ref pe), some dv, some (.ref D), y9, y10, y11, none, none, none] ∧
  Same H10 H' ∧ SeenAt P w H' D ss i ∧ TwAt H' (tw ss i) dv
section
variable {P : Program} {w : World} {K : PySem.W.Frag} {mg : Str → Option Value} {base : Heap}
theorem ok_law {f c TP : Addr} {k : Nat} {oc kV doc pm ct : Value} {od an : Option Addr} {osl : Array (Option Value)} (lk : K.lookup f = some ⟨oc, od, .func (PySem.W.fnOf "law" "law" (defArgs s_law) (defBody s_law) (defScope s_law) .none kV doc pm an (.ref c) ct), osl⟩) (hcd : PySem.W.codeIn K (.ref c) "law" = true) (G : LawG P w K mg base k)
    (R : ∀ (A : Around) (outer : List Env) (s : Shared) (H : Hp) (E : XK), Room k (A.deeper (envOfC "law" (defScope s_law) s.heap.objs.size f (.ref c))) → PSs (cxOf CX0 P w K mg base n_lawB "law" (defScope s_law) f (.ref c) A outer s H E).nox ((defBody s_law).drop 8) (tRest TP)) :
    FnOk P w K mg base CX0 (k + 1) f (PySem.W.fnOf "law" "law" (defArgs s_law) (defBody s_law) (defScope s_law) .none kV doc pm an (.ref c) ct) ["script"] (spLaw K TP) := by
  refine fn_of lk hcd sc_lawB (fun vs H Q E h => ?_) (fun A outer s H vs Q E hr h => ex_nox ?_)
  · obtain ⟨a, ns, rfl, _⟩ := h
    rfl
  · obtain ⟨a, ns, rfl, ha, hns, hTP, q⟩ := h
    have nd := sc_lawB.nd
    obtain ⟨GP, GB, GK, GE, GT, GA, GG, GD, GU, GL, gW, gD, gT, mR, ml, mT, mO⟩ := G
    refine ⟨_, pss_cons (ps_set (i := 1) nd rfl (.inl rfl) (plstK (pa_cons (pv 0) (pa_cons pe_int (pa_cons pe_int (pa_cons pe_int pa_nil))))))
      (pss_cons (ps_set (i := 2) nd rfl (.inl rfl) (pcall GP hr (pa_cons (pv 1) (pa_cons (plstN (pa_cons (pcall GB hr (pa_cons (pv 1) pa_nil)) (pa_cons (pcall GK hr (pa_cons (pv 1) pa_nil)) (pa_cons (pixT (pcall GE hr (pa_cons (pv 1) pa_nil)) pe_int) pa_nil)))) pa_nil))))
      (pss_cons (ps_set (i := 3) nd rfl (.inl rfl) (pcall GT hr (pa_cons (pv 1) (pa_cons (padd pe_int (pcall GA hr (pa_cons (pv 2) (pa_cons pe_int pa_nil)))) pa_nil))))
      (pss_cons (ps_set (i := 4) nd rfl (.inl rfl) (pcall GG hr (pa_cons (pv 2) (pa_cons (pv 3) pa_nil))))
      (pss_cons (ps_asg (pcall GD hr (pa_cons (pv 4) pa_nil)) (pg_tup (by rfl) (pgs_cons (pg_name (i := 5) nd rfl (.inl rfl)) (pgs_cons (pg_name (i := 6) nd rfl (.inl rfl)) pgs_nil))))
      (pss_cons (ps_par rfl nd (i := 7) (j := 8) rfl rfl (by decide) rfl rfl (pa_cons pe_non (pa_cons pe_enew pa_nil)) (by rfl))
      (pss_cons (ps_for PassesOwn.never rfl (pi_range1 rfl mR (pa_cons (plen ml (pv 5)) pa_nil)) (pg_name (i := 9) nd rfl (.inl rfl))
        (pss_cons (ps_set (i := 10) nd rfl (.inl rfl) (pcall GU hr (pa_cons (pixT (pix (pv 5) (pv 9)) pe_int) pa_nil)))
        (pss_cons (ps_set (i := 11) nd rfl (.inl rfl) (ptupleN mT (pe_callB cr_sortedPO (by rfl) mO (by decide +kernel) (pa_cons (plstN (pa_cons (pe_slice sl_tupN (pix (pv 5) (pv 9)) po_none (po_some pe_int)) (pa_cons (ptupN (pa_cons (padd (pixT (pix (pv 5) (pv 9)) pe_int) (pixT (pv 10) pe_int)) (pa_cons (padd (pixT (pix (pv 5) (pv 9)) pe_int) (pixT (pv 10) pe_int)) pa_nil))) pa_nil))) pa_nil) (by decide) (by decide))))
        (pss_cons (ps_set (i := 7) nd rfl (.inl rfl) (pe_ifExp (PW.pt (pw_and (pt_cmpR op_isN (pv 7) pe_non (nomark _)) (pw_and1 (pt_cmp (pc_ein hr.units (pv 11) (pv 8)))))) (ptupN (pa_cons (pe_eget hr.units (pv 8) (pv 11) (fun _ _ => rfl)) (pa_cons (pv 9) pa_nil))) (pv 7)))
        (pss_one (ps_eput hr.units (pv 8) (pv 11) (pe_eget2 hr.units (pv 8) (pv 11) (pv 9) ⟨rfl, rfl, rfl, rfl⟩) rfl))))))
      (pss_cons (ps_if (pt_not (pt_val (pcall GL hr (pa_cons (plstN (pa_cons (pcall gW hr (pa_cons (pv 2) (pa_cons (pv 3) pa_nil))) (pa_cons (pcall gD hr (pa_cons (pv 2) (pa_cons (pv 3) pa_nil))) (pa_cons (pcall gT hr (pa_cons (pv 2) (pa_cons (pv 3) pa_nil))) pa_nil)))) (pa_cons (plstN (pa_cons (ptupleN mT (pv 4)) (pa_cons (ptupleN mT (pv 5)) (pa_cons (pv 7) pa_nil)))) pa_nil))))) pss_never pss_nil)
        (R A outer s H E hr)))))))), ?_⟩
    refine ⟨_, rfl, szl 4, fun H1 r S1 n1 k1 h1 => ?_⟩
    have nar : a ≠ r := by
      rcases ha with (e | ⟨o, e⟩) | ⟨o, its, n, e, _⟩
      · exact ne_of_none e n1
      · exact ne_of_none e n1
      · intro z; rw [z, show K.lookup r = none from k1] at e; cases e
    have hR1 : RowOk K (a, ns) H1 r := ⟨0, 11301, 0, h1, S1.seq ha, Int.le_refl _, nar, hns⟩
    refine ⟨_, rfl, _, rfl, r, (a, ns), rfl, hR1, fun H2 b1 ws1 st1 D1 B1 g1 => ⟨_, rfl, r, (a, ns), rfl, D1.row, fun H3 b2 ws2 st2 D2 B2 g2 => ⟨_, rfl, r, (a, ns), rfl, D2.row, fun H4 p3 b3 m3 ws3 st3 D3 h3 B3 g3 => ?_⟩⟩⟩
    refine ⟨p3, _, _, _, rfl, rfl, SqT.of h3, at0, szl 3, fun H5 q5 S5 n5 h5 => ?_⟩
    have hR5 := D3.row.same S5
    refine ⟨r, q5, (a, ns), _, rfl, hR5, D3.row.there n5, h5, by show 1 ≤ 3; decide, by show 3 < _; decide, fun H6 k6 v6 D6 hv6 => ?_⟩
    have T56 := D6.tups hR5
    have bk : ∃ b ws st, v6 = .ref b ∧ BookAt H6 b ws st ∧ GoodBook ws st := by
      have hm := List.mem_of_getElem? hv6
      simp only [List.mem_cons, List.not_mem_nil, or_false] at hm
      rcases hm with rfl | rfl | rfl
      · exact ⟨b1, ws1, st1, rfl, (((B1.keep (D2.tups D1.row)).keep (D3.tups D2.row)).keep (.of S5)).keep T56, g1⟩
      · exact ⟨b2, ws2, st2, rfl, ((B2.keep (D3.tups D2.row)).keep (.of S5)).keep T56, g2⟩
      · exact ⟨b3, ws3, st3, rfl, (B3.keep (.of S5)).keep T56, g3⟩
    obtain ⟨b, ws, st, rfl, B6, g⟩ := bk
    have hR6 := D6.row
    have nTr : TP ≠ r := ne_of_none hTP n1
    have hT6 := D6.at nTr (S5 _ _ (D3.at nTr (D2.at nTr (D1.at nTr (S1 _ _ hTP)))))
    clear B1 B2 B3 g1 g2 g3 D1 D2 D3 D6 hR5 T56 hv6 h3 S5 n5 h5 hR1 h1 S1 n1
    refine ⟨_, rfl, _, rfl, b, 400, ws, st, rfl, B6, g, by decide, by decide, fun H7 n S7 low => ⟨_, _, rfl, rfl, ?_⟩⟩
    have en : (V.int (1 + (n : Int))) = V.int ((1 + n : Nat) : Int) := by congr 1
    dsimp only; rw [en]
    have hn8 := low.1
    refine ⟨r, (a, ns), 1 + n, rfl, hR6.same S7, by omega, by omega, fun H8 age D8 hage => ?_⟩
    have B8 := (B6.keep (.of S7)).keep (D8.tups (hR6.same S7))
    have hT8 := D8.at nTr (S7 _ _ hT6)
    have low8 := low.mono (show age ≤ n by omega)
    have len8 := low8.len g
    have nst := nest_grown' g age
    have a8 := low8.1
    clear B6 hR6 S7 D8 low en hage hn8
    refine ⟨_, rfl, _, rfl, b, age, ws, st, rfl, B8, g, by omega, by omega, fun H9 p9 S9 n9 h9 => ?_⟩
    refine ⟨_, rfl, p9, _, rfl, .inl (SqL.of h9), nst, by omega, fun H10 pp fa pe as S10 n10 h10 hfa hA nfa _ => ?_⟩
    refine ⟨pp, _, rfl, SqT.of h10, rfl, _, _, rfl, _, _, rfl, rfl, ?_⟩
    have B10 := (B8.keep (.of S9)).keep (.of S10)
    have hT10 := S10 _ _ (S9 _ _ hT8)
    have h9' := S10 _ _ h9
    have nst2 := nst
    obtain ⟨so, sl⟩ := strokes_ok nst
    clear B8 S9 n9 h9 S10 n10 h10 nfa
    intro D nD
    refine ⟨_, _, rfl, ?_⟩
    have S11 : Same H10 (upd H10 D (edO P w D [])) := same_upd nD
    have hD : EDict P w (upd H10 D (edO P w D [])) D [] := ⟨upd_same, fun y hy => nomatch hy⟩
    refine ⟨_, rfl, fa, _, rfl, .inl (SqL.of (S11 _ _ hfa)), ((as.map V.ref).length : Int), rfl, ?_, ?_, ?_⟩
    · rw [List.length_map, hA.length]; omega
    · rw [List.length_map, hA.length]; omega
    rw [Int.toNat_natCast, List.length_map, hA.length]
    refine for_range (lo := 0) (n := (strokes (grown ws st age)).length) (LawInv P w a r b p9 fa pe D age H10 (strokes (grown ws st age)))
      ⟨_, _, _, _, rfl, S11, ⟨[], hD, Nat.le_refl _, fun e => rfl⟩, rfl⟩ ?_ ?_
    · rintro i σ H2 hi ⟨dv, y9, y10, y11, rfl, S2, ⟨ys, hd, hyl, hv⟩, htw⟩
      rw [show (0 : Int) + (i : Int) = (i : Int) from Int.zero_add _]
      generalize strokes (grown ws st age) = ss at *
      have hs : ss[i]? = some ss[i] := List.getElem?_eq_getElem hi
      generalize ss[i] = t at hs
      have ht := so t (List.mem_of_getElem? hs)
      obtain ⟨sa, hsa, hst⟩ := paired_get hA hs
      have hix : atI (as.map V.ref) (i : Int) = some (.ref sa) := atI_nat (by rw [List.getElem?_map, hsa]; rfl)
      have L2 := S2 _ _ hfa
      have T2 := S2 _ _ hst
      refine ⟨_, rfl, _, rfl, fa, _, _, _, rfl, rfl, SqL.of L2, hix, sa, _, _, _, rfl, rfl, SqT.of T2, at2, t.2.2.1, rfl, ht.1, ht.2, fun H3 u S3 n3 h3 => ?_⟩
      have L3 := S3 _ _ L2
      have T3 := S3 _ _ T2
      refine ⟨_, rfl, _, rfl, fa, _, _, _, rfl, rfl, SqL.of L3, hix, 2, rfl, sa, _, rfl, SqT.of T3, ?_, fun H4 pb S4 n4 h4 => ?_⟩
      · rintro ⟨_, z⟩
        have z : HT.sIx 4 4 (some ((2 : Nat) : Int)) = 4 := z
        rw [HT.sIx_nat] at z
        cases z
      have h4 : H4 pb = some (.tup [.int t.1, .int t.2.1]) := by
        rw [h4, show cutV (stV t) none (some 2) = (stV t).take 2 from cut_to _ 2]
        rfl
      have L4 := S4 _ _ L3
      have T4 := S4 _ _ T3
      have U4 := S4 _ _ h3
      refine ⟨_, rfl, _, rfl, fa, _, _, _, rfl, rfl, SqL.of L4, hix, sa, _, _, _, rfl, rfl, SqT.of T4, at0, _, rfl, u, _, _, _, rfl, rfl, SqT.of U4, at0, _, _, rfl, rfl, ?_⟩
      refine ⟨_, rfl, _, rfl, fa, _, _, _, rfl, rfl, SqL.of L4, hix, sa, _, _, _, rfl, rfl, SqT.of T4, at1, _, rfl, u, _, _, _, rfl, rfl, SqT.of U4, at1, _, _, rfl, rfl, ?_⟩
      refine ⟨szl 2, fun H5 pd S5 n5 h5 => ⟨szl 2, fun H6 pl S6 n6 h6 => ?_⟩⟩
      have h46 := S6 _ _ (S5 _ _ h4)
      have h56 := S6 _ _ h5
      have nbd : (V.ref pb) ≠ (V.ref pd) := fun z => by
        injection z with z
        exact ne_of_none h4 n5 z
      refine ⟨pl, _, fun v => if v = V.ref pd then (t.1 + (dir t.2.2.1).1, t.2.1 + (dir t.2.2.1).2) else (t.1, t.2.1), rfl, SqL.of h6, ?_, fun zs ps hsrt hstb nps => ?_⟩
      · intro x hx
        simp only [List.mem_cons, List.not_mem_nil, or_false] at hx
        rcases hx with rfl | rfl
        · exact ⟨pb, rfl, by dsimp only; rw [if_neg nbd]; exact h46⟩
        · exact ⟨pd, rfl, by dsimp only; rw [if_pos rfl]; exact h56⟩
      have hz := sort_two hsrt hstb
      rw [if_pos rfl, if_neg nbd] at hz
      refine ⟨ps, zs, rfl, SqL.of upd_same, fun H7 pk S7 n7 h7 => ?_⟩
      have S67 := (same_upd (o := .lst zs) nps).trans S7
      have S27 := (((S3.trans S4).trans S5).trans S6).trans S67
      have hk : EdgeAt H7 pk (edge t) := by
        unfold edge
        by_cases z : ltZ (t.1 + (dir t.2.2.1).1, t.2.1 + (dir t.2.2.1).2) (t.1, t.2.1) = true
        · rw [if_pos z] at hz ⊢
          rw [hz] at h7
          exact ⟨pd, pb, h7, S67 _ _ h56, S67 _ _ h46⟩
        · rw [if_neg z] at hz ⊢
          rw [hz] at h7
          exact ⟨pb, pd, h7, S67 _ _ h46, S67 _ _ h56⟩
      have S7' := S2.trans S27
      have hd7 := hd.keep S27
      have tw7 := htw.keep (.of S27)
      clear S3 S4 S5 S6 S7 S67 h3 h4 h5 h6 h7 h46 h56 L2 L3 L4 T2 T3 T4 U4 hz hsrt hstb nps n3 n4 n5 n6 n7 nbd
      have hve := hv (edge t)
      -- behind due: the rest of the turn
      have fin : ∀ (DD : Ends) (dv' : V) (y9 y10 y11 : Option V) (H8 : Hp), Same H7 H8 → TwAt H8 (tw ss (i + 1)) dv' → y11 = some (.ref pk) → y9 = some (.int i) → (∀ σ H', LawInv P w a r b p9 fa pe D age H10 ss (i + 1) σ H' → DD.nx σ H') →
          sEPut (cxOf CX0 P w K mg base n_lawB "law" (defScope s_law) f (.ref c) A outer s H E).nox (tVar 8) (tVar 11) (tEGet2 (cxOf CX0 P w K mg base n_lawB "law" (defScope s_law) f (.ref c) A outer s H E).nox (tVar 8) (tVar 11) (tVar 9))
            DD [some (.ref a), some (.ref r), some (.ref b), some (.int age), some (.ref p9), some (.ref fa), some (.ref pe), some dv', some (.ref D), y9, y10, y11, none, none, none] H8 := by
        rintro DD dv' y9 y10 y11 H8 S8 t8 rfl rfl hDD
        have hd8 := hd7.keep S8
        have hk8 := hk.keep (.of S8)
        refine ⟨_, rfl, D, ys, rfl, hd8, _, rfl, _, rfl, pk, edge t, rfl, hd8, hk8, _, rfl, _, rfl, D, pk, edge t, ys, rfl, rfl, hd8, hk8, ?_, ?_⟩
        · rw [sizeLine_eq]; omega
        refine hDD _ _ ⟨dv', _, _, _, rfl, sPut (S7'.trans S8) nD, seen_next hd8 hyl hv hk8 hs ?_, t8.keep (TupS.ext hd8.1)⟩
        rw [hve]
        cases fst ss i (edge t) <;> rfl
      cases htwi : tw ss i with
      | some x =>
        rw [htwi] at tw7
        have tw7' := tw7
        obtain ⟨px, rfl, _⟩ := tw7
        refine ⟨_, rfl, rfl, _, rfl, itN (fun z => nomatch z) ⟨_, rfl, fin _ _ _ _ _ _ (Same.refl _) ?_ rfl rfl fun σ H' z => z⟩⟩
        rw [tw_more htwi 1]
        exact tw7'
      | none =>
        rw [htwi] at tw7
        obtain rfl : dv = .non := tw7
        refine ⟨_, rfl, rfl, _, rfl, itY rfl ⟨_, rfl, _, rfl, D, pk, edge t, ys, rfl, rfl, hd7, hk, ?_⟩⟩
        refine ⟨_, rfl, ?_⟩
        cases hf : fst ss i (edge t) with
        | some m =>
          rw [hf] at hve
          rw [hve]
          refine iteT ⟨_, rfl, _, rfl, D, pk, edge t, ys, _, rfl, rfl, hd7, hk, hve, _, rfl, szl 2, fun H8 p8 S8 n8 h8 => fin _ _ _ _ _ _ S8 ?_ rfl rfl fun σ H' z => z⟩
          rw [tw_some htwi hs hf]
          exact ⟨p8, rfl, h8⟩
        | none =>
          rw [hf] at hve
          rw [hve]
          refine iteF ⟨_, rfl, fin _ _ _ _ _ _ (Same.refl _) ?_ rfl rfl fun σ H' z => z⟩
          rw [tw_none htwi hs hf]
          rfl
    · rintro σ H2 ⟨dv, y9, y10, y11, rfl, S2, _, htw⟩
      have B2 := B10.keep (.of S2)
      have A2 := hA.keep (.of S2)
      have fa2 := S2 _ _ hfa
      have p92 := S2 _ _ h9'
      refine ⟨_, rfl, _, rfl, b, age, ws, st, rfl, B2, g, by omega, by omega, fun H3 w3 S3 n3 h3 => ?_⟩
      refine ⟨_, rfl, _, rfl, b, age, ws, st, rfl, B2.keep (.of S3), g, by omega, by omega, nst, fun H4 d4 as4 S4 n4 h4 hA4 => ?_⟩
      refine ⟨_, rfl, _, rfl, b, age, ws, st, rfl, (B2.keep (.of S3)).keep (.of S4), g, by omega, by omega, nst, fun H5 v5 S5 tv5 => ?_⟩
      refine ⟨szl 3, fun H6 l6 S6 n6 h6 => ?_⟩
      have S26 := ((S3.trans S4).trans S5).trans S6
      refine ⟨_, rfl, p9, _, rfl, SqL.of (S26 _ _ p92), fun H7 q7 S7 n7 h7 => ?_⟩
      refine ⟨_, rfl, fa, _, rfl, SqL.of (S7 _ _ (S26 _ _ fa2)), fun H8 q8 S8 n8 h8 => ?_⟩
      refine ⟨_, rfl, szl 3, fun H9 l9 S9' n9 h9 => ?_⟩
      have S79 := (S7.trans S8).trans S9'
      have S29 := S26.trans S79
      have lens : (strokes (grown ws st age)).length ≤ 10000000 := by omega
      have hw9 : WdAt H9 w3 (grown ws st age) := (((h3.same S4).same S5).same S6).same S79
      have hd9 : H9 d4 = some (.tup (as4.map V.ref)) := S79 _ _ (S6 _ _ (S5 _ _ h4))
      have hA9 : Strs H9 as4 (strokes (grown ws st age)) := ((hA4.keep (.of S5)).keep (.of S6)).keep (.of S79)
      have ht9 := (tv5.at.keep (.of S6)).keep (.of S79)
      have hq7 := S9' _ _ (S8 _ _ h7)
      have hq8 := S9' _ _ h8
      have hB9 := A2.keep (.of S29)
      have htw9 := htw.keep (.of S29)
      have hl6 := S79 _ _ h6
      refine ⟨_, _, rfl, Alk.lst hl6 h9 rfl (by show 3 ≤ _; decide) ?_, fun H10' S10' => ⟨_, rfl, iteF ⟨S10' _ _ (S29 _ _ (S2 _ _ hT10)), _, _, _, _, _, _, _, _, _, _, _, _, _, _, _, rfl, q⟩⟩⟩
      intro i x y hx hy
      match i, hx, hy with
      | 0, hx, hy =>
        cases hx
        cases hy
        exact alk_word hw9 hq7 (by omega)
      | 1, hx, hy =>
        cases hx
        cases hy
        exact alk_strs hd9 hq8 hA9 hB9 lens
      | 2, hx, hy =>
        cases hx
        cases hy
        exact alk_tw ht9 htw9
      | n + 3, hx, hy => cases hx
end
end SK
namespace SK
open PySem PySem.Spec PyProof.Rows L2
open LamX (CodeO TabS ExtN TabB)
def lamAt (i : Nat) : Expr := match (defBody s_law).getD 9 (.Pass ⟨0, 0, 0, 0⟩) with
  | .For _ (.List es _) _ _ _ => es.getD i (.Constant .none 0 ⟨0, 0, 0, 0⟩)
  | _ => .Constant .none 0 ⟨0, 0, 0, 0⟩
def lamArgs : Expr → Arguments
  | .Lambda a _ _ _ => a
  | _ => { posonlyargs := [], args := [], vararg := none, kwonlyargs := [], kw_defaults := [], kwarg := none, defaults := [] }
def lamBody : Expr → Expr
  | .Lambda _ b _ _ => b
  | e => e
def lamScope : Expr → Scope
  | .Lambda _ _ s _ => s
  | _ => { kind := .function, names := [], isGenerator := false, isCoroutine := false }
abbrev qLam : Str := (("law" : Str) ++ ".<locals>.") ++ "<lambda>"
/-! the curve of fours -/
def w4 : List (List Sy) := [[.l 0, .l 0, .l 0, .l 0]]
theorem grow4 : ∀ n, grow w4 (List.replicate n (.l 0)) = List.replicate (4 * n) (.l 0)
  | 0 => rfl
  | n + 1 => by
    show [Sy.l 0, .l 0, .l 0, .l 0] ++ grow w4 (List.replicate n (.l 0)) = _
    rw [grow4 n, show 4 * (n + 1) = 4 * n + 4 by omega]
    rfl
theorem grown4 : ∀ n, grown w4 [.l 0] n = List.replicate (4 ^ n) (.l 0)
  | 0 => rfl
  | n + 1 => by
    show grow w4 (grown w4 [.l 0] n) = _
    rw [grown4 n, grow4, Nat.pow_succ, Nat.mul_comm]
theorem long4 {n : Nat} (h : 8 ≤ n) : 60000 < (grown w4 [.l 0] n).length := by
  rw [grown4, List.length_replicate]
  exact Nat.lt_of_lt_of_le (by decide : 60000 < 4 ^ 8) (Nat.pow_le_pow_right (by decide) h)
theorem good4 : GoodBook w4 [.l 0] := by
  refine ⟨by decide, by decide, fun w hw => ?_, ?_⟩
  · rw [List.mem_singleton.mp hw]
    exact ⟨rfl, fun k hk => by
      simp only [List.mem_cons, List.not_mem_nil, or_false] at hk
      rcases hk with e | e | e | e <;> cases e <;> decide, rfl, by decide, by decide⟩
  · exact ⟨rfl, fun k hk => by
      simp only [List.mem_cons, List.not_mem_nil, or_false] at hk
      cases hk; decide, rfl, by decide, by decide⟩
theorem sc_lam0 : FnScope [] [] (lamScope (lamAt 0)) := ⟨rfl, rfl, rfl, by decide +kernel, rfl, by decide +kernel, by decide +kernel⟩
theorem sc_lam1 : FnScope ["a"] ["a"] (lamScope (lamAt 1)) := ⟨rfl, rfl, rfl, by decide +kernel, rfl, by decide +kernel, by decide +kernel⟩
section
variable {P : Program} {w : World} {K : PySem.W.Frag} {mg : Str → Option Value} {base : Heap} {C : Addr} {k : Nat}
theorem lam0_runs (GW : GotX P w K mg base "word_at" k ["book", "age"] (spWordX C)) {f c' : Addr} {H : Hp} {Q : VK} {E : XK} (hf : H f = some (LamO f qLam (lamArgs (lamAt 0)) (lamBody (lamAt 0)) (lamScope (lamAt 0)) .none c')) (hc : H c' = some (CodeO c' qLam)) (he : ErrTm C H E) :
    LamRuns P w K mg base (k + 1) f H Q E := by
  refine ⟨⟨_, _, _, _, _, _, hf⟩, fun A outer s hr e0 => ?_⟩
  obtain ⟨⟨doc, pm, ctv, hg⟩, _, _⟩ := (show ObjOk P w H s.heap f (LamO f qLam (lamArgs (lamAt 0)) (lamBody (lamAt 0)) (lamScope (lamAt 0)) .none c') from e0.hok f _ hf)
  refine lam_run (us := []) (vs := []) sc_lam0 hr e0 hg hc (BindsTo.of_eq (by first | rfl | with_unfolding_all rfl)) .nil rfl fun hr' => ⟨_, pcallX GW hr' (takes_of rfl rfl rfl rfl) (pa_cons (ptupN (pa_cons (ptupN (pa_cons (ptupF (pa_cons pe_int (pa_cons pe_int (pa_cons pe_int (pa_cons pe_int pa_nil))))) pa_nil)) (pa_cons (ptupF (pa_cons pe_int pa_nil)) pa_nil))) (pa_cons pe_int pa_nil)), ?_⟩
  refine ⟨szl 4, NewW.of (fun H1 w1 S1 n1 h1 => ⟨szl 1, fun H2 p2 S2 n2 h2 => ⟨szl 1, NewW.of (fun H3 w3 S3 n3 h3 => ⟨szl 2, fun H4 b S4 n4 h4 => ?_⟩) (w := [.l 0]) rfl⟩⟩) (w := [.l 0, .l 0, .l 0, .l 0]) rfl⟩
  exact ⟨b, 8, w4, [.l 0], rfl, ⟨p2, w3, [w1], h4, S4 _ _ (S3 _ _ h2), h3.same S4, .cons (((h1.same S2).same S3).same S4) .nil⟩, good4, by decide, long4 (by decide), he.keep (((S1.trans S2).trans S3).trans S4)⟩
theorem lam1_runs (GD : GotX P w K mg base "drawing" k ["book", "age"] (spWordX C)) {f c' d : Addr} {H : Hp} {Q : VK} {E : XK} (hf : H f = some (LamO f qLam (lamArgs (lamAt 1)) (lamBody (lamAt 1)) (lamScope (lamAt 1)) (.ref d) c')) (hc : H c' = some (CodeO c' qLam)) (hd : H d = some (.tup [.int 0])) (he : ErrTm C H E) :
    LamRuns P w K mg base (k + 1) f H Q E := by
  refine ⟨⟨_, _, _, _, _, _, hf⟩, fun A outer s hr e0 => ?_⟩
  obtain ⟨⟨doc, pm, ctv, hg⟩, _, _⟩ := (show ObjOk P w H s.heap f (LamO f qLam (lamArgs (lamAt 1)) (lamBody (lamAt 1)) (lamScope (lamAt 1)) (.ref d) c') from e0.hok f _ hf)
  obtain ⟨_, its, r, o, h1, h2, n, h3⟩ := (show ObjOk P w H s.heap d (.tup [.int 0]) from e0.hok d _ hd)
  obtain ⟨u, rfl, ru⟩ := vals1 r
  obtain ⟨t, rfl⟩ := ru
  refine lam_run (us := [.int 0 t]) (vs := [.int 0]) sc_lam1 hr e0 hg hc (BindsTo.of_defaults (T := d) rfl h1 h3 (by first | rfl | with_unfolding_all rfl) (by first | rfl | with_unfolding_all rfl)) (.cons ⟨t, rfl⟩ .nil) rfl fun hr' => ⟨_, pcallX GD hr' (takes_of rfl rfl rfl rfl) (pa_cons (ptupN (pa_cons (ptupN (pa_cons (ptupF (pa_cons pe_int (pa_cons pe_int (pa_cons pe_int (pa_cons pe_int pa_nil))))) pa_nil)) (pa_cons (ptupF (pa_cons pe_int pa_nil)) pa_nil))) (pa_cons pe_int pa_nil)), ?_⟩
  refine ⟨szl 4, NewW.of (fun H1 w1 S1 n1 h1 => ⟨szl 1, fun H2 p2 S2 n2 h2 => ⟨szl 1, NewW.of (fun H3 w3 S3 n3 h3 => ⟨szl 2, fun H4 b S4 n4 h4 => ?_⟩) (w := [.l 0]) rfl⟩⟩) (w := [.l 0, .l 0, .l 0, .l 0]) rfl⟩
  exact ⟨b, 1000, w4, [.l 0], rfl, ⟨p2, w3, [w1], h4, S4 _ _ (S3 _ _ h2), h3.same S4, .cons (((h1.same S2).same S3).same S4) .nil⟩, good4, by decide, long4 (by decide), he.keep (((S1.trans S2).trans S3).trans S4)⟩
end
end SK
namespace SK
open PySem PySem.Spec PyProof.Rows L2
open LamX (CodeO TabS ExtN TabB)
/-- a call of what the slot holds: a lambda that runs so -/
def tWork (P : Program) (w : World) (K : PySem.W.Frag) (mg : Str → Option Value) (base : Heap) (k : Nat) (W : WX) : TS := tDrop fun σ H Q => ∃ f, σ[13]? = some (some (.ref f)) ∧ LamRuns P w K mg base k f H Q (WE W σ)
/-- many = many + int(isinstance(error, TooMany) and error.most == 60000) -/
def tSuite (C : Addr) (a : Addr) (cls : Value) (d : Option Addr) : TS := fun D σ H => ∃ (m : Int) (dd : Addr), σ[12]? = some (some (.int m)) ∧ σ[14]? = some (some (.ref a)) ∧ cls = .ref C ∧ d = some dd ∧ H dd = some (.xd [(("most" : Str), .int 60000)]) ∧ D.nx (σ.set 12 (some (.int (m + 1)))) H
theorem psimp2 {X : Cx} {st : Stmt} {t : TS} (t' : TS) (h : PS X st t) (f : ∀ D σ H, t' D σ H → t D σ H) : PS X st t' := ⟨fun pins s σ H D I q => h.run pins s σ H D I (f D σ H q)⟩
section
variable {P : Program} {w : World} {K : PySem.W.Frag} {mg : Str → Option Value} {base : Heap}
theorem law_rest {f c TP C CS fI : Addr} {k : Nat} (T : TmTxt P K mg C fI) (T2 : IsTxt K C) (TB : TabB base mg c TP) (gS : mg "StrokeError" = some (.ref CS)) (te : PySem.W.exmOne K (.ref C) (.ref CS) = some true)
    (GW : GotX P w K mg base "word_at" k ["book", "age"] (spWordX C)) (GD : GotX P w K mg base "drawing" k ["book", "age"] (spWordX C)) (mI : mg "isinstance" = none) (mi : mg "int" = none)
    {A : Around} {outer : List Env} {s : Shared} {H : Hp} {E : XK} (hr : Room (k + 1) (A.deeper (envOfC "law" (defScope s_law) s.heap.objs.size f (.ref c)))) :
    PSs (cxOf CX0 P w K mg base n_lawB "law" (defScope s_law) f (.ref c) A outer s H E).nox ((defBody s_law).drop 8) (tRest TP) := by
  have nd := sc_lawB.nd
  refine pssimp _ (pss_cons (ps_set (i := 12) nd rfl (.inl rfl) pe_int)
    (pss_cons (ps_for PassesOwn.never rfl (pi_list (plstN (pa_cons (pe_lam0 (c := c) (P := TP) (q := qLam) (params := lamArgs (lamAt 0)) (body := lamBody (lamAt 0)) (scope := lamScope (lamAt 0)) TB rfl rfl rfl rfl)
        (pa_cons (pe_lam1 (c := c) (P := TP) (q := qLam) (i := 0) (params := lamArgs (lamAt 1)) (body := lamBody (lamAt 1)) (scope := lamScope (lamAt 1)) TB rfl rfl rfl rfl rfl) pa_nil)))) (pg_name (i := 13) nd rfl (.inl rfl))
      (pss_one (ps_try_as (i := 14) (tb := tWork P w K mg base (k + 1)) (ts := tSuite C) (Wout := fun _ _ _ _ => False) rfl rfl nd rfl rfl ⟨rfl, by decide, .inl gS⟩ takes0
        (fun W pn xe tk _ => pss_one (ps_expr (pe_callLam (k := k + 1) (i := 13) tk hr rfl (.inl rfl))))
        (fun a oe cls d pn hz hf => pssimp _ (pss_one (ps_set (i := 12) nd rfl (.inl rfl) (padd (pv 12) (pint mi (pe_and (pe_callB (call_isTm T T2 hz hf) (by rfl) mI (by decide +kernel) (pa_cons (pv 14) (pa_cons (pe_glob (v := .ref C) rfl T.gC rfl) pa_nil)) (by decide) (by decide)) (pe_one (pe_cmpR op_eq (pe_most T hz hf (pv 14)) pe_int (nomark _)))))))) ?suite))))
    (pss_one (ps_ret (pe_cmpR op_eq (pv 12) pe_int (nomark _)))))) ?_
  case suite =>
    rintro D σ H ⟨m, dd, e12, e14, rfl, rfl, hd, q⟩
    refine ⟨_, e12, _, e14, rfl, rfl, dd, _, rfl, hd, true, rfl, iteT ⟨_, e14, rfl, rfl, dd, _, rfl, hd, rfl, ?_⟩⟩
    rw [decide_eq_true (rfl : V.int 60000 = V.int 60000)]
    exact .inr ⟨true, rfl, _, _, rfl, rfl, q⟩
  rintro D σ H0 ⟨hTP, y0, y1, y2, y3, y4, y5, y6, y7, y8, y9, y10, y11, y12, y13, y14, rfl, q⟩
  refine ⟨LamX.TabS.nil hTP, fun f1 c1 H1 e1 t1 n1 m1 hc1 => ?_⟩
  have nl : ∀ {f q params body scope dV c'} (ps : Array Value), LamO f q params body scope dV c' ≠ .tbl ps := fun ps z => by unfold LamO at z; cases z
  have k1 := same_upd (o := LamO f1 qLam (lamArgs (lamAt 0)) (lamBody (lamAt 0)) (lamScope (lamAt 0)) .none c1) n1
  refine ⟨t1.ext k1, fun d f2 c2 H2 nd' e2 t2 n2 m2 hc2 => ?_⟩
  have g1 : (upd H1 f1 (LamO f1 qLam (lamArgs (lamAt 0)) (lamBody (lamAt 0)) (lamScope (lamAt 0)) .none c1)) f1 = some _ := upd_same
  have gc := k1 _ _ hc1
  have k2 := same_upd (o := .tup [.int 0]) nd'
  have g1' := e2 _ _ (k2 _ _ g1) nl
  have gc' := e2 _ _ (k2 _ _ gc) LamX.codeO_ne
  have gd' := e2 d _ upd_same (fun ps z => by cases z)
  have k3 := same_upd (o := LamO f2 qLam (lamArgs (lamAt 1)) (lamBody (lamAt 1)) (lamScope (lamAt 1)) (.ref d) c2) n2
  refine ⟨szl 2, fun H3 l S3 n3 h3 => ?_⟩
  have F1 := S3 _ _ (k3 _ _ g1')
  have C1 := S3 _ _ (k3 _ _ gc')
  have D1 := S3 _ _ (k3 _ _ gd')
  have F2 := S3 f2 _ upd_same
  have C2 := S3 _ _ (k3 _ _ hc2)
  refine ⟨l, rfl, ⟨_, SqL.of h3⟩, for_list (g := gName 13) (tb := fun D σ H => tWork P w K mg base (k + 1) (wAs K (.ref CS) 14 (tSuite C) (fun _ _ _ _ => False) D) D σ H) (K := K) (a := l) (xs := [.ref f1, .ref f2]) (fun i σ H' => ∃ (y13 y14 : Option V), σ = [y0, y1, y2, y3, y4, y5, y6, y7, y8, y9, y10, y11, some (.int i), y13, y14] ∧ Same H3 H')
    ⟨_, _, rfl, Same.refl _⟩ (fun i σ H' _ ⟨_, _, _, S⟩ => SqL.of (S _ _ h3)) ?_ ?_⟩
  · rintro i x σ H4 hx ⟨z13, z14, rfl, S4⟩
    match i, hx with
    | 0, hx =>
      cases hx
      exact ⟨f1, rfl, lam0_runs GW (S4 _ _ F1) (S4 _ _ C1) fun H5 d5 S5 n5 h5 => ⟨true, te, fun _ a ha => ⟨0, d5, rfl, rfl, rfl, rfl, h5, _, _, rfl, S4.trans S5⟩, fun z => Bool.noConfusion z⟩⟩
    | 1, hx =>
      cases hx
      exact ⟨f2, rfl, lam1_runs GD (S4 _ _ F2) (S4 _ _ C2) (S4 _ _ D1) fun H5 d5 S5 n5 h5 => ⟨true, te, fun _ a ha => ⟨1, d5, rfl, rfl, rfl, rfl, h5, _, _, rfl, S4.trans S5⟩, fun z => Bool.noConfusion z⟩⟩
    | n + 2, hx => cases hx
  · rintro σ H4 ⟨z13, z14, rfl, S4⟩
    refine ⟨_, rfl, rfl, ?_⟩
    show D.rt (.bl (decide (V.int 2 = V.int 2))) H4
    rw [decide_eq_true (rfl : V.int 2 = V.int 2)]
    exact q _
end
end SK
namespace SK
open PySem PySem.Spec PyProof.Rows L2
/-- the known books -/
def kitL : List (List (List Sy) × List Sy) := [([[.l 0, .p, .l 1, .m], [.p, .l 0, .m, .l 1]], [.l 0]), ([[.l 0, .p, .l 0, .m, .l 0, .m, .l 0, .p, .l 0]], [.l 0]), ([[.l 0, .p, .l 0, .m]], [.l 0]), ([[.l 0, .p, .l 1, .m], [.p, .l 0, .m, .l 1]], [.l 1, .p, .l 0]), ([[.l 0, .p, .l 0, .m, .l 0, .m, .l 0, .p, .l 0]], [.l 0, .m, .l 0]), ([[.l 0, .p, .l 0, .m, .m, .l 0, .p, .l 0, .l 0]], [.l 0])]
def spKitL (K : PySem.W.Frag) : Sp := fun vs H Q _ => ∃ (r : Addr) (S : Scr), vs = [.ref r] ∧ RowOk K S H r ∧
  ∀ (H' : Hp) (p : Addr) (ws : List (List Sy)) (st : List Sy), Drawn K S r H H' → BookAt H' p ws st → GoodBook ws st → (ws, st) ∈ kitL → Q (.ref p) H'
section
variable {P : Program} {w : World} {K : PySem.W.Frag} {mg : Str → Option Value} {base : Heap}
theorem ok_kitL {f : Addr} {fd : FuncData} {k : Nat} (F : Fun K "_law_kit" "_law_kit" s_law_kit f fd) (GP : Got P w K mg base "_law_pick" k ["row", "things"] (spPick K)) : FnOk P w K mg base CX0 (k + 1) f fd ["row"] (spKitL K) := by
  refine F.ok sc_law_kit (fun vs H Q E h => ?_) (fun cdv A outer s H vs Q E hr h => ?_)
  · obtain ⟨r, S, rfl, _⟩ := h
    rfl
  · obtain ⟨r, S, rfl, hR, q⟩ := h
    have nd := sc_law_kit.nd
    refine ⟨_, pss_cons (ps_set (i := 1) nd rfl (.inl rfl) (ptupN (pa_cons (pwd (wd_l (k := 0) (wd_s (sy := .p) rfl (wd_l (k := 1) (wd_s (sy := .m) rfl wd_nil)))) (by decide)) (pa_cons (pwd (wd_s (sy := .p) rfl (wd_l (k := 0) (wd_s (sy := .m) rfl (wd_l (k := 1) wd_nil)))) (by decide)) pa_nil))))
      (pss_cons (ps_set (i := 2) nd rfl (.inl rfl) (ptupN (pa_cons (pwd (wd_l (k := 0) (wd_s (sy := .p) rfl (wd_l (k := 0) (wd_s (sy := .m) rfl (wd_l (k := 0) (wd_s (sy := .m) rfl (wd_l (k := 0) (wd_s (sy := .p) rfl (wd_l (k := 0) wd_nil))))))))) (by decide)) pa_nil)))
      (pss_cons (ps_asg (ptupN (pa_cons (ptupN (pa_cons (pwd (wd_l (k := 0) (wd_s (sy := .p) rfl (wd_l (k := 0) (wd_s (sy := .m) rfl wd_nil)))) (by decide)) pa_nil)) (pa_cons (ptupN (pa_cons (pwd (wd_l (k := 0) (wd_s (sy := .p) rfl (wd_l (k := 0) (wd_s (sy := .m) rfl (wd_s (sy := .m) rfl (wd_l (k := 0) (wd_s (sy := .p) rfl (wd_l (k := 0) (wd_l (k := 0) wd_nil))))))))) (by decide)) pa_nil)) pa_nil))) (pg_tup (by rfl) (pgs_cons (pg_name (i := 3) nd rfl (.inl rfl)) (pgs_cons (pg_name (i := 4) nd rfl (.inl rfl)) pgs_nil))))
      (pss_one (ps_ret (pcall GP hr (pa_cons (pv 0) (pa_cons (plstN (pa_cons (ptupN (pa_cons (pv 1) (pa_cons (pwd (wd_l (k := 0) wd_nil) (by decide)) pa_nil))) (pa_cons (ptupN (pa_cons (pv 2) (pa_cons (pwd (wd_l (k := 0) wd_nil) (by decide)) pa_nil))) (pa_cons (ptupN (pa_cons (pv 3) (pa_cons (pwd (wd_l (k := 0) wd_nil) (by decide)) pa_nil))) (pa_cons (ptupN (pa_cons (pv 1) (pa_cons (pwd (wd_l (k := 1) (wd_s (sy := .p) rfl (wd_l (k := 0) wd_nil))) (by decide)) pa_nil))) (pa_cons (ptupN (pa_cons (pv 2) (pa_cons (pwd (wd_l (k := 0) (wd_s (sy := .m) rfl (wd_l (k := 0) wd_nil))) (by decide)) pa_nil))) (pa_cons (ptupN (pa_cons (pv 4) (pa_cons (pwd (wd_l (k := 0) wd_nil) (by decide)) pa_nil))) pa_nil))))))) pa_nil))))))), ?_⟩
    refine fun H1 a1 s1 n1 h1 => ?_
    refine fun H2 a2 s2 n2 h2 => ?_
    refine ⟨szl 2, fun H3 a3 s3 n3 h3 => ?_⟩
    refine fun H4 a4 s4 n4 h4 => ?_
    refine ⟨szl 1, fun H5 a5 s5 n5 h5 => ?_⟩
    refine fun H6 a6 s6 n6 h6 => ?_
    refine ⟨szl 1, fun H7 a7 s7 n7 h7 => ?_⟩
    refine fun H8 a8 s8 n8 h8 => ?_
    refine ⟨szl 1, fun H9 a9 s9 n9 h9 => ?_⟩
    refine ⟨szl 2, fun H10 a10 s10 n10 h10 => ?_⟩
    refine ⟨a10, _, rfl, SqT.of h10, rfl, _, _, rfl, _, _, rfl, rfl, ?_⟩
    refine ⟨_, rfl, ?_⟩
    refine ⟨_, rfl, ?_⟩
    refine fun H11 a11 s11 n11 h11 => ?_
    refine ⟨szl 2, fun H12 a12 s12 n12 h12 => ?_⟩
    refine ⟨_, rfl, ?_⟩
    refine fun H13 a13 s13 n13 h13 => ?_
    refine ⟨szl 2, fun H14 a14 s14 n14 h14 => ?_⟩
    refine ⟨_, rfl, ?_⟩
    refine fun H15 a15 s15 n15 h15 => ?_
    refine ⟨szl 2, fun H16 a16 s16 n16 h16 => ?_⟩
    refine ⟨_, rfl, ?_⟩
    refine fun H17 a17 s17 n17 h17 => ?_
    refine ⟨szl 2, fun H18 a18 s18 n18 h18 => ?_⟩
    refine ⟨_, rfl, ?_⟩
    refine fun H19 a19 s19 n19 h19 => ?_
    refine ⟨szl 2, fun H20 a20 s20 n20 h20 => ?_⟩
    refine ⟨_, rfl, ?_⟩
    refine fun H21 a21 s21 n21 h21 => ?_
    refine ⟨szl 2, fun H22 a22 s22 n22 h22 => ?_⟩
    refine ⟨szl 6, fun H23 a23 s23 n23 h23 => ?_⟩
    have t23 : Same H23 H23 := Same.refl _
    have t22 : Same H22 H23 := s23.trans t23
    have t21 : Same H21 H23 := s22.trans t22
    have t20 : Same H20 H23 := s21.trans t21
    have t19 : Same H19 H23 := s20.trans t20
    have t18 : Same H18 H23 := s19.trans t19
    have t17 : Same H17 H23 := s18.trans t18
    have t16 : Same H16 H23 := s17.trans t17
    have t15 : Same H15 H23 := s16.trans t16
    have t14 : Same H14 H23 := s15.trans t15
    have t13 : Same H13 H23 := s14.trans t14
    have t12 : Same H12 H23 := s13.trans t13
    have t11 : Same H11 H23 := s12.trans t12
    have t10 : Same H10 H23 := s11.trans t11
    have t9 : Same H9 H23 := s10.trans t10
    have t8 : Same H8 H23 := s9.trans t9
    have t7 : Same H7 H23 := s8.trans t8
    have t6 : Same H6 H23 := s7.trans t7
    have t5 : Same H5 H23 := s6.trans t6
    have t4 : Same H4 H23 := s5.trans t5
    have t3 : Same H3 H23 := s4.trans t4
    have t2 : Same H2 H23 := s3.trans t3
    have t1 : Same H1 H23 := s2.trans t2
    have t0 : Same H H23 := s1.trans t1
    have hR' := hR.same t0
    have u := (((((((((((((((((((((s1.trans s2).trans s3).trans s4).trans s5).trans s6).trans s7).trans s8).trans s9).trans s10).trans s11).trans s12).trans s13).trans s14).trans s15).trans s16).trans s17).trans s18).trans s19).trans s20).trans s21).trans s22)
    refine ⟨r, a23, S, _, rfl, hR', (hR.same u).there n23, h23, (show 1 ≤ 6 by decide), (show 6 < 1073741824 by decide), fun H' kk v D hk => ?_⟩
    have tt := D.tups hR'
    match kk, hk with
    | 0, hk =>
      cases hk
      exact q H' a12 [[.l 0, .p, .l 1, .m], [.p, .l 0, .m, .l 1]] [.l 0] (((Drawn.refl hR).then t0).trans D) ⟨a3, a11, [a1, a2], tt.1 _ _ (t12 _ _ h12), tt.1 _ _ (t3 _ _ h3), tt.wd (h11.same t11), (.cons (tt.wd (h1.same t1)) (.cons (tt.wd (h2.same t2)) .nil))⟩ ⟨by decide, by decide, words_dec (by decide), good_dec (by decide)⟩ (.head _)
    | 1, hk =>
      cases hk
      exact q H' a14 [[.l 0, .p, .l 0, .m, .l 0, .m, .l 0, .p, .l 0]] [.l 0] (((Drawn.refl hR).then t0).trans D) ⟨a5, a13, [a4], tt.1 _ _ (t14 _ _ h14), tt.1 _ _ (t5 _ _ h5), tt.wd (h13.same t13), (.cons (tt.wd (h4.same t4)) .nil)⟩ ⟨by decide, by decide, words_dec (by decide), good_dec (by decide)⟩ (.tail _ (.head _))
    | 2, hk =>
      cases hk
      exact q H' a16 [[.l 0, .p, .l 0, .m]] [.l 0] (((Drawn.refl hR).then t0).trans D) ⟨a7, a15, [a6], tt.1 _ _ (t16 _ _ h16), tt.1 _ _ (t7 _ _ h7), tt.wd (h15.same t15), (.cons (tt.wd (h6.same t6)) .nil)⟩ ⟨by decide, by decide, words_dec (by decide), good_dec (by decide)⟩ (.tail _ (.tail _ (.head _)))
    | 3, hk =>
      cases hk
      exact q H' a18 [[.l 0, .p, .l 1, .m], [.p, .l 0, .m, .l 1]] [.l 1, .p, .l 0] (((Drawn.refl hR).then t0).trans D) ⟨a3, a17, [a1, a2], tt.1 _ _ (t18 _ _ h18), tt.1 _ _ (t3 _ _ h3), tt.wd (h17.same t17), (.cons (tt.wd (h1.same t1)) (.cons (tt.wd (h2.same t2)) .nil))⟩ ⟨by decide, by decide, words_dec (by decide), good_dec (by decide)⟩ (.tail _ (.tail _ (.tail _ (.head _))))
    | 4, hk =>
      cases hk
      exact q H' a20 [[.l 0, .p, .l 0, .m, .l 0, .m, .l 0, .p, .l 0]] [.l 0, .m, .l 0] (((Drawn.refl hR).then t0).trans D) ⟨a5, a19, [a4], tt.1 _ _ (t20 _ _ h20), tt.1 _ _ (t5 _ _ h5), tt.wd (h19.same t19), (.cons (tt.wd (h4.same t4)) .nil)⟩ ⟨by decide, by decide, words_dec (by decide), good_dec (by decide)⟩ (.tail _ (.tail _ (.tail _ (.tail _ (.head _)))))
    | 5, hk =>
      cases hk
      exact q H' a22 [[.l 0, .p, .l 0, .m, .m, .l 0, .p, .l 0, .l 0]] [.l 0] (((Drawn.refl hR).then t0).trans D) ⟨a9, a21, [a8], tt.1 _ _ (t22 _ _ h22), tt.1 _ _ (t9 _ _ h9), tt.wd (h21.same t21), (.cons (tt.wd (h8.same t8)) .nil)⟩ ⟨by decide, by decide, words_dec (by decide), good_dec (by decide)⟩ (.tail _ (.tail _ (.tail _ (.tail _ (.tail _ (.head _))))))
    | j + 6, hk => simp at hk
theorem ok_kit {f : Addr} {fd : FuncData} {k : Nat} (F : Fun K "_law_kit" "_law_kit" s_law_kit f fd) (GP : Got P w K mg base "_law_pick" k ["row", "things"] (spPick K)) : FnOk P w K mg base CX0 (k + 1) f fd ["row"] (spBook K) :=
  (ok_kitL F GP).imp fun vs H Q E ⟨r, S, e, hR, q⟩ => ⟨r, S, e, hR, fun H' p ws st D B g _ => q H' p ws st D B g⟩
end
end SK
namespace SK
open PySem PySem.Spec PyProof.Rows L2
/-- a def of the module -/
def DefAt (K : PySem.W.Frag) (mg : Str → Option Value) (x : Str) (st : Stmt) : Prop := ∃ (f : Addr) (fd : FuncData), mg x = some (.ref f) ∧ Fun K x x st f fd
/-- a def of the module with defaults -/
def DefDAt (K : PySem.W.Frag) (mg : Str → Option Value) (x : Str) (st : Stmt) (dvs : List V) : Prop := ∃ (f : Addr) (fd : FuncData), mg x = some (.ref f) ∧ FunD K x x (defArgs st) (defBody st) (defScope st) dvs [] f fd
structure Defs (K : PySem.W.Frag) (mg : Str → Option Value) : Prop where
  taken : DefAt K mg "_law_taken" s_law_taken
  pick : DefAt K mg "_law_pick" s_law_pick
  branched : DefAt K mg "_law_branched" s_law_branched
  word : DefAt K mg "_law_word" s_law_word
  book : DefAt K mg "_law_book" s_law_book
  kit : DefAt K mg "_law_kit" s_law_kit
  even_word : DefAt K mg "_law_even_word" s_law_even_word
  even_book : DefAt K mg "_law_even_book" s_law_even_book
  grown : DefAt K mg "_law_grown" s_law_grown
  unit : DefAt K mg "_law_unit" s_law_unit
  drawn : DefAt K mg "_law_drawn" s_law_drawn
  alike : DefAt K mg "_law_alike" s_law_alike
  age : DefAt K mg "_law_age" s_law_age
  is_integer : DefAt K mg "is_integer" s_is_integer
  is_word : DefAt K mg "is_word" s_is_word
  has_book_form : DefAt K mg "has_book_form" s_has_book_form
  check_book : DefAt K mg "check_book" s_check_book
  check_number : DefAt K mg "check_number" s_check_number
  letters_in : DefAt K mg "letters_in" s_letters_in
  next_letters : DefAt K mg "next_letters" s_next_letters
  count_letters : DefAt K mg "count_letters" s_count_letters
  next_counts : DefAt K mg "next_counts" s_next_counts
  check_size : DefAt K mg "check_size" s_check_size
  letters_by_age : DefAt K mg "letters_by_age" s_letters_by_age
  replace_letters : DefAt K mg "replace_letters" s_replace_letters
  word_at : DefAt K mg "word_at" s_word_at
  draw : DefAt K mg "draw" s_draw
  drawing : DefAt K mg "drawing" s_drawing
  rotate : DefAt K mg "rotate" s_rotate
  end_of_stroke : DefAt K mg "end_of_stroke" s_end_of_stroke
  ends_of : DefAt K mg "ends_of" s_ends_of
  drawn_twice : DefAt K mg "drawn_twice" s_drawn_twice
structure Blt (mg : Str → Option Value) : Prop where
  isinstance : mg "isinstance" = none
  int : mg "int" = none
  bool : mg "bool" = none
  str : mg "str" = none
  tuple : mg "tuple" = none
  list : mg "list" = none
  len : mg "len" = none
  enumerate : mg "enumerate" = none
  sorted : mg "sorted" = none
  range : mg "range" = none
  zip : mg "zip" = none
  sum : mg "sum" = none
  reversed : mg "reversed" = none
  abs : mg "abs" = none
  min : mg "min" = none
  max : mg "max" = none
section
variable {P : Program} {w : World} {K : PySem.W.Frag} {mg : Str → Option Value} {base : Heap}
theorem got {x : Str} {st : Stmt} {k : Nat} {ps : List Str} {sp : Sp} (D : DefAt K mg x st) (h : ∀ (f : Addr) (fd : FuncData), Fun K x x st f fd → FnOk P w K mg base CX0 k f fd ps sp)
    (b : ∀ (kV doc pm : Value) (an : Option Addr) (cdv ct : Value) (us : List Value), us.length = ps.length → bindArgs (PySem.W.fnOf x x (defArgs st) (defBody st) (defScope st) .none kV doc pm an cdv ct) ⟨us, []⟩ = pure (ps.zip us)) : Got P w K mg base x k ps sp := by
  obtain ⟨f, fd, m, F⟩ := D
  exact ⟨f, fd, h f fd F, m, F.kp, F.binds b⟩
theorem gotX {x : Str} {st : Stmt} {k : Nat} {ps : List Str} {sp : Sp} (D : DefAt K mg x st) (h : ∀ (f : Addr) (fd : FuncData), Fun K x x st f fd → FnOk P w K mg base (L2.CX P w) k f fd ps sp)
    (b : ∀ (kV doc pm : Value) (an : Option Addr) (cdv ct : Value) (us : List Value), us.length = ps.length → bindArgs (PySem.W.fnOf x x (defArgs st) (defBody st) (defScope st) .none kV doc pm an cdv ct) ⟨us, []⟩ = pure (ps.zip us)) : GotX P w K mg base x k ps sp := by
  obtain ⟨f, fd, m, F⟩ := D
  exact ⟨f, fd, h f fd F, m, F.kp, F.binds b⟩
theorem GotD.mono {x : Str} {j k : Nat} {ps : List Str} {dvs : List V} {sp : Sp} (g : GotD P w K mg base x j ps dvs sp) (h : j ≤ k) : GotD P w K mg base x k ps dvs sp := by
  obtain ⟨f, fd, ds, F, a, b, c, d⟩ := g.ex
  exact ⟨f, fd, ds, F.mono h, a, b, c, d⟩
/-- with the default, and without -/
theorem gotD {x : Str} {st : Stmt} {k : Nat} {ps : List Str} {dv : V} {sp : Sp} (D : DefDAt K mg x st [dv]) (h : ∀ (f : Addr) (fd : FuncData), FunD K x x (defArgs st) (defBody st) (defScope st) [dv] [] f fd → FnOk P w K mg base CX0 k f fd ps sp)
    (b : ∀ (f : Addr) (fd : FuncData), FunD K x x (defArgs st) (defBody st) (defScope st) [dv] [] f fd → ∃ ds, Vals [dv] ds ∧ Binds K fd ps ds) : GotD P w K mg base x k ps [dv] sp := by
  obtain ⟨f, fd, m, F⟩ := D
  obtain ⟨ds, v, b⟩ := b f fd F
  exact ⟨f, fd, ds, h f fd F, m, F.kp, b, v⟩
theorem gotF {x : Str} {st : Stmt} {k : Nat} {ps : List Str} {dv : V} {sp : Sp} (D : DefDAt K mg x st [dv]) (h : ∀ (f : Addr) (fd : FuncData), FunD K x x (defArgs st) (defBody st) (defScope st) [dv] [] f fd → FnOk P w K mg base CX0 k f fd ps sp)
    (b : ∀ (f : Addr) (fd : FuncData), FunD K x x (defArgs st) (defBody st) (defScope st) [dv] [] f fd → ∃ ds, Vals [] ds ∧ Binds K fd ps ds) : Got P w K mg base x k ps sp := by
  obtain ⟨f, fd, m, F⟩ := D
  obtain ⟨ds, v, b⟩ := b f fd F
  cases v
  exact ⟨f, fd, h f fd F, m, F.kp, b⟩
theorem bd_ca (f : Addr) (fd : FuncData) (F : FunD K "check_age" "check_age" (defArgs s_check_age) (defBody s_check_age) (defScope s_check_age) [V.int 1000] [] f fd) : ∃ ds, Vals [V.int 1000] ds ∧ Binds K fd ["value", "most"] ds := by
  refine F.binds1 (ps := ["value", "most"]) 1 0 (by simp) rfl (fun T kV doc pm an cdv ct us its h1 h2 => ?_)
  match us, its, h1, h2 with
  | [_], [i], _, _ => exact ⟨_, rfl, rfl⟩
theorem bf_ca (f : Addr) (fd : FuncData) (F : FunD K "check_age" "check_age" (defArgs s_check_age) (defBody s_check_age) (defScope s_check_age) [V.int 1000] [] f fd) : ∃ ds, Vals [] ds ∧ Binds K fd ["value", "most"] ds := by
  refine F.binds1 (ps := ["value", "most"]) 2 1 (by simp) rfl (fun T kV doc pm an cdv ct us its h1 h2 => ?_)
  match us, its, h1, h2 with
  | [_, _], [i], _, _ => exact ⟨_, rfl, rfl⟩
theorem bd_ba (f : Addr) (fd : FuncData) (F : FunD K "check_book_and_age" "check_book_and_age" (defArgs s_check_book_and_age) (defBody s_check_book_and_age) (defScope s_check_book_and_age) [V.int 1000] [] f fd) : ∃ ds, Vals [V.int 1000] ds ∧ Binds K fd ["book", "age", "most"] ds := by
  refine F.binds1 (ps := ["book", "age", "most"]) 2 0 (by simp) rfl (fun T kV doc pm an cdv ct us its h1 h2 => ?_)
  match us, its, h1, h2 with
  | [_, _], [i], _, _ => exact ⟨_, rfl, rfl⟩
theorem bf_ba (f : Addr) (fd : FuncData) (F : FunD K "check_book_and_age" "check_book_and_age" (defArgs s_check_book_and_age) (defBody s_check_book_and_age) (defScope s_check_book_and_age) [V.int 1000] [] f fd) : ∃ ds, Vals [] ds ∧ Binds K fd ["book", "age", "most"] ds := by
  refine F.binds1 (ps := ["book", "age", "most"]) 3 1 (by simp) rfl (fun T kV doc pm an cdv ct us its h1 h2 => ?_)
  match us, its, h1, h2 with
  | [_, _, _], [i], _, _ => exact ⟨_, rfl, rfl⟩
theorem bd_ly {pd : Addr} (f : Addr) (fd : FuncData) (F : FunD K "lay" "lay" (defArgs s_lay) (defBody s_lay) (defScope s_lay) [V.ref pd] [] f fd) : ∃ ds, Vals [V.ref pd] ds ∧ Binds K fd ["word", "ends", "pen"] ds := by
  refine F.binds1 (ps := ["word", "ends", "pen"]) 2 0 (by simp) rfl (fun T kV doc pm an cdv ct us its h1 h2 => ?_)
  match us, its, h1, h2 with
  | [_, _], [i], _, _ => exact ⟨_, rfl, rfl⟩
theorem bf_ly {pd : Addr} (f : Addr) (fd : FuncData) (F : FunD K "lay" "lay" (defArgs s_lay) (defBody s_lay) (defScope s_lay) [V.ref pd] [] f fd) : ∃ ds, Vals [] ds ∧ Binds K fd ["word", "ends", "pen"] ds := by
  refine F.binds1 (ps := ["word", "ends", "pen"]) 3 1 (by simp) rfl (fun T kV doc pm an cdv ct us its h1 h2 => ?_)
  match us, its, h1, h2 with
  | [_, _, _], [i], _, _ => exact ⟨_, rfl, rfl⟩
theorem bd_ls {pd : Addr} (f : Addr) (fd : FuncData) (F : FunD K "lay_strokes" "lay_strokes" (defArgs s_lay_strokes) (defBody s_lay_strokes) (defScope s_lay_strokes) [V.ref pd] [] f fd) : ∃ ds, Vals [V.ref pd] ds ∧ Binds K fd ["word", "pen"] ds := by
  refine F.binds1 (ps := ["word", "pen"]) 1 0 (by simp) rfl (fun T kV doc pm an cdv ct us its h1 h2 => ?_)
  match us, its, h1, h2 with
  | [_], [i], _, _ => exact ⟨_, rfl, rfl⟩
theorem bf_ls {pd : Addr} (f : Addr) (fd : FuncData) (F : FunD K "lay_strokes" "lay_strokes" (defArgs s_lay_strokes) (defBody s_lay_strokes) (defScope s_lay_strokes) [V.ref pd] [] f fd) : ∃ ds, Vals [] ds ∧ Binds K fd ["word", "pen"] ds := by
  refine F.binds1 (ps := ["word", "pen"]) 2 1 (by simp) rfl (fun T kV doc pm an cdv ct us its h1 h2 => ?_)
  match us, its, h1, h2 with
  | [_, _], [i], _, _ => exact ⟨_, rfl, rfl⟩
theorem all_got {pd_ly : Addr} {pd_ls : Addr} {t_MOST_PARTS : Tok} {t_MOST_LETTERS : Tok} {t_MOST_GROWN : Tok} {a_STROKE : Addr} {sa : Addr} {CS : Addr} {C fI : Addr} (D : Defs K mg) (B : Blt mg) (D_ca : DefDAt K mg "check_age" s_check_age [.int 1000]) (D_ba : DefDAt K mg "check_book_and_age" s_check_book_and_age [.int 1000]) (D_ly : DefDAt K mg "lay" s_lay [.ref pd_ly]) (P_ly : ModT K pd_ly [.int 0, .int 0, .int 0]) (D_ls : DefDAt K mg "lay_strokes" s_lay_strokes [.ref pd_ls]) (P_ls : ModT K pd_ls [.int 0, .int 0, .int 0]) (m_MOST_PARTS : mg "MOST_PARTS" = some (.int 40 t_MOST_PARTS)) (m_MOST_LETTERS : mg "MOST_LETTERS" = some (.int 8 t_MOST_LETTERS)) (m_MOST_GROWN : mg "MOST_GROWN" = some (.int 60000 t_MOST_GROWN)) (m_STROKE : mg "STROKE" = some (.ref a_STROKE)) (h_STROKE : ModT K a_STROKE [.int 1, .int 0, .int 0]) (mS : mg "STEPS" = some (.ref sa)) (hS : StepsAt K sa) (gS : mg "StrokeError" = some (.ref CS)) (T : TmTxt P K mg C fI) (T2 : IsTxt K C) (teC : PySem.W.exmOne K (.ref C) (.ref CS) = some true) : LawG P w K mg base 8 ∧ GotX P w K mg base "word_at" 7 ["book", "age"] (spWordX C) ∧ GotX P w K mg base "drawing" 7 ["book", "age"] (spWordX C) := by
  have gTk : Got P w K mg base "_law_taken" 1 ["row", "many"] (spTaken K) := got D.taken (fun f fd F => ok_taken F B.int B.len) fun _ _ _ _ _ _ us hl => match us, hl with | [_, _], _ => rfl
  have gPk : Got P w K mg base "_law_pick" 2 ["row", "things"] (spPick K) := got D.pick (fun f fd F => ok_pick F gTk B.len) fun _ _ _ _ _ _ us hl => match us, hl with | [_, _], _ => rfl
  have gBr : Got P w K mg base "_law_branched" 3 ["row", "word", "letters"] (spBranched K) := got D.branched (fun f fd F => ok_branched F (gTk.mono (by decide)) gPk B.len B.list B.tuple) fun _ _ _ _ _ _ us hl => match us, hl with | [_, _, _], _ => rfl
  have gWd : Got P w K mg base "_law_word" 3 ["row", "letters", "most"] (spWord K) := got D.word (fun f fd F => ok_word F (gTk.mono (by decide)) gPk B.range B.tuple) fun _ _ _ _ _ _ us hl => match us, hl with | [_, _, _], _ => rfl
  have gBk : Got P w K mg base "_law_book" 4 ["row"] (spBook K) := got D.book (fun f fd F => ok_book F (gTk.mono (by decide)) gWd gBr B.range B.tuple) fun _ _ _ _ _ _ us hl => match us, hl with | [_], _ => rfl
  have gKt : Got P w K mg base "_law_kit" 3 ["row"] (spBook K) := got D.kit (fun f fd F => ok_kit F gPk) fun _ _ _ _ _ _ us hl => match us, hl with | [_], _ => rfl
  have gEw : Got P w K mg base "_law_even_word" 3 ["row", "letters", "move"] (spEvenWord K) := got D.even_word (fun f fd F => ok_evenword F (gTk.mono (by decide)) B.abs B.int B.len B.tuple) fun _ _ _ _ _ _ us hl => match us, hl with | [_, _, _], _ => rfl
  have gEb : Got P w K mg base "_law_even_book" 4 ["row"] (spEvenBook K) := got D.even_book (fun f fd F => ok_evenbook F (gTk.mono (by decide)) (gPk.mono (by decide)) gEw gBr B.range B.tuple) fun _ _ _ _ _ _ us hl => match us, hl with | [_], _ => rfl
  have gGr : Got P w K mg base "_law_grown" 1 ["book", "age"] (spGrown K) := got D.grown (fun f fd F => ok_grown F B.range B.list B.isinstance B.str) fun _ _ _ _ _ _ us hl => match us, hl with | [_, _], _ => rfl
  have gAg : Got P w K mg base "_law_age" 2 ["book", "most"] (spAge K) := got D.age (fun f fd F => ok_age F gGr B.len B.isinstance B.str) fun _ _ _ _ _ _ us hl => match us, hl with | [_, _], _ => rfl
  have gUn : Got P w K mg base "_law_unit" 1 ["heading"] spUnit := got D.unit (fun f fd F => ok_unit F B.int) fun _ _ _ _ _ _ us hl => match us, hl with | [_], _ => rfl
  have gDn : Got P w K mg base "_law_drawn" 2 ["word"] (spDrawnL K) := got D.drawn (fun f fd F => ok_drawnL F gUn B.int B.isinstance B.str) fun _ _ _ _ _ _ us hl => match us, hl with | [_], _ => rfl
  have gA : AlkG mg := ⟨B.isinstance, B.tuple, B.list, B.str, B.int, B.bool, B.len, B.range⟩
  have bA : ∀ (kV doc pm : Value) (an : Option Addr) (cdv ct : Value) (us : List Value), us.length = (["found", "due"] : List Str).length → bindArgs (PySem.W.fnOf "_law_alike" "_law_alike" (defArgs s_law_alike) (defBody s_law_alike) (defScope s_law_alike) .none kV doc pm an cdv ct) ⟨us, []⟩ = pure ((["found", "due"] : List Str).zip us) :=
    fun _ _ _ _ _ _ us hl => (match us, hl with | [_, _], _ => rfl)
  have gAl : ∀ n, Got P w K mg base "_law_alike" (n + 1) ["found", "due"] (spAlike n) := fun n => by
    induction n with
    | zero => exact got D.alike (fun f fd F => ok_alike 0 F gA fun m e => absurd e (by omega)) bA
    | succ n ih =>
      refine got D.alike (fun f fd F => ok_alike (n + 1) F gA fun m e => ?_) bA
      have e : n = m := by omega
      subst e
      exact ih
  have gII : Got P w K mg base "is_integer" 1 ["value"] (spIsInt K) := got D.is_integer (fun f fd F => ok_isint F B.isinstance B.int B.bool) fun _ _ _ _ _ _ us hl => match us, hl with | [_], _ => rfl
  have gIW : Got P w K mg base "is_word" 2 ["value", "many"] spIsWord := got D.is_word (fun f fd F => ok_isword F gII B.isinstance B.tuple B.len m_MOST_PARTS) fun _ _ _ _ _ _ us hl => match us, hl with | [_, _], _ => rfl
  have gBF : Got P w K mg base "has_book_form" 2 ["value"] spBookForm := got D.has_book_form (fun f fd F => ok_bookform F B.isinstance B.tuple B.len m_MOST_LETTERS) fun _ _ _ _ _ _ us hl => match us, hl with | [_], _ => rfl
  have gCN : Got P w K mg base "check_number" 2 ["value", "least", "most"] spCheckNum := got D.check_number (fun f fd F => ok_checknum F gII) fun _ _ _ _ _ _ us hl => match us, hl with | [_, _, _], _ => rfl
  have gCB : Got P w K mg base "check_book" 3 ["value"] spCheckBook := got D.check_book (fun f fd F => ok_checkbook F gBF gIW B.len B.enumerate) fun _ _ _ _ _ _ us hl => match us, hl with | [_], _ => rfl
  have gCA : Got P w K mg base "check_age" 3 ["value", "most"] spCheckAge := gotF D_ca (fun f fd F => ok_checkage F gCN) bf_ca
  have gBA : GotD P w K mg base "check_book_and_age" 4 ["book", "age", "most"] [.int 1000] spCheckBA := gotD D_ba (fun f fd F => ok_checkba F gCB (gCA.mono (by decide))) bd_ba
  have gLI : Got P w K mg base "letters_in" 1 ["parts"] (spLettersIn K) := got D.letters_in (fun f fd F => ok_lettersin F B.isinstance B.str B.sorted) fun _ _ _ _ _ _ us hl => match us, hl with | [_], _ => rfl
  have gNL : Got P w K mg base "next_letters" 2 ["words", "letters"] spNext := got D.next_letters (fun f fd F => ok_next F gLI) fun _ _ _ _ _ _ us hl => match us, hl with | [_, _], _ => rfl
  have gCL : Got P w K mg base "count_letters" 1 ["word", "many"] spCount := got D.count_letters (fun f fd F => ok_count F B.range) fun _ _ _ _ _ _ us hl => match us, hl with | [_, _], _ => rfl
  have gNC : Got P w K mg base "next_counts" 1 ["counts", "table"] spNextC := got D.next_counts (fun f fd F => ok_nextc F B.len B.zip B.enumerate) fun _ _ _ _ _ _ us hl => match us, hl with | [_, _], _ => rfl
  have gSz : Got P w K mg base "check_size" 2 ["words", "start", "age"] spSize := got D.check_size (fun f fd F => ok_size F gCL gNC B.len B.range B.zip B.sum m_MOST_GROWN) fun _ _ _ _ _ _ us hl => match us, hl with | [_, _, _], _ => rfl
  have gRw : Got P w K mg base "letters_by_age" 3 ["words", "start", "age"] spRows := got D.letters_by_age (fun f fd F => ok_rows F (gLI.mono (by decide)) gNL B.range) fun _ _ _ _ _ _ us hl => match us, hl with | [_, _, _], _ => rfl
  have gRp : Got P w K mg base "replace_letters" 1 ["word", "grown"] spReplace := got D.replace_letters (fun f fd F => ok_replace F B.isinstance B.str B.tuple) fun _ _ _ _ _ _ us hl => match us, hl with | [_, _], _ => rfl
  have gWA : Got P w K mg base "word_at" 5 ["book", "age"] spWordAt := got D.word_at (fun f fd F => ok_wordat F gBA (gSz.mono (by decide)) (gRw.mono (by decide)) (gRp.mono (by decide)) B.reversed) fun _ _ _ _ _ _ us hl => match us, hl with | [_, _], _ => rfl
  have gRt : Got P w K mg base "rotate" 1 ["x", "y", "quarters"] spRotate := got D.rotate (fun f fd F => ok_rotate F) fun _ _ _ _ _ _ us hl => match us, hl with | [_, _, _], _ => rfl
  have gLy : Got P w K mg base "lay" 2 ["word", "ends", "pen"] (spLay K) := gotF D_ly (fun f fd F => ok_lay F gRt) bf_ly
  have gLS : GotD P w K mg base "lay_strokes" 3 ["word", "pen"] [.ref pd_ls] (spLayS K) := gotD D_ls (fun f fd F => ok_lays F gLy m_STROKE h_STROKE B.isinstance B.str) bd_ls
  have gDw : Got P w K mg base "draw" 4 ["word"] spDraw := got D.draw (fun f fd F => ok_draw F gLS P_ls B.tuple) fun _ _ _ _ _ _ us hl => match us, hl with | [_], _ => rfl
  have gDr : Got P w K mg base "drawing" 6 ["book", "age"] spDrawing := got D.drawing (fun f fd F => ok_drawing F gWA (gDw.mono (by decide))) fun _ _ _ _ _ _ us hl => match us, hl with | [_, _], _ => rfl
  have gEs : Got P w K mg base "end_of_stroke" 1 ["stroke"] (spEndOf K) := got D.end_of_stroke (fun f fd F => ok_endof F mS hS) fun _ _ _ _ _ _ us hl => match us, hl with | [_], _ => rfl
  have gEo : Got P w K mg base "ends_of" 2 ["stroke"] spEndsOf := got D.ends_of (fun f fd F => ok_endsof F gEs B.min B.max) fun _ _ _ _ _ _ us hl => match us, hl with | [_], _ => rfl
  have gTw : Got P w K mg base "drawn_twice" 7 ["book", "age"] spTwice := got D.drawn_twice (fun f fd F => ok_twice F gDr (gEo.mono (by decide)) B.enumerate) fun _ _ _ _ _ _ us hl => match us, hl with | [_, _], _ => rfl
  have gSX : GotX P w K mg base "check_size" 2 ["words", "start", "age"] (spSizeX C) := gotX D.check_size (fun f fd F => ok_sizeX T F gCL gNC B.len B.range B.zip B.sum m_MOST_GROWN) fun _ _ _ _ _ _ us hl => match us, hl with | [_, _, _], _ => rfl
  have gWX : GotX P w K mg base "word_at" 5 ["book", "age"] (spWordX C) := gotX D.word_at (fun f fd F => ok_wordX F gBA (gSX.mono (by decide))) fun _ _ _ _ _ _ us hl => match us, hl with | [_, _], _ => rfl
  have gDX : GotX P w K mg base "drawing" 6 ["book", "age"] (spWordX C) := gotX D.drawing (fun f fd F => ok_drawingX F gWX (gDw.mono (by decide))) fun _ _ _ _ _ _ us hl => match us, hl with | [_, _], _ => rfl
  exact ⟨⟨gPk.mono (by decide), gBk.mono (by decide), gKt.mono (by decide), gEb.mono (by decide), gTk.mono (by decide), gAg.mono (by decide), gGr.mono (by decide), gDn.mono (by decide), gUn.mono (by decide), (gAl 4).mono (by decide), gWA.mono (by decide), gDr.mono (by decide), gTw.mono (by decide), B.range, B.len, B.tuple, B.sorted⟩, gWX.mono (by decide), gDX.mono (by decide)⟩
/-- one tuple of the written part -/
theorem modT_of {K : PySem.W.Frag} {a : Addr} {o : Obj} {its : Array Value} {n : Nat} {xs : List V} (h : K.lookup a = some o) (h1 : o.cls = .type "tuple") (h2 : o.data = .seq its n) (h3 : its.size ≤ 16777216) (h4 : Vals xs its.toList) : ModT K a xs :=
  ⟨o, its, n, h, h1, h2, by rw [sizeLine_eq]; exact h3, h4⟩
end
end SK
namespace SK
open PySem PySem.Spec PyProof.Rows L2
open LamX (LawAtS)
theorem def_mk {K : PySem.W.Frag} {h : Heap} {mg : Str → Option Value} {x : Str} {st : Stmt} {f : Addr} {oc kV doc pm cdv ct : Value} {od an : Option Addr} {osl : Array (Option Value)} (X : K.In h) (G : h.Ns mainGlobals mg) (a : PySem.W.nsIn K mainGlobals x = some (some (.ref f)))
    (l : K.lookup f = some ⟨oc, od, .func (PySem.W.fnOf x x (defArgs st) (defBody st) (defScope st) .none kV doc pm an cdv ct), osl⟩) (c : PySem.W.codeIn K cdv x = true) (k : PySem.W.keepIn K (.ref f) = true) : DefAt K mg x st := ⟨f, _, PySem.W.mg_of X G a, fun_mk (st := st) l c k⟩
theorem law_mk {l : PySem.W.OpenLaw} {w : World} {K : PySem.W.Frag} {h : Heap} {mg : Str → Option Value} {fa : Addr} (X : K.In h) (G : h.Ns mainGlobals mg) (hfa : mg "law" = some (.ref fa))
    {f_taken : Addr} {oc_taken kV_taken dc_taken pm_taken cd_taken ct_taken : Value} {od_taken an_taken : Option Addr} {sl_taken : Array (Option Value)}
    {f_pick : Addr} {oc_pick kV_pick dc_pick pm_pick cd_pick ct_pick : Value} {od_pick an_pick : Option Addr} {sl_pick : Array (Option Value)}
    {f_branched : Addr} {oc_branched kV_branched dc_branched pm_branched cd_branched ct_branched : Value} {od_branched an_branched : Option Addr} {sl_branched : Array (Option Value)}
    {f_word : Addr} {oc_word kV_word dc_word pm_word cd_word ct_word : Value} {od_word an_word : Option Addr} {sl_word : Array (Option Value)}
    {f_book : Addr} {oc_book kV_book dc_book pm_book cd_book ct_book : Value} {od_book an_book : Option Addr} {sl_book : Array (Option Value)}
    {f_kit : Addr} {oc_kit kV_kit dc_kit pm_kit cd_kit ct_kit : Value} {od_kit an_kit : Option Addr} {sl_kit : Array (Option Value)}
    {f_even_word : Addr} {oc_even_word kV_even_word dc_even_word pm_even_word cd_even_word ct_even_word : Value} {od_even_word an_even_word : Option Addr} {sl_even_word : Array (Option Value)}
    {f_even_book : Addr} {oc_even_book kV_even_book dc_even_book pm_even_book cd_even_book ct_even_book : Value} {od_even_book an_even_book : Option Addr} {sl_even_book : Array (Option Value)}
    {f_grown : Addr} {oc_grown kV_grown dc_grown pm_grown cd_grown ct_grown : Value} {od_grown an_grown : Option Addr} {sl_grown : Array (Option Value)}
    {f_unit : Addr} {oc_unit kV_unit dc_unit pm_unit cd_unit ct_unit : Value} {od_unit an_unit : Option Addr} {sl_unit : Array (Option Value)}
    {f_drawn : Addr} {oc_drawn kV_drawn dc_drawn pm_drawn cd_drawn ct_drawn : Value} {od_drawn an_drawn : Option Addr} {sl_drawn : Array (Option Value)}
    {f_alike : Addr} {oc_alike kV_alike dc_alike pm_alike cd_alike ct_alike : Value} {od_alike an_alike : Option Addr} {sl_alike : Array (Option Value)}
    {f_age : Addr} {oc_age kV_age dc_age pm_age cd_age ct_age : Value} {od_age an_age : Option Addr} {sl_age : Array (Option Value)}
    {f_is_integer : Addr} {oc_is_integer kV_is_integer dc_is_integer pm_is_integer cd_is_integer ct_is_integer : Value} {od_is_integer an_is_integer : Option Addr} {sl_is_integer : Array (Option Value)}
    {f_is_word : Addr} {oc_is_word kV_is_word dc_is_word pm_is_word cd_is_word ct_is_word : Value} {od_is_word an_is_word : Option Addr} {sl_is_word : Array (Option Value)}
    {f_has_book_form : Addr} {oc_has_book_form kV_has_book_form dc_has_book_form pm_has_book_form cd_has_book_form ct_has_book_form : Value} {od_has_book_form an_has_book_form : Option Addr} {sl_has_book_form : Array (Option Value)}
    {f_check_book : Addr} {oc_check_book kV_check_book dc_check_book pm_check_book cd_check_book ct_check_book : Value} {od_check_book an_check_book : Option Addr} {sl_check_book : Array (Option Value)}
    {f_check_number : Addr} {oc_check_number kV_check_number dc_check_number pm_check_number cd_check_number ct_check_number : Value} {od_check_number an_check_number : Option Addr} {sl_check_number : Array (Option Value)}
    {f_letters_in : Addr} {oc_letters_in kV_letters_in dc_letters_in pm_letters_in cd_letters_in ct_letters_in : Value} {od_letters_in an_letters_in : Option Addr} {sl_letters_in : Array (Option Value)}
    {f_next_letters : Addr} {oc_next_letters kV_next_letters dc_next_letters pm_next_letters cd_next_letters ct_next_letters : Value} {od_next_letters an_next_letters : Option Addr} {sl_next_letters : Array (Option Value)}
    {f_count_letters : Addr} {oc_count_letters kV_count_letters dc_count_letters pm_count_letters cd_count_letters ct_count_letters : Value} {od_count_letters an_count_letters : Option Addr} {sl_count_letters : Array (Option Value)}
    {f_next_counts : Addr} {oc_next_counts kV_next_counts dc_next_counts pm_next_counts cd_next_counts ct_next_counts : Value} {od_next_counts an_next_counts : Option Addr} {sl_next_counts : Array (Option Value)}
    {f_check_size : Addr} {oc_check_size kV_check_size dc_check_size pm_check_size cd_check_size ct_check_size : Value} {od_check_size an_check_size : Option Addr} {sl_check_size : Array (Option Value)}
    {f_letters_by_age : Addr} {oc_letters_by_age kV_letters_by_age dc_letters_by_age pm_letters_by_age cd_letters_by_age ct_letters_by_age : Value} {od_letters_by_age an_letters_by_age : Option Addr} {sl_letters_by_age : Array (Option Value)}
    {f_replace_letters : Addr} {oc_replace_letters kV_replace_letters dc_replace_letters pm_replace_letters cd_replace_letters ct_replace_letters : Value} {od_replace_letters an_replace_letters : Option Addr} {sl_replace_letters : Array (Option Value)}
    {f_word_at : Addr} {oc_word_at kV_word_at dc_word_at pm_word_at cd_word_at ct_word_at : Value} {od_word_at an_word_at : Option Addr} {sl_word_at : Array (Option Value)}
    {f_draw : Addr} {oc_draw kV_draw dc_draw pm_draw cd_draw ct_draw : Value} {od_draw an_draw : Option Addr} {sl_draw : Array (Option Value)}
    {f_drawing : Addr} {oc_drawing kV_drawing dc_drawing pm_drawing cd_drawing ct_drawing : Value} {od_drawing an_drawing : Option Addr} {sl_drawing : Array (Option Value)}
    {f_rotate : Addr} {oc_rotate kV_rotate dc_rotate pm_rotate cd_rotate ct_rotate : Value} {od_rotate an_rotate : Option Addr} {sl_rotate : Array (Option Value)}
    {f_end_of_stroke : Addr} {oc_end_of_stroke kV_end_of_stroke dc_end_of_stroke pm_end_of_stroke cd_end_of_stroke ct_end_of_stroke : Value} {od_end_of_stroke an_end_of_stroke : Option Addr} {sl_end_of_stroke : Array (Option Value)}
    {f_ends_of : Addr} {oc_ends_of kV_ends_of dc_ends_of pm_ends_of cd_ends_of ct_ends_of : Value} {od_ends_of an_ends_of : Option Addr} {sl_ends_of : Array (Option Value)}
    {f_drawn_twice : Addr} {oc_drawn_twice kV_drawn_twice dc_drawn_twice pm_drawn_twice cd_drawn_twice ct_drawn_twice : Value} {od_drawn_twice an_drawn_twice : Option Addr} {sl_drawn_twice : Array (Option Value)}
    {T_ca : Addr} {o_ca : Obj} {n_ca : Nat}
    {f_ca : Addr} {oc_ca kV_ca dc_ca pm_ca cd_ca ct_ca : Value} {od_ca an_ca : Option Addr} {sl_ca : Array (Option Value)}
    {tk_ca : Tok}
    {T_ba : Addr} {o_ba : Obj} {n_ba : Nat}
    {f_ba : Addr} {oc_ba kV_ba dc_ba pm_ba cd_ba ct_ba : Value} {od_ba an_ba : Option Addr} {sl_ba : Array (Option Value)}
    {tk_ba : Tok}
    {T_ly : Addr} {o_ly : Obj} {n_ly : Nat}
    {f_ly : Addr} {oc_ly kV_ly dc_ly pm_ly cd_ly ct_ly : Value} {od_ly an_ly : Option Addr} {sl_ly : Array (Option Value)}
    {p_ly : Addr}
    {u0_ly u1_ly u2_ly : Tok} {ob_ly : Obj} {nn_ly : Nat}
    {T_ls : Addr} {o_ls : Obj} {n_ls : Nat}
    {f_ls : Addr} {oc_ls kV_ls dc_ls pm_ls cd_ls ct_ls : Value} {od_ls an_ls : Option Addr} {sl_ls : Array (Option Value)}
    {p_ls : Addr}
    {u0_ls u1_ls u2_ls : Tok} {ob_ls : Obj} {nn_ls : Nat}
    {t_MOST_PARTS : Tok}
    {t_MOST_LETTERS : Tok}
    {t_MOST_GROWN : Tok}
    {a_STROKE : Addr}
    {u0_STROKE u1_STROKE u2_STROKE : Tok} {ob_STROKE : Obj} {nn_STROKE : Nat}
    {sa a0 a1 a2 a3 : Addr} {os : Obj} {ns : Nat}
    {u0_st0 u1_st0 : Tok} {ob_st0 : Obj} {nn_st0 : Nat}
    {u0_st1 u1_st1 : Tok} {ob_st1 : Obj} {nn_st1 : Nat}
    {u0_st2 u1_st2 : Tok} {ob_st2 : Obj} {nn_st2 : Nat}
    {u0_st3 u1_st3 : Tok} {ob_st3 : Obj} {nn_st3 : Nat}
    {CS : Addr}
    {C fI NC : Addr} {nmC qC : Str} {bsC : List Value} {snC : List Str} {subC : List Value} {abC : Bool} {colC : Option Bool} {ddC : Option Addr} {k0C k1C k2C k3C k5C : Option Value}
    {ocI ctI : Value} {odI anI : Option Addr} {dcI pmI : Value} {cdI ccI : Addr} {slI : Array (Option Value)} {cclI clI : Value} {cddI cldI : Option Addr} {vsI : Array Value} {ccsI cslI : Array (Option Value)} {fileI : Str} {tfI : Tok}
    {fL cL : Addr} {ocL kVL dcL pmL ctL : Value} {odL anL : Option Addr} {slL : Array (Option Value)} {TP : Addr}
    (a_taken : PySem.W.nsIn K mainGlobals "_law_taken" = some (some (.ref f_taken)))
    (l_taken : K.lookup f_taken = some ⟨oc_taken, od_taken, .func (PySem.W.fnOf "_law_taken" "_law_taken" (defArgs s_law_taken) (defBody s_law_taken) (defScope s_law_taken) .none kV_taken dc_taken pm_taken an_taken cd_taken ct_taken), sl_taken⟩)
    (c_taken : PySem.W.codeIn K cd_taken "_law_taken" = true)
    (k_taken : PySem.W.keepIn K (.ref f_taken) = true)
    (a_pick : PySem.W.nsIn K mainGlobals "_law_pick" = some (some (.ref f_pick)))
    (l_pick : K.lookup f_pick = some ⟨oc_pick, od_pick, .func (PySem.W.fnOf "_law_pick" "_law_pick" (defArgs s_law_pick) (defBody s_law_pick) (defScope s_law_pick) .none kV_pick dc_pick pm_pick an_pick cd_pick ct_pick), sl_pick⟩)
    (c_pick : PySem.W.codeIn K cd_pick "_law_pick" = true)
    (k_pick : PySem.W.keepIn K (.ref f_pick) = true)
    (a_branched : PySem.W.nsIn K mainGlobals "_law_branched" = some (some (.ref f_branched)))
    (l_branched : K.lookup f_branched = some ⟨oc_branched, od_branched, .func (PySem.W.fnOf "_law_branched" "_law_branched" (defArgs s_law_branched) (defBody s_law_branched) (defScope s_law_branched) .none kV_branched dc_branched pm_branched an_branched cd_branched ct_branched), sl_branched⟩)
    (c_branched : PySem.W.codeIn K cd_branched "_law_branched" = true)
    (k_branched : PySem.W.keepIn K (.ref f_branched) = true)
    (a_word : PySem.W.nsIn K mainGlobals "_law_word" = some (some (.ref f_word)))
    (l_word : K.lookup f_word = some ⟨oc_word, od_word, .func (PySem.W.fnOf "_law_word" "_law_word" (defArgs s_law_word) (defBody s_law_word) (defScope s_law_word) .none kV_word dc_word pm_word an_word cd_word ct_word), sl_word⟩)
    (c_word : PySem.W.codeIn K cd_word "_law_word" = true)
    (k_word : PySem.W.keepIn K (.ref f_word) = true)
    (a_book : PySem.W.nsIn K mainGlobals "_law_book" = some (some (.ref f_book)))
    (l_book : K.lookup f_book = some ⟨oc_book, od_book, .func (PySem.W.fnOf "_law_book" "_law_book" (defArgs s_law_book) (defBody s_law_book) (defScope s_law_book) .none kV_book dc_book pm_book an_book cd_book ct_book), sl_book⟩)
    (c_book : PySem.W.codeIn K cd_book "_law_book" = true)
    (k_book : PySem.W.keepIn K (.ref f_book) = true)
    (a_kit : PySem.W.nsIn K mainGlobals "_law_kit" = some (some (.ref f_kit)))
    (l_kit : K.lookup f_kit = some ⟨oc_kit, od_kit, .func (PySem.W.fnOf "_law_kit" "_law_kit" (defArgs s_law_kit) (defBody s_law_kit) (defScope s_law_kit) .none kV_kit dc_kit pm_kit an_kit cd_kit ct_kit), sl_kit⟩)
    (c_kit : PySem.W.codeIn K cd_kit "_law_kit" = true)
    (k_kit : PySem.W.keepIn K (.ref f_kit) = true)
    (a_even_word : PySem.W.nsIn K mainGlobals "_law_even_word" = some (some (.ref f_even_word)))
    (l_even_word : K.lookup f_even_word = some ⟨oc_even_word, od_even_word, .func (PySem.W.fnOf "_law_even_word" "_law_even_word" (defArgs s_law_even_word) (defBody s_law_even_word) (defScope s_law_even_word) .none kV_even_word dc_even_word pm_even_word an_even_word cd_even_word ct_even_word), sl_even_word⟩)
    (c_even_word : PySem.W.codeIn K cd_even_word "_law_even_word" = true)
    (k_even_word : PySem.W.keepIn K (.ref f_even_word) = true)
    (a_even_book : PySem.W.nsIn K mainGlobals "_law_even_book" = some (some (.ref f_even_book)))
    (l_even_book : K.lookup f_even_book = some ⟨oc_even_book, od_even_book, .func (PySem.W.fnOf "_law_even_book" "_law_even_book" (defArgs s_law_even_book) (defBody s_law_even_book) (defScope s_law_even_book) .none kV_even_book dc_even_book pm_even_book an_even_book cd_even_book ct_even_book), sl_even_book⟩)
    (c_even_book : PySem.W.codeIn K cd_even_book "_law_even_book" = true)
    (k_even_book : PySem.W.keepIn K (.ref f_even_book) = true)
    (a_grown : PySem.W.nsIn K mainGlobals "_law_grown" = some (some (.ref f_grown)))
    (l_grown : K.lookup f_grown = some ⟨oc_grown, od_grown, .func (PySem.W.fnOf "_law_grown" "_law_grown" (defArgs s_law_grown) (defBody s_law_grown) (defScope s_law_grown) .none kV_grown dc_grown pm_grown an_grown cd_grown ct_grown), sl_grown⟩)
    (c_grown : PySem.W.codeIn K cd_grown "_law_grown" = true)
    (k_grown : PySem.W.keepIn K (.ref f_grown) = true)
    (a_unit : PySem.W.nsIn K mainGlobals "_law_unit" = some (some (.ref f_unit)))
    (l_unit : K.lookup f_unit = some ⟨oc_unit, od_unit, .func (PySem.W.fnOf "_law_unit" "_law_unit" (defArgs s_law_unit) (defBody s_law_unit) (defScope s_law_unit) .none kV_unit dc_unit pm_unit an_unit cd_unit ct_unit), sl_unit⟩)
    (c_unit : PySem.W.codeIn K cd_unit "_law_unit" = true)
    (k_unit : PySem.W.keepIn K (.ref f_unit) = true)
    (a_drawn : PySem.W.nsIn K mainGlobals "_law_drawn" = some (some (.ref f_drawn)))
    (l_drawn : K.lookup f_drawn = some ⟨oc_drawn, od_drawn, .func (PySem.W.fnOf "_law_drawn" "_law_drawn" (defArgs s_law_drawn) (defBody s_law_drawn) (defScope s_law_drawn) .none kV_drawn dc_drawn pm_drawn an_drawn cd_drawn ct_drawn), sl_drawn⟩)
    (c_drawn : PySem.W.codeIn K cd_drawn "_law_drawn" = true)
    (k_drawn : PySem.W.keepIn K (.ref f_drawn) = true)
    (a_alike : PySem.W.nsIn K mainGlobals "_law_alike" = some (some (.ref f_alike)))
    (l_alike : K.lookup f_alike = some ⟨oc_alike, od_alike, .func (PySem.W.fnOf "_law_alike" "_law_alike" (defArgs s_law_alike) (defBody s_law_alike) (defScope s_law_alike) .none kV_alike dc_alike pm_alike an_alike cd_alike ct_alike), sl_alike⟩)
    (c_alike : PySem.W.codeIn K cd_alike "_law_alike" = true)
    (k_alike : PySem.W.keepIn K (.ref f_alike) = true)
    (a_age : PySem.W.nsIn K mainGlobals "_law_age" = some (some (.ref f_age)))
    (l_age : K.lookup f_age = some ⟨oc_age, od_age, .func (PySem.W.fnOf "_law_age" "_law_age" (defArgs s_law_age) (defBody s_law_age) (defScope s_law_age) .none kV_age dc_age pm_age an_age cd_age ct_age), sl_age⟩)
    (c_age : PySem.W.codeIn K cd_age "_law_age" = true)
    (k_age : PySem.W.keepIn K (.ref f_age) = true)
    (a_is_integer : PySem.W.nsIn K mainGlobals "is_integer" = some (some (.ref f_is_integer)))
    (l_is_integer : K.lookup f_is_integer = some ⟨oc_is_integer, od_is_integer, .func (PySem.W.fnOf "is_integer" "is_integer" (defArgs s_is_integer) (defBody s_is_integer) (defScope s_is_integer) .none kV_is_integer dc_is_integer pm_is_integer an_is_integer cd_is_integer ct_is_integer), sl_is_integer⟩)
    (c_is_integer : PySem.W.codeIn K cd_is_integer "is_integer" = true)
    (k_is_integer : PySem.W.keepIn K (.ref f_is_integer) = true)
    (a_is_word : PySem.W.nsIn K mainGlobals "is_word" = some (some (.ref f_is_word)))
    (l_is_word : K.lookup f_is_word = some ⟨oc_is_word, od_is_word, .func (PySem.W.fnOf "is_word" "is_word" (defArgs s_is_word) (defBody s_is_word) (defScope s_is_word) .none kV_is_word dc_is_word pm_is_word an_is_word cd_is_word ct_is_word), sl_is_word⟩)
    (c_is_word : PySem.W.codeIn K cd_is_word "is_word" = true)
    (k_is_word : PySem.W.keepIn K (.ref f_is_word) = true)
    (a_has_book_form : PySem.W.nsIn K mainGlobals "has_book_form" = some (some (.ref f_has_book_form)))
    (l_has_book_form : K.lookup f_has_book_form = some ⟨oc_has_book_form, od_has_book_form, .func (PySem.W.fnOf "has_book_form" "has_book_form" (defArgs s_has_book_form) (defBody s_has_book_form) (defScope s_has_book_form) .none kV_has_book_form dc_has_book_form pm_has_book_form an_has_book_form cd_has_book_form ct_has_book_form), sl_has_book_form⟩)
    (c_has_book_form : PySem.W.codeIn K cd_has_book_form "has_book_form" = true)
    (k_has_book_form : PySem.W.keepIn K (.ref f_has_book_form) = true)
    (a_check_book : PySem.W.nsIn K mainGlobals "check_book" = some (some (.ref f_check_book)))
    (l_check_book : K.lookup f_check_book = some ⟨oc_check_book, od_check_book, .func (PySem.W.fnOf "check_book" "check_book" (defArgs s_check_book) (defBody s_check_book) (defScope s_check_book) .none kV_check_book dc_check_book pm_check_book an_check_book cd_check_book ct_check_book), sl_check_book⟩)
    (c_check_book : PySem.W.codeIn K cd_check_book "check_book" = true)
    (k_check_book : PySem.W.keepIn K (.ref f_check_book) = true)
    (a_check_number : PySem.W.nsIn K mainGlobals "check_number" = some (some (.ref f_check_number)))
    (l_check_number : K.lookup f_check_number = some ⟨oc_check_number, od_check_number, .func (PySem.W.fnOf "check_number" "check_number" (defArgs s_check_number) (defBody s_check_number) (defScope s_check_number) .none kV_check_number dc_check_number pm_check_number an_check_number cd_check_number ct_check_number), sl_check_number⟩)
    (c_check_number : PySem.W.codeIn K cd_check_number "check_number" = true)
    (k_check_number : PySem.W.keepIn K (.ref f_check_number) = true)
    (a_letters_in : PySem.W.nsIn K mainGlobals "letters_in" = some (some (.ref f_letters_in)))
    (l_letters_in : K.lookup f_letters_in = some ⟨oc_letters_in, od_letters_in, .func (PySem.W.fnOf "letters_in" "letters_in" (defArgs s_letters_in) (defBody s_letters_in) (defScope s_letters_in) .none kV_letters_in dc_letters_in pm_letters_in an_letters_in cd_letters_in ct_letters_in), sl_letters_in⟩)
    (c_letters_in : PySem.W.codeIn K cd_letters_in "letters_in" = true)
    (k_letters_in : PySem.W.keepIn K (.ref f_letters_in) = true)
    (a_next_letters : PySem.W.nsIn K mainGlobals "next_letters" = some (some (.ref f_next_letters)))
    (l_next_letters : K.lookup f_next_letters = some ⟨oc_next_letters, od_next_letters, .func (PySem.W.fnOf "next_letters" "next_letters" (defArgs s_next_letters) (defBody s_next_letters) (defScope s_next_letters) .none kV_next_letters dc_next_letters pm_next_letters an_next_letters cd_next_letters ct_next_letters), sl_next_letters⟩)
    (c_next_letters : PySem.W.codeIn K cd_next_letters "next_letters" = true)
    (k_next_letters : PySem.W.keepIn K (.ref f_next_letters) = true)
    (a_count_letters : PySem.W.nsIn K mainGlobals "count_letters" = some (some (.ref f_count_letters)))
    (l_count_letters : K.lookup f_count_letters = some ⟨oc_count_letters, od_count_letters, .func (PySem.W.fnOf "count_letters" "count_letters" (defArgs s_count_letters) (defBody s_count_letters) (defScope s_count_letters) .none kV_count_letters dc_count_letters pm_count_letters an_count_letters cd_count_letters ct_count_letters), sl_count_letters⟩)
    (c_count_letters : PySem.W.codeIn K cd_count_letters "count_letters" = true)
    (k_count_letters : PySem.W.keepIn K (.ref f_count_letters) = true)
    (a_next_counts : PySem.W.nsIn K mainGlobals "next_counts" = some (some (.ref f_next_counts)))
    (l_next_counts : K.lookup f_next_counts = some ⟨oc_next_counts, od_next_counts, .func (PySem.W.fnOf "next_counts" "next_counts" (defArgs s_next_counts) (defBody s_next_counts) (defScope s_next_counts) .none kV_next_counts dc_next_counts pm_next_counts an_next_counts cd_next_counts ct_next_counts), sl_next_counts⟩)
    (c_next_counts : PySem.W.codeIn K cd_next_counts "next_counts" = true)
    (k_next_counts : PySem.W.keepIn K (.ref f_next_counts) = true)
    (a_check_size : PySem.W.nsIn K mainGlobals "check_size" = some (some (.ref f_check_size)))
    (l_check_size : K.lookup f_check_size = some ⟨oc_check_size, od_check_size, .func (PySem.W.fnOf "check_size" "check_size" (defArgs s_check_size) (defBody s_check_size) (defScope s_check_size) .none kV_check_size dc_check_size pm_check_size an_check_size cd_check_size ct_check_size), sl_check_size⟩)
    (c_check_size : PySem.W.codeIn K cd_check_size "check_size" = true)
    (k_check_size : PySem.W.keepIn K (.ref f_check_size) = true)
    (a_letters_by_age : PySem.W.nsIn K mainGlobals "letters_by_age" = some (some (.ref f_letters_by_age)))
    (l_letters_by_age : K.lookup f_letters_by_age = some ⟨oc_letters_by_age, od_letters_by_age, .func (PySem.W.fnOf "letters_by_age" "letters_by_age" (defArgs s_letters_by_age) (defBody s_letters_by_age) (defScope s_letters_by_age) .none kV_letters_by_age dc_letters_by_age pm_letters_by_age an_letters_by_age cd_letters_by_age ct_letters_by_age), sl_letters_by_age⟩)
    (c_letters_by_age : PySem.W.codeIn K cd_letters_by_age "letters_by_age" = true)
    (k_letters_by_age : PySem.W.keepIn K (.ref f_letters_by_age) = true)
    (a_replace_letters : PySem.W.nsIn K mainGlobals "replace_letters" = some (some (.ref f_replace_letters)))
    (l_replace_letters : K.lookup f_replace_letters = some ⟨oc_replace_letters, od_replace_letters, .func (PySem.W.fnOf "replace_letters" "replace_letters" (defArgs s_replace_letters) (defBody s_replace_letters) (defScope s_replace_letters) .none kV_replace_letters dc_replace_letters pm_replace_letters an_replace_letters cd_replace_letters ct_replace_letters), sl_replace_letters⟩)
    (c_replace_letters : PySem.W.codeIn K cd_replace_letters "replace_letters" = true)
    (k_replace_letters : PySem.W.keepIn K (.ref f_replace_letters) = true)
    (a_word_at : PySem.W.nsIn K mainGlobals "word_at" = some (some (.ref f_word_at)))
    (l_word_at : K.lookup f_word_at = some ⟨oc_word_at, od_word_at, .func (PySem.W.fnOf "word_at" "word_at" (defArgs s_word_at) (defBody s_word_at) (defScope s_word_at) .none kV_word_at dc_word_at pm_word_at an_word_at cd_word_at ct_word_at), sl_word_at⟩)
    (c_word_at : PySem.W.codeIn K cd_word_at "word_at" = true)
    (k_word_at : PySem.W.keepIn K (.ref f_word_at) = true)
    (a_draw : PySem.W.nsIn K mainGlobals "draw" = some (some (.ref f_draw)))
    (l_draw : K.lookup f_draw = some ⟨oc_draw, od_draw, .func (PySem.W.fnOf "draw" "draw" (defArgs s_draw) (defBody s_draw) (defScope s_draw) .none kV_draw dc_draw pm_draw an_draw cd_draw ct_draw), sl_draw⟩)
    (c_draw : PySem.W.codeIn K cd_draw "draw" = true)
    (k_draw : PySem.W.keepIn K (.ref f_draw) = true)
    (a_drawing : PySem.W.nsIn K mainGlobals "drawing" = some (some (.ref f_drawing)))
    (l_drawing : K.lookup f_drawing = some ⟨oc_drawing, od_drawing, .func (PySem.W.fnOf "drawing" "drawing" (defArgs s_drawing) (defBody s_drawing) (defScope s_drawing) .none kV_drawing dc_drawing pm_drawing an_drawing cd_drawing ct_drawing), sl_drawing⟩)
    (c_drawing : PySem.W.codeIn K cd_drawing "drawing" = true)
    (k_drawing : PySem.W.keepIn K (.ref f_drawing) = true)
    (a_rotate : PySem.W.nsIn K mainGlobals "rotate" = some (some (.ref f_rotate)))
    (l_rotate : K.lookup f_rotate = some ⟨oc_rotate, od_rotate, .func (PySem.W.fnOf "rotate" "rotate" (defArgs s_rotate) (defBody s_rotate) (defScope s_rotate) .none kV_rotate dc_rotate pm_rotate an_rotate cd_rotate ct_rotate), sl_rotate⟩)
    (c_rotate : PySem.W.codeIn K cd_rotate "rotate" = true)
    (k_rotate : PySem.W.keepIn K (.ref f_rotate) = true)
    (a_end_of_stroke : PySem.W.nsIn K mainGlobals "end_of_stroke" = some (some (.ref f_end_of_stroke)))
    (l_end_of_stroke : K.lookup f_end_of_stroke = some ⟨oc_end_of_stroke, od_end_of_stroke, .func (PySem.W.fnOf "end_of_stroke" "end_of_stroke" (defArgs s_end_of_stroke) (defBody s_end_of_stroke) (defScope s_end_of_stroke) .none kV_end_of_stroke dc_end_of_stroke pm_end_of_stroke an_end_of_stroke cd_end_of_stroke ct_end_of_stroke), sl_end_of_stroke⟩)
    (c_end_of_stroke : PySem.W.codeIn K cd_end_of_stroke "end_of_stroke" = true)
    (k_end_of_stroke : PySem.W.keepIn K (.ref f_end_of_stroke) = true)
    (a_ends_of : PySem.W.nsIn K mainGlobals "ends_of" = some (some (.ref f_ends_of)))
    (l_ends_of : K.lookup f_ends_of = some ⟨oc_ends_of, od_ends_of, .func (PySem.W.fnOf "ends_of" "ends_of" (defArgs s_ends_of) (defBody s_ends_of) (defScope s_ends_of) .none kV_ends_of dc_ends_of pm_ends_of an_ends_of cd_ends_of ct_ends_of), sl_ends_of⟩)
    (c_ends_of : PySem.W.codeIn K cd_ends_of "ends_of" = true)
    (k_ends_of : PySem.W.keepIn K (.ref f_ends_of) = true)
    (a_drawn_twice : PySem.W.nsIn K mainGlobals "drawn_twice" = some (some (.ref f_drawn_twice)))
    (l_drawn_twice : K.lookup f_drawn_twice = some ⟨oc_drawn_twice, od_drawn_twice, .func (PySem.W.fnOf "drawn_twice" "drawn_twice" (defArgs s_drawn_twice) (defBody s_drawn_twice) (defScope s_drawn_twice) .none kV_drawn_twice dc_drawn_twice pm_drawn_twice an_drawn_twice cd_drawn_twice ct_drawn_twice), sl_drawn_twice⟩)
    (c_drawn_twice : PySem.W.codeIn K cd_drawn_twice "drawn_twice" = true)
    (k_drawn_twice : PySem.W.keepIn K (.ref f_drawn_twice) = true)
    (z_isinstance : PySem.W.nsIn K mainGlobals "isinstance" = some none)
    (z_int : PySem.W.nsIn K mainGlobals "int" = some none)
    (z_bool : PySem.W.nsIn K mainGlobals "bool" = some none)
    (z_str : PySem.W.nsIn K mainGlobals "str" = some none)
    (z_tuple : PySem.W.nsIn K mainGlobals "tuple" = some none)
    (z_list : PySem.W.nsIn K mainGlobals "list" = some none)
    (z_len : PySem.W.nsIn K mainGlobals "len" = some none)
    (z_enumerate : PySem.W.nsIn K mainGlobals "enumerate" = some none)
    (z_sorted : PySem.W.nsIn K mainGlobals "sorted" = some none)
    (z_range : PySem.W.nsIn K mainGlobals "range" = some none)
    (z_zip : PySem.W.nsIn K mainGlobals "zip" = some none)
    (z_sum : PySem.W.nsIn K mainGlobals "sum" = some none)
    (z_reversed : PySem.W.nsIn K mainGlobals "reversed" = some none)
    (z_abs : PySem.W.nsIn K mainGlobals "abs" = some none)
    (z_min : PySem.W.nsIn K mainGlobals "min" = some none)
    (z_max : PySem.W.nsIn K mainGlobals "max" = some none)
    (a_ca : PySem.W.nsIn K mainGlobals "check_age" = some (some (.ref f_ca)))
    (l_ca : K.lookup f_ca = some ⟨oc_ca, od_ca, .func (PySem.W.fnOf "check_age" "check_age" (defArgs s_check_age) (defBody s_check_age) (defScope s_check_age) (.ref T_ca) kV_ca dc_ca pm_ca an_ca cd_ca ct_ca), sl_ca⟩)
    (c_ca : PySem.W.codeIn K cd_ca "check_age" = true)
    (k_ca : PySem.W.keepIn K (.ref f_ca) = true)
    (tt_ca : K.lookup T_ca = some o_ca)
    (u_ca : o_ca.data = .seq (([.int 1000 tk_ca] : List Value).toArray) n_ca)
    (a_ba : PySem.W.nsIn K mainGlobals "check_book_and_age" = some (some (.ref f_ba)))
    (l_ba : K.lookup f_ba = some ⟨oc_ba, od_ba, .func (PySem.W.fnOf "check_book_and_age" "check_book_and_age" (defArgs s_check_book_and_age) (defBody s_check_book_and_age) (defScope s_check_book_and_age) (.ref T_ba) kV_ba dc_ba pm_ba an_ba cd_ba ct_ba), sl_ba⟩)
    (c_ba : PySem.W.codeIn K cd_ba "check_book_and_age" = true)
    (k_ba : PySem.W.keepIn K (.ref f_ba) = true)
    (tt_ba : K.lookup T_ba = some o_ba)
    (u_ba : o_ba.data = .seq (([.int 1000 tk_ba] : List Value).toArray) n_ba)
    (a_ly : PySem.W.nsIn K mainGlobals "lay" = some (some (.ref f_ly)))
    (l_ly : K.lookup f_ly = some ⟨oc_ly, od_ly, .func (PySem.W.fnOf "lay" "lay" (defArgs s_lay) (defBody s_lay) (defScope s_lay) (.ref T_ly) kV_ly dc_ly pm_ly an_ly cd_ly ct_ly), sl_ly⟩)
    (c_ly : PySem.W.codeIn K cd_ly "lay" = true)
    (k_ly : PySem.W.keepIn K (.ref f_ly) = true)
    (tt_ly : K.lookup T_ly = some o_ly)
    (u_ly : o_ly.data = .seq (([.ref p_ly] : List Value).toArray) n_ly)
    (lp_ly : K.lookup p_ly = some ob_ly)
    (e_ly : ob_ly.cls = .type "tuple" ∧ ob_ly.data = .seq (([.int (0) u0_ly, .int (0) u1_ly, .int (0) u2_ly] : List Value).toArray) nn_ly)
    (a_ls : PySem.W.nsIn K mainGlobals "lay_strokes" = some (some (.ref f_ls)))
    (l_ls : K.lookup f_ls = some ⟨oc_ls, od_ls, .func (PySem.W.fnOf "lay_strokes" "lay_strokes" (defArgs s_lay_strokes) (defBody s_lay_strokes) (defScope s_lay_strokes) (.ref T_ls) kV_ls dc_ls pm_ls an_ls cd_ls ct_ls), sl_ls⟩)
    (c_ls : PySem.W.codeIn K cd_ls "lay_strokes" = true)
    (k_ls : PySem.W.keepIn K (.ref f_ls) = true)
    (tt_ls : K.lookup T_ls = some o_ls)
    (u_ls : o_ls.data = .seq (([.ref p_ls] : List Value).toArray) n_ls)
    (lp_ls : K.lookup p_ls = some ob_ls)
    (e_ls : ob_ls.cls = .type "tuple" ∧ ob_ls.data = .seq (([.int (0) u0_ls, .int (0) u1_ls, .int (0) u2_ls] : List Value).toArray) nn_ls)
    (m_MOST_PARTS : PySem.W.nsIn K mainGlobals "MOST_PARTS" = some (some (.int 40 t_MOST_PARTS)))
    (m_MOST_LETTERS : PySem.W.nsIn K mainGlobals "MOST_LETTERS" = some (some (.int 8 t_MOST_LETTERS)))
    (m_MOST_GROWN : PySem.W.nsIn K mainGlobals "MOST_GROWN" = some (some (.int 60000 t_MOST_GROWN)))
    (m_STROKE : PySem.W.nsIn K mainGlobals "STROKE" = some (some (.ref a_STROKE)))
    (l_STROKE : K.lookup a_STROKE = some ob_STROKE)
    (e_STROKE : ob_STROKE.cls = .type "tuple" ∧ ob_STROKE.data = .seq (([.int (1) u0_STROKE, .int (0) u1_STROKE, .int (0) u2_STROKE] : List Value).toArray) nn_STROKE)
    (mS : PySem.W.nsIn K mainGlobals "STEPS" = some (some (.ref sa)))
    (lS : K.lookup sa = some os)
    (eS : os.cls = .type "tuple" ∧ os.data = .seq (([.ref a0, .ref a1, .ref a2, .ref a3] : List Value).toArray) ns)
    (l_st0 : K.lookup a0 = some ob_st0)
    (e_st0 : ob_st0.cls = .type "tuple" ∧ ob_st0.data = .seq (([.int (1) u0_st0, .int (0) u1_st0] : List Value).toArray) nn_st0)
    (l_st1 : K.lookup a1 = some ob_st1)
    (e_st1 : ob_st1.cls = .type "tuple" ∧ ob_st1.data = .seq (([.int (0) u0_st1, .int (1) u1_st1] : List Value).toArray) nn_st1)
    (l_st2 : K.lookup a2 = some ob_st2)
    (e_st2 : ob_st2.cls = .type "tuple" ∧ ob_st2.data = .seq (([.int (-1) u0_st2, .int (0) u1_st2] : List Value).toArray) nn_st2)
    (l_st3 : K.lookup a3 = some ob_st3)
    (e_st3 : ob_st3.cls = .type "tuple" ∧ ob_st3.data = .seq (([.int (0) u0_st3, .int (-1) u1_st3] : List Value).toArray) nn_st3)
    (aCS : PySem.W.nsIn K mainGlobals "StrokeError" = some (some (.ref CS)))
    (exS : PySem.W.subIn K (.ref CS) (.type "BaseException") = some true)
    (hdS : PySem.W.hasDictIn K CS = true)
    (tyS : PySem.W.typeIn K (.ref CS) = some (.type "type"))
    (hnC : PySem.W.specialIn K (.builtin "object.__class__") "__get__" = some (some (.builtin "getset_descriptor.__get__")))
    (htC : PySem.W.takesIn K (.builtin "object.__class__") = some true)
    (z_super : PySem.W.nsIn K mainGlobals "super" = some none)
    (aC : PySem.W.nsIn K mainGlobals "TooMany" = some (some (.ref C)))
    (xC : K.lookup C = some (excClassObj nmC qC C NC bsC [.ref CS, .type "ValueError", .type "Exception", .type "BaseException", .type "object"] true snC subC abC colC ddC k0C k1C k2C k3C k5C "ValueError.__new__"))
    (gaC : PySem.W.findIn K (.ref C) "__getattribute__" = some (some (.builtin "BaseException.__getattribute__")))
    (ggC : PySem.W.findIn K (.ref C) "__getattr__" = some none)
    (exC : PySem.W.subIn K (.ref C) (.type "BaseException") = some true)
    (hdC : PySem.W.hasDictIn K C = true)
    (tyC : PySem.W.typeIn K (.ref C) = some (.type "type"))
    (kpC : PySem.W.keepIn K (.ref C) = true)
    (haC : PySem.W.findIn K (.ref C) "__class__" = some (some (.builtin "object.__class__")))
    (hmC : PySem.W.mroIn K C (.type "object") = some true)
    (suC : PySem.W.subIn K (.ref C) (.ref CS) = some true)
    (saC : PySem.W.findIn K (.ref C) "__setattr__" = some (some (.builtin "object.__setattr__")))
    (noC : PySem.W.findIn K (.ref C) "most" = some none)
    (iC : PySem.W.findIn K (.ref C) "__init__" = some (some (.ref fI)))
    (tC : PySem.W.typeIn K (.ref fI) = some (.type "function"))
    (veC : PySem.W.subIn K (.ref C) (.type "ValueError") = some true)
    (supC : PySem.W.ks_superIn K C C "__init__" = some (some (.builtin "ValueError.__init__")))
    (ownC : PySem.W.mroIn K C (.ref C) = some true)
    (opq : PySem.W.nsIn K cStatics "thirdparty.any" = some none)
    (lI : K.lookup fI = some ⟨ocI, odI, .func (PySem.W.ksFn "__init__" "TooMany.__init__" (defArgs s_TooMany_init) (defBody s_TooMany_init) (defScope s_TooMany_init) .none .none dcI pmI anI (.ref cdI) ctI ccI), slI⟩)
    (cI : PySem.W.codeIn K (.ref cdI) "TooMany.__init__" = true)
    (lcd : K.lookup cdI = some ⟨cclI, cddI, .fields vsI, ccsI⟩)
    (vI : vsI[2]? = some (.str fileI tfI))
    (fiI : ((l.prog.main.file : Str) == fileI) = true)
    (lcc : K.lookup ccI = some ⟨clI, cldI, .cell (some (.ref C)), cslI⟩)
    (topS : (l.prog.main.scope.names.lookup ("super" : Str)).isSome = false)
    (kitC : PySem.W.kitOne K (.ref C) (.ref C) = some true)
    (aL : PySem.W.nsIn K mainGlobals "law" = some (some (.ref fL)))
    (lL : K.lookup fL = some ⟨ocL, odL, .func (PySem.W.fnOf "law" "law" (defArgs s_law) (defBody s_law) (defScope s_law) .none kVL dcL pmL anL (.ref cL) ctL), slL⟩)
    (cLL : PySem.W.codeIn K (.ref cL) "law" = true)
    (hdL : PySem.W.codeHdIn K cL TP = true)
    (nTP : K.lookup TP = none)
    (hTP : h.get? TP = some { cls := .none, data := .fields #[] }) :
    LawAtS l w K L2.CX0 9 63 "script" mg fa h := by
  have e := hfa.symm.trans (PySem.W.mg_of X G aL)
  cases e
  have m : ∀ {x : Str} {u : Value}, PySem.W.nsIn K mainGlobals x = some (some u) → mg x = some u := fun h => PySem.W.mg_of X G h
  have z : ∀ {x : Str}, PySem.W.nsIn K mainGlobals x = some none → mg x = none := fun h => PySem.W.mg_none_of X G h
  have D : Defs K mg := ⟨def_mk X G a_taken l_taken c_taken k_taken, def_mk X G a_pick l_pick c_pick k_pick, def_mk X G a_branched l_branched c_branched k_branched, def_mk X G a_word l_word c_word k_word, def_mk X G a_book l_book c_book k_book, def_mk X G a_kit l_kit c_kit k_kit, def_mk X G a_even_word l_even_word c_even_word k_even_word, def_mk X G a_even_book l_even_book c_even_book k_even_book, def_mk X G a_grown l_grown c_grown k_grown, def_mk X G a_unit l_unit c_unit k_unit, def_mk X G a_drawn l_drawn c_drawn k_drawn, def_mk X G a_alike l_alike c_alike k_alike, def_mk X G a_age l_age c_age k_age, def_mk X G a_is_integer l_is_integer c_is_integer k_is_integer, def_mk X G a_is_word l_is_word c_is_word k_is_word, def_mk X G a_has_book_form l_has_book_form c_has_book_form k_has_book_form, def_mk X G a_check_book l_check_book c_check_book k_check_book, def_mk X G a_check_number l_check_number c_check_number k_check_number, def_mk X G a_letters_in l_letters_in c_letters_in k_letters_in, def_mk X G a_next_letters l_next_letters c_next_letters k_next_letters, def_mk X G a_count_letters l_count_letters c_count_letters k_count_letters, def_mk X G a_next_counts l_next_counts c_next_counts k_next_counts, def_mk X G a_check_size l_check_size c_check_size k_check_size, def_mk X G a_letters_by_age l_letters_by_age c_letters_by_age k_letters_by_age, def_mk X G a_replace_letters l_replace_letters c_replace_letters k_replace_letters, def_mk X G a_word_at l_word_at c_word_at k_word_at, def_mk X G a_draw l_draw c_draw k_draw, def_mk X G a_drawing l_drawing c_drawing k_drawing, def_mk X G a_rotate l_rotate c_rotate k_rotate, def_mk X G a_end_of_stroke l_end_of_stroke c_end_of_stroke k_end_of_stroke, def_mk X G a_ends_of l_ends_of c_ends_of k_ends_of, def_mk X G a_drawn_twice l_drawn_twice c_drawn_twice k_drawn_twice⟩
  have B : Blt mg := ⟨z z_isinstance, z z_int, z z_bool, z z_str, z z_tuple, z z_list, z z_len, z z_enumerate, z z_sorted, z z_range, z z_zip, z z_sum, z z_reversed, z z_abs, z z_min, z z_max⟩
  have D_ca : DefDAt K mg "check_age" s_check_age [.int 1000] := ⟨f_ca, _, m a_ca, ⟨_, _, _, _, _, _, _, _, _, _, rfl, l_ca, c_ca, .inr ⟨by simp, T_ca, o_ca, _, _, rfl, tt_ca, u_ca, .cons ⟨_, rfl⟩ .nil⟩, .inl rfl⟩, k_ca⟩
  have D_ba : DefDAt K mg "check_book_and_age" s_check_book_and_age [.int 1000] := ⟨f_ba, _, m a_ba, ⟨_, _, _, _, _, _, _, _, _, _, rfl, l_ba, c_ba, .inr ⟨by simp, T_ba, o_ba, _, _, rfl, tt_ba, u_ba, .cons ⟨_, rfl⟩ .nil⟩, .inl rfl⟩, k_ba⟩
  have P_ly : ModT K p_ly [.int (0), .int (0), .int (0)] := modT_of lp_ly e_ly.1 e_ly.2 (by show 3 ≤ 16777216; decide) (.cons ⟨_, rfl⟩ (.cons ⟨_, rfl⟩ (.cons ⟨_, rfl⟩ (.nil))))
  have D_ly : DefDAt K mg "lay" s_lay [.ref p_ly] := ⟨f_ly, _, m a_ly, ⟨_, _, _, _, _, _, _, _, _, _, rfl, l_ly, c_ly, .inr ⟨by simp, T_ly, o_ly, _, _, rfl, tt_ly, u_ly, .cons rfl .nil⟩, .inl rfl⟩, k_ly⟩
  have P_ls : ModT K p_ls [.int (0), .int (0), .int (0)] := modT_of lp_ls e_ls.1 e_ls.2 (by show 3 ≤ 16777216; decide) (.cons ⟨_, rfl⟩ (.cons ⟨_, rfl⟩ (.cons ⟨_, rfl⟩ (.nil))))
  have D_ls : DefDAt K mg "lay_strokes" s_lay_strokes [.ref p_ls] := ⟨f_ls, _, m a_ls, ⟨_, _, _, _, _, _, _, _, _, _, rfl, l_ls, c_ls, .inr ⟨by simp, T_ls, o_ls, _, _, rfl, tt_ls, u_ls, .cons rfl .nil⟩, .inl rfl⟩, k_ls⟩
  have h_STROKE : ModT K a_STROKE [.int (1), .int (0), .int (0)] := modT_of l_STROKE e_STROKE.1 e_STROKE.2 (by show 3 ≤ 16777216; decide) (.cons ⟨_, rfl⟩ (.cons ⟨_, rfl⟩ (.cons ⟨_, rfl⟩ (.nil))))
  have hS : StepsAt K sa := ⟨a0, a1, a2, a3, modT_of lS eS.1 eS.2 (by show 4 ≤ 16777216; decide) (.cons rfl (.cons rfl (.cons rfl (.cons rfl .nil)))), modT_of l_st0 e_st0.1 e_st0.2 (by show 2 ≤ 16777216; decide) (.cons ⟨_, rfl⟩ (.cons ⟨_, rfl⟩ (.nil))), modT_of l_st1 e_st1.1 e_st1.2 (by show 2 ≤ 16777216; decide) (.cons ⟨_, rfl⟩ (.cons ⟨_, rfl⟩ (.nil))), modT_of l_st2 e_st2.1 e_st2.2 (by show 2 ≤ 16777216; decide) (.cons ⟨_, rfl⟩ (.cons ⟨_, rfl⟩ (.nil))), modT_of l_st3 e_st3.1 e_st3.2 (by show 2 ≤ 16777216; decide) (.cons ⟨_, rfl⟩ (.cons ⟨_, rfl⟩ (.nil)))⟩
  have T : TmTxt l.prog K mg C fI := ⟨m aC, z z_super, ⟨_, _, _, _, _, _, _, _, _, _, _, _, _, _, _, xC, rfl⟩, saC, gaC, ggC, noC, iC, tC, kpC, exC, veC, tyC, hdC, supC, ownC, opq, topS, ⟨_, _, _, _, _, _, _, _, _, lI, cI, ⟨_, _, _, _, _, _, lcd, vI, fiI⟩, _, _, _, lcc⟩⟩
  have T2 : IsTxt K C := ⟨haC, hnC, htC, hmC, kitC⟩
  have teC : PySem.W.exmOne K (.ref C) (.ref CS) = some true := PySem.W.exm_ref exS hdS tyS suC
  have hC := PySem.W.codeHd_of_K X hdL
  refine ⟨PySem.W.fnOf "law" "law" (defArgs s_law) (defBody s_law) (defScope s_law) .none kVL dcL pmL anL (.ref cL) ctL, [(cL, TP)], spLaw K TP, fun p hp => ?_, fun p hp => ?_, fun p hp => ?_, fun s u => .of_eq (by first | rfl | with_unfolding_all rfl), fun H a ns hl _ ht hs => ⟨a, ns, rfl, hs, hl, ht (cL, TP) List.mem_cons_self, fun _ => rfl⟩, fun base KB NB TB => ?_⟩
  · rw [List.mem_singleton.mp hp]; exact hTP
  · rw [List.mem_singleton.mp hp]; exact nTP
  · rw [List.mem_singleton.mp hp]; exact hC
  · have all := all_got (P := l.prog) (w := w) (base := base) D B D_ca D_ba D_ly P_ly D_ls P_ls (m m_MOST_PARTS) (m m_MOST_LETTERS) (m m_MOST_GROWN) (m m_STROKE) h_STROKE (m mS) hS (m aCS) T T2 teC
    obtain ⟨LG, GW, GD⟩ := all
    exact ok_law lL cLL LG fun A outer s H E hr => law_rest T T2 (TB (cL, TP) List.mem_cons_self) (m aCS) teC GW GD B.isinstance B.int hr
end SK
open PySem PySem.W PyProof.Rows in
set_option maxRecDepth 100000 in
set_option maxHeartbeats 0 in
theorem PySem.Challenge.cw_strokeonce_k01_whole_drawings_holds : PySem.Challenge.rw_strokeonce_k01_whole_drawings.Holds := by
  w_on; o_law; k_head; (case hw => w_witness2)
  k_fill
  refine LamX.walk_ofTs (l := PySem.Challenge.rw_strokeonce_k01_whole_drawings) (n := 63) (k := 9) (x := "script") (CX := fun _ => L2.CX0) rfl (by decide) rfl ⟨rfl, by decide, by decide⟩ (fun w h Y => PySem.W.km_in_of Y) ?F ?cx
  case cx => exact fun _ _ _ _ _ z => z
  case F =>
    intro w mg fa h Y KX G hmg
    have hT := PySem.W.km_tabs_of Y _ (.head _)
    refine' SK.law_mk KX G hmg ?a_taken ?l_taken ?c_taken ?k_taken ?a_pick ?l_pick ?c_pick ?k_pick ?a_branched ?l_branched ?c_branched ?k_branched ?a_word ?l_word ?c_word ?k_word ?a_book ?l_book ?c_book ?k_book ?a_kit ?l_kit ?c_kit ?k_kit ?a_even_word ?l_even_word ?c_even_word ?k_even_word ?a_even_book ?l_even_book ?c_even_book ?k_even_book ?a_grown ?l_grown ?c_grown ?k_grown ?a_unit ?l_unit ?c_unit ?k_unit ?a_drawn ?l_drawn ?c_drawn ?k_drawn ?a_alike ?l_alike ?c_alike ?k_alike ?a_age ?l_age ?c_age ?k_age ?a_is_integer ?l_is_integer ?c_is_integer ?k_is_integer ?a_is_word ?l_is_word ?c_is_word ?k_is_word ?a_has_book_form ?l_has_book_form ?c_has_book_form ?k_has_book_form ?a_check_book ?l_check_book ?c_check_book ?k_check_book ?a_check_number ?l_check_number ?c_check_number ?k_check_number ?a_letters_in ?l_letters_in ?c_letters_in ?k_letters_in ?a_next_letters ?l_next_letters ?c_next_letters ?k_next_letters ?a_count_letters ?l_count_letters ?c_count_letters ?k_count_letters ?a_next_counts ?l_next_counts ?c_next_counts ?k_next_counts ?a_check_size ?l_check_size ?c_check_size ?k_check_size ?a_letters_by_age ?l_letters_by_age ?c_letters_by_age ?k_letters_by_age ?a_replace_letters ?l_replace_letters ?c_replace_letters ?k_replace_letters ?a_word_at ?l_word_at ?c_word_at ?k_word_at ?a_draw ?l_draw ?c_draw ?k_draw ?a_drawing ?l_drawing ?c_drawing ?k_drawing ?a_rotate ?l_rotate ?c_rotate ?k_rotate ?a_end_of_stroke ?l_end_of_stroke ?c_end_of_stroke ?k_end_of_stroke ?a_ends_of ?l_ends_of ?c_ends_of ?k_ends_of ?a_drawn_twice ?l_drawn_twice ?c_drawn_twice ?k_drawn_twice ?z_isinstance ?z_int ?z_bool ?z_str ?z_tuple ?z_list ?z_len ?z_enumerate ?z_sorted ?z_range ?z_zip ?z_sum ?z_reversed ?z_abs ?z_min ?z_max ?a_ca ?l_ca ?c_ca ?k_ca ?tt_ca ?u_ca ?a_ba ?l_ba ?c_ba ?k_ba ?tt_ba ?u_ba ?a_ly ?l_ly ?c_ly ?k_ly ?tt_ly ?u_ly ?lp_ly ?e_ly ?a_ls ?l_ls ?c_ls ?k_ls ?tt_ls ?u_ls ?lp_ls ?e_ls ?m_MOST_PARTS ?m_MOST_LETTERS ?m_MOST_GROWN ?m_STROKE ?l_STROKE ?e_STROKE ?mS ?lS ?eS ?l_st0 ?e_st0 ?l_st1 ?e_st1 ?l_st2 ?e_st2 ?l_st3 ?e_st3 ?aCS ?exS ?hdS ?tyS ?hnC ?htC ?z_super ?aC ?xC ?gaC ?ggC ?exC ?hdC ?tyC ?kpC ?haC ?hmC ?suC ?saC ?noC ?iC ?tC ?veC ?supC ?ownC ?opq ?lI ?cI ?lcd ?vI ?fiI ?lcc ?topS ?kitC ?aL ?lL ?cLL ?hdL ?nTP hT
    (case a_taken => k_is)
    (case l_taken => k_is)
    (case c_taken => k_is)
    (case k_taken => k_is)
    (case a_pick => k_is)
    (case l_pick => k_is)
    (case c_pick => k_is)
    (case k_pick => k_is)
    (case a_branched => k_is)
    (case l_branched => k_is)
    (case c_branched => k_is)
    (case k_branched => k_is)
    (case a_word => k_is)
    (case l_word => k_is)
    (case c_word => k_is)
    (case k_word => k_is)
    (case a_book => k_is)
    (case l_book => k_is)
    (case c_book => k_is)
    (case k_book => k_is)
    (case a_kit => k_is)
    (case l_kit => k_is)
    (case c_kit => k_is)
    (case k_kit => k_is)
    (case a_even_word => k_is)
    (case l_even_word => k_is)
    (case c_even_word => k_is)
    (case k_even_word => k_is)
    (case a_even_book => k_is)
    (case l_even_book => k_is)
    (case c_even_book => k_is)
    (case k_even_book => k_is)
    (case a_grown => k_is)
    (case l_grown => k_is)
    (case c_grown => k_is)
    (case k_grown => k_is)
    (case a_unit => k_is)
    (case l_unit => k_is)
    (case c_unit => k_is)
    (case k_unit => k_is)
    (case a_drawn => k_is)
    (case l_drawn => k_is)
    (case c_drawn => k_is)
    (case k_drawn => k_is)
    (case a_alike => k_is)
    (case l_alike => k_is)
    (case c_alike => k_is)
    (case k_alike => k_is)
    (case a_age => k_is)
    (case l_age => k_is)
    (case c_age => k_is)
    (case k_age => k_is)
    (case a_is_integer => k_is)
    (case l_is_integer => k_is)
    (case c_is_integer => k_is)
    (case k_is_integer => k_is)
    (case a_is_word => k_is)
    (case l_is_word => k_is)
    (case c_is_word => k_is)
    (case k_is_word => k_is)
    (case a_has_book_form => k_is)
    (case l_has_book_form => k_is)
    (case c_has_book_form => k_is)
    (case k_has_book_form => k_is)
    (case a_check_book => k_is)
    (case l_check_book => k_is)
    (case c_check_book => k_is)
    (case k_check_book => k_is)
    (case a_check_number => k_is)
    (case l_check_number => k_is)
    (case c_check_number => k_is)
    (case k_check_number => k_is)
    (case a_letters_in => k_is)
    (case l_letters_in => k_is)
    (case c_letters_in => k_is)
    (case k_letters_in => k_is)
    (case a_next_letters => k_is)
    (case l_next_letters => k_is)
    (case c_next_letters => k_is)
    (case k_next_letters => k_is)
    (case a_count_letters => k_is)
    (case l_count_letters => k_is)
    (case c_count_letters => k_is)
    (case k_count_letters => k_is)
    (case a_next_counts => k_is)
    (case l_next_counts => k_is)
    (case c_next_counts => k_is)
    (case k_next_counts => k_is)
    (case a_check_size => k_is)
    (case l_check_size => k_is)
    (case c_check_size => k_is)
    (case k_check_size => k_is)
    (case a_letters_by_age => k_is)
    (case l_letters_by_age => k_is)
    (case c_letters_by_age => k_is)
    (case k_letters_by_age => k_is)
    (case a_replace_letters => k_is)
    (case l_replace_letters => k_is)
    (case c_replace_letters => k_is)
    (case k_replace_letters => k_is)
    (case a_word_at => k_is)
    (case l_word_at => k_is)
    (case c_word_at => k_is)
    (case k_word_at => k_is)
    (case a_draw => k_is)
    (case l_draw => k_is)
    (case c_draw => k_is)
    (case k_draw => k_is)
    (case a_drawing => k_is)
    (case l_drawing => k_is)
    (case c_drawing => k_is)
    (case k_drawing => k_is)
    (case a_rotate => k_is)
    (case l_rotate => k_is)
    (case c_rotate => k_is)
    (case k_rotate => k_is)
    (case a_end_of_stroke => k_is)
    (case l_end_of_stroke => k_is)
    (case c_end_of_stroke => k_is)
    (case k_end_of_stroke => k_is)
    (case a_ends_of => k_is)
    (case l_ends_of => k_is)
    (case c_ends_of => k_is)
    (case k_ends_of => k_is)
    (case a_drawn_twice => k_is)
    (case l_drawn_twice => k_is)
    (case c_drawn_twice => k_is)
    (case k_drawn_twice => k_is)
    (case z_isinstance => k_is)
    (case z_int => k_is)
    (case z_bool => k_is)
    (case z_str => k_is)
    (case z_tuple => k_is)
    (case z_list => k_is)
    (case z_len => k_is)
    (case z_enumerate => k_is)
    (case z_sorted => k_is)
    (case z_range => k_is)
    (case z_zip => k_is)
    (case z_sum => k_is)
    (case z_reversed => k_is)
    (case z_abs => k_is)
    (case z_min => k_is)
    (case z_max => k_is)
    (case a_ca => k_is)
    (case l_ca => k_is)
    (case c_ca => k_is)
    (case k_ca => k_is)
    (case tt_ca => k_is)
    (case u_ca => exact rfl)
    (case a_ba => k_is)
    (case l_ba => k_is)
    (case c_ba => k_is)
    (case k_ba => k_is)
    (case tt_ba => k_is)
    (case u_ba => exact rfl)
    (case a_ly => k_is)
    (case l_ly => k_is)
    (case c_ly => k_is)
    (case k_ly => k_is)
    (case tt_ly => k_is)
    (case u_ly => exact rfl)
    (case lp_ly => k_is)
    (case e_ly => exact ⟨rfl, rfl⟩)
    (case a_ls => k_is)
    (case l_ls => k_is)
    (case c_ls => k_is)
    (case k_ls => k_is)
    (case tt_ls => k_is)
    (case u_ls => exact rfl)
    (case lp_ls => k_is)
    (case e_ls => exact ⟨rfl, rfl⟩)
    (case m_MOST_PARTS => k_is)
    (case m_MOST_LETTERS => k_is)
    (case m_MOST_GROWN => k_is)
    (case m_STROKE => k_is)
    (case l_STROKE => k_is)
    (case e_STROKE => exact ⟨rfl, rfl⟩)
    (case mS => k_is)
    (case lS => k_is)
    (case eS => exact ⟨rfl, rfl⟩)
    (case l_st0 => k_is)
    (case e_st0 => exact ⟨rfl, rfl⟩)
    (case l_st1 => k_is)
    (case e_st1 => exact ⟨rfl, rfl⟩)
    (case l_st2 => k_is)
    (case e_st2 => exact ⟨rfl, rfl⟩)
    (case l_st3 => k_is)
    (case e_st3 => exact ⟨rfl, rfl⟩)
    (case aCS => k_is)
    (case exS => k_is)
    (case hdS => k_is)
    (case tyS => k_is)
    (case hnC => k_is)
    (case htC => k_is)
    (case z_super => k_is)
    (case aC => k_is)
    (case xC => k_is)
    (case gaC => k_is)
    (case ggC => k_is)
    (case exC => k_is)
    (case hdC => k_is)
    (case tyC => k_is)
    (case kpC => k_is)
    (case haC => k_is)
    (case hmC => k_is)
    (case suC => k_is)
    (case saC => k_is)
    (case noC => k_is)
    (case iC => k_is)
    (case tC => k_is)
    (case veC => k_is)
    (case supC => first | ks_is | kernel_rfl)
    (case ownC => k_is)
    (case opq => k_is)
    (case lI => k_is)
    (case cI => k_is)
    (case lcd => k_is)
    (case vI => exact rfl)
    (case fiI => decide +kernel)
    (case lcc => k_is)
    (case topS => decide +kernel)
    (case kitC => first | kernel_rfl | decide +kernel)
    (case aL => k_is)
    (case lL => k_is)
    (case cLL => k_is)
    (case hdL => first | kernel_rfl | decide +kernel)
    (case nTP => first | kernel_rfl | decide +kernel)
#print axioms PySem.Challenge.cw_strokeonce_k01_whole_drawings_holds
