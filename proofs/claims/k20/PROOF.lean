import PyProof.Rows.All
import Wide.All
import OpenK.AllK
import Wide.FinOn
import HandS.ForMost
import HandS.IsInst
import HandS.Flow
import PySem.Challenge.RW_strokeonce_k20_whole_pictures
import HandS.Wide
import KE.GoesEnum
import HandS.Iter
import HandS.Defaults
import HandS.SetBool
import HandS.Strs
import HandS.Walk
import HandS.DictComp
import HandS.More
import HandS.TupSets
import HandS.ForExc
import KE.KExcSuper
import KE.KSuper
import HandS.FStr
import HandS.Codes
import HandS.Star
import HandS.Sort
import KE.DataMinMax
import KE.SortData
import KE.KDictKeyed
import HandS.Text
import HandS.Steps
import HandS.DictTup
import HandS.Conv
import HandS.Small
import HandS.Style
import HandS.NoneIn
import HandS.Deep
import KE.KExcIs
import HandS.EndOwn
import HandS.ExcIs
set_option Elab.async false
set_option linter.all false
set_option maxRecDepth 100000
set_option maxHeartbeats 4000000
/-! common words: heaps, the row of draws, words of signs, books -/
namespace SK
open PySem PySem.Spec PyProof.Rows L2

/-! ### heaps -/
theorem same_upd {H : Hp} {p : Addr} {o : HO} (h : H p = none) : Same H (upd H p o) := fun b x e => by
  rw [upd_ne (ne_of_none e h)]
  exact e
theorem sUpd {H H1 : Hp} {p : Addr} {o : HO} (s : Same H H1) (h : H1 p = none) : Same H (upd H1 p o) := s.trans (same_upd h)
theorem sNone {H H1 : Hp} {p : Addr} (s : Same H H1) (h : H1 p = none) : H p = none := s.free h
/-- a change of a new thing is none of what stood -/
theorem sPut {H H1 : Hp} {p : Addr} {o : HO} (s : Same H H1) (h : H p = none) : Same H (L2.upd H1 p o) := fun b x e => by
  rw [upd_ne (ne_of_none e h)]
  exact s b x e
theorem sTup {K : PySem.W.Frag} {H H' : Hp} {a : Addr} {xs : List V} (e : Same H H') (h : SqT K H a xs) : SqT K H' a xs := by
  rcases h with (h | ⟨o, h⟩) | h
  · exact .inl (.inl (e _ _ h))
  · exact .inl (.inr ⟨o, e _ _ h⟩)
  · exact .inr h
/-- all that was tracked but r is as it was -/
def SameX (r : Addr) (H H' : Hp) : Prop := ∀ b o, b ≠ r → H b = some o → H' b = some o
theorem SameX.refl {r : Addr} {H : Hp} : SameX r H H := fun _ _ _ h => h
theorem SameX.trans {r : Addr} {H H1 H2 : Hp} (a : SameX r H H1) (b : SameX r H1 H2) : SameX r H H2 := fun c o n h => b c o n (a c o n h)
theorem SameX.of {r : Addr} {H H' : Hp} (s : Same H H') : SameX r H H' := fun b o _ h => s b o h
theorem SameX.new {r : Addr} {H H1 : Hp} {p : Addr} {o : HO} (s : SameX r H H1) (h : H1 p = none) : SameX r H (upd H1 p o) := s.trans (.of (same_upd h))
theorem SameX.at {r : Addr} {H H1 : Hp} {o : HO} (s : SameX r H H1) : SameX r H (upd H1 r o) := fun b x n e => by
  rw [upd_ne n]
  exact s b x n e
theorem SameX.put {r : Addr} {H H1 : Hp} {p : Addr} {o : HO} (s : SameX r H H1) (h : H p = none) : SameX r H (upd H1 p o) := fun b x n e => by
  rw [upd_ne (ne_of_none e h)]
  exact s b x n e

/-! ### the row of draws: [script, how many are taken, mixed, the rest] -/
abbrev Scr := Addr × List Int
def RowOk (K : PySem.W.Frag) (S : Scr) (H : Hp) (r : Addr) : Prop := ∃ (i s c : Int),
  H r = some (.lst [.ref S.1, .int i, .int s, .int c]) ∧ SqL K H S.1 (S.2.map V.int) ∧ 0 ≤ i ∧ S.1 ≠ r ∧ S.2.length ≤ 63
theorem sqX {K : PySem.W.Frag} {H H' : Hp} {a r : Addr} {xs : List V} (s : SameX r H H') (n : a ≠ r) (h : SqL K H a xs) : SqL K H' a xs := by
  rcases h with (h | ⟨o, h⟩) | h
  · exact .inl (.inl (s _ _ n h))
  · exact .inl (.inr ⟨o, s _ _ n h⟩)
  · exact .inr h
/-- what was readable ahead of a new thing at p is so behind a change of p -/
theorem sqPut {K : PySem.W.Frag} {H H' : Hp} {a p : Addr} {xs : List V} {o : HO} (h : SqL K H a xs) (n : H p = none) (h' : SqL K H' a xs) : SqL K (upd H' p o) a xs := by
  have go : a ≠ p → SqL K (upd H' p o) a xs := fun ne => by
    rcases h' with (h | ⟨o, h⟩) | h
    · exact .inl (.inl (by rw [upd_ne ne]; exact h))
    · exact .inl (.inr ⟨o, by rw [upd_ne ne]; exact h⟩)
    · exact .inr h
  rcases h with (h | ⟨o, h⟩) | h
  · exact go (ne_of_none h n)
  · exact go (ne_of_none h n)
  · exact .inr h
section
variable {K : PySem.W.Frag} {S : Scr} {H H' H1 H2 : Hp} {r p : Addr} {o : HO}
theorem RowOk.same (h : RowOk K S H r) (s : Same H H') : RowOk K S H' r := by
  obtain ⟨i, st, c, h1, h2, h3, h4, h5⟩ := h
  exact ⟨i, st, c, s _ _ h1, s.seq h2, h3, h4, h5⟩
theorem RowOk.there (h : RowOk K S H r) {p : Addr} (n : H p = none) : p ≠ r := by
  obtain ⟨i, st, c, h1, _⟩ := h
  exact (ne_of_none h1 n).symm
theorem RowOk.put (h : RowOk K S H r) (n : H p = none) (h' : RowOk K S H' r) : RowOk K S (upd H' p o) r := by
  have hp : p ≠ r := h.there n
  obtain ⟨i, st, c, h1, h2, h3, h4, h5⟩ := h'
  obtain ⟨_, _, _, _, g, _⟩ := h
  exact ⟨i, st, c, by rw [upd_ne hp.symm]; exact h1, sqPut g n h2, h3, h4, h5⟩
/-- between: what a step that draws may change -/
structure Drawn (K : PySem.W.Frag) (S : Scr) (r : Addr) (H H' : Hp) : Prop where
  same : SameX r H H'
  row : RowOk K S H' r
theorem Drawn.trans (a : Drawn K S r H H1) (b : Drawn K S r H1 H2) : Drawn K S r H H2 := ⟨a.same.trans b.same, b.row⟩
theorem Drawn.new (a : Drawn K S r H H1) (h : H1 p = none) : Drawn K S r H (upd H1 p o) := ⟨a.same.new h, a.row.same (same_upd h)⟩
theorem Drawn.refl (h : RowOk K S H r) : Drawn K S r H H := ⟨.refl, h⟩
theorem Drawn.then (a : Drawn K S r H H1) (b : Same H1 H2) : Drawn K S r H H2 := ⟨a.same.trans (.of b), a.row.same b⟩
/-- a thing that is new since H is changed -/
theorem Drawn.put (a : Drawn K S r H H1) (h : RowOk K S H r) (n : H p = none) : Drawn K S r H (upd H1 p o) := ⟨a.same.put n, h.put n a.row⟩
/-- what stands and is not the row -/
theorem Drawn.at (a : Drawn K S r H H') {b : Addr} {o : HO} (n : b ≠ r) (h : H b = some o) : H' b = some o := a.same b o n h
theorem RowOk.ne (hr : RowOk K S H r) {b : Addr} {xs : List V} (h : H b = some (.tup xs)) : b ≠ r := by
  obtain ⟨_, _, _, h1, _⟩ := hr
  exact ne_of h h1 (by intro z; cases z)
theorem Drawn.tup (a : Drawn K S r H H') (hr : RowOk K S H r) {b : Addr} {xs : List V} (h : H b = some (.tup xs)) : H' b = some (.tup xs) := a.at (hr.ne h) h
end

/-! ### short words -/
section
variable {X : Cx}
theorem pcat {a b : Expr} {ta tb : TE} {pos : Pos} (ha : PE X a ta) (hb : PE X b tb) : PE X (.BinOp a .Add b pos) (tOp rCat ta tb) := pe_op op_cat ha hb
theorem padd {a b : Expr} {ta tb : TE} {pos : Pos} (ha : PE X a ta) (hb : PE X b tb) : PE X (.BinOp a .Add b pos) (tOp (rI0 fun i j => .int (i + j)) ta tb) := pe_op op_add ha hb
theorem psub {a b : Expr} {ta tb : TE} {pos : Pos} (ha : PE X a ta) (hb : PE X b tb) : PE X (.BinOp a .Sub b pos) (tOp (rI0 fun i j => .int (i - j)) ta tb) := pe_op op_sub ha hb
theorem pmod {a b : Expr} {ta tb : TE} {pos : Pos} (ha : PE X a ta) (hb : PE X b tb) : PE X (.BinOp a .Mod b pos) (tOp (rI (fun _ j => 0 < j) fun i j => .int (i % j)) ta tb) := pe_op op_mod ha hb
def rInt1 : List V → Hp → VK → Prop := fun xs H Q => (∃ i, xs = [.int i] ∧ Q (.int i) H) ∨ ∃ k, xs = [.bl k] ∧ Q (.int (if k then 1 else 0)) H
theorem pint {e : Expr} {te : TE} {p pos : Pos} (m : X.mg "int" = none) (h : PE X e te) (hg : Gl X "int" := by rfl) (hs1 : starEach [e] X.env = (false, eval e X.env) :: starEach [] X.env := by rfl) (hp1 : (backTo pos (starEach [] X.env)).any (·.1) = false := by rfl) : PE X (.Call (.Name "int" p) [e] [] pos) (tCB rInt1 (tCons te tNil)) :=
  pe_callTy call_int1 hg m (by decide +kernel) (pa_cons h pa_nil hs1) (by decide) (by decide) hs1 hp1
theorem pix {a : Expr} {ta : TE} {b : Expr} {tb : TE} {pos : Pos} (ha : PE X a ta) (hb : PE X b tb) (hs : PlainIx b := by exact fun _ _ => rfl) : PE X (.Subscript a b pos) (tOp (rIxL X.K) ta tb) := pe_ix ix_list ha hb hs
theorem pixT {a : Expr} {ta : TE} {b : Expr} {tb : TE} {pos : Pos} (ha : PE X a ta) (hb : PE X b tb) (hs : PlainIx b := by exact fun _ _ => rfl) : PE X (.Subscript a b pos) (tOp (rIxT X.K) ta tb) := pe_ix ix_tup ha hb hs
def rLenS (K : PySem.W.Frag) : List V → Hp → VK → Prop := fun xs H Q => ∃ p ys, xs = [.ref p] ∧ (SqL K H p ys ∨ SqT K H p ys) ∧ Q (.int ys.length) H
theorem plen {e : Expr} {te : TE} {p pos : Pos} (m : X.mg "len" = none) (h : PE X e te) (hg : Gl X "len" := by rfl) (hs1 : starEach [e] X.env = (false, eval e X.env) :: starEach [] X.env := by rfl) (hp1 : (backTo pos (starEach [] X.env)).any (·.1) = false := by rfl) : PE X (.Call (.Name "len" p) [e] [] pos) (tCB (rLenS X.K) (tCons te tNil)) :=
  pe_callB call_len_seq hg m PySem.boot_len (pa_cons h pa_nil hs1) (by decide) (by decide) hs1 hp1
theorem sapp {a e : Expr} {ta te : TE} {p1 p2 p3 : Pos} (ha : PE X a ta) (he : PE X e te) (hb : attributeBase a "append" X.env (eval a X.env) = eval a X.env := by rfl)
    (hf : ((backTo p2 (starEach (e :: []) X.env)).all (fun x => !x.1) && (backToKw p2 (keywordEach [] X.env)).all (fun x => x.1.isSome) && decide ((e :: []).length + ([] : List Keyword).length + (if ([] : List Keyword).isEmpty then 0 else 1) < 30)) = true := by rfl)
    (hl : (p1.endLine == p2.line) = true := by rfl) (hs1 : starEach [e] X.env = (false, eval e X.env) :: starEach [] X.env := by rfl) (hp1 : (backTo p2 (starEach [] X.env)).any (·.1) = false := by rfl) : PS X (.Expr (.Call (.Attribute a "append" p1) [e] [] p2) p3) (tDrop (tBM X.K "list" rAppend ta (tCons te tNil))) :=
  ps_expr (pe_bm PySem.F.plainAttrs_list PySem.F.slot_list_append PySem.F.type_list_append mt_append ha (pa_cons he pa_nil hs1) hb hf hl hs1 hp1)
end
theorem at0 {α : Type} {x : α} {xs : List α} : atI (x :: xs) 0 = some x := atI_nat (j := 0) rfl
theorem at1 {α : Type} {x y : α} {xs : List α} : atI (x :: y :: xs) 1 = some y := atI_nat (j := 1) rfl
theorem at2 {α : Type} {x y z : α} {xs : List α} : atI (x :: y :: z :: xs) 2 = some z := atI_nat (j := 2) rfl
theorem at3 {α : Type} {x y z u : α} {xs : List α} : atI (x :: y :: z :: u :: xs) 3 = some u := atI_nat (j := 3) rfl
theorem szl (n : Nat) (h : n ≤ 16777216 := by first | decide | omega | simp) : n ≤ sizeLine := by rw [sizeLine_eq]; exact h
end SK
/-! the program's text by places -/
namespace SK
open PySem PySem.Spec PyProof.Rows L2
def topS (i : Nat) : Stmt := PySem.Challenge.pw_strokeonce_k20_whole_pictures.main.body.getD i (.Pass ⟨0, 0, 0, 0⟩)
def clsB : Stmt → List Stmt
  | .ClassDef (body := b) .. => b
  | _ => []
abbrev c_StrokeError : Stmt := topS 1
abbrev c_BadBook : Stmt := topS 2
abbrev s_BadBook_init : Stmt := (clsB c_BadBook).getD 0 (.Pass ⟨0, 0, 0, 0⟩)
abbrev n_BadBook_init : List Str := ["self", "letter"]
abbrev jp_BadBook_init : Pos := ⟨7, 25, 7, 54⟩
abbrev c_BadNumber : Stmt := topS 3
abbrev c_BadPlace : Stmt := topS 4
abbrev c_TooMany : Stmt := topS 5
abbrev s_TooMany_init : Stmt := (clsB c_TooMany).getD 0 (.Pass ⟨0, 0, 0, 0⟩)
abbrev n_TooMany_init : List Str := ["self", "most"]
abbrev jp_TooMany_init : Pos := ⟨16, 25, 16, 44⟩
abbrev s_is_integer : Stmt := topS 11
abbrev n_is_integer : List Str := ["value"]
theorem sc_is_integer : FnScope n_is_integer ["value"] (defScope s_is_integer) := ⟨rfl, rfl, rfl, by decide +kernel, rfl, by decide +kernel, by decide +kernel⟩
abbrev s_is_word : Stmt := topS 12
abbrev n_is_word : List Str := ["value", "many", "letters", "depth", "part"]
theorem sc_is_word : FnScope n_is_word ["value", "many"] (defScope s_is_word) := ⟨rfl, rfl, rfl, by decide +kernel, rfl, by decide +kernel, by decide +kernel⟩
abbrev s_has_book_form : Stmt := topS 13
abbrev n_has_book_form : List Str := ["value", "words"]
theorem sc_has_book_form : FnScope n_has_book_form ["value"] (defScope s_has_book_form) := ⟨rfl, rfl, rfl, by decide +kernel, rfl, by decide +kernel, by decide +kernel⟩
abbrev s_check_book : Stmt := topS 14
abbrev n_check_book : List Str := ["value", "words", "start", "letter", "word"]
theorem sc_check_book : FnScope n_check_book ["value"] (defScope s_check_book) := ⟨rfl, rfl, rfl, by decide +kernel, rfl, by decide +kernel, by decide +kernel⟩
abbrev s_check_number : Stmt := topS 15
abbrev n_check_number : List Str := ["value", "least", "most"]
theorem sc_check_number : FnScope n_check_number ["value", "least", "most"] (defScope s_check_number) := ⟨rfl, rfl, rfl, by decide +kernel, rfl, by decide +kernel, by decide +kernel⟩
abbrev s_check_age : Stmt := topS 16
abbrev n_check_age : List Str := ["value", "most"]
theorem sc_check_age : FnScope n_check_age ["value", "most"] (defScope s_check_age) := ⟨rfl, rfl, rfl, by decide +kernel, rfl, by decide +kernel, by decide +kernel⟩
abbrev s_check_book_and_age : Stmt := topS 17
abbrev n_check_book_and_age : List Str := ["book", "age", "most"]
theorem sc_check_book_and_age : FnScope n_check_book_and_age ["book", "age", "most"] (defScope s_check_book_and_age) := ⟨rfl, rfl, rfl, by decide +kernel, rfl, by decide +kernel, by decide +kernel⟩
abbrev s_is_coordinate : Stmt := topS 18
abbrev n_is_coordinate : List Str := ["value"]
theorem sc_is_coordinate : FnScope n_is_coordinate ["value"] (defScope s_is_coordinate) := ⟨rfl, rfl, rfl, by decide +kernel, rfl, by decide +kernel, by decide +kernel⟩
abbrev s_check_place : Stmt := topS 19
abbrev n_check_place : List Str := ["value", "x", "y"]
theorem sc_check_place : FnScope n_check_place ["value"] (defScope s_check_place) := ⟨rfl, rfl, rfl, by decide +kernel, rfl, by decide +kernel, by decide +kernel⟩
abbrev s_letters_in : Stmt := topS 21
abbrev n_letters_in : List Str := ["parts", "part"]
theorem sc_letters_in : FnScope n_letters_in ["parts"] (defScope s_letters_in) := ⟨rfl, rfl, rfl, by decide +kernel, rfl, by decide +kernel, by decide +kernel⟩
abbrev s_next_letters : Stmt := topS 22
abbrev n_next_letters : List Str := ["words", "letters", "letter", "part"]
theorem sc_next_letters : FnScope n_next_letters ["words", "letters"] (defScope s_next_letters) := ⟨rfl, rfl, rfl, by decide +kernel, rfl, by decide +kernel, by decide +kernel⟩
abbrev s_ages_of_letters : Stmt := topS 23
abbrev n_ages_of_letters : List Str := ["words", "parts", "ages", "age", "fresh", "letter"]
theorem sc_ages_of_letters : FnScope n_ages_of_letters ["words", "parts"] (defScope s_ages_of_letters) := ⟨rfl, rfl, rfl, by decide +kernel, rfl, by decide +kernel, by decide +kernel⟩
abbrev s_coming_letters : Stmt := topS 24
abbrev n_coming_letters : List Str := ["words", "parts"]
theorem sc_coming_letters : FnScope n_coming_letters ["words", "parts"] (defScope s_coming_letters) := ⟨rfl, rfl, rfl, by decide +kernel, rfl, by decide +kernel, by decide +kernel⟩
abbrev s_rotate : Stmt := topS 28
abbrev n_rotate : List Str := ["x", "y", "quarters"]
theorem sc_rotate : FnScope n_rotate ["x", "y", "quarters"] (defScope s_rotate) := ⟨rfl, rfl, rfl, by decide +kernel, rfl, by decide +kernel, by decide +kernel⟩
abbrev s_lay : Stmt := topS 29
abbrev n_lay : List Str := ["word", "ends", "pen", "x", "y", "heading", "begun", "laid", "part", "ahead", "aside", "turned", "right", "up"]
theorem sc_lay : FnScope n_lay ["word", "ends", "pen"] (defScope s_lay) := ⟨rfl, rfl, rfl, by decide +kernel, rfl, by decide +kernel, by decide +kernel⟩
abbrev s_end_of_stroke : Stmt := topS 30
abbrev n_end_of_stroke : List Str := ["stroke", "x", "y", "heading", "_", "right", "up"]
theorem sc_end_of_stroke : FnScope n_end_of_stroke ["stroke"] (defScope s_end_of_stroke) := ⟨rfl, rfl, rfl, by decide +kernel, rfl, by decide +kernel, by decide +kernel⟩
abbrev s_strokes_of : Stmt := topS 32
abbrev n_strokes_of : List Str := ["word", "strokes", "part"]
theorem sc_strokes_of : FnScope n_strokes_of ["word", "strokes"] (defScope s_strokes_of) := ⟨rfl, rfl, rfl, by decide +kernel, rfl, by decide +kernel, by decide +kernel⟩
abbrev s_strokes_by_age : Stmt := topS 33
abbrev n_strokes_by_age : List Str := ["words", "letters", "age", "rows", "_", "row", "letter"]
theorem sc_strokes_by_age : FnScope n_strokes_by_age ["words", "letters", "age"] (defScope s_strokes_by_age) := ⟨rfl, rfl, rfl, by decide +kernel, rfl, by decide +kernel, by decide +kernel⟩
abbrev s_ends_by_age : Stmt := topS 34
abbrev n_ends_by_age : List Str := ["words", "letters", "age", "rows", "_", "row", "letter"]
theorem sc_ends_by_age : FnScope n_ends_by_age ["words", "letters", "age"] (defScope s_ends_by_age) := ⟨rfl, rfl, rfl, by decide +kernel, rfl, by decide +kernel, by decide +kernel⟩
abbrev s_move_box : Stmt := topS 35
abbrev n_move_box : List Str := ["box", "x", "y", "heading", "left", "low", "right", "high", "near_x", "near_y", "far_x", "far_y"]
theorem sc_move_box : FnScope n_move_box ["box", "x", "y", "heading"] (defScope s_move_box) := ⟨rfl, rfl, rfl, by decide +kernel, rfl, by decide +kernel, by decide +kernel⟩
abbrev s_box_of : Stmt := topS 36
abbrev n_box_of : List Str := ["word", "ends", "boxes", "laid", "_", "moved", "x", "y", "heading", "letter", "box"]
theorem sc_box_of : FnScope n_box_of ["word", "ends", "boxes"] (defScope s_box_of) := ⟨rfl, rfl, rfl, by decide +kernel, rfl, by decide +kernel, by decide +kernel⟩
abbrev s_boxes_by_age : Stmt := topS 37
abbrev n_boxes_by_age : List Str := ["words", "letters", "ends", "rows", "row", "boxes", "letter"]
theorem sc_boxes_by_age : FnScope n_boxes_by_age ["words", "letters", "ends"] (defScope s_boxes_by_age) := ⟨rfl, rfl, rfl, by decide +kernel, rfl, by decide +kernel, by decide +kernel⟩
abbrev s_ends_of : Stmt := topS 39
abbrev n_ends_of : List Str := ["stroke", "begin", "end"]
theorem sc_ends_of : FnScope n_ends_of ["stroke"] (defScope s_ends_of) := ⟨rfl, rfl, rfl, by decide +kernel, rfl, by decide +kernel, by decide +kernel⟩
abbrev s_stroke : Stmt := topS 41
abbrev n_stroke : List Str := ["book", "age", "number", "words", "start", "letters", "strokes", "ends", "word", "pen", "left", "level", "x", "y", "heading", "letter", "many"]
theorem sc_stroke : FnScope n_stroke ["book", "age", "number"] (defScope s_stroke) := ⟨rfl, rfl, rfl, by decide +kernel, rfl, by decide +kernel, by decide +kernel⟩
abbrev c_Seeker : Stmt := topS 46
abbrev s_Seeker_init : Stmt := (clsB c_Seeker).getD 0 (.Pass ⟨0, 0, 0, 0⟩)
abbrev n_Seeker_init : List Str := ["self", "book", "age", "letters"]
theorem sc_Seeker_init : FnScope n_Seeker_init ["self", "book", "age"] (defScope s_Seeker_init) := ⟨rfl, rfl, rfl, by decide +kernel, rfl, by decide +kernel, by decide +kernel⟩
abbrev s_Seeker_parts : Stmt := (clsB c_Seeker).getD 1 (.Pass ⟨0, 0, 0, 0⟩)
abbrev n_Seeker_parts : List Str := ["self", "word", "level", "number", "pen", "found", "path"]
theorem sc_Seeker_parts : FnScope n_Seeker_parts ["self", "word", "level", "number", "pen"] (defScope s_Seeker_parts) := ⟨rfl, rfl, rfl, by decide +kernel, rfl, by decide +kernel, by decide +kernel⟩
abbrev s_Seeker_reaches : Stmt := (clsB c_Seeker).getD 2 (.Pass ⟨0, 0, 0, 0⟩)
abbrev n_Seeker_reaches : List Str := ["self", "level", "path", "corner", "end", "x", "y", "heading", "letter", "left", "low", "right", "high"]
theorem sc_Seeker_reaches : FnScope n_Seeker_reaches ["self", "level", "path", "corner", "end"] (defScope s_Seeker_reaches) := ⟨rfl, rfl, rfl, by decide +kernel, rfl, by decide +kernel, by decide +kernel⟩
abbrev s_Seeker_seek : Stmt := (clsB c_Seeker).getD 3 (.Pass ⟨0, 0, 0, 0⟩)
abbrev n_Seeker_seek : List Str := ["self", "age", "corner", "end", "found", "waiting", "looks", "level", "number", "path"]
theorem sc_Seeker_seek : FnScope n_Seeker_seek ["self", "age", "corner", "end"] (defScope s_Seeker_seek) := ⟨rfl, rfl, rfl, by decide +kernel, rfl, by decide +kernel, by decide +kernel⟩
abbrev s_check_many : Stmt := topS 47
abbrev n_check_many : List Str := ["found"]
theorem sc_check_many : FnScope n_check_many ["found"] (defScope s_check_many) := ⟨rfl, rfl, rfl, by decide +kernel, rfl, by decide +kernel, by decide +kernel⟩
abbrev s_window : Stmt := topS 48
abbrev n_window : List Str := ["book", "age", "corner", "end", "found"]
theorem sc_window : FnScope n_window ["book", "age", "corner", "end"] (defScope s_window) := ⟨rfl, rfl, rfl, by decide +kernel, rfl, by decide +kernel, by decide +kernel⟩
abbrev s_check_picture : Stmt := topS 51
abbrev n_check_picture : List Str := ["book", "age", "corner", "end"]
theorem sc_check_picture : FnScope n_check_picture ["book", "age", "corner", "end"] (defScope s_check_picture) := ⟨rfl, rfl, rfl, by decide +kernel, rfl, by decide +kernel, by decide +kernel⟩
abbrev s_between : Stmt := topS 52
abbrev n_between : List Str := ["signs", "gaps", "gap", "sign"]
theorem sc_between : FnScope n_between ["signs", "gaps"] (defScope s_between) := ⟨rfl, rfl, rfl, by decide +kernel, rfl, by decide +kernel, by decide +kernel⟩
abbrev s_line_of_places : Stmt := topS 53
abbrev n_line_of_places : List Str := ["columns", "y", "places", "sides", "signs", "x"]
theorem sc_line_of_places : FnScope n_line_of_places ["columns", "y", "places", "sides"] (defScope s_line_of_places) := ⟨rfl, rfl, rfl, by decide +kernel, rfl, by decide +kernel, by decide +kernel⟩
abbrev s_line_below : Stmt := topS 54
abbrev n_line_below : List Str := ["columns", "y", "sides", "signs", "x", "_"]
theorem sc_line_below : FnScope n_line_below ["columns", "y", "sides"] (defScope s_line_below) := ⟨rfl, rfl, rfl, by decide +kernel, rfl, by decide +kernel, by decide +kernel⟩
abbrev s_picture : Stmt := topS 55
abbrev n_picture : List Str := ["book", "age", "corner", "end", "strokes", "sides", "places", "columns", "lines", "y", "row", "each", "side", "place"]
theorem sc_picture : FnScope n_picture ["book", "age", "corner", "end"] (defScope s_picture) := ⟨rfl, rfl, rfl, by decide +kernel, rfl, by decide +kernel, by decide +kernel⟩
abbrev s_touching : Stmt := topS 56
abbrev n_touching : List Str := ["book", "age", "number", "own", "corner", "end", "rows", "found", "row"]
theorem sc_touching : FnScope n_touching ["book", "age", "number"] (defScope s_touching) := ⟨rfl, rfl, rfl, by decide +kernel, rfl, by decide +kernel, by decide +kernel⟩
abbrev s_first_coming : Stmt := topS 57
abbrev n_first_coming : List Str := ["book", "place", "most", "seeker", "age", "found"]
theorem sc_first_coming : FnScope n_first_coming ["book", "place", "most"] (defScope s_first_coming) := ⟨rfl, rfl, rfl, by decide +kernel, rfl, by decide +kernel, by decide +kernel⟩
abbrev s_law_taken : Stmt := topS 59
abbrev n_law_taken : List Str := ["row", "many", "found", "cell"]
theorem sc_law_taken : FnScope n_law_taken ["row", "many"] (defScope s_law_taken) := ⟨rfl, rfl, rfl, by decide +kernel, rfl, by decide +kernel, by decide +kernel⟩
abbrev s_law_pick : Stmt := topS 60
abbrev n_law_pick : List Str := ["row", "things"]
theorem sc_law_pick : FnScope n_law_pick ["row", "things"] (defScope s_law_pick) := ⟨rfl, rfl, rfl, by decide +kernel, rfl, by decide +kernel, by decide +kernel⟩
abbrev s_law_branched : Stmt := topS 61
abbrev n_law_branched : List Str := ["row", "word", "letters", "found", "at", "turn"]
theorem sc_law_branched : FnScope n_law_branched ["row", "word", "letters"] (defScope s_law_branched) := ⟨rfl, rfl, rfl, by decide +kernel, rfl, by decide +kernel, by decide +kernel⟩
abbrev s_law_word : Stmt := topS 62
abbrev n_law_word : List Str := ["row", "letters", "most", "found", "turn"]
theorem sc_law_word : FnScope n_law_word ["row", "letters", "most"] (defScope s_law_word) := ⟨rfl, rfl, rfl, by decide +kernel, rfl, by decide +kernel, by decide +kernel⟩
abbrev s_law_book : Stmt := topS 63
abbrev n_law_book : List Str := ["row", "letters", "words", "k"]
theorem sc_law_book : FnScope n_law_book ["row"] (defScope s_law_book) := ⟨rfl, rfl, rfl, by decide +kernel, rfl, by decide +kernel, by decide +kernel⟩
abbrev s_law_kit : Stmt := topS 64
abbrev n_law_kit : List Str := ["row", "dragon", "square", "levy", "wide"]
theorem sc_law_kit : FnScope n_law_kit ["row"] (defScope s_law_kit) := ⟨rfl, rfl, rfl, by decide +kernel, rfl, by decide +kernel, by decide +kernel⟩
abbrev s_law_even_word : Stmt := topS 65
abbrev n_law_even_word : List Str := ["row", "letters", "move", "steps", "way", "found", "heading", "step", "many"]
theorem sc_law_even_word : FnScope n_law_even_word ["row", "letters", "move"] (defScope s_law_even_word) := ⟨rfl, rfl, rfl, by decide +kernel, rfl, by decide +kernel, by decide +kernel⟩
abbrev s_law_even_book : Stmt := topS 66
abbrev n_law_even_book : List Str := ["row", "letters", "move", "words", "start", "k"]
theorem sc_law_even_book : FnScope n_law_even_book ["row"] (defScope s_law_even_book) := ⟨rfl, rfl, rfl, by decide +kernel, rfl, by decide +kernel, by decide +kernel⟩
abbrev s_law_grown : Stmt := topS 67
abbrev n_law_grown : List Str := ["book", "age", "word", "turn", "found", "item"]
theorem sc_law_grown : FnScope n_law_grown ["book", "age"] (defScope s_law_grown) := ⟨rfl, rfl, rfl, by decide +kernel, rfl, by decide +kernel, by decide +kernel⟩
abbrev s_law_age : Stmt := topS 68
abbrev n_law_age : List Str := ["book", "most", "found", "item"]
theorem sc_law_age : FnScope n_law_age ["book", "most"] (defScope s_law_age) := ⟨rfl, rfl, rfl, by decide +kernel, rfl, by decide +kernel, by decide +kernel⟩
abbrev s_law_unit : Stmt := topS 69
abbrev n_law_unit : List Str := ["heading"]
theorem sc_law_unit : FnScope n_law_unit ["heading"] (defScope s_law_unit) := ⟨rfl, rfl, rfl, by decide +kernel, rfl, by decide +kernel, by decide +kernel⟩
abbrev s_law_drawn : Stmt := topS 70
abbrev n_law_drawn : List Str := ["word", "x", "y", "heading", "found", "stands", "item"]
theorem sc_law_drawn : FnScope n_law_drawn ["word"] (defScope s_law_drawn) := ⟨rfl, rfl, rfl, by decide +kernel, rfl, by decide +kernel, by decide +kernel⟩
abbrev s_law_alike : Stmt := topS 71
abbrev n_law_alike : List Str := ["found", "due", "k"]
theorem sc_law_alike : FnScope n_law_alike ["found", "due"] (defScope s_law_alike) := ⟨rfl, rfl, rfl, by decide +kernel, rfl, by decide +kernel, by decide +kernel⟩
abbrev s_law : Stmt := topS 72
abbrev n_law : List Str := ["script", "row", "book", "age", "strokes", "end", "lots", "x", "y", "heading", "letter", "unit", "corner", "wide", "shown", "ends", "lines", "one", "two", "line", "under", "number", "due", "k", "place", "most", "first", "some", "inner", "error", "spot"]
theorem sc_law : FnScope n_law ["script"] (defScope s_law) := ⟨rfl, rfl, rfl, by decide +kernel, rfl, by decide +kernel, by decide +kernel⟩
end SK
namespace SK
open PySem PySem.Spec PyProof.Rows L2
def spTaken (K : PySem.W.Frag) : Sp := fun vs H Q _ => ∃ (r : Addr) (S : Scr) (many : Nat), vs = [.ref r, .int many] ∧ RowOk K S H r ∧ 1 ≤ many ∧ (many < 1073741824 ∨ many.log2 < 9000) ∧
  ∀ (H' : Hp) (k : Nat), Drawn K S r H H' → k < many → Q (.int k) H'
theorem mod_nat (i : Int) (m : Nat) (h : 1 ≤ m) : ∃ k : Nat, i % (m : Int) = (k : Int) ∧ k < m := by
  have h1 : (0 : Int) < m := by omega
  have a := Int.emod_nonneg i (show (m : Int) ≠ 0 by omega)
  have b := Int.emod_lt_of_pos i h1
  exact ⟨(i % (m : Int)).toNat, by omega, by omega⟩
section
variable {P : Program} {w : World} {K : PySem.W.Frag} {mg : Str → Option Value} {base : Heap}
theorem ok_taken {f : Addr} {fd : FuncData} {k : Nat} (F : Fun K "_law_taken" "_law_taken" s_law_taken f fd) (mi : mg "int" = none) (ml : mg "len" = none) : FnOk P w K mg base CX0 (k + 1) f fd ["row", "many"] (spTaken K) := by
  refine F.ok sc_law_taken (fun vs H Q E h => ?_) (fun cdv A outer s H vs Q E hr h => ?_)
  · obtain ⟨r, S, many, rfl, _⟩ := h
    rfl
  · obtain ⟨r, ⟨a, ns⟩, many, rfl, ⟨i, st, c, h1, h2, h3, h4, h5⟩, hm1, hm2, q⟩ := h
    have nd := sc_law_taken.nd
    refine ⟨_, pss_cons (ps_if (pt_cmpR op_gt (pix (pv 0) pe_int) pe_int (nomark _))
        (pss_cons (ps_set (i := 2) nd rfl (.inl rfl) (pmod (pint mi (pix (pv 0) pe_int)) (pv 1)))
          (pss_cons (ps_asg (pe_op op_fdivW (pix (pv 0) pe_int) (pv 1)) (pg_sub (pv 0) pe_int set_list)) (pss_one (ps_ret (pv 2))))) pss_nil)
      (pss_cons (ps_asg (padd (pix (pv 0) pe_int) pe_int) (pg_sub (pv 0) pe_int set_list))
      (pss_cons (ps_if (pt_cmpR op_gt (pix (pv 0) pe_int) (plen ml (pix (pv 0) pe_int)) (nomark _))
        (pss_cons (ps_asg (pmod (pint mi (padd (pe_op op_mul (pix (pv 0) pe_int) pe_int) pe_int)) pe_int) (pg_sub (pv 0) pe_int set_list))
          (pss_one (ps_ret (pmod (pint mi (pe_op op_fdiv (pix (pv 0) pe_int) pe_int)) (pv 1))))) pss_nil)
      (pss_cons (ps_set (i := 3) nd rfl (.inl rfl) (pix (pix (pv 0) pe_int) (psub (pix (pv 0) pe_int) pe_int)))
      (pss_cons (ps_asg (pmod (pint mi (padd (padd (pe_op op_mul (pix (pv 0) pe_int) pe_int) (pv 3)) pe_int)) pe_int) (pg_sub (pv 0) pe_int set_list))
      (pss_cons (ps_if (pt_cmpR op_ge (pv 3) (pe_op op_pow pe_int pe_int) (nomark _))
        (pss_one (ps_asg (pe_op op_fdivW (pv 3) (pv 1)) (pg_sub (pv 0) pe_int set_list))) pss_nil)
      (pss_one (ps_ret (pmod (pint mi (pv 3)) (pv 1))))))))), ?_⟩
    change H r = some (.lst [.ref a, .int i, .int st, .int c]) at h1
    change SqL K H a (ns.map V.int) at h2
    change a ≠ r at h4
    change ns.length ≤ 63 at h5
    have m0 : (0 : Int) < many := by omega
    have hm9 : (many : Int).natAbs.log2 < 9000 := by
      rw [Int.natAbs_natCast]
      rcases hm2 with h | h
      · have := (Nat.log2_lt (n := many) (k := 30) (by omega)).mpr (by omega)
        omega
      · exact h
    have nl : ∀ (xs : List V) (ns : List Int), (V.ref a :: xs) ≠ ns.map V.int := fun xs ns e => by cases ns <;> cases e
    -- a row with other numbers
    have row : ∀ (i s c : Int), 0 ≤ i → RowOk K (a, ns) (upd H r (.lst [.ref a, .int i, .int s, .int c])) r := fun i s c h => by
      refine ⟨i, s, c, upd_same, ?_, h, h4, h5⟩
      rcases h2 with (h | ⟨o, h⟩) | h
      · exact .inl (.inl (by rw [upd_ne h4]; exact h))
      · exact .inl (.inr ⟨o, by rw [upd_ne h4]; exact h⟩)
      · exact .inr h
    have dr : ∀ (i s c : Int), 0 ≤ i → Drawn K (a, ns) r H (upd H r (.lst [.ref a, .int i, .int s, .int c])) := fun i s c h => ⟨SameX.refl.at, row i s c h⟩
    refine ⟨.ref r, rfl, r, _, _, _, rfl, rfl, SqL.of h1, at3, _, _, rfl, rfl, _, rfl, ite2 (fun e => ?_) (fun e => ?_)⟩
    · refine ⟨.ref r, rfl, r, _, _, _, rfl, rfl, SqL.of h1, at3, .inl ⟨_, rfl, _, rfl, _, _, rfl, rfl, m0, ?_⟩⟩
      refine ⟨.ref r, rfl, r, _, _, _, rfl, rfl, SqL.of h1, at3, _, rfl, _, _, rfl, rfl, ⟨m0, hm9⟩, .ref r, rfl, r, _, _, 3, rfl, rfl, h1, rfl, _, rfl, ?_⟩
      obtain ⟨k, e1, e2⟩ := mod_nat c many hm1
      show Q (V.int (c % (many : Int))) _
      rw [e1]
      exact q _ k (dr _ _ _ h3) e2
    · refine ⟨.ref r, rfl, r, _, _, _, rfl, rfl, SqL.of h1, at1, _, _, rfl, rfl, .ref r, rfl, r, _, _, 1, rfl, rfl, h1, rfl, ?_⟩
      have g1 : (upd H r (.lst [.ref a, .int (i + 1), .int st, .int c])) r = some (.lst [.ref a, .int (i + 1), .int st, .int c]) := upd_same
      have sa : ∀ (i s c : Int), SqL K (upd H r (.lst [.ref a, .int i, .int s, .int c])) a (ns.map V.int) := fun i s c => by
        rcases h2 with (h | ⟨o, h⟩) | h
        · exact .inl (.inl (by rw [upd_ne h4]; exact h))
        · exact .inl (.inr ⟨o, by rw [upd_ne h4]; exact h⟩)
        · exact .inr h
      refine ⟨.ref r, rfl, r, _, _, _, rfl, rfl, SqL.of g1, at1, .ref r, rfl, r, _, _, _, rfl, rfl, SqL.of g1, at0, a, _, rfl, .inl (sa _ _ _), _, _, rfl, rfl, _, rfl, ite2 (fun e => ?_) (fun e2 => ?_)⟩
      · refine ⟨.ref r, rfl, r, _, _, _, rfl, rfl, SqL.of g1, at2, _, _, rfl, rfl, .inr (by decide), _, _, rfl, rfl, .inl ⟨_, rfl, _, _, rfl, rfl, (show (0 : Int) < 2147483647 by decide), .ref r, rfl, r, _, _, 2, rfl, rfl, g1, rfl, ?_⟩⟩
        rw [upd_upd]
        refine ⟨.ref r, rfl, r, _, _, _, rfl, rfl, SqL.of upd_same, at2, _, _, rfl, rfl, ⟨by decide, by decide⟩, .inl ⟨_, rfl, _, rfl, _, _, rfl, rfl, m0, ?_⟩⟩
        obtain ⟨k, e1, e2⟩ := mod_nat ((st * 48271 + 11) % 2147483647 / 7) many hm1
        show Q (V.int ((st * 48271 + 11) % 2147483647 / 7 % (many : Int))) _
        rw [e1]
        exact q _ k (dr _ _ _ (by omega)) e2
      · have e3 : ¬ ((ns.length : Int) < i + 1) := by
          have e2' := e2
          simp only [List.length_map] at e2'
          exact fun z => e2' (decide_eq_true z)
        have hlt : i.toNat < ns.length := by omega
        have gi : atI (ns.map V.int) (i + 1 - 1) = some (.int ns[i.toNat]) := by
          have e4 : i + 1 - 1 = ((i.toNat : Nat) : Int) := by omega
          rw [e4]
          refine atI_nat ?_
          rw [List.getElem?_map, List.getElem?_eq_getElem hlt]
          rfl
        generalize ns[i.toNat] = cell at gi
        refine ⟨.ref r, rfl, r, _, _, _, rfl, rfl, SqL.of g1, at0, .ref r, rfl, r, _, _, _, rfl, rfl, SqL.of g1, at1, _, _, rfl, rfl, a, _, _, _, rfl, rfl, sa _ _ _, gi, ?_⟩
        refine ⟨.ref r, rfl, r, _, _, _, rfl, rfl, SqL.of g1, at2, _, _, rfl, rfl, .inr (by decide), _, rfl, _, _, rfl, rfl, _, _, rfl, rfl, .inl ⟨_, rfl, _, _, rfl, rfl, (show (0 : Int) < 2147483647 by decide), .ref r, rfl, r, _, _, 2, rfl, rfl, g1, rfl, ?_⟩⟩
        rw [upd_upd]
        refine ⟨_, rfl, _, _, rfl, rfl, ⟨by decide, by decide, by decide⟩, _, _, rfl, rfl, _, rfl, ite2 (fun e => ?_) (fun e => ?_)⟩
        · refine ⟨_, rfl, _, rfl, _, _, rfl, rfl, ⟨m0, hm9⟩, .ref r, rfl, r, _, _, 3, rfl, rfl, upd_same, rfl, ?_⟩
          rw [upd_upd]
          refine ⟨_, rfl, .inl ⟨_, rfl, _, rfl, _, _, rfl, rfl, m0, ?_⟩⟩
          obtain ⟨k, e1, e2⟩ := mod_nat cell many hm1
          show Q (V.int (cell % (many : Int))) _
          rw [e1]
          exact q _ k (dr _ _ _ (by omega)) e2
        · refine ⟨_, rfl, .inl ⟨_, rfl, _, rfl, _, _, rfl, rfl, m0, ?_⟩⟩
          obtain ⟨k, e1, e2⟩ := mod_nat cell many hm1
          show Q (V.int (cell % (many : Int))) _
          rw [e1]
          exact q _ k (dr _ _ _ (by omega)) e2
end
end SK
namespace SK
open PySem PySem.Spec PyProof.Rows L2
/-- a def that stands in the module under its name and keeps its promise, not raising -/
structure Got (P : Program) (w : World) (K : PySem.W.Frag) (mg : Str → Option Value) (base : Heap) (x : Str) (k : Nat) (ps : List Str) (sp : Sp) : Prop where
  ex : ∃ (f : Addr) (fd : FuncData), FnOk P w K mg base CX0 k f fd ps sp ∧ mg x = some (.ref f) ∧ PySem.W.keepIn K (.ref f) = true ∧ Binds K fd ps []
theorem Got.mono {P : Program} {w : World} {K : PySem.W.Frag} {mg : Str → Option Value} {base : Heap} {x : Str} {j k : Nat} {ps : List Str} {sp : Sp} (g : Got P w K mg base x j ps sp) (h : j ≤ k) : Got P w K mg base x k ps sp := by
  obtain ⟨f, fd, F, a, b, c⟩ := g.ex
  exact ⟨f, fd, F.mono h, a, b, c⟩
theorem pcall {X : Cx} {x : Str} {k : Nat} {ps : List Str} {sp : Sp} {e : Expr} {es : List Expr} {t : TA} {p pos : Pos} (G : Got X.prog X.w X.K X.mg X.base x k ps sp) (hr : Room k X.A) (ha : PA X (e :: es) t) (hg : Gl X x := by rfl)
    (hdb : (x == ("__debug__" : Str)) = false := by decide)
    (he : starEach (e :: es) X.env = (false, eval e X.env) :: starEach es X.env := by rfl) (hpl : (backTo pos (starEach es X.env)).any (·.1) = false := by rfl) : PE X (.Call (.Name x p) (e :: es) [] pos) (tCall sp [] E0 t) := by
  obtain ⟨f, fd, F, a, b, c⟩ := G.ex
  exact pe_call F hr hg a b c .nil pass0 ha hdb he hpl
def spPick (K : PySem.W.Frag) : Sp := fun vs H Q _ => ∃ (r q : Addr) (S : Scr) (xs : List V), vs = [.ref r, .ref q] ∧ RowOk K S H r ∧ q ≠ r ∧ H q = some (.lst xs) ∧ 1 ≤ xs.length ∧ xs.length < 1073741824 ∧
  ∀ (H' : Hp) (k : Nat) (v : V), Drawn K S r H H' → xs[k]? = some v → Q v H'
section
variable {P : Program} {w : World} {K : PySem.W.Frag} {mg : Str → Option Value} {base : Heap}
theorem ok_pick {f : Addr} {fd : FuncData} {k : Nat} (F : Fun K "_law_pick" "_law_pick" s_law_pick f fd) (G : Got P w K mg base "_law_taken" k ["row", "many"] (spTaken K)) (ml : mg "len" = none) : FnOk P w K mg base CX0 (k + 1) f fd ["row", "things"] (spPick K) := by
  refine F.ok sc_law_pick (fun vs H Q E h => ?_) (fun cdv A outer s H vs Q E hr h => ?_)
  · obtain ⟨r, q, S, xs, rfl, _⟩ := h
    rfl
  · obtain ⟨r, q, S, xs, rfl, hR, hq, hx, h1, h2, hQ⟩ := h
    refine ⟨_, pss_one (ps_ret (pix (pv 1) (pcall G hr (pa_cons (pv 0) (pa_cons (plen ml (pv 1)) pa_nil))))), ?_⟩
    refine ⟨_, rfl, _, rfl, .ref q, rfl, q, xs, rfl, .inl (SqL.of hx), r, S, xs.length, rfl, hR, h1, .inl h2, fun H' k D hk => ?_⟩
    have hx' := D.at hq hx
    exact ⟨q, xs, k, _, rfl, rfl, SqL.of hx', atI_nat (List.getElem?_eq_getElem hk), hQ H' k _ D (List.getElem?_eq_getElem hk)⟩
end
end SK
namespace SK
open PySem PySem.Spec PyProof.Rows L2
/-! ### signs and words -/
inductive Sy where
  | l (k : Nat) | p | m | o | c
  deriving DecidableEq
def Sy.v : Sy → V
  | .l k => .int k
  | .p => .str "+"
  | .m => .str "-"
  | .o => .str "["
  | .c => .str "]"
abbrev wv (w : List Sy) : List V := w.map Sy.v
/-- how deep one stands behind a piece, none where a branch is ended that isn't begun -/
def nest : List Sy → Nat → Option Nat
  | [], d => some d
  | .o :: w, d => nest w (d + 1)
  | .c :: w, d => match d with
    | 0 => none
    | d + 1 => nest w d
  | _ :: w, d => nest w d
def isL : Sy → Bool
  | .l _ => true
  | _ => false
def isB : Sy → Bool
  | .o => true
  | .c => true
  | _ => false
def nL (w : List Sy) : Nat := (w.filter isL).length
theorem nL_app (a b : List Sy) : nL (a ++ b) = nL a + nL b := by unfold nL; rw [List.filter_append, List.length_append]
structure Flat (n L : Nat) (w : List Sy) : Prop where
  flat : ∀ s ∈ w, isB s = false
  lets : ∀ k, Sy.l k ∈ w → k < n
  has : w.any isL = true
  len : w.length ≤ L
  slim : w.length + 6 ≤ 8 * nL w
structure Good (n L : Nat) (w : List Sy) : Prop where
  nst : nest w 0 = some 0
  lets : ∀ k, Sy.l k ∈ w → k < n
  has : w.any isL = true
  len : w.length ≤ L
  slim : w.length + 6 ≤ 8 * nL w
theorem nest_app : ∀ (a b : List Sy) (d : Nat), nest (a ++ b) d = (nest a d).bind (nest b)
  | [], b, d => rfl
  | .l k :: a, b, d => nest_app a b d
  | .p :: a, b, d => nest_app a b d
  | .m :: a, b, d => nest_app a b d
  | .o :: a, b, d => nest_app a b (d + 1)
  | .c :: a, b, 0 => rfl
  | .c :: a, b, d + 1 => nest_app a b d
theorem nest_flat : ∀ (a : List Sy) (d : Nat), (∀ s ∈ a, isB s = false) → nest a d = some d
  | [], d, _ => rfl
  | .l k :: a, d, h => nest_flat a d fun s hs => h s (List.mem_cons_of_mem _ hs)
  | .p :: a, d, h => nest_flat a d fun s hs => h s (List.mem_cons_of_mem _ hs)
  | .m :: a, d, h => nest_flat a d fun s hs => h s (List.mem_cons_of_mem _ hs)
  | .o :: a, d, h => by have := h .o List.mem_cons_self; cases this
  | .c :: a, d, h => by have := h .c List.mem_cons_self; cases this
theorem Flat.good {n L M : Nat} {w : List Sy} (f : Flat n L w) (h : L ≤ M) : Good n M w := ⟨nest_flat w 0 f.flat, f.lets, f.has, Nat.le_trans f.len h, f.slim⟩
theorem Good.mono {n L M : Nat} {w : List Sy} (f : Good n L w) (h : L ≤ M) : Good n M w := ⟨f.nst, f.lets, f.has, Nat.le_trans f.len h, f.slim⟩
theorem Flat.mono {n L M : Nat} {w : List Sy} (f : Flat n L w) (h : L ≤ M) : Flat n M w := ⟨f.flat, f.lets, f.has, Nat.le_trans f.len h, f.slim⟩
/-- a branch put in -/
theorem Flat.branch {n L : Nat} {w t : List Sy} {at' k : Nat} (f : Flat n L w) (ht : ∀ s ∈ t, isB s = false ∧ isL s = false) (hl : t.length ≤ 1) (hk : k < n) : Good n (L + 4) (w.take at' ++ [.o] ++ t ++ [.l k] ++ [.c] ++ w.drop at') := by
  have f1 : ∀ s ∈ w.take at', isB s = false := fun s hs => f.flat s (List.mem_of_mem_take hs)
  have f2 : ∀ s ∈ w.drop at', isB s = false := fun s hs => f.flat s (List.mem_of_mem_drop hs)
  refine ⟨?_, ?_, ?_, ?_, ?_⟩
  · rw [nest_app, nest_app, nest_app, nest_app, nest_app, nest_flat _ 0 f1]
    show ((((nest t 1).bind (nest [.l k])).bind (nest [.c])).bind (nest (w.drop at'))) = some 0
    rw [nest_flat t 1 fun s hs => (ht s hs).1]
    show nest (w.drop at') 0 = some 0
    exact nest_flat _ 0 f2
  · intro j hj
    simp only [List.mem_append, List.mem_singleton] at hj
    rcases hj with ((((h | h) | h) | h) | h) | h
    · exact f.lets j (List.mem_of_mem_take h)
    · cases h
    · have := (ht _ h).2; cases this
    · cases h; exact hk
    · cases h
    · exact f.lets j (List.mem_of_mem_drop h)
  · simp only [List.any_append, List.any_cons, isL, Bool.true_or, Bool.or_true]
  · have := f.len
    have e : (w.take at').length + (w.drop at').length = w.length := by rw [← List.length_append, List.take_append_drop]
    simp only [List.length_append, List.length_singleton]
    omega
  · have := f.slim
    have e : (w.take at').length + (w.drop at').length = w.length := by rw [← List.length_append, List.take_append_drop]
    have e2 : nL (w.take at') + nL (w.drop at') = nL w := by rw [← nL_app, List.take_append_drop]
    have e3 : nL [Sy.l k] = 1 := rfl
    simp only [List.length_append, List.length_singleton, nL_app]
    omega
theorem cut_to (xs : List V) (k : Nat) : cutV xs none (some (k : Int)) = xs.take k := by
  unfold cutV
  rw [HT.sIx_none, show HT.sIx xs.length xs.length (some ((k : Nat) : Int)) = min k xs.length from HT.sIx_nat xs.length xs.length k, List.drop_zero, Nat.sub_zero]
  by_cases h : k ≤ xs.length
  · rw [Nat.min_eq_left h]
  · rw [Nat.min_eq_right (by omega), List.take_of_length_le (Nat.le_refl _), List.take_of_length_le (by omega)]
theorem cut_from (xs : List V) (k : Nat) : cutV xs (some (k : Int)) none = xs.drop k := by
  unfold cutV
  rw [HT.sIx_none, show HT.sIx xs.length 0 (some ((k : Nat) : Int)) = min k xs.length from HT.sIx_nat xs.length 0 k]
  by_cases h : k ≤ xs.length
  · rw [Nat.min_eq_left h]
    exact List.take_of_length_le (by rw [List.length_drop]; exact Nat.le_refl _)
  · rw [Nat.min_eq_right (by omega), Nat.sub_self, List.take_zero, List.drop_eq_nil_of_le (by omega)]
/-! ### words in the heap: frozen tuples without a dict -/
def WdAt (H : Hp) (a : Addr) (w : List Sy) : Prop := ∃ o : Obj, H a = some (.frz o (.tup (wv w))) ∧ o.dict = none ∧ o.slots = #[]
def NewT (xs : List V) (H : Hp) (Q : VK) : Prop := ∀ (H' : Hp) (p : Addr) (o : Obj), Same H H' → H p = none → H' p = some (.frz o (.tup xs)) → (o.dict = none ∧ o.slots = #[]) → Q (.ref p) H'
def NewW (w : List Sy) (H : Hp) (Q : VK) : Prop := ∀ (H' : Hp) (p : Addr), Same H H' → H p = none → WdAt H' p w → Q (.ref p) H'
theorem NewW.of {w : List Sy} {xs : List V} {H : Hp} {Q : VK} (h : NewW w H Q) (e : xs = wv w) : NewT xs H Q := fun H' p o s n e' d => h H' p s n ⟨o, by rw [← e]; exact e', d⟩
section
variable {K : PySem.W.Frag} {S : Scr} {H H' : Hp} {a r : Addr} {w : List Sy}
theorem WdAt.same (h : WdAt H a w) (s : Same H H') : WdAt H' a w := let ⟨o, e, d⟩ := h; ⟨o, s _ _ e, d⟩
theorem WdAt.sq (h : WdAt H a w) : SqT K H a (wv w) := let ⟨o, e, _⟩ := h; .inl (.inr ⟨o, e⟩)
theorem WdAt.ne (h : WdAt H a w) (hr : RowOk K S H r) : a ≠ r := by
  obtain ⟨o, e, _⟩ := h
  obtain ⟨_, _, _, h1, _⟩ := hr
  exact ne_of e h1 (by intro z; cases z)
theorem Drawn.wd (d : Drawn K S r H H') (hr : RowOk K S H r) (h : WdAt H a w) : WdAt H' a w := by
  have n := h.ne hr
  obtain ⟨o, e, hd⟩ := h
  exact ⟨o, d.at n e, hd⟩
end
def rTupF (K : PySem.W.Frag) : List V → Hp → VK → Prop := fun xs H Q => ∃ p ys, xs = [.ref p] ∧ SqL K H p ys ∧ NewT ys H Q
def tTupF (t : TA) : TE := fun σ H Q => t σ H fun xs H1 => xs.length ≤ sizeLine ∧ NewT xs H1 Q
section
variable {X : Cx}
theorem cr_tupF : CallR X (.type "tuple") (rTupF X.K) := by
  rintro pins s σ H xs us Q I r ⟨p, ys, rfl, hq, q⟩
  obtain ⟨u, rfl, rx⟩ := vals1 r
  cases rx
  obtain ⟨its, rv, pl, hz⟩ := I.list hq
  have hlen := rv.length
  refine call_tuple_list pl.isList (fun h1 kp => ?_) (by simp only [List.size_toArray]; omega)
  have I1 : Inv X pins σ H { s with heap := h1 } := I.kept (t' := s.toks) kp
  have fr := I1.hok.fresh (Nat.le_refl _)
  let ob : Obj := { cls := .type "tuple", data := .seq its.toArray }
  have at1 : (h1.push ob).get? h1.objs.size = some ob := Heap.get?_push_size _ rfl
  have I2 : Inv X pins σ (upd H h1.objs.size (.frz ob (.tup ys))) { s with heap := h1.push ob } := I1.laid (t' := s.toks) (fun b o e => Heap.get?_push_of_some _ e) (Nat.le_refl _) ⟨at1, hz, its, rv, ob, at1, rfl, _, rfl⟩
  exact ⟨.ref h1.objs.size, _, I2, rfl, q _ _ ob (same_upd fr) fr upd_same ⟨rfl, rfl⟩⟩
theorem ptupF {x1 : Nat} {es : List Expr} {t : TA} {pos : Pos} (h : PA X es t) : PE X (.Tuple es x1 pos) (tTupF t) := by
  refine ⟨fun pins s σ H Q I hq => wpAny_Tuple_spliced (thn (h.run pos pins s σ H _ I hq) fun us s1 ⟨xs, H1, I1, r, z, q⟩ => ⟨by rw [← r.length]; exact z, ?_⟩)⟩
  have fr := I1.hok.fresh (Nat.le_refl _)
  let ob : Obj := { cls := .type "tuple", data := .seq us.toArray }
  have at1 : (s1.heap.push ob).get? s1.heap.objs.size = some ob := Heap.get?_push_size _ rfl
  exact ⟨.ref _, upd H1 _ (.frz ob (.tup xs)), I1.laid (t' := s1.toks) (fun b u e => Heap.get?_push_of_some _ e) (Nat.le_refl _) ⟨at1, z, us, r, ob, at1, rfl, _, rfl⟩, rfl, q _ _ ob (same_upd fr) fr upd_same ⟨rfl, rfl⟩⟩
theorem ptupleF {e : Expr} {te : TE} {p pos : Pos} (m : X.mg "tuple" = none) (h : PE X e te) (hg : Gl X "tuple" := by rfl) (hs1 : starEach [e] X.env = (false, eval e X.env) :: starEach [] X.env := by rfl) (hp1 : (backTo pos (starEach [] X.env)).any (·.1) = false := by rfl) :
    PE X (.Call (.Name "tuple" p) [e] [] pos) (tCB (rTupF X.K) (tCons te tNil)) := pe_callTy cr_tupF hg m (by decide +kernel) (pa_cons h pa_nil hs1) (by decide) (by decide) hs1 hp1
end
end SK
namespace SK
open PySem PySem.Spec PyProof.Rows L2
/-- w with a branch put in, or w itself -/
def Br (w w' : List Sy) : Prop := w' = w ∨ ∃ (i : Nat) (ts : List Sy) (k : Nat), (∀ s ∈ ts, isB s = false ∧ isL s = false) ∧ w' = w.take i ++ [.o] ++ ts ++ [.l k] ++ [.c] ++ w.drop i
def spBranched (K : PySem.W.Frag) : Sp := fun vs H Q _ => ∃ (r t : Addr) (S : Scr) (n L : Nat) (w : List Sy), vs = [.ref r, .ref t, .int n] ∧ RowOk K S H r ∧ WdAt H t w ∧ Flat n L w ∧ L ≤ 36 ∧ 1 ≤ n ∧ n ≤ 8 ∧
  ∀ (H' : Hp) (p : Addr) (w' : List Sy), Drawn K S r H H' → WdAt H' p w' → Good n (L + 4) w' → Br w w' → Q (.ref p) H'
section
variable {P : Program} {w : World} {K : PySem.W.Frag} {mg : Str → Option Value} {base : Heap}
theorem ok_branched {f : Addr} {fd : FuncData} {k : Nat} (F : Fun K "_law_branched" "_law_branched" s_law_branched f fd) (GT : Got P w K mg base "_law_taken" k ["row", "many"] (spTaken K)) (GP : Got P w K mg base "_law_pick" k ["row", "things"] (spPick K))
    (ml : mg "len" = none) (mL : mg "list" = none) (mT : mg "tuple" = none) : FnOk P w K mg base CX0 (k + 1) f fd ["row", "word", "letters"] (spBranched K) := by
  refine F.ok sc_law_branched (fun vs H Q E h => ?_) (fun cdv A outer s H vs Q E hr h => ?_)
  · obtain ⟨r, t, S, n, L, w, rfl, _⟩ := h
    rfl
  · obtain ⟨r, t, S, n, L, w, rfl, hR, ht, hw, hL, hn1, hn2, q⟩ := h
    have nd := sc_law_branched.nd
    refine ⟨_, pss_cons (ps_set (i := 3) nd rfl (.inl rfl) (pe_callTy call_list_of (by rfl) mL (by decide +kernel) (pa_cons (pv 1) pa_nil)))
      (pss_cons (ps_if (pt_cmpR op_eq (pcall GT hr (pa_cons (pv 0) (pa_cons pe_int pa_nil))) pe_int (nomark _))
        (pss_cons (ps_par rfl nd (i := 4) (j := 5) rfl rfl (by decide) rfl rfl
            (pa_cons (pcall GT hr (pa_cons (pv 0) (pa_cons (padd (plen ml (pv 3)) pe_int) pa_nil)))
              (pa_cons (pcall GP hr (pa_cons (pv 0) (pa_cons (pe_lst (pa_cons (pe_lst (pa_cons pe_str pa_nil)) (pa_cons (pe_lst (pa_cons pe_str pa_nil)) (pa_cons (pe_lst pa_nil) pa_nil)))) pa_nil))) pa_nil)) (by rfl))
          (pss_one (ps_set (i := 3) nd rfl (.inl rfl) (pcat (pcat (pcat (pcat (pcat (pe_slice sl_list (pv 3) po_none (po_some (pv 4))) (pe_lst (pa_cons pe_str pa_nil))) (pv 5))
            (pe_lst (pa_cons (pcall GT hr (pa_cons (pv 0) (pa_cons (pv 2) pa_nil))) pa_nil))) (pe_lst (pa_cons pe_str pa_nil))) (pe_slice sl_list (pv 3) (po_some (pv 4)) po_none))))) pss_nil)
      (pss_one (ps_ret (ptupleF mT (pv 3))))), ?_⟩
    have lw := hw.len
    refine ⟨.ref t, rfl, t, _, rfl, .inr ht.sq, fun fo nfo => ?_⟩
    have D1 : Drawn K S r H (upd H fo (.lst (wv w))) := (Drawn.refl hR).new nfo
    have hfo : (upd H fo (.lst (wv w))) fo = some (.lst (wv w)) := upd_same
    have nfr : fo ≠ r := hR.there nfo
    generalize upd H fo (.lst (wv w)) = H1 at D1 hfo
    refine ⟨_, rfl, r, S, 3, rfl, D1.row, by decide, by decide, fun H2 k1 D2 _ => ?_⟩
    have hfo2 := D2.at nfr hfo
    refine ⟨rfl, _, rfl, ite2 (fun _ => ?_) (fun _ => ?_)⟩
    · refine ⟨_, rfl, _, rfl, fo, _, rfl, .inl (SqL.of hfo2), _, _, rfl, rfl, r, S, w.length + 1, ?_, D2.row, by omega, by omega, fun H3 at' D3 hat => ?_⟩
      · show [V.ref r, V.int (((wv w).length : Int) + 1)] = [V.ref r, V.int ((w.length + 1 : Nat) : Int)]
        rw [List.length_map]; rfl
      have hfo3 := D3.at nfr hfo2
      refine ⟨_, rfl, szl 1, fun l1 n1 => ⟨szl 1, fun l2 n2 => ⟨szl 0, fun l3 n3 => ⟨szl 3, fun l4 n4 => ?_⟩⟩⟩⟩
      have n12 : l1 ≠ l2 := (ne_of_none upd_same n2)
      have n13 : l1 ≠ l3 := ne_of_none (o := .lst [.str "+"]) (by rw [upd_ne n12, upd_same]) n3
      have n23 : l2 ≠ l3 := ne_of_none upd_same n3
      have e1 : (upd (upd (upd H3 l1 (.lst [.str "+"])) l2 (.lst [.str "-"])) l3 (.lst [])) l1 = some (.lst [.str "+"]) := by rw [upd_ne n13, upd_ne n12, upd_same]
      have e2 : (upd (upd (upd H3 l1 (.lst [.str "+"])) l2 (.lst [.str "-"])) l3 (.lst [])) l2 = some (.lst [.str "-"]) := by rw [upd_ne n23, upd_same]
      have e3 : (upd (upd (upd H3 l1 (.lst [.str "+"])) l2 (.lst [.str "-"])) l3 (.lst [])) l3 = some (.lst []) := upd_same
      have D3' : Drawn K S r H3 (upd (upd (upd H3 l1 (.lst [.str "+"])) l2 (.lst [.str "-"])) l3 (.lst [])) := (((Drawn.refl D3.row).new n1).new n2).new n3
      have nr1 : l1 ≠ r := D3.row.there n1
      have nr2 : l2 ≠ r := ((Drawn.refl D3.row).new n1).row.there n2
      have nr3 : l3 ≠ r := (((Drawn.refl D3.row).new n1).new n2).row.there n3
      generalize (upd (upd (upd H3 l1 (.lst [.str "+"])) l2 (.lst [.str "-"])) l3 (.lst [])) = H4 at e1 e2 e3 D3' n4
      have D5 := D3'.new (o := .lst [.ref l1, .ref l2, .ref l3]) n4
      have nr4 : l4 ≠ r := D3'.row.there n4
      have s5 : Same H4 (upd H4 l4 (.lst [.ref l1, .ref l2, .ref l3])) := same_upd n4
      refine ⟨r, l4, S, _, rfl, D5.row, nr4, upd_same, (show 1 ≤ 3 by decide), (show 3 < 1073741824 by decide), fun H6 kk v D6 hk => ?_⟩
      -- turn
      obtain ⟨tl, ts, rfl, nrt, htl, hts, hlen⟩ : ∃ (tl : Addr) (ts : List Sy), v = .ref tl ∧ tl ≠ r ∧ H6 tl = some (.lst (wv ts)) ∧ (∀ s ∈ ts, isB s = false ∧ isL s = false) ∧ ts.length ≤ 1 := by
        match kk, hk with
        | 0, hk => cases hk; exact ⟨l1, [.p], rfl, nr1, D6.at nr1 (s5 _ _ e1), by decide, Nat.le_refl _⟩
        | 1, hk => cases hk; exact ⟨l2, [.m], rfl, nr2, D6.at nr2 (s5 _ _ e2), by decide, Nat.le_refl _⟩
        | 2, hk => cases hk; exact ⟨l3, [], rfl, nr3, D6.at nr3 (s5 _ _ e3), by decide, Nat.zero_le _⟩
        | j + 3, hk => simp at hk
      have hfo6 := D6.at nfr (s5 _ _ (D3'.at nfr hfo3))
      have D06 : Drawn K S r H H6 := (((D1.trans D2).trans D3).trans D5).trans D6
      refine ⟨_, _, rfl, ?_⟩
      -- found[:at]
      refine ⟨_, rfl, _, rfl, _, rfl, fo, _, rfl, SqL.of hfo6, fun p1 m1 => ?_⟩
      rw [cut_to]
      have s6 : Same H6 (upd H6 p1 (.lst ((wv w).take at'))) := same_upd m1
      have hp1 : (upd H6 p1 (.lst ((wv w).take at'))) p1 = some (.lst ((wv w).take at')) := upd_same
      generalize upd H6 p1 (.lst ((wv w).take at')) = H7 at s6 hp1
      -- + ["["]
      refine ⟨szl 1, fun p2 m2 => ?_⟩
      have s7 := same_upd (o := .lst [.str "["]) m2
      refine ⟨p1, p2, _, _, rfl, rfl, s7 _ _ hp1, upd_same, ?_, fun p3 m3 => ?_⟩
      · simp only [List.length_take, List.length_map, List.length_cons, List.length_nil]
        exact szl _ (by omega)
      have s8 := s7.trans (same_upd (o := .lst ((wv w).take at' ++ [.str "["])) m3)
      -- + turn
      refine ⟨_, rfl, p3, tl, _, _, rfl, rfl, upd_same, s8 _ _ (s6 _ _ htl), ?_, fun p4 m4 => ?_⟩
      · simp only [List.length_append, List.length_take, List.length_map, List.length_cons, List.length_nil]
        exact szl _ (by omega)
      have s9 := s8.trans (same_upd (o := .lst ((wv w).take at' ++ [.str "["] ++ wv ts)) m4)
      have hp4 : (upd (upd (upd H7 p2 (.lst [.str "["])) p3 (.lst ((wv w).take at' ++ [.str "["]))) p4 (.lst ((wv w).take at' ++ [.str "["] ++ wv ts))) p4 = some (.lst ((wv w).take at' ++ [.str "["] ++ wv ts)) := upd_same
      generalize (upd (upd (upd H7 p2 (.lst [.str "["])) p3 (.lst ((wv w).take at' ++ [.str "["]))) p4 (.lst ((wv w).take at' ++ [.str "["] ++ wv ts))) = H8 at s9 hp4
      have D8 : Drawn K S r H H8 := ⟨D06.same.trans (.of (s6.trans s9)), D06.row.same (s6.trans s9)⟩
      have nr4' : p4 ≠ r := by
        intro e
        subst e
        obtain ⟨_, _, _, h1, _⟩ := D06.row
        have hh := (s6.trans (s8)) _ _ h1
        rw [m4] at hh; cases hh
      -- + [_law_taken(row, letters)]
      refine ⟨_, rfl, _, rfl, r, S, n, rfl, D8.row, hn1, by omega, fun H9 lk D9 hlk => ?_⟩
      refine ⟨szl 1, fun p5 m5 => ?_⟩
      have s10 := same_upd (o := .lst [.int lk]) m5
      refine ⟨p4, p5, _, _, rfl, rfl, s10 _ _ (D9.at nr4' hp4), upd_same, ?_, fun p6 m6 => ?_⟩
      · simp only [List.length_append, List.length_take, List.length_map, List.length_cons, List.length_nil]
        exact szl _ (by omega)
      have s11 := s10.trans (same_upd (o := .lst ((wv w).take at' ++ [.str "["] ++ wv ts ++ [.int lk])) m6)
      have hp6 : (upd (upd H9 p5 (.lst [.int lk])) p6 (.lst ((wv w).take at' ++ [.str "["] ++ wv ts ++ [.int lk]))) p6 = some (.lst ((wv w).take at' ++ [.str "["] ++ wv ts ++ [.int lk])) := upd_same
      generalize (upd (upd H9 p5 (.lst [.int lk])) p6 (.lst ((wv w).take at' ++ [.str "["] ++ wv ts ++ [.int lk]))) = H10 at s11 hp6
      -- + ["]"]
      refine ⟨szl 1, fun p7 m7 => ?_⟩
      have s12 := same_upd (o := .lst [.str "]"]) m7
      refine ⟨p6, p7, _, _, rfl, rfl, s12 _ _ hp6, upd_same, ?_, fun p8 m8 => ?_⟩
      · simp only [List.length_append, List.length_take, List.length_map, List.length_cons, List.length_nil]
        exact szl _ (by omega)
      have s13 := s12.trans (same_upd (o := .lst ((wv w).take at' ++ [.str "["] ++ wv ts ++ [.int lk] ++ [.str "]"])) m8)
      have hp8 : (upd (upd H10 p7 (.lst [.str "]"])) p8 (.lst ((wv w).take at' ++ [.str "["] ++ wv ts ++ [.int lk] ++ [.str "]"]))) p8 = some (.lst ((wv w).take at' ++ [.str "["] ++ wv ts ++ [.int lk] ++ [.str "]"])) := upd_same
      generalize (upd (upd H10 p7 (.lst [.str "]"])) p8 (.lst ((wv w).take at' ++ [.str "["] ++ wv ts ++ [.int lk] ++ [.str "]"]))) = H11 at s13 hp8
      -- + found[at:]
      have hfo11 := s13 _ _ (s11 _ _ (D9.at nfr (s9 _ _ (s6 _ _ hfo6))))
      refine ⟨_, rfl, _, rfl, _, rfl, fo, _, rfl, SqL.of hfo11, fun p9 m9 => ?_⟩
      rw [cut_from]
      have s14 := same_upd (o := .lst ((wv w).drop at')) m9
      refine ⟨p8, p9, _, _, rfl, rfl, s14 _ _ hp8, upd_same, ?_, fun p10 m10 => ?_⟩
      · simp only [List.length_append, List.length_take, List.length_drop, List.length_map, List.length_cons, List.length_nil]
        exact szl _ (by omega)
      -- tuple(found)
      refine ⟨.ref p10, rfl, p10, _, rfl, SqL.of upd_same, NewW.of (fun H12 p11 S12 m11 h12 => ?_) (w := w.take at' ++ [.o] ++ ts ++ [.l lk] ++ [.c] ++ w.drop at') ?_⟩
      · have s15 := (s11.trans s13).trans ((s14.trans (same_upd m10)).trans S12)
        exact q _ p11 _ ⟨((D8.trans D9).same).trans (.of s15), D9.row.same s15⟩ h12 (hw.branch hts hlen hlk) (.inr ⟨at', ts, lk, hts, rfl⟩)
      · simp only [wv, List.map_append, List.map_take, List.map_drop, List.map_cons, List.map_nil, Sy.v]
    · exact ⟨_, rfl, fo, _, rfl, SqL.of hfo2, NewW.of (fun H3 p S3 np hp => q _ p w ((D1.trans D2).then S3) hp (hw.good (by omega)) (.inl rfl)) rfl⟩
end
end SK
namespace SK
open PySem PySem.Spec PyProof.Rows L2
/-! ### books -/
def Words (H : Hp) (as : List Addr) (ws : List (List Sy)) : Prop := Paired (fun a w => WdAt H a w) as ws
def BookAt (H : Hp) (b : Addr) (ws : List (List Sy)) (st : List Sy) : Prop := ∃ (p q : Addr) (as : List Addr), H b = some (.tup [.ref p, .ref q]) ∧ H p = some (.tup (as.map V.ref)) ∧ WdAt H q st ∧ Words H as ws
structure GoodBook (ws : List (List Sy)) (st : List Sy) : Prop where
  one : 1 ≤ ws.length
  few : ws.length ≤ 3
  words : ∀ w ∈ ws, Good ws.length 40 w
  start : Good ws.length 40 st
/-- tuples stay -/
def TupS (H H' : Hp) : Prop := (∀ b xs, H b = some (.tup xs) → H' b = some (.tup xs)) ∧ ∀ b o u, H b = some (.frz o u) → H' b = some (.frz o u)
theorem TupS.refl {H : Hp} : TupS H H := ⟨fun _ _ h => h, fun _ _ _ h => h⟩
theorem TupS.trans {H H1 H2 : Hp} (a : TupS H H1) (b : TupS H1 H2) : TupS H H2 := ⟨fun c xs h => b.1 c xs (a.1 c xs h), fun c o u h => b.2 c o u (a.2 c o u h)⟩
theorem TupS.of {H H' : Hp} (s : Same H H') : TupS H H' := ⟨fun b xs h => s b _ h, fun b o u h => s b _ h⟩
theorem TupS.lst {H H1 : Hp} {p : Addr} {xs : List V} {o : HO} (s : TupS H H1) (h : H1 p = some (.lst xs)) : TupS H (upd H1 p o) := by
  refine ⟨fun b ys e => ?_, fun b ob u e => ?_⟩
  · rw [upd_ne (ne_of (s.1 b ys e) h (by intro z; cases z))]
    exact s.1 b ys e
  · rw [upd_ne (ne_of (s.2 b ob u e) h (by intro z; cases z))]
    exact s.2 b ob u e
theorem TupS.new {H H1 : Hp} {p : Addr} {o : HO} (s : TupS H H1) (h : H1 p = none) : TupS H (upd H1 p o) := s.trans (.of (same_upd h))
theorem TupS.wd {H H' : Hp} {a : Addr} {w : List Sy} (s : TupS H H') (h : WdAt H a w) : WdAt H' a w := let ⟨o, e, d⟩ := h; ⟨o, s.2 _ _ _ e, d⟩
theorem Drawn.tups {K : PySem.W.Frag} {S : Scr} {H H' : Hp} {r : Addr} (a : Drawn K S r H H') (hr : RowOk K S H r) : TupS H H' := ⟨fun b xs h => a.tup hr h, fun b o u h => a.at (by obtain ⟨_, _, _, h1, _⟩ := hr; exact ne_of h h1 (by intro z; cases z)) h⟩
theorem Words.keep {H H' : Hp} {as : List Addr} {ws : List (List Sy)} (s : TupS H H') (h : Words H as ws) : Words H' as ws := Paired.mono (fun a w e => s.wd e) h
theorem BookAt.keep {H H' : Hp} {b : Addr} {ws : List (List Sy)} {st : List Sy} (s : TupS H H') (h : BookAt H b ws st) : BookAt H' b ws st := by
  obtain ⟨p, q, as, h1, h2, h3, h4⟩ := h
  exact ⟨p, q, as, s.1 _ _ h1, s.1 _ _ h2, s.wd h3, h4.keep s⟩
def spBook (K : PySem.W.Frag) : Sp := fun vs H Q _ => ∃ (r : Addr) (S : Scr), vs = [.ref r] ∧ RowOk K S H r ∧
  ∀ (H' : Hp) (p : Addr) (ws : List (List Sy)) (st : List Sy), Drawn K S r H H' → BookAt H' p ws st → GoodBook ws st → Q (.ref p) H'
end SK
namespace SK
open PySem PySem.Spec PyProof.Rows L2
def spWord (K : PySem.W.Frag) : Sp := fun vs H Q _ => ∃ (r : Addr) (S : Scr) (n : Nat), vs = [.ref r, .int n, .int 3] ∧ RowOk K S H r ∧ 1 ≤ n ∧ n ≤ 8 ∧
  ∀ (H' : Hp) (p : Addr) (w' : List Sy), Drawn K S r H H' → WdAt H' p w' → Flat n 6 w' → Q (.ref p) H'
theorem flat_rot {n L : Nat} {w : List Sy} (f : Flat n L w) : Flat n L (w.drop 1 ++ w.take 1) := by
  refine ⟨fun s hs => f.flat s ?_, fun k hk => f.lets k ?_, ?_, ?_, ?_⟩
  · rcases List.mem_append.mp hs with h | h
    · exact List.mem_of_mem_drop h
    · exact List.mem_of_mem_take h
  · rcases List.mem_append.mp hk with h | h
    · exact List.mem_of_mem_drop h
    · exact List.mem_of_mem_take h
  · have := f.has
    rw [← List.take_append_drop 1 w, List.any_append, Bool.or_comm] at this
    rw [List.any_append]
    exact this
  · have := f.len
    have e : (w.take 1).length + (w.drop 1).length = w.length := by rw [← List.length_append, List.take_append_drop]
    rw [List.length_append]
    omega
  · have := f.slim
    have e : (w.take 1).length + (w.drop 1).length = w.length := by rw [← List.length_append, List.take_append_drop]
    have e2 : nL (w.take 1) + nL (w.drop 1) = nL w := by rw [← nL_app, List.take_append_drop]
    rw [List.length_append, nL_app]
    omega
section
variable {P : Program} {w : World} {K : PySem.W.Frag} {mg : Str → Option Value} {base : Heap}
theorem ok_word {f : Addr} {fd : FuncData} {k : Nat} (F : Fun K "_law_word" "_law_word" s_law_word f fd) (GT : Got P w K mg base "_law_taken" k ["row", "many"] (spTaken K)) (GP : Got P w K mg base "_law_pick" k ["row", "things"] (spPick K))
    (mR : mg "range" = none) (mT : mg "tuple" = none) : FnOk P w K mg base CX0 (k + 1) f fd ["row", "letters", "most"] (spWord K) := by
  refine F.ok sc_law_word (fun vs H Q E h => ?_) (fun cdv A outer s H vs Q E hr h => ?_)
  · obtain ⟨r, S, n, rfl, _⟩ := h
    rfl
  · obtain ⟨r, S, n, rfl, hR, hn1, hn2, q⟩ := h
    have nd := sc_law_word.nd
    refine ⟨_, pss_cons (ps_set (i := 3) nd rfl (.inl rfl) (pe_lst pa_nil))
      (pss_cons (ps_for PassesOwn.never rfl (pi_range1 rfl mR (pa_cons (padd pe_int (pcall GT hr (pa_cons (pv 0) (pa_cons (pv 2) pa_nil)))) pa_nil)) (pg_name (i := 4) nd rfl (.inl rfl))
        (pss_cons (sapp (pv 3) (pcall GT hr (pa_cons (pv 0) (pa_cons (pv 1) pa_nil))))
          (pss_one (ps_if (pt_cmpR op_eq (pcall GT hr (pa_cons (pv 0) (pa_cons pe_int pa_nil))) pe_int (nomark _))
            (pss_one (sapp (pv 3) (pcall GP hr (pa_cons (pv 0) (pa_cons (pe_lst (pa_cons pe_str (pa_cons pe_str pa_nil))) pa_nil))))) pss_nil))))
      (pss_one (ps_ret (pe_ifExp (pt_cmpR op_eq (pcall GT hr (pa_cons (pv 0) (pa_cons pe_int pa_nil))) pe_int (nomark _))
        (ptupleF mT (pcat (pe_slice sl_list (pv 3) (po_some pe_int) po_none) (pe_slice sl_list (pv 3) po_none (po_some pe_int))))
        (ptupleF mT (pv 3)))))), ?_⟩
    refine ⟨szl 0, fun fo nfo => ?_⟩
    have D1 : Drawn K S r H (upd H fo (.lst [])) := (Drawn.refl hR).new nfo
    have hfo : (upd H fo (.lst [])) fo = some (.lst []) := upd_same
    have nfr : fo ≠ r := hR.there nfo
    generalize upd H fo (.lst []) = H1 at D1 hfo
    refine ⟨_, rfl, _, rfl, r, S, 3, rfl, D1.row, by decide, by decide, fun H2 kk D2 hkk => ?_⟩
    have hfo2 := D2.at nfr hfo
    have D02 := D1.trans D2
    refine ⟨1, _, rfl, rfl, ((1 + kk : Nat) : Int), ?_, by omega, by omega, ?_⟩
    · show [V.int (1 + (kk : Int))] = [V.int ((1 + kk : Nat) : Int)]
      congr 2
    rw [Int.toNat_natCast]
    refine for_range (lo := 0) (n := 1 + kk) (fun i σ H' => ∃ (ws : List Sy) (y : Option V), σ = [some (.ref r), some (.int n), some (.int 3), some (.ref fo), y] ∧ Drawn K S r H H' ∧ H' fo = some (.lst (wv ws)) ∧
        (∀ s ∈ ws, isB s = false) ∧ (∀ k, Sy.l k ∈ ws → k < n) ∧ (1 ≤ i → ws.any isL = true) ∧ ws.length ≤ 2 * i ∧ nL ws = i)
      ⟨[], _, rfl, D02, hfo2, by decide, (fun k h => nomatch h), (fun h => by omega), Nat.zero_le _, rfl⟩ ?_ ?_
    · rintro i σ H' hi ⟨ws, y, rfl, D, hf, h1, h2, h3, h4, h5⟩
      refine ⟨_, rfl, .inl ⟨rfl, _, SqL.of hf⟩, _, rfl, _, rfl, r, S, n, rfl, D.row, hn1, by omega, fun H3 lk D3 hlk => ?_⟩
      have hf3 := D3.at nfr hf
      refine ⟨fo, _, _, rfl, rfl, hf3, ?_, ?_⟩
      · rw [List.length_map]; exact Nat.lt_of_le_of_lt (show ws.length ≤ 1000 by omega) (by decide)
      have D4 : Drawn K S r H (upd H3 fo (.lst (wv ws ++ [.int lk]))) := (D.trans D3).put hR nfo
      have hf4 : (upd H3 fo (.lst (wv ws ++ [.int lk]))) fo = some (.lst (wv (ws ++ [.l lk]))) := by rw [upd_same, wv, wv, List.map_append]; rfl
      generalize (upd H3 fo (.lst (wv ws ++ [.int lk]))) = H4 at D4 hf4
      have f1 : ∀ s ∈ ws ++ [Sy.l lk], isB s = false := fun s hs => by
        rcases List.mem_append.mp hs with h | h
        · exact h1 s h
        · rw [List.mem_singleton.mp h]; rfl
      have f2 : ∀ k, Sy.l k ∈ ws ++ [Sy.l lk] → k < n := fun k hs => by
        rcases List.mem_append.mp hs with h | h
        · exact h2 k h
        · cases List.mem_singleton.mp h; exact hlk
      have f3 : (ws ++ [Sy.l lk]).any isL = true := by simp [isL]
      have f4 : (ws ++ [Sy.l lk]).length ≤ 2 * i + 1 := by rw [List.length_append, List.length_singleton]; omega
      have f5 : nL (ws ++ [Sy.l lk]) = i + 1 := by rw [nL_app, h5]; rfl
      generalize ws ++ [Sy.l lk] = ws' at hf4 f1 f2 f3 f4 f5
      refine ⟨_, rfl, r, S, 2, rfl, D4.row, by decide, by decide, fun H5 k5 D5 _ => ?_⟩
      have hf5 := D5.at nfr hf4
      refine ⟨rfl, _, rfl, ite2 (fun _ => ?_) (fun _ => ?_)⟩
      · refine ⟨_, rfl, .inl ⟨rfl, _, SqL.of hf5⟩, _, rfl, szl 2, fun l1 n1 => ?_⟩
        have D6 := D5.new (o := .lst [.str "+", .str "-"]) n1
        have nl1 := D5.row.there n1
        refine ⟨r, l1, S, _, rfl, D6.row, nl1, upd_same, (show 1 ≤ 2 by decide), (show 2 < 1073741824 by decide), fun H7 k7 v D7 hk => ?_⟩
        have hf7 := D7.at nfr (same_upd (o := .lst [.str "+", .str "-"]) n1 _ _ hf5)
        obtain ⟨sy, rfl, b1, b2⟩ : ∃ sy : Sy, v = sy.v ∧ isB sy = false ∧ isL sy = false := by
          match k7, hk with
          | 0, hk => cases hk; exact ⟨.p, rfl, rfl, rfl⟩
          | 1, hk => cases hk; exact ⟨.m, rfl, rfl, rfl⟩
          | j + 2, hk => simp at hk
        refine ⟨fo, _, _, rfl, rfl, hf7, ?_, ?_⟩
        · rw [List.length_map]; exact Nat.lt_of_le_of_lt (show ws'.length ≤ 1000 by omega) (by decide)
        refine ⟨ws' ++ [sy], _, rfl, ((D4.trans D6).trans D7).put hR nfo, ?_, ?_, ?_, ?_, ?_, ?_⟩
        · rw [upd_same, wv, wv, List.map_append]; rfl
        · intro s hs
          rcases List.mem_append.mp hs with h | h
          · exact f1 s h
          · rw [List.mem_singleton.mp h]; exact b1
        · intro k hs
          rcases List.mem_append.mp hs with h | h
          · exact f2 k h
          · rw [← List.mem_singleton.mp h] at b2; cases b2
        · intro _; rw [List.any_append, f3]; rfl
        · rw [List.length_append, List.length_singleton]; omega
        · rw [nL_app, f5]; simp [nL, b2]
      · exact ⟨ws', _, rfl, D4.trans D5, hf5, f1, f2, fun _ => f3, by omega, f5⟩
    · rintro σ H' ⟨ws, y, rfl, D, hf, h1, h2, h3, h4, h5⟩
      have fl : Flat n 6 ws := ⟨h1, h2, h3 (by omega), by omega, by omega⟩
      refine ⟨_, rfl, r, S, 3, rfl, D.row, by decide, by decide, fun H5 k5 D5 _ => ?_⟩
      have hf5 := D5.at nfr hf
      refine ⟨rfl, _, rfl, ite2 (fun _ => ?_) (fun _ => ?_)⟩
      · refine ⟨_, rfl, ((1 : Nat) : Int), rfl, fo, _, rfl, SqL.of hf5, fun p1 m1 => ?_⟩
        rw [cut_from]
        refine ⟨_, rfl, ((1 : Nat) : Int), rfl, fo, _, rfl, SqL.of (same_upd m1 _ _ hf5), fun p2 m2 => ?_⟩
        rw [cut_to]
        have s2 := (same_upd (o := .lst ((wv ws).drop 1)) m1).trans (same_upd (o := .lst ((wv ws).take 1)) m2)
        refine ⟨p1, p2, _, _, rfl, rfl, same_upd m2 _ _ upd_same, upd_same, ?_, fun p3 m3 => ?_⟩
        · simp only [List.length_take, List.length_drop, List.length_map]
          exact szl _ (by omega)
        refine ⟨p3, _, rfl, SqL.of upd_same, NewW.of (fun H4 p4 S4 m4 h4 => q _ p4 (ws.drop 1 ++ ws.take 1) ((D.trans D5).then ((s2.trans (same_upd m3)).trans S4)) h4 (flat_rot fl)) ?_⟩
        simp only [wv, List.map_append, List.map_take, List.map_drop]
      · exact ⟨_, rfl, fo, _, rfl, SqL.of hf5, NewW.of (fun H4 p4 S4 m4 h4 => q _ p4 ws ((D.trans D5).then S4) h4 fl) rfl⟩
end
end SK
namespace SK
open PySem PySem.Spec PyProof.Rows L2
section
variable {P : Program} {w : World} {K : PySem.W.Frag} {mg : Str → Option Value} {base : Heap}
theorem ok_book {f : Addr} {fd : FuncData} {k : Nat} (F : Fun K "_law_book" "_law_book" s_law_book f fd) (GT : Got P w K mg base "_law_taken" k ["row", "many"] (spTaken K))
    (GW : Got P w K mg base "_law_word" k ["row", "letters", "most"] (spWord K)) (GB : Got P w K mg base "_law_branched" k ["row", "word", "letters"] (spBranched K))
    (mR : mg "range" = none) (mT : mg "tuple" = none) : FnOk P w K mg base CX0 (k + 1) f fd ["row"] (spBook K) := by
  refine F.ok sc_law_book (fun vs H Q E h => ?_) (fun cdv A outer s H vs Q E hr h => ?_)
  · obtain ⟨r, S, rfl, _⟩ := h
    rfl
  · obtain ⟨r, S, rfl, hR, q⟩ := h
    have nd := sc_law_book.nd
    refine ⟨_, pss_cons (ps_set (i := 1) nd rfl (.inr rfl) (padd pe_int (pcall GT hr (pa_cons (pv 0) (pa_cons pe_int pa_nil)))))
      (pss_cons (ps_set (i := 2) nd rfl (.inl rfl) (pe_callTy call_tuple_of (by rfl) mT (by decide +kernel) (pa_cons
          (pe_lc (own := [("k", 3)]) (g := gName 3) (tt := tYes) rfl nd (pi_range1 rfl mR (pa_cons (pv 1) pa_nil)) (blkOk_by (N := n_law_book) (sc := defScope s_law_book) (by decide +kernel))
            (fun _ _ _ _ _ => pg_name (i := 3) nd rfl (Or.inl rfl)) (fun _ _ _ _ _ => pts_nil)
            (fun _ _ _ _ _ => pcall GB hr (pa_cons (pv 0) (pa_cons (pcall GW hr (pa_cons (pv 0) (pa_cons (pv 1) (pa_cons pe_int pa_nil)))) (pa_cons (pv 1) pa_nil)))))
          pa_nil)))
      (pss_one (ps_ret (pe_tup (pa_cons (pv 2) (pa_cons (pcall GB hr (pa_cons (pv 0) (pa_cons (pcall GW hr (pa_cons (pv 0) (pa_cons (pv 1) (pa_cons pe_int pa_nil)))) (pa_cons (pv 1) pa_nil)))) pa_nil)))))), ?_⟩
    refine ⟨_, rfl, r, S, 3, rfl, hR, by decide, by decide, fun H1 k1 D1 hk1 => ?_⟩
    refine ⟨1, _, rfl, rfl, ?_⟩
    have en : (V.int (1 + (k1 : Int))) = V.int ((1 + k1 : Nat) : Int) := by congr 1
    dsimp only; rw [en]
    have hn1 : 1 ≤ 1 + k1 := by omega
    have hn2 : 1 + k1 ≤ 8 := by omega
    have hn3 : 1 + k1 ≤ 3 := by omega
    generalize 1 + k1 = n at hn1 hn2 hn3
    refine ⟨_, rfl, (n : Int), rfl, by omega, by omega, fun D nD => ?_⟩
    rw [Int.toNat_natCast]
    have nDr := D1.row.there nD
    refine lc_range (lo := 0) (n := n) (fun i H' => ∃ (as : List Addr) (ws : List (List Sy)), Drawn K S r H1 H' ∧ H' D = some (.lst (as.map V.ref)) ∧ Words H' as ws ∧ ws.length = i ∧ ∀ w ∈ ws, Good n 40 w)
      ⟨[], [], D1.row |> fun h => (Drawn.refl h).new nD, upd_same, .nil, rfl, fun w h => nomatch h⟩ ?_ ?_
    · rintro i H' hi ⟨as, ws, D2, hD, hw, hl, hg⟩
      refine ⟨rfl, _, rfl, _, rfl, _, rfl, r, S, n, rfl, D2.row, hn1, hn2, fun H3 t w3 D3 ht hw3 => ?_⟩
      refine ⟨_, rfl, r, t, S, n, 6, w3, rfl, D3.row, ht, hw3, by decide, hn1, hn2, fun H4 p w4 D4 hp hw4 _ => ?_⟩
      have D34 := D3.trans D4
      refine ⟨_, D34.at nDr hD, ?_, as ++ [p], ws ++ [w4], (D2.trans D34).put D1.row nD, ?_, ?_, ?_, ?_⟩
      · have := hw.length
        rw [List.length_map]; exact Nat.lt_of_le_of_lt (show as.length ≤ 1000 by omega) (by decide)
      · rw [upd_same, List.map_append]; rfl
      · have s : TupS H4 (upd H4 D (.lst (as.map V.ref ++ [V.ref p]))) := TupS.refl.lst (D34.at nDr hD)
        exact Paired.snoc ((hw.keep (D34.tups D2.row)).keep s) (s.wd hp)
      · rw [List.length_append, List.length_singleton, hl]
      · intro w hw
        rcases List.mem_append.mp hw with h | h
        · exact hg w h
        · rw [List.mem_singleton.mp h]; exact hw4.mono (by decide)
    · rintro H' ⟨as, ws, D2, hD, hw, hl, hg⟩
      refine ⟨D, _, rfl, .inl ⟨SqL.of hD, fun p np => ?_⟩⟩
      have D3 := D2.new (o := .tup (as.map V.ref)) np
      have hw3 : Words (upd H' p (.tup (as.map V.ref))) as ws := hw.keep (TupS.refl.new np)
      have hp3 : (upd H' p (.tup (as.map V.ref))) p = some (.tup (as.map V.ref)) := upd_same
      generalize upd H' p (.tup (as.map V.ref)) = H3 at D3 hw3 hp3
      refine ⟨_, rfl, _, rfl, _, rfl, _, rfl, r, S, n, rfl, D3.row, hn1, hn2, fun H4 t w4 D4 ht hw4 => ?_⟩
      refine ⟨_, rfl, r, t, S, n, 6, w4, rfl, D4.row, ht, hw4, by decide, hn1, hn2, fun H5 b w5 D5 hb hw5 _ => ?_⟩
      refine ⟨szl 2, fun p6 n6 => ?_⟩
      have D35 := D4.trans D5
      have t35 := D35.tups D3.row
      have s6 : Same H5 (upd H5 p6 (.tup [.ref p, .ref b])) := same_upd n6
      subst hl
      exact q _ p6 ws w5 (((D1.trans D3).trans D35).then s6) ⟨p, b, as, upd_same, s6 _ _ (t35.1 _ _ hp3), hb.same s6, hw3.keep (t35.trans (.of s6))⟩ ⟨hn1, hn3, hg, hw5.mono (by decide)⟩
end
end SK
namespace SK
open PySem PySem.Spec PyProof.Rows L2
/-! ### new things, the heap behind them a letter -/
def New (o : HO) (H : Hp) (Q : VK) : Prop := ∀ (H' : Hp) (p : Addr), Same H H' → H p = none → H' p = some o → Q (.ref p) H'
theorem New.ok {o : HO} {H : Hp} {Q : VK} (h : New o H Q) (p : Addr) (n : H p = none) : Q (.ref p) (upd H p o) := h _ p (same_upd n) n upd_same
def rCatN : R2 := fun x y H Q => ∃ l b xs zs, x = .ref l ∧ y = .ref b ∧ H l = some (.lst xs) ∧ H b = some (.lst zs) ∧ xs.length + zs.length ≤ sizeLine ∧ New (.lst (xs ++ zs)) H Q
def rRepN : R2 := fun x y H Q => ∃ l k xs, x = .ref l ∧ y = .int k ∧ H l = some (.lst xs) ∧ -(2 ^ 63) ≤ k ∧ k < 2 ^ 63 ∧ xs.length * k.toNat ≤ sizeLine ∧ New (.lst (List.replicate k.toNat xs).flatten) H Q
def tTupN (t : TA) : TE := fun σ H Q => t σ H fun xs H1 => xs.length ≤ sizeLine ∧ New (.tup xs) H1 Q
def tLstN (t : TA) : TE := fun σ H Q => t σ H fun xs H1 => xs.length ≤ sizeLine ∧ New (.lst xs) H1 Q
def rListN (K : PySem.W.Frag) : List V → Hp → VK → Prop := fun xs H Q => ∃ p ys, xs = [.ref p] ∧ (SqL K H p ys ∨ SqT K H p ys) ∧ New (.lst ys) H Q
def rTupleN (K : PySem.W.Frag) : List V → Hp → VK → Prop := fun xs H Q => ∃ p ys, xs = [.ref p] ∧ SqL K H p ys ∧ New (.tup ys) H Q
section
variable {X : Cx} {a b e : Expr} {ta tb te : TE} {pos p : Pos} {es : List Expr} {t : TA}
theorem pcatN (ha : PE X a ta) (hb : PE X b tb) : PE X (.BinOp a .Add b pos) (tOp rCatN ta tb) :=
  pe_op (fun pins s σ H x y v u Q I rx ry ⟨l, b, xs, zs, h1, h2, h3, h4, h5, h6⟩ => op_cat pins s σ H x y v u Q I rx ry ⟨l, b, xs, zs, h1, h2, h3, h4, h5, h6.ok⟩) ha hb
theorem prepN (ha : PE X a ta) (hb : PE X b tb) : PE X (.BinOp a .Mult b pos) (tOp rRepN ta tb) :=
  pe_op (fun pins s σ H x y v u Q I rx ry ⟨l, b, xs, h1, h2, h3, h4, h5, h6, h7⟩ => op_rep pins s σ H x y v u Q I rx ry ⟨l, b, xs, h1, h2, h3, h4, h5, h6, h7.ok⟩) ha hb
/-- whatever is wanted more of the arguments' end -/
def upA (t : TA) : TA := fun σ H R => ∃ R' : List V → Hp → Prop, t σ H R' ∧ ∀ xs H1, R' xs H1 → R xs H1
theorem pa_up (h : PA X es t) : PA X es (upA t) := ⟨fun pos pins s σ H R I ⟨R', h1, h2⟩ => thn (h.run pos pins s σ H R' I h1) fun us s1 ⟨xs, H1, I1, r, q⟩ => ⟨xs, H1, I1, r, h2 xs H1 q⟩⟩
theorem ptupN {x1 : Nat} (h : PA X es t) : PE X (.Tuple es x1 pos) (tTupN t) :=
  ⟨fun pins s σ H Q I hq => (pe_tup (pa_up h)).run pins s σ H Q I ⟨_, hq, fun xs H1 ⟨z, q⟩ => ⟨z, q.ok⟩⟩⟩
theorem plstN (h : PA X es t) : PE X (.List es pos) (tLstN t) :=
  ⟨fun pins s σ H Q I hq => (pe_lst (pa_up h)).run pins s σ H Q I ⟨_, hq, fun xs H1 ⟨z, q⟩ => ⟨z, q.ok⟩⟩⟩
theorem plistN (m : X.mg "list" = none) (h : PE X e te) (hg : Gl X "list" := by rfl) (hs1 : starEach [e] X.env = (false, eval e X.env) :: starEach [] X.env := by rfl) (hp1 : (backTo pos (starEach [] X.env)).any (·.1) = false := by rfl) :
    PE X (.Call (.Name "list" p) [e] [] pos) (tCB (rListN X.K) (tCons te tNil)) :=
  pe_callTy (fun pins s σ H xs us Q I r ⟨p, ys, h1, h2, h3⟩ => call_list_of pins s σ H xs us Q I r ⟨p, ys, h1, h2, h3.ok⟩) hg m (by decide +kernel) (pa_cons h pa_nil hs1) (by decide) (by decide) hs1 hp1
theorem ptupleN (m : X.mg "tuple" = none) (h : PE X e te) (hg : Gl X "tuple" := by rfl) (hs1 : starEach [e] X.env = (false, eval e X.env) :: starEach [] X.env := by rfl) (hp1 : (backTo pos (starEach [] X.env)).any (·.1) = false := by rfl) :
    PE X (.Call (.Name "tuple" p) [e] [] pos) (tCB (rTupleN X.K) (tCons te tNil)) :=
  pe_callTy (fun pins s σ H xs us Q I r ⟨p, ys, h1, h2, h3⟩ => call_tuple_of pins s σ H xs us Q I r ⟨p, ys, h1, .inl ⟨h2, h3.ok⟩⟩) hg m (by decide +kernel) (pa_cons h pa_nil hs1) (by decide) (by decide) hs1 hp1
end
def rSlLN (K : PySem.W.Frag) : V → Option Int → Option Int → Hp → VK → Prop := fun x lo hi H Q => ∃ a xs, x = .ref a ∧ SqL K H a xs ∧ New (.lst (cutV xs lo hi)) H Q
theorem sl_listN {X : Cx} : SlR X (rSlLN X.K) := fun pins s σ H x v vl vu lo hi sl Q I rx hs pl pu ⟨a, xs, h1, h2, h3⟩ => sl_list pins s σ H x v vl vu lo hi sl Q I rx hs pl pu ⟨a, xs, h1, h2, h3.ok⟩
/-- a written word -/
def tWd (w : List Sy) : TE := fun _ H Q => NewW w H Q
def IsWd (X : Cx) (es : List Expr) (w : List Sy) : Prop := PA X es fun _ H Q => Q (wv w) H
section
variable {X : Cx}
theorem wd_nil : IsWd X [] [] := pa_nil
theorem wd_l {es : List Expr} {w : List Sy} {j : Nat} {k : Nat} {pos : Pos} (h : IsWd X es w) (hs : starEach (.Constant (.int (k : Int)) j pos :: es) X.env = (false, eval (.Constant (.int (k : Int)) j pos) X.env) :: starEach es X.env := by rfl) :
    IsWd X (.Constant (.int (k : Int)) j pos :: es) (.l k :: w) := pa_cons pe_int h hs
theorem wd_s {es : List Expr} {w : List Sy} {z : Str} {sy : Sy} {j : Nat} {pos : Pos} (e : sy.v = .str z) (h : IsWd X es w) (hs : starEach (.Constant (.str z) j pos :: es) X.env = (false, eval (.Constant (.str z) j pos) X.env) :: starEach es X.env := by rfl) :
    IsWd X (.Constant (.str z) j pos :: es) (sy :: w) := by
  have h' : PA X es fun _ H Q => Q (wv w) H := h
  have := pa_cons (pe_str (x := z) (j := j) (pos := pos)) h' hs
  show PA X _ fun _ H Q => Q (sy.v :: wv w) H
  rw [e]
  exact this
theorem pwd {es : List Expr} {w : List Sy} {x1 : Nat} {pos : Pos} (h : IsWd X es w) (hl : w.length ≤ 100) : PE X (.Tuple es x1 pos) (tWd w) :=
  ⟨fun pins s σ H Q I hq => (ptupF h).run pins s σ H Q I ⟨by rw [List.length_map]; exact szl _ (by omega), NewW.of hq rfl⟩⟩
end
/-! ### a reading put in another's place -/
theorem pimp {X : Cx} {e : Expr} {t : TE} (t' : TE) (h : PE X e t) (f : ∀ σ H Q, t' σ H Q → t σ H Q) : PE X e t' := ⟨fun pins s σ H Q I q => h.run pins s σ H Q I (f σ H Q q)⟩
theorem psimp {X : Cx} {st : Stmt} {t : TS} (t' : TS) (h : PS X st t) (f : ∀ D σ H, t' D σ H → t D σ H) : PS X st t' := ⟨fun pins s σ H D I q => h.run pins s σ H D I (f D σ H q)⟩
/-! ### good words by decision -/
def goodC (n L : Nat) (w : List Sy) : Bool := decide (nest w 0 = some 0) && w.all (fun s => match s with | .l k => decide (k < n) | _ => true) && w.any isL && decide (w.length ≤ L) && decide (w.length + 6 ≤ 8 * nL w)
theorem good_dec {n L : Nat} {w : List Sy} (h : goodC n L w = true) : Good n L w := by
  unfold goodC at h
  simp only [Bool.and_eq_true, decide_eq_true_eq, List.all_eq_true] at h
  obtain ⟨⟨⟨⟨h1, h2⟩, h3⟩, h4⟩, h5⟩ := h
  exact ⟨h1, fun k hk => by simpa using h2 _ hk, h3, h4, h5⟩
theorem words_dec {n L : Nat} {ws : List (List Sy)} (h : ws.all (goodC n L) = true) : ∀ w ∈ ws, Good n L w := fun w hw => good_dec (List.all_eq_true.mp h w hw)
end SK
namespace SK
open PySem PySem.Spec PyProof.Rows L2
theorem dp_ints {K : PySem.W.Frag} {H : Hp} : ∀ ss : List Int, DpAll K H (ss.map V.int) (ss.map PyData.int)
  | [] => .nil
  | i :: ss => .cons (.int i) (dp_ints ss)
theorem lay_ints : ∀ ss : List Int, PyData.canLayAll0 (ss.map PyData.int) = true
  | [] => by simp [PyData.canLayAll0]
  | i :: ss => by simp only [List.map_cons, PyData.canLayAll0, PyData.canLay0, Bool.true_and]; exact lay_ints ss
theorem depth_ints : ∀ ss : List Int, PyData.depthAll (ss.map PyData.int) = 0
  | [] => by simp [PyData.depthAll]
  | i :: ss => by simp only [List.map_cons, PyData.depthAll, PyData.depth]; rw [depth_ints ss]; rfl
theorem shaped_ints (ss : List Int) : SeqAt.shaped (.list (ss.map PyData.int)) = true := by
  simp only [SeqAt.shaped, PyData.canLay0, PyData.depth, lay_ints, depth_ints, Bool.true_and]
  decide
theorem eqv_nil (ss : List Int) : PyData.eqv (.list (ss.map PyData.int)) (.list []) = ss.isEmpty := by
  cases ss <;> simp [PyData.eqv, PyData.eqvAll]
/-- xs != [] of whole numbers -/
def rNeNil (K : PySem.W.Frag) : R2 := fun x y H Q => ∃ (a b : Addr) (ss : List Int), x = .ref a ∧ y = .ref b ∧ SqL K H a (ss.map V.int) ∧ H b = some (.lst []) ∧ Q (.bl (!ss.isEmpty)) H
theorem op_neNil {X : Cx} (hu : X.A.units + 64 < cLine) : OpR X (compareOp .NotEq) (rNeNil X.K) := by
  intro pins s σ H x y v u Q I rx ry h
  obtain ⟨a, b, ss, rfl, rfl, h1, h2, q⟩ := h
  refine op_neD hu pins s σ H _ _ v u Q I rx ry ⟨.list (ss.map PyData.int), .list [], .lst h1 (dp_ints ss), .lst (SqL.of h2) .nil, shaped_ints ss, shaped_ints [], ?_⟩
  rw [eqv_nil]
  exact q
/-- where a flat word's path goes -/
def dirE (h : Int) : Int × Int := if h = 0 then (1, 0) else if h = 1 then (0, 1) else if h = 2 then (-1, 0) else (0, -1)
def wstepE (p : Int × Int × Int) : Sy → Int × Int × Int
  | .p => (p.1, p.2.1, (p.2.2 + 1) % 4)
  | .m => (p.1, p.2.1, (p.2.2 + 3) % 4)
  | .l _ => (p.1 + (dirE p.2.2).1, p.2.1 + (dirE p.2.2).2, p.2.2)
  | _ => p
/-- the sum of some steps -/
def sumD : List Int → Int × Int
  | [] => (0, 0)
  | x :: l => ((dirE x).1 + (sumD l).1, (dirE x).2 + (sumD l).2)
theorem sumD_app : ∀ a b : List Int, sumD (a ++ b) = ((sumD a).1 + (sumD b).1, (sumD a).2 + (sumD b).2)
  | [], b => by show sumD b = (0 + _, 0 + _); rw [Int.zero_add, Int.zero_add]
  | x :: a, b => by
    show ((dirE x).1 + (sumD (a ++ b)).1, (dirE x).2 + (sumD (a ++ b)).2) = ((dirE x).1 + (sumD a).1 + (sumD b).1, (dirE x).2 + (sumD a).2 + (sumD b).2)
    rw [sumD_app a b, Int.add_assoc, Int.add_assoc]
theorem sumD_rep (j : Int) : ∀ n : Nat, sumD (List.replicate n j) = ((n : Int) * (dirE j).1, (n : Int) * (dirE j).2)
  | 0 => by show (0, 0) = _; rw [Int.natCast_zero, Int.zero_mul, Int.zero_mul]
  | n + 1 => by
    show ((dirE j).1 + (sumD (List.replicate n j)).1, (dirE j).2 + (sumD (List.replicate n j)).2) = _
    rw [sumD_rep j n, Int.natCast_succ, Int.add_mul, Int.add_mul, Int.one_mul, Int.one_mul, Int.add_comm, Int.add_comm (dirE j).2]
theorem sumD_erase : ∀ {l : List Int} {i : Nat} {x : Int}, l[i]? = some x → sumD l = ((dirE x).1 + (sumD (l.eraseIdx i)).1, (dirE x).2 + (sumD (l.eraseIdx i)).2)
  | y :: l, 0, x, h => by cases h; rfl
  | y :: l, i + 1, x, h => by
    have e := sumD_erase (l := l) (i := i) h
    show ((dirE y).1 + (sumD l).1, (dirE y).2 + (sumD l).2) = ((dirE x).1 + ((dirE y).1 + (sumD (l.eraseIdx i)).1), (dirE x).2 + ((dirE y).2 + (sumD (l.eraseIdx i)).2))
    rw [e]
    refine Prod.ext ?_ ?_ <;> dsimp only <;> omega
def In4 (ss : List Int) : Prop := ∀ x ∈ ss, 0 ≤ x ∧ x < 4
theorem dir_back {x : Int} (h : 0 ≤ x ∧ x < 4) : sumD [x, (x + 2) % 4] = (0, 0) := by
  have e : x = 0 ∨ x = 1 ∨ x = 2 ∨ x = 3 := by omega
  rcases e with rfl | rfl | rfl | rfl <;> rfl
/-- turns that come to m -/
def TurnsBy (tt : List Sy) (m : Int) : Prop := ∀ p : Int × Int × Int, 0 ≤ p.2.2 ∧ p.2.2 < 4 → tt.foldl wstepE p = (p.1, p.2.1, (p.2.2 + m) % 4)
theorem turn_m : TurnsBy [.m] 3 := fun p _ => rfl
theorem turn_rep : ∀ n : Nat, TurnsBy (List.replicate n .p) n
  | 0 => fun p h => by
    show p = (p.1, p.2.1, (p.2.2 + ((0 : Nat) : Int)) % 4)
    refine Prod.ext rfl (Prod.ext rfl ?_)
    show p.2.2 = (p.2.2 + ((0 : Nat) : Int)) % 4
    omega
  | n + 1 => fun p h => by
    show (List.replicate n Sy.p).foldl wstepE (p.1, p.2.1, (p.2.2 + 1) % 4) = _
    rw [turn_rep n _ ⟨Int.emod_nonneg _ (by decide), Int.emod_lt_of_pos _ (by decide)⟩]
    refine Prod.ext rfl (Prod.ext rfl ?_)
    show ((p.2.2 + 1) % 4 + (n : Int)) % 4 = (p.2.2 + ((n + 1 : Nat) : Int)) % 4
    omega
def spEvenWord (K : PySem.W.Frag) : Sp := fun vs H Q _ => ∃ (r t : Addr) (S : Scr) (n : Nat) (u v : Int), vs = [.ref r, .int n, .ref t] ∧ RowOk K S H r ∧ H t = some (.tup [.int u, .int v]) ∧ u.natAbs + v.natAbs ≤ 3 ∧ 2 ≤ u.natAbs + v.natAbs ∧ 1 ≤ n ∧ n ≤ 8 ∧
  ∀ (H' : Hp) (p : Addr) (w' : List Sy), Drawn K S r H H' → WdAt H' p w' → Flat n 17 w' → w'.foldl wstepE (0, 0, 0) = (u, v, 0) → Q (.ref p) H'
theorem rep_ints (n : Nat) (i : Int) : (List.replicate n [V.int i]).flatten = (List.replicate n i).map V.int := by
  induction n with
  | zero => rfl
  | succ n ih => rw [List.replicate_succ, List.flatten_cons, ih]; rfl
theorem rep_sy (n : Nat) (s : Sy) : (List.replicate n [s.v]).flatten = wv (List.replicate n s) := by
  induction n with
  | zero => rfl
  | succ n ih => rw [List.replicate_succ, List.flatten_cons, ih]; rfl
theorem abs_if (i : Int) : (if i < 0 then -i else i) = (i.natAbs : Int) := by split <;> omega
/-- the turns ahead of a stroke -/
theorem turns_of {t : List Sy} (h : t = [.m] ∨ ∃ j, t = List.replicate j .p) : (∀ s ∈ t, isB s = false ∧ isL s = false) := by
  rcases h with rfl | ⟨j, rfl⟩
  · decide
  · intro s hs
    rw [List.eq_of_mem_replicate hs]
    exact ⟨rfl, rfl⟩
section
variable {X : Cx}
theorem pabs {e : Expr} {te : TE} {p pos : Pos} (m : X.mg "abs" = none) (h : PE X e te) (hg : Gl X "abs" := by rfl) (hs1 : starEach [e] X.env = (false, eval e X.env) :: starEach [] X.env := by rfl) (hp1 : (backTo pos (starEach [] X.env)).any (·.1) = false := by rfl) :
    PE X (.Call (.Name "abs" p) [e] [] pos) (tCB (fun xs H Q => ∃ i : Int, xs = [.int i] ∧ Q (.int (i.natAbs : Int)) H) (tCons te tNil)) := by
  refine pe_callB (fun pins s σ H xs us Q I r ⟨i, h1, q⟩ => call_abs pins s σ H xs us Q I r ⟨i, h1, ?_⟩) hg m (by decide +kernel) (pa_cons h pa_nil hs1) (by decide) (by decide) hs1 hp1
  rw [abs_if]
  exact q
end
section
variable {P : Program} {w : World} {K : PySem.W.Frag} {mg : Str → Option Value} {base : Heap}
theorem erase_map {α β : Type} (f : α → β) : ∀ (l : List α) (i : Nat), (l.map f).eraseIdx i = (l.eraseIdx i).map f
  | [], _ => rfl
  | _ :: _, 0 => rfl
  | x :: l, i + 1 => by
    show f x :: (l.map f).eraseIdx i = f x :: (l.eraseIdx i).map f
    rw [erase_map f l i]
def tHalf (t : Addr) (u v i jp jm : Int) : TE := fun σ H Q => σ[2]? = some (some (.ref t)) ∧ H t = some (.tup [.int u, .int v]) ∧ ∀ (H2 : Hp) (p : Addr) (j : Int), Same H H2 → H p = none → H2 p = some (.lst ((List.replicate i.natAbs j).map V.int)) → (0 < i ∧ j = jp ∨ i ≤ 0 ∧ j = jm) → Q (.ref p) H2
theorem half (H1 : Hp) (i j1 : Int) (Q' : VK) (hi : i.natAbs ≤ 3) (hq : ∀ (H2 : Hp) (p : Addr), Same H1 H2 → H1 p = none → H2 p = some (.lst ((List.replicate i.natAbs j1).map V.int)) → Q' (.ref p) H2)
    (Ha : Hp) (a : Addr) (sa : Same H1 Ha) (ha : Ha a = some (.lst [.int j1])) : rRepN (.ref a) (.int (i.natAbs : Int)) Ha Q' := by
  refine ⟨a, _, _, rfl, rfl, ha, by omega, by omega, szl _ (by rw [Int.toNat_natCast]; show 1 * i.natAbs ≤ 16777216; omega), fun H2 p s2 n2 h2 => ?_⟩
  rw [Int.toNat_natCast, rep_ints] at h2
  exact hq H2 p (sa.trans s2) (sa.free n2) h2
/-- the turns ahead of a stroke -/
def tTurns : TE := fun σ H Q => ∃ m : Int, σ[8]? = some (some (.int m)) ∧ 0 ≤ m ∧ m < 4 ∧ ∀ (H2 : Hp) (p : Addr) (tt : List Sy), Same H H2 → H p = none → H2 p = some (.lst (wv tt)) → (∀ s ∈ tt, isB s = false ∧ isL s = false) → tt.length ≤ 2 → TurnsBy tt m → Q (.ref p) H2
/-- the two steps more, there and back -/
def tMore (K : PySem.W.Frag) (n : Nat) : TS := fun D σ H => ∃ (r t sa : Addr) (S : Scr) (ss : List Int) (y4 y5 y6 y7 y8 : Option V), σ = [some (.ref r), some (.int n), some (.ref t), some (.ref sa), y4, y5, y6, y7, y8] ∧ RowOk K S H r ∧ sa ≠ r ∧ H sa = some (.lst (ss.map V.int)) ∧ ss.length ≤ 3 ∧ In4 ss ∧
  ∀ (H' : Hp) (sa' : Addr) (ss' : List Int) (y4 : Option V), Drawn K S r H H' → (sa' = sa ∨ H sa' = none) → H' sa' = some (.lst (ss'.map V.int)) → ss.length ≤ ss'.length → ss'.length ≤ ss.length + 2 → In4 ss' → sumD ss' = sumD ss → D.nx [some (.ref r), some (.int n), some (.ref t), some (.ref sa'), y4, y5, y6, y7, y8] H'
theorem m4 (i : Int) : 0 ≤ i % 4 ∧ i % 4 < 4 := ⟨by omega, by omega⟩
theorem SameX.free {r p : Addr} {H H' : Hp} (s : SameX r H H') (hr : p ≠ r) (h : H' p = none) : H p = none := by
  cases q : H p with
  | none => rfl
  | some o => rw [s p o hr q] at h; cases h
theorem Drawn.free {K : PySem.W.Frag} {S : Scr} {r p : Addr} {H H' : Hp} (s : Drawn K S r H H') (h : H' p = none) : H p = none := SameX.free s.same (s.row.there h) h
theorem ok_evenword {f : Addr} {fd : FuncData} {k : Nat} (F : Fun K "_law_even_word" "_law_even_word" s_law_even_word f fd) (GT : Got P w K mg base "_law_taken" k ["row", "many"] (spTaken K))
    (ma : mg "abs" = none) (mi : mg "int" = none) (ml : mg "len" = none) (mT : mg "tuple" = none) : FnOk P w K mg base CX0 (k + 1) f fd ["row", "letters", "move"] (spEvenWord K) := by
  refine F.ok sc_law_even_word (fun vs H Q E h => ?_) (fun cdv A outer s H vs Q E hr h => ?_)
  · obtain ⟨r, t, S, n, u, v, rfl, _⟩ := h
    rfl
  · obtain ⟨r, t, S, n, u, v, rfl, hR, ht, huv, huv1, hn1, hn2, q⟩ := h
    have nd := sc_law_even_word.nd
    have hu3 : u.natAbs ≤ 3 := by omega
    have hv3 : v.natAbs ≤ 3 := by omega
    refine ⟨_, pss_cons (ps_set (i := 3) nd rfl (.inl rfl) (pimp (tHalf t u v u 0 2) (pe_ifExp (pt_cmpR op_gt (pixT (pv 2) pe_int) pe_int (nomark _)) (prepN (plstN (pa_cons pe_int pa_nil)) (pabs ma (pixT (pv 2) pe_int))) (prepN (plstN (pa_cons pe_int pa_nil)) (pabs ma (pixT (pv 2) pe_int))))
          (fun σ H Q ⟨e, h, hq⟩ => ⟨_, e, t, _, _, _, rfl, rfl, SqT.of h, at0, _, _, rfl, rfl, _, rfl, ite2 (fun g => ⟨szl 1, fun Ha a sa na ha => ⟨_, e, t, _, _, _, rfl, rfl, SqT.of (sa _ _ h), at0, _, rfl, half H u 0 Q hu3 (fun H2 p a1 a2 a3 => hq H2 p 0 a1 a2 a3 (.inl ⟨of_decide_eq_true g, rfl⟩)) Ha a sa ha⟩⟩) (fun g => ⟨szl 1, fun Ha a sa na ha => ⟨_, e, t, _, _, _, rfl, rfl, SqT.of (sa _ _ h), at0, _, rfl, half H u 2 Q hu3 (fun H2 p a1 a2 a3 => hq H2 p 2 a1 a2 a3 (.inr ⟨Int.not_lt.mp fun z => g (decide_eq_true z), rfl⟩)) Ha a sa ha⟩⟩)⟩)))
      (pss_cons (ps_set (i := 3) nd rfl (.inl rfl) (pcatN (pv 3) (pimp (tHalf t u v v 1 3) (pe_ifExp (pt_cmpR op_gt (pixT (pv 2) pe_int) pe_int (nomark _)) (prepN (plstN (pa_cons pe_int pa_nil)) (pabs ma (pixT (pv 2) pe_int))) (prepN (plstN (pa_cons pe_int pa_nil)) (pabs ma (pixT (pv 2) pe_int))))
          (fun σ H Q ⟨e, h, hq⟩ => ⟨_, e, t, _, _, _, rfl, rfl, SqT.of h, at1, _, _, rfl, rfl, _, rfl, ite2 (fun g => ⟨szl 1, fun Ha a sa na ha => ⟨_, e, t, _, _, _, rfl, rfl, SqT.of (sa _ _ h), at1, _, rfl, half H v 1 Q hv3 (fun H2 p a1 a2 a3 => hq H2 p 1 a1 a2 a3 (.inl ⟨of_decide_eq_true g, rfl⟩)) Ha a sa ha⟩⟩) (fun g => ⟨szl 1, fun Ha a sa na ha => ⟨_, e, t, _, _, _, rfl, rfl, SqT.of (sa _ _ h), at1, _, rfl, half H v 3 Q hv3 (fun H2 p a1 a2 a3 => hq H2 p 3 a1 a2 a3 (.inr ⟨Int.not_lt.mp fun z => g (decide_eq_true z), rfl⟩)) Ha a sa ha⟩⟩)⟩))))
      (pss_cons (psimp (tMore K n) (ps_if (pt_cmpR op_eq (pcall GT hr (pa_cons (pv 0) (pa_cons pe_int pa_nil))) pe_int (nomark _))
        (pss_cons (ps_set (i := 4) nd rfl (.inl rfl) (pcall GT hr (pa_cons (pv 0) (pa_cons pe_int pa_nil))))
          (pss_one (ps_set (i := 3) nd rfl (.inl rfl) (pcatN (pv 3) (plstN (pa_cons (pv 4) (pa_cons (pmod (pint mi (padd (pv 4) pe_int)) pe_int) pa_nil))))))) pss_nil) ?more)
      (pss_cons (ps_par rfl nd (i := 5) (j := 6) rfl rfl (by decide) rfl rfl (pa_cons (plstN pa_nil) (pa_cons pe_int pa_nil)) (by rfl))
      (pss_cons (ps_while PassesOwn.never (pt_cmpR (op_neNil hr.units) (pv 3) (plstN pa_nil) (nomark _))
        (pss_cons (ps_set (i := 7) nd rfl (.inl rfl) (pe_bm PySem.F.plainAttrs_list PySem.F.slot_list_pop PySem.F.type_list_pop mt_popAt (pv 3) (pa_cons (pcall GT hr (pa_cons (pv 0) (pa_cons (plen ml (pv 3)) pa_nil))) pa_nil)))
        (pss_cons (ps_set (i := 8) nd rfl (.inl rfl) (pmod (pint mi (psub (pv 7) (pv 6))) pe_int))
        (pss_cons (ps_set (i := 5) nd rfl (.inl rfl) (pcatN (pcatN (pv 5) (pimp tTurns (pe_ifExp (pt_cmpR op_eq (pv 8) pe_int (nomark _)) (plstN (pa_cons pe_str pa_nil)) (prepN (plstN (pa_cons pe_str pa_nil)) (pv 8))) ?turns))
            (plstN (pa_cons (pcall GT hr (pa_cons (pv 0) (pa_cons (pv 1) pa_nil))) pa_nil))))
        (pss_one (ps_set (i := 6) nd rfl (.inl rfl) (pv 7)))))))
      (pss_cons (ps_set (i := 8) nd rfl (.inl rfl) (pmod (pint mi (psub pe_int (pv 6))) pe_int))
      (pss_one (ps_ret (ptupleF mT (pcatN (pv 5) (pimp tTurns (pe_ifExp (pt_cmpR op_eq (pv 8) pe_int (nomark _)) (plstN (pa_cons pe_str pa_nil)) (prepN (plstN (pa_cons pe_str pa_nil)) (pv 8))) ?turns2)))))))))), ?_⟩
    case more =>
      rintro D σ H ⟨r, t, sa, S, ss, y4, y5, y6, y7, y8, rfl, hR, nsr, hs, hl, hin, q⟩
      refine ⟨_, rfl, r, S, 3, rfl, hR, by decide, by decide, fun H1 k1 D1 _ => ⟨rfl, _, rfl, ite2 (fun _ => ?_) (fun _ => ?_)⟩⟩
      · refine ⟨_, rfl, r, S, 4, rfl, D1.row, by decide, by decide, fun H2 k2 D2 hk2 => ?_⟩
        have D12 := D1.trans D2
        refine ⟨_, rfl, _, rfl, _, rfl, _, _, rfl, rfl, .inl ⟨_, rfl, _, _, rfl, rfl, (show (0 : Int) < 4 by decide), szl 2, fun H3 l s3 n3 h3 => ?_⟩⟩
        refine ⟨sa, l, _, _, rfl, rfl, s3 _ _ (D12.at nsr hs), h3, szl _ (by simp only [List.length_map, List.length_cons, List.length_nil]; omega), fun H4 p s4 n4 h4 => ?_⟩
        refine q H4 p (ss ++ [(k2 : Int), ((k2 : Int) + 2) % 4]) _ ((D12.then s3).then s4) (.inr (D12.free (s3.free n4))) ?_ (by simp) (by simp) ?_ ?_
        · rw [h4, List.map_append]; rfl
        · intro x hx
          rcases List.mem_append.mp hx with h | h
          · exact hin x h
          · simp only [List.mem_cons, List.not_mem_nil, or_false] at h
            rcases h with rfl | rfl <;> omega
        · rw [sumD_app, dir_back (by omega)]
          refine Prod.ext ?_ ?_ <;> dsimp only <;> omega
      · exact q H1 sa ss _ D1 (.inl rfl) (D1.at nsr hs) (Nat.le_refl _) (by omega) hin rfl
    case turns =>
      rintro σ H Q ⟨m, e, h0, h4, hq⟩
      refine ⟨_, e, rfl, _, rfl, ite2 (fun e => ?_) (fun e => ?_)⟩
      · obtain rfl : m = 3 := by have e := of_decide_eq_true e; injection e
        exact ⟨szl 1, fun H2 p s2 n2 h2 => hq H2 p [.m] s2 n2 h2 (by decide) (by decide) turn_m⟩
      · have hm : m ≠ 3 := fun z => e (decide_eq_true (by rw [z]))
        refine ⟨szl 1, fun Ha a sa na ha => ⟨_, ‹_›, a, m, _, rfl, rfl, ha, by omega, by omega, szl _ (by show 1 * m.toNat ≤ 16777216; omega), fun H2 p s2 n2 h2 => ?_⟩⟩
        have h2' : H2 p = some (.lst (wv (List.replicate m.toNat .p))) := by rw [← rep_sy]; exact h2
        exact hq H2 p _ (sa.trans s2) (sa.free n2) h2' (turns_of (.inr ⟨_, rfl⟩)) (by rw [List.length_replicate]; omega) (by have := turn_rep m.toNat; rw [Int.toNat_of_nonneg h0] at this; exact this)
    case turns2 =>
      rintro σ H Q ⟨m, e, h0, h4, hq⟩
      refine ⟨_, e, rfl, _, rfl, ite2 (fun e => ?_) (fun e => ?_)⟩
      · obtain rfl : m = 3 := by have e := of_decide_eq_true e; injection e
        exact ⟨szl 1, fun H2 p s2 n2 h2 => hq H2 p [.m] s2 n2 h2 (by decide) (by decide) turn_m⟩
      · have hm : m ≠ 3 := fun z => e (decide_eq_true (by rw [z]))
        refine ⟨szl 1, fun Ha a sa na ha => ⟨_, ‹_›, a, m, _, rfl, rfl, ha, by omega, by omega, szl _ (by show 1 * m.toNat ≤ 16777216; omega), fun H2 p s2 n2 h2 => ?_⟩⟩
        have h2' : H2 p = some (.lst (wv (List.replicate m.toNat .p))) := by rw [← rep_sy]; exact h2
        exact hq H2 p _ (sa.trans s2) (sa.free n2) h2' (turns_of (.inr ⟨_, rfl⟩)) (by rw [List.length_replicate]; omega) (by have := turn_rep m.toNat; rw [Int.toNat_of_nonneg h0] at this; exact this)
    -- steps
    refine ⟨rfl, ht, fun H1 p1 j1 S1 n1 h1 l1 => ?_⟩
    refine ⟨_, rfl, rfl, S1 _ _ ht, fun H2 p2 j2 S2 n2 h2 l2 => ?_⟩
    obtain ⟨s1, es1⟩ : ∃ s1, s1 = List.replicate u.natAbs j1 := ⟨_, rfl⟩
    obtain ⟨s2, es2⟩ : ∃ s2, s2 = List.replicate v.natAbs j2 := ⟨_, rfl⟩
    have d1 : In4 s1 ∧ sumD s1 = (u, 0) ∧ s1.length = u.natAbs := by
      refine ⟨fun x hx => ?_, ?_, by rw [es1, List.length_replicate]⟩
      · rw [es1] at hx
        rw [List.eq_of_mem_replicate hx]
        rcases l1 with ⟨_, rfl⟩ | ⟨_, rfl⟩ <;> decide
      · rw [es1, sumD_rep]
        rcases l1 with ⟨z, rfl⟩ | ⟨z, rfl⟩
        · show ((u.natAbs : Int) * 1, (u.natAbs : Int) * 0) = _
          refine Prod.ext ?_ ?_ <;> dsimp only <;> omega
        · show ((u.natAbs : Int) * -1, (u.natAbs : Int) * 0) = _
          refine Prod.ext ?_ ?_ <;> dsimp only <;> omega
    have d2 : In4 s2 ∧ sumD s2 = (0, v) ∧ s2.length = v.natAbs := by
      refine ⟨fun x hx => ?_, ?_, by rw [es2, List.length_replicate]⟩
      · rw [es2] at hx
        rw [List.eq_of_mem_replicate hx]
        rcases l2 with ⟨_, rfl⟩ | ⟨_, rfl⟩ <;> decide
      · rw [es2, sumD_rep]
        rcases l2 with ⟨z, rfl⟩ | ⟨z, rfl⟩
        · show ((v.natAbs : Int) * 0, (v.natAbs : Int) * 1) = _
          refine Prod.ext ?_ ?_ <;> dsimp only <;> omega
        · show ((v.natAbs : Int) * 0, (v.natAbs : Int) * -1) = _
          refine Prod.ext ?_ ?_ <;> dsimp only <;> omega
    rw [← es1] at h1
    rw [← es2] at h2
    clear es1 es2 l1 l2
    obtain ⟨i1, d1, l1⟩ := d1
    obtain ⟨i2, d2, l2⟩ := d2
    have i12 : In4 (s1 ++ s2) := fun x hx => (List.mem_append.mp hx).elim (i1 x) (i2 x)
    have d12 : sumD (s1 ++ s2) = (u, v) := by rw [sumD_app, d1, d2]; refine Prod.ext ?_ ?_ <;> dsimp only <;> omega
    refine ⟨p1, p2, _, _, rfl, rfl, S2 _ _ h1, h2, szl _ (by simp only [List.length_map]; omega), fun H3 p3 S3 n3 h3 => ?_⟩
    rw [← List.map_append] at h3
    have S03 : Same H H3 := (S1.trans S2).trans S3
    have D3 : Drawn K S r H H3 := (Drawn.refl hR).then S03
    have n3' : H p3 = none := S1.free (S2.free n3)
    have nr3 : p3 ≠ r := hR.there n3'
    refine ⟨r, t, p3, S, s1 ++ s2, _, _, _, _, _, rfl, D3.row, nr3, h3, by rw [List.length_append]; omega, i12, fun H4 p4 s4 y4 D4 hp4 h4 hl4 hl4' i4 d4 => ?_⟩
    rw [d12] at d4
    rw [List.length_append] at hl4 hl4'
    have D04 := D3.trans D4
    have n4' : H p4 = none := by
      rcases hp4 with e | e
      · rw [e]; exact n3'
      · exact S03.free e
    -- found, heading = [], 0
    refine ⟨szl 0, fun H5 p5 S5 n5 h5 => ⟨_, _, rfl, ?_⟩⟩
    have D05 := D04.then S5
    refine ⟨fun m σ H' => ∃ (fa : Addr) (ss : List Int) (ws : List Sy) (hd : Int) (y4 y7 y8 : Option V), σ = [some (.ref r), some (.int n), some (.ref t), some (.ref p4), y4, some (.ref fa), some (.int hd), y7, y8] ∧ Drawn K S r H H' ∧
      H' p4 = some (.lst (ss.map V.int)) ∧ H' fa = some (.lst (wv ws)) ∧ fa ≠ r ∧ fa ≠ p4 ∧ ss.length = m ∧ (∀ s ∈ ws, isB s = false) ∧ (∀ k, Sy.l k ∈ ws → k < n) ∧ ws.length + 3 * m ≤ 15 ∧ (1 ≤ m ∨ ws.any isL = true) ∧ 2 ≤ nL ws + m ∧ ws.length ≤ 3 * nL ws ∧ In4 ss ∧ (0 ≤ hd ∧ hd < 4) ∧ ws.foldl wstepE (0, 0, 0) = (u - (sumD ss).1, v - (sumD ss).2, hd),
      ⟨s4.length, p5, s4, [], 0, _, _, _, rfl, D05, S5 _ _ h4, h5, D04.row.there n5, (ne_of_none h4 n5).symm, rfl, by decide, (fun k h => nomatch h), (by simp only [List.length_nil]; omega), .inl (by omega), (by omega), (by decide), i4, (by decide), by rw [d4]; show (0, 0, 0) = (u - u, v - v, 0); rw [Int.sub_self, Int.sub_self]⟩, ?_⟩
    rintro m σ H' ⟨fa, ss, ws, hd, y4, y7, y8, rfl, D, hs, hf, nfr, nfp, hm, f1, f2, f3, f4, f5, f6, f7, f8, f9⟩
    have nr4 : p4 ≠ r := hR.there n4'
    refine ⟨_, rfl, szl 0, fun H6 p6 S6 n6 h6 => ?_⟩
    have D6 := D.then S6
    have hs6 := S6 _ _ hs
    have hf6 := S6 _ _ hf
    refine ⟨p4, p6, ss, rfl, rfl, SqL.of hs6, h6, _, rfl, ?_⟩
    cases ss with
    | nil =>
      refine iteF ?_
      have hm0 : m = 0 := hm.symm
      subst hm0
      have f4' : ws.any isL = true := f4.resolve_left (by omega)
      refine ⟨_, rfl, _, _, rfl, rfl, .inl ⟨_, rfl, _, _, rfl, rfl, (show (0 : Int) < 4 by decide), ?_⟩⟩
      refine ⟨_, rfl, _, rfl, (m4 _).1, (m4 _).2, fun H7 p7 tt S7 n7 h7 b7 l7 u7 => ?_⟩
      refine ⟨fa, p7, _, _, rfl, rfl, S7 _ _ hf6, h7, szl _ (by simp only [List.length_map]; omega), fun H8 p8 S8 n8 h8 => ?_⟩
      refine ⟨p8, _, rfl, SqL.of h8, NewW.of (fun H9 p9 S9 n9 h9 => ?_) (w := ws ++ tt) (by simp only [wv, List.map_append])⟩
      have fin : (ws ++ tt).foldl wstepE (0, 0, 0) = (u, v, 0) := by
        rw [List.foldl_append, f9, u7 _ f8]
        refine Prod.ext ?_ (Prod.ext ?_ ?_)
        · show u - 0 = u; omega
        · show v - 0 = v; omega
        · show (hd + (0 - hd) % 4) % 4 = 0; omega
      refine q H9 p9 (ws ++ tt) (((D6.then S7).then S8).then S9) h9 ⟨?_, ?_, ?_, ?_, ?_⟩ fin
      · intro s hs
        rcases List.mem_append.mp hs with h | h
        · exact f1 s h
        · exact (b7 s h).1
      · intro j hj
        rcases List.mem_append.mp hj with h | h
        · exact f2 j h
        · have := (b7 _ h).2; cases this
      · rw [List.any_append, f4']; rfl
      · rw [List.length_append]; omega
      · rw [List.length_append, nL_app]; omega
    | cons s0 sr =>
      refine iteT ?_
      refine ⟨fun σ' H' => ∃ (fa : Addr) (ss : List Int) (ws : List Sy) (hd : Int) (y4 y7 y8 : Option V), σ' = [some (.ref r), some (.int n), some (.ref t), some (.ref p4), y4, some (.ref fa), some (.int hd), y7, y8] ∧ Drawn K S r H H' ∧
        H' p4 = some (.lst (ss.map V.int)) ∧ H' fa = some (.lst (wv ws)) ∧ fa ≠ r ∧ fa ≠ p4 ∧ ss.length + 1 = m ∧ (∀ s ∈ ws, isB s = false) ∧ (∀ k, Sy.l k ∈ ws → k < n) ∧ ws.length + 3 * (m - 1) ≤ 15 ∧ (ws.any isL = true) ∧ 2 ≤ nL ws + (m - 1) ∧ ws.length ≤ 3 * nL ws ∧ In4 ss ∧ (0 ≤ hd ∧ hd < 4) ∧ ws.foldl wstepE (0, 0, 0) = (u - (sumD ss).1, v - (sumD ss).2, hd), ?_, ?_⟩
      · rintro σ' H' ⟨fa, ss, ws, hd, y4, y7, y8, rfl, D, hs, hf, nfr, nfp, hm, f1, f2, f3, f4, f5, f6, f789⟩
        exact ⟨m - 1, by omega, fa, ss, ws, hd, y4, y7, y8, rfl, D, hs, hf, nfr, nfp, by omega, f1, f2, f3, .inr f4, f5, f6, f789⟩
      · refine ⟨_, rfl, .inl ⟨rfl, _, SqL.of hs6⟩, _, rfl, _, rfl, p4, _, rfl, .inl (SqL.of hs6), r, S, (s0 :: sr).length, ?_, D6.row, by simp, ?_, fun H7 k7 D7 hk7 => ?_⟩
        · rw [List.length_map]; rfl
        · rw [hm]; omega
        have hs7 := D7.at nr4 hs6
        have hf7 := D7.at nfr hf6
        have hk7' : k7 < ((s0 :: sr).map V.int).length := by rw [List.length_map]; exact hk7
        have sx : seqIndex? (k7 : Int) ((s0 :: sr).map V.int).length = some k7 := by
          have := seqIndex_of (n := ((s0 :: sr).map V.int).length) (k := (k7 : Int)) (by omega) (by omega)
          rw [this, Int.toNat_natCast]
        have gx : ((s0 :: sr).map V.int)[k7]? = some (.int (s0 :: sr)[k7]) := by
          rw [List.getElem?_map, List.getElem?_eq_getElem hk7]; rfl
        have xe := List.getElem?_eq_getElem hk7
        have x4 := f7 _ (List.mem_of_getElem? xe)
        have sd := sumD_erase xe
        have in8 : In4 ((s0 :: sr).eraseIdx k7) := fun y hy => f7 y (List.mem_of_mem_eraseIdx hy)
        generalize (s0 :: sr)[k7] = x at gx xe x4 sd
        refine ⟨p4, _, _, k7, _, rfl, rfl, hs7, by omega, by omega, sx, gx, ?_⟩
        have D8 : Drawn K S r H (upd H7 p4 (.lst (((s0 :: sr).map V.int).eraseIdx k7))) := (D6.trans D7).put hR n4'
        have hs8 : (upd H7 p4 (.lst (((s0 :: sr).map V.int).eraseIdx k7))) p4 = some (.lst (((s0 :: sr).eraseIdx k7).map V.int)) := by rw [upd_same, erase_map]
        have hf8 : (upd H7 p4 (.lst (((s0 :: sr).map V.int).eraseIdx k7))) fa = some (.lst (wv ws)) := by rw [upd_ne nfp]; exact hf7
        have hl8 : ((s0 :: sr).eraseIdx k7).length + 1 = m := by
          rw [List.length_eraseIdx_of_lt hk7, ← hm]
          simp only [List.length_cons]; omega
        generalize (upd H7 p4 (.lst (((s0 :: sr).map V.int).eraseIdx k7))) = H8 at D8 hs8 hf8
        generalize (s0 :: sr).eraseIdx k7 = ss8 at hs8 hl8 sd in8
        refine ⟨_, rfl, _, rfl, _, _, rfl, rfl, .inl ⟨_, rfl, _, _, rfl, rfl, (show (0 : Int) < 4 by decide), ?_⟩⟩
        refine ⟨_, rfl, _, rfl, (m4 _).1, (m4 _).2, fun H9 p9 tt S9 n9 h9 b9 l9 u9 => ?_⟩
        refine ⟨fa, p9, _, _, rfl, rfl, S9 _ _ hf8, h9, szl _ (by simp only [List.length_map]; omega), fun Ha pa Sa na ha => ?_⟩
        have Da := (D8.then S9).then Sa
        refine ⟨_, rfl, _, rfl, r, S, n, rfl, Da.row, hn1, by omega, fun Hb kb Db hkb => ?_⟩
        refine ⟨szl 1, fun Hc pc Sc nc hc => ?_⟩
        have npr : pa ≠ r := (D8.then S9).row.there na
        refine ⟨pa, pc, _, _, rfl, rfl, Sc _ _ (Db.at npr ha), hc, szl _ (by simp only [List.length_append, List.length_map, List.length_cons, List.length_nil]; omega), fun Hd pd Sd nd hdl => ?_⟩
        have Dd := (((Da.trans Db).then Sc).then Sd)
        have hsd := Sd _ _ (Sc _ _ (Db.at nr4 (Sa _ _ (S9 _ _ hs8))))
        refine ⟨_, rfl, pd, ss8, ws ++ tt ++ [.l kb], _, _, _, _, rfl, Dd, hsd, ?_, (((Da.trans Db).then Sc).row.there nd), (ne_of_none (Sc _ _ (Db.at nr4 (Sa _ _ (S9 _ _ hs8)))) nd).symm, hl8, ?_, ?_, ?_, ?_, ?_, ?_, in8, x4, ?_⟩
        · rw [hdl, wv, wv, wv, List.map_append, List.map_append]; rfl
        · intro s hs
          rcases List.mem_append.mp hs with h | h
          · rcases List.mem_append.mp h with h | h
            · exact f1 s h
            · exact (b9 s h).1
          · rw [List.mem_singleton.mp h]; rfl
        · intro j hj
          rcases List.mem_append.mp hj with h | h
          · rcases List.mem_append.mp h with h | h
            · exact f2 j h
            · have := (b9 _ h).2; cases this
          · cases List.mem_singleton.mp h; exact hkb
        · simp only [List.length_append, List.length_singleton]; omega
        · rw [List.any_append]; simp [isL]
        · have e1 : nL [Sy.l kb] = 1 := rfl
          rw [nL_app, nL_app, e1]; omega
        · have e1 : nL [Sy.l kb] = 1 := rfl
          rw [nL_app, nL_app, e1]
          simp only [List.length_append, List.length_singleton]; omega
        · rw [List.foldl_append, List.foldl_append, f9, u9 _ f8, sd]
          have eh : (hd + (x - hd) % 4) % 4 = x := by omega
          show wstepE (u - ((dirE x).1 + (sumD ss8).1), v - ((dirE x).2 + (sumD ss8).2), (hd + (x - hd) % 4) % 4) (Sy.l kb) = _
          rw [eh]
          refine Prod.ext ?_ (Prod.ext ?_ rfl)
          · show u - ((dirE x).1 + (sumD ss8).1) + (dirE x).1 = u - (sumD ss8).1; omega
          · show v - ((dirE x).2 + (sumD ss8).2) + (dirE x).2 = v - (sumD ss8).2; omega
end
end SK
namespace SK
open PySem PySem.Spec PyProof.Rows L2
def spEvenBook (K : PySem.W.Frag) : Sp := fun vs H Q _ => ∃ (r : Addr) (S : Scr), vs = [.ref r] ∧ RowOk K S H r ∧
  ∀ (H' : Hp) (p b m : Addr) (ws : List (List Sy)) (st : List Sy), Drawn K S r H H' → H' p = some (.tup [.ref b, .ref m]) → BookAt H' b ws st → GoodBook ws st → Q (.ref p) H'
/-- words whose paths go (u, v) on, no turning in all, but for a branch -/
def EvenWs (u v : Int) (ws : List (List Sy)) : Prop := ws.length ≤ 2 ∧ ∀ w ∈ ws, ∃ w0 : List Sy, (∀ s ∈ w0, isB s = false) ∧ w0.foldl wstepE (0, 0, 0) = (u, v, 0) ∧ Br w0 w
def spEvenBookE (K : PySem.W.Frag) : Sp := fun vs H Q _ => ∃ (r : Addr) (S : Scr), vs = [.ref r] ∧ RowOk K S H r ∧
  ∀ (H' : Hp) (p b m : Addr) (ws : List (List Sy)) (st : List Sy) (u v : Int), Drawn K S r H H' → H' p = some (.tup [.ref b, .ref m]) → BookAt H' b ws st → GoodBook ws st → H' m = some (.tup [.int u, .int v]) → EvenWs u v ws → 2 ≤ u.natAbs + v.natAbs ∧ u.natAbs + v.natAbs ≤ 3 → Q (.ref p) H'
theorem good_start {n : Nat} (h : 1 ≤ n) : Good n 40 [.l (n - 1), .l 0] := ⟨rfl, fun k hk => by
  simp only [List.mem_cons, List.not_mem_nil, or_false] at hk
  rcases hk with e | e <;> cases e <;> omega, rfl, by show 2 ≤ 40; decide, by show 2 + 6 ≤ 8 * 2; decide⟩
theorem good_up {n L : Nat} {w : List Sy} (h : Good 1 L w) (hn : 1 ≤ n) : Good n L w := ⟨h.nst, fun k hk => Nat.lt_of_lt_of_le (h.lets k hk) hn, h.has, h.len, h.slim⟩
section
variable {P : Program} {w : World} {K : PySem.W.Frag} {mg : Str → Option Value} {base : Heap}
theorem ok_evenbookE {f : Addr} {fd : FuncData} {k : Nat} (F : Fun K "_law_even_book" "_law_even_book" s_law_even_book f fd) (GT : Got P w K mg base "_law_taken" k ["row", "many"] (spTaken K)) (GP : Got P w K mg base "_law_pick" k ["row", "things"] (spPick K))
    (GW : Got P w K mg base "_law_even_word" k ["row", "letters", "move"] (spEvenWord K)) (GB : Got P w K mg base "_law_branched" k ["row", "word", "letters"] (spBranched K))
    (mR : mg "range" = none) (mT : mg "tuple" = none) : FnOk P w K mg base CX0 (k + 1) f fd ["row"] (spEvenBookE K) := by
  refine F.ok sc_law_even_book (fun vs H Q E h => ?_) (fun cdv A outer s H vs Q E hr h => ?_)
  · obtain ⟨r, S, rfl, _⟩ := h
    rfl
  · obtain ⟨r, S, rfl, hR, q⟩ := h
    have nd := sc_law_even_book.nd
    refine ⟨_, pss_cons (ps_asg (ptupN (pa_cons (padd pe_int (pcall GT hr (pa_cons (pv 0) (pa_cons pe_int pa_nil)))) (pa_cons (pcall GP hr (pa_cons (pv 0) (pa_cons (plstN (pa_cons (ptupN (pa_cons pe_int (pa_cons pe_int pa_nil))) (pa_cons (ptupN (pa_cons pe_int (pa_cons pe_int pa_nil))) (pa_cons (ptupN (pa_cons pe_int (pa_cons pe_int pa_nil))) (pa_cons (ptupN (pa_cons pe_int (pa_cons pe_int pa_nil))) (pa_cons (ptupN (pa_cons pe_int (pa_cons (pe_un un_neg pe_int) pa_nil))) (pa_cons (ptupN (pa_cons (pe_un un_neg pe_int) (pa_cons pe_int pa_nil))) (pa_cons (ptupN (pa_cons pe_int (pa_cons pe_int pa_nil))) (pa_cons (ptupN (pa_cons pe_int (pa_cons pe_int pa_nil))) (pa_cons (ptupN (pa_cons pe_int (pa_cons pe_int pa_nil))) pa_nil)))))))))) pa_nil))) pa_nil)))
        (pg_tup (by rfl) (pgs_cons (pg_name (i := 1) nd rfl (.inr rfl)) (pgs_cons (pg_name (i := 2) nd rfl (.inr rfl)) pgs_nil))))
      (pss_cons (ps_set (i := 3) nd rfl (.inl rfl) (ptupleN mT
          (pe_lc (own := [("k", 5)]) (g := gName 5) (tt := tYes) rfl nd (pi_range1 rfl mR (pa_cons (pv 1) pa_nil)) (blkOk_by (N := n_law_even_book) (sc := defScope s_law_even_book) (by decide +kernel))
            (fun _ _ _ _ _ => pg_name (i := 5) nd rfl (Or.inl rfl)) (fun _ _ _ _ _ => pts_nil)
            (fun _ _ _ _ _ => pcall GB hr (pa_cons (pv 0) (pa_cons (pcall GW hr (pa_cons (pv 0) (pa_cons (pv 1) (pa_cons (pv 2) pa_nil)))) (pa_cons (pv 1) pa_nil)))))))
      (pss_cons (ps_set (i := 4) nd rfl (.inl rfl) (pcall GP hr (pa_cons (pv 0) (pa_cons (plstN (pa_cons (pwd (wd_l (k := 0) wd_nil) (by decide)) (pa_cons (pwd (wd_l (k := 0) wd_nil) (by decide)) (pa_cons (pwd (wd_l (k := 0) (wd_s (sy := .p) rfl (wd_l (k := 0) wd_nil))) (by decide)) (pa_cons (pwd (wd_l (k := 0) (wd_s (sy := .p) rfl (wd_l (k := 0) (wd_s (sy := .p) rfl (wd_l (k := 0) (wd_s (sy := .p) rfl (wd_l (k := 0) wd_nil))))))) (by decide)) (pa_cons (ptupF (pa_cons (psub (pv 1) pe_int) (pa_cons pe_int pa_nil))) pa_nil)))))) pa_nil))))
      (pss_one (ps_ret (ptupN (pa_cons (ptupN (pa_cons (pv 3) (pa_cons (pv 4) pa_nil))) (pa_cons (pv 2) pa_nil))))))), ?_⟩
    refine ⟨_, rfl, r, S, 2, rfl, hR, by decide, by decide, fun H1 k1 D1 hk1 => ?_⟩
    obtain ⟨n, hn⟩ : ∃ n : Nat, n = 1 + k1 := ⟨_, rfl⟩
    have hn1 : 1 ≤ n := by omega
    have hn2 : n ≤ 8 := by omega
    have hn3 : n ≤ 3 := by omega
    have hn4 : n ≤ 2 := by omega
    refine ⟨1, _, rfl, rfl, ?_⟩
    have en : (V.int (1 + (k1 : Int))) = V.int (n : Int) := by rw [hn]; congr 1
    dsimp only
    rw [en]
    clear en hn hk1
    refine ⟨_, rfl, ?_⟩
    refine ⟨szl 2, fun M0 a0 s0 n0 h0 => ?_⟩
    refine ⟨szl 2, fun M1 a1 s1 n1 h1 => ?_⟩
    refine ⟨szl 2, fun M2 a2 s2 n2 h2 => ?_⟩
    refine ⟨szl 2, fun M3 a3 s3 n3 h3 => ?_⟩
    refine ⟨_, rfl, szl 2, fun M4 a4 s4 n4 h4 => ?_⟩
    refine ⟨_, rfl, szl 2, fun M5 a5 s5 n5 h5 => ?_⟩
    refine ⟨szl 2, fun M6 a6 s6 n6 h6 => ?_⟩
    refine ⟨szl 2, fun M7 a7 s7 n7 h7 => ?_⟩
    refine ⟨szl 2, fun M8 a8 s8 n8 h8 => ?_⟩
    refine ⟨szl 9, fun M9 a9 s9 n9 h9 => ?_⟩
    have t9 : Same M9 M9 := Same.refl _
    have t8 : Same M8 M9 := s9.trans t9
    have t7 : Same M7 M9 := s8.trans t8
    have t6 : Same M6 M9 := s7.trans t7
    have t5 : Same M5 M9 := s6.trans t6
    have t4 : Same M4 M9 := s5.trans t5
    have t3 : Same M3 M9 := s4.trans t4
    have t2 : Same M2 M9 := s3.trans t3
    have t1 : Same M1 M9 := s2.trans t2
    have t0 : Same M0 M9 := s1.trans t1
    have tm : Same H1 M9 := s0.trans t0
    have u := ((((((((s0.trans s1).trans s2).trans s3).trans s4).trans s5).trans s6).trans s7).trans s8)
    have D2 := D1.then tm
    refine ⟨r, a9, S, _, rfl, D2.row, (D1.then u).row.there n9, h9, (show 1 ≤ 9 by decide), (show 9 < 1073741824 by decide), fun H3 kk v D3 hk => ?_⟩
    have tt := D3.tups D2.row
    obtain ⟨m, mu, mv, rfl, hm, hm1, hm2⟩ : ∃ (m : Addr) (mu mv : Int), v = .ref m ∧ H3 m = some (.tup [.int mu, .int mv]) ∧ mu.natAbs + mv.natAbs ≤ 3 ∧ 2 ≤ mu.natAbs + mv.natAbs := by
      match kk, hk with
      | 0, hk => cases hk; exact ⟨a0, 1, 1, rfl, tt.1 _ _ (t0 _ _ h0), by decide, by decide⟩
      | 1, hk => cases hk; exact ⟨a1, 1, 1, rfl, tt.1 _ _ (t1 _ _ h1), by decide, by decide⟩
      | 2, hk => cases hk; exact ⟨a2, 2, 0, rfl, tt.1 _ _ (t2 _ _ h2), by decide, by decide⟩
      | 3, hk => cases hk; exact ⟨a3, 2, 1, rfl, tt.1 _ _ (t3 _ _ h3), by decide, by decide⟩
      | 4, hk => cases hk; exact ⟨a4, 1, -1, rfl, tt.1 _ _ (t4 _ _ h4), by decide, by decide⟩
      | 5, hk => cases hk; exact ⟨a5, -1, 1, rfl, tt.1 _ _ (t5 _ _ h5), by decide, by decide⟩
      | 6, hk => cases hk; exact ⟨a6, 0, 2, rfl, tt.1 _ _ (t6 _ _ h6), by decide, by decide⟩
      | 7, hk => cases hk; exact ⟨a7, 1, 2, rfl, tt.1 _ _ (t7 _ _ h7), by decide, by decide⟩
      | 8, hk => cases hk; exact ⟨a8, 3, 0, rfl, tt.1 _ _ (t8 _ _ h8), by decide, by decide⟩
      | j + 9, hk => simp at hk
    have D03 := D1.trans (D2.trans D3 |> fun _ => (Drawn.refl D1.row).then tm |>.trans D3)
    clear tt h0 h1 h2 h3 h4 h5 h6 h7 h8 h9 hk
    refine ⟨szl 2, fun H4 p4 S4 n4 h4 => ?_⟩
    refine ⟨p4, _, rfl, SqT.of h4, rfl, _, _, rfl, _, _, rfl, rfl, ?_⟩
    have D4 := D03.then S4
    have hm4 := S4 _ _ hm
    refine ⟨_, rfl, (n : Int), rfl, by omega, by omega, fun D nD => ?_⟩
    rw [Int.toNat_natCast]
    have nDr := D4.row.there nD
    refine lc_range (lo := 0) (n := n) (fun i H' => ∃ (as : List Addr) (ws : List (List Sy)), Drawn K S r H4 H' ∧ H' D = some (.lst (as.map V.ref)) ∧ Words H' as ws ∧ ws.length = i ∧ (∀ w ∈ ws, Good n 40 w) ∧ ∀ w ∈ ws, ∃ w0 : List Sy, (∀ s ∈ w0, isB s = false) ∧ w0.foldl wstepE (0, 0, 0) = (mu, mv, 0) ∧ Br w0 w)
      ⟨[], [], (Drawn.refl D4.row).new nD, upd_same, .nil, rfl, (fun w h => nomatch h), fun w h => nomatch h⟩ ?_ ?_
    · rintro i H' hi ⟨as, ws, D2, hD, hw, hl, hg, hE⟩
      refine ⟨rfl, _, rfl, _, rfl, _, rfl, _, rfl, r, m, S, n, mu, mv, rfl, D2.row, D2.tup D4.row hm4, hm1, hm2, hn1, hn2, fun H3 t w3 D3 ht hw3 he3 => ?_⟩
      refine ⟨_, rfl, r, t, S, n, 17, w3, rfl, D3.row, ht, hw3, by decide, hn1, hn2, fun H4' p w4 D4' hp hw4 hb4 => ?_⟩
      have D34 := D3.trans D4'
      refine ⟨_, D34.at nDr hD, ?_, as ++ [p], ws ++ [w4], (D2.trans D34).put D4.row nD, ?_, ?_, ?_, ?_, ?_⟩
      · have := hw.length
        rw [List.length_map]; exact Nat.lt_of_le_of_lt (show as.length ≤ 1000 by omega) (by decide)
      · rw [upd_same, List.map_append]; rfl
      · have s : TupS H4' (upd H4' D (.lst (as.map V.ref ++ [V.ref p]))) := TupS.refl.lst (D34.at nDr hD)
        exact Paired.snoc ((hw.keep (D34.tups D2.row)).keep s) (s.wd hp)
      · rw [List.length_append, List.length_singleton, hl]
      · intro w hw
        rcases List.mem_append.mp hw with h | h
        · exact hg w h
        · rw [List.mem_singleton.mp h]; exact hw4.mono (by decide)
      · intro w hw
        rcases List.mem_append.mp hw with h | h
        · exact hE w h
        · rw [List.mem_singleton.mp h]; exact ⟨w3, hw3.flat, he3, hb4⟩
    · rintro H' ⟨as, ws, D5, hD, hw, hl, hg, hE⟩
      refine ⟨D, _, rfl, SqL.of hD, fun H6 p6 S6 n6 h6 => ?_⟩
      have D46 := D5.then S6
      have D6 := D4.trans D46
      have hw6 := hw.keep (.of S6)
      have hm6 := D46.tup D4.row hm4
      clear hD hw D5 S6 S4 n4 h4 n6
      refine ⟨_, rfl, ?_⟩
      refine fun M0 a0 s0 n0 h0 => ?_
      refine fun M1 a1 s1 n1 h1 => ?_
      refine fun M2 a2 s2 n2 h2 => ?_
      refine fun M3 a3 s3 n3 h3 => ?_
      refine ⟨_, rfl, _, _, rfl, rfl, szl 2, NewW.of (fun M4 a4 s4 n4 h4 => ?_) (w := [.l (n - 1), .l 0]) ?_⟩
      rotate_left
      · have en : (n : Int) - 1 = ((n - 1 : Nat) : Int) := by omega
        show [V.int ((n : Int) - 1), V.int 0] = _
        rw [en]; rfl
      refine ⟨szl 5, fun M5 a5 s5 n5 h5 => ?_⟩
      have t5 : Same M5 M5 := Same.refl _
      have t4 : Same M4 M5 := s5.trans t5
      have t3 : Same M3 M5 := s4.trans t4
      have t2 : Same M2 M5 := s3.trans t3
      have t1 : Same M1 M5 := s2.trans t2
      have t0 : Same M0 M5 := s1.trans t1
      have tm : Same H6 M5 := s0.trans t0
      have u := ((((s0.trans s1).trans s2).trans s3).trans s4)
      have Dl := D6.then tm
      refine ⟨r, a5, S, _, rfl, Dl.row, (D6.then u).row.there n5, h5, (show 1 ≤ 5 by decide), (show 5 < 1073741824 by decide), fun H8 kk v D8 hk => ?_⟩
      have tt := D8.tups Dl.row
      obtain ⟨b, st, rfl, hb, hst⟩ : ∃ (b : Addr) (st : List Sy), v = .ref b ∧ WdAt H8 b st ∧ Good n 40 st := by
        match kk, hk with
        | 0, hk => cases hk; exact ⟨a0, [.l 0], rfl, tt.wd (h0.same t0), good_up (good_dec (by decide)) hn1⟩
        | 1, hk => cases hk; exact ⟨a1, [.l 0], rfl, tt.wd (h1.same t1), good_up (good_dec (by decide)) hn1⟩
        | 2, hk => cases hk; exact ⟨a2, [.l 0, .p, .l 0], rfl, tt.wd (h2.same t2), good_up (good_dec (by decide)) hn1⟩
        | 3, hk => cases hk; exact ⟨a3, [.l 0, .p, .l 0, .p, .l 0, .p, .l 0], rfl, tt.wd (h3.same t3), good_up (good_dec (by decide)) hn1⟩
        | 4, hk =>
          cases hk
          exact ⟨a4, [.l (n - 1), .l 0], rfl, tt.wd (h4.same t4), good_start hn1⟩
        | j + 5, hk => simp at hk
      have D08 := Dl.trans D8
      have w8 := (hw6.keep (.of tm)).keep (D8.tups Dl.row)
      have h8 := D8.tup Dl.row (tm _ _ h6)
      have hm8 := D8.tup Dl.row (tm _ _ hm6)
      refine ⟨_, rfl, _, rfl, szl 2, fun H9 p9 S9 n9 h9 => ?_⟩
      refine ⟨_, rfl, szl 2, fun Ha pa Sa na ha => ?_⟩
      subst hl
      exact q Ha pa p9 m ws st mu mv ((D08.then S9).then Sa) ha ⟨p6, b, as, Sa _ _ h9, Sa _ _ (S9 _ _ h8), (hb.same S9).same Sa, (w8.keep (.of S9)).keep (.of Sa)⟩ ⟨hn1, hn3, hg, hst⟩ (Sa _ _ (S9 _ _ hm8)) ⟨hn4, hE⟩ ⟨hm2, hm1⟩
theorem ok_evenbook {f : Addr} {fd : FuncData} {k : Nat} (F : Fun K "_law_even_book" "_law_even_book" s_law_even_book f fd) (GT : Got P w K mg base "_law_taken" k ["row", "many"] (spTaken K)) (GP : Got P w K mg base "_law_pick" k ["row", "things"] (spPick K))
    (GW : Got P w K mg base "_law_even_word" k ["row", "letters", "move"] (spEvenWord K)) (GB : Got P w K mg base "_law_branched" k ["row", "word", "letters"] (spBranched K))
    (mR : mg "range" = none) (mT : mg "tuple" = none) : FnOk P w K mg base CX0 (k + 1) f fd ["row"] (spEvenBook K) :=
  (ok_evenbookE F GT GP GW GB mR mT).imp fun vs H Q E ⟨r, S, e, hR, q⟩ => ⟨r, S, e, hR, fun H' p b m ws st _ _ D h1 h2 h3 _ _ _ => q H' p b m ws st D h1 h2 h3⟩
end
end SK
namespace SK
open PySem PySem.Spec PyProof.Rows L2
/-! ### a list or a tuple walked -/
def Sq (K : PySem.W.Frag) (H : Hp) (a : Addr) (xs : List V) : Prop := SqL K H a xs ∨ SqT K H a xs
theorem Sq.same {K : PySem.W.Frag} {H H' : Hp} {a : Addr} {xs : List V} (h : Sq K H a xs) (s : Same H H') : Sq K H' a xs := h.elim (fun h => .inl (s.seq h)) fun h => .inr (sTup s h)
def iSeq (K : PySem.W.Frag) (i : Nat) : TI := fun σ H R => ∃ a, σ[i]? = some (some (.ref a)) ∧ (((∃ xs, SqL K H a xs) ∧ R (Itl K a) H) ∨ ((∃ xs, SqT K H a xs) ∧ R (Itt K a) H))
theorem pi_seq {X : Cx} {tg l : Expr} {i : Nat} (hl : PE X l (tVar i)) : PI X tg l (iSeq X.K i) := by
  refine ⟨fun pins s σ H R I ⟨a, e, q⟩ => ?_⟩
  rcases q with ⟨hx, q⟩ | ⟨hx, q⟩
  · exact (pi_list hl).run pins s σ H R I ⟨_, e, a, rfl, hx, q⟩
  · exact (pi_tup hl).run pins s σ H R I ⟨_, e, a, rfl, hx, q⟩
/-- the two walks by one invariant -/
theorem for_seq {K : PySem.W.Frag} {a : Addr} {xs : List V} {g : TG} {tb : TS} {D : Ends} {σ : L2.St} {H : Hp} (h : Sq K H a xs) (Pv : Nat → L2.St → Hp → Prop) (h0 : Pv 0 σ H) (hl : ∀ i σ H', i ≤ xs.length → Pv i σ H' → Same H H')
    (hs : ∀ i x σ H, xs[i]? = some x → Pv i σ H → g x σ H fun σ2 H2 => tb { D with nx := Pv (i + 1), ct := Pv (i + 1), bk := D.nx } σ2 H2) (hd : ∀ σ H, Pv xs.length σ H → D.nx σ H) :
    ((∃ xs, SqL K H a xs) ∧ ∃ W : Nat → Nat → L2.St → Hp → Prop, (∃ m, W 0 m σ H) ∧ ∀ i m σ H, W i m σ H → ((Itl K a).stop i H ∧ D.nx σ H) ∨ ((Itl K a).go i H ∧ ∃ N : L2.St → Hp → Prop, (∀ σ' H', N σ' H' → ∃ m', m' < m ∧ W (i + 1) m' σ' H') ∧ ∀ x H', (Itl K a).yld i H x H' → g x σ H' fun σ2 H2 => tb { D with nx := N, ct := N, bk := D.nx } σ2 H2)) ∨
    ((∃ xs, SqT K H a xs) ∧ ∃ W : Nat → Nat → L2.St → Hp → Prop, (∃ m, W 0 m σ H) ∧ ∀ i m σ H, W i m σ H → ((Itt K a).stop i H ∧ D.nx σ H) ∨ ((Itt K a).go i H ∧ ∃ N : L2.St → Hp → Prop, (∀ σ' H', N σ' H' → ∃ m', m' < m ∧ W (i + 1) m' σ' H') ∧ ∀ x H', (Itt K a).yld i H x H' → g x σ H' fun σ2 H2 => tb { D with nx := N, ct := N, bk := D.nx } σ2 H2)) := by
  rcases h with h | h
  · exact .inl ⟨⟨xs, h⟩, for_list (K := K) (a := a) (xs := xs) Pv h0 (fun i σ H' hi p => (hl i σ H' hi p).seq h) hs hd⟩
  · exact .inr ⟨⟨xs, h⟩, for_tup (K := K) (a := a) (xs := xs) Pv h0 (fun i σ H' hi p => sTup (hl i σ H' hi p) h) hs hd⟩
/-! ### isinstance -/
def rIs (K : PySem.W.Frag) (T : String) : List V → Hp → VK → Prop := fun xs H Q => ∃ (x : V) (n : String) (b : Bool), xs = [x, .ty T] ∧ TyX K H x (.type n) ∧ kitB n T = some b ∧ Q (.bl b) H
theorem call_is {X : Cx} (T : String) : CallR X (.builtin "isinstance") (rIs X.K T) := fun pins s σ H xs us Q I r ⟨x, n, b, e, t, k, q⟩ => call_isi pins s σ H xs us Q I r ⟨x, .ty T, .type n, .type T, b, e, .ty T, t, kit_ty k, q⟩
theorem ty_int {K : PySem.W.Frag} {H : Hp} (i : Int) : TyX K H (.int i) (.type "int") := .base (.int i)
theorem ty_str {K : PySem.W.Frag} {H : Hp} (z : Str) : TyX K H (.str z) (.type "str") := .base (.str z)
theorem ty_non {K : PySem.W.Frag} {H : Hp} : TyX K H .non (.type "NoneType") := .base .non
theorem ty_bl {K : PySem.W.Frag} {H : Hp} (b : Bool) : TyX K H (.bl b) (.type "bool") := .base (.bl b)
theorem ty_lst {K : PySem.W.Frag} {H : Hp} {a : Addr} {xs : List V} (h : H a = some (.lst xs)) : TyX K H (.ref a) (.type "list") := .base (.lst h)
theorem ty_tup {K : PySem.W.Frag} {H : Hp} {a : Addr} {xs : List V} (h : H a = some (.tup xs)) : TyX K H (.ref a) (.type "tuple") := .base (.tup h)
theorem ty_sy {K : PySem.W.Frag} {H : Hp} (s : Sy) : ∃ n b, TyX K H s.v (.type n) ∧ kitB n "str" = some b ∧ b = !isL s := by
  cases s with
  | l k => exact ⟨_, _, ty_int _, (by decide +kernel : kitB "int" "str" = some false), rfl⟩
  | p => exact ⟨_, _, ty_str _, (by decide +kernel : kitB "str" "str" = some true), rfl⟩
  | m => exact ⟨_, _, ty_str _, (by decide +kernel : kitB "str" "str" = some true), rfl⟩
  | o => exact ⟨_, _, ty_str _, (by decide +kernel : kitB "str" "str" = some true), rfl⟩
  | c => exact ⟨_, _, ty_str _, (by decide +kernel : kitB "str" "str" = some true), rfl⟩
section
variable {X : Cx}
/-- isinstance(e, T), T a built-in type by its name -/
theorem pis {e : Expr} {te : TE} {p p2 pos : Pos} {x : Str} (T : String) (hv : bootBuiltins x = some (.type T)) (mI : X.mg "isinstance" = none) (mT : X.mg x = none) (h : PE X e te) (hg : Gl X "isinstance" := by rfl) (hgx : Gl X x := by rfl) (hn : x ≠ "__name__" := by decide) (hdb : (x == ("__debug__" : Str)) = false := by decide)
    (hs2 : starEach [.Name x p2] X.env = (false, eval (.Name x p2) X.env) :: starEach [] X.env := by rfl) (hs1 : starEach [e, .Name x p2] X.env = (false, eval e X.env) :: starEach [.Name x p2] X.env := by rfl) (hp1 : (backTo pos (starEach [.Name x p2] X.env)).any (·.1) = false := by rfl) :
    PE X (.Call (.Name "isinstance" p) [e, .Name x p2] [] pos) (tCB (rIs X.K T) (tCons te (tCons (tC (.ty T)) tNil))) :=
  pe_callB (call_is T) hg mI (by decide +kernel) (pa_cons h (pa_cons (pe_bltn (v := .ty T) hgx mT hv rfl hn hdb) pa_nil hs2) hs1) (by decide) (by decide) hs1 hp1
/-- not isinstance(part, str) of a sign -/
def tSyTest (te : TE) : TT := fun σ H Q => te σ H fun x H1 => ∃ s : Sy, x = s.v ∧ Q (isL s) H1
theorem ptNotStr {e : Expr} {te : TE} {p p2 pos pos2 : Pos} (mI : X.mg "isinstance" = none) (mS : X.mg "str" = none) (h : PE X e te) (hg : Gl X "isinstance" := by rfl) (hgx : Gl X "str" := by rfl)
    (hs2 : starEach [.Name "str" p2] X.env = (false, eval (.Name "str" p2) X.env) :: starEach [] X.env := by rfl) (hs1 : starEach [e, .Name "str" p2] X.env = (false, eval e X.env) :: starEach [.Name "str" p2] X.env := by rfl) (hp1 : (backTo pos (starEach [.Name "str" p2] X.env)).any (·.1) = false := by rfl) :
    PT X (.UnaryOp .Not (.Call (.Name "isinstance" p) [e, .Name "str" p2] [] pos) pos2) (fun σ H Q => tCB (rIs X.K "str") (tCons te (tCons (tC (.ty "str")) tNil)) σ H fun x H1 => ∃ k, x = .bl k ∧ Q (!k) H1) := by
  have a := pis (X := X) (p := p) (p2 := p2) (pos := pos) "str" (by decide +kernel) mI mS h hg hgx (by decide) (by decide) hs2 hs1 hp1
  exact pt_not (pt_val a)
end
end SK
namespace SK
open PySem PySem.Spec PyProof.Rows L2
/-! ### growth -/
def img (ws : List (List Sy)) : Sy → List Sy
  | .l k => ws.getD k []
  | s => [s]
def grow (ws : List (List Sy)) (w : List Sy) : List Sy := w.flatMap (img ws)
def grown (ws : List (List Sy)) (st : List Sy) : Nat → List Sy
  | 0 => st
  | n + 1 => grow ws (grown ws st n)
theorem grow_app (ws : List (List Sy)) (a b : List Sy) : grow ws (a ++ b) = grow ws a ++ grow ws b := List.flatMap_append
theorem any_pos {w : List Sy} (h : w.any isL = true) : 1 ≤ w.length := by
  cases w with
  | nil => cases h
  | cons _ _ => simp
theorem img_lets {ws : List (List Sy)} (hg : ∀ w ∈ ws, Good ws.length 40 w) {s : Sy} (hs : ∀ k, s = .l k → k < ws.length) : ∀ k, Sy.l k ∈ img ws s → k < ws.length := by
  intro k hk
  cases s with
  | l j =>
    have hj := hs j rfl
    have e : img ws (.l j) = ws[j] := by
      show ws.getD j [] = ws[j]
      rw [List.getD_eq_getElem?_getD, List.getElem?_eq_getElem hj]; rfl
    rw [e] at hk
    exact (hg _ (List.getElem_mem hj)).lets k hk
  | p => cases List.mem_singleton.mp hk
  | m => cases List.mem_singleton.mp hk
  | o => cases List.mem_singleton.mp hk
  | c => cases List.mem_singleton.mp hk
theorem grow_lets {ws : List (List Sy)} (hg : ∀ w ∈ ws, Good ws.length 40 w) {w : List Sy} (hw : ∀ k, Sy.l k ∈ w → k < ws.length) : ∀ k, Sy.l k ∈ grow ws w → k < ws.length := by
  intro k hk
  obtain ⟨s, hs, h⟩ := List.mem_flatMap.mp hk
  exact img_lets hg (fun j e => hw j (e ▸ hs)) k h
theorem grown_lets {ws : List (List Sy)} {st : List Sy} (h : GoodBook ws st) : ∀ n k, Sy.l k ∈ grown ws st n → k < ws.length
  | 0 => h.start.lets
  | n + 1 => grow_lets h.words (grown_lets h n)
theorem img_pos {ws : List (List Sy)} (hg : ∀ w ∈ ws, Good ws.length 40 w) {s : Sy} (hs : ∀ k, s = .l k → k < ws.length) : 1 ≤ (img ws s).length ∧ (img ws s).length ≤ 40 := by
  cases s with
  | l j =>
    have hj := hs j rfl
    have e : img ws (.l j) = ws[j] := by
      show ws.getD j [] = ws[j]
      rw [List.getD_eq_getElem?_getD, List.getElem?_eq_getElem hj]; rfl
    rw [e]
    have := hg _ (List.getElem_mem hj)
    exact ⟨any_pos this.has, this.len⟩
  | p => exact ⟨Nat.le_refl _, (by decide : 1 ≤ 40)⟩
  | m => exact ⟨Nat.le_refl _, (by decide : 1 ≤ 40)⟩
  | o => exact ⟨Nat.le_refl _, (by decide : 1 ≤ 40)⟩
  | c => exact ⟨Nat.le_refl _, (by decide : 1 ≤ 40)⟩
theorem grow_le {ws : List (List Sy)} (hg : ∀ w ∈ ws, Good ws.length 40 w) : ∀ {w : List Sy}, (∀ k, Sy.l k ∈ w → k < ws.length) → w.length ≤ (grow ws w).length
  | [], _ => Nat.zero_le _
  | s :: w, h => by
    have ih := grow_le hg (w := w) fun k hk => h k (List.mem_cons_of_mem _ hk)
    have h1 := (img_pos hg (s := s) fun k e => h k (e ▸ List.mem_cons_self)).1
    show w.length + 1 ≤ (img ws s ++ grow ws w).length
    rw [List.length_append]
    omega
theorem grown_mono {ws : List (List Sy)} {st : List Sy} (h : GoodBook ws st) : ∀ {m n : Nat}, m ≤ n → (grown ws st m).length ≤ (grown ws st n).length
  | m, 0, e => by rw [Nat.le_zero.mp e]; exact Nat.le_refl _
  | m, n + 1, e => by
    rcases Nat.lt_or_ge n m with q | q
    · have : m = n + 1 := by omega
      rw [this]; exact Nat.le_refl _
    · exact Nat.le_trans (grown_mono h q) (grow_le h.words (grown_lets h n))
/-- a piece of a word grown is no longer than the whole -/
theorem grow_take {ws : List (List Sy)} (w : List Sy) (i : Nat) : (grow ws (w.take i)).length ≤ (grow ws w).length := by
  have e : grow ws w = grow ws (w.take i) ++ grow ws (w.drop i) := by rw [← grow_app, List.take_append_drop]
  rw [e, List.length_append]
  omega
theorem take_more {α : Type} : ∀ {l : List α} {i : Nat} {x : α}, l[i]? = some x → l.take (i + 1) = l.take i ++ [x]
  | [], i, x, h => by simp at h
  | a :: l, 0, x, h => by
    have e : a = x := Option.some.inj h
    subst e
    rfl
  | a :: l, i + 1, x, h => by
    have ih := take_more (l := l) (i := i) (x := x) h
    show a :: l.take (i + 1) = a :: l.take i ++ [x]
    rw [ih]
    rfl
theorem paired_get {α β : Type} {F : α → β → Prop} : ∀ {xs : List α} {ys : List β} {i : Nat} {y : β}, Paired F xs ys → ys[i]? = some y → ∃ x, xs[i]? = some x ∧ F x y
  | _, _, _, _, .nil, e => by simp at e
  | _, _, 0, _, .cons r _, e => by simp at e; subst e; exact ⟨_, rfl, r⟩
  | _, _, i + 1, y, .cons _ t, e => by
    obtain ⟨u, h1, h2⟩ := paired_get (i := i) (y := y) t (by simpa using e)
    exact ⟨u, by simpa using h1, h2⟩
theorem wv_get {w : List Sy} {i : Nat} {x : V} (h : (wv w)[i]? = some x) : ∃ s, w[i]? = some s ∧ x = s.v := by
  rw [List.getElem?_map] at h
  cases e : w[i]? with
  | none => rw [e] at h; cases h
  | some s => rw [e] at h; exact ⟨s, rfl, (Option.some.inj h).symm⟩
end SK
namespace SK
open PySem PySem.Spec PyProof.Rows L2
/-! ### how long words grow -/
theorem img_slim {ws : List (List Sy)} (hg : ∀ w ∈ ws, Good ws.length 40 w) {s : Sy} (hs : ∀ k, s = .l k → k < ws.length) : (img ws s).length + 7 * nL [s] ≤ 8 * nL (img ws s) + 1 := by
  cases s with
  | l j =>
    have hj := hs j rfl
    have e : img ws (.l j) = ws[j] := by
      show ws.getD j [] = ws[j]
      rw [List.getD_eq_getElem?_getD, List.getElem?_eq_getElem hj]; rfl
    rw [e]
    have := (hg _ (List.getElem_mem hj)).slim
    have e1 : nL [Sy.l j] = 1 := rfl
    omega
  | p => exact (by decide : 1 + 7 * 0 ≤ 8 * 0 + 1)
  | m => exact (by decide : 1 + 7 * 0 ≤ 8 * 0 + 1)
  | o => exact (by decide : 1 + 7 * 0 ≤ 8 * 0 + 1)
  | c => exact (by decide : 1 + 7 * 0 ≤ 8 * 0 + 1)
theorem grow_slim {ws : List (List Sy)} (hg : ∀ w ∈ ws, Good ws.length 40 w) : ∀ {w : List Sy}, (∀ k, Sy.l k ∈ w → k < ws.length) → (grow ws w).length + 7 * nL w ≤ 8 * nL (grow ws w) + w.length
  | [], _ => Nat.zero_le _
  | s :: w, h => by
    have ih := grow_slim hg (w := w) fun k hk => h k (List.mem_cons_of_mem _ hk)
    have h1 := img_slim hg (s := s) fun k e => h k (e ▸ List.mem_cons_self)
    have e1 : grow ws (s :: w) = img ws s ++ grow ws w := rfl
    have e2 : nL (s :: w) = nL [s] + nL w := nL_app [s] w
    rw [e1, List.length_append, nL_app, e2, List.length_cons]
    omega
theorem grow_40 {ws : List (List Sy)} (hg : ∀ w ∈ ws, Good ws.length 40 w) : ∀ {w : List Sy}, (∀ k, Sy.l k ∈ w → k < ws.length) → (grow ws w).length ≤ 40 * w.length
  | [], _ => Nat.zero_le _
  | s :: w, h => by
    have ih := grow_40 hg (w := w) fun k hk => h k (List.mem_cons_of_mem _ hk)
    have h1 := (img_pos hg (s := s) fun k e => h k (e ▸ List.mem_cons_self)).2
    have e1 : grow ws (s :: w) = img ws s ++ grow ws w := rfl
    rw [e1, List.length_append, List.length_cons]
    omega
theorem nL_le (w : List Sy) : nL w ≤ w.length := List.length_filter_le _ _
theorem grown_len {ws : List (List Sy)} {st : List Sy} {M : Nat} (h : GoodBook ws st) : ∀ n, (∀ a, a < n → nL (grown ws st a) ≤ M) → (grown ws st n).length ≤ 8 * nL (grown ws st n) + 40 + M * n
  | 0, _ => by have := h.start.len; show st.length ≤ _; omega
  | n + 1, ha => by
    have ih := grown_len h n fun a hl => ha a (by omega)
    have h1 := grow_slim h.words (grown_lets h n)
    have h2 := ha n (by omega)
    show (grow ws (grown ws st n)).length ≤ 8 * nL (grow ws (grown ws st n)) + 40 + M * (n + 1)
    rw [Nat.mul_succ]
    omega
/-- at an age that the law draws -/
def Low (M : Nat) (ws : List (List Sy)) (st : List Sy) (n : Nat) : Prop := n ≤ 8 ∧ ∀ a, a ≤ n → nL (grown ws st a) ≤ M
theorem Low.mono {M : Nat} {ws : List (List Sy)} {st : List Sy} {m n : Nat} (h : Low M ws st n) (l : m ≤ n) : Low M ws st m := ⟨Nat.le_trans l h.1, fun a ha => h.2 a (Nat.le_trans ha l)⟩
theorem Low.len {M : Nat} {ws : List (List Sy)} {st : List Sy} {n : Nat} (g : GoodBook ws st) (h : Low M ws st n) : (grown ws st n).length ≤ 16 * M + 40 := by
  have h1 := grown_len (M := M) g n fun a ha => h.2 a (by omega)
  have h2 := h.2 n (Nat.le_refl _)
  have h3 : M * n ≤ M * 8 := Nat.mul_le_mul_left M h.1
  omega
theorem Low.zero {M : Nat} {ws : List (List Sy)} {st : List Sy} (g : GoodBook ws st) (hM : 40 ≤ M) : Low M ws st 0 := ⟨Nat.zero_le _, fun a ha => by
  have e : a = 0 := by omega
  subst e
  have := nL_le st
  have := g.start.len
  show nL st ≤ M
  omega⟩
/-- the test of the names that stand in the i-th slot -/
def tNotStr (K : PySem.W.Frag) (i : Nat) : TT := fun σ H Q => tCB (rIs K "str") (tCons (tVar i) (tCons (tC (.ty "str")) tNil)) σ H fun x H1 => ∃ k, x = .bl k ∧ Q (!k) H1
end SK
namespace SK
open PySem PySem.Spec PyProof.Rows L2
/-! ### the pen -/
abbrev Stk := Int × Int × Int × Nat
structure Pen where
  x : Int
  y : Int
  h : Int
  st : List (Int × Int × Int)
  out : List Stk
def dir (h : Int) : Int × Int := if h = 0 then (1, 0) else if h = 1 then (0, 1) else if h = 2 then (-1, 0) else (0, -1)
def pstep (p : Pen) : Sy → Pen
  | .o => { p with st := p.st ++ [(p.x, p.y, p.h)] }
  | .c => match p.st.getLast? with
    | some (a, b, c) => { p with x := a, y := b, h := c, st := p.st.dropLast }
    | none => p
  | .p => { p with h := (p.h + 1) % 4 }
  | .m => { p with h := (p.h + 3) % 4 }
  | .l k => { p with out := p.out ++ [(p.x, p.y, p.h, k)], x := p.x + (dir p.h).1, y := p.y + (dir p.h).2 }
def pen (w : List Sy) : Pen := w.foldl pstep ⟨0, 0, 0, [], []⟩
def strokes (w : List Sy) : List Stk := (pen w).out
theorem pen_snoc (v : List Sy) (s : Sy) : pen (v ++ [s]) = pstep (pen v) s := by
  unfold pen
  rw [List.foldl_append]
  rfl
structure PenOk (v : List Sy) : Prop where
  nst : nest v 0 = some (pen v).st.length
  h : 0 ≤ (pen v).h ∧ (pen v).h < 4
  st : ∀ q ∈ (pen v).st, 0 ≤ q.2.2 ∧ q.2.2 < 4
  out : ∀ q ∈ (pen v).out, 0 ≤ q.2.2.1 ∧ q.2.2.1 < 4
  len : (pen v).out.length ≤ v.length ∧ (pen v).st.length ≤ v.length
theorem penOk_nil : PenOk [] := ⟨rfl, ⟨by decide, by decide⟩, (fun q h => nomatch h), (fun q h => nomatch h), ⟨Nat.le_refl _, Nat.le_refl _⟩⟩
theorem penOk_snoc {v : List Sy} {s : Sy} (p : PenOk v) (h : nest (v ++ [s]) 0 ≠ none) : PenOk (v ++ [s]) := by
  rw [nest_app, p.nst] at h
  have e : nest (v ++ [s]) 0 = nest [s] (pen v).st.length := by rw [nest_app, p.nst]; rfl
  have hl : (v ++ [s]).length = v.length + 1 := by simp
  cases s with
  | o =>
    refine ⟨?_, ?_, ?_, ?_, ?_⟩
    · rw [e, pen_snoc]
      show some ((pen v).st.length + 1) = some ((pen v).st ++ [_]).length
      rw [List.length_append]; rfl
    · rw [pen_snoc]; exact p.h
    · rw [pen_snoc]
      intro q hq
      rcases List.mem_append.mp hq with h | h
      · exact p.st q h
      · rw [List.mem_singleton.mp h]; exact p.h
    · rw [pen_snoc]; exact p.out
    · rw [pen_snoc, hl]
      have := p.len
      exact ⟨Nat.le_succ_of_le this.1, by show ((pen v).st ++ [_]).length ≤ _; rw [List.length_append, List.length_singleton]; omega⟩
  | c =>
    cases hs : (pen v).st.getLast? with
    | none =>
      rw [List.getLast?_eq_none_iff] at hs
      rw [hs] at h
      exact absurd rfl h
    | some t =>
      obtain ⟨a, b, c⟩ := t
      have e2 : pstep (pen v) .c = { pen v with x := a, y := b, h := c, st := (pen v).st.dropLast } := by
        show (match (pen v).st.getLast? with
          | some (a, b, c) => { pen v with x := a, y := b, h := c, st := (pen v).st.dropLast }
          | none => pen v) = _
        rw [hs]
      have hm : (a, b, c) ∈ (pen v).st := List.mem_of_getLast? hs
      have hne : (pen v).st ≠ [] := fun z => by rw [z] at hm; cases hm
      have hpos : 1 ≤ (pen v).st.length := List.length_pos_iff.mpr hne
      refine ⟨?_, ?_, ?_, ?_, ?_⟩
      · rw [e, pen_snoc, e2]
        show nest [.c] (pen v).st.length = some (pen v).st.dropLast.length
        rw [List.length_dropLast]
        obtain ⟨d, hd⟩ : ∃ d, (pen v).st.length = d + 1 := ⟨_, (Nat.sub_add_cancel hpos).symm⟩
        rw [hd]
        rfl
      · rw [pen_snoc, e2]; exact p.st _ hm
      · rw [pen_snoc, e2]; intro q hq; exact p.st q (List.dropLast_subset _ hq)
      · rw [pen_snoc, e2]; exact p.out
      · rw [pen_snoc, e2, hl]
        have := p.len
        exact ⟨Nat.le_succ_of_le this.1, by show (pen v).st.dropLast.length ≤ _; rw [List.length_dropLast]; omega⟩
  | p =>
    refine ⟨by rw [e, pen_snoc]; rfl, ?_, ?_, ?_, ?_⟩
    · rw [pen_snoc]; exact ⟨by show 0 ≤ ((pen v).h + 1) % 4; omega, by show ((pen v).h + 1) % 4 < 4; omega⟩
    · rw [pen_snoc]; exact p.st
    · rw [pen_snoc]; exact p.out
    · rw [pen_snoc, hl]; exact ⟨Nat.le_succ_of_le p.len.1, Nat.le_succ_of_le p.len.2⟩
  | m =>
    refine ⟨by rw [e, pen_snoc]; rfl, ?_, ?_, ?_, ?_⟩
    · rw [pen_snoc]; exact ⟨by show 0 ≤ ((pen v).h + 3) % 4; omega, by show ((pen v).h + 3) % 4 < 4; omega⟩
    · rw [pen_snoc]; exact p.st
    · rw [pen_snoc]; exact p.out
    · rw [pen_snoc, hl]; exact ⟨Nat.le_succ_of_le p.len.1, Nat.le_succ_of_le p.len.2⟩
  | l k =>
    refine ⟨by rw [e, pen_snoc]; rfl, ?_, ?_, ?_, ?_⟩
    · rw [pen_snoc]; exact p.h
    · rw [pen_snoc]; exact p.st
    · rw [pen_snoc]
      intro q hq
      rcases List.mem_append.mp (show q ∈ (pen v).out ++ [_] from hq) with h | h
      · exact p.out q h
      · rw [List.mem_singleton.mp h]; exact p.h
    · rw [pen_snoc, hl]
      exact ⟨by show ((pen v).out ++ [_]).length ≤ _; rw [List.length_append, List.length_singleton]; have := p.len.1; omega, Nat.le_succ_of_le p.len.2⟩
/-- a piece of a word whose branches end -/
theorem nest_take {w : List Sy} (h : nest w 0 ≠ none) (i : Nat) : nest (w.take i) 0 ≠ none := by
  intro z
  apply h
  rw [← List.take_append_drop i w, nest_app, z]
  rfl
theorem penOk_take {w : List Sy} (h : nest w 0 ≠ none) : ∀ i, i ≤ w.length → PenOk (w.take i)
  | 0, _ => penOk_nil
  | i + 1, hi => by
    have e : w[i]? = some w[i] := List.getElem?_eq_getElem (by omega)
    rw [take_more e]
    exact penOk_snoc (penOk_take h i (by omega)) (by rw [← take_more e]; exact nest_take h (i + 1))
theorem pen_take {w : List Sy} {i : Nat} {s : Sy} (h : w[i]? = some s) : pen (w.take (i + 1)) = pstep (pen (w.take i)) s := by rw [take_more h, pen_snoc]
/-! ### strokes in the heap -/
def stV (s : Stk) : List V := [.int s.1, .int s.2.1, .int s.2.2.1, .int s.2.2.2]
def plV (q : Int × Int × Int) : List V := [.int q.1, .int q.2.1, .int q.2.2]
def Strs (H : Hp) (as : List Addr) (ss : List Stk) : Prop := Paired (fun a s => H a = some (.tup (stV s))) as ss
def Pls (H : Hp) (as : List Addr) (ss : List (Int × Int × Int)) : Prop := Paired (fun a s => H a = some (.tup (plV s))) as ss
theorem Strs.keep {H H' : Hp} {as : List Addr} {ss : List Stk} (s : TupS H H') (h : Strs H as ss) : Strs H' as ss := Paired.mono (fun a w e => s.1 a _ e) h
theorem Pls.keep {H H' : Hp} {as : List Addr} {ss : List (Int × Int × Int)} (s : TupS H H') (h : Pls H as ss) : Pls H' as ss := Paired.mono (fun a w e => s.1 a _ e) h
theorem paired_last {α β : Type} {F : α → β → Prop} : ∀ {xs : List α} {ys : List β} {y : β}, Paired F xs ys → ys.getLast? = some y → ∃ x, xs.getLast? = some x ∧ F x y ∧ Paired F xs.dropLast ys.dropLast
  | _, _, _, .nil, h => by simp at h
  | _, _, y, .cons r .nil, h => by simp at h; subst h; exact ⟨_, rfl, r, .nil⟩
  | _, _, y, .cons r (.cons (a := a2) (b := b2) (l₁ := l1) (l₂ := l2) r2 t), h => by
    have h' : (b2 :: l2).getLast? = some y := by rw [List.getLast?_cons_cons] at h; exact h
    obtain ⟨x, h1, h2, h3⟩ := paired_last (.cons r2 t) h'
    exact ⟨x, by rw [List.getLast?_cons_cons]; exact h1, h2, .cons r h3⟩
theorem itN {c A B : Prop} [Decidable c] (hc : ¬ c) (h : B) : if decide c = true then A else B := by
  rw [decide_eq_false hc]
  exact iteF h
theorem itY {c A B : Prop} [Decidable c] (hc : c) (h : A) : if decide c = true then A else B := by
  rw [decide_eq_true hc]
  exact iteT h
end SK
namespace SK
open PySem PySem.Spec PyProof.Rows L2
/-! ### alike: the same data, at most n deep -/
def flatA : V → Bool
  | .non => true
  | .int _ => true
  | .bl _ => true
  | .str _ => true
  | _ => false
theorem rd_same {H H' : Hp} {a : Addr} {u : HO} (s : Same H H') (h : Rd H a u) : Rd H' a u := h.imp (s _ _) (fun ⟨o, e⟩ => ⟨o, s _ _ e⟩)
theorem ty_rd {K : PySem.W.Frag} {H : Hp} {a : Addr} {xs : List V} (h : Rd H a (.tup xs)) : TyX K H (.ref a) (.type "tuple") := by
  rcases h with h | ⟨o, h⟩
  · exact ty_tup h
  · exact .fTuple h
def Alk (H : Hp) : Nat → V → V → Prop
  | 0, v, u => v = u ∧ flatA v = true
  | n + 1, v, u => (v = u ∧ flatA v = true) ∨ ∃ (a b : Addr) (xs ys : List V), v = .ref a ∧ u = .ref b ∧ ((Rd H a (.tup xs) ∧ Rd H b (.tup ys)) ∨ (H a = some (.lst xs) ∧ H b = some (.lst ys))) ∧ xs.length = ys.length ∧ xs.length ≤ 10000000 ∧
      ∀ (i : Nat) (x y : V), xs[i]? = some x → ys[i]? = some y → Alk H n x y
theorem Alk.same {H H' : Hp} (s : Same H H') : ∀ {n : Nat} {v u : V}, Alk H n v u → Alk H' n v u
  | 0, _, _, h => h
  | n + 1, _, _, .inl h => .inl h
  | n + 1, _, _, .inr ⟨a, b, xs, ys, e1, e2, h, hl, hz, hi⟩ => .inr ⟨a, b, xs, ys, e1, e2, h.imp (fun z => ⟨rd_same s z.1, rd_same s z.2⟩) (fun z => ⟨s _ _ z.1, s _ _ z.2⟩), hl, hz, fun i x y h1 h2 => Alk.same s (hi i x y h1 h2)⟩
theorem Alk.up {H : Hp} : ∀ {n : Nat} {v u : V}, Alk H n v u → Alk H (n + 1) v u
  | 0, _, _, h => .inl h
  | n + 1, _, _, .inl h => .inl h
  | n + 1, _, _, .inr ⟨a, b, xs, ys, e1, e2, h, hl, hz, hi⟩ => .inr ⟨a, b, xs, ys, e1, e2, h, hl, hz, fun i x y h1 h2 => Alk.up (hi i x y h1 h2)⟩
def spAlike (n : Nat) : Sp := fun vs H Q _ => ∃ (v u : V), vs = [v, u] ∧ Alk H n v u ∧ ∀ H', Same H H' → Q (.bl true) H'
/-- isinstance(e, (tuple, list)) -/
def tIsTL (K : PySem.W.Frag) (i : Nat) : TE := fun σ H Q => ∃ (x : V) (n : String) (b1 b2 : Bool), σ[i]? = some (some x) ∧ (∀ H2, Same H H2 → TyX K H2 x (.type n)) ∧ kitB n "tuple" = some b1 ∧ kitB n "list" = some b2 ∧ ∀ H2, Same H H2 → Q (.bl (b1 || b2)) H2
theorem kit2 {K : PySem.W.Frag} {n : String} {b1 b2 : Bool} (h1 : kitB n "tuple" = some b1) (h2 : kitB n "list" = some b2) : PySem.W.kitAny K (.type n) [.type "tuple", .type "list"] = some (b1 || b2) := by
  refine kitAny_cons (kit_ty h1) (fun e => ?_) (fun e => by rw [e]; rfl)
  subst e
  refine kitAny_cons (kit_ty h2) (fun e => ?_) (fun e => by rw [e]; rfl)
  subst e
  rfl
section
variable {X : Cx}
theorem pisTL {i : Nat} {e : Expr} {p p2 p3 p4 pos : Pos} {j : Nat} (mI : X.mg "isinstance" = none) (mT : X.mg "tuple" = none) (mL : X.mg "list" = none) (h : PE X e (tVar i)) (hg : Gl X "isinstance" := by rfl) (hgt : Gl X "tuple" := by rfl) (hgl : Gl X "list" := by rfl)
    (ha1 : starEach [.Name "list" p3] X.env = (false, eval (.Name "list" p3) X.env) :: starEach [] X.env := by rfl) (ha2 : starEach [.Name "tuple" p2, .Name "list" p3] X.env = (false, eval (.Name "tuple" p2) X.env) :: starEach [.Name "list" p3] X.env := by rfl)
    (hs2 : starEach [.Tuple [.Name "tuple" p2, .Name "list" p3] j p4] X.env = (false, eval (.Tuple [.Name "tuple" p2, .Name "list" p3] j p4) X.env) :: starEach [] X.env := by rfl)
    (hs1 : starEach [e, .Tuple [.Name "tuple" p2, .Name "list" p3] j p4] X.env = (false, eval e X.env) :: starEach [.Tuple [.Name "tuple" p2, .Name "list" p3] j p4] X.env := by rfl)
    (hp1 : (backTo pos (starEach [.Tuple [.Name "tuple" p2, .Name "list" p3] j p4] X.env)).any (·.1) = false := by rfl) :
    PE X (.Call (.Name "isinstance" p) [e, .Tuple [.Name "tuple" p2, .Name "list" p3] j p4] [] pos) (tIsTL X.K i) := by
  refine pimp _ (pe_callB call_isiT hg mI (by decide +kernel) (pa_cons h (pa_cons (ptupN (pa_cons (pe_bltn (v := .ty "tuple") hgt mT (by decide +kernel) rfl (by decide) (by decide)) (pa_cons (pe_bltn (v := .ty "list") hgl mL (by decide +kernel) rfl (by decide) (by decide)) pa_nil ha1) ha2)) pa_nil hs2) hs1) (by decide) (by decide) hs1 hp1) ?_
  rintro σ H Q ⟨x, n, b1, b2, e, ht, k1, k2, q⟩
  exact ⟨x, e, szl 2, fun H2 tp s2 n2 h2 => ⟨x, tp, [.ty "tuple", .ty "list"], _, [.type "tuple", .type "list"], _, rfl, h2, .cons (.ty _) (.cons (.ty _) .nil), ht H2 s2, kit2 k1 k2, q H2 s2⟩⟩
end
/-- the kind of a flat value -/
theorem flat_ty {K : PySem.W.Frag} {v : V} (h : flatA v = true) : ∃ n cb, (∀ H, TyX K H v (.type n)) ∧ kitB n "tuple" = some false ∧ kitB n "list" = some false ∧ kitB n "bool" = some cb ∧
    ((v = .non ∧ kitB n "str" = some false) ∨ (∃ z, v = .str z ∧ kitB n "str" = some true) ∨ ((∃ i, v = .int i ∧ kitB n "str" = some false ∧ kitB n "int" = some true) ∨ ∃ b, v = .bl b ∧ kitB n "str" = some false ∧ kitB n "int" = some true)) := by
  cases v with
  | non => exact ⟨"NoneType", false, fun H => ty_non, by decide +kernel, by decide +kernel, by decide +kernel, .inl ⟨rfl, by decide +kernel⟩⟩
  | int i => exact ⟨"int", false, fun H => ty_int i, by decide +kernel, by decide +kernel, by decide +kernel, .inr (.inr (.inl ⟨i, rfl, by decide +kernel, by decide +kernel⟩))⟩
  | str z => exact ⟨"str", false, fun H => ty_str z, by decide +kernel, by decide +kernel, by decide +kernel, .inr (.inl ⟨z, rfl, by decide +kernel⟩)⟩
  | bl b => exact ⟨"bool", true, fun H => ty_bl b, by decide +kernel, by decide +kernel, by decide +kernel, .inr (.inr (.inr ⟨b, rfl, by decide +kernel, by decide +kernel⟩))⟩
  | byt b => cases h
  | flt b => cases h
  | ref a => cases h
  | ty n => cases h
section
variable {P : Program} {w : World} {K : PySem.W.Frag} {mg : Str → Option Value} {base : Heap}
structure AlkG (mg : Str → Option Value) : Prop where
  mI : mg "isinstance" = none
  mT : mg "tuple" = none
  mL : mg "list" = none
  mS : mg "str" = none
  mi : mg "int" = none
  mB : mg "bool" = none
  ml : mg "len" = none
  mR : mg "range" = none
/-- the flat values' way: behind the first test -/
def tFlatWay : TS := fun D σ H => ∃ (v : V) (y2 : Option V), σ = [some v, some v, y2] ∧ flatA v = true ∧ D.rt (.bl true) H
theorem pssimp {X : Cx} {sts : List Stmt} {t : TS} (t' : TS) (h : PSs X sts t) (f : ∀ D σ H, t' D σ H → t D σ H) : PSs X sts t' := ⟨fun pins s σ H D I q => h.run pins s σ H D I (f D σ H q)⟩
def tAlkTest (K : PySem.W.Frag) (m : Nat) : TT := fun σ H Q => tCall (spAlike m) [] E0 (tCons (tOp (rIx K) (tVar 0) (tVar 2)) (tCons (tOp (rIx K) (tVar 1) (tVar 2)) tNil)) σ H fun x H1 => ∃ k, x = .bl k ∧ Q (!k) H1
end
end SK
namespace SK
open PySem PySem.Spec PyProof.Rows L2
section
variable {P : Program} {w : World} {K : PySem.W.Frag} {mg : Str → Option Value} {base : Heap}
theorem ok_alike (n : Nat) {f : Addr} {fd : FuncData} {k : Nat} (F : Fun K "_law_alike" "_law_alike" s_law_alike f fd) (g : AlkG mg) (G : ∀ m, n = m + 1 → Got P w K mg base "_law_alike" k ["found", "due"] (spAlike m)) : FnOk P w K mg base CX0 (k + 1) f fd ["found", "due"] (spAlike n) := by
  refine F.ok sc_law_alike (fun vs H Q E h => ?_) (fun cdv A outer s H vs Q E hr h => ?_)
  · obtain ⟨v, u, rfl, _⟩ := h
    rfl
  · obtain ⟨v, u, rfl, hA, q⟩ := h
    have nd := sc_law_alike.nd
    obtain ⟨mI, mT, mL, mS, mi, mB, ml, mR⟩ := g
    have tail : PSs (cxOf CX0 P w K mg base n_law_alike "_law_alike" (defScope s_law_alike) f cdv A outer s H E).nox ((defBody s_law_alike).drop 1) tFlatWay := by
      refine pssimp _ (pss_cons (ps_if (PW.pt (pw_or (pt_cmpR op_isN (pv 1) pe_non (nomark _)) (pw_or1 (pt_val (pis "str" (by decide +kernel) mI mS (pv 1))))))
          (pss_one (ps_ret (pe_and (pe_cmpR op_eq (pv 0) (pv 1) (nomark _)) (pe_one (pe_cmpR op_eq (pis "str" (by decide +kernel) mI mS (pv 0)) (pis "str" (by decide +kernel) mI mS (pv 1)) (nomark _)))))) pss_nil)
        (pss_one (ps_ret (pe_and (pis "int" (by decide +kernel) mI mi (pv 0)) (pe_and (pe_cmpR op_eq (pis "bool" (by decide +kernel) mI mB (pv 0)) (pis "bool" (by decide +kernel) mI mB (pv 1)) (nomark _)) (pe_one (pe_cmpR op_eq (pv 0) (pv 1) (nomark _)))))))) ?_
      rintro D σ H ⟨v, y2, rfl, hv, q⟩
      obtain ⟨n, cb, ht, k1, k2, k3, hk⟩ := flat_ty (K := K) hv
      have ht' := ht H
      rcases hk with ⟨rfl, k4⟩ | ⟨z, rfl, k4⟩ | ⟨i, rfl, k4, k5⟩ | ⟨i, rfl, k4, k5⟩
      · refine ⟨_, rfl, rfl, _, rfl, itY rfl ?_⟩
        refine ⟨_, rfl, _, rfl, rfl, _, rfl, itY rfl ?_⟩
        refine ⟨_, rfl, _, n, _, rfl, ht', k4, _, rfl, _, n, _, rfl, ht', k4, rfl, ?_⟩
        exact q
      · refine ⟨_, rfl, rfl, _, rfl, itN (fun z => nomatch z) ?_⟩
        refine ⟨_, rfl, _, n, _, rfl, ht', k4, _, rfl, iteT ?_⟩
        refine ⟨_, rfl, _, rfl, rfl, _, rfl, itY rfl ?_⟩
        refine ⟨_, rfl, _, n, _, rfl, ht', k4, _, rfl, _, n, _, rfl, ht', k4, rfl, ?_⟩
        exact q
      · refine ⟨_, rfl, rfl, _, rfl, itN (fun z => nomatch z) ?_⟩
        refine ⟨_, rfl, _, n, _, rfl, ht', k4, _, rfl, iteF ?_⟩
        refine ⟨_, rfl, _, n, _, rfl, ht', k5, _, rfl, iteT ?_⟩
        refine ⟨_, rfl, _, n, _, rfl, ht', k3, _, rfl, _, n, _, rfl, ht', k3, rfl, _, rfl, itY rfl ?_⟩
        refine ⟨_, rfl, _, rfl, rfl, ?_⟩
        rw [decide_eq_true (rfl : V.int i = V.int i)]
        exact q
      · refine ⟨_, rfl, rfl, _, rfl, itN (fun z => nomatch z) ?_⟩
        refine ⟨_, rfl, _, n, _, rfl, ht', k4, _, rfl, iteF ?_⟩
        refine ⟨_, rfl, _, n, _, rfl, ht', k5, _, rfl, iteT ?_⟩
        refine ⟨_, rfl, _, n, _, rfl, ht', k3, _, rfl, _, n, _, rfl, ht', k3, rfl, _, rfl, itY rfl ?_⟩
        refine ⟨_, rfl, _, rfl, rfl, ?_⟩
        rw [decide_eq_true (rfl : V.bl i = V.bl i)]
        exact q
    have flat : ∀ (y2 : Option V) (H2 : Hp), Same H H2 → v = u → flatA v = true → tFlatWay { nx := fun _ H' => Q .non H', rt := Q } [some v, some u, y2] H2 := fun y2 H2 S e hv => by
      subst e
      exact ⟨v, y2, rfl, hv, q H2 S⟩
    cases n with
    | zero =>
      refine ⟨_, pss_cons (ps_if (pt_val (pisTL mI mT mL (pv 1))) pss_never pss_nil) tail, ?_⟩
      obtain ⟨rfl, hv⟩ := hA
      obtain ⟨n, _, ht, k1, k2, _⟩ := flat_ty (K := K) hv
      exact ⟨v, n, _, _, rfl, fun H2 _ => ht H2, k1, k2, fun H2 S2 => ⟨_, rfl, iteF (flat none H2 S2 rfl hv)⟩⟩
    | succ m =>
      have GA := G m rfl
      refine ⟨_, pss_cons (ps_if (pt_val (pisTL mI mT mL (pv 1)))
          (pss_cons (ps_if (PW.pt (pw_or (pt_not (pt_val (pisTL mI mT mL (pv 0)))) (pw_or1 (pt_cmpR op_ne (pis "list" (by decide +kernel) mI mL (pv 0)) (pis "list" (by decide +kernel) mI mL (pv 1)) (nomark _))))) pss_never pss_nil)
          (pss_cons (ps_if (pt_cmpR op_ne (plen ml (pv 0)) (plen ml (pv 1)) (nomark _)) pss_never pss_nil)
          (pss_one (ps_ret (pe_cmpR (op_eqD hr.units) (pe_lc (own := [("k", 2)]) (g := gName 2) (tt := tAlkTest K m)
              rfl nd (pi_range1 rfl mR (pa_cons (plen ml (pv 1)) pa_nil)) (blkOk_by (N := n_law_alike) (sc := defScope s_law_alike) (by decide +kernel)) (fun _ _ _ _ _ => pg_name (i := 2) nd rfl (Or.inl rfl))
              (fun _ _ _ _ _ => pts_one (pt_not (pt_val (pcall GA hr (pa_cons (pe_ix ix_seq (pv 0) (pv 2) (fun _ _ => rfl)) (pa_cons (pe_ix ix_seq (pv 1) (pv 2) (fun _ _ => rfl)) pa_nil)))))) (fun _ _ _ _ _ => pv 2)) (plstN pa_nil) (nomark _)))))) pss_nil) tail, ?_⟩
      rcases hA with ⟨rfl, hv⟩ | ⟨a, b, xs, ys, rfl, rfl, hh, hl, hz, hi⟩
      · obtain ⟨n, _, ht, k1, k2, _⟩ := flat_ty (K := K) hv
        exact ⟨v, n, _, _, rfl, fun H2 _ => ht H2, k1, k2, fun H2 S2 => ⟨_, rfl, iteF (flat none H2 S2 rfl hv)⟩⟩
      · have key : ∃ (n : String) (b1 b2 : Bool), (∀ H2, Same H H2 → TyX K H2 (.ref a) (.type n)) ∧ (∀ H2, Same H H2 → TyX K H2 (.ref b) (.type n)) ∧ kitB n "tuple" = some b1 ∧ kitB n "list" = some b2 ∧ (b1 || b2) = true ∧
            (∀ H2, Same H H2 → (SqL K H2 a xs ∨ SqT K H2 a xs) ∧ (SqL K H2 b ys ∨ SqT K H2 b ys)) := by
          rcases hh with ⟨ha, hb⟩ | ⟨ha, hb⟩
          · exact ⟨"tuple", true, false, fun H2 S => ty_rd (rd_same S ha), fun H2 S => ty_rd (rd_same S hb), by decide +kernel, by decide +kernel, rfl, fun H2 S => ⟨.inr (.inl (rd_same S ha)), .inr (.inl (rd_same S hb))⟩⟩
          · exact ⟨"list", false, true, fun H2 S => ty_lst (S _ _ ha), fun H2 S => ty_lst (S _ _ hb), by decide +kernel, by decide +kernel, rfl, fun H2 S => ⟨.inl (SqL.of (S _ _ ha)), .inl (SqL.of (S _ _ hb))⟩⟩
        obtain ⟨n, b1, b2, ta, tb, k1, k2, kk, sq⟩ := key
        refine ⟨_, n, b1, b2, rfl, tb, k1, k2, fun H2 S2 => ⟨_, rfl, ?_⟩⟩
        rw [kk]
        refine iteT ⟨_, n, b1, b2, rfl, fun H3 S3 => ta H3 (S2.trans S3), k1, k2, fun H3 S3 => ⟨_, rfl, ?_⟩⟩
        rw [kk]
        have S03 := S2.trans S3
        refine iteF ⟨_, rfl, _, n, b2, rfl, ta H3 S03, k2, _, rfl, _, n, b2, rfl, tb H3 S03, k2, rfl, _, rfl, ?_⟩
        rw [decide_eq_true (rfl : V.bl b2 = V.bl b2)]
        refine iteF ⟨_, rfl, a, xs, rfl, (sq H3 S03).1, _, rfl, b, ys, rfl, (sq H3 S03).2, rfl, _, rfl, ?_⟩
        rw [hl, decide_eq_true (rfl : V.int (ys.length : Int) = V.int (ys.length : Int))]
        refine iteF ⟨_, rfl, b, ys, rfl, (sq H3 S03).2, (ys.length : Int), rfl, by omega, by omega, fun D nD => ?_⟩
        rw [Int.toNat_natCast]
        refine lc_range (lo := 0) (n := ys.length) (fun i H' => Same H3 H' ∧ H' D = some (.lst [])) ⟨same_upd nD, upd_same⟩ ?_ ?_
        · rintro i H4 hlt ⟨S4, hD⟩
          have S04 := S03.trans S4
          have gx : xs[i]? = some xs[i] := List.getElem?_eq_getElem (by omega)
          have gy : ys[i]? = some ys[i] := List.getElem?_eq_getElem hlt
          have e0 : (0 : Int) + (i : Int) = (i : Int) := by omega
          have ix : ∀ (c : Addr) (zs : List V) (z : V) (Q' : VK), (SqL K H4 c zs ∨ SqT K H4 c zs) → zs[i]? = some z → Q' z H4 → rIx K (.ref c) (.int (0 + (i : Int))) H4 Q' := by
            intro c zs z Q' hc hg hq
            rw [e0]
            rcases hc with hc | hc
            · exact .inl ⟨c, zs, _, z, rfl, rfl, hc, atI_nat hg, hq⟩
            · exact .inr (.inl ⟨c, zs, _, z, rfl, rfl, hc, atI_nat hg, hq⟩)
          refine ⟨rfl, _, rfl, _, rfl, ix a xs _ _ (sq H4 S04).1 gx ⟨_, rfl, _, rfl, ix b ys _ _ (sq H4 S04).2 gy ⟨xs[i], ys[i], rfl, Alk.same S04 (hi i _ _ gx gy), fun H5 S5 => ⟨true, rfl, iteF ⟨S4.trans S5, S5 _ _ hD⟩⟩⟩⟩⟩
        · rintro H4 ⟨S4, hD⟩
          refine ⟨szl 0, fun H5 p5 S5 n5 h5 => ⟨.list [], .list [], .lst (SqL.of (S5 _ _ hD)) .nil, .lst (SqL.of h5) .nil, shaped_ints [], shaped_ints [], ?_⟩⟩
          have e : PyData.eqv (.list []) (.list []) = true := by simp [PyData.eqv, PyData.eqvAll]
          rw [e]
          exact q H5 ((S03.trans S4).trans S5)
end
end SK
namespace SK
open PySem PySem.Spec PyProof.Rows L2
def spGrown (K : PySem.W.Frag) : Sp := fun vs H Q _ => ∃ (b : Addr) (n : Nat) (ws : List (List Sy)) (st : List Sy), vs = [.ref b, .int n] ∧ BookAt H b ws st ∧ GoodBook ws st ∧ n ≤ 1000 ∧ (grown ws st n).length ≤ 4000000 ∧
  New (.lst (wv (grown ws st n))) H Q
/-- what one sign is replaced by: its word's items in a new list, or itself alone -/
def tImg (ws : List (List Sy)) (st : List Sy) : TE := fun σ H Q => ∃ (b : Addr) (s : Sy), σ[0]? = some (some (.ref b)) ∧ σ[5]? = some (some s.v) ∧ BookAt H b ws st ∧ (∀ k, s = .l k → k < ws.length) ∧ New (.lst (wv (img ws s))) H Q
section
variable {P : Program} {w : World} {K : PySem.W.Frag} {mg : Str → Option Value} {base : Heap}
theorem ok_grown {f : Addr} {fd : FuncData} {k : Nat} (F : Fun K "_law_grown" "_law_grown" s_law_grown f fd) (mR : mg "range" = none) (mL : mg "list" = none) (mI : mg "isinstance" = none) (mS : mg "str" = none) :
    FnOk P w K mg base CX0 (k + 1) f fd ["book", "age"] (spGrown K) := by
  refine F.ok sc_law_grown (fun vs H Q E h => ?_) (fun cdv A outer s H vs Q E hr h => ?_)
  · obtain ⟨b, n, ws, st, rfl, _⟩ := h
    rfl
  · obtain ⟨b, n, ws, st, rfl, hb, hg, hn, hlen, q⟩ := h
    have nd := sc_law_grown.nd
    refine ⟨_, pss_cons (ps_set (i := 2) nd rfl (.inl rfl) (pixT (pv 0) pe_int))
      (pss_cons (ps_for PassesOwn.never rfl (pi_range1 rfl mR (pa_cons (pv 1) pa_nil)) (pg_name (i := 3) nd rfl (.inl rfl))
        (pss_cons (ps_set (i := 4) nd rfl (.inl rfl) (plstN pa_nil))
        (pss_cons (ps_for PassesOwn.never rfl (pi_seq (pv 2)) (pg_name (i := 5) nd rfl (.inl rfl))
          (pss_one (ps_set (i := 4) nd rfl (.inl rfl) (pcatN (pv 4) (pimp (tImg ws st) (pe_ifExp (ptNotStr mI mS (pv 5)) (plistN mL (pixT (pixT (pv 0) pe_int) (pv 5))) (plstN (pa_cons (pv 5) pa_nil))) ?img)))))
        (pss_one (ps_set (i := 2) nd rfl (.inl rfl) (pv 4))))))
      (pss_one (ps_ret (plistN mL (pv 2))))), ?_⟩
    case img =>
      rintro σ H Q ⟨b, s, e0, e5, ⟨p, pq, as, h1, h2, h3, h4⟩, hs, q⟩
      obtain ⟨tn, tb, ht, hk, htb⟩ := ty_sy (K := K) (H := H) s
      refine ⟨_, e5, s.v, tn, tb, rfl, ht, hk, tb, rfl, ?_⟩
      subst htb
      cases s with
      | l j =>
        obtain ⟨a, ha1, ha2⟩ := paired_get h4 (List.getElem?_eq_getElem (hs j rfl))
        refine ⟨_, e0, b, _, _, _, rfl, rfl, SqT.of h1, at0, _, e5, p, _, _, .ref a, rfl, rfl, SqT.of h2, atI_nat ?_, a, _, rfl, .inr ha2.sq, ?_⟩
        · rw [List.getElem?_map, ha1]; rfl
        · have e : img ws (.l j) = ws[j]'(hs j rfl) := by
            show ws.getD j [] = _
            rw [List.getD_eq_getElem?_getD, List.getElem?_eq_getElem (hs j rfl)]; rfl
          rw [← e]
          exact q
      | p => exact ⟨_, e5, szl 1, q⟩
      | m => exact ⟨_, e5, szl 1, q⟩
      | o => exact ⟨_, e5, szl 1, q⟩
      | c => exact ⟨_, e5, szl 1, q⟩
    obtain ⟨p, pq, as, h1, h2, h3, h4⟩ := id hb
    refine ⟨_, rfl, b, _, _, _, rfl, rfl, SqT.of h1, at1, ?_⟩
    refine ⟨_, rfl, (n : Int), rfl, by omega, by omega, ?_⟩
    rw [Int.toNat_natCast]
    refine for_range (lo := 0) (n := n) (fun i σ H' => ∃ (a : Addr) (y3 y4 y5 : Option V), σ = [some (.ref b), some (.int n), some (.ref a), y3, y4, y5] ∧ Same H H' ∧ Sq K H' a (wv (grown ws st i)))
      ⟨pq, _, _, _, rfl, Same.refl H, .inr h3.sq⟩ ?_ ?_
    · rintro i σ H1 hi ⟨a, y3, y4, y5, rfl, S1, ha⟩
      have l1 : (grown ws st (i + 1)).length ≤ 4000000 := Nat.le_trans (grown_mono hg (by omega)) hlen
      refine ⟨szl 0, fun H2 fa S2 n2 h2 => ?_⟩
      have hb2 : BookAt H2 b ws st := (hb.keep (.of S1)).keep (.of S2)
      refine ⟨a, rfl, for_seq (ha.same S2) (fun j σ H' => ∃ (fa : Addr) (y5 : Option V), σ = [some (.ref b), some (.int n), some (.ref a), some (.int (0 + (i : Int))), some (.ref fa), y5] ∧ Same H2 H' ∧ H' fa = some (.lst (wv (grow ws ((grown ws st i).take j)))))
        ⟨fa, _, rfl, Same.refl _, h2⟩ (fun j σ H' _ ⟨_, _, _, s, _⟩ => s) ?_ ?_⟩
      · rintro j x σ H3 hx ⟨fa, y5, rfl, S3, h3⟩
        obtain ⟨s, hs, rfl⟩ := wv_get hx
        have lj : (grow ws ((grown ws st i).take (j + 1))).length ≤ 4000000 := Nat.le_trans (grow_take _ _) l1
        rw [take_more hs, grow_app] at lj
        have e1 : grow ws [s] = img ws s := by simp [grow]
        rw [e1, List.length_append] at lj
        refine ⟨_, rfl, b, s, rfl, rfl, hb2.keep (.of S3), fun k e => grown_lets hg i k (by rw [← e]; exact List.mem_of_getElem? hs), fun H4 p4 S4 n4 h4 => ?_⟩
        refine ⟨fa, p4, _, _, rfl, rfl, S4 _ _ h3, h4, szl _ (by simp only [List.length_map]; omega), fun H5 p5 S5 n5 h5 => ?_⟩
        refine ⟨p5, _, rfl, (S3.trans S4).trans S5, ?_⟩
        rw [h5, take_more hs, grow_app, e1]
        simp only [wv, List.map_append]
      · rintro σ H3 ⟨fa, y5, rfl, S3, h3⟩
        refine ⟨_, rfl, fa, _, _, _, rfl, (S1.trans S2).trans S3, .inl (SqL.of ?_)⟩
        rw [h3, List.length_map, List.take_length]
        rfl
    · rintro σ H1 ⟨a, y3, y4, y5, rfl, S1, ha⟩
      exact ⟨_, rfl, a, _, rfl, ha, fun H2 p S2 n2 h2 => q H2 p (S1.trans S2) (S1.free n2) h2⟩
end
end SK
namespace SK
open PySem PySem.Spec PyProof.Rows L2
def spAge (K : PySem.W.Frag) : Sp := fun vs H Q _ => ∃ (b : Addr) (M : Nat) (ws : List (List Sy)) (st : List Sy), vs = [.ref b, .int M] ∧ BookAt H b ws st ∧ GoodBook ws st ∧ 40 ≤ M ∧ M ≤ 1000 ∧
  ∀ (H' : Hp) (n : Nat), Same H H' → Low M ws st n → Q (.int n) H'
section
variable {P : Program} {w : World} {K : PySem.W.Frag} {mg : Str → Option Value} {base : Heap}
theorem ok_age {f : Addr} {fd : FuncData} {k : Nat} (F : Fun K "_law_age" "_law_age" s_law_age f fd) (GG : Got P w K mg base "_law_grown" k ["book", "age"] (spGrown K)) (ml : mg "len" = none) (mI : mg "isinstance" = none) (mS : mg "str" = none) :
    FnOk P w K mg base CX0 (k + 1) f fd ["book", "most"] (spAge K) := by
  refine F.ok sc_law_age (fun vs H Q E h => ?_) (fun cdv A outer s H vs Q E hr h => ?_)
  · obtain ⟨b, M, ws, st, rfl, _⟩ := h
    rfl
  · obtain ⟨b, M, ws, st, rfl, hb, hg, hM1, hM2, q⟩ := h
    have nd := sc_law_age.nd
    refine ⟨_, pss_cons (ps_set (i := 2) nd rfl (.inl rfl) pe_int)
      (pss_cons (ps_while PassesOwn.never (PW.pt (pw_and (pt_cmpR op_lt (pv 2) pe_int (nomark _)) (pw_and1 (pt_cmpR op_le (plen ml
          (pe_lc (own := [("item", 3)]) (g := gName 3) (tt := tNotStr K 3) rfl nd (pi_list (pcall GG hr (pa_cons (pv 0) (pa_cons (padd (pv 2) pe_int) pa_nil)))) (blkOk_by (N := n_law_age) (sc := defScope s_law_age) (by decide +kernel))
            (fun _ _ _ _ _ => pg_name (i := 3) nd rfl (Or.inl rfl)) (fun _ _ _ _ _ => pts_one (ptNotStr mI mS (pv 3))) (fun _ _ _ _ _ => pv 3))) (pv 1) (nomark _)))))
        (pss_one (ps_set (i := 2) nd rfl (.inl rfl) (padd (pv 2) pe_int))))
      (pss_one (ps_ret (pv 2)))), ?_⟩
    refine ⟨fun m σ H' => ∃ (n : Nat) (y3 : Option V), σ = [some (.ref b), some (.int M), some (.int n), y3] ∧ Same H H' ∧ Low M ws st n ∧ m = 8 - n, ⟨8, 0, none, rfl, Same.refl H, Low.zero hg hM1, rfl⟩, ?_⟩
    rintro m σ H1 ⟨n, y3, rfl, S1, hl, rfl⟩
    refine ⟨_, rfl, _, _, rfl, rfl, _, rfl, ite2 (fun hlt => ?_) (fun hlt => ?_)⟩
    · have hn8 : n < 8 := by
        have := of_decide_eq_true hlt
        omega
      have l1 := grow_40 hg.words (grown_lets hg n)
      have l2 := hl.len hg
      have l3 : (grown ws st (n + 1)).length ≤ 4000000 := by
        show (grow ws (grown ws st n)).length ≤ 4000000
        omega
      have en : (V.int ((n : Int) + 1)) = V.int ((n + 1 : Nat) : Int) := by congr 1
      refine ⟨_, rfl, _, rfl, _, _, rfl, rfl, b, n + 1, ws, st, ?_, hb.keep (.of S1), hg, by omega, l3, fun H2 p S2 n2 h2 => ?_⟩
      · show [V.ref b, V.int ((n : Int) + 1)] = _
        rw [en]
      generalize hG : grown ws st (n + 1) = G at l3 h2
      refine ⟨p, rfl, ⟨_, SqL.of h2⟩, fun D nD => ?_⟩
      refine lc_list (K := K) (a := p) (xs := wv G) (fun i H' => Same H2 H' ∧ H' D = some (.lst (wv ((G.take i).filter isL)))) ⟨same_upd nD, upd_same⟩ (fun i H' _ h => h.1.seq (SqL.of h2)) ?_ ?_
      · rintro i x H3 hx ⟨S3, hD⟩
        obtain ⟨s, hs, rfl⟩ := wv_get hx
        obtain ⟨tn, tb, ht, hk, htb⟩ := ty_sy (K := K) (H := H3) s
        refine ⟨rfl, _, rfl, s.v, tn, tb, rfl, ht, hk, tb, rfl, ?_⟩
        subst htb
        rw [Bool.not_not]
        cases hb : isL s with
        | true =>
          refine iteT ⟨_, rfl, _, hD, ?_, ?_, ?_⟩
          · rw [List.length_map]
            have h1 : ((G.take i).filter isL).length ≤ (G.take i).length := List.length_filter_le _ _
            have h2 : (G.take i).length ≤ G.length := by rw [List.length_take]; omega
            rw [sizeLine_eq]; omega
          · exact sPut S3 nD
          · rw [upd_same, take_more hs, List.filter_append]
            simp only [wv, List.map_append, List.filter_cons, hb]
            rfl
        | false =>
          refine iteF ⟨S3, ?_⟩
          rw [hD, take_more hs, List.filter_append]
          simp only [List.filter_cons, hb]
          simp
      · rintro H3 ⟨S3, hD⟩
        rw [List.length_map, List.take_length] at hD
        refine ⟨D, _, rfl, .inl (SqL.of hD), _, rfl, _, _, rfl, rfl, _, rfl, ite2 (fun hle => ?_) (fun hle => ?_)⟩
        · have h400 : nL (grown ws st (n + 1)) ≤ M := by
            have h := of_decide_eq_true hle
            rw [List.length_map] at h
            rw [hG]
            unfold nL
            omega
          refine ⟨fun σ' H' => ∃ (y3 : Option V), σ' = [some (.ref b), some (.int M), some (.int ((n + 1 : Nat) : Int)), y3] ∧ Same H H' ∧ Low M ws st (n + 1), ?_, ?_⟩
          · rintro σ' H' ⟨y3, rfl, S', hl'⟩
            exact ⟨8 - (n + 1), by omega, n + 1, y3, rfl, S', hl', rfl⟩
          · refine ⟨_, rfl, _, _, rfl, rfl, y3, ?_, (S1.trans S2).trans S3, by omega, fun a ha => ?_⟩
            · rw [← en]; rfl
            · by_cases e : a = n + 1
              · rw [e]; exact h400
              · exact hl.2 a (by omega)
        · exact ⟨_, rfl, q H3 n ((S1.trans S2).trans S3) hl⟩
    · exact ⟨_, rfl, q H1 n S1 hl⟩
end
end SK
namespace SK
open PySem PySem.Spec PyProof.Rows L2
theorem WdAt.ty {K : PySem.W.Frag} {H : Hp} {a : Addr} {w : List Sy} (h : WdAt H a w) : TyX K H (.ref a) (.type "tuple") := let ⟨_, e, _⟩ := h; .fTuple e
def spIsInt (K : PySem.W.Frag) : Sp := fun vs H Q _ => ∃ (v : V) (n : String) (b1 b2 : Bool), vs = [v] ∧ TyX K H v (.type n) ∧ kitB n "int" = some b1 ∧ kitB n "bool" = some b2 ∧ Q (.bl (b1 && !b2)) H
theorem sy_int {K : PySem.W.Frag} (s : Sy) : ∃ n b1, (∀ H, TyX K H s.v (.type n)) ∧ kitB n "int" = some b1 ∧ kitB n "bool" = some false ∧ b1 = isL s := by
  cases s with
  | l k => exact ⟨"int", true, fun H => ty_int _, by decide +kernel, by decide +kernel, rfl⟩
  | p => exact ⟨"str", false, fun H => ty_str _, by decide +kernel, by decide +kernel, rfl⟩
  | m => exact ⟨"str", false, fun H => ty_str _, by decide +kernel, by decide +kernel, rfl⟩
  | o => exact ⟨"str", false, fun H => ty_str _, by decide +kernel, by decide +kernel, rfl⟩
  | c => exact ⟨"str", false, fun H => ty_str _, by decide +kernel, by decide +kernel, rfl⟩
def spIsWord : Sp := fun vs H Q _ => ∃ (t : Addr) (n : Nat) (w : List Sy), vs = [.ref t, .int n] ∧ WdAt H t w ∧ Good n 40 w ∧ Q (.bl true) H
def spBookForm : Sp := fun vs H Q _ => ∃ (b : Addr) (ws : List (List Sy)) (st : List Sy), vs = [.ref b] ∧ BookAt H b ws st ∧ GoodBook ws st ∧ Q (.bl true) H
section
variable {P : Program} {w : World} {K : PySem.W.Frag} {mg : Str → Option Value} {base : Heap}
theorem ok_isint {f : Addr} {fd : FuncData} {k : Nat} (F : Fun K "is_integer" "is_integer" s_is_integer f fd) (mI : mg "isinstance" = none) (mi : mg "int" = none) (mB : mg "bool" = none) : FnOk P w K mg base CX0 (k + 1) f fd ["value"] (spIsInt K) := by
  refine F.ok sc_is_integer (fun vs H Q E h => ?_) (fun cdv A outer s H vs Q E hr h => ?_)
  · obtain ⟨v, n, b1, b2, rfl, _⟩ := h
    rfl
  · obtain ⟨v, n, b1, b2, rfl, ht, k1, k2, q⟩ := h
    refine ⟨_, pss_one (ps_ret (pe_and (pis "int" (by decide +kernel) mI mi (pv 0)) (pe_one (pe_not (pis "bool" (by decide +kernel) mI mB (pv 0)))))), ?_⟩
    refine ⟨_, rfl, _, n, b1, rfl, ht, k1, b1, rfl, ?_⟩
    cases b1 with
    | true => exact ⟨_, rfl, _, n, b2, rfl, ht, k2, b2, rfl, q⟩
    | false => exact q
theorem ok_isword {f : Addr} {fd : FuncData} {k : Nat} {t40 : Tok} (F : Fun K "is_word" "is_word" s_is_word f fd) (GI : Got P w K mg base "is_integer" k ["value"] (spIsInt K)) (mI : mg "isinstance" = none) (mT : mg "tuple" = none) (ml : mg "len" = none) (m40 : mg "MOST_PARTS" = some (.int 40 t40)) :
    FnOk P w K mg base CX0 (k + 1) f fd ["value", "many"] spIsWord := by
  refine F.ok sc_is_word (fun vs H Q E h => ?_) (fun cdv A outer s H vs Q E hr h => ?_)
  · obtain ⟨t, n, w, rfl, _⟩ := h
    rfl
  · obtain ⟨t, n, w, rfl, ht, hg, q⟩ := h
    have nd := sc_is_word.nd
    refine ⟨_, pss_cons (ps_if (PW.pt (pw_or (pt_not (pt_val (pis "tuple" (by decide +kernel) mI mT (pv 0)))) (pw_or1 (pt_cmpR op_gt (plen ml (pv 0)) (pe_glob (v := .int 40) rfl m40 ⟨_, rfl⟩) (nomark _))))) pss_never pss_nil)
      (pss_cons (ps_set (i := 2) nd rfl (.inl rfl) pe_int)
      (pss_cons (ps_set (i := 3) nd rfl (.inl rfl) pe_int)
      (pss_cons (ps_for PassesOwn.never rfl (pi_tup (pv 0)) (pg_name (i := 4) nd rfl (.inl rfl))
        (pss_one (ps_if (PW.pt (pw_and (pt_val (pcall GI hr (pa_cons (pv 4) pa_nil))) (pw_and1 (pt_chain op_le op_lt pe_int (pv 4) (pv 1)))))
            (pss_one (ps_aug (i := 2) nd rfl (.inl rfl) pe_int ip_add))
          (pss_one (ps_if (pt_cmpR op_eq (pv 4) pe_str (nomark _)) (pss_one (ps_aug (i := 3) nd rfl (.inl rfl) pe_int ip_add))
          (pss_one (ps_if (PW.pt (pw_and (pt_cmpR op_eq (pv 4) pe_str (nomark _)) (pw_and1 (pt_cmpR op_gt (pv 3) pe_int (nomark _))))) (pss_one (ps_aug (i := 3) nd rfl (.inl rfl) pe_int ip_sub))
          (pss_one (ps_if (PW.pt (pw_and (pt_cmpR op_ne (pv 4) pe_str (nomark _)) (pw_and1 (pt_cmpR op_ne (pv 4) pe_str (nomark _))))) pss_never pss_nil)))))))))
      (pss_one (ps_ret (pe_and (pe_cmpR op_gt (pv 2) pe_int (nomark _)) (pe_one (pe_cmpR op_eq (pv 3) pe_int (nomark _))))))))), ?_⟩
    have hl := hg.len
    refine ⟨_, rfl, _, "tuple", true, rfl, ht.ty, by decide +kernel, _, rfl, iteF ⟨_, rfl, t, _, rfl, .inr ht.sq, _, _, rfl, rfl, _, rfl, itN (by rw [List.length_map]; omega) ?_⟩⟩
    have hne : nest w 0 ≠ none := by rw [hg.nst]; intro z; cases z
    refine ⟨_, rfl, t, rfl, ⟨_, ht.sq⟩, for_tup (K := K) (a := t) (xs := wv w) (fun i σ H' => ∃ (d : Nat) (y4 : Option V), σ = [some (.ref t), some (.int n), some (.int (nL (w.take i) : Int)), some (.int (d : Int)), y4] ∧ nest (w.take i) 0 = some d ∧ H' = H)
      ⟨0, none, rfl, rfl, rfl⟩ (fun i σ H' _ ⟨_, _, _, _, e⟩ => by rw [e]; exact ht.sq) ?_ ?_⟩
    · rintro i x σ H1 hx ⟨d, y4, rfl, hd, rfl⟩
      obtain ⟨s, hs, rfl⟩ := wv_get hx
      have e1 : nL (w.take (i + 1)) = nL (w.take i) + nL [s] := by rw [take_more hs, nL_app]
      have e2 : nest (w.take (i + 1)) 0 = nest [s] d := by rw [take_more hs, nest_app, hd]; rfl
      have h3 := nest_take hne (i + 1)
      obtain ⟨tn, tb, ht1, k1, k2, hb⟩ := sy_int (K := K) s
      refine ⟨_, rfl, s.v, tn, tb, false, rfl, ht1 H1, k1, k2, _, rfl, ?_⟩
      subst hb
      cases s with
      | l j =>
        have hj := hg.lets j (List.mem_of_getElem? hs)
        refine ⟨_, rfl, _, _, rfl, rfl, _, rfl, itY (show (0 : Int) ≤ (j : Int) by omega) ⟨_, rfl, _, _, rfl, rfl, _, rfl, itY (show (j : Int) < (n : Int) by omega) ⟨_, rfl, _, _, rfl, rfl, d, some (Sy.v (.l j)), ?_, by rw [e2]; rfl, rfl⟩⟩⟩
        rw [e1]; rfl
      | o =>
        refine ⟨_, rfl, rfl, _, rfl, itY rfl ⟨_, rfl, _, _, rfl, rfl, d + 1, some (Sy.v .o), ?_, by rw [e2]; rfl, rfl⟩⟩
        rw [e1]; rfl
      | c =>
        cases d with
        | zero => rw [e2] at h3; exact absurd rfl h3
        | succ d =>
          refine ⟨_, rfl, rfl, _, rfl, itN (by decide) ⟨_, rfl, rfl, _, rfl, itY rfl ⟨_, rfl, _, _, rfl, rfl, _, rfl, itY (show (0 : Int) < ((d + 1 : Nat) : Int) by omega) ⟨_, rfl, _, _, rfl, rfl, d, some (Sy.v .c), ?_, by rw [e2]; rfl, rfl⟩⟩⟩⟩
          rw [e1]
          have : (((d + 1 : Nat) : Int) - 1) = (d : Int) := by omega
          show [some (V.ref t), some (V.int n), some (V.int (nL (w.take i) : Int)), some (V.int (((d + 1 : Nat) : Int) - 1)), some (Sy.v .c)] = _
          rw [this]; rfl
      | p =>
        refine ⟨_, rfl, rfl, _, rfl, itN (by decide) ⟨_, rfl, rfl, _, rfl, itN (by decide) ⟨_, rfl, rfl, _, rfl, ?_⟩⟩⟩
        refine iteF (iteF ⟨d, some (Sy.v .p), ?_, by rw [e2]; rfl, rfl⟩)
        rw [e1]; rfl
      | m =>
        refine ⟨_, rfl, rfl, _, rfl, itN (by decide) ⟨_, rfl, rfl, _, rfl, itN (by decide) ⟨_, rfl, rfl, _, rfl, ?_⟩⟩⟩
        refine iteT ⟨_, rfl, rfl, _, rfl, iteF ⟨d, some (Sy.v .m), ?_, by rw [e2]; rfl, rfl⟩⟩
        rw [e1]; rfl
    · rintro σ H1 ⟨d, y4, rfl, hd, rfl⟩
      rw [List.length_map, List.take_length, hg.nst] at hd
      cases hd
      have hs := hg.slim
      refine ⟨_, rfl, _, _, rfl, rfl, _, rfl, itY ?_ ⟨_, rfl, rfl, q⟩⟩
      rw [List.length_map, List.take_length]
      omega
theorem ok_bookform {f : Addr} {fd : FuncData} {k : Nat} {t8 : Tok} (F : Fun K "has_book_form" "has_book_form" s_has_book_form f fd) (mI : mg "isinstance" = none) (mT : mg "tuple" = none) (ml : mg "len" = none) (m8 : mg "MOST_LETTERS" = some (.int 8 t8)) :
    FnOk P w K mg base CX0 (k + 1) f fd ["value"] spBookForm := by
  refine F.ok sc_has_book_form (fun vs H Q E h => ?_) (fun cdv A outer s H vs Q E hr h => ?_)
  · obtain ⟨b, ws, st, rfl, _⟩ := h
    rfl
  · obtain ⟨b, ws, st, rfl, ⟨p, pq, as, h1, h2, h3, h4⟩, hg, q⟩ := h
    have nd := sc_has_book_form.nd
    refine ⟨_, pss_cons (ps_if (PW.pt (pw_or (pt_not (pt_val (pis "tuple" (by decide +kernel) mI mT (pv 0)))) (pw_or1 (pt_cmpR op_ne (plen ml (pv 0)) pe_int (nomark _))))) pss_never pss_nil)
      (pss_cons (ps_set (i := 1) nd rfl (.inl rfl) (pixT (pv 0) pe_int))
      (pss_one (ps_ret (pe_and (pis "tuple" (by decide +kernel) mI mT (pv 1)) (pe_one (pe_chain op_le op_le pe_int (plen ml (pv 1)) (pe_glob (v := .int 8) rfl m8 ⟨_, rfl⟩))))))), ?_⟩
    have e := h4.length
    have e1 := hg.one
    have e2 := hg.few
    refine ⟨_, rfl, _, "tuple", true, rfl, ty_tup h1, by decide +kernel, _, rfl, iteF ⟨_, rfl, b, _, rfl, .inr (SqT.of h1), rfl, _, rfl, iteF ?_⟩⟩
    refine ⟨_, rfl, b, _, _, _, rfl, rfl, SqT.of h1, at0, ?_⟩
    refine ⟨_, rfl, _, "tuple", true, rfl, ty_tup h2, by decide +kernel, _, rfl, iteT ?_⟩
    refine ⟨_, rfl, p, _, rfl, .inr (SqT.of h2), _, _, rfl, rfl, _, rfl, itY (by rw [List.length_map]; omega) ⟨_, _, rfl, rfl, ?_⟩⟩
    show Q (V.bl (decide (((as.map V.ref).length : Int) ≤ 8))) H
    rw [decide_eq_true (show ((as.map V.ref).length : Int) ≤ 8 by rw [List.length_map]; omega)]
    exact q
end
end SK
namespace SK
open PySem PySem.Spec PyProof.Rows L2
/-! ### enumerate of a tuple -/
/-- the two cells that enumerate(v) lays -/
abbrev enumCell (it : Addr) : Obj := { cls := .type "enumerate", data := .fields #[.none, .bool false, .ref it, rawInt 0, .none, .none] }
theorem enum_new1 {v : Value} {o : Obj} {J : Heap → Prop} (B : Begins v o J) : Meets (Builtin.«enumerate.__new__» ⟨[.type "enumerate", v], []⟩) (fun _ R s => J s.heap ∧ R (.ok (.ret (.ref (s.heap.push o).objs.size))) { s with heap := (s.heap.push o).push (enumCell s.heap.objs.size) }) := by
  refine .of_wp fun prog w A R s h => ?_
  obtain ⟨hp, g, d, tk, os⟩ := s
  obtain ⟨j, h⟩ := h
  have sub := sub_enumerate
  have begun : ∀ {A' : Around} {E Q : Value → Shared → Prop}, Q (.ref hp.objs.size) ⟨hp.push o, g, d, tk, os⟩ → wpAny (model prog w) A' (pyIter v) Q E ⟨hp, g, d, tk, os⟩ := fun q => B.iter prog w _ _ ⟨hp, g, d, tk, os⟩ _ j q
  wp_walk using begun
  refine wpAny_stack_any fun _ => wpAny_pure ?_
  split <;> first
    | (rename_i c _ _ _ _ _; cases (c == Value.type "enumerate") <;> (wp_walk using begun; exact ⟨_, rfl, h⟩))
    | (wp_walk using begun; exact ⟨_, rfl, h⟩)
theorem enum_call1 {prog : Program} {w : World} {A : Around} {E Q : Value → Shared → Prop} {s : Shared} {v : Value} {o : Obj} {J : Heap → Prop} (B : Begins v o J) (j : J s.heap)
    (h : ∀ h', IsEnum h' (s.heap.objs.size + 1) s.heap.objs.size 0 .none → h'.get? s.heap.objs.size = some o → (∀ b o, s.heap.get? b = some o → h'.get? b = some o) → Q (.ref (s.heap.objs.size + 1)) { s with heap := h' }) :
    wpAny (model prog w) A (call (.type "enumerate") [v]) Q E s := by
  have z : (s.heap.push o).objs.size = s.heap.objs.size + 1 := Heap.size_push ..
  refine callType_new F.called_enumerate (by decide) (F.typeCall_enumerate_1 _) (F.newCall_enumerate_1 _) (fun obj => F.args_object_init_2 obj _) F.entry_enumerate_new (enum_new1 B) ⟨j, ?_⟩
  show _ ∧ _
  rw [z]
  have cell : IsEnum ((s.heap.push o).push (enumCell s.heap.objs.size)) (s.heap.objs.size + 1) s.heap.objs.size 0 .none := by
    have e := Heap.get?_push_size (s.heap.push o) (o := enumCell s.heap.objs.size) rfl
    rw [z] at e
    exact e
  exact ⟨⟨_, cell, rfl⟩, h _ cell (Heap.get?_push_of_some _ (Heap.get?_push_size _ B.free)) fun b u e => Heap.get?_push_of_some _ (Heap.get?_push_of_some _ e)⟩
def IteT (K : PySem.W.Frag) (a : Addr) : It where
  go := fun i H => ∃ (xs : List V) (x : V), SqT K H a xs ∧ xs[i]? = some x
  yld := fun i H v H' => ∃ (T : Addr) (x : V), v = .ref T ∧ H T = none ∧ H' = upd H T (.tup [.int (i : Nat), x]) ∧ ∀ xs, SqT K H a xs → xs[i]? = some x
  stop := fun i H => ∃ xs : List V, SqT K H a xs ∧ xs.length = i
theorem turn_enumT {P : Program} {w : World} {K : PySem.W.Frag} {elts : List Expr} {kk : Nat} {tpos : Pos} {a e it : Addr} (hea : a ≠ it) : Turn P w K (.Tuple elts kk tpos) (IteT K a) [e, it] e (fun i h => (∃ old, IsEnum h e it ((i : Nat) : Int) old) ∧ h.IsTupleIter it a i ∧ e ≠ it ∧ e ≠ a) := by
  refine ⟨List.mem_cons_self, ?obj, ?keep, ?item, ?done, ?self⟩
  case obj =>
    rintro i h ⟨⟨old, he⟩, ⟨o, ho, hc, hd⟩, _⟩ b hb
    rcases List.mem_cons.mp hb with rfl | hb
    · exact ⟨_, he, fun v q => nomatch q⟩
    · cases List.mem_singleton.mp hb
      exact ⟨o, ho, fun v q => by rw [hd] at q; cases q⟩
  case keep =>
    rintro i h h' ⟨⟨old, he⟩, hi, hne⟩ k
    exact ⟨⟨old, k e (by simp) _ he⟩, hi.at fun o q => k it (by simp) o q, hne⟩
  case self =>
    rintro A i s Q E ⟨⟨_, he⟩, _⟩ h
    exact wpAny_pyIter_enum he h
  case done =>
    intro X hP hw hK hc i pins s σ H E I hf st hg
    subst hP hw hK
    obtain ⟨⟨old, he⟩, hit, hne, hea'⟩ := st
    obtain ⟨xs, hq, hx⟩ := hg
    obtain ⟨its, rv, p, hz⟩ := I.tuple hq
    have hl := rv.length
    obtain ⟨f0, f1, f2, f3, f4, f5⟩ := hf it (by simp)
    have hh : X.A.in1.handled = none := I.ok.hd hc
    have hn : i = its.toArray.size := by rw [List.size_toArray]; omega
    subst hn
    exact wpAny_pyNext_enum_endD (Draws.tuple hh it a hea its.toArray) he ⟨hit, p⟩ fun h' eb => ⟨rfl, I.turned (t' := s.toks) (fun b o hb q => eb b o hb q) f0 f1 f3 f4 f5⟩
  case item =>
    intro X hP hw hK hc i pins s σ H E I hf st hg
    subst hP hw hK
    obtain ⟨⟨old, he⟩, hit, hne, hea'⟩ := st
    obtain ⟨xs, x, hq, hx⟩ := hg
    obtain ⟨its, rv, p, hz⟩ := I.tuple hq
    obtain ⟨u, hu, ru⟩ := rv.get hx
    have hel : e < s.heap.objs.size := Heap.lt_size he
    have hil : it < s.heap.objs.size := by obtain ⟨_, q, _⟩ := hit; exact Heap.lt_size q
    have hi : i < its.toArray.size := by rw [List.size_toArray]; exact (List.getElem?_eq_some_iff.mp hu).1
    have hh : X.A.in1.handled = none := I.ok.hd hc
    refine wpAny_pyNext_enum_itemD (Draws.tuple hh it a hea its.toArray) he ⟨hit, p⟩ hi hne (by simp [hne, hea']) fun x' h' tk hp ho hst hT hsz hk => ?_
    have ex : x' = u := Option.some.inj (hp.symm.trans (by simpa using hu))
    subst ex
    refine ⟨_, rfl, wpAny_letOwnedTupleGo_enum (s := { s with heap := h', toks := tk + 1 }) ho fun h2 he2 sb => ?_⟩
    have at2 : h2.get? s.heap.objs.size = some { cls := .type "tuple", data := .seq #[.int i tk, x'] } := (sb.2 _ (Nat.ne_of_gt hel)).trans hT
    have laid : ObjOk X.prog X.w (upd H s.heap.objs.size (.tup [.int (i : Nat), x])) h2 s.heap.objs.size (.tup [.int (i : Nat), x]) := ⟨szl 2, [.int i tk, x'], .cons ⟨_, rfl⟩ (.cons ru .nil), _, at2, rfl, _, rfl⟩
    have J : Inv X pins σ (upd H s.heap.objs.size (.tup [.int (i : Nat), x])) { s with heap := h2, toks := tk + 1 } :=
      I.turnedNew (ch := [e, it]) (fun b ob hb q => (sb.2 b fun z => hb (by simp [z])).trans (hk b ob (fun z => hb (by simp [z])) (fun z => hb (by simp [z])) q)) hf (Nat.le_refl _) laid
    refine ⟨.ref s.heap.objs.size, _, J, rfl, ⟨_, x, rfl, I.hok.fresh (Nat.le_refl _), rfl, fun ys hy => ?_⟩, ⟨⟨x', ?_⟩, hst.1.at fun o q => (sb.2 it (Ne.symm hne)).trans q, hne, hea'⟩, fun b hb => ?_⟩
    · rw [I.tuple_inj hy hq]
      exact hx
    · have e1 : ((i + 1 : Nat) : Int) = (i : Int) + 1 := by omega
      rw [e1]
      exact he2
    · have hb' : b < s.heap.objs.size := by
        rcases List.mem_cons.mp hb with z | z
        · rw [z]; exact hel
        · rw [List.mem_singleton.mp z]; exact hil
      rw [upd_ne (Nat.ne_of_lt hb')]
      exact (hf b hb).1
def iEnumT (K : PySem.W.Frag) (ta : TA) : TI := fun σ H R => ta σ H fun vs H1 => ∃ a xs, vs = [.ref a] ∧ SqT K H1 a xs ∧ R (IteT K a) H1
theorem pi_enumT {X : Cx} {e : Expr} {ta : TA} {p pos tpos : Pos} {elts : List Expr} {kk : Nat} (hg : Gl X "enumerate") (hm : X.mg "enumerate" = none) (ha : PA X [e] ta) (hs : starEach [e] X.env = [(false, eval e X.env)] := by rfl) :
    PI X (.Tuple elts kk tpos) (.Call (.Name "enumerate" p) [e] [] pos) (iEnumT X.K ta) := by
  refine ⟨fun pins s σ H R I h => Call_ (ld_blt I hg hm boot_enumerate (PyProof.Rows.callWith_type1 (thn (ha.run pos pins s σ H _ I h) fun us s1 ⟨vs, H1, I1, r1, q1⟩ => ?_) hs rfl))⟩
  obtain ⟨a, xs, rfl, hq, q⟩ := q1
  rcases r1 with _ | ⟨r, rr⟩
  cases rr
  cases r
  obtain ⟨its, rv, p', hz⟩ := I1.tuple hq
  refine enum_call1 (begins_tuple a its.toArray) p' fun h' he hit hk => wpAny_pyIter_enum he ?_
  have al : a < s1.heap.objs.size := p'.lt
  refine ⟨s1.heap.objs.size + 1, [s1.heap.objs.size + 1, s1.heap.objs.size], _, _, H1, rfl, I1.kept (t' := s1.toks) hk, turn_enumT (a := a) (e := s1.heap.objs.size + 1) (it := s1.heap.objs.size) (Nat.ne_of_lt al), ⟨⟨.none, he⟩, ⟨_, hit, rfl, rfl⟩, Nat.succ_ne_self _, Nat.ne_of_gt (Nat.lt_succ_of_lt al)⟩, fun b hb => ?_, q⟩
  have hle : s1.heap.objs.size ≤ b := by
    rcases List.mem_cons.mp hb with z | z
    · rw [z]; exact Nat.le_succ _
    · rw [List.mem_singleton.mp z]; exact Nat.le_refl _
  exact I1.fpOk hle (I1.hok.fresh hle)
/-- the loop by an invariant -/
theorem for_enumT {K : PySem.W.Frag} {a : Addr} {xs : List V} {g : TG} {tb : TS} {D : Ends} {σ : L2.St} {H : Hp} (Pv : Nat → L2.St → Hp → Prop) (h0 : Pv 0 σ H) (hl : ∀ i σ H, Pv i σ H → SqT K H a xs)
    (hs : ∀ (i : Nat) (x : V) (T : Addr) (σ : L2.St) (H : Hp), xs[i]? = some x → Pv i σ H → H T = none → g (.ref T) σ (upd H T (.tup [.int (i : Nat), x])) fun σ2 H2 => tb { D with nx := Pv (i + 1), ct := Pv (i + 1), bk := D.nx } σ2 H2)
    (hd : ∀ σ H, Pv xs.length σ H → D.nx σ H) :
    ∃ W : Nat → Nat → L2.St → Hp → Prop, (∃ m, W 0 m σ H) ∧ ∀ i m σ H, W i m σ H → ((IteT K a).stop i H ∧ D.nx σ H) ∨ ((IteT K a).go i H ∧ ∃ N : L2.St → Hp → Prop, (∀ σ' H', N σ' H' → ∃ m', m' < m ∧ W (i + 1) m' σ' H') ∧ ∀ v H', (IteT K a).yld i H v H' → g v σ H' fun σ2 H2 => tb { D with nx := N, ct := N, bk := D.nx } σ2 H2) := by
  refine ⟨fun i m σ H => m = xs.length - i ∧ i ≤ xs.length ∧ Pv i σ H, ⟨_, rfl, Nat.zero_le _, h0⟩, ?_⟩
  rintro i m σ H ⟨rfl, hi, p⟩
  have q := hl i σ H p
  by_cases hlt : i < xs.length
  · refine .inr ⟨⟨xs, xs[i], q, List.getElem?_eq_getElem hlt⟩, Pv (i + 1), fun σ' H' p' => ⟨_, by omega, rfl, hlt, p'⟩, ?_⟩
    rintro v H' ⟨T, x, rfl, nT, rfl, hx⟩
    exact hs i x T σ H (hx xs q) p nT
  · have e : i = xs.length := by omega
    subst e
    exact .inl ⟨⟨xs, q, rfl⟩, hd σ H p⟩
end SK
namespace SK
open PySem PySem.Spec PyProof.Rows L2
structure GotD (P : Program) (w : World) (K : PySem.W.Frag) (mg : Str → Option Value) (base : Heap) (x : Str) (k : Nat) (ps : List Str) (dvs : List V) (sp : Sp) : Prop where
  ex : ∃ (f : Addr) (fd : FuncData) (ds : List Value), FnOk P w K mg base CX0 k f fd ps sp ∧ mg x = some (.ref f) ∧ PySem.W.keepIn K (.ref f) = true ∧ Binds K fd ps ds ∧ Vals dvs ds
theorem pcallD {X : Cx} {x : Str} {k : Nat} {ps : List Str} {dvs : List V} {sp : Sp} {e : Expr} {es : List Expr} {t : TA} {p pos : Pos} (G : GotD X.prog X.w X.K X.mg X.base x k ps dvs sp) (hr : Room k X.A) (ha : PA X (e :: es) t) (hg : Gl X x := by rfl)
    (hdb : (x == ("__debug__" : Str)) = false := by decide)
    (he : starEach (e :: es) X.env = (false, eval e X.env) :: starEach es X.env := by rfl) (hpl : (backTo pos (starEach es X.env)).any (·.1) = false := by rfl) : PE X (.Call (.Name x p) (e :: es) [] pos) (tCall sp dvs E0 t) := by
  obtain ⟨f, fd, ds, F, a, b, c, d⟩ := G.ex
  exact pe_call F hr hg a b c d pass0 ha hdb he hpl
def spCheckBook : Sp := fun vs H Q _ => ∃ (b : Addr) (ws : List (List Sy)) (st : List Sy), vs = [.ref b] ∧ BookAt H b ws st ∧ GoodBook ws st ∧ ∀ H', Same H H' → Q .non H'
def spCheckNum : Sp := fun vs H Q _ => ∃ (n lo hi : Int), vs = [.int n, .int lo, .int hi] ∧ lo ≤ n ∧ n ≤ hi ∧ Q .non H
def spCheckAge : Sp := fun vs H Q _ => ∃ (n m : Nat), vs = [.int n, .int m] ∧ n ≤ m ∧ Q .non H
def spCheckBA : Sp := fun vs H Q _ => ∃ (b : Addr) (n m : Nat) (ws : List (List Sy)) (st : List Sy), vs = [.ref b, .int n, .int m] ∧ BookAt H b ws st ∧ GoodBook ws st ∧ n ≤ m ∧ ∀ H', Same H H' → Q .non H'
section
variable {P : Program} {w : World} {K : PySem.W.Frag} {mg : Str → Option Value} {base : Heap}
theorem ok_checkbook {f : Addr} {fd : FuncData} {k : Nat} (F : Fun K "check_book" "check_book" s_check_book f fd) (GF : Got P w K mg base "has_book_form" k ["value"] spBookForm) (GW : Got P w K mg base "is_word" k ["value", "many"] spIsWord) (ml : mg "len" = none) (mE : mg "enumerate" = none) :
    FnOk P w K mg base CX0 (k + 1) f fd ["value"] spCheckBook := by
  refine F.ok sc_check_book (fun vs H Q E h => ?_) (fun cdv A outer s H vs Q E hr h => ?_)
  · obtain ⟨b, ws, st, rfl, _⟩ := h
    rfl
  · obtain ⟨b, ws, st, rfl, hb, hg, q⟩ := h
    have nd := sc_check_book.nd
    refine ⟨_, pss_cons (ps_if (pt_not (pt_val (pcall GF hr (pa_cons (pv 0) pa_nil)))) pss_never pss_nil)
      (pss_cons (ps_asg (pv 0) (pg_tup (by rfl) (pgs_cons (pg_name (i := 1) nd rfl (.inl rfl)) (pgs_cons (pg_name (i := 2) nd rfl (.inl rfl)) pgs_nil))))
      (pss_cons (ps_for PassesOwn.never rfl (pi_enumT (by rfl) mE (pa_cons (pv 1) pa_nil)) (pg_tup (by rfl) (pgs_cons (pg_name (i := 3) nd rfl (.inl rfl)) (pgs_cons (pg_name (i := 4) nd rfl (.inl rfl)) pgs_nil)))
        (pss_one (ps_if (pt_not (pt_val (pcall GW hr (pa_cons (pv 4) (pa_cons (plen ml (pv 1)) pa_nil))))) pss_never pss_nil)))
      (pss_one (ps_if (pt_not (pt_val (pcall GW hr (pa_cons (pv 2) (pa_cons (plen ml (pv 1)) pa_nil))))) pss_never pss_nil)))), ?_⟩
    obtain ⟨p, pq, as, h1, h2, h3, h4⟩ := id hb
    have el := h4.length
    refine ⟨_, rfl, b, ws, st, rfl, hb, hg, _, rfl, iteF ?_⟩
    refine ⟨_, rfl, b, _, rfl, SqT.of h1, rfl, _, _, rfl, _, _, rfl, rfl, ?_⟩
    refine ⟨_, rfl, p, _, rfl, SqT.of h2, for_enumT (K := K) (a := p) (xs := as.map V.ref) (fun i σ H' => ∃ y3 y4 : Option V, σ = [some (.ref b), some (.ref p), some (.ref pq), y3, y4] ∧ Same H H') ⟨none, none, rfl, Same.refl H⟩ (fun i σ H' ⟨_, _, _, s⟩ => sTup s (SqT.of h2)) ?_ ?_⟩
    · rintro i x T σ H1 hx ⟨y3, y4, rfl, S1⟩ nT
      have S2 := S1.trans (same_upd (o := .tup [.int (i : Nat), x]) nT)
      rw [List.getElem?_map] at hx
      obtain ⟨a, ha, rfl⟩ : ∃ a, as[i]? = some a ∧ x = V.ref a := by
        cases e : as[i]? with
        | none => rw [e] at hx; cases hx
        | some a => rw [e] at hx; exact ⟨a, rfl, (Option.some.inj hx).symm⟩
      have hi : i < ws.length := by rw [← el]; exact (List.getElem?_eq_some_iff.mp ha).1
      have hw := List.getElem?_eq_getElem hi
      have gw := hg.words _ (List.getElem_mem hi)
      generalize ws[i] = w1 at hw gw
      obtain ⟨a', ha', ht⟩ := paired_get h4 hw
      rw [ha] at ha'
      cases ha'
      refine ⟨T, _, rfl, SqT.of upd_same, rfl, _, _, rfl, _, _, rfl, rfl, ?_⟩
      refine ⟨_, rfl, _, rfl, p, _, rfl, .inr (sTup S2 (SqT.of h2)), a, ws.length, w1, ?_, ht.same S2, gw, _, rfl, iteF ⟨_, _, rfl, S2⟩⟩
      rw [List.length_map, el]; rfl
    · rintro σ H1 ⟨y3, y4, rfl, S1⟩
      refine ⟨_, rfl, _, rfl, p, _, rfl, .inr (sTup S1 (SqT.of h2)), pq, ws.length, st, ?_, h3.same S1, hg.start, _, rfl, iteF (q H1 S1)⟩
      rw [List.length_map, el]; rfl
end
end SK
namespace SK
open PySem PySem.Spec PyProof.Rows L2
section
variable {P : Program} {w : World} {K : PySem.W.Frag} {mg : Str → Option Value} {base : Heap}
theorem ok_checknum {f : Addr} {fd : FuncData} {k : Nat} (F : Fun K "check_number" "check_number" s_check_number f fd) (GI : Got P w K mg base "is_integer" k ["value"] (spIsInt K)) :
    FnOk P w K mg base CX0 (k + 1) f fd ["value", "least", "most"] spCheckNum := by
  refine F.ok sc_check_number (fun vs H Q E h => ?_) (fun cdv A outer s H vs Q E hr h => ?_)
  · obtain ⟨n, lo, hi, rfl, _⟩ := h
    rfl
  · obtain ⟨n, lo, hi, rfl, h1, h2, q⟩ := h
    refine ⟨_, pss_one (ps_if (PW.pt (pw_or (pt_not (pt_val (pcall GI hr (pa_cons (pv 0) pa_nil)))) (pw_or1 (pt_not (pt_chain op_le op_le (pv 1) (pv 0) (pv 2)))))) pss_never pss_nil), ?_⟩
    refine ⟨_, rfl, _, "int", true, false, rfl, ty_int _, by decide +kernel, by decide +kernel, _, rfl, iteF ?_⟩
    refine ⟨_, rfl, _, rfl, _, _, rfl, rfl, _, rfl, itY h1 ⟨_, rfl, _, _, rfl, rfl, _, rfl, ?_⟩⟩
    rw [decide_eq_true h2]
    exact iteF q
theorem ok_checkage {f : Addr} {fd : FuncData} {k : Nat} (F : FunD K "check_age" "check_age" (defArgs s_check_age) (defBody s_check_age) (defScope s_check_age) [.int 1000] [] f fd) (GN : Got P w K mg base "check_number" k ["value", "least", "most"] spCheckNum) :
    FnOk P w K mg base CX0 (k + 1) f fd ["value", "most"] spCheckAge := by
  refine F.ok sc_check_age (fun vs H Q E h => ?_) (fun cdv A outer s H vs Q E hr h => ?_)
  · obtain ⟨n, m, rfl, _⟩ := h
    rfl
  · obtain ⟨n, m, rfl, hn, q⟩ := h
    refine ⟨_, pss_one (ps_expr (pcall GN hr (pa_cons (pv 0) (pa_cons pe_int (pa_cons (pv 1) pa_nil))))), ?_⟩
    exact ⟨_, rfl, _, rfl, (n : Int), 0, (m : Int), rfl, by omega, by omega, q⟩
theorem binds_checkage {f : Addr} {fd : FuncData} (F : FunD K "check_age" "check_age" (defArgs s_check_age) (defBody s_check_age) (defScope s_check_age) [.int 1000] [] f fd) : ∃ ds, Vals [V.int 1000] ds ∧ Binds K fd ["value", "most"] ds := by
  refine F.binds1 (ps := ["value", "most"]) 1 0 (by simp) rfl (fun T kV doc pm an cdv ct us its h1 h2 => ?_)
  match us, its, h1, h2 with
  | [u], [i], _, _ => exact ⟨_, rfl, rfl⟩
theorem ok_checkba {f : Addr} {fd : FuncData} {k : Nat} (F : FunD K "check_book_and_age" "check_book_and_age" (defArgs s_check_book_and_age) (defBody s_check_book_and_age) (defScope s_check_book_and_age) [.int 1000] [] f fd) (GB : Got P w K mg base "check_book" k ["value"] spCheckBook) (GA : Got P w K mg base "check_age" k ["value", "most"] spCheckAge) :
    FnOk P w K mg base CX0 (k + 1) f fd ["book", "age", "most"] spCheckBA := by
  refine F.ok sc_check_book_and_age (fun vs H Q E h => ?_) (fun cdv A outer s H vs Q E hr h => ?_)
  · obtain ⟨b, n, m, ws, st, rfl, _⟩ := h
    rfl
  · obtain ⟨b, n, m, ws, st, rfl, hb, hg, hn, q⟩ := h
    refine ⟨_, pss_cons (ps_expr (pcall GB hr (pa_cons (pv 0) pa_nil))) (pss_one (ps_expr (pcall GA hr (pa_cons (pv 1) (pa_cons (pv 2) pa_nil))))), ?_⟩
    exact ⟨_, rfl, b, ws, st, rfl, hb, hg, fun H1 S1 => ⟨_, rfl, _, rfl, n, m, rfl, hn, q H1 S1⟩⟩
theorem binds_checkba {f : Addr} {fd : FuncData} (F : FunD K "check_book_and_age" "check_book_and_age" (defArgs s_check_book_and_age) (defBody s_check_book_and_age) (defScope s_check_book_and_age) [.int 1000] [] f fd) : ∃ ds, Vals [V.int 1000] ds ∧ Binds K fd ["book", "age", "most"] ds := by
  refine F.binds1 (ps := ["book", "age", "most"]) 2 0 (by simp) rfl (fun T kV doc pm an cdv ct us its h1 h2 => ?_)
  match us, its, h1, h2 with
  | [u, u2], [i], _, _ => exact ⟨_, rfl, rfl⟩
end
end SK
namespace SK
open PySem PySem.Spec PyProof.Rows L2 PpSet
/-! ### {e for target in iter if ..}, e a whole number -/
def tSci (w : World) (wi : TI) (g : TG) (tt : TT) (te : TE) (vs : List Nat) : TE := fun σ H Q => wi σ H fun J H1 => ∀ D, H1 D = none →
  ∃ W : Nat → Nat → Hp → Prop, (∃ m, W 0 m (upd H1 D (SetO w D (fun _ => false) 0))) ∧ ∀ i m H, W i m H → (J.stop i H ∧ Q (.ref D) H) ∨
    (J.go i H ∧ ∃ Nx : Hp → Prop, (∀ H', Nx H' → ∃ m', m' < m ∧ W (i + 1) m' H') ∧ ∀ x H', J.yld i H x H' → g x (wipe σ vs) H' fun σ2 H2 => wipe σ2 vs = wipe σ vs ∧ tt σ2 H2 fun b H3 =>
      if b = true then te σ2 H3 fun y H4 => ∃ (k : Int) (S : Int → Bool) (n : Nat), y = .int k ∧ H4 D = some (SetO w D S n) ∧ n + 1 < scanBound ∧ Nx (upd H4 D (SetO w D (fun j => S j || decide (j = k)) (if S k = true then n else n + 1))) else Nx H3)
section
variable {X : Cx} {elt tg iter : Expr} {ifs : List Expr} {scope : Scope} {own : List (Str × Nat)} {pos : Pos} {wi : TI} {g : TG} {tt : TT} {te : TE}
theorem pe_sci (hc : X.calm = true) (hN : X.N.Nodup) (hi : PI X tg iter wi) (ok : BlkOk X.N X.env.scope scope own) (hg : ∀ s H C cl fp, PG (X.blk s H scope (compEnvC scope cl C X.env) fp) tg g) (ht : ∀ s H C cl fp, PTs (X.blk s H scope (compEnvC scope cl C X.env) fp) ifs tt)
    (he : ∀ s H C cl fp, PE (X.blk s H scope (compEnvC scope cl C X.env) fp) elt te) (hs : ∀ x, foldedSetIterable iter X.env x = pure x := by intro _; rfl) : PE X (.SetComp elt [⟨tg, iter, ifs, 0⟩] scope pos) (tSci X.w wi g tt te (own.map (·.2))) := by
  refine ⟨fun pins s σ H Q I h => ?_⟩
  rw [eval_SetComp]
  refine wpAny_comprehension_free (use := none) rfl hs (closure_ok fun y hy e => (ok.free y hy e).elim (fun k => I.ok.has _ (.inl k)) fun k => I.ok.has _ (.inr k)) ok.kind (fun y hy e => by rw [ok.uniq y hy, e])
    (thn (hi.run pins s σ H _ I h) fun xv s1 hx => thn hx fun itv s2 ⟨it, fp, tn, J, H2, eit, I2, T, st2, f2, q⟩ => ?_)
  subst eit
  refine newSet_ok (newEnv_comp ?_)
  generalize hD : s2.heap.objs.size = D
  obtain ⟨W, ⟨m0, w0⟩, turn⟩ := q D (I2.hok.fresh (Nat.le_of_eq hD))
  let cell : Obj := { cls := .type "set", dict := none, data := .set #[] 0 (.fresh 0 0 (!X.w.params.followText "set-order")) }
  generalize hs3 : ({ s2 with heap := s2.heap.push cell } : Shared) = s3
  have h3 : s3.heap = s2.heap.push cell := by rw [← hs3]
  have I3 : Inv X pins σ (upd H2 D (SetO X.w D (fun _ => false) 0)) s3 := by
    rw [← hs3]
    exact I2.laid (t' := s2.toks) (fun b o e => Heap.get?_push_of_some _ e) (Nat.le_of_eq hD) (by rw [← hD]; exact setO_new (setR_fresh X.w))
  have f3 : ∀ b ∈ fp, FpOk X pins (upd H2 D (SetO X.w D (fun _ => false) 0)) b ∧ b < s3.heap.objs.size := fun b hb => by
    obtain ⟨o, e, _⟩ := T.obj _ _ st2 b hb
    have lt := Heap.lt_size e
    exact ⟨⟨by rw [upd_ne (by rw [← hD]; exact Nat.ne_of_lt lt)]; exact (f2 b hb).1, (f2 b hb).2⟩, by rw [h3, Heap.size_push]; exact Nat.lt_succ_of_lt lt⟩
  have st3 : tn 0 s3.heap := T.keep _ _ _ st2 fun b _ o e => by rw [h3]; exact Heap.get?_push_of_some _ e
  have I4 := block_start I3 ok hN f3
  let cells := cellsFrom (s3.heap.objs.size + 1) scope.names (cloFrom X.env.cells scope.names [])
  have pg := hg s3 (upd H2 D (SetO X.w D (fun _ => false) 0)) s3.heap.objs.size cells fp
  have pt := ht s3 (upd H2 D (SetO X.w D (fun _ => false) 0)) s3.heap.objs.size cells fp
  have pe := he s3 (upd H2 D (SetO X.w D (fun _ => false) 0)) s3.heap.objs.size cells fp
  show codeAny _ _ (.compStart _ 0 (.ref it) (.ref D) (compEnvC scope cells s3.heap.objs.size X.env)) _ { s3 with heap := pushCells (s3.heap.push { cls := .type "dict", data := .dict #[] }) scope.names }
  change Inv (X.blk s3 _ scope (compEnvC scope cells s3.heap.objs.size X.env) fp) [] _ _ _ at I4
  generalize hce : compEnvC scope cells s3.heap.objs.size X.env = ce at I4 pg pt pe ⊢
  have cL : ce.locals = s3.heap.objs.size := by rw [← hce]; rfl
  generalize hH3 : upd H2 D (SetO X.w D (fun _ => false) 0) = H3 at I3 I4 pg pt pe w0 f3
  generalize hs4 : ({ s3 with heap := pushCells (s3.heap.push { cls := .type "dict", data := .dict #[] }) scope.names } : Shared) = s4 at I4 ⊢
  have st4 : tn 0 s4.heap := T.keep _ _ _ st3 fun b _ o e => by rw [← hs4]; exact pushCells_keeps _ _ _ _ (Heap.get?_push_of_some _ e)
  -- the iterator's own cells within the block
  have inside : ∀ {σ' : L2.St} {H' : Hp} {s' : Shared}, Inv (X.blk s3 H3 scope ce fp) [] σ' H' s' → (∀ b ∈ fp, H' b = none) → ∀ b ∈ fp, FpOk (X.blk s3 H3 scope ce fp) [] H' b := fun I' hn b hb =>
    ⟨hn b hb, (I'.ok.exf b hb).1, I'.ok.exfs b hb, .inl hb, (I'.ok.exf b hb).2 |> fun k x c e => k x c e, fun p hp => nomatch hp⟩
  have loop : codeAny (model X.prog X.w) X.A (.compLoop (.SetComp elt [⟨tg, iter, ifs, 0⟩] scope pos) 0 (.ref it) (.ref D) ce) (compPost (model X.prog X.w) X.A X.xe none (EP X pins σ Q) (.ref D) s3.heap.objs.size) s4 := by
    refine compLoopS_any (fun n s' => ∃ i H', Inv (X.blk s3 H3 scope ce fp) [] (wipe σ (own.map (·.2))) H' s' ∧ tn i s'.heap ∧ (∀ b ∈ fp, H' b = none) ∧ W i n H') ?_ m0 ⟨0, H3, I4, st4, fun b hb => (f3 b hb).1.1, w0⟩
    rintro n s5 ⟨i, H5, I5, st5, n5, w5⟩
    rcases turn i n H5 w5 with ⟨stop, wish⟩ | ⟨go, Nx, hNx, step⟩
    · refine thnF (T.done (X.blk s3 H3 scope ce fp) rfl rfl rfl hc i [] s5 _ H5 (fun _ _ => False) I5 (inside I5 n5) st5 stop) fun r s6 ⟨hr, I6⟩ => ?_
      subst hr
      have I7 : Inv X pins σ H5 s6 := I3.call' (ch := fp) I6.os I6.base I6.hok I6.bare fun b hb => ⟨(f3 b hb).1.2.2.2.1, (f3 b hb).1.2.1, (f3 b hb).1.2.2.2.2.1, (f3 b hb).1.2.2.2.2.2⟩
      have nC : H5 ce.locals = none := I6.free
      obtain ⟨m, hn, _⟩ := I6.loc
      have hn' : s6.heap.Ns ce.locals m := hn
      rw [cL] at hn' nC
      obtain ⟨e0, e1, e2, e3, e4, e5⟩ := I3.fpOk (Nat.le_refl _) nC
      exact ⟨m, hn', fun h'' sb => ⟨.ref D, H5, I7.turned (t' := s6.toks) (fun b o hb e => (sb.2 b hb).trans e) e0 e1 e3 e4 e5, rfl, wish⟩⟩
    · refine thnF (T.item (X.blk s3 H3 scope ce fp) rfl rfl rfl hc i [] s5 _ H5 (fun _ _ => False) I5 (inside I5 n5) st5 go) fun r s6 ⟨u, hr, h6⟩ => ?_
      subst hr
      refine thnF h6 fun _ s7 ⟨x, H7, I7, r7, y7, st7, n7⟩ => thnF (pg.run _ s7 _ H7 x u _ (I7.pinned (inside I7 n7) (T.obj _ _ st7)) r7 (step x H7 y7)) fun _ s8 ⟨σ8, H8, I8, hw8, q8⟩ => thnF (pt.run _ s8 σ8 H8 _ I8 q8) fun b s9 ⟨H9, I9, q9⟩ => ?_
      have fin : ∀ {s' : Shared} {H' : Hp}, Inv (X.blk s3 H3 scope ce fp) ([] ++ pinsAt fp s7.heap) σ8 H' s' → Nx H' → ∃ m, m < n ∧ ∃ i H', Inv (X.blk s3 H3 scope ce fp) [] (wipe σ (own.map (·.2))) H' s' ∧ tn i s'.heap ∧ (∀ b ∈ fp, H' b = none) ∧ W i m H' := fun {s' H'} I' nx => by
        obtain ⟨m', hm, w'⟩ := hNx H' nx
        have held : ∀ b ∈ fp, ∀ o, s7.heap.get? b = some o → s'.heap.get? b = some o ∧ H' b = none := fun b hb o e => by
          have z := I'.pin (b, o) (List.mem_append_right _ (List.mem_append_right _ (mem_pinsAt hb e)))
          exact ⟨z.1, z.2.1⟩
        refine ⟨m', hm, i + 1, H', (I'.unpinned (pins := [])).weak (by rw [← hw8, wipe_length]) (fun j v e => ?_), T.keep _ _ _ st7 fun b hb o e => (held b hb o e).1, fun b hb => ?_, w'⟩
        · rw [← hw8] at e
          exact (wipe_some e).1
        · obtain ⟨o, e, _⟩ := T.obj _ _ st7 b hb
          exact (held b hb o e).2
      cases b with
      | false => exact fin I9 q9
      | true =>
        refine thnF (pe.run _ s9 σ8 H9 _ I9 q9) fun z s10 ⟨yv, H10, I10, r10, k, S0, n0, ey, hD10, hz10, nx⟩ => ?_
        subst ey
        refine thnF (mt_sadd (X := X.blk s3 H3 scope ce fp) _ s10 σ8 H10 (.ref D) [.int k] (.ref D) [z] (fun _ H' => Nx H') I10 rfl (.cons r10 .nil) ⟨D, k, S0, n0, rfl, rfl, hD10, hz10, nx⟩) fun _ s11 ⟨_, H11, I11, _, nx'⟩ => fin I11 nx'
  exact codeAny_compStart_set loop (T.self X.A 0 _ _ _ st4 loop)
end
end SK
namespace SK
open PySem PySem.Spec PyProof.Rows L2
theorem sci_it {J : It} {n : Nat} {G : Hp → Prop} {Y : Nat → Hp → V → Hp → Prop} {w : World} (wk : Walk J n G Y) {g : TG} {tt : TT} {te : TE} {vs : List Nat} {σ : L2.St} {H1 : Hp} {D : Addr} {Qd : Hp → Prop} (Pv : Nat → Hp → Prop) (h0 : Pv 0 (upd H1 D (SetO w D (fun _ => false) 0))) (hG : ∀ i H, i ≤ n → Pv i H → G H)
    (hs : ∀ i x H H', i < n → Pv i H → Y i H x H' → g x (wipe σ vs) H' fun σ2 H2 => wipe σ2 vs = wipe σ vs ∧ tt σ2 H2 fun b H3 =>
      if b = true then te σ2 H3 fun y H4 => ∃ (k : Int) (S : Int → Bool) (n : Nat), y = .int k ∧ H4 D = some (SetO w D S n) ∧ n + 1 < scanBound ∧ Pv (i + 1) (upd H4 D (SetO w D (fun j => S j || decide (j = k)) (if S k = true then n else n + 1))) else Pv (i + 1) H3)
    (hd : ∀ H, Pv n H → Qd H) : ∃ W : Nat → Nat → Hp → Prop, (∃ m, W 0 m (upd H1 D (SetO w D (fun _ => false) 0))) ∧ ∀ i m H, W i m H → (J.stop i H ∧ Qd H) ∨
      (J.go i H ∧ ∃ Nx : Hp → Prop, (∀ H', Nx H' → ∃ m', m' < m ∧ W (i + 1) m' H') ∧ ∀ x H', J.yld i H x H' → g x (wipe σ vs) H' fun σ2 H2 => wipe σ2 vs = wipe σ vs ∧ tt σ2 H2 fun b H3 =>
        if b = true then te σ2 H3 fun y H4 => ∃ (k : Int) (S : Int → Bool) (n : Nat), y = .int k ∧ H4 D = some (SetO w D S n) ∧ n + 1 < scanBound ∧ Nx (upd H4 D (SetO w D (fun j => S j || decide (j = k)) (if S k = true then n else n + 1))) else Nx H3) := by
  refine ⟨fun i m H => m = n - i ∧ i ≤ n ∧ Pv i H, ⟨_, rfl, Nat.zero_le _, h0⟩, ?_⟩
  rintro i m H ⟨rfl, hi, p⟩
  have q := hG i H hi p
  by_cases hlt : i < n
  · exact .inr ⟨wk.goes i H hlt q, Pv (i + 1), fun H' p' => ⟨_, by omega, rfl, hlt, p'⟩, fun x H' y => hs i x H H' hlt p (wk.yields i H x H' hlt q y)⟩
  · have e : i = n := by omega
    subst e
    exact .inl ⟨wk.stops H q, hd H p⟩
/-! ### the letters of a piece -/
def isI (s : Sy) (j : Int) : Bool := match s with
  | .l k => decide (j = (k : Int))
  | _ => false
def hasI (v : List Sy) (j : Int) : Bool := v.any fun s => isI s j
def numI (v : List Sy) : Nat := ((List.range 8).filter fun (j : Nat) => hasI v (j : Int)).length
theorem hasI_app (v : List Sy) (s : Sy) (j : Int) : hasI (v ++ [s]) j = (hasI v j || isI s j) := by
  unfold hasI
  rw [List.any_append]
  simp
theorem hasI_mem {v : List Sy} {k : Nat} : hasI v (k : Int) = true ↔ Sy.l k ∈ v := by
  unfold hasI
  rw [List.any_eq_true]
  constructor
  · rintro ⟨s, hs, e⟩
    cases s with
    | l j =>
      have : (k : Int) = (j : Int) := of_decide_eq_true e
      have : k = j := by omega
      subst this
      exact hs
    | p => cases e
    | m => cases e
    | o => cases e
    | c => cases e
  · intro h
    exact ⟨_, h, decide_eq_true rfl⟩
theorem count_add : ∀ {l : List Nat} {p : Nat → Bool} {k : Nat}, l.Nodup → k ∈ l → p k = false → (l.filter fun j => p j || decide ((j : Int) = (k : Int))).length = (l.filter p).length + 1
  | [], _, _, _, h, _ => by cases h
  | a :: l, p, k, nd, hm, hp => by
    have nd' := (List.nodup_cons.mp nd)
    by_cases e : a = k
    · subst e
      have rest : (l.filter fun j => p j || decide ((j : Int) = (a : Int))) = l.filter p := by
        refine List.filter_congr fun j hj => ?_
        have : ¬ ((j : Int) = (a : Int)) := fun z => by
          have : j = a := by omega
          subst this
          exact nd'.1 hj
        rw [decide_eq_false this, Bool.or_false]
      rw [List.filter_cons, List.filter_cons, rest, hp]
      simp
    · have hm' : k ∈ l := by
        rcases List.mem_cons.mp hm with h | h
        · exact absurd h.symm e
        · exact h
      have ih := count_add (p := p) nd'.2 hm' hp
      have ne : ¬ ((a : Int) = (k : Int)) := fun z => e (by omega)
      rw [List.filter_cons, List.filter_cons, decide_eq_false ne, Bool.or_false]
      cases hpa : p a with
      | true => simp only [if_true, List.length_cons, ih]
      | false => simp only [Bool.false_eq_true, if_false, ih]
theorem numI_le (v : List Sy) : numI v ≤ 8 := by
  unfold numI
  have := List.length_filter_le (fun (j : Nat) => hasI v (j : Int)) (List.range 8)
  rw [List.length_range] at this
  exact this
theorem numI_app (v : List Sy) {k : Nat} (h : k < 8) : numI (v ++ [.l k]) = if hasI v (k : Int) = true then numI v else numI v + 1 := by
  unfold numI
  have e : (fun (j : Nat) => hasI (v ++ [.l k]) (j : Int)) = fun (j : Nat) => hasI v (j : Int) || decide ((j : Int) = (k : Int)) := by
    funext j
    rw [hasI_app]
    rfl
  rw [e]
  cases hk : hasI v (k : Int) with
  | true =>
    rw [if_pos rfl]
    congr 1
    refine List.filter_congr fun j _ => ?_
    by_cases z : (j : Int) = (k : Int)
    · rw [z, hk]; rfl
    · rw [decide_eq_false z, Bool.or_false]
  | false =>
    rw [if_neg (by simp)]
    exact count_add List.nodup_range (List.mem_range.mpr h) hk
theorem nat_list : ∀ {ns : List Int}, (∀ i ∈ ns, 0 ≤ i) → ∃ ls : List Nat, ns = ls.map fun (k : Nat) => (k : Int)
  | [], _ => ⟨[], rfl⟩
  | i :: ns, h => by
    obtain ⟨ls, e⟩ := nat_list (ns := ns) fun j hj => h j (List.mem_cons_of_mem _ hj)
    exact ⟨i.toNat :: ls, by rw [e, List.map_cons, Int.toNat_of_nonneg (h i List.mem_cons_self)]⟩
def iV (ls : List Nat) : List V := ls.map fun (k : Nat) => V.int (k : Int)
def spLettersIn (K : PySem.W.Frag) : Sp := fun vs H Q _ => ∃ (a : Addr) (w : List Sy), vs = [.ref a] ∧ Sq K H a (wv w) ∧ (∀ k, Sy.l k ∈ w → k < 8) ∧
  ∀ (H' : Hp) (p : Addr) (ls : List Nat), Same H H' → H p = none → H' p = some (.lst (iV ls)) → (∀ k, k ∈ ls ↔ Sy.l k ∈ w) → ls.length ≤ 8 → Q (.ref p) H'
section
variable {P : Program} {w : World} {K : PySem.W.Frag} {mg : Str → Option Value} {base : Heap}
theorem ok_lettersin {f : Addr} {fd : FuncData} {k : Nat} (F : Fun K "letters_in" "letters_in" s_letters_in f fd) (mI : mg "isinstance" = none) (mS : mg "str" = none) (mO : mg "sorted" = none) : FnOk P w K mg base CX0 (k + 1) f fd ["parts"] (spLettersIn K) := by
  refine F.ok sc_letters_in (fun vs H Q E h => ?_) (fun cdv A outer s H vs Q E hr h => ?_)
  · obtain ⟨a, w, rfl, _⟩ := h
    rfl
  · obtain ⟨a, wd, rfl, ha, hb, q⟩ := h
    have nd := sc_letters_in.nd
    refine ⟨_, pss_one (ps_ret (pe_callB (cr_sortedSet rfl) (by rfl) mO (by decide +kernel) (pa_cons
      (pe_sci (own := [("part", 1)]) (g := gName 1) (tt := tNotStr K 1) rfl nd (pi_seq (pv 0)) (blkOk_by (N := n_letters_in) (sc := defScope s_letters_in) (by decide +kernel))
        (fun _ _ _ _ _ => pg_name (i := 1) nd rfl (Or.inl rfl)) (fun _ _ _ _ _ => pts_one (ptNotStr mI mS (pv 1))) (fun _ _ _ _ _ => pv 1)) pa_nil))), ?_⟩
    have go : ∀ {J : It} {G : Hp → Prop}, Walk J (wv wd).length G (YAt (wv wd)) → (∀ H', Same H H' → G H') → ∀ D, H D = none → ∀ (Qd : Hp → Prop), (∀ H', Same H H' → H' D = some (SetO w D (hasI wd) (numI wd)) → Qd H') →
        ∃ W : Nat → Nat → Hp → Prop, (∃ m, W 0 m (upd H D (SetO w D (fun _ => false) 0))) ∧ ∀ i m H, W i m H → (J.stop i H ∧ Qd H) ∨
          (J.go i H ∧ ∃ Nx : Hp → Prop, (∀ H', Nx H' → ∃ m', m' < m ∧ W (i + 1) m' H') ∧ ∀ x H', J.yld i H x H' → gName 1 x (wipe (L2.start n_letters_in [V.ref a]) [1]) H' fun σ2 H2 => wipe σ2 [1] = wipe (L2.start n_letters_in [V.ref a]) [1] ∧ tNotStr K 1 σ2 H2 fun b H3 =>
            if b = true then tVar 1 σ2 H3 fun y H4 => ∃ (k : Int) (S : Int → Bool) (n : Nat), y = .int k ∧ H4 D = some (SetO w D S n) ∧ n + 1 < scanBound ∧ Nx (upd H4 D (SetO w D (fun j => S j || decide (j = k)) (if S k = true then n else n + 1))) else Nx H3) := by
      intro J G wk hG D nD Qd hq
      refine sci_it wk (fun i H' => Same H H' ∧ H' D = some (SetO w D (hasI (wd.take i)) (numI (wd.take i)))) ⟨same_upd nD, upd_same⟩ (fun i H' _ p => hG H' p.1) ?_ ?_
      · rintro i x H1 H2 hi ⟨S1, hD⟩ ⟨rfl, hx⟩
        obtain ⟨sy, hs, rfl⟩ := wv_get hx
        obtain ⟨tn, tb, ht, hk, htb⟩ := ty_sy (K := K) (H := H2) sy
        refine ⟨rfl, _, rfl, sy.v, tn, tb, rfl, ht, hk, tb, rfl, ?_⟩
        subst htb
        rw [Bool.not_not, take_more hs]
        cases sy with
        | l k =>
          refine iteT ⟨_, rfl, (k : Int), hasI (wd.take i), numI (wd.take i), rfl, hD, ?_, sPut S1 nD, ?_⟩
          · have := numI_le (wd.take i)
            exact Nat.lt_of_le_of_lt (show numI (wd.take i) + 1 ≤ 9 by omega) (by decide)
          · rw [upd_same, numI_app _ (hb k (List.mem_of_getElem? hs))]
            congr 2
            funext j
            rw [hasI_app]
            rfl
        | p => exact iteF ⟨S1, by rw [hD]; congr 2; exact (funext fun j => by rw [hasI_app, show isI .p j = false from rfl, Bool.or_false]); simp only [numI, hasI_app]; simp [isI]⟩
        | m => exact iteF ⟨S1, by rw [hD]; congr 2; exact (funext fun j => by rw [hasI_app, show isI .m j = false from rfl, Bool.or_false]); simp only [numI, hasI_app]; simp [isI]⟩
        | o => exact iteF ⟨S1, by rw [hD]; congr 2; exact (funext fun j => by rw [hasI_app, show isI .o j = false from rfl, Bool.or_false]); simp only [numI, hasI_app]; simp [isI]⟩
        | c => exact iteF ⟨S1, by rw [hD]; congr 2; exact (funext fun j => by rw [hasI_app, show isI .c j = false from rfl, Bool.or_false]); simp only [numI, hasI_app]; simp [isI]⟩
      · rintro H1 ⟨S1, hD⟩
        rw [List.length_map, List.take_length] at hD
        exact hq H1 S1 hD
    have fin : ∀ (D : Addr) (H' : Hp), Same H H' → H' D = some (SetO w D (hasI wd) (numI wd)) → rSortedSet w [.ref D] H' Q := by
      intro D H' S1 hD
      refine ⟨D, hasI wd, numI wd, rfl, hD, Nat.lt_of_le_of_lt (numI_le wd) (by decide), fun ns p hs hm hl np => ?_⟩
      obtain ⟨ls, rfl⟩ := nat_list (ns := ns) fun i hi => by
        have h1 := (hm i).mp hi
        unfold hasI at h1
        obtain ⟨s, _, e⟩ := List.any_eq_true.mp h1
        cases s with
        | l j => have : i = (j : Int) := of_decide_eq_true e; omega
        | p => cases e
        | m => cases e
        | o => cases e
        | c => cases e
      refine q _ p ls (sUpd S1 np) (S1.free np) ?_ (fun k => ?_) ?_
      · rw [upd_same, List.map_map]; rfl
      · rw [← hasI_mem, ← hm (k : Int)]
        constructor
        · intro h; exact List.mem_map.mpr ⟨k, h, rfl⟩
        · intro h
          obtain ⟨j, hj, e⟩ := List.mem_map.mp h
          have : j = k := by omega
          rw [← this]; exact hj
      · rw [List.length_map] at hl
        rw [hl]; exact numI_le wd
    rcases ha with ha | ha
    · exact ⟨a, rfl, .inl ⟨⟨_, ha⟩, fun D nD => go walk_list (fun H' S => S.seq ha) D nD _ fun H' S1 hD => fin D H' S1 hD⟩⟩
    · exact ⟨a, rfl, .inr ⟨⟨_, ha⟩, fun D nD => go walk_tup (fun H' S => sTup S ha) D nD _ fun H' S1 hD => fin D H' S1 hD⟩⟩
end
end SK
namespace SK
open PySem PySem.Spec PyProof.Rows L2
/-- a walk by an invariant, told by what one turn brings -/
theorem walk_by {J : It} {n : Nat} {G : Hp → Prop} {Y : Nat → Hp → V → Hp → Prop} (wk : Walk J n G Y) {H0 : Hp} {turn : V → Hp → (Hp → Prop) → Prop} {Qd : Hp → Prop} (Pv : Nat → Hp → Prop) (h0 : Pv 0 H0) (hG : ∀ i H, Pv i H → G H)
    (hs : ∀ i x H H', i < n → Pv i H → Y i H x H' → turn x H' (Pv (i + 1))) (hd : ∀ H, Pv n H → Qd H) : ∃ W : Nat → Nat → Hp → Prop, (∃ m, W 0 m H0) ∧ ∀ i m H, W i m H → (J.stop i H ∧ Qd H) ∨
      (J.go i H ∧ ∃ Nx : Hp → Prop, (∀ H', Nx H' → ∃ m', m' < m ∧ W (i + 1) m' H') ∧ ∀ x H', J.yld i H x H' → turn x H' Nx) := by
  refine ⟨fun i m H => m = n - i ∧ i ≤ n ∧ Pv i H, ⟨_, rfl, Nat.zero_le _, h0⟩, ?_⟩
  rintro i m H ⟨rfl, hi, p⟩
  have q := hG i H p
  by_cases hlt : i < n
  · exact .inr ⟨wk.goes i H hlt q, Pv (i + 1), fun H' p' => ⟨_, by omega, rfl, hlt, p'⟩, fun x H' y => hs i x H H' hlt p (wk.yields i H x H' hlt q y)⟩
  · have e : i = n := by omega
    subst e
    exact .inl ⟨wk.stops H q, hd H p⟩
def spNext : Sp := fun vs H Q _ => ∃ (p l : Addr) (as : List Addr) (ws : List (List Sy)) (ls : List Nat), vs = [.ref p, .ref l] ∧ H p = some (.tup (as.map V.ref)) ∧ Words H as ws ∧ H l = some (.lst (iV ls)) ∧ (∀ k ∈ ls, k < ws.length) ∧ ls.length ≤ 8 ∧ ws.length ≤ 8 ∧ (∀ w ∈ ws, Good ws.length 40 w) ∧
  ∀ (H' : Hp) (q : Addr) (ls' : List Nat), Same H H' → H q = none → H' q = some (.lst (iV ls')) → (∀ k, k ∈ ls' ↔ ∃ j ∈ ls, Sy.l k ∈ ws.getD j []) → ls'.length ≤ 8 → Q (.ref q) H'
section
variable {P : Program} {w : World} {K : PySem.W.Frag} {mg : Str → Option Value} {base : Heap}
theorem ok_next {f : Addr} {fd : FuncData} {k : Nat} (F : Fun K "next_letters" "next_letters" s_next_letters f fd) (GL : Got P w K mg base "letters_in" k ["parts"] (spLettersIn K)) : FnOk P w K mg base CX0 (k + 1) f fd ["words", "letters"] spNext := by
  refine F.ok sc_next_letters (fun vs H Q E h => ?_) (fun cdv A outer s H vs Q E hr h => ?_)
  · obtain ⟨p, l, as, ws, ls, rfl, _⟩ := h
    rfl
  · obtain ⟨p, l, as, ws, ls, rfl, hp, hw, hl, hk, hz, hz2, hg, q⟩ := h
    have nd := sc_next_letters.nd
    refine ⟨_, pss_one (ps_ret (pcall GL hr (pa_cons
      (pe_lc2 (own := [("letter", 2), ("part", 3)]) (vs1 := [3]) (wi1 := iTup K (tOp (rIxT K) (tVar 0) (tVar 2))) (g := gName 2) (g1 := gName 3) (tt := tYes) (tt1 := tYes) rfl nd (pi_list (pv 1)) (blkOk_by (N := n_next_letters) (sc := defScope s_next_letters) (by decide +kernel)) (by decide)
        (fun _ _ _ _ _ => pg_name (i := 2) nd rfl (Or.inl rfl)) (fun _ _ _ _ _ => pts_nil) (fun _ _ _ _ _ => pi_tup (pixT (pv 0) (pv 2))) (fun _ _ _ _ _ => pg_name (i := 3) nd rfl (Or.inl rfl)) (fun _ _ _ _ _ => pts_nil) (fun _ _ _ _ _ => pv 3)) pa_nil))), ?_⟩
    refine ⟨_, rfl, l, rfl, ⟨_, SqL.of hl⟩, fun D nD => ?_⟩
    have lz : ∀ i, ((ls.take i).flatMap fun j => ws.getD j []).length ≤ 40 * 8 := by
      have : ∀ js : List Nat, ((js.flatMap fun j => ws.getD j []).length) ≤ 40 * js.length := by
        intro js
        induction js with
        | nil => exact Nat.zero_le _
        | cons j js ih =>
          rw [List.flatMap_cons, List.length_append, List.length_cons]
          have : (ws.getD j []).length ≤ 40 := by
            rw [List.getD_eq_getElem?_getD]
            cases e : ws[j]? with
            | none => exact Nat.zero_le _
            | some w => exact (hg w (List.mem_of_getElem? e)).len
          omega
      intro i
      have h1 := this (ls.take i)
      have h2 : (ls.take i).length ≤ ls.length := by rw [List.length_take]; omega
      omega
    refine walk_by (walk_list (K := K) (a := l) (xs := iV ls)) (fun i H' => Same H H' ∧ H' D = some (.lst (wv ((ls.take i).flatMap fun j => ws.getD j [])))) ⟨same_upd nD, upd_same⟩ (fun i H' p => p.1.seq (SqL.of hl)) ?_ ?_
    · rintro i x H1 H2 hi ⟨S1, hD⟩ ⟨rfl, hx⟩
      obtain ⟨j, hj, rfl⟩ : ∃ j, ls[i]? = some j ∧ x = V.int (j : Int) := by
        unfold iV at hx
        rw [List.getElem?_map] at hx
        cases e : ls[i]? with
        | none => rw [e] at hx; cases hx
        | some j => rw [e] at hx; exact ⟨j, rfl, (Option.some.inj hx).symm⟩
      have hjw := hk j (List.mem_of_getElem? hj)
      obtain ⟨a, ha, hta⟩ := paired_get hw (List.getElem?_eq_getElem hjw)
      have ej : ws.getD j [] = ws[j] := by rw [List.getD_eq_getElem?_getD, List.getElem?_eq_getElem hjw]; rfl
      have gj := (hg _ (List.getElem_mem hjw)).len
      have et : ((ls.take (i + 1)).flatMap fun j => ws.getD j []) = ((ls.take i).flatMap fun j => ws.getD j []) ++ ws[j] := by
        rw [take_more hj, List.flatMap_append, List.flatMap_cons, List.flatMap_nil, List.append_nil, ej]
      have li := lz i
      rw [et]
      generalize ((ls.take i).flatMap fun j => ws.getD j []) = acc at hD li
      generalize ws[j] = wj at hta gj
      refine ⟨rfl, _, rfl, _, rfl, p, _, _, .ref a, rfl, rfl, SqT.of (S1 _ _ hp), atI_nat (by rw [List.getElem?_map, ha]; rfl), a, rfl, ⟨_, (hta.same S1).sq⟩, ?_⟩
      refine walk_by (walk_tup (K := K) (a := a) (xs := wv wj)) (fun m H' => Same H H' ∧ H' D = some (.lst (wv (acc ++ wj.take m)))) ⟨S1, by rw [hD, List.take_zero, List.append_nil]⟩ (fun m H' p => (hta.same p.1).sq) ?_ ?_
      · rintro m y H3 H4 hm ⟨S3, hD3⟩ ⟨rfl, hy⟩
        obtain ⟨s, hs, rfl⟩ := wv_get hy
        refine ⟨rfl, _, rfl, _, hD3, ?_, sPut S3 nD, ?_⟩
        · have : (wj.take m).length ≤ wj.length := by rw [List.length_take]; omega
          rw [List.length_map, List.length_append, sizeLine_eq]; omega
        · rw [upd_same, take_more hs, ← List.append_assoc]
          simp only [wv, List.map_append, List.map_cons, List.map_nil]
      · rintro H3 ⟨S3, hD3⟩
        rw [List.length_map, List.take_length] at hD3
        exact ⟨S3, hD3⟩
    · rintro H1 ⟨S1, hD⟩
      have hD' : H1 D = some (.lst (wv (ls.flatMap fun j => ws.getD j []))) := by
        rw [hD]
        unfold iV
        rw [List.length_map, List.take_length]
      refine ⟨D, _, rfl, .inl (SqL.of hD'), fun k hk2 => ?_, fun H2 p2 ls' S2 n2 h2 hm hl2 => q H2 p2 ls' (S1.trans S2) (S1.free n2) h2 (fun k => ?_) hl2⟩
      · obtain ⟨j, hj, h⟩ := List.mem_flatMap.mp hk2
        rw [List.getD_eq_getElem?_getD] at h
        cases e : ws[j]? with
        | none => rw [e] at h; cases h
        | some w => rw [e] at h; have := (hg w (List.mem_of_getElem? e)).lets k h; omega
      · rw [hm, List.mem_flatMap]
end
end SK
namespace SK
open PySem PySem.Spec PyProof.Rows L2
/-! ### a pen along paths: each letter a whole path, that ends somewhere -/
abbrev Plc := Int × Int × Int
abbrev Pth := Nat → Plc
def rot (h : Int) (p : Int × Int) : Int × Int := if h % 4 = 0 then p else if h % 4 = 1 then (-p.2, p.1) else if h % 4 = 2 then (-p.1, -p.2) else (p.2, -p.1)
/-- a place with a heading, as seen from another one -/
def mv (a q : Plc) : Plc := (a.1 + (rot a.2.2 (q.1, q.2.1)).1, a.2.1 + (rot a.2.2 (q.1, q.2.1)).2, (a.2.2 + q.2.2) % 4)
def sh (a : Plc) (s : Stk) : Stk := ((mv a (s.1, s.2.1, s.2.2.1)).1, (mv a (s.1, s.2.1, s.2.2.1)).2.1, (mv a (s.1, s.2.1, s.2.2.1)).2.2, s.2.2.2)
def Pen.pl (p : Pen) : Plc := (p.x, p.y, p.h)
def pstepE (E : Pth) (p : Pen) : Sy → Pen
  | .l k => { p with out := p.out ++ [(p.x, p.y, p.h, k)], x := (mv p.pl (E k)).1, y := (mv p.pl (E k)).2.1, h := (mv p.pl (E k)).2.2 }
  | s => pstep p s
def penF (E : Pth) (p : Pen) (w : List Sy) : Pen := w.foldl (pstepE E) p
def org : Pen := ⟨0, 0, 0, [], []⟩
def penE (E : Pth) (w : List Sy) : Pen := penF E org w
/-- each letter a stroke -/
def one : Pth := fun _ => (1, 0, 0)
theorem penF_app (E : Pth) (p : Pen) (v w : List Sy) : penF E p (v ++ w) = penF E (penF E p v) w := List.foldl_append
theorem penF_cons (E : Pth) (p : Pen) (s : Sy) (w : List Sy) : penF E p (s :: w) = penF E (pstepE E p s) w := rfl
theorem rot_mod (h : Int) (p : Int × Int) : rot (h % 4) p = rot h p := by
  unfold rot
  rw [show h % 4 % 4 = h % 4 by omega]
theorem rot4 (h : Int) : (h % 4 = 0 ∧ ∀ p, rot h p = p) ∨ (h % 4 = 1 ∧ ∀ p, rot h p = (-p.2, p.1)) ∨ (h % 4 = 2 ∧ ∀ p, rot h p = (-p.1, -p.2)) ∨ (h % 4 = 3 ∧ ∀ p, rot h p = (p.2, -p.1)) := by
  have e : h % 4 = 0 ∨ h % 4 = 1 ∨ h % 4 = 2 ∨ h % 4 = 3 := by omega
  rcases e with e | e | e | e
  · exact .inl ⟨e, fun p => by unfold rot; rw [if_pos e]⟩
  · exact .inr (.inl ⟨e, fun p => by unfold rot; rw [if_neg (by omega), if_pos e]⟩)
  · exact .inr (.inr (.inl ⟨e, fun p => by unfold rot; rw [if_neg (by omega), if_neg (by omega), if_pos e]⟩))
  · exact .inr (.inr (.inr ⟨e, fun p => by unfold rot; rw [if_neg (by omega), if_neg (by omega), if_neg (by omega)]⟩))
theorem rot_rot (a b : Int) (p : Int × Int) : rot a (rot b p) = rot (a + b) p := by
  obtain ⟨x, y⟩ := p
  rcases rot4 a with ⟨ha, ea⟩ | ⟨ha, ea⟩ | ⟨ha, ea⟩ | ⟨ha, ea⟩ <;> rcases rot4 b with ⟨hb, eb⟩ | ⟨hb, eb⟩ | ⟨hb, eb⟩ | ⟨hb, eb⟩ <;>
    rcases rot4 (a + b) with ⟨hc, ec⟩ | ⟨hc, ec⟩ | ⟨hc, ec⟩ | ⟨hc, ec⟩ <;> first | (exfalso; omega) | (rw [ea, eb, ec] <;> first | done | (refine Prod.ext ?_ ?_ <;> dsimp only <;> omega))
theorem rot_add (h : Int) (p q : Int × Int) : rot h (p.1 + q.1, p.2 + q.2) = ((rot h p).1 + (rot h q).1, (rot h p).2 + (rot h q).2) := by
  rcases rot4 h with ⟨ha, ea⟩ | ⟨ha, ea⟩ | ⟨ha, ea⟩ | ⟨ha, ea⟩ <;> rw [ea, ea, ea] <;> simp <;> omega
theorem mv_mv (a b c : Plc) : mv (mv a b) c = mv a (mv b c) := by
  have e1 : rot (mv a b).2.2 (c.1, c.2.1) = rot a.2.2 (rot b.2.2 (c.1, c.2.1)) := by
    rw [rot_rot]
    show rot ((a.2.2 + b.2.2) % 4) _ = _
    rw [rot_mod]
  have e2 := rot_add a.2.2 (b.1, b.2.1) (rot b.2.2 (c.1, c.2.1))
  show ((mv a b).1 + (rot (mv a b).2.2 (c.1, c.2.1)).1, (mv a b).2.1 + (rot (mv a b).2.2 (c.1, c.2.1)).2, ((mv a b).2.2 + c.2.2) % 4) =
    (a.1 + (rot a.2.2 (b.1 + (rot b.2.2 (c.1, c.2.1)).1, b.2.1 + (rot b.2.2 (c.1, c.2.1)).2)).1, a.2.1 + (rot a.2.2 (b.1 + (rot b.2.2 (c.1, c.2.1)).1, b.2.1 + (rot b.2.2 (c.1, c.2.1)).2)).2, (a.2.2 + (b.2.2 + c.2.2) % 4) % 4)
  rw [e1, e2]
  refine Prod.ext ?_ (Prod.ext ?_ ?_)
  · show a.1 + (rot a.2.2 (b.1, b.2.1)).1 + _ = a.1 + ((rot a.2.2 (b.1, b.2.1)).1 + _)
    omega
  · show a.2.1 + (rot a.2.2 (b.1, b.2.1)).2 + _ = a.2.1 + ((rot a.2.2 (b.1, b.2.1)).2 + _)
    omega
  · show ((a.2.2 + b.2.2) % 4 + c.2.2) % 4 = (a.2.2 + (b.2.2 + c.2.2) % 4) % 4
    omega
/-- a pen as seen from a place, with what stood ahead of it -/
def comp (a : Plc) (st : List Plc) (out : List Stk) (q : Pen) : Pen := ⟨(mv a q.pl).1, (mv a q.pl).2.1, (mv a q.pl).2.2, st ++ q.st.map (mv a), out ++ q.out.map (sh a)⟩
theorem comp_step (E : Pth) (a : Plc) (st : List Plc) (out : List Stk) (q : Pen) (s : Sy) (h : s = .c → q.st ≠ []) : pstepE E (comp a st out q) s = comp a st out (pstepE E q s) := by
  cases s with
  | o =>
    show Pen.mk _ _ _ _ _ = Pen.mk _ _ _ _ _
    congr 1
    show (st ++ q.st.map (mv a)) ++ [_] = st ++ (q.st ++ [_]).map (mv a)
    rw [List.map_append, List.append_assoc]
    rfl
  | c =>
    have hne := h rfl
    obtain ⟨t, ht⟩ : ∃ t, q.st.getLast? = some t := ⟨_, List.getLast?_eq_getLast hne⟩
    obtain ⟨tx, ty, th⟩ := t
    have e1 : pstepE E q .c = { q with x := tx, y := ty, h := th, st := q.st.dropLast } := by
      show (match q.st.getLast? with
        | some (a, b, c) => { q with x := a, y := b, h := c, st := q.st.dropLast }
        | none => q) = _
      rw [ht]
    have h2 : (comp a st out q).st.getLast? = some (mv a (tx, ty, th)) := by
      show (st ++ q.st.map (mv a)).getLast? = _
      rw [List.getLast?_append, List.getLast?_map, ht]
      rfl
    have e2 : pstepE E (comp a st out q) .c = { comp a st out q with x := (mv a (tx, ty, th)).1, y := (mv a (tx, ty, th)).2.1, h := (mv a (tx, ty, th)).2.2, st := (comp a st out q).st.dropLast } := by
      show (match (comp a st out q).st.getLast? with
        | some (a', b, c) => { comp a st out q with x := a', y := b, h := c, st := (comp a st out q).st.dropLast }
        | none => comp a st out q) = _
      rw [h2]
    rw [e1, e2]
    show Pen.mk _ _ _ _ _ = Pen.mk _ _ _ _ _
    congr 1
    show (st ++ q.st.map (mv a)).dropLast = st ++ q.st.dropLast.map (mv a)
    rw [List.dropLast_append_of_ne_nil (by simpa using hne), List.map_dropLast]
  | p =>
    show Pen.mk _ _ _ _ _ = Pen.mk _ _ _ _ _
    congr 1
    show ((a.2.2 + q.h) % 4 + 1) % 4 = (a.2.2 + (q.h + 1) % 4) % 4
    omega
  | m =>
    show Pen.mk _ _ _ _ _ = Pen.mk _ _ _ _ _
    congr 1
    show ((a.2.2 + q.h) % 4 + 3) % 4 = (a.2.2 + (q.h + 3) % 4) % 4
    omega
  | l k =>
    have e : mv (comp a st out q).pl (E k) = mv a (mv q.pl (E k)) := mv_mv a q.pl (E k)
    show Pen.mk _ _ _ _ _ = Pen.mk _ _ _ _ _
    rw [e]
    congr 1
    show (out ++ q.out.map (sh a)) ++ [_] = out ++ (q.out ++ [_]).map (sh a)
    rw [List.map_append, List.append_assoc]
    rfl
theorem st_step (E : Pth) (q : Pen) (s : Sy) {d : Nat} (h : nest [s] q.st.length = some d) : (pstepE E q s).st.length = d := by
  cases s with
  | o =>
    have h : some (q.st.length + 1) = some d := h
    show (q.st ++ [_]).length = d
    rw [List.length_append]
    exact Option.some.inj h
  | c =>
    cases hs : q.st.getLast? with
    | none =>
      rw [List.getLast?_eq_none_iff] at hs
      rw [hs] at h
      cases h
    | some t =>
      obtain ⟨a, b, c⟩ := t
      have e2 : pstepE E q .c = { q with x := a, y := b, h := c, st := q.st.dropLast } := by
        show (match q.st.getLast? with
          | some (a, b, c) => { q with x := a, y := b, h := c, st := q.st.dropLast }
          | none => q) = _
        rw [hs]
      rw [e2]
      show q.st.dropLast.length = d
      have hne : 1 ≤ q.st.length := List.length_pos_iff.mpr fun z => by rw [z] at hs; cases hs
      obtain ⟨e, he⟩ : ∃ e, q.st.length = e + 1 := ⟨_, (Nat.sub_add_cancel hne).symm⟩
      rw [he] at h
      have h : some e = some d := h
      rw [List.length_dropLast, he]
      have := Option.some.inj h
      omega
  | p => exact Option.some.inj h
  | m => exact Option.some.inj h
  | l k => exact Option.some.inj h
theorem nest_cons (s : Sy) (w : List Sy) (d : Nat) : nest (s :: w) d = (nest [s] d).bind (nest w) := nest_app [s] w d
theorem st_run (E : Pth) : ∀ (w : List Sy) (q : Pen) {d : Nat}, nest w q.st.length = some d → (penF E q w).st.length = d
  | [], q, d, h => Option.some.inj h
  | s :: w, q, d, h => by
    rw [nest_cons] at h
    cases h1 : nest [s] q.st.length with
    | none => rw [h1] at h; cases h
    | some e =>
      rw [h1] at h
      have e1 := st_step E q s h1
      exact st_run E w (pstepE E q s) (by rw [e1]; exact h)
theorem comp_run (E : Pth) (a : Plc) (st : List Plc) (out : List Stk) : ∀ (w : List Sy) (q : Pen), nest w q.st.length ≠ none → penF E (comp a st out q) w = comp a st out (penF E q w)
  | [], q, _ => rfl
  | s :: w, q, h => by
    rw [nest_cons] at h
    cases h1 : nest [s] q.st.length with
    | none => rw [h1] at h; exact absurd rfl h
    | some e =>
      rw [h1] at h
      have e1 := st_step E q s h1
      rw [penF_cons, penF_cons, comp_step E a st out q s, comp_run E a st out w (pstepE E q s) (by rw [e1]; exact h)]
      rintro rfl z
      rw [z] at h1
      cases h1
/-- headings are 0 to 3 -/
structure HOk (p : Pen) : Prop where
  h : 0 ≤ p.h ∧ p.h < 4
  st : ∀ q ∈ p.st, 0 ≤ q.2.2 ∧ q.2.2 < 4
  out : ∀ q ∈ p.out, 0 ≤ q.2.2.1 ∧ q.2.2.1 < 4
theorem hok_org : HOk org := ⟨⟨by decide, by decide⟩, (fun q h => nomatch h), (fun q h => nomatch h)⟩
theorem hok_step {E : Pth} {p : Pen} (k : HOk p) (s : Sy) : HOk (pstepE E p s) := by
  cases s with
  | o =>
    refine ⟨k.h, fun q hq => ?_, k.out⟩
    rcases List.mem_append.mp (show q ∈ p.st ++ [_] from hq) with h | h
    · exact k.st q h
    · rw [List.mem_singleton.mp h]; exact k.h
  | c =>
    cases hs : p.st.getLast? with
    | none =>
      have e2 : pstepE E p .c = p := by
        show (match p.st.getLast? with
          | some (a, b, c) => { p with x := a, y := b, h := c, st := p.st.dropLast }
          | none => p) = _
        rw [hs]
      rw [e2]
      exact k
    | some t =>
      obtain ⟨a, b, c⟩ := t
      have e2 : pstepE E p .c = { p with x := a, y := b, h := c, st := p.st.dropLast } := by
        show (match p.st.getLast? with
          | some (a, b, c) => { p with x := a, y := b, h := c, st := p.st.dropLast }
          | none => p) = _
        rw [hs]
      rw [e2]
      exact ⟨k.st _ (List.mem_of_getLast? hs), fun q hq => k.st q (List.dropLast_subset _ hq), k.out⟩
  | p => exact ⟨⟨by show 0 ≤ (p.h + 1) % 4; omega, by show (p.h + 1) % 4 < 4; omega⟩, k.st, k.out⟩
  | m => exact ⟨⟨by show 0 ≤ (p.h + 3) % 4; omega, by show (p.h + 3) % 4 < 4; omega⟩, k.st, k.out⟩
  | l j =>
    refine ⟨⟨by show 0 ≤ (p.h + (E j).2.2) % 4; omega, by show (p.h + (E j).2.2) % 4 < 4; omega⟩, k.st, fun q hq => ?_⟩
    rcases List.mem_append.mp (show q ∈ p.out ++ [_] from hq) with h | h
    · exact k.out q h
    · rw [List.mem_singleton.mp h]; exact k.h
theorem hok_run {E : Pth} : ∀ (w : List Sy) {p : Pen}, HOk p → HOk (penF E p w)
  | [], p, k => k
  | s :: w, p, k => hok_run w (hok_step k s)
theorem pen_ext {p q : Pen} (h : p.pl = q.pl) (s : p.st = q.st) (o : p.out = q.out) : p = q := by
  obtain ⟨x, y, h1, st, out⟩ := p
  obtain ⟨x', y', h', st', out'⟩ := q
  cases h
  cases s
  cases o
  rfl
theorem comp_org {p : Pen} (k : HOk p) : comp p.pl p.st p.out org = p := by
  have e : mv p.pl org.pl = p.pl := by
    have e0 : rot p.h (0, 0) = (0, 0) := by rcases rot4 p.h with ⟨_, e⟩ | ⟨_, e⟩ | ⟨_, e⟩ | ⟨_, e⟩ <;> rw [e] <;> rfl
    refine Prod.ext ?_ (Prod.ext ?_ ?_)
    · show p.x + (rot p.h (0, 0)).1 = p.x
      rw [e0]; omega
    · show p.y + (rot p.h (0, 0)).2 = p.y
      rw [e0]; omega
    · show (p.h + 0) % 4 = p.h
      have := k.h
      omega
  refine pen_ext ?_ ?_ ?_
  · exact e
  · exact List.append_nil _
  · exact List.append_nil _
/-- a whole word from wherever the pen stands -/
theorem path_run (E : Pth) {w : List Sy} (hw : nest w 0 = some 0) {p : Pen} (k : HOk p) : (penF E p w).pl = mv p.pl (penE E w).pl ∧ (penF E p w).st = p.st ∧ (penF E p w).out = p.out ++ (penE E w).out.map (sh p.pl) := by
  have e : penF E p w = comp p.pl p.st p.out (penE E w) := by
    have h := comp_run E p.pl p.st p.out w org (by show nest w 0 ≠ none; rw [hw]; exact fun z => nomatch z)
    rw [comp_org k] at h
    exact h
  have hst : (penE E w).st = [] := List.eq_nil_of_length_eq_zero (st_run E w org (show nest w 0 = some 0 from hw))
  rw [e]
  refine ⟨rfl, ?_, rfl⟩
  show p.st ++ (penE E w).st.map (mv p.pl) = p.st
  rw [hst]
  exact List.append_nil _
/-- what a stroke of the coarser path is drawn as -/
def fine (E : Pth) (ws : List (List Sy)) (s : Stk) : List Stk := (penE E (ws.getD s.2.2.2 [])).out.map (sh (s.1, s.2.1, s.2.2.1))
theorem grow_pen {ws : List (List Sy)} {E E' : Pth} : ∀ (w : List Sy), (∀ k, Sy.l k ∈ w → nest (ws.getD k []) 0 = some 0 ∧ E' k = (penE E (ws.getD k [])).pl) → ∀ (p p' : Pen), p.pl = p'.pl → p.st = p'.st → HOk p → p.out = p'.out.flatMap (fine E ws) →
    (penF E p (grow ws w)).pl = (penF E' p' w).pl ∧ (penF E p (grow ws w)).st = (penF E' p' w).st ∧ (penF E p (grow ws w)).out = (penF E' p' w).out.flatMap (fine E ws)
  | [], _, p, p', h1, h2, _, h4 => ⟨h1, h2, h4⟩
  | s :: w, hw, p, p', h1, h2, hk, h4 => by
    have hw' : ∀ k, Sy.l k ∈ w → nest (ws.getD k []) 0 = some 0 ∧ E' k = (penE E (ws.getD k [])).pl := fun k hk => hw k (List.mem_cons_of_mem _ hk)
    rw [show grow ws (s :: w) = img ws s ++ grow ws w from rfl, penF_app, penF_cons]
    have step : ∀ q q' : Pen, q.pl = q'.pl → q.st = q'.st → HOk q → q.out = q'.out.flatMap (fine E ws) → _ := fun q q' a b c d => grow_pen w hw' q q' a b c d
    have hxy : p.x = p'.x ∧ p.y = p'.y ∧ p.h = p'.h := ⟨congrArg (·.1) h1, congrArg (·.2.1) h1, congrArg (·.2.2) h1⟩
    cases s with
    | l k =>
      obtain ⟨hn, he⟩ := hw k List.mem_cons_self
      obtain ⟨r1, r2, r3⟩ := path_run E hn hk
      refine step _ _ ?_ (r2.trans h2) (hok_run _ hk) ?_
      · show (penF E p (ws.getD k [])).pl = mv p'.pl (E' k)
        rw [r1, h1, he]
      · show (penF E p (ws.getD k [])).out = (p'.out ++ [(p'.x, p'.y, p'.h, k)]).flatMap (fine E ws)
        rw [r3, h4, List.flatMap_append, h1]
        simp only [List.flatMap_cons, List.flatMap_nil, List.append_nil]
        rfl
    | o =>
      refine step _ _ h1 ?_ (hok_step (E := E) hk .o) h4
      show p.st ++ [(p.x, p.y, p.h)] = p'.st ++ [(p'.x, p'.y, p'.h)]
      rw [h2, hxy.1, hxy.2.1, hxy.2.2]
    | c =>
      show _
      have e : ∀ (F : Pth) (q : Pen), pstepE F q .c = match q.st.getLast? with
        | some (a, b, c) => { q with x := a, y := b, h := c, st := q.st.dropLast }
        | none => q := fun _ _ => rfl
      refine step (pstepE E p .c) (pstepE E' p' .c) ?_ ?_ (hok_step (E := E) hk .c) ?_ <;> rw [e, e, h2] <;> cases p'.st.getLast? <;> first | exact h1 | exact h2 | exact h4 | rfl
    | p =>
      refine step _ _ ?_ h2 (hok_step (E := E) hk .p) h4
      show (p.x, p.y, (p.h + 1) % 4) = (p'.x, p'.y, (p'.h + 1) % 4)
      rw [hxy.1, hxy.2.1, hxy.2.2]
    | m =>
      refine step _ _ ?_ h2 (hok_step (E := E) hk .m) h4
      show (p.x, p.y, (p.h + 3) % 4) = (p'.x, p'.y, (p'.h + 3) % 4)
      rw [hxy.1, hxy.2.1, hxy.2.2]
theorem dir_rot {h : Int} (h0 : 0 ≤ h) (h4 : h < 4) : dir h = rot h (1, 0) := by
  have e : h = 0 ∨ h = 1 ∨ h = 2 ∨ h = 3 := by omega
  rcases e with rfl | rfl | rfl | rfl <;> rfl
/-- the pen of strokes is the pen along paths of one step -/
theorem pstep_one {p : Pen} (k : HOk p) (s : Sy) : pstepE one p s = pstep p s := by
  cases s with
  | l j =>
    show Pen.mk _ _ _ _ _ = Pen.mk _ _ _ _ _
    rw [dir_rot k.h.1 k.h.2]
    congr 1
    show (p.h + 0) % 4 = p.h
    have := k.h
    omega
  | o => rfl
  | c => rfl
  | p => rfl
  | m => rfl
theorem pen_one' : ∀ (w : List Sy) {p : Pen}, HOk p → penF one p w = w.foldl pstep p
  | [], p, _ => rfl
  | s :: w, p, k => by
    rw [penF_cons, pen_one' w (hok_step k s), pstep_one k]
    rfl
theorem pen_one (w : List Sy) : penE one w = pen w := pen_one' w hok_org
theorem hok_pen (w : List Sy) : HOk (pen w) := by
  rw [← pen_one]
  exact hok_run w hok_org
/-! ### even books -/
def scl (u v : Int) (q : Plc) : Plc := (u * q.1 - v * q.2.1, u * q.2.1 + v * q.1, q.2.2)
def sclS (u v : Int) (s : Stk) : Stk := (u * s.1 - v * s.2.1, u * s.2.1 + v * s.1, s.2.2.1, s.2.2.2)
theorem mv_scl (u v : Int) (a : Plc) : mv (scl u v a) (u, v, 0) = scl u v (mv a (1, 0, 0)) := by
  obtain ⟨x, y, h⟩ := a
  show (u * x - v * y + (rot h (u, v)).1, u * y + v * x + (rot h (u, v)).2, (h + 0) % 4) = (u * (x + (rot h (1, 0)).1) - v * (y + (rot h (1, 0)).2), u * (y + (rot h (1, 0)).2) + v * (x + (rot h (1, 0)).1), (h + 0) % 4)
  rcases rot4 h with ⟨_, e⟩ | ⟨_, e⟩ | ⟨_, e⟩ | ⟨_, e⟩ <;> rw [e, e] <;> refine Prod.ext ?_ (Prod.ext ?_ rfl) <;> simp only [Int.mul_add] <;> omega
def sclP (u v : Int) (p : Pen) : Pen := ⟨(scl u v p.pl).1, (scl u v p.pl).2.1, p.h, p.st.map (scl u v), p.out.map (sclS u v)⟩
theorem sclP_step (u v : Int) (p : Pen) (s : Sy) : pstepE (fun _ => (u, v, 0)) (sclP u v p) s = sclP u v (pstepE one p s) := by
  cases s with
  | l k =>
    have e : mv (sclP u v p).pl (u, v, 0) = scl u v (mv p.pl (1, 0, 0)) := mv_scl u v p.pl
    show Pen.mk _ _ _ _ _ = Pen.mk _ _ _ _ _
    dsimp only
    rw [e]
    congr 1
    show p.out.map (sclS u v) ++ [_] = (p.out ++ [_]).map (sclS u v)
    rw [List.map_append]
    rfl
  | o =>
    show Pen.mk _ _ _ _ _ = Pen.mk _ _ _ _ _
    congr 1
    show p.st.map (scl u v) ++ [_] = (p.st ++ [_]).map (scl u v)
    rw [List.map_append]
    rfl
  | c =>
    have e : ∀ (F : Pth) (q : Pen), pstepE F q .c = match q.st.getLast? with
      | some (a, b, c) => { q with x := a, y := b, h := c, st := q.st.dropLast }
      | none => q := fun _ _ => rfl
    rw [e, e]
    have h2 : (sclP u v p).st.getLast? = p.st.getLast?.map (scl u v) := List.getLast?_map
    rw [h2]
    cases p.st.getLast? with
    | none => rfl
    | some t =>
      obtain ⟨a, b, c⟩ := t
      show Pen.mk _ _ _ _ _ = Pen.mk _ _ _ _ _
      congr 1
      show (p.st.map (scl u v)).dropLast = p.st.dropLast.map (scl u v)
      rw [List.map_dropLast]
  | p => rfl
  | m => rfl
theorem sclP_run (u v : Int) : ∀ (w : List Sy) (p : Pen), penF (fun _ => (u, v, 0)) (sclP u v p) w = sclP u v (penF one p w)
  | [], p => rfl
  | s :: w, p => by
    rw [penF_cons, penF_cons, sclP_step, sclP_run u v w]
theorem org_scl (u v : Int) : sclP u v org = org := by
  show Pen.mk _ _ _ _ _ = Pen.mk _ _ _ _ _
  congr 1
  · show u * 0 - v * 0 = 0
    omega
  · show u * 0 + v * 0 = 0
    omega
/-- the next age of an even book, stroke by stroke -/
theorem even_next {ws : List (List Sy)} {w : List Sy} {u v : Int} (h : ∀ k, Sy.l k ∈ w → nest (ws.getD k []) 0 = some 0 ∧ (pen (ws.getD k [])).pl = (u, v, 0)) :
    strokes (grow ws w) = (strokes w).flatMap fun s => (strokes (ws.getD s.2.2.2 [])).map (sh (u * s.1 - v * s.2.1, u * s.2.1 + v * s.1, s.2.2.1)) := by
  have g := grow_pen (ws := ws) (E := one) (E' := fun _ => (u, v, 0)) w (fun k hk => ⟨(h k hk).1, by rw [pen_one]; exact (h k hk).2.symm⟩) org org rfl rfl hok_org rfl
  have e1 : (penF one org (grow ws w)).out = strokes (grow ws w) := by
    show (penE one (grow ws w)).out = _
    rw [pen_one]; rfl
  have e2 := sclP_run u v w org
  rw [org_scl] at e2
  have e3 : (penF one org w).out = strokes w := by
    show (penE one w).out = _
    rw [pen_one]; rfl
  rw [e1, e2] at g
  rw [g.2.2]
  show ((penF one org w).out.map (sclS u v)).flatMap (fine one ws) = _
  rw [e3, List.flatMap_map]
  congr 1
  funext s
  show (penE one (ws.getD s.2.2.2 [])).out.map _ = _
  rw [pen_one]
  rfl
end SK
namespace SK
open PySem PySem.Spec PyProof.Rows L2
/-! ### what letters become -/
def imgG (G : Nat → List Sy) : Sy → List Sy
  | .l k => G k
  | s => [s]
def growG (G : Nat → List Sy) (w : List Sy) : List Sy := w.flatMap (imgG G)
theorem growG_app (G : Nat → List Sy) (a b : List Sy) : growG G (a ++ b) = growG G a ++ growG G b := List.flatMap_append
theorem growG_one (G : Nat → List Sy) (s : Sy) : growG G [s] = imgG G s := by simp [growG]
theorem growG_take (G : Nat → List Sy) (w : List Sy) (i : Nat) : (growG G (w.take i)).length ≤ (growG G w).length := by
  have e : growG G w = growG G (w.take i) ++ growG G (w.drop i) := by rw [← growG_app, List.take_append_drop]
  rw [e, List.length_append]
  omega
theorem growG_mem {G : Nat → List Sy} {w : List Sy} {k : Nat} (h : Sy.l k ∈ w) : (G k).length ≤ (growG G w).length := by
  obtain ⟨a, b, rfl⟩ := List.append_of_mem h
  have e : growG G (a ++ .l k :: b) = growG G a ++ (G k ++ growG G b) := by rw [growG_app]; rfl
  rw [e, List.length_append, List.length_append]
  omega
/-- what a letter is after so many ages -/
def gI (ws : List (List Sy)) : Nat → Nat → List Sy
  | 0, k => [.l k]
  | i + 1, k => growG (gI ws i) (ws.getD k [])
theorem growG_zero (ws : List (List Sy)) (w : List Sy) : growG (gI ws 0) w = w := by
  induction w with
  | nil => rfl
  | cons s w ih =>
    have e : imgG (gI ws 0) s = [s] := by cases s <;> rfl
    show imgG (gI ws 0) s ++ growG (gI ws 0) w = s :: w
    rw [e, ih]
    rfl
theorem growG_grow (ws : List (List Sy)) (i : Nat) (w : List Sy) : growG (gI ws (i + 1)) w = growG (gI ws i) (grow ws w) := by
  induction w with
  | nil => rfl
  | cons s w ih =>
    have e : imgG (gI ws (i + 1)) s = growG (gI ws i) (img ws s) := by
      cases s with
      | l k => rfl
      | p => exact (growG_one _ _).symm
      | m => exact (growG_one _ _).symm
      | o => exact (growG_one _ _).symm
      | c => exact (growG_one _ _).symm
    show imgG (gI ws (i + 1)) s ++ growG (gI ws (i + 1)) w = _
    rw [e, ih, show grow ws (s :: w) = img ws s ++ grow ws w from rfl, growG_app]
theorem growG_grown (ws : List (List Sy)) (st : List Sy) : ∀ i m, growG (gI ws i) (grown ws st m) = grown ws st (m + i)
  | 0, m => growG_zero ws _
  | i + 1, m => by
    rw [growG_grow]
    have := growG_grown ws st i (m + 1)
    rw [show m + (i + 1) = m + 1 + i by omega]
    exact this
theorem TupS.dict {H : Hp} {D : Addr} {kvs : List (Key × V)} {o : HO} (h : H D = some (.dK kvs)) : TupS H (upd H D o) := by
  refine ⟨fun b ys e => ?_, fun b ob u e => ?_⟩
  · rw [upd_ne (ne_of e h (by intro z; cases z))]
    exact e
  · rw [upd_ne (ne_of e h (by intro z; cases z))]
    exact e
theorem iV_get {ls : List Nat} {i : Nat} {x : V} (h : (iV ls)[i]? = some x) : ∃ k, ls[i]? = some k ∧ x = V.int (k : Int) := by
  unfold iV at h
  rw [List.getElem?_map] at h
  cases e : ls[i]? with
  | none => rw [e] at h; cases h
  | some k => rw [e] at h; exact ⟨k, rfl, (Option.some.inj h).symm⟩
end SK
namespace SK
open PySem PySem.Spec PyProof.Rows L2
/-! name = {k: v for ..}, the name a local -/
theorem ps_setDc {X : Cx} {i : Nat} {y : Str} {py : Pos} {kx vx tg iter : Expr} {ifs : List Expr} {scope : Scope} {own : List (Str × Nat)} {pos spos : Pos} {wi : TI} {g : TG} {tt : TT} {tk tv : TE} (hc : X.calm = true) (hN : X.N.Nodup) (hy : X.N[i]? = some y) (hyl : X.env.scope.names.lookup y = some .local)
    (hsw : swapsWith (.DictComp kx vx [⟨tg, iter, ifs, 0⟩] scope pos) (some (.Name y py)) spos.line X.env = pure true) (hi : PI X tg iter wi) (ok : BlkOk X.N X.env.scope scope own)
    (hg : ∀ (s : Shared) (H : Hp) (C : Addr) (cl : List (Str × Addr)) (fp : List Addr), PG (X.blk s H scope (compEnvC scope cl C X.env) fp) tg g) (ht : ∀ (s : Shared) (H : Hp) (C : Addr) (cl : List (Str × Addr)) (fp : List Addr), PTs (X.blk s H scope (compEnvC scope cl C X.env) fp) ifs tt)
    (hk : ∀ (s : Shared) (H : Hp) (C : Addr) (cl : List (Str × Addr)) (fp : List Addr), PE (X.blk s H scope (compEnvC scope cl C X.env) fp) kx tk)
    (he : ∀ (s : Shared) (H : Hp) (C : Addr) (cl : List (Str × Addr)) (fp : List Addr), PE (X.blk s H scope (compEnvC scope cl C X.env) fp) vx tv) (hs : ∀ x, foldedSetIterable iter X.env x = pure x := by intro _; rfl) :
    PS X (.Assign [.Name y py] (.DictComp kx vx [⟨tg, iter, ifs, 0⟩] scope pos) spos) (tAsg (tDc wi g tt tk tv (own.map (·.2))) (gName i)) := by
  refine ⟨fun pins s σ H D I h => ?_⟩
  rw [exec_Assign_Name_used _ _ _ _ hsw]
  refine wpAny_bind (wpAny_standAt (wpAny_bind ?_))
  show wpAny _ X.A (do let _ ← comprehension (.DictComp kx vx [⟨tg, iter, ifs, 0⟩] scope pos) scope X.env (firstIterPos [⟨tg, iter, ifs, 0⟩] pos) newDict false (eval iter X.env) (some (assign (.Name y py) X.env))) _ _ s
  have h : tDc wi g tt tk tv (own.map (·.2)) σ H (fun x H1 => gName i x σ H1 D.nx) := h
  refine wpAny_bind (thn (dc_core (Qf := fun _ s' => SP X pins D .next s') hc hN I hi ok hg ht hk he hs h fun L C s' m H' I' q hn f => ?_) fun _ s' hq => wpAny_pure (wpAny_pure hq))
  show wpAny _ _ (assign (.Name y py) X.env (.ref L)) _ _ _
  refine wpAny_assign_Name (store_ok2 (v := V.ref L) I' hN hy (.inl hyl) rfl (fun s2 I2 ⟨a, sb, ha⟩ => ?_) (.inr hyl))
  obtain ⟨f0, f1, f2, f3, f4, f5⟩ := f
  have haC : C ≠ a := by
    rcases ha with z | z
    · rw [z]; exact f1
    · exact fun e => f4 y a z e.symm
  refine ⟨m, hn.sameBut sb haC, fun h3 sb3 => ?_⟩
  exact ⟨_, H', I2.turned (t' := s2.toks) (fun b o hb e => (sb3.2 b hb).trans e) f0 f1 f3 f4 f5, q⟩
theorem sw_trueD {kx vx : Expr} {gs : List Comprehension} {scope : Scope} {pos py : Pos} {y : Str} {l : Nat} {env : Env} (hk : env.scope.kind = .function) (hy : env.scope.names.lookup y = some .local) (hl : (py.line == pos.line) = true)
    (ha : (scope.names.any fun (n, k) => n == y && (k == .local || k == .cell)) = false) : swapsWith (.DictComp kx vx gs scope pos) (some (.Name y py)) l env = pure true := by
  have ky : env.kindOf y = some .local := hy
  have hb : env.blockKind = .function := by unfold Env.blockKind; rw [hk]; rfl
  unfold swapsWith
  simp only [hb, ky, ha, Expr.pos, hl]
  rfl
end SK
namespace SK
open PySem PySem.Spec PyProof.Rows L2
theorem ex_nox {X : Cx} {st : List Stmt} {D : Ends} {σ : L2.St} {H : Hp} (h : ∃ t, PSs X.nox st t ∧ t D σ H) : ∃ t, PSs X st t ∧ t D σ H := let ⟨t, a, b⟩ := h; ⟨t, a.nox, b⟩
/-- a tuple of the module -/
def ModT (K : PySem.W.Frag) (a : Addr) (xs : List V) : Prop := ∃ (o : Obj) (its : Array Value) (n : Nat), K.lookup a = some o ∧ o.cls = .type "tuple" ∧ o.data = .seq its n ∧ its.size ≤ sizeLine ∧ Vals xs its.toList
theorem ModT.sq {K : PySem.W.Frag} {a : Addr} {xs : List V} {H : Hp} (h : ModT K a xs) : SqT K H a xs := .inr h
/-- a new tuple of strokes -/
def NewStrs (ss : List Stk) (H : Hp) (Q : VK) : Prop := ∀ (H' : Hp) (p : Addr) (as : List Addr), Same H H' → H p = none → H' p = some (.tup (as.map V.ref)) → Strs H' as ss → Q (.ref p) H'
/-- a pen that begins there -/
def stt (p : Plc) : Pen := ⟨p.1, p.2.1, p.2.2, [], []⟩
theorem hok_stt {p : Plc} (h : 0 ≤ p.2.2 ∧ p.2.2 < 4) : HOk (stt p) := ⟨h, (fun q h => nomatch h), (fun q h => nomatch h)⟩
theorem len_step (E : Pth) (p : Pen) (s : Sy) : (pstepE E p s).out.length ≤ p.out.length + 1 ∧ (pstepE E p s).st.length ≤ p.st.length + 1 := by
  cases s with
  | l k => exact ⟨by show (p.out ++ [_]).length ≤ _; rw [List.length_append]; exact Nat.le_refl _, Nat.le_succ _⟩
  | o => exact ⟨Nat.le_succ _, by show (p.st ++ [_]).length ≤ _; rw [List.length_append]; exact Nat.le_refl _⟩
  | c =>
    have e : pstepE E p .c = match p.st.getLast? with
      | some (a, b, c) => { p with x := a, y := b, h := c, st := p.st.dropLast }
      | none => p := rfl
    rw [e]
    cases p.st.getLast? with
    | none => exact ⟨Nat.le_succ _, Nat.le_succ _⟩
    | some t => exact ⟨Nat.le_succ _, by show p.st.dropLast.length ≤ _; rw [List.length_dropLast]; omega⟩
  | p => exact ⟨Nat.le_succ _, Nat.le_succ _⟩
  | m => exact ⟨Nat.le_succ _, Nat.le_succ _⟩
theorem len_run (E : Pth) : ∀ (w : List Sy) (p : Pen), (penF E p w).out.length ≤ p.out.length + w.length ∧ (penF E p w).st.length ≤ p.st.length + w.length
  | [], p => ⟨Nat.le_refl _, Nat.le_refl _⟩
  | s :: w, p => by
    have h1 := len_run E w (pstepE E p s)
    have h2 := len_step E p s
    rw [penF_cons, List.length_cons]
    omega
theorem penF_take {E : Pth} {p : Pen} {w : List Sy} {i : Nat} {s : Sy} (h : w[i]? = some s) : penF E p (w.take (i + 1)) = pstepE E (penF E p (w.take i)) s := by rw [take_more h, penF_app]; rfl
/-- a new pair of a list of strokes and the pen's place -/
def NewLaid (p : Pen) (H : Hp) (Q : VK) : Prop := ∀ (H' : Hp) (t la e : Addr) (as : List Addr), Same H H' → H t = none → H' t = some (.tup [.ref la, .ref e]) → H la = none → H' la = some (.lst (as.map V.ref)) → Strs H' as p.out → H' e = some (.tup (plV p.pl)) → Q (.ref t) H'
/-- a table of where paths end -/
def EndsT (K : PySem.W.Frag) (H : Hp) (kvs : List (Key × V)) (E : Pth) (k : Nat) : Prop := ∃ e, valV kvs (.inl (k : Int)) = some (.ref e) ∧ SqT K H e (plV (E k))
theorem EndsT.same {K : PySem.W.Frag} {H H' : Hp} {kvs : List (Key × V)} {E : Pth} {k : Nat} (h : EndsT K H kvs E k) (s : Same H H') : EndsT K H' kvs E k := let ⟨e, a, b⟩ := h; ⟨e, a, sTup s b⟩
def spRotate : Sp := fun vs H Q _ => ∃ x y h : Int, vs = [.int x, .int y, .int h] ∧ 0 ≤ h ∧ h < 4 ∧ New (.tup [.int (rot h (x, y)).1, .int (rot h (x, y)).2]) H Q
def spLay (K : PySem.W.Frag) : Sp := fun vs H Q _ => ∃ (a d pn : Addr) (w : List Sy) (kvs : List (Key × V)) (E : Pth) (p : Plc), vs = [.ref a, .ref d, .ref pn] ∧ WdAt H a w ∧ H d = some (.dK kvs) ∧ (∀ k, Sy.l k ∈ w → EndsT K H kvs E k) ∧ SqT K H pn (plV p) ∧
  0 ≤ p.2.2 ∧ p.2.2 < 4 ∧ nest w 0 ≠ none ∧ w.length ≤ 1000000 ∧ NewLaid (penF E (stt p) w) H Q
section
variable {P : Program} {w : World} {K : PySem.W.Frag} {mg : Str → Option Value} {base : Heap}
theorem ok_rotate {f : Addr} {fd : FuncData} {k : Nat} (F : Fun K "rotate" "rotate" s_rotate f fd) : FnOk P w K mg base CX0 (k + 1) f fd ["x", "y", "quarters"] spRotate := by
  refine F.ok sc_rotate (fun vs H Q E h => ?_) (fun cdv A outer s H vs Q E hr h => ?_)
  · obtain ⟨x, y, h, rfl, _⟩ := h
    rfl
  · obtain ⟨x, y, h, rfl, h0, h4, q⟩ := h
    refine ⟨_, pss_cons (ps_if (pt_cmpR op_eq (pv 2) pe_int (nomark _)) (pss_one (ps_ret (ptupN (pa_cons (pv 0) (pa_cons (pv 1) pa_nil))))) pss_nil)
      (pss_cons (ps_if (pt_cmpR op_eq (pv 2) pe_int (nomark _)) (pss_one (ps_ret (ptupN (pa_cons (pe_un un_neg (pv 1)) (pa_cons (pv 0) pa_nil))))) pss_nil)
      (pss_cons (ps_if (pt_cmpR op_eq (pv 2) pe_int (nomark _)) (pss_one (ps_ret (ptupN (pa_cons (pe_un un_neg (pv 0)) (pa_cons (pe_un un_neg (pv 1)) pa_nil))))) pss_nil)
      (pss_one (ps_ret (ptupN (pa_cons (pv 1) (pa_cons (pe_un un_neg (pv 0)) pa_nil))))))), ?_⟩
    have e : h = 0 ∨ h = 1 ∨ h = 2 ∨ h = 3 := by omega
    rcases e with rfl | rfl | rfl | rfl
    · exact ⟨_, rfl, rfl, _, rfl, itY rfl ⟨_, rfl, _, rfl, szl 2, q⟩⟩
    · exact ⟨_, rfl, rfl, _, rfl, itN (by decide) ⟨_, rfl, rfl, _, rfl, itY rfl ⟨_, rfl, _, rfl, _, rfl, szl 2, q⟩⟩⟩
    · exact ⟨_, rfl, rfl, _, rfl, itN (by decide) ⟨_, rfl, rfl, _, rfl, itN (by decide) ⟨_, rfl, rfl, _, rfl, itY rfl ⟨_, rfl, _, rfl, _, rfl, _, rfl, szl 2, q⟩⟩⟩⟩
    · exact ⟨_, rfl, rfl, _, rfl, itN (by decide) ⟨_, rfl, rfl, _, rfl, itN (by decide) ⟨_, rfl, rfl, _, rfl, itN (by decide) ⟨_, rfl, _, rfl, _, rfl, szl 2, q⟩⟩⟩⟩
theorem ok_lay {f : Addr} {fd : FuncData} {k : Nat} {dflt : Addr} (F : FunD K "lay" "lay" (defArgs s_lay) (defBody s_lay) (defScope s_lay) [.ref dflt] [] f fd) (GR : Got P w K mg base "rotate" k ["x", "y", "quarters"] spRotate) :
    FnOk P w K mg base CX0 (k + 1) f fd ["word", "ends", "pen"] (spLay K) := by
  refine F.ok sc_lay (fun vs H Q E h => ?_) (fun cdv A outer s H vs Q EE hr h => ex_nox ?_)
  · obtain ⟨a, d, pn, w, kvs, E', p, rfl, _⟩ := h
    rfl
  · obtain ⟨a, d, pn, w, kvs, E, p, rfl, hw, hd, hE, hp, p0, p4, hn, hl, q⟩ := h
    have nd := sc_lay.nd
    refine ⟨_, pss_cons (ps_asg (pv 2) (pg_tup (by rfl) (pgs_cons (pg_name (i := 3) nd rfl (.inl rfl)) (pgs_cons (pg_name (i := 4) nd rfl (.inl rfl)) (pgs_cons (pg_name (i := 5) nd rfl (.inl rfl)) pgs_nil)))))
      (pss_cons (ps_set (i := 6) nd rfl (.inl rfl) (plstN pa_nil)) (pss_cons (ps_set (i := 7) nd rfl (.inl rfl) (plstN pa_nil))
      (pss_cons (ps_for PassesOwn.never rfl (pi_tup (pv 0)) (pg_name (i := 8) nd rfl (.inl rfl))
        (pss_one (ps_if (pt_cmpR op_eq (pv 8) pe_str (nomark _)) (pss_one (ps_set (i := 5) nd rfl (.inl rfl) (pmod (padd (pv 5) pe_int) pe_int)))
          (pss_one (ps_if (pt_cmpR op_eq (pv 8) pe_str (nomark _)) (pss_one (ps_set (i := 5) nd rfl (.inl rfl) (pmod (psub (pv 5) pe_int) pe_int)))
            (pss_one (ps_if (pt_cmpR op_eq (pv 8) pe_str (nomark _)) (pss_one (sapp (pv 6) (ptupN (pa_cons (pv 3) (pa_cons (pv 4) (pa_cons (pv 5) pa_nil))))))
              (pss_one (ps_if (pt_cmpR op_eq (pv 8) pe_str (nomark _))
                (pss_one (ps_asg (pe_bm0 PySem.F.plainAttrs_list PySem.F.slot_list_pop PySem.F.type_list_pop mt_pop (pv 6)) (pg_tup (by rfl) (pgs_cons (pg_name (i := 3) nd rfl (.inl rfl)) (pgs_cons (pg_name (i := 4) nd rfl (.inl rfl)) (pgs_cons (pg_name (i := 5) nd rfl (.inl rfl)) pgs_nil))))))
                (pss_cons (sapp (pv 7) (ptupN (pa_cons (pv 3) (pa_cons (pv 4) (pa_cons (pv 5) (pa_cons (pv 8) pa_nil))))))
                (pss_cons (ps_asg (pe_dget (hu_of hr) (pv 1) (pv 8) (fun _ _ => rfl)) (pg_tup (by rfl) (pgs_cons (pg_name (i := 9) nd rfl (.inl rfl)) (pgs_cons (pg_name (i := 10) nd rfl (.inl rfl)) (pgs_cons (pg_name (i := 11) nd rfl (.inl rfl)) pgs_nil)))))
                (pss_cons (ps_asg (pcall GR hr (pa_cons (pv 9) (pa_cons (pv 10) (pa_cons (pv 5) pa_nil)))) (pg_tup (by rfl) (pgs_cons (pg_name (i := 12) nd rfl (.inl rfl)) (pgs_cons (pg_name (i := 13) nd rfl (.inl rfl)) pgs_nil))))
                (pss_cons (ps_aug (i := 3) nd rfl (.inl rfl) (pv 12) ip_add) (pss_cons (ps_aug (i := 4) nd rfl (.inl rfl) (pv 13) ip_add)
                (pss_one (ps_set (i := 5) nd rfl (.inl rfl) (pmod (padd (pv 5) (pv 11)) pe_int)))))))))))))))))
      (pss_one (ps_ret (ptupN (pa_cons (pv 7) (pa_cons (ptupN (pa_cons (pv 3) (pa_cons (pv 4) (pa_cons (pv 5) pa_nil)))) pa_nil)))))))), ?_⟩
    refine ⟨_, rfl, pn, _, rfl, hp, rfl, _, _, rfl, _, _, rfl, _, _, rfl, rfl, ?_⟩
    refine ⟨szl 0, fun H1 sb S1 n1 h1 => ⟨szl 0, fun H2 fa S2 n2 h2 => ?_⟩⟩
    have S03 := S1.trans S2
    have nfa : H fa = none := S1.free n2
    have nfs : fa ≠ sb := (ne_of_none h1 n2).symm
    have hs3 := S2 _ _ h1
    clear S1 S2 n2 h1
    refine ⟨_, rfl, a, rfl, ⟨_, (hw.same S03).sq⟩, for_tup (K := K) (a := a) (xs := wv w) (fun i σ H' => ∃ (y8 y9 y10 y11 y12 y13 : Option V) (as ss : List Addr), σ = [some (.ref a), some (.ref d), some (.ref pn), some (.int (penF E (stt p) (w.take i)).x), some (.int (penF E (stt p) (w.take i)).y), some (.int (penF E (stt p) (w.take i)).h), some (.ref sb), some (.ref fa), y8, y9, y10, y11, y12, y13] ∧
        Same H H' ∧ H' fa = some (.lst (as.map V.ref)) ∧ H' sb = some (.lst (ss.map V.ref)) ∧ Strs H' as (penF E (stt p) (w.take i)).out ∧ Pls H' ss (penF E (stt p) (w.take i)).st)
      ⟨none, none, none, none, none, none, [], [], rfl, S03, h2, hs3, .nil, .nil⟩ (fun i σ H' _ ⟨_, _, _, _, _, _, _, _, _, s, _⟩ => (hw.same s).sq) ?_ ?_⟩
    · rintro i x σ H4 hx ⟨y8, y9, y10, y11, y12, y13, as, ss, rfl, S4, hf, hs, hA, hP⟩
      obtain ⟨s, hsy, rfl⟩ := wv_get hx
      have hi : i < w.length := (List.getElem?_eq_some_iff.mp hsy).1
      have ep := penF_take (E := E) (p := stt p) hsy
      have lt : (w.take i).length ≤ 1000000 := by rw [List.length_take]; omega
      have lA := hA.length
      have lP := hP.length
      have p1 := len_run E (w.take i) (stt p)
      have z1 : (stt p).out.length = 0 := rfl
      have z2 : (stt p).st.length = 0 := rfl
      have hst := nest_take hn (i + 1)
      have hst0 := nest_take hn i
      have nst : nest (w.take i) 0 = some (penF E (stt p) (w.take i)).st.length := by
        cases hz : nest (w.take i) 0 with
        | none => exact absurd hz hst0
        | some dd => rw [st_run E (w.take i) (stt p) (show nest (w.take i) (stt p).st.length = some dd from hz)]
      rw [take_more hsy, nest_app, nst] at hst
      have ph := (hok_run (E := E) (w.take i) (hok_stt (p := p) ⟨p0, p4⟩)).h
      generalize penF E (stt p) (w.take (i + 1)) = pp at ep
      subst ep
      generalize penF E (stt p) (w.take i) = pe at hA hP lA lP p1 nst hst ph
      cases s with
      | p =>
        refine ⟨_, rfl, rfl, _, rfl, itY rfl ⟨_, rfl, _, _, rfl, rfl, _, _, rfl, rfl, (show (0 : Int) < 4 by decide), ?_⟩⟩
        exact ⟨_, y9, y10, y11, y12, y13, as, ss, rfl, S4, hf, hs, hA, hP⟩
      | m =>
        refine ⟨_, rfl, rfl, _, rfl, itN (by decide) ⟨_, rfl, rfl, _, rfl, itY rfl ⟨_, rfl, _, _, rfl, rfl, _, _, rfl, rfl, (show (0 : Int) < 4 by decide), ?_⟩⟩⟩
        refine ⟨some (Sy.v .m), y9, y10, y11, y12, y13, as, ss, ?_, S4, hf, hs, hA, hP⟩
        have e : (pe.h - 1) % 4 = (pe.h + 3) % 4 := by omega
        show [_, _, _, _, _, some (V.int ((pe.h - 1) % 4)), _, _, _, _, _, _, _, _] = _
        rw [e]
        rfl
      | o =>
        refine ⟨_, rfl, rfl, _, rfl, itN (by decide) ⟨_, rfl, rfl, _, rfl, itN (by decide) ⟨_, rfl, rfl, _, rfl, itY rfl ⟨_, rfl, .inl ⟨rfl, _, SqL.of hs⟩, _, rfl, _, rfl, _, rfl, szl 3, fun H5 p5 S5 n5 h5 => ⟨sb, _, _, rfl, rfl, S5 _ _ hs, ?_, ?_⟩⟩⟩⟩⟩
        · rw [List.length_map, sizeLine_eq]; omega
        · have hs5 := S5 _ _ hs
          have T5 : TupS H5 (upd H5 sb (.lst (ss.map V.ref ++ [V.ref p5]))) := TupS.refl.lst hs5
          refine ⟨_, y9, y10, y11, y12, y13, as, ss ++ [p5], rfl, sPut (S4.trans S5) n1, by rw [upd_ne nfs]; exact S5 _ _ hf, by rw [upd_same, List.map_append]; rfl, (hA.keep (.of S5)).keep T5, ?_⟩
          exact Paired.snoc ((hP.keep (.of S5)).keep T5) (T5.1 _ _ h5)
      | c =>
        refine ⟨_, rfl, rfl, _, rfl, itN (by decide) ⟨_, rfl, rfl, _, rfl, itN (by decide) ⟨_, rfl, rfl, _, rfl, itN (by decide) ⟨_, rfl, rfl, _, rfl, itY rfl ?_⟩⟩⟩⟩
        cases hl : pe.st.getLast? with
        | none =>
          rw [List.getLast?_eq_none_iff] at hl
          rw [hl] at hst
          exact absurd rfl hst
        | some t =>
          obtain ⟨tx, ty, th⟩ := t
          obtain ⟨la, g1, g2, g3⟩ := paired_last hP hl
          have e2 : pstepE E pe .c = { pe with x := tx, y := ty, h := th, st := pe.st.dropLast } := by
            show (match pe.st.getLast? with
              | some (a, b, c) => { pe with x := a, y := b, h := c, st := pe.st.dropLast }
              | none => pe) = _
            rw [hl]
          rw [e2]
          have g1' : (ss.map V.ref)[(ss.map V.ref).length - 1]? = some (V.ref la) := by
            rw [← List.getLast?_eq_getElem?, List.getLast?_map, g1]; rfl
          refine ⟨_, rfl, .inl ⟨rfl, _, SqL.of hs⟩, sb, _, _, rfl, rfl, hs, g1', ?_⟩
          have T5 : TupS H4 (upd H4 sb (.lst (ss.map V.ref).dropLast)) := TupS.refl.lst hs
          refine ⟨la, _, rfl, SqT.of (T5.1 _ _ g2), rfl, _, _, rfl, _, _, rfl, _, _, rfl, rfl, ?_⟩
          exact ⟨_, y9, y10, y11, y12, y13, as, ss.dropLast, rfl, sPut S4 n1, by rw [upd_ne nfs]; exact hf, by rw [upd_same, List.map_dropLast], hA.keep T5, Pls.keep T5 g3⟩
      | l kk =>
        refine ⟨_, rfl, rfl, _, rfl, itN (fun z => nomatch z) ⟨_, rfl, rfl, _, rfl, itN (fun z => nomatch z) ⟨_, rfl, rfl, _, rfl, itN (fun z => nomatch z) ⟨_, rfl, rfl, _, rfl, itN (fun z => nomatch z) ?_⟩⟩⟩⟩
        refine ⟨_, rfl, .inl ⟨rfl, _, SqL.of hf⟩, _, rfl, _, rfl, _, rfl, _, rfl, szl 4, fun H5 p5 S5 n5 h5 => ⟨fa, _, _, rfl, rfl, S5 _ _ hf, ?_, ?_⟩⟩
        · rw [List.length_map, sizeLine_eq]; omega
        have hf5 := S5 _ _ hf
        have T6 : TupS H5 (upd H5 fa (.lst (as.map V.ref ++ [V.ref p5]))) := TupS.refl.lst hf5
        have S6 : Same H (upd H5 fa (.lst (as.map V.ref ++ [V.ref p5]))) := sPut (S4.trans S5) nfa
        have hf6 : (upd H5 fa (.lst (as.map V.ref ++ [V.ref p5]))) fa = some (.lst ((as ++ [p5]).map V.ref)) := by rw [upd_same, List.map_append]; rfl
        have hs6 : (upd H5 fa (.lst (as.map V.ref ++ [V.ref p5]))) sb = some (.lst (ss.map V.ref)) := by rw [upd_ne nfs.symm]; exact S5 _ _ hs
        have hA6 : Strs (upd H5 fa (.lst (as.map V.ref ++ [V.ref p5]))) (as ++ [p5]) (pe.out ++ [(pe.x, pe.y, pe.h, kk)]) := Paired.snoc ((hA.keep (.of S5)).keep T6) (T6.1 _ _ h5)
        have hP6 := (hP.keep (.of S5)).keep T6
        generalize upd H5 fa (.lst (as.map V.ref ++ [V.ref p5])) = H6 at S6 hf6 hs6 hA6 hP6
        obtain ⟨te, v1, v2⟩ := (hE kk (List.mem_of_getElem? hsy)).same S6
        refine ⟨_, rfl, _, rfl, d, .ref te, rfl, by rw [← v1]; exact DGet.k (k := Sum.inl (kk : Int)) (S6 _ _ hd), te, _, rfl, v2, rfl, _, _, rfl, _, _, rfl, _, _, rfl, rfl, ?_⟩
        refine ⟨_, rfl, _, rfl, _, rfl, _, _, _, rfl, ph.1, ph.2, fun H7 p7 S7 n7 h7 => ?_⟩
        refine ⟨p7, _, rfl, SqT.of h7, rfl, _, _, rfl, _, _, rfl, rfl, _, rfl, _, rfl, _, _, rfl, rfl, _, rfl, _, rfl, _, _, rfl, rfl, ?_⟩
        refine ⟨_, rfl, _, rfl, _, _, rfl, rfl, _, _, rfl, rfl, (show (0 : Int) < 4 by decide), ?_⟩
        exact ⟨_, _, _, _, _, _, as ++ [p5], ss, rfl, S6.trans S7, S7 _ _ hf6, S7 _ _ hs6, hA6.keep (.of S7), hP6.keep (.of S7)⟩
    · rintro σ H4 ⟨y8, y9, y10, y11, y12, y13, as, ss, rfl, S4, hf, hs, hA, hP⟩
      rw [List.length_map, List.take_length] at hA
      refine ⟨_, rfl, _, rfl, _, rfl, _, rfl, szl 3, fun H5 e5 S5 n5 h5 => ⟨szl 2, fun H6 t6 S6 n6 h6 => ?_⟩⟩
      rw [List.length_map, List.take_length] at h5
      exact q H6 t6 fa e5 as ((S4.trans S5).trans S6) ((S4.trans S5).free n6) h6 nfa (S6 _ _ (S5 _ _ hf)) ((hA.keep (.of S5)).keep (.of S6)) (S6 _ _ h5)
end
end SK
namespace SK
open PySem PySem.Spec PyProof.Rows L2
/-! ### the letters that come -/
theorem grow_lets2 {ws : List (List Sy)} (hg : ∀ w ∈ ws, Good ws.length 40 w) {w : List Sy} (h : ∀ k, Sy.l k ∈ w → k < ws.length) : ∀ k, Sy.l k ∈ grow ws w → k < ws.length := by
  intro k hk
  obtain ⟨s, hs, hi⟩ := List.mem_flatMap.mp hk
  exact img_lets hg (s := s) (fun j e => h j (e ▸ hs)) k hi
theorem grown_lets' {ws : List (List Sy)} {pst : List Sy} (hg : ∀ w ∈ ws, Good ws.length 40 w) (h : ∀ k, Sy.l k ∈ pst → k < ws.length) : ∀ n k, Sy.l k ∈ grown ws pst n → k < ws.length
  | 0 => h
  | n + 1 => grow_lets2 hg (grown_lets' hg h n)
theorem grow_from {ws : List (List Sy)} {w : List Sy} {k : Nat} : Sy.l k ∈ grow ws w ↔ ∃ j, Sy.l j ∈ w ∧ Sy.l k ∈ ws.getD j [] := by
  constructor
  · intro h
    obtain ⟨s, hs, hi⟩ := List.mem_flatMap.mp h
    cases s with
    | l j => exact ⟨j, hs, hi⟩
    | p => exact absurd (List.mem_singleton.mp hi) (fun z => by cases z)
    | m => exact absurd (List.mem_singleton.mp hi) (fun z => by cases z)
    | o => exact absurd (List.mem_singleton.mp hi) (fun z => by cases z)
    | c => exact absurd (List.mem_singleton.mp hi) (fun z => by cases z)
  · rintro ⟨j, hj, hk⟩
    exact List.mem_flatMap.mpr ⟨_, hj, hk⟩
/-- ahead of an age -/
def Ahead (ws : List (List Sy)) (pst : List Sy) (i k : Nat) : Prop := ∃ m, m < i ∧ Sy.l k ∈ grown ws pst m
/-- the letters that stand first at an age -/
def Fresh (ws : List (List Sy)) (pst : List Sy) (i k : Nat) : Prop := Sy.l k ∈ grown ws pst i ∧ ¬ Ahead ws pst i k
def Comes (ws : List (List Sy)) (pst : List Sy) (k : Nat) : Prop := ∃ m, Sy.l k ∈ grown ws pst m
theorem ahead_succ {ws : List (List Sy)} {pst : List Sy} {i k : Nat} : Ahead ws pst (i + 1) k ↔ Ahead ws pst i k ∨ Fresh ws pst i k := by
  constructor
  · rintro ⟨m, hm, h⟩
    by_cases z : Ahead ws pst i k
    · exact .inl z
    · refine .inr ⟨?_, z⟩
      have e : m = i := by
        by_cases e : m < i
        · exact absurd ⟨m, e, h⟩ z
        · omega
      rw [← e]; exact h
  · rintro (⟨m, hm, h⟩ | ⟨h, _⟩)
    · exact ⟨m, by omega, h⟩
    · exact ⟨i, by omega, h⟩
theorem fresh_succ {ws : List (List Sy)} {pst : List Sy} {i k : Nat} : Fresh ws pst (i + 1) k ↔ (∃ j, Fresh ws pst i j ∧ Sy.l k ∈ ws.getD j []) ∧ ¬ Ahead ws pst (i + 1) k := by
  constructor
  · rintro ⟨h, n⟩
    refine ⟨?_, n⟩
    obtain ⟨j, hj, hk⟩ := grow_from.mp h
    refine ⟨j, ⟨hj, fun ⟨m, hm, z⟩ => n ⟨m + 1, by omega, grow_from.mpr ⟨j, z, hk⟩⟩⟩, hk⟩
  · rintro ⟨⟨j, ⟨hj, _⟩, hk⟩, n⟩
    exact ⟨grow_from.mpr ⟨j, hj, hk⟩, n⟩
/-- where no letter is fresh, all have come -/
theorem comes_all {ws : List (List Sy)} {pst : List Sy} {i : Nat} (h : ∀ k, ¬ Fresh ws pst i k) (k : Nat) : Comes ws pst k ↔ Ahead ws pst i k := by
  refine ⟨fun ⟨m, hm⟩ => ?_, fun ⟨m, _, hm⟩ => ⟨m, hm⟩⟩
  have step : ∀ d k, Sy.l k ∈ grown ws pst (i + d) → Ahead ws pst i k := by
    intro d
    induction d with
    | zero =>
      intro k hk
      by_cases z : Ahead ws pst i k
      · exact z
      · exact absurd ⟨hk, z⟩ (h k)
    | succ d ih =>
      intro k hk
      obtain ⟨j, hj, hkj⟩ := grow_from.mp (show Sy.l k ∈ grow ws (grown ws pst (i + d)) from hk)
      obtain ⟨m, hm, hmj⟩ := ih j hj
      by_cases z : m + 1 < i
      · exact ⟨m + 1, z, grow_from.mpr ⟨j, hmj, hkj⟩⟩
      · by_cases z2 : Ahead ws pst i k
        · exact z2
        · refine absurd ⟨?_, z2⟩ (h k)
          have e : m + 1 = i := by omega
          rw [← e]
          exact grow_from.mpr ⟨j, hmj, hkj⟩
  by_cases z : m < i
  · exact ⟨m, z, hm⟩
  · exact step (m - i) k (by rw [show i + (m - i) = m by omega]; exact hm)
/-! ### a table with numbers as keys -/
structure KeyS (F : Nat → Nat → Prop) (S : Nat → Prop) (ks : List Nat) (kvs : List (Key × V)) : Prop where
  keys : kvs.map (·.1) = ks.map fun (k : Nat) => (Sum.inl (k : Int) : Key)
  nd : ks.Nodup
  mem : ∀ k, k ∈ ks ↔ S k
  val : ∀ (k : Nat), S k → ∃ m : Nat, valV kvs (.inl (k : Int)) = some (.int (m : Int)) ∧ F k m
theorem KeyS.has {F : Nat → Nat → Prop} {S : Nat → Prop} {ks : List Nat} {kvs : List (Key × V)} (h : KeyS F S ks kvs) (k : Nat) : (valV kvs (.inl (k : Int))).isSome = true ↔ S k := by
  rw [← valV_any, List.any_eq_true, ← h.mem]
  constructor
  · rintro ⟨p, hp, e⟩
    have e : p.1 = Sum.inl (k : Int) := of_decide_eq_true e
    have : p.1 ∈ kvs.map (·.1) := List.mem_map_of_mem hp
    rw [h.keys, e] at this
    obtain ⟨j, hj, z⟩ := List.mem_map.mp this
    injection z with z
    have : j = k := by omega
    exact this ▸ hj
  · intro hk
    have : (Sum.inl (k : Int) : Key) ∈ kvs.map (·.1) := by
      rw [h.keys]
      exact List.mem_map_of_mem hk
    obtain ⟨p, hp, e⟩ := List.mem_map.mp this
    exact ⟨p, hp, decide_eq_true e⟩
theorem KeyS.len {F : Nat → Nat → Prop} {S : Nat → Prop} {ks : List Nat} {kvs : List (Key × V)} (h : KeyS F S ks kvs) : kvs.length = ks.length := by
  have := congrArg List.length h.keys
  rw [List.length_map, List.length_map] at this
  exact this
theorem keys_old {kvs : List (Key × V)} {k : Key} {v : V} (h : (kvs.any fun kv => decide (kv.1 = k)) = true) : (putK kvs k v).map (·.1) = kvs.map (·.1) := by
  unfold putK
  rw [if_pos h, List.map_map]
  refine List.map_congr_left fun p _ => ?_
  show (if p.1 = k then (p.1, v) else p).1 = p.1
  split <;> rfl
theorem KeyS.put {F : Nat → Nat → Prop} {S : Nat → Prop} {ks : List Nat} {kvs : List (Key × V)} (h : KeyS F S ks kvs) {k m : Nat} (hf : F k m) : ∃ ks', KeyS F (fun j => S j ∨ j = k) ks' (putK kvs (.inl (k : Int)) (.int (m : Int))) := by
  have val : ∀ (j : Nat), (S j ∨ j = k) → ∃ m' : Nat, valV (putK kvs (.inl (k : Int)) (.int (m : Int))) (.inl (j : Int)) = some (.int (m' : Int)) ∧ F j m' := fun j hj => by
    rw [valV_put]
    by_cases e : j = k
    · subst e
      exact ⟨m, by rw [if_pos rfl], hf⟩
    · rw [if_neg (fun z => e (by injection z with z; omega))]
      exact h.val j (hj.resolve_right e)
  cases z : valV kvs (.inl (k : Int)) with
  | some x =>
    have hk : S k := (h.has k).mp (by rw [z]; rfl)
    refine ⟨ks, by rw [keys_old (by rw [valV_any, z]; rfl)]; exact h.keys, h.nd, fun j => ?_, val⟩
    rw [h.mem]
    exact ⟨.inl, fun c => c.elim id fun e => e ▸ hk⟩
  | none =>
    have hk : ¬ S k := fun c => by
      have := (h.has k).mpr c
      rw [z] at this
      cases this
    refine ⟨ks ++ [k], ?_, ?_, fun j => ?_, val⟩
    · rw [putK_new _ z, List.map_append, List.map_append, h.keys]
      rfl
    · rw [List.nodup_append]
      refine ⟨h.nd, List.nodup_cons.mpr ⟨(fun z => nomatch z), List.nodup_nil⟩, fun a ha b hb e => ?_⟩
      rw [List.mem_singleton.mp hb] at e
      subst e
      exact hk ((h.mem _).mp ha)
    · rw [List.mem_append, h.mem, List.mem_singleton]
theorem KeyS.iff {F : Nat → Nat → Prop} {S S' : Nat → Prop} {ks : List Nat} {kvs : List (Key × V)} (h : KeyS F S ks kvs) (e : ∀ k, S' k ↔ S k) : KeyS F S' ks kvs := ⟨h.keys, h.nd, fun k => (h.mem k).trans (e k).symm, fun k hk => h.val k ((e k).mp hk)⟩
/-- the first age of a letter -/
def FirstAge (ws : List (List Sy)) (pst : List Sy) (k m : Nat) : Prop := Fresh ws pst m k
def spAges (K : PySem.W.Frag) : Sp := fun vs H Q _ => ∃ (p q : Addr) (as : List Addr) (ws : List (List Sy)) (pst : List Sy), vs = [.ref p, .ref q] ∧ H p = some (.tup (as.map V.ref)) ∧ Words H as ws ∧ Sq K H q (wv pst) ∧ ws.length ≤ 8 ∧ (∀ w ∈ ws, Good ws.length 40 w) ∧ (∀ k, Sy.l k ∈ pst → k < ws.length) ∧
  ∀ (H' : Hp) (D : Addr) (ks : List Nat) (kvs : List (Key × V)), Same H H' → H D = none → H' D = some (.dK kvs) → KeyS (FirstAge ws pst) (Comes ws pst) ks kvs → Q (.ref D) H'
theorem few_keys {n : Nat} {ks : List Nat} (nd : ks.Nodup) (h : ∀ k ∈ ks, k < n) : ks.length ≤ n := by
  have := nat_nodup_len ks (List.range n) nd fun k hk => List.mem_range.mpr (h k hk)
  rw [List.length_range] at this
  exact this
section
variable {P : Program} {w : World} {K : PySem.W.Frag} {mg : Str → Option Value} {base : Heap}
theorem ok_ages {f : Addr} {fd : FuncData} {k : Nat} (F : Fun K "ages_of_letters" "ages_of_letters" s_ages_of_letters f fd) (GL : Got P w K mg base "letters_in" k ["parts"] (spLettersIn K)) (GN : Got P w K mg base "next_letters" k ["words", "letters"] spNext) :
    FnOk P w K mg base CX0 (k + 1) f fd ["words", "parts"] (spAges K) := by
  refine F.ok sc_ages_of_letters (fun vs H Q E h => ?_) (fun cdv A outer s H vs Q E hr h => ?_)
  · obtain ⟨p, q, as, ws, pst, rfl, _⟩ := h
    rfl
  · obtain ⟨p, pq, as, ws, pst, rfl, hp, hw, hq, h8, hg, hl, q⟩ := h
    have nd := sc_ages_of_letters.nd
    refine ⟨_, pss_cons (ps_set (i := 2) nd rfl (.inr rfl) pe_dnewK)
      (pss_cons (ps_set (i := 3) nd rfl (.inl rfl) pe_int)
      (pss_cons (ps_set (i := 4) nd rfl (.inl rfl) (pcall GL hr (pa_cons (pv 1) pa_nil)))
      (pss_cons (ps_while PassesOwn.never (pt_truth (pv 4) (by intro _; rfl))
        (pss_cons (ps_for PassesOwn.never rfl (pi_list (pv 4)) (pg_name (i := 5) nd rfl (.inl rfl))
          (pss_one (ps_dput (hu_of hr) (pv 2) (pv 5) (pv 3) rfl)))
        (pss_cons (ps_setLc (i := 4) (own := [("letter", 5)]) (g := gName 5) rfl nd rfl rfl (sw_true rfl rfl rfl (by decide +kernel)) (pi_list (pcall GN hr (pa_cons (pv 0) (pa_cons (pv 4) pa_nil)))) (blkOk_by (N := n_ages_of_letters) (sc := defScope s_ages_of_letters) (by decide +kernel))
            (fun _ _ _ _ _ => pg_name (i := 5) nd rfl (Or.inl rfl)) (fun _ _ _ _ _ => pts_one (pt_cmp (pc_dnotin (hu_of hr) (pv 5) (pv 2)))) (fun _ _ _ _ _ => pv 5))
        (pss_one (ps_aug (i := 3) nd rfl (.inl rfl) pe_int ip_add)))))
      (pss_one (ps_ret (pv 2)))))), ?_⟩
    refine fun D nD => ⟨_, rfl, pq, pst, rfl, hq.same (same_upd nD), fun k hk => Nat.lt_of_lt_of_le (hl k hk) h8, fun H1 l1 ls S1 n1 h1 hm1 hl1 => ?_⟩
    have S01 := (same_upd (o := .dK []) nD).trans S1
    have fewK : ∀ {i : Nat} {ks : List Nat} {kvs : List (Key × V)}, KeyS (FirstAge ws pst) (Ahead ws pst i) ks kvs → ks.length ≤ 8 := fun h => by
      have := few_keys h.nd (n := ws.length) fun k hk => by
        obtain ⟨m, _, hm⟩ := (h.mem k).mp hk
        exact grown_lets' hg hl m k hm
      omega
    refine ⟨fun m σ H' => ∃ (i : Nat) (lp : Addr) (fr ks : List Nat) (kvs : List (Key × V)) (y5 : Option V), σ = [some (.ref p), some (.ref pq), some (.ref D), some (.int (i : Nat)), some (.ref lp), y5] ∧ Same H H' ∧ H' D = some (.dK kvs) ∧ KeyS (FirstAge ws pst) (Ahead ws pst i) ks kvs ∧ H' lp = some (.lst (iV fr)) ∧ (∀ k, k ∈ fr ↔ Fresh ws pst i k) ∧ fr.length ≤ 8 ∧ m = 8 - ks.length,
      ⟨_, 0, l1, ls, [], [], none, rfl, S01, S1 _ _ upd_same, ⟨rfl, List.nodup_nil, fun k => ⟨(fun h => nomatch h), fun ⟨m, h, _⟩ => absurd h (Nat.not_lt_zero _)⟩, fun k ⟨m, h, _⟩ => absurd h (Nat.not_lt_zero _)⟩, h1, fun k => ?_, hl1, rfl⟩, ?_⟩
    · rw [hm1]
      exact ⟨fun h => ⟨h, fun ⟨m, h, _⟩ => absurd h (Nat.not_lt_zero _)⟩, fun h => h.1⟩
    rintro m σ H2 ⟨i, lp, fr, ks, kvs, y5, rfl, S2, hD, hK, hlp, hfr, hf8, rfl⟩
    have frw : ∀ k ∈ fr, k < ws.length := fun k hk => grown_lets' hg hl i k ((hfr k).mp hk).1
    rcases List.eq_nil_or_concat fr with hfe | ⟨fr0, k0, hfe⟩
    · refine ⟨_, rfl, false, .inl ⟨iV fr, SqL.of hlp, by rw [hfe]; rfl⟩, ?_⟩
      refine iteF ⟨_, rfl, q H2 D ks kvs S2 nD hD (hK.iff fun k => ?_)⟩
      exact comes_all (fun k hk => by
        have := (hfr k).mpr hk
        rw [hfe] at this
        cases this) k
    · have hk0 : k0 ∈ fr := by rw [hfe]; simp
      refine ⟨_, rfl, true, .inl ⟨iV fr, SqL.of hlp, by rw [hfe]; unfold iV; simp⟩, ?_⟩
      clear hfe
      have nlp : lp ≠ D := ne_of hlp hD (by intro z; cases z)
      refine iteT ⟨fun σ' H' => ∃ m', m' < 8 - ks.length ∧ _, fun σ' H' h => h, ?_⟩
      refine ⟨_, rfl, lp, rfl, ⟨_, SqL.of hlp⟩, for_list (K := K) (a := lp) (xs := iV fr) (fun t σ H' => ∃ (ks' : List Nat) (kvs' : List (Key × V)) (y5 : Option V), σ = [some (.ref p), some (.ref pq), some (.ref D), some (.int (i : Nat)), some (.ref lp), y5] ∧ SameX D H2 H' ∧ H' D = some (.dK kvs') ∧ KeyS (FirstAge ws pst) (fun j => Ahead ws pst i j ∨ j ∈ fr.take t) ks' kvs')
        ⟨ks, kvs, y5, rfl, .refl, hD, hK.iff fun k => by simp⟩ (fun t σ H' _ ⟨_, _, _, _, s, _⟩ => SqL.of (s _ _ nlp hlp)) ?_ ?_⟩
      · rintro t x σ H3 hx ⟨ks', kvs', y5, rfl, S3, hD3, hK3⟩
        obtain ⟨j, hj, rfl⟩ := iV_get hx
        have hjf := (hfr j).mp (List.mem_of_getElem? hj)
        obtain ⟨ks2, hK4⟩ := hK3.put (k := j) (m := i) hjf
        have l3 : kvs'.length ≤ 8 := by
          rw [hK3.len]
          have := few_keys hK3.nd (n := ws.length) fun k hk => by
            rcases (hK3.mem k).mp hk with ⟨m, _, hm⟩ | h
            · exact grown_lets' hg hl m k hm
            · exact frw k (List.mem_of_mem_take h)
          omega
        refine ⟨_, rfl, _, rfl, _, rfl, D, _, rfl, DPut.k (k := Sum.inl (j : Int)) hD3 (by rw [sizeLine_eq]; omega), ks2, _, _, rfl, S3.at, upd_same, hK4.iff fun k => ?_⟩
        rw [take_more hj, List.mem_append, List.mem_singleton, or_assoc]
      · rintro σ H3 ⟨ks', kvs', y5, rfl, S3, hD3, hK3⟩
        have hK3 : KeyS (FirstAge ws pst) (Ahead ws pst (i + 1)) ks' kvs' := hK3.iff fun k => by
          have lz : (iV fr).length = fr.length := by unfold iV; rw [List.length_map]
          rw [lz, List.take_length, hfr, ahead_succ]
        have S03 : Same H H3 := fun b o e => S3 b o (ne_of_none e nD) (S2 b o e)
        have hlp3 := S3 _ _ nlp hlp
        have k8 := fewK hK3
        have more : ks.length + 1 ≤ ks'.length := by
          refine nat_nodup_len (k0 :: ks) ks' (List.nodup_cons.mpr ⟨fun z => ?_, hK.nd⟩) fun x hx => ?_
          · exact ((hfr k0).mp hk0).2 ((hK.mem k0).mp z)
          · rw [hK3.mem, ahead_succ]
            rcases List.mem_cons.mp hx with rfl | hx
            · exact .inr ((hfr _).mp hk0)
            · exact .inl ((hK.mem x).mp hx)
        refine ⟨_, rfl, _, rfl, p, lp, as, ws, fr, rfl, S03 _ _ hp, hw.keep (.of S03), hlp3, frw, hf8, h8, hg, fun H4 l4 ls4 S4 n4 h4 hm4 hl4 => ⟨l4, rfl, ⟨_, SqL.of h4⟩, fun L nL => ?_⟩⟩
        have hD4 := S4 _ _ hD3
        refine lc_list (K := K) (a := l4) (xs := iV ls4) (fun t H' => Same H4 H' ∧ ∃ acc : List Nat, H' L = some (.lst (iV acc)) ∧ acc.length ≤ t ∧ ∀ k, k ∈ acc ↔ k ∈ ls4.take t ∧ ¬ Ahead ws pst (i + 1) k)
          ⟨same_upd nL, [], upd_same, Nat.le_refl _, fun k => by simp⟩ (fun t H' _ h => h.1.seq (SqL.of h4)) ?_ ?_
        · rintro t x H5 hx ⟨S5, acc, hL, ha, hm⟩
          obtain ⟨j, hj, rfl⟩ := iV_get hx
          have ht : t < ls4.length := (List.getElem?_eq_some_iff.mp hj).1
          refine ⟨rfl, _, rfl, _, rfl, D, _, rfl, DGet.k (k := Sum.inl (j : Int)) (S5 _ _ hD4), _, rfl, ?_⟩
          cases hv : valV kvs' (Sum.inl (j : Int)) with
          | none =>
            have hj' : ¬ Ahead ws pst (i + 1) j := fun c => by
              have := (hK3.has j).mpr c
              rw [hv] at this
              cases this
            refine iteT ⟨_, rfl, _, hL, ?_, sPut S5 nL, acc ++ [j], ?_, ?_, fun k => ?_⟩
            · unfold iV; rw [List.length_map, sizeLine_eq]; omega
            · rw [upd_same]; unfold iV; rw [List.map_append]; rfl
            · rw [List.length_append, List.length_singleton]; omega
            · rw [List.mem_append, List.mem_singleton, hm, take_more hj, List.mem_append, List.mem_singleton]
              constructor
              · rintro (⟨a, b⟩ | rfl)
                · exact ⟨.inl a, b⟩
                · exact ⟨.inr rfl, hj'⟩
              · rintro ⟨a | a, b⟩
                · exact .inl ⟨a, b⟩
                · exact .inr a
          | some x =>
            have hj' : Ahead ws pst (i + 1) j := (hK3.has j).mp (by rw [hv]; rfl)
            refine iteF ⟨S5, acc, hL, by omega, fun k => ?_⟩
            rw [hm, take_more hj, List.mem_append, List.mem_singleton]
            constructor
            · rintro ⟨a, b⟩
              exact ⟨.inl a, b⟩
            · rintro ⟨a | rfl, b⟩
              · exact ⟨a, b⟩
              · exact absurd hj' b
        · rintro H5 ⟨S5, acc, hL, ha, hm⟩
          have lz : (iV ls4).length = ls4.length := by unfold iV; rw [List.length_map]
          rw [lz, List.take_length] at hm
          rw [lz] at ha
          refine ⟨_, rfl, _, _, rfl, rfl, 8 - ks'.length, by omega, i + 1, L, acc, ks', kvs', _, rfl, (S03.trans S4).trans S5, S5 _ _ hD4, hK3, hL, fun k => ?_, by omega, rfl⟩
          rw [hm, hm4, fresh_succ]
          refine and_congr_left fun _ => ⟨fun ⟨j, a, b⟩ => ⟨j, (hfr j).mp a, b⟩, fun ⟨j, a, b⟩ => ⟨j, (hfr j).mpr a, b⟩⟩
end
theorem int_nat_list {ys : List Int} {ks : List Nat} (h : ys.Perm (ks.map fun (k : Nat) => (k : Int))) : ys = (ys.map Int.toNat).map fun (k : Nat) => (k : Int) := by
  rw [List.map_map]
  refine (List.map_id ys).symm.trans (List.map_congr_left fun y hy => ?_)
  obtain ⟨k, _, rfl⟩ := List.mem_map.mp (h.mem_iff.mp hy)
  rfl
def spComing (K : PySem.W.Frag) : Sp := fun vs H Q _ => ∃ (p q : Addr) (as : List Addr) (ws : List (List Sy)) (pst : List Sy), vs = [.ref p, .ref q] ∧ H p = some (.tup (as.map V.ref)) ∧ Words H as ws ∧ Sq K H q (wv pst) ∧ ws.length ≤ 8 ∧ (∀ w ∈ ws, Good ws.length 40 w) ∧ (∀ k, Sy.l k ∈ pst → k < ws.length) ∧
  ∀ (H' : Hp) (l : Addr) (cl : List Nat), Same H H' → H l = none → H' l = some (.lst (iV cl)) → (∀ k, k ∈ cl ↔ Comes ws pst k) → cl.Nodup → cl.Pairwise (· ≤ ·) → cl.length ≤ 8 → Q (.ref l) H'
section
variable {P : Program} {w : World} {K : PySem.W.Frag} {mg : Str → Option Value} {base : Heap}
theorem ok_coming {f : Addr} {fd : FuncData} {k : Nat} (F : Fun K "coming_letters" "coming_letters" s_coming_letters f fd) (GA : Got P w K mg base "ages_of_letters" k ["words", "parts"] (spAges K)) (mO : mg "sorted" = none) :
    FnOk P w K mg base CX0 (k + 1) f fd ["words", "parts"] (spComing K) := by
  refine F.ok sc_coming_letters (fun vs H Q E h => ?_) (fun cdv A outer s H vs Q E hr h => ?_)
  · obtain ⟨p, q, as, ws, pst, rfl, _⟩ := h
    rfl
  · obtain ⟨p, pq, as, ws, pst, rfl, hp, hw, hq, h8, hg, hl, q⟩ := h
    refine ⟨_, pss_one (ps_ret (pe_callB (call_sortedDI (by rfl)) (by rfl) mO (by decide +kernel) (pa_cons (pcall GA hr (pa_cons (pv 0) (pa_cons (pv 1) pa_nil))) pa_nil) (by decide) (by decide))), ?_⟩
    refine ⟨_, rfl, _, rfl, p, pq, as, ws, pst, rfl, hp, hw, hq, h8, hg, hl, fun H1 D ks kvs S1 nD hD hK => ?_⟩
    have l8 : ks.length ≤ 8 := by
      have := few_keys hK.nd (n := ws.length) fun k hk => by
        obtain ⟨m, hm⟩ := (hK.mem k).mp hk
        exact grown_lets' hg hl m k hm
      omega
    refine ⟨D, kvs, ks.map fun (k : Nat) => (k : Int), rfl, .inl hD, by rw [hK.keys, List.map_map]; rfl, by rw [List.length_map]; omega, fun ys l hp hs nl => ?_⟩
    have e := int_nat_list hp
    have hp2 : (ys.map Int.toNat).Perm ks := by
      have := hp.map Int.toNat
      rw [List.map_map] at this
      refine this.trans (List.Perm.of_eq ((List.map_congr_left fun k _ => ?_).trans (List.map_id ks)))
      rfl
    refine q _ l (ys.map Int.toNat) (S1.trans (same_upd nl)) (S1.free nl) ?_ (fun k => (hp2.mem_iff).trans (hK.mem k)) (hp2.nodup_iff.mpr hK.nd) ?_ (by rw [hp2.length_eq]; exact l8)
    · rw [upd_same]
      have e2 : ys.map V.int = iV (ys.map Int.toNat) := by
        refine (congrArg (List.map V.int) e).trans ?_
        rw [List.map_map]
        rfl
      rw [e2]
    · rw [List.pairwise_map]
      exact hs.imp fun h => by omega
end
end SK
namespace SK
open PySem PySem.Spec PyProof.Rows L2
/-! ### what letters come to, age by age -/
/-- a sum over the letters of a word -/
def wsum (N : Nat → Nat) : List Sy → Nat
  | [] => 0
  | .l k :: w => N k + wsum N w
  | _ :: w => wsum N w
def vlist (N : Nat → Nat) : List Sy → List Int
  | [] => []
  | .l k :: w => (N k : Int) :: vlist N w
  | _ :: w => vlist N w
theorem vlist_app (N : Nat → Nat) : ∀ a b : List Sy, vlist N (a ++ b) = vlist N a ++ vlist N b
  | [], b => rfl
  | .l k :: a, b => congrArg (_ :: ·) (vlist_app N a b)
  | .p :: a, b => vlist_app N a b
  | .m :: a, b => vlist_app N a b
  | .o :: a, b => vlist_app N a b
  | .c :: a, b => vlist_app N a b
theorem vlist_sum (N : Nat → Nat) : ∀ w : List Sy, (vlist N w).sum = (wsum N w : Int)
  | [] => rfl
  | .l k :: w => by
    show (N k : Int) + (vlist N w).sum = ((N k + wsum N w : Nat) : Int)
    rw [vlist_sum N w, Int.natCast_add]
  | .p :: w => vlist_sum N w
  | .m :: w => vlist_sum N w
  | .o :: w => vlist_sum N w
  | .c :: w => vlist_sum N w
theorem vlist_len (N : Nat → Nat) : ∀ w : List Sy, (vlist N w).length ≤ w.length
  | [] => Nat.le_refl _
  | .l k :: w => Nat.succ_le_succ (vlist_len N w)
  | .p :: w => Nat.le_succ_of_le (vlist_len N w)
  | .m :: w => Nat.le_succ_of_le (vlist_len N w)
  | .o :: w => Nat.le_succ_of_le (vlist_len N w)
  | .c :: w => Nat.le_succ_of_le (vlist_len N w)
theorem nL_growG (G : Nat → List Sy) : ∀ w : List Sy, nL (growG G w) = wsum (fun k => nL (G k)) w
  | [] => rfl
  | s :: w => by
    have e : growG G (s :: w) = imgG G s ++ growG G w := rfl
    rw [e, nL_app, nL_growG G w]
    cases s with
    | l k => rfl
    | p => exact Nat.zero_add _
    | m => exact Nat.zero_add _
    | o => exact Nat.zero_add _
    | c => exact Nat.zero_add _
/-- how many strokes a letter has become -/
def nLg (ws : List (List Sy)) (m k : Nat) : Nat := nL (gI ws m k)
theorem nLg_zero (ws : List (List Sy)) (k : Nat) : nLg ws 0 k = 1 := rfl
theorem nLg_succ (ws : List (List Sy)) (m k : Nat) : nLg ws (m + 1) k = wsum (nLg ws m) (ws.getD k []) := nL_growG (gI ws m) (ws.getD k [])
theorem nL_grown (ws : List (List Sy)) (st : List Sy) (n : Nat) : nL (grown ws st n) = wsum (nLg ws n) st := by
  have e := growG_grown ws st n 0
  rw [Nat.zero_add] at e
  rw [← e]
  exact nL_growG _ _
theorem nest_growG {G : Nat → List Sy} : ∀ {w : List Sy} {d e : Nat}, (∀ k, Sy.l k ∈ w → nest (G k) 0 = some 0) → nest w d = some e → nest (growG G w) d = some e
  | [], d, e, _, h => h
  | s :: w, d, e, hl, h => by
    have hl' : ∀ k, Sy.l k ∈ w → nest (G k) 0 = some 0 := fun k hk => hl k (List.mem_cons_of_mem _ hk)
    show nest (imgG G s ++ growG G w) d = some e
    rw [nest_app]
    cases s with
    | l j =>
      have up : ∀ (w : List Sy) (d e k : Nat), nest w d = some e → nest w (d + k) = some (e + k) := by
        intro w
        induction w with
        | nil => intro d e k h; cases h; rfl
        | cons s w ih =>
          intro d e k h
          cases s with
          | o =>
            have := ih (d + 1) e k h
            rw [show d + 1 + k = d + k + 1 by omega] at this
            exact this
          | c =>
            cases d with
            | zero => cases h
            | succ d =>
              have := ih d e k h
              rw [show d + 1 + k = (d + k) + 1 by omega]
              exact this
          | p => exact ih d e k h
          | m => exact ih d e k h
          | l j => exact ih d e k h
      have := up (G j) 0 0 d (hl j List.mem_cons_self)
      rw [Nat.zero_add] at this
      show (nest (G j) d).bind (nest (growG G w)) = some e
      rw [this]
      exact nest_growG hl' h
    | o => exact nest_growG hl' (show nest w (d + 1) = some e from h)
    | c =>
      cases d with
      | zero => cases h
      | succ d => exact nest_growG hl' (show nest w d = some e from h)
    | p => exact nest_growG hl' (show nest w d = some e from h)
    | m => exact nest_growG hl' (show nest w d = some e from h)
theorem getD_good {ws : List (List Sy)} (hg : ∀ w ∈ ws, Good ws.length 40 w) {k : Nat} (h : k < ws.length) : Good ws.length 40 (ws.getD k []) := by
  rw [List.getD_eq_getElem?_getD, List.getElem?_eq_getElem h]
  exact hg _ (List.getElem_mem h)
theorem nest_gI {ws : List (List Sy)} (hg : ∀ w ∈ ws, Good ws.length 40 w) : ∀ m k, k < ws.length → nest (gI ws m k) 0 = some 0
  | 0, k, _ => rfl
  | m + 1, k, h => nest_growG (fun j hj => nest_gI hg m j ((getD_good hg h).lets j hj)) (getD_good hg h).nst
/-- the strokes that a stroke of the coarser path is drawn as -/
def fineG (E : Pth) (G : Nat → List Sy) (s : Stk) : List Stk := (penE E (G s.2.2.2)).out.map (sh (s.1, s.2.1, s.2.2.1))
theorem grow_penG {G : Nat → List Sy} {E E' : Pth} : ∀ (w : List Sy), (∀ k, Sy.l k ∈ w → nest (G k) 0 = some 0 ∧ E' k = (penE E (G k)).pl) → ∀ (p p' : Pen), p.pl = p'.pl → p.st = p'.st → HOk p → p.out = p'.out.flatMap (fineG E G) →
    (penF E p (growG G w)).pl = (penF E' p' w).pl ∧ (penF E p (growG G w)).st = (penF E' p' w).st ∧ (penF E p (growG G w)).out = (penF E' p' w).out.flatMap (fineG E G)
  | [], _, p, p', h1, h2, _, h4 => ⟨h1, h2, h4⟩
  | s :: w, hw, p, p', h1, h2, hk, h4 => by
    have hw' : ∀ k, Sy.l k ∈ w → nest (G k) 0 = some 0 ∧ E' k = (penE E (G k)).pl := fun k hk => hw k (List.mem_cons_of_mem _ hk)
    rw [show growG G (s :: w) = imgG G s ++ growG G w from rfl, penF_app, penF_cons]
    have step : ∀ q q' : Pen, q.pl = q'.pl → q.st = q'.st → HOk q → q.out = q'.out.flatMap (fineG E G) → _ := fun q q' a b c d => grow_penG w hw' q q' a b c d
    have hxy : p.x = p'.x ∧ p.y = p'.y ∧ p.h = p'.h := ⟨congrArg (·.1) h1, congrArg (·.2.1) h1, congrArg (·.2.2) h1⟩
    cases s with
    | l k =>
      obtain ⟨hn, he⟩ := hw k List.mem_cons_self
      obtain ⟨r1, r2, r3⟩ := path_run E hn hk
      refine step _ _ ?_ (r2.trans h2) (hok_run _ hk) ?_
      · show (penF E p (G k)).pl = mv p'.pl (E' k)
        rw [r1, h1, he]
      · show (penF E p (G k)).out = (p'.out ++ [(p'.x, p'.y, p'.h, k)]).flatMap (fineG E G)
        rw [r3, h4, List.flatMap_append, h1]
        simp only [List.flatMap_cons, List.flatMap_nil, List.append_nil]
        rfl
    | o =>
      refine step _ _ h1 ?_ (hok_step (E := E) hk .o) h4
      show p.st ++ [(p.x, p.y, p.h)] = p'.st ++ [(p'.x, p'.y, p'.h)]
      rw [h2, hxy.1, hxy.2.1, hxy.2.2]
    | c =>
      have e : ∀ (F : Pth) (q : Pen), pstepE F q .c = match q.st.getLast? with
        | some (a, b, c) => { q with x := a, y := b, h := c, st := q.st.dropLast }
        | none => q := fun _ _ => rfl
      refine step (pstepE E p .c) (pstepE E' p' .c) ?_ ?_ (hok_step (E := E) hk .c) ?_ <;> rw [e, e, h2] <;> cases p'.st.getLast? <;> first | exact h1 | exact h2 | exact h4 | rfl
    | p =>
      refine step _ _ ?_ h2 (hok_step (E := E) hk .p) h4
      show (p.x, p.y, (p.h + 1) % 4) = (p'.x, p'.y, (p'.h + 1) % 4)
      rw [hxy.1, hxy.2.1, hxy.2.2]
    | m =>
      refine step _ _ ?_ h2 (hok_step (E := E) hk .m) h4
      show (p.x, p.y, (p.h + 3) % 4) = (p'.x, p'.y, (p'.h + 3) % 4)
      rw [hxy.1, hxy.2.1, hxy.2.2]
/-- where a letter's path ends -/
def Eg (ws : List (List Sy)) (m k : Nat) : Plc := (penE one (gI ws m k)).pl
theorem Eg_zero (ws : List (List Sy)) (k : Nat) : Eg ws 0 k = (1, 0, 0) := rfl
/-- the strokes of what a word has become, from a place on -/
theorem far_pen {ws : List (List Sy)} (hg : ∀ w ∈ ws, Good ws.length 40 w) (m : Nat) {w : List Sy} (hl : ∀ k, Sy.l k ∈ w → k < ws.length) {p : Plc} (hp : 0 ≤ p.2.2 ∧ p.2.2 < 4) :
    (penF one (stt p) (growG (gI ws m) w)).pl = (penF (Eg ws m) (stt p) w).pl ∧ (penF one (stt p) (growG (gI ws m) w)).out = (penF (Eg ws m) (stt p) w).out.flatMap (fineG one (gI ws m)) := by
  have := grow_penG (G := gI ws m) (E := one) (E' := Eg ws m) w (fun k hk => ⟨nest_gI hg m k (hl k hk), rfl⟩) (stt p) (stt p) rfl rfl (hok_stt hp) rfl
  exact ⟨this.1, this.2.2⟩
theorem Eg_succ {ws : List (List Sy)} (hg : ∀ w ∈ ws, Good ws.length 40 w) (m k : Nat) (h : k < ws.length) : Eg ws (m + 1) k = (penE (Eg ws m) (ws.getD k [])).pl :=
  (far_pen hg m (p := (0, 0, 0)) (fun j hj => (getD_good hg h).lets j hj) ⟨by decide, by decide⟩).1
theorem grown_gI (ws : List (List Sy)) (st : List Sy) (n : Nat) : grown ws st n = growG (gI ws n) st := by
  have e := growG_grown ws st n 0
  rw [Nat.zero_add] at e
  exact e.symm
/-- as many strokes as letters -/
theorem out_len (E : Pth) : ∀ (w : List Sy) (p : Pen), (penF E p w).out.length = p.out.length + nL w
  | [], p => rfl
  | s :: w, p => by
    rw [penF_cons, out_len E w, show nL (s :: w) = nL [s] + nL w from nL_app [s] w]
    cases s with
    | l k => show (p.out ++ [_]).length + _ = _; rw [List.length_append]; show p.out.length + 1 + nL w = p.out.length + (1 + nL w); omega
    | o => show p.out.length + nL w = p.out.length + (0 + nL w); omega
    | p => show p.out.length + nL w = p.out.length + (0 + nL w); omega
    | m => show p.out.length + nL w = p.out.length + (0 + nL w); omega
    | c =>
      have e : pstepE E p .c = match p.st.getLast? with
        | some (a, b, c) => { p with x := a, y := b, h := c, st := p.st.dropLast }
        | none => p := rfl
      have e2 : (pstepE E p .c).out = p.out := by rw [e]; cases p.st.getLast? <;> rfl
      rw [e2]
      show p.out.length + nL w = p.out.length + (0 + nL w)
      omega
theorem fine_len (ws : List (List Sy)) (m : Nat) (s : Stk) : (fineG one (gI ws m) s).length = nLg ws m s.2.2.2 := by
  unfold fineG nLg penE
  rw [List.length_map, out_len]
  exact Nat.zero_add _
theorem sh_zero {a : Plc} (h : 0 ≤ a.2.2 ∧ a.2.2 < 4) (k : Nat) : sh a (0, 0, 0, k) = (a.1, a.2.1, a.2.2, k) := by
  have e0 : rot a.2.2 (0, 0) = (0, 0) := by rcases rot4 a.2.2 with ⟨_, e⟩ | ⟨_, e⟩ | ⟨_, e⟩ | ⟨_, e⟩ <;> rw [e] <;> rfl
  unfold sh mv
  dsimp only
  rw [e0]
  refine Prod.ext ?_ (Prod.ext ?_ (Prod.ext ?_ rfl))
  · show a.1 + 0 = a.1; omega
  · show a.2.1 + 0 = a.2.1; omega
  · show (a.2.2 + 0) % 4 = a.2.2; omega
theorem fine_zero (ws : List (List Sy)) {s : Stk} (h : 0 ≤ s.2.2.1 ∧ s.2.2.1 < 4) : fineG one (gI ws 0) s = [s] := by
  show [sh (s.1, s.2.1, s.2.2.1) (0, 0, 0, s.2.2.2)] = [s]
  rw [sh_zero (a := (s.1, s.2.1, s.2.2.1)) h]
theorem fine_succ {ws : List (List Sy)} (hg : ∀ w ∈ ws, Good ws.length 40 w) (m : Nat) {s : Stk} (hs : s.2.2.2 < ws.length) (h : 0 ≤ s.2.2.1 ∧ s.2.2.1 < 4) :
    fineG one (gI ws (m + 1)) s = (penF (Eg ws m) (stt (s.1, s.2.1, s.2.2.1)) (ws.getD s.2.2.2 [])).out.flatMap (fineG one (gI ws m)) := by
  have hn := nest_gI hg (m + 1) s.2.2.2 hs
  have r := path_run one hn (hok_stt (p := (s.1, s.2.1, s.2.2.1)) h)
  have f := far_pen hg m (p := (s.1, s.2.1, s.2.2.1)) (fun j hj => (getD_good hg hs).lets j hj) h
  have e : gI ws (m + 1) s.2.2.2 = growG (gI ws m) (ws.getD s.2.2.2 []) := rfl
  rw [← f.2, ← e, r.2.2]
  rfl
end SK
namespace SK
open PySem PySem.Spec PyProof.Rows L2
/-! ### growth.py -/
def spStrokesOf : Sp := fun vs H Q _ => ∃ (a d : Addr) (w : List Sy) (kvs : List (Key × V)) (N : Nat → Nat), vs = [.ref a, .ref d] ∧ WdAt H a w ∧ H d = some (.dK kvs) ∧ (∀ k, Sy.l k ∈ w → valV kvs (.inl (k : Int)) = some (.int (N k : Nat))) ∧ w.length ≤ 1000000 ∧ ∀ H', Same H H' → Q (.int (wsum N w : Nat)) H'
/-- a table by letters -/
def TabF (Φ : Nat → Option V → Prop) (ls : List Nat) (kvs : List (Key × V)) : Prop := ∀ k ∈ ls, Φ k (valV kvs (.inl (k : Int)))
theorem TabF.put {Φ : Nat → Option V → Prop} {ls : List Nat} {kvs : List (Key × V)} {j : Nat} {v : V} (h : TabF Φ ls kvs) (hj : Φ j (some v)) : TabF Φ (ls ++ [j]) (putK kvs (.inl (j : Int)) v) := by
  intro k hk
  rw [valV_put]
  by_cases e : k = j
  · subst e
    rw [if_pos rfl]
    exact hj
  · rw [if_neg (fun z => e (by injection z with z; omega))]
    rcases List.mem_append.mp hk with h' | h'
    · exact h k h'
    · exact absurd (List.mem_singleton.mp h') e
theorem TabF.mono {Φ Ψ : Nat → Option V → Prop} {ls : List Nat} {kvs : List (Key × V)} (h : TabF Φ ls kvs) (f : ∀ k o, Φ k o → Ψ k o) : TabF Ψ ls kvs := fun k hk => f k _ (h k hk)
/-- a table for each age -/
def RowsF (H : Hp) (rs : List Addr) (n : Nat) (cl : List Nat) (Φ : Nat → Nat → Option V → Prop) : Prop := rs.length = n + 1 ∧ ∀ m, m ≤ n → ∃ d kvs, rs[m]? = some d ∧ H d = some (.dK kvs) ∧ TabF (Φ m) cl kvs
theorem RowsF.same {H H' : Hp} {rs : List Addr} {n : Nat} {cl : List Nat} {Φ Ψ : Nat → Nat → Option V → Prop} (h : RowsF H rs n cl Φ) (s : Same H H') (f : ∀ m k o, Φ m k o → Ψ m k o) : RowsF H' rs n cl Ψ :=
  ⟨h.1, fun m hm => let ⟨d, kvs, a, b, c⟩ := h.2 m hm; ⟨d, kvs, a, s _ _ b, c.mono (f m)⟩⟩
def isN (N : Nat → Nat → Nat) : Nat → Nat → Option V → Prop := fun m k o => o = some (.int (N m k : Nat))
def isE (K : PySem.W.Frag) (H : Hp) (E : Nat → Pth) : Nat → Nat → Option V → Prop := fun m k o => ∃ e, o = some (.ref e) ∧ SqT K H e (plV (E m k))
theorem isE.same {K : PySem.W.Frag} {H H' : Hp} {E : Nat → Pth} (s : Same H H') : ∀ m k o, isE K H E m k o → isE K H' E m k o := fun m k o ⟨e, a, b⟩ => ⟨e, a, sTup s b⟩
theorem sq_tup {K : PySem.W.Frag} {H H' : Hp} {a : Addr} {xs : List V} (t : TupS H H') (h : SqT K H a xs) : SqT K H' a xs := by
  rcases h with (h | ⟨o, h⟩) | h
  · exact .inl (.inl (t.1 _ _ h))
  · exact .inl (.inr ⟨o, t.2 _ _ _ h⟩)
  · exact .inr h
theorem isE.tup {K : PySem.W.Frag} {H H' : Hp} {E : Nat → Pth} (t : TupS H H') : ∀ m k o, isE K H E m k o → isE K H' E m k o := fun m k o ⟨e, a, b⟩ => ⟨e, a, sq_tup t b⟩
/-- letters that become none but themselves -/
structure Closed (ws : List (List Sy)) (cl : List Nat) : Prop where
  few : cl.length ≤ 8
  lt : ∀ k ∈ cl, k < ws.length
  cl : ∀ k ∈ cl, ∀ j, Sy.l j ∈ ws.getD k [] → j ∈ cl
theorem closed_comes {ws : List (List Sy)} {st : List Sy} {cl : List Nat} (hg : ∀ w ∈ ws, Good ws.length 40 w) (hl : ∀ k, Sy.l k ∈ st → k < ws.length) (h : ∀ k, k ∈ cl ↔ Comes ws st k) (h8 : cl.length ≤ 8) : Closed ws cl :=
  ⟨h8, fun k hk => let ⟨m, hm⟩ := (h k).mp hk; grown_lets' hg hl m k hm, fun k hk j hj => (h j).mpr (let ⟨m, hm⟩ := (h k).mp hk; ⟨m + 1, grow_from.mpr ⟨k, hm, hj⟩⟩)⟩
def spSByAge : Sp := fun vs H Q _ => ∃ (p l : Addr) (n : Nat) (as : List Addr) (ws : List (List Sy)) (cl : List Nat), vs = [.ref p, .ref l, .int n] ∧ H p = some (.tup (as.map V.ref)) ∧ Words H as ws ∧ H l = some (.lst (iV cl)) ∧ (∀ w ∈ ws, Good ws.length 40 w) ∧ Closed ws cl ∧ n ≤ 1000 ∧
  ∀ (H' : Hp) (ro : Addr) (rs : List Addr), Same H H' → H ro = none → H' ro = some (.lst (rs.map V.ref)) → RowsF H' rs n cl (isN (nLg ws)) → Q (.ref ro) H'
def spEByAge (K : PySem.W.Frag) : Sp := fun vs H Q _ => ∃ (p l : Addr) (n : Nat) (as : List Addr) (ws : List (List Sy)) (cl : List Nat), vs = [.ref p, .ref l, .int n] ∧ H p = some (.tup (as.map V.ref)) ∧ Words H as ws ∧ H l = some (.lst (iV cl)) ∧ (∀ w ∈ ws, Good ws.length 40 w) ∧ Closed ws cl ∧ n ≤ 1000 ∧
  ∀ (H' : Hp) (ro : Addr) (rs : List Addr), Same H H' → H ro = none → H' ro = some (.lst (rs.map V.ref)) → RowsF H' rs n cl (isE K H' (Eg ws)) → Q (.ref ro) H'
section
variable {P : Program} {w : World} {K : PySem.W.Frag} {mg : Str → Option Value} {base : Heap}
theorem ok_strokesof {f : Addr} {fd : FuncData} {k : Nat} (F : Fun K "strokes_of" "strokes_of" s_strokes_of f fd) (mI : mg "isinstance" = none) (mS : mg "str" = none) (mU : mg "sum" = none) : FnOk P w K mg base CX0 (k + 1) f fd ["word", "strokes"] spStrokesOf := by
  refine F.ok sc_strokes_of (fun vs H Q E h => ?_) (fun cdv A outer s H vs Q E hr h => ?_)
  · obtain ⟨a, d, w, kvs, N, rfl, _⟩ := h
    rfl
  · obtain ⟨a, d, wd, kvs, N, rfl, ha, hd, hN, hl, q⟩ := h
    have nd := sc_strokes_of.nd
    refine ⟨_, pss_one (ps_ret (pe_callB (cr_sum rfl) (by rfl) mU (by decide +kernel) (pa_cons (pe_lc (own := [("part", 2)]) (g := gName 2) (tt := tNotStr K 2) (te := tDGet (tVar 1) (tVar 2)) rfl nd (pi_tup (pv 0)) (blkOk_by (N := n_strokes_of) (sc := defScope s_strokes_of) (by decide +kernel))
        (fun _ _ _ _ _ => pg_name (i := 2) nd rfl (Or.inl rfl)) (fun _ _ _ _ _ => pts_one (ptNotStr mI mS (pv 2))) (fun _ _ _ _ _ => pe_dget (hu_of hr) (pv 1) (pv 2) (fun _ _ => rfl))) pa_nil) (by decide) (by decide))), ?_⟩
    refine ⟨_, rfl, a, rfl, ⟨_, ha.sq⟩, fun D nD => ?_⟩
    refine lc_tup (K := K) (a := a) (xs := wv wd) (fun i H' => Same H H' ∧ H' D = some (.lst ((vlist N (wd.take i)).map V.int))) ⟨same_upd nD, upd_same⟩ (fun i H' _ h => (ha.same h.1).sq) ?_ ?_
    · rintro i x H1 hx ⟨S1, hD⟩
      obtain ⟨s, hs, rfl⟩ := wv_get hx
      have hi : i < wd.length := (List.getElem?_eq_some_iff.mp hs).1
      obtain ⟨tn, tb, ht, hk, htb⟩ := ty_sy (K := K) (H := H1) s
      refine ⟨rfl, _, rfl, s.v, tn, tb, rfl, ht, hk, tb, rfl, ?_⟩
      subst htb
      rw [Bool.not_not]
      have e : vlist N (wd.take (i + 1)) = vlist N (wd.take i) ++ vlist N [s] := by rw [take_more hs, vlist_app]
      have lv := vlist_len N (wd.take i)
      rw [List.length_take] at lv
      cases s with
      | l j =>
        refine iteT ⟨_, rfl, _, rfl, d, .int (N j : Nat), rfl, by rw [← hN j (List.mem_of_getElem? hs)]; exact DGet.k (k := Sum.inl (j : Int)) (S1 _ _ hd), _, hD, ?_, sPut S1 nD, ?_⟩
        · rw [List.length_map, sizeLine_eq]; omega
        · rw [upd_same, e, List.map_append]; rfl
      | p => exact iteF ⟨S1, by rw [hD, e]; show _ = some (HO.lst ((vlist N (wd.take i) ++ []).map V.int)); rw [List.append_nil]⟩
      | m => exact iteF ⟨S1, by rw [hD, e]; show _ = some (HO.lst ((vlist N (wd.take i) ++ []).map V.int)); rw [List.append_nil]⟩
      | o => exact iteF ⟨S1, by rw [hD, e]; show _ = some (HO.lst ((vlist N (wd.take i) ++ []).map V.int)); rw [List.append_nil]⟩
      | c => exact iteF ⟨S1, by rw [hD, e]; show _ = some (HO.lst ((vlist N (wd.take i) ++ []).map V.int)); rw [List.append_nil]⟩
    · rintro H1 ⟨S1, hD⟩
      rw [List.length_map, List.take_length] at hD
      refine ⟨D, _, rfl, SqL.of hD, ?_⟩
      rw [vlist_sum]
      exact q H1 S1
theorem ok_sbyage {f : Addr} {fd : FuncData} {k : Nat} (F : Fun K "strokes_by_age" "strokes_by_age" s_strokes_by_age f fd) (GS : Got P w K mg base "strokes_of" k ["word", "strokes"] spStrokesOf) (mR : mg "range" = none) : FnOk P w K mg base CX0 (k + 1) f fd ["words", "letters", "age"] spSByAge := by
  refine F.ok sc_strokes_by_age (fun vs H Q E h => ?_) (fun cdv A outer s H vs Q E hr h => ?_)
  · obtain ⟨p, l, n, as, ws, cl, rfl, _⟩ := h
    rfl
  · obtain ⟨p, l, n, as, ws, cl, rfl, hp, hw, hl, hg, hc, hn, q⟩ := h
    have nd := sc_strokes_by_age.nd
    refine ⟨_, pss_cons (ps_set (i := 3) nd rfl (.inl rfl) (plstN (pa_cons (pe_dc (own := [("letter", 6)]) (g := gName 6) (tt := tYes) (tk := tVar 6) (tv := tC (.int 1)) rfl nd (pi_list (pv 1)) (blkOk_by (N := n_strokes_by_age) (sc := defScope s_strokes_by_age) (by decide +kernel))
          (fun _ _ _ _ _ => pg_name (i := 6) nd rfl (Or.inl rfl)) (fun _ _ _ _ _ => pts_nil) (fun _ _ _ _ _ => pv 6) (fun _ _ _ _ _ => pe_int)) pa_nil)))
      (pss_cons (ps_for PassesOwn.never rfl (pi_range1 rfl mR (pa_cons (pv 2) pa_nil)) (pg_name (i := 4) nd rfl (.inl rfl))
        (pss_cons (ps_set (i := 5) nd rfl (.inr rfl) (pix (pv 3) (pe_un un_neg pe_int)))
        (pss_one (sapp (pv 3) (pe_dc (own := [("letter", 6)]) (g := gName 6) (tt := tYes) (tk := tVar 6) (tv := tCall spStrokesOf [] E0 (tCons (tOp (rIxT K) (tVar 0) (tVar 6)) (tCons (tVar 5) tNil))) rfl nd (pi_list (pv 1)) (blkOk_by (N := n_strokes_by_age) (sc := defScope s_strokes_by_age) (by decide +kernel))
          (fun _ _ _ _ _ => pg_name (i := 6) nd rfl (Or.inl rfl)) (fun _ _ _ _ _ => pts_nil) (fun _ _ _ _ _ => pv 6) (fun _ _ _ _ _ => pcall GS hr (pa_cons (pixT (pv 0) (pv 6)) (pa_cons (pv 5) pa_nil))))))))
      (pss_one (ps_ret (pv 3)))), ?_⟩
    have lz : (iV cl).length = cl.length := by unfold iV; rw [List.length_map]
    have c8 := hc.few
    refine ⟨_, rfl, l, rfl, ⟨_, SqL.of hl⟩, fun D nD => ?_⟩
    refine walk_by (walk_list (K := K) (a := l) (xs := iV cl)) (fun i H' => ∃ kvs, Same H H' ∧ H' D = some (.dK kvs) ∧ kvs.length ≤ i ∧ TabF (isN (nLg ws) 0) (cl.take i) kvs) ⟨[], same_upd nD, upd_same, Nat.le_refl _, fun k hk => by simp at hk⟩ (fun i H' ⟨_, s, _⟩ => s.seq (SqL.of hl)) ?_ ?_
    · rintro i x H4 H5 hi ⟨kvs, S4, hD, hlen, ht⟩ ⟨rfl, hx⟩
      obtain ⟨j, hj, rfl⟩ := iV_get hx
      have hi8 : i < 8 := by
        have := (List.getElem?_eq_some_iff.mp hj).1
        omega
      refine ⟨rfl, _, rfl, kvs, Sum.inl (j : Int), rfl, hD, ?_, putK kvs (Sum.inl (j : Int)) (.int 1), sPut S4 nD, upd_same, ?_, ?_⟩
      · rw [sizeLine_eq]; omega
      · have := length_putK kvs (Sum.inl (j : Int)) (.int 1); omega
      · rw [take_more hj]
        exact ht.put rfl
    · rintro H1 ⟨kvs, S1, hD, hlen, ht⟩
      rw [lz, List.take_length] at ht
      refine ⟨szl 1, fun H2 ro S2 n2 h2 => ?_⟩
      have nro : H ro = none := S1.free n2
      have S02 := S1.trans S2
      refine ⟨_, rfl, (n : Int), rfl, by omega, by omega, ?_⟩
      rw [Int.toNat_natCast]
      refine for_range (lo := 0) (n := n) (fun i σ H' => ∃ (rs : List Addr) (y4 y5 y6 : Option V), σ = [some (.ref p), some (.ref l), some (.int n), some (.ref ro), y4, y5, y6] ∧ Same H H' ∧ H' ro = some (.lst (rs.map V.ref)) ∧ RowsF H' rs i cl (isN (nLg ws)))
        ⟨[D], _, _, _, rfl, S02, h2, ⟨rfl, fun m hm => ⟨D, kvs, by rw [show m = 0 by omega]; rfl, S2 _ _ hD, by rw [show m = 0 by omega]; exact ht⟩⟩⟩ ?_ ?_
      · rintro i σ H3 hi ⟨rs, y4, y5, y6, rfl, S3, hro, hP⟩
        obtain ⟨di, ki, e1, e2, e3⟩ := hP.2 i (Nat.le_refl _)
        have lrs := hP.1
        have hlast : atI (rs.map V.ref) (-1) = some (V.ref di) := by
          have hx : rs = rs.take i ++ [di] := by
            rw [← take_more e1, List.take_of_length_le (by omega)]
          rw [hx, List.map_append]
          exact atI_last _ _
        refine ⟨_, rfl, _, rfl, ro, _, _, _, rfl, rfl, SqL.of hro, hlast, ?_⟩
        refine ⟨_, rfl, .inl ⟨rfl, _, SqL.of hro⟩, _, rfl, l, rfl, ⟨_, SqL.of (S3 _ _ hl)⟩, fun D2 nD2 => ?_⟩
        refine walk_by (walk_list (K := K) (a := l) (xs := iV cl)) (fun t H' => ∃ kvs2, Same H3 H' ∧ H' D2 = some (.dK kvs2) ∧ kvs2.length ≤ t ∧ TabF (isN (nLg ws) (i + 1)) (cl.take t) kvs2) ⟨[], same_upd nD2, upd_same, Nat.le_refl _, fun k hk => by simp at hk⟩ (fun t H' ⟨_, s, _⟩ => s.seq (SqL.of (S3 _ _ hl))) ?_ ?_
        · rintro t x H8 H9 htl ⟨kvs2, S8, hD2, hl2, ht2⟩ ⟨rfl, hx⟩
          obtain ⟨j, hj, rfl⟩ := iV_get hx
          have hjm := List.mem_of_getElem? hj
          have hjw := hc.lt j hjm
          have ht8 : t < 8 := by
            have := (List.getElem?_eq_some_iff.mp hj).1
            omega
          obtain ⟨wa, hwa, hwt⟩ := paired_get hw (List.getElem?_eq_getElem hjw)
          have ed : ws.getD j [] = ws[j] := by rw [List.getD_eq_getElem?_getD, List.getElem?_eq_getElem hjw]; rfl
          rw [← ed] at hwt
          have S08 := S3.trans S8
          have gl := (getD_good hg hjw).len
          refine ⟨rfl, _, rfl, _, rfl, _, rfl, p, _, _, .ref wa, rfl, rfl, SqT.of (S08 _ _ hp), atI_nat (by rw [List.getElem?_map, hwa]; rfl), _, rfl, wa, di, ws.getD j [], ki, nLg ws i, rfl, hwt.same S08, S8 _ _ e2, fun k hk => e3 k (hc.cl j hjm k hk), by omega, fun Ha Sa => ⟨kvs2, Sum.inl (j : Int), rfl, Sa _ _ hD2, ?_, putK kvs2 (Sum.inl (j : Int)) _, sPut (S8.trans Sa) nD2, upd_same, ?_, ?_⟩⟩
          · rw [sizeLine_eq]; omega
          · have := length_putK kvs2 (Sum.inl (j : Int)) (.int (wsum (nLg ws i) (ws.getD j []) : Nat)); omega
          · rw [take_more hj]
            exact ht2.put (by show some _ = some (V.int (nLg ws (i + 1) j : Nat)); rw [nLg_succ])
        · rintro H8 ⟨kvs2, S8, hD2, hl2, ht2⟩
          rw [lz, List.take_length] at ht2
          have hro8 := S8 _ _ hro
          have nDr : D2 ≠ ro := ne_of hD2 hro8 (by intro z; cases z)
          refine ⟨ro, _, _, rfl, rfl, hro8, ?_, rs ++ [D2], _, _, _, rfl, sPut (S3.trans S8) nro, by rw [upd_same, List.map_append]; rfl, ?_, fun m hm => ?_⟩
          · rw [List.length_map, sizeLine_eq]; omega
          · rw [List.length_append, lrs]; rfl
          · by_cases z : m ≤ i
            · obtain ⟨dm, km, a1, a2, a3⟩ := hP.2 m z
              have a2' := S8 _ _ a2
              refine ⟨dm, km, by rw [List.getElem?_append_left (by omega)]; exact a1, ?_, a3⟩
              rw [upd_ne (ne_of a2' hro8 (by intro z; cases z))]
              exact a2'
            · have e : m = i + 1 := by omega
              subst e
              refine ⟨D2, kvs2, by rw [List.getElem?_append_right (by omega), lrs, Nat.sub_self]; rfl, ?_, ht2⟩
              rw [upd_ne nDr]
              exact hD2
      · rintro σ H3 ⟨rs, y4, y5, y6, rfl, S3, hro, hP⟩
        exact ⟨_, rfl, q H3 ro rs S3 nro hro hP⟩
theorem ok_ebyage {f : Addr} {fd : FuncData} {k : Nat} (F : Fun K "ends_by_age" "ends_by_age" s_ends_by_age f fd) {pd sa : Addr} (GL : GotD P w K mg base "lay" k ["word", "ends", "pen"] [.ref pd] (spLay K)) (hPd : ModT K pd (plV (0, 0, 0))) (mS : mg "STROKE" = some (.ref sa)) (hS : ModT K sa (plV (1, 0, 0))) (mR : mg "range" = none) : FnOk P w K mg base CX0 (k + 1) f fd ["words", "letters", "age"] (spEByAge K) := by
  refine F.ok sc_ends_by_age (fun vs H Q E h => ?_) (fun cdv A outer s H vs Q E hr h => ?_)
  · obtain ⟨p, l, n, as, ws, cl, rfl, _⟩ := h
    rfl
  · obtain ⟨p, l, n, as, ws, cl, rfl, hp, hw, hl, hg, hc, hn, q⟩ := h
    have nd := sc_ends_by_age.nd
    refine ⟨_, pss_cons (ps_set (i := 3) nd rfl (.inl rfl) (plstN (pa_cons (pe_dc (own := [("letter", 6)]) (g := gName 6) (tt := tYes) (tk := tVar 6) (tv := tC (.ref sa)) rfl nd (pi_list (pv 1)) (blkOk_by (N := n_ends_by_age) (sc := defScope s_ends_by_age) (by decide +kernel))
          (fun _ _ _ _ _ => pg_name (i := 6) nd rfl (Or.inl rfl)) (fun _ _ _ _ _ => pts_nil) (fun _ _ _ _ _ => pv 6) (fun _ _ _ _ _ => pe_glob (v := .ref sa) rfl mS rfl)) pa_nil)))
      (pss_cons (ps_for PassesOwn.never rfl (pi_range1 rfl mR (pa_cons (pv 2) pa_nil)) (pg_name (i := 4) nd rfl (.inl rfl))
        (pss_cons (ps_set (i := 5) nd rfl (.inr rfl) (pix (pv 3) (pe_un un_neg pe_int)))
        (pss_one (sapp (pv 3) (pe_dc (own := [("letter", 6)]) (g := gName 6) (tt := tYes) (tk := tVar 6) (tv := tOp (rIxT K) (tCall (spLay K) [.ref pd] E0 (tCons (tOp (rIxT K) (tVar 0) (tVar 6)) (tCons (tVar 5) tNil))) (tC (.int 1))) rfl nd (pi_list (pv 1)) (blkOk_by (N := n_ends_by_age) (sc := defScope s_ends_by_age) (by decide +kernel))
          (fun _ _ _ _ _ => pg_name (i := 6) nd rfl (Or.inl rfl)) (fun _ _ _ _ _ => pts_nil) (fun _ _ _ _ _ => pv 6) (fun _ _ _ _ _ => pixT (pcallD GL hr (pa_cons (pixT (pv 0) (pv 6)) (pa_cons (pv 5) pa_nil))) pe_int))))))
      (pss_one (ps_ret (pv 3)))), ?_⟩
    have lz : (iV cl).length = cl.length := by unfold iV; rw [List.length_map]
    have c8 := hc.few
    refine ⟨_, rfl, l, rfl, ⟨_, SqL.of hl⟩, fun D nD => ?_⟩
    refine walk_by (walk_list (K := K) (a := l) (xs := iV cl)) (fun i H' => ∃ kvs, Same H H' ∧ H' D = some (.dK kvs) ∧ kvs.length ≤ i ∧ TabF (isE K H' (Eg ws) 0) (cl.take i) kvs) ⟨[], same_upd nD, upd_same, Nat.le_refl _, fun k hk => by simp at hk⟩ (fun i H' ⟨_, s, _⟩ => s.seq (SqL.of hl)) ?_ ?_
    · rintro i x H4 H5 hi ⟨kvs, S4, hD, hlen, ht⟩ ⟨rfl, hx⟩
      obtain ⟨j, hj, rfl⟩ := iV_get hx
      have hi8 : i < 8 := by
        have := (List.getElem?_eq_some_iff.mp hj).1
        omega
      refine ⟨rfl, _, rfl, kvs, Sum.inl (j : Int), rfl, hD, ?_, putK kvs (Sum.inl (j : Int)) (.ref sa), sPut S4 nD, upd_same, ?_, ?_⟩
      · rw [sizeLine_eq]; omega
      · have := length_putK kvs (Sum.inl (j : Int)) (.ref sa); omega
      · rw [take_more hj]
        exact (ht.mono (isE.tup (TupS.dict hD) 0)).put ⟨sa, rfl, hS.sq⟩
    · rintro H1 ⟨kvs, S1, hD, hlen, ht⟩
      rw [lz, List.take_length] at ht
      refine ⟨szl 1, fun H2 ro S2 n2 h2 => ?_⟩
      have nro : H ro = none := S1.free n2
      have S02 := S1.trans S2
      refine ⟨_, rfl, (n : Int), rfl, by omega, by omega, ?_⟩
      rw [Int.toNat_natCast]
      refine for_range (lo := 0) (n := n) (fun i σ H' => ∃ (rs : List Addr) (y4 y5 y6 : Option V), σ = [some (.ref p), some (.ref l), some (.int n), some (.ref ro), y4, y5, y6] ∧ Same H H' ∧ H' ro = some (.lst (rs.map V.ref)) ∧ RowsF H' rs i cl (isE K H' (Eg ws)))
        ⟨[D], _, _, _, rfl, S02, h2, ⟨rfl, fun m hm => ⟨D, kvs, by rw [show m = 0 by omega]; rfl, S2 _ _ hD, by rw [show m = 0 by omega]; exact ht.mono (isE.same S2 0)⟩⟩⟩ ?_ ?_
      · rintro i σ H3 hi ⟨rs, y4, y5, y6, rfl, S3, hro, hP⟩
        obtain ⟨di, ki, e1, e2, e3⟩ := hP.2 i (Nat.le_refl _)
        have lrs := hP.1
        have hlast : atI (rs.map V.ref) (-1) = some (V.ref di) := by
          have hx : rs = rs.take i ++ [di] := by
            rw [← take_more e1, List.take_of_length_le (by omega)]
          rw [hx, List.map_append]
          exact atI_last _ _
        refine ⟨_, rfl, _, rfl, ro, _, _, _, rfl, rfl, SqL.of hro, hlast, ?_⟩
        refine ⟨_, rfl, .inl ⟨rfl, _, SqL.of hro⟩, _, rfl, l, rfl, ⟨_, SqL.of (S3 _ _ hl)⟩, fun D2 nD2 => ?_⟩
        refine walk_by (walk_list (K := K) (a := l) (xs := iV cl)) (fun t H' => ∃ kvs2, Same H3 H' ∧ H' D2 = some (.dK kvs2) ∧ kvs2.length ≤ t ∧ TabF (isE K H' (Eg ws) (i + 1)) (cl.take t) kvs2) ⟨[], same_upd nD2, upd_same, Nat.le_refl _, fun k hk => by simp at hk⟩ (fun t H' ⟨_, s, _⟩ => s.seq (SqL.of (S3 _ _ hl))) ?_ ?_
        · rintro t x H8 H9 htl ⟨kvs2, S8, hD2, hl2, ht2⟩ ⟨rfl, hx⟩
          obtain ⟨j, hj, rfl⟩ := iV_get hx
          have hjm := List.mem_of_getElem? hj
          have hjw := hc.lt j hjm
          have ht8 : t < 8 := by
            have := (List.getElem?_eq_some_iff.mp hj).1
            omega
          obtain ⟨wa, hwa, hwt⟩ := paired_get hw (List.getElem?_eq_getElem hjw)
          have ed : ws.getD j [] = ws[j] := by rw [List.getD_eq_getElem?_getD, List.getElem?_eq_getElem hjw]; rfl
          rw [← ed] at hwt
          have S08 := S3.trans S8
          have gl := (getD_good hg hjw).len
          have gn : nest (ws.getD j []) 0 ≠ none := by rw [(getD_good hg hjw).nst]; exact (fun z => nomatch z)
          refine ⟨rfl, _, rfl, _, rfl, _, rfl, p, _, _, .ref wa, rfl, rfl, SqT.of (S08 _ _ hp), atI_nat (by rw [List.getElem?_map, hwa]; rfl), _, rfl, wa, di, pd, ws.getD j [], ki, Eg ws i, (0, 0, 0), rfl, hwt.same S08, S8 _ _ e2, fun k hk => ?_, hPd.sq, by decide, by decide, gn, by omega, fun Ha tt la ea asA Sa na ha nla hla hA he => ?_⟩
          · obtain ⟨ee, f1, f2⟩ := e3 k (hc.cl j hjm k hk)
            exact ⟨ee, f1, sTup S8 f2⟩
          · refine ⟨tt, _, _, .ref ea, rfl, rfl, SqT.of ha, at1, kvs2, Sum.inl (j : Int), rfl, Sa _ _ hD2, ?_, putK kvs2 (Sum.inl (j : Int)) (.ref ea), sPut (S8.trans Sa) nD2, upd_same, ?_, ?_⟩
            · rw [sizeLine_eq]; omega
            · have := length_putK kvs2 (Sum.inl (j : Int)) (.ref ea); omega
            · rw [take_more hj]
              have T2 : TupS Ha (upd Ha D2 (.dK (putK kvs2 (Sum.inl (j : Int)) (.ref ea)))) := TupS.dict (Sa _ _ hD2)
              refine (ht2.mono (isE.tup ((TupS.of Sa).trans T2) (i + 1))).put ⟨ea, rfl, SqT.of (T2.1 _ _ ?_)⟩
              rw [Eg_succ hg i j hjw]
              exact he
        · rintro H8 ⟨kvs2, S8, hD2, hl2, ht2⟩
          rw [lz, List.take_length] at ht2
          have hro8 := S8 _ _ hro
          have nDr : D2 ≠ ro := ne_of hD2 hro8 (by intro z; cases z)
          have T8 : TupS H8 (upd H8 ro (.lst (rs.map V.ref ++ [V.ref D2]))) := TupS.refl.lst hro8
          refine ⟨ro, _, _, rfl, rfl, hro8, ?_, rs ++ [D2], _, _, _, rfl, sPut (S3.trans S8) nro, by rw [upd_same, List.map_append]; rfl, ?_, fun m hm => ?_⟩
          · rw [List.length_map, sizeLine_eq]; omega
          · rw [List.length_append, lrs]; rfl
          · by_cases z : m ≤ i
            · obtain ⟨dm, km, a1, a2, a3⟩ := hP.2 m z
              have a2' := S8 _ _ a2
              refine ⟨dm, km, by rw [List.getElem?_append_left (by omega)]; exact a1, ?_, a3.mono (isE.tup ((TupS.of S8).trans T8) m)⟩
              rw [upd_ne (ne_of a2' hro8 (by intro z; cases z))]
              exact a2'
            · have e : m = i + 1 := by omega
              subst e
              refine ⟨D2, kvs2, by rw [List.getElem?_append_right (by omega), lrs, Nat.sub_self]; rfl, ?_, ht2.mono (isE.tup T8 (i + 1))⟩
              rw [upd_ne nDr]
              exact hD2
      · rintro σ H3 ⟨rs, y4, y5, y6, rfl, S3, hro, hP⟩
        exact ⟨_, rfl, q H3 ro rs S3 nro hro hP⟩
end
end SK
namespace SK
open PySem PySem.Spec PyProof.Rows L2
/-! ### ages.py -/
def spStrokesIn : Sp := fun vs H Q _ => ∃ (b : Addr) (n : Nat) (ws : List (List Sy)) (st : List Sy), vs = [.ref b, .int n] ∧ BookAt H b ws st ∧ GoodBook ws st ∧ n ≤ 1000 ∧ ∀ H', Same H H' → Q (.int (nL (grown ws st n) : Nat)) H'
def spEndAt : Sp := fun vs H Q _ => ∃ (b : Addr) (n : Nat) (ws : List (List Sy)) (st : List Sy), vs = [.ref b, .int n] ∧ BookAt H b ws st ∧ GoodBook ws st ∧ n ≤ 1000 ∧ ∀ (H' : Hp) (e : Addr), Same H H' → H' e = some (.tup (plV (pen (grown ws st n)).pl)) → Q (.ref e) H'
theorem far_end {ws : List (List Sy)} {st : List Sy} (g : GoodBook ws st) (n : Nat) : (penF (Eg ws n) (stt (0, 0, 0)) st).pl = (pen (grown ws st n)).pl := by
  have := (far_pen g.words n (w := st) (p := (0, 0, 0)) g.start.lets ⟨by decide, by decide⟩).1
  rw [← this, ← grown_gI]
  show (penE one (grown ws st n)).pl = _
  rw [pen_one]
theorem far_strokes {ws : List (List Sy)} {st : List Sy} (n : Nat) : (penF one (stt (0, 0, 0)) (growG (gI ws n) st)).out = strokes (grown ws st n) := by
  rw [← grown_gI]
  show (penE one (grown ws st n)).out = _
  rw [pen_one]
  rfl
theorem strokes_nL (w : List Sy) : (strokes w).length = nL w := by
  have := out_len one w org
  rw [show penF one org w = penE one w from rfl, pen_one] at this
  rw [show (strokes w).length = (pen w).out.length from rfl, this]
  exact Nat.zero_add _
theorem let_pen {E : Pth} : ∀ (w : List Sy) (p : Pen) (s : Stk), s ∈ (penF E p w).out → s ∈ p.out ∨ Sy.l s.2.2.2 ∈ w
  | [], p, s, h => .inl h
  | x :: w, p, s, h => by
    rw [penF_cons] at h
    rcases let_pen w _ s h with h | h
    · have no : (pstepE E p x).out = p.out → s ∈ p.out ∨ Sy.l s.2.2.2 ∈ x :: w := fun e => .inl (e ▸ h)
      cases x with
      | l k =>
        rcases List.mem_append.mp (show s ∈ p.out ++ [_] from h) with h | h
        · exact .inl h
        · rw [List.mem_singleton.mp h]; exact .inr List.mem_cons_self
      | o => exact no rfl
      | p => exact no rfl
      | m => exact no rfl
      | c =>
        refine no ?_
        have e : pstepE E p .c = match p.st.getLast? with
          | some (a, b, c) => { p with x := a, y := b, h := c, st := p.st.dropLast }
          | none => p := rfl
        rw [e]
        cases p.st.getLast? <;> rfl
    · exact .inr (List.mem_cons_of_mem _ h)
end SK
namespace SK
open PySem PySem.Spec PyProof.Rows L2
/-! ### areas -/
def crs (p q : Int × Int) : Int := p.1 * q.2 - p.2 * q.1
theorem crs_rot (h : Int) (p q : Int × Int) : crs (rot h p) (rot h q) = crs p q := by
  obtain ⟨a, b⟩ := p
  obtain ⟨c, d⟩ := q
  rcases rot4 h with ⟨_, e⟩ | ⟨_, e⟩ | ⟨_, e⟩ | ⟨_, e⟩ <;> rw [e, e] <;> unfold crs <;> dsimp only <;> simp only [Int.neg_mul, Int.mul_neg, Int.neg_neg] <;> (try rw [Int.mul_comm b c, Int.mul_comm a d]) <;> (try rw [Int.mul_comm b d]) <;> (try omega)
theorem crs_add (p q r : Int × Int) : crs (p.1 + q.1, p.2 + q.2) r = crs p r + crs q r := by
  unfold crs
  dsimp only
  rw [Int.add_mul, Int.add_mul]
  omega
theorem crs_back (h : Int) (p q : Int × Int) : crs (rot (-h) p) q = crs p (rot h q) := by
  rw [← crs_rot h (rot (-h) p) q, rot_rot]
  have : rot (h + -h) p = p := by
    rw [show h + -h = 0 by omega]
    rfl
  rw [this]
def VX : List Stk → Int
  | [] => 0
  | s :: L => (dir s.2.2.1).1 + VX L
def VY : List Stk → Int
  | [] => 0
  | s :: L => (dir s.2.2.1).2 + VY L
def AR : List Stk → Int
  | [] => 0
  | s :: L => crs (s.1, s.2.1) (dir s.2.2.1) + AR L
theorem VX_app : ∀ a b : List Stk, VX (a ++ b) = VX a + VX b
  | [], b => (Int.zero_add _).symm
  | s :: a, b => by show _ + VX (a ++ b) = _ + VX a + VX b; rw [VX_app a b]; omega
theorem VY_app : ∀ a b : List Stk, VY (a ++ b) = VY a + VY b
  | [], b => (Int.zero_add _).symm
  | s :: a, b => by show _ + VY (a ++ b) = _ + VY a + VY b; rw [VY_app a b]; omega
theorem AR_app : ∀ a b : List Stk, AR (a ++ b) = AR a + AR b
  | [], b => (Int.zero_add _).symm
  | s :: a, b => by show _ + AR (a ++ b) = _ + AR a + AR b; rw [AR_app a b]; omega
theorem rot_zero (h : Int) : rot h (0, 0) = (0, 0) := by rcases rot4 h with ⟨_, e⟩ | ⟨_, e⟩ | ⟨_, e⟩ | ⟨_, e⟩ <;> rw [e] <;> rfl
theorem dir_sh {a h : Int} (h0 : 0 ≤ h ∧ h < 4) : dir ((a + h) % 4) = rot a (dir h) := by
  rw [dir_rot (by omega) (by omega), dir_rot h0.1 h0.2, rot_mod, rot_rot]
/-- a drawing moved -/
theorem sh_sums {a : Plc} : ∀ {L : List Stk}, (∀ s ∈ L, 0 ≤ s.2.2.1 ∧ s.2.2.1 < 4) → (VX (L.map (sh a)), VY (L.map (sh a))) = rot a.2.2 (VX L, VY L) ∧ AR (L.map (sh a)) = crs (a.1, a.2.1) (rot a.2.2 (VX L, VY L)) + AR L
  | [], _ => by
    show (0, 0) = rot a.2.2 (0, 0) ∧ (0 : Int) = crs _ (rot a.2.2 (0, 0)) + 0
    rw [rot_zero]
    refine ⟨rfl, ?_⟩
    unfold crs
    simp
  | s :: L, h => by
    obtain ⟨i1, i2⟩ := sh_sums (a := a) (L := L) fun x hx => h x (List.mem_cons_of_mem _ hx)
    have hs := h s List.mem_cons_self
    have ed : dir (sh a s).2.2.1 = rot a.2.2 (dir s.2.2.1) := dir_sh hs
    have ea : rot a.2.2 (VX (s :: L), VY (s :: L)) = ((rot a.2.2 (dir s.2.2.1)).1 + (rot a.2.2 (VX L, VY L)).1, (rot a.2.2 (dir s.2.2.1)).2 + (rot a.2.2 (VX L, VY L)).2) := rot_add a.2.2 (dir s.2.2.1) (VX L, VY L)
    have e1 : VX (L.map (sh a)) = (rot a.2.2 (VX L, VY L)).1 := congrArg (·.1) i1
    have e2 : VY (L.map (sh a)) = (rot a.2.2 (VX L, VY L)).2 := congrArg (·.2) i1
    refine ⟨?_, ?_⟩
    · rw [ea]
      show ((dir (sh a s).2.2.1).1 + VX (L.map (sh a)), (dir (sh a s).2.2.1).2 + VY (L.map (sh a))) = _
      rw [ed, e1, e2]
    · show crs ((sh a s).1, (sh a s).2.1) (dir (sh a s).2.2.1) + AR (L.map (sh a)) = _ + (crs (s.1, s.2.1) (dir s.2.2.1) + AR L)
      rw [ed, i2, ea]
      have c1 : crs ((sh a s).1, (sh a s).2.1) (rot a.2.2 (dir s.2.2.1)) = crs (a.1, a.2.1) (rot a.2.2 (dir s.2.2.1)) + crs (s.1, s.2.1) (dir s.2.2.1) := by
        rw [← crs_rot a.2.2 (s.1, s.2.1) (dir s.2.2.1), ← crs_add]
        rfl
      have c2 : ∀ p q r : Int × Int, crs p (q.1 + r.1, q.2 + r.2) = crs p q + crs p r := fun p q r => by
        unfold crs
        dsimp only
        rw [Int.mul_add, Int.mul_add]
        omega
      rw [c1, c2]
      omega
/-- the sums of letters' paths -/
def SX (ws : List (List Sy)) (m k : Nat) : Int := VX (penE one (gI ws m k)).out
def SY (ws : List (List Sy)) (m k : Nat) : Int := VY (penE one (gI ws m k)).out
def SA (ws : List (List Sy)) (m k : Nat) : Int := AR (penE one (gI ws m k)).out
def LX (X Y : Nat → Int) : List Stk → Int
  | [] => 0
  | s :: L => (rot s.2.2.1 (X s.2.2.2, Y s.2.2.2)).1 + LX X Y L
def LY (X Y : Nat → Int) : List Stk → Int
  | [] => 0
  | s :: L => (rot s.2.2.1 (X s.2.2.2, Y s.2.2.2)).2 + LY X Y L
def LA (A : Nat → Int) : List Stk → Int
  | [] => 0
  | s :: L => A s.2.2.2 + LA A L
def LC (X Y : Nat → Int) : List Stk → Int
  | [] => 0
  | s :: L => crs (s.1, s.2.1) (rot s.2.2.1 (X s.2.2.2, Y s.2.2.2)) + LC X Y L
theorem LX_app (X Y : Nat → Int) : ∀ a b : List Stk, LX X Y (a ++ b) = LX X Y a + LX X Y b
  | [], b => (Int.zero_add _).symm
  | s :: a, b => by show _ + LX X Y (a ++ b) = _ + LX X Y a + LX X Y b; rw [LX_app X Y a b]; omega
theorem LY_app (X Y : Nat → Int) : ∀ a b : List Stk, LY X Y (a ++ b) = LY X Y a + LY X Y b
  | [], b => (Int.zero_add _).symm
  | s :: a, b => by show _ + LY X Y (a ++ b) = _ + LY X Y a + LY X Y b; rw [LY_app X Y a b]; omega
theorem LA_app (A : Nat → Int) : ∀ a b : List Stk, LA A (a ++ b) = LA A a + LA A b
  | [], b => (Int.zero_add _).symm
  | s :: a, b => by show _ + LA A (a ++ b) = _ + LA A a + LA A b; rw [LA_app A a b]; omega
/-- the sums of the strokes by those of the letters -/
theorem far_sums {ws : List (List Sy)} (m : Nat) : ∀ (L : List Stk), VX (L.flatMap (fineG one (gI ws m))) = LX (SX ws m) (SY ws m) L ∧ VY (L.flatMap (fineG one (gI ws m))) = LY (SX ws m) (SY ws m) L ∧
    AR (L.flatMap (fineG one (gI ws m))) = LA (SA ws m) L + LC (SX ws m) (SY ws m) L
  | [] => ⟨rfl, rfl, rfl⟩
  | s :: L => by
    obtain ⟨i1, i2, i3⟩ := far_sums (ws := ws) m L
    have hs := sh_sums (a := (s.1, s.2.1, s.2.2.1)) (L := (penE one (gI ws m s.2.2.2)).out) (hok_run (E := one) (gI ws m s.2.2.2) hok_org).out
    have e : fineG one (gI ws m) s = ((penE one (gI ws m s.2.2.2)).out).map (sh (s.1, s.2.1, s.2.2.1)) := rfl
    rw [List.flatMap_cons, VX_app, VY_app, AR_app, i1, i2, i3, e]
    refine ⟨?_, ?_, ?_⟩
    · rw [show VX _ = _ from congrArg (·.1) hs.1]; rfl
    · rw [show VY _ = _ from congrArg (·.2) hs.1]; rfl
    · rw [hs.2]
      show crs (s.1, s.2.1) (rot s.2.2.1 (SX ws m s.2.2.2, SY ws m s.2.2.2)) + SA ws m s.2.2.2 + (_ + _) = (SA ws m s.2.2.2 + _) + (crs _ _ + _)
      omega
/-! ### the beginnings, letter by letter -/
def BB (k : Nat) : List Stk → Int × Int
  | [] => (0, 0)
  | s :: L => if s.2.2.2 = k then ((rot (-s.2.2.1) (s.1, s.2.1)).1 + (BB k L).1, (rot (-s.2.2.1) (s.1, s.2.1)).2 + (BB k L).2) else BB k L
theorem BB_snoc (k : Nat) (s : Stk) : ∀ L : List Stk, BB k (L ++ [s]) = if s.2.2.2 = k then ((BB k L).1 + (rot (-s.2.2.1) (s.1, s.2.1)).1, (BB k L).2 + (rot (-s.2.2.1) (s.1, s.2.1)).2) else BB k L
  | [] => by
    show (if s.2.2.2 = k then _ else _) = _
    by_cases z : s.2.2.2 = k
    · rw [if_pos z, if_pos z]
      show (_ + 0, _ + 0) = (0 + _, 0 + _)
      rw [Int.add_zero, Int.add_zero, Int.zero_add, Int.zero_add]
    · rw [if_neg z, if_neg z]
  | t :: L => by
    have e : BB k ((t :: L) ++ [s]) = if t.2.2.2 = k then ((rot (-t.2.2.1) (t.1, t.2.1)).1 + (BB k (L ++ [s])).1, (rot (-t.2.2.1) (t.1, t.2.1)).2 + (BB k (L ++ [s])).2) else BB k (L ++ [s]) := rfl
    rw [e, BB_snoc k s L]
    by_cases z : s.2.2.2 = k <;> by_cases y : t.2.2.2 = k
    · rw [if_pos z, if_pos y, if_pos z]
      show _ = ((BB k (t :: L)).1 + _, (BB k (t :: L)).2 + _)
      rw [show BB k (t :: L) = ((rot (-t.2.2.1) (t.1, t.2.1)).1 + (BB k L).1, (rot (-t.2.2.1) (t.1, t.2.1)).2 + (BB k L).2) from if_pos y]
      dsimp only
      refine Prod.ext ?_ ?_ <;> dsimp only <;> omega
    · rw [if_pos z, if_neg y, if_pos z, show BB k (t :: L) = BB k L from if_neg y]
    · rw [if_neg z, if_pos y, if_neg z]
      exact (if_pos y).symm
    · rw [if_neg z, if_neg y, if_neg z]
      exact (if_neg y).symm
def sumK (f : Nat → Int) (cl : List Nat) : Int := (cl.map f).sum
theorem sumK_snoc (f : Nat → Int) (cl : List Nat) (k : Nat) : sumK f (cl ++ [k]) = sumK f cl + f k := by
  unfold sumK
  rw [List.map_append, List.sum_append]
  show _ + (f k + 0) = _
  omega
theorem sumK_add (f g : Nat → Int) : ∀ cl : List Nat, sumK (fun k => f k + g k) cl = sumK f cl + sumK g cl
  | [] => rfl
  | k :: cl => by
    have := sumK_add f g cl
    show (f k + g k) + sumK (fun k => f k + g k) cl = (f k + sumK f cl) + (g k + sumK g cl)
    omega
theorem sumK_none (k : Nat) (c : Int) : ∀ cl : List Nat, k ∉ cl → sumK (fun j => if k = j then c else 0) cl = 0
  | [], _ => rfl
  | j :: cl, h => by
    show (if k = j then c else 0) + sumK (fun j => if k = j then c else 0) cl = 0
    have ne : ¬ k = j := fun z => h (by rw [z]; exact List.mem_cons_self)
    rw [if_neg ne, sumK_none k c cl fun z => h (List.mem_cons_of_mem _ z)]
    rfl
theorem sumK_one (k : Nat) (c : Int) : ∀ cl : List Nat, cl.Nodup → k ∈ cl → sumK (fun j => if k = j then c else 0) cl = c
  | [], _, h => by cases h
  | j :: cl, nd, h => by
    obtain ⟨n1, n2⟩ := List.nodup_cons.mp nd
    show (if k = j then c else 0) + sumK (fun j => if k = j then c else 0) cl = c
    by_cases z : k = j
    · subst z
      rw [if_pos rfl, sumK_none k c cl n1]
      omega
    · rw [if_neg z, sumK_one k c cl n2 ((List.mem_cons.mp h).resolve_left z)]
      omega
theorem sumK_congr {f g : Nat → Int} : ∀ {cl : List Nat}, (∀ k ∈ cl, f k = g k) → sumK f cl = sumK g cl := fun h => congrArg List.sum (List.map_congr_left h)
/-- the beginnings added up ahead of multiplying -/
theorem regroup (X Y : Nat → Int) {cl : List Nat} (nd : cl.Nodup) : ∀ {L : List Stk}, (∀ s ∈ L, s.2.2.2 ∈ cl) → sumK (fun k => (BB k L).1 * Y k - (BB k L).2 * X k) cl = LC X Y L
  | [], _ => by
    have : sumK (fun k => (BB k []).1 * Y k - (BB k []).2 * X k) cl = sumK (fun _ => 0) cl := sumK_congr fun k _ => by
      show (0 : Int) * Y k - 0 * X k = 0
      rw [Int.zero_mul, Int.zero_mul]
      rfl
    rw [this]
    have z : ∀ l : List Nat, sumK (fun _ => 0) l = 0 := fun l => by
      induction l with
      | nil => rfl
      | cons k l ih => show (0 : Int) + sumK (fun _ => 0) l = 0; rw [ih]; rfl
    exact z cl
  | s :: L, h => by
    have ih := regroup X Y nd (L := L) fun x hx => h x (List.mem_cons_of_mem _ hx)
    have hs := h s List.mem_cons_self
    have e : sumK (fun k => (BB k (s :: L)).1 * Y k - (BB k (s :: L)).2 * X k) cl = sumK (fun k => (if s.2.2.2 = k then crs (rot (-s.2.2.1) (s.1, s.2.1)) (X s.2.2.2, Y s.2.2.2) else 0) + ((BB k L).1 * Y k - (BB k L).2 * X k)) cl := sumK_congr fun k _ => by
      by_cases z : s.2.2.2 = k
      · rw [show BB k (s :: L) = ((rot (-s.2.2.1) (s.1, s.2.1)).1 + (BB k L).1, (rot (-s.2.2.1) (s.1, s.2.1)).2 + (BB k L).2) from if_pos z, if_pos z, ← z]
        dsimp only
        unfold crs
        dsimp only
        rw [Int.add_mul, Int.add_mul]
        omega
      · rw [show BB k (s :: L) = BB k L from if_neg z, if_neg z, Int.zero_add]
    rw [e, sumK_add, ih, sumK_one _ _ cl nd hs, crs_back]
    rfl
/-! ### how great -/
theorem len_growG {G : Nat → List Sy} {B : Nat} (hB : 1 ≤ B) : ∀ {w : List Sy}, (∀ k, Sy.l k ∈ w → (G k).length ≤ B) → (growG G w).length ≤ w.length * B
  | [], _ => Nat.zero_le _
  | s :: w, h => by
    have ih := len_growG hB (w := w) fun k hk => h k (List.mem_cons_of_mem _ hk)
    rw [show growG G (s :: w) = imgG G s ++ growG G w from rfl, List.length_append, List.length_cons, Nat.succ_mul]
    have : (imgG G s).length ≤ B := by
      cases s with
      | l k => exact h k List.mem_cons_self
      | p => exact hB
      | m => exact hB
      | o => exact hB
      | c => exact hB
    omega
theorem len_gI {ws : List (List Sy)} (hg : ∀ w ∈ ws, Good ws.length 40 w) : ∀ m k, k < ws.length → (gI ws m k).length ≤ 40 ^ m
  | 0, k, _ => Nat.le_refl _
  | m + 1, k, h => by
    have g := getD_good hg h
    have := len_growG (G := gI ws m) (B := 40 ^ m) (by first | exact Nat.pow_pos (by decide) | exact Nat.pos_pow (by decide)) (w := ws.getD k []) fun j hj => len_gI hg m j (g.lets j hj)
    show (growG (gI ws m) (ws.getD k [])).length ≤ 40 ^ (m + 1)
    rw [Nat.pow_succ, Nat.mul_comm]
    exact Nat.le_trans this (Nat.mul_le_mul_right _ g.len)
end SK
namespace SK
open PySem PySem.Spec PyProof.Rows L2
/-! ### the box of places -/
abbrev Bx := Int × Int × Int × Int
def bxV (b : Bx) : List V := [.int b.1, .int b.2.1, .int b.2.2.1, .int b.2.2.2]
structure IsBox (b : Bx) (ps : List (Int × Int)) : Prop where
  all : ∀ p ∈ ps, (b.1 ≤ p.1 ∧ p.1 ≤ b.2.2.1) ∧ b.2.1 ≤ p.2 ∧ p.2 ≤ b.2.2.2
  l : ∃ p ∈ ps, p.1 = b.1
  d : ∃ p ∈ ps, p.2 = b.2.1
  r : ∃ p ∈ ps, p.1 = b.2.2.1
  u : ∃ p ∈ ps, p.2 = b.2.2.2
theorem IsBox.le {b : Bx} {ps : List (Int × Int)} (h : IsBox b ps) : b.1 ≤ b.2.2.1 ∧ b.2.1 ≤ b.2.2.2 := by
  obtain ⟨p, hp, _⟩ := h.l
  have := h.all p hp
  omega
def mn (i j : Int) : Int := if j < i then j else i
def mx (i j : Int) : Int := if j > i then j else i
theorem mn_l {i j : Int} (h : i ≤ j) : mn i j = i := if_neg (by omega)
theorem mn_r {i j : Int} (h : j ≤ i) : mn i j = j := by
  unfold mn
  by_cases z : j < i
  · exact if_pos z
  · rw [if_neg z]; omega
theorem mx_r {i j : Int} (h : i ≤ j) : mx i j = j := by
  unfold mx
  by_cases z : j > i
  · exact if_pos z
  · rw [if_neg z]; omega
theorem mx_l {i j : Int} (h : j ≤ i) : mx i j = i := if_neg (by omega)
/-- a place moved -/
def mvP (a : Plc) (p : Int × Int) : Int × Int := (a.1 + (rot a.2.2 p).1, a.2.1 + (rot a.2.2 p).2)
/-- a box moved -/
def mvB (a : Plc) (b : Bx) : Bx := (a.1 + mn (rot a.2.2 (b.1, b.2.1)).1 (rot a.2.2 (b.2.2.1, b.2.2.2)).1, a.2.1 + mn (rot a.2.2 (b.1, b.2.1)).2 (rot a.2.2 (b.2.2.1, b.2.2.2)).2,
  a.1 + mx (rot a.2.2 (b.1, b.2.1)).1 (rot a.2.2 (b.2.2.1, b.2.2.2)).1, a.2.1 + mx (rot a.2.2 (b.1, b.2.1)).2 (rot a.2.2 (b.2.2.1, b.2.2.2)).2)
theorem box_mv {b : Bx} {ps : List (Int × Int)} (h : IsBox b ps) (a : Plc) : IsBox (mvB a b) (ps.map (mvP a)) := by
  obtain ⟨le1, le2⟩ := h.le
  obtain ⟨ha, ⟨p1, q1, e1⟩, ⟨p2, q2, e2⟩, ⟨p3, q3, e3⟩, ⟨p4, q4, e4⟩⟩ := h
  obtain ⟨l, d, r, u⟩ := b
  obtain ⟨x, y, t⟩ := a
  dsimp only at le1 le2 ha e1 e2 e3 e4
  have mem : ∀ p ∈ ps, mvP (x, y, t) p ∈ ps.map (mvP (x, y, t)) := fun p hp => List.mem_map_of_mem hp
  rcases rot4 t with ⟨_, e⟩ | ⟨_, e⟩ | ⟨_, e⟩ | ⟨_, e⟩
  · have eb : mvB (x, y, t) (l, d, r, u) = (x + l, y + d, x + r, y + u) := by
      unfold mvB; dsimp only; rw [e, e]; dsimp only; rw [mn_l le1, mn_l le2, mx_r le1, mx_r le2]
    have ep : ∀ p, mvP (x, y, t) p = (x + p.1, y + p.2) := fun p => by unfold mvP; dsimp only; rw [e]
    rw [eb]
    refine ⟨fun p hp => ?_, ⟨_, mem p1 q1, by rw [ep]; dsimp only; omega⟩, ⟨_, mem p2 q2, by rw [ep]; dsimp only; omega⟩, ⟨_, mem p3 q3, by rw [ep]; dsimp only; omega⟩, ⟨_, mem p4 q4, by rw [ep]; dsimp only; omega⟩⟩
    obtain ⟨p', hp', rfl⟩ := List.mem_map.mp hp
    have := ha p' hp'
    rw [ep]; dsimp only; omega
  · have eb : mvB (x, y, t) (l, d, r, u) = (x + -u, y + l, x + -d, y + r) := by
      unfold mvB; dsimp only; rw [e, e]; dsimp only; rw [mn_r (by omega), mn_l le1, mx_l (by omega), mx_r le1]
    have ep : ∀ p, mvP (x, y, t) p = (x + -p.2, y + p.1) := fun p => by unfold mvP; dsimp only; rw [e]
    rw [eb]
    refine ⟨fun p hp => ?_, ⟨_, mem p4 q4, by rw [ep]; dsimp only; omega⟩, ⟨_, mem p1 q1, by rw [ep]; dsimp only; omega⟩, ⟨_, mem p2 q2, by rw [ep]; dsimp only; omega⟩, ⟨_, mem p3 q3, by rw [ep]; dsimp only; omega⟩⟩
    obtain ⟨p', hp', rfl⟩ := List.mem_map.mp hp
    have := ha p' hp'
    rw [ep]; dsimp only; omega
  · have eb : mvB (x, y, t) (l, d, r, u) = (x + -r, y + -u, x + -l, y + -d) := by
      unfold mvB; dsimp only; rw [e, e]; dsimp only; rw [mn_r (by omega), mn_r (by omega), mx_l (by omega), mx_l (by omega)]
    have ep : ∀ p, mvP (x, y, t) p = (x + -p.1, y + -p.2) := fun p => by unfold mvP; dsimp only; rw [e]
    rw [eb]
    refine ⟨fun p hp => ?_, ⟨_, mem p3 q3, by rw [ep]; dsimp only; omega⟩, ⟨_, mem p4 q4, by rw [ep]; dsimp only; omega⟩, ⟨_, mem p1 q1, by rw [ep]; dsimp only; omega⟩, ⟨_, mem p2 q2, by rw [ep]; dsimp only; omega⟩⟩
    obtain ⟨p', hp', rfl⟩ := List.mem_map.mp hp
    have := ha p' hp'
    rw [ep]; dsimp only; omega
  · have eb : mvB (x, y, t) (l, d, r, u) = (x + d, y + -r, x + u, y + -l) := by
      unfold mvB; dsimp only; rw [e, e]; dsimp only; rw [mn_l le2, mn_r (by omega), mx_r le2, mx_l (by omega)]
    have ep : ∀ p, mvP (x, y, t) p = (x + p.2, y + -p.1) := fun p => by unfold mvP; dsimp only; rw [e]
    rw [eb]
    refine ⟨fun p hp => ?_, ⟨_, mem p2 q2, by rw [ep]; dsimp only; omega⟩, ⟨_, mem p3 q3, by rw [ep]; dsimp only; omega⟩, ⟨_, mem p4 q4, by rw [ep]; dsimp only; omega⟩, ⟨_, mem p1 q1, by rw [ep]; dsimp only; omega⟩⟩
    obtain ⟨p', hp', rfl⟩ := List.mem_map.mp hp
    have := ha p' hp'
    rw [ep]; dsimp only; omega
/-- many boxes' box -/
theorem box_all {α : Type} {L : List α} {B : α → Bx} {P : α → List (Int × Int)} (h : ∀ s ∈ L, IsBox (B s) (P s)) {l d r u : Int}
    (l1 : l ∈ L.map fun s => (B s).1) (l2 : ∀ y ∈ L.map fun s => (B s).1, l ≤ y) (d1 : d ∈ L.map fun s => (B s).2.1) (d2 : ∀ y ∈ L.map fun s => (B s).2.1, d ≤ y)
    (r1 : r ∈ L.map fun s => (B s).2.2.1) (r2 : ∀ y ∈ L.map fun s => (B s).2.2.1, y ≤ r) (u1 : u ∈ L.map fun s => (B s).2.2.2) (u2 : ∀ y ∈ L.map fun s => (B s).2.2.2, y ≤ u) :
    IsBox (l, d, r, u) (L.flatMap P) := by
  refine ⟨fun p hp => ?_, ?_, ?_, ?_, ?_⟩
  · obtain ⟨s, hs, hp⟩ := List.mem_flatMap.mp hp
    have := (h s hs).all p hp
    have a1 := l2 _ (List.mem_map_of_mem hs)
    have a2 := d2 _ (List.mem_map_of_mem hs)
    have a3 := r2 _ (List.mem_map_of_mem hs)
    have a4 := u2 _ (List.mem_map_of_mem hs)
    dsimp only at a1 a2 a3 a4 ⊢
    omega
  · obtain ⟨s, hs, e⟩ := List.mem_map.mp l1
    obtain ⟨p, hp, ep⟩ := (h s hs).l
    exact ⟨p, List.mem_flatMap.mpr ⟨s, hs, hp⟩, ep.trans e⟩
  · obtain ⟨s, hs, e⟩ := List.mem_map.mp d1
    obtain ⟨p, hp, ep⟩ := (h s hs).d
    exact ⟨p, List.mem_flatMap.mpr ⟨s, hs, hp⟩, ep.trans e⟩
  · obtain ⟨s, hs, e⟩ := List.mem_map.mp r1
    obtain ⟨p, hp, ep⟩ := (h s hs).r
    exact ⟨p, List.mem_flatMap.mpr ⟨s, hs, hp⟩, ep.trans e⟩
  · obtain ⟨s, hs, e⟩ := List.mem_map.mp u1
    obtain ⟨p, hp, ep⟩ := (h s hs).u
    exact ⟨p, List.mem_flatMap.mpr ⟨s, hs, hp⟩, ep.trans e⟩
/-- there is but one -/
theorem box_one {b c : Bx} {ps : List (Int × Int)} (h : IsBox b ps) (k : IsBox c ps) : b = c := by
  obtain ⟨ha, ⟨p1, q1, e1⟩, ⟨p2, q2, e2⟩, ⟨p3, q3, e3⟩, ⟨p4, q4, e4⟩⟩ := h
  obtain ⟨ka, ⟨o1, r1, f1⟩, ⟨o2, r2, f2⟩, ⟨o3, r3, f3⟩, ⟨o4, r4, f4⟩⟩ := k
  obtain ⟨l, d, r, u⟩ := b
  obtain ⟨l', d', r', u'⟩ := c
  dsimp only at *
  have a1 := ka p1 q1
  have a2 := ka p2 q2
  have a3 := ka p3 q3
  have a4 := ka p4 q4
  have b1 := ha o1 r1
  have b2 := ha o2 r2
  have b3 := ha o3 r3
  have b4 := ha o4 r4
  rw [show l = l' by omega, show d = d' by omega, show r = r' by omega, show u = u' by omega]
/-- the places of strokes -/
def pts (L : List Stk) : List (Int × Int) := L.flatMap fun s => [(s.1, s.2.1), (s.1 + (dir s.2.2.1).1, s.2.1 + (dir s.2.2.1).2)]
theorem pts_app (a b : List Stk) : pts (a ++ b) = pts a ++ pts b := List.flatMap_append
theorem pts_sh {a : Plc} : ∀ {L : List Stk}, (∀ s ∈ L, 0 ≤ s.2.2.1 ∧ s.2.2.1 < 4) → pts (L.map (sh a)) = (pts L).map (mvP a)
  | [], _ => rfl
  | s :: L, h => by
    have ih := pts_sh (a := a) (L := L) fun x hx => h x (List.mem_cons_of_mem _ hx)
    have hs := h s List.mem_cons_self
    have ed : dir (sh a s).2.2.1 = rot a.2.2 (dir s.2.2.1) := dir_sh hs
    have ea : rot a.2.2 (s.1 + (dir s.2.2.1).1, s.2.1 + (dir s.2.2.1).2) = ((rot a.2.2 (s.1, s.2.1)).1 + (rot a.2.2 (dir s.2.2.1)).1, (rot a.2.2 (s.1, s.2.1)).2 + (rot a.2.2 (dir s.2.2.1)).2) := rot_add a.2.2 (s.1, s.2.1) (dir s.2.2.1)
    have e1 : pts ((s :: L).map (sh a)) = [((sh a s).1, (sh a s).2.1), ((sh a s).1 + (dir (sh a s).2.2.1).1, (sh a s).2.1 + (dir (sh a s).2.2.1).2)] ++ pts (L.map (sh a)) := rfl
    have e2 : (pts (s :: L)).map (mvP a) = [mvP a (s.1, s.2.1), mvP a (s.1 + (dir s.2.2.1).1, s.2.1 + (dir s.2.2.1).2)] ++ (pts L).map (mvP a) := by
      show ([(s.1, s.2.1), (s.1 + (dir s.2.2.1).1, s.2.1 + (dir s.2.2.1).2)] ++ pts L).map (mvP a) = _
      rw [List.map_append]
      rfl
    rw [e1, e2, ih, ed]
    congr 1
    have e3 : mvP a (s.1 + (dir s.2.2.1).1, s.2.1 + (dir s.2.2.1).2) = ((sh a s).1 + (rot a.2.2 (dir s.2.2.1)).1, (sh a s).2.1 + (rot a.2.2 (dir s.2.2.1)).2) := by
      unfold mvP
      rw [ea]
      show (a.1 + ((rot a.2.2 (s.1, s.2.1)).1 + _), a.2.1 + ((rot a.2.2 (s.1, s.2.1)).2 + _)) = (a.1 + (rot a.2.2 (s.1, s.2.1)).1 + _, a.2.1 + (rot a.2.2 (s.1, s.2.1)).2 + _)
      rw [Int.add_assoc, Int.add_assoc]
    rw [e3]
    rfl
/-- the places of what a letter has become -/
def Pg (ws : List (List Sy)) (m k : Nat) : List (Int × Int) := pts (penE one (gI ws m k)).out
theorem far_pts {ws : List (List Sy)} (m : Nat) : ∀ L : List Stk, pts (L.flatMap (fineG one (gI ws m))) = L.flatMap fun s => (Pg ws m s.2.2.2).map (mvP (s.1, s.2.1, s.2.2.1))
  | [] => rfl
  | s :: L => by
    have e : fineG one (gI ws m) s = ((penE one (gI ws m s.2.2.2)).out).map (sh (s.1, s.2.1, s.2.2.1)) := rfl
    have ep : pts ((penE one (gI ws m s.2.2.2)).out.map (sh (s.1, s.2.1, s.2.2.1))) = (pts (penE one (gI ws m s.2.2.2)).out).map (mvP (s.1, s.2.1, s.2.2.1)) := pts_sh (hok_run (E := one) (gI ws m s.2.2.2) hok_org).out
    rw [List.flatMap_cons, List.flatMap_cons, pts_app, far_pts m L, e, ep]
    rfl
theorem Pg_zero (ws : List (List Sy)) (k : Nat) : Pg ws 0 k = [(0, 0), (1, 0)] := rfl
theorem box_zero (ws : List (List Sy)) (k : Nat) : IsBox (0, 0, 1, 0) (Pg ws 0 k) := by
  rw [Pg_zero]
  refine ⟨fun p hp => ?_, ⟨(0, 0), by simp, rfl⟩, ⟨(0, 0), by simp, rfl⟩, ⟨(1, 0), by simp, rfl⟩, ⟨(0, 0), by simp, rfl⟩⟩
  simp only [List.mem_cons, List.not_mem_nil, or_false] at hp
  rcases hp with rfl | rfl <;> decide
theorem Pg_succ {ws : List (List Sy)} (hg : ∀ w ∈ ws, Good ws.length 40 w) {m k : Nat} (hk : k < ws.length) : Pg ws (m + 1) k = (penE (Eg ws m) (ws.getD k [])).out.flatMap fun s => (Pg ws m s.2.2.2).map (mvP (s.1, s.2.1, s.2.2.1)) := by
  have e : (penE one (gI ws (m + 1) k)).out = (penE (Eg ws m) (ws.getD k [])).out.flatMap (fineG one (gI ws m)) :=
    (far_pen hg m (w := ws.getD k []) (p := (0, 0, 0)) (getD_good hg hk).lets ⟨by decide, by decide⟩).2
  unfold Pg
  rw [e, far_pts]
  rfl
theorem pts_far {ws : List (List Sy)} {st : List Sy} (g : GoodBook ws st) (n : Nat) : (penE (Eg ws n) st).out.flatMap (fun s => (Pg ws n s.2.2.2).map (mvP (s.1, s.2.1, s.2.2.1))) = pts (strokes (grown ws st n)) := by
  have e := (far_pen g.words n (w := st) (p := (0, 0, 0)) g.start.lets ⟨by decide, by decide⟩).2
  rw [show (penE (Eg ws n) st).out = (penF (Eg ws n) (stt (0, 0, 0)) st).out from rfl, ← far_pts, ← e, far_strokes]
end SK
namespace SK
open PySem PySem.Spec PyProof.Rows L2
/-- a list, new: none of the written part either -/
def tLstK (K : PySem.W.Frag) (t : TA) : TE := fun σ H Q => t σ H fun xs H1 => xs.length ≤ sizeLine ∧ ∀ (H' : Hp) (p : Addr), Same H1 H' → H1 p = none → K.lookup p = none → H' p = some (.lst xs) → Q (.ref p) H'
theorem plstK {X : Cx} {es : List Expr} {t : TA} {pos : Pos} (h : PA X es t) : PE X (.List es pos) (tLstK X.K t) := by
  refine ⟨fun pins s σ H Q I hq => ?_⟩
  refine wpAny_List_spliced (thn (h.run pos pins s σ H _ I hq) fun us s1 ⟨xs, H1, I1, r, z, q⟩ => ⟨by rw [← r.length]; exact z, ?_⟩)
  have hf : H1 s1.heap.objs.size = none := I1.hok.fresh (Nat.le_refl _)
  have hk : X.K.lookup s1.heap.objs.size = none := by
    cases e : X.K.lookup s1.heap.objs.size with
    | none => rfl
    | some o => exact absurd (Heap.lt_size (I1.kIn _ _ e)) (Nat.lt_irrefl _)
  refine ⟨.ref s1.heap.objs.size, upd H1 s1.heap.objs.size (.lst xs), I1.laid (t' := s1.toks) (fun b u e => Heap.get?_push_of_some _ e) (Nat.le_refl _) ?_, rfl, q _ _ (same_upd hf) hf hk upd_same⟩
  exact ⟨z, us, 0, r, Heap.get?_push_size _ rfl⟩
def rSlTN (K : PySem.W.Frag) : V → Option Int → Option Int → Hp → VK → Prop := fun x lo hi H Q => ∃ a xs, x = .ref a ∧ SqT K H a xs ∧ ¬ (HT.sIx xs.length 0 lo = 0 ∧ HT.sIx xs.length xs.length hi = xs.length) ∧ New (.tup (cutV xs lo hi)) H Q
theorem sl_tupN {X : Cx} : SlR X (rSlTN X.K) := fun pins s σ H x v vl vu lo hi sl Q I rx hs pl pu ⟨a, xs, h1, h2, h3, h4⟩ => sl_tup pins s σ H x v vl vu lo hi sl Q I rx hs pl pu ⟨a, xs, h1, h2, h3, h4.ok⟩
end SK
namespace SK
open PySem PySem.Spec PyProof.Rows L2
theorem stk_get {H : Hp} {as : List Addr} {ss : List Stk} {i : Nat} {x : V} (h : Strs H as ss) (hx : (as.map V.ref)[i]? = some x) : ∃ a s, x = .ref a ∧ ss[i]? = some s ∧ H a = some (.tup (stV s)) := by
  rw [List.getElem?_map] at hx
  cases e : as[i]? with
  | none => rw [e] at hx; cases hx
  | some a =>
    rw [e] at hx
    have hi : i < ss.length := by
      have := h.length
      have := (List.getElem?_eq_some_iff.mp e).1
      omega
    have hs := List.getElem?_eq_getElem hi
    obtain ⟨a', ha', ht⟩ := paired_get h hs
    rw [e] at ha'
    cases ha'
    exact ⟨a, ss[i], (Option.some.inj hx).symm, hs, ht⟩
theorem strokes_ok {w : List Sy} (hn : nest w 0 ≠ none) : (∀ q ∈ strokes w, 0 ≤ q.2.2.1 ∧ q.2.2.1 < 4) ∧ (strokes w).length ≤ w.length := by
  have PO := penOk_take hn w.length (Nat.le_refl _)
  rw [List.take_length] at PO
  exact ⟨PO.out, PO.len.1⟩
theorem nest_up : ∀ (w : List Sy) (d e k : Nat), nest w d = some e → nest w (d + k) = some (e + k)
  | [], d, e, k, h => by
    have h : some d = some e := h
    cases h
    rfl
  | s :: w, d, e, k, h => by
    cases s with
    | o =>
      have := nest_up w (d + 1) e k h
      rw [show d + 1 + k = d + k + 1 by omega] at this
      exact this
    | c =>
      cases d with
      | zero => cases h
      | succ d =>
        have := nest_up w d e k h
        rw [show d + 1 + k = (d + k) + 1 by omega]
        exact this
    | p => exact nest_up w d e k h
    | m => exact nest_up w d e k h
    | l j => exact nest_up w d e k h
theorem nest_grow {ws : List (List Sy)} {n : Nat} (hg : ∀ w ∈ ws, Good n 40 w) : ∀ {w : List Sy} {d e : Nat}, (∀ k, Sy.l k ∈ w → k < ws.length) → nest w d = some e → nest (grow ws w) d = some e
  | [], d, e, _, h => h
  | s :: w, d, e, hl, h => by
    have hl' : ∀ k, Sy.l k ∈ w → k < ws.length := fun k hk => hl k (List.mem_cons_of_mem _ hk)
    show nest (img ws s ++ grow ws w) d = some e
    rw [nest_app]
    cases s with
    | l j =>
      have hj := hl j List.mem_cons_self
      have ew : ws.getD j [] = ws[j] := by rw [List.getD_eq_getElem?_getD, List.getElem?_eq_getElem hj]; rfl
      have g := (hg _ (List.getElem_mem hj)).nst
      have := nest_up ws[j] 0 0 d g
      rw [Nat.zero_add] at this
      show (nest (ws.getD j []) d).bind (nest (grow ws w)) = some e
      rw [ew, this]
      exact nest_grow hg hl' h
    | o => exact nest_grow hg hl' (show nest w (d + 1) = some e from h)
    | c =>
      cases d with
      | zero => cases h
      | succ d => exact nest_grow hg hl' (show nest w d = some e from h)
    | p => exact nest_grow hg hl' (show nest w d = some e from h)
    | m => exact nest_grow hg hl' (show nest w d = some e from h)
theorem nest_grown {ws : List (List Sy)} {st : List Sy} (g : GoodBook ws st) : ∀ n, nest (grown ws st n) 0 = some 0
  | 0 => g.start.nst
  | n + 1 => nest_grow g.words (grown_lets g n) (nest_grown g n)
theorem nest_grown' {ws : List (List Sy)} {st : List Sy} (g : GoodBook ws st) (n : Nat) : nest (grown ws st n) 0 ≠ none := by
  rw [nest_grown g n]
  exact fun z => nomatch z
/-! alike -/
theorem Alk.flat {H : Hp} {v : V} (h : flatA v = true) : ∀ n, Alk H n v v
  | 0 => ⟨rfl, h⟩
  | n + 1 => .inl ⟨rfl, h⟩
theorem Alk.tup {H : Hp} {n : Nat} {a b : Addr} {xs ys : List V} (ha : Rd H a (.tup xs)) (hb : Rd H b (.tup ys)) (hl : xs.length = ys.length) (hz : xs.length ≤ 10000000) (hi : ∀ (i : Nat) (x y : V), xs[i]? = some x → ys[i]? = some y → Alk H n x y) : Alk H (n + 1) (.ref a) (.ref b) :=
  .inr ⟨a, b, xs, ys, rfl, rfl, .inl ⟨ha, hb⟩, hl, hz, hi⟩
theorem Alk.lst {H : Hp} {n : Nat} {a b : Addr} {xs ys : List V} (ha : H a = some (.lst xs)) (hb : H b = some (.lst ys)) (hl : xs.length = ys.length) (hz : xs.length ≤ 10000000) (hi : ∀ (i : Nat) (x y : V), xs[i]? = some x → ys[i]? = some y → Alk H n x y) : Alk H (n + 1) (.ref a) (.ref b) :=
  .inr ⟨a, b, xs, ys, rfl, rfl, .inr ⟨ha, hb⟩, hl, hz, hi⟩
/-- a tuple of flat things, twice -/
theorem Alk.flats {H : Hp} {n : Nat} {a b : Addr} {xs : List V} (ha : Rd H a (.tup xs)) (hb : Rd H b (.tup xs)) (hz : xs.length ≤ 10000000) (hf : ∀ x ∈ xs, flatA x = true) : Alk H (n + 1) (.ref a) (.ref b) :=
  Alk.tup ha hb rfl hz fun i x y hx hy => by
    rw [hx] at hy
    cases hy
    exact Alk.flat (hf x (List.mem_of_getElem? hx)) n
theorem flat_sy (s : Sy) : flatA s.v = true := by cases s <;> rfl
theorem alk_word {H : Hp} {n : Nat} {a b : Addr} {w : List Sy} (ha : WdAt H a w) (hb : H b = some (.tup (wv w))) (hz : w.length ≤ 10000000) : Alk H (n + 1) (.ref a) (.ref b) := by
  obtain ⟨o, e, _⟩ := ha
  refine Alk.flats (.inr ⟨o, e⟩) (.inl hb) (by rw [List.length_map]; exact hz) fun x hx => ?_
  obtain ⟨s, _, rfl⟩ := List.mem_map.mp hx
  exact flat_sy s
theorem alk_strs {H : Hp} {n : Nat} {a b : Addr} {as bs : List Addr} {ss : List Stk} (ha : H a = some (.tup (as.map V.ref))) (hb : H b = some (.tup (bs.map V.ref))) (hA : Strs H as ss) (hB : Strs H bs ss) (hz : ss.length ≤ 10000000) : Alk H (n + 2) (.ref a) (.ref b) := by
  have la := hA.length
  have lb := hB.length
  refine Alk.tup (.inl ha) (.inl hb) (by rw [List.length_map, List.length_map, la, lb]) (by rw [List.length_map, la]; exact hz) fun i x y hx hy => ?_
  obtain ⟨a1, s1, rfl, e1, t1⟩ := stk_get hA hx
  obtain ⟨b1, s2, rfl, e2, t2⟩ := stk_get hB hy
  rw [e1] at e2
  cases e2
  refine Alk.flats (.inl t1) (.inl t2) (by show 4 ≤ _; decide) fun x hx => ?_
  simp only [stV, List.mem_cons, List.not_mem_nil, or_false] at hx
  rcases hx with rfl | rfl | rfl | rfl <;> rfl
end SK
namespace SK
open PySem PySem.Spec PyProof.Rows L2
def spMove (K : PySem.W.Frag) : Sp := fun vs H Q _ => ∃ (a : Addr) (b : Bx) (p : Plc), vs = [.ref a, .int p.1, .int p.2.1, .int p.2.2] ∧ SqT K H a (bxV b) ∧ 0 ≤ p.2.2 ∧ p.2.2 < 4 ∧ New (.tup (bxV (mvB p b))) H Q
/-- a table of boxes -/
def BoxT (K : PySem.W.Frag) (H : Hp) (kvs : List (Key × V)) (B : Nat → Bx) (k : Nat) : Prop := ∃ t, valV kvs (.inl (k : Int)) = some (.ref t) ∧ SqT K H t (bxV (B k))
def plS (s : Stk) : Plc := (s.1, s.2.1, s.2.2.1)
/-- boxes in a row -/
def Bxs (H : Hp) (ms : List Addr) (bs : List Bx) : Prop := Paired (fun a b => H a = some (.tup (bxV b))) ms bs
theorem Bxs.keep {H H' : Hp} {ms : List Addr} {bs : List Bx} (t : TupS H H') (h : Bxs H ms bs) : Bxs H' ms bs := Paired.mono (fun a b e => t.1 _ _ e) h
def spBoxOf (K : PySem.W.Frag) : Sp := fun vs H Q _ => ∃ (a d e : Addr) (w : List Sy) (kd ke : List (Key × V)) (E : Pth) (B : Nat → Bx) (P : Nat → List (Int × Int)), vs = [.ref a, .ref d, .ref e] ∧ WdAt H a w ∧ nest w 0 ≠ none ∧ w.length ≤ 40 ∧ (penE E w).out ≠ [] ∧ H d = some (.dK kd) ∧ H e = some (.dK ke) ∧
  (∀ k, Sy.l k ∈ w → EndsT K H kd E k) ∧ (∀ k, Sy.l k ∈ w → BoxT K H ke B k) ∧ (∀ k, Sy.l k ∈ w → IsBox (B k) (P k)) ∧
  ∀ (H' : Hp) (t : Addr) (b : Bx), Same H H' → H' t = some (.tup (bxV b)) → IsBox b ((penE E w).out.flatMap fun s => (P s.2.2.2).map (mvP (plS s))) → Q (.ref t) H'
theorem least : ∀ {ns : List Int}, ns ≠ [] → ∃ m ∈ ns, ∀ y ∈ ns, m ≤ y
  | [], h => absurd rfl h
  | [x], _ => ⟨x, List.mem_cons_self, fun y hy => by rw [List.mem_singleton.mp hy]; exact Int.le_refl _⟩
  | x :: y :: l, _ => by
    obtain ⟨m, hm, h⟩ := least (ns := y :: l) (by simp)
    by_cases z : x ≤ m
    · exact ⟨x, List.mem_cons_self, fun v hv => by
        rcases List.mem_cons.mp hv with rfl | hv
        · exact Int.le_refl _
        · exact Int.le_trans z (h v hv)⟩
    · exact ⟨m, List.mem_cons_of_mem _ hm, fun v hv => by
        rcases List.mem_cons.mp hv with rfl | hv
        · omega
        · exact h v hv⟩
/-- a column of a list of boxes -/
theorem col_ok {K : PySem.W.Frag} {v0 v1 v2 v3 v4 : Option V} {D : Addr} {H : Hp} {Q : VK} (n : Nat) (f : Bx → Int) (hf : ∀ b : Bx, (bxV b)[n]? = some (.int (f b))) {ms : List Addr} {bs : List Bx} (hD : H D = some (.lst (ms.map V.ref))) (hM : Bxs H ms bs) (hl : bs.length ≤ 1000)
    (q : ∀ (H' : Hp) (L : Addr), Same H H' → H' L = some (.lst ((bs.map f).map V.int)) → Q (.ref L) H') :
    tLc (iList K (tVar 5)) (gName 10) tYes (tOp (rIxT K) (tVar 10) (tC (.int (n : Int)))) [10] [v0, v1, v2, v3, v4, some (.ref D), none, none, none, none, none] H Q := by
  refine ⟨_, rfl, D, rfl, ⟨_, SqL.of hD⟩, fun L nL => ?_⟩
  have lM := hM.length
  refine lc_list (K := K) (a := D) (xs := ms.map V.ref) (fun i H' => Same H H' ∧ H' L = some (.lst (((bs.take i).map f).map V.int))) ⟨same_upd nL, upd_same⟩ (fun i H' _ h => h.1.seq (SqL.of hD)) ?_ ?_
  · rintro i x H3 hx ⟨S3, hL⟩
    have hi : i < bs.length := by have := (List.getElem?_eq_some_iff.mp hx).1; rw [List.length_map] at this; omega
    obtain ⟨m, hm, hb⟩ := paired_get hM (List.getElem?_eq_getElem hi)
    rw [List.getElem?_map, hm] at hx
    cases hx
    refine ⟨rfl, _, rfl, m, _, _, _, rfl, rfl, SqT.of (S3 _ _ hb), atI_nat (hf _), _, hL, ?_, sPut S3 nL, ?_⟩
    · rw [List.length_map, List.length_map, List.length_take, sizeLine_eq]; omega
    · rw [upd_same, take_more (List.getElem?_eq_getElem hi), List.map_append, List.map_append]
      rfl
  · rintro H3 ⟨S3, hL⟩
    rw [List.length_map, lM, List.take_length] at hL
    exact q H3 L S3 hL
section
variable {P : Program} {w : World} {K : PySem.W.Frag} {mg : Str → Option Value} {base : Heap}
theorem ok_move {f : Addr} {fd : FuncData} {k : Nat} (F : Fun K "move_box" "move_box" s_move_box f fd) (GR : Got P w K mg base "rotate" k ["x", "y", "quarters"] spRotate) (mMi : mg "min" = none) (mMa : mg "max" = none) : FnOk P w K mg base CX0 (k + 1) f fd ["box", "x", "y", "heading"] (spMove K) := by
  refine F.ok sc_move_box (fun vs H Q E h => ?_) (fun cdv A outer s H vs Q E hr h => ?_)
  · obtain ⟨a, b, p, rfl, _⟩ := h
    rfl
  · obtain ⟨a, b, p, rfl, ha, h0, h4, q⟩ := h
    have nd := sc_move_box.nd
    refine ⟨_, pss_cons (ps_asg (pv 0) (pg_tup (by rfl) (pgs_cons (pg_name (i := 4) nd rfl (.inl rfl)) (pgs_cons (pg_name (i := 5) nd rfl (.inl rfl)) (pgs_cons (pg_name (i := 6) nd rfl (.inl rfl)) (pgs_cons (pg_name (i := 7) nd rfl (.inl rfl)) pgs_nil))))))
      (pss_cons (ps_asg (pcall GR hr (pa_cons (pv 4) (pa_cons (pv 5) (pa_cons (pv 3) pa_nil)))) (pg_tup (by rfl) (pgs_cons (pg_name (i := 8) nd rfl (.inl rfl)) (pgs_cons (pg_name (i := 9) nd rfl (.inl rfl)) pgs_nil))))
      (pss_cons (ps_asg (pcall GR hr (pa_cons (pv 6) (pa_cons (pv 7) (pa_cons (pv 3) pa_nil)))) (pg_tup (by rfl) (pgs_cons (pg_name (i := 10) nd rfl (.inl rfl)) (pgs_cons (pg_name (i := 11) nd rfl (.inl rfl)) pgs_nil))))
      (pss_one (ps_ret (ptupN (pa_cons (padd (pv 1) (pe_callB (call_min2 rfl) (by rfl) mMi (by decide +kernel) (pa_cons (pv 8) (pa_cons (pv 10) pa_nil)) (by decide) (by decide))) (pa_cons (padd (pv 2) (pe_callB (call_min2 rfl) (by rfl) mMi (by decide +kernel) (pa_cons (pv 9) (pa_cons (pv 11) pa_nil)) (by decide) (by decide)))
        (pa_cons (padd (pv 1) (pe_callB (call_max2 rfl) (by rfl) mMa (by decide +kernel) (pa_cons (pv 8) (pa_cons (pv 10) pa_nil)) (by decide) (by decide))) (pa_cons (padd (pv 2) (pe_callB (call_max2 rfl) (by rfl) mMa (by decide +kernel) (pa_cons (pv 9) (pa_cons (pv 11) pa_nil)) (by decide) (by decide))) pa_nil))))))))), ?_⟩
    obtain ⟨l, d, r, u⟩ := b
    obtain ⟨x, y, t⟩ := p
    dsimp only at h0 h4
    refine ⟨_, rfl, a, _, rfl, ha, rfl, _, _, rfl, _, _, rfl, _, _, rfl, _, _, rfl, rfl, ?_⟩
    refine ⟨_, rfl, _, rfl, _, rfl, _, _, _, rfl, h0, h4, fun H1 p1 S1 n1 h1 => ?_⟩
    refine ⟨p1, _, rfl, SqT.of h1, rfl, _, _, rfl, _, _, rfl, rfl, ?_⟩
    refine ⟨_, rfl, _, rfl, _, rfl, _, _, _, rfl, h0, h4, fun H2 p2 S2 n2 h2 => ?_⟩
    refine ⟨p2, _, rfl, SqT.of h2, rfl, _, _, rfl, _, _, rfl, rfl, ?_⟩
    refine ⟨_, rfl, _, rfl, _, rfl, _, _, rfl, _, _, rfl, rfl, ?_⟩
    refine ⟨_, rfl, _, rfl, _, rfl, _, _, rfl, _, _, rfl, rfl, ?_⟩
    refine ⟨_, rfl, _, rfl, _, rfl, _, _, rfl, _, _, rfl, rfl, ?_⟩
    refine ⟨_, rfl, _, rfl, _, rfl, _, _, rfl, _, _, rfl, rfl, szl 4, fun H3 p3 S3 n3 h3 => ?_⟩
    exact q H3 p3 ((S1.trans S2).trans S3) ((S1.trans S2).free n3) h3
theorem ok_boxof {f : Addr} {fd : FuncData} {k : Nat} {pd : Addr} (F : Fun K "box_of" "box_of" s_box_of f fd) (GL : GotD P w K mg base "lay" k ["word", "ends", "pen"] [.ref pd] (spLay K)) (hPd : ModT K pd (plV (0, 0, 0))) (GM : Got P w K mg base "move_box" k ["box", "x", "y", "heading"] (spMove K)) (mMi : mg "min" = none) (mMa : mg "max" = none) :
    FnOk P w K mg base CX0 (k + 1) f fd ["word", "ends", "boxes"] (spBoxOf K) := by
  refine F.ok sc_box_of (fun vs H Q E h => ?_) (fun cdv A outer s H vs Q E hr h => ?_)
  · obtain ⟨a, d, e, w, kd, ke, E', B, P', rfl, _⟩ := h
    rfl
  · obtain ⟨a, d, e, wd, kd, ke, E', B, P', rfl, ha, hn, hl, hO, hd, he, hE, hB, hP, q⟩ := h
    have nd := sc_box_of.nd
    refine ⟨_, pss_cons (ps_asg (pcallD GL hr (pa_cons (pv 0) (pa_cons (pv 1) pa_nil))) (pg_tup (by rfl) (pgs_cons (pg_name (i := 3) nd rfl (.inl rfl)) (pgs_cons (pg_name (i := 4) nd rfl (.inl rfl)) pgs_nil))))
      (pss_cons (ps_setLc (i := 5) (own := [("x", 6), ("y", 7), ("heading", 8), ("letter", 9)]) (g := gTup K 4 (gCons (gName 6) (gCons (gName 7) (gCons (gName 8) (gCons (gName 9) gNil))))) (tt := tYes) (te := tCall (spMove K) [] E0 (tCons (tDGet (tVar 2) (tVar 9)) (tCons (tVar 6) (tCons (tVar 7) (tCons (tVar 8) tNil))))) rfl nd rfl rfl (sw_true rfl rfl rfl (by decide +kernel)) (pi_list (pv 3)) (blkOk_by (N := n_box_of) (sc := defScope s_box_of) (by decide +kernel))
        (fun _ _ _ _ _ => pg_tup (by rfl) (pgs_cons (pg_name (i := 6) nd rfl (Or.inl rfl)) (pgs_cons (pg_name (i := 7) nd rfl (Or.inl rfl)) (pgs_cons (pg_name (i := 8) nd rfl (Or.inl rfl)) (pgs_cons (pg_name (i := 9) nd rfl (Or.inl rfl)) pgs_nil))))) (fun _ _ _ _ _ => pts_nil)
        (fun _ _ _ _ _ => pcall GM hr (pa_cons (pe_dget (hu_of hr) (pv 2) (pv 9) (fun _ _ => rfl)) (pa_cons (pv 6) (pa_cons (pv 7) (pa_cons (pv 8) pa_nil))))))
      (pss_one (ps_ret (ptupN (pa_cons (pe_callB (cr_min rfl) (by rfl) mMi (by decide +kernel) (pa_cons (pe_lc (own := [("box", 10)]) (g := gName 10) (tt := tYes) (te := tOp (rIxT K) (tVar 10) (tC (.int 0))) rfl nd (pi_list (pv 5)) (blkOk_by (N := n_box_of) (sc := defScope s_box_of) (by decide +kernel)) (fun _ _ _ _ _ => pg_name (i := 10) nd rfl (Or.inl rfl)) (fun _ _ _ _ _ => pts_nil) (fun _ _ _ _ _ => pixT (pv 10) pe_int)) pa_nil) (by decide) (by decide)) (pa_cons (pe_callB (cr_min rfl) (by rfl) mMi (by decide +kernel) (pa_cons (pe_lc (own := [("box", 10)]) (g := gName 10) (tt := tYes) (te := tOp (rIxT K) (tVar 10) (tC (.int 1))) rfl nd (pi_list (pv 5)) (blkOk_by (N := n_box_of) (sc := defScope s_box_of) (by decide +kernel)) (fun _ _ _ _ _ => pg_name (i := 10) nd rfl (Or.inl rfl)) (fun _ _ _ _ _ => pts_nil) (fun _ _ _ _ _ => pixT (pv 10) pe_int)) pa_nil) (by decide) (by decide)) (pa_cons (pe_callB (cr_max rfl) (by rfl) mMa (by decide +kernel) (pa_cons (pe_lc (own := [("box", 10)]) (g := gName 10) (tt := tYes) (te := tOp (rIxT K) (tVar 10) (tC (.int 2))) rfl nd (pi_list (pv 5)) (blkOk_by (N := n_box_of) (sc := defScope s_box_of) (by decide +kernel)) (fun _ _ _ _ _ => pg_name (i := 10) nd rfl (Or.inl rfl)) (fun _ _ _ _ _ => pts_nil) (fun _ _ _ _ _ => pixT (pv 10) pe_int)) pa_nil) (by decide) (by decide)) (pa_cons (pe_callB (cr_max rfl) (by rfl) mMa (by decide +kernel) (pa_cons (pe_lc (own := [("box", 10)]) (g := gName 10) (tt := tYes) (te := tOp (rIxT K) (tVar 10) (tC (.int 3))) rfl nd (pi_list (pv 5)) (blkOk_by (N := n_box_of) (sc := defScope s_box_of) (by decide +kernel)) (fun _ _ _ _ _ => pg_name (i := 10) nd rfl (Or.inl rfl)) (fun _ _ _ _ _ => pts_nil) (fun _ _ _ _ _ => pixT (pv 10) pe_int)) pa_nil) (by decide) (by decide)) pa_nil)))))))), ?_⟩
    refine ⟨_, rfl, _, rfl, a, d, pd, wd, kd, E', (0, 0, 0), rfl, ha, hd, hE, hPd.sq, by decide, by decide, hn, by omega, fun Ha tt la ea asA Sa na hta nla hla hA hea => ?_⟩
    refine ⟨tt, _, rfl, SqT.of hta, rfl, _, _, rfl, _, _, rfl, rfl, ?_⟩
    have eO : penF E' (stt (0, 0, 0)) wd = penE E' wd := rfl
    rw [eO] at hA
    have hlt := hok_run (E := E') wd hok_org
    have hin : ∀ s ∈ (penE E' wd).out, Sy.l s.2.2.2 ∈ wd := fun s hs => (let_pen wd _ s hs).resolve_left fun z => by cases z
    have hlO : (penE E' wd).out.length ≤ 40 := by
      have := (len_run E' wd org).1
      have z1 : org.out.length = 0 := rfl
      have e : (penE E' wd).out.length = (penF E' org wd).out.length := rfl
      omega
    have hho : ∀ s ∈ (penE E' wd).out, 0 ≤ s.2.2.1 ∧ s.2.2.1 < 4 := hlt.out
    generalize (penE E' wd).out = O at hA hin hlO hho hO q
    have lA := hA.length
    refine ⟨_, rfl, la, rfl, ⟨_, SqL.of hla⟩, fun D nD => ?_⟩
    refine lc_list (K := K) (a := la) (xs := asA.map V.ref) (fun i H' => ∃ ms : List Addr, Same Ha H' ∧ H' D = some (.lst (ms.map V.ref)) ∧ Bxs H' ms ((O.take i).map fun s => mvB (plS s) (B s.2.2.2))) ⟨[], same_upd nD, upd_same, .nil⟩ (fun i H' _ ⟨_, s, _⟩ => s.seq (SqL.of hla)) ?_ ?_
    · rintro i x H3 hx ⟨ms, S3, hD, hM⟩
      obtain ⟨sa', s1, rfl, es, hs1⟩ := stk_get hA hx
      have hm := List.mem_of_getElem? es
      have hh := hho _ hm
      have hi := hin _ hm
      have lM := hM.length
      rw [List.length_map, List.length_take] at lM
      rw [take_more es, List.map_append]
      obtain ⟨sx, sy, sh, kk⟩ := s1
      dsimp only at hh hi
      obtain ⟨t, w1, w2⟩ := hB kk hi
      have S03 := Sa.trans S3
      refine ⟨sa', _, rfl, SqT.of (S3 _ _ hs1), rfl, _, _, rfl, _, _, rfl, _, _, rfl, _, _, rfl, rfl, rfl, ?_⟩
      refine ⟨_, rfl, _, rfl, e, .ref t, rfl, by rw [← w1]; exact DGet.k (k := Sum.inl (kk : Int)) (S03 _ _ he), _, rfl, _, rfl, _, rfl, t, B kk, (sx, sy, sh), rfl, sTup S03 w2, hh.1, hh.2, fun H5 p5 S5 n5 h5 => ⟨_, S5 _ _ hD, ?_, ms ++ [p5], sPut (S3.trans S5) nD, by rw [upd_same, List.map_append]; rfl, ?_⟩⟩
      · rw [List.length_map, sizeLine_eq]; omega
      · have T5 : TupS H5 (upd H5 D (.lst (ms.map V.ref ++ [V.ref p5]))) := TupS.refl.lst (S5 _ _ hD)
        exact Paired.snoc ((hM.keep (.of S5)).keep T5) (T5.1 _ _ h5)
    rintro H3 ⟨ms, S3, hD, hM⟩
    rw [List.length_map, lA, List.take_length] at hM
    have S03 := Sa.trans S3
    have pos : 0 < O.length := List.length_pos_iff.mpr hO
    have lb : (O.map fun s => mvB (plS s) (B s.2.2.2)).length ≤ 1000 := by rw [List.length_map]; omega
    have ln : ∀ f : Bx → Int, 0 < ((O.map fun s => mvB (plS s) (B s.2.2.2)).map f).length := fun f => by rw [List.length_map, List.length_map]; exact pos
    have mm : ∀ f : Bx → Int, ((O.map fun s => mvB (plS s) (B s.2.2.2)).map f) = O.map fun s => f (mvB (plS s) (B s.2.2.2)) := fun f => List.map_map
    dsimp only [gName, tRet, tTupN, tCB, tCons, tNil]
    refine col_ok (K := K) 0 (fun b => b.1) (fun b => rfl) hD hM lb fun H4 L4 S4 hL4 => ⟨L4, _, rfl, SqL.of hL4, ln _, fun m1 i1 j1 => ?_⟩
    dsimp only [gName, tRet, tTupN, tCB, tCons, tNil]
    refine col_ok (K := K) 1 (fun b => b.2.1) (fun b => rfl) (S4 _ _ hD) (hM.keep (.of S4)) lb fun H5 L5 S5 hL5 => ⟨L5, _, rfl, SqL.of hL5, ln _, fun m2 i2 j2 => ?_⟩
    have S35 := S4.trans S5
    dsimp only [gName, tRet, tTupN, tCB, tCons, tNil]
    refine col_ok (K := K) 2 (fun b => b.2.2.1) (fun b => rfl) (S35 _ _ hD) (hM.keep (.of S35)) lb fun H6 L6 S6 hL6 => ⟨L6, _, rfl, SqL.of hL6, ln _, fun m3 i3 j3 => ?_⟩
    have S36 := S35.trans S6
    dsimp only [gName, tRet, tTupN, tCB, tCons, tNil]
    refine col_ok (K := K) 3 (fun b => b.2.2.2) (fun b => rfl) (S36 _ _ hD) (hM.keep (.of S36)) lb fun H7 L7 S7 hL7 => ⟨L7, _, rfl, SqL.of hL7, ln _, fun m4 i4 j4 => ⟨szl 4, fun H8 p8 S8 n8 h8 => ?_⟩⟩
    rw [mm] at i1 j1 i2 j2 i3 j3 i4 j4
    exact q H8 p8 (m1, m2, m3, m4) (((S03.trans S36).trans S7).trans S8) h8 (box_all (B := fun s => mvB (plS s) (B s.2.2.2)) (fun s hs => box_mv (hP _ (hin s hs)) (plS s)) i1 j1 i2 j2 i3 j3 i4 j4)
end
end SK
namespace SK
open PySem PySem.Spec PyProof.Rows L2
theorem cut_last (xs : List V) : cutV xs none (some (-1)) = xs.take (xs.length - 1) := by
  unfold cutV
  rw [HT.sIx_none, List.drop_zero, Nat.sub_zero]
  have e : HT.sIx xs.length xs.length (some (-1)) = xs.length - 1 := by
    unfold HT.sIx
    simp
    omega
  rw [e]
noncomputable def Bg (ws : List (List Sy)) (m k : Nat) : Bx := @Classical.epsilon Bx ⟨(0, 0, 0, 0)⟩ fun b => IsBox b (Pg ws m k)
theorem Bg_eq {ws : List (List Sy)} {m k : Nat} {b : Bx} (h : IsBox b (Pg ws m k)) : b = Bg ws m k ∧ IsBox (Bg ws m k) (Pg ws m k) := by
  have z : IsBox (Bg ws m k) (Pg ws m k) := @Classical.epsilon_spec Bx (fun b => IsBox b (Pg ws m k)) ⟨b, h⟩
  exact ⟨box_one h z, z⟩
def isBx (K : PySem.W.Frag) (H : Hp) (ws : List (List Sy)) : Nat → Nat → Option V → Prop := fun m k o => ∃ t, o = some (.ref t) ∧ SqT K H t (bxV (Bg ws m k)) ∧ IsBox (Bg ws m k) (Pg ws m k)
theorem isBx.same {K : PySem.W.Frag} {H H' : Hp} {ws : List (List Sy)} (s : Same H H') : ∀ m k o, isBx K H ws m k o → isBx K H' ws m k o := fun m k o ⟨e, a, b, c⟩ => ⟨e, a, sTup s b, c⟩
theorem isBx.tup {K : PySem.W.Frag} {H H' : Hp} {ws : List (List Sy)} (t : TupS H H') : ∀ m k o, isBx K H ws m k o → isBx K H' ws m k o := fun m k o ⟨e, a, b, c⟩ => ⟨e, a, sq_tup t b, c⟩
def spBByAge (K : PySem.W.Frag) : Sp := fun vs H Q _ => ∃ (p l re : Addr) (n : Nat) (as rse : List Addr) (ws : List (List Sy)) (cl : List Nat), vs = [.ref p, .ref l, .ref re] ∧ H p = some (.tup (as.map V.ref)) ∧ Words H as ws ∧ H l = some (.lst (iV cl)) ∧ (∀ w ∈ ws, Good ws.length 40 w) ∧ Closed ws cl ∧ n ≤ 1000 ∧
  H re = some (.lst (rse.map V.ref)) ∧ RowsF H rse n cl (isE K H (Eg ws)) ∧
  ∀ (H' : Hp) (ro : Addr) (rs : List Addr), Same H H' → H ro = none → H' ro = some (.lst (rs.map V.ref)) → RowsF H' rs n cl (isBx K H' ws) → Q (.ref ro) H'
def spBox (K : PySem.W.Frag) : Sp := fun vs H Q _ => ∃ (b : Addr) (n : Nat) (ws : List (List Sy)) (st : List Sy), vs = [.ref b, .int n] ∧ BookAt H b ws st ∧ GoodBook ws st ∧ n ≤ 400 ∧
  ∀ (H' : Hp) (t : Addr) (x : Bx), Same H H' → H' t = some (.tup (bxV x)) → IsBox x (pts (strokes (grown ws st n))) → Q (.ref t) H'
theorem out_ne {E : Pth} {n L : Nat} {w : List Sy} (g : Good n L w) : (penE E w).out ≠ [] := fun z => by
  have h := out_len E w org
  rw [show penF E org w = penE E w from rfl, z] at h
  have s := g.slim
  have l : 1 ≤ w.length := any_pos g.has
  have h : (0 : Nat) = 0 + nL w := h
  omega
section
variable {P : Program} {w : World} {K : PySem.W.Frag} {mg : Str → Option Value} {base : Heap}
theorem ok_bbyage {f : Addr} {fd : FuncData} {k : Nat} (F : Fun K "boxes_by_age" "boxes_by_age" s_boxes_by_age f fd) (GX : Got P w K mg base "box_of" k ["word", "ends", "boxes"] (spBoxOf K)) : FnOk P w K mg base CX0 (k + 1) f fd ["words", "letters", "ends"] (spBByAge K) := by
  refine F.ok sc_boxes_by_age (fun vs H Q E h => ?_) (fun cdv A outer s H vs Q E hr h => ?_)
  · obtain ⟨p, l, re, n, as, rse, ws, cl, rfl, _⟩ := h
    rfl
  · obtain ⟨p, l, re, n, as, rse, ws, cl, rfl, hp, hw, hl, hg, hc, hn, hre, hE, q⟩ := h
    have nd := sc_boxes_by_age.nd
    refine ⟨_, pss_cons (ps_set (i := 3) nd rfl (.inl rfl) (plstN (pa_cons (pe_dc (own := [("letter", 6)]) (g := gName 6) (tt := tYes) (tk := tVar 6) (tv := tTupN (tCons (tC (.int 0)) (tCons (tC (.int 0)) (tCons (tC (.int 1)) (tCons (tC (.int 0)) tNil))))) rfl nd (pi_list (pv 1)) (blkOk_by (N := n_boxes_by_age) (sc := defScope s_boxes_by_age) (by decide +kernel))
          (fun _ _ _ _ _ => pg_name (i := 6) nd rfl (Or.inl rfl)) (fun _ _ _ _ _ => pts_nil) (fun _ _ _ _ _ => pv 6) (fun _ _ _ _ _ => ptupN (pa_cons pe_int (pa_cons pe_int (pa_cons pe_int (pa_cons pe_int pa_nil)))))) pa_nil)))
      (pss_cons (ps_for PassesOwn.never rfl (pi_list (pe_slice sl_listN (pv 2) po_none (po_some (pe_un un_neg pe_int)))) (pg_name (i := 4) nd rfl (.inr rfl))
        (pss_cons (ps_set (i := 5) nd rfl (.inr rfl) (pix (pv 3) (pe_un un_neg pe_int)))
        (pss_one (sapp (pv 3) (pe_dc (own := [("letter", 6)]) (g := gName 6) (tt := tYes) (tk := tVar 6) (tv := tCall (spBoxOf K) [] E0 (tCons (tOp (rIxT K) (tVar 0) (tVar 6)) (tCons (tVar 4) (tCons (tVar 5) tNil)))) rfl nd (pi_list (pv 1)) (blkOk_by (N := n_boxes_by_age) (sc := defScope s_boxes_by_age) (by decide +kernel))
          (fun _ _ _ _ _ => pg_name (i := 6) nd rfl (Or.inl rfl)) (fun _ _ _ _ _ => pts_nil) (fun _ _ _ _ _ => pv 6) (fun _ _ _ _ _ => pcall GX hr (pa_cons (pixT (pv 0) (pv 6)) (pa_cons (pv 4) (pa_cons (pv 5) pa_nil)))))))))
      (pss_one (ps_ret (pv 3)))), ?_⟩
    have lz : (iV cl).length = cl.length := by unfold iV; rw [List.length_map]
    have c8 := hc.few
    refine ⟨_, rfl, l, rfl, ⟨_, SqL.of hl⟩, fun D nD => ?_⟩
    refine walk_by (walk_list (K := K) (a := l) (xs := iV cl)) (fun i H' => ∃ kvs, Same H H' ∧ H' D = some (.dK kvs) ∧ kvs.length ≤ i ∧ TabF (isBx K H' ws 0) (cl.take i) kvs) ⟨[], same_upd nD, upd_same, Nat.le_refl _, fun k hk => by simp at hk⟩ (fun i H' ⟨_, s, _⟩ => s.seq (SqL.of hl)) ?_ ?_
    · rintro i x H4 H5 hi ⟨kvs, S4, hD, hlen, ht⟩ ⟨rfl, hx⟩
      obtain ⟨j, hj, rfl⟩ := iV_get hx
      have hi8 : i < 8 := by
        have := (List.getElem?_eq_some_iff.mp hj).1
        omega
      refine ⟨rfl, _, rfl, szl 4, fun Ha ta Sa na ha => ⟨kvs, Sum.inl (j : Int), rfl, Sa _ _ hD, ?_, putK kvs (Sum.inl (j : Int)) (.ref ta), sPut (S4.trans Sa) nD, upd_same, ?_, ?_⟩⟩
      · rw [sizeLine_eq]; omega
      · have := length_putK kvs (Sum.inl (j : Int)) (.ref ta); omega
      · rw [take_more hj]
        obtain ⟨e1, e2⟩ := Bg_eq (box_zero ws j)
        have T2 : TupS Ha (upd Ha D (.dK (putK kvs (Sum.inl (j : Int)) (.ref ta)))) := TupS.dict (Sa _ _ hD)
        exact (ht.mono (isBx.tup ((TupS.of Sa).trans T2) 0)).put ⟨ta, rfl, SqT.of (T2.1 _ _ (by rw [← e1]; exact ha)), e2⟩
    · rintro H1 ⟨kvs, S1, hD, hlen, ht⟩
      rw [lz, List.take_length] at ht
      refine ⟨szl 1, fun H2 ro S2 n2 h2 => ?_⟩
      have nro : H ro = none := S1.free n2
      have S02 := S1.trans S2
      refine ⟨_, rfl, _, rfl, _, rfl, re, _, rfl, SqL.of (S02 _ _ hre), fun H2' sl S2' n2' h2' => ⟨sl, rfl, ⟨_, SqL.of h2'⟩, ?_⟩⟩
      have S02' := S02.trans S2'
      have lre := hE.1
      rw [cut_last, List.length_map, lre, Nat.add_sub_cancel] at h2'
      refine for_list (K := K) (a := sl) (xs := (rse.map V.ref).take n) (fun i σ H' => ∃ (rs : List Addr) (y4 y5 y6 : Option V), σ = [some (.ref p), some (.ref l), some (.ref re), some (.ref ro), y4, y5, y6] ∧ Same H H' ∧ H' sl = some (.lst ((rse.map V.ref).take n)) ∧ H' ro = some (.lst (rs.map V.ref)) ∧ RowsF H' rs i cl (isBx K H' ws))
        ⟨[D], _, _, _, rfl, S02', h2', S2' _ _ h2, ⟨rfl, fun m hm => ⟨D, kvs, by rw [show m = 0 by omega]; rfl, S2' _ _ (S2 _ _ hD), by rw [show m = 0 by omega]; exact ht.mono (isBx.same (S2.trans S2') 0)⟩⟩⟩ (fun i σ H' _ ⟨_, _, _, _, _, _, s, _⟩ => SqL.of s) ?_ ?_
      · rintro i x σ H3 hx ⟨rs, y4, y5, y6, rfl, S3, S23, hro, hP⟩
        have hin : i < n := by
          have := (List.getElem?_eq_some_iff.mp hx).1
          rw [List.length_take, List.length_map, lre] at this
          omega
        rw [List.getElem?_take_of_lt hin, List.getElem?_map] at hx
        obtain ⟨de, kde, d1, d2, d3⟩ := hE.2 i (by omega)
        rw [d1] at hx
        cases hx
        obtain ⟨di, ki, e1, e2, e3⟩ := hP.2 i (Nat.le_refl _)
        have lrs := hP.1
        have hlast : atI (rs.map V.ref) (-1) = some (V.ref di) := by
          have hx : rs = rs.take i ++ [di] := by
            rw [← take_more e1, List.take_of_length_le (by omega)]
          rw [hx, List.map_append]
          exact atI_last _ _
        refine ⟨_, rfl, _, rfl, ro, _, _, _, rfl, rfl, SqL.of hro, hlast, ?_⟩
        refine ⟨_, rfl, .inl ⟨rfl, _, SqL.of hro⟩, _, rfl, l, rfl, ⟨_, SqL.of (S3 _ _ hl)⟩, fun D2 nD2 => ?_⟩
        refine walk_by (walk_list (K := K) (a := l) (xs := iV cl)) (fun t H' => ∃ kvs2, Same H3 H' ∧ H' D2 = some (.dK kvs2) ∧ kvs2.length ≤ t ∧ TabF (isBx K H' ws (i + 1)) (cl.take t) kvs2) ⟨[], same_upd nD2, upd_same, Nat.le_refl _, fun k hk => by simp at hk⟩ (fun t H' ⟨_, s, _⟩ => s.seq (SqL.of (S3 _ _ hl))) ?_ ?_
        · rintro t x H8 H9 htl ⟨kvs2, S8, hD2, hl2, ht2⟩ ⟨rfl, hx⟩
          obtain ⟨j, hj, rfl⟩ := iV_get hx
          have hjm := List.mem_of_getElem? hj
          have hjw := hc.lt j hjm
          have ht8 : t < 8 := by
            have := (List.getElem?_eq_some_iff.mp hj).1
            omega
          obtain ⟨wa, hwa, hwt⟩ := paired_get hw (List.getElem?_eq_getElem hjw)
          have ed : ws.getD j [] = ws[j] := by rw [List.getD_eq_getElem?_getD, List.getElem?_eq_getElem hjw]; rfl
          rw [← ed] at hwt
          have S08 := S3.trans S8
          have gj := getD_good hg hjw
          have gn : nest (ws.getD j []) 0 ≠ none := by rw [gj.nst]; exact (fun z => nomatch z)
          refine ⟨rfl, _, rfl, _, rfl, _, rfl, p, _, _, .ref wa, rfl, rfl, SqT.of (S08 _ _ hp), atI_nat (by rw [List.getElem?_map, hwa]; rfl), _, rfl, _, rfl, wa, de, di, ws.getD j [], kde, ki, Eg ws i, Bg ws i, Pg ws i, rfl, hwt.same S08, gn, gj.len, out_ne gj, S08 _ _ d2, S8 _ _ e2, fun k hk => ?_, fun k hk => ?_, fun k hk => ?_, fun Ha ta bb Sa ha hbb => ?_⟩
          · obtain ⟨ee, f1, f2⟩ := d3 k (hc.cl j hjm k hk)
            exact ⟨ee, f1, sTup S08 f2⟩
          · obtain ⟨ee, f1, f2, _⟩ := e3 k (hc.cl j hjm k hk)
            exact ⟨ee, f1, sTup S8 f2⟩
          · obtain ⟨ee, f1, f2, f3⟩ := e3 k (hc.cl j hjm k hk)
            exact f3
          · rw [show (fun s : Stk => (Pg ws i s.2.2.2).map (mvP (plS s))) = fun s => (Pg ws i s.2.2.2).map (mvP (s.1, s.2.1, s.2.2.1)) from rfl, ← Pg_succ hg hjw] at hbb
            obtain ⟨b1, b2⟩ := Bg_eq hbb
            refine ⟨kvs2, Sum.inl (j : Int), rfl, Sa _ _ hD2, ?_, putK kvs2 (Sum.inl (j : Int)) (.ref ta), sPut (S8.trans Sa) nD2, upd_same, ?_, ?_⟩
            · rw [sizeLine_eq]; omega
            · have := length_putK kvs2 (Sum.inl (j : Int)) (.ref ta); omega
            · rw [take_more hj]
              have T2 : TupS Ha (upd Ha D2 (.dK (putK kvs2 (Sum.inl (j : Int)) (.ref ta)))) := TupS.dict (Sa _ _ hD2)
              exact (ht2.mono (isBx.tup ((TupS.of Sa).trans T2) (i + 1))).put ⟨ta, rfl, SqT.of (T2.1 _ _ (by rw [← b1]; exact ha)), b2⟩
        · rintro H8 ⟨kvs2, S8, hD2, hl2, ht2⟩
          rw [lz, List.take_length] at ht2
          have hro8 := S8 _ _ hro
          have nDr : D2 ≠ ro := ne_of hD2 hro8 (by intro z; cases z)
          have T8 : TupS H8 (upd H8 ro (.lst (rs.map V.ref ++ [V.ref D2]))) := TupS.refl.lst hro8
          refine ⟨ro, _, _, rfl, rfl, hro8, ?_, rs ++ [D2], _, _, _, rfl, sPut (S3.trans S8) nro, by rw [upd_ne (ne_of_none h2 n2').symm]; exact S8 _ _ S23, by rw [upd_same, List.map_append]; rfl, ?_, fun m hm => ?_⟩
          · rw [List.length_map, sizeLine_eq]; omega
          · rw [List.length_append, lrs]; rfl
          · by_cases z : m ≤ i
            · obtain ⟨dm, km, a1, a2, a3⟩ := hP.2 m z
              have a2' := S8 _ _ a2
              refine ⟨dm, km, by rw [List.getElem?_append_left (by omega)]; exact a1, ?_, a3.mono (isBx.tup ((TupS.of S8).trans T8) m)⟩
              rw [upd_ne (ne_of a2' hro8 (by intro z; cases z))]
              exact a2'
            · have e : m = i + 1 := by omega
              subst e
              refine ⟨D2, kvs2, by rw [List.getElem?_append_right (by omega), lrs, Nat.sub_self]; rfl, ?_, ht2.mono (isBx.tup T8 (i + 1))⟩
              rw [upd_ne nDr]
              exact hD2
      · rintro σ H3 ⟨rs, y4, y5, y6, rfl, S3, _, hro, hP⟩
        rw [List.length_take, List.length_map, lre, Nat.min_eq_left (by omega)] at hP
        exact ⟨_, rfl, q H3 ro rs S3 nro hro hP⟩
end
end SK
namespace SK
open PySem PySem.Spec PyProof.Rows L2
/-- where a stroke ends -/
def endS (s : Stk) : Int × Int := (s.1 + (dir s.2.2.1).1, s.2.1 + (dir s.2.2.1).2)
end SK
/-! the strokes of an age by their numbers, part by part -/
namespace SK
open PySem PySem.Spec PyProof.Rows L2
abbrev NS := Nat × Stk
def numS : Nat → List Stk → List NS
  | _, [] => []
  | N, s :: L => (N, s) :: numS (N + 1) L
theorem numS_app : ∀ (N : Nat) (a b : List Stk), numS N (a ++ b) = numS N a ++ numS (N + a.length) b
  | N, [], b => rfl
  | N, s :: a, b => by
    show (N, s) :: numS (N + 1) (a ++ b) = (N, s) :: (numS (N + 1) a ++ numS (N + (s :: a).length) b)
    rw [numS_app (N + 1) a b, List.length_cons, show N + 1 + a.length = N + (a.length + 1) by omega]
theorem numS_len : ∀ (N : Nat) (a : List Stk), (numS N a).length = a.length
  | _, [] => rfl
  | N, s :: a => by
    show (numS (N + 1) a).length + 1 = a.length + 1
    rw [numS_len (N + 1) a]
theorem numS_mem : ∀ {N : Nat} {a : List Stk} {x : NS}, x ∈ numS N a → x.2 ∈ a ∧ N ≤ x.1 ∧ a[x.1 - N]? = some x.2
  | N, s :: a, x, h => by
    rcases List.mem_cons.mp h with rfl | h
    · exact ⟨List.mem_cons_self, Nat.le_refl _, by simp⟩
    · obtain ⟨h1, h2, h3⟩ := numS_mem h
      refine ⟨List.mem_cons_of_mem _ h1, by omega, ?_⟩
      rw [show x.1 - N = (x.1 - (N + 1)) + 1 by omega, List.getElem?_cons_succ]
      exact h3
theorem numS_has : ∀ {N i : Nat} {a : List Stk} {s : Stk}, a[i]? = some s → (N + i, s) ∈ numS N a
  | N, 0, s :: a, t, h => by
    cases h
    exact List.mem_cons_self
  | N, i + 1, s :: a, t, h => by
    rw [show N + (i + 1) = N + 1 + i by omega]
    exact List.mem_cons_of_mem _ (numS_has (by simpa using h))
  | N, i, [], t, h => by cases h
def numb (ws : List (List Sy)) (m : Nat) : Nat → List Stk → List NS
  | _, [] => []
  | N, s :: L => (N, s) :: numb ws m (N + nLg ws m s.2.2.2) L
theorem numb_app (ws : List (List Sy)) (m : Nat) : ∀ (N : Nat) (a : List Stk) (s : Stk), numb ws m N (a ++ [s]) = numb ws m N a ++ [(N + (a.map fun t => nLg ws m t.2.2.2).sum, s)]
  | N, [], s => rfl
  | N, t :: a, s => by
    show (N, t) :: numb ws m (N + nLg ws m t.2.2.2) (a ++ [s]) = _
    rw [numb_app ws m (N + nLg ws m t.2.2.2) a s, List.map_cons, List.sum_cons, ← Nat.add_assoc]
    rfl
theorem numb_len (ws : List (List Sy)) (m : Nat) : ∀ (N : Nat) (a : List Stk), (numb ws m N a).length = a.length
  | _, [] => rfl
  | N, s :: a => by
    show (numb ws m _ a).length + 1 = a.length + 1
    rw [numb_len]
theorem numb_mem {ws : List (List Sy)} {m : Nat} : ∀ {N : Nat} {a : List Stk} {x : NS}, x ∈ numb ws m N a → x.2 ∈ a
  | N, s :: a, x, h => by
    rcases List.mem_cons.mp h with rfl | h
    · exact List.mem_cons_self
    · exact List.mem_cons_of_mem _ (numb_mem h)
abbrev Part := Nat × NS
def flatP (ws : List (List Sy)) (q : Part) : List NS := numS q.2.1 (fineG one (gI ws q.1) q.2.2)
theorem numb_flat (ws : List (List Sy)) (m : Nat) : ∀ (N : Nat) (L : List Stk), (numb ws m N L).flatMap (fun x => flatP ws (m, x)) = numS N (L.flatMap (fineG one (gI ws m)))
  | N, [] => rfl
  | N, s :: L => by
    show ((N, s) :: numb ws m (N + nLg ws m s.2.2.2) L).flatMap _ = _
    rw [List.flatMap_cons, numb_flat ws m _ L, List.flatMap_cons, numS_app, fine_len]
    rfl
/-! ### how many looks there can be -/
def tree (ws : List (List Sy)) : Nat → Nat → Nat
  | 0 => fun _ => 1
  | m + 1 => fun k => 1 + wsum (tree ws m) (ws.getD k [])
theorem wsum_app (N : Nat → Nat) : ∀ a b : List Sy, wsum N (a ++ b) = wsum N a + wsum N b
  | [], b => by show wsum N b = 0 + wsum N b; omega
  | s :: a, b => by
    have ih := wsum_app N a b
    cases s <;> simp only [List.cons_append, wsum, ih] <;> omega
theorem wsum_one (w : List Sy) : wsum (fun _ => 1) w = nL w := by
  induction w with
  | nil => rfl
  | cons s w ih =>
    rw [show s :: w = [s] ++ w from rfl, wsum_app, ih, nL_app]
    congr 1
    cases s <;> rfl
theorem wsum_add (f g : Nat → Nat) (w : List Sy) : wsum (fun k => f k + g k) w = wsum f w + wsum g w := by
  induction w with
  | nil => rfl
  | cons s w ih => cases s <;> simp only [wsum, ih] <;> omega
theorem wsum_grow (ws : List (List Sy)) (f : Nat → Nat) (w : List Sy) : wsum f (grow ws w) = wsum (fun k => wsum f (ws.getD k [])) w := by
  induction w with
  | nil => rfl
  | cons s w ih =>
    rw [show s :: w = [s] ++ w from rfl, grow_app, wsum_app, ih, wsum_app]
    congr 1
    cases s <;> simp [grow, img, wsum]
theorem grown_shift (ws : List (List Sy)) (w : List Sy) : ∀ b, grown ws (grow ws w) b = grown ws w (b + 1)
  | 0 => rfl
  | b + 1 => by
    show grow ws (grown ws (grow ws w) b) = grow ws (grown ws w (b + 1))
    rw [grown_shift ws w b]
theorem tree_le {ws : List (List Sy)} {M : Nat} : ∀ (a : Nat) (w : List Sy), (∀ b, b ≤ a → nL (grown ws w b) ≤ M) → wsum (tree ws a) w ≤ (a + 1) * M
  | 0, w, h => by
    rw [show tree ws 0 = fun _ => 1 from rfl, wsum_one]
    have := h 0 (Nat.le_refl _)
    rw [Nat.zero_add, Nat.one_mul]
    exact this
  | a + 1, w, h => by
    rw [show tree ws (a + 1) = fun k => 1 + wsum (tree ws a) (ws.getD k []) from rfl, wsum_add, wsum_one, ← wsum_grow]
    have h0 : nL w ≤ M := h 0 (Nat.zero_le _)
    have ih := tree_le a (grow ws w) fun b hb => by rw [grown_shift]; exact h (b + 1) (by omega)
    rw [Nat.succ_mul]
    omega
theorem sum_out (E : Pth) (f : Nat → Nat) : ∀ (w : List Sy) (p : Pen), ((penF E p w).out.map fun s => f s.2.2.2).sum = (p.out.map fun s => f s.2.2.2).sum + wsum f w
  | [], p => by show _ = _ + 0; rfl
  | s :: w, p => by
    rw [penF_cons, sum_out E f w]
    cases s with
    | l k =>
      show ((p.out ++ [_]).map _).sum + _ = _
      rw [List.map_append, List.sum_append]
      simp [wsum, Nat.add_assoc]
    | p => rfl
    | m => rfl
    | o => rfl
    | c =>
      show ((pstepE E p .c).out.map _).sum + _ = _
      have : (pstepE E p .c).out = p.out := by
        unfold pstepE
        unfold pstep
        cases p.st.getLast? <;> rfl
      rw [this]
      rfl
def costs (ws : List (List Sy)) (W : List Part) : Nat := (W.map fun q => tree ws q.1 q.2.2.2.2.2).sum
theorem costs_app (ws : List (List Sy)) (a b : List Part) : costs ws (a ++ b) = costs ws a + costs ws b := by unfold costs; rw [List.map_append, List.sum_append]
theorem costs_rev (ws : List (List Sy)) (a : List Part) : costs ws a.reverse = costs ws a := by unfold costs; rw [List.map_reverse, List.sum_reverse]
def partsL (ws : List (List Sy)) (m N : Nat) (L : List Stk) : List Part := (numb ws m N L).map fun x => (m, x)
theorem costs_parts (ws : List (List Sy)) (m : Nat) : ∀ (N : Nat) (L : List Stk), costs ws (partsL ws m N L) = (L.map fun s => tree ws m s.2.2.2).sum
  | N, [] => rfl
  | N, s :: L => by
    have ih := costs_parts ws m (N + nLg ws m s.2.2.2) L
    show costs ws ((m, N, s) :: partsL ws m (N + nLg ws m s.2.2.2) L) = _
    rw [List.map_cons, List.sum_cons, ← ih]
    rfl
/-! ### windows -/
abbrev Pt := Int × Int
def inW (c e p : Pt) : Bool := decide (c.1 ≤ p.1 ∧ p.1 ≤ e.1 ∧ c.2 ≤ p.2 ∧ p.2 ≤ e.2)
def hit (c e : Pt) (s : Stk) : Bool := inW c e (s.1, s.2.1) || inW c e (endS s)
def meets (b : Bx) (c e : Pt) : Bool := decide (b.1 ≤ e.1 ∧ c.1 ≤ b.2.2.1 ∧ b.2.1 ≤ e.2 ∧ c.2 ≤ b.2.2.2)
theorem miss {b : Bx} {ps : List Pt} {c e : Pt} (h : IsBox b ps) (m : meets b c e = false) {p : Pt} (hp : p ∈ ps) : inW c e p = false := by
  unfold meets at m
  unfold inW
  have m := of_decide_eq_false m
  refine decide_eq_false fun z => m ?_
  have := h.all p hp
  omega
theorem fine_pts {ws : List (List Sy)} (m : Nat) (s : Stk) : pts (fineG one (gI ws m) s) = (Pg ws m s.2.2.2).map (mvP (plS s)) := by
  have := far_pts (ws := ws) m [s]
  rw [List.flatMap_cons, List.flatMap_nil, List.append_nil, List.flatMap_cons, List.flatMap_nil, List.append_nil] at this
  exact this
theorem Bg0 (ws : List (List Sy)) (k : Nat) : Bg ws 0 k = (0, 0, 1, 0) := (Bg_eq (box_zero ws k)).1.symm
/-- the only places of a single stroke's box are its two ends -/
theorem meets_one {s : Stk} {c e : Pt} (h : 0 ≤ s.2.2.1 ∧ s.2.2.1 < 4) : meets (mvB (plS s) (0, 0, 1, 0)) c e = true → c.1 ≤ e.1 → c.2 ≤ e.2 → hit c e s = true := by
  obtain ⟨x, y, hd, l⟩ := s
  intro m h1 h2
  unfold meets at m
  have m := of_decide_eq_true m
  unfold hit inW endS
  rw [Bool.or_eq_true, decide_eq_true_iff, decide_eq_true_iff]
  have e : hd = 0 ∨ hd = 1 ∨ hd = 2 ∨ hd = 3 := by dsimp only at h; omega
  rcases e with rfl | rfl | rfl | rfl
  · simp [mvB, plS, rot, mn, mx, dir] at m ⊢
    omega
  · simp [mvB, plS, rot, mn, mx, dir] at m ⊢
    omega
  · simp [mvB, plS, rot, mn, mx, dir] at m ⊢
    omega
  · simp [mvB, plS, rot, mn, mx, dir] at m ⊢
    omega
theorem flat_zero (ws : List (List Sy)) {N : Nat} {s : Stk} (h : 0 ≤ s.2.2.1 ∧ s.2.2.1 < 4) : flatP ws (0, N, s) = [(N, s)] := by
  unfold flatP
  rw [fine_zero ws h]
  rfl
theorem flat_succ {ws : List (List Sy)} (hg : ∀ w ∈ ws, Good ws.length 40 w) (m N : Nat) {s : Stk} (hs : s.2.2.2 < ws.length) (h : 0 ≤ s.2.2.1 ∧ s.2.2.1 < 4) :
    flatP ws (m + 1, N, s) = (partsL ws m N (penF (Eg ws m) (stt (plS s)) (ws.getD s.2.2.2 [])).out).flatMap (flatP ws) := by
  unfold flatP partsL
  rw [List.flatMap_map]
  rw [show (fun x : NS => numS (m, x).2.1 (fineG one (gI ws (m, x).1) (m, x).2.2)) = fun x => flatP ws (m, x) from rfl, numb_flat]
  dsimp only
  rw [fine_succ hg m hs h]
  congr 1
theorem flat_all {ws : List (List Sy)} {st : List Sy} (hg : GoodBook ws st) (a : Nat) : (partsL ws a 0 (penF (Eg ws a) (stt (0, 0, 0)) st).out).flatMap (flatP ws) = numS 0 (strokes (grown ws st a)) := by
  unfold partsL
  rw [List.flatMap_map, show (fun x : NS => flatP ws (a, x)) = fun x => flatP ws (a, x) from rfl, numb_flat]
  congr 1
  rw [← far_strokes]
  exact (far_pen hg.words a (p := (0, 0, 0)) (fun k hk => hg.start.lets k hk) ⟨by decide, by decide⟩).2.symm
theorem pts_of {L : List Stk} {s : Stk} (h : s ∈ L) : (s.1, s.2.1) ∈ pts L ∧ endS s ∈ pts L := by
  unfold pts
  constructor
  · exact List.mem_flatMap.mpr ⟨s, h, List.mem_cons_self⟩
  · exact List.mem_flatMap.mpr ⟨s, h, List.mem_cons_of_mem _ List.mem_cons_self⟩
/-- a part that lies outside has none of the strokes -/
theorem part_miss {ws : List (List Sy)} {m N : Nat} {s : Stk} {c e : Pt} (hb : IsBox (Bg ws m s.2.2.2) (Pg ws m s.2.2.2)) (h : meets (mvB (plS s) (Bg ws m s.2.2.2)) c e = false) : (flatP ws (m, N, s)).filter (fun x => hit c e x.2) = [] := by
  rw [List.filter_eq_nil_iff]
  intro x hx
  have hm := (numS_mem hx).1
  have bx := box_mv hb (plS s)
  rw [← fine_pts] at bx
  obtain ⟨p1, p2⟩ := pts_of hm
  have m1 := miss bx h p1
  have m2 := miss bx h p2
  unfold hit
  rw [m1, m2]
  exact Bool.false_ne_true
/-- what a search of the parts comes to -/
structure SeekI (ws : List (List Sy)) (c e : Pt) (all : List NS) (tot : Nat) (F : List NS) (W : List Part) (looks : Nat) : Prop where
  eq : F ++ ((W.reverse).flatMap (flatP ws)).filter (fun x => hit c e x.2) = all
  few : looks + costs ws W ≤ tot
theorem tree_pos (ws : List (List Sy)) (m k : Nat) : 1 ≤ tree ws m k := by
  cases m with
  | zero => exact Nat.le_refl 1
  | succ m => show 1 ≤ 1 + _; omega
theorem SeekI.pop {ws : List (List Sy)} {c e : Pt} {all : List NS} {tot : Nat} {F : List NS} {W : List Part} {q : Part} {looks : Nat} (I : SeekI ws c e all tot F (W ++ [q]) looks) :
    F ++ ((flatP ws q).filter (fun x => hit c e x.2) ++ ((W.reverse).flatMap (flatP ws)).filter (fun x => hit c e x.2)) = all ∧ looks + 1 + costs ws W ≤ tot ∧ looks + tree ws q.1 q.2.2.2.2.2 + costs ws W ≤ tot := by
  obtain ⟨h1, h2⟩ := I
  rw [List.reverse_append, List.reverse_singleton, List.flatMap_append, List.flatMap_cons, List.flatMap_nil, List.append_nil, List.filter_append] at h1
  rw [costs_app] at h2
  have e1 : costs ws [q] = tree ws q.1 q.2.2.2.2.2 := by simp [costs]
  rw [e1] at h2
  have := tree_pos ws q.1 q.2.2.2.2.2
  exact ⟨h1, by omega, by omega⟩
theorem SeekI.grow {ws : List (List Sy)} {c e : Pt} {all : List NS} {tot : Nat} {F : List NS} {W : List Part} {m N : Nat} {s : Stk} {looks : Nat} (hg : ∀ w ∈ ws, Good ws.length 40 w) (hs : s.2.2.2 < ws.length) (h : 0 ≤ s.2.2.1 ∧ s.2.2.1 < 4)
    (I : SeekI ws c e all tot F (W ++ [(m + 1, N, s)]) looks) : SeekI ws c e all tot F (W ++ (partsL ws m N (penF (Eg ws m) (stt (plS s)) (ws.getD s.2.2.2 [])).out).reverse) (looks + 1) := by
  obtain ⟨h1, _, h3⟩ := I.pop
  refine ⟨?_, ?_⟩
  · rw [List.reverse_append, List.reverse_reverse, List.flatMap_append, List.filter_append, ← flat_succ hg m N hs h]
    exact h1
  · rw [costs_app, costs_rev, costs_parts]
    have e1 := sum_out (Eg ws m) (tree ws m) (ws.getD s.2.2.2 []) (stt (plS s))
    rw [e1]
    have e2 : tree ws (m + 1, N, s).1 (m + 1, N, s).2.2.2.2.2 = 1 + wsum (tree ws m) (ws.getD s.2.2.2 []) := rfl
    rw [e2] at h3
    have e3 : ((stt (plS s)).out.map fun s => tree ws m s.2.2.2).sum = 0 := rfl
    rw [e3]
    omega
theorem SeekI.miss {ws : List (List Sy)} {c e : Pt} {all : List NS} {tot : Nat} {F : List NS} {W : List Part} {m N : Nat} {s : Stk} {looks : Nat} (hb : IsBox (Bg ws m s.2.2.2) (Pg ws m s.2.2.2)) (h : meets (mvB (plS s) (Bg ws m s.2.2.2)) c e = false)
    (I : SeekI ws c e all tot F (W ++ [(m, N, s)]) looks) : SeekI ws c e all tot F W (looks + 1) := by
  obtain ⟨h1, h2, _⟩ := I.pop
  rw [part_miss hb h, List.nil_append] at h1
  exact ⟨h1, h2⟩
theorem SeekI.found {ws : List (List Sy)} {c e : Pt} {all : List NS} {tot : Nat} {F : List NS} {W : List Part} {N : Nat} {s : Stk} {looks : Nat} (h : 0 ≤ s.2.2.1 ∧ s.2.2.1 < 4) (hh : hit c e s = true)
    (I : SeekI ws c e all tot F (W ++ [(0, N, s)]) looks) : SeekI ws c e all tot (F ++ [(N, s)]) W (looks + 1) := by
  obtain ⟨h1, h2, _⟩ := I.pop
  rw [flat_zero ws h] at h1
  refine ⟨?_, h2⟩
  rw [← h1, List.append_assoc]
  congr 1
  simp [List.filter_cons, hh]
end SK
/-! what may raise, where it doesn't; fields as targets; what stands when an instance is written -/
namespace SK
open PySem PySem.Spec PyProof.Rows L2
section
variable {P : Program} {w : World} {K : PySem.W.Frag} {mg : Str → Option Value} {base : Heap}
/-- a def that may raise lets nothing out where its promise has no way out -/
theorem cool {k : Nat} {f : Addr} {fd : FuncData} {ps : List Str} {sp sp0 : Sp} (F : FnOk P w K mg base (L2.CX P w) k f fd ps sp) (h : ∀ vs H Q E, sp0 vs H Q E → sp vs H Q E0) : FnOk P w K mg base CX0 k f fd ps sp0 :=
  ⟨fun vs H Q E z => F.len vs H Q E0 (h _ _ _ _ z), fun A outer s H args us vs Q E hr e0 b r z => codeAny_mono (F.run A outer s H args us vs Q E0 hr e0 b r (h _ _ _ _ z)) fun r s' hq => match r, hq with
    | .ok (.ret _), hq => hq
    | .ok .next, hq => hq
    | .ok .brk, hq => hq
    | .ok .cont, hq => hq
    | .error _, ⟨_, _, _, _, _, _, _, _, _, _, _, _, z⟩ => z⟩
end
def gFld (K : PySem.W.Frag) (to : TE) (f : Str) : TG := fun v σ H Q => to σ H fun o H1 => ∃ a C dx fs, o = .ref a ∧ H1 a = some (.ins C dx fs) ∧ Cls K C ∧ NoAttr K C f ∧ fs.length < 1000 ∧ Q σ (upd H1 a (.ins C dx (putF f v fs)))
theorem pg_fld {X : Cx} {o : Expr} {f : Str} {to : TE} {pos : Pos} (ho : PE X o to)
    (ha : ∀ v, assign (.Attribute o f pos) X.env v = (do
      let ov ← holding [v] (eval o X.env)
      standAt pos.atName
      holding [v, ov] (setAttr ov f v)
      release [v, ov] []) := by intro _; rfl) : PG X (.Attribute o f pos) (gFld X.K to f) := by
  refine ⟨fun pins s σ H v u Q I r h => ?_⟩
  rw [ha]
  refine wpAny_bind (wpAny_holding (thn (ho.run pins s σ H _ I h) fun ov s1 ⟨x, H1, I1, r1, a, C, dx, fs, ex, ea, c, n, l, q⟩ => ?_))
  subst ex
  obtain rfl : ov = Value.ref a := r1
  refine wpAny_bind (wpAny_standAt (wpAny_bind (wpAny_holding (setattr_ok I1 ea c n l r fun s3 I3 => ?_))))
  exact wpAny_release ⟨σ, _, I3, q⟩
theorem lk0 {f : Str} {v : V} {l : List (Str × V)} : List.lookup f ((f, v) :: l) = some v := by simp [List.lookup]
theorem lkS {f g : Str} {v : V} {l : List (Str × V)} (h : ¬ f = g) : List.lookup f ((g, v) :: l) = List.lookup f l := by
  have e : (f == g) = false := by simpa using h
  simp [List.lookup, e]
theorem putF_new {f : Str} {v : V} : ∀ {fs : List (Str × V)}, (∀ p ∈ fs, ¬ p.1 = f) → putF f v fs = fs ++ [(f, v)]
  | [], _ => rfl
  | (g, u) :: fs, h => by
    show (if g = f then _ else (g, u) :: putF f v fs) = _
    rw [if_neg (h (g, u) List.mem_cons_self), putF_new fun p hp => h p (List.mem_cons_of_mem _ hp)]
    rfl
/-- all that is no instance stands -/
def KeepI (H H' : Hp) : Prop := ∀ c o, (∀ C dx fs, o ≠ .ins C dx fs) → H c = some o → H' c = some o
theorem KeepI.of {H H' : Hp} (s : Same H H') : KeepI H H' := fun c o _ e => s c o e
theorem KeepI.trans {H H' H2 : Hp} (a : KeepI H H') (b : KeepI H' H2) : KeepI H H2 := fun c o n e => b c o n (a c o n e)
theorem KeepI.ins {H : Hp} {p C dx : Addr} {fs : List (Str × V)} {o : HO} (h : H p = some (.ins C dx fs)) : KeepI H (upd H p o) := fun c u n e => by
  have z : c ≠ p := fun z => by
    rw [z, h] at e
    exact n C dx fs (Option.some.inj e).symm
  rw [upd_ne z]
  exact e
theorem KeepI.tup {H H' : Hp} (k : KeepI H H') : TupS H H' := ⟨fun b xs e => k b _ (fun _ _ _ z => nomatch z) e, fun b o u e => k b _ (fun _ _ _ z => nomatch z) e⟩
theorem KeepI.lst {H H' : Hp} (k : KeepI H H') {b : Addr} {xs : List V} (e : H b = some (.lst xs)) : H' b = some (.lst xs) := k b _ (fun _ _ _ z => nomatch z) e
theorem KeepI.dK {H H' : Hp} (k : KeepI H H') {b : Addr} {kvs : List (Key × V)} (e : H b = some (.dK kvs)) : H' b = some (.dK kvs) := k b _ (fun _ _ _ z => nomatch z) e
end SK
/-! an error of the program's own whose making begins with super: its making, its field -/
namespace SK
open PySem PySem.Spec PyProof.Rows L2
open PySem.W PySem.Calls PySem.HandSPX
/-- what is written of the class and of its __init__ -/
structure TmTxt (P : Program) (K : Frag) (mg : Str → Option Value) (C fI : Addr) : Prop where
  gC : mg "TooMany" = some (.ref C)
  gS : mg "super" = none
  cls : ∃ nm q N bs bm sn sub ab col dd k0 k1 k2 k3 k5, K.lookup C = some (excClassObj nm q C N bs bm true sn sub ab col dd k0 k1 k2 k3 k5 "ValueError.__new__") ∧ refsVE bm = true
  sa : findIn K (.ref C) "__setattr__" = some (some (.builtin "object.__setattr__"))
  ga : findIn K (.ref C) "__getattribute__" = some (some (.builtin "BaseException.__getattribute__"))
  gg : findIn K (.ref C) "__getattr__" = some none
  noN : findIn K (.ref C) "most" = some none
  iC : findIn K (.ref C) "__init__" = some (some (.ref fI))
  tC : typeIn K (.ref fI) = some (.type "function")
  kC : keepIn K (.ref C) = true
  exC : subIn K (.ref C) (.type "BaseException") = some true
  veC : subIn K (.ref C) (.type "ValueError") = some true
  tyC : typeIn K (.ref C) = some (.type "type")
  hdC : hasDictIn K C = true
  sup : ks_superIn K C C "__init__" = some (some (.builtin "ValueError.__init__"))
  own : mroIn K C (.ref C) = some true
  opq : nsIn K cStatics "thirdparty.any" = some none
  top : (P.main.scope.names.lookup ("super" : Str)).isSome = false
  fn : ∃ (oc : Value) (od : Option Addr) (doc pm : Value) (an : Option Addr) (cda : Addr) (ct : Value) (cc : Addr) (osl : Array (Option Value)),
    K.lookup fI = some ⟨oc, od, .func (ksFn "__init__" "TooMany.__init__" (defArgs s_TooMany_init) (defBody s_TooMany_init) (defScope s_TooMany_init) .none .none doc pm an (.ref cda) ct cc), osl⟩ ∧ codeIn K (.ref cda) "TooMany.__init__" = true ∧
    (∃ ccl cdd vs ccs file tf, K.lookup cda = some ⟨ccl, cdd, .fields vs, ccs⟩ ∧ vs[2]? = some (.str file tf) ∧ ((P.main.file : Str) == file) = true) ∧ ∃ cl cld csl, K.lookup cc = some ⟨cl, cld, .cell (some (.ref C)), csl⟩
/-- what the making leaves of a fresh one at x -/
structure TmEnd (h h' : Heap) (x C dx : Addr) (v : Value) : Prop where
  keep : ∀ b o, b ≠ x → h.get? b = some o → h'.get? b = some o
  obj : ∃ t1 : Addr, h'.get? x = some { cls := .ref C, dict := some dx, data := .fields #[.ref t1, .none, .none, .none, .bool false, .none] }
  dbig : h.objs.size ≤ dx
  dne : dx ≠ x
  ns : h'.Ns1 dx (fun y => if y = "most" then some v else none)
section
variable {prog : Program} {w : World} {A : Around} {R : Result → Shared → Prop} {s : Shared} {K : Frag} {mg : Str → Option Value} {C fI : Addr}
theorem tm_cw {M : Model} {E : Value → Shared → Prop} {pos : Pos} {env : Env} {e : Expr} {rest : List Expr} {u x : Addr} {i : String} {Q : Value → Shared → Prop}
    (h : wpAny M A (spliced (backTo pos (starEach (e :: rest) env))) (fun vs s₁ => KxsAt i u x s₁.heap ∧ wpAny M A (call (.ref u) vs) Q E s₁) E s)
    (he : starEach (e :: rest) env = (false, eval e env) :: starEach rest env := by rfl) (hplain : (backTo pos (starEach rest env)).any (·.1) = false := by rfl) :
    wpAny M A (callWith pos (.ref u) [] (backTo pos (starEach (e :: rest) env)) []) Q E s := by
  rw [he] at h ⊢
  refine kxs_callWith (i := i) (x := x) (by show (false || (backTo pos (starEach rest env)).any (·.1)) = false; rw [hplain]; rfl) ?_
  exact evalArgs_plain h
theorem tm_call {E : Value → Shared → Prop} {h : Heap} {g : Array GenState} {d : PySem.Drawn} {tk : Nat} {os : OsState} {nm q : Str} {N : Addr} {bs bm : List Value} {hdct : Bool} {sn : List Str} {sub : List Value} {ab : Bool} {col : Option Bool} {dd : Option Addr} {k0 k1 k2 k3 k5 : Option Value}
    {u x t : Addr} {rest : List Value} {Q : Value → Shared → Prop} (hC : h.get? C = some (excClassObj nm q C N bs bm hdct sn sub ab col dd k0 k1 k2 k3 k5 "ValueError.__new__")) (he : h.get? x = some (excO C t)) (hu : h.get? u = some (kxs_mw "ValueError.__init__" x)) (hz : rest.length ≤ sizeLine)
    (hq : ∀ h' t', (∀ b o, b ≠ x → h.get? b = some o → h'.get? b = some o) → h'.get? x = some (excO C t') → Q .none ⟨h', g, d, tk, os⟩) :
    wpAny (model prog w) A (call (.ref u) rest) Q E ⟨h, g, d, tk, os⟩ := by
  refine wpAny_call (codeAny_of_tree ?_)
  show wpAny _ A.in1 (callAny (.ref u) ⟨rest, []⟩) _ _ _
  simp only [callAny]
  refine wpAny_bind (wpAny_load hu ?_)
  simp only [kxs_mw, show (Value.type "method-wrapper" == Value.type "method" || Value.type "method-wrapper" == Value.type "builtin_function_or_method" || Value.type "method-wrapper" == Value.type "method-wrapper") = true by decide, if_true]
  refine KFB.if_so (by decide) ?_
  refine wpAny_bind (check_bound_init PySem.F.excBase_ValueError.toExcCallFacts hC he rfl ?_)
  refine wpAny_bind (wpAny_pure (wpAny_pure ?_))
  refine ⟨plainId_quiet PySem.F.excBase_ValueError.init.plain _, codeAny_builtin PySem.F.excBase_ValueError.initEntry ?_⟩
  exact exc_init_tree (cls := .ref C) (t0 := t) (dv := none) (c2 := .none) (c3 := .none) (b4 := .bool false) he hz fun h' k e _ => hq h' _ k e
theorem tm_init (T : TmTxt prog K mg C fI) {x t0 : Addr} {i : Int} {t : Tok} (X : K.In s.heap) (hlim : s.heap.NoLimit) (hns : s.heap.Ns mainGlobals mg) (hbl : ∃ mb, s.heap.Ns builtinsNs mb ∧ ∀ x : Str, x ≠ "__name__" → mb x = bootBuiltins x)
    (hx : s.heap.get? x = some (excO C t0)) (hnx : K.lookup x = none) (hroom : A.depth < recursionLimit) (hi : i.natAbs.log2 < 1920) (hl : (Str.empty ++ (Str.ofString "more than ") ++ (toString i : Str)).length ≤ sizeLine)
    (hq : ∀ h' tk dx, TmEnd s.heap h' x C dx (.int i t) → R (.ok (.ret .none)) { s with heap := h', toks := tk }) :
    codeAny (model prog w) A (.call (.ref fI) ⟨[.ref x, .int i t], []⟩) R s := by
  obtain ⟨oc, od, doc, pm, an, cda, ct, cc, osl, ho, hcd, ⟨ccl, cdd, vs, ccs, file, tf, hcode, hvs, hfile⟩, cl, cld, csl, hcell⟩ := T.fn
  obtain ⟨nm, q, N, bs, bm, sn, sub, ab, col, dd, k0, k1, k2, k3, k5, hC, hbm⟩ := T.cls
  have hcl : clsIn K C = some { name := nm, bases := bs, mro := .ref C :: bm, ns := N, qualname := q, hasDict := true, slotNames := sn, subclasses := sub, abstract := ab, collection := col, hasDel := false } := by unfold clsIn; rw [hC] <;> rfl
  obtain ⟨hp, g, dr, tk0, os⟩ := s
  refine ks_codeAny_call_defAt (fd := ksFn "__init__" "TooMany.__init__" (defArgs s_TooMany_init) (defBody s_TooMany_init) (defScope s_TooMany_init) .none .none doc pm an (.ref cda) ct cc) (body := defBody s_TooMany_init) (binds := [("self", .ref x), ("most", .int i t)]) hroom (X _ _ ho) rfl hlim (codeRec_of X hcd) rfl
    (BindsTo.of_eq (by first | rfl | with_unfolding_all rfl)) (by show ∀ x ∈ (defScope s_TooMany_init).names, x.2 ≠ .cell; decide +kernel) (fun y hy => by
      rcases List.mem_cons.mp hy with rfl | hy
      · rfl
      · rw [List.mem_singleton.mp hy]; rfl) (fun h₁ hn k => ?_) rfl rfl rfl
  have hxL : hp.objs.size ≠ x := Nat.ne_of_gt (Heap.lt_size hx)
  have X₁ : K.In h₁ := X.keeps k
  have hx₁ := k _ _ hx
  obtain ⟨mb, hb1, hb2⟩ := hbl
  refine ks_wpAt_execs_cons (ks_wpAt_Expr_any (ks_wpAt_MethodCall ?_))
  refine ks_wpAt_super_base (f := fI) (cc := cda) rfl rfl rfl rfl (X₁ _ _ ho) rfl rfl rfl (X₁ _ _ hcode) rfl hvs hfile T.top ?_
  refine ks_loadName_global rfl rfl (loadGlobal_builtin (hns.keeps k) T.gS (hb1.keeps k) ((hb2 _ (by decide +kernel)).trans (by decide +kernel : bootBuiltins "super" = some (.type "super"))) ⟨rfl, ?_⟩)
  refine wpAny_loadName_free rfl rfl rfl ⟨_, X₁ _ _ hcell, rfl⟩ ?_
  refine wpAny_loadName_local rfl rfl hn (by first | rfl | with_unfolding_all rfl) ?_
  refine ks_wpAny_isType_cls (X₁ _ _ hC) rfl ⟨rfl, ?_⟩
  refine ks_wpAny_call_super (X₁ _ _ hC) rfl hx₁ rfl (fun c e => by cases e) (looks_mroIn X₁ T.own) (fun h₂ e2 k2 => ?_)
  have X₂ : K.In h₂ := X₁.keeps k2
  have hx₂ := k2 _ _ hx₁
  have I₂ : InstAt h₂ x (excO C t0) C none := ⟨hx₂, rfl, rfl, trivial⟩
  have hsup := T.sup
  unfold ks_superIn at hsup
  rw [hcl] at hsup
  refine kxs_getMethod kxs_ValueError e2 (looks_opaque X₂ T.opq) (l₀ := .ref C :: bm) (fun A Q E s k q => wpAny_bind ((looks_clsIn X₂ hcl) A _ E s k (wpAny_pure q))) rfl X₂ hsup (I₂.type.andThen (looks_subIn X₂ T.veC)) (ks_ne X₂ I₂ hcl) rfl ?_
  have N₃ : ∀ b o, h₂.get? b = some o → (h₂.push (kxs_mw "ValueError.__init__" x)).get? b = some o := fun b o e => Heap.get?_push_of_some _ e
  have hu₃ : (h₂.push (kxs_mw "ValueError.__init__" x)).get? h₂.objs.size = some (kxs_mw "ValueError.__init__" x) := Heap.get?_push_at rfl rfl
  have k3 : ∀ b o, hp.get? b = some o → (h₂.push (kxs_mw "ValueError.__init__" x)).get? b = some o := fun b o e => N₃ _ _ (k2 _ _ (k _ _ e))
  have kL : ∀ o, h₁.get? hp.objs.size = some o → (h₂.push (kxs_mw "ValueError.__init__" x)).get? hp.objs.size = some o := fun o e => N₃ _ _ (k2 _ _ e)
  have hn3 : (h₂.push (kxs_mw "ValueError.__init__" x)).Ns hp.objs.size (fun y => ([("self", .ref x), ("most", .int i t)] : List (Str × Value)).reverse.lookup y) := by
    obtain ⟨o, es, ep, e1, r⟩ := hn
    exact ⟨o, es, ep, kL _ e1, r⟩
  have hx₃ := N₃ _ _ hx₂
  generalize h₂.push (kxs_mw "ValueError.__init__" x) = h₃ at N₃ hu₃ k3 kL hn3 hx₃ ⊢
  show wpAny _ _ (callWith _ (.ref h₂.objs.size) [] (backTo _ (starEach [_] _)) []) _ _ _
  refine tm_cw (i := "ValueError.__init__") (x := x) (Calls.spliced_cons (wpAny_JoinedStr (pos := jp_TooMany_init) ?_))
  refine Calls.Constant_str ⟨_, _, rfl, ?_, ?_⟩
  · rw [sizeLine_eq]; decide +kernel
  refine wpAny_FormattedValue_plain (wpAny_Name (wpAny_loadName_local rfl rfl hn3 (by first | rfl | with_unfolding_all rfl) ?_) (by decide))
  refine wpAny_formatField_int hi ⟨_, _, rfl, hl, ?_⟩
  refine ⟨hl, Calls.spliced_nil ⟨hu₃, ?_⟩⟩
  refine tm_call (k3 _ _ (X _ _ hC)) hx₃ hu₃ (by show 1 ≤ sizeLine; rw [sizeLine_eq]; decide) fun h₄ t4 k4 hx₄ => ?_
  have X₄ : K.In h₄ := fun a o e => k4 a o (fun z => by rw [z, hnx] at e; cases e) (k3 _ _ (X _ _ e))
  have hn4 : h₄.Ns hp.objs.size (fun y => ([("self", .ref x), ("most", .int i t)] : List (Str × Value)).reverse.lookup y) := by
    obtain ⟨o, es, ep, e1, r⟩ := hn3
    exact ⟨o, es, ep, k4 _ _ hxL e1, r⟩
  refine wpAt_of_wpAny (wpAny_execs_cons (plainObj_wpAny_Assign_Attribute ?_))
  refine wpAny_Name (wpAny_loadName_local rfl rfl hn4 (by first | rfl | with_unfolding_all rfl) ?_) (by decide)
  refine wpAny_Name (wpAny_loadName_local rfl rfl hn4 (by first | rfl | with_unfolding_all rfl) ?_) (by decide)
  refine set_plain X₄ (ox := excO C t4) (od := none) ⟨hx₄, rfl, rfl, trivial⟩ T.sa ?_
  refine exc_osa X₄ hx₄ hcl (show refsVE (.ref C :: bm) = true from hbm) rfl T.noN (fun h₅ tk₅ dx k₅ dn dne hx₅ hn₅ => ?_)
  refine wpAny_execs_nil (hq h₅ tk₅ dx ⟨fun b o hb e => k₅ b o hb (k4 b o hb (k3 b o e)), ⟨t4, hx₅⟩, ?_, dne, hn₅⟩)
  have z := hn4.lt
  exact Nat.le_of_lt (Nat.lt_of_lt_of_le z dn)
end
end SK
namespace SK
open PySem PySem.Spec PyProof.Rows L2
open PySem.W PySem.Calls PySem.HandSPX
/-- a made one at e, its dict at d -/
structure TmMade (h h' : Heap) (e C d : Addr) (v : Value) : Prop where
  keep : ∀ b o, h.get? b = some o → h'.get? b = some o
  new : h.objs.size ≤ e
  obj : ∃ oe vs, h'.get? e = some oe ∧ oe.cls = .ref C ∧ oe.dict = some d ∧ oe.data = .fields vs ∧ vs[1]? = some .none ∧ vs[2]? = some .none
  dbig : h.objs.size ≤ d
  dne : d ≠ e
  ns : h'.Ns1 d (fun y => if y = "most" then some v else none)
section
variable {prog : Program} {w : World} {A : Around} {R : Result → Shared → Prop} {s : Shared} {K : Frag} {mg : Str → Option Value} {C fI : Addr}
theorem tm_made (T : TmTxt prog K mg C fI) {i : Int} {t : Tok} (X : K.In s.heap) (hlim : s.heap.NoLimit) (hns : s.heap.Ns mainGlobals mg) (hbl : ∃ mb, s.heap.Ns builtinsNs mb ∧ ∀ x : Str, x ≠ "__name__" → mb x = bootBuiltins x) (hroom : A.depth + 1 < recursionLimit)
    (hi : i.natAbs.log2 < 1920) (hl : (Str.empty ++ (Str.ofString "more than ") ++ (toString i : Str)).length ≤ sizeLine)
    (hq : ∀ h' tk e d, TmMade s.heap h' e C d (.int i t) → R (.ok (.ret (.ref e))) { s with heap := h', toks := tk }) : codeAny (model prog w) A (.call (.ref C) ⟨[.int i t], []⟩) R s := by
  obtain ⟨nm, q, N, bs, bm, sn, sub, ab, col, dd, k0, k1, k2, k3, k5, hC, hbm⟩ := T.cls
  obtain ⟨hp, g, dr, tk, os⟩ := s
  have k : ∀ b o, hp.get? b = some o → ((hp.push (kdv_tup [.int i t])).push (excO C hp.objs.size)).get? b = some o := fun b o e => Heap.get?_push_of_some _ (Heap.get?_push_of_some _ e)
  have hget : ((hp.push (kdv_tup [.int i t])).push (excO C hp.objs.size)).get? (hp.objs.size + 1) = some (excO C hp.objs.size) := by heap_get
  have hnx : K.lookup (hp.objs.size + 1) = none := by
    cases e : K.lookup (hp.objs.size + 1) with
    | none => rfl
    | some o => exact absurd (Nat.lt_of_succ_lt (Heap.lt_size (show hp.get? (hp.objs.size + 1) = some o from X _ _ e))) (Nat.lt_irrefl _)
  obtain ⟨mb, hb1, hb2⟩ := hbl
  refine call_own PySem.F.excBase_ValueError (fun Y => refsVE_contains Y bm hbm) (X _ _ hC) (looks_findIn X T.iC) (fun self => bind_fn X self T.tC) (by show 1 ≤ sizeLine; rw [sizeLine_eq]; decide) ?_
  refine tm_init (s := ⟨(hp.push (kdv_tup [.int i t])).push (excO C hp.objs.size), g, dr, tk, os⟩) T (X.keeps k) (hlim.keeps k) (hns.keeps k) ⟨mb, hb1.keeps k, hb2⟩ hget hnx hroom hi hl fun h' tk' dx M => ?_
  have old : ∀ b o, hp.get? b = some o → h'.get? b = some o := fun b o e => M.keep b o (Nat.ne_of_lt (Nat.lt_succ_of_lt (Heap.lt_size e))) (k b o e)
  have z : hp.objs.size + 1 + 1 ≤ dx := by
    have q := M.dbig
    first
      | exact q
      | (rw [Heap.size_push, Heap.size_push] at q; exact q)
  obtain ⟨t1, hx⟩ := M.obj
  exact ⟨rfl, hq h' tk' (hp.objs.size + 1) dx ⟨old, Nat.le_succ _, ⟨_, _, hx, rfl, rfl, rfl, rfl, rfl⟩, (by show hp.objs.size ≤ dx; omega), M.dne, M.ns⟩⟩
end
theorem relO_most {v : V} {u : Value} (r : RelV v u) (f : Str) : RelO (List.lookup f [(("most" : Str), v)]) (if f = "most" then some u else none) := by
  by_cases h : f = "most"
  · rw [if_pos h, h]
    exact (show RelO (some v) (some u) from r)
  · rw [if_neg h]
    have e : (f == ("most" : Str)) = false := by simpa using h
    have e2 : List.lookup f [(("most" : Str), v)] = none := by simp [List.lookup, e]
    rw [e2]
    trivial
section
variable {X : Cx} {C fI : Addr}
/-- TooMany(i) -/
def tMkTm (C : Addr) (ta : TA) : L2.St → Hp → XK → Prop := fun σ H Q => ta σ H fun vs H1 => ∃ i : Int, vs = [.int i] ∧ i.natAbs.log2 < 1920 ∧ (Str.empty ++ (Str.ofString "more than ") ++ (toString i : Str)).length ≤ sizeLine ∧ ∀ d, H1 d = none → Q (.ref C) (some d) (upd H1 d (.xd [(("most" : Str), .int i)]))
theorem pmk_tm {a : Expr} {ta : TA} {p pos : Pos} {k : Nat} (T : TmTxt X.prog X.K X.mg C fI) (hr : Room k X.A) (ha : PA X [a] ta) (hg : Gl X "TooMany" := by rfl)
    (he : starEach (a :: []) X.env = (false, eval a X.env) :: starEach [] X.env := by rfl) (hpl : (backTo pos (starEach [] X.env)).any (·.1) = false := by rfl) :
    PMk X (.Call (.Name "TooMany" p) [a] [] pos) (tMkTm C ta) := by
  intro pins s σ H Q I h
  refine wpAny_Call_Name_kw (ld_glob I hg T.gC ?_)
  refine PySem.W.callWith_K (h₀ := X.base) I.ok.mod.kin T.kC (thn (ha.run pos pins s σ H _ I h) fun us s1 hh => ?_) he hpl
  obtain ⟨vs, H1, I1, r1, i, ev, hi, hl, q1⟩ := hh
  subst ev
  refine ⟨I1.kIn, ?_⟩
  obtain ⟨v', rfl, rv⟩ := vals1 r1
  obtain ⟨t, rfl⟩ := id rv
  show wpAny _ _ (call (.ref C) [.int i t]) _ _ _
  have hlim := I1.nolimit
  obtain ⟨mb, hb1, hb2⟩ := I1.mod.blt
  have hns := I1.mod.glob.keeps I1.bk
  have hb1' := hb1.keeps I1.bk
  obtain ⟨hp, g, dr, tk, os⟩ := s1
  refine wpAny_call (tm_made T I1.kIn hlim hns ⟨mb, hb1', hb2⟩ (by have := hr.dp; omega) hi hl fun h' tk' e d M => ?_)
  show MkP X pins σ Q (.ref e) ⟨h', g, dr, tk', os⟩
  obtain ⟨oe, fv, hoe, hc, hd, hdat, h1, _⟩ := M.obj
  obtain ⟨G', g1, g2⟩ := restrict h' fun b => decide (b ≠ e)
  have gk : ∀ b, b ≠ e → G'.get? b = h'.get? b := fun b hb => g1 b (decide_eq_true hb)
  have ge : G'.get? e = none := g2 e (by simp)
  have old : ∀ b o, hp.get? b = some o → G'.get? b = some o := fun b o q => (gk b (Nat.ne_of_lt (Nat.lt_of_lt_of_le (Heap.lt_size q) M.new))).trans (M.keep b o q)
  have ob : ObjOk X.prog X.w (upd H1 d (.xd [(("most" : Str), .int i)])) G' d (.xd [(("most" : Str), .int i)]) := ⟨_, M.ns.at (fun o q => (gk d M.dne).trans q), fun f => relO_most rv f⟩
  have J : Inv X pins σ (upd H1 d (.xd [(("most" : Str), .int i)])) ⟨G', g, dr, tk', os⟩ := I1.laid (t' := tk') old M.dbig ob
  refine ⟨e, oe, fv, ⟨G', g, dr, tk', os⟩, _, .ref C, some d, rfl, J, fun b o q => ?_, ge, hoe, ⟨hc, hd⟩, hdat, h1, ?_, rfl, I1.bare, raises_own T.exC T.tyC, q1 d (I1.hok.fresh M.dbig)⟩
  · by_cases hb : b = e
    · rw [hb] at q
      exact absurd (show G'.get? e = some o from q) (by rw [ge]; exact fun z => nomatch z)
    · exact (gk b hb).symm.trans q
  · rw [upd_ne (Ne.symm M.dne)]
    exact I1.hok.fresh M.new
def tRaiseTm (C : Addr) (W : WX) (ta : TA) : TS := fun _ σ H => tMkTm C ta σ H fun cls d H' => W cls d σ H'
theorem ps_raiseTm {a : Expr} {ta : TA} {W : WX} {p pos pos2 : Pos} {k : Nat} (hc : X.calm = true) (T : TmTxt X.prog X.K X.mg C fI) (hr : Room k X.A) (tk : Takes X W) (ha : PA X [a] ta) (hg : Gl X "TooMany" := by rfl)
    (he : starEach (a :: []) X.env = (false, eval a X.env) :: starEach [] X.env := by rfl) (hpl : (backTo pos (starEach [] X.env)).any (·.1) = false := by rfl) :
    PS X (.Raise (some (.Call (.Name "TooMany" p) [a] [] pos)) none pos2) (tRaiseTm C W ta) := ps_raise hc tk (pmk_tm T hr ha hg he hpl)
/-- error.most, the error that the suite holds at a -/
def tMost (C : Addr) (a : Addr) (cls : Value) (d : Option Addr) (te : TE) : TE := fun σ H Q => te σ H fun x H1 => x = .ref a ∧ cls = .ref C ∧ ∃ (dd : Addr) (v : V), d = some dd ∧ H1 dd = some (.xd [(("most" : Str), v)]) ∧ Q v H1
theorem pe_most {a : Addr} {oe : Obj} {cls : Value} {d : Option Addr} {pn : List (Addr × Obj)} {e : Expr} {te : TE} {pos : Pos} (T : TmTxt X.prog X.K X.mg C fI) (hz : Zc cls d oe) (hf : ∃ vs, oe.data = .fields vs) (he : PE (X.suite a ((a, oe) :: pn)) e te)
    (hb : attributeBase e "most" X.env (eval e X.env) = eval e X.env := by rfl) : PE (X.suite a ((a, oe) :: pn)) (.Attribute e "most" pos) (tMost C a cls d te) := by
  refine ⟨fun pins s σ H Q I h => ?_⟩
  refine attr_of hb (thn (he.run pins s σ H _ I h) fun u s1 hh => ?_)
  obtain ⟨x, H1, I1, rx, ex, ec, dd, v, ed, ea, q⟩ := hh
  subst ex ec ed
  obtain rfl : u = Value.ref a := rx
  obtain ⟨ha, _⟩ := I1.pin (a, oe) (List.mem_append_left _ List.mem_cons_self)
  obtain ⟨vs, hd⟩ := hf
  obtain ⟨mA, hns, hr⟩ := (show ObjOk X.prog X.w H1 s1.heap dd (.xd [(("most" : Str), v)]) from I1.hok dd _ ea)
  obtain ⟨od, ho, hl⟩ := lookIn_ns hns
  have l : List.lookup ("most" : Str) [(("most" : Str), v)] = some v := by simp [List.lookup]
  obtain ⟨u, hu, ru⟩ := RelO.some_of (v := v) (o := mA "most") (by rw [← l]; exact hr "most")
  have J : PySem.W.InstAt s1.heap a oe C (some od) := ⟨ha, hz.1, by unfold PySem.W.notCls; rw [hd] <;> rfl, by rw [hz.2]; exact ho⟩
  exact HandSPX.exc_get I1.kIn J T.ga T.gg T.exC (PySem.W.findObj_own T.hdC T.noN rfl (by rw [hl, hu])) (handed_of ru) ⟨v, H1, I1.tok _, ru, q⟩
end
end SK
namespace SK
open PySem PySem.Spec PyProof.Rows L2
theorem Paired.rev {α β : Type} {F : α → β → Prop} : ∀ {as : List α} {bs : List β}, Paired F as bs → Paired F as.reverse bs.reverse
  | _, _, .nil => .nil
  | _, _, .cons r t => by
    rw [List.reverse_cons, List.reverse_cons]
    exact Paired.snoc (Paired.rev t) r
def sfl (pw pq rs re rb : Addr) : List (Str × V) := [("words", .ref pw), ("start", .ref pq), ("strokes", .ref rs), ("ends", .ref re), ("boxes", .ref rb)]
def f1 (pw : Addr) : List (Str × V) := [("words", .ref pw)]
def f2 (pw pq : Addr) : List (Str × V) := [("words", .ref pw), ("start", .ref pq)]
def f3 (pw pq rs : Addr) : List (Str × V) := [("words", .ref pw), ("start", .ref pq), ("strokes", .ref rs)]
def f4 (pw pq rs re : Addr) : List (Str × V) := [("words", .ref pw), ("start", .ref pq), ("strokes", .ref rs), ("ends", .ref re)]
theorem put1 (pw : Addr) : putF "words" (.ref pw) [] = f1 pw := rfl
theorem put2 (pw pq : Addr) : putF "start" (.ref pq) (f1 pw) = f2 pw pq := putF_new fun x hx => by
  rw [List.mem_singleton.mp hx]
  show ¬ ("words" : Str) = "start"
  decide +kernel
theorem put3 (pw pq rs : Addr) : putF "strokes" (.ref rs) (f2 pw pq) = f3 pw pq rs := putF_new fun x hx => by
  simp only [f2, List.mem_cons, List.not_mem_nil, or_false] at hx
  rcases hx with rfl | rfl
  · show ¬ ("words" : Str) = "strokes"
    decide +kernel
  · show ¬ ("start" : Str) = "strokes"
    decide +kernel
theorem put4 (pw pq rs re : Addr) : putF "ends" (.ref re) (f3 pw pq rs) = f4 pw pq rs re := putF_new fun x hx => by
  simp only [f3, List.mem_cons, List.not_mem_nil, or_false] at hx
  rcases hx with rfl | rfl | rfl
  · show ¬ ("words" : Str) = "ends"
    decide +kernel
  · show ¬ ("start" : Str) = "ends"
    decide +kernel
  · show ¬ ("strokes" : Str) = "ends"
    decide +kernel
theorem put5 (pw pq rs re rb : Addr) : putF "boxes" (.ref rb) (f4 pw pq rs re) = sfl pw pq rs re rb := putF_new fun x hx => by
  simp only [f4, List.mem_cons, List.not_mem_nil, or_false] at hx
  rcases hx with rfl | rfl | rfl | rfl
  · show ¬ ("words" : Str) = "boxes"
    decide +kernel
  · show ¬ ("start" : Str) = "boxes"
    decide +kernel
  · show ¬ ("strokes" : Str) = "boxes"
    decide +kernel
  · show ¬ ("ends" : Str) = "boxes"
    decide +kernel
structure SkTxt (K : PySem.W.Frag) (C : Addr) : Prop where
  cl : Cls K C
  nW : NoAttr K C "words"
  nS : NoAttr K C "start"
  nK : NoAttr K C "strokes"
  nE : NoAttr K C "ends"
  nB : NoAttr K C "boxes"
structure SkA where
  (dx pw pq rs re rb : Addr)
  (as rse ree rbe : List Addr)
structure SkAt (K : PySem.W.Frag) (C : Addr) (H : Hp) (p : Addr) (a : SkA) (ws : List (List Sy)) (st : List Sy) (n : Nat) (cl : List Nat) : Prop where
  ob : H p = some (.ins C a.dx (sfl a.pw a.pq a.rs a.re a.rb))
  w : H a.pw = some (.tup (a.as.map V.ref))
  ww : Words H a.as ws
  s : WdAt H a.pq st
  ks : H a.rs = some (.lst (a.rse.map V.ref))
  kr : RowsF H a.rse n cl (isN (nLg ws))
  es : H a.re = some (.lst (a.ree.map V.ref))
  er : RowsF H a.ree n cl (isE K H (Eg ws))
  bs : H a.rb = some (.lst (a.rbe.map V.ref))
  br : RowsF H a.rbe n cl (isBx K H ws)
theorem SkAt.same {K : PySem.W.Frag} {C : Addr} {H H' : Hp} {p : Addr} {a : SkA} {ws : List (List Sy)} {st : List Sy} {n : Nat} {cl : List Nat} (h : SkAt K C H p a ws st n cl) (S : Same H H') : SkAt K C H' p a ws st n cl :=
  ⟨S _ _ h.ob, S _ _ h.w, h.ww.keep (.of S), h.s.same S, S _ _ h.ks, h.kr.same S fun _ _ _ z => z, S _ _ h.es, h.er.same S (isE.same S), S _ _ h.bs, h.br.same S (isBx.same S)⟩
theorem RowsF.keepI {H H' : Hp} {rs : List Addr} {n : Nat} {cl : List Nat} {Φ Ψ : Nat → Nat → Option V → Prop} (h : RowsF H rs n cl Φ) (s : KeepI H H') (f : ∀ m k o, Φ m k o → Ψ m k o) : RowsF H' rs n cl Ψ :=
  ⟨h.1, fun m hm => let ⟨d, kvs, a, b, c⟩ := h.2 m hm; ⟨d, kvs, a, s.dK b, c.mono (f m)⟩⟩
def spSkInit (K : PySem.W.Frag) (C : Addr) : Sp := fun vs H Q _ => ∃ (p b dx : Addr) (n : Nat) (ws : List (List Sy)) (st : List Sy), vs = [.ref p, .ref b, .int n] ∧ H p = some (.ins C dx []) ∧ BookAt H b ws st ∧ GoodBook ws st ∧ n ≤ 1000 ∧
  ∀ (H' : Hp) (a : SkA) (cl : List Nat), SameX p H H' → SkAt K C H' p a ws st n cl → Closed ws cl → (∀ k, k ∈ cl ↔ Comes ws st k) → Q .non H'
def Parts (H : Hp) (as : List Addr) (qs : List Part) : Prop := Paired (fun a q => ∃ t, H a = some (.tup [.int (q.1 : Nat), .int (q.2.1 : Nat), .ref t]) ∧ H t = some (.tup (stV q.2.2))) as qs
theorem Parts.keep {H H' : Hp} {as : List Addr} {qs : List Part} (t : TupS H H') (h : Parts H as qs) : Parts H' as qs := Paired.mono (fun a q ⟨u, e1, e2⟩ => ⟨u, t.1 _ _ e1, t.1 _ _ e2⟩) h
def spParts (K : PySem.W.Frag) (C : Addr) : Sp := fun vs H Q _ => ∃ (p wa pn : Addr) (a : SkA) (ws : List (List Sy)) (st : List Sy) (n : Nat) (cl : List Nat) (m N : Nat) (v : List Sy) (pp : Plc), vs = [.ref p, .ref wa, .int m, .int N, .ref pn] ∧ SkAt K C H p a ws st n cl ∧
  WdAt H wa v ∧ (∀ k, Sy.l k ∈ v → k ∈ cl) ∧ nest v 0 ≠ none ∧ v.length ≤ 40 ∧ m ≤ n ∧ SqT K H pn (plV pp) ∧ 0 ≤ pp.2.2 ∧ pp.2.2 < 4 ∧
  ∀ (H' : Hp) (l : Addr) (qs : List Addr), Same H H' → H l = none → H' l = some (.lst (qs.map V.ref)) → Parts H' qs (partsL ws m N (penF (Eg ws m) (stt pp) v).out).reverse → Q (.ref l) H'
def spReach (K : PySem.W.Frag) (C : Addr) : Sp := fun vs H Q _ => ∃ (p t ca ea : Addr) (a : SkA) (ws : List (List Sy)) (st : List Sy) (n : Nat) (cl : List Nat) (m : Nat) (s : Stk) (c e : Pt), vs = [.ref p, .int m, .ref t, .ref ca, .ref ea] ∧ SkAt K C H p a ws st n cl ∧ m ≤ n ∧
  H t = some (.tup (stV s)) ∧ (0 ≤ s.2.2.1 ∧ s.2.2.1 < 4) ∧ s.2.2.2 ∈ cl ∧ SqT K H ca [.int c.1, .int c.2] ∧ SqT K H ea [.int e.1, .int e.2] ∧
  ∀ H', Same H H' → IsBox (Bg ws m s.2.2.2) (Pg ws m s.2.2.2) → Q (.bl (meets (mvB (plS s) (Bg ws m s.2.2.2)) c e)) H'
section
variable {P : Program} {w : World} {K : PySem.W.Frag} {mg : Str → Option Value} {base : Heap}
theorem ok_skinit {f : Addr} {fd : FuncData} {k : Nat} {C : Addr} (T : SkTxt K C) (F : Fun K "__init__" "Seeker.__init__" s_Seeker_init f fd) (GC : Got P w K mg base "coming_letters" k ["words", "parts"] (spComing K)) (GS : Got P w K mg base "strokes_by_age" k ["words", "letters", "age"] spSByAge)
    (GE : Got P w K mg base "ends_by_age" k ["words", "letters", "age"] (spEByAge K)) (GB : Got P w K mg base "boxes_by_age" k ["words", "letters", "ends"] (spBByAge K)) : FnOk P w K mg base CX0 (k + 1) f fd ["self", "book", "age"] (spSkInit K C) := by
  refine F.ok sc_Seeker_init (fun vs H Q E h => ?_) (fun cdv A outer s H vs Q E hr h => ?_)
  · obtain ⟨p, b, dx, n, ws, st, rfl, _⟩ := h
    rfl
  · obtain ⟨p, b, dx, n, ws, st, rfl, hp, hb, hg, hn, q⟩ := h
    have nd := sc_Seeker_init.nd
    refine ⟨_, pss_cons (ps_asg (pv 1) (pg_tup (by rfl) (pgs_cons (pg_fld (pv 0)) (pgs_cons (pg_fld (pv 0)) pgs_nil))))
      (pss_cons (ps_set (i := 3) nd rfl (.inl rfl) (pcall GC hr (pa_cons (pe_fld (pv 0) rfl) (pa_cons (pe_fld (pv 0) rfl) pa_nil))))
      (pss_cons (ps_fld (pv 0) (pcall GS hr (pa_cons (pe_fld (pv 0) rfl) (pa_cons (pv 3) (pa_cons (pv 2) pa_nil)))) rfl)
      (pss_cons (ps_fld (pv 0) (pcall GE hr (pa_cons (pe_fld (pv 0) rfl) (pa_cons (pv 3) (pa_cons (pv 2) pa_nil)))) rfl)
      (pss_one (ps_fld (pv 0) (pcall GB hr (pa_cons (pe_fld (pv 0) rfl) (pa_cons (pv 3) (pa_cons (pe_fld (pv 0) rfl) pa_nil)))) rfl))))), ?_⟩
    obtain ⟨pw, pq, as, b1, b2, b3, b4⟩ := id hb
    have hf := hg.few
    refine ⟨_, rfl, b, _, rfl, SqT.of b1, rfl, _, _, rfl, _, rfl, p, C, dx, [], rfl, hp, T.cl, T.nW, by show 0 < 1000; decide, _, _, rfl, _, rfl, p, C, dx, _, rfl, upd_same, T.cl, T.nS, by show 1 < 1000; decide, rfl, ?_⟩
    rw [upd_upd, put1, put2]
    have K1 : KeepI H (upd H p (.ins C dx (f2 pw pq))) := KeepI.ins hp
    have X1 : SameX p H (upd H p (.ins C dx (f2 pw pq))) := fun c o n e => by rw [upd_ne n]; exact e
    have h1 : (upd H p (.ins C dx (f2 pw pq))) p = some (.ins C dx (f2 pw pq)) := upd_same
    generalize upd H p (.ins C dx (f2 pw pq)) = H1 at K1 X1 h1 ⊢
    have l2 : List.lookup ("start" : Str) (f2 pw pq) = some (.ref pq) := (lkS (by decide +kernel)).trans lk0
    refine ⟨_, rfl, p, C, dx, _, _, rfl, h1, T.cl, T.nW, lk0, _, rfl, p, C, dx, _, _, rfl, h1, T.cl, T.nS, l2, pw, pq, as, ws, st, rfl, K1.tup.1 _ _ b2, b4.keep K1.tup, .inr (K1.tup.wd b3).sq, by omega, hg.words, hg.start.lets, fun H2 l cl S2 n2 hl hc nd2 _ l8 => ?_⟩
    have C2 := closed_comes hg.words hg.start.lets hc l8
    have K2 := K1.trans (.of S2)
    have h2 := S2 _ _ h1
    refine ⟨_, rfl, p, C, dx, _, _, rfl, h2, T.cl, T.nW, lk0, _, rfl, _, rfl, pw, l, n, as, ws, cl, rfl, K2.tup.1 _ _ b2, b4.keep K2.tup, hl, hg.words, C2, hn, fun H3 rs rse S3 n3 hrs hR => ?_⟩
    have h3 := S3 _ _ h2
    have nrs : H2 rs = none := n3
    refine ⟨_, rfl, p, C, dx, _, rfl, h3, T.cl, T.nK, by show 2 < 1000; decide, ?_⟩
    rw [put3]
    have K4 : KeepI H3 (upd H3 p (.ins C dx (f3 pw pq rs))) := KeepI.ins h3
    have X4 : SameX p H3 (upd H3 p (.ins C dx (f3 pw pq rs))) := fun c o n e => by rw [upd_ne n]; exact e
    have h4 : (upd H3 p (.ins C dx (f3 pw pq rs))) p = some (.ins C dx (f3 pw pq rs)) := upd_same
    generalize upd H3 p (.ins C dx (f3 pw pq rs)) = H4 at K4 X4 h4 ⊢
    have K04 := (K2.trans (.of S3)).trans K4
    have hl4 := K4.lst (S3 _ _ hl)
    refine ⟨_, rfl, p, C, dx, _, _, rfl, h4, T.cl, T.nW, lk0, _, rfl, _, rfl, pw, l, n, as, ws, cl, rfl, K04.tup.1 _ _ b2, b4.keep K04.tup, hl4, hg.words, C2, hn, fun H5 re ree S5 n5 hre hE => ?_⟩
    have h5 := S5 _ _ h4
    refine ⟨_, rfl, p, C, dx, _, rfl, h5, T.cl, T.nE, by show 3 < 1000; decide, ?_⟩
    rw [put4]
    have K6 : KeepI H5 (upd H5 p (.ins C dx (f4 pw pq rs re))) := KeepI.ins h5
    have X6 : SameX p H5 (upd H5 p (.ins C dx (f4 pw pq rs re))) := fun c o n e => by rw [upd_ne n]; exact e
    have h6 : (upd H5 p (.ins C dx (f4 pw pq rs re))) p = some (.ins C dx (f4 pw pq rs re)) := upd_same
    generalize upd H5 p (.ins C dx (f4 pw pq rs re)) = H6 at K6 X6 h6 ⊢
    have K46 : KeepI H4 H6 := (KeepI.of S5).trans K6
    have K06 := K04.trans K46
    have hl6 := K46.lst hl4
    have hre6 := K6.lst hre
    have hE6 := hE.keepI K6 (isE.tup K6.tup)
    have l4 : List.lookup ("ends" : Str) (f4 pw pq rs re) = some (.ref re) := (lkS (by decide +kernel)).trans ((lkS (by decide +kernel)).trans ((lkS (by decide +kernel)).trans lk0))
    refine ⟨_, rfl, p, C, dx, _, _, rfl, h6, T.cl, T.nW, lk0, _, rfl, _, rfl, p, C, dx, _, _, rfl, h6, T.cl, T.nE, l4, pw, l, re, n, as, ree, ws, cl, rfl, K06.tup.1 _ _ b2, b4.keep K06.tup, hl6, hg.words, C2, hn, hre6, hE6, fun H7 rb rbe S7 n7 hrb hB => ?_⟩
    have h7 := S7 _ _ h6
    refine ⟨_, rfl, p, C, dx, _, rfl, h7, T.cl, T.nB, by show 4 < 1000; decide, ?_⟩
    rw [put5]
    have K8 : KeepI H7 (upd H7 p (.ins C dx (sfl pw pq rs re rb))) := KeepI.ins h7
    have X8 : SameX p H7 (upd H7 p (.ins C dx (sfl pw pq rs re rb))) := fun c o n e => by rw [upd_ne n]; exact e
    have h8 : (upd H7 p (.ins C dx (sfl pw pq rs re rb))) p = some (.ins C dx (sfl pw pq rs re rb)) := upd_same
    generalize upd H7 p (.ins C dx (sfl pw pq rs re rb)) = H8 at K8 X8 h8 ⊢
    have K68 : KeepI H6 H8 := (KeepI.of S7).trans K8
    have K48 := K46.trans K68
    have K38 := K4.trans K48
    have K08 := K06.trans K68
    refine q H8 ⟨dx, pw, pq, rs, re, rb, as, rse, ree, rbe⟩ cl ?_ ⟨h8, K08.tup.1 _ _ b2, b4.keep K08.tup, K08.tup.wd b3, K38.lst hrs, hR.keepI K38 (fun _ _ _ z => z), K68.lst hre6, hE6.keepI K68 (isE.tup K68.tup), K8.lst hrb, hB.keepI K8 (isBx.tup K8.tup)⟩ C2 hc
    exact fun c o n e => X8 c o n (S7 c o (X6 c o n (S5 c o (X4 c o n (S3 c o (S2 c o (X1 c o n e)))))))
end
end SK
namespace SK
open PySem PySem.Spec PyProof.Rows L2
theorem sfl_w {pw pq rs re rb : Addr} : (sfl pw pq rs re rb).lookup ("words" : Str) = some (.ref pw) := lk0
theorem sfl_s {pw pq rs re rb : Addr} : (sfl pw pq rs re rb).lookup ("start" : Str) = some (.ref pq) := (lkS (by decide +kernel)).trans lk0
theorem sfl_k {pw pq rs re rb : Addr} : (sfl pw pq rs re rb).lookup ("strokes" : Str) = some (.ref rs) := (lkS (by decide +kernel)).trans ((lkS (by decide +kernel)).trans lk0)
theorem sfl_e {pw pq rs re rb : Addr} : (sfl pw pq rs re rb).lookup ("ends" : Str) = some (.ref re) := (lkS (by decide +kernel)).trans ((lkS (by decide +kernel)).trans ((lkS (by decide +kernel)).trans lk0))
theorem sfl_b {pw pq rs re rb : Addr} : (sfl pw pq rs re rb).lookup ("boxes" : Str) = some (.ref rb) := (lkS (by decide +kernel)).trans ((lkS (by decide +kernel)).trans ((lkS (by decide +kernel)).trans ((lkS (by decide +kernel)).trans lk0)))
theorem sfl_no {pw pq rs re rb : Addr} {m : Str} (h1 : ¬ m = "words") (h2 : ¬ m = "start") (h3 : ¬ m = "strokes") (h4 : ¬ m = "ends") (h5 : ¬ m = "boxes") : (sfl pw pq rs re rb).lookup m = none :=
  (lkS h1).trans ((lkS h2).trans ((lkS h3).trans ((lkS h4).trans ((lkS h5).trans rfl))))
section
variable {P : Program} {w : World} {K : PySem.W.Frag} {mg : Str → Option Value} {base : Heap}
theorem ok_parts {f : Addr} {fd : FuncData} {k : Nat} {C : Addr} (T : SkTxt K C) (F : Fun K "parts" "Seeker.parts" s_Seeker_parts f fd) (GL : Got P w K mg base "lay" k ["word", "ends", "pen"] (spLay K)) : FnOk P w K mg base CX0 (k + 1) f fd ["self", "word", "level", "number", "pen"] (spParts K C) := by
  refine F.ok sc_Seeker_parts (fun vs H Q E h => ?_) (fun cdv A outer s H vs Q E hr h => ?_)
  · obtain ⟨p, wa, pn, a, ws, st, n, cl, m, N, v, pp, rfl, _⟩ := h
    rfl
  · obtain ⟨p, wa, pn, a, ws, st, n, cl, m, N, v, pp, rfl, hS, hwa, hv, hn, hlen, hm, hpn, hp0, hp4, q⟩ := h
    have nd := sc_Seeker_parts.nd
    refine ⟨_, pss_cons (ps_set (i := 5) nd rfl (.inl rfl) (plstN pa_nil))
      (pss_cons (ps_for PassesOwn.never rfl (pi_list (pixT (pcall GL hr (pa_cons (pv 1) (pa_cons (pix (pe_fld (pv 0) rfl) (pv 2)) (pa_cons (pv 4) pa_nil)))) pe_int)) (pg_name (i := 6) nd rfl (.inl rfl))
        (pss_cons (sapp (pv 5) (ptupN (pa_cons (pv 2) (pa_cons (pv 3) (pa_cons (pv 6) pa_nil)))))
        (pss_one (ps_aug (i := 3) nd rfl (.inl rfl) (pe_dget (hu_of hr) (pix (pe_fld (pv 0) rfl) (pv 2)) (pixT (pv 6) pe_int) (fun _ _ => rfl)) ip_add))))
      (pss_cons (ps_expr (pe_bm0 PySem.F.plainAttrs_list PySem.F.slot_list_reverse PySem.F.type_list_reverse mt_reverse (pv 5)))
      (pss_one (ps_ret (pv 5))))), ?_⟩
    refine ⟨szl 0, fun H1 fo S1 n1 h1 => ?_⟩
    have S := hS.same S1
    obtain ⟨de, ke, a1, a2, a3⟩ := S.er.2 m hm
    obtain ⟨ds, kd, d1, d2, d3⟩ := S.kr.2 m hm
    refine ⟨_, rfl, _, rfl, p, C, a.dx, _, _, rfl, S.ob, T.cl, T.nE, sfl_e, _, rfl, a.re, _, _, .ref de, rfl, rfl, SqL.of S.es, atI_nat (by rw [List.getElem?_map, a1]; rfl), _, rfl, wa, de, pn, v, ke, Eg ws m, pp, rfl, hwa.same S1, a2, fun k hk => a3 k (hv k hk), sTup S1 hpn, hp0, hp4, hn, by omega, fun H2 t la e asL S2 n2 h2 n3 hla hA he => ?_⟩
    have hok := (hok_run (E := Eg ws m) v (hok_stt (p := pp) ⟨hp0, hp4⟩)).out
    have lets : ∀ q ∈ (penF (Eg ws m) (stt pp) v).out, q.2.2.2 ∈ cl := fun q hq => by
      rcases let_pen v (stt pp) q hq with h | h
      · cases h
      · exact hv _ h
    have lL : (penF (Eg ws m) (stt pp) v).out.length ≤ 40 := by
      have e1 := out_len (Eg ws m) v (stt pp)
      have e2 := nL_le v
      have e3 : (stt pp).out.length = 0 := rfl
      omega
    generalize (penF (Eg ws m) (stt pp) v).out = L at hA hok lets lL q
    have S02 := S1.trans S2
    have hfo2 := S2 _ _ h1
    have nfl : la ≠ fo := (ne_of_none h1 n3).symm
    have Sx := S.same S2
    refine ⟨t, _, _, .ref la, rfl, rfl, SqT.of h2, at0, la, rfl, ⟨_, SqL.of hla⟩, for_list (K := K) (a := la) (xs := asL.map V.ref) (fun i σ H' => ∃ (qs : List Addr) (y6 : Option V), σ = [some (.ref p), some (.ref wa), some (.int m), some (.int ((N + ((L.take i).map fun t => nLg ws m t.2.2.2).sum : Nat) : Int)), some (.ref pn), some (.ref fo), y6] ∧
        Same H H' ∧ H' fo = some (.lst (qs.map V.ref)) ∧ Parts H' qs (partsL ws m N (L.take i)) ∧ H' la = some (.lst (asL.map V.ref)) ∧ Strs H' asL L ∧ H' p = some (.ins C a.dx (sfl a.pw a.pq a.rs a.re a.rb)) ∧ H' a.rs = some (.lst (a.rse.map V.ref)) ∧ H' ds = some (.dK kd))
      ⟨[], none, by rw [List.take_zero, List.map_nil, List.sum_nil, Nat.add_zero]; rfl, S02, hfo2, .nil, hla, hA, Sx.ob, Sx.ks, S2 _ _ d2⟩ (fun i σ H' _ ⟨_, _, _, _, _, _, z, _⟩ => SqL.of z) ?_ ?_⟩
    · rintro i x σ H3 hx ⟨qs, y6, rfl, S3, hfo, hP, hla3, hA3, hob, hks, hds⟩
      obtain ⟨sa, s, rfl, hs, hst⟩ := stk_get hA3 hx
      have hi : i < L.length := (List.getElem?_eq_some_iff.mp hs).1
      have lP := hP.length
      have lq : qs.length = i := by
        rw [lP]
        show ((numb ws m N (L.take i)).map _).length = i
        rw [List.length_map, numb_len, List.length_take]
        omega
      refine ⟨_, rfl, .inl ⟨rfl, _, SqL.of hfo⟩, _, rfl, _, rfl, _, rfl, szl 3, fun H4 ta S4 n4 h4 => ⟨fo, _, _, rfl, rfl, S4 _ _ hfo, ?_, ?_⟩⟩
      · rw [List.length_map, sizeLine_eq]; omega
      have nfo : H fo = none := n1
      have S34 := S3.trans S4
      have U : Same H (upd H4 fo (.lst (qs.map V.ref ++ [V.ref ta]))) := sPut S34 nfo
      have T5 : TupS H4 (upd H4 fo (.lst (qs.map V.ref ++ [V.ref ta]))) := TupS.refl.lst (S4 _ _ hfo)
      have hob5 : (upd H4 fo (.lst (qs.map V.ref ++ [V.ref ta]))) p = some (.ins C a.dx (sfl a.pw a.pq a.rs a.re a.rb)) := by
        rw [upd_ne (ne_of (S4 _ _ hob) (S4 _ _ hfo) (by intro z; cases z))]; exact S4 _ _ hob
      have hks5 : (upd H4 fo (.lst (qs.map V.ref ++ [V.ref ta]))) a.rs = some (.lst (a.rse.map V.ref)) := U _ _ hS.ks
      have hds5 : (upd H4 fo (.lst (qs.map V.ref ++ [V.ref ta]))) ds = some (.dK kd) := by
        rw [upd_ne (ne_of (S4 _ _ hds) (S4 _ _ hfo) (by intro z; cases z))]; exact S4 _ _ hds
      have hst5 := T5.1 _ _ (S4 _ _ hst)
      have hta5 := T5.1 _ _ h4
      have hfo5 : (upd H4 fo (.lst (qs.map V.ref ++ [V.ref ta]))) fo = some (.lst (qs.map V.ref ++ [V.ref ta])) := upd_same
      have hla5 : (upd H4 fo (.lst (qs.map V.ref ++ [V.ref ta]))) la = some (.lst (asL.map V.ref)) := by rw [upd_ne nfl]; exact S4 _ _ hla3
      have hP5 := (hP.keep (.of S4)).keep T5
      have hA5 := (hA3.keep (.of S4)).keep T5
      generalize upd H4 fo (.lst (qs.map V.ref ++ [V.ref ta])) = H5 at U hob5 hks5 hds5 hst5 hta5 hfo5 hla5 hP5 hA5 ⊢
      have scl := lets s (List.mem_of_getElem? hs)
      refine ⟨_, rfl, _, rfl, p, C, a.dx, _, _, rfl, hob5, T.cl, T.nK, sfl_k, _, rfl, a.rs, _, _, .ref ds, rfl, rfl, SqL.of hks5, atI_nat (by rw [List.getElem?_map, d1]; rfl), _, rfl, sa, _, _, _, rfl, rfl, SqT.of hst5, at3, ds, .int (nLg ws m s.2.2.2 : Nat), rfl, by rw [← (d3 _ scl : valV kd (.inl (s.2.2.2 : Int)) = _)]; exact DGet.k (k := Sum.inl (s.2.2.2 : Int)) hds5, _, _, rfl, rfl, ?_⟩
      refine ⟨qs ++ [ta], some (.ref sa), ?_, U, by rw [hfo5, List.map_append]; rfl, ?_, hla5, hA5, hob5, hks5, hds5⟩
      · rw [take_more hs, List.map_append, List.sum_append]
        have e : (([s] : List Stk).map fun t => nLg ws m t.2.2.2).sum = nLg ws m s.2.2.2 := by simp
        rw [e]
        have e2 : ((N + ((L.take i).map fun t => nLg ws m t.2.2.2).sum : Nat) : Int) + (nLg ws m s.2.2.2 : Nat) = ((N + (((L.take i).map fun t => nLg ws m t.2.2.2).sum + nLg ws m s.2.2.2) : Nat) : Int) := by omega
        rw [← e2]
        rfl
      · rw [take_more hs]
        unfold partsL
        rw [numb_app, List.map_append]
        exact Paired.snoc hP5 ⟨sa, hta5, hst5⟩
    · rintro σ H3 ⟨qs, y6, rfl, S3, hfo, hP, _, _, _, _, _⟩
      rw [List.length_map, hA.length, List.take_length] at hP
      refine ⟨_, rfl, .inl ⟨rfl, _, SqL.of hfo⟩, fo, _, rfl, rfl, hfo, ?_⟩
      have T5 : TupS H3 (upd H3 fo (.lst (qs.map V.ref).reverse)) := TupS.refl.lst hfo
      refine ⟨_, rfl, q _ fo qs.reverse (sPut S3 n1) n1 (by rw [upd_same, List.map_reverse]) (Paired.rev (hP.keep T5))⟩
theorem ok_reaches {f : Addr} {fd : FuncData} {k : Nat} {C : Addr} (T : SkTxt K C) (F : Fun K "reaches" "Seeker.reaches" s_Seeker_reaches f fd) (GM : Got P w K mg base "move_box" k ["box", "x", "y", "heading"] (spMove K)) : FnOk P w K mg base CX0 (k + 1) f fd ["self", "level", "path", "corner", "end"] (spReach K C) := by
  refine F.ok sc_Seeker_reaches (fun vs H Q E h => ?_) (fun cdv A outer s H vs Q E hr h => ?_)
  · obtain ⟨p, t, ca, ea, a, ws, st, n, cl, m, s, c, e, rfl, _⟩ := h
    rfl
  · obtain ⟨p, t, ca, ea, a, ws, st, n, cl, m, sk, c, e, rfl, hS, hm, ht, hh, hcl, hca, hea, q⟩ := h
    have nd := sc_Seeker_reaches.nd
    refine ⟨_, pss_cons (ps_asg (pv 2) (pg_tup (by rfl) (pgs_cons (pg_name (i := 5) nd rfl (.inl rfl)) (pgs_cons (pg_name (i := 6) nd rfl (.inl rfl)) (pgs_cons (pg_name (i := 7) nd rfl (.inl rfl)) (pgs_cons (pg_name (i := 8) nd rfl (.inl rfl)) pgs_nil))))))
      (pss_cons (ps_asg (pcall GM hr (pa_cons (pe_dget (hu_of hr) (pix (pe_fld (pv 0) rfl) (pv 1)) (pv 8) (fun _ _ => rfl)) (pa_cons (pv 5) (pa_cons (pv 6) (pa_cons (pv 7) pa_nil))))) (pg_tup (by rfl) (pgs_cons (pg_name (i := 9) nd rfl (.inl rfl)) (pgs_cons (pg_name (i := 10) nd rfl (.inl rfl)) (pgs_cons (pg_name (i := 11) nd rfl (.inl rfl)) (pgs_cons (pg_name (i := 12) nd rfl (.inl rfl)) pgs_nil))))))
      (pss_one (ps_ret (pe_and (pe_cmpR op_le (pv 9) (pixT (pv 4) pe_int) (nomark _)) (pe_and (pe_cmpR op_ge (pv 11) (pixT (pv 3) pe_int) (nomark _)) (pe_and (pe_cmpR op_le (pv 10) (pixT (pv 4) pe_int) (nomark _)) (pe_one (pe_cmpR op_ge (pv 12) (pixT (pv 3) pe_int) (nomark _))))))))), ?_⟩
    obtain ⟨db, kb, a1, a2, a3⟩ := hS.br.2 m hm
    obtain ⟨ta, b1, b2, b3⟩ := a3 _ hcl
    refine ⟨_, rfl, t, _, rfl, SqT.of ht, rfl, _, _, rfl, _, _, rfl, _, _, rfl, _, _, rfl, rfl, ?_⟩
    refine ⟨_, rfl, p, C, a.dx, _, _, rfl, hS.ob, T.cl, T.nB, sfl_b, _, rfl, a.rb, _, _, .ref db, rfl, rfl, SqL.of hS.bs, atI_nat (by rw [List.getElem?_map, a1]; rfl), _, rfl, db, .ref ta, rfl, by rw [← b1]; exact DGet.k (k := Sum.inl (sk.2.2.2 : Int)) a2, _, rfl, _, rfl, _, rfl, ta, Bg ws m sk.2.2.2, plS sk, rfl, b2, hh.1, hh.2, fun H1 tm S1 n1 h1 => ?_⟩
    refine ⟨tm, _, rfl, SqT.of h1, rfl, _, _, rfl, _, _, rfl, _, _, rfl, _, _, rfl, rfl, ?_⟩
    have q := q H1 S1 b3
    unfold meets at q
    generalize mvB (plS sk) (Bg ws m sk.2.2.2) = b at q h1 ⊢
    have hca1 := sTup S1 hca
    have hea1 := sTup S1 hea
    refine ⟨_, rfl, _, rfl, ea, _, _, _, rfl, rfl, hea1, at0, _, _, rfl, rfl, _, rfl, ?_⟩
    by_cases z1 : b.1 ≤ e.1
    · rw [decide_eq_true z1]
      refine iteT ⟨_, rfl, _, rfl, ca, _, _, _, rfl, rfl, hca1, at0, _, _, rfl, rfl, _, rfl, ?_⟩
      by_cases z2 : c.1 ≤ b.2.2.1
      · rw [decide_eq_true z2]
        refine iteT ⟨_, rfl, _, rfl, ea, _, _, _, rfl, rfl, hea1, at1, _, _, rfl, rfl, _, rfl, ?_⟩
        by_cases z3 : b.2.1 ≤ e.2
        · rw [decide_eq_true z3]
          refine iteT ⟨_, rfl, _, rfl, ca, _, _, _, rfl, rfl, hca1, at1, _, _, rfl, rfl, ?_⟩
          have ee : decide (b.1 ≤ e.1 ∧ c.1 ≤ b.2.2.1 ∧ b.2.1 ≤ e.2 ∧ c.2 ≤ b.2.2.2) = decide (c.2 ≤ b.2.2.2) := decide_eq_decide.mpr ⟨fun h => h.2.2.2, fun h => ⟨z1, z2, z3, h⟩⟩
          rw [ee] at q
          exact q
        · rw [decide_eq_false z3]
          rw [decide_eq_false (fun h => z3 h.2.2.1)] at q
          exact iteF q
      · rw [decide_eq_false z2]
        rw [decide_eq_false (fun h => z2 h.2.1)] at q
        exact iteF q
    · rw [decide_eq_false z1]
      rw [decide_eq_false (fun h => z1 h.1)] at q
      exact iteF q
end
end SK
namespace SK
open PySem PySem.Spec PyProof.Rows L2
/-- the way out: an error of the class at C that tells the number -/
def ErrN (C : Addr) (n : Int) (H : Hp) (E : XK) : Prop := ∀ (H' : Hp) (d : Addr), Same H H' → H d = none → H' d = some (.xd [(("most" : Str), .int n)]) → E (.ref C) (some d) H'
theorem ErrN.keep {C : Addr} {n : Int} {H H' : Hp} {E : XK} (s : Same H H') (h : ErrN C n H E) : ErrN C n H' E := fun H2 d s2 n e => h H2 d (s.trans s2) (s.free n) e
end SK
/-! defs that may raise -/
namespace SK
open PySem PySem.Spec PyProof.Rows L2
/-- a def that may raise -/
structure GotX (P : Program) (w : World) (K : PySem.W.Frag) (mg : Str → Option Value) (base : Heap) (x : Str) (k : Nat) (ps : List Str) (sp : Sp) : Prop where
  ex : ∃ (f : Addr) (fd : FuncData), FnOk P w K mg base (L2.CX P w) k f fd ps sp ∧ mg x = some (.ref f) ∧ PySem.W.keepIn K (.ref f) = true ∧ Binds K fd ps []
theorem pcallX {X : Cx} {W : WX} {x : Str} {k : Nat} {ps : List Str} {sp : Sp} {e : Expr} {es : List Expr} {t : TA} {p pos : Pos} (G : GotX X.prog X.w X.K X.mg X.base x k ps sp) (hr : Room k X.A) (tk : Takes X W) (ha : PA X (e :: es) t) (hg : Gl X x := by rfl)
    (hdb : (x == ("__debug__" : Str)) = false := by decide)
    (he : starEach (e :: es) X.env = (false, eval e X.env) :: starEach es X.env := by rfl) (hpl : (backTo pos (starEach es X.env)).any (·.1) = false := by rfl) : PE X (.Call (.Name x p) (e :: es) [] pos) (tCallS sp (WE W) t) := by
  obtain ⟨f, fd, F, a, b, c⟩ := G.ex
  exact pe_callS F hr hg a b c (fun σ => passAt tk σ) ha hdb he hpl
theorem GotX.mono {P : Program} {w : World} {K : PySem.W.Frag} {mg : Str → Option Value} {base : Heap} {x : Str} {j k : Nat} {ps : List Str} {sp : Sp} (g : GotX P w K mg base x j ps sp) (h : j ≤ k) : GotX P w K mg base x k ps sp := by
  obtain ⟨f, fd, F, a, b, c⟩ := g.ex
  exact ⟨f, fd, F.mono h, a, b, c⟩
/-- .. and lets nothing out -/
theorem GotX.cool {P : Program} {w : World} {K : PySem.W.Frag} {mg : Str → Option Value} {base : Heap} {x : Str} {k : Nat} {ps : List Str} {sp sp0 : Sp} (g : GotX P w K mg base x k ps sp) (h : ∀ vs H Q E, sp0 vs H Q E → sp vs H Q E0) : Got P w K mg base x k ps sp0 := by
  obtain ⟨f, fd, F, a, b, c⟩ := g.ex
  exact ⟨f, fd, SK.cool F h, a, b, c⟩
end SK
/-! what is known of defs that may raise, of methods, of the making of instances -/
namespace SK
open PySem PySem.Spec PyProof.Rows L2
/-- a method of a class of the module -/
structure GotM (P : Program) (w : World) (K : PySem.W.Frag) (mg : Str → Option Value) (base : Heap) (CX : CXT) (C : Addr) (m : Str) (k : Nat) (ps : List Str) (sp : Sp) : Prop where
  ex : ∃ (f : Addr) (fd : FuncData), FnOk P w K mg base CX k f fd ps sp ∧ Meth K C m f ∧ Binds K fd ps []
theorem pmeth {X : Cx} {C : Addr} {m : Str} {k : Nat} {ps : List Str} {sp : Sp} {e o : Expr} {es : List Expr} {ta : TE} {t : TA} {pos apos : Pos} {pl : Sem Bool} (G : GotM X.prog X.w X.K X.mg X.base CX0 C m k ps sp) (hr : Room k X.A) (c : Cls X.K C) (he : PE X o ta) (ha : PA X (e :: es) t)
    (hst : starEach (e :: es) X.env = (false, eval e X.env) :: starEach es X.env := by rfl) (hpl : (backTo pos (starEach es X.env)).any (·.1) = false := by rfl)
    (ht : eval (.Call (.Attribute o m apos) (e :: es) [] pos) X.env = (do
      let ov ← eval o X.env
      standAt apos.atName
      let (f, first) ← holding [ov] (getMethod ov m pl)
      callWith pos f first (backTo pos (starEach (e :: es) X.env)) (backToKw pos (keywordEach [] X.env))) := by rfl) :
    PE X (.Call (.Attribute o m apos) (e :: es) [] pos) (tMeth C m sp [] E0 ta t) := by
  obtain ⟨f, fd, F, hm, b⟩ := G.ex
  exact pe_meth he c hm F hr b .nil pass0 ha hst hpl ht
theorem GotM.mono {P : Program} {w : World} {K : PySem.W.Frag} {mg : Str → Option Value} {base : Heap} {CX : CXT} {C : Addr} {m : Str} {j k : Nat} {ps : List Str} {sp : Sp} (g : GotM P w K mg base CX C m j ps sp) (h : j ≤ k) : GotM P w K mg base CX C m k ps sp := by
  obtain ⟨f, fd, F, a, b⟩ := g.ex
  exact ⟨f, fd, F.mono h, a, b⟩
theorem pmethX {X : Cx} {C : Addr} {m : Str} {k : Nat} {ps : List Str} {sp : Sp} {e o : Expr} {es : List Expr} {ta : TE} {t : TA} {pos apos : Pos} {pl : Sem Bool} {W : WX} {E : XK} (G : GotM X.prog X.w X.K X.mg X.base (L2.CX X.prog X.w) C m k ps sp) (hr : Room k X.A) (c : Cls X.K C) (tk : Takes X W) (hW : ∀ cls d σ H, E cls d H → W cls d σ H) (he : PE X o ta) (ha : PA X (e :: es) t)
    (hst : starEach (e :: es) X.env = (false, eval e X.env) :: starEach es X.env := by rfl) (hpl : (backTo pos (starEach es X.env)).any (·.1) = false := by rfl)
    (ht : eval (.Call (.Attribute o m apos) (e :: es) [] pos) X.env = (do
      let ov ← eval o X.env
      standAt apos.atName
      let (f, first) ← holding [ov] (getMethod ov m pl)
      callWith pos f first (backTo pos (starEach (e :: es) X.env)) (backToKw pos (keywordEach [] X.env))) := by rfl) :
    PE X (.Call (.Attribute o m apos) (e :: es) [] pos) (tMeth C m sp [] E ta t) := by
  obtain ⟨f, fd, F, hm, b⟩ := G.ex
  exact pe_meth he c hm F hr b .nil (passes_call tk hW) ha hst hpl ht
/-- the making of a class of the module -/
structure GotC (P : Program) (w : World) (K : PySem.W.Frag) (mg : Str → Option Value) (base : Heap) (x : Str) (C : Addr) (k : Nat) (ps : List Str) (sp : Sp) : Prop where
  gC : mg x = some (.ref C)
  ex : ∃ (f : Addr) (fd : FuncData), Mk K C f ∧ FnOk P w K mg base CX0 k f fd ps sp ∧ Binds K fd ps []
theorem GotC.mono {P : Program} {w : World} {K : PySem.W.Frag} {mg : Str → Option Value} {base : Heap} {x : Str} {C : Addr} {j k : Nat} {ps : List Str} {sp : Sp} (g : GotC P w K mg base x C j ps sp) (h : j ≤ k) : GotC P w K mg base x C k ps sp := by
  obtain ⟨f, fd, M, F, b⟩ := g.ex
  exact ⟨g.gC, f, fd, M, F.mono h, b⟩
theorem pmake {X : Cx} {C : Addr} {x : Str} {k : Nat} {ps : List Str} {sp : Sp} {e : Expr} {es : List Expr} {t : TA} {p pos : Pos} (G : GotC X.prog X.w X.K X.mg X.base x C k ps sp) (hr : Room (k + 1) X.A) (ha : PA X (e :: es) t) (hg : Gl X x := by rfl) (hdb : (x == ("__debug__" : Str)) = false := by decide)
    (he : starEach (e :: es) X.env = (false, eval e X.env) :: starEach es X.env := by rfl) (hpl : (backTo pos (starEach es X.env)).any (·.1) = false := by rfl) : PE X (.Call (.Name x p) (e :: es) [] pos) (tMake C sp [] E0 t) := by
  obtain ⟨f, fd, M, F, b⟩ := G.ex
  exact pe_make M F hr hg G.gC b .nil pass0 ha hdb he hpl
end SK
namespace SK
open PySem PySem.Spec PyProof.Rows L2
theorem Paired.unsnoc {α β : Type} {F : α → β → Prop} : ∀ {as : List α} {bs : List β} {b : β}, Paired F as (bs ++ [b]) → ∃ as' a, as = as' ++ [a] ∧ Paired F as' bs ∧ F a b
  | _, [], _, .cons r .nil => ⟨[], _, rfl, .nil, r⟩
  | _, c :: bs, b, .cons r t => by
    obtain ⟨as', a, rfl, h1, h2⟩ := Paired.unsnoc t
    exact ⟨_ :: as', a, rfl, .cons r h1, h2⟩
theorem Paired.app {α β : Type} {F : α → β → Prop} : ∀ {as as' : List α} {bs bs' : List β}, Paired F as bs → Paired F as' bs' → Paired F (as ++ as') (bs ++ bs')
  | _, _, _, _, .nil, h => h
  | _, _, _, _, .cons r t, h => .cons r (Paired.app t h)
def Found (H : Hp) (as : List Addr) (F : List NS) : Prop := Paired (fun a x => H a = some (.tup (.int (x.1 : Nat) :: stV x.2))) as F
theorem Found.keep {H H' : Hp} {as : List Addr} {F : List NS} (t : TupS H H') (h : Found H as F) : Found H' as F := Paired.mono (fun a q e => t.1 _ _ e) h
def hitsL (ws : List (List Sy)) (st : List Sy) (a : Nat) (c e : Pt) : List NS := (numS 0 (strokes (grown ws st a))).filter fun x => hit c e x.2
def spSeekX (K : PySem.W.Frag) (C CT : Addr) : Sp := fun vs H Q E => ∃ (p ca ea : Addr) (A : SkA) (ws : List (List Sy)) (st : List Sy) (n : Nat) (cl : List Nat) (a : Nat) (c e : Pt), vs = [.ref p, .int a, .ref ca, .ref ea] ∧ SkAt K C H p A ws st n cl ∧ GoodBook ws st ∧ Closed ws cl ∧ (∀ k, Sy.l k ∈ st → k ∈ cl) ∧ a ≤ n ∧
  SqT K H ca [.int c.1, .int c.2] ∧ SqT K H ea [.int e.1, .int e.2] ∧
  (∀ (H' : Hp) (l : Addr) (as : List Addr), Same H H' → H l = none → H' l = some (.lst (as.map V.ref)) → Found H' as (hitsL ws st a c e) → (hitsL ws st a c e).length ≤ 100000 → Q (.ref l) H') ∧ (100000 < wsum (tree ws a) st → ErrN CT 100000 H E)
def PartOk (a : Nat) (cl : List Nat) (q : Part) : Prop := q.1 ≤ a ∧ q.2.2.2.2.2 ∈ cl ∧ 0 ≤ q.2.2.2.2.1 ∧ q.2.2.2.2.1 < 4
theorem parts_ok {ws : List (List Sy)} {a m N : Nat} {cl : List Nat} {v : List Sy} {pp : Plc} (hm : m ≤ a) (hv : ∀ k, Sy.l k ∈ v → k ∈ cl) (hp : 0 ≤ pp.2.2 ∧ pp.2.2 < 4) : ∀ q ∈ partsL ws m N (penF (Eg ws m) (stt pp) v).out, PartOk a cl q := by
  intro q hq
  obtain ⟨x, hx, rfl⟩ := List.mem_map.mp hq
  have hx := numb_mem hx
  have h1 := (hok_run (E := Eg ws m) v (hok_stt (p := pp) hp)).out _ hx
  refine ⟨hm, ?_, h1.1, h1.2⟩
  rcases let_pen v (stt pp) _ hx with h | h
  · cases h
  · exact hv _ h
theorem parts_len {ws : List (List Sy)} {m N : Nat} {v : List Sy} {pp : Plc} (hv : v.length ≤ 40) : (partsL ws m N (penF (Eg ws m) (stt pp) v).out).length ≤ 40 := by
  unfold partsL
  rw [List.length_map, numb_len, out_len]
  have := nL_le v
  show 0 + nL v ≤ 40
  omega
def looksOf : L2.St → Nat := fun σ => match σ[6]? with
  | some (some (V.int l)) => (100000 - l).toNat
  | _ => 0
section
variable {P : Program} {w : World} {K : PySem.W.Frag} {mg : Str → Option Value} {base : Heap}
theorem ok_seek {f : Addr} {fd : FuncData} {k : Nat} {C CT fI : Addr} {tL : Tok} (TT : TmTxt P K mg CT fI) (T : SkTxt K C) (F : Fun K "seek" "Seeker.seek" s_Seeker_seek f fd) (GP : GotM P w K mg base CX0 C "parts" k ["self", "word", "level", "number", "pen"] (spParts K C))
    (GR : GotM P w K mg base CX0 C "reaches" k ["self", "level", "path", "corner", "end"] (spReach K C)) (mL : mg "MOST_LOOKS" = some (.int 100000 tL)) : FnOk P w K mg base (L2.CX P w) (k + 1) f fd ["self", "age", "corner", "end"] (spSeekX K C CT) := by
  refine F.okX sc_Seeker_seek (fun vs H Q E h => ?_) (fun cdv A outer s H vs Q E hr h => ?_)
  · obtain ⟨p, ca, ea, A, ws, st, n, cl, a, c, e, rfl, _⟩ := h
    rfl
  · obtain ⟨p, ca, ea, A, ws, st, n, cl, a, c, e, rfl, hS, hg, hC, hst, ha, hca, hea, q1, q2⟩ := h
    have nd := sc_Seeker_seek.nd
    refine ⟨_, pss_cons (ps_set (i := 4) nd rfl (.inl rfl) (plstN pa_nil))
      (pss_cons (ps_if (PW.pt (pw_or (pt_cmpR op_gt (pixT (pv 2) pe_int) (pixT (pv 3) pe_int) (nomark _)) (pw_or1 (pt_cmpR op_gt (pixT (pv 2) pe_int) (pixT (pv 3) pe_int) (nomark _))))) (pss_one (ps_ret (pv 4))) pss_nil)
      (pss_cons (ps_set (i := 5) nd rfl (.inl rfl) (pmeth GP hr T.cl (pv 0) (pa_cons (pe_fld (pv 0) rfl) (pa_cons (pv 1) (pa_cons pe_int (pa_cons (ptupN (pa_cons pe_int (pa_cons pe_int (pa_cons pe_int pa_nil)))) pa_nil))))))
      (pss_cons (ps_set (i := 6) nd rfl (.inl rfl) pe_int)
      (pss_cons (ps_while (passes_of rfl) (pt_truth (pv 5) (by intro _; rfl))
        (pss_cons (ps_asg (pe_bm0 PySem.F.plainAttrs_list PySem.F.slot_list_pop PySem.F.type_list_pop mt_pop (pv 5)) (pg_tup (by rfl) (pgs_cons (pg_name (i := 7) nd rfl (.inl rfl)) (pgs_cons (pg_name (i := 8) nd rfl (.inl rfl)) (pgs_cons (pg_name (i := 9) nd rfl (.inl rfl)) pgs_nil)))))
        (pss_cons (ps_aug (i := 6) nd rfl (.inl rfl) pe_int ip_add)
        (pss_cons (ps_if (pt_cmpR op_gt (pv 6) (pe_glob (v := .int 100000) rfl mL ⟨_, rfl⟩) (nomark _)) (pss_one (ps_raiseTm rfl TT hr (takes_of rfl rfl rfl rfl) (by exact (pa_cons (pe_glob (v := .int 100000) rfl mL ⟨_, rfl⟩) pa_nil)))) pss_nil)
        (pss_cons (ps_if (pt_not (pt_val (pmeth GR hr T.cl (pv 0) (pa_cons (pv 7) (pa_cons (pv 9) (pa_cons (pv 2) (pa_cons (pv 3) pa_nil))))))) (pss_one ps_continue) pss_nil)
        (pss_one (ps_if (pt_cmpR op_eq (pv 7) pe_int (nomark _)) (pss_one (sapp (pv 4) (ptupN (pa_cons (pv 8) (StX.pa_star (pv 9) pa_nil)))))
          (pss_one (ps_expr (pe_bm PySem.F.plainAttrs_list PySem.F.slot_list_extend PySem.F.type_list_extend mt_extend (pv 5) (pa_cons (pmeth GP hr T.cl (pv 0) (pa_cons (pixT (pe_fld (pv 0) rfl) (pixT (pv 9) pe_int)) (pa_cons (psub (pv 7) pe_int) (pa_cons (pv 8) (pa_cons (pe_slice sl_tupN (pv 9) po_none (po_some pe_int)) pa_nil))))) pa_nil)))))))))))
      (pss_one (ps_ret (pv 4))))))), ?_⟩
    refine ⟨szl 0, fun H1 fo S1 n1 h1 => ?_⟩
    have hca1 := sTup S1 hca
    have hea1 := sTup S1 hea
    have none_of : ¬ (c.1 ≤ e.1 ∧ c.2 ≤ e.2) → hitsL ws st a c e = [] := fun z => by
      unfold hitsL
      rw [List.filter_eq_nil_iff]
      intro x _ y
      unfold hit inW at y
      rw [Bool.or_eq_true, decide_eq_true_iff, decide_eq_true_iff] at y
      omega
    refine ⟨_, rfl, ca, _, _, _, rfl, rfl, hca1, at0, _, rfl, ea, _, _, _, rfl, rfl, hea1, at0, _, _, rfl, rfl, _, rfl, ?_⟩
    by_cases z1 : e.1 < c.1
    · rw [decide_eq_true z1]
      exact iteT ⟨_, rfl, q1 H1 fo [] S1 n1 h1 (by rw [none_of (by omega)]; exact .nil) (by rw [none_of (by omega)]; exact Nat.zero_le _)⟩
    rw [decide_eq_false z1]
    refine iteF ⟨_, rfl, ca, _, _, _, rfl, rfl, hca1, at1, _, rfl, ea, _, _, _, rfl, rfl, hea1, at1, _, _, rfl, rfl, _, rfl, ?_⟩
    by_cases z2 : e.2 < c.2
    · rw [decide_eq_true z2]
      exact iteT ⟨_, rfl, q1 H1 fo [] S1 n1 h1 (by rw [none_of (by omega)]; exact .nil) (by rw [none_of (by omega)]; exact Nat.zero_le _)⟩
    rw [decide_eq_false z2]
    refine iteF ?_
    have hS1 := hS.same S1
    have sn : nest st 0 ≠ none := by rw [hg.start.nst]; exact (fun z => nomatch z)
    refine ⟨_, rfl, p, A.dx, _, rfl, hS1.ob, sfl_no (by decide +kernel) (by decide +kernel) (by decide +kernel) (by decide +kernel) (by decide +kernel), _, rfl, p, C, A.dx, _, _, rfl, hS1.ob, T.cl, T.nS, sfl_s, _, rfl, szl 3, fun H2 pn S2 n2 h2 => ?_⟩
    have S02 := S1.trans S2
    refine ⟨p, A.pq, pn, A, ws, st, n, cl, a, 0, st, (0, 0, 0), rfl, hS.same S02, (hS.same S02).s, hst, sn, hg.start.len, ha, SqT.of h2, by decide, by decide, fun H3 wo qs0 S3 n3 hwo hP0 => ?_⟩
    have S03 := S02.trans S3
    have nfo : H fo = none := n1
    have nwo : H wo = none := S02.free n3
    have hfo3 := S3 _ _ (S2 _ _ h1)
    have nfw : fo ≠ wo := ne_of_none (S2 _ _ h1) n3
    dsimp only [gName, tSeq, tAsg, tC]
    refine while_by (fun σ H' => ∃ (fs : List Addr) (Fd : List NS) (qs : List Addr) (W : List Part) (looks : Nat) (y7 y8 y9 : Option V), σ = [some (.ref p), some (.int a), some (.ref ca), some (.ref ea), some (.ref fo), some (.ref wo), some (.int looks), y7, y8, y9] ∧ looks ≤ 100000 ∧ Same H H' ∧
        H' fo = some (.lst (fs.map V.ref)) ∧ Found H' fs Fd ∧ H' wo = some (.lst (qs.map V.ref)) ∧ Parts H' qs W ∧ SeekI ws c e (hitsL ws st a c e) (wsum (tree ws a) st) Fd W looks ∧ (∀ q ∈ W, PartOk a cl q) ∧ W.length ≤ 40 + 40 * looks ∧ Fd.length ≤ looks)
      (fun σ _ => looksOf σ) ⟨[], [], qs0, _, 0, none, none, none, rfl, by decide, S03, hfo3, .nil, hwo, hP0, ⟨?_, ?_⟩, ?_, ?_, Nat.le_refl _⟩ ?_ (fun σ H Q Q' h ⟨x, e, k, t, q⟩ => ⟨x, e, k, t, h _ _ q⟩)
    · rw [List.nil_append, List.reverse_reverse, flat_all hg]
      rfl
    · rw [costs_rev, costs_parts, sum_out]
      show 0 + (0 + _) ≤ _
      omega
    · intro q hq
      exact parts_ok (Nat.le_refl a) hst ⟨by decide, by decide⟩ q (List.mem_reverse.mp hq)
    · rw [List.length_reverse]
      exact Nat.le_trans (parts_len hg.start.len) (by omega)
    · rintro σ H4 ⟨fs, Fd, qs, W, looks, y7, y8, y9, rfl, hlk, S4, hfo, hF, hwo, hP, hI, hO, hW, hFl⟩
      have lP := hP.length
      rcases List.eq_nil_or_concat W with rfl | ⟨W', q, rfl⟩
      · have : qs = [] := by cases qs with
          | nil => rfl
          | cons => simp at lP
        subst this
        refine ⟨_, rfl, false, .inl ⟨_, SqL.of hwo, rfl⟩, iteF ⟨_, rfl, ?_⟩⟩
        have e1 := hI.eq
        rw [List.reverse_nil, List.flatMap_nil, List.filter_nil, List.append_nil] at e1
        rw [e1] at hF hFl
        exact q1 H4 fo fs S4 nfo hfo hF (by omega)
      · rw [List.concat_eq_append] at hP hI hO hW lP
        obtain ⟨qs', qa, rfl, hP', t, hq1, hq2⟩ := Paired.unsnoc hP
        obtain ⟨m, N, sk⟩ := q
        have ok : PartOk a cl (m, N, sk) := hO _ (List.mem_append_right _ (List.mem_singleton.mpr rfl))
        obtain ⟨ok1, ok2, ok3⟩ := ok
        refine ⟨_, rfl, true, .inl ⟨_, SqL.of hwo, by rw [List.map_append]; cases qs' <;> rfl⟩, iteT ?_⟩
        refine ⟨_, rfl, .inl ⟨rfl, _, SqL.of hwo⟩, wo, _, .ref qa, rfl, rfl, hwo, ?_, ?_⟩
        · rw [List.map_append, List.length_append, List.length_map]
          show ((qs'.map V.ref) ++ [V.ref qa])[qs'.length + 1 - 1]? = _
          rw [Nat.add_sub_cancel, List.getElem?_append_right (by rw [List.length_map]; exact Nat.le_refl _), List.length_map, Nat.sub_self]
          rfl
        have edl : ((qs' ++ [qa]).map V.ref).dropLast = qs'.map V.ref := by rw [List.map_append]; exact List.dropLast_concat
        rw [edl]
        have S5 : Same H (upd H4 wo (.lst (qs'.map V.ref))) := sPut S4 nwo
        have T5 : TupS H4 (upd H4 wo (.lst (qs'.map V.ref))) := TupS.refl.lst hwo
        have hfo5 : (upd H4 wo (.lst (qs'.map V.ref))) fo = some (.lst (fs.map V.ref)) := by rw [upd_ne nfw]; exact hfo
        have hwo5 : (upd H4 wo (.lst (qs'.map V.ref))) wo = some (.lst (qs'.map V.ref)) := upd_same
        have hF5 := hF.keep T5
        have hP5 := Parts.keep T5 hP'
        have hq15 := T5.1 _ _ hq1
        have hq25 := T5.1 _ _ hq2
        generalize upd H4 wo (.lst (qs'.map V.ref)) = H5 at S5 T5 hfo5 hwo5 hF5 hP5 hq15 hq25 ⊢
        refine ⟨qa, _, rfl, SqT.of hq15, rfl, _, _, rfl, _, _, rfl, _, _, rfl, rfl, ?_⟩
        obtain ⟨_, p2, _⟩ := hI.pop
        refine ⟨_, rfl, _, _, rfl, rfl, ?_⟩
        have el : ((looks : Nat) : Int) + 1 = ((looks + 1 : Nat) : Int) := by omega
        dsimp only
        rw [el]
        refine ⟨_, rfl, _, _, rfl, rfl, _, rfl, ?_⟩
        by_cases zl : (100000 : Int) < ((looks + 1 : Nat) : Int)
        · rw [decide_eq_true zl]
          refine iteT ⟨100000, rfl, by decide +kernel, by rw [sizeLine_eq]; decide +kernel, fun d hd => ?_⟩
          exact q2 (by omega) _ d (sUpd S5 hd) (S5.free hd) upd_same
        rw [decide_eq_false zl]
        refine iteF ?_
        have hS5 := hS.same S5
        refine ⟨_, rfl, p, A.dx, _, rfl, hS5.ob, sfl_no (by decide +kernel) (by decide +kernel) (by decide +kernel) (by decide +kernel) (by decide +kernel), _, rfl, _, rfl, _, rfl, _, rfl, p, t, ca, ea, A, ws, st, n, cl, m, sk, c, e, rfl, hS5, by omega, hq25, ok3, ok2, sTup S5 hca, sTup S5 hea, fun H6 S6 hb => ⟨_, rfl, ?_⟩⟩
        have S06 := S5.trans S6
        have mu : looksOf [some (V.ref p), some (.int a), some (.ref ca), some (.ref ea), some (.ref fo), some (.ref wo), some (.int ((looks + 1 : Nat) : Int)), some (.int m), some (.int N), some (.ref t)] < looksOf [some (V.ref p), some (.int a), some (.ref ca), some (.ref ea), some (.ref fo), some (.ref wo), some (.int looks), y7, y8, y9] := by
          show ((100000 : Int) - ((looks + 1 : Nat) : Int)).toNat < ((100000 : Int) - (looks : Int)).toNat
          omega
        rw [List.length_append, List.length_singleton] at hW
        have oW' : ∀ q ∈ W', PartOk a cl q := fun q hq => hO q (List.mem_append_left _ hq)
        cases hmt : meets (mvB (plS sk) (Bg ws m sk.2.2.2)) c e with
        | false =>
          refine iteT ⟨⟨fs, Fd, qs', W', looks + 1, _, _, _, rfl, by omega, S06, S6 _ _ hfo5, hF5.keep (.of S6), S6 _ _ hwo5, Parts.keep (.of S6) hP5, hI.miss hb hmt, oW', by omega, by omega⟩, mu⟩
        | true =>
          refine iteF ⟨_, rfl, rfl, _, rfl, ?_⟩
          by_cases z0 : m = 0
          · subst z0
            rw [Bg0] at hmt
            have hh := meets_one ok3 hmt (by omega) (by omega)
            refine itY rfl ⟨_, rfl, .inl ⟨rfl, _, SqL.of (S6 _ _ hfo5)⟩, _, rfl, _, rfl, t, _, rfl, .inl (SqT.of (S6 _ _ hq25)), szl 5, fun H7 ta S7 n7 h7 => ⟨fo, _, _, rfl, rfl, S7 _ _ (S6 _ _ hfo5), ?_, ⟨fs ++ [ta], Fd ++ [(N, sk)], qs', W', looks + 1, _, _, _, rfl, by omega, ?_, ?_, ?_, ?_, ?_, hI.found ok3 hh, oW', by omega, ?_⟩, mu⟩⟩
            · have := hF.length
              rw [List.length_map, sizeLine_eq]; omega
            · exact sPut (S06.trans S7) nfo
            · rw [upd_same, List.map_append]; rfl
            · have T8 : TupS H7 (upd H7 fo (.lst (fs.map V.ref ++ [V.ref ta]))) := TupS.refl.lst (S7 _ _ (S6 _ _ hfo5))
              refine Paired.snoc (((hF5.keep (.of S6)).keep (.of S7)).keep T8) (T8.1 _ _ ?_)
              rw [h7]
              show some (HO.tup (V.int (N : Nat) :: (stV sk ++ []))) = _
              rw [List.append_nil]
            · rw [upd_ne nfw.symm]
              exact S7 _ _ (S6 _ _ hwo5)
            · exact Parts.keep ((TupS.of S7).trans (TupS.refl.lst (S7 _ _ (S6 _ _ hfo5)))) (Parts.keep (.of S6) hP5)
            · rw [List.length_append, List.length_singleton]; omega
          · obtain ⟨m', rfl⟩ : ∃ m', m = m' + 1 := ⟨m - 1, by omega⟩
            have klt := hC.lt _ ok2
            have hS6 := hS.same S06
            obtain ⟨wa, hwa, hwt⟩ := paired_get hS6.ww (List.getElem?_eq_getElem klt)
            have ed : ws.getD sk.2.2.2 [] = ws[sk.2.2.2] := by rw [List.getD_eq_getElem?_getD, List.getElem?_eq_getElem klt]; rfl
            rw [← ed] at hwt
            have gj := getD_good hg.words klt
            have gn : nest (ws.getD sk.2.2.2 []) 0 ≠ none := by rw [gj.nst]; exact (fun z => nomatch z)
            refine itN (fun y => z0 (by injection y with y; omega)) ⟨_, rfl, .inl ⟨rfl, _, SqL.of (S6 _ _ hwo5)⟩, _, rfl, p, A.dx, _, rfl, hS6.ob, sfl_no (by decide +kernel) (by decide +kernel) (by decide +kernel) (by decide +kernel) (by decide +kernel), _, rfl, p, C, A.dx, _, _, rfl, hS6.ob, T.cl, T.nW, sfl_w,
              _, rfl, t, _, _, _, rfl, rfl, SqT.of (S6 _ _ hq25), at3, A.pw, _, _, .ref wa, rfl, rfl, SqT.of hS6.w, atI_nat (by rw [List.getElem?_map, hwa]; rfl), _, rfl, _, _, rfl, rfl, _, rfl, _, rfl, 3, rfl, t, _, rfl, SqT.of (S6 _ _ hq25), ?_, fun H7 ps S7 n7 h7 => ?_⟩
            · rintro ⟨_, z⟩
              have z : HT.sIx 4 4 (some ((3 : Nat) : Int)) = 4 := z
              rw [HT.sIx_nat] at z
              cases z
            have h7 : H7 ps = some (.tup (plV (plS sk))) := by
              rw [h7, show cutV (stV sk) none (some 3) = (stV sk).take 3 from cut_to _ 3]
              rfl
            have em : (((m' + 1 : Nat) : Int) - 1) = (m' : Int) := by omega
            dsimp only
            rw [em]
            have S07 := S06.trans S7
            refine ⟨p, wa, ps, A, ws, st, n, cl, m', N, ws.getD sk.2.2.2 [], plS sk, rfl, hS.same S07, hwt.same S7, fun k hk => hC.cl _ ok2 k hk, gn, gj.len, by omega, SqT.of h7, ok3.1, ok3.2, fun H8 l8 qs8 S8 n8 h8 hP8 => ?_⟩
            have l8 := hP8.length
            rw [List.length_reverse] at l8
            have p40 : (partsL ws m' N (penF (Eg ws m') (stt (plS sk)) (ws.getD sk.2.2.2 [])).out).length ≤ 40 := parts_len gj.len
            have lq' := hP'.length
            have hwo8 := S8 _ _ (S7 _ _ (S6 _ _ hwo5))
            refine ⟨wo, _, _, _, rfl, rfl, hwo8, h8, ?_, ⟨fs, Fd, qs' ++ qs8, _, looks + 1, _, _, _, rfl, by omega, sPut (S07.trans S8) nwo, ?_, ?_, ?_, ?_, hI.grow hg.words klt ok3, ?_, ?_, by omega⟩, mu⟩
            · rw [List.length_map, List.length_map, sizeLine_eq]; omega
            · rw [upd_ne nfw]
              exact S8 _ _ (S7 _ _ (S6 _ _ hfo5))
            · exact (((hF5.keep (.of S6)).keep (.of S7)).keep (.of S8)).keep (TupS.refl.lst hwo8)
            · rw [upd_same, List.map_append]
            · have T9 : TupS H8 (upd H8 wo (.lst (qs'.map V.ref ++ qs8.map V.ref))) := TupS.refl.lst hwo8
              exact Paired.app (Parts.keep T9 (Parts.keep (.of S8) (Parts.keep (.of S7) (Parts.keep (.of S6) hP5)))) (Parts.keep T9 hP8)
            · intro q hq
              rcases List.mem_append.mp hq with h | h
              · exact oW' q h
              · exact parts_ok (by omega) (fun k hk => hC.cl _ ok2 k hk) ok3 q (List.mem_reverse.mp h)
            · rw [List.length_append, List.length_reverse]
              refine Nat.le_trans (Nat.add_le_add_left p40 _) ?_
              omega
end
end SK
namespace SK
open PySem PySem.Spec PyProof.Rows L2
/-! ### ranges as values -/
theorem cr_range1 {X : Cx} : CallR X (.type "range") (fun vs H Q => ∃ n, vs = [V.int n] ∧ ∀ p, H p = none → Q (.ref p) (upd H p (.rng 0 n))) := by
  intro pins s σ H vs us Q I r h
  obtain ⟨n, rfl, q⟩ := h
  obtain ⟨u, rfl, t, rfl⟩ := vals1 r
  refine call_range_1 ⟨.ref s.heap.objs.size, upd H s.heap.objs.size (.rng 0 n), I.laid (t' := s.toks + 2) (fun b o e => Heap.get?_push_of_some _ e) (Nat.le_refl _) ?_, rfl, q _ (I.hok.fresh (Nat.le_refl _))⟩
  exact ⟨_, _, _, Heap.get?_push_size _ rfl⟩
/-! ### words without branches -/
theorem flat_grow {ws : List (List Sy)} (hw : ∀ w ∈ ws, ∀ s ∈ w, isB s = false) {w : List Sy} (h : ∀ s ∈ w, isB s = false) : ∀ s ∈ grow ws w, isB s = false := by
  intro s hs
  obtain ⟨x, hx, hi⟩ := List.mem_flatMap.mp hs
  cases x with
  | l k =>
    have hi : s ∈ ws.getD k [] := hi
    rw [List.getD_eq_getElem?_getD] at hi
    cases e : ws[k]? with
    | none => rw [e] at hi; cases hi
    | some w0 => rw [e] at hi; exact hw w0 (List.mem_of_getElem? e) s hi
  | p => rw [List.mem_singleton.mp hi]; rfl
  | m => rw [List.mem_singleton.mp hi]; rfl
  | o => exact absurd (h .o hx) (by decide)
  | c => exact absurd (h .c hx) (by decide)
theorem flat_grown {ws : List (List Sy)} {st : List Sy} (hw : ∀ w ∈ ws, ∀ s ∈ w, isB s = false) (hs : ∀ s ∈ st, isB s = false) : ∀ n, ∀ s ∈ grown ws st n, isB s = false
  | 0 => hs
  | n + 1 => flat_grow hw (flat_grown hw hs n)
/-- nothing begun, nothing ended -/
theorem no_close : ∀ (w : List Sy) (d e : Nat), Sy.o ∉ w → nest w d = some e → e + (w.filter fun s => s == .c).length = d
  | [], d, e, _, h => by cases h; rfl
  | s :: w, d, e, ho, h => by
    have ho' : Sy.o ∉ w := fun z => ho (List.mem_cons_of_mem _ z)
    cases s with
    | o => exact absurd List.mem_cons_self ho
    | c =>
      cases d with
      | zero => cases h
      | succ d =>
        have := no_close w d e ho' h
        have e2 : ((Sy.c :: w).filter fun s => s == .c).length = (w.filter fun s => s == .c).length + 1 := rfl
        rw [e2]
        omega
    | p => exact no_close w d e ho' h
    | m => exact no_close w d e ho' h
    | l k => exact no_close w d e ho' h
theorem flat_of {n L : Nat} {w : List Sy} (g : Good n L w) (ho : Sy.o ∉ w) : ∀ s ∈ w, isB s = false := by
  intro s hs
  have h := no_close w 0 0 ho g.nst
  cases s with
  | o => exact absurd hs ho
  | c =>
    have : Sy.c ∈ w.filter fun s => s == .c := List.mem_filter.mpr ⟨hs, rfl⟩
    have := List.length_pos_of_mem this
    omega
  | p => rfl
  | m => rfl
  | l k => rfl
/-- each stroke begins where the one ahead of it ended -/
structure Chain (p : Pen) : Prop where
  next : ∀ i s s', p.out[i]? = some s → p.out[i + 1]? = some s' → s'.1 = s.1 + (dir s.2.2.1).1 ∧ s'.2.1 = s.2.1 + (dir s.2.2.1).2
  last : ∀ s, p.out.getLast? = some s → p.x = s.1 + (dir s.2.2.1).1 ∧ p.y = s.2.1 + (dir s.2.2.1).2
theorem chain_step {p : Pen} (c : Chain p) {s : Sy} (h : isB s = false) : Chain (pstep p s) := by
  cases s with
  | o => cases h
  | c => cases h
  | p => exact ⟨c.next, c.last⟩
  | m => exact ⟨c.next, c.last⟩
  | l k =>
    refine ⟨fun i s s' h1 h2 => ?_, fun s hs => ?_⟩
    · have h1 : (p.out ++ [(p.x, p.y, p.h, k)])[i]? = some s := h1
      have h2 : (p.out ++ [(p.x, p.y, p.h, k)])[i + 1]? = some s' := h2
      have hl := (List.getElem?_eq_some_iff.mp h2).1
      rw [List.length_append, List.length_singleton] at hl
      rw [List.getElem?_append_left (by omega)] at h1
      by_cases z : i + 1 < p.out.length
      · rw [List.getElem?_append_left z] at h2
        exact c.next i s s' h1 h2
      · have e : i + 1 = p.out.length := by omega
        rw [List.getElem?_append_right (by omega), e, Nat.sub_self] at h2
        have hs : p.out.getLast? = some s := by
          rw [List.getLast?_eq_getElem?, ← e, Nat.add_sub_cancel]
          exact h1
        have := c.last s hs
        cases h2
        exact this
    · have hs : (p.out ++ [(p.x, p.y, p.h, k)]).getLast? = some s := hs
      rw [List.getLast?_append] at hs
      cases hs
      exact ⟨rfl, rfl⟩
theorem chain_run : ∀ (w : List Sy) {p : Pen}, Chain p → (∀ s ∈ w, isB s = false) → Chain (w.foldl pstep p)
  | [], p, c, _ => c
  | s :: w, p, c, h => chain_run w (chain_step c (h s List.mem_cons_self)) fun x hx => h x (List.mem_cons_of_mem _ hx)
theorem chain_pen {w : List Sy} (h : ∀ s ∈ w, isB s = false) : Chain (pen w) := chain_run w ⟨(fun i s s' h => by cases h), (fun s h => by cases h)⟩ h
/-! ### the letters of the strokes -/
def lets : List Sy → List Nat
  | [] => []
  | .l k :: w => k :: lets w
  | _ :: w => lets w
theorem lets_app : ∀ a b : List Sy, lets (a ++ b) = lets a ++ lets b
  | [], b => rfl
  | .l k :: a, b => congrArg (_ :: ·) (lets_app a b)
  | .p :: a, b => lets_app a b
  | .m :: a, b => lets_app a b
  | .o :: a, b => lets_app a b
  | .c :: a, b => lets_app a b
theorem lets_len : ∀ w : List Sy, (lets w).length = nL w
  | [] => rfl
  | s :: w => by
    rw [show nL (s :: w) = nL [s] + nL w from nL_app [s] w]
    cases s with
    | l k => show (lets w).length + 1 = 1 + nL w; rw [lets_len w]; omega
    | p => show (lets w).length = 0 + nL w; rw [lets_len w]; omega
    | m => show (lets w).length = 0 + nL w; rw [lets_len w]; omega
    | o => show (lets w).length = 0 + nL w; rw [lets_len w]; omega
    | c => show (lets w).length = 0 + nL w; rw [lets_len w]; omega
theorem lets_pen (E : Pth) : ∀ (w : List Sy) (p : Pen), (penF E p w).out.map (·.2.2.2) = p.out.map (·.2.2.2) ++ lets w
  | [], p => (List.append_nil _).symm
  | s :: w, p => by
    rw [penF_cons, lets_pen E w]
    cases s with
    | l k =>
      show (p.out ++ [_]).map _ ++ lets w = p.out.map _ ++ (k :: lets w)
      rw [List.map_append, List.append_assoc]
      rfl
    | o => rfl
    | p => rfl
    | m => rfl
    | c =>
      have e : pstepE E p .c = match p.st.getLast? with
        | some (a, b, c) => { p with x := a, y := b, h := c, st := p.st.dropLast }
        | none => p := rfl
      have e2 : (pstepE E p .c).out = p.out := by rw [e]; cases p.st.getLast? <;> rfl
      rw [e2]
      rfl
theorem lets_strokes (w : List Sy) : (strokes w).map (·.2.2.2) = lets w := by
  have := lets_pen one w org
  rw [show penF one org w = penE one w from rfl, pen_one] at this
  exact this
theorem let_at {w : List Sy} {i : Nat} {s : Stk} (h : (strokes w)[i]? = some s) : (lets w)[i]? = some s.2.2.2 := by
  rw [← lets_strokes, List.getElem?_map, h]
  rfl
theorem grown_has {ws : List (List Sy)} {st : List Sy} (g : GoodBook ws st) : ∀ n, (grown ws st n).any isL = true
  | 0 => g.start.has
  | n + 1 => by
    obtain ⟨s, hs, hl⟩ := List.any_eq_true.mp (grown_has g n)
    cases s with
    | l k =>
      have hk := grown_lets g n k hs
      obtain ⟨s2, hs2, hl2⟩ := List.any_eq_true.mp (getD_good g.words hk).has
      refine List.any_eq_true.mpr ⟨s2, List.mem_flatMap.mpr ⟨.l k, hs, hs2⟩, hl2⟩
    | p => cases hl
    | m => cases hl
    | o => cases hl
    | c => cases hl
theorem nL_pos {w : List Sy} (h : w.any isL = true) : 1 ≤ nL w := by
  obtain ⟨s, hs, hl⟩ := List.any_eq_true.mp h
  exact List.length_pos_of_mem (List.mem_filter.mpr ⟨hs, hl⟩)
theorem good_one {n k : Nat} (h : k < n) : Good n 40 [.l k] := ⟨rfl, fun j hj => by
  have : j = k := by injection List.mem_singleton.mp hj
  rw [this]; exact h, rfl, by show 1 ≤ 40; decide, by show 1 + 6 ≤ 8 * 1; decide⟩
theorem grown_one (ws : List (List Sy)) (k n : Nat) : grown ws [.l k] n = gI ws n k := by
  rw [grown_gI]
  show gI ws n k ++ [] = gI ws n k
  exact List.append_nil _
/-! ### data -/
def dSy : Sy → PyData
  | .l k => .int k
  | .p => .str "+"
  | .m => .str "-"
  | .o => .str "["
  | .c => .str "]"
def dWd (w : List Sy) : PyData := .tuple (w.map dSy)
theorem dp_syW {K : PySem.W.Frag} {H : Hp} : ∀ w : List Sy, DpAll K H (wv w) (w.map dSy)
  | [] => .nil
  | .l k :: w => .cons (.int _) (dp_syW w)
  | .p :: w => .cons (.str _) (dp_syW w)
  | .m :: w => .cons (.str _) (dp_syW w)
  | .o :: w => .cons (.str _) (dp_syW w)
  | .c :: w => .cons (.str _) (dp_syW w)
theorem dp_wds {K : PySem.W.Frag} {H : Hp} : ∀ {fs : List Addr} {vs : List (List Sy)}, Words H fs vs → DpAll K H (fs.map V.ref) (vs.map dWd)
  | _, _, .nil => .nil
  | _, _, .cons r t => .cons (.tup r.sq (dp_syW _)) (dp_wds t)
theorem lay_sy : ∀ w : List Sy, PyData.canLayAll0 (w.map dSy) = true ∧ PyData.depthAll (w.map dSy) ≤ 2
  | [] => ⟨rfl, by decide⟩
  | s :: w => by
    have ih := lay_sy w
    have h1 : PyData.canLay0 (dSy s) = true := by cases s <;> first | rfl | (unfold dSy PyData.canLay0; decide +kernel)
    have h2 : PyData.depth (dSy s) ≤ 1 := by cases s <;> (unfold dSy PyData.depth; decide)
    refine ⟨?_, ?_⟩
    · rw [List.map_cons]
      simp [PyData.canLayAll0, h1, ih.1]
    · rw [List.map_cons]
      have := ih.2
      simp [PyData.depthAll]
      omega
theorem sh_wds (vs : List (List Sy)) : SeqAt.shaped (.list (vs.map dWd)) = true := by
  have h : PyData.canLayAll0 (vs.map dWd) = true ∧ PyData.depthAll (vs.map dWd) ≤ 4 := by
    induction vs with
    | nil => exact ⟨rfl, by decide⟩
    | cons w vs ih =>
      have a := lay_sy w
      refine ⟨?_, ?_⟩
      · rw [List.map_cons]
        simp [PyData.canLayAll0, dWd, PyData.canLay0, ih.1, a.1]
      · rw [List.map_cons]
        have := ih.2
        have := a.2
        simp [PyData.depthAll, dWd, PyData.depth]
        omega
  unfold SeqAt.shaped PyData.canLay0 PyData.depth
  rw [h.1]
  have := h.2
  simp
  omega
theorem eqv_nilL (ds : List PyData) : PyData.eqv (.list ds) (.list []) = ds.isEmpty := by
  cases ds with
  | nil => simp [PyData.eqv, PyData.eqvAll]
  | cons d ds => simp [PyData.eqv, PyData.eqvAll]
theorem inV_o : ∀ w : List Sy, inV (.str "[") (wv w) = decide (Sy.o ∈ w)
  | [] => rfl
  | s :: w => by
    have ih := inV_o w
    unfold inV at ih ⊢
    show (eqV s.v (.str "[") || _) = _
    rw [ih]
    cases s with
    | l k => simp [Sy.v, eqV]
    | p => rw [show eqV Sy.p.v (.str "[") = false by decide +kernel]; simp
    | m => rw [show eqV Sy.m.v (.str "[") = false by decide +kernel]; simp
    | o => rw [show eqV Sy.o.v (.str "[") = true by decide +kernel]; simp
    | c => rw [show eqV Sy.c.v (.str "[") = false by decide +kernel]; simp
theorem flat_wv : ∀ w : List Sy, (wv w).all flatV = true
  | [] => rfl
  | s :: w => by
    show (flatV s.v && (wv w).all flatV) = true
    rw [flat_wv w]
    cases s <;> rfl
theorem eqv_two (a b c d : Int) : PyData.eqv (.tuple [.int a, .int b]) (.tuple [.int c, .int d]) = (decide (a = c) && decide (b = d)) := by
  by_cases h : a = c <;> by_cases h2 : b = d <;> simp [PyData.eqv, PyData.eqvAll, h, h2]
theorem sh_two (a b : Int) : SeqAt.shaped (.tuple [.int a, .int b]) = true := by
  simp [SeqAt.shaped, PyData.canLay0, PyData.canLayAll0, PyData.depth, PyData.depthAll]
end SK
namespace SK
open PySem PySem.Spec PyProof.Rows L2
theorem cut_ab (xs : List V) (a b : Nat) : cutV xs (some (a : Int)) (some (b : Int)) = (xs.drop (min a xs.length)).take (min b xs.length - min a xs.length) := by
  unfold cutV
  rw [HT.sIx_nat, HT.sIx_nat]
def far10 : Int := 10 ^ 400
def InLim (c : Pt) : Prop := (-far10 ≤ c.1 ∧ c.1 ≤ far10) ∧ -far10 ≤ c.2 ∧ c.2 ≤ far10
def spCoord : Sp := fun vs H Q _ => ∃ x : Int, vs = [.int x] ∧ -far10 ≤ x ∧ x ≤ far10 ∧ Q (.bl true) H
def spPlace : Sp := fun vs H Q _ => ∃ (t : Addr) (c : Pt), vs = [.ref t] ∧ H t = some (.tup [.int c.1, .int c.2]) ∧ InLim c ∧ Q .non H
def spManyX (K : PySem.W.Frag) (CT : Addr) : Sp := fun vs H Q E => ∃ (l : Addr) (xs : List V), vs = [.ref l] ∧ H l = some (.lst xs) ∧ (xs.length ≤ 2000 → Q .non H) ∧ (2000 < xs.length → ErrN CT 2000 H E)
def spWindowX (CT : Addr) : Sp := fun vs H Q E => ∃ (b ca ea : Addr) (n : Nat) (ws : List (List Sy)) (st : List Sy) (c e : Pt), vs = [.ref b, .int n, .ref ca, .ref ea] ∧ BookAt H b ws st ∧ GoodBook ws st ∧ n ≤ 400 ∧
  H ca = some (.tup [.int c.1, .int c.2]) ∧ H ea = some (.tup [.int e.1, .int e.2]) ∧ InLim c ∧ InLim e ∧
  (∀ (H' : Hp) (r : Addr) (as : List Addr), Same H H' → H r = none → H' r = some (.tup (as.map V.ref)) → Found H' as (hitsL ws st n c e) → (hitsL ws st n c e).length ≤ 2000 → Q (.ref r) H') ∧
  (100000 < wsum (tree ws n) st → ErrN CT 100000 H E) ∧ (2000 < (hitsL ws st n c e).length → ErrN CT 2000 H E)
def beginsL (ws : List (List Sy)) (st : List Sy) (n : Nat) (c : Pt) : List NS := (hitsL ws st n c c).filter fun x => decide ((x.2.1, x.2.2.1) = c)
def spStrokesAtX (CT : Addr) : Sp := fun vs H Q E => ∃ (b ca : Addr) (n : Nat) (ws : List (List Sy)) (st : List Sy) (c : Pt), vs = [.ref b, .int n, .ref ca] ∧ BookAt H b ws st ∧ GoodBook ws st ∧ n ≤ 400 ∧
  H ca = some (.tup [.int c.1, .int c.2]) ∧ InLim c ∧
  (∀ (H' : Hp) (r : Addr), Same H H' → H r = none → H' r = some (.tup ((beginsL ws st n c).map fun x => V.int (x.1 : Nat))) → Q (.ref r) H') ∧
  (100000 < wsum (tree ws n) st → ErrN CT 100000 H E) ∧ (2000 < (beginsL ws st n c).length → ErrN CT 2000 H E)
section
variable {P : Program} {w : World} {K : PySem.W.Frag} {mg : Str → Option Value} {base : Heap}
theorem ok_coord {f : Addr} {fd : FuncData} {k : Nat} {tF : Tok} (F : Fun K "is_coordinate" "is_coordinate" s_is_coordinate f fd) (GI : Got P w K mg base "is_integer" k ["value"] (spIsInt K)) (mF : mg "FARTHEST" = some (.int far10 tF)) : FnOk P w K mg base CX0 (k + 1) f fd ["value"] spCoord := by
  refine F.ok sc_is_coordinate (fun vs H Q E h => ?_) (fun cdv A outer s H vs Q E hr h => ?_)
  · obtain ⟨x, rfl, _⟩ := h
    rfl
  · obtain ⟨x, rfl, h1, h2, q⟩ := h
    refine ⟨_, pss_one (ps_ret (pe_and (pcall GI hr (pa_cons (pv 0) pa_nil)) (pe_one (pe_chain op_le op_le (pe_un un_neg (pe_glob (v := .int far10) rfl mF ⟨_, rfl⟩)) (pv 0) (pe_glob (v := .int far10) rfl mF ⟨_, rfl⟩))))), ?_⟩
    refine ⟨_, rfl, _, "int", true, false, rfl, ty_int _, by decide +kernel, by decide +kernel, _, rfl, iteT ?_⟩
    refine ⟨_, rfl, _, rfl, _, _, rfl, rfl, _, rfl, itY h1 ⟨_, _, rfl, rfl, ?_⟩⟩
    show Q (V.bl (decide (x ≤ far10))) H
    rw [decide_eq_true h2]
    exact q
theorem ok_place {f : Addr} {fd : FuncData} {k : Nat} (F : Fun K "check_place" "check_place" s_check_place f fd) (GC : Got P w K mg base "is_coordinate" k ["value"] spCoord) (mI : mg "isinstance" = none) (mT : mg "tuple" = none) (ml : mg "len" = none) : FnOk P w K mg base CX0 (k + 1) f fd ["value"] spPlace := by
  refine F.ok sc_check_place (fun vs H Q E h => ?_) (fun cdv A outer s H vs Q E hr h => ?_)
  · obtain ⟨t, c, rfl, _⟩ := h
    rfl
  · obtain ⟨t, c, rfl, ht, ⟨⟨x1, x2⟩, y1, y2⟩, q⟩ := h
    have nd := sc_check_place.nd
    refine ⟨_, pss_cons (ps_if (PW.pt (pw_or (pt_not (pt_val (pis "tuple" (by decide +kernel) mI mT (pv 0)))) (pw_or1 (pt_cmpR op_ne (plen ml (pv 0)) pe_int (nomark _))))) pss_never pss_nil)
      (pss_cons (ps_asg (pv 0) (pg_tup (by rfl) (pgs_cons (pg_name (i := 1) nd rfl (.inl rfl)) (pgs_cons (pg_name (i := 2) nd rfl (.inl rfl)) pgs_nil))))
      (pss_one (ps_if (PW.pt (pw_or (pt_not (pt_val (pcall GC hr (pa_cons (pv 1) pa_nil)))) (pw_or1 (pt_not (pt_val (pcall GC hr (pa_cons (pv 2) pa_nil))))))) pss_never pss_nil))), ?_⟩
    refine ⟨_, rfl, _, "tuple", true, rfl, ty_tup ht, by decide +kernel, _, rfl, iteF ⟨_, rfl, t, _, rfl, .inr (SqT.of ht), rfl, _, rfl, iteF ?_⟩⟩
    refine ⟨_, rfl, t, _, rfl, SqT.of ht, rfl, _, _, rfl, _, _, rfl, rfl, ?_⟩
    exact ⟨_, rfl, c.1, rfl, x1, x2, _, rfl, iteF ⟨_, rfl, c.2, rfl, y1, y2, _, rfl, iteF q⟩⟩
theorem ok_many {f : Addr} {fd : FuncData} {k : Nat} {CT fI : Addr} {t2 : Tok} (TT : TmTxt P K mg CT fI) (F : Fun K "check_many" "check_many" s_check_many f fd) (ml : mg "len" = none) (m2 : mg "MOST_STROKES" = some (.int 2000 t2)) : FnOk P w K mg base (L2.CX P w) (k + 1) f fd ["found"] (spManyX K CT) := by
  refine F.okX sc_check_many (fun vs H Q E h => ?_) (fun cdv A outer s H vs Q E hr h => ?_)
  · obtain ⟨l, xs, rfl, _⟩ := h
    rfl
  · obtain ⟨l, xs, rfl, hl, q1, q2⟩ := h
    refine ⟨_, pss_one (ps_if (pt_cmpR op_gt (plen ml (pv 0)) (pe_glob (v := .int 2000) rfl m2 ⟨_, rfl⟩) (nomark _)) (pss_one (ps_raiseTm rfl TT hr (takes_of rfl rfl rfl rfl) (by exact (pa_cons (pe_glob (v := .int 2000) rfl m2 ⟨_, rfl⟩) pa_nil)))) pss_nil), ?_⟩
    refine ⟨_, rfl, l, _, rfl, .inl (SqL.of hl), _, _, rfl, rfl, _, rfl, ?_⟩
    by_cases z : (2000 : Int) < (xs.length : Int)
    · rw [decide_eq_true z]
      exact iteT ⟨2000, rfl, by decide +kernel, by rw [sizeLine_eq]; decide +kernel, fun d hd => q2 (by omega) _ d (same_upd hd) hd upd_same⟩
    · rw [decide_eq_false z]
      exact iteF (q1 (by omega))
theorem ok_window {f : Addr} {fd : FuncData} {k j : Nat} {C CT : Addr} {t4 : Tok} (hj : j + 1 ≤ k) (T : SkTxt K C) (F : Fun K "window" "window" s_window f fd) (GB : Got P w K mg base "check_book_and_age" k ["book", "age", "most"] spCheckBA) (GP : Got P w K mg base "check_place" k ["value"] spPlace) (GI : GotC P w K mg base "Seeker" C j ["self", "book", "age"] (spSkInit K C))
    (GS : GotM P w K mg base (L2.CX P w) C "seek" k ["self", "age", "corner", "end"] (spSeekX K C CT)) (GM : GotX P w K mg base "check_many" k ["found"] (spManyX K CT)) (mT : mg "tuple" = none) (m4 : mg "MOST_AGE_SEEN" = some (.int 400 t4)) : FnOk P w K mg base (L2.CX P w) (k + 1) f fd ["book", "age", "corner", "end"] (spWindowX CT) := by
  refine F.okX sc_window (fun vs H Q E h => ?_) (fun cdv A outer s H vs Q E hr h => ?_)
  · obtain ⟨b, ca, ea, n, ws, st, c, e, rfl, _⟩ := h
    rfl
  · obtain ⟨b, ca, ea, n, ws, st, c, e, rfl, hb, hg, hn, hca, hea, lc, le, q, q1, q2⟩ := h
    have nd := sc_window.nd
    refine ⟨_, pss_cons (ps_expr (pcall GB hr (pa_cons (pv 0) (pa_cons (pv 1) (pa_cons (pe_glob (v := .int 400) rfl m4 ⟨_, rfl⟩) pa_nil)))))
      (pss_cons (ps_expr (pcall GP hr (pa_cons (pv 2) pa_nil)))
      (pss_cons (ps_expr (pcall GP hr (pa_cons (pv 3) pa_nil)))
      (pss_cons (ps_set (i := 4) nd rfl (.inl rfl) (pmethX (E := E) GS hr T.cl (takes_of rfl rfl rfl rfl) (fun _ _ _ _ h => h) (pmake GI (hr.mono hj) (pa_cons (pv 0) (pa_cons (pv 1) pa_nil))) (pa_cons (pv 1) (pa_cons (pv 2) (pa_cons (pv 3) pa_nil)))))
      (pss_cons (ps_expr (pcallX GM hr (takes_of rfl rfl rfl rfl) (pa_cons (pv 4) pa_nil)))
      (pss_one (ps_ret (ptupleN mT (pv 4)))))))), ?_⟩
    refine ⟨_, rfl, _, rfl, b, n, 400, ws, st, rfl, hb, hg, hn, fun H1 S1 => ?_⟩
    refine ⟨_, rfl, ca, c, rfl, S1 _ _ hca, lc, _, rfl, ea, e, rfl, S1 _ _ hea, le, ?_⟩
    refine ⟨_, rfl, _, rfl, fun x dx nx ndx nex => ?_⟩
    have S2 : Same H1 (upd (upd H1 dx (.own x)) x (.ins C dx [])) := fun b o e => by
      rw [upd_ne (ne_of_none e nx), upd_ne (ne_of_none e ndx)]
      exact e
    refine ⟨x, b, dx, n, ws, st, rfl, upd_same, (hb.keep (.of S1)).keep (.of S2), hg, by omega, fun H3 a cl X3 hS C3 hc => ⟨rfl, ?_⟩⟩
    have S3 : Same H1 H3 := fun b o e => X3 b o (ne_of_none e nx) (S2 b o e)
    have S03 := S1.trans S3
    refine ⟨x, a.dx, _, rfl, hS.ob, sfl_no (by decide +kernel) (by decide +kernel) (by decide +kernel) (by decide +kernel) (by decide +kernel), _, rfl, _, rfl, _, rfl, x, ca, ea, a, ws, st, n, cl, n, c, e, rfl, hS, hg, C3, fun k hk => (hc k).mpr ⟨0, hk⟩, Nat.le_refl _, SqT.of (S03 _ _ hca), SqT.of (S03 _ _ hea), fun H4 l as S4 n4 h4 hF hF5 => ?_, fun z => (q1 z).keep S03⟩
    have S04 := S03.trans S4
    have lF := hF.length
    refine ⟨_, rfl, l, _, rfl, h4, fun z => ?_, fun z => (q2 (by rw [← lF]; rw [List.length_map] at z; exact z)).keep S04⟩
    refine ⟨_, rfl, l, _, rfl, SqL.of h4, fun H5 r S5 n5 h5 => q H5 r as (S04.trans S5) (S04.free n5) h5 (hF.keep (.of S5)) ?_⟩
    rw [← lF]
    rw [List.length_map] at z
    exact z
end
end SK
namespace SK
open PySem PySem.Spec PyProof.Rows L2
def spStroke : Sp := fun vs H Q _ => ∃ (b : Addr) (n i : Nat) (ws : List (List Sy)) (st : List Sy) (s : Stk), vs = [.ref b, .int n, .int i] ∧ BookAt H b ws st ∧ GoodBook ws st ∧ n ≤ 1000 ∧ (strokes (grown ws st n))[i]? = some s ∧ New (.tup (stV s)) H Q
section
variable {P : Program} {w : World} {K : PySem.W.Frag} {mg : Str → Option Value} {base : Heap}
theorem ok_stroke {f : Addr} {fd : FuncData} {k : Nat} (F : Fun K "stroke" "stroke" s_stroke f fd) (GB : GotD P w K mg base "check_book_and_age" k ["book", "age", "most"] [.int 1000] spCheckBA) (GC : Got P w K mg base "coming_letters" k ["words", "parts"] (spComing K))
    (GA : Got P w K mg base "strokes_by_age" k ["words", "letters", "age"] spSByAge) (GS : Got P w K mg base "strokes_of" k ["word", "strokes"] spStrokesOf) (GN : Got P w K mg base "check_number" k ["value", "least", "most"] spCheckNum)
    (GE : Got P w K mg base "ends_by_age" k ["words", "letters", "age"] (spEByAge K)) (GL : Got P w K mg base "lay" k ["word", "ends", "pen"] (spLay K)) (mR : mg "range" = none) : FnOk P w K mg base CX0 (k + 1) f fd ["book", "age", "number"] spStroke := by
  refine F.ok sc_stroke (fun vs H Q E h => ?_) (fun cdv A outer s H vs Q E hr h => ?_)
  · obtain ⟨b, n, i, ws, st, sk, rfl, _⟩ := h
    rfl
  · obtain ⟨b, n, num, ws, st, sk, rfl, hb, hg, hn, hsk, q⟩ := h
    have nd := sc_stroke.nd
    refine ⟨_, pss_cons (ps_expr (pcallD GB hr (pa_cons (pv 0) (pa_cons (pv 1) pa_nil))))
      (pss_cons (ps_asg (pv 0) (pg_tup (by rfl) (pgs_cons (pg_name (i := 3) nd rfl (.inl rfl)) (pgs_cons (pg_name (i := 4) nd rfl (.inl rfl)) pgs_nil))))
      (pss_cons (ps_set (i := 5) nd rfl (.inl rfl) (pcall GC hr (pa_cons (pv 3) (pa_cons (pv 4) pa_nil))))
      (pss_cons (ps_set (i := 6) nd rfl (.inl rfl) (pcall GA hr (pa_cons (pv 3) (pa_cons (pv 5) (pa_cons (pv 1) pa_nil)))))
      (pss_cons (ps_expr (pcall GN hr (pa_cons (pv 2) (pa_cons pe_int (pa_cons (pe_op op_sub (pcall GS hr (pa_cons (pv 4) (pa_cons (pix (pv 6) (pv 1)) pa_nil))) pe_int) pa_nil)))))
      (pss_cons (ps_set (i := 7) nd rfl (.inl rfl) (pcall GE hr (pa_cons (pv 3) (pa_cons (pv 5) (pa_cons (pv 1) pa_nil)))))
      (pss_cons (ps_set (i := 8) nd rfl (.inl rfl) (pv 4))
      (pss_cons (ps_set (i := 9) nd rfl (.inl rfl) (ptupN (pa_cons pe_int (pa_cons pe_int (pa_cons pe_int pa_nil)))))
      (pss_cons (ps_set (i := 10) nd rfl (.inl rfl) (pv 2))
      (pss_cons (ps_for PassesOwn.never rfl (pi_range3 rfl mR (pa_cons (pv 1) (pa_cons (pe_un un_neg pe_int) (pa_cons (pe_un un_neg pe_int) pa_nil)))) (pg_name (i := 11) nd rfl (.inl rfl))
        (pss_cons (ps_for PassesOwn.never rfl (pi_list (pixT (pcall GL hr (pa_cons (pv 8) (pa_cons (pix (pv 7) (pv 11)) (pa_cons (pv 9) pa_nil)))) pe_int)) (pg_tup (by rfl) (pgs_cons (pg_name (i := 12) nd rfl (.inl rfl)) (pgs_cons (pg_name (i := 13) nd rfl (.inl rfl)) (pgs_cons (pg_name (i := 14) nd rfl (.inl rfl)) (pgs_cons (pg_name (i := 15) nd rfl (.inl rfl)) pgs_nil)))))
          (pss_cons (ps_set (i := 16) nd rfl (.inl rfl) (pe_dget (hu_of hr) (pix (pv 6) (pv 11)) (pv 15) (fun _ _ => rfl)))
          (pss_cons (ps_if (pt_cmpR op_lt (pv 10) (pv 16) (nomark _)) (pss_one ps_break) pss_nil)
          (pss_one (ps_aug (i := 10) nd rfl (.inl rfl) (pv 16) ip_sub)))))
        (pss_cons (ps_set (i := 8) nd rfl (.inl rfl) (pixT (pv 3) (pv 15)))
        (pss_one (ps_set (i := 9) nd rfl (.inl rfl) (ptupN (pa_cons (pv 12) (pa_cons (pv 13) (pa_cons (pv 14) pa_nil)))))))))
      (pss_one (ps_ret (ptupN (pa_cons (pv 12) (pa_cons (pv 13) (pa_cons (pv 14) (pa_cons (pv 15) pa_nil)))))))))))))))), ?_⟩
    obtain ⟨p, pq, as, h1, h2, h3, h4⟩ := id hb
    have hf := hg.few
    have sl := hg.start.len
    have sn : nest st 0 ≠ none := by rw [hg.start.nst]; exact (fun z => nomatch z)
    have hnum : num < nL (grown ws st n) := by
      rw [← strokes_nL]
      exact (List.getElem?_eq_some_iff.mp hsk).1
    refine ⟨_, rfl, _, rfl, b, n, 1000, ws, st, rfl, hb, hg, hn, fun H1 S1 => ?_⟩
    refine ⟨_, rfl, b, _, rfl, SqT.of (S1 _ _ h1), rfl, _, _, rfl, _, _, rfl, rfl, ?_⟩
    refine ⟨_, rfl, _, rfl, p, pq, as, ws, st, rfl, S1 _ _ h2, h4.keep (.of S1), .inr (h3.same S1).sq, by omega, hg.words, hg.start.lets, fun H2 l cl S2 n2 hl hc nd2 _ l8 => ?_⟩
    have S02 := S1.trans S2
    have C := closed_comes hg.words hg.start.lets hc l8
    refine ⟨_, rfl, _, rfl, _, rfl, p, l, n, as, ws, cl, rfl, S02 _ _ h2, h4.keep (.of S02), hl, hg.words, C, hn, fun H3 ro rs S3 n3 hro hP => ?_⟩
    have S03 := S02.trans S3
    obtain ⟨d, kvs, e1, e2, e3⟩ := hP.2 n (Nat.le_refl _)
    refine ⟨_, rfl, _, rfl, _, rfl, _, rfl, ro, _, _, .ref d, rfl, rfl, SqL.of hro, atI_nat (by rw [List.getElem?_map, e1]; rfl), pq, d, st, kvs, nLg ws n, rfl, h3.same S03, e2, fun k hk => e3 k ((hc k).mpr ⟨0, hk⟩), by omega, fun H4 S4 => ?_⟩
    rw [← nL_grown]
    refine ⟨_, _, rfl, rfl, (num : Int), 0, ((nL (grown ws st n) : Nat) : Int) - 1, rfl, by omega, by omega, ?_⟩
    have S04 := S03.trans S4
    clear e1 e2 e3 d kvs
    refine ⟨_, rfl, _, rfl, _, rfl, p, l, n, as, ws, cl, rfl, S04 _ _ h2, h4.keep (.of S04), S4 _ _ (S3 _ _ hl), hg.words, C, hn, fun H5 re rse S5 n5 hre hE => ?_⟩
    refine ⟨_, rfl, szl 3, fun H6 pn S6 n6 hpn => ⟨_, rfl, ?_⟩⟩
    have S06 := (S04.trans S5).trans S6
    have hro6 := S6 _ _ (S5 _ _ (S4 _ _ hro))
    have hP6 := hP.same ((S4.trans S5).trans S6) (fun m k o h => h)
    have hre6 := S6 _ _ hre
    have hE6 := hE.same S6 (isE.same S6)
    clear hro hP hre hE S5 S4 n5
    have rg : RgC (n : Int) (-1) (-1) (n + 1) := by
      have r := RgC.neg (i := (n : Int)) (j := -1) (by omega) (by omega) (by omega) (by omega)
      rw [show ((n : Int) - (-1)).toNat = n + 1 by omega] at r
      exact r
    refine ⟨_, rfl, _, rfl, _, rfl, (n : Int), -1, -1, n + 1, rfl, rg, ?_⟩
    refine for_rangeC (lo := (n : Int)) (c := -1) (n := n + 1) (fun i σ H' => ∃ (wa pa : Addr) (lf : Nat) (v : List Sy) (pp : Plc) (y11 y12 y13 y14 y15 y16 : Option V), σ = [some (.ref b), some (.int n), some (.int num), some (.ref p), some (.ref pq), some (.ref l), some (.ref ro), some (.ref re), some (.ref wa), some (.ref pa), some (.int lf), y11, y12, y13, y14, y15, y16] ∧
        Same H6 H' ∧ WdAt H' wa v ∧ H' pa = some (.tup (plV pp)) ∧ (0 ≤ pp.2.2 ∧ pp.2.2 < 4) ∧ (∀ k, Sy.l k ∈ v → k ∈ cl) ∧ nest v 0 = some 0 ∧ v.length ≤ 40 ∧ (i ≤ n → (penF one (stt pp) (growG (gI ws (n - i)) v)).out[lf]? = some sk) ∧ (i = n + 1 → y12 = some (.int sk.1) ∧ y13 = some (.int sk.2.1) ∧ y14 = some (.int sk.2.2.1) ∧ y15 = some (.int (sk.2.2.2 : Nat))))
      ⟨pq, pn, num, st, (0, 0, 0), _, _, _, _, _, _, rfl, Same.refl _, h3.same S06, hpn, ⟨by decide, by decide⟩, fun k hk => (hc k).mpr ⟨0, hk⟩, hg.start.nst, sl, fun _ => by rw [Nat.sub_zero, far_strokes]; exact hsk, fun z => absurd z (by omega)⟩ ?_ ?_
    · rintro i σ H7 hi ⟨wa, pa, lf, v, pp, y11, y12, y13, y14, y15, y16, rfl, S7, hwa, hpa, hpp, hvl, hvn, hvlen, hout, _⟩
      obtain ⟨m, hm⟩ : ∃ m, m = n - i := ⟨_, rfl⟩
      have em : (n : Int) + ((i : Nat) : Int) * (-1) = (m : Int) := by omega
      rw [em]
      have ho := hout (by omega)
      rw [← hm] at ho
      have vlt : ∀ k, Sy.l k ∈ v → k < ws.length := fun k hk => C.lt k (hvl k hk)
      rw [(far_pen hg.words m vlt hpp).2] at ho
      obtain ⟨de, ke, a1, a2, a3⟩ := hE6.2 m (by omega)
      obtain ⟨ds, kd, b1, b2, b3⟩ := hP6.2 m (by omega)
      have vn : nest v 0 ≠ none := by rw [hvn]; exact (fun z => nomatch z)
      refine ⟨_, rfl, _, rfl, _, rfl, re, _, _, .ref de, rfl, rfl, SqL.of (S7 _ _ hre6), atI_nat (by rw [List.getElem?_map, a1]; rfl), _, rfl, wa, de, pa, v, ke, Eg ws m, pp, rfl, hwa, S7 _ _ a2, fun k hk => ?_, SqT.of hpa, hpp.1, hpp.2, vn, by omega, fun H8 t la e asL S8 n8 h8 n9 hla hA he => ?_⟩
      · obtain ⟨ee, f1, f2⟩ := a3 k (hvl k hk)
        exact ⟨ee, f1, sTup S7 f2⟩
      have S78 := S7.trans S8
      have hok := (hok_run (E := Eg ws m) v (hok_stt (p := pp) hpp)).out
      have lets : ∀ q ∈ (penF (Eg ws m) (stt pp) v).out, q.2.2.2 ∈ cl := fun q hq => by
        rcases let_pen v (stt pp) q hq with h | h
        · cases h
        · exact hvl _ h
      generalize (penF (Eg ws m) (stt pp) v).out = L at ho hA hok lets
      refine ⟨t, _, _, .ref la, rfl, rfl, SqT.of h8, at0, la, rfl, ⟨_, SqL.of hla⟩, for_list (K := K) (a := la) (xs := asL.map V.ref) (fun j σ H' => ∃ (lf : Nat) (y12 y13 y14 y15 y16 : Option V), σ = [some (.ref b), some (.int n), some (.int num), some (.ref p), some (.ref pq), some (.ref l), some (.ref ro), some (.ref re), some (.ref wa), some (.ref pa), some (.int lf), some (.int m), y12, y13, y14, y15, y16] ∧ Same H8 H' ∧ ((L.drop j).flatMap (fineG one (gI ws m)))[lf]? = some sk)
        ⟨lf, _, _, _, _, _, rfl, Same.refl _, ho⟩ (fun j σ H' _ ⟨_, _, _, _, _, _, _, s, _⟩ => SqL.of (s _ _ hla)) ?_ ?_⟩
      · rintro j x σ H9 hx ⟨lf, y12, y13, y14, y15, y16, rfl, S9, ho⟩
        obtain ⟨sa, tt, rfl, ht, hst⟩ : ∃ a s, x = V.ref a ∧ L[j]? = some s ∧ H8 a = some (.tup (stV s)) := by
          rw [List.getElem?_map] at hx
          cases e : asL[j]? with
          | none => rw [e] at hx; cases hx
          | some a =>
            rw [e] at hx
            have hi : j < L.length := by
              have := hA.length
              have := (List.getElem?_eq_some_iff.mp e).1
              omega
            have hs := List.getElem?_eq_getElem hi
            obtain ⟨a', ha', ht⟩ := paired_get hA hs
            rw [e] at ha'
            cases ha'
            exact ⟨a, L[j], (Option.some.inj hx).symm, hs, ht⟩
        have tm := List.mem_of_getElem? ht
        have tcl := lets tt tm
        have tlt := C.lt _ tcl
        have th := hok tt tm
        have S69 := S78.trans S9
        have ed : L.drop j = tt :: L.drop (j + 1) := by
          have hj := (List.getElem?_eq_some_iff.mp ht)
          rw [List.drop_eq_getElem_cons hj.1, hj.2]
        rw [ed, List.flatMap_cons] at ho
        have fl := fine_len ws m tt
        refine ⟨sa, _, rfl, SqT.of (S9 _ _ hst), rfl, _, _, rfl, _, _, rfl, _, _, rfl, _, _, rfl, rfl, ?_⟩
        refine ⟨_, rfl, _, rfl, ro, _, _, .ref ds, rfl, rfl, SqL.of (S69 _ _ hro6), atI_nat (by rw [List.getElem?_map, b1]; rfl), _, rfl, ds, .int (nLg ws m tt.2.2.2 : Nat), rfl, by rw [← (b3 _ tcl : valV kd (.inl (tt.2.2.2 : Int)) = _)]; exact DGet.k (k := Sum.inl (tt.2.2.2 : Int)) (S69 _ _ b2), ?_⟩
        refine ⟨_, rfl, _, rfl, _, _, rfl, rfl, _, rfl, ?_⟩
        by_cases z : lf < nLg ws m tt.2.2.2
        · rw [decide_eq_true (show (lf : Int) < ((nLg ws m tt.2.2.2 : Nat) : Int) by omega)]
          rw [List.getElem?_append_left (by omega)] at ho
          obtain ⟨w2, hw2, hwt2⟩ := paired_get h4 (List.getElem?_eq_getElem tlt)
          have ed2 : ws.getD tt.2.2.2 [] = ws[tt.2.2.2] := by rw [List.getD_eq_getElem?_getD, List.getElem?_eq_getElem tlt]; rfl
          rw [← ed2] at hwt2
          have g2 := getD_good hg.words tlt
          refine iteT ⟨_, rfl, _, rfl, p, _, _, .ref w2, rfl, rfl, SqT.of (S69 _ _ (S06 _ _ h2)), atI_nat (by rw [List.getElem?_map, hw2]; rfl), ?_⟩
          refine ⟨_, rfl, _, rfl, _, rfl, szl 3, fun H10 pa2 S10 n10 h10 => ?_⟩
          refine ⟨w2, pa2, lf, ws.getD tt.2.2.2 [], (tt.1, tt.2.1, tt.2.2.1), _, _, _, _, _, _, rfl, S69.trans S10, ((hwt2.same S06).same S69).same S10, h10, th, fun k hk => C.cl _ tcl k hk, g2.nst, g2.len, fun hi2 => ?_, fun hi2 => ?_⟩
          · obtain ⟨m', hm'⟩ : ∃ m', m = m' + 1 := ⟨m - 1, by omega⟩
            rw [hm', fine_succ hg.words m' tlt th] at ho
            rw [show n - (i + 1) = m' by omega, (far_pen hg.words m' (p := (tt.1, tt.2.1, tt.2.2.1)) (fun k hk => C.lt k (C.cl _ tcl k hk)) th).2]
            exact ho
          · have hm0 : m = 0 := by omega
            rw [hm0, fine_zero ws th] at ho
            have e : sk = tt := by
              match lf, ho with
              | 0, ho => exact (Option.some.inj ho).symm
              | lf + 1, ho => cases ho
            rw [e]
            exact ⟨rfl, rfl, rfl, rfl⟩
        · rw [decide_eq_false (show ¬ (lf : Int) < ((nLg ws m tt.2.2.2 : Nat) : Int) by omega)]
          rw [List.getElem?_append_right (by omega), fl] at ho
          refine iteF ⟨_, rfl, _, rfl, _, _, rfl, rfl, lf - nLg ws m tt.2.2.2, some (.int tt.1), some (.int tt.2.1), some (.int tt.2.2.1), some (.int (tt.2.2.2 : Nat)), some (.int (nLg ws m tt.2.2.2 : Nat)), ?_, S9, ho⟩
          rw [show ((lf - nLg ws m tt.2.2.2 : Nat) : Int) = (lf : Int) - ((nLg ws m tt.2.2.2 : Nat) : Int) by omega]
          rfl
      · rintro σ H9 ⟨lf, y12, y13, y14, y15, y16, rfl, S9, ho⟩
        have lA := hA.length
        rw [List.length_map, lA, List.drop_length] at ho
        cases ho
    · rintro σ H7 ⟨wa, pa, lf, v, pp, y11, y12, y13, y14, y15, y16, rfl, S7, _, _, _, _, _, _, _, hfin⟩
      obtain ⟨rfl, rfl, rfl, rfl⟩ := hfin rfl
      exact ⟨_, rfl, _, rfl, _, rfl, _, rfl, szl 4, fun H8 r8 S8 n8 h8 => q H8 r8 (S06.trans (S7.trans S8)) ((S06.trans S7).free n8) h8⟩
end
end SK
namespace SK
open PySem PySem.Spec PyProof.Rows L2
/-- the known books -/
def kitL : List (List (List Sy) × List Sy) := [([[.l 0, .p, .l 1, .m], [.p, .l 0, .m, .l 1]], [.l 0]), ([[.l 0, .p, .l 0, .m, .l 0, .m, .l 0, .p, .l 0]], [.l 0]), ([[.l 0, .p, .l 0, .m]], [.l 0]), ([[.l 0, .p, .l 1, .m], [.p, .l 0, .m, .l 1]], [.l 1, .p, .l 0]), ([[.l 0, .p, .l 0, .m, .l 0, .m, .l 0, .p, .l 0]], [.l 0, .m, .l 0]), ([[.l 0, .p, .l 0, .m, .m, .l 0, .p, .l 0, .l 0]], [.l 0])]
def spKitL (K : PySem.W.Frag) : Sp := fun vs H Q _ => ∃ (r : Addr) (S : Scr), vs = [.ref r] ∧ RowOk K S H r ∧
  ∀ (H' : Hp) (p : Addr) (ws : List (List Sy)) (st : List Sy), Drawn K S r H H' → BookAt H' p ws st → GoodBook ws st → (ws, st) ∈ kitL → Q (.ref p) H'
section
variable {P : Program} {w : World} {K : PySem.W.Frag} {mg : Str → Option Value} {base : Heap}
theorem ok_kitL {f : Addr} {fd : FuncData} {k : Nat} (F : Fun K "_law_kit" "_law_kit" s_law_kit f fd) (GP : Got P w K mg base "_law_pick" k ["row", "things"] (spPick K)) : FnOk P w K mg base CX0 (k + 1) f fd ["row"] (spKitL K) := by
  refine F.ok sc_law_kit (fun vs H Q E h => ?_) (fun cdv A outer s H vs Q E hr h => ?_)
  · obtain ⟨r, S, rfl, _⟩ := h
    rfl
  · obtain ⟨r, S, rfl, hR, q⟩ := h
    have nd := sc_law_kit.nd
    refine ⟨_, pss_cons (ps_set (i := 1) nd rfl (.inl rfl) (ptupN (pa_cons (pwd (wd_l (k := 0) (wd_s (sy := .p) rfl (wd_l (k := 1) (wd_s (sy := .m) rfl wd_nil)))) (by decide)) (pa_cons (pwd (wd_s (sy := .p) rfl (wd_l (k := 0) (wd_s (sy := .m) rfl (wd_l (k := 1) wd_nil)))) (by decide)) pa_nil))))
      (pss_cons (ps_set (i := 2) nd rfl (.inl rfl) (ptupN (pa_cons (pwd (wd_l (k := 0) (wd_s (sy := .p) rfl (wd_l (k := 0) (wd_s (sy := .m) rfl (wd_l (k := 0) (wd_s (sy := .m) rfl (wd_l (k := 0) (wd_s (sy := .p) rfl (wd_l (k := 0) wd_nil))))))))) (by decide)) pa_nil)))
      (pss_cons (ps_asg (ptupN (pa_cons (ptupN (pa_cons (pwd (wd_l (k := 0) (wd_s (sy := .p) rfl (wd_l (k := 0) (wd_s (sy := .m) rfl wd_nil)))) (by decide)) pa_nil)) (pa_cons (ptupN (pa_cons (pwd (wd_l (k := 0) (wd_s (sy := .p) rfl (wd_l (k := 0) (wd_s (sy := .m) rfl (wd_s (sy := .m) rfl (wd_l (k := 0) (wd_s (sy := .p) rfl (wd_l (k := 0) (wd_l (k := 0) wd_nil))))))))) (by decide)) pa_nil)) pa_nil))) (pg_tup (by rfl) (pgs_cons (pg_name (i := 3) nd rfl (.inl rfl)) (pgs_cons (pg_name (i := 4) nd rfl (.inl rfl)) pgs_nil))))
      (pss_one (ps_ret (pcall GP hr (pa_cons (pv 0) (pa_cons (plstN (pa_cons (ptupN (pa_cons (pv 1) (pa_cons (pwd (wd_l (k := 0) wd_nil) (by decide)) pa_nil))) (pa_cons (ptupN (pa_cons (pv 2) (pa_cons (pwd (wd_l (k := 0) wd_nil) (by decide)) pa_nil))) (pa_cons (ptupN (pa_cons (pv 3) (pa_cons (pwd (wd_l (k := 0) wd_nil) (by decide)) pa_nil))) (pa_cons (ptupN (pa_cons (pv 1) (pa_cons (pwd (wd_l (k := 1) (wd_s (sy := .p) rfl (wd_l (k := 0) wd_nil))) (by decide)) pa_nil))) (pa_cons (ptupN (pa_cons (pv 2) (pa_cons (pwd (wd_l (k := 0) (wd_s (sy := .m) rfl (wd_l (k := 0) wd_nil))) (by decide)) pa_nil))) (pa_cons (ptupN (pa_cons (pv 4) (pa_cons (pwd (wd_l (k := 0) wd_nil) (by decide)) pa_nil))) pa_nil))))))) pa_nil))))))), ?_⟩
    refine fun H1 a1 s1 n1 h1 => ?_
    refine fun H2 a2 s2 n2 h2 => ?_
    refine ⟨szl 2, fun H3 a3 s3 n3 h3 => ?_⟩
    refine fun H4 a4 s4 n4 h4 => ?_
    refine ⟨szl 1, fun H5 a5 s5 n5 h5 => ?_⟩
    refine fun H6 a6 s6 n6 h6 => ?_
    refine ⟨szl 1, fun H7 a7 s7 n7 h7 => ?_⟩
    refine fun H8 a8 s8 n8 h8 => ?_
    refine ⟨szl 1, fun H9 a9 s9 n9 h9 => ?_⟩
    refine ⟨szl 2, fun H10 a10 s10 n10 h10 => ?_⟩
    refine ⟨a10, _, rfl, SqT.of h10, rfl, _, _, rfl, _, _, rfl, rfl, ?_⟩
    refine ⟨_, rfl, ?_⟩
    refine ⟨_, rfl, ?_⟩
    refine fun H11 a11 s11 n11 h11 => ?_
    refine ⟨szl 2, fun H12 a12 s12 n12 h12 => ?_⟩
    refine ⟨_, rfl, ?_⟩
    refine fun H13 a13 s13 n13 h13 => ?_
    refine ⟨szl 2, fun H14 a14 s14 n14 h14 => ?_⟩
    refine ⟨_, rfl, ?_⟩
    refine fun H15 a15 s15 n15 h15 => ?_
    refine ⟨szl 2, fun H16 a16 s16 n16 h16 => ?_⟩
    refine ⟨_, rfl, ?_⟩
    refine fun H17 a17 s17 n17 h17 => ?_
    refine ⟨szl 2, fun H18 a18 s18 n18 h18 => ?_⟩
    refine ⟨_, rfl, ?_⟩
    refine fun H19 a19 s19 n19 h19 => ?_
    refine ⟨szl 2, fun H20 a20 s20 n20 h20 => ?_⟩
    refine ⟨_, rfl, ?_⟩
    refine fun H21 a21 s21 n21 h21 => ?_
    refine ⟨szl 2, fun H22 a22 s22 n22 h22 => ?_⟩
    refine ⟨szl 6, fun H23 a23 s23 n23 h23 => ?_⟩
    have t23 : Same H23 H23 := Same.refl _
    have t22 : Same H22 H23 := s23.trans t23
    have t21 : Same H21 H23 := s22.trans t22
    have t20 : Same H20 H23 := s21.trans t21
    have t19 : Same H19 H23 := s20.trans t20
    have t18 : Same H18 H23 := s19.trans t19
    have t17 : Same H17 H23 := s18.trans t18
    have t16 : Same H16 H23 := s17.trans t17
    have t15 : Same H15 H23 := s16.trans t16
    have t14 : Same H14 H23 := s15.trans t15
    have t13 : Same H13 H23 := s14.trans t14
    have t12 : Same H12 H23 := s13.trans t13
    have t11 : Same H11 H23 := s12.trans t12
    have t10 : Same H10 H23 := s11.trans t11
    have t9 : Same H9 H23 := s10.trans t10
    have t8 : Same H8 H23 := s9.trans t9
    have t7 : Same H7 H23 := s8.trans t8
    have t6 : Same H6 H23 := s7.trans t7
    have t5 : Same H5 H23 := s6.trans t6
    have t4 : Same H4 H23 := s5.trans t5
    have t3 : Same H3 H23 := s4.trans t4
    have t2 : Same H2 H23 := s3.trans t3
    have t1 : Same H1 H23 := s2.trans t2
    have t0 : Same H H23 := s1.trans t1
    have hR' := hR.same t0
    have u := (((((((((((((((((((((s1.trans s2).trans s3).trans s4).trans s5).trans s6).trans s7).trans s8).trans s9).trans s10).trans s11).trans s12).trans s13).trans s14).trans s15).trans s16).trans s17).trans s18).trans s19).trans s20).trans s21).trans s22)
    refine ⟨r, a23, S, _, rfl, hR', (hR.same u).there n23, h23, (show 1 ≤ 6 by decide), (show 6 < 1073741824 by decide), fun H' kk v D hk => ?_⟩
    have tt := D.tups hR'
    match kk, hk with
    | 0, hk =>
      cases hk
      exact q H' a12 [[.l 0, .p, .l 1, .m], [.p, .l 0, .m, .l 1]] [.l 0] (((Drawn.refl hR).then t0).trans D) ⟨a3, a11, [a1, a2], tt.1 _ _ (t12 _ _ h12), tt.1 _ _ (t3 _ _ h3), tt.wd (h11.same t11), (.cons (tt.wd (h1.same t1)) (.cons (tt.wd (h2.same t2)) .nil))⟩ ⟨by decide, by decide, words_dec (by decide), good_dec (by decide)⟩ (.head _)
    | 1, hk =>
      cases hk
      exact q H' a14 [[.l 0, .p, .l 0, .m, .l 0, .m, .l 0, .p, .l 0]] [.l 0] (((Drawn.refl hR).then t0).trans D) ⟨a5, a13, [a4], tt.1 _ _ (t14 _ _ h14), tt.1 _ _ (t5 _ _ h5), tt.wd (h13.same t13), (.cons (tt.wd (h4.same t4)) .nil)⟩ ⟨by decide, by decide, words_dec (by decide), good_dec (by decide)⟩ (.tail _ (.head _))
    | 2, hk =>
      cases hk
      exact q H' a16 [[.l 0, .p, .l 0, .m]] [.l 0] (((Drawn.refl hR).then t0).trans D) ⟨a7, a15, [a6], tt.1 _ _ (t16 _ _ h16), tt.1 _ _ (t7 _ _ h7), tt.wd (h15.same t15), (.cons (tt.wd (h6.same t6)) .nil)⟩ ⟨by decide, by decide, words_dec (by decide), good_dec (by decide)⟩ (.tail _ (.tail _ (.head _)))
    | 3, hk =>
      cases hk
      exact q H' a18 [[.l 0, .p, .l 1, .m], [.p, .l 0, .m, .l 1]] [.l 1, .p, .l 0] (((Drawn.refl hR).then t0).trans D) ⟨a3, a17, [a1, a2], tt.1 _ _ (t18 _ _ h18), tt.1 _ _ (t3 _ _ h3), tt.wd (h17.same t17), (.cons (tt.wd (h1.same t1)) (.cons (tt.wd (h2.same t2)) .nil))⟩ ⟨by decide, by decide, words_dec (by decide), good_dec (by decide)⟩ (.tail _ (.tail _ (.tail _ (.head _))))
    | 4, hk =>
      cases hk
      exact q H' a20 [[.l 0, .p, .l 0, .m, .l 0, .m, .l 0, .p, .l 0]] [.l 0, .m, .l 0] (((Drawn.refl hR).then t0).trans D) ⟨a5, a19, [a4], tt.1 _ _ (t20 _ _ h20), tt.1 _ _ (t5 _ _ h5), tt.wd (h19.same t19), (.cons (tt.wd (h4.same t4)) .nil)⟩ ⟨by decide, by decide, words_dec (by decide), good_dec (by decide)⟩ (.tail _ (.tail _ (.tail _ (.tail _ (.head _)))))
    | 5, hk =>
      cases hk
      exact q H' a22 [[.l 0, .p, .l 0, .m, .m, .l 0, .p, .l 0, .l 0]] [.l 0] (((Drawn.refl hR).then t0).trans D) ⟨a9, a21, [a8], tt.1 _ _ (t22 _ _ h22), tt.1 _ _ (t9 _ _ h9), tt.wd (h21.same t21), (.cons (tt.wd (h8.same t8)) .nil)⟩ ⟨by decide, by decide, words_dec (by decide), good_dec (by decide)⟩ (.tail _ (.tail _ (.tail _ (.tail _ (.tail _ (.head _))))))
    | j + 6, hk => simp at hk
theorem ok_kit {f : Addr} {fd : FuncData} {k : Nat} (F : Fun K "_law_kit" "_law_kit" s_law_kit f fd) (GP : Got P w K mg base "_law_pick" k ["row", "things"] (spPick K)) : FnOk P w K mg base CX0 (k + 1) f fd ["row"] (spBook K) :=
  (ok_kitL F GP).imp fun vs H Q E ⟨r, S, e, hR, q⟩ => ⟨r, S, e, hR, fun H' p ws st D B g _ => q H' p ws st D B g⟩
end
end SK
namespace SK
open PySem PySem.Spec PyProof.Rows L2
/-! ### how great: places, sums -/
def Lt2 (p : Int × Int) (n : Nat) : Prop := p.1.natAbs ≤ n ∧ p.2.natAbs ≤ n
theorem rot_lt {p : Int × Int} {n : Nat} (h : Int) (b : Lt2 p n) : Lt2 (rot h p) n := by
  obtain ⟨b1, b2⟩ := b
  rcases rot4 h with ⟨_, e⟩ | ⟨_, e⟩ | ⟨_, e⟩ | ⟨_, e⟩ <;> rw [e] <;> refine ⟨?_, ?_⟩ <;> (try dsimp only) <;> omega
structure BdE (p : Pen) (n : Nat) : Prop where
  xy : Lt2 (p.x, p.y) n
  st : ∀ q ∈ p.st, Lt2 (q.1, q.2.1) n
  out : ∀ q ∈ p.out, Lt2 (q.1, q.2.1) n
theorem Lt2.wide {p : Int × Int} {n m : Nat} (h : Lt2 p n) (l : n ≤ m) : Lt2 p m := ⟨Nat.le_trans h.1 l, Nat.le_trans h.2 l⟩
theorem bdE_step {E : Pth} {p : Pen} {n N : Nat} (b : BdE p n) (s : Sy) (hE : ∀ k, s = .l k → Lt2 ((E k).1, (E k).2.1) N) : BdE (pstepE E p s) (n + N) := by
  have w : n ≤ n + N := Nat.le_add_right _ _
  have st' : ∀ q ∈ p.st, Lt2 (q.1, q.2.1) (n + N) := fun q hq => (b.st q hq).wide w
  have out' : ∀ q ∈ p.out, Lt2 (q.1, q.2.1) (n + N) := fun q hq => (b.out q hq).wide w
  have xy' := b.xy.wide w
  cases s with
  | o =>
    refine ⟨xy', fun q hq => ?_, out'⟩
    rcases List.mem_append.mp (show q ∈ p.st ++ [_] from hq) with h | h
    · exact st' q h
    · rw [List.mem_singleton.mp h]; exact xy'
  | c =>
    have e : pstepE E p .c = match p.st.getLast? with
      | some (a, b, c) => { p with x := a, y := b, h := c, st := p.st.dropLast }
      | none => p := rfl
    rw [e]
    cases hs : p.st.getLast? with
    | none => exact ⟨xy', st', out'⟩
    | some t =>
      obtain ⟨t1, t2, t3⟩ := t
      have := st' _ (List.mem_of_getLast? hs)
      exact ⟨this, fun q hq => st' q (List.dropLast_subset _ hq), out'⟩
  | p => exact ⟨xy', st', out'⟩
  | m => exact ⟨xy', st', out'⟩
  | l k =>
    have bx := b.xy
    have r := rot_lt p.h (hE k rfl)
    refine ⟨⟨?_, ?_⟩, st', fun q hq => ?_⟩
    · show (p.x + (rot p.h ((E k).1, (E k).2.1)).1).natAbs ≤ n + N
      have := bx.1
      have := r.1
      dsimp only at *
      omega
    · show (p.y + (rot p.h ((E k).1, (E k).2.1)).2).natAbs ≤ n + N
      have := bx.2
      have := r.2
      dsimp only at *
      omega
    · rcases List.mem_append.mp (show q ∈ p.out ++ [_] from hq) with h | h
      · exact out' q h
      · rw [List.mem_singleton.mp h]; exact xy'
theorem bdE_run {E : Pth} {N : Nat} : ∀ (w : List Sy) {p : Pen} {n : Nat}, BdE p n → (∀ k, Sy.l k ∈ w → Lt2 ((E k).1, (E k).2.1) N) → BdE (penF E p w) (n + w.length * N)
  | [], p, n, b, _ => by
    show BdE p (n + 0 * N)
    rw [Nat.zero_mul]
    exact b
  | s :: w, p, n, b, h => by
    have := bdE_run w (bdE_step b s fun k hk => h k (by rw [hk]; exact List.mem_cons_self)) fun k hk => h k (List.mem_cons_of_mem _ hk)
    rw [show n + N + w.length * N = n + (s :: w).length * N by rw [List.length_cons, Nat.succ_mul]; omega] at this
    exact this
theorem bdE_pen {E : Pth} {N : Nat} {w : List Sy} (h : ∀ k, Sy.l k ∈ w → Lt2 ((E k).1, (E k).2.1) N) : BdE (penE E w) (w.length * N) := by
  have := bdE_run w (p := org) (n := 0) ⟨⟨Nat.le_refl _, Nat.le_refl _⟩, (fun q h => nomatch h), (fun q h => nomatch h)⟩ h
  rw [Nat.zero_add] at this
  exact this
theorem Eg_lt {ws : List (List Sy)} (hg : ∀ w ∈ ws, Good ws.length 40 w) {m k : Nat} (hk : k < ws.length) : Lt2 ((Eg ws m k).1, (Eg ws m k).2.1) (40 ^ m) := by
  have b := (bdE_pen (E := one) (N := 1) (w := gI ws m k) fun j _ => ⟨Nat.le_refl _, Nat.zero_le _⟩).xy
  rw [Nat.mul_one] at b
  exact b.wide (len_gI hg m k hk)
theorem dir_one (h : Int) : (dir h).1.natAbs ≤ 1 ∧ (dir h).2.natAbs ≤ 1 := by
  unfold dir
  by_cases h0 : h = 0
  · rw [if_pos h0]; decide
  · rw [if_neg h0]
    by_cases h1 : h = 1
    · rw [if_pos h1]; decide
    · rw [if_neg h1]
      by_cases h2 : h = 2
      · rw [if_pos h2]; decide
      · rw [if_neg h2]; decide
theorem V_lt : ∀ L : List Stk, Lt2 (VX L, VY L) L.length
  | [] => ⟨Nat.le_refl _, Nat.le_refl _⟩
  | s :: L => by
    obtain ⟨i1, i2⟩ := V_lt L
    obtain ⟨d1, d2⟩ := dir_one s.2.2.1
    refine ⟨?_, ?_⟩
    · show ((dir s.2.2.1).1 + VX L).natAbs ≤ L.length + 1
      dsimp only at i1
      omega
    · show ((dir s.2.2.1).2 + VY L).natAbs ≤ L.length + 1
      dsimp only at i2
      omega
theorem S_lt {ws : List (List Sy)} (hg : ∀ w ∈ ws, Good ws.length 40 w) {m k : Nat} (hk : k < ws.length) : Lt2 (SX ws m k, SY ws m k) (40 ^ m) := by
  have b := V_lt (penE one (gI ws m k)).out
  have := (len_run one (gI ws m k) org).1
  have z : org.out.length = 0 := rfl
  rw [z, Nat.zero_add] at this
  exact b.wide (Nat.le_trans this (len_gI hg m k hk))
theorem BB_lt (k : Nat) {n : Nat} : ∀ {L : List Stk}, (∀ s ∈ L, Lt2 (s.1, s.2.1) n) → Lt2 (BB k L) (L.length * n)
  | [], _ => ⟨Nat.zero_le _, Nat.zero_le _⟩
  | s :: L, h => by
    obtain ⟨i1, i2⟩ := BB_lt k (L := L) fun x hx => h x (List.mem_cons_of_mem _ hx)
    obtain ⟨r1, r2⟩ := rot_lt (-s.2.2.1) (h s List.mem_cons_self)
    rw [List.length_cons, Nat.succ_mul]
    unfold BB
    by_cases z : s.2.2.2 = k
    · rw [if_pos z]
      refine ⟨?_, ?_⟩ <;> dsimp only <;> omega
    · rw [if_neg z]
      exact ⟨by omega, by omega⟩
/-- all of them within one number of binary figures -/
def mBits (m : Nat) : Nat := 6 * (m + 2) + 1
theorem pow_bits (m : Nat) : 40 ^ (m + 2) < 2 ^ mBits m := by
  have h1 : (40 : Nat) ^ (m + 2) ≤ 64 ^ (m + 2) := Nat.pow_le_pow_left (by decide) _
  have h2 : (64 : Nat) ^ (m + 2) = 2 ^ (6 * (m + 2)) := by rw [show (64 : Nat) = 2 ^ 6 by rfl, ← Nat.pow_mul]
  have h3 : 2 ^ (6 * (m + 2)) < 2 ^ (6 * (m + 2) + 1) := Nat.pow_lt_pow_right (by decide) (Nat.lt_succ_self _)
  unfold mBits
  omega
theorem S_bits {ws : List (List Sy)} (hg : ∀ w ∈ ws, Good ws.length 40 w) {m k : Nat} (hk : k < ws.length) : (SX ws m k).natAbs < 2 ^ mBits m ∧ (SY ws m k).natAbs < 2 ^ mBits m := by
  obtain ⟨a, b⟩ := (S_lt hg (m := m) hk).wide (Nat.pow_le_pow_right (by decide) (by omega : m ≤ m + 2))
  exact ⟨Nat.lt_of_le_of_lt a (pow_bits m), Nat.lt_of_le_of_lt b (pow_bits m)⟩
theorem BB_bits {ws : List (List Sy)} (hg : ∀ w ∈ ws, Good ws.length 40 w) {m : Nat} {w : List Sy} (hl : ∀ k, Sy.l k ∈ w → k < ws.length) (h40 : w.length ≤ 40) (k : Nat) :
    (BB k (penE (Eg ws m) w).out).1.natAbs < 2 ^ mBits m ∧ (BB k (penE (Eg ws m) w).out).2.natAbs < 2 ^ mBits m := by
  have b := bdE_pen (E := Eg ws m) (N := 40 ^ m) (w := w) fun j hj => Eg_lt hg (hl j hj)
  have c := BB_lt k b.out
  have l := (len_run (Eg ws m) w org).1
  have z : org.out.length = 0 := rfl
  rw [z, Nat.zero_add] at l
  have l2 : (penE (Eg ws m) w).out.length ≤ 40 := Nat.le_trans l h40
  have m1 : w.length * 40 ^ m ≤ 40 * 40 ^ m := Nat.mul_le_mul_right _ h40
  have m2 : (penE (Eg ws m) w).out.length * (w.length * 40 ^ m) ≤ 40 * (40 * 40 ^ m) := Nat.mul_le_mul l2 m1
  have e : 40 * (40 * 40 ^ m) = 40 ^ (m + 2) := by rw [Nat.pow_succ, Nat.pow_succ]; omega
  have p := pow_bits m
  exact ⟨by have := c.1; omega, by have := c.2; omega⟩
/-- one age more -/
theorem sums_succ {ws : List (List Sy)} (hg : ∀ w ∈ ws, Good ws.length 40 w) {m k : Nat} (hk : k < ws.length) :
    LX (SX ws m) (SY ws m) (penE (Eg ws m) (ws.getD k [])).out = SX ws (m + 1) k ∧ LY (SX ws m) (SY ws m) (penE (Eg ws m) (ws.getD k [])).out = SY ws (m + 1) k ∧
    LA (SA ws m) (penE (Eg ws m) (ws.getD k [])).out + LC (SX ws m) (SY ws m) (penE (Eg ws m) (ws.getD k [])).out = SA ws (m + 1) k := by
  have e : (penE one (gI ws (m + 1) k)).out = (penE (Eg ws m) (ws.getD k [])).out.flatMap (fineG one (gI ws m)) :=
    (far_pen hg m (w := ws.getD k []) (p := (0, 0, 0)) (getD_good hg hk).lets ⟨by decide, by decide⟩).2
  obtain ⟨f1, f2, f3⟩ := far_sums (ws := ws) m (penE (Eg ws m) (ws.getD k [])).out
  rw [← e] at f1 f2 f3
  exact ⟨f1.symm, f2.symm, f3.symm⟩
def areaW (w : List Sy) : Int := AR (strokes w)
theorem area_far {ws : List (List Sy)} {st : List Sy} (g : GoodBook ws st) (n : Nat) : LA (SA ws n) (penE (Eg ws n) st).out + LC (SX ws n) (SY ws n) (penE (Eg ws n) st).out = areaW (grown ws st n) := by
  have e := (far_pen g.words n (w := st) (p := (0, 0, 0)) g.start.lets ⟨by decide, by decide⟩).2
  obtain ⟨_, _, f3⟩ := far_sums (ws := ws) n (penE (Eg ws n) st).out
  rw [show (penE (Eg ws n) st).out = (penF (Eg ws n) (stt (0, 0, 0)) st).out from rfl] at f3 ⊢
  rw [← f3, ← e, far_strokes]
  rfl
end SK
namespace SK
open PySem PySem.Spec PyProof.Rows L2
theorem for_seq0 {K : PySem.W.Frag} {a : Addr} {xs : List V} {g : TG} {tb : TS} {D : Ends} {σ : L2.St} {H H0 : Hp} (h : Sq K H0 a xs) (Pv : Nat → L2.St → Hp → Prop) (h0 : Pv 0 σ H) (hl : ∀ i σ H', i ≤ xs.length → Pv i σ H' → Same H0 H')
    (hs : ∀ i x σ H, xs[i]? = some x → Pv i σ H → g x σ H fun σ2 H2 => tb { D with nx := Pv (i + 1), ct := Pv (i + 1), bk := D.nx } σ2 H2) (hd : ∀ σ H, Pv xs.length σ H → D.nx σ H) :
    ((∃ xs, SqL K H a xs) ∧ ∃ W : Nat → Nat → L2.St → Hp → Prop, (∃ m, W 0 m σ H) ∧ ∀ i m σ H, W i m σ H → ((Itl K a).stop i H ∧ D.nx σ H) ∨ ((Itl K a).go i H ∧ ∃ N : L2.St → Hp → Prop, (∀ σ' H', N σ' H' → ∃ m', m' < m ∧ W (i + 1) m' σ' H') ∧ ∀ x H', (Itl K a).yld i H x H' → g x σ H' fun σ2 H2 => tb { D with nx := N, ct := N, bk := D.nx } σ2 H2)) ∨
    ((∃ xs, SqT K H a xs) ∧ ∃ W : Nat → Nat → L2.St → Hp → Prop, (∃ m, W 0 m σ H) ∧ ∀ i m σ H, W i m σ H → ((Itt K a).stop i H ∧ D.nx σ H) ∨ ((Itt K a).go i H ∧ ∃ N : L2.St → Hp → Prop, (∀ σ' H', N σ' H' → ∃ m', m' < m ∧ W (i + 1) m' σ' H') ∧ ∀ x H', (Itt K a).yld i H x H' → g x σ H' fun σ2 H2 => tb { D with nx := N, ct := N, bk := D.nx } σ2 H2)) := by
  rcases h with h | h
  · exact .inl ⟨⟨xs, (hl 0 σ H (Nat.zero_le _) h0).seq h⟩, for_list (K := K) (a := a) (xs := xs) Pv h0 (fun i σ H' hi p => (hl i σ H' hi p).seq h) hs hd⟩
  · exact .inr ⟨⟨xs, sTup (hl 0 σ H (Nat.zero_le _) h0) h⟩, for_tup (K := K) (a := a) (xs := xs) Pv h0 (fun i σ H' hi p => sTup (hl i σ H' hi p) h) hs hd⟩
def spUnit : Sp := fun vs H Q _ => ∃ h : Int, vs = [.int h] ∧ 0 ≤ h ∧ h < 4 ∧ New (.tup [.int (dir h).1, .int (dir h).2]) H Q
def spDrawnL (K : PySem.W.Frag) : Sp := fun vs H Q _ => ∃ (a : Addr) (w : List Sy), vs = [.ref a] ∧ Sq K H a (wv w) ∧ nest w 0 ≠ none ∧ w.length ≤ 1000000 ∧
  ∀ (H' : Hp) (p fa e : Addr) (as : List Addr), Same H H' → H p = none → H' p = some (.tup [.ref fa, .ref e]) → H' fa = some (.lst (as.map V.ref)) → Strs H' as (strokes w) → H fa = none → H' e = some (.tup (plV ((pen w).x, (pen w).y, (pen w).h))) → Q (.ref p) H'
section
variable {P : Program} {w : World} {K : PySem.W.Frag} {mg : Str → Option Value} {base : Heap}
theorem ok_unit {f : Addr} {fd : FuncData} {k : Nat} (F : Fun K "_law_unit" "_law_unit" s_law_unit f fd) (mi : mg "int" = none) : FnOk P w K mg base CX0 (k + 1) f fd ["heading"] spUnit := by
  refine F.ok sc_law_unit (fun vs H Q E h => ?_) (fun cdv A outer s H vs Q E hr h => ?_)
  · obtain ⟨h, rfl, _⟩ := h
    rfl
  · obtain ⟨h, rfl, hz0, hz4, q⟩ := h
    have nd := sc_law_unit.nd
    refine ⟨_, pss_one (ps_ret (pix (plstN (pa_cons (ptupN (pa_cons pe_int (pa_cons pe_int pa_nil))) (pa_cons (ptupN (pa_cons pe_int (pa_cons pe_int pa_nil))) (pa_cons (ptupN (pa_cons (pe_un un_neg pe_int) (pa_cons pe_int pa_nil)))
        (pa_cons (ptupN (pa_cons pe_int (pa_cons (pe_un un_neg pe_int) pa_nil))) pa_nil))))) (pmod (pint mi (pv 0)) pe_int))), ?_⟩
    refine ⟨szl 2, fun H1 a1 s1 n1 h1 => ⟨szl 2, fun H2 a2 s2 n2 h2 => ⟨_, rfl, szl 2, fun H3 a3 s3 n3 h3 => ⟨_, rfl, szl 2, fun H4 a4 s4 n4 h4 => ⟨szl 4, fun H5 a5 s5 n5 h5 => ?_⟩⟩⟩⟩⟩
    refine ⟨_, rfl, .inl ⟨_, rfl, _, _, rfl, rfl, (show (0 : Int) < 4 by decide), ?_⟩⟩
    have e : h = 0 ∨ h = 1 ∨ h = 2 ∨ h = 3 := by omega
    rcases e with rfl | rfl | rfl | rfl
    · exact ⟨a5, _, 0, _, rfl, rfl, SqL.of h5, at0, q H5 a1 ((((s1.trans s2).trans s3).trans s4).trans s5) n1 (((s2.trans s3).trans (s4.trans s5)) _ _ h1)⟩
    · exact ⟨a5, _, 1, _, rfl, rfl, SqL.of h5, at1, q H5 a2 ((((s1.trans s2).trans s3).trans s4).trans s5) (s1.free n2) ((s3.trans (s4.trans s5)) _ _ h2)⟩
    · exact ⟨a5, _, 2, _, rfl, rfl, SqL.of h5, at2, q H5 a3 ((((s1.trans s2).trans s3).trans s4).trans s5) ((s1.trans s2).free n3) ((s4.trans s5) _ _ h3)⟩
    · exact ⟨a5, _, 3, _, rfl, rfl, SqL.of h5, at3, q H5 a4 ((((s1.trans s2).trans s3).trans s4).trans s5) (((s1.trans s2).trans s3).free n4) (s5 _ _ h4)⟩
theorem ok_drawnL {f : Addr} {fd : FuncData} {k : Nat} (F : Fun K "_law_drawn" "_law_drawn" s_law_drawn f fd) (GU : Got P w K mg base "_law_unit" k ["heading"] spUnit) (mi : mg "int" = none) (mI : mg "isinstance" = none) (mS : mg "str" = none) :
    FnOk P w K mg base CX0 (k + 1) f fd ["word"] (spDrawnL K) := by
  refine F.ok sc_law_drawn (fun vs H Q E h => ?_) (fun cdv A outer s H vs Q E hr h => ?_)
  · obtain ⟨a, w, rfl, _⟩ := h
    rfl
  · obtain ⟨a, w, rfl, hw, hn, hl, q⟩ := h
    have nd := sc_law_drawn.nd
    refine ⟨_, pss_cons (ps_asg (ptupN (pa_cons pe_int (pa_cons pe_int (pa_cons pe_int (pa_cons (plstN pa_nil) (pa_cons (plstN pa_nil) pa_nil))))))
        (pg_tup (by rfl) (pgs_cons (pg_name (i := 1) nd rfl (.inl rfl)) (pgs_cons (pg_name (i := 2) nd rfl (.inl rfl)) (pgs_cons (pg_name (i := 3) nd rfl (.inl rfl)) (pgs_cons (pg_name (i := 4) nd rfl (.inl rfl)) (pgs_cons (pg_name (i := 5) nd rfl (.inl rfl)) pgs_nil)))))))
      (pss_cons (ps_for PassesOwn.never rfl (pi_seq (pv 0)) (pg_name (i := 6) nd rfl (.inl rfl))
        (pss_one (ps_if (pt_cmpR op_eq (pv 6) pe_str (nomark _)) (pss_one (sapp (pv 5) (ptupN (pa_cons (pv 1) (pa_cons (pv 2) (pa_cons (pv 3) pa_nil))))))
          (pss_one (ps_if (pt_cmpR op_eq (pv 6) pe_str (nomark _))
              (pss_one (ps_asg (pe_bm0 PySem.F.plainAttrs_list PySem.F.slot_list_pop PySem.F.type_list_pop mt_pop (pv 5)) (pg_tup (by rfl) (pgs_cons (pg_name (i := 1) nd rfl (.inl rfl)) (pgs_cons (pg_name (i := 2) nd rfl (.inl rfl)) (pgs_cons (pg_name (i := 3) nd rfl (.inl rfl)) pgs_nil))))))
            (pss_one (ps_if (pt_val (pis "str" (by decide +kernel) mI mS (pv 6)))
                (pss_one (ps_set (i := 3) nd rfl (.inl rfl) (pmod (pint mi (padd (pv 3) (pe_ifExp (pt_cmpR op_eq (pv 6) pe_str (nomark _)) pe_int pe_int))) pe_int)))
              (pss_cons (sapp (pv 4) (ptupN (pa_cons (pv 1) (pa_cons (pv 2) (pa_cons (pv 3) (pa_cons (pv 6) pa_nil))))))
              (pss_one (ps_par rfl nd (i := 1) (j := 2) rfl rfl (by decide) rfl rfl (pa_cons (padd (pv 1) (pixT (pcall GU hr (pa_cons (pv 3) pa_nil)) pe_int)) (pa_cons (padd (pv 2) (pixT (pcall GU hr (pa_cons (pv 3) pa_nil)) pe_int)) pa_nil)) (by rfl)))))))))))
      (pss_one (ps_ret (ptupN (pa_cons (pv 4) (pa_cons (ptupN (pa_cons (pv 1) (pa_cons (pv 2) (pa_cons (pv 3) pa_nil)))) pa_nil)))))), ?_⟩
    refine ⟨szl 0, fun H1 fa S1 n1 h1 => ⟨szl 0, fun H2 sa S2 n2 h2 => ⟨szl 5, fun H3 ta S3 n3 h3 => ?_⟩⟩⟩
    refine ⟨ta, _, rfl, SqT.of h3, rfl, _, _, rfl, _, _, rfl, _, _, rfl, _, _, rfl, _, _, rfl, rfl, ?_⟩
    have S03 := (S1.trans S2).trans S3
    have nsa : H sa = none := S1.free n2
    have nfs : fa ≠ sa := ne_of_none h1 n2
    have hf3 := S3 _ _ (S2 _ _ h1)
    have hs3 := S3 _ _ h2
    clear S1 S2 S3 n2 n3 h1 h2 h3
    refine ⟨a, rfl, for_seq0 hw (fun i σ H' => ∃ (y6 : Option V) (as ss : List Addr), σ = [some (.ref a), some (.int (pen (w.take i)).x), some (.int (pen (w.take i)).y), some (.int (pen (w.take i)).h), some (.ref fa), some (.ref sa), y6] ∧
        Same H H' ∧ H' fa = some (.lst (as.map V.ref)) ∧ H' sa = some (.lst (ss.map V.ref)) ∧ Strs H' as (pen (w.take i)).out ∧ Pls H' ss (pen (w.take i)).st)
      ⟨none, [], [], rfl, S03, hf3, hs3, .nil, .nil⟩ (fun i σ H' _ ⟨_, _, _, _, s, _⟩ => s) ?_ ?_⟩
    · rintro i x σ H4 hx ⟨y6, as, ss, rfl, S4, hf, hs, hA, hP⟩
      obtain ⟨s, hsy, rfl⟩ := wv_get hx
      have hi : i < w.length := (List.getElem?_eq_some_iff.mp hsy).1
      have PO := penOk_take hn i (by omega)
      have PO1 := penOk_take hn (i + 1) (by omega)
      have ep := pen_take hsy
      have lt : (w.take i).length ≤ 1000000 := by rw [List.length_take]; omega
      have lA := hA.length
      have lP := hP.length
      have p1 := PO.len
      generalize pen (w.take (i + 1)) = pp at ep
      subst ep
      have nst := PO.nst
      have hst := nest_take hn (i + 1)
      rw [take_more hsy, nest_app, nst] at hst
      have ph := PO.h
      generalize pen (w.take i) = pe at hA hP lA lP p1 nst hst ph
      cases s with
      | o =>
        refine ⟨_, rfl, rfl, _, rfl, itY rfl ⟨_, rfl, .inl ⟨rfl, _, SqL.of hs⟩, _, rfl, _, rfl, _, rfl, szl 3, fun H5 p5 S5 n5 h5 => ⟨sa, _, _, rfl, rfl, S5 _ _ hs, ?_, ?_⟩⟩⟩
        · rw [List.length_map, sizeLine_eq]; omega
        · have hs5 := S5 _ _ hs
          have T5 : TupS H5 (upd H5 sa (.lst (ss.map V.ref ++ [V.ref p5]))) := TupS.refl.lst hs5
          refine ⟨_, as, ss ++ [p5], rfl, sPut (S4.trans S5) nsa, by rw [upd_ne nfs]; exact S5 _ _ hf, by rw [upd_same, List.map_append]; rfl, (hA.keep (.of S5)).keep T5, ?_⟩
          exact Paired.snoc ((hP.keep (.of S5)).keep T5) (T5.1 _ _ h5)
      | c =>
        refine ⟨_, rfl, rfl, _, rfl, itN (by decide) ⟨_, rfl, rfl, _, rfl, itY rfl ?_⟩⟩
        cases hl : pe.st.getLast? with
        | none =>
          rw [List.getLast?_eq_none_iff] at hl
          rw [hl] at hst
          exact absurd rfl hst
        | some t =>
          obtain ⟨tx, ty, th⟩ := t
          obtain ⟨la, g1, g2, g3⟩ := paired_last hP hl
          have e2 : pstep pe .c = { pe with x := tx, y := ty, h := th, st := pe.st.dropLast } := by
            show (match pe.st.getLast? with
              | some (a, b, c) => { pe with x := a, y := b, h := c, st := pe.st.dropLast }
              | none => pe) = _
            rw [hl]
          rw [e2]
          have g1' : (ss.map V.ref)[(ss.map V.ref).length - 1]? = some (V.ref la) := by
            rw [← List.getLast?_eq_getElem?, List.getLast?_map, g1]; rfl
          refine ⟨_, rfl, .inl ⟨rfl, _, SqL.of hs⟩, sa, _, _, rfl, rfl, hs, g1', ?_⟩
          have T5 : TupS H4 (upd H4 sa (.lst (ss.map V.ref).dropLast)) := TupS.refl.lst hs
          refine ⟨la, _, rfl, SqT.of (T5.1 _ _ g2), rfl, _, _, rfl, _, _, rfl, _, _, rfl, rfl, ?_⟩
          refine ⟨_, as, ss.dropLast, rfl, sPut S4 nsa, by rw [upd_ne nfs]; exact hf, by rw [upd_same, List.map_dropLast], hA.keep T5, Pls.keep T5 g3⟩
      | p =>
        refine ⟨_, rfl, rfl, _, rfl, itN (by decide) ⟨_, rfl, rfl, _, rfl, itN (by decide) ⟨_, rfl, _, _, _, rfl, ty_str _, (by decide +kernel : kitB "str" "str" = some true), true, rfl, iteT ?_⟩⟩⟩
        exact ⟨_, rfl, _, rfl, rfl, _, rfl, itY rfl ⟨_, _, rfl, rfl, .inl ⟨_, rfl, _, _, rfl, rfl, (show (0 : Int) < 4 by decide), _, as, ss, rfl, S4, hf, hs, hA, hP⟩⟩⟩
      | m =>
        refine ⟨_, rfl, rfl, _, rfl, itN (by decide) ⟨_, rfl, rfl, _, rfl, itN (by decide) ⟨_, rfl, _, _, _, rfl, ty_str _, (by decide +kernel : kitB "str" "str" = some true), true, rfl, iteT ?_⟩⟩⟩
        exact ⟨_, rfl, _, rfl, rfl, _, rfl, itN (by decide) ⟨_, _, rfl, rfl, .inl ⟨_, rfl, _, _, rfl, rfl, (show (0 : Int) < 4 by decide), _, as, ss, rfl, S4, hf, hs, hA, hP⟩⟩⟩
      | l kk =>
        refine ⟨_, rfl, rfl, _, rfl, itN (fun z => nomatch z) ⟨_, rfl, rfl, _, rfl, itN (fun z => nomatch z) ⟨_, rfl, _, _, _, rfl, ty_int _, (by decide +kernel : kitB "int" "str" = some false), false, rfl, iteF ?_⟩⟩⟩
        refine ⟨_, rfl, .inl ⟨rfl, _, SqL.of hf⟩, _, rfl, _, rfl, _, rfl, _, rfl, szl 4, fun H5 p5 S5 n5 h5 => ⟨fa, _, _, rfl, rfl, S5 _ _ hf, ?_, ?_⟩⟩
        · rw [List.length_map, sizeLine_eq]; omega
        have hf5 := S5 _ _ hf
        have T6 : TupS H5 (upd H5 fa (.lst (as.map V.ref ++ [V.ref p5]))) := TupS.refl.lst hf5
        have S6 : Same H (upd H5 fa (.lst (as.map V.ref ++ [V.ref p5]))) := sPut (S4.trans S5) n1
        have hf6 : (upd H5 fa (.lst (as.map V.ref ++ [V.ref p5]))) fa = some (.lst ((as ++ [p5]).map V.ref)) := by rw [upd_same, List.map_append]; rfl
        have hs6 : (upd H5 fa (.lst (as.map V.ref ++ [V.ref p5]))) sa = some (.lst (ss.map V.ref)) := by rw [upd_ne nfs.symm]; exact S5 _ _ hs
        have hA6 : Strs (upd H5 fa (.lst (as.map V.ref ++ [V.ref p5]))) (as ++ [p5]) (pe.out ++ [(pe.x, pe.y, pe.h, kk)]) := Paired.snoc ((hA.keep (.of S5)).keep T6) (T6.1 _ _ h5)
        have hP6 := (hP.keep (.of S5)).keep T6
        generalize upd H5 fa (.lst (as.map V.ref ++ [V.ref p5])) = H6 at S6 hf6 hs6 hA6 hP6
        refine ⟨_, rfl, _, rfl, pe.h, rfl, ph.1, ph.2, fun H7 p7 S7 n7 h7 => ⟨p7, _, _, _, rfl, rfl, SqT.of h7, at0, _, _, rfl, rfl, _, rfl, _, rfl, pe.h, rfl, ph.1, ph.2, fun H8 p8 S8 n8 h8 => ⟨p8, _, _, _, rfl, rfl, SqT.of h8, at1, _, _, rfl, rfl, _, _, rfl, ?_⟩⟩⟩
        exact ⟨_, as ++ [p5], ss, rfl, (S6.trans S7).trans S8, S8 _ _ (S7 _ _ hf6), S8 _ _ (S7 _ _ hs6), (hA6.keep (.of S7)).keep (.of S8), (hP6.keep (.of S7)).keep (.of S8)⟩
    · rintro σ H4 ⟨y6, as, ss, rfl, S4, hf, hs, hA, hP⟩
      rw [List.length_map, List.take_length] at hA
      refine ⟨_, rfl, _, rfl, _, rfl, _, rfl, szl 3, fun H5 p5 S5 n5 h5 => ⟨szl 2, fun H6 p6 S6 n6 h6 => ?_⟩⟩
      rw [List.length_map, List.take_length] at h5
      exact q H6 p6 fa p5 as ((S4.trans S5).trans S6) ((S4.trans S5).free n6) h6 (S6 _ _ (S5 _ _ hf)) ((hA.keep (.of S5)).keep (.of S6)) n1 (S6 _ _ h5)
end
end SK
namespace SK
open PySem PySem.Spec PyProof.Rows L2
def spLaw (K : PySem.W.Frag) : Sp := fun vs H Q _ => ∃ (a : Addr) (ns : List Int), vs = [.ref a] ∧ SqL K H a (ns.map V.int) ∧ ns.length ≤ 63 ∧ ∀ H', Q (.bl true) H'
/-- places in a row -/
def PtsA (H : Hp) (as : List Addr) (ps : List Pt) : Prop := Paired (fun a p => H a = some (.tup [.int p.1, .int p.2])) as ps
theorem PtsA.keep {H H' : Hp} {as : List Addr} {ps : List Pt} (t : TupS H H') (h : PtsA H as ps) : PtsA H' as ps := Paired.mono (fun a p e => t.1 _ _ e) h
def begS (s : Stk) : Pt := (s.1, s.2.1)
theorem Found.keep' {H H' : Hp} {as : List Addr} {F : List NS} (t : TupS H H') (h : Found H as F) : Found H' as F := Paired.mono (fun a x e => t.1 _ _ e) h
theorem RowOk.neL {K : PySem.W.Frag} {S : Scr} {H : Hp} {r p : Addr} {xs : List Addr} (h : RowOk K S H r) (e : H p = some (.lst (xs.map V.ref))) : p ≠ r := by
  obtain ⟨i, st, c, h1, _⟩ := h
  intro z
  rw [z, h1] at e
  injection e with e
  injection e with e
  cases xs with
  | nil => cases e
  | cons x xs => cases xs with
    | nil => cases e
    | cons y ys => cases e
/-- a window that is no great one -/
def spWinN : Sp := fun vs H Q _ => ∃ (b ca ea : Addr) (n : Nat) (ws : List (List Sy)) (st : List Sy) (c e : Pt), vs = [.ref b, .int n, .ref ca, .ref ea] ∧ BookAt H b ws st ∧ GoodBook ws st ∧ n ≤ 400 ∧
  H ca = some (.tup [.int c.1, .int c.2]) ∧ H ea = some (.tup [.int e.1, .int e.2]) ∧ InLim c ∧ InLim e ∧ wsum (tree ws n) st ≤ 100000 ∧ (hitsL ws st n c e).length ≤ 2000 ∧
  ∀ (H' : Hp) (r : Addr) (as : List Addr), Same H H' → H r = none → H' r = some (.tup (as.map V.ref)) → Found H' as (hitsL ws st n c e) → Q (.ref r) H'
theorem winN {CT : Addr} : ∀ vs H Q (E : XK), spWinN vs H Q E → spWindowX CT vs H Q E0 := fun vs H Q E ⟨b, ca, ea, n, ws, st, c, e, h1, h2, h3, h4, h5, h6, h7, h8, h9, h10, q⟩ =>
  ⟨b, ca, ea, n, ws, st, c, e, h1, h2, h3, h4, h5, h6, h7, h8, fun H' r as a1 a2 a3 a4 _ => q H' r as a1 a2 a3 a4, fun z => absurd h9 (by omega), fun z => absurd h10 (by omega)⟩
def spAtN : Sp := fun vs H Q _ => ∃ (b ca : Addr) (n : Nat) (ws : List (List Sy)) (st : List Sy) (c : Pt), vs = [.ref b, .int n, .ref ca] ∧ BookAt H b ws st ∧ GoodBook ws st ∧ n ≤ 400 ∧
  H ca = some (.tup [.int c.1, .int c.2]) ∧ InLim c ∧ wsum (tree ws n) st ≤ 100000 ∧ (beginsL ws st n c).length ≤ 2000 ∧
  ∀ (H' : Hp) (r : Addr), Same H H' → H r = none → H' r = some (.tup ((beginsL ws st n c).map fun x => V.int (x.1 : Nat))) → Q (.ref r) H'
theorem atN {CT : Addr} : ∀ vs H Q (E : XK), spAtN vs H Q E → spStrokesAtX CT vs H Q E0 := fun vs H Q E ⟨b, ca, n, ws, st, c, h1, h2, h3, h4, h5, h7, h9, h10, q⟩ =>
  ⟨b, ca, n, ws, st, c, h1, h2, h3, h4, h5, h7, q, fun z => absurd h9 (by omega), fun z => absurd h10 (by omega)⟩
structure LawG4 (P : Program) (w : World) (K : PySem.W.Frag) (mg : Str → Option Value) (base : Heap) (CT : Addr) (k : Nat) : Prop where
  pick : Got P w K mg base "_law_pick" k ["row", "things"] (spPick K)
  book : Got P w K mg base "_law_book" k ["row"] (spBook K)
  kit : Got P w K mg base "_law_kit" k ["row"] (spKitL K)
  even : Got P w K mg base "_law_even_book" k ["row"] (spEvenBook K)
  taken : Got P w K mg base "_law_taken" k ["row", "many"] (spTaken K)
  age : Got P w K mg base "_law_age" k ["book", "most"] (spAge K)
  grown : Got P w K mg base "_law_grown" k ["book", "age"] (spGrown K)
  drawn : Got P w K mg base "_law_drawn" k ["word"] (spDrawnL K)
  unit : Got P w K mg base "_law_unit" k ["heading"] spUnit
  alike : Got P w K mg base "_law_alike" k ["found", "due"] (spAlike 4)
  box : Got P w K mg base "box" k ["book", "age"] (spBox K)
  window : GotX P w K mg base "window" k ["book", "age", "corner", "end"] (spWindowX CT)
  at_ : GotX P w K mg base "strokes_at" k ["book", "age", "place"] (spStrokesAtX CT)
  stroke : Got P w K mg base "stroke" k ["book", "age", "number"] spStroke
  many : Got P w K mg base "strokes_in" k ["book", "age"] spStrokesIn
  mR : mg "range" = none
  ml : mg "len" = none
  mT : mg "tuple" = none
  mI : mg "isinstance" = none
  mi : mg "int" = none
  mMi : mg "min" = none
  mMa : mg "max" = none
  mO : mg "sorted" = none
  mSet : mg "set" = none
/-! ### how far places lie -/
theorem grown40 {ws : List (List Sy)} {st : List Sy} (g : GoodBook ws st) (n : Nat) : (grown ws st n).length ≤ 40 * 40 ^ n := by
  have h : ∀ w : List Sy, (∀ k, Sy.l k ∈ w → k < ws.length) → (growG (gI ws n) w).length ≤ w.length * 40 ^ n := by
    intro w
    induction w with
    | nil => intro _; exact Nat.zero_le _
    | cons s w ih =>
      intro h
      rw [show growG (gI ws n) (s :: w) = imgG (gI ws n) s ++ growG (gI ws n) w from rfl, List.length_append, List.length_cons, Nat.succ_mul]
      have h1 := ih fun k hk => h k (List.mem_cons_of_mem _ hk)
      have p1 : 1 ≤ 40 ^ n := Nat.one_le_pow _ _ (by decide)
      have h2 : (imgG (gI ws n) s).length ≤ 40 ^ n := by
        cases s with
        | l k => exact len_gI g.words n k (h k List.mem_cons_self)
        | p => exact p1
        | m => exact p1
        | o => exact p1
        | c => exact p1
      omega
  rw [grown_gI]
  exact Nat.le_trans (h st g.start.lets) (Nat.mul_le_mul_right _ g.start.len)
theorem InLim.of {c : Pt} {m : Nat} (h1 : c.1.natAbs ≤ m) (h2 : c.2.natAbs ≤ m) (l : m ≤ 40 ^ 202) : InLim c := by
  have z : (40 ^ 202 : Nat) ≤ 10 ^ 400 := by decide +kernel
  have e : far10 = ((10 ^ 400 : Nat) : Int) := by decide +kernel
  unfold InLim
  rw [e]
  generalize (10 ^ 400 : Nat) = t at z ⊢
  generalize (40 ^ 202 : Nat) = u at z l
  omega
theorem near_of {ws : List (List Sy)} {st : List Sy} (g : GoodBook ws st) {n : Nat} (hn : n ≤ 200) {s : Stk} (hs : s ∈ strokes (grown ws st n)) : s.1.natAbs ≤ 40 ^ 201 ∧ s.2.1.natAbs ≤ 40 ^ 201 := by
  have b := (bdE_pen (E := one) (N := 1) (w := grown ws st n) fun j _ => ⟨Nat.le_refl _, Nat.zero_le _⟩).out s (by rw [pen_one]; exact hs)
  rw [Nat.mul_one] at b
  have h1 := grown40 g n
  have h2 : 40 * 40 ^ n ≤ 40 ^ 201 := by
    rw [← Nat.pow_succ']
    exact Nat.pow_le_pow_right (by decide) (by omega)
  exact ⟨Nat.le_trans b.1 (Nat.le_trans h1 h2), Nat.le_trans b.2 (Nat.le_trans h1 h2)⟩
/-- the places of a drawing's strokes lie within the limits, some steps more too -/
theorem lim_pts {ws : List (List Sy)} {st : List Sy} (g : GoodBook ws st) {n : Nat} (hn : n ≤ 200) {p c : Pt} (hp : p ∈ pts (strokes (grown ws st n))) (h1 : (c.1 - p.1).natAbs ≤ 10) (h2 : (c.2 - p.2).natAbs ≤ 10) : InLim c := by
  obtain ⟨s, hs, hp⟩ := List.mem_flatMap.mp hp
  obtain ⟨b1, b2⟩ := near_of g hn hs
  obtain ⟨d1, d2⟩ := dir_one s.2.2.1
  have z : 40 ^ 201 + 11 ≤ 40 ^ 202 := by decide +kernel
  generalize (40 ^ 201 : Nat) = t at b1 b2 z
  have hq : p.1.natAbs ≤ t + 1 ∧ p.2.natAbs ≤ t + 1 := by
    simp only [List.mem_cons, List.not_mem_nil, or_false] at hp
    rcases hp with rfl | rfl
    · exact ⟨by show s.1.natAbs ≤ _; omega, by show s.2.1.natAbs ≤ _; omega⟩
    · exact ⟨by show (s.1 + (dir s.2.2.1).1).natAbs ≤ _; omega, by show (s.2.1 + (dir s.2.2.1).2).natAbs ≤ _; omega⟩
  exact InLim.of (m := t + 11) (by omega) (by omega) z
theorem IsBox.iff {b : Bx} {ps qs : List (Int × Int)} (h : IsBox b ps) (e : ∀ p, p ∈ ps ↔ p ∈ qs) : IsBox b qs := by
  obtain ⟨a, ⟨p1, q1, e1⟩, ⟨p2, q2, e2⟩, ⟨p3, q3, e3⟩, ⟨p4, q4, e4⟩⟩ := h
  exact ⟨fun p hp => a p ((e p).mpr hp), ⟨p1, (e p1).mp q1, e1⟩, ⟨p2, (e p2).mp q2, e2⟩, ⟨p3, (e p3).mp q3, e3⟩, ⟨p4, (e p4).mp q4, e4⟩⟩
theorem mem_places {L : List Stk} (p : Int × Int) : p ∈ L.map begS ++ L.map endS ↔ p ∈ pts L := by
  unfold pts
  rw [List.mem_append, List.mem_map, List.mem_map, List.mem_flatMap]
  constructor
  · rintro (⟨s, hs, rfl⟩ | ⟨s, hs, rfl⟩)
    · exact ⟨s, hs, List.mem_cons_self⟩
    · exact ⟨s, hs, List.mem_cons_of_mem _ List.mem_cons_self⟩
  · rintro ⟨s, hs, hp⟩
    simp only [List.mem_cons, List.not_mem_nil, or_false] at hp
    rcases hp with rfl | rfl
    · exact .inl ⟨s, hs, rfl⟩
    · exact .inr ⟨s, hs, rfl⟩
/-- the box of a column's ends -/
theorem box_cols {ps : List (Int × Int)} {l d r u : Int} (l1 : l ∈ ps.map (·.1)) (l2 : ∀ y ∈ ps.map (·.1), l ≤ y) (d1 : d ∈ ps.map (·.2)) (d2 : ∀ y ∈ ps.map (·.2), d ≤ y) (r1 : r ∈ ps.map (·.1)) (r2 : ∀ y ∈ ps.map (·.1), y ≤ r) (u1 : u ∈ ps.map (·.2)) (u2 : ∀ y ∈ ps.map (·.2), y ≤ u) : IsBox (l, d, r, u) ps := by
  obtain ⟨p1, q1, e1⟩ := List.mem_map.mp l1
  obtain ⟨p2, q2, e2⟩ := List.mem_map.mp d1
  obtain ⟨p3, q3, e3⟩ := List.mem_map.mp r1
  obtain ⟨p4, q4, e4⟩ := List.mem_map.mp u1
  exact ⟨fun p hp => ⟨⟨l2 _ (List.mem_map_of_mem hp), r2 _ (List.mem_map_of_mem hp)⟩, d2 _ (List.mem_map_of_mem hp), u2 _ (List.mem_map_of_mem hp)⟩, ⟨p1, q1, e1⟩, ⟨p2, q2, e2⟩, ⟨p3, q3, e3⟩, ⟨p4, q4, e4⟩⟩
/-! ### the law's own drawing -/
structure D4 (K : PySem.W.Frag) (S : Scr) (r b fa fs fe pl : Addr) (as bs es : List Addr) (ws : List (List Sy)) (st : List Sy) (age : Nat) (H : Hp) : Prop where
  row : RowOk K S H r
  bk : BookAt H b ws st
  g : GoodBook ws st
  low : Low 200 ws st age
  fa : H fa = some (.lst (as.map V.ref))
  sa : Strs H as (strokes (grown ws st age))
  fs : H fs = some (.lst (bs.map V.ref))
  sb : PtsA H bs ((strokes (grown ws st age)).map begS)
  fe : H fe = some (.lst (es.map V.ref))
  se : PtsA H es ((strokes (grown ws st age)).map endS)
  pl : H pl = some (.lst ((bs ++ es).map V.ref))
section
variable {K : PySem.W.Frag} {S : Scr} {r b fa fs fe pl : Addr} {as bs es : List Addr} {ws : List (List Sy)} {st : List Sy} {age : Nat} {H H' : Hp}
theorem D4.same (h : D4 K S r b fa fs fe pl as bs es ws st age H) (s : Same H H') : D4 K S r b fa fs fe pl as bs es ws st age H' :=
  ⟨h.row.same s, h.bk.keep (.of s), h.g, h.low, s _ _ h.fa, h.sa.keep (.of s), s _ _ h.fs, h.sb.keep (.of s), s _ _ h.fe, h.se.keep (.of s), s _ _ h.pl⟩
theorem D4.drawn (h : D4 K S r b fa fs fe pl as bs es ws st age H) (d : Drawn K S r H H') : D4 K S r b fa fs fe pl as bs es ws st age H' := by
  have t := d.tups h.row
  exact ⟨d.row, h.bk.keep t, h.g, h.low, d.at (h.row.neL h.fa) h.fa, h.sa.keep t, d.at (h.row.neL h.fs) h.fs, h.sb.keep t, d.at (h.row.neL h.fe) h.fe, h.se.keep t, d.at (h.row.neL h.pl) h.pl⟩
theorem D4.few (h : D4 K S r b fa fs fe pl as bs es ws st age H) : (strokes (grown ws st age)).length ≤ 200 := by
  rw [strokes_nL]
  exact h.low.2 age (Nat.le_refl _)
theorem D4.pos (h : D4 K S r b fa fs fe pl as bs es ws st age H) : 1 ≤ (strokes (grown ws st age)).length := by
  rw [strokes_nL]
  exact nL_pos (grown_has h.g age)
theorem D4.tree (h : D4 K S r b fa fs fe pl as bs es ws st age H) : wsum (tree ws age) st ≤ 100000 := by
  have := tree_le (ws := ws) (M := 200) age st h.low.2
  have h8 := h.low.1
  have : (age + 1) * 200 ≤ 9 * 200 := Nat.mul_le_mul_right _ (by omega)
  omega
theorem D4.places (h : D4 K S r b fa fs fe pl as bs es ws st age H) : PtsA H (bs ++ es) ((strokes (grown ws st age)).map begS ++ (strokes (grown ws st age)).map endS) := Paired.app h.sb h.se
end
/-! ### what stands between the law's parts -/
def tR4 (K : PySem.W.Frag) : TS := fun D σ H => ∃ (a r b fa : Addr) (ns : List Int) (as : List Addr) (ws : List (List Sy)) (st : List Sy) (age : Nat) (y5 : Option V), σ = [some (.ref a), some (.ref r), some (.ref b), some (.int age), some (.ref fa), y5, none, none, none, none, none, none, none, none, none, none, none, none, none, none, none, none, none, none, none, none, none, none] ∧
  RowOk K (a, ns) H r ∧ BookAt H b ws st ∧ GoodBook ws st ∧ Low 200 ws st age ∧ H fa = some (.lst (as.map V.ref)) ∧ Strs H as (strokes (grown ws st age)) ∧ ∀ H', D.rt (.bl true) H'
def tR9 (K : PySem.W.Frag) : TS := fun D σ H => ∃ (a r b fa fs fe pl : Addr) (ns : List Int) (as bs es : List Addr) (ws : List (List Sy)) (st : List Sy) (age : Nat) (y5 y8 y9 y10 y11 y13 y14 : Option V), σ = [some (.ref a), some (.ref r), some (.ref b), some (.int age), some (.ref fa), y5, some (.ref fs), some (.ref fe), y8, y9, y10, y11, some (.ref pl), y13, y14, none, none, none, none, none, none, none, none, none, none, none, none, none] ∧
  D4 K (a, ns) r b fa fs fe pl as bs es ws st age H ∧ ∀ H', D.rt (.bl true) H'
def tR12 (K : PySem.W.Frag) : TS := fun D σ H => ∃ (a r b fa fs fe pl ca ea du : Addr) (ns : List Int) (as bs es : List Addr) (ws : List (List Sy)) (st : List Sy) (age : Nat) (c e : Pt) (y5 y8 y9 y10 y11 y13 y14 : Option V), σ = [some (.ref a), some (.ref r), some (.ref b), some (.int age), some (.ref fa), y5, some (.ref fs), some (.ref fe), y8, y9, y10, y11, some (.ref pl), y13, y14, some (.ref ca), some (.ref ea), some (.ref du), none, none, none, none, none, none, none, none, none, none] ∧
  D4 K (a, ns) r b fa fs fe pl as bs es ws st age H ∧ H ca = some (.tup [.int c.1, .int c.2]) ∧ H ea = some (.tup [.int e.1, .int e.2]) ∧ InLim c ∧ InLim e ∧ H du = some (.lst []) ∧ ∀ H', D.rt (.bl true) H'
def tR14 (K : PySem.W.Frag) : TS := fun D σ H => ∃ (a r b fa fs fe pl : Addr) (ns : List Int) (as bs es : List Addr) (ws : List (List Sy)) (st : List Sy) (age : Nat) (y5 y8 y9 y10 y11 y13 y14 y15 y16 y17 y18 y19 : Option V), σ = [some (.ref a), some (.ref r), some (.ref b), some (.int age), some (.ref fa), y5, some (.ref fs), some (.ref fe), y8, y9, y10, y11, some (.ref pl), y13, y14, y15, y16, y17, y18, y19, none, none, none, none, none, none, none, none] ∧
  D4 K (a, ns) r b fa fs fe pl as bs es ws st age H ∧ ∀ H', D.rt (.bl true) H'
def tR16 (K : PySem.W.Frag) : TS := fun D σ H => ∃ (a r : Addr) (ns : List Int) (y2 y3 y4 y5 y6 y7 y8 y9 y10 y11 y12 y13 y14 y15 y16 y17 y18 y19 y20 : Option V), σ = [some (.ref a), some (.ref r), y2, y3, y4, y5, y6, y7, y8, y9, y10, y11, y12, y13, y14, y15, y16, y17, y18, y19, y20, none, none, none, none, none, none, none] ∧
  RowOk K (a, ns) H r ∧ ∀ H', D.rt (.bl true) H'
end SK
namespace PySem.W
open PySem PySem.SeqAt PyProof.Rows
section
variable {prog : Program} {w : World} {A : Around} {E : Value → Shared → Prop} {s : Shared}
theorem call_min_two_walkH {x y : Value} {Q : Value → Shared → Prop}
    (h : wpAny (model prog w) A.in1 (pyIter (.ref s.heap.objs.size)) (fun it s₂ => ∃ I fp wr G n P St H bt, it = .ref I ∧ WalksS prog w A.in1 I fp wr G n P St ∧ St 0 s₂ ∧ (∀ b ∈ fp, b < s₂.heap.objs.size) ∧ 0 < n ∧
      (∀ b o, H.get? b = some o → b ∉ wr) ∧ (∀ b o, H.get? b = some o → s₂.heap.get? b = some o) ∧ CmpIn prog w A.in1 .Lt H P bt ∧ ∀ v s', P (argBest bt (n - 1)) v → Moved wr G s₂ s' → Q v s') E
      { s with heap := s.heap.push { cls := .type "tuple", data := .seq #[x, y] } }) :
    wpAny (model prog w) A (call (.builtin "min") [x, y]) Q E s := by
  have hname : (toString "min" ++ toString ".loop" : String) = "min.loop" := by decide
  refine call_function_tree F.kind_min F.plain_min F.entry_min (F.args_min2 _ _) ?_
  show wpAny _ A.in1 (Builtin.Builtins.bindParams "min" ["key", "default"] 0 ⟨[], []⟩ >>= _) _ _ s
  refine wpAny_bind (wpAny_of_eq (show Builtin.Builtins.bindParams "min" ["key", "default"] 0 ⟨[], []⟩ = pure [none, none] from rfl) ?_)
  show wpAny _ A.in1 (newTuple [x, y] >>= _) _ _ s
  refine wpAny_bind (wpAny_newObj_type ?_)
  refine wpAny_bind (wpAny_mono h (fun it s₂ h₂ => ?_) fun _ _ e => e)
  obtain ⟨I, fp, wr, G, n, P, St, H, bt, rfl, W, hst, hfp, hn, hw, hkeep, hcmp, hQ⟩ := h₂
  refine wpAny_bind (wpAny_newObj_type ?_)
  have hSf : s₂.heap.objs.size ∉ fp := fun hm => Nat.lt_irrefl _ (hfp _ hm)
  rw [hname]
  refine wpAny_pure ⟨plainId_quiet F.plain_min_loop _, codeAny_min_loop_firstH W H hw bt hcmp s₂.heap.objs.size hSf (fresh_in hkeep) _ hn (fun b o e => Heap.get?_push_of_some _ (hkeep b o e)) (W.frame 0 s₂ _ s₂.toks hst (Nat.le_refl _) fun b _ o e => Heap.get?_push_of_some _ e) (Heap.get?_push_size _ rfl) fun v s' hP hm => ?_⟩
  exact hQ v s' hP (Moved.drop_new (tk := s₂.toks) hm (Nat.le_refl _))
theorem call_max_two_walkH {x y : Value} {Q : Value → Shared → Prop}
    (h : wpAny (model prog w) A.in1 (pyIter (.ref s.heap.objs.size)) (fun it s₂ => ∃ I fp wr G n P St H bt, it = .ref I ∧ WalksS prog w A.in1 I fp wr G n P St ∧ St 0 s₂ ∧ (∀ b ∈ fp, b < s₂.heap.objs.size) ∧ 0 < n ∧
      (∀ b o, H.get? b = some o → b ∉ wr) ∧ (∀ b o, H.get? b = some o → s₂.heap.get? b = some o) ∧ CmpIn prog w A.in1 .Gt H P bt ∧ ∀ v s', P (argBest bt (n - 1)) v → Moved wr G s₂ s' → Q v s') E
      { s with heap := s.heap.push { cls := .type "tuple", data := .seq #[x, y] } }) :
    wpAny (model prog w) A (call (.builtin "max") [x, y]) Q E s := by
  have hname : (toString "max" ++ toString ".loop" : String) = "max.loop" := by decide
  refine call_function_tree F.kind_max F.plain_max F.entry_max (F.args_max2 _ _) ?_
  show wpAny _ A.in1 (Builtin.Builtins.bindParams "max" ["key", "default"] 0 ⟨[], []⟩ >>= _) _ _ s
  refine wpAny_bind (wpAny_of_eq (show Builtin.Builtins.bindParams "max" ["key", "default"] 0 ⟨[], []⟩ = pure [none, none] from rfl) ?_)
  show wpAny _ A.in1 (newTuple [x, y] >>= _) _ _ s
  refine wpAny_bind (wpAny_newObj_type ?_)
  refine wpAny_bind (wpAny_mono h (fun it s₂ h₂ => ?_) fun _ _ e => e)
  obtain ⟨I, fp, wr, G, n, P, St, H, bt, rfl, W, hst, hfp, hn, hw, hkeep, hcmp, hQ⟩ := h₂
  refine wpAny_bind (wpAny_newObj_type ?_)
  have hSf : s₂.heap.objs.size ∉ fp := fun hm => Nat.lt_irrefl _ (hfp _ hm)
  rw [hname]
  refine wpAny_pure ⟨plainId_quiet F.plain_max_loop _, codeAny_max_loop_firstH W H hw bt hcmp s₂.heap.objs.size hSf (fresh_in hkeep) _ hn (fun b o e => Heap.get?_push_of_some _ (hkeep b o e)) (W.frame 0 s₂ _ s₂.toks hst (Nat.le_refl _) fun b _ o e => Heap.get?_push_of_some _ e) (Heap.get?_push_size _ rfl) fun v s' hP hm => ?_⟩
  exact hQ v s' hP (Moved.drop_new (tk := s₂.toks) hm (Nat.le_refl _))
theorem two_old {s₂ s' : Shared} {a : Addr} {o o1 : Obj} (e : s₂ = { ({ s with heap := s.heap.push o1 } : Shared) with heap := (s.heap.push o1).push o }) (ha : a = (s.heap.push o1).objs.size) (m : Moved [a] (fun a b => b = a) s₂ s') : ∃ h' tk, s' = { s with heap := h', toks := tk } ∧ ∀ b o, s.heap.get? b = some o → h'.get? b = some o := by
  obtain ⟨h', tk, e1, k⟩ := moved_old (s := { s with heap := s.heap.push o1 }) e ha m
  exact ⟨h', tk, e1, fun b o e => k b o (Heap.get?_push_of_some _ e)⟩
theorem min_two_data {x y : Value} {dx dy : PyData} {as bs : List Addr} {Q : Value → Shared → Prop} (hh : A.handled = none) (rx : Reads s.heap x dx as) (ry : Reads s.heap y dy bs) (ha : AlikeAll [dx, dy]) (hu : A.units + 1 + PyData.depthAll [dx, dy] < cLine)
    (h : ∀ h' tk, (∀ b o, s.heap.get? b = some o → h'.get? b = some o) → Q (if dataLt dy dx = true then y else x) { s with heap := h', toks := tk }) :
    wpAny (model prog w) A (call (.builtin "min") [x, y]) Q E s := by
  have k0 : ∀ b o, s.heap.get? b = some o → (s.heap.push { cls := .type "tuple", data := .seq #[x, y] }).get? b = some o := fun b o e => Heap.get?_push_of_some _ e
  have hr : ReadsAll (s.heap.push { cls := .type "tuple", data := .seq #[x, y] }) (#[x, y] : Array Value).toList [dx, dy] (as ++ (bs ++ [])) := .cons (Reads.keeps k0 rx) (.cons (Reads.keeps k0 ry) .nil)
  refine call_min_two_walkH (iter_tupleW (vs := #[x, y]) (A := A.in1) hh ⟨_, Heap.get?_push_size _ rfl, rfl, _, rfl⟩ fun s₂ e W st hfp hw hk => ?_)
  refine ⟨_, _, _, _, _, _, _, _, _, rfl, W, st, hfp, (by show 0 < 2; decide : 0 < (#[x, y] : Array Value).size), hw, hk, cmpIn_lt (A := A.in1) (s := { s with heap := s.heap.push { cls := .type "tuple", data := .seq #[x, y] } }) hr ha (by show A.units + 1 + _ < _; exact hu), fun v s' hP m => ?_⟩
  obtain ⟨h', tk, rfl, hk'⟩ := two_old e rfl m
  have e1 : v = if dataLt dy dx = true then y else x := by
    have hP : (#[x, y] : Array Value)[if dataLt dy dx = true then 1 else 0]? = some v := hP
    by_cases z : dataLt dy dx = true
    · rw [if_pos z] at hP ⊢; exact (Option.some.inj hP).symm
    · rw [if_neg z] at hP ⊢; exact (Option.some.inj hP).symm
  rw [e1]
  exact h h' tk hk'
theorem max_two_data {x y : Value} {dx dy : PyData} {as bs : List Addr} {Q : Value → Shared → Prop} (hh : A.handled = none) (rx : Reads s.heap x dx as) (ry : Reads s.heap y dy bs) (ha : AlikeAll [dx, dy]) (hu : A.units + 1 + PyData.depthAll [dx, dy] < cLine)
    (h : ∀ h' tk, (∀ b o, s.heap.get? b = some o → h'.get? b = some o) → Q (if dataLt dx dy = true then y else x) { s with heap := h', toks := tk }) :
    wpAny (model prog w) A (call (.builtin "max") [x, y]) Q E s := by
  have k0 : ∀ b o, s.heap.get? b = some o → (s.heap.push { cls := .type "tuple", data := .seq #[x, y] }).get? b = some o := fun b o e => Heap.get?_push_of_some _ e
  have hr : ReadsAll (s.heap.push { cls := .type "tuple", data := .seq #[x, y] }) (#[x, y] : Array Value).toList [dx, dy] (as ++ (bs ++ [])) := .cons (Reads.keeps k0 rx) (.cons (Reads.keeps k0 ry) .nil)
  refine call_max_two_walkH (iter_tupleW (vs := #[x, y]) (A := A.in1) hh ⟨_, Heap.get?_push_size _ rfl, rfl, _, rfl⟩ fun s₂ e W st hfp hw hk => ?_)
  refine ⟨_, _, _, _, _, _, _, _, _, rfl, W, st, hfp, (by show 0 < 2; decide : 0 < (#[x, y] : Array Value).size), hw, hk, cmpIn_gt (A := A.in1) (s := { s with heap := s.heap.push { cls := .type "tuple", data := .seq #[x, y] } }) hr ha (by show A.units + 1 + _ < _; exact hu), fun v s' hP m => ?_⟩
  obtain ⟨h', tk, rfl, hk'⟩ := two_old e rfl m
  have e1 : v = if dataLt dx dy = true then y else x := by
    have hP : (#[x, y] : Array Value)[if dataLt dx dy = true then 1 else 0]? = some v := hP
    by_cases z : dataLt dx dy = true
    · rw [if_pos z] at hP ⊢; exact (Option.some.inj hP).symm
    · rw [if_neg z] at hP ⊢; exact (Option.some.inj hP).symm
  rw [e1]
  exact h h' tk hk'
end
end PySem.W
namespace SK
open PySem PySem.Spec PyProof.Rows L2 PySem.W
/-- one pair of numbers ahead of another -/
def ltZ (a b : Int × Int) : Bool := decide (a.1 < b.1 ∨ (a.1 = b.1 ∧ a.2 < b.2))
def pD (a : Int × Int) : PyData := .tuple [.int a.1, .int a.2]
theorem ltZ_data (a b : Int × Int) : dataLt (pD a) (pD b) = ltZ a b := dataLt_ii _ _ _ _
theorem alike_pD (a b : Int × Int) : AlikeAll [pD a, pD b] := by
  refine ⟨fun x hx y hy => ?_, fun x hx => ?_⟩
  · simp only [List.mem_cons, List.not_mem_nil, or_false] at hx hy
    rcases hx with rfl | rfl <;> rcases hy with rfl | rfl <;> rfl
  · simp only [List.mem_cons, List.not_mem_nil, or_false] at hx
    rcases hx with rfl | rfl <;> (intro h; cases h)
def rMinT (K : PySem.W.Frag) : List V → Hp → VK → Prop := fun xs H Q => ∃ (p q : Addr) (a b : Int × Int), xs = [.ref p, .ref q] ∧ SqT K H p [.int a.1, .int a.2] ∧ SqT K H q [.int b.1, .int b.2] ∧ Q (if ltZ b a = true then .ref q else .ref p) H
def rMaxT (K : PySem.W.Frag) : List V → Hp → VK → Prop := fun xs H Q => ∃ (p q : Addr) (a b : Int × Int), xs = [.ref p, .ref q] ∧ SqT K H p [.int a.1, .int a.2] ∧ SqT K H q [.int b.1, .int b.2] ∧ Q (if ltZ a b = true then .ref q else .ref p) H
section
variable {X : Cx}
theorem dp_pair {K : PySem.W.Frag} {H : Hp} {p : Addr} {a : Int × Int} (h : SqT K H p [.int a.1, .int a.2]) : Dp K H (.ref p) (pD a) := .tup h (.cons (.int _) (.cons (.int _) .nil))
theorem depth_pD (a b : Int × Int) : PyData.depthAll [pD a, pD b] ≤ 8 := by
  have e : PyData.depthAll [pD a, pD b] = PyData.depthAll [pD (0, 0), pD (0, 0)] := by
    unfold pD
    simp [PyData.depthAll, PyData.depth]
  rw [e]
  decide
theorem call_minT (hc : X.calm = true) (hu : X.A.units + 64 < cLine) : CallR X (.builtin "min") (rMinT X.K) := by
  intro pins s σ H xs us Q I r h
  obtain ⟨p, q, a, b, rfl, hp, hq, h⟩ := h
  obtain ⟨u, w', rfl, r1, r2⟩ := vals2 r
  obtain rfl : u = Value.ref p := r1
  obtain rfl : w' = Value.ref q := r2
  obtain ⟨as, ra⟩ := Dp.reads I _ _ _ (dp_pair hp) rfl
  obtain ⟨bs, rb⟩ := Dp.reads I _ _ _ (dp_pair hq) rfl
  refine min_two_data (I.ok.hd hc) ra rb (alike_pD _ _) (by have := depth_pD a b; omega) fun h' tk k => ⟨_, H, I.kept k, ?_, h⟩
  rw [ltZ_data]
  by_cases z : ltZ b a = true
  · rw [if_pos z, if_pos z]; rfl
  · rw [if_neg z, if_neg z]; rfl
theorem call_maxT (hc : X.calm = true) (hu : X.A.units + 64 < cLine) : CallR X (.builtin "max") (rMaxT X.K) := by
  intro pins s σ H xs us Q I r h
  obtain ⟨p, q, a, b, rfl, hp, hq, h⟩ := h
  obtain ⟨u, w', rfl, r1, r2⟩ := vals2 r
  obtain rfl : u = Value.ref p := r1
  obtain rfl : w' = Value.ref q := r2
  obtain ⟨as, ra⟩ := Dp.reads I _ _ _ (dp_pair hp) rfl
  obtain ⟨bs, rb⟩ := Dp.reads I _ _ _ (dp_pair hq) rfl
  refine max_two_data (I.ok.hd hc) ra rb (alike_pD _ _) (by have := depth_pD a b; omega) fun h' tk k => ⟨_, H, I.kept k, ?_, h⟩
  rw [ltZ_data]
  by_cases z : ltZ a b = true
  · rw [if_pos z, if_pos z]; rfl
  · rw [if_neg z, if_neg z]; rfl
end
end SK
namespace SK
open PySem PySem.Spec PyProof.Rows L2
abbrev Edge := (Int × Int) × (Int × Int)
def edge (s : Stk) : Edge := if ltZ (s.1 + (dir s.2.2.1).1, s.2.1 + (dir s.2.2.1).2) (s.1, s.2.1) = true then ((s.1 + (dir s.2.2.1).1, s.2.1 + (dir s.2.2.1).2), (s.1, s.2.1)) else ((s.1, s.2.1), (s.1 + (dir s.2.2.1).1, s.2.1 + (dir s.2.2.1).2))
def EdgeAt (H : Hp) (p : Addr) (e : Edge) : Prop := ∃ t1 t2, H p = some (.tup [.ref t1, .ref t2]) ∧ H t1 = some (.tup [.int e.1.1, .int e.1.2]) ∧ H t2 = some (.tup [.int e.2.1, .int e.2.2])
theorem EdgeAt.keep {H H' : Hp} {p : Addr} {e : Edge} (s : TupS H H') (h : EdgeAt H p e) : EdgeAt H' p e := by
  obtain ⟨t1, t2, h0, h1, h2⟩ := h
  exact ⟨t1, t2, s.1 _ _ h0, s.1 _ _ h1, s.1 _ _ h2⟩
theorem dir_ne {h : Int} : (dir h).1 ≠ 0 ∨ (dir h).2 ≠ 0 := by
  unfold dir
  by_cases z : h = 0
  · rw [if_pos z]; exact .inl (by decide)
  · rw [if_neg z]
    by_cases z : h = 1
    · rw [if_pos z]; exact .inr (by decide)
    · rw [if_neg z]
      by_cases z : h = 2
      · rw [if_pos z]; exact .inl (by decide)
      · rw [if_neg z]; exact .inr (by decide)
theorem ltZ_other {a b : Int × Int} (h : a ≠ b) : ltZ b a = !ltZ a b := by
  unfold ltZ
  have h' : a.1 ≠ b.1 ∨ a.2 ≠ b.2 := by
    by_cases z : a.1 = b.1
    · exact .inr (fun y => h (Prod.ext z y))
    · exact .inl z
  rw [← decide_not]
  exact decide_eq_decide.mpr (by omega)
theorem step_ne (s : Stk) : (s.1, s.2.1) ≠ ((s.1 + (dir s.2.2.1).1, s.2.1 + (dir s.2.2.1).2) : Int × Int) := by
  intro z
  injection z with z1 z2
  have := @dir_ne s.2.2.1
  omega
def spEndsOf : Sp := fun vs H Q _ => ∃ (p : Addr) (s : Stk), vs = [.ref p] ∧ H p = some (.tup (stV s)) ∧ 0 ≤ s.2.2.1 ∧ s.2.2.1 < 4 ∧ ∀ (H' : Hp) (r : Addr), Same H H' → H r = none → EdgeAt H' r (edge s) → Q (.ref r) H'
/-- the four steps -/
def StepsAt (K : PySem.W.Frag) (sa : Addr) : Prop := ∃ a0 a1 a2 a3, ModT K sa [.ref a0, .ref a1, .ref a2, .ref a3] ∧ ModT K a0 [.int 1, .int 0] ∧ ModT K a1 [.int 0, .int 1] ∧ ModT K a2 [.int (-1), .int 0] ∧ ModT K a3 [.int 0, .int (-1)]
theorem StepsAt.get {K : PySem.W.Frag} {sa : Addr} {h : Int} (S : StepsAt K sa) (h0 : 0 ≤ h) (h4 : h < 4) : ∃ xs t, ModT K sa xs ∧ atI xs h = some (.ref t) ∧ ModT K t [.int (dir h).1, .int (dir h).2] := by
  obtain ⟨a0, a1, a2, a3, m, m0, m1, m2, m3⟩ := S
  have e : h = 0 ∨ h = 1 ∨ h = 2 ∨ h = 3 := by omega
  rcases e with rfl | rfl | rfl | rfl
  · exact ⟨_, a0, m, rfl, m0⟩
  · exact ⟨_, a1, m, rfl, m1⟩
  · exact ⟨_, a2, m, rfl, m2⟩
  · exact ⟨_, a3, m, rfl, m3⟩
def spEndOf (K : PySem.W.Frag) : Sp := fun vs H Q _ => ∃ (p : Addr) (s : Stk), vs = [.ref p] ∧ SqT K H p (stV s) ∧ 0 ≤ s.2.2.1 ∧ s.2.2.1 < 4 ∧ New (.tup [.int (endS s).1, .int (endS s).2]) H Q
end SK
namespace SK
open PySem PySem.Spec PyProof.Rows L2 PySem.W
/-! ### a dict whose keys are pairs of places -/
def EK (e : Edge) : NestedKey := .tup [.tup [.num e.1.1, .num e.1.2], .tup [.num e.2.1, .num e.2.2]]
theorem EK_inj {a b : Edge} (h : EK a = EK b) : a = b := by
  obtain ⟨⟨a1, a2⟩, ⟨a3, a4⟩⟩ := a
  obtain ⟨⟨b1, b2⟩, ⟨b3, b4⟩⟩ := b
  simp [EK] at h
  obtain ⟨⟨h1, h2⟩, h3, h4⟩ := h
  subst h1 h2 h3 h4
  rfl
abbrev ERow := Edge × Addr × V
def valE (ys : List ERow) (e : Edge) : Option V := (ys.find? fun y => decide (y.1 = e)).map (·.2.2)
def putE (ys : List ERow) (e : Edge) (b : Addr) (v : V) : List ERow := if (valE ys e).isSome then ys.map (fun y => if y.1 = e then (y.1, y.2.1, v) else y) else ys ++ [(e, b, v)]
abbrev EP2 : List ERow → List (NestedKey × Addr × Value) → Prop := Paired fun y x => x.1 = EK y.1 ∧ x.2.1 = y.2.1 ∧ RelV y.2.2 x.2.2
theorem valE_pos {y : ERow} {r : List ERow} {e : Edge} (h : y.1 = e) : valE (y :: r) e = some y.2.2 := by simp [valE, List.find?_cons, h]
theorem valE_neg {y : ERow} {r : List ERow} {e : Edge} (h : ¬ y.1 = e) : valE (y :: r) e = valE r e := by simp [valE, List.find?_cons, h]
theorem EP2.val {ys : List ERow} {xs : List (NestedKey × Addr × Value)} (r : EP2 ys xs) (e : Edge) : RelO (valE ys e) ((atKey xs (EK e)).map (·.2)) := by
  induction r with
  | nil => exact True.intro
  | @cons p q ps qs h t ih =>
    obtain ⟨h1, _, h2⟩ := h
    by_cases z : p.1 = e
    · have e' : q.1 = EK e := by rw [h1, z]
      have b : atKey (q :: qs) (EK e) = some q.2 := by simp [atKey, List.find?_cons, e']
      rw [valE_pos z, b]; exact h2
    · have e' : ¬ q.1 = EK e := fun y => z (EK_inj (h1.symm.trans y))
      have b : atKey (q :: qs) (EK e) = atKey qs (EK e) := by simp [atKey, List.find?_cons, e']
      rw [valE_neg z, b]; exact ih
theorem EP2.put {ys : List ERow} {xs : List (NestedKey × Addr × Value)} (r : EP2 ys xs) (e : Edge) (b : Addr) {v : V} {u : Value} (rv : RelV v u) : EP2 (putE ys e b v) (storedH xs (EK e) b u) := by
  have q := (r.val e).isSome_eq
  rw [Option.isSome_map] at q
  unfold putE storedH
  rw [q]
  by_cases z : (atKey xs (EK e)).isSome = true
  · rw [if_pos z, if_pos z]
    clear q z
    induction r with
    | nil => exact .nil
    | @cons p q ps qs h t ih =>
      rw [List.map_cons, List.map_cons]
      refine .cons ?_ ih
      obtain ⟨h1, h2, h3⟩ := h
      unfold putAt
      by_cases z : p.1 = e
      · rw [if_pos z, if_pos (by rw [h1, z])]; exact ⟨h1, h2, rv⟩
      · rw [if_neg z, if_neg (fun y => z (EK_inj (h1.symm.trans y)))]; exact ⟨h1, h2, h3⟩
  · rw [if_neg z, if_neg z]
    exact Paired.snoc r ⟨rfl, rfl, rv⟩
theorem putE_len (ys : List ERow) (e : Edge) (b : Addr) (v : V) : (putE ys e b v).length ≤ ys.length + 1 := by
  unfold putE
  split
  · rw [List.length_map]; omega
  · rw [List.length_append, List.length_singleton]; exact Nat.le_refl _
theorem valE_map (e f : Edge) (v : V) : ∀ ys : List ERow, valE (ys.map fun y => if y.1 = e then (y.1, y.2.1, v) else y) f = (valE ys f).map fun x => if f = e then v else x
  | [] => rfl
  | y :: r => by
    rw [List.map_cons]
    by_cases h : y.1 = f
    · by_cases g : y.1 = e
      · rw [if_pos g, valE_pos (y := (y.1, y.2.1, v)) h, valE_pos h]
        show some v = some (if f = e then v else _)
        rw [if_pos (h.symm.trans g)]
      · rw [if_neg g, valE_pos h, valE_pos h]
        show some y.2.2 = some (if f = e then v else _)
        rw [if_neg (fun z => g (h.trans z))]
    · have : valE ((if y.1 = e then (y.1, y.2.1, v) else y) :: (r.map fun y => if y.1 = e then (y.1, y.2.1, v) else y)) f = valE (r.map fun y => if y.1 = e then (y.1, y.2.1, v) else y) f := by
        by_cases g : y.1 = e
        · rw [if_pos g]; exact valE_neg (y := (y.1, y.2.1, v)) h
        · rw [if_neg g]; exact valE_neg h
      rw [this, valE_neg h]
      exact valE_map e f v r
theorem valE_snoc (e f : Edge) (b : Addr) (v : V) : ∀ ys : List ERow, valE ys e = none → valE (ys ++ [(e, b, v)]) f = if f = e then some v else valE ys f
  | [], _ => by
    by_cases h : f = e
    · rw [if_pos h]; exact valE_pos (y := (e, b, v)) h.symm
    · rw [if_neg h]; exact valE_neg (y := (e, b, v)) (fun z => h z.symm)
  | y :: r, n => by
    have ny : ¬ y.1 = e := fun z => by rw [valE_pos z] at n; cases n
    rw [valE_neg ny] at n
    rw [List.cons_append]
    by_cases h : y.1 = f
    · rw [valE_pos h, valE_pos h, if_neg (fun z => ny (h.trans z))]
    · rw [valE_neg h, valE_neg h]; exact valE_snoc e f b v r n
theorem valE_put (ys : List ERow) (e f : Edge) (b : Addr) (v : V) : valE (putE ys e b v) f = if f = e then some v else valE ys f := by
  unfold putE
  cases h : valE ys e with
  | none => exact valE_snoc e f b v ys h
  | some x =>
    rw [if_pos (show (some x).isSome = true from rfl), valE_map]
    by_cases z : f = e
    · subst z; rw [h, if_pos rfl]; show some (if f = f then v else x) = _; rw [if_pos rfl]
    · rw [if_neg z]
      cases valE ys f with
      | none => rfl
      | some u => show some (if f = e then v else u) = some u; rw [if_neg z]
theorem putE_mem {ys : List ERow} {e : Edge} {b : Addr} {v : V} {y : ERow} (h : y ∈ putE ys e b v) : (∃ z ∈ ys, y.1 = z.1 ∧ y.2.1 = z.2.1) ∨ (y.1 = e ∧ y.2.1 = b) := by
  unfold putE at h
  split at h
  · obtain ⟨z, hz, rfl⟩ := List.mem_map.mp h
    refine .inl ⟨z, hz, ?_⟩
    by_cases g : z.1 = e
    · rw [if_pos g]; exact ⟨rfl, rfl⟩
    · rw [if_neg g]; exact ⟨rfl, rfl⟩
  · rcases List.mem_append.mp h with h | h
    · exact .inl ⟨y, h, rfl, rfl⟩
    · rw [List.mem_singleton.mp h]; exact .inr ⟨rfl, rfl⟩
def ERaw (P : Program) (w : World) (h : Heap) (d : Addr) (xs : List (NestedKey × Addr × Value)) : Prop := ∃ o es ep, h.get? d = some o ∧ o.ExactDict ∧ o.data = .dict es ep ∧ es.toList = xs.map (entryOfKey (nestedKind P w)) ∧ (xs.map (·.1)).Nodup
def edF (P : Program) (w : World) (d : Addr) (ys : List ERow) (h : Heap) : Prop := ys.length ≤ sizeLine ∧ (d == sysModules) = false ∧ ∃ xs : List (NestedKey × Addr × Value), EP2 ys xs ∧ ERaw P w h d xs
def edO (P : Program) (w : World) (d : Addr) (ys : List ERow) : HO := .ext (edF P w d ys)
theorem edO_ok {P : Program} {w : World} {H : Hp} {h : Heap} {d : Addr} {ys : List ERow} (x : edF P w d ys h) : ObjOk P w H h d (edO P w d ys) := by
  refine ⟨x, ?_, fun h1 h2 q k => ?_⟩
  · obtain ⟨_, _, _, _, o, _, _, ho, _⟩ := x
    exact ⟨o, ho⟩
  · obtain ⟨z, n, xs, r, o, es, ep, ho, h3⟩ := q
    exact ⟨z, n, xs, r, o, es, ep, k _ ho, h3⟩
def EDict (P : Program) (w : World) (H : Hp) (d : Addr) (ys : List ERow) : Prop := H d = some (edO P w d ys) ∧ ∀ y ∈ ys, EdgeAt H y.2.1 y.1
theorem EDict.keep {P : Program} {w : World} {H H' : Hp} {d : Addr} {ys : List ERow} (s : Same H H') (h : EDict P w H d ys) : EDict P w H' d ys := ⟨s _ _ h.1, fun y hy => (h.2 y hy).keep (.of s)⟩
theorem TupS.ext {H : Hp} {D : Addr} {φ : Heap → Prop} {o : HO} (h : H D = some (.ext φ)) : TupS H (upd H D o) := by
  refine ⟨fun b ys e => ?_, fun b ob u e => ?_⟩
  · rw [upd_ne (ne_of e h (by intro z; cases z))]
    exact e
  · rw [upd_ne (ne_of e h (by intro z; cases z))]
    exact e
theorem EDict.put {P : Program} {w : World} {H : Hp} {d b : Addr} {ys : List ERow} {e : Edge} (h : EDict P w H d ys) (hb : EdgeAt H b e) (v : V) : EDict P w (upd H d (edO P w d (putE ys e b v))) d (putE ys e b v) := by
  refine ⟨upd_same, fun y hy => ?_⟩
  have s : TupS H (upd H d (edO P w d (putE ys e b v))) := TupS.ext h.1
  rcases putE_mem hy with ⟨z, hz, e1, e2⟩ | ⟨e1, e2⟩
  · rw [e1, e2]; exact (h.2 z hz).keep s
  · rw [e1, e2]; exact hb.keep s
section
variable {X : Cx} {pins : List (Addr × Obj)} {σ : L2.St} {H : Hp} {s : Shared} {a b : Addr} {ys : List ERow} {e : Edge}
theorem nest_pair (I : Inv X pins σ H s) {t : Addr} {i j : Int} (h : H t = some (.tup [.int i, .int j])) : NestedIs s.heap (.tup [.num i, .num j]) (.ref t) := by
  obtain ⟨_, its, r, o, h1, h2, n, h3⟩ := (show ObjOk X.prog X.w H s.heap t (.tup [.int i, .int j]) from I.hok t _ h)
  obtain ⟨u, w', rfl, ⟨t1, rfl⟩, ⟨t2, rfl⟩⟩ := vals2 r
  exact .tup h1 h2 h3 (.cons (.int _ _) (.cons (.int _ _) .nil))
theorem edge_is (I : Inv X pins σ H s) (h : EdgeAt H b e) : (nestedKind X.prog X.w).is s.heap (EK e) b := by
  obtain ⟨t1, t2, h0, h1, h2⟩ := h
  obtain ⟨_, its, r, o, g1, g2, n, g3⟩ := (show ObjOk X.prog X.w H s.heap b (.tup [.ref t1, .ref t2]) from I.hok b _ h0)
  obtain ⟨u, w', rfl, r1, r2⟩ := vals2 r
  obtain rfl : u = Value.ref t1 := r1
  obtain rfl : w' = Value.ref t2 := r2
  exact ⟨.tup g1 g2 g3 (.cons (nest_pair I h1) (.cons (nest_pair I h2) .nil)), by simp [EK, NestedKey.depth, NestedKey.depthAll]⟩
theorem ed_of (I : Inv X pins σ H s) (h : EDict X.prog X.w H a ys) : ys.length ≤ sizeLine ∧ (a == sysModules) = false ∧ ∃ xs, EP2 ys xs ∧ s.heap.DictOfH (nestedKind X.prog X.w) a xs := by
  obtain ⟨⟨z, n, xs, r, o, es, ep, h1, h2, h3, h4, h5⟩, _⟩ := (show ObjOk X.prog X.w H s.heap a (edO X.prog X.w a ys) from I.hok a _ h.1)
  refine ⟨z, n, xs, r, o, es, ep, h1, h2, h3, h4, ?_, h5⟩
  have all : ∀ {l : List ERow} {m : List (NestedKey × Addr × Value)}, EP2 l m → (∀ y ∈ l, EdgeAt H y.2.1 y.1) → ∀ x ∈ m, (nestedKind X.prog X.w).is s.heap x.1 x.2.1 := by
    intro l m q
    induction q with
    | nil => intro _ x hx; exact nomatch hx
    | @cons p q ps qs hq t ih =>
      intro hl x hx
      rcases List.mem_cons.mp hx with z | hx
      · subst z
        rw [hq.1, hq.2.1]
        exact edge_is I (hl _ List.mem_cons_self)
      · exact ih (fun y hy => hl y (List.mem_cons_of_mem _ hy)) x hx
  exact all r h.2
variable {A : Around} {E : Value → Shared → Prop}
theorem roomE (hu : A.units + 64 < cLine) : (nestedKind X.prog X.w).room A.in1 := by
  show A.units + 1 + 8 < cLine
  omega
theorem e_getItem {v : V} {Q : Value → Shared → Prop} (hu : A.units + 64 < cLine) (I : Inv X pins σ H s) (hd : EDict X.prog X.w H a ys) (hk : EdgeAt H b e) (hv : valE ys e = some v) (h : ∀ w' s', Inv X pins σ H s' → RelV v w' → Q w' s') :
    wpAny (model X.prog X.w) A (getItem (.ref a) (.ref b)) Q E s := by
  obtain ⟨z, n, xs, r, dd⟩ := ed_of I hd
  obtain ⟨w', hw, rw'⟩ := RelO.some_of (v := v) (o := (atKey xs (EK e)).map (·.2)) (by rw [← hv]; exact r.val e)
  obtain ⟨p, hp, hp2⟩ := Option.map_eq_some_iff.mp hw
  refine wpAny_getItem_heap (roomE hu) (edge_is I hk) dd hp ?_
  rw [hp2]
  exact h w' _ (I.tok _) rw'
theorem e_in {Q : Value → Shared → Prop} (hu : A.units + 64 < cLine) (I : Inv X pins σ H s) (hd : EDict X.prog X.w H a ys) (hk : EdgeAt H b e) (h : ∀ s', Inv X pins σ H s' → Q (.bool (valE ys e).isSome) s') :
    wpAny (model X.prog X.w) A (compareOp .In (.ref b) (.ref a)) Q E s := by
  obtain ⟨z, n, xs, r, dd⟩ := ed_of I hd
  refine wpAny_in_heap (roomE hu) (edge_is I hk) n dd ?_
  have q := (r.val e).isSome_eq
  rw [Option.isSome_map] at q
  rw [← q]
  exact h _ (I.tok _)
theorem e_setItem {v : V} {r : Value} {Q : Unit → Shared → Prop} (hu : A.units + 64 < cLine) (I : Inv X pins σ H s) (hd : EDict X.prog X.w H a ys) (hk : EdgeAt H b e) (hl : ys.length < sizeLine) (rv : RelV v r)
    (h : ∀ s', Inv X pins σ (upd H a (edO X.prog X.w a (putE ys e b v))) s' → Q () s') : wpAny (model X.prog X.w) A (setItem (.ref a) (.ref b) r) Q E s := by
  obtain ⟨z, n, xs, rr, dd⟩ := ed_of I hd
  have hz : xs.length ≤ sizeLine := by rw [← Paired.length rr]; exact z
  have hl2 : (putE ys e b v).length ≤ sizeLine := by have := putE_len ys e b v; omega
  refine wpAny_setItem_heap (hsz := hz) (roomE hu) (edge_is I hk) dd fun h' dd' hs => h _ ?_
  obtain ⟨q, es, ep, hq, h2, h3, h4, _, h5⟩ := dd'
  exact d_write I (by rw [hd.1]; exact True.intro) hs ⟨q, hq⟩ (edO_ok ⟨hl2, n, _, rr.put e b rv, q, es, ep, hq, h2, h3, h4, h5⟩)
theorem e_get2 {d : V} {r : Value} {Q : Value → Shared → Prop} (hu : A.units + 64 < cLine) (I : Inv X pins σ H s) (hd : EDict X.prog X.w H a ys) (hk : EdgeAt H b e) (rd : RelV d r) (h : ∀ w' s', Inv X pins σ H s' → RelV ((valE ys e).getD d) w' → Q w' s') :
    wpAny (model X.prog X.w) A (call (.builtin "dict.get") [.ref a, .ref b, r]) Q E s := by
  obtain ⟨z, n, xs, rr, dd⟩ := ed_of I hd
  exact call_meetsIn PySem.F.slot_dict_get dd.typeIs PySem.F.entry_dict_get (PySem.F.args_dict_get_3 _ _ _) (meetsH_dict_get_default (nestedKind X.prog X.w) a b n r) ⟨roomE hu, EK e, xs, edge_is I hk, dd, h _ _ (I.tok _) ((rr.val e).getD rd)⟩
theorem ed_typeIs (I : Inv X pins σ H s) (h : EDict X.prog X.w H a ys) : s.TypeIs (.ref a) "dict" := let ⟨_, _, _, _, dd⟩ := ed_of I h; dd.typeIs
theorem ed_noDict (I : Inv X pins σ H s) (h : EDict X.prog X.w H a ys) : ∀ b, Value.ref a = .ref b → ∃ ob, s.heap.get? b = some ob ∧ ob.dict = none := fun b q => by
  cases q
  obtain ⟨_, _, _, _, ob, _, _, h1, h2, _⟩ := ed_of I h
  exact ⟨ob, h1, h2.2.1⟩
end
/-! readings and rules -/
def tEGet (X : Cx) (td ty : TE) : TE := fun σ H Q => td σ H fun x H1 => ty σ H1 fun y H2 => ∃ a b e ys v, x = .ref a ∧ y = .ref b ∧ EDict X.prog X.w H2 a ys ∧ EdgeAt H2 b e ∧ valE ys e = some v ∧ Q v H2
def tEIn (X : Cx) (ty td : TE) : TE := fun σ H Q => ty σ H fun y H1 => td σ H1 fun x H2 => ∃ a b e ys, x = .ref a ∧ y = .ref b ∧ EDict X.prog X.w H2 a ys ∧ EdgeAt H2 b e ∧ Q (.bl (valE ys e).isSome) H2
def sEPut (X : Cx) (td ty tv : TE) : TS := fun D σ H => tv σ H fun v H1 => td σ H1 fun x H2 => ty σ H2 fun y H3 => ∃ a b e ys, x = .ref a ∧ y = .ref b ∧ EDict X.prog X.w H3 a ys ∧ EdgeAt H3 b e ∧ ys.length < sizeLine ∧ D.nx σ (upd H3 a (edO X.prog X.w a (putE ys e b v)))
def tEGet2 (X : Cx) (td ty tx : TE) : TE := fun σ H Q => td σ H fun x H1 => ∃ a ys, x = .ref a ∧ EDict X.prog X.w H1 a ys ∧ ty σ H1 fun y H2 => tx σ H2 fun z H3 => ∃ b e, y = .ref b ∧ EDict X.prog X.w H3 a ys ∧ EdgeAt H3 b e ∧ Q ((valE ys e).getD z) H3
def tENew (X : Cx) : TE := fun _ H Q => ∀ p, H p = none → Q (.ref p) (upd H p (edO X.prog X.w p []))
section
variable {X : Cx} {o i e f value : Expr} {pos pos' tpos apos cpos : Pos} {td ty tv tx : TE}
theorem pe_eget (hu : X.A.units + 64 < cLine) (ho : PE X o td) (hi : PE X i ty) (hs : NoSl i) : PE X (.Subscript o i pos) (tEGet X td ty) := by
  refine ⟨fun pins s σ H Q I h => ?_⟩
  refine subD_of PySem.F.slot_dict_getitem.lookup hs (thn (ho.run pins s σ H _ I h) fun u s1 ⟨x, H1, I1, rx, q1⟩ => thn (hi.run pins s1 σ H1 _ I1 q1) fun iv s2 ⟨y, H2, I2, ry, a, b, e, ys, v, ex, ey, g, gb, gv, q2⟩ => ?_)
  subst ex ey
  obtain rfl : u = Value.ref a := rx
  obtain rfl : iv = Value.ref b := ry
  exact ⟨ed_typeIs I2 g, e_getItem hu I2 g gb gv fun w' s3 I3 rw' => ⟨v, H2, I3, rw', q2⟩⟩
theorem pc_ein (hu : X.A.units + 64 < cLine) (hi : PE X i ty) (ho : PE X o td) : PC X .In i o (tEIn X ty td) := by
  refine ⟨fun pins s σ H Q I h => ?_⟩
  refine thn (hi.run pins s σ H _ I h) fun iv s1 ⟨y, H1, I1, ry, q1⟩ => thn (ho.run pins s1 σ H1 _ I1 q1) fun u s2 ⟨x, H2, I2, rx, a, b, e, ys, ex, ey, g, gb, q2⟩ => ?_
  subst ex ey
  obtain rfl : u = Value.ref a := rx
  obtain rfl : iv = Value.ref b := ry
  exact e_in hu I2 g gb fun s3 I3 => ⟨.bl _, H2, I3, rfl, q2⟩
theorem ps_eput (hu : X.A.units + 64 < cLine) (ho : PE X o td) (hi : PE X i ty) (hv : PE X value tv) (hs : swapsWith value (some (.Subscript o i pos')) pos.line X.env = pure false) :
    PS X (.Assign [.Subscript o i pos'] value pos) (sEPut X td ty tv) := by
  refine ⟨fun pins s σ H D I h => ?_⟩
  refine wpAny_Assign_Subscript (thn (hv.run pins s σ H _ I h) fun r s1 ⟨v, H1, I1, rv, q1⟩ => thn (ho.run pins s1 σ H1 _ I1 q1) fun u s2 ⟨x, H2, I2, rx, q2⟩ => thn (hi.run pins s2 σ H2 _ I2 q2) fun iv s3 ⟨y, H3, I3, ry, a, b, e, ys, ex, ey, g, gb, gl, q3⟩ => ?_) hs
  subst ex ey
  obtain rfl : u = Value.ref a := rx
  obtain rfl : iv = Value.ref b := ry
  exact e_setItem hu I3 g gb gl rv fun s4 I4 => ⟨σ, _, I4, q3⟩
theorem pe_eget2 (hu : X.A.units + 64 < cLine) (ho : PE X o td) (he : PE X e ty) (hf : PE X f tx) (m : M2 X o "get" apos e f cpos) : PE X (.Call (.Attribute o "get" apos) [e, f] [] cpos) (tEGet2 X td ty tx) := by
  refine ⟨fun pins s σ H Q I h => ?_⟩
  refine wpAny_Call_method m.base m.few m.line PySem.F.plainAttrs_dict PySem.F.slot_dict_get PySem.F.type_dict_get (thn (ho.run pins s σ H _ I h) fun u s1 ⟨x, H1, I1, rx, a, ys, ex, d, q1⟩ => ?_)
  subst ex
  obtain rfl : u = Value.ref a := rx
  refine ⟨ed_typeIs I1 d, ed_noDict I1 d, ?_⟩
  rw [m.trees]
  refine Calls.callWith_builtin rfl (Calls.evalArgs_plain (Calls.spliced_cons (thn (he.run pins s1 σ H1 _ I1 q1) fun iv s2 ⟨y, H2, I2, ry, q2⟩ =>
    Calls.spliced_cons (thn (hf.run pins s2 σ H2 _ I2 q2) fun fv s3 ⟨z, H3, I3, rz, b, e, ey, g, gb, q3⟩ => Calls.spliced_nil ?_))))
  subst ey
  obtain rfl : iv = Value.ref b := ry
  exact e_get2 hu I3 g gb rz fun w' s4 I4 rw' => ⟨_, H3, I4, rw', q3⟩
theorem pe_enew : PE X (.Dict [] [] pos) (tENew X) := ⟨fun pins s σ H Q I h =>
  wpAny_Dict_empty ⟨.ref s.heap.objs.size, _, I.laid (a := s.heap.objs.size) (o := edO X.prog X.w s.heap.objs.size []) (t' := s.toks) (fun _ _ q => Heap.get?_push_of_some _ q) (Nat.le_refl _)
    (edO_ok ⟨Nat.zero_le _, beq_eq_false_iff_ne.mpr (Ne.symm (Nat.ne_of_lt I.big)), [], .nil, _, #[], 0, Heap.get?_push_size _ rfl, ⟨rfl, rfl, rfl⟩, rfl, rfl, List.nodup_nil⟩), rfl, h _ (I.hok.fresh (Nat.le_refl _))⟩⟩
end
end SK
/-! a dict whose keys are pairs of places: made by a comprehension, walked by its keys -/
namespace SK
open PySem PySem.Spec PyProof.Rows L2 PySem.W
section
variable {X : Cx}
theorem e_dictSet {pins : List (Addr × Obj)} {σ : L2.St} {H : Hp} {s : Shared} {E : Value → Shared → Prop} {D b : Addr} {ys : List ERow} {e : Edge} {v : V} {r : Value} {Q : Unit → Shared → Prop} (hu : X.A.units + 64 < cLine) (I : Inv X pins σ H s) (hd : EDict X.prog X.w H D ys) (hk : EdgeAt H b e) (hl : ys.length < sizeLine)
    (rv : RelV v r) (h : ∀ z, Inv X pins σ (upd H D (edO X.prog X.w D (putE ys e b v))) z → Q () z) : wpAny (model X.prog X.w) X.A (dictSet D (.ref b) r) Q E s := by
  obtain ⟨z, n, xs, rr, dd⟩ := ed_of I hd
  have hz : xs.length ≤ sizeLine := by rw [← Paired.length rr]; exact z
  have hl2 : (putE ys e b v).length ≤ sizeLine := by have := putE_len ys e b v; omega
  refine wpAny_dictSet_heap (hsz := hz) (show (nestedKind X.prog X.w).room X.A from (by show X.A.units + 8 < cLine; omega)) (edge_is I hk) dd fun h1 dd1 hs => h _ ?_
  obtain ⟨q, es, ep, hq, h2, h3, h4, _, h5⟩ := dd1
  exact d_write I (by rw [hd.1]; exact True.intro) hs ⟨q, hq⟩ (edO_ok ⟨hl2, n, _, rr.put e b rv, q, es, ep, hq, h2, h3, h4, h5⟩)
/-- {pair of places: v for a in s} -/
def tDcE (X : Cx) (wi : TI) (g : TG) (tk tv : TE) (vs : List Nat) : TE := fun σ H Q => wi σ H fun J H1 => ∀ D, H1 D = none → ∃ W : Nat → Nat → Hp → Prop, (∃ m, W 0 m (upd H1 D (edO X.prog X.w D []))) ∧ ∀ i m H, W i m H →
  (J.stop i H ∧ Q (.ref D) H) ∨ (J.go i H ∧ ∃ Nx : Hp → Prop, (∀ H', Nx H' → ∃ m', m' < m ∧ W (i + 1) m' H') ∧ ∀ x H', J.yld i H x H' → g x (wipe σ vs) H' fun σ2 H2 => wipe σ2 vs = wipe σ vs ∧
    tk σ2 H2 fun y H3 => tv σ2 H3 fun z H4 => ∃ ys e b, y = .ref b ∧ EDict X.prog X.w H4 D ys ∧ EdgeAt H4 b e ∧ ys.length < sizeLine ∧ Nx (upd H4 D (edO X.prog X.w D (putE ys e b z))))
theorem dcE_core {pins : List (Addr × Obj)} {s : Shared} {σ : L2.St} {H : Hp} {Q : VK} {kx vx ta sa : Expr} {scope : Scope} {own : List (Str × Nat)} {pos : Pos} {wi : TI} {g : TG} {tk tv : TE} {pos' : Pos} {use : Option (Value → Sem Unit)} {Qf : Value → Shared → Prop} (hu : X.A.units + 64 < cLine) (hc : X.calm = true) (hN : X.N.Nodup) (hi : PI X ta sa wi) (ok : BlkOk X.N X.env.scope scope own)
    (hg : ∀ (s : Shared) (H : Hp) (C : Addr) (cl : List (Str × Addr)) (fp : List Addr), PG (X.blk s H scope (compEnvC scope cl C X.env) fp) ta g)
    (hk : ∀ (s : Shared) (H : Hp) (C : Addr) (cl : List (Str × Addr)) (fp : List Addr), PE (X.blk s H scope (compEnvC scope cl C X.env) fp) kx tk)
    (he : ∀ (s : Shared) (H : Hp) (C : Addr) (cl : List (Str × Addr)) (fp : List Addr), PE (X.blk s H scope (compEnvC scope cl C X.env) fp) vx tv) (hs : ∀ x, foldedSetIterable sa X.env x = pure x) (I : Inv X pins σ H s) (h : tDcE X wi g tk tv (own.map (·.2)) σ H Q)
    (hRR : ∀ D C s' m H', Inv X pins σ H' s' → Q (.ref D) H' → s'.heap.Ns C m → FpOk X pins H' C → compPost (model X.prog X.w) X.A X.xe use Qf (.ref D) C (.ok .next) s') :
    wpAny (model X.prog X.w) X.A (comprehension (.DictComp kx vx [⟨ta, sa, [], 0⟩] scope pos) scope X.env pos' newDict false (eval sa X.env) use) Qf X.xe s := by
  have frees : ∀ y ∈ scope.names, y.2 = .free → ∃ c, X.env.cells.lookup y.1 = some c := fun y hy e => (ok.free y hy e).elim (fun k => I.ok.has _ (.inl k)) fun k => I.ok.has _ (.inr k)
  refine wpAny_comprehension_free (use := use) rfl hs (closure_ok frees) ok.kind (fun y hy e => by rw [ok.uniq y hy, e]) (thn (hi.run pins s σ H _ I h) fun xv s1 hx => thn hx fun iv s2 h2 => ?_)
  obtain ⟨it, fp, tn, J, H2, rfl, I2, T, st2, f2, q⟩ := h2
  refine wpAny_newObj_type (newEnv_comp ?_)
  generalize hD : s2.heap.objs.size = D
  have nD : H2 D = none := I2.hok.fresh (Nat.le_of_eq hD)
  obtain ⟨W, ⟨m0, w0⟩, turn⟩ := q D nD
  generalize h3e : ({ s2 with heap := s2.heap.push { cls := .type "dict", data := .dict #[] } } : Shared) = s3
  have h3 : s3.heap = s2.heap.push { cls := .type "dict", data := .dict #[] } := by rw [← h3e]
  have I3 : Inv X pins σ (upd H2 D (edO X.prog X.w D [])) s3 := by
    rw [← h3e]
    refine I2.laid (t' := s2.toks) (fun b o e => Heap.get?_push_of_some _ e) (Nat.le_of_eq hD) ?_
    rw [← hD]
    exact edO_ok ⟨Nat.zero_le _, beq_eq_false_iff_ne.mpr (Ne.symm (Nat.ne_of_lt I2.big)), [], .nil, _, #[], 0, Heap.get?_push_size _ rfl, ⟨rfl, rfl, rfl⟩, rfl, rfl, List.nodup_nil⟩
  have f3 : ∀ b ∈ fp, FpOk X pins (upd H2 D (edO X.prog X.w D [])) b ∧ b < s3.heap.objs.size := fun b hb => by
    obtain ⟨o, e, _⟩ := T.obj _ _ st2 b hb
    have lt := Heap.lt_size e
    refine ⟨⟨?_, (f2 b hb).2⟩, by rw [h3, Heap.size_push]; exact Nat.lt_succ_of_lt lt⟩
    rw [upd_ne (by rw [← hD]; exact Nat.ne_of_lt lt)]
    exact (f2 b hb).1
  have nf : ∀ b ∈ fp, (upd H2 D (edO X.prog X.w D [])) b = none := fun b hb => (f3 b hb).1.1
  have st3 : tn 0 s3.heap := T.keep _ _ _ st2 fun b _ o e => by rw [h3]; exact Heap.get?_push_of_some _ e
  have I4 := block_start I3 ok hN f3
  have pg := hg s3 (upd H2 D (edO X.prog X.w D [])) s3.heap.objs.size (cellsFrom (s3.heap.objs.size + 1) scope.names (cloFrom X.env.cells scope.names [])) fp
  have pk := hk s3 (upd H2 D (edO X.prog X.w D [])) s3.heap.objs.size (cellsFrom (s3.heap.objs.size + 1) scope.names (cloFrom X.env.cells scope.names [])) fp
  have pe := he s3 (upd H2 D (edO X.prog X.w D [])) s3.heap.objs.size (cellsFrom (s3.heap.objs.size + 1) scope.names (cloFrom X.env.cells scope.names [])) fp
  show codeAny _ _ (.compStart (.DictComp kx vx [⟨ta, sa, [], 0⟩] scope pos) 0 (.ref it) (.ref D) (compEnvC scope (cellsFrom (s3.heap.objs.size + 1) scope.names (cloFrom X.env.cells scope.names [])) s3.heap.objs.size X.env)) (compPost (model X.prog X.w) X.A X.xe use Qf (.ref D) s3.heap.objs.size) { s3 with heap := pushCells (s3.heap.push { cls := .type "dict", data := .dict #[] }) scope.names }
  generalize hce : compEnvC scope (cellsFrom (s3.heap.objs.size + 1) scope.names (cloFrom X.env.cells scope.names [])) s3.heap.objs.size X.env = ce at I4 pg pk pe ⊢
  have cL : ce.locals = s3.heap.objs.size := by subst hce; rfl
  generalize hH3 : upd H2 D (edO X.prog X.w D []) = H3 at I3 I4 pg pk pe w0 nf f3
  generalize h4e : ({ s3 with heap := pushCells (s3.heap.push { cls := .type "dict", data := .dict #[] }) scope.names } : Shared) = s4 at I4 ⊢
  have st4 : tn 0 s4.heap := T.keep _ _ _ st3 fun b _ o e => by rw [← h4e]; exact pushCells_keeps _ _ _ _ (Heap.get?_push_of_some _ e)
  have stat : ∀ {τ : L2.St} {H' : Hp} {t : Shared}, Inv (X.blk s3 H3 scope ce fp) [] τ H' t → (∀ b ∈ fp, H' b = none) → ∀ b ∈ fp, FpOk (X.blk s3 H3 scope ce fp) [] H' b := fun {τ H' t} J' hn b hb =>
    ⟨hn b hb, (J'.ok.exf b hb).1, J'.ok.exfs b hb, .inl hb, fun x c e => (J'.ok.exf b hb).2 x c e, fun p hp => absurd (show p ∈ ([] : List (Addr × Obj)) ++ [] from hp) (by simp)⟩
  have turns : codeAny (model X.prog X.w) X.A (.compLoop (.DictComp kx vx [⟨ta, sa, [], 0⟩] scope pos) 0 (.ref it) (.ref D) ce) (compPost (model X.prog X.w) X.A X.xe use Qf (.ref D) s3.heap.objs.size) s4 := by
    refine compLoop_anyD (fun n t => ∃ i H', Inv (X.blk s3 H3 scope ce fp) [] (wipe σ (own.map (·.2))) H' t ∧ tn i t.heap ∧ (∀ b ∈ fp, H' b = none) ∧ W i n H') ?_ m0 ⟨0, H3, I4, st4, nf, w0⟩
    rintro n s5 ⟨i, H5, J5, st5, n5, w5⟩
    rcases turn i n H5 w5 with ⟨stop, fin⟩ | ⟨go, Nx, hNx, step⟩
    · refine thnF (T.done (X.blk s3 H3 scope ce fp) rfl rfl rfl hc i [] s5 _ H5 (fun _ _ => False) J5 (stat J5 n5) st5 stop) fun r s6 ⟨hr, J6⟩ => ?_
      subst hr
      have I7 : Inv X pins σ H5 s6 := I3.call' (ch := fp) J6.os J6.base J6.hok J6.bare fun b hb => ⟨(f3 b hb).1.2.2.2.1, (f3 b hb).1.2.1, (f3 b hb).1.2.2.2.2.1, (f3 b hb).1.2.2.2.2.2⟩
      have nC : H5 s3.heap.objs.size = none := by
        have z : H5 ce.locals = none := J6.free
        rwa [cL] at z
      obtain ⟨m, hn, _⟩ := J6.loc
      have hn : s6.heap.Ns ce.locals m := hn
      rw [cL] at hn
      exact hRR D s3.heap.objs.size s6 m H5 I7 fin hn (I3.fpOk (Nat.le_refl _) nC)
    · refine thnF (T.item (X.blk s3 H3 scope ce fp) rfl rfl rfl hc i [] s5 _ H5 (fun _ _ => False) J5 (stat J5 n5) st5 go) fun r s6 ⟨u, hr, h6⟩ => ?_
      subst hr
      refine thnF h6 fun _ s7 ⟨x, H7, J7, r7, y7, st7, n7⟩ => ?_
      refine thnF (pg.run _ s7 _ H7 x u _ (J7.pinned (stat J7 n7) (T.obj _ _ st7)) r7 (step x H7 y7)) fun _ s8 ⟨σ8, H8, J8, hw8, q8⟩ => ?_
      show wpAny _ _ (pure true) _ _ s8
      refine wpAny_pure ?_
      simp only [if_true]
      refine thnF (pk.run _ s8 σ8 H8 _ J8 q8) fun kv s9 ⟨yk, H9, J9, r9, q9⟩ => ?_
      refine thnF (pe.run _ s9 σ8 H9 _ J9 q9) fun vv s10 ⟨yv, H10, J10, r10, ys, e, b, ek, hD10, hb10, hz10, nx⟩ => ?_
      subst ek
      cases (show kv = Value.ref b from r9)
      refine e_dictSet (X := X.blk s3 H3 scope ce fp) hu J10 hD10 hb10 hz10 r10 fun s11 J11 => ?_
      obtain ⟨m2, hm, w2⟩ := hNx _ nx
      have still : ∀ c ∈ fp, ∀ o, s7.heap.get? c = some o → s11.heap.get? c = some o ∧ (upd H10 D (edO X.prog X.w D (putE ys e b yv))) c = none := fun c hc o e' => by
        have z := J11.pin (c, o) (List.mem_append_right _ (List.mem_append_right _ (mem_pinsAt hc e')))
        exact ⟨z.1, z.2.1⟩
      refine ⟨m2, hm, i + 1, _, (J11.unpinned (pins := [])).weak (by rw [← hw8, wipe_length]) (fun l v e' => by rw [← hw8] at e'; exact (wipe_some e').1), T.keep _ _ _ st7 fun c hc o e' => (still c hc o e').1, fun c hc => ?_, w2⟩
      obtain ⟨o, e', _⟩ := T.obj _ _ st7 c hc
      exact (still c hc o e').2
  exact codeAny_compStart_dict turns (T.self X.A 0 _ _ _ st4 turns)
theorem pe_dcE {kx vx ta sa : Expr} {scope : Scope} {own : List (Str × Nat)} {pos : Pos} {wi : TI} {g : TG} {tk tv : TE} (hu : X.A.units + 64 < cLine) (hc : X.calm = true) (hN : X.N.Nodup) (hi : PI X ta sa wi) (ok : BlkOk X.N X.env.scope scope own)
    (hg : ∀ (s : Shared) (H : Hp) (C : Addr) (cl : List (Str × Addr)) (fp : List Addr), PG (X.blk s H scope (compEnvC scope cl C X.env) fp) ta g)
    (hk : ∀ (s : Shared) (H : Hp) (C : Addr) (cl : List (Str × Addr)) (fp : List Addr), PE (X.blk s H scope (compEnvC scope cl C X.env) fp) kx tk)
    (he : ∀ (s : Shared) (H : Hp) (C : Addr) (cl : List (Str × Addr)) (fp : List Addr), PE (X.blk s H scope (compEnvC scope cl C X.env) fp) vx tv) (hs : ∀ x, foldedSetIterable sa X.env x = pure x := by intro _; rfl) :
    PE X (.DictComp kx vx [⟨ta, sa, [], 0⟩] scope pos) (tDcE X wi g tk tv (own.map (·.2))) := by
  refine ⟨fun pins s σ H Q I h => ?_⟩
  rw [arm_eval_DictComp]
  refine dcE_core hu hc hN hi ok hg hk he hs I h fun D C s1 m H1 I1 q hn f => ⟨m, hn, fun h2 sb => ?_⟩
  obtain ⟨c0, c1, c2, c3, c4, c5⟩ := f
  exact ⟨.ref D, H1, I1.turned (t' := s1.toks) (fun b o hb e => (sb.2 b hb).trans e) c0 c1 c3 c4 c5, rfl, q⟩
theorem ps_setDcE {i : Nat} {y : Str} {py spos : Pos} {kx vx ta sa : Expr} {scope : Scope} {own : List (Str × Nat)} {pos : Pos} {wi : TI} {g : TG} {tk tv : TE} (hu : X.A.units + 64 < cLine) (hc : X.calm = true) (hN : X.N.Nodup) (hi : PI X ta sa wi) (ok : BlkOk X.N X.env.scope scope own)
    (hg : ∀ (s : Shared) (H : Hp) (C : Addr) (cl : List (Str × Addr)) (fp : List Addr), PG (X.blk s H scope (compEnvC scope cl C X.env) fp) ta g)
    (hk : ∀ (s : Shared) (H : Hp) (C : Addr) (cl : List (Str × Addr)) (fp : List Addr), PE (X.blk s H scope (compEnvC scope cl C X.env) fp) kx tk)
    (he : ∀ (s : Shared) (H : Hp) (C : Addr) (cl : List (Str × Addr)) (fp : List Addr), PE (X.blk s H scope (compEnvC scope cl C X.env) fp) vx tv) (hy : X.N[i]? = some y) (hyl : X.env.scope.names.lookup y = some .local)
    (hsw : swapsWith (.DictComp kx vx [⟨ta, sa, [], 0⟩] scope pos) (some (.Name y py)) spos.line X.env = pure true) (hs : ∀ x, foldedSetIterable sa X.env x = pure x := by intro _; rfl) :
    PS X (.Assign [.Name y py] (.DictComp kx vx [⟨ta, sa, [], 0⟩] scope pos) spos) (tAsg (tDcE X wi g tk tv (own.map (·.2))) (gName i)) := by
  refine ⟨fun pins s σ H D I h => ?_⟩
  rw [exec_Assign_Name_used _ _ _ _ hsw]
  refine wpAny_bind (wpAny_standAt (wpAny_bind ?_))
  show wpAny _ X.A (do let _ ← comprehension (.DictComp kx vx [⟨ta, sa, [], 0⟩] scope pos) scope X.env (firstIterPos [⟨ta, sa, [], 0⟩] pos) newDict false (eval sa X.env) (some (assign (.Name y py) X.env))) _ _ s
  have h : tDcE X wi g tk tv (own.map (·.2)) σ H (fun x H1 => gName i x σ H1 D.nx) := h
  refine wpAny_bind (thn (dcE_core (Qf := fun _ s1 => SP X pins D .next s1) hu hc hN hi ok hg hk he hs I h fun L C s1 m H1 I1 q hn f => ?_) fun _ s1 hq => wpAny_pure (wpAny_pure hq))
  show wpAny _ _ (assign (.Name y py) X.env (.ref L)) _ _ _
  refine wpAny_assign_Name (store_ok2 (v := V.ref L) I1 hN hy (.inl hyl) rfl (fun s2 I2 ⟨a, sb, ha⟩ => ?_) (.inr hyl))
  obtain ⟨c0, c1, c2, c3, c4, c5⟩ := f
  refine ⟨m, hn.sameBut sb (ha.elim (fun z => z ▸ c1) fun z e => c4 y a z e.symm), fun h3 sb3 => ?_⟩
  exact ⟨_, H1, I2.turned (t' := s2.toks) (fun b o hb e => (sb3.2 b hb).trans e) c0 c1 c3 c4 c5, q⟩
end
/-! ### for k in d, d locked -/
def ItE (P : Program) (w : World) (d : Addr) (o : Obj) (ys : List ERow) : It :=
  ⟨fun i H => H d = some (.frz o (edO P w d ys)) ∧ i < ys.length, fun i H x H' => H' = H ∧ ∃ y, ys[i]? = some y ∧ x = .ref y.2.1, fun i H => H d = some (.frz o (edO P w d ys)) ∧ ys.length ≤ i⟩
theorem frzE {X : Cx} {pins : List (Addr × Obj)} {σ : L2.St} {H : Hp} {s : Shared} {d : Addr} {o : Obj} {ys : List ERow} (I : Inv X pins σ H s) (h : H d = some (.frz o (edO X.prog X.w d ys))) :
    (d == sysModules) = false ∧ s.heap.get? d = some o ∧ o.ExactDict ∧ ∃ (es : Array DictEntry) (ep : Nat), o.data = .dict es ep ∧ es.size = ys.length ∧ ∀ (i : Nat) (y : ERow), ys[i]? = some y → ∃ en : DictEntry, es[i]? = some en ∧ en.key = .ref y.2.1 := by
  obtain ⟨hd, ⟨z, n, xs, r, o2, es, ep, ho, hx, hdt, he, _⟩, _⟩ := I.hok d _ h
  rw [hd] at ho
  cases ho
  refine ⟨n, hd, hx, es, ep, hdt, ?_, fun i y e => ?_⟩
  · rw [size_of_entries he, Paired.length r]
  · obtain ⟨b, hb, _, e2, _⟩ := L2.paired_get r e
    have q := entry_at he i
    rw [hb] at q
    exact ⟨_, q, by rw [← e2]; rfl⟩
theorem turnE {P : Program} {w : World} {K : PySem.W.Frag} {tg : Expr} {d : Addr} {o : Obj} {es : Array DictEntry} {ep : Nat} {ys : List ERow} (it : Addr) (hod : o.data = .dict es ep) : Turn P w K tg (ItE P w d o ys) [it] it (fun i h => h.IsKeyIter it d i ys.length ep) where
  mem := List.mem_singleton.mpr rfl
  obj := fun i h st b hb => by
    cases List.mem_singleton.mp hb
    obtain ⟨oi, e, c, dd⟩ := st
    exact ⟨oi, e, fun v z => by rw [dd] at z; cases z⟩
  keep := fun i h h1 st k => st.at fun oi e => k it (List.mem_singleton.mpr rfl) oi e
  item := by
    intro X hP hw hK hc i pins s σ H E I hf st hg
    cases hP; cases hw; cases hK
    obtain ⟨hd, hi⟩ := hg
    obtain ⟨f0, f1, f2, f3, f4, f5⟩ := hf it (List.mem_singleton.mpr rfl)
    obtain ⟨hs, hgd, hx, es1, ep1, hdt, hsz, ent⟩ := frzE I hd
    obtain ⟨rfl, rfl⟩ := dict_ep hod hdt
    have hy := List.getElem?_eq_getElem hi
    generalize ys[i] = y at hy
    obtain ⟨en, hen, hkey⟩ := ent i y hy
    refine next_key_item st hgd hdt hsz hen fun h1 st1 sb => ?_
    have I1 : Inv X pins σ H { s with heap := h1 } := I.turned (t' := s.toks) (fun b ob hb e => (sb.2 b hb).trans e) f0 f1 f3 f4 f5
    obtain ⟨oi, e, c, dd⟩ := id st1
    exact ⟨en.key, rfl, go_of (s := { s with heap := h1 }) e c dd (by decide) ⟨.ref y.2.1, H, I1, hkey, ⟨rfl, y, hy, rfl⟩, st1, fun b hb => (hf b hb).1⟩⟩
  done := by
    intro X hP hw hK hc i pins s σ H E I hf st hg
    cases hP; cases hw; cases hK
    obtain ⟨hd, hi⟩ := hg
    obtain ⟨f0, f1, f2, f3, f4, f5⟩ := hf it (List.mem_singleton.mpr rfl)
    obtain ⟨hs, hgd, hx, es1, ep1, hdt, hsz, ent⟩ := frzE I hd
    obtain ⟨rfl, rfl⟩ := dict_ep hod hdt
    exact next_key_end (I.ok.hd hc) st hgd hdt hsz hi fun h1 eb => ⟨rfl, I.turned (t' := s.toks) (fun b ob hb e => eb b ob hb e) f0 f1 f3 f4 f5⟩
  self := fun A i s Q E st h => wpAny_pyIter_keyiter st h
def iKeysE (X : Cx) (td : TE) : TI := fun σ H R => td σ H fun x H1 => ∃ d o ys, x = .ref d ∧ H1 d = some (.frz o (edO X.prog X.w d ys)) ∧ R (ItE X.prog X.w d o ys) H1
theorem pi_keysE {X : Cx} {tg e : Expr} {td : TE} (he : PE X e td) : PI X tg e (iKeysE X td) := by
  refine ⟨fun pins s σ H R I h => ?_⟩
  refine thn (he.run pins s σ H _ I h) fun u s1 ⟨x, H1, I1, rx, d, o, ys, ex, hd, q⟩ => ?_
  cases ex
  cases (show u = Value.ref d from rx)
  obtain ⟨hs, hgd, hx, es, ep, hdt, hsz, ent⟩ := frzE I1 hd
  refine iter_keys hs hgd hx hdt (pi_one (tk := s1.toks) I1 _ (turnE _ hdt) ⟨_, Heap.get?_push_size _ rfl, rfl, ?_⟩ q)
  rw [hsz] <;> rfl
/-- the readings by the program and the world -/
def tEInP (P : Program) (w : World) (ty td : TE) : TE := fun σ H Q => ty σ H fun y H1 => td σ H1 fun x H2 => ∃ a b e ys, x = .ref a ∧ y = .ref b ∧ EDict P w H2 a ys ∧ EdgeAt H2 b e ∧ Q (.bl (valE ys e).isSome) H2
theorem pc_einP {X : Cx} {i o : Expr} {ty td : TE} (hu : X.A.units + 64 < cLine) (hi : PE X i ty) (ho : PE X o td) : PC X .In i o (tEInP X.prog X.w ty td) := pc_ein hu hi ho
end SK
/-! what a picture's lines are -/
namespace SK
open PySem PySem.Spec PyProof.Rows L2 SX
/-- a gap ahead of each sign -/
def btw (gs ss : List Nat) : List Nat := (List.zipWith (fun g s => [g, s]) gs ss).flatten
theorem btw_nil {ss : List Nat} : btw [] ss = [] := rfl
theorem btw_cons {g s : Nat} {gs ss : List Nat} : btw (g :: gs) (s :: ss) = g :: s :: btw gs ss := rfl
/-- the sides of the places of one y -/
def sgP (F : Pt → Bool) (y : Int) (x : Int) : Nat := if F (x, y) = true then 111 else 46
def gpP (G : Edge → Bool) (y : Int) (x : Int) : Nat := if G ((x - 1, y), (x, y)) = true then 45 else 32
def sgB (G : Edge → Bool) (y : Int) (x : Int) : Nat := if G ((x, y - 1), (x, y)) = true then 124 else 32
def lineP (F : Pt → Bool) (G : Edge → Bool) (y : Int) (xs : List Int) : List Nat := (btw (xs.map (gpP G y)) (xs.map (sgP F y))).drop 1
def lineB (G : Edge → Bool) (y : Int) (xs : List Int) : List Nat := (btw (xs.map fun _ => 32) (xs.map (sgB G y))).drop 1
theorem btw_len : ∀ gs ss : List Nat, gs.length = ss.length → (btw gs ss).length = 2 * gs.length
  | [], [], _ => rfl
  | g :: gs, s :: ss, h => by
    rw [btw_cons, List.length_cons, List.length_cons, List.length_cons, btw_len gs ss (Nat.succ.inj h)]
    omega
/-- one-sign texts -/
abbrev sg (l : List Nat) : List V := l.map fun c => V.str (S [c])
theorem joinL_nil : ∀ l : List (List Nat), TL.joinL [] l = l.flatten
  | [] => rfl
  | [p] => by rw [List.flatten_cons, List.flatten_nil, List.append_nil]; rfl
  | p :: q :: r => by
    show p ++ ([] ++ TL.joinL [] (q :: r)) = p ++ (q :: r).flatten
    rw [joinL_nil (q :: r), List.nil_append]
theorem cutS_one (l : List Nat) : cutS (S l) (some 1) none = S (l.drop 1) := by
  unfold cutS
  rw [HT.sIx_none, show (1 : Int) = ((1 : Nat) : Int) from rfl, HT.sIx_nat]
  have e : (S l).length = l.length := S_len l
  rw [e]
  congr 1
  show (List.take (l.length - min 1 l.length) (List.drop (min 1 l.length) l)).toArray = _
  congr 1
  cases l with
  | nil => rfl
  | cons x l =>
    rw [Nat.min_eq_left (by rw [List.length_cons]; omega)]
    exact List.take_of_length_le (by rw [List.length_drop]; exact Nat.le_refl _)
/-! ### rows from the greatest y down -/
def ysL (hi : Int) (n : Nat) : List Int := (List.range n).map fun i => hi - (i : Nat)
def rowsL (F : Pt → Bool) (G : Edge → Bool) (xs : List Int) (lo : Int) (ys : List Int) : List (List Nat) := ys.flatMap fun y => lineP F G y xs :: (if lo < y then [lineB G y xs] else [])
def xsL (lo : Int) (n : Nat) : List Int := (List.range n).map fun i => lo + (i : Nat)
def picL (F : Pt → Bool) (G : Edge → Bool) (c e : Pt) : List Nat :=
  if e.1 < c.1 then [] else TL.joinL [10] (rowsL F G (xsL c.1 (e.1 + 1 - c.1).toNat) c.2 (ysL e.2 (e.2 + 1 - c.2).toNat))
/-! ### which places and sides -/
abbrev inE (es : List Edge) (g : Edge) : Bool := decide (g ∈ es)
def inP (es : List Edge) (p : Pt) : Bool := es.any fun g => decide (g.1 = p) || decide (g.2 = p)
end SK
namespace SK
open PySem PySem.Spec PyProof.Rows L2 SX
def Big (c e : Pt) : Prop := 60 ≤ e.1 - c.1 ∨ 60 ≤ e.2 - c.2
instance (c e : Pt) : Decidable (Big c e) := inferInstanceAs (Decidable (_ ∨ _))
def spChkPic (CT : Addr) : Sp := fun vs H Q E => ∃ (b ca ea : Addr) (n : Nat) (ws : List (List Sy)) (st : List Sy) (c e : Pt), vs = [.ref b, .int n, .ref ca, .ref ea] ∧ BookAt H b ws st ∧ GoodBook ws st ∧ n ≤ 400 ∧
  H ca = some (.tup [.int c.1, .int c.2]) ∧ H ea = some (.tup [.int e.1, .int e.2]) ∧ InLim c ∧ InLim e ∧ (¬ Big c e → ∀ H', Same H H' → Q .non H') ∧ (Big c e → ErrN CT 60 H E)
def spBetween : Sp := fun vs H Q _ => ∃ (a b : Addr) (ss gs : List Nat), vs = [.ref a, .ref b] ∧ H a = some (.lst (sg ss)) ∧ H b = some (.lst (sg gs)) ∧ ss.length = gs.length ∧ gs.length ≤ 60 ∧ ∀ H', Same H H' → Q (.str (S ((btw gs ss).drop 1))) H'
def keyP (p : Pt) : List Key := [Sum.inl p.1, Sum.inl p.2]
abbrev inD (kvs : List (List Key × V)) (p : Pt) : Bool := (valV kvs (keyP p)).isSome
abbrev inY (ys : List ERow) (g : Edge) : Bool := (valE ys g).isSome
def spLineP (P : Program) (w : World) : Sp := fun vs H Q _ => ∃ (cl pl sd : Addr) (xs : List Int) (y : Int) (kvs : List (List Key × V)) (ys : List ERow), vs = [.ref cl, .int y, .ref pl, .ref sd] ∧ H cl = some (.lst (xs.map V.int)) ∧ xs.length ≤ 60 ∧ H pl = some (.dT kvs) ∧ EDict P w H sd ys ∧
  ∀ H', Same H H' → Q (.str (S (lineP (inD kvs) (inY ys) y xs))) H'
def spLineB (P : Program) (w : World) : Sp := fun vs H Q _ => ∃ (cl sd : Addr) (xs : List Int) (y : Int) (ys : List ERow), vs = [.ref cl, .int y, .ref sd] ∧ H cl = some (.lst (xs.map V.int)) ∧ xs.length ≤ 60 ∧ EDict P w H sd ys ∧
  ∀ H', Same H H' → Q (.str (S (lineB (inY ys) y xs))) H'
theorem sg_snoc {xs : List Int} {i : Nat} {v : Int} {f : Int → Nat} (h : xs[i]? = some v) : sg ((xs.take i).map f) ++ [V.str (S [f v])] = sg ((xs.take (i + 1)).map f) := by
  rw [take_more h, List.map_append]
  show _ = List.map _ (_ ++ _)
  rw [List.map_append]
  rfl
theorem map_int_get {xs : List Int} {i : Nat} {x : V} (h : (xs.map V.int)[i]? = some x) : ∃ v, xs[i]? = some v ∧ x = V.int v := by
  rw [List.getElem?_map] at h
  obtain ⟨v, h1, h2⟩ := Option.map_eq_some_iff.mp h
  exact ⟨v, h1, h2.symm⟩
section
variable {P : Program} {w : World} {K : PySem.W.Frag} {mg : Str → Option Value} {base : Heap}
theorem ok_chkpic {f : Addr} {fd : FuncData} {k : Nat} {CT fI : Addr} {t4 t6 : Tok} (TT : TmTxt P K mg CT fI) (F : Fun K "check_picture" "check_picture" s_check_picture f fd) (GB : Got P w K mg base "check_book_and_age" k ["book", "age", "most"] spCheckBA) (GP : Got P w K mg base "check_place" k ["value"] spPlace)
    (m4 : mg "MOST_AGE_SEEN" = some (.int 400 t4)) (m6 : mg "MOST_PLACES" = some (.int 60 t6)) : FnOk P w K mg base (L2.CX P w) (k + 1) f fd ["book", "age", "corner", "end"] (spChkPic CT) := by
  refine F.okX sc_check_picture (fun vs H Q E h => ?_) (fun cdv A outer s H vs Q E hr h => ?_)
  · obtain ⟨b, ca, ea, n, ws, st, c, e, rfl, _⟩ := h
    rfl
  · obtain ⟨b, ca, ea, n, ws, st, c, e, rfl, hb, hg, hn, hca, hea, lc, le, q, q1⟩ := h
    refine ⟨_, pss_cons (ps_expr (pcall GB hr (pa_cons (pv 0) (pa_cons (pv 1) (pa_cons (pe_glob (v := .int 400) rfl m4 ⟨_, rfl⟩) pa_nil)))))
      (pss_cons (ps_expr (pcall GP hr (pa_cons (pv 2) pa_nil)))
      (pss_cons (ps_expr (pcall GP hr (pa_cons (pv 3) pa_nil)))
      (pss_one (ps_if (PW.pt (pw_or (pt_cmpR op_ge (psub (pixT (pv 3) pe_int) (pixT (pv 2) pe_int)) (pe_glob (v := .int 60) rfl m6 ⟨_, rfl⟩) (nomark _)) (pw_or1 (pt_cmpR op_ge (psub (pixT (pv 3) pe_int) (pixT (pv 2) pe_int)) (pe_glob (v := .int 60) rfl m6 ⟨_, rfl⟩) (nomark _)))))
        (pss_one (ps_raiseTm rfl TT hr (takes_of rfl rfl rfl rfl) (by exact (pa_cons (pe_glob (v := .int 60) rfl m6 ⟨_, rfl⟩) pa_nil)))) pss_nil)))), ?_⟩
    refine ⟨_, rfl, _, rfl, b, n, 400, ws, st, rfl, hb, hg, hn, fun H1 S1 => ?_⟩
    have hca1 := S1 _ _ hca
    have hea1 := S1 _ _ hea
    refine ⟨_, rfl, ca, c, rfl, hca1, lc, _, rfl, ea, e, rfl, hea1, le, ?_⟩
    have bad : Big c e → ∀ d, H1 d = none → ErrN CT 60 H E := fun z _ _ => q1 z
    refine ⟨_, rfl, ea, _, _, _, rfl, rfl, SqT.of hea1, at0, _, rfl, ca, _, _, _, rfl, rfl, SqT.of hca1, at0, _, _, rfl, rfl, _, _, rfl, rfl, _, rfl, ?_⟩
    by_cases z1 : (60 : Int) ≤ e.1 - c.1
    · rw [decide_eq_true z1]
      exact iteT ⟨60, rfl, by decide +kernel, by rw [sizeLine_eq]; decide +kernel, fun d hd => q1 (.inl z1) _ d (sUpd S1 hd) (S1.free hd) upd_same⟩
    rw [decide_eq_false z1]
    refine iteF ⟨_, rfl, ea, _, _, _, rfl, rfl, SqT.of hea1, at1, _, rfl, ca, _, _, _, rfl, rfl, SqT.of hca1, at1, _, _, rfl, rfl, _, _, rfl, rfl, _, rfl, ?_⟩
    by_cases z2 : (60 : Int) ≤ e.2 - c.2
    · rw [decide_eq_true z2]
      exact iteT ⟨60, rfl, by decide +kernel, by rw [sizeLine_eq]; decide +kernel, fun d hd => q1 (.inr z2) _ d (sUpd S1 hd) (S1.free hd) upd_same⟩
    rw [decide_eq_false z2]
    exact iteF (q (fun z => z.elim z1 z2) H1 S1)
theorem ok_between {f : Addr} {fd : FuncData} {k : Nat} (F : Fun K "between" "between" s_between f fd) (mZ : mg "zip" = none) : FnOk P w K mg base CX0 (k + 1) f fd ["signs", "gaps"] spBetween := by
  refine F.ok sc_between (fun vs H Q E h => ?_) (fun cdv A outer s H vs Q E hr h => ?_)
  · obtain ⟨a, b, ss, gs, rfl, _⟩ := h
    rfl
  · obtain ⟨a, b, ss, gs, rfl, ha, hb, hl, few, q⟩ := h
    have nd := sc_between.nd
    refine ⟨_, pss_one (ps_ret (pe_slice sl_str (pe_join pe_str (pe_lc (own := [("gap", 2), ("sign", 3)]) (g := gTup K 2 (gCons (gName 2) (gCons (gName 3) gNil))) (tt := tYes) (te := tOp rAddS (tVar 2) (tVar 3)) rfl nd
        (pi_zip rfl mZ (pa_cons (pv 1) (pa_cons (pv 0) pa_nil))) (blkOk_by (N := n_between) (sc := defScope s_between) (by decide +kernel))
        (fun _ _ _ _ _ => pg_tup (by rfl) (pgs_cons (pg_name (i := 2) nd rfl (Or.inl rfl)) (pgs_cons (pg_name (i := 3) nd rfl (Or.inl rfl)) pgs_nil))) (fun _ _ _ _ _ => pts_nil) (fun _ _ _ _ _ => pe_op op_add_str (pv 2) (pv 3)))) (po_some pe_int) po_none)), ?_⟩
    dsimp only [tRet, tSl, tM1, tCons]
    have e0 : (Str.ofString "") = S [] := by decide +kernel
    have w0 := walk_zip (K := K) (a := b) (b := a) (xs := sg gs) (ys := sg ss) (n := gs.length) (by rw [List.length_map, List.length_map, hl, Nat.min_self])
    refine ⟨⟨_, rfl⟩, _, rfl, _, rfl, b, a, sg gs, sg ss, rfl, SqL.of hb, SqL.of ha, fun D nD => ?_⟩
    refine lc_it w0 (fun i H' => Same H H' ∧ H' D = some (.lst ((((List.zipWith (fun g s => [g, s]) gs ss).take i).map S).map V.str))) ⟨same_upd nD, upd_same⟩ (fun i H' _ h => ⟨SqL.of (h.1 _ _ hb), SqL.of (h.1 _ _ ha)⟩) ?_ ?_
    · rintro i x H1 H2 hi ⟨S1, hD⟩ ⟨T, x1, x2, rfl, nT, rfl, g1, g2⟩
      have hi2 : i < ss.length := by omega
      have g1 : (sg gs)[i]? = some x1 := g1
      have g2 : (sg ss)[i]? = some x2 := g2
      rw [List.getElem?_map, List.getElem?_eq_getElem hi] at g1
      rw [List.getElem?_map, List.getElem?_eq_getElem hi2] at g2
      cases g1
      cases g2
      have S2 := S1.trans (same_upd (o := .tup [V.str (S [gs[i]]), V.str (S [ss[i]])]) nT)
      have hD2 : (upd H1 T (.tup [V.str (S [gs[i]]), V.str (S [ss[i]])])) D = _ := same_upd nT _ _ hD
      refine ⟨T, _, rfl, SqT.of upd_same, rfl, _, _, rfl, _, _, rfl, rfl, rfl, _, rfl, _, rfl, _, _, rfl, rfl, ?_, _, hD2, ?_, sPut S2 nD, ?_⟩
      · rw [S_len, S_len, sizeLine_eq]; show 2 ≤ _; decide
      · rw [List.length_map, List.length_map, List.length_take, sizeLine_eq]; omega
      · rw [upd_same]
        have hz : (List.zipWith (fun g s => [g, s]) gs ss)[i]? = some [gs[i], ss[i]] := by
          rw [List.getElem?_zipWith, List.getElem?_eq_getElem hi, List.getElem?_eq_getElem hi2]
        rw [take_more hz, List.map_append, List.map_append, S_cat]
        rfl
    · rintro H1 ⟨S1, hD⟩
      have lz : (List.zipWith (fun g s => [g, s]) gs ss).length = gs.length := by rw [List.length_zipWith, hl, Nat.min_self]
      rw [← lz, List.take_length] at hD
      have lb := btw_len gs ss hl.symm
      refine ⟨_, D, _, rfl, rfl, .inl (SqL.of hD), ?_, 1, rfl, _, rfl, ?_, ?_⟩
      · rw [lens, e0, S_len, List.length_map, lz]
        have : ((List.zipWith (fun g s => [g, s]) gs ss).map List.length).sum = (btw gs ss).length := by unfold btw; rw [List.length_flatten]
        rw [this, lb]
        show _ + _ * 0 ≤ _
        omega
      · rw [e0, join_S, joinL_nil, S_len, sizeLine_eq]
        show (btw gs ss).length ≤ _
        omega
      · rw [e0, join_S, joinL_nil, cutS_one]
        exact q H1 S1
theorem ok_linep {f : Addr} {fd : FuncData} {k : Nat} (F : Fun K "line_of_places" "line_of_places" s_line_of_places f fd) (GB : Got P w K mg base "between" k ["signs", "gaps"] spBetween) : FnOk P w K mg base CX0 (k + 1) f fd ["columns", "y", "places", "sides"] (spLineP P w) := by
  refine F.ok sc_line_of_places (fun vs H Q E h => ?_) (fun cdv A outer s H vs Q E hr h => ?_)
  · obtain ⟨cl, pl, sd, xs, y, kvs, ys, rfl, _⟩ := h
    rfl
  · obtain ⟨cl, pl, sd, xs, y, kvs, ys, rfl, hcl, few, hpl, hsd, q⟩ := h
    have nd := sc_line_of_places.nd
    have hu1 := hr.units
    have hu2 : (A.deeper (envOfC "line_of_places" (defScope s_line_of_places) s.heap.objs.size f cdv)).units + 1 < cLine := by omega
    refine ⟨_, pss_cons (ps_setLc (i := 4) (own := [("x", 5)]) (g := gName 5) (tt := tYes) (te := tIf (tB (tDIn (tTupN (tCons (tVar 5) (tCons (tVar 1) tNil))) (tVar 2))) (tC (.str "o")) (tC (.str "."))) rfl nd rfl rfl (sw_true rfl rfl rfl (by decide +kernel)) (pi_list (pv 0)) (blkOk_by (N := n_line_of_places) (sc := defScope s_line_of_places) (by decide +kernel))
        (fun _ _ _ _ _ => pg_name (i := 5) nd rfl (Or.inl rfl)) (fun _ _ _ _ _ => pts_nil) (fun _ _ _ _ _ => pe_ifExp (pt_cmp (pc_din (by exact hu2) (ptupN (pa_cons (pv 5) (pa_cons (pv 1) pa_nil))) (pv 2))) pe_str pe_str))
      (pss_one (ps_ret (pcall GB hr (pa_cons (pv 4) (pa_cons (pe_lc (own := [("x", 5)]) (g := gName 5) (tt := tYes) (te := tIf (tB (tEInP P w (tTupN (tCons (tTupN (tCons (tOp (rI0 fun i j => .int (i - j)) (tVar 5) (tC (.int 1))) (tCons (tVar 1) tNil))) (tCons (tTupN (tCons (tVar 5) (tCons (tVar 1) tNil))) tNil))) (tVar 3))) (tC (.str "-")) (tC (.str " "))) rfl nd (pi_list (pv 0)) (blkOk_by (N := n_line_of_places) (sc := defScope s_line_of_places) (by decide +kernel))
        (fun _ _ _ _ _ => pg_name (i := 5) nd rfl (Or.inl rfl)) (fun _ _ _ _ _ => pts_nil) (fun _ _ _ _ _ => pe_ifExp (pt_cmp (pc_einP (by exact hu1) (ptupN (pa_cons (ptupN (pa_cons (psub (pv 5) pe_int) (pa_cons (pv 1) pa_nil))) (pa_cons (ptupN (pa_cons (pv 5) (pa_cons (pv 1) pa_nil))) pa_nil))) (pv 3))) pe_str pe_str)) pa_nil))))), ?_⟩
    obtain ⟨hs1, hs2⟩ := id hsd
    refine ⟨_, rfl, cl, rfl, ⟨_, SqL.of hcl⟩, fun D nD => ?_⟩
    refine lc_list (K := K) (a := cl) (xs := xs.map V.int) (fun i H' => Same H H' ∧ H' D = some (.lst (sg ((xs.take i).map (sgP (inD kvs) y))))) ⟨same_upd nD, upd_same⟩ (fun i H' _ h => SqL.of (h.1 _ _ hcl)) ?_ ?_
    · rintro i x H2 hx ⟨S2, hD⟩
      obtain ⟨v, ev, rfl⟩ := map_int_get hx
      have hi : i < xs.length := (List.getElem?_eq_some_iff.mp ev).1
      refine ⟨rfl, _, rfl, _, rfl, szl 2, fun H3 t S3 n3 h3 => ⟨_, rfl, pl, _, rfl, DGet.t (k := keyP (v, y)) ((S2.trans S3) _ _ hpl) h3, _, rfl, ?_⟩⟩
      have hD3 := S3 _ _ hD
      have lD : (sg ((xs.take i).map (sgP (inD kvs) y))).length < sizeLine := by rw [List.length_map, List.length_map, List.length_take, sizeLine_eq]; omega
      have fin : ∀ c : Nat, sgP (inD kvs) y v = c → (upd H3 D (.lst (sg ((xs.take i).map (sgP (inD kvs) y)) ++ [V.str (S [c])]))) D = some (.lst (sg ((xs.take (i + 1)).map (sgP (inD kvs) y)))) := fun c hc => by
        rw [upd_same, ← hc, sg_snoc ev]
      by_cases z : (valV kvs (keyP (v, y))).isSome = true
      · rw [z]
        exact iteT ⟨_, hD3, lD, sPut (S2.trans S3) nD, fin 111 (if_pos z)⟩
      · rw [Bool.eq_false_iff.mpr z]
        exact iteF ⟨_, hD3, lD, sPut (S2.trans S3) nD, fin 46 (if_neg z)⟩
    rintro H2 ⟨S2, hD⟩
    rw [List.length_map, List.take_length] at hD
    dsimp only [gName, tRet, tCons]
    refine ⟨_, rfl, ?_⟩
    show tLc _ _ _ _ _ _ _ _
    refine ⟨_, rfl, cl, rfl, ⟨_, SqL.of (S2 _ _ hcl)⟩, fun D2 nD2 => ?_⟩
    have hsd2 := hsd.keep S2
    refine lc_list (K := K) (a := cl) (xs := xs.map V.int) (fun i H' => Same H2 H' ∧ H' D2 = some (.lst (sg ((xs.take i).map (gpP (inY ys) y))))) ⟨same_upd nD2, upd_same⟩ (fun i H' _ h => SqL.of ((S2.trans h.1) _ _ hcl)) ?_ ?_
    · rintro i x H3 hx ⟨S3, hD2⟩
      obtain ⟨v, ev, rfl⟩ := map_int_get hx
      have hi : i < xs.length := (List.getElem?_eq_some_iff.mp ev).1
      refine ⟨rfl, _, rfl, _, _, rfl, rfl, _, rfl, szl 2, fun H4 t4 S4 n4 h4 => ⟨_, rfl, _, rfl, szl 2, fun H5 t5 S5 n5 h5 => ⟨szl 2, fun H6 t6 S6 n6 h6 => ⟨_, rfl, sd, t6, ((v - 1, y), (v, y)), ys, rfl, rfl, hsd2.keep (((S3.trans S4).trans S5).trans S6), ⟨t4, t5, h6, (S5.trans S6) _ _ h4, S6 _ _ h5⟩, _, rfl, ?_⟩⟩⟩⟩
      have S36 := ((S3.trans S4).trans S5).trans S6
      have hD6 := ((S4.trans S5).trans S6) _ _ hD2
      have lD : (sg ((xs.take i).map (gpP (inY ys) y))).length < sizeLine := by rw [List.length_map, List.length_map, List.length_take, sizeLine_eq]; omega
      have fin : ∀ c : Nat, gpP (inY ys) y v = c → (upd H6 D2 (.lst (sg ((xs.take i).map (gpP (inY ys) y)) ++ [V.str (S [c])]))) D2 = some (.lst (sg ((xs.take (i + 1)).map (gpP (inY ys) y)))) := fun c hc => by
        rw [upd_same, ← hc, sg_snoc ev]
      by_cases z : (valE ys ((v - 1, y), (v, y))).isSome = true
      · rw [z]
        exact iteT ⟨_, hD6, lD, sPut S36 nD2, fin 45 (if_pos z)⟩
      · rw [Bool.eq_false_iff.mpr z]
        exact iteF ⟨_, hD6, lD, sPut S36 nD2, fin 32 (if_neg z)⟩
    rintro H3 ⟨S3, hD2⟩
    rw [List.length_map, List.take_length] at hD2
    exact ⟨D, D2, _, _, rfl, S3 _ _ hD, hD2, by rw [List.length_map, List.length_map], by rw [List.length_map]; exact few, fun H4 S4 => q H4 ((S2.trans S3).trans S4)⟩
theorem ok_lineb {f : Addr} {fd : FuncData} {k : Nat} (F : Fun K "line_below" "line_below" s_line_below f fd) (GB : Got P w K mg base "between" k ["signs", "gaps"] spBetween) : FnOk P w K mg base CX0 (k + 1) f fd ["columns", "y", "sides"] (spLineB P w) := by
  refine F.ok sc_line_below (fun vs H Q E h => ?_) (fun cdv A outer s H vs Q E hr h => ?_)
  · obtain ⟨cl, sd, xs, y, ys, rfl, _⟩ := h
    rfl
  · obtain ⟨cl, sd, xs, y, ys, rfl, hcl, few, hsd, q⟩ := h
    have nd := sc_line_below.nd
    have hu1 := hr.units
    refine ⟨_, pss_cons (ps_setLc (i := 3) (own := [("x", 4)]) (g := gName 4) (tt := tYes) (te := tIf (tB (tEInP P w (tTupN (tCons (tTupN (tCons (tVar 4) (tCons (tOp (rI0 fun i j => .int (i - j)) (tVar 1) (tC (.int 1))) tNil))) (tCons (tTupN (tCons (tVar 4) (tCons (tVar 1) tNil))) tNil))) (tVar 2))) (tC (.str "|")) (tC (.str " "))) rfl nd rfl rfl (sw_true rfl rfl rfl (by decide +kernel)) (pi_list (pv 0)) (blkOk_by (N := n_line_below) (sc := defScope s_line_below) (by decide +kernel))
        (fun _ _ _ _ _ => pg_name (i := 4) nd rfl (Or.inl rfl)) (fun _ _ _ _ _ => pts_nil) (fun _ _ _ _ _ => pe_ifExp (pt_cmp (pc_einP (by exact hu1) (ptupN (pa_cons (ptupN (pa_cons (pv 4) (pa_cons (psub (pv 1) pe_int) pa_nil))) (pa_cons (ptupN (pa_cons (pv 4) (pa_cons (pv 1) pa_nil))) pa_nil))) (pv 2))) pe_str pe_str))
      (pss_one (ps_ret (pcall GB hr (pa_cons (pv 3) (pa_cons (pe_lc (own := [("_", 5)]) (g := gName 5) (tt := tYes) (te := tC (.str " ")) rfl nd (pi_list (pv 0)) (blkOk_by (N := n_line_below) (sc := defScope s_line_below) (by decide +kernel))
        (fun _ _ _ _ _ => pg_name (i := 5) nd rfl (Or.inl rfl)) (fun _ _ _ _ _ => pts_nil) (fun _ _ _ _ _ => pe_str)) pa_nil))))), ?_⟩
    refine ⟨_, rfl, cl, rfl, ⟨_, SqL.of hcl⟩, fun D nD => ?_⟩
    refine lc_list (K := K) (a := cl) (xs := xs.map V.int) (fun i H' => Same H H' ∧ H' D = some (.lst (sg ((xs.take i).map (sgB (inY ys) y))))) ⟨same_upd nD, upd_same⟩ (fun i H' _ h => SqL.of (h.1 _ _ hcl)) ?_ ?_
    · rintro i x H3 hx ⟨S3, hD⟩
      obtain ⟨v, ev, rfl⟩ := map_int_get hx
      have hi : i < xs.length := (List.getElem?_eq_some_iff.mp ev).1
      refine ⟨rfl, _, rfl, _, rfl, _, _, rfl, rfl, szl 2, fun H4 t4 S4 n4 h4 => ⟨_, rfl, _, rfl, szl 2, fun H5 t5 S5 n5 h5 => ⟨szl 2, fun H6 t6 S6 n6 h6 => ⟨_, rfl, sd, t6, ((v, y - 1), (v, y)), ys, rfl, rfl, hsd.keep (((S3.trans S4).trans S5).trans S6), ⟨t4, t5, h6, (S5.trans S6) _ _ h4, S6 _ _ h5⟩, _, rfl, ?_⟩⟩⟩⟩
      have S36 := ((S3.trans S4).trans S5).trans S6
      have hD6 := ((S4.trans S5).trans S6) _ _ hD
      have lD : (sg ((xs.take i).map (sgB (inY ys) y))).length < sizeLine := by rw [List.length_map, List.length_map, List.length_take, sizeLine_eq]; omega
      have fin : ∀ c : Nat, sgB (inY ys) y v = c → (upd H6 D (.lst (sg ((xs.take i).map (sgB (inY ys) y)) ++ [V.str (S [c])]))) D = some (.lst (sg ((xs.take (i + 1)).map (sgB (inY ys) y)))) := fun c hc => by
        rw [upd_same, ← hc, sg_snoc ev]
      by_cases z : (valE ys ((v, y - 1), (v, y))).isSome = true
      · rw [z]
        exact iteT ⟨_, hD6, lD, sPut S36 nD, fin 124 (if_pos z)⟩
      · rw [Bool.eq_false_iff.mpr z]
        exact iteF ⟨_, hD6, lD, sPut S36 nD, fin 32 (if_neg z)⟩
    rintro H2 ⟨S2, hD⟩
    rw [List.length_map, List.take_length] at hD
    dsimp only [gName, tRet, tCons]
    refine ⟨_, rfl, ?_⟩
    show tLc _ _ _ _ _ _ _ _
    refine ⟨_, rfl, cl, rfl, ⟨_, SqL.of (S2 _ _ hcl)⟩, fun D2 nD2 => ?_⟩
    refine lc_list (K := K) (a := cl) (xs := xs.map V.int) (fun i H' => Same H2 H' ∧ H' D2 = some (.lst (sg ((xs.take i).map fun _ => 32)))) ⟨same_upd nD2, upd_same⟩ (fun i H' _ h => SqL.of ((S2.trans h.1) _ _ hcl)) ?_ ?_
    · rintro i x H3 hx ⟨S3, hD2⟩
      obtain ⟨v, ev, rfl⟩ := map_int_get hx
      have hi : i < xs.length := (List.getElem?_eq_some_iff.mp ev).1
      refine ⟨rfl, _, hD2, ?_, sPut S3 nD2, ?_⟩
      · rw [List.length_map, List.length_map, List.length_take, sizeLine_eq]; omega
      · rw [upd_same, ← sg_snoc (f := fun _ => 32) ev]
        rfl
    rintro H3 ⟨S3, hD2⟩
    rw [List.length_map, List.take_length] at hD2
    exact ⟨D, D2, _, _, rfl, S3 _ _ hD, hD2, by rw [List.length_map, List.length_map], by rw [List.length_map]; exact few, fun H4 S4 => q H4 ((S2.trans S3).trans S4)⟩
end
end SK
/-! {k: v for a in s for b in t}, no tests, the keys flat tuples -/
namespace Dc2
open PySem PySem.Spec PyProof.Rows L2
abbrev dcE (kx vx ta sa tb sb : Expr) (scope : Scope) (pos : Pos) : Expr := .DictComp kx vx [⟨ta, sa, [], 0⟩, ⟨tb, sb, [], 0⟩] scope pos
theorem turnA (kx vx ta sa tb sb : Expr) (scope : Scope) (pos : Pos) (it acc : Value) (env : Env) : compTurn (dcE kx vx ta sa tb sb scope pos) 0 it acc env = (do
    standAt sa.pos
    match ← pyNext it with
    | none => pure (.done .next)
    | some v => do
      letOwnedTupleGo ta it v
      assign ta env v
      let xs ← eval sb env
      standAt sb.pos
      let ys ← foldedSetIterable sb env xs
      let jt ← holding [ys] (pyIter ys)
      let _ ← runOwn (.compStart (dcE kx vx ta sa tb sb scope pos) 1 jt acc env) env
      again (.compLoop (dcE kx vx ta sa tb sb scope pos) 0 it acc env)) := by rfl
theorem turnB (kx vx ta sa tb sb : Expr) (scope : Scope) (pos : Pos) (it : Value) (D : Addr) (env : Env) : compTurn (dcE kx vx ta sa tb sb scope pos) 1 it (.ref D) env = (do
    standAt sb.pos
    match ← pyNext it with
    | none => pure (.done .next)
    | some v => do
      letOwnedTupleGo tb it v
      assign tb env v
      (do
        let k ← eval kx env
        let u ← holding [k] (eval vx env)
        standAt { kx.pos with endLine := vx.pos.endLine, endCol := vx.pos.endCol }
        holding [k, u] (dictSet D k u))
      again (.compLoop (dcE kx vx ta sa tb sb scope pos) 1 it (.ref D) env)) := by rfl
section
variable {prog : Program} {w : World} {A : Around} {R : Result → Shared → Prop} {s : Shared} {kx vx ta sa tb sb : Expr} {scope : Scope} {pos : Pos} {it acc : Value} {D : Addr} {env : Env}
/-- what an error within a turn comes to -/
abbrev outE (prog : Program) (w : World) (A : Around) (env : Env) (R : Result → Shared → Prop) : Value → Shared → Prop := notedBy (model prog w) A env fun e z => R (.error e) z
/-- the outer turns -/
theorem loopA (fs : ∀ x, foldedSetIterable sb env x = pure x) (I : Nat → Shared → Prop)
    (turn : ∀ n z, I n z → wpAny (model prog w) A (pyNext it) (fun r z1 => match r with
      | none => R (.ok .next) z1
      | some v => wpAny (model prog w) A (letOwnedTupleGo ta it v) (fun _ z2 => wpAny (model prog w) A (assign ta env v) (fun _ z3 => wpAny (model prog w) A (eval sb env) (fun x z4 => wpAny (model prog w) A (pyIter x) (fun jt z5 =>
          codeAny (model prog w) A (.compStart (dcE kx vx ta sa tb sb scope pos) 1 jt acc env) (fun r z6 => match r with
            | .ok _ => ∃ m, m < n ∧ I m z6
            | .error _ => False) z5) (outE prog w A env R) z4) (outE prog w A env R) z3) (outE prog w A env R) z2) (outE prog w A env R) z1) (outE prog w A env R) z)
    (n : Nat) (h : I n s) : codeAny (model prog w) A (.compLoop (dcE kx vx ta sa tb sb scope pos) 0 it acc env) R s := by
  refine codeAny_loop rfl I (fun n z hI => ?_) n h
  show wpAny _ A ((compTurn (dcE kx vx ta sa tb sb scope pos) 0 it acc env).onRaise (fun x => do noteFrame x env; theTreesLotGoes x)) _ _ z
  refine wpAny_noted ?_
  rw [turnA]
  refine wpAny_bind (wpAny_standAt (wpAny_bind (wpAny_mono (turn n z hI) (fun r z1 g1 => ?_) fun _ _ q => q)))
  match r, g1 with
  | none, g1 => exact wpAny_pure g1
  | some v, g1 =>
    refine wpAny_bind (wpAny_mono g1 (fun _ z2 g2 => wpAny_bind (wpAny_mono g2 (fun _ z3 g3 => wpAny_bind (wpAny_mono g3 (fun x z4 g4 => ?_) fun _ _ q => q)) fun _ _ q => q)) fun _ _ q => q)
    refine wpAny_bind (wpAny_standAt (wpAny_bind (wpAny_of_eq (fs x) (wpAny_bind (wpAny_holding (wpAny_mono g4 (fun jt z5 g5 => ?_) fun _ _ q => q))))))
    refine wpAny_bind (wpAny_runOwn ?_)
    rw [Around.mark_none]
    refine codeAny_mono g5 fun r z6 g6 => ?_
    match r, g6 with
    | .ok f, g6 => exact wpAny_pure ⟨rfl, g6⟩
    | .error e, g6 => exact g6.elim
/-- the inner turns -/
theorem loopB (I : Nat → Shared → Prop)
    (turn : ∀ n z, I n z → wpAny (model prog w) A (pyNext it) (fun r z1 => match r with
      | none => R (.ok .next) z1
      | some v => wpAny (model prog w) A (letOwnedTupleGo tb it v) (fun _ z2 => wpAny (model prog w) A (assign tb env v) (fun _ z3 => wpAny (model prog w) A (eval kx env) (fun k z4 => wpAny (model prog w) A (eval vx env) (fun u z5 =>
          wpAny (model prog w) A (dictSet D k u) (fun _ z6 => ∃ m, m < n ∧ I m z6) (outE prog w A env R) z5) (outE prog w A env R) z4) (outE prog w A env R) z3) (outE prog w A env R) z2) (outE prog w A env R) z1) (outE prog w A env R) z)
    (n : Nat) (h : I n s) : codeAny (model prog w) A (.compLoop (dcE kx vx ta sa tb sb scope pos) 1 it (.ref D) env) R s := by
  refine codeAny_loop rfl I (fun n z hI => ?_) n h
  show wpAny _ A ((compTurn (dcE kx vx ta sa tb sb scope pos) 1 it (.ref D) env).onRaise (fun x => do noteFrame x env; theTreesLotGoes x)) _ _ z
  refine wpAny_noted ?_
  rw [turnB]
  refine wpAny_bind (wpAny_standAt (wpAny_bind (wpAny_mono (turn n z hI) (fun r z1 g1 => ?_) fun _ _ q => q)))
  match r, g1 with
  | none, g1 => exact wpAny_pure g1
  | some v, g1 =>
    refine wpAny_bind (wpAny_mono g1 (fun _ z2 g2 => wpAny_bind (wpAny_mono g2 (fun _ z3 g3 => ?_) fun _ _ q => q)) fun _ _ q => q)
    refine wpAny_bind (wpAny_bind (wpAny_mono g3 (fun k z4 g4 => wpAny_bind (wpAny_holding (wpAny_mono g4 (fun u z5 g5 => wpAny_bind (wpAny_standAt (wpAny_holding (wpAny_mono g5 (fun _ z6 g6 => ?_) fun _ _ q => q)))) fun _ _ q => q))) fun _ _ q => q))
    exact wpAny_pure ⟨rfl, g6⟩
/-- the inner start -/
theorem startB (h0 : codeAny (model prog w) A (.compLoop (dcE kx vx ta sa tb sb scope pos) 1 it acc env) R s)
    (h : wpAny (model prog w) A (pyIter it) (fun jt z => codeAny (model prog w) A (.compLoop (dcE kx vx ta sa tb sb scope pos) 1 jt acc env) R z) (outE prog w A env R) s) :
    codeAny (model prog w) A (.compStart (dcE kx vx ta sa tb sb scope pos) 1 it acc env) R s := by
  refine codeAny_of_tree ?_
  show wpAny _ _ ((compStart (dcE kx vx ta sa tb sb scope pos) 1 it acc env).onRaise (fun x => do noteFrame x env; standAt theWindowsPlace)) _ _ s
  refine wpAny_notedAt ?_
  unfold compStart
  show wpAny _ _ (ask >>= _) _ _ s
  refine wpAny_bind (wpAny_askSetting (wpAny_ite ?_))
  split
  · first
      | exact wpAny_bind (wpAny_pure (wpAny_pure (And.intro rfl h0)))
      | exact wpAny_pure (And.intro rfl h0)
  · refine wpAny_bind (wpAny_rule ?_)
    show wpAny _ _ (standAt sb.pos >>= _) _ _ s
    exact wpAny_bind (wpAny_standAt (wpAny_bind (wpAny_mono h (fun jt z g => wpAny_pure (And.intro rfl g)) fun _ _ x => x)))
end
section
variable {X : Cx}
/-- the dict at D takes a pair, the key a flat tuple -/
theorem put_t {pins : List (Addr × Obj)} {σ : L2.St} {H : Hp} {s : Shared} {E : Value → Shared → Prop} {D b : Addr} {kvs : List (List Key × V)} {k : List Key} {v : V} {r : Value} {Q : Unit → Shared → Prop} (hu : X.A.units + 1 < cLine) (I : Inv X pins σ H s) (hD : H D = some (.dT kvs)) (hb : H b = some (.tup (k.map kV))) (hz : kvs.length < sizeLine)
    (rv : RelV v r) (h : ∀ z, Inv X pins σ (upd H D (.dT (putK kvs k v))) z → Q () z) : wpAny (model X.prog X.w) X.A (dictSet D (.ref b) r) Q E s := by
  obtain ⟨z, hd, xs, rel, dd⟩ := dt_of I.hok hD
  have few : xs.length ≤ sizeLine := by rw [← Paired.length rel]; exact z
  have more : (putK kvs k v).length ≤ sizeLine := by have := length_putK kvs k v; omega
  refine wpAny_dictSet_heap (hsz := few) (show X.A.units < cLine by omega) (key_of I.hok hb) dd fun h1 dd1 hs => h _ ?_
  obtain ⟨o, es, ep, ho, c1, c2, c3, _, c4⟩ := dd1
  refine d_write I (by rw [hD]; exact True.intro) hs ⟨o, ho⟩ ⟨more, hd, _, (rel.put k hb rv).keeps fun c ys ec => ?_, o, es, ep, ho, c1, c2, c3, c4⟩
  rw [upd_ne (ne_of ec hD (fun z => nomatch z))]
  exact ec
/-- {k: v for a in s for b in t} -/
def tDc2 (wi : TI) (g : TG) (wj : TI) (gj : TG) (tk tv : TE) (vs vj : List Nat) : TE := fun σ H Q => wi σ H fun J H1 => ∀ D, H1 D = none → ∃ W : Nat → Nat → Hp → Prop, (∃ m, W 0 m (upd H1 D (.dT []))) ∧ ∀ i m H, W i m H →
  (J.stop i H ∧ Q (.ref D) H) ∨ (J.go i H ∧ ∃ Nx : Hp → Prop, (∀ H', Nx H' → ∃ m', m' < m ∧ W (i + 1) m' H') ∧ ∀ x H', J.yld i H x H' → g x (wipe σ vs) H' fun σ2 H2 => wipe σ2 vs = wipe σ vs ∧
    wj σ2 H2 fun L H4 => ∃ U : Nat → Nat → Hp → Prop, (∃ m, U 0 m H4) ∧ ∀ j k H, U j k H →
      (L.stop j H ∧ Nx H) ∨ (L.go j H ∧ ∃ Ny : Hp → Prop, (∀ H', Ny H' → ∃ k', k' < k ∧ U (j + 1) k' H') ∧ ∀ x H', L.yld j H x H' → gj x (wipe σ2 vj) H' fun σ3 H5 => wipe σ3 vj = wipe σ2 vj ∧
        tk σ3 H5 fun y H6 => tv σ3 H6 fun z H7 => ∃ kvs c b, y = .ref b ∧ H7 b = some (.tup (c.map kV)) ∧ H7 D = some (.dT kvs) ∧ kvs.length < sizeLine ∧ Ny (upd H7 D (.dT (putK kvs c z)))))
theorem dc2_core {pins : List (Addr × Obj)} {s : Shared} {σ : L2.St} {H : Hp} {Q : VK} {kx vx ta sa tb sb : Expr} {scope : Scope} {own : List (Str × Nat)} {vj : List Nat} {pos : Pos} {wi wj : TI} {g gj : TG} {tk tv : TE} {pos' : Pos} {use : Option (Value → Sem Unit)} {Qf : Value → Shared → Prop} (hu : X.A.units + 1 < cLine) (hc : X.calm = true) (hN : X.N.Nodup) (hi : PI X ta sa wi) (ok : BlkOk X.N X.env.scope scope own) (hv : ∀ i ∈ vj, i ∈ own.map (·.2))
    (hg : ∀ (s : Shared) (H : Hp) (C : Addr) (cl : List (Str × Addr)) (fp : List Addr), PG (X.blk s H scope (compEnvC scope cl C X.env) fp) ta g) (hj : ∀ (s : Shared) (H : Hp) (C : Addr) (cl : List (Str × Addr)) (fp : List Addr), PI (X.blk s H scope (compEnvC scope cl C X.env) fp) tb sb wj)
    (hgj : ∀ (s : Shared) (H : Hp) (C : Addr) (cl : List (Str × Addr)) (fp : List Addr), PG (X.blk s H scope (compEnvC scope cl C X.env) fp) tb gj) (hk : ∀ (s : Shared) (H : Hp) (C : Addr) (cl : List (Str × Addr)) (fp : List Addr), PE (X.blk s H scope (compEnvC scope cl C X.env) fp) kx tk)
    (he : ∀ (s : Shared) (H : Hp) (C : Addr) (cl : List (Str × Addr)) (fp : List Addr), PE (X.blk s H scope (compEnvC scope cl C X.env) fp) vx tv) (hs : ∀ x, foldedSetIterable sa X.env x = pure x) (hs2 : ∀ env x, foldedSetIterable sb env x = pure x) (I : Inv X pins σ H s) (h : tDc2 wi g wj gj tk tv (own.map (·.2)) vj σ H Q)
    (hRR : ∀ D C s' m H', Inv X pins σ H' s' → Q (.ref D) H' → s'.heap.Ns C m → FpOk X pins H' C → compPost (model X.prog X.w) X.A X.xe use Qf (.ref D) C (.ok .next) s') :
    wpAny (model X.prog X.w) X.A (comprehension (dcE kx vx ta sa tb sb scope pos) scope X.env pos' newDict false (eval sa X.env) use) Qf X.xe s := by
  have frees : ∀ y ∈ scope.names, y.2 = .free → ∃ c, X.env.cells.lookup y.1 = some c := fun y hy e => (ok.free y hy e).elim (fun k => I.ok.has _ (.inl k)) fun k => I.ok.has _ (.inr k)
  refine wpAny_comprehension_free (use := use) rfl hs (closure_ok frees) ok.kind (fun y hy e => by rw [ok.uniq y hy, e]) (thn (hi.run pins s σ H _ I h) fun xv s1 hx => thn hx fun iv s2 h2 => ?_)
  obtain ⟨it, fp, tn, J, H2, rfl, I2, T, st2, f2, q⟩ := h2
  refine wpAny_newObj_type (newEnv_comp ?_)
  generalize hD : s2.heap.objs.size = D
  have nD : H2 D = none := I2.hok.fresh (Nat.le_of_eq hD)
  obtain ⟨W, ⟨m0, w0⟩, turn⟩ := q D nD
  generalize h3e : ({ s2 with heap := s2.heap.push { cls := .type "dict", data := .dict #[] } } : Shared) = s3
  have h3 : s3.heap = s2.heap.push { cls := .type "dict", data := .dict #[] } := by rw [← h3e]
  have I3 : Inv X pins σ (upd H2 D (.dT [])) s3 := by
    rw [← h3e]
    refine I2.laid (t' := s2.toks) (fun b o e => Heap.get?_push_of_some _ e) (Nat.le_of_eq hD) (hD ▸ dt_empty s2.heap I2.big)
  have f3 : ∀ b ∈ fp, FpOk X pins (upd H2 D (.dT [])) b ∧ b < s3.heap.objs.size := fun b hb => by
    obtain ⟨o, e, _⟩ := T.obj _ _ st2 b hb
    have lt := Heap.lt_size e
    refine ⟨⟨?_, (f2 b hb).2⟩, by rw [h3, Heap.size_push]; exact Nat.lt_succ_of_lt lt⟩
    rw [upd_ne (by rw [← hD]; exact Nat.ne_of_lt lt)]
    exact (f2 b hb).1
  have nf : ∀ b ∈ fp, (upd H2 D (.dT [])) b = none := fun b hb => (f3 b hb).1.1
  have st3 : tn 0 s3.heap := T.keep _ _ _ st2 fun b _ o e => by rw [h3]; exact Heap.get?_push_of_some _ e
  have I4 := block_start I3 ok hN f3
  have pg := hg s3 (upd H2 D (.dT [])) s3.heap.objs.size (cellsFrom (s3.heap.objs.size + 1) scope.names (cloFrom X.env.cells scope.names [])) fp
  have pj := hj s3 (upd H2 D (.dT [])) s3.heap.objs.size (cellsFrom (s3.heap.objs.size + 1) scope.names (cloFrom X.env.cells scope.names [])) fp
  have pgj := hgj s3 (upd H2 D (.dT [])) s3.heap.objs.size (cellsFrom (s3.heap.objs.size + 1) scope.names (cloFrom X.env.cells scope.names [])) fp
  have pk := hk s3 (upd H2 D (.dT [])) s3.heap.objs.size (cellsFrom (s3.heap.objs.size + 1) scope.names (cloFrom X.env.cells scope.names [])) fp
  have pe := he s3 (upd H2 D (.dT [])) s3.heap.objs.size (cellsFrom (s3.heap.objs.size + 1) scope.names (cloFrom X.env.cells scope.names [])) fp
  show codeAny _ _ (.compStart (dcE kx vx ta sa tb sb scope pos) 0 (.ref it) (.ref D) (compEnvC scope (cellsFrom (s3.heap.objs.size + 1) scope.names (cloFrom X.env.cells scope.names [])) s3.heap.objs.size X.env)) (compPost (model X.prog X.w) X.A X.xe use Qf (.ref D) s3.heap.objs.size) { s3 with heap := pushCells (s3.heap.push { cls := .type "dict", data := .dict #[] }) scope.names }
  generalize hce : compEnvC scope (cellsFrom (s3.heap.objs.size + 1) scope.names (cloFrom X.env.cells scope.names [])) s3.heap.objs.size X.env = ce at I4 pg pj pgj pk pe ⊢
  have cL : ce.locals = s3.heap.objs.size := by subst hce; rfl
  generalize hH3 : upd H2 D (.dT []) = H3 at I3 I4 pg pj pgj pk pe w0 nf f3
  generalize h4e : ({ s3 with heap := pushCells (s3.heap.push { cls := .type "dict", data := .dict #[] }) scope.names } : Shared) = s4 at I4 ⊢
  have st4 : tn 0 s4.heap := T.keep _ _ _ st3 fun b _ o e => by rw [← h4e]; exact pushCells_keeps _ _ _ _ (Heap.get?_push_of_some _ e)
  have stat : ∀ {τ : L2.St} {H' : Hp} {t : Shared}, Inv (X.blk s3 H3 scope ce fp) [] τ H' t → (∀ b ∈ fp, H' b = none) → ∀ b ∈ fp, FpOk (X.blk s3 H3 scope ce fp) [] H' b := fun {τ H' t} J' hn b hb =>
    ⟨hn b hb, (J'.ok.exf b hb).1, J'.ok.exfs b hb, .inl hb, fun x c e => (J'.ok.exf b hb).2 x c e, fun p hp => absurd (show p ∈ ([] : List (Addr × Obj)) ++ [] from hp) (by simp)⟩
  have turns : codeAny (model X.prog X.w) X.A (.compLoop (dcE kx vx ta sa tb sb scope pos) 0 (.ref it) (.ref D) ce) (compPost (model X.prog X.w) X.A X.xe use Qf (.ref D) s3.heap.objs.size) s4 := by
    refine loopA (hs2 ce) (fun n t => ∃ i H', Inv (X.blk s3 H3 scope ce fp) [] (wipe σ (own.map (·.2))) H' t ∧ tn i t.heap ∧ (∀ b ∈ fp, H' b = none) ∧ W i n H') ?_ m0 ⟨0, H3, I4, st4, nf, w0⟩
    rintro n s5 ⟨i, H5, J5, st5, n5, w5⟩
    rcases turn i n H5 w5 with ⟨stop, fin⟩ | ⟨go, Nx, hNx, step⟩
    · refine thnF (T.done (X.blk s3 H3 scope ce fp) rfl rfl rfl hc i [] s5 _ H5 (fun _ _ => False) J5 (stat J5 n5) st5 stop) fun r s6 ⟨hr, J6⟩ => ?_
      subst hr
      have I7 : Inv X pins σ H5 s6 := I3.call' (ch := fp) J6.os J6.base J6.hok J6.bare fun b hb => ⟨(f3 b hb).1.2.2.2.1, (f3 b hb).1.2.1, (f3 b hb).1.2.2.2.2.1, (f3 b hb).1.2.2.2.2.2⟩
      have nC : H5 s3.heap.objs.size = none := by
        have z : H5 ce.locals = none := J6.free
        rwa [cL] at z
      obtain ⟨m, hn, _⟩ := J6.loc
      have hn : s6.heap.Ns ce.locals m := hn
      rw [cL] at hn
      exact hRR D s3.heap.objs.size s6 m H5 I7 fin hn (I3.fpOk (Nat.le_refl _) nC)
    · refine thnF (T.item (X.blk s3 H3 scope ce fp) rfl rfl rfl hc i [] s5 _ H5 (fun _ _ => False) J5 (stat J5 n5) st5 go) fun r s6 ⟨u, hr, h6⟩ => ?_
      subst hr
      refine thnF h6 fun _ s7 ⟨x, H7, J7, r7, y7, st7, n7⟩ => ?_
      refine thnF (pg.run _ s7 _ H7 x u _ (J7.pinned (stat J7 n7) (T.obj _ _ st7)) r7 (step x H7 y7)) fun _ s8 ⟨σ8, H8, J8, hw8, q8⟩ => ?_
      have back : ∀ {τ : L2.St} {t : Shared} {H' : Hp}, Inv (X.blk s3 H3 scope ce fp) ([] ++ pinsAt fp s7.heap) τ H' t → (wipe σ (own.map (·.2))).length = τ.length → (∀ (l : Nat) v, (wipe σ (own.map (·.2)))[l]? = some (some v) → τ[l]? = some (some v)) → Nx H' →
          ∃ m, m < n ∧ ∃ i H', Inv (X.blk s3 H3 scope ce fp) [] (wipe σ (own.map (·.2))) H' t ∧ tn i t.heap ∧ (∀ b ∈ fp, H' b = none) ∧ W i m H' := fun {τ t H'} J' hl hk nx => by
        obtain ⟨m2, hm, w2⟩ := hNx H' nx
        have still : ∀ b ∈ fp, ∀ o, s7.heap.get? b = some o → t.heap.get? b = some o ∧ H' b = none := fun b hb o e => by
          have z := J'.pin (b, o) (List.mem_append_right _ (List.mem_append_right _ (mem_pinsAt hb e)))
          exact ⟨z.1, z.2.1⟩
        refine ⟨m2, hm, i + 1, H', (J'.unpinned (pins := [])).weak hl hk, T.keep _ _ _ st7 fun b hb o e => (still b hb o e).1, fun b hb => ?_, w2⟩
        obtain ⟨o, e, _⟩ := T.obj _ _ st7 b hb
        exact (still b hb o e).2
      have len8 : (wipe σ (own.map (·.2))).length = (wipe σ8 vj).length := by rw [wipe_length σ8, ← hw8, wipe_length]
      have old8 : ∀ (l : Nat) v, (wipe σ (own.map (·.2)))[l]? = some (some v) → (wipe σ8 vj)[l]? = some (some v) := fun l v e => by
        rw [← hw8] at e
        obtain ⟨e1, e2⟩ := wipe_some e
        rw [wipe_out fun z => e2 (hv l z)]
        exact e1
      refine thnF (pj.run _ s8 σ8 H8 _ J8 q8) fun xv9 s9 hx9 => thnF hx9 fun iv9 s10 h10 => ?_
      obtain ⟨jt, fq, un, L, H10, rfl, J10, T1, st10, f10, U, ⟨k0, u0⟩, turn1⟩ := h10
      have statJ : ∀ {H' : Hp}, (∀ b ∈ fq, H' b = none) → ∀ b ∈ fq, FpOk (X.blk s3 H3 scope ce fp) ([] ++ pinsAt fp s7.heap) H' b := fun hn b hb => ⟨hn b hb, (f10 b hb).2⟩
      have inner : codeAny (model X.prog X.w) X.A (.compLoop (dcE kx vx ta sa tb sb scope pos) 1 (.ref jt) (.ref D) ce)
          (fun r t => match r with
            | .ok _ => ∃ m, m < n ∧ ∃ i H', Inv (X.blk s3 H3 scope ce fp) [] (wipe σ (own.map (·.2))) H' t ∧ tn i t.heap ∧ (∀ b ∈ fp, H' b = none) ∧ W i m H'
            | .error _ => False) s10 := by
        refine loopB (fun k t => ∃ j H', Inv (X.blk s3 H3 scope ce fp) ([] ++ pinsAt fp s7.heap) (wipe σ8 vj) H' t ∧ un j t.heap ∧ (∀ b ∈ fq, H' b = none) ∧ U j k H') ?_ k0 ⟨0, H10, J10.weak (wipe_length _ _) (fun l v e => (wipe_some e).1), st10, fun b hb => (f10 b hb).1, u0⟩
        rintro k s11 ⟨j, H11, J11, st11, n11, w11⟩
        rcases turn1 j k H11 w11 with ⟨stop1, nx1⟩ | ⟨go1, Ny, hNy, step1⟩
        · refine thnF (T1.done (X.blk s3 H3 scope ce fp) rfl rfl rfl hc j _ s11 (wipe σ8 vj) H11 (fun _ _ => False) J11 (statJ n11) st11 stop1) fun r s12 ⟨hr, J12⟩ => ?_
          subst hr
          exact back J12 len8 old8 nx1
        · refine thnF (T1.item (X.blk s3 H3 scope ce fp) rfl rfl rfl hc j _ s11 (wipe σ8 vj) H11 (fun _ _ => False) J11 (statJ n11) st11 go1) fun r s12 ⟨u1, hr, h12⟩ => ?_
          subst hr
          refine thnF h12 fun _ s13 ⟨x1, H13, J13, r13, y13, st13, n13⟩ => ?_
          refine thnF (pgj.run _ s13 (wipe σ8 vj) H13 x1 u1 _ (J13.pinned (statJ n13) (T1.obj _ _ st13)) r13 (step1 x1 H13 y13)) fun _ s14 ⟨σ14, H14, J14, hw14, q14⟩ => ?_
          refine thnF (pk.run _ s14 σ14 H14 _ J14 q14) fun kv s15 ⟨yk, H15, J15, r15, q15⟩ => ?_
          refine thnF (pe.run _ s15 σ14 H15 _ J15 q15) fun vv s16 ⟨yv, H16, J16, r16, kvs, c, b, ek, hb16, hD16, hz16, nx⟩ => ?_
          subst ek
          cases (show kv = Value.ref b from r15)
          refine put_t (X := X.blk s3 H3 scope ce fp) hu J16 hD16 hb16 hz16 r16 fun s17 J17 => ?_
          obtain ⟨m2, hm, w2⟩ := hNy _ nx
          have still : ∀ b ∈ fq, ∀ o, s13.heap.get? b = some o → s17.heap.get? b = some o ∧ (upd H16 D (.dT (putK kvs c yv))) b = none := fun b hb o e => by
            have z := J17.pin (b, o) (List.mem_append_right _ (List.mem_append_right _ (mem_pinsAt hb e)))
            exact ⟨z.1, z.2.1⟩
          refine ⟨m2, hm, j + 1, _, J17.unpinned.weak (by rw [← hw14, wipe_length]) (fun l v e => by rw [← hw14] at e; exact (wipe_some e).1), T1.keep _ _ _ st13 fun b hb o e => (still b hb o e).1, fun b hb => ?_, w2⟩
          obtain ⟨o, e, _⟩ := T1.obj _ _ st13 b hb
          exact (still b hb o e).2
      exact startB inner (T1.self X.A 0 _ _ _ st10 inner)
  exact codeAny_compStart_dict turns (T.self X.A 0 _ _ _ st4 turns)
theorem pe_dc2 {kx vx ta sa tb sb : Expr} {scope : Scope} {own : List (Str × Nat)} {vj : List Nat} {pos : Pos} {wi wj : TI} {g gj : TG} {tk tv : TE} (hu : X.A.units + 1 < cLine) (hc : X.calm = true) (hN : X.N.Nodup) (hi : PI X ta sa wi) (ok : BlkOk X.N X.env.scope scope own) (hv : ∀ i ∈ vj, i ∈ own.map (·.2))
    (hg : ∀ (s : Shared) (H : Hp) (C : Addr) (cl : List (Str × Addr)) (fp : List Addr), PG (X.blk s H scope (compEnvC scope cl C X.env) fp) ta g) (hj : ∀ (s : Shared) (H : Hp) (C : Addr) (cl : List (Str × Addr)) (fp : List Addr), PI (X.blk s H scope (compEnvC scope cl C X.env) fp) tb sb wj)
    (hgj : ∀ (s : Shared) (H : Hp) (C : Addr) (cl : List (Str × Addr)) (fp : List Addr), PG (X.blk s H scope (compEnvC scope cl C X.env) fp) tb gj) (hk : ∀ (s : Shared) (H : Hp) (C : Addr) (cl : List (Str × Addr)) (fp : List Addr), PE (X.blk s H scope (compEnvC scope cl C X.env) fp) kx tk)
    (he : ∀ (s : Shared) (H : Hp) (C : Addr) (cl : List (Str × Addr)) (fp : List Addr), PE (X.blk s H scope (compEnvC scope cl C X.env) fp) vx tv) (hs : ∀ x, foldedSetIterable sa X.env x = pure x := by intro _; rfl) (hs2 : ∀ env x, foldedSetIterable sb env x = pure x := by intro _ _; rfl) :
    PE X (dcE kx vx ta sa tb sb scope pos) (tDc2 wi g wj gj tk tv (own.map (·.2)) vj) := by
  refine ⟨fun pins s σ H Q I h => ?_⟩
  rw [arm_eval_DictComp]
  refine dc2_core hu hc hN hi ok hv hg hj hgj hk he hs hs2 I h fun D C s1 m H1 I1 q hn f => ⟨m, hn, fun h2 sb => ?_⟩
  obtain ⟨c0, c1, c2, c3, c4, c5⟩ := f
  exact ⟨.ref D, H1, I1.turned (t' := s1.toks) (fun b o hb e => (sb.2 b hb).trans e) c0 c1 c3 c4 c5, rfl, q⟩
theorem ps_setDc2 {i : Nat} {y : Str} {py spos : Pos} {kx vx ta sa tb sb : Expr} {scope : Scope} {own : List (Str × Nat)} {vj : List Nat} {pos : Pos} {wi wj : TI} {g gj : TG} {tk tv : TE} (hu : X.A.units + 1 < cLine) (hc : X.calm = true) (hN : X.N.Nodup) (hi : PI X ta sa wi) (ok : BlkOk X.N X.env.scope scope own) (hv : ∀ i ∈ vj, i ∈ own.map (·.2))
    (hg : ∀ (s : Shared) (H : Hp) (C : Addr) (cl : List (Str × Addr)) (fp : List Addr), PG (X.blk s H scope (compEnvC scope cl C X.env) fp) ta g) (hj : ∀ (s : Shared) (H : Hp) (C : Addr) (cl : List (Str × Addr)) (fp : List Addr), PI (X.blk s H scope (compEnvC scope cl C X.env) fp) tb sb wj)
    (hgj : ∀ (s : Shared) (H : Hp) (C : Addr) (cl : List (Str × Addr)) (fp : List Addr), PG (X.blk s H scope (compEnvC scope cl C X.env) fp) tb gj) (hk : ∀ (s : Shared) (H : Hp) (C : Addr) (cl : List (Str × Addr)) (fp : List Addr), PE (X.blk s H scope (compEnvC scope cl C X.env) fp) kx tk)
    (he : ∀ (s : Shared) (H : Hp) (C : Addr) (cl : List (Str × Addr)) (fp : List Addr), PE (X.blk s H scope (compEnvC scope cl C X.env) fp) vx tv) (hy : X.N[i]? = some y) (hyl : X.env.scope.names.lookup y = some .local)
    (hsw : swapsWith (dcE kx vx ta sa tb sb scope pos) (some (.Name y py)) spos.line X.env = pure true) (hs : ∀ x, foldedSetIterable sa X.env x = pure x := by intro _; rfl) (hs2 : ∀ env x, foldedSetIterable sb env x = pure x := by intro _ _; rfl) :
    PS X (.Assign [.Name y py] (dcE kx vx ta sa tb sb scope pos) spos) (tAsg (tDc2 wi g wj gj tk tv (own.map (·.2)) vj) (gName i)) := by
  refine ⟨fun pins s σ H D I h => ?_⟩
  rw [exec_Assign_Name_used _ _ _ _ hsw]
  refine wpAny_bind (wpAny_standAt (wpAny_bind ?_))
  show wpAny _ X.A (do let _ ← comprehension (dcE kx vx ta sa tb sb scope pos) scope X.env (firstIterPos [⟨ta, sa, [], 0⟩, ⟨tb, sb, [], 0⟩] pos) newDict false (eval sa X.env) (some (assign (.Name y py) X.env))) _ _ s
  have h : tDc2 wi g wj gj tk tv (own.map (·.2)) vj σ H (fun x H1 => gName i x σ H1 D.nx) := h
  refine wpAny_bind (thn (dc2_core (Qf := fun _ s1 => SP X pins D .next s1) hu hc hN hi ok hv hg hj hgj hk he hs hs2 I h fun L C s1 m H1 I1 q hn f => ?_) fun _ s1 hq => wpAny_pure (wpAny_pure hq))
  show wpAny _ _ (assign (.Name y py) X.env (.ref L)) _ _ _
  refine wpAny_assign_Name (store_ok2 (v := V.ref L) I1 hN hy (.inl hyl) rfl (fun s2 I2 ⟨a, sb, ha⟩ => ?_) (.inr hyl))
  obtain ⟨c0, c1, c2, c3, c4, c5⟩ := f
  refine ⟨m, hn.sameBut sb (ha.elim (fun z => z ▸ c1) fun z e => c4 y a z e.symm), fun h3 sb3 => ?_⟩
  exact ⟨_, H1, I2.turned (t' := s2.toks) (fun b o hb e => (sb3.2 b hb).trans e) c0 c1 c3 c4 c5, q⟩
end
end Dc2
namespace SK
open PySem PySem.Spec PyProof.Rows L2
/-! a dict locked while it is walked, and given back -/
/-- behind a lock -/
theorem same_unlock {H H' : Hp} {d : Addr} {u x : HO} (hd : H d = some u) (s : Same (upd H d x) H') : Same H (upd H' d u) := fun b o e => by
  by_cases z : b = d
  · subst z
    rw [hd] at e
    rw [upd_same]
    exact e
  · rw [upd_ne z]
    exact s b o (by rw [upd_ne z]; exact e)
/-- within a lock: all but the locked thing -/
theorem lock_at {H : Hp} {d b : Addr} {x o : HO} (n : b ≠ d) (h : H b = some o) : (upd H d x) b = some o := by rw [upd_ne n]; exact h
/-- the slots told anew -/
theorem st_eq {t : TS} {D : Ends} {σ : L2.St} (σ' : L2.St) {H : Hp} (e : σ = σ') (h : t D σ' H) : t D σ H := by rw [e]; exact h
end SK
namespace SK
open PySem PySem.Spec PyProof.Rows L2 SX
/-! ### the sides of the strokes that are there -/
theorem inY_mem (ys : List ERow) (g : Edge) : inY ys g = decide (∃ y ∈ ys, y.1 = g) := by
  rw [Bool.eq_iff_iff, decide_eq_true_iff]
  show (valE ys g).isSome = true ↔ _
  unfold valE
  rw [Option.isSome_map, List.find?_isSome]
  simp only [decide_eq_true_eq]
theorem inY_put (ys : List ERow) (e g : Edge) (b : Addr) (v : V) : inY (putE ys e b v) g = (decide (g = e) || inY ys g) := by
  show (valE (putE ys e b v) g).isSome = _
  rw [valE_put]
  by_cases z : g = e
  · rw [if_pos z, decide_eq_true z]; rfl
  · rw [if_neg z, decide_eq_false z]; rfl
theorem inD_put (kvs : List (List Key × V)) (p q : Pt) (v : V) : inD (putK kvs (keyP p) v) q = (decide (q = p) || inD kvs q) := by
  show (valV (putK kvs (keyP p) v) (keyP q)).isSome = _
  rw [valV_put]
  have e : (keyP q = keyP p) ↔ q = p := by
    obtain ⟨q1, q2⟩ := q
    obtain ⟨p1, p2⟩ := p
    unfold keyP
    simp
  by_cases z : q = p
  · rw [if_pos (e.mpr z), decide_eq_true z]; rfl
  · rw [if_neg (fun h => z (e.mp h)), decide_eq_false z]; rfl
/-- {..: v for each in a list} -/
theorem dcE_list {X : Cx} {K : PySem.W.Frag} {a : Addr} {xs : List V} {g : TG} {tk tv : TE} {vs : List Nat} {σ : L2.St} {H1 : Hp} {D : Addr} {Qd : Hp → Prop} (Pv : Nat → Hp → Prop) (h0 : Pv 0 (upd H1 D (edO X.prog X.w D []))) (hl : ∀ i H, i ≤ xs.length → Pv i H → SqL K H a xs)
    (hs : ∀ i x H, xs[i]? = some x → Pv i H → g x (wipe σ vs) H fun σ2 H2 => wipe σ2 vs = wipe σ vs ∧ tk σ2 H2 fun y H3 => tv σ2 H3 fun z H4 => ∃ ys e b, y = .ref b ∧ EDict X.prog X.w H4 D ys ∧ EdgeAt H4 b e ∧ ys.length < sizeLine ∧ Pv (i + 1) (upd H4 D (edO X.prog X.w D (putE ys e b z)))) (hd : ∀ H, Pv xs.length H → Qd H) :
    ∃ W : Nat → Nat → Hp → Prop, (∃ m, W 0 m (upd H1 D (edO X.prog X.w D []))) ∧ ∀ i m H, W i m H →
      ((Itl K a).stop i H ∧ Qd H) ∨ ((Itl K a).go i H ∧ ∃ Nx : Hp → Prop, (∀ H', Nx H' → ∃ m', m' < m ∧ W (i + 1) m' H') ∧ ∀ x H', (Itl K a).yld i H x H' → g x (wipe σ vs) H' fun σ2 H2 => wipe σ2 vs = wipe σ vs ∧
        tk σ2 H2 fun y H3 => tv σ2 H3 fun z H4 => ∃ ys e b, y = .ref b ∧ EDict X.prog X.w H4 D ys ∧ EdgeAt H4 b e ∧ ys.length < sizeLine ∧ Nx (upd H4 D (edO X.prog X.w D (putE ys e b z)))) := by
  refine ⟨fun i m H => m = xs.length - i ∧ i ≤ xs.length ∧ Pv i H, ⟨_, rfl, Nat.zero_le _, h0⟩, ?_⟩
  rintro i m H ⟨rfl, hi, p⟩
  have q := hl i H hi p
  have w := walk_list (K := K) (a := a) (xs := xs)
  by_cases hlt : i < xs.length
  · refine .inr ⟨w.goes i H hlt q, Pv (i + 1), fun H' p' => ⟨_, by omega, rfl, hlt, p'⟩, fun x H' yl => ?_⟩
    obtain ⟨rfl, yx⟩ := w.yields i H x H' hlt q yl
    exact hs i x _ yx p
  · have e : i = xs.length := by omega
    subst e
    exact .inl ⟨w.stops H q, hd H p⟩
theorem walkE {P : Program} {w : World} {d : Addr} {o : Obj} {ys : List ERow} : Walk (ItE P w d o ys) ys.length (fun H => H d = some (.frz o (edO P w d ys))) (fun i H x H' => H' = H ∧ ∃ y, ys[i]? = some y ∧ x = .ref y.2.1) :=
  ⟨fun _ _ hi q => ⟨q, hi⟩, fun _ q => ⟨q, Nat.le_refl _⟩, fun _ _ _ _ _ _ y => y⟩
def plc (ys : List ERow) (p : Pt) : Bool := ys.any fun y => decide (y.1.1 = p) || decide (y.1.2 = p)
def PlI (H1 : Hp) (D : Addr) (ys : List ERow) (i : Nat) (ps : List Pt) (n : Nat) (H : Hp) : Prop := Same H1 H ∧ ∃ kvs : List (List Key × V), H D = some (.dT kvs) ∧ kvs.length ≤ n ∧ ∀ p : Pt, inD kvs p = (plc (ys.take i) p || ps.any fun z => decide (z = p))
/-- {place: v for side in sides for place in side} -/
theorem dc2_sides {P : Program} {w : World} {K : PySem.W.Frag} {d : Addr} {o : Obj} {ys : List ERow} {g : TG} {wj : TI} {gj : TG} {tk tv : TE} {vs vj : List Nat} {σ : L2.St} {H1 : Hp} {D : Addr} {Qd : Hp → Prop} (few : ys.length ≤ 2000) (hd : H1 d = some (.frz o (edO P w d ys))) (hy : ∀ y ∈ ys, EdgeAt H1 y.2.1 y.1) (nD : H1 D = none)
    (hs : ∀ (i : Nat) (y : ERow) (H : Hp) (t1 t2 : Addr), ys[i]? = some y → Same H1 H → H y.2.1 = some (.tup [.ref t1, .ref t2]) → ∀ R : L2.St → Hp → Prop, (∀ σ2, wipe σ2 vs = wipe σ vs → (∀ Lp : (It → Hp → Prop), Lp (Itt K y.2.1) H → wj σ2 H Lp) →
      (∀ (j : Nat) (p : Pt) (t : Addr) (H3 : Hp), H3 t = some (.tup [.int p.1, .int p.2]) → Same H1 H3 → [t1, t2][j]? = some t → ∀ kvs, H3 D = some (.dT kvs) → kvs.length < sizeLine → ∀ Ny : Hp → Prop, Ny (upd H3 D (.dT (putK kvs (keyP p) (.bl true)))) →
        gj (.ref t) (wipe σ2 vj) H3 fun σ3 H5 => wipe σ3 vj = wipe σ2 vj ∧ tk σ3 H5 fun y H6 => tv σ3 H6 fun z H7 => ∃ kvs c b, y = .ref b ∧ H7 b = some (.tup (c.map kV)) ∧ H7 D = some (.dT kvs) ∧ kvs.length < sizeLine ∧ Ny (upd H7 D (.dT (putK kvs c z)))) → R σ2 H) → g (.ref y.2.1) (wipe σ vs) H R)
    (q : ∀ H' kvs, Same H1 H' → H' D = some (.dT kvs) → (∀ p, inD kvs p = plc ys p) → Qd H') :
    ∃ W : Nat → Nat → Hp → Prop, (∃ m, W 0 m (upd H1 D (.dT []))) ∧ ∀ i m H, W i m H →
      ((ItE P w d o ys).stop i H ∧ Qd H) ∨ ((ItE P w d o ys).go i H ∧ ∃ Nx : Hp → Prop, (∀ H', Nx H' → ∃ m', m' < m ∧ W (i + 1) m' H') ∧ ∀ x H', (ItE P w d o ys).yld i H x H' → g x (wipe σ vs) H' fun σ2 H2 => wipe σ2 vs = wipe σ vs ∧
        wj σ2 H2 fun L H4 => ∃ U : Nat → Nat → Hp → Prop, (∃ m, U 0 m H4) ∧ ∀ j k H, U j k H →
          (L.stop j H ∧ Nx H) ∨ (L.go j H ∧ ∃ Ny : Hp → Prop, (∀ H', Ny H' → ∃ k', k' < k ∧ U (j + 1) k' H') ∧ ∀ x H', L.yld j H x H' → gj x (wipe σ2 vj) H' fun σ3 H5 => wipe σ3 vj = wipe σ2 vj ∧
            tk σ3 H5 fun y H6 => tv σ3 H6 fun z H7 => ∃ kvs c b, y = .ref b ∧ H7 b = some (.tup (c.map kV)) ∧ H7 D = some (.dT kvs) ∧ kvs.length < sizeLine ∧ Ny (upd H7 D (.dT (putK kvs c z))))) := by
  have hPv : ∀ i, i ≤ ys.length → ∀ H : Hp, Same H1 H → H d = some (.frz o (edO P w d ys)) := fun i _ H s => s _ _ hd
  refine ⟨fun i m H => m = ys.length - i ∧ i ≤ ys.length ∧ Same H1 H ∧ ∃ kvs, H D = some (.dT kvs) ∧ kvs.length ≤ 2 * i ∧ ∀ p, inD kvs p = plc (ys.take i) p, ⟨_, rfl, Nat.zero_le _, same_upd nD, [], upd_same, Nat.le_refl _, fun p => ?_⟩, ?_⟩
  · rfl
  rintro i m H ⟨rfl, hi, S, kvs, hD, hl, hin⟩
  by_cases hlt : i < ys.length
  · refine .inr ⟨walkE.goes i H hlt (S _ _ hd), fun (H' : Hp) => Same H1 H' ∧ ∃ kvs : List (List Key × V), H' D = some (.dT kvs) ∧ kvs.length ≤ 2 * (i + 1) ∧ ∀ p : Pt, inD kvs p = plc (ys.take (i + 1)) p, fun H' p' => ⟨_, by omega, rfl, hlt, p'⟩, fun x H' yl => ?_⟩
    obtain ⟨rfl, y, ey, rfl⟩ := walkE.yields i H x H' hlt (S _ _ hd) yl
    obtain ⟨t1, t2, a1, a2, a3⟩ := hy y (List.mem_of_getElem? ey)
    refine hs i y H' t1 t2 ey S (S _ _ a1) _ fun σ2 hw hj hk => ⟨hw, hj _ ?_⟩
    refine ⟨fun j k H => k = 2 - j ∧ j ≤ 2 ∧ Same H1 H ∧ ∃ kvs, H D = some (.dT kvs) ∧ kvs.length ≤ 2 * i + j ∧ ∀ p, inD kvs p = (plc (ys.take i) p || ([y.1.1, y.1.2].take j).any fun z => decide (z = p)), ⟨_, rfl, Nat.zero_le _, S, kvs, hD, by omega, fun p => ?_⟩, ?_⟩
    · rw [hin p]; exact (Bool.or_false _).symm
    rintro j k H ⟨rfl, hj2, S3, kvs3, hD3, hl3, hin3⟩
    have w2 := walk_tup (K := K) (a := y.2.1) (xs := [V.ref t1, V.ref t2])
    have sq : SqT K H y.2.1 [V.ref t1, V.ref t2] := SqT.of (S3 _ _ a1)
    by_cases hlt2 : j < 2
    · refine .inr ⟨w2.goes j H hlt2 sq, PlI H1 D ys i ([y.1.1, y.1.2].take (j + 1)) (2 * i + (j + 1)), fun H' p' => ⟨_, by omega, rfl, hlt2, p'⟩, fun x H' yl => ?_⟩
      obtain ⟨rfl, ex⟩ := w2.yields j H x H' hlt2 sq yl
      obtain ⟨p, t, et, ep, ht, rfl⟩ : ∃ (p : Pt) (t : Addr), [t1, t2][j]? = some t ∧ [y.1.1, y.1.2][j]? = some p ∧ H' t = some (.tup [.int p.1, .int p.2]) ∧ x = .ref t := by
        match j, hlt2 with
        | 0, _ => exact ⟨y.1.1, t1, rfl, rfl, S3 _ _ a2, (Option.some.inj ex).symm⟩
        | 1, _ => exact ⟨y.1.2, t2, rfl, rfl, S3 _ _ a3, (Option.some.inj ex).symm⟩
      refine hk j p t H' ht S3 et kvs3 hD3 (by rw [sizeLine_eq]; omega) (PlI H1 D ys i ([y.1.1, y.1.2].take (j + 1)) (2 * i + (j + 1))) ⟨sPut S3 nD, _, upd_same, ?_, fun p2 => ?_⟩
      · have := length_putK kvs3 (keyP p) (.bl true); omega
      · rw [inD_put, hin3 p2, take_more ep, List.any_append, Bool.or_comm (decide (p2 = p)), Bool.or_assoc]
        congr 2
        show _ = (decide (p = p2) || false)
        rw [Bool.or_false]
        exact decide_eq_decide.mpr ⟨Eq.symm, Eq.symm⟩
    · have e : j = 2 := by omega
      subst e
      refine .inl ⟨w2.stops H sq, S3, kvs3, hD3, by omega, fun p => ?_⟩
      rw [hin3 p, take_more ey]
      unfold plc
      rw [List.any_append]
      congr 1
      show (decide (y.1.1 = p) || (decide (y.1.2 = p) || false)) = ((decide (y.1.1 = p) || decide (y.1.2 = p)) || false)
      rw [Bool.or_false, Bool.or_false]
  · have e : i = ys.length := by omega
    subst e
    refine .inl ⟨walkE.stops H (S _ _ hd), q H kvs S hD fun p => ?_⟩
    rw [hin p, List.take_length]
end SK
namespace SK
open PySem PySem.Spec PyProof.Rows L2 SX
theorem cut_tail (x : V) (xs : List V) : cutV (x :: xs) (some 1) none = xs := by
  unfold cutV
  rw [HT.sIx_none, show (1 : Int) = ((1 : Nat) : Int) from rfl, HT.sIx_nat, Nat.min_eq_left (by rw [List.length_cons]; omega)]
  simp
def NearZ (c : Pt) : Prop := (-(2 ^ 40) ≤ c.1 ∧ c.1 ≤ 2 ^ 40) ∧ -(2 ^ 40) ≤ c.2 ∧ c.2 ≤ 2 ^ 40
def edgesL (ws : List (List Sy)) (st : List Sy) (n : Nat) (c e : Pt) : List Edge := (hitsL ws st n c e).map fun x => edge x.2
def picOf (ws : List (List Sy)) (st : List Sy) (n : Nat) (c e : Pt) : List Nat := picL (inP (edgesL ws st n c e)) (inE (edgesL ws st n c e)) c e
def spPicX (CT : Addr) : Sp := fun vs H Q E => ∃ (b ca ea : Addr) (n : Nat) (ws : List (List Sy)) (st : List Sy) (c e : Pt), vs = [.ref b, .int n, .ref ca, .ref ea] ∧ BookAt H b ws st ∧ GoodBook ws st ∧ n ≤ 400 ∧
  H ca = some (.tup [.int c.1, .int c.2]) ∧ H ea = some (.tup [.int e.1, .int e.2]) ∧ InLim c ∧ InLim e ∧ (Big c e → ErrN CT 60 H E) ∧
  (¬ Big c e → NearZ c ∧ NearZ e ∧ wsum (tree ws n) st ≤ 100000 ∧ (hitsL ws st n c e).length ≤ 2000 ∧ ∀ H', Same H H' → Q (.str (S (picOf ws st n c e))) H')
theorem lineP_len {F : Pt → Bool} {G : Edge → Bool} {y : Int} {xs : List Int} (h : xs.length ≤ 60) : (lineP F G y xs).length ≤ 120 := by
  unfold lineP
  rw [List.length_drop, btw_len _ _ (by rw [List.length_map, List.length_map]), List.length_map]
  omega
theorem lineB_len {G : Edge → Bool} {y : Int} {xs : List Int} (h : xs.length ≤ 60) : (lineB G y xs).length ≤ 120 := by
  unfold lineB
  rw [List.length_drop, btw_len _ _ (by rw [List.length_map, List.length_map]), List.length_map]
  omega
theorem rows_len {F : Pt → Bool} {G : Edge → Bool} {xs : List Int} {lo : Int} : ∀ ys : List Int, (rowsL F G xs lo ys).length ≤ 2 * ys.length
  | [] => Nat.le_refl _
  | y :: ys => by
    have ih := rows_len (F := F) (G := G) (xs := xs) (lo := lo) ys
    unfold rowsL at ih ⊢
    rw [List.flatMap_cons, List.length_append, List.length_cons, List.length_cons]
    split
    · rw [List.length_singleton]; omega
    · rw [List.length_nil]; omega
theorem rows_row {F : Pt → Bool} {G : Edge → Bool} {xs : List Int} {lo : Int} {ys : List Int} (h : xs.length ≤ 60) : ∀ l ∈ rowsL F G xs lo ys, l.length ≤ 120 := by
  intro l hl
  obtain ⟨y, _, hl⟩ := List.mem_flatMap.mp hl
  rcases List.mem_cons.mp hl with rfl | hl
  · exact lineP_len h
  · split at hl
    · rw [List.mem_singleton.mp hl]; exact lineB_len h
    · exact nomatch hl
theorem sum_le {m : Nat} : ∀ {l : List Nat}, (∀ x ∈ l, x ≤ m) → l.sum ≤ l.length * m
  | [], _ => by simp
  | a :: l, h => by
    have := sum_le fun x hx => h x (List.mem_cons_of_mem _ hx)
    have := h a List.mem_cons_self
    rw [List.sum_cons, List.length_cons, Nat.succ_mul]
    omega
section
variable {P : Program} {w : World} {K : PySem.W.Frag} {mg : Str → Option Value} {base : Heap}
theorem ok_picture {f CT : Addr} {fd : FuncData} {k : Nat} (F : Fun K "picture" "picture" s_picture f fd) (GC : GotX P w K mg base "check_picture" k ["book", "age", "corner", "end"] (spChkPic CT)) (GW : GotX P w K mg base "window" k ["book", "age", "corner", "end"] (spWindowX CT)) (GE : Got P w K mg base "ends_of" k ["stroke"] spEndsOf)
    (GL : Got P w K mg base "line_of_places" k ["columns", "y", "places", "sides"] (spLineP P w)) (GB : Got P w K mg base "line_below" k ["columns", "y", "sides"] (spLineB P w)) (mR : mg "range" = none) (mL : mg "list" = none) :
    FnOk P w K mg base (L2.CX P w) (k + 1) f fd ["book", "age", "corner", "end"] (spPicX CT) := by
  refine F.okX sc_picture (fun vs H Q E h => ?_) (fun cdv A outer s H vs Q E hr h => ?_)
  · obtain ⟨b, ca, ea, n, ws, st, c, e, rfl, _⟩ := h
    rfl
  · obtain ⟨b, ca, ea, n, ws, st, c, e, rfl, hb, hg, hn, hca, hea, lc, le, q1, q⟩ := h
    have nd := sc_picture.nd
    have hu1 := hr.units
    refine ⟨_, pss_cons (ps_expr (pcallX GC hr (takes_of rfl rfl rfl rfl) (pa_cons (pv 0) (pa_cons (pv 1) (pa_cons (pv 2) (pa_cons (pv 3) pa_nil))))))
      (pss_cons (ps_setLc (i := 4) (own := [("row", 10)]) (g := gName 10) (tt := tYes) (te := tSl (rSlTN K) (tVar 10) (tPart (tC (.int 1))) tNoPart) rfl nd rfl rfl (sw_true rfl rfl rfl (by decide +kernel)) (pi_tup (pcallX GW hr (takes_of rfl rfl rfl rfl) (pa_cons (pv 0) (pa_cons (pv 1) (pa_cons (pv 2) (pa_cons (pv 3) pa_nil)))))) (blkOk_by (N := n_picture) (sc := defScope s_picture) (by decide +kernel))
        (fun _ _ _ _ _ => pg_name (i := 10) nd rfl (Or.inl rfl)) (fun _ _ _ _ _ => pts_nil) (fun _ _ _ _ _ => pe_slice sl_tupN (pv 10) (po_some pe_int) po_none))
      (pss_cons (ps_setDcE (i := 5) (own := [("each", 11)]) (g := gName 11) (tk := tCall spEndsOf [] E0 (tCons (tVar 11) tNil)) (tv := tC (.bl true)) (by exact hu1) rfl nd (pi_list (pv 4)) (blkOk_by (N := n_picture) (sc := defScope s_picture) (by decide +kernel))
        (fun _ _ _ _ _ => pg_name (i := 11) nd rfl (Or.inl rfl)) (fun _ _ _ _ _ => pcall GE hr (pa_cons (pv 11) pa_nil)) (fun _ _ _ _ _ => pe_bl) rfl rfl (sw_trueD rfl rfl rfl (by decide +kernel)))
      (pss_cons (ps_lock (Dc2.ps_setDc2 (i := 6) (own := [("side", 12), ("place", 13)]) (vj := [13]) (wj := iTup K (tVar 12)) (g := gName 12) (gj := gName 13) (tk := tVar 13) (tv := tC (.bl true)) (by have := hu1; exact (show _ + 1 < cLine from by show (A.deeper (envOfC "picture" (defScope s_picture) s.heap.objs.size f cdv)).units + 1 < cLine; omega)) rfl nd (pi_keysE (pv 5)) (blkOk_by (N := n_picture) (sc := defScope s_picture) (by decide +kernel)) (by decide)
        (fun _ _ _ _ _ => pg_name (i := 12) nd rfl (Or.inl rfl)) (fun _ _ _ _ _ => pi_tup (pv 12)) (fun _ _ _ _ _ => pg_name (i := 13) nd rfl (Or.inl rfl)) (fun _ _ _ _ _ => pv 13) (fun _ _ _ _ _ => pe_bl) rfl rfl (sw_trueD rfl rfl rfl (by decide +kernel))))
      (pss_cons (ps_set (i := 7) nd rfl (.inl rfl) (pe_listRg rfl rfl mL (prg_2 rfl mR (pixT (pv 2) pe_int) (padd (pixT (pv 3) pe_int) pe_int))))
      (pss_cons (ps_set (i := 8) nd rfl (.inl rfl) (plstN pa_nil))
      (pss_cons (ps_for (passes_of rfl) rfl (pi_range3 rfl mR (pa_cons (pixT (pv 3) pe_int) (pa_cons (psub (pixT (pv 2) pe_int) pe_int) (pa_cons (pe_un un_neg pe_int) pa_nil)))) (pg_name (i := 9) nd rfl (.inl rfl))
        (pss_cons (sapp (pv 8) (pcall GL hr (pa_cons (pv 7) (pa_cons (pv 9) (pa_cons (pv 6) (pa_cons (pv 5) pa_nil))))))
        (pss_one (ps_if (pt_cmpR op_gt (pv 9) (pixT (pv 2) pe_int) (nomark _)) (pss_one (sapp (pv 8) (pcall GB hr (pa_cons (pv 7) (pa_cons (pv 9) (pa_cons (pv 5) pa_nil)))))) pss_nil))))
      (pss_one (ps_ret (pe_ifExp (pt_truth (pv 7) (by intro _; rfl)) (pe_join pe_str (pv 8)) pe_str))))))))), ?_⟩
    refine ⟨_, rfl, _, rfl, _, rfl, _, rfl, b, ca, ea, n, ws, st, c, e, rfl, hb, hg, hn, hca, hea, lc, le, fun nb H1 S1 => ?_, q1⟩
    obtain ⟨zc, ze, few, few2, q⟩ := q nb
    have hok : ∀ x ∈ hitsL ws st n c e, 0 ≤ x.2.2.2.1 ∧ x.2.2.2.1 < 4 := fun x hx => (strokes_ok (nest_grown' hg n)).1 x.2 (numS_mem (List.mem_filter.mp hx).1).1
    refine ⟨_, rfl, _, rfl, _, rfl, _, rfl, b, ca, ea, n, ws, st, c, e, rfl, hb.keep (.of S1), hg, hn, S1 _ _ hca, S1 _ _ hea, lc, le, fun H2 tl as S2 n2 h2 hF h20 => ?_, fun z => absurd few (by omega), fun z => absurd few2 (by omega)⟩
    unfold picOf edgesL at q
    generalize hitsL ws st n c e = hs at q hF hok few2 h20
    have lF := hF.length
    have hca2 := S2 _ _ (S1 _ _ hca)
    have hea2 := S2 _ _ (S1 _ _ hea)
    have S02 := S1.trans S2
    clear S1 S2 hca hea
    refine ⟨tl, rfl, ⟨_, SqT.of h2⟩, fun D4 nD4 => ?_⟩
    refine lc_tup (K := K) (a := tl) (xs := as.map V.ref) (fun i H' => Same H2 H' ∧ ∃ rs : List Addr, H' D4 = some (.lst (rs.map V.ref)) ∧ Strs H' rs ((hs.take i).map (·.2))) ⟨same_upd nD4, [], upd_same, .nil⟩ (fun i H' _ h => SqT.of (h.1 _ _ h2)) ?_ ?_
    · rintro i x H3 hx ⟨S3, rs, hD, hR⟩
      have hi : i < hs.length := by have := (List.getElem?_eq_some_iff.mp hx).1; rw [List.length_map] at this; omega
      have hq := List.getElem?_eq_getElem hi
      generalize hs[i] = y at hq
      obtain ⟨a, ha, hat⟩ := paired_get hF hq
      rw [List.getElem?_map, ha] at hx
      cases hx
      have lR := hR.length
      rw [List.length_map, List.length_take] at lR
      refine ⟨rfl, _, rfl, 1, rfl, a, _, rfl, SqT.of (S3 _ _ hat), ?_, fun H4 p4 S4 n4 h4 => ⟨_, S4 _ _ hD, ?_, sPut (S3.trans S4) nD4, rs ++ [p4], ?_, ?_⟩⟩
      · rintro ⟨z, _⟩
        have z : HT.sIx 5 0 (some ((1 : Nat) : Int)) = 0 := z
        rw [HT.sIx_nat] at z
        cases z
      · rw [List.length_map, sizeLine_eq]; omega
      · rw [upd_same, List.map_append]; rfl
      · have T4 : TupS H4 (upd H4 D4 (.lst (rs.map V.ref ++ [V.ref p4]))) := TupS.refl.lst (S4 _ _ hD)
        rw [take_more hq, List.map_append]
        refine Paired.snoc ((hR.keep (.of S4)).keep T4) (T4.1 _ _ ?_)
        rw [h4, show cutV (V.int (y.1 : Nat) :: stV y.2) (some 1) none = stV y.2 from cut_tail _ _]
    rintro H3 ⟨S3, rs, hD4, hR⟩
    rw [List.length_map, lF, List.take_length] at hR
    have S03 := S02.trans S3
    have hca3 := S3 _ _ hca2
    have hea3 := S3 _ _ hea2
    have lR := hR.length
    rw [List.length_map] at lR
    clear S3 hF h2 hca2 hea2
    refine ⟨_, rfl, D4, rfl, ⟨_, SqL.of hD4⟩, fun D5 nD5 => ?_⟩
    refine dcE_list (K := K) (a := D4) (xs := rs.map V.ref) (fun i H' => Same H3 H' ∧ ∃ ys, EDict P w H' D5 ys ∧ ys.length ≤ i ∧ ∀ g, inY ys g = inE ((hs.take i).map fun x => edge x.2) g) ⟨same_upd nD5, [], ⟨upd_same, fun y hy => nomatch hy⟩, Nat.le_refl _, fun g => by show (valE [] g).isSome = decide (g ∈ ([] : List Edge)); simp [valE]⟩ (fun i H' _ h => SqL.of (h.1 _ _ hD4)) ?_ ?_
    · rintro i x H4 hx ⟨S4, ys, hy, hl, hin⟩
      have hi : i < hs.length := by have := (List.getElem?_eq_some_iff.mp hx).1; rw [List.length_map] at this; omega
      have hq := List.getElem?_eq_getElem hi
      generalize hs[i] = y at hq
      obtain ⟨a, ha, hat⟩ := paired_get hR (show (hs.map (·.2))[i]? = some y.2 by rw [List.getElem?_map, hq]; rfl)
      rw [List.getElem?_map, ha] at hx
      cases hx
      obtain ⟨o1, o2⟩ := hok y (List.mem_of_getElem? hq)
      refine ⟨rfl, _, rfl, a, y.2, rfl, S4 _ _ hat, o1, o2, fun H5 r S5 n5 hE => ⟨ys, edge y.2, r, rfl, hy.keep S5, hE, by rw [sizeLine_eq]; omega, sPut (S4.trans S5) nD5, _, (hy.keep S5).put hE _, ?_, fun g => ?_⟩⟩
      · have := putE_len ys (edge y.2) r (.bl true); omega
      · rw [inY_put, hin g, take_more hq, List.map_append]
        show _ = decide (g ∈ _ ++ [edge y.2])
        rw [Bool.eq_iff_iff]
        simp only [Bool.or_eq_true, decide_eq_true_eq, List.mem_append, List.mem_singleton]
        exact ⟨Or.symm, Or.symm⟩
    rintro H4 ⟨S4, ys, hy, hl, hin⟩
    rw [List.length_map] at hl
    rw [List.length_map, lR, List.take_length] at hin
    have S04 := S03.trans S4
    have hca4 := S4 _ _ hca3
    have hea4 := S4 _ _ hea3
    have nD4' : H4 D4 ≠ none := by rw [S4 _ _ hD4]; exact fun z => nomatch z
    clear S4 hca3 hea3 hR
    refine ⟨D5, edO P w D5 ys, hy.1, True.intro, fun od => ?_⟩
    have yl : ∀ y ∈ ys, EdgeAt (upd H4 D5 (.frz od (edO P w D5 ys))) y.2.1 y.1 := fun y my => by
      obtain ⟨t1, t2, a1, a2, a3⟩ := hy.2 y my
      exact ⟨t1, t2, lock_at (ne_of a1 hy.1 (fun z => nomatch z)) a1, lock_at (ne_of a2 hy.1 (fun z => nomatch z)) a2, lock_at (ne_of a3 hy.1 (fun z => nomatch z)) a3⟩
    refine ⟨_, rfl, D5, od, ys, rfl, upd_same, fun D6 nD6 => ?_⟩
    refine dc2_sides (K := K) (by omega) upd_same yl nD6 (fun i y H t1 t2 ey S hyt R hRR => hRR _ rfl (fun Lp hL => ⟨_, rfl, y.2.1, rfl, ⟨_, SqT.of hyt⟩, hL⟩) fun j p t H3 ht S3 et kvs hD hl Ny hN => ⟨rfl, _, rfl, kvs, keyP p, t, rfl, ht, hD, hl, hN⟩) fun H5 kvs S5 hD6 hkv => ?_
    refine ⟨S5 _ _ upd_same, ?_⟩
    have ne65 : D6 ≠ D5 := fun z => by rw [z, upd_same] at nD6; cases nD6
    have SU : Same H4 (upd H5 D5 (edO P w D5 ys)) := same_unlock hy.1 S5
    have hD6' : (upd H5 D5 (edO P w D5 ys)) D6 = some (.dT kvs) := by rw [upd_ne ne65]; exact hD6
    have hy5 : EDict P w (upd H5 D5 (edO P w D5 ys)) D5 ys := ⟨upd_same, fun y my => (hy.2 y my).keep (.of SU)⟩
    have S05 := S04.trans SU
    have hca5 := SU _ _ hca4
    have hea5 := SU _ _ hea4
    generalize upd H5 D5 (edO P w D5 ys) = H6 at SU hD6' hy5 S05 hca5 hea5
    clear SU hD6 nD6 S5 S04 hca4 hea4 yl
    have hG : inY ys = inE (hs.map fun x => edge x.2) := funext hin
    have hF : inD kvs = inP (hs.map fun x => edge x.2) := funext fun p => by
      rw [hkv p, Bool.eq_iff_iff]
      unfold plc inP
      simp only [List.any_eq_true, Bool.or_eq_true, decide_eq_true_eq]
      constructor
      · rintro ⟨y, my, h⟩
        refine ⟨y.1, ?_, h⟩
        have := hin y.1
        rw [inY_mem, decide_eq_true (⟨y, my, rfl⟩ : ∃ z ∈ ys, z.1 = y.1)] at this
        exact of_decide_eq_true this.symm
      · rintro ⟨g, mg, h⟩
        have := hin g
        rw [inY_mem, show inE (hs.map fun x => edge x.2) g = true from decide_eq_true mg] at this
        obtain ⟨y, my, e⟩ := of_decide_eq_true this
        exact ⟨y, my, by rw [e]; exact h⟩
    rw [← hG, ← hF] at q
    clear hG hF hkv hin
    obtain ⟨⟨zc1, zc2⟩, zc3, zc4⟩ := zc
    obtain ⟨⟨ze1, ze2⟩, ze3, ze4⟩ := ze
    have nb1 : ¬ (60 : Int) ≤ e.1 - c.1 := fun z => nb (.inl z)
    have nb2 : ¬ (60 : Int) ≤ e.2 - c.2 := fun z => nb (.inr z)
    refine ⟨_, rfl, ca, _, _, _, rfl, rfl, SqT.of hca5, at0, _, rfl, ea, _, _, _, rfl, rfl, SqT.of hea5, at0, _, _, rfl, rfl, _, _, rfl, rfl, ⟨by omega, by omega, by omega, by omega, by omega⟩, fun D7 nD7 => ?_⟩
    have ex : rgV c.1 (e.1 + 1) = (xsL c.1 (e.1 + 1 - c.1).toNat).map V.int := by unfold rgV xsL; rw [List.map_map]; rfl
    have lx : (xsL c.1 (e.1 + 1 - c.1).toNat).length ≤ 60 := by unfold xsL; rw [List.length_map, List.length_range]; omega
    rw [ex]
    have S7 : Same H6 (upd H6 D7 (.lst ((xsL c.1 (e.1 + 1 - c.1).toNat).map V.int))) := same_upd nD7
    have hD7 : (upd H6 D7 (.lst ((xsL c.1 (e.1 + 1 - c.1).toNat).map V.int))) D7 = some (.lst ((xsL c.1 (e.1 + 1 - c.1).toNat).map V.int)) := upd_same
    generalize upd H6 D7 (.lst ((xsL c.1 (e.1 + 1 - c.1).toNat).map V.int)) = H7 at S7 hD7
    generalize hxs : xsL c.1 (e.1 + 1 - c.1).toNat = xs at hD7 lx
    refine ⟨szl 0, fun H8 lo S8 n8 h8 => ?_⟩
    have S07 := S05.trans S7
    have hca7 := S7 _ _ hca5
    have hea7 := S7 _ _ hea5
    have hy7 := hy5.keep S7
    have hk7 := S7 _ _ hD6'
    clear S7 hca5 hea5 hy5 hD6'
    generalize hm : (e.2 + 1 - c.2).toNat = m at q
    have rg : RgC e.2 (c.2 - 1) (-1) m := by
      have r := RgC.neg (i := e.2) (j := c.2 - 1) (by omega) (by omega) (by omega) (by omega)
      rw [show (e.2 - (c.2 - 1)).toNat = m by omega] at r
      exact r
    refine ⟨_, rfl, ea, _, _, _, rfl, rfl, SqT.of (S8 _ _ hea7), at1, _, rfl, ca, _, _, _, rfl, rfl, SqT.of (S8 _ _ hca7), at1, _, _, rfl, rfl, _, rfl, e.2, c.2 - 1, -1, m, rfl, rg, ?_⟩
    refine for_rangeC (lo := e.2) (c := -1) (n := m) (fun i σ H' => ∃ y9 : Option V, σ = [some (.ref b), some (.int n), some (.ref ca), some (.ref ea), some (.ref D4), some (.ref D5), some (.ref D6), some (.ref D7), some (.ref lo), y9, none, none, none, none] ∧ Same H7 H' ∧ H' lo = some (.lst ((rowsL (inD kvs) (inY ys) xs c.2 (ysL e.2 i)).map fun l => V.str (S l))))
      ⟨_, rfl, S8, h8⟩ ?_ ?_
    · rintro i σ H9 hi ⟨y9, rfl, S9, hlo⟩
      have ey : e.2 + ((i : Nat) : Int) * (-1) = e.2 - (i : Nat) := by omega
      rw [ey]
      have er : ysL e.2 (i + 1) = ysL e.2 i ++ [e.2 - (i : Nat)] := by unfold ysL; rw [List.range_succ, List.map_append]; rfl
      have l1 := rows_len (F := inD kvs) (G := inY ys) (xs := xs) (lo := c.2) (ysL e.2 i)
      have l2 : (ysL e.2 i).length = i := by unfold ysL; rw [List.length_map, List.length_range]
      have er2 : rowsL (inD kvs) (inY ys) xs c.2 (ysL e.2 (i + 1)) = rowsL (inD kvs) (inY ys) xs c.2 (ysL e.2 i) ++ (lineP (inD kvs) (inY ys) (e.2 - (i : Nat)) xs :: (if c.2 < e.2 - (i : Nat) then [lineB (inY ys) (e.2 - (i : Nat)) xs] else [])) := by
        rw [er]
        unfold rowsL
        rw [List.flatMap_append, List.flatMap_cons, List.flatMap_nil, List.append_nil]
      refine ⟨_, rfl, .inl ⟨rfl, _, SqL.of hlo⟩, _, rfl, _, rfl, _, rfl, _, rfl, D7, D6, D5, xs, _, kvs, ys, rfl, S9 _ _ hD7, lx, S9 _ _ hk7, hy7.keep S9, fun H10 S10 => ⟨lo, _, _, rfl, rfl, S10 _ _ hlo, ?_, ?_⟩⟩
      · rw [List.length_map, sizeLine_eq]; omega
      have SA := sPut (o := .lst ((rowsL (inD kvs) (inY ys) xs c.2 (ysL e.2 i)).map (fun l => V.str (S l)) ++ [V.str (S (lineP (inD kvs) (inY ys) (e.2 - (i : Nat)) xs))])) (S9.trans S10) n8
      have hloA : (upd H10 lo (.lst ((rowsL (inD kvs) (inY ys) xs c.2 (ysL e.2 i)).map (fun l => V.str (S l)) ++ [V.str (S (lineP (inD kvs) (inY ys) (e.2 - (i : Nat)) xs))]))) lo = _ := upd_same
      generalize upd H10 lo (.lst ((rowsL (inD kvs) (inY ys) xs c.2 (ysL e.2 i)).map (fun l => V.str (S l)) ++ [V.str (S (lineP (inD kvs) (inY ys) (e.2 - (i : Nat)) xs))])) = H11 at SA hloA
      refine ⟨_, rfl, _, rfl, ca, _, _, _, rfl, rfl, SqT.of (SA _ _ hca7), at1, _, _, rfl, rfl, _, rfl, ?_⟩
      by_cases z : c.2 < e.2 - (i : Nat)
      · rw [decide_eq_true z]
        refine iteT ⟨_, rfl, .inl ⟨rfl, _, SqL.of hloA⟩, _, rfl, _, rfl, _, rfl, D7, D5, xs, _, ys, rfl, SA _ _ hD7, lx, hy7.keep SA, fun H12 S12 => ⟨lo, _, _, rfl, rfl, S12 _ _ hloA, ?_, _, rfl, sPut (SA.trans S12) n8, ?_⟩⟩
        · rw [List.length_append, List.length_map, List.length_singleton, sizeLine_eq]; omega
        · rw [upd_same, er2, if_pos z, List.map_append, List.append_assoc]
          rfl
      · rw [decide_eq_false z]
        refine iteF ⟨_, rfl, SA, ?_⟩
        rw [hloA, er2, if_neg z, List.map_append]
        rfl
    · rintro σ H9 ⟨y9, rfl, S9, hlo⟩
      have l1 := rows_len (F := inD kvs) (G := inY ys) (xs := xs) (lo := c.2) (ysL e.2 m)
      have l2 : (ysL e.2 m).length = m := by unfold ysL; rw [List.length_map, List.length_range]
      have hl1 : ∀ x ∈ (rowsL (inD kvs) (inY ys) xs c.2 (ysL e.2 m)).map List.length, x ≤ 120 := fun x hx => by
        obtain ⟨l, hl, rfl⟩ := List.mem_map.mp hx
        exact rows_row lx l hl
      have hsum := sum_le hl1
      rw [List.length_map] at hsum
      unfold picL at q
      rw [hxs, hm] at q
      by_cases z : e.1 < c.1
      · rw [if_pos z] at q
        have : xs = [] := by rw [← hxs, show (e.1 + 1 - c.1).toNat = 0 by omega]; rfl
        subst this
        refine ⟨_, rfl, false, .inl ⟨_, SqL.of (S9 _ _ hD7), rfl⟩, iteF ?_⟩
        exact q H9 (S07.trans S9)
      · rw [if_neg z] at q
        refine ⟨_, rfl, true, .inl ⟨_, SqL.of (S9 _ _ hD7), ?_⟩, iteT ?_⟩
        · have : xs.length ≠ 0 := by rw [← hxs]; unfold xsL; rw [List.length_map, List.length_range]; omega
          cases xs with
          | nil => exact absurd rfl this
          | cons x xs => rfl
        refine ⟨⟨_, rfl⟩, _, rfl, _, lo, (rowsL (inD kvs) (inY ys) xs c.2 (ysL e.2 m)).map S, rfl, rfl, .inl ?_, ?_, ?_⟩
        · rw [List.map_map]; exact SqL.of hlo
        · rw [lens, List.length_map]
          refine Nat.le_trans (Nat.add_le_add_right hsum _) ?_
          show _ + _ * 1 ≤ _
          omega
        · rw [show (Str.ofString "\n") = S [10] by decide +kernel, join_S]
          exact q H9 (S07.trans S9)
end
end SK
namespace SK
open PySem PySem.Spec PyProof.Rows L2
/-- the other strokes that have a place in common with one -/
def touchL (ws : List (List Sy)) (st : List Sy) (n i : Nat) (s : Stk) : List NS := (hitsL ws st n (edge s).1 (edge s).2).filter fun x => decide (x.1 ≠ i)
def spTouch : Sp := fun vs H Q _ => ∃ (b : Addr) (n i : Nat) (ws : List (List Sy)) (st : List Sy) (s : Stk), vs = [.ref b, .int n, .int i] ∧ BookAt H b ws st ∧ GoodBook ws st ∧ n ≤ 400 ∧ (strokes (grown ws st n))[i]? = some s ∧
  wsum (tree ws n) st ≤ 100000 ∧ (hitsL ws st n (edge s).1 (edge s).2).length ≤ 2000 ∧ ∀ (H' : Hp) (r : Addr), Same H H' → H r = none → H' r = some (.tup ((touchL ws st n i s).map fun x => V.int (x.1 : Nat))) → Q (.ref r) H'
def spFirstC : Sp := fun vs H Q _ => ∃ (b ca : Addr) (m : Nat) (ws : List (List Sy)) (st : List Sy) (c : Pt), vs = [.ref b, .ref ca, .int m] ∧ BookAt H b ws st ∧ GoodBook ws st ∧ m ≤ 400 ∧ H ca = some (.tup [.int c.1, .int c.2]) ∧ InLim c ∧
  (∀ a, a ≤ m → wsum (tree ws a) st ≤ 100000 ∧ (hitsL ws st a c c).length ≤ 2000) ∧
  (∀ a, a ≤ m → hitsL ws st a c c ≠ [] → (∀ j, j < a → hitsL ws st j c c = []) → ∀ H', Same H H' → Q (.int (a : Nat)) H') ∧ ((∀ a, a ≤ m → hitsL ws st a c c = []) → ∀ H', Same H H' → Q .non H')
section
variable {P : Program} {w : World} {K : PySem.W.Frag} {mg : Str → Option Value} {base : Heap}
theorem ok_touching {f : Addr} {fd : FuncData} {k j : Nat} {C CT : Addr} {t4 : Tok} (hj : j + 1 ≤ k) (T : SkTxt K C) (F : Fun K "touching" "touching" s_touching f fd) (GB : Got P w K mg base "check_book_and_age" k ["book", "age", "most"] spCheckBA) (GSt : Got P w K mg base "stroke" k ["book", "age", "number"] spStroke) (GE : Got P w K mg base "ends_of" k ["stroke"] spEndsOf)
    (GI : GotC P w K mg base "Seeker" C j ["self", "book", "age"] (spSkInit K C)) (GS : GotM P w K mg base (L2.CX P w) C "seek" k ["self", "age", "corner", "end"] (spSeekX K C CT)) (GM : GotX P w K mg base "check_many" k ["found"] (spManyX K CT)) (mT : mg "tuple" = none) (m4 : mg "MOST_AGE_SEEN" = some (.int 400 t4)) :
    FnOk P w K mg base (L2.CX P w) (k + 1) f fd ["book", "age", "number"] spTouch := by
  refine F.okX sc_touching (fun vs H Q E h => ?_) (fun cdv A outer s H vs Q E hr h => ?_)
  · obtain ⟨b, n, i, ws, st, sk, rfl, _⟩ := h
    rfl
  · obtain ⟨b, n, i, ws, st, sk, rfl, hb, hg, hn, hsk, few, few2, q⟩ := h
    have nd := sc_touching.nd
    refine ⟨_, pss_cons (ps_expr (pcall GB hr (pa_cons (pv 0) (pa_cons (pv 1) (pa_cons (pe_glob (v := .int 400) rfl m4 ⟨_, rfl⟩) pa_nil)))))
      (pss_cons (ps_set (i := 3) nd rfl (.inl rfl) (pcall GSt hr (pa_cons (pv 0) (pa_cons (pv 1) (pa_cons (pv 2) pa_nil)))))
      (pss_cons (ps_asg (pcall GE hr (pa_cons (pv 3) pa_nil)) (pg_tup (by rfl) (pgs_cons (pg_name (i := 4) nd rfl (.inl rfl)) (pgs_cons (pg_name (i := 5) nd rfl (.inl rfl)) pgs_nil))))
      (pss_cons (ps_set (i := 6) nd rfl (.inl rfl) (pmethX (E := E) GS hr T.cl (takes_of rfl rfl rfl rfl) (fun _ _ _ _ h => h) (pmake GI (hr.mono hj) (pa_cons (pv 0) (pa_cons (pv 1) pa_nil))) (pa_cons (pv 1) (pa_cons (pv 4) (pa_cons (pv 5) pa_nil)))))
      (pss_cons (ps_setLc (i := 7) (own := [("row", 8)]) (g := gName 8) (tt := tTest (tOp rNe (tOp (rIxT K) (tVar 8) (tC (.int 0))) (tVar 2))) (te := tOp (rIxT K) (tVar 8) (tC (.int 0))) rfl nd rfl rfl (sw_true rfl rfl rfl (by decide +kernel)) (pi_list (pv 6)) (blkOk_by (N := n_touching) (sc := defScope s_touching) (by decide +kernel))
        (fun _ _ _ _ _ => pg_name (i := 8) nd rfl (Or.inl rfl)) (fun _ _ _ _ _ => pts_one (pt_cmpR op_ne (pixT (pv 8) pe_int) (pv 2) (nomark _))) (fun _ _ _ _ _ => pixT (pv 8) pe_int))
      (pss_cons (ps_expr (pcallX GM hr (takes_of rfl rfl rfl rfl) (pa_cons (pv 7) pa_nil)))
      (pss_one (ps_ret (ptupleN mT (pv 7))))))))), ?_⟩
    obtain ⟨h0, h4⟩ := (strokes_ok (nest_grown' hg n)).1 sk (List.mem_of_getElem? hsk)
    refine ⟨_, rfl, _, rfl, b, n, 400, ws, st, rfl, hb, hg, hn, fun H1 S1 => ?_⟩
    refine ⟨_, rfl, _, rfl, _, rfl, b, n, i, ws, st, sk, rfl, hb.keep (.of S1), hg, by omega, hsk, fun H2 own S2 n2 h2 => ?_⟩
    refine ⟨_, rfl, own, sk, rfl, h2, h0, h4, fun H3 r3 S3 n3 hE => ?_⟩
    obtain ⟨t1, t2, e0, e1, e2⟩ := hE
    refine ⟨r3, _, rfl, SqT.of e0, rfl, _, _, rfl, _, _, rfl, rfl, ?_⟩
    have S03 := (S1.trans S2).trans S3
    have hb3 := hb.keep (.of S03)
    clear S1 S2 S3 h2 e0 n2 n3
    refine ⟨_, rfl, _, rfl, fun x dx nx ndx nex => ?_⟩
    have S4 : Same H3 (upd (upd H3 dx (.own x)) x (.ins C dx [])) := fun b o e => by
      rw [upd_ne (ne_of_none e nx), upd_ne (ne_of_none e ndx)]
      exact e
    refine ⟨x, b, dx, n, ws, st, rfl, upd_same, hb3.keep (.of S4), hg, by omega, fun H5 a cl X5 hS C5 hc => ⟨rfl, ?_⟩⟩
    have S5 : Same H3 H5 := fun b o e => X5 b o (ne_of_none e nx) (S4 b o e)
    refine ⟨x, a.dx, _, rfl, hS.ob, sfl_no (by decide +kernel) (by decide +kernel) (by decide +kernel) (by decide +kernel) (by decide +kernel), _, rfl, _, rfl, _, rfl, x, t1, t2, a, ws, st, n, cl, n, (edge sk).1, (edge sk).2, rfl, hS, hg, C5, fun k hk => (hc k).mpr ⟨0, hk⟩, Nat.le_refl _, SqT.of (S5 _ _ e1), SqT.of (S5 _ _ e2), fun H6 l as S6 n6 h6 hF hF6 => ?_, fun z => absurd few (by omega)⟩
    unfold touchL at q
    generalize hitsL ws st n (edge sk).1 (edge sk).2 = hs at hF hF6 few2 q
    have lF := hF.length
    refine ⟨_, rfl, l, rfl, ⟨_, SqL.of h6⟩, fun D nD => ?_⟩
    refine lc_list (K := K) (a := l) (xs := as.map V.ref) (fun j H' => Same H6 H' ∧ H' D = some (.lst (((hs.take j).filter fun x => decide (x.1 ≠ i)).map fun x => V.int (x.1 : Nat)))) ⟨same_upd nD, upd_same⟩ (fun j H' _ h => h.1.seq (SqL.of h6)) ?_ ?_
    · rintro j x H7 hx ⟨S7, hD⟩
      have hj : j < hs.length := by have := (List.getElem?_eq_some_iff.mp hx).1; rw [List.length_map] at this; omega
      have hq := List.getElem?_eq_getElem hj
      generalize hs[j] = y at hq
      obtain ⟨a', ha', hat⟩ := paired_get hF hq
      rw [List.getElem?_map, ha'] at hx
      cases hx
      have hD' : ((hs.take j).filter fun x => decide (x.1 ≠ i)).length ≤ j := Nat.le_trans (List.length_filter_le _ _) (by rw [List.length_take]; omega)
      refine ⟨rfl, _, rfl, a', _, _, _, rfl, rfl, SqT.of (S7 _ _ hat), at0, _, rfl, rfl, _, rfl, ?_⟩
      by_cases z : y.1 = i
      · rw [z, decide_eq_true rfl]
        refine iteF ⟨S7, ?_⟩
        rw [hD, take_more hq, List.filter_append]
        simp [z]
      · have z2 : V.int (y.1 : Nat) ≠ V.int (i : Nat) := fun e => z (by injection e with e; omega)
        rw [decide_eq_false z2]
        refine iteT ⟨_, rfl, a', _, _, _, rfl, rfl, SqT.of (S7 _ _ hat), at0, _, hD, ?_, sPut S7 nD, ?_⟩
        · rw [List.length_map, sizeLine_eq]; omega
        · rw [upd_same, take_more hq, List.filter_append, List.map_append]
          simp [z]
    · rintro H7 ⟨S7, hD⟩
      rw [List.length_map, lF, List.take_length] at hD
      have hl : (hs.filter fun x => decide (x.1 ≠ i)).length ≤ 2000 := Nat.le_trans (List.length_filter_le _ _) few2
      refine ⟨_, rfl, D, _, rfl, hD, fun z => ?_, fun z => absurd hl (by rw [List.length_map] at z; omega)⟩
      exact ⟨_, rfl, D, _, rfl, SqL.of hD, fun H8 r S8 n8 h8 => q H8 r ((((S03.trans S5).trans S6).trans S7).trans S8) ((((S03.trans S5).trans S6).trans S7).free n8) h8⟩
theorem ok_firstc {f : Addr} {fd : FuncData} {k j : Nat} {C CT : Addr} {t4 : Tok} (hj : j + 1 ≤ k) (T : SkTxt K C) (F : Fun K "first_coming" "first_coming" s_first_coming f fd) (GB : Got P w K mg base "check_book" k ["value"] spCheckBook) (GP : Got P w K mg base "check_place" k ["value"] spPlace) (GN : Got P w K mg base "check_number" k ["value", "least", "most"] spCheckNum)
    (GI : GotC P w K mg base "Seeker" C j ["self", "book", "age"] (spSkInit K C)) (GS : GotM P w K mg base (L2.CX P w) C "seek" k ["self", "age", "corner", "end"] (spSeekX K C CT)) (GM : GotX P w K mg base "check_many" k ["found"] (spManyX K CT)) (mR : mg "range" = none) (m4 : mg "MOST_AGE_SEEN" = some (.int 400 t4)) :
    FnOk P w K mg base (L2.CX P w) (k + 1) f fd ["book", "place", "most"] spFirstC := by
  refine F.okX sc_first_coming (fun vs H Q E h => ?_) (fun cdv A outer s H vs Q E hr h => ?_)
  · obtain ⟨b, ca, m, ws, st, c, rfl, _⟩ := h
    rfl
  · obtain ⟨b, ca, m, ws, st, c, rfl, hb, hg, hm, hca, lc, few, q1, q2⟩ := h
    have nd := sc_first_coming.nd
    refine ⟨_, pss_cons (ps_expr (pcall GB hr (pa_cons (pv 0) pa_nil)))
      (pss_cons (ps_expr (pcall GP hr (pa_cons (pv 1) pa_nil)))
      (pss_cons (ps_expr (pcall GN hr (pa_cons (pv 2) (pa_cons pe_int (pa_cons (pe_glob (v := .int 400) rfl m4 ⟨_, rfl⟩) pa_nil)))))
      (pss_cons (ps_set (i := 3) nd rfl (.inl rfl) (pmake GI (hr.mono hj) (pa_cons (pv 0) (pa_cons (pv 2) pa_nil))))
      (pss_cons (ps_for (passes_of rfl) rfl (pi_range1 rfl mR (pa_cons (padd (pv 2) pe_int) pa_nil)) (pg_name (i := 4) nd rfl (.inl rfl))
        (pss_cons (ps_set (i := 5) nd rfl (.inl rfl) (pmethX (E := E) GS hr T.cl (takes_of rfl rfl rfl rfl) (fun _ _ _ _ h => h) (pv 3) (pa_cons (pv 4) (pa_cons (pv 1) (pa_cons (pv 1) pa_nil)))))
        (pss_cons (ps_expr (pcallX GM hr (takes_of rfl rfl rfl rfl) (pa_cons (pv 5) pa_nil)))
        (pss_one (ps_if (pt_truth (pv 5) (by intro _; rfl)) (pss_one (ps_ret (pv 4))) pss_nil)))))
      (pss_one (ps_ret pe_non)))))), ?_⟩
    refine ⟨_, rfl, b, ws, st, rfl, hb, hg, fun H1 S1 => ?_⟩
    refine ⟨_, rfl, ca, c, rfl, S1 _ _ hca, lc, ?_⟩
    refine ⟨_, rfl, (m : Int), 0, 400, rfl, by omega, by omega, ?_⟩
    refine ⟨_, rfl, _, rfl, fun x dx nx ndx nex => ?_⟩
    have S2 : Same H1 (upd (upd H1 dx (.own x)) x (.ins C dx [])) := fun b o e => by
      rw [upd_ne (ne_of_none e nx), upd_ne (ne_of_none e ndx)]
      exact e
    refine ⟨x, b, dx, m, ws, st, rfl, upd_same, (hb.keep (.of S1)).keep (.of S2), hg, by omega, fun H3 a cl X3 hS C3 hc => ⟨rfl, ?_⟩⟩
    have S3 : Same H1 H3 := fun b o e => X3 b o (ne_of_none e nx) (S2 b o e)
    have S03 := S1.trans S3
    have hca3 := S03 _ _ hca
    refine ⟨_, rfl, _, _, rfl, rfl, (m : Int) + 1, rfl, by omega, by omega, ?_⟩
    rw [show ((m : Int) + 1).toNat = m + 1 by omega]
    refine for_range (lo := 0) (n := m + 1) (fun i σ H' => ∃ y4 y5 : Option V, σ = [some (.ref b), some (.ref ca), some (.int m), some (.ref x), y4, y5] ∧ Same H3 H' ∧ ∀ j, j < i → hitsL ws st j c c = []) ⟨_, _, rfl, Same.refl _, fun j z => absurd z (Nat.not_lt_zero _)⟩ ?_ ?_
    · rintro i σ H4 hi ⟨y4, y5, rfl, S4, hz⟩
      rw [show (0 : Int) + ((i : Nat) : Int) = (i : Nat) by omega]
      have hS4 := hS.same S4
      obtain ⟨fw1, fw2⟩ := few i (by omega)
      refine ⟨_, rfl, x, a.dx, _, rfl, hS4.ob, sfl_no (by decide +kernel) (by decide +kernel) (by decide +kernel) (by decide +kernel) (by decide +kernel), _, rfl, _, rfl, _, rfl, x, ca, ca, a, ws, st, m, cl, i, c, c, rfl, hS4, hg, C3, fun k hk => (hc k).mpr ⟨0, hk⟩, by omega, SqT.of (S4 _ _ hca3), SqT.of (S4 _ _ hca3), fun H6 l as S6 n6 h6 hF hF6 => ?_, fun z => absurd fw1 (by omega)⟩
      have lF := hF.length
      refine ⟨_, rfl, l, _, rfl, h6, fun _ => ?_, fun z => absurd fw2 (by rw [List.length_map] at z; omega)⟩
      have S46 := S4.trans S6
      cases as with
      | nil =>
        refine ⟨_, rfl, false, .inl ⟨_, SqL.of h6, rfl⟩, iteF ⟨_, _, rfl, S46, fun j hj => ?_⟩⟩
        by_cases e : j = i
        · subst e; exact List.eq_nil_of_length_eq_zero lF.symm
        · exact hz j (by omega)
      | cons a0 as =>
        refine ⟨_, rfl, true, .inl ⟨_, SqL.of h6, rfl⟩, iteT ⟨_, rfl, q1 i (by omega) (fun z => ?_) hz H6 (S03.trans S46)⟩⟩
        rw [z] at lF
        cases lF
    · rintro σ H4 ⟨y4, y5, rfl, S4, hz⟩
      exact q2 (fun a ha => hz a (by omega)) H4 (S03.trans S4)
end
end SK
namespace SK
open PySem PySem.Spec PyProof.Rows L2 SX

/-- the two places of each stroke, in lists -/
def LotAt (H : Hp) (p : Addr) (s : Stk) : Prop := ∃ t1 t2, H p = some (.lst [.ref t1, .ref t2]) ∧ H t1 = some (.tup [.int s.1, .int s.2.1]) ∧ H t2 = some (.tup [.int (endS s).1, .int (endS s).2])
def Lots (H : Hp) (ps : List Addr) (L : List Stk) : Prop := Paired (fun p s => LotAt H p s) ps L
theorem LotAt.same {H H' : Hp} {p : Addr} {s : Stk} (S : Same H H') (h : LotAt H p s) : LotAt H' p s := by
  obtain ⟨t1, t2, a1, a2, a3⟩ := h
  exact ⟨t1, t2, S _ _ a1, S _ _ a2, S _ _ a3⟩
theorem Lots.same {H H' : Hp} {ps : List Addr} {L : List Stk} (S : Same H H') (h : Lots H ps L) : Lots H' ps L := Paired.mono (fun p s e => e.same S) h
theorem LotAt.drawn {K : PySem.W.Frag} {S : Scr} {r p : Addr} {H H' : Hp} {s : Stk} (d : Drawn K S r H H') (hr : RowOk K S H r) (h : LotAt H p s) : LotAt H' p s := by
  obtain ⟨t1, t2, a1, a2, a3⟩ := h
  have t := d.tups hr
  exact ⟨t1, t2, d.at (hr.neL (xs := [t1, t2]) a1) a1, t.1 _ _ a2, t.1 _ _ a3⟩
theorem Lots.drawn {K : PySem.W.Frag} {S : Scr} {r : Addr} {H H' : Hp} {ps : List Addr} {L : List Stk} (d : Drawn K S r H H') (hr : RowOk K S H r) (h : Lots H ps L) : Lots H' ps L := Paired.mono (fun p s e => e.drawn d hr) h
structure LawG20 (P : Program) (w : World) (K : PySem.W.Frag) (mg : Str → Option Value) (base : Heap) (CT : Addr) (k : Nat) : Prop where
  pick : Got P w K mg base "_law_pick" k ["row", "things"] (spPick K)
  book : Got P w K mg base "_law_book" k ["row"] (spBook K)
  kit : Got P w K mg base "_law_kit" k ["row"] (spBook K)
  even : Got P w K mg base "_law_even_book" k ["row"] (spEvenBook K)
  taken : Got P w K mg base "_law_taken" k ["row", "many"] (spTaken K)
  age : Got P w K mg base "_law_age" k ["book", "most"] (spAge K)
  grown : Got P w K mg base "_law_grown" k ["book", "age"] (spGrown K)
  drawn : Got P w K mg base "_law_drawn" k ["word"] (spDrawnL K)
  unit : Got P w K mg base "_law_unit" k ["heading"] spUnit
  alike : Got P w K mg base "_law_alike" k ["found", "due"] (spAlike 4)
  pic : GotX P w K mg base "picture" k ["book", "age", "corner", "end"] (spPicX CT)
  touch : GotX P w K mg base "touching" k ["book", "age", "number"] spTouch
  first : GotX P w K mg base "first_coming" k ["book", "place", "most"] spFirstC
  mR : mg "range" = none
  ml : mg "len" = none
  mT : mg "tuple" = none
  mI : mg "isinstance" = none
  mMi : mg "min" = none
  mMa : mg "max" = none
/-! ### the law's own drawing -/
structure D20 (K : PySem.W.Frag) (S : Scr) (r b fa lo : Addr) (as ps : List Addr) (ws : List (List Sy)) (st : List Sy) (age : Nat) (H : Hp) : Prop where
  row : RowOk K S H r
  bk : BookAt H b ws st
  g : GoodBook ws st
  low : Low 150 ws st age
  fa : H fa = some (.lst (as.map V.ref))
  sa : Strs H as (strokes (grown ws st age))
  lo : H lo = some (.lst (ps.map V.ref))
  sl : Lots H ps (strokes (grown ws st age))
section
variable {K : PySem.W.Frag} {S : Scr} {r b fa lo : Addr} {as ps : List Addr} {ws : List (List Sy)} {st : List Sy} {age : Nat} {H H' : Hp}
theorem D20.same (h : D20 K S r b fa lo as ps ws st age H) (s : Same H H') : D20 K S r b fa lo as ps ws st age H' :=
  ⟨h.row.same s, h.bk.keep (.of s), h.g, h.low, s _ _ h.fa, h.sa.keep (.of s), s _ _ h.lo, h.sl.same s⟩
theorem D20.drawn (h : D20 K S r b fa lo as ps ws st age H) (d : Drawn K S r H H') : D20 K S r b fa lo as ps ws st age H' := by
  have t := d.tups h.row
  exact ⟨d.row, h.bk.keep t, h.g, h.low, d.at (h.row.neL h.fa) h.fa, h.sa.keep t, d.at (h.row.neL h.lo) h.lo, h.sl.drawn d h.row⟩
theorem D20.few (h : D20 K S r b fa lo as ps ws st age H) : (strokes (grown ws st age)).length ≤ 150 := by
  rw [strokes_nL]
  exact h.low.2 age (Nat.le_refl _)
theorem D20.pos (h : D20 K S r b fa lo as ps ws st age H) : 1 ≤ (strokes (grown ws st age)).length := by
  rw [strokes_nL]
  exact nL_pos (grown_has h.g age)
theorem D20.len (h : D20 K S r b fa lo as ps ws st age H) : ps.length = (strokes (grown ws st age)).length := Paired.length h.sl
theorem D20.tree (h : D20 K S r b fa lo as ps ws st age H) : wsum (tree ws age) st ≤ 100000 := by
  have := tree_le (ws := ws) (M := 150) age st h.low.2
  have h8 := h.low.1
  have : (age + 1) * 150 ≤ 9 * 150 := Nat.mul_le_mul_right _ (by omega)
  omega
end
theorem hits_few {ws : List (List Sy)} {st : List Sy} {n M : Nat} {c e : Pt} (h : (strokes (grown ws st n)).length ≤ M) : (hitsL ws st n c e).length ≤ M := by
  unfold hitsL
  exact Nat.le_trans (List.length_filter_le _ _) (by rw [numS_len]; exact h)
/-! ### what stands between the law's parts -/
def tP4 (K : PySem.W.Frag) : TS := fun D σ H => ∃ (a r b fa : Addr) (ns : List Int) (as : List Addr) (ws : List (List Sy)) (st : List Sy) (age : Nat) (y5 : Option V), σ = [some (.ref a), some (.ref r), some (.ref b), some (.int age), some (.ref fa), y5, none, none, none, none, none, none, none, none, none, none, none, none, none, none, none, none, none, none, none, none, none, none, none, none, none] ∧
  RowOk K (a, ns) H r ∧ BookAt H b ws st ∧ GoodBook ws st ∧ Low 150 ws st age ∧ H fa = some (.lst (as.map V.ref)) ∧ Strs H as (strokes (grown ws st age)) ∧ ∀ H', D.rt (.bl true) H'
def tP6 (K : PySem.W.Frag) : TS := fun D σ H => ∃ (a r b fa lo : Addr) (ns : List Int) (as ps : List Addr) (ws : List (List Sy)) (st : List Sy) (age : Nat) (y5 y7 y8 y9 y10 y11 : Option V), σ = [some (.ref a), some (.ref r), some (.ref b), some (.int age), some (.ref fa), y5, some (.ref lo), y7, y8, y9, y10, y11, none, none, none, none, none, none, none, none, none, none, none, none, none, none, none, none, none, none, none] ∧
  D20 K (a, ns) r b fa lo as ps ws st age H ∧ ∀ H', D.rt (.bl true) H'
def tP9 (K : PySem.W.Frag) : TS := fun D σ H => ∃ (a r b fa lo ca ea : Addr) (ns : List Int) (as ps : List Addr) (ws : List (List Sy)) (st : List Sy) (age : Nat) (c e : Pt) (y5 y7 y8 y9 y10 y11 : Option V), σ = [some (.ref a), some (.ref r), some (.ref b), some (.int age), some (.ref fa), y5, some (.ref lo), y7, y8, y9, y10, y11, some (.ref ca), some (.ref ea), none, none, none, none, none, none, none, none, none, none, none, none, none, none, none, none, none] ∧
  D20 K (a, ns) r b fa lo as ps ws st age H ∧ H ca = some (.tup [.int c.1, .int c.2]) ∧ H ea = some (.tup [.int e.1, .int e.2]) ∧ InLim c ∧ InLim e ∧ NearZ c ∧ NearZ e ∧ ¬ Big c e ∧ (e.1 - c.1 ≤ 4 ∧ e.2 - c.2 ≤ 4) ∧ ∀ H', D.rt (.bl true) H'
def tP11 (P : Program) (w : World) (K : PySem.W.Frag) : TS := fun D σ H => ∃ (a r b fa lo ca ea sh en li : Addr) (ns : List Int) (as ps : List Addr) (ws : List (List Sy)) (st : List Sy) (age : Nat) (c e : Pt) (ys : List ERow) (kvs : List (List Key × V)) (y5 y7 y8 y9 y10 y11 y17 y18 : Option V), σ = [some (.ref a), some (.ref r), some (.ref b), some (.int age), some (.ref fa), y5, some (.ref lo), y7, y8, y9, y10, y11, some (.ref ca), some (.ref ea), some (.ref sh), some (.ref en), some (.ref li), y17, y18, none, none, none, none, none, none, none, none, none, none, none, none] ∧
  D20 K (a, ns) r b fa lo as ps ws st age H ∧ H ca = some (.tup [.int c.1, .int c.2]) ∧ H ea = some (.tup [.int e.1, .int e.2]) ∧ InLim c ∧ InLim e ∧ NearZ c ∧ NearZ e ∧ ¬ Big c e ∧ (e.1 - c.1 ≤ 4 ∧ e.2 - c.2 ≤ 4) ∧
  EDict P w H sh ys ∧ inY ys = inE (edgesL ws st age c e) ∧ H en = some (.dT kvs) ∧ inD kvs = inP (edgesL ws st age c e) ∧ H li = some (.lst []) ∧ ∀ H', D.rt (.bl true) H'
def tP14 (K : PySem.W.Frag) : TS := fun D σ H => ∃ (a r b fa lo : Addr) (ns : List Int) (as ps : List Addr) (ws : List (List Sy)) (st : List Sy) (age : Nat) (y5 y7 y8 y9 y10 y11 y12 y13 y14 y15 y16 y17 y18 y19 y20 : Option V), σ = [some (.ref a), some (.ref r), some (.ref b), some (.int age), some (.ref fa), y5, some (.ref lo), y7, y8, y9, y10, y11, y12, y13, y14, y15, y16, y17, y18, y19, y20, none, none, none, none, none, none, none, none, none, none] ∧
  D20 K (a, ns) r b fa lo as ps ws st age H ∧ ∀ H', D.rt (.bl true) H'
def tP17 (K : PySem.W.Frag) : TS := fun D σ H => ∃ (a r b fa lo : Addr) (ns : List Int) (as ps : List Addr) (ws : List (List Sy)) (st : List Sy) (age : Nat) (y5 y7 y8 y9 y10 y11 y12 y13 y14 y15 y16 y17 y18 y19 y20 y21 y22 y23 : Option V), σ = [some (.ref a), some (.ref r), some (.ref b), some (.int age), some (.ref fa), y5, some (.ref lo), y7, y8, y9, y10, y11, y12, y13, y14, y15, y16, y17, y18, y19, y20, y21, y22, y23, none, none, none, none, none, none, none] ∧
  D20 K (a, ns) r b fa lo as ps ws st age H ∧ ∀ H', D.rt (.bl true) H'
def tP20 (K : PySem.W.Frag) : TS := fun D σ H => ∃ (b : Addr) (ws : List (List Sy)) (st : List Sy) (age : Nat) (y0 y1 y4 y5 y6 y7 y8 y9 y10 y11 y12 y13 y14 y15 y16 y17 y18 y19 y20 y21 y22 y23 y24 y25 y26 y27 y28 : Option V), σ = [y0, y1, some (.ref b), some (.int age), y4, y5, y6, y7, y8, y9, y10, y11, y12, y13, y14, y15, y16, y17, y18, y19, y20, y21, y22, y23, y24, y25, y26, y27, y28, none, none] ∧
  BookAt H b ws st ∧ GoodBook ws st ∧ age ≤ 400 ∧ ∀ H', D.rt (.bl true) H'
end SK
namespace SK
open PySem PySem.Spec PyProof.Rows L2 SX
section
variable {P : Program} {w : World} {K : PySem.W.Frag} {mg : Str → Option Value} {base : Heap}
theorem law20_a {f CT : Addr} {fd : FuncData} {k : Nat} (F : Fun K "law" "law" s_law f fd) (G : LawG20 P w K mg base CT k)
    (R : ∀ (cdv : Value) (A : Around) (outer : List Env) (s : Shared) (H : Hp) (E : XK), Room k (A.deeper (envOfC "law" (defScope s_law) s.heap.objs.size f cdv)) → PSs (cxOf CX0 P w K mg base n_law "law" (defScope s_law) f cdv A outer s H E).nox ((defBody s_law).drop 4) (tP4 K)) :
    FnOk P w K mg base CX0 (k + 1) f fd ["script"] (spLaw K) := by
  refine F.ok sc_law (fun vs H Q E h => ?_) (fun cdv A outer s H vs Q E hr h => ?_)
  · obtain ⟨a, ns, rfl, _⟩ := h
    rfl
  · obtain ⟨a, ns, rfl, ha, hns, q⟩ := h
    have nd := sc_law.nd
    obtain ⟨GP, GB, GK, GE, GT, GA, GG, GD, GU, GL, GPc, GTo, GFi, mR, ml, mT, mI, mMi, mMa⟩ := G
    refine ⟨_, pss_cons (ps_set (i := 1) nd rfl (.inl rfl) (plstK (pa_cons (pv 0) (pa_cons pe_int (pa_cons pe_int (pa_cons pe_int pa_nil))))))
      (pss_cons (ps_set (i := 2) nd rfl (.inl rfl) (pcall GP hr (pa_cons (pv 1) (pa_cons (plstN (pa_cons (pcall GB hr (pa_cons (pv 1) pa_nil)) (pa_cons (pcall GK hr (pa_cons (pv 1) pa_nil)) (pa_cons (pixT (pcall GE hr (pa_cons (pv 1) pa_nil)) pe_int) pa_nil)))) pa_nil))))
      (pss_cons (ps_set (i := 3) nd rfl (.inl rfl) (pcall GT hr (pa_cons (pv 1) (pa_cons (padd pe_int (pcall GA hr (pa_cons (pv 2) (pa_cons pe_int pa_nil)))) pa_nil))))
      (pss_cons (ps_asg (pcall GD hr (pa_cons (pcall GG hr (pa_cons (pv 2) (pa_cons (pv 3) pa_nil))) pa_nil)) (pg_tup (by rfl) (pgs_cons (pg_name (i := 4) nd rfl (.inl rfl)) (pgs_cons (pg_name (i := 5) nd rfl (.inl rfl)) pgs_nil))))
      (R cdv A outer s H E hr)))), ?_⟩
    refine ⟨_, rfl, szl 4, fun H1 r S1 n1 k1 h1 => ?_⟩
    have nar : a ≠ r := by
      rcases ha with (e | ⟨o, e⟩) | ⟨o, its, n, e, _⟩
      · exact ne_of_none e n1
      · exact ne_of_none e n1
      · intro z; rw [z, show K.lookup r = none from k1] at e; cases e
    have hR1 : RowOk K (a, ns) H1 r := ⟨0, 11320, 0, h1, S1.seq ha, Int.le_refl _, nar, hns⟩
    refine ⟨_, rfl, _, rfl, r, (a, ns), rfl, hR1, fun H2 b1 ws1 st1 D1 B1 g1 => ⟨_, rfl, r, (a, ns), rfl, D1.row, fun H3 b2 ws2 st2 D2 B2 g2 => ⟨_, rfl, r, (a, ns), rfl, D2.row, fun H4 p3 b3 m3 ws3 st3 D3 h3 B3 g3 => ?_⟩⟩⟩
    refine ⟨p3, _, _, _, rfl, rfl, SqT.of h3, at0, szl 3, fun H5 q5 S5 n5 h5 => ?_⟩
    have hR5 := D3.row.same S5
    refine ⟨r, q5, (a, ns), _, rfl, hR5, D3.row.there n5, h5, by show 1 ≤ 3; decide, by show 3 < _; decide, fun H6 k6 v6 D6 hv6 => ?_⟩
    have T56 := D6.tups hR5
    have bk : ∃ b ws st, v6 = .ref b ∧ BookAt H6 b ws st ∧ GoodBook ws st := by
      have hm := List.mem_of_getElem? hv6
      simp only [List.mem_cons, List.not_mem_nil, or_false] at hm
      rcases hm with rfl | rfl | rfl
      · exact ⟨b1, ws1, st1, rfl, (((B1.keep (D2.tups D1.row)).keep (D3.tups D2.row)).keep (.of S5)).keep T56, g1⟩
      · exact ⟨b2, ws2, st2, rfl, ((B2.keep (D3.tups D2.row)).keep (.of S5)).keep T56, g2⟩
      · exact ⟨b3, ws3, st3, rfl, (B3.keep (.of S5)).keep T56, g3⟩
    obtain ⟨b, ws, st, rfl, B6, g⟩ := bk
    have hR6 := D6.row
    clear B1 B2 B3 g1 g2 g3 D1 D2 D3 D6 hR5 T56 hv6 h3 S5 n5 h5 hR1 h1 S1 n1
    refine ⟨_, rfl, _, rfl, b, 150, ws, st, rfl, B6, g, by decide, by decide, fun H7 n S7 low => ⟨_, _, rfl, rfl, ?_⟩⟩
    have en : (V.int (1 + (n : Int))) = V.int ((1 + n : Nat) : Int) := by congr 1
    dsimp only; rw [en]
    have hn8 := low.1
    refine ⟨r, (a, ns), 1 + n, rfl, hR6.same S7, by omega, by omega, fun H8 age D8 hage => ?_⟩
    have B8 := (B6.keep (.of S7)).keep (D8.tups (hR6.same S7))
    have low8 := low.mono (show age ≤ n by omega)
    have len8 := low8.len g
    have nst := nest_grown' g age
    have a8 := low8.1
    have hR8 := D8.row
    clear B6 hR6 S7 D8 low en hage hn8
    refine ⟨_, rfl, _, rfl, b, age, ws, st, rfl, B8, g, by omega, by omega, fun H9 p9 S9 n9 h9 => ?_⟩
    refine ⟨p9, _, rfl, .inl (SqL.of h9), nst, by omega, fun H10 pp fa pe as S10 n10 h10 hfa hA nfa he10 => ?_⟩
    refine ⟨pp, _, rfl, SqT.of h10, rfl, _, _, rfl, _, _, rfl, rfl, ?_⟩
    have hR9 := hR8.same S9
    exact ⟨a, r, b, fa, ns, as, ws, st, age, _, rfl, hR9.same S10, (B8.keep (.of S9)).keep (.of S10), g, low8, hfa, hA, q⟩
end
end SK
namespace SK
open PySem PySem.Spec PyProof.Rows L2 SX
theorem lots_keep {H H' : Hp} : ∀ {ps : List Addr} {L : List Stk}, Lots H ps L → (∀ p ∈ ps, ∀ s, LotAt H p s → LotAt H' p s) → Lots H' ps L
  | _, _, .nil, _ => .nil
  | _, _, .cons h t, f => .cons (f _ List.mem_cons_self _ h) (lots_keep t fun p hp => f p (List.mem_cons_of_mem _ hp))
section
variable {P : Program} {w : World} {K : PySem.W.Frag} {mg : Str → Option Value} {base : Heap}
theorem law20_b {f CT : Addr} {cdv : Value} {k : Nat} (G : LawG20 P w K mg base CT k) {A : Around} {outer : List Env} {s : Shared} {H : Hp} {E : XK} (hr : Room k (A.deeper (envOfC "law" (defScope s_law) s.heap.objs.size f cdv)))
    (R : PSs (cxOf CX0 P w K mg base n_law "law" (defScope s_law) f cdv A outer s H E).nox ((defBody s_law).drop 6) (tP6 K)) :
    PSs (cxOf CX0 P w K mg base n_law "law" (defScope s_law) f cdv A outer s H E).nox ((defBody s_law).drop 4) (tP4 K) := by
  have nd := sc_law.nd
  obtain ⟨GP, GB, GK, GE, GT, GA, GG, GD, GU, GL, GPc, GTo, GFi, mR, ml, mT, mI, mMi, mMa⟩ := G
  refine pssimp _ (pss_cons (ps_set (i := 6) nd rfl (.inr rfl) (plstN pa_nil))
    (pss_cons (ps_for PassesOwn.never rfl (pi_list (pv 4)) (pg_tup (by rfl) (pgs_cons (pg_name (i := 7) nd rfl (.inl rfl)) (pgs_cons (pg_name (i := 8) nd rfl (.inl rfl)) (pgs_cons (pg_name (i := 9) nd rfl (.inl rfl)) (pgs_cons (pg_name (i := 10) nd rfl (.inl rfl)) pgs_nil)))))
      (pss_cons (ps_set (i := 11) nd rfl (.inl rfl) (pcall GU hr (pa_cons (pv 9) pa_nil)))
      (pss_one (sapp (pv 6) (plstN (pa_cons (ptupN (pa_cons (pv 7) (pa_cons (pv 8) pa_nil))) (pa_cons (ptupN (pa_cons (padd (pv 7) (pixT (pv 11) pe_int)) (pa_cons (padd (pv 8) (pixT (pv 11) pe_int)) pa_nil))) pa_nil)))))))
    R)) ?_
  rintro D σ H0 ⟨a, r, b, fa, ns, as, ws, st, age, y5, rfl, hR, hB, g, low, hfa, hA, q⟩
  refine ⟨szl 0, fun H1 lo S1 n1 h1 => ?_⟩
  have hok := (strokes_ok (nest_grown' g age)).1
  have few : (strokes (grown ws st age)).length ≤ 150 := by rw [strokes_nL]; exact low.2 age (Nat.le_refl _)
  have lA := hA.length
  generalize hL : strokes (grown ws st age) = L at hA hok few lA
  refine ⟨_, rfl, fa, rfl, ⟨_, SqL.of (S1 _ _ hfa)⟩, ?_⟩
  refine for_list (K := K) (a := fa) (xs := as.map V.ref) (fun i σ H' => ∃ (ps : List Addr) (y7 y8 y9 y10 y11 : Option V), σ = [some (.ref a), some (.ref r), some (.ref b), some (.int age), some (.ref fa), y5, some (.ref lo), y7, y8, y9, y10, y11, none, none, none, none, none, none, none, none, none, none, none, none, none, none, none, none, none, none, none] ∧ Same H0 H' ∧ H' lo = some (.lst (ps.map V.ref)) ∧ Lots H' ps (L.take i) ∧ ∀ p ∈ ps, p ≠ lo)
    ⟨[], _, _, _, _, _, rfl, S1, h1, .nil, fun p hp => nomatch hp⟩ (fun i σ H' _ h => by obtain ⟨_, _, _, _, _, _, _, s, _⟩ := h; exact SqL.of (s _ _ hfa)) ?_ ?_
  · rintro i x σ H2 hx ⟨ps, y7, y8, y9, y10, y11, rfl, S2, hlo, hP, hne⟩
    have hi : i < L.length := by have := (List.getElem?_eq_some_iff.mp hx).1; rw [List.length_map] at this; omega
    have hq := List.getElem?_eq_getElem hi
    generalize L[i] = sk at hq
    obtain ⟨p, ep, hp⟩ := paired_get hA hq
    rw [List.getElem?_map, ep] at hx
    cases hx
    obtain ⟨o1, o2⟩ := hok sk (List.mem_of_getElem? hq)
    have lP := hP.length
    rw [List.length_take] at lP
    refine ⟨p, _, rfl, SqT.of (S2 _ _ hp), rfl, _, _, rfl, _, _, rfl, _, _, rfl, _, _, rfl, rfl, ?_⟩
    refine ⟨_, rfl, sk.2.2.1, rfl, o1, o2, fun H3 u S3 n3 h3 => ?_⟩
    refine ⟨_, rfl, .inl ⟨rfl, _, SqL.of (S3 _ _ hlo)⟩, _, rfl, _, rfl, szl 2, fun H4 t1 S4 n4 h4 => ⟨_, rfl, _, rfl, u, _, _, _, rfl, rfl, SqT.of (S4 _ _ h3), at0, _, _, rfl, rfl, _, rfl, _, rfl, u, _, _, _, rfl, rfl, SqT.of (S4 _ _ h3), at1, _, _, rfl, rfl, szl 2, fun H5 t2 S5 n5 h5 => ⟨szl 2, fun H6 p6 S6 n6 h6 => ?_⟩⟩⟩
    have S26 := ((S3.trans S4).trans S5).trans S6
    have ne : p6 ≠ lo := fun z => by
      have := ((S3.trans S4).trans S5) _ _ hlo
      rw [← z, n6] at this
      cases this
    refine ⟨lo, _, _, rfl, rfl, S26 _ _ hlo, ?_, ps ++ [p6], _, _, _, _, _, rfl, sPut (S2.trans S26) n1, ?_, ?_, ?_⟩
    · rw [List.length_map, sizeLine_eq]; omega
    · rw [upd_same, List.map_append]; rfl
    · rw [take_more hq]
      have T6 : TupS H6 (upd H6 lo (.lst (ps.map V.ref ++ [V.ref p6]))) := TupS.refl.lst (S26 _ _ hlo)
      have keep : ∀ p s, p ≠ lo → LotAt H6 p s → LotAt (upd H6 lo (.lst (ps.map V.ref ++ [V.ref p6]))) p s := fun p s hn ⟨t1, t2, a1, a2, a3⟩ => ⟨t1, t2, by rw [upd_ne hn]; exact a1, T6.1 _ _ a2, T6.1 _ _ a3⟩
      refine Paired.snoc ?_ (keep _ _ ne ⟨t1, t2, h6, (S5.trans S6) _ _ h4, S6 _ _ h5⟩)
      exact lots_keep (hP.same S26) fun p hp s h => keep p s (hne p hp) h
    · intro p hp
      rcases List.mem_append.mp hp with h | h
      · exact hne p h
      · rw [List.mem_singleton.mp h]; exact ne
  · rintro σ H2 ⟨ps, y7, y8, y9, y10, y11, rfl, S2, hlo, hP, hne⟩
    rw [List.length_map, lA, List.take_length] at hP
    subst hL
    exact ⟨a, r, b, fa, lo, ns, as, ps, ws, st, age, y5, _, _, _, _, _, rfl, ⟨hR.same S2, hB.keep (.of S2), g, low, S2 _ _ hfa, hA.keep (.of S2), hlo, hP⟩, q⟩
end
end SK
namespace SK
open PySem PySem.Spec PyProof.Rows L2 SX
theorem near_len {ws : List (List Sy)} {st : List Sy} {n : Nat} {s : Stk} (hs : s ∈ strokes (grown ws st n)) : s.1.natAbs ≤ (grown ws st n).length ∧ s.2.1.natAbs ≤ (grown ws st n).length := by
  have b := (bdE_pen (E := one) (N := 1) (w := grown ws st n) fun j _ => ⟨Nat.le_refl _, Nat.zero_le _⟩).out s (by rw [pen_one]; exact hs)
  rw [Nat.mul_one] at b
  exact ⟨b.1, b.2⟩
theorem nearZ_of {c : Pt} {m : Nat} (h1 : c.1.natAbs ≤ m) (h2 : c.2.natAbs ≤ m) (hm : m ≤ 1000000) : NearZ c := by
  unfold NearZ
  omega
section
variable {P : Program} {w : World} {K : PySem.W.Frag} {mg : Str → Option Value} {base : Heap}
theorem law20_c {f CT : Addr} {cdv : Value} {k : Nat} (G : LawG20 P w K mg base CT k) {A : Around} {outer : List Env} {s : Shared} {H : Hp} {E : XK} (hr : Room k (A.deeper (envOfC "law" (defScope s_law) s.heap.objs.size f cdv)))
    (R : PSs (cxOf CX0 P w K mg base n_law "law" (defScope s_law) f cdv A outer s H E).nox ((defBody s_law).drop 9) (tP9 K)) :
    PSs (cxOf CX0 P w K mg base n_law "law" (defScope s_law) f cdv A outer s H E).nox ((defBody s_law).drop 6) (tP6 K) := by
  have nd := sc_law.nd
  obtain ⟨GP, GB, GK, GE, GT, GA, GG, GD, GU, GL, GPc, GTo, GFi, mR, ml, mT, mI, mMi, mMa⟩ := G
  refine pssimp _ (pss_cons (ps_set (i := 12) nd rfl (.inr rfl) (pix (pcall GP hr (pa_cons (pv 1) (pa_cons (pv 6) pa_nil))) pe_int))
    (pss_cons (ps_set (i := 12) nd rfl (.inr rfl) (ptupN (pa_cons (psub (pixT (pv 12) pe_int) (pcall GT hr (pa_cons (pv 1) (pa_cons pe_int pa_nil)))) (pa_cons (psub (pixT (pv 12) pe_int) (pcall GT hr (pa_cons (pv 1) (pa_cons pe_int pa_nil)))) pa_nil))))
    (pss_cons (ps_set (i := 13) nd rfl (.inr rfl) (ptupN (pa_cons (psub (padd (pixT (pv 12) pe_int) (pcall GT hr (pa_cons (pv 1) (pa_cons pe_int pa_nil)))) pe_int) (pa_cons (psub (padd (pixT (pv 12) pe_int) (pcall GT hr (pa_cons (pv 1) (pa_cons pe_int pa_nil)))) pe_int) pa_nil))))
    R))) ?_
  rintro D σ H0 ⟨a, r, b, fa, lo, ns, as, ps, ws, st, age, y5, y7, y8, y9, y10, y11, rfl, h, q⟩
  have lP := h.len
  have few := h.few
  have pos := h.pos
  have age8 := h.low.1
  have len8 := h.low.len h.g
  have g := h.g
  refine ⟨_, rfl, _, rfl, r, lo, (a, ns), _, rfl, h.row, h.row.neL h.lo, h.lo, by rw [List.length_map]; omega, by rw [List.length_map]; omega, fun H1 k1 v1 D1 hv1 => ?_⟩
  have h1 := h.drawn D1
  rw [List.getElem?_map] at hv1
  obtain ⟨p, ep, rfl⟩ := Option.map_eq_some_iff.mp hv1
  have hk : k1 < (strokes (grown ws st age)).length := by have := (List.getElem?_eq_some_iff.mp ep).1; omega
  obtain ⟨p', ep', t1, t2, a1, a2, a3⟩ := paired_get h1.sl (List.getElem?_eq_getElem hk)
  rw [ep] at ep'
  cases ep'
  have hs := List.getElem_mem hk
  generalize (strokes (grown ws st age))[k1] = sk at a2 a3 hs
  refine ⟨p, _, _, _, rfl, rfl, SqL.of a1, at0, ?_⟩
  refine ⟨_, rfl, t1, _, _, _, rfl, rfl, SqT.of a2, at0, _, rfl, r, (a, ns), 4, rfl, h1.row, by decide, .inl (by decide), fun H2 u1 D2 hu1 => ⟨_, _, rfl, rfl, ?_⟩⟩
  have h2 := h1.drawn D2
  have a22 := (D2.tups h1.row).1 _ _ a2
  refine ⟨_, rfl, t1, _, _, _, rfl, rfl, SqT.of a22, at1, _, rfl, r, (a, ns), 4, rfl, h2.row, by decide, .inl (by decide), fun H3 u2 D3 hu2 => ⟨_, _, rfl, rfl, szl 2, fun H4 ca S4 n4 h4 => ?_⟩⟩
  have h3 := (h2.drawn D3).same S4
  refine ⟨_, rfl, ca, _, _, _, rfl, rfl, SqT.of h4, at0, _, rfl, r, (a, ns), 6, rfl, h3.row, by decide, .inl (by decide), fun H5 u3 D5 hu3 => ⟨_, _, rfl, rfl, _, _, rfl, rfl, ?_⟩⟩
  have h5 := h3.drawn D5
  have h4a := (D5.tups h3.row).1 _ _ h4
  refine ⟨_, rfl, ca, _, _, _, rfl, rfl, SqT.of h4a, at1, _, rfl, r, (a, ns), 6, rfl, h5.row, by decide, .inl (by decide), fun H6 u4 D6 hu4 => ⟨_, _, rfl, rfl, _, _, rfl, rfl, szl 2, fun H7 ea S7 n7 h7 => ?_⟩⟩
  have h7' := (h5.drawn D6).same S7
  have hca := S7 _ _ ((D6.tups h5.row).1 _ _ h4a)
  obtain ⟨b1, b2⟩ := near_len hs
  have hp : ((sk.1, sk.2.1) : Pt) ∈ pts (strokes (grown ws st age)) := List.mem_flatMap.mpr ⟨sk, hs, List.mem_cons_self⟩
  refine ⟨a, r, b, fa, lo, ca, ea, ns, as, ps, ws, st, age, (sk.1 - u1, sk.2.1 - u2), (sk.1 - u1 + u3 - 1, sk.2.1 - u2 + u4 - 1), y5, y7, y8, y9, y10, y11, rfl, h7', hca, h7, lim_pts g (by omega) hp (by dsimp only; omega) (by dsimp only; omega), lim_pts g (by omega) hp (by dsimp only; omega) (by dsimp only; omega), nearZ_of (m := 3000) (by dsimp only; omega) (by dsimp only; omega) (by decide), nearZ_of (m := 3000) (by dsimp only; omega) (by dsimp only; omega) (by decide), ?_, ⟨by dsimp only; omega, by dsimp only; omega⟩, q⟩
  rintro (z | z)
  · dsimp only at z; omega
  · dsimp only at z; omega
end
end SK
namespace SK
open PySem PySem.Spec PyProof.Rows L2 SX
/-! ### places that pass a test -/
theorem lay_pts : ∀ ps : List Pt, PyData.canLayAll0 (ps.map pD) = true ∧ PyData.depthAll (ps.map pD) ≤ 3
  | [] => ⟨rfl, by decide⟩
  | p :: ps => by
    obtain ⟨c, d⟩ := lay_pts ps
    refine ⟨?_, ?_⟩
    · rw [List.map_cons]; simp [PyData.canLayAll0, PyData.canLay0, pD, c]
    · rw [List.map_cons]; simp [PyData.depthAll, PyData.depth, pD]; omega
theorem sh_pts (ps : List Pt) : SeqAt.shaped (.list (ps.map pD)) = true := by
  obtain ⟨a, b⟩ := lay_pts ps
  unfold SeqAt.shaped PyData.canLay0 PyData.depth
  rw [a]
  simp
  omega
theorem dp_ptsL {K : PySem.W.Frag} {H : Hp} : ∀ {as : List Addr} {ps : List Pt}, PtsA H as ps → DpAll K H (as.map V.ref) (ps.map pD)
  | _, _, .nil => .nil
  | _, _, .cons h t => .cons (dp_pair (SqT.of h)) (dp_ptsL t)
theorem ptsLc {K : PySem.W.Frag} {l D : Addr} {as : List Addr} {ps : List Pt} {f : Pt → Bool} {v : Nat} {tt : TT} {σ : L2.St} {H : Hp} {Qd : Hp → Prop} (hv : v < σ.length) (hl : H l = some (.lst (as.map V.ref))) (hp : PtsA H as ps) (few : ps.length ≤ 100) (nD : H D = none)
    (ht : ∀ (t : Addr) (p : Pt) (H' : Hp) (Q : Bool → Hp → Prop), Same H H' → H' t = some (.tup [.int p.1, .int p.2]) → Q (f p) H' → tt ((wipe σ [v]).set v (some (.ref t))) H' Q)
    (q : ∀ (H' : Hp) (bo : List Addr), Same H H' → H' D = some (.lst (bo.map V.ref)) → PtsA H' bo (ps.filter f) → Qd H') :
    ∃ W : Nat → Nat → Hp → Prop, (∃ m, W 0 m (upd H D (.lst []))) ∧ ∀ i m H, W i m H →
      ((Itl K l).stop i H ∧ Qd H) ∨ ((Itl K l).go i H ∧ ∃ Nx : Hp → Prop, (∀ H', Nx H' → ∃ m', m' < m ∧ W (i + 1) m' H') ∧ ∀ x H', (Itl K l).yld i H x H' → gName v x (wipe σ [v]) H' fun σ2 H2 => wipe σ2 [v] = wipe σ [v] ∧ tt σ2 H2 fun b H3 =>
        if b = true then tVar v σ2 H3 fun y H4 => ∃ acc, H4 D = some (.lst acc) ∧ acc.length < sizeLine ∧ Nx (upd H4 D (.lst (acc ++ [y]))) else Nx H3) := by
  have lp := hp.length
  refine lc_list (K := K) (a := l) (xs := as.map V.ref) (fun i H' => Same H H' ∧ ∃ bo : List Addr, H' D = some (.lst (bo.map V.ref)) ∧ bo.length ≤ i ∧ PtsA H' bo ((ps.take i).filter f)) ⟨same_upd nD, [], upd_same, Nat.le_refl _, .nil⟩ (fun i H' _ h => h.1.seq (SqL.of hl)) ?_ ?_
  · rintro i x H3 hx ⟨S3, bo, hD, hb, hP⟩
    have hi : i < ps.length := by have := (List.getElem?_eq_some_iff.mp hx).1; rw [List.length_map] at this; omega
    have hq := List.getElem?_eq_getElem hi
    generalize ps[i] = p at hq
    obtain ⟨t, et, hpt⟩ := paired_get (hp.keep (.of S3)) hq
    rw [List.getElem?_map, et] at hx
    cases hx
    refine ⟨?_, ht t p H3 _ S3 hpt ?_⟩
    · show (((σ.set v none).set v (some (V.ref t))).set v none) = σ.set v none
      rw [List.set_set, List.set_set]
    rw [take_more hq, List.filter_append]
    cases hz : f p with
    | true =>
      have s2 : ((wipe σ [v]).set v (some (V.ref t)))[v]? = some (some (V.ref t)) := by
        rw [List.getElem?_set_self]
        rw [wipe_length]; exact hv
      refine iteT ⟨_, s2, _, hD, by rw [List.length_map, sizeLine_eq]; omega, sPut S3 nD, bo ++ [t], by rw [upd_same, List.map_append]; rfl, by rw [List.length_append, List.length_singleton]; omega, ?_⟩
      have T3 : TupS H3 (upd H3 D (.lst (bo.map V.ref ++ [V.ref t]))) := TupS.refl.lst hD
      have e1 : List.filter f [p] = [p] := by rw [List.filter_cons, if_pos hz, List.filter_nil]
      rw [e1]
      exact Paired.snoc (hP.keep T3) (T3.1 _ _ hpt)
    | false =>
      have e1 : List.filter f [p] = [] := by rw [List.filter_cons, if_neg (by rw [hz]; exact Bool.false_ne_true), List.filter_nil]
      rw [e1, List.append_nil]
      exact iteF ⟨S3, bo, hD, by omega, hP⟩
  · rintro H3 ⟨S3, bo, hD, hb, hP⟩
    rw [List.length_map, lp, List.take_length] at hP
    exact q H3 bo S3 hD hP
/-! ### what a window shows of places -/
def tWn (K : PySem.W.Frag) (n : Int) : TT := tTest (tChain (rI0 fun i j => .bl (decide (i ≤ j))) (rI0 fun i j => .bl (decide (i ≤ j))) (tOp (rIxT K) (tVar 12) (tC (.int n))) (tOp (rIxT K) (tVar 30) (tC (.int n))) (tOp (rIxT K) (tVar 13) (tC (.int n))))
theorem wn_one {K : PySem.W.Frag} {n : Nat} {σ : L2.St} {H : Hp} {Q : Bool → Hp → Prop} {ca ea t : Addr} {cs es ts : List V} {x y z : Int} (h15 : σ[12]? = some (some (.ref ca))) (h27 : σ[30]? = some (some (.ref t))) (h16 : σ[13]? = some (some (.ref ea)))
    (hc : H ca = some (.tup cs)) (ht : H t = some (.tup ts)) (he : H ea = some (.tup es)) (e1 : cs[n]? = some (.int x)) (e2 : ts[n]? = some (.int y)) (e3 : es[n]? = some (.int z)) (q : Q (decide (x ≤ y) && decide (y ≤ z)) H) : tWn K n σ H Q := by
  refine ⟨_, h15, ca, _, _, _, rfl, rfl, SqT.of hc, atI_nat e1, _, h27, t, _, _, _, rfl, rfl, SqT.of ht, atI_nat e2, _, _, rfl, rfl, _, rfl, ?_⟩
  by_cases w : x ≤ y
  · rw [decide_eq_true w] at q ⊢
    exact iteT ⟨_, h16, ea, _, _, _, rfl, rfl, SqT.of he, atI_nat e3, _, _, rfl, rfl, _, rfl, q⟩
  · rw [decide_eq_false w] at q ⊢
    exact iteF ⟨_, rfl, q⟩
theorem wn_test {K : PySem.W.Frag} {σ : L2.St} {H : Hp} {Q : Bool → Hp → Prop} {ca ea t : Addr} {c e p : Pt} (h15 : σ[12]? = some (some (.ref ca))) (h27 : σ[30]? = some (some (.ref t))) (h16 : σ[13]? = some (some (.ref ea)))
    (hc : H ca = some (.tup [.int c.1, .int c.2])) (ht : H t = some (.tup [.int p.1, .int p.2])) (he : H ea = some (.tup [.int e.1, .int e.2])) (q : Q (inW c e p) H) : tAnd (tWn K 0) (tWn K 1) σ H Q := by
  have ei : inW c e p = ((decide (c.1 ≤ p.1) && decide (p.1 ≤ e.1)) && (decide (c.2 ≤ p.2) && decide (p.2 ≤ e.2))) := by
    unfold inW
    by_cases h1 : c.1 ≤ p.1 <;> by_cases h2 : p.1 ≤ e.1 <;> by_cases h3 : c.2 ≤ p.2 <;> by_cases h4 : p.2 ≤ e.2 <;> simp [h1, h2, h3, h4]
  rw [ei] at q
  refine wn_one (n := 0) h15 h27 h16 hc ht he rfl rfl rfl ?_
  cases z : (decide (c.1 ≤ p.1) && decide (p.1 ≤ e.1)) with
  | true =>
    rw [z] at q
    exact iteT (wn_one (n := 1) h15 h27 h16 hc ht he rfl rfl rfl q)
  | false =>
    rw [z] at q
    exact iteF q
/-! ### the dict of sides takes a pair -/
def rSetE (P : Program) (w : World) : TSet := fun o i v H Q => ∃ a b e ys, o = .ref a ∧ i = .ref b ∧ EDict P w H a ys ∧ EdgeAt H b e ∧ ys.length < sizeLine ∧ Q (upd H a (edO P w a (putE ys e b v)))
theorem set_E {X : Cx} (hu : X.A.units + 64 < cLine) : PSet X (rSetE X.prog X.w) := by
  rintro pins s σ H o i v ov iv u Q I ro ri rv ⟨a, b, e, ys, rfl, rfl, h1, h2, h3, q⟩
  cases (show ov = Value.ref a from ro)
  cases (show iv = Value.ref b from ri)
  exact e_setItem hu I h1 h2 h3 rv fun s1 I1 => ⟨_, I1, q⟩
theorem tups_dT {H : Hp} {D : Addr} {kvs : List (List Key × V)} {o : HO} (h : H D = some (.dT kvs)) : TupS H (upd H D o) :=
  ⟨fun b ys e => by rw [upd_ne (ne_of e h (fun z => nomatch z))]; exact e, fun b ob u e => by rw [upd_ne (ne_of e h (fun z => nomatch z))]; exact e⟩
theorem numS_map {α : Type} (f : Stk → Bool) (g : Stk → α) : ∀ (N : Nat) (L : List Stk), ((numS N L).filter fun x => f x.2).map (fun x => g x.2) = (L.filter f).map g
  | _, [] => rfl
  | N, s :: L => by
    have ih := numS_map f g (N + 1) L
    show (((N, s) :: numS (N + 1) L).filter fun x => f x.2).map (fun x => g x.2) = _
    rw [List.filter_cons, List.filter_cons]
    by_cases z : f s = true
    · rw [if_pos z, if_pos (show f (N, s).2 = true from z), List.map_cons, List.map_cons, ih]
    · rw [if_neg z, if_neg (show ¬ f (N, s).2 = true from z), ih]
theorem edge_places (s : Stk) : ((edge s).1 = begS s ∧ (edge s).2 = endS s) ∨ ((edge s).1 = endS s ∧ (edge s).2 = begS s) := by
  unfold edge
  split
  · exact .inr ⟨rfl, rfl⟩
  · exact .inl ⟨rfl, rfl⟩
section
variable {P : Program} {w : World} {K : PySem.W.Frag} {mg : Str → Option Value} {base : Heap}
theorem law20_d {f CT : Addr} {cdv : Value} {k : Nat} (G : LawG20 P w K mg base CT k) {A : Around} {outer : List Env} {s : Shared} {H : Hp} {E : XK} (hr : Room k (A.deeper (envOfC "law" (defScope s_law) s.heap.objs.size f cdv)))
    (R : PSs (cxOf CX0 P w K mg base n_law "law" (defScope s_law) f cdv A outer s H E).nox ((defBody s_law).drop 11) (tP11 P w K)) :
    PSs (cxOf CX0 P w K mg base n_law "law" (defScope s_law) f cdv A outer s H E).nox ((defBody s_law).drop 9) (tP9 K) := by
  have nd := sc_law.nd
  obtain ⟨GP, GB, GK, GE, GT, GA, GG, GD, GU, GL, GPc, GTo, GFi, mR, ml, mT, mI, mMi, mMa⟩ := G
  have hu1 := hr.units
  have hu2 : (A.deeper (envOfC "law" (defScope s_law) s.heap.objs.size f cdv)).units + 1 < cLine := by omega
  refine pssimp _ (pss_cons (ps_par3 rfl nd (i := 14) (j := 15) (l := 16) rfl rfl rfl (by decide) (by decide) (by decide) rfl rfl rfl (pa_cons pe_enew (pa_cons pe_dnewT (pa_cons (plstN pa_nil) pa_nil))) (by rfl))
    (pss_cons (ps_for PassesOwn.never rfl (pi_list (pv 6)) (pg_unl (by rfl) (pgs_cons (pg_name (i := 17) nd rfl (.inl rfl)) (pgs_cons (pg_name (i := 18) nd rfl (.inl rfl)) pgs_nil)))
      (pss_one (ps_if (pt_cmpR (op_neD hr.units) (pe_lc (own := [("spot", 30)]) (g := gName 30) (tt := tAnd (tWn K 0) (tWn K 1)) (te := tVar 30) rfl nd (pi_list (plstN (pa_cons (pv 17) (pa_cons (pv 18) pa_nil)))) (blkOk_by (N := n_law) (sc := defScope s_law) (by decide +kernel))
          (fun _ _ _ _ _ => pg_name (i := 30) nd rfl (Or.inl rfl)) (fun _ _ _ _ _ => pts_one (PW.pt (pw_and (pt_chain op_le op_le (pixT (pv 12) pe_int) (pixT (pv 30) pe_int) (pixT (pv 13) pe_int)) (pw_and1 (pt_chain op_le op_le (pixT (pv 12) pe_int) (pixT (pv 30) pe_int) (pixT (pv 13) pe_int)))))) (fun _ _ _ _ _ => pv 30)) (plstN pa_nil) (nomark _))
        (pss_one (ps_asg (ptupN (pa_cons pe_bl (pa_cons pe_bl (pa_cons pe_bl pa_nil)))) (pg_tup (by rfl) (pgs_cons (pg_sub (pv 14) (ptupN (pa_cons (pe_callB (call_minT rfl hr.units) (by rfl) mMi (by decide +kernel) (pa_cons (pv 17) (pa_cons (pv 18) pa_nil)) (by decide) (by decide)) (pa_cons (pe_callB (call_maxT rfl hr.units) (by rfl) mMa (by decide +kernel) (pa_cons (pv 17) (pa_cons (pv 18) pa_nil)) (by decide) (by decide)) pa_nil))) (set_E (by exact hu1)))
          (pgs_cons (pg_sub (pv 15) (pv 17) (set_dict (by exact hu2))) (pgs_cons (pg_sub (pv 15) (pv 18) (set_dict (by exact hu2))) pgs_nil))))))
        pss_nil)))
    R)) ?_
  rintro D σ H0 ⟨a, r, b, fa, lo, ca, ea, ns, as, ps, ws, st, age, c, e, y5, y7, y8, y9, y10, y11, rfl, h, hca, hea, l1, l2, z1, z2, nb, n4, q⟩
  refine fun sh nsh en nen => ⟨szl 0, fun H3 li S3 n3 h3 => ⟨_, _, _, rfl, ?_⟩⟩
  have hne : sh ≠ en := fun z => by rw [← z, upd_same] at nen; cases nen
  have n0en : H0 en = none := by rw [upd_ne hne.symm] at nen; exact nen
  have S0 : Same H0 H3 := ((same_upd nsh).trans (same_upd nen)).trans S3
  have hsh : EDict P w H3 sh [] := ⟨S3 _ _ (by rw [upd_ne hne]; exact upd_same), fun y my => nomatch my⟩
  have hen : H3 en = some (.dT []) := S3 _ _ upd_same
  have hli0 : H0 li = none := by
    have z1 : li ≠ en := fun z => by rw [z, upd_same] at n3; cases n3
    rw [upd_ne z1] at n3
    have z2 : li ≠ sh := fun z => by rw [z, upd_same] at n3; cases n3
    rw [upd_ne z2] at n3
    exact n3
  have nli : li ≠ sh ∧ li ≠ en := ⟨fun z => (by rw [z, hsh.1] at h3; cases h3), fun z => (by rw [z, hen] at h3; cases h3)⟩
  have few := h.few
  have lP := h.len
  have hsl := h.sl
  have hED : edgesL ws st age c e = ((strokes (grown ws st age)).filter (hit c e)).map edge := numS_map (hit c e) edge 0 _
  generalize hL : strokes (grown ws st age) = L at few lP hsl hED
  refine ⟨_, rfl, lo, rfl, ⟨_, SqL.of (S0 _ _ h.lo)⟩, ?_⟩
  refine for_list (K := K) (a := lo) (xs := ps.map V.ref) (fun i σ H' => ∃ (ys : List ERow) (kvs : List (List Key × V)) (y17 y18 : Option V), σ = [some (.ref a), some (.ref r), some (.ref b), some (.int age), some (.ref fa), y5, some (.ref lo), y7, y8, y9, y10, y11, some (.ref ca), some (.ref ea), some (.ref sh), some (.ref en), some (.ref li), y17, y18, none, none, none, none, none, none, none, none, none, none, none, none] ∧ Same H0 H' ∧ EDict P w H' sh ys ∧ ys.length ≤ i ∧
      (∀ g, inY ys g = inE (((L.take i).filter (hit c e)).map edge) g) ∧ H' en = some (.dT kvs) ∧ kvs.length ≤ 2 * i ∧ (∀ p, inD kvs p = inP (((L.take i).filter (hit c e)).map edge) p) ∧ H' li = some (.lst []))
    ⟨[], [], _, _, rfl, S0, hsh, Nat.le_refl _, fun g => by show (valE [] g).isSome = decide (g ∈ ([] : List Edge)); simp [valE], hen, Nat.le_refl _, fun p => rfl, h3⟩ (fun i σ H' _ h' => by obtain ⟨_, _, _, _, _, s, _⟩ := h'; exact SqL.of (s _ _ h.lo)) ?_ ?_
  · rintro i x σ H4 hx ⟨ys, kvs, y17, y18, rfl, S4, hE, hl1, hin1, hkv, hl2, hin2, hli⟩
    have hi : i < L.length := by have := (List.getElem?_eq_some_iff.mp hx).1; rw [List.length_map] at this; omega
    have hq := List.getElem?_eq_getElem hi
    generalize L[i] = sk at hq
    obtain ⟨p, ep, t1, t2, a1, a2, a3⟩ := paired_get hsl hq
    rw [List.getElem?_map, ep] at hx
    cases hx
    have hca4 := S4 _ _ hca
    have hea4 := S4 _ _ hea
    have b2 := S4 _ _ a2
    have b3 := S4 _ _ a3
    refine ⟨p, _, rfl, SqL.of (S4 _ _ a1), rfl, _, _, rfl, _, _, rfl, rfl, ?_⟩
    refine ⟨_, rfl, _, rfl, szl 2, fun H5 l5 S5 n5 h5 => ⟨l5, rfl, ⟨_, SqL.of h5⟩, fun D5 nD5 => ?_⟩⟩
    refine ptsLc (v := 30) (f := inW c e) (as := [t1, t2]) (ps := [begS sk, endS sk]) (by show 30 < 31; decide) h5 (.cons (S5 _ _ b2) (.cons (S5 _ _ b3) .nil)) (by show 2 ≤ _; decide) nD5 (fun t p H6 Q S6 ht hq => wn_test (c := c) (e := e) (p := p) rfl rfl rfl ((S5.trans S6) _ _ hca4) ht ((S5.trans S6) _ _ hea4) hq) fun H6 bo S6 hD6 hP => ?_
    refine ⟨szl 0, fun H7 l7 S7 n7 h7 => ⟨_, _, .lst (SqL.of (S7 _ _ hD6)) (dp_ptsL (hP.keep (.of S7))), .lst (SqL.of h7) .nil, sh_pts _, sh_wds [], _, rfl, ?_⟩⟩
    have eh : (!PyData.eqv (.list (([begS sk, endS sk].filter (inW c e)).map pD)) (.list [])) = hit c e sk := by
      rw [eqv_nilL]
      show _ = (inW c e (begS sk) || inW c e (endS sk))
      cases u1 : inW c e (begS sk) <;> cases u2 : inW c e (endS sk) <;> simp [List.filter_cons, u1, u2]
    rw [eh]
    have S47 := (S5.trans S6).trans S7
    have hE7 := hE.keep S47
    have hkv7 := S47 _ _ hkv
    have hli7 := S47 _ _ hli
    have c2 := S47 _ _ b2
    have c3 := S47 _ _ b3
    have S07 := S4.trans S47
    clear S5 S6 S7 S47 hE hkv hli hD6 hP h5 h7 n5 n7 nD5 hca4 hea4
    cases hh : hit c e sk with
    | false =>
      refine iteF ⟨ys, kvs, _, _, rfl, S07, hE7, by omega, fun g => ?_, hkv7, by omega, fun p => ?_, hli7⟩
      · rw [hin1 g, take_more hq, List.filter_append, List.filter_cons, if_neg (by rw [hh]; exact Bool.false_ne_true), List.filter_nil, List.append_nil]
      · rw [hin2 p, take_more hq, List.filter_append, List.filter_cons, if_neg (by rw [hh]; exact Bool.false_ne_true), List.filter_nil, List.append_nil]
    | true =>
      have em : ((L.take (i + 1)).filter (hit c e)).map edge = ((L.take i).filter (hit c e)).map edge ++ [edge sk] := by
        rw [take_more hq, List.filter_append, List.filter_cons, if_pos hh, List.filter_nil, List.map_append]
        rfl
      refine iteT ⟨szl 3, fun H8 t8 S8 n8 h8 => ⟨t8, _, rfl, SqT.of h8, rfl, _, _, rfl, _, rfl, _, rfl, _, rfl, t1, t2, begS sk, endS sk, rfl, SqT.of (S8 _ _ c2), SqT.of (S8 _ _ c3), _, rfl, _, rfl, t1, t2, begS sk, endS sk, rfl, SqT.of (S8 _ _ c2), SqT.of (S8 _ _ c3), szl 2, fun H9 p9 S9 n9 h9 => ?_⟩⟩
      have S79 := S8.trans S9
      have hk : EdgeAt H9 p9 (edge sk) := by
        have ee := ltZ_other (step_ne sk)
        unfold edge
        by_cases z : ltZ (endS sk) (begS sk) = true
        · have z' : ltZ (sk.1 + (dir sk.2.2.1).1, sk.2.1 + (dir sk.2.2.1).2) (sk.1, sk.2.1) = true := z
          rw [z'] at ee
          have e2 : ¬ ltZ (begS sk) (endS sk) = true := by
            intro y
            rw [show ltZ (sk.1, sk.2.1) (sk.1 + (dir sk.2.2.1).1, sk.2.1 + (dir sk.2.2.1).2) = true from y] at ee
            cases ee
          rw [if_pos z, if_neg e2] at h9
          rw [if_pos z']
          exact ⟨t2, t1, h9, S79 _ _ c3, S79 _ _ c2⟩
        · have z' : ¬ ltZ (sk.1 + (dir sk.2.2.1).1, sk.2.1 + (dir sk.2.2.1).2) (sk.1, sk.2.1) = true := z
          have e2 : ltZ (begS sk) (endS sk) = true := by
            cases y : ltZ (begS sk) (endS sk) with
            | true => rfl
            | false =>
              rw [show ltZ (sk.1, sk.2.1) (sk.1 + (dir sk.2.2.1).1, sk.2.1 + (dir sk.2.2.1).2) = false from y] at ee
              exact absurd ee z'
          rw [if_neg z, if_pos e2] at h9
          rw [if_neg z']
          exact ⟨t1, t2, h9, S79 _ _ c2, S79 _ _ c3⟩
      have S09 := S07.trans S79
      have E1 := (hE7.keep S79).put hk (.bl true)
      have hen1 : (upd H9 sh (edO P w sh (putE ys (edge sk) p9 (.bl true)))) en = some (.dT kvs) := by rw [upd_ne hne.symm]; exact S79 _ _ hkv7
      have hli1 : (upd H9 sh (edO P w sh (putE ys (edge sk) p9 (.bl true)))) li = some (.lst []) := by rw [upd_ne nli.1]; exact S79 _ _ hli7
      have T1 : TupS H9 (upd H9 sh (edO P w sh (putE ys (edge sk) p9 (.bl true)))) := TupS.ext (hE7.keep S79).1
      have S01 := sPut (o := edO P w sh (putE ys (edge sk) p9 (.bl true))) S09 nsh
      have d2 := T1.1 _ _ (S79 _ _ c2)
      have d3 := T1.1 _ _ (S79 _ _ c3)
      refine ⟨sh, p9, edge sk, ys, rfl, rfl, hE7.keep S79, hk, by rw [sizeLine_eq]; omega, ?_⟩
      have lk1 := length_putK kvs (keyP (begS sk)) (.bl true)
      have lk2 := length_putK (putK kvs (keyP (begS sk)) (.bl true)) (keyP (endS sk)) (.bl true)
      have T2 := tups_dT (o := .dT (putK kvs (keyP (begS sk)) (.bl true))) hen1
      refine ⟨_, _, rfl, _, rfl, _, rfl, en, _, rfl, DPut.t (k := keyP (begS sk)) hen1 d2 (by rw [sizeLine_eq]; omega), ?_⟩
      refine ⟨_, _, rfl, _, rfl, _, rfl, en, _, rfl, DPut.t (k := keyP (endS sk)) (kvs := putK kvs (keyP (begS sk)) (.bl true)) upd_same (T2.1 _ _ d3) (by rw [sizeLine_eq]; omega), rfl, ?_⟩
      refine ⟨_, _, _, _, rfl, sPut (sPut S01 n0en) n0en, ⟨by rw [upd_ne hne, upd_ne hne]; exact E1.1, fun y my => ((E1.2 y my).keep T2).keep (tups_dT upd_same)⟩, ?_, fun g => ?_, upd_same, ?_, fun p => ?_, by rw [upd_ne nli.2, upd_ne nli.2]; exact hli1⟩
      · have := putE_len ys (edge sk) p9 (.bl true); omega
      · rw [inY_put, hin1 g, em]
        show _ = decide (g ∈ _ ++ [edge sk])
        rw [Bool.eq_iff_iff]
        simp only [Bool.or_eq_true, decide_eq_true_eq, List.mem_append, List.mem_singleton]
        exact ⟨Or.symm, Or.symm⟩
      · omega
      · rw [inD_put, inD_put, hin2 p, em]
        unfold inP
        rw [List.any_append]
        show _ = (_ || ((decide ((edge sk).1 = p) || decide ((edge sk).2 = p)) || false))
        rw [Bool.or_false, Bool.eq_iff_iff]
        simp only [Bool.or_eq_true, decide_eq_true_eq]
        rcases edge_places sk with ⟨e1, e2⟩ | ⟨e1, e2⟩
        · rw [e1, e2]
          constructor
          · rintro (z | z | z)
            · exact .inr (.inr z.symm)
            · exact .inr (.inl z.symm)
            · exact .inl z
          · rintro (z | z | z)
            · exact .inr (.inr z)
            · exact .inr (.inl z.symm)
            · exact .inl z.symm
        · rw [e1, e2]
          constructor
          · rintro (z | z | z)
            · exact .inr (.inl z.symm)
            · exact .inr (.inr z.symm)
            · exact .inl z
          · rintro (z | z | z)
            · exact .inr (.inr z)
            · exact .inl z.symm
            · exact .inr (.inl z.symm)
  · rintro σ H4 ⟨ys, kvs, y17, y18, rfl, S4, hE, hl1, hin1, hkv, hl2, hin2, hli⟩
    rw [List.length_map, lP, List.take_length, ← hED] at hin1 hin2
    exact ⟨a, r, b, fa, lo, ca, ea, sh, en, li, ns, as, ps, ws, st, age, c, e, ys, kvs, y5, y7, y8, y9, y10, y11, _, _, rfl, h.same S4, S4 _ _ hca, S4 _ _ hea, l1, l2, z1, z2, nb, n4, hE, funext hin1, hkv, funext hin2, hli, q⟩
end
end SK
namespace SK
open PySem PySem.Spec PyProof.Rows L2 SX
/-! ### a line, sign by sign -/
def lineQ (g s : Int → Nat) (lo : Int) (n i : Nat) : List Nat := (btw ((xsL lo i).map g) ((xsL lo i).map s)).drop 1 ++ (if 0 < i ∧ i < n then [g (lo + (i : Nat))] else [])
theorem btw_snoc {g s : Nat} : ∀ {gs ss : List Nat}, gs.length = ss.length → btw (gs ++ [g]) (ss ++ [s]) = btw gs ss ++ [g, s]
  | [], [], _ => rfl
  | a :: gs, b :: ss, h => by
    rw [List.cons_append, List.cons_append, btw_cons, btw_cons, btw_snoc (Nat.succ.inj h)]
    rfl
theorem xsL_len (lo : Int) (n : Nat) : (xsL lo n).length = n := by unfold xsL; rw [List.length_map, List.length_range]
theorem xsL_succ (lo : Int) (n : Nat) : xsL lo (n + 1) = xsL lo n ++ [lo + (n : Nat)] := by unfold xsL; rw [List.range_succ, List.map_append]; rfl
theorem lineQ_step {g s : Int → Nat} {lo : Int} {n i : Nat} (hi : i < n) : lineQ g s lo n (i + 1) = lineQ g s lo n i ++ ([s (lo + (i : Nat))] ++ (if i + 1 < n then [g (lo + (i : Nat) + 1)] else [])) := by
  have l : ((xsL lo i).map g).length = ((xsL lo i).map s).length := by rw [List.length_map, List.length_map]
  have e2 : (if 0 < i + 1 ∧ i + 1 < n then [g (lo + ((i + 1 : Nat) : Int))] else []) = (if i + 1 < n then [g (lo + (i : Nat) + 1)] else []) := by
    rw [show lo + ((i + 1 : Nat) : Int) = lo + (i : Nat) + 1 by omega]
    by_cases z : i + 1 < n
    · rw [if_pos ⟨by omega, z⟩, if_pos z]
    · rw [if_neg (fun h => z h.2), if_neg z]
  unfold lineQ
  rw [e2, xsL_succ, List.map_append, List.map_append]
  show (btw (_ ++ [g (lo + (i : Nat))]) (_ ++ [s (lo + (i : Nat))])).drop 1 ++ _ = _
  rw [btw_snoc l]
  by_cases z : i = 0
  · subst z
    rfl
  · have lb := btw_len _ _ l
    rw [List.length_map, xsL_len] at lb
    rw [if_pos (⟨by omega, hi⟩ : 0 < i ∧ i < n), List.drop_append_of_le_length (by rw [lb]; omega)]
    simp only [List.append_assoc]
    rfl
theorem lineQ_zero {g s : Int → Nat} {lo : Int} {n : Nat} : lineQ g s lo n 0 = [] := rfl
theorem lineQ_all {g s : Int → Nat} {lo : Int} {n : Nat} : lineQ g s lo n n = (btw ((xsL lo n).map g) ((xsL lo n).map s)).drop 1 := by
  unfold lineQ
  rw [if_neg (fun h => Nat.lt_irrefl _ h.2), List.append_nil]
theorem lineQ_len {g s : Int → Nat} {lo : Int} {n i : Nat} : (lineQ g s lo n i).length ≤ 2 * i + 1 := by
  unfold lineQ
  rw [List.length_append, List.length_drop, btw_len _ _ (by rw [List.length_map, List.length_map]), List.length_map, xsL_len]
  split
  · rw [List.length_singleton]; omega
  · rw [List.length_nil]; omega
theorem sE : (Str.ofString "") = S [] := by decide +kernel
theorem sN : (Str.ofString "\n") = S [10] := by decide +kernel
theorem sO : (Str.ofString "o") = S [111] := by decide +kernel
theorem sD : (Str.ofString ".") = S [46] := by decide +kernel
theorem sB : (Str.ofString "|") = S [124] := by decide +kernel
theorem sS : (Str.ofString " ") = S [32] := by decide +kernel
theorem sM : (Str.ofString "-") = S [45] := by decide +kernel
theorem ifS {a b : Str} {A B : Nat} (ea : a = S [A]) (eb : b = S [B]) {v : Bool} {σ : L2.St} {H : Hp} {Q : VK} (q : Q (.str (S [if v = true then A else B])) H) : if v = true then tC (.str a) σ H Q else tC (.str b) σ H Q := by
  subst ea eb
  cases v
  · exact q
  · exact q
def spPicN : Sp := fun vs H Q _ => ∃ (b ca ea : Addr) (n : Nat) (ws : List (List Sy)) (st : List Sy) (c e : Pt), vs = [.ref b, .int n, .ref ca, .ref ea] ∧ BookAt H b ws st ∧ GoodBook ws st ∧ n ≤ 400 ∧
  H ca = some (.tup [.int c.1, .int c.2]) ∧ H ea = some (.tup [.int e.1, .int e.2]) ∧ InLim c ∧ InLim e ∧ ¬ Big c e ∧ NearZ c ∧ NearZ e ∧ wsum (tree ws n) st ≤ 100000 ∧ (hitsL ws st n c e).length ≤ 2000 ∧ ∀ H', Same H H' → Q (.str (S (picOf ws st n c e))) H'
theorem picN {CT : Addr} : ∀ vs H Q (E : XK), spPicN vs H Q E → spPicX CT vs H Q E0 := fun vs H Q E ⟨b, ca, ea, n, ws, st, c, e, h1, h2, h3, h4, h5, h6, h7, h8, nb, q⟩ =>
  ⟨b, ca, ea, n, ws, st, c, e, h1, h2, h3, h4, h5, h6, h7, h8, fun z => absurd z nb, fun _ => q⟩
section
variable {P : Program} {w : World} {K : PySem.W.Frag} {mg : Str → Option Value} {base : Heap}
theorem law20_e {f CT : Addr} {cdv : Value} {k : Nat} (G : LawG20 P w K mg base CT k) {A : Around} {outer : List Env} {s : Shared} {H : Hp} {E : XK} (hr : Room k (A.deeper (envOfC "law" (defScope s_law) s.heap.objs.size f cdv)))
    (R : PSs (cxOf CX0 P w K mg base n_law "law" (defScope s_law) f cdv A outer s H E).nox ((defBody s_law).drop 14) (tP14 K)) :
    PSs (cxOf CX0 P w K mg base n_law "law" (defScope s_law) f cdv A outer s H E).nox ((defBody s_law).drop 11) (tP11 P w K) := by
  have nd := sc_law.nd
  obtain ⟨GP, GB, GK, GE, GT, GA, GG, GD, GU, GL, GPc, GTo, GFi, mR, ml, mT, mI, mMi, mMa⟩ := G
  have hu1 := hr.units
  have hu2 : (A.deeper (envOfC "law" (defScope s_law) s.heap.objs.size f cdv)).units + 1 < cLine := by omega
  have GPn := GPc.cool (picN (CT := CT))
  refine pssimp _ (pss_cons (ps_for PassesOwn.never rfl (pi_range3 rfl mR (pa_cons (pixT (pv 13) pe_int) (pa_cons (psub (pixT (pv 12) pe_int) pe_int) (pa_cons (pe_un un_neg pe_int) pa_nil)))) (pg_name (i := 8) nd rfl (.inl rfl))
      (pss_cons (ps_asg (ptupN (pa_cons pe_str (pa_cons pe_str pa_nil))) (pg_tup (by rfl) (pgs_cons (pg_name (i := 19) nd rfl (.inl rfl)) (pgs_cons (pg_name (i := 20) nd rfl (.inl rfl)) pgs_nil))))
      (pss_cons (ps_for PassesOwn.never rfl (pi_range2 rfl mR (pa_cons (pixT (pv 12) pe_int) (pa_cons (padd (pixT (pv 13) pe_int) pe_int) pa_nil))) (pg_name (i := 7) nd rfl (.inl rfl))
        (pss_cons (ps_set (i := 19) nd rfl (.inl rfl) (pe_op op_add_str (pv 19) (pe_ifExp (pt_cmp (pc_din (by exact hu2) (ptupN (pa_cons (pv 7) (pa_cons (pv 8) pa_nil))) (pv 15))) pe_str pe_str)))
        (pss_cons (ps_set (i := 20) nd rfl (.inl rfl) (pe_op op_add_str (pv 20) (pe_ifExp (pt_cmp (pc_einP (by exact hu1) (ptupN (pa_cons (ptupN (pa_cons (pv 7) (pa_cons (psub (pv 8) pe_int) pa_nil))) (pa_cons (ptupN (pa_cons (pv 7) (pa_cons (pv 8) pa_nil))) pa_nil))) (pv 14))) pe_str pe_str)))
        (pss_one (ps_if (pt_cmpR op_lt (pv 7) (pixT (pv 13) pe_int) (nomark _)) (pss_one (ps_par rfl nd (i := 19) (j := 20) rfl rfl (by decide) rfl rfl (pa_cons (pe_op op_add_str (pv 19) (pe_ifExp (pt_cmp (pc_einP (by exact hu1) (ptupN (pa_cons (ptupN (pa_cons (pv 7) (pa_cons (pv 8) pa_nil))) (pa_cons (ptupN (pa_cons (padd (pv 7) pe_int) (pa_cons (pv 8) pa_nil))) pa_nil))) (pv 14))) pe_str pe_str)) (pa_cons (pe_op op_add_str (pv 20) pe_str) pa_nil)) (by rfl))) pss_nil)))))
      (pss_one (ps_set (i := 16) nd rfl (.inl rfl) (pcatN (pcatN (pv 16) (plstN (pa_cons (pv 19) pa_nil))) (pe_ifExp (pt_cmpR op_gt (pv 8) (pixT (pv 12) pe_int) (nomark _)) (plstN (pa_cons (pv 20) pa_nil)) (plstN pa_nil))))))))
    (pss_cons (ps_if (pt_cmpR op_lt (pixT (pv 13) pe_int) (pixT (pv 12) pe_int) (nomark _)) (pss_one (ps_set (i := 16) nd rfl (.inl rfl) (plstN pa_nil))) pss_nil)
    (pss_cons (ps_if (pt_not (pt_val (pcall GL hr (pa_cons (pcall GPn hr (pa_cons (pv 2) (pa_cons (pv 3) (pa_cons (pv 12) (pa_cons (pv 13) pa_nil))))) (pa_cons (pe_join pe_str (pv 16)) pa_nil))))) pss_never pss_nil)
    R))) ?_
  rintro D σ H0 ⟨a, r, b, fa, lo, ca, ea, sh, en, li, ns, as, ps, ws, st, age, c, e, ys, kvs, y5, y7, y8, y9, y10, y11, y17, y18, rfl, h, hca, hea, l1, l2, z1, z2, nb, n4, hE, hG, hen, hF, hli, q⟩
  have few := h.few
  have hits2 := hits_few (c := c) (e := e) few
  have age8 := h.low.1
  obtain ⟨⟨zc1, zc2⟩, zc3, zc4⟩ := id z1
  obtain ⟨⟨ze1, ze2⟩, ze3, ze4⟩ := id z2
  generalize hm : (e.2 + 1 - c.2).toNat = m
  generalize hn : (e.1 + 1 - c.1).toNat = n
  have hn5 : n ≤ 5 := by omega
  have hm5 : m ≤ 5 := by omega
  have rg : RgC e.2 (c.2 - 1) (-1) m := by
    have r := RgC.neg (i := e.2) (j := c.2 - 1) (by omega) (by omega) (by omega) (by omega)
    rw [show (e.2 - (c.2 - 1)).toNat = m by omega] at r
    exact r
  refine ⟨_, rfl, ea, _, _, _, rfl, rfl, SqT.of hea, at1, _, rfl, ca, _, _, _, rfl, rfl, SqT.of hca, at1, _, _, rfl, rfl, _, rfl, e.2, c.2 - 1, -1, m, rfl, rg, ?_⟩
  refine for_rangeC (lo := e.2) (c := -1) (n := m) (fun i σ H' => ∃ (lj : Addr) (y7 y8 y19 y20 : Option V), σ = [some (.ref a), some (.ref r), some (.ref b), some (.int age), some (.ref fa), y5, some (.ref lo), y7, y8, y9, y10, y11, some (.ref ca), some (.ref ea), some (.ref sh), some (.ref en), some (.ref lj), y17, y18, y19, y20, none, none, none, none, none, none, none, none, none, none] ∧ Same H0 H' ∧ H' lj = some (.lst ((rowsL (inD kvs) (inY ys) (xsL c.1 n) c.2 (ysL e.2 i)).map fun l => V.str (S l))))
    ⟨li, _, _, _, _, rfl, Same.refl _, hli⟩ ?_ ?_
  · rintro i σ H1 hi ⟨lj, y7, y8, y19, y20, rfl, S1, hlj⟩
    rw [show e.2 + ((i : Nat) : Int) * (-1) = e.2 - (i : Nat) by omega]
    have er : rowsL (inD kvs) (inY ys) (xsL c.1 n) c.2 (ysL e.2 (i + 1)) = rowsL (inD kvs) (inY ys) (xsL c.1 n) c.2 (ysL e.2 i) ++ (lineP (inD kvs) (inY ys) (e.2 - (i : Nat)) (xsL c.1 n) :: (if c.2 < e.2 - (i : Nat) then [lineB (inY ys) (e.2 - (i : Nat)) (xsL c.1 n)] else [])) := by
      rw [show ysL e.2 (i + 1) = ysL e.2 i ++ [e.2 - (i : Nat)] by unfold ysL; rw [List.range_succ, List.map_append]; rfl]
      unfold rowsL
      rw [List.flatMap_append, List.flatMap_cons, List.flatMap_nil, List.append_nil]
    have lr := rows_len (F := inD kvs) (G := inY ys) (xs := xsL c.1 n) (lo := c.2) (ysL e.2 i)
    have ly : (ysL e.2 i).length = i := by unfold ysL; rw [List.length_map, List.length_range]
    generalize e.2 - (i : Nat) = yv at er
    refine ⟨szl 2, fun H2 t2 S2 n2 h2 => ⟨t2, _, rfl, SqT.of h2, rfl, _, _, rfl, _, _, rfl, rfl, ?_⟩⟩
    have S02 := S1.trans S2
    refine ⟨_, rfl, ca, _, _, _, rfl, rfl, SqT.of (S02 _ _ hca), at0, _, rfl, ea, _, _, _, rfl, rfl, SqT.of (S02 _ _ hea), at0, _, _, rfl, rfl, c.1, e.1 + 1, rfl, ⟨by omega, by omega, by omega, by omega⟩, ?_⟩
    rw [hn, sE]
    refine for_range (lo := c.1) (n := n) (fun i2 σ H' => ∃ y7 : Option V, σ = [some (.ref a), some (.ref r), some (.ref b), some (.int age), some (.ref fa), y5, some (.ref lo), y7, some (.int yv), y9, y10, y11, some (.ref ca), some (.ref ea), some (.ref sh), some (.ref en), some (.ref lj), y17, y18, some (.str (S (lineQ (gpP (inY ys) yv) (sgP (inD kvs) yv) c.1 n i2))), some (.str (S (lineQ (fun _ => 32) (sgB (inY ys) yv) c.1 n i2))), none, none, none, none, none, none, none, none, none, none] ∧ Same H2 H')
      ⟨_, rfl, Same.refl _⟩ ?_ ?_
    · rintro i2 σ H3 hi2 ⟨y7, rfl, S3⟩
      have st1 := lineQ_step (g := gpP (inY ys) yv) (s := sgP (inD kvs) yv) (lo := c.1) hi2
      have st2 := lineQ_step (g := fun _ => 32) (s := sgB (inY ys) yv) (lo := c.1) hi2
      have ln1 := lineQ_len (g := gpP (inY ys) yv) (s := sgP (inD kvs) yv) (lo := c.1) (n := n) (i := i2)
      have ln2 := lineQ_len (g := fun _ => 32) (s := sgB (inY ys) yv) (lo := c.1) (n := n) (i := i2)
      generalize lineQ (gpP (inY ys) yv) (sgP (inD kvs) yv) c.1 n i2 = l1 at st1 ln1
      generalize lineQ (fun _ => 32) (sgB (inY ys) yv) c.1 n i2 = l2 at st2 ln2
      have ev : decide (c.1 + (i2 : Nat) < e.1) = decide (i2 + 1 < n) := decide_eq_decide.mpr (by omega)
      generalize hx : c.1 + ((i2 : Nat) : Int) = xv at st1 st2 ev
      have S03 := S02.trans S3
      refine ⟨_, rfl, _, rfl, _, rfl, szl 2, fun H5 t5 S5 n5 h5 => ⟨_, rfl, en, _, rfl, DGet.t (k := keyP (xv, yv)) ((S03.trans S5) _ _ hen) h5, _, rfl, ifS sO sD ?_⟩⟩
      refine ⟨_, _, rfl, rfl, by rw [S_len, S_len, sizeLine_eq]; show l1.length + 1 ≤ _; omega, ?_⟩
      have S05 := S03.trans S5
      refine ⟨_, rfl, _, rfl, _, rfl, _, _, rfl, rfl, szl 2, fun H6 t6 S6 n6 h6 => ⟨_, rfl, _, rfl, szl 2, fun H7 t7 S7 n7 h7 => ⟨szl 2, fun H8 t8 S8 n8 h8 => ⟨_, rfl, sh, t8, ((xv, yv - 1), (xv, yv)), ys, rfl, rfl, hE.keep (((S05.trans S6).trans S7).trans S8), ⟨t6, t7, h8, (S7.trans S8) _ _ h6, S8 _ _ h7⟩, _, rfl, ifS sB sS ?_⟩⟩⟩⟩
      refine ⟨_, _, rfl, rfl, by rw [S_len, S_len, sizeLine_eq]; show l2.length + 1 ≤ _; omega, ?_⟩
      have S08 := ((S05.trans S6).trans S7).trans S8
      have S28 := (((S3.trans S5).trans S6).trans S7).trans S8
      refine ⟨_, rfl, _, rfl, ea, _, _, _, rfl, rfl, SqT.of (S08 _ _ hea), at0, _, _, rfl, rfl, _, rfl, ?_⟩
      show if decide (xv < e.1) = true then _ else _
      rw [ev]
      by_cases z : i2 + 1 < n
      · rw [decide_eq_true z]
        rw [if_pos z] at st1 st2
        refine iteT ⟨_, rfl, _, rfl, _, rfl, szl 2, fun H9 t9 S9 n9 h9 => ⟨_, rfl, _, _, rfl, rfl, _, rfl, szl 2, fun HA tA SA nA hA => ⟨szl 2, fun HB tB SB nB hB => ⟨_, rfl, sh, tB, ((xv, yv), (xv + 1, yv)), ys, rfl, rfl, hE.keep (((S08.trans S9).trans SA).trans SB), ⟨t9, tA, hB, (SA.trans SB) _ _ h9, SB _ _ hA⟩, _, rfl, ifS sM sS ?_⟩⟩⟩⟩
        refine ⟨_, _, rfl, rfl, by rw [S_cat, S_len, S_len, List.length_append, sizeLine_eq]; show l1.length + 1 + 1 ≤ _; omega, _, rfl, _, _, rfl, rfl, by rw [S_cat, S_len, sS, S_len, List.length_append, sizeLine_eq]; show l2.length + 1 + 1 ≤ _; omega, _, _, rfl, ?_⟩
        refine ⟨some (.int xv), ?_, ((S28.trans S9).trans SA).trans SB⟩
        rw [S_cat, S_cat, sS, S_cat, S_cat, st1, st2, List.append_assoc, List.append_assoc]
        have eg : gpP (inY ys) yv (xv + 1) = if (valE ys ((xv, yv), (xv + 1, yv))).isSome = true then 45 else 32 := by
          unfold gpP
          rw [show xv + 1 - 1 = xv by omega]
        rw [eg]
        rfl
      · rw [decide_eq_false z]
        rw [if_neg z, List.append_nil] at st1 st2
        refine iteF ⟨some (.int xv), ?_, S28⟩
        rw [S_cat, S_cat, st1, st2]
        rfl
    · rintro σ H3 ⟨y7, rfl, S3⟩
      rw [lineQ_all, lineQ_all]
      have S03 := S02.trans S3
      have hlj3 := (S2.trans S3) _ _ hlj
      refine ⟨_, rfl, _, rfl, szl 1, fun H6 u6 S6 n6 h6 => ⟨lj, u6, _, _, rfl, rfl, S6 _ _ hlj3, h6, ?_, fun H7 u7 S7 n7 h7 => ?_⟩⟩
      · rw [List.length_map, sizeLine_eq]; show _ + 1 ≤ _; omega
      have S07 := (S03.trans S6).trans S7
      refine ⟨_, rfl, _, rfl, ca, _, _, _, rfl, rfl, SqT.of (S07 _ _ hca), at1, _, _, rfl, rfl, _, rfl, ?_⟩
      by_cases z : c.2 < yv
      · rw [decide_eq_true z]
        refine iteT ⟨_, rfl, szl 1, fun H8 u8 S8 n8 h8 => ⟨u7, u8, _, _, rfl, rfl, S8 _ _ h7, h8, ?_, fun H9 u9 S9 n9 h9 => ⟨u9, _, _, _, _, rfl, (S07.trans S8).trans S9, ?_⟩⟩⟩
        · rw [List.length_append, List.length_map, sizeLine_eq]; show _ + 1 + 1 ≤ _; omega
        · rw [h9, er, if_pos z, List.map_append, List.append_assoc]
          rfl
      · rw [decide_eq_false z]
        refine iteF ⟨szl 0, fun H8 u8 S8 n8 h8 => ⟨u7, u8, _, _, rfl, rfl, S8 _ _ h7, h8, ?_, fun H9 u9 S9 n9 h9 => ⟨u9, _, _, _, _, rfl, (S07.trans S8).trans S9, ?_⟩⟩⟩
        · rw [List.length_append, List.length_map, sizeLine_eq]; show _ + 1 + 0 ≤ _; omega
        · rw [h9, er, if_neg z, List.map_append, List.append_nil]
          rfl
  · rintro σ H1 ⟨lj, y7, y8, y19, y20, rfl, S1, hlj⟩
    have lr := rows_len (F := inD kvs) (G := inY ys) (xs := xsL c.1 n) (lo := c.2) (ysL e.2 m)
    have ly : (ysL e.2 m).length = m := by unfold ysL; rw [List.length_map, List.length_range]
    have hl1 : ∀ x ∈ (rowsL (inD kvs) (inY ys) (xsL c.1 n) c.2 (ysL e.2 m)).map List.length, x ≤ 120 := fun x hx => by
      obtain ⟨l, hl, rfl⟩ := List.mem_map.mp hx
      exact rows_row (by rw [xsL_len]; omega) l hl
    have hsum := sum_le hl1
    rw [List.length_map] at hsum
    have h1 := h.same S1
    have t400 : age ≤ 400 := by omega
    have hpic : picOf ws st age c e = if e.1 < c.1 then [] else TL.joinL [10] (rowsL (inD kvs) (inY ys) (xsL c.1 n) c.2 (ysL e.2 m)) := by
      unfold picOf picL
      rw [hm, hn, hF, hG]
    refine ⟨_, rfl, ea, _, _, _, rfl, rfl, SqT.of (S1 _ _ hea), at0, _, rfl, ca, _, _, _, rfl, rfl, SqT.of (S1 _ _ hca), at0, _, _, rfl, rfl, _, rfl, ?_⟩
    by_cases z : e.1 < c.1
    · rw [if_pos z] at hpic
      rw [decide_eq_true z]
      refine iteT ⟨szl 0, fun H2 lk S2 n2 h2 => ?_⟩
      have S02 := S1.trans S2
      refine ⟨_, rfl, _, rfl, _, rfl, _, rfl, b, ca, ea, age, ws, st, c, e, rfl, (h1.same S2).bk, h.g, t400, S02 _ _ hca, S02 _ _ hea, l1, l2, nb, z1, z2, h.tree, by omega, fun H3 S3 => ?_⟩
      refine ⟨⟨_, rfl⟩, _, rfl, _, lk, ([] : List (List Nat)).map S, rfl, rfl, .inl (SqL.of (S3 _ _ h2)), by decide, ?_⟩
      rw [sN, join_S, show TL.joinL [10] [] = picOf ws st age c e from hpic.symm]
      exact ⟨_, _, rfl, Alk.flat rfl 4, fun H4 S4 => ⟨_, rfl, iteF ⟨a, r, b, fa, lo, ns, as, ps, ws, st, age, _, _, _, _, _, _, _, _, _, _, _, _, _, _, _, rfl, ((h1.same S2).same S3).same S4, q⟩⟩⟩
    · rw [if_neg z] at hpic
      rw [decide_eq_false z]
      refine iteF ?_
      refine ⟨_, rfl, _, rfl, _, rfl, _, rfl, b, ca, ea, age, ws, st, c, e, rfl, h1.bk, h.g, t400, S1 _ _ hca, S1 _ _ hea, l1, l2, nb, z1, z2, h.tree, by omega, fun H3 S3 => ?_⟩
      refine ⟨⟨_, rfl⟩, _, rfl, _, lj, (rowsL (inD kvs) (inY ys) (xsL c.1 n) c.2 (ysL e.2 m)).map S, rfl, rfl, .inl ?_, ?_, ?_⟩
      · rw [List.map_map]; exact SqL.of (S3 _ _ hlj)
      · rw [lens, List.length_map]
        refine Nat.le_trans (Nat.add_le_add_right hsum _) ?_
        show _ + _ * 1 ≤ _
        omega
      rw [sN, join_S, ← hpic]
      exact ⟨_, _, rfl, Alk.flat rfl 4, fun H4 S4 => ⟨_, rfl, iteF ⟨a, r, b, fa, lo, ns, as, ps, ws, st, age, _, _, _, _, _, _, _, _, _, _, _, _, _, _, _, rfl, (h1.same S3).same S4, q⟩⟩⟩
end
end SK
namespace SK
open PySem PySem.Spec PyProof.Rows L2 SX
/-! ### a tuple among the items of a list -/
def rInDL (K : PySem.W.Frag) : R2 := fun x y H Q => ∃ d ds, Dp K H x d ∧ Dp K H y (.list ds) ∧ SeqAt.shaped d = true ∧ SeqAt.shaped (.list ds) = true ∧ Q (.bl (ds.any fun z => PyData.eqv z d)) H
theorem op_inDL {X : Cx} (hu : X.A.units + 65 < cLine) : OpR X (compareOp .In) (rInDL X.K) := by
  rintro pins s σ H x y v u Q I rx ry ⟨d, ds, dx, dy, sx, sy, q⟩
  obtain ⟨_, r1⟩ := Dp.reads I d x v dx rx
  obtain ⟨_, r2⟩ := Dp.reads I (.list ds) y u dy ry
  exact SeqAt.in_list_reads r2 r1 (SeqAt.canLay_of_shaped sy) (SeqAt.canLay_of_shaped sx) (room_in_shaped sx hu) ⟨.bl _, H, I, rfl, q⟩
theorem eqv_pD (a b : Pt) : PyData.eqv (pD a) (pD b) = decide (a = b) := by
  obtain ⟨a1, a2⟩ := a
  obtain ⟨b1, b2⟩ := b
  unfold pD
  rw [Bool.eq_iff_iff]
  simp [PyData.eqv, PyData.eqvAll]
theorem sh_pD (a : Pt) : SeqAt.shaped (pD a) = true := by
  unfold pD
  simp [SeqAt.shaped, PyData.canLay0, PyData.canLayAll0, PyData.depth, PyData.depthAll]
theorem dir_cases (h : Int) : dir h = (1, 0) ∨ dir h = (0, 1) ∨ dir h = (-1, 0) ∨ dir h = (0, -1) := by
  unfold dir
  by_cases z : h = 0
  · rw [if_pos z]; exact .inl rfl
  · rw [if_neg z]
    by_cases z : h = 1
    · rw [if_pos z]; exact .inr (.inl rfl)
    · rw [if_neg z]
      by_cases z : h = 2
      · rw [if_pos z]; exact .inr (.inr (.inl rfl))
      · rw [if_neg z]; exact .inr (.inr (.inr rfl))
/-- the window of a stroke's own places holds just these -/
theorem inW_edge (s : Stk) (p : Pt) : inW (edge s).1 (edge s).2 p = (decide (p = begS s) || decide (p = endS s)) := by
  obtain ⟨x, y, h, l⟩ := s
  obtain ⟨p1, p2⟩ := p
  rw [Bool.eq_iff_iff, Bool.or_eq_true, decide_eq_true_iff, decide_eq_true_iff]
  unfold inW
  rw [decide_eq_true_iff]
  unfold edge begS endS ltZ
  dsimp only
  rw [Prod.ext_iff, Prod.ext_iff]
  dsimp only
  rcases dir_cases h with e | e | e | e
  · rw [e]
    rw [if_neg (by rw [decide_eq_true_iff]; dsimp only; omega)]
    dsimp only; omega
  · rw [e]
    rw [if_neg (by rw [decide_eq_true_iff]; dsimp only; omega)]
    dsimp only; omega
  · rw [e]
    rw [if_pos (by rw [decide_eq_true_iff]; dsimp only; omega)]
    dsimp only; omega
  · rw [e]
    rw [if_pos (by rw [decide_eq_true_iff]; dsimp only; omega)]
    dsimp only; omega
def meetP (s : Stk) (p : Pt) : Bool := decide (p = begS s) || decide (p = endS s)
theorem hit_edge (s t : Stk) : hit (edge s).1 (edge s).2 t = !([begS t, endS t].filter (meetP s)).isEmpty := by
  show (inW (edge s).1 (edge s).2 (begS t) || inW (edge s).1 (edge s).2 (endS t)) = _
  rw [inW_edge, inW_edge]
  show (meetP s (begS t) || meetP s (endS t)) = _
  cases u1 : meetP s (begS t) <;> cases u2 : meetP s (endS t) <;> simp [List.filter_cons, u1, u2]
def dueL (L : List Stk) (s : Stk) (num : Nat) : List NS := ((numS 0 L).filter fun x => hit (edge s).1 (edge s).2 x.2).filter fun x => decide (x.1 ≠ num)
theorem due_more {L : List Stk} {s t : Stk} {num i : Nat} (h : L[i]? = some t) : dueL (L.take (i + 1)) s num = dueL (L.take i) s num ++ (if i ≠ num ∧ hit (edge s).1 (edge s).2 t = true then [(i, t)] else []) := by
  have hi : i < L.length := (List.getElem?_eq_some_iff.mp h).1
  unfold dueL
  rw [take_more h, numS_app, List.filter_append, List.filter_append]
  congr 1
  rw [List.length_take, Nat.min_eq_left (by omega), Nat.zero_add]
  show List.filter _ (List.filter _ [(i, t)]) = _
  by_cases z : hit (edge s).1 (edge s).2 t = true
  · rw [List.filter_cons, if_pos (show hit (edge s).1 (edge s).2 (i, t).2 = true from z), List.filter_nil, List.filter_cons, List.filter_nil]
    by_cases y : i = num
    · rw [if_neg (fun h => absurd y (of_decide_eq_true h)), if_neg (fun h => h.1 y)]
    · rw [if_pos (decide_eq_true y), if_pos ⟨y, z⟩]
  · rw [List.filter_cons, if_neg (show ¬ hit (edge s).1 (edge s).2 (i, t).2 = true from z), List.filter_nil, List.filter_nil, if_neg (fun h => z h.2)]
theorem due_len (L : List Stk) (s : Stk) (num : Nat) : (dueL L s num).length ≤ L.length := by
  unfold dueL
  exact Nat.le_trans (List.length_filter_le _ _) (Nat.le_trans (List.length_filter_le _ _) (by rw [numS_len]; exact Nat.le_refl _))
section
variable {P : Program} {w : World} {K : PySem.W.Frag} {mg : Str → Option Value} {base : Heap}
theorem law20_f {f CT : Addr} {cdv : Value} {k : Nat} (G : LawG20 P w K mg base CT k) {A : Around} {outer : List Env} {s : Shared} {H : Hp} {E : XK} (hr : Room k (A.deeper (envOfC "law" (defScope s_law) s.heap.objs.size f cdv)))
    (R : PSs (cxOf CX0 P w K mg base n_law "law" (defScope s_law) f cdv A outer s H E).nox ((defBody s_law).drop 17) (tP17 K)) :
    PSs (cxOf CX0 P w K mg base n_law "law" (defScope s_law) f cdv A outer s H E).nox ((defBody s_law).drop 14) (tP14 K) := by
  have nd := sc_law.nd
  obtain ⟨GP, GB, GK, GE, GT, GA, GG, GD, GU, GL, GPc, GTo, GFi, mR, ml, mT, mI, mMi, mMa⟩ := G
  have hu65 : (A.deeper (envOfC "law" (defScope s_law) s.heap.objs.size f cdv)).units + 65 < cLine := by have := hr.un; omega
  have GTn := GTo.cool (sp0 := spTouch) fun _ _ _ _ h => h
  refine pssimp _ (pss_cons (ps_asg (ptupN (pa_cons (pcall GT hr (pa_cons (pv 1) (pa_cons (plen ml (pv 4)) pa_nil))) (pa_cons (plstN pa_nil) pa_nil))) (pg_tup (by rfl) (pgs_cons (pg_name (i := 21) nd rfl (.inr rfl)) (pgs_cons (pg_name (i := 22) nd rfl (.inl rfl)) pgs_nil))))
    (pss_cons (ps_for PassesOwn.never rfl (pi_range1 rfl mR (pa_cons (plen ml (pv 4)) pa_nil)) (pg_name (i := 23) nd rfl (.inl rfl))
      (pss_one (ps_if (PW.pt (pw_and (pt_cmpR op_ne (pv 23) (pv 21) (nomark _)) (pw_and1 (pt_cmpR (op_neD hr.units) (pe_lc (own := [("spot", 30)]) (g := gName 30) (tt := tTest (tOp (rInDL K) (tVar 30) (tOp (rIxL K) (tVar 6) (tVar 21)))) (te := tVar 30) rfl nd (pi_list (pix (pv 6) (pv 23))) (blkOk_by (N := n_law) (sc := defScope s_law) (by decide +kernel))
          (fun _ _ _ _ _ => pg_name (i := 30) nd rfl (Or.inl rfl)) (fun _ _ _ _ _ => pts_one (pt_cmpR (op_inDL (by exact hu65)) (pv 30) (pix (pv 6) (pv 21)) (by rfl))) (fun _ _ _ _ _ => pv 30)) (plstN pa_nil) (nomark _)))))
        (pss_one (sapp (pv 22) (pv 23))) pss_nil)))
    (pss_cons (ps_if (pt_not (pt_val (pcall GL hr (pa_cons (pcall GTn hr (pa_cons (pv 2) (pa_cons (pv 3) (pa_cons (pv 21) pa_nil)))) (pa_cons (ptupleN mT (pv 22)) pa_nil))))) pss_never pss_nil)
    R))) ?_
  rintro D σ H0 ⟨a, r, b, fa, lo, ns, as, ps, ws, st, age, y5, y7, y8, y9, y10, y11, y12, y13, y14, y15, y16, y17, y18, y19, y20, rfl, h, q⟩
  have few := h.few
  have pos := h.pos
  have lA := h.sa.length
  have age8 := h.low.1
  refine ⟨_, rfl, _, rfl, fa, _, rfl, .inl (SqL.of h.fa), r, (a, ns), _, rfl, h.row, by rw [List.length_map]; omega, .inl (by rw [List.length_map]; omega), fun H1 num D1 hnum => ⟨szl 0, fun H2 du S2 n2 h2 => ⟨szl 2, fun H3 t3 S3 n3 h3 => ⟨t3, _, rfl, SqT.of h3, rfl, _, _, rfl, _, _, rfl, rfl, ?_⟩⟩⟩⟩
  rw [List.length_map, lA] at hnum
  have h1 := h.drawn D1
  have tree := h.tree
  have lP := h.len
  have hsl := h1.sl
  have hlo := h1.lo
  have hT : ∀ s : Stk, touchL ws st age num s = dueL (strokes (grown ws st age)) s num := fun s => rfl
  have hits2 : ∀ c e, (hitsL ws st age c e).length ≤ 150 := fun c e => hits_few few
  have S13 := S2.trans S3
  have hdu3 := S3 _ _ h2
  refine ⟨_, rfl, fa, _, rfl, .inl (SqL.of (S13 _ _ h1.fa)), _, rfl, by rw [List.length_map]; omega, by rw [List.length_map]; omega, ?_⟩
  rw [List.length_map, Int.toNat_natCast, lA]
  generalize hL : strokes (grown ws st age) = L at few pos lA hnum lP hsl hT
  have hsn := List.getElem?_eq_getElem hnum
  generalize L[num] = sn at hsn
  obtain ⟨pn, epn, u1, u2, m1, m2, m3⟩ := paired_get hsl hsn
  refine for_range (lo := 0) (n := L.length) (fun i σ H' => ∃ y23 : Option V, σ = [some (.ref a), some (.ref r), some (.ref b), some (.int age), some (.ref fa), y5, some (.ref lo), y7, y8, y9, y10, y11, y12, y13, y14, y15, y16, y17, y18, y19, y20, some (.int num), some (.ref du), y23, none, none, none, none, none, none, none] ∧ Same H1 H' ∧ H' du = some (.lst ((dueL (L.take i) sn num).map fun x => V.int (x.1 : Nat)))) ⟨_, rfl, S13, hdu3⟩ ?_ ?_
  · rintro i σ H4 hi ⟨y23, rfl, S4, hdu⟩
    rw [show (0 : Int) + ((i : Nat) : Int) = (i : Nat) by omega]
    have hsk := List.getElem?_eq_getElem hi
    generalize L[i] = sk at hsk
    have em := due_more (s := sn) (num := num) hsk
    have lD := due_len (L.take i) sn num
    rw [List.length_take] at lD
    obtain ⟨p, ep, t1, t2, a1, a2, a3⟩ := paired_get hsl hsk
    refine ⟨_, rfl, _, rfl, rfl, _, rfl, ?_⟩
    by_cases z : i = num
    · rw [if_neg (fun y => y.1 z), List.append_nil] at em
      rw [show decide ((V.int (i : Nat)) = V.int (num : Nat)) = true from decide_eq_true (by rw [z])]
      exact iteF (iteF ⟨_, rfl, S4, by rw [em]; exact hdu⟩)
    · rw [show decide ((V.int (i : Nat)) = V.int (num : Nat)) = false from decide_eq_false (fun y => z (by injection y with y; omega))]
      refine iteT ?_
      refine ⟨_, rfl, _, rfl, lo, _, _, .ref p, rfl, rfl, SqL.of (S4 _ _ hlo), atI_nat (by rw [List.getElem?_map, ep]; rfl), p, rfl, ⟨_, SqL.of (S4 _ _ a1)⟩, fun D5 nD5 => ?_⟩
      refine ptsLc (v := 30) (f := meetP sn) (as := [t1, t2]) (ps := [begS sk, endS sk]) (by show 30 < 31; decide) (S4 _ _ a1) (.cons (S4 _ _ a2) (.cons (S4 _ _ a3) .nil)) (by show 2 ≤ _; decide) nD5 (fun t pt H6 Q S6 ht hq => ?_) fun H6 bo S6 hD6 hP => ?_
      · have S16 := S4.trans S6
        refine ⟨_, rfl, _, rfl, _, rfl, lo, _, _, .ref pn, rfl, rfl, SqL.of (S16 _ _ hlo), atI_nat (by rw [List.getElem?_map, epn]; rfl), pD pt, [pD (begS sn), pD (endS sn)], dp_pair (SqT.of ht), .lst (SqL.of (S16 _ _ m1)) (.cons (dp_pair (a := begS sn) (SqT.of (S16 _ _ m2))) (.cons (dp_pair (a := endS sn) (SqT.of (S16 _ _ m3))) .nil)), sh_pD _, sh_pts [begS sn, endS sn], _, rfl, ?_⟩
        have e : ([pD (begS sn), pD (endS sn)].any fun z => PyData.eqv z (pD pt)) = meetP sn pt := by
          show (PyData.eqv (pD (begS sn)) (pD pt) || (PyData.eqv (pD (endS sn)) (pD pt) || false)) = _
          rw [eqv_pD, eqv_pD, Bool.or_false]
          unfold meetP
          rw [show decide (begS sn = pt) = decide (pt = begS sn) from decide_eq_decide.mpr ⟨Eq.symm, Eq.symm⟩, show decide (endS sn = pt) = decide (pt = endS sn) from decide_eq_decide.mpr ⟨Eq.symm, Eq.symm⟩]
        rw [e]
        exact hq
      · refine ⟨szl 0, fun H7 l7 S7 n7 h7 => ⟨_, _, .lst (SqL.of (S7 _ _ hD6)) (dp_ptsL (hP.keep (.of S7))), .lst (SqL.of h7) .nil, sh_pts _, sh_wds [], _, rfl, ?_⟩⟩
        have eh : (!PyData.eqv (.list (([begS sk, endS sk].filter (meetP sn)).map pD)) (.list [])) = hit (edge sn).1 (edge sn).2 sk := by
          rw [eqv_nilL, hit_edge, List.isEmpty_map]
        rw [eh]
        have S47 := S6.trans S7
        cases hh : hit (edge sn).1 (edge sn).2 sk with
        | false =>
          rw [if_neg (fun y => by rw [hh] at y; exact Bool.false_ne_true y.2), List.append_nil] at em
          exact iteF ⟨_, rfl, S4.trans S47, by rw [em]; exact S47 _ _ hdu⟩
        | true =>
          rw [if_pos ⟨z, hh⟩] at em
          refine iteT ⟨_, rfl, .inl ⟨rfl, _, SqL.of (S47 _ _ hdu)⟩, _, rfl, du, _, _, rfl, rfl, S47 _ _ hdu, ?_, _, rfl, sPut (S4.trans S47) n2, ?_⟩
          · rw [List.length_map, sizeLine_eq]; omega
          · rw [upd_same, em, List.map_append]
            rfl
  · rintro σ H4 ⟨y23, rfl, S4, hdu⟩
    rw [List.take_length, ← hT sn] at hdu
    have h4 := h1.same S4
    have lD : (touchL ws st age num sn).length ≤ L.length := by rw [hT]; exact due_len L sn num
    refine ⟨_, rfl, _, rfl, _, rfl, b, age, num, ws, st, sn, rfl, h4.bk, h.g, by omega, by rw [hL]; exact hsn, tree, by have := hits2 (edge sn).1 (edge sn).2; omega, fun H5 r5 S5 n5 h5 => ?_⟩
    refine ⟨_, rfl, du, _, rfl, SqL.of (S5 _ _ hdu), fun H6 r6 S6 n6 h6 => ?_⟩
    refine ⟨_, _, rfl, Alk.flats (.inl (S6 _ _ h5)) (.inl h6) (by rw [List.length_map]; omega) (fun x hx => ?_), fun H7 S7 => ⟨_, rfl, iteF ?_⟩⟩
    · obtain ⟨y, _, rfl⟩ := List.mem_map.mp hx
      rfl
    · exact ⟨a, r, b, fa, lo, ns, as, ps, ws, st, age, _, _, _, _, _, _, _, _, _, _, _, _, _, _, _, _, _, _, rfl, ((h4.same S5).same S6).same S7, q⟩
end
end SK
namespace SK
open PySem PySem.Spec PyProof.Rows L2 SX
/-! ### the first age, from the last one back -/
def firstV (has : Nat → Bool) (m : Nat) : Nat → V
  | 0 => .non
  | i + 1 => if has (m - i) = true then .int ((m - i : Nat) : Int) else firstV has m i
theorem firstV_some {has : Nat → Bool} {m : Nat} : ∀ {i : Nat}, i ≤ m + 1 → ∀ {a : Nat}, a ≤ m → m + 1 - i ≤ a → has a = true → (∀ j, m + 1 - i ≤ j → j < a → has j = false) → firstV has m i = .int (a : Nat)
  | 0, _, a, h1, h2, _, _ => absurd h1 (by omega)
  | i + 1, hi, a, h1, h2, h3, h4 => by
    unfold firstV
    by_cases z : has (m - i) = true
    · rw [if_pos z]
      have : ¬ m - i < a := fun y => by
        have := h4 (m - i) (by omega) y
        rw [z] at this
        cases this
      rw [show a = m - i by omega]
    · rw [if_neg z]
      have ne : a ≠ m - i := fun y => z (by rw [← y]; exact h3)
      exact firstV_some (by omega) h1 (by omega) h3 fun j hj1 hj2 => h4 j (by omega) hj2
theorem firstV_none {has : Nat → Bool} {m : Nat} : ∀ {i : Nat}, (∀ a, a ≤ m → has a = false) → firstV has m i = .non
  | 0, _ => rfl
  | i + 1, h => by
    unfold firstV
    rw [if_neg (by rw [h (m - i) (by omega)]; exact Bool.false_ne_true)]
    exact firstV_none h
theorem flat_firstV {has : Nat → Bool} {m : Nat} : ∀ i, flatA (firstV has m i) = true
  | 0 => rfl
  | i + 1 => by
    unfold firstV
    split
    · rfl
    · exact flat_firstV i
theorem inW_one (c p : Pt) : inW c c p = decide (p = c) := by
  obtain ⟨c1, c2⟩ := c
  obtain ⟨p1, p2⟩ := p
  unfold inW
  refine decide_eq_decide.mpr ?_
  rw [Prod.ext_iff]
  dsimp only
  omega
def comesAt (ws : List (List Sy)) (st : List Sy) (c : Pt) (a : Nat) : Bool := (strokes (grown ws st a)).any (hit c c)
theorem hits_nil {ws : List (List Sy)} {st : List Sy} {c : Pt} {a : Nat} : hitsL ws st a c c = [] ↔ comesAt ws st c a = false := by
  have e : (hitsL ws st a c c).map (fun x => x.2) = (strokes (grown ws st a)).filter (hit c c) := by
    rw [show (hitsL ws st a c c).map (fun x => x.2) = ((strokes (grown ws st a)).filter (hit c c)).map id from numS_map (hit c c) id 0 _, List.map_id]
  unfold comesAt
  rw [List.any_eq_false, ← List.filter_eq_nil_iff, ← e, List.map_eq_nil_iff]
section
variable {P : Program} {w : World} {K : PySem.W.Frag} {mg : Str → Option Value} {base : Heap}
theorem law20_g {f CT : Addr} {cdv : Value} {k : Nat} (G : LawG20 P w K mg base CT k) {A : Around} {outer : List Env} {s : Shared} {H : Hp} {E : XK} (hr : Room k (A.deeper (envOfC "law" (defScope s_law) s.heap.objs.size f cdv)))
    (R : PSs (cxOf CX0 P w K mg base n_law "law" (defScope s_law) f cdv A outer s H E).nox ((defBody s_law).drop 20) (tP20 K)) :
    PSs (cxOf CX0 P w K mg base n_law "law" (defScope s_law) f cdv A outer s H E).nox ((defBody s_law).drop 17) (tP17 K) := by
  have nd := sc_law.nd
  obtain ⟨GP, GB, GK, GE, GT, GA, GG, GD, GU, GL, GPc, GTo, GFi, mR, ml, mT, mI, mMi, mMa⟩ := G
  have hu65 : (A.deeper (envOfC "law" (defScope s_law) s.heap.objs.size f cdv)).units + 65 < cLine := by have := hr.un; omega
  have GFn := GFi.cool (sp0 := spFirstC) fun _ _ _ _ h => h
  refine pssimp _ (pss_cons (ps_par3 rfl nd (i := 24) (j := 25) (l := 26) rfl rfl rfl (by decide) (by decide) (by decide) rfl rfl rfl (pa_cons (pcall GP hr (pa_cons (pv 1) (pa_cons (plstN (pa_cons (pix (pcall GP hr (pa_cons (pv 1) (pa_cons (pv 6) pa_nil))) pe_int) (pa_cons (ptupN (pa_cons (psub (pcall GT hr (pa_cons (pv 1) (pa_cons pe_int pa_nil))) pe_int) (pa_cons (psub (pcall GT hr (pa_cons (pv 1) (pa_cons pe_int pa_nil))) pe_int) pa_nil))) pa_nil))) pa_nil))) (pa_cons (pcall GA hr (pa_cons (pv 2) (pa_cons pe_int pa_nil))) (pa_cons pe_non pa_nil))) (by rfl))
    (pss_cons (ps_for PassesOwn.never rfl (pi_range3 rfl mR (pa_cons (pv 25) (pa_cons (pe_un un_neg pe_int) (pa_cons (pe_un un_neg pe_int) pa_nil)))) (pg_name (i := 27) nd rfl (.inl rfl))
      (pss_cons (ps_set (i := 28) nd rfl (.inl rfl) (pixT (pcall GD hr (pa_cons (pcall GG hr (pa_cons (pv 2) (pa_cons (pv 27) pa_nil))) pa_nil)) pe_int))
      (pss_one (ps_for PassesOwn.never rfl (pi_list (pv 28)) (pg_tup (by rfl) (pgs_cons (pg_name (i := 7) nd rfl (.inl rfl)) (pgs_cons (pg_name (i := 8) nd rfl (.inl rfl)) (pgs_cons (pg_name (i := 9) nd rfl (.inl rfl)) (pgs_cons (pg_name (i := 10) nd rfl (.inl rfl)) pgs_nil)))))
        (pss_one (ps_set (i := 26) nd rfl (.inl rfl) (pe_ifExp (pt_cmpR (op_inDL (by exact hu65)) (pv 24) (plstN (pa_cons (ptupN (pa_cons (pv 7) (pa_cons (pv 8) pa_nil))) (pa_cons (ptupN (pa_cons (padd (pv 7) (pixT (pcall GU hr (pa_cons (pv 9) pa_nil)) pe_int)) (pa_cons (padd (pv 8) (pixT (pcall GU hr (pa_cons (pv 9) pa_nil)) pe_int)) pa_nil))) pa_nil))) (by rfl)) (pv 27) (pv 26))))))))
    (pss_cons (ps_if (pt_not (pt_val (pcall GL hr (pa_cons (pcall GFn hr (pa_cons (pv 2) (pa_cons (pv 24) (pa_cons (pv 25) pa_nil)))) (pa_cons (pv 26) pa_nil))))) pss_never pss_nil)
    R))) ?_
  rintro D σ H0 ⟨a, r, b, fa, lo, ns, as, ps, ws, st, age, y5, y7, y8, y9, y10, y11, y12, y13, y14, y15, y16, y17, y18, y19, y20, y21, y22, y23, rfl, h, q⟩
  have few := h.few
  have pos := h.pos
  have lP := h.len
  have age8 := h.low.1
  have g := h.g
  refine ⟨_, rfl, _, rfl, _, rfl, r, lo, (a, ns), _, rfl, h.row, h.row.neL h.lo, h.lo, by rw [List.length_map]; omega, by rw [List.length_map]; omega, fun H1 k1 v1 D1 hv1 => ?_⟩
  have h1 := h.drawn D1
  rw [List.getElem?_map] at hv1
  obtain ⟨p, ep, rfl⟩ := Option.map_eq_some_iff.mp hv1
  have hk : k1 < (strokes (grown ws st age)).length := by have := (List.getElem?_eq_some_iff.mp ep).1; omega
  obtain ⟨p', ep', t1, t2, a1, a2, a3⟩ := paired_get h1.sl (List.getElem?_eq_getElem hk)
  rw [ep] at ep'
  cases ep'
  have hs := List.getElem_mem hk
  generalize (strokes (grown ws st age))[k1] = sk at a2 a3 hs
  refine ⟨p, _, _, _, rfl, rfl, SqL.of a1, at1, ?_⟩
  refine ⟨_, rfl, r, (a, ns), 9, rfl, h1.row, by decide, .inl (by decide), fun H2 x1 D2 hx1 => ⟨_, _, rfl, rfl, ?_⟩⟩
  have h2 := h1.drawn D2
  refine ⟨_, rfl, r, (a, ns), 9, rfl, h2.row, by decide, .inl (by decide), fun H3 x2 D3 hx2 => ⟨_, _, rfl, rfl, szl 2, fun H4 tp S4 n4 h4 => ⟨szl 2, fun H5 q5 S5 n5 h5 => ?_⟩⟩⟩
  have h3 := (h2.drawn D3).same S4
  have h35 := h3.same S5
  have b3 := S5 _ _ (S4 _ _ ((D3.tups h2.row).1 _ _ ((D2.tups h1.row).1 _ _ a3)))
  have b4 := S5 _ _ h4
  refine ⟨r, q5, (a, ns), _, rfl, h35.row, h3.row.there n5, h5, by show 1 ≤ 2; decide, by show 2 < _; decide, fun H6 k6 v6 D6 hv6 => ?_⟩
  have T6 := D6.tups h35.row
  have h6 := h35.drawn D6
  have c3 := T6.1 _ _ b3
  have c4 := T6.1 _ _ b4
  obtain ⟨ca, c, rfl, hca, lc⟩ : ∃ (ca : Addr) (c : Pt), v6 = .ref ca ∧ H6 ca = some (.tup [.int c.1, .int c.2]) ∧ InLim c := by
    have hm := List.mem_of_getElem? hv6
    simp only [List.mem_cons, List.not_mem_nil, or_false] at hm
    rcases hm with rfl | rfl
    · refine ⟨t2, endS sk, rfl, c3, lim_pts g (n := age) (by omega) (p := endS sk) (List.mem_flatMap.mpr ⟨sk, hs, List.mem_cons_of_mem _ List.mem_cons_self⟩) (by omega) (by omega)⟩
    · exact ⟨tp, ((x1 : Int) - 4, (x2 : Int) - 4), rfl, c4, InLim.of (m := 10) (by dsimp only; omega) (by dsimp only; omega) (by decide +kernel)⟩
  clear h1 h2 h3 h35 a1 a2 a3 b3 b4 c3 c4 D1 D2 D3 D6 S4 S5 T6 h4 h5 n4 n5 hv6 hv1
  refine ⟨_, rfl, b, 100, ws, st, rfl, h6.bk, g, by decide, by decide, fun H7 m S7 low => ⟨_, _, _, rfl, ?_⟩⟩
  have m8 := low.1
  have h7 := h6.same S7
  have hca7 := S7 _ _ hca
  have rg : RgC (m : Int) (-1) (-1) (m + 1) := by
    have r := RgC.neg (i := (m : Int)) (j := -1) (by omega) (by omega) (by omega) (by omega)
    rw [show ((m : Int) - (-1)).toNat = m + 1 by omega] at r
    exact r
  refine ⟨_, rfl, _, rfl, _, rfl, (m : Int), -1, -1, m + 1, rfl, rg, ?_⟩
  refine for_rangeC (lo := (m : Int)) (c := -1) (n := m + 1) (fun i σ H' => ∃ (y7 y8 y9 y10 y27 y28 : Option V), σ = [some (.ref a), some (.ref r), some (.ref b), some (.int age), some (.ref fa), y5, some (.ref lo), y7, y8, y9, y10, y11, y12, y13, y14, y15, y16, y17, y18, y19, y20, y21, y22, y23, some (.ref ca), some (.int m), some (firstV (comesAt ws st c) m i), y27, y28, none, none] ∧ Same H7 H')
    ⟨_, _, _, _, _, _, rfl, Same.refl _⟩ ?_ ?_
  · rintro i σ H8 hi ⟨y7, y8, y9, y10, y27, y28, rfl, S8⟩
    obtain ⟨A, hA⟩ : ∃ A : Nat, A = m - i := ⟨_, rfl⟩
    rw [show (m : Int) + ((i : Nat) : Int) * (-1) = (A : Nat) by omega]
    have lowA := low.mono (show A ≤ m by omega)
    have lenA := lowA.len g
    have nst := nest_grown' g A
    have h8 := h7.same S8
    have hca8 := S8 _ _ hca7
    refine ⟨_, rfl, _, rfl, b, A, ws, st, rfl, h8.bk, g, by omega, by omega, fun H9 p9 S9 n9 h9 => ?_⟩
    refine ⟨p9, _, rfl, .inl (SqL.of h9), nst, by omega, fun HA pp fi pe bs SA nA hAA hfi hB nfi heA => ?_⟩
    refine ⟨pp, _, _, _, rfl, rfl, SqT.of hAA, at0, ?_⟩
    have hok := (strokes_ok nst).1
    have lB := hB.length
    have S7A := (S8.trans S9).trans SA
    have hcaA := (S9.trans SA) _ _ hca8
    have ef : firstV (comesAt ws st c) m (i + 1) = if (strokes (grown ws st A)).any (hit c c) = true then .int (A : Nat) else firstV (comesAt ws st c) m i := by
      show (if comesAt ws st c (m - i) = true then V.int ((m - i : Nat) : Int) else _) = _
      rw [← hA]
      rfl
    generalize strokes (grown ws st A) = L at hok hB lB ef
    generalize firstV (comesAt ws st c) m i = fv at ef
    refine ⟨_, rfl, fi, rfl, ⟨_, SqL.of hfi⟩, ?_⟩
    refine for_list (K := K) (a := fi) (xs := bs.map V.ref) (fun j σ H' => ∃ (y7 y8 y9 y10 : Option V), σ = [some (.ref a), some (.ref r), some (.ref b), some (.int age), some (.ref fa), y5, some (.ref lo), y7, y8, y9, y10, y11, y12, y13, y14, y15, y16, y17, y18, y19, y20, y21, y22, y23, some (.ref ca), some (.int m), some (if (L.take j).any (hit c c) = true then .int (A : Nat) else fv), some (.int (A : Nat)), some (.ref fi), none, none] ∧ Same HA H')
      ⟨_, _, _, _, rfl, Same.refl _⟩ (fun j σ H' _ hh => by obtain ⟨_, _, _, _, _, s⟩ := hh; exact SqL.of (s _ _ hfi)) ?_ ?_
    · rintro j x σ HB hx ⟨y7, y8, y9, y10, rfl, SB⟩
      have hj : j < L.length := by have := (List.getElem?_eq_some_iff.mp hx).1; rw [List.length_map] at this; omega
      have hq := List.getElem?_eq_getElem hj
      generalize L[j] = t at hq
      obtain ⟨pt, ept, hpt⟩ := paired_get hB hq
      rw [List.getElem?_map, ept] at hx
      cases hx
      obtain ⟨o1, o2⟩ := hok t (List.mem_of_getElem? hq)
      refine ⟨pt, _, rfl, SqT.of (SB _ _ hpt), rfl, _, _, rfl, _, _, rfl, _, _, rfl, _, _, rfl, rfl, ?_⟩
      refine ⟨_, rfl, _, rfl, _, rfl, szl 2, fun HC tc SC nC hC => ⟨_, rfl, _, rfl, t.2.2.1, rfl, o1, o2, fun HD ud SD nD hD => ⟨ud, _, _, _, rfl, rfl, SqT.of hD, at0, _, _, rfl, rfl, _, rfl, _, rfl, t.2.2.1, rfl, o1, o2, fun HE ue SE nE hE => ⟨ue, _, _, _, rfl, rfl, SqT.of hE, at1, _, _, rfl, rfl, szl 2, fun HF tf SF nF hF => ⟨szl 2, fun HG tg SG nG hG => ?_⟩⟩⟩⟩⟩
      have SBG := (((SC.trans SD).trans SE).trans SF).trans SG
      refine ⟨pD c, [pD (begS t), pD (endS t)], dp_pair (SqT.of (SBG _ _ (SB _ _ hcaA))), .lst (SqL.of hG) (.cons (dp_pair (a := begS t) (SqT.of ((((SD.trans SE).trans SF).trans SG) _ _ hC))) (.cons (dp_pair (a := endS t) (SqT.of (SG _ _ hF))) .nil)), sh_pD _, sh_pts [begS t, endS t], _, rfl, ?_⟩
      have e1 : ([pD (begS t), pD (endS t)].any fun z => PyData.eqv z (pD c)) = hit c c t := by
        show (PyData.eqv (pD (begS t)) (pD c) || (PyData.eqv (pD (endS t)) (pD c) || false)) = (inW c c (begS t) || inW c c (endS t))
        rw [eqv_pD, eqv_pD, Bool.or_false, inW_one, inW_one]
      rw [e1]
      have e2 : (L.take (j + 1)).any (hit c c) = ((L.take j).any (hit c c) || hit c c t) := by
        rw [take_more hq, List.any_append]
        congr 1
        exact Bool.or_false _
      rw [e2]
      cases z : hit c c t with
      | true =>
        rw [Bool.or_true]
        exact iteT ⟨_, rfl, _, _, _, _, rfl, SB.trans SBG⟩
      | false =>
        rw [Bool.or_false]
        exact iteF ⟨_, rfl, _, _, _, _, rfl, SB.trans SBG⟩
    · rintro σ HB ⟨y7, y8, y9, y10, rfl, SB⟩
      rw [List.length_map, lB, List.take_length, ← ef]
      exact ⟨_, _, _, _, _, _, rfl, S7A.trans SB⟩
  · rintro σ H8 ⟨y7, y8, y9, y10, y27, y28, rfl, S8⟩
    have h8 := h7.same S8
    have fin : ∀ (v : V) (H9 : Hp), Same H8 H9 → v = firstV (comesAt ws st c) m (m + 1) → ∀ H', D.rt (.bl true) H' := fun _ _ _ _ => q
    refine ⟨_, rfl, _, rfl, _, rfl, b, ca, m, ws, st, c, rfl, h8.bk, g, by omega, S8 _ _ hca7, lc, fun A hA => ⟨?_, ?_⟩, fun A hA hne hz H9 S9 => ?_, fun hz H9 S9 => ?_⟩
    · have := tree_le (ws := ws) (M := 100) A st (low.mono hA).2
      have : (A + 1) * 100 ≤ 9 * 100 := Nat.mul_le_mul_right _ (by omega)
      omega
    · have : (strokes (grown ws st A)).length ≤ 100 := by rw [strokes_nL]; exact (low.mono hA).2 A (Nat.le_refl _)
      have := hits_few (c := c) (e := c) this
      omega
    · have hA1 : comesAt ws st c A = true := by
        cases z : comesAt ws st c A with
        | true => rfl
        | false => exact absurd (hits_nil.mpr z) hne
      have e := firstV_some (has := comesAt ws st c) (m := m) (i := m + 1) (Nat.le_refl _) hA (by omega) hA1 fun j _ hj => hits_nil.mp (hz j hj)
      rw [e]
      exact ⟨_, rfl, _, _, rfl, Alk.flat rfl 4, fun HA SA => ⟨_, rfl, iteF ⟨b, ws, st, age, _, _, _, _, _, _, _, _, _, _, _, _, _, _, _, _, _, _, _, _, _, _, _, _, _, _, _, rfl, (h8.same (S9.trans SA)).bk, g, by omega, q⟩⟩⟩
    · have e := firstV_none (has := comesAt ws st c) (m := m) (i := m + 1) fun j hj => hits_nil.mp (hz j hj)
      rw [e]
      exact ⟨_, rfl, _, _, rfl, Alk.flat rfl 4, fun HA SA => ⟨_, rfl, iteF ⟨b, ws, st, age, _, _, _, _, _, _, _, _, _, _, _, _, _, _, _, _, _, _, _, _, _, _, _, _, _, _, _, rfl, (h8.same (S9.trans SA)).bk, g, by omega, q⟩⟩⟩
end
end SK
namespace SK
open PySem PySem.Spec PyProof.Rows L2
/-- what isinstance asks of the class of an error -/
structure IsTxt (K : PySem.W.Frag) (C : Addr) : Prop where
  ha : PySem.W.findIn K (.ref C) "__class__" = some (some (.builtin "object.__class__"))
  hn : PySem.W.specialIn K (.builtin "object.__class__") "__get__" = some (some (.builtin "getset_descriptor.__get__"))
  ht : PySem.W.takesIn K (.builtin "object.__class__") = some true
  hm : PySem.W.mroIn K C (.type "object") = some true
  kit : PySem.W.kitOne K (.ref C) (.ref C) = some true
def rIsTm (C a : Addr) (cls : Value) (d : Option Addr) : List V → Hp → VK → Prop := fun xs H Q => xs = [.ref a, .ref C] ∧ cls = .ref C ∧ ∃ (dd : Addr) (fs : List (Str × V)), d = some dd ∧ H dd = some (.xd fs) ∧ Q (.bl true) H
theorem call_isTm {X : Cx} {a C fI : Addr} {oe : Obj} {cls : Value} {d : Option Addr} {pn : List (Addr × Obj)} (T : TmTxt X.prog X.K X.mg C fI) (T2 : IsTxt X.K C) (hz : Zc cls d oe) (hf : ∃ vs, oe.data = .fields vs) : CallR (X.suite a ((a, oe) :: pn)) (.builtin "isinstance") (rIsTm C a cls d) := by
  intro pins s σ H xs us Q I r h
  obtain ⟨rfl, rfl, dd, fs, rfl, hd, q⟩ := h
  obtain ⟨u, w', rfl, r1, r2⟩ := vals2 r
  obtain rfl : u = Value.ref a := r1
  obtain rfl : w' = Value.ref C := r2
  obtain ⟨hget, _⟩ := I.pin (a, oe) (List.mem_append.mpr (.inl List.mem_cons_self))
  obtain ⟨vs, hv⟩ := hf
  obtain ⟨mA, hns, hr⟩ := (show ObjOk X.prog X.w H s.heap dd (.xd fs) from I.hok dd _ hd)
  obtain ⟨od, ho, hl⟩ := lookIn_ns hns
  have J : PySem.W.InstAt s.heap a oe C (some od) := ⟨hget, hz.1, by unfold PySem.W.notCls; rw [hv] <;> rfl, by rw [hz.2]; exact ho⟩
  have hcl : (PySem.W.clsIn X.K C).isSome = true := by
    obtain ⟨nm, q, N, bs, bm, sn, sub, ab, col, dd, k0, k1, k2, k3, k5, hC, hbm⟩ := T.cls
    unfold PySem.W.clsIn
    rw [hC] <;> rfl
  exact PySem.W.kia_one (PySem.W.kitx_exc (ox := oe) (od := some od) hcl T.ga T.gg T.exC T2.ha T2.hn T2.ht T2.hm) I.kIn J T2.kit (fun z => nomatch z) fun tk => ⟨.bl true, H, I.kept (t' := tk) fun _ _ z => z, rfl, q⟩
end SK
namespace SK
open PySem PySem.Spec PyProof.Rows L2 SX
def tPicB (CT : Addr) (W : WX) : TS := tDrop (tCallS (spPicX CT) (WE W) (tCons (tVar 2) (tCons (tVar 3) (tCons (tTupN (tCons (tC (.int 0)) (tCons (tC (.int 0)) tNil))) (tCons (tTupN (tCons (tC (.int 60)) (tCons (tC (.int 0)) tNil))) tNil)))))
/-- return isinstance(error, TooMany) and error.most == 60 -/
def tSuiteP (CT a : Addr) (cls : Value) (d : Option Addr) : TS := fun D σ H => ∃ dd : Addr, σ[29]? = some (some (.ref a)) ∧ cls = .ref CT ∧ d = some dd ∧ H dd = some (.xd [(("most" : Str), .int 60)]) ∧ D.rt (.bl true) H
section
variable {P : Program} {w : World} {K : PySem.W.Frag} {mg : Str → Option Value} {base : Heap}
theorem law20_h {f CT CS fI : Addr} {cdv : Value} {k : Nat} (T : TmTxt P K mg CT fI) (T2 : IsTxt K CT) (gS : mg "StrokeError" = some (.ref CS)) (te : PySem.W.exmOne K (.ref CT) (.ref CS) = some true) (G : LawG20 P w K mg base CT k) {A : Around} {outer : List Env} {s : Shared} {H : Hp} {E : XK} (hr : Room k (A.deeper (envOfC "law" (defScope s_law) s.heap.objs.size f cdv))) :
    PSs (cxOf CX0 P w K mg base n_law "law" (defScope s_law) f cdv A outer s H E).nox ((defBody s_law).drop 20) (tP20 K) := by
  have nd := sc_law.nd
  obtain ⟨GP, GB, GK, GE, GT, GA, GG, GD, GU, GL, GPc, GTo, GFi, mR, ml, mT, mI, mMi, mMa⟩ := G
  refine pssimp _ (pss_cons (ps_try_as (i := 29) (tb := tPicB CT) (ts := tSuiteP CT) (Wout := fun _ _ _ _ => False) rfl rfl nd rfl rfl ⟨rfl, by decide, .inl gS⟩ takes0
        (fun W pn xe tk _ => pss_one (ps_expr (pcallX GPc hr tk (pa_cons (pv 2) (pa_cons (pv 3) (pa_cons (ptupN (pa_cons pe_int (pa_cons pe_int pa_nil))) (pa_cons (ptupN (pa_cons pe_int (pa_cons pe_int pa_nil))) pa_nil)))))))
        (fun a oe cls d pn hz hf => pssimp _ (pss_one (ps_ret (pe_and (pe_callB (call_isTm T T2 hz hf) (by rfl) mI (by decide +kernel) (pa_cons (pv 29) (pa_cons (pe_glob (v := .ref CT) rfl T.gC rfl) pa_nil)) (by decide) (by decide))
          (pe_one (pe_cmpR op_eq (pe_most T hz hf (pv 29)) pe_int (nomark _)))))) ?suite))
    (pss_one (ps_ret pe_bl))) ?_
  case suite =>
    rintro D σ H ⟨dd, e29, rfl, rfl, hd, q⟩
    refine ⟨_, e29, rfl, rfl, dd, _, rfl, hd, true, rfl, iteT ⟨_, e29, rfl, rfl, dd, _, rfl, hd, rfl, ?_⟩⟩
    rw [decide_eq_true (rfl : V.int 60 = V.int 60)]
    exact q
  rintro D σ H0 ⟨b, ws, st, age, y0, y1, y4, y5, y6, y7, y8, y9, y10, y11, y12, y13, y14, y15, y16, y17, y18, y19, y20, y21, y22, y23, y24, y25, y26, y27, y28, rfl, hB, g, h4, q⟩
  have lim : ∀ x : Int, 0 ≤ x → x ≤ 60 → InLim (x, 0) := fun x h0 h1 => InLim.of (m := 60) (by dsimp only; omega) (by dsimp only; omega) (by decide +kernel)
  have big : Big (0, 0) (60, 0) := .inl (by decide)
  refine ⟨_, rfl, _, rfl, szl 2, fun H1 t1 S1 n1 h1 => ⟨szl 2, fun H2 t2 S2 n2 h2 => ?_⟩⟩
  refine ⟨b, t1, t2, age, ws, st, (0, 0), (60, 0), rfl, hB.keep (.of (S1.trans S2)), g, h4, S2 _ _ h1, h2, lim 0 (by decide) (by decide), lim 60 (by decide) (by decide), fun _ => ?_, fun nb => absurd big nb⟩
  exact fun H3 d S3 n3 hd => ⟨true, te, fun _ a ha => ⟨d, rfl, rfl, rfl, hd, q _⟩, fun z => Bool.noConfusion z⟩
end
end SK
namespace SK
open PySem PySem.Spec PyProof.Rows L2 SX
section
variable {P : Program} {w : World} {K : PySem.W.Frag} {mg : Str → Option Value} {base : Heap}
theorem ok_law20 {f CT CS fI : Addr} {fd : FuncData} {k : Nat} (F : Fun K "law" "law" s_law f fd) (G : TmTxt P K mg CT fI ∧ IsTxt K CT ∧ mg "StrokeError" = some (.ref CS) ∧ PySem.W.exmOne K (.ref CT) (.ref CS) = some true ∧ LawG20 P w K mg base CT k) :
    FnOk P w K mg base CX0 (k + 1) f fd ["script"] (spLaw K) := by
  obtain ⟨T, T2, gS, te, G⟩ := G
  exact law20_a F G fun _ _ _ _ _ _ hr => law20_b G hr (law20_c G hr (law20_d G hr (law20_e G hr (law20_f G hr (law20_g G hr (law20_h T T2 gS te G hr))))))
end
end SK
namespace SK
open PySem PySem.Spec PyProof.Rows L2
section
variable {P : Program} {w : World} {K : PySem.W.Frag} {mg : Str → Option Value} {base : Heap}
theorem ok_endof {f : Addr} {fd : FuncData} {k : Nat} {sa : Addr} (F : Fun K "end_of_stroke" "end_of_stroke" s_end_of_stroke f fd) (mS : mg "STEPS" = some (.ref sa)) (hS : StepsAt K sa) :
    FnOk P w K mg base CX0 (k + 1) f fd ["stroke"] (spEndOf K) := by
  refine F.ok sc_end_of_stroke (fun vs H Q E h => ?_) (fun cdv A outer s H vs Q E hr h => ?_)
  · obtain ⟨p, s, rfl, _⟩ := h
    rfl
  · obtain ⟨p, s, rfl, hp, h0, h4, q⟩ := h
    have nd := sc_end_of_stroke.nd
    refine ⟨_, pss_cons (ps_asg (pv 0) (pg_tup (by rfl) (pgs_cons (pg_name (i := 1) nd rfl (.inl rfl)) (pgs_cons (pg_name (i := 2) nd rfl (.inl rfl)) (pgs_cons (pg_name (i := 3) nd rfl (.inl rfl)) (pgs_cons (pg_name (i := 4) nd rfl (.inl rfl)) pgs_nil))))))
      (pss_cons (ps_asg (pixT (pe_glob (v := .ref sa) rfl mS rfl) (pv 3)) (pg_tup (by rfl) (pgs_cons (pg_name (i := 5) nd rfl (.inl rfl)) (pgs_cons (pg_name (i := 6) nd rfl (.inl rfl)) pgs_nil))))
      (pss_one (ps_ret (ptupN (pa_cons (padd (pv 1) (pv 5)) (pa_cons (padd (pv 2) (pv 6)) pa_nil)))))), ?_⟩
    refine ⟨_, rfl, p, _, rfl, hp, rfl, _, _, rfl, _, _, rfl, _, _, rfl, _, _, rfl, rfl, ?_⟩
    obtain ⟨xs, t, m1, m2, m3⟩ := hS.get h0 h4
    refine ⟨_, rfl, sa, _, _, _, rfl, rfl, m1.sq, m2, t, _, rfl, m3.sq, rfl, _, _, rfl, _, _, rfl, rfl, ?_⟩
    exact ⟨_, rfl, _, rfl, _, _, rfl, rfl, _, rfl, _, rfl, _, _, rfl, rfl, szl 2, fun H2 pe S2 n2 h2 => q H2 pe S2 n2 h2⟩
end
end SK
namespace SK
open PySem PySem.Spec PyProof.Rows L2
section
variable {P : Program} {w : World} {K : PySem.W.Frag} {mg : Str → Option Value} {base : Heap}
theorem ok_endsof {f : Addr} {fd : FuncData} {k : Nat} (F : Fun K "ends_of" "ends_of" s_ends_of f fd) (GE : Got P w K mg base "end_of_stroke" k ["stroke"] (spEndOf K)) (mi : mg "min" = none) (mx : mg "max" = none) :
    FnOk P w K mg base CX0 (k + 1) f fd ["stroke"] spEndsOf := by
  refine F.ok sc_ends_of (fun vs H Q E h => ?_) (fun cdv A outer s H vs Q E hr h => ?_)
  · obtain ⟨p, s, rfl, _⟩ := h
    rfl
  · obtain ⟨p, s, rfl, hp, h0, h4, q⟩ := h
    have nd := sc_ends_of.nd
    refine ⟨_, pss_cons (ps_set (i := 1) nd rfl (.inl rfl) (pe_slice sl_tupN (pv 0) po_none (po_some pe_int)))
      (pss_cons (ps_set (i := 2) nd rfl (.inl rfl) (pcall GE hr (pa_cons (pv 0) pa_nil)))
      (pss_one (ps_ret (ptupN (pa_cons (pe_callB (call_minT rfl hr.units) (by rfl) mi (by decide +kernel) (pa_cons (pv 1) (pa_cons (pv 2) pa_nil)) (by decide) (by decide))
        (pa_cons (pe_callB (call_maxT rfl hr.units) (by rfl) mx (by decide +kernel) (pa_cons (pv 1) (pa_cons (pv 2) pa_nil)) (by decide) (by decide)) pa_nil)))))), ?_⟩
    refine ⟨_, rfl, 2, rfl, p, _, rfl, SqT.of hp, ?_, fun H1 pb S1 n1 h1 => ?_⟩
    · rintro ⟨_, z⟩
      have z : HT.sIx 4 4 (some ((2 : Nat) : Int)) = 4 := z
      rw [HT.sIx_nat] at z
      cases z
    have h1 : H1 pb = some (.tup [.int s.1, .int s.2.1]) := by
      rw [h1, show cutV (stV s) none (some 2) = (stV s).take 2 from cut_to _ 2]
      rfl
    refine ⟨_, rfl, p, s, rfl, SqT.of (S1 _ _ hp), h0, h4, fun H2 pe S2 n2 h2 => ?_⟩
    have h1' := S2 _ _ h1
    refine ⟨_, rfl, _, rfl, pb, pe, (s.1, s.2.1), (s.1 + (dir s.2.2.1).1, s.2.1 + (dir s.2.2.1).2), rfl, SqT.of h1', SqT.of h2, ?_⟩
    refine ⟨_, rfl, _, rfl, pb, pe, (s.1, s.2.1), (s.1 + (dir s.2.2.1).1, s.2.1 + (dir s.2.2.1).2), rfl, SqT.of h1', SqT.of h2, szl 2, fun H3 r S3 n3 h3 => ?_⟩
    refine q H3 r ((S1.trans S2).trans S3) ((S1.trans S2).free n3) ?_
    have ee := ltZ_other (step_ne s)
    unfold edge
    by_cases z : ltZ (s.1 + (dir s.2.2.1).1, s.2.1 + (dir s.2.2.1).2) (s.1, s.2.1) = true
    · rw [z] at ee
      have e2 : ¬ ltZ (s.1, s.2.1) (s.1 + (dir s.2.2.1).1, s.2.1 + (dir s.2.2.1).2) = true := by
        intro y; rw [y] at ee; cases ee
      rw [if_pos z, if_neg e2] at h3
      rw [if_pos z]
      exact ⟨pe, pb, h3, S3 _ _ h2, S3 _ _ h1'⟩
    · have e2 : ltZ (s.1, s.2.1) (s.1 + (dir s.2.2.1).1, s.2.1 + (dir s.2.2.1).2) = true := by
        cases y : ltZ (s.1, s.2.1) (s.1 + (dir s.2.2.1).1, s.2.1 + (dir s.2.2.1).2) with
        | true => rfl
        | false => rw [y] at ee; exact absurd ee z
      rw [if_neg z, if_pos e2] at h3
      rw [if_neg z]
      exact ⟨pb, pe, h3, S3 _ _ h1', S3 _ _ h2⟩
end
end SK
/-! what the ends of the laws say of classes -/
namespace SK
open PySem PySem.Spec PyProof.Rows L2
/-- a method -/
def MethAt (K : PySem.W.Frag) (C : Addr) (m q : Str) (st : Stmt) : Prop := ∃ (f : Addr) (fd : FuncData), Meth K C m f ∧ Fun K m q st f fd
/-- the class's way of making -/
def MakeAt (K : PySem.W.Frag) (C : Addr) (q : Str) (st : Stmt) : Prop := ∃ (f : Addr) (fd : FuncData), Mk K C f ∧ Fun K "__init__" q st f fd
section
variable {P : Program} {w : World} {K : PySem.W.Frag} {mg : Str → Option Value} {base : Heap} {CX : CXT}
theorem gotM {C : Addr} {m q : Str} {st : Stmt} {k : Nat} {ps : List Str} {sp : Sp} (D : MethAt K C m q st) (h : ∀ (f : Addr) (fd : FuncData), Fun K m q st f fd → FnOk P w K mg base CX k f fd ps sp)
    (b : ∀ (kV doc pm : Value) (an : Option Addr) (cdv ct : Value) (us : List Value), us.length = ps.length → bindArgs (PySem.W.fnOf m q (defArgs st) (defBody st) (defScope st) .none kV doc pm an cdv ct) ⟨us, []⟩ = pure (ps.zip us)) : GotM P w K mg base CX C m k ps sp := by
  obtain ⟨f, fd, M, F⟩ := D
  exact ⟨f, fd, h f fd F, M, F.binds b⟩
theorem gotC {x : Str} {C : Addr} {q : Str} {st : Stmt} {k : Nat} {ps : List Str} {sp : Sp} (g : mg x = some (.ref C)) (D : MakeAt K C q st) (h : ∀ (f : Addr) (fd : FuncData), Fun K "__init__" q st f fd → FnOk P w K mg base CX0 k f fd ps sp)
    (b : ∀ (kV doc pm : Value) (an : Option Addr) (cdv ct : Value) (us : List Value), us.length = ps.length → bindArgs (PySem.W.fnOf "__init__" q (defArgs st) (defBody st) (defScope st) .none kV doc pm an cdv ct) ⟨us, []⟩ = pure (ps.zip us)) : GotC P w K mg base x C k ps sp := by
  obtain ⟨f, fd, M, F⟩ := D
  exact ⟨g, f, fd, M, h f fd F, F.binds b⟩
end
end SK
namespace SK
open PySem PySem.Spec PyProof.Rows L2
/-- a def of the module -/
def DefAt (K : PySem.W.Frag) (mg : Str → Option Value) (x : Str) (st : Stmt) : Prop := ∃ (f : Addr) (fd : FuncData), mg x = some (.ref f) ∧ Fun K x x st f fd
/-- a def of the module with defaults -/
def DefDAt (K : PySem.W.Frag) (mg : Str → Option Value) (x : Str) (st : Stmt) (dvs : List V) : Prop := ∃ (f : Addr) (fd : FuncData), mg x = some (.ref f) ∧ FunD K x x (defArgs st) (defBody st) (defScope st) dvs [] f fd
structure Defs (K : PySem.W.Frag) (mg : Str → Option Value) : Prop where
  taken : DefAt K mg "_law_taken" s_law_taken
  pick : DefAt K mg "_law_pick" s_law_pick
  branched : DefAt K mg "_law_branched" s_law_branched
  word : DefAt K mg "_law_word" s_law_word
  book : DefAt K mg "_law_book" s_law_book
  kit : DefAt K mg "_law_kit" s_law_kit
  even_word : DefAt K mg "_law_even_word" s_law_even_word
  even_book : DefAt K mg "_law_even_book" s_law_even_book
  grown : DefAt K mg "_law_grown" s_law_grown
  unit : DefAt K mg "_law_unit" s_law_unit
  drawn : DefAt K mg "_law_drawn" s_law_drawn
  alike : DefAt K mg "_law_alike" s_law_alike
  age : DefAt K mg "_law_age" s_law_age
  is_integer : DefAt K mg "is_integer" s_is_integer
  is_word : DefAt K mg "is_word" s_is_word
  has_book_form : DefAt K mg "has_book_form" s_has_book_form
  check_book : DefAt K mg "check_book" s_check_book
  check_number : DefAt K mg "check_number" s_check_number
  letters_in : DefAt K mg "letters_in" s_letters_in
  next_letters : DefAt K mg "next_letters" s_next_letters
  rotate : DefAt K mg "rotate" s_rotate
  ages_of_letters : DefAt K mg "ages_of_letters" s_ages_of_letters
  coming_letters : DefAt K mg "coming_letters" s_coming_letters
  strokes_of : DefAt K mg "strokes_of" s_strokes_of
  strokes_by_age : DefAt K mg "strokes_by_age" s_strokes_by_age
  ends_by_age : DefAt K mg "ends_by_age" s_ends_by_age
  stroke : DefAt K mg "stroke" s_stroke
  move_box : DefAt K mg "move_box" s_move_box
  box_of : DefAt K mg "box_of" s_box_of
  boxes_by_age : DefAt K mg "boxes_by_age" s_boxes_by_age
  is_coordinate : DefAt K mg "is_coordinate" s_is_coordinate
  check_place : DefAt K mg "check_place" s_check_place
  check_many : DefAt K mg "check_many" s_check_many
  window : DefAt K mg "window" s_window
  end_of_stroke : DefAt K mg "end_of_stroke" s_end_of_stroke
  ends_of : DefAt K mg "ends_of" s_ends_of
  check_picture : DefAt K mg "check_picture" s_check_picture
  between : DefAt K mg "between" s_between
  line_of_places : DefAt K mg "line_of_places" s_line_of_places
  line_below : DefAt K mg "line_below" s_line_below
  picture : DefAt K mg "picture" s_picture
  touching : DefAt K mg "touching" s_touching
  first_coming : DefAt K mg "first_coming" s_first_coming
structure Blt (mg : Str → Option Value) : Prop where
  isinstance : mg "isinstance" = none
  int : mg "int" = none
  bool : mg "bool" = none
  str : mg "str" = none
  tuple : mg "tuple" = none
  list : mg "list" = none
  len : mg "len" = none
  enumerate : mg "enumerate" = none
  sorted : mg "sorted" = none
  range : mg "range" = none
  zip : mg "zip" = none
  sum : mg "sum" = none
  reversed : mg "reversed" = none
  abs : mg "abs" = none
  min : mg "min" = none
  max : mg "max" = none
section
variable {P : Program} {w : World} {K : PySem.W.Frag} {mg : Str → Option Value} {base : Heap}
theorem got {x : Str} {st : Stmt} {k : Nat} {ps : List Str} {sp : Sp} (D : DefAt K mg x st) (h : ∀ (f : Addr) (fd : FuncData), Fun K x x st f fd → FnOk P w K mg base CX0 k f fd ps sp)
    (b : ∀ (kV doc pm : Value) (an : Option Addr) (cdv ct : Value) (us : List Value), us.length = ps.length → bindArgs (PySem.W.fnOf x x (defArgs st) (defBody st) (defScope st) .none kV doc pm an cdv ct) ⟨us, []⟩ = pure (ps.zip us)) : Got P w K mg base x k ps sp := by
  obtain ⟨f, fd, m, F⟩ := D
  exact ⟨f, fd, h f fd F, m, F.kp, F.binds b⟩
theorem gotX {x : Str} {st : Stmt} {k : Nat} {ps : List Str} {sp : Sp} (D : DefAt K mg x st) (h : ∀ (f : Addr) (fd : FuncData), Fun K x x st f fd → FnOk P w K mg base (L2.CX P w) k f fd ps sp)
    (b : ∀ (kV doc pm : Value) (an : Option Addr) (cdv ct : Value) (us : List Value), us.length = ps.length → bindArgs (PySem.W.fnOf x x (defArgs st) (defBody st) (defScope st) .none kV doc pm an cdv ct) ⟨us, []⟩ = pure (ps.zip us)) : GotX P w K mg base x k ps sp := by
  obtain ⟨f, fd, m, F⟩ := D
  exact ⟨f, fd, h f fd F, m, F.kp, F.binds b⟩
theorem GotD.mono {x : Str} {j k : Nat} {ps : List Str} {dvs : List V} {sp : Sp} (g : GotD P w K mg base x j ps dvs sp) (h : j ≤ k) : GotD P w K mg base x k ps dvs sp := by
  obtain ⟨f, fd, ds, F, a, b, c, d⟩ := g.ex
  exact ⟨f, fd, ds, F.mono h, a, b, c, d⟩
/-- with the default, and without -/
theorem gotD {x : Str} {st : Stmt} {k : Nat} {ps : List Str} {dv : V} {sp : Sp} (D : DefDAt K mg x st [dv]) (h : ∀ (f : Addr) (fd : FuncData), FunD K x x (defArgs st) (defBody st) (defScope st) [dv] [] f fd → FnOk P w K mg base CX0 k f fd ps sp)
    (b : ∀ (f : Addr) (fd : FuncData), FunD K x x (defArgs st) (defBody st) (defScope st) [dv] [] f fd → ∃ ds, Vals [dv] ds ∧ Binds K fd ps ds) : GotD P w K mg base x k ps [dv] sp := by
  obtain ⟨f, fd, m, F⟩ := D
  obtain ⟨ds, v, b⟩ := b f fd F
  exact ⟨f, fd, ds, h f fd F, m, F.kp, b, v⟩
theorem gotF {x : Str} {st : Stmt} {k : Nat} {ps : List Str} {dv : V} {sp : Sp} (D : DefDAt K mg x st [dv]) (h : ∀ (f : Addr) (fd : FuncData), FunD K x x (defArgs st) (defBody st) (defScope st) [dv] [] f fd → FnOk P w K mg base CX0 k f fd ps sp)
    (b : ∀ (f : Addr) (fd : FuncData), FunD K x x (defArgs st) (defBody st) (defScope st) [dv] [] f fd → ∃ ds, Vals [] ds ∧ Binds K fd ps ds) : Got P w K mg base x k ps sp := by
  obtain ⟨f, fd, m, F⟩ := D
  obtain ⟨ds, v, b⟩ := b f fd F
  cases v
  exact ⟨f, fd, h f fd F, m, F.kp, b⟩
theorem bd_ca (f : Addr) (fd : FuncData) (F : FunD K "check_age" "check_age" (defArgs s_check_age) (defBody s_check_age) (defScope s_check_age) [V.int 1000] [] f fd) : ∃ ds, Vals [V.int 1000] ds ∧ Binds K fd ["value", "most"] ds := by
  refine F.binds1 (ps := ["value", "most"]) 1 0 (by simp) rfl (fun T kV doc pm an cdv ct us its h1 h2 => ?_)
  match us, its, h1, h2 with
  | [_], [i], _, _ => exact ⟨_, rfl, rfl⟩
theorem bf_ca (f : Addr) (fd : FuncData) (F : FunD K "check_age" "check_age" (defArgs s_check_age) (defBody s_check_age) (defScope s_check_age) [V.int 1000] [] f fd) : ∃ ds, Vals [] ds ∧ Binds K fd ["value", "most"] ds := by
  refine F.binds1 (ps := ["value", "most"]) 2 1 (by simp) rfl (fun T kV doc pm an cdv ct us its h1 h2 => ?_)
  match us, its, h1, h2 with
  | [_, _], [i], _, _ => exact ⟨_, rfl, rfl⟩
theorem bd_ba (f : Addr) (fd : FuncData) (F : FunD K "check_book_and_age" "check_book_and_age" (defArgs s_check_book_and_age) (defBody s_check_book_and_age) (defScope s_check_book_and_age) [V.int 1000] [] f fd) : ∃ ds, Vals [V.int 1000] ds ∧ Binds K fd ["book", "age", "most"] ds := by
  refine F.binds1 (ps := ["book", "age", "most"]) 2 0 (by simp) rfl (fun T kV doc pm an cdv ct us its h1 h2 => ?_)
  match us, its, h1, h2 with
  | [_, _], [i], _, _ => exact ⟨_, rfl, rfl⟩
theorem bf_ba (f : Addr) (fd : FuncData) (F : FunD K "check_book_and_age" "check_book_and_age" (defArgs s_check_book_and_age) (defBody s_check_book_and_age) (defScope s_check_book_and_age) [V.int 1000] [] f fd) : ∃ ds, Vals [] ds ∧ Binds K fd ["book", "age", "most"] ds := by
  refine F.binds1 (ps := ["book", "age", "most"]) 3 1 (by simp) rfl (fun T kV doc pm an cdv ct us its h1 h2 => ?_)
  match us, its, h1, h2 with
  | [_, _, _], [i], _, _ => exact ⟨_, rfl, rfl⟩
theorem bd_ly {pd : Addr} (f : Addr) (fd : FuncData) (F : FunD K "lay" "lay" (defArgs s_lay) (defBody s_lay) (defScope s_lay) [V.ref pd] [] f fd) : ∃ ds, Vals [V.ref pd] ds ∧ Binds K fd ["word", "ends", "pen"] ds := by
  refine F.binds1 (ps := ["word", "ends", "pen"]) 2 0 (by simp) rfl (fun T kV doc pm an cdv ct us its h1 h2 => ?_)
  match us, its, h1, h2 with
  | [_, _], [i], _, _ => exact ⟨_, rfl, rfl⟩
theorem bf_ly {pd : Addr} (f : Addr) (fd : FuncData) (F : FunD K "lay" "lay" (defArgs s_lay) (defBody s_lay) (defScope s_lay) [V.ref pd] [] f fd) : ∃ ds, Vals [] ds ∧ Binds K fd ["word", "ends", "pen"] ds := by
  refine F.binds1 (ps := ["word", "ends", "pen"]) 3 1 (by simp) rfl (fun T kV doc pm an cdv ct us its h1 h2 => ?_)
  match us, its, h1, h2 with
  | [_, _, _], [i], _, _ => exact ⟨_, rfl, rfl⟩
theorem all_got {pd_ly : Addr} {t_MOST_PARTS : Tok} {t_MOST_LETTERS : Tok} {t_FARTHEST : Tok} {t_MOST_AGE_SEEN : Tok} {t_MOST_LOOKS : Tok} {t_MOST_STROKES : Tok} {t_MOST_PLACES : Tok} {a_STROKE : Addr} {sa : Addr} {CS : Addr} {C fI : Addr} {CK : Addr} (D : Defs K mg) (B : Blt mg) (D_ca : DefDAt K mg "check_age" s_check_age [.int 1000]) (D_ba : DefDAt K mg "check_book_and_age" s_check_book_and_age [.int 1000]) (D_ly : DefDAt K mg "lay" s_lay [.ref pd_ly]) (P_ly : ModT K pd_ly [.int 0, .int 0, .int 0]) (m_MOST_PARTS : mg "MOST_PARTS" = some (.int 40 t_MOST_PARTS)) (m_MOST_LETTERS : mg "MOST_LETTERS" = some (.int 8 t_MOST_LETTERS)) (m_FARTHEST : mg "FARTHEST" = some (.int 10000000000000000000000000000000000000000000000000000000000000000000000000000000000000000000000000000000000000000000000000000000000000000000000000000000000000000000000000000000000000000000000000000000000000000000000000000000000000000000000000000000000000000000000000000000000000000000000000000000000000000000000000000000000000000000000000000000000000000000000000000000000000000000000000000000000000000 t_FARTHEST)) (m_MOST_AGE_SEEN : mg "MOST_AGE_SEEN" = some (.int 400 t_MOST_AGE_SEEN)) (m_MOST_LOOKS : mg "MOST_LOOKS" = some (.int 100000 t_MOST_LOOKS)) (m_MOST_STROKES : mg "MOST_STROKES" = some (.int 2000 t_MOST_STROKES)) (m_MOST_PLACES : mg "MOST_PLACES" = some (.int 60 t_MOST_PLACES)) (m_STROKE : mg "STROKE" = some (.ref a_STROKE)) (h_STROKE : ModT K a_STROKE [.int 1, .int 0, .int 0]) (mS : mg "STEPS" = some (.ref sa)) (hS : StepsAt K sa) (gS : mg "StrokeError" = some (.ref CS)) (T : TmTxt P K mg C fI) (T2 : IsTxt K C) (teC : PySem.W.exmOne K (.ref C) (.ref CS) = some true) (gK : mg "Seeker" = some (.ref CK)) (TK : SkTxt K CK) (DK_init : MakeAt K CK "Seeker.__init__" s_Seeker_init) (DK_parts : MethAt K CK "parts" "Seeker.parts" s_Seeker_parts) (DK_reaches : MethAt K CK "reaches" "Seeker.reaches" s_Seeker_reaches) (DK_seek : MethAt K CK "seek" "Seeker.seek" s_Seeker_seek) : TmTxt P K mg C fI ∧ IsTxt K C ∧ mg "StrokeError" = some (.ref CS) ∧ PySem.W.exmOne K (.ref C) (.ref CS) = some true ∧ LawG20 P w K mg base C 8 := by
  have gTk : Got P w K mg base "_law_taken" 1 ["row", "many"] (spTaken K) := got D.taken (fun f fd F => ok_taken F B.int B.len) fun _ _ _ _ _ _ us hl => match us, hl with | [_, _], _ => rfl
  have gPk : Got P w K mg base "_law_pick" 2 ["row", "things"] (spPick K) := got D.pick (fun f fd F => ok_pick F gTk B.len) fun _ _ _ _ _ _ us hl => match us, hl with | [_, _], _ => rfl
  have gBr : Got P w K mg base "_law_branched" 3 ["row", "word", "letters"] (spBranched K) := got D.branched (fun f fd F => ok_branched F (gTk.mono (by decide)) gPk B.len B.list B.tuple) fun _ _ _ _ _ _ us hl => match us, hl with | [_, _, _], _ => rfl
  have gWd : Got P w K mg base "_law_word" 3 ["row", "letters", "most"] (spWord K) := got D.word (fun f fd F => ok_word F (gTk.mono (by decide)) gPk B.range B.tuple) fun _ _ _ _ _ _ us hl => match us, hl with | [_, _, _], _ => rfl
  have gBk : Got P w K mg base "_law_book" 4 ["row"] (spBook K) := got D.book (fun f fd F => ok_book F (gTk.mono (by decide)) gWd gBr B.range B.tuple) fun _ _ _ _ _ _ us hl => match us, hl with | [_], _ => rfl
  have gKt : Got P w K mg base "_law_kit" 3 ["row"] (spBook K) := got D.kit (fun f fd F => ok_kit F gPk) fun _ _ _ _ _ _ us hl => match us, hl with | [_], _ => rfl
  have gEw : Got P w K mg base "_law_even_word" 3 ["row", "letters", "move"] (spEvenWord K) := got D.even_word (fun f fd F => ok_evenword F (gTk.mono (by decide)) B.abs B.int B.len B.tuple) fun _ _ _ _ _ _ us hl => match us, hl with | [_, _, _], _ => rfl
  have gEb : Got P w K mg base "_law_even_book" 4 ["row"] (spEvenBook K) := got D.even_book (fun f fd F => ok_evenbook F (gTk.mono (by decide)) (gPk.mono (by decide)) gEw gBr B.range B.tuple) fun _ _ _ _ _ _ us hl => match us, hl with | [_], _ => rfl
  have gGr : Got P w K mg base "_law_grown" 1 ["book", "age"] (spGrown K) := got D.grown (fun f fd F => ok_grown F B.range B.list B.isinstance B.str) fun _ _ _ _ _ _ us hl => match us, hl with | [_, _], _ => rfl
  have gAg : Got P w K mg base "_law_age" 2 ["book", "most"] (spAge K) := got D.age (fun f fd F => ok_age F gGr B.len B.isinstance B.str) fun _ _ _ _ _ _ us hl => match us, hl with | [_, _], _ => rfl
  have gUn : Got P w K mg base "_law_unit" 1 ["heading"] spUnit := got D.unit (fun f fd F => ok_unit F B.int) fun _ _ _ _ _ _ us hl => match us, hl with | [_], _ => rfl
  have gDn : Got P w K mg base "_law_drawn" 2 ["word"] (spDrawnL K) := got D.drawn (fun f fd F => ok_drawnL F gUn B.int B.isinstance B.str) fun _ _ _ _ _ _ us hl => match us, hl with | [_], _ => rfl
  have gA : AlkG mg := ⟨B.isinstance, B.tuple, B.list, B.str, B.int, B.bool, B.len, B.range⟩
  have bA : ∀ (kV doc pm : Value) (an : Option Addr) (cdv ct : Value) (us : List Value), us.length = (["found", "due"] : List Str).length → bindArgs (PySem.W.fnOf "_law_alike" "_law_alike" (defArgs s_law_alike) (defBody s_law_alike) (defScope s_law_alike) .none kV doc pm an cdv ct) ⟨us, []⟩ = pure ((["found", "due"] : List Str).zip us) :=
    fun _ _ _ _ _ _ us hl => (match us, hl with | [_, _], _ => rfl)
  have gAl : ∀ n, Got P w K mg base "_law_alike" (n + 1) ["found", "due"] (spAlike n) := fun n => by
    induction n with
    | zero => exact got D.alike (fun f fd F => ok_alike 0 F gA fun m e => absurd e (by omega)) bA
    | succ n ih =>
      refine got D.alike (fun f fd F => ok_alike (n + 1) F gA fun m e => ?_) bA
      have e : n = m := by omega
      subst e
      exact ih
  have gII : Got P w K mg base "is_integer" 1 ["value"] (spIsInt K) := got D.is_integer (fun f fd F => ok_isint F B.isinstance B.int B.bool) fun _ _ _ _ _ _ us hl => match us, hl with | [_], _ => rfl
  have gIW : Got P w K mg base "is_word" 2 ["value", "many"] spIsWord := got D.is_word (fun f fd F => ok_isword F gII B.isinstance B.tuple B.len m_MOST_PARTS) fun _ _ _ _ _ _ us hl => match us, hl with | [_, _], _ => rfl
  have gBF : Got P w K mg base "has_book_form" 2 ["value"] spBookForm := got D.has_book_form (fun f fd F => ok_bookform F B.isinstance B.tuple B.len m_MOST_LETTERS) fun _ _ _ _ _ _ us hl => match us, hl with | [_], _ => rfl
  have gCN : Got P w K mg base "check_number" 2 ["value", "least", "most"] spCheckNum := got D.check_number (fun f fd F => ok_checknum F gII) fun _ _ _ _ _ _ us hl => match us, hl with | [_, _, _], _ => rfl
  have gCB : Got P w K mg base "check_book" 3 ["value"] spCheckBook := got D.check_book (fun f fd F => ok_checkbook F gBF gIW B.len B.enumerate) fun _ _ _ _ _ _ us hl => match us, hl with | [_], _ => rfl
  have gCA : Got P w K mg base "check_age" 3 ["value", "most"] spCheckAge := gotF D_ca (fun f fd F => ok_checkage F gCN) bf_ca
  have gBA : GotD P w K mg base "check_book_and_age" 4 ["book", "age", "most"] [.int 1000] spCheckBA := gotD D_ba (fun f fd F => ok_checkba F gCB (gCA.mono (by decide))) bd_ba
  have gB3 : Got P w K mg base "check_book_and_age" 4 ["book", "age", "most"] spCheckBA := gotF D_ba (fun f fd F => ok_checkba F gCB (gCA.mono (by decide))) bf_ba
  have gLI : Got P w K mg base "letters_in" 1 ["parts"] (spLettersIn K) := got D.letters_in (fun f fd F => ok_lettersin F B.isinstance B.str B.sorted) fun _ _ _ _ _ _ us hl => match us, hl with | [_], _ => rfl
  have gNL : Got P w K mg base "next_letters" 2 ["words", "letters"] spNext := got D.next_letters (fun f fd F => ok_next F gLI) fun _ _ _ _ _ _ us hl => match us, hl with | [_, _], _ => rfl
  have gRt : Got P w K mg base "rotate" 1 ["x", "y", "quarters"] spRotate := got D.rotate (fun f fd F => ok_rotate F) fun _ _ _ _ _ _ us hl => match us, hl with | [_, _, _], _ => rfl
  have gLy : Got P w K mg base "lay" 2 ["word", "ends", "pen"] (spLay K) := gotF D_ly (fun f fd F => ok_lay F gRt) bf_ly
  have gLd : GotD P w K mg base "lay" 2 ["word", "ends", "pen"] [.ref pd_ly] (spLay K) := gotD D_ly (fun f fd F => ok_lay F gRt) bd_ly
  have gAL : Got P w K mg base "ages_of_letters" 3 ["words", "parts"] (spAges K) := got D.ages_of_letters (fun f fd F => ok_ages F (gLI.mono (by decide)) gNL) fun _ _ _ _ _ _ us hl => match us, hl with | [_, _], _ => rfl
  have gCo : Got P w K mg base "coming_letters" 4 ["words", "parts"] (spComing K) := got D.coming_letters (fun f fd F => ok_coming F gAL B.sorted) fun _ _ _ _ _ _ us hl => match us, hl with | [_, _], _ => rfl
  have gSo : Got P w K mg base "strokes_of" 1 ["word", "strokes"] spStrokesOf := got D.strokes_of (fun f fd F => ok_strokesof F B.isinstance B.str B.sum) fun _ _ _ _ _ _ us hl => match us, hl with | [_, _], _ => rfl
  have gSA : Got P w K mg base "strokes_by_age" 2 ["words", "letters", "age"] spSByAge := got D.strokes_by_age (fun f fd F => ok_sbyage F gSo B.range) fun _ _ _ _ _ _ us hl => match us, hl with | [_, _, _], _ => rfl
  have gEA : Got P w K mg base "ends_by_age" 3 ["words", "letters", "age"] (spEByAge K) := got D.ends_by_age (fun f fd F => ok_ebyage F gLd P_ly m_STROKE h_STROKE B.range) fun _ _ _ _ _ _ us hl => match us, hl with | [_, _, _], _ => rfl
  have gSt : Got P w K mg base "stroke" 5 ["book", "age", "number"] spStroke := got D.stroke (fun f fd F => ok_stroke F gBA gCo (gSA.mono (by decide)) (gSo.mono (by decide)) (gCN.mono (by decide)) (gEA.mono (by decide)) (gLy.mono (by decide)) B.range) fun _ _ _ _ _ _ us hl => match us, hl with | [_, _, _], _ => rfl
  have gMv : Got P w K mg base "move_box" 2 ["box", "x", "y", "heading"] (spMove K) := got D.move_box (fun f fd F => ok_move F gRt B.min B.max) fun _ _ _ _ _ _ us hl => match us, hl with | [_, _, _, _], _ => rfl
  have gBo : Got P w K mg base "box_of" 3 ["word", "ends", "boxes"] (spBoxOf K) := got D.box_of (fun f fd F => ok_boxof F gLd P_ly gMv B.min B.max) fun _ _ _ _ _ _ us hl => match us, hl with | [_, _, _], _ => rfl
  have gBB : Got P w K mg base "boxes_by_age" 4 ["words", "letters", "ends"] (spBByAge K) := got D.boxes_by_age (fun f fd F => ok_bbyage F gBo) fun _ _ _ _ _ _ us hl => match us, hl with | [_, _, _], _ => rfl
  have gCo2 : Got P w K mg base "is_coordinate" 2 ["value"] spCoord := got D.is_coordinate (fun f fd F => ok_coord F gII (show mg "FARTHEST" = some (.int far10 t_FARTHEST) from by rw [show far10 = (10000000000000000000000000000000000000000000000000000000000000000000000000000000000000000000000000000000000000000000000000000000000000000000000000000000000000000000000000000000000000000000000000000000000000000000000000000000000000000000000000000000000000000000000000000000000000000000000000000000000000000000000000000000000000000000000000000000000000000000000000000000000000000000000000000000000000000 : Int) by decide +kernel]; exact m_FARTHEST)) fun _ _ _ _ _ _ us hl => match us, hl with | [_], _ => rfl
  have gPl : Got P w K mg base "check_place" 3 ["value"] spPlace := got D.check_place (fun f fd F => ok_place F gCo2 B.isinstance B.tuple B.len) fun _ _ _ _ _ _ us hl => match us, hl with | [_], _ => rfl
  have gMy : GotX P w K mg base "check_many" 1 ["found"] (spManyX K C) := gotX D.check_many (fun f fd F => ok_many T F B.len m_MOST_STROKES) fun _ _ _ _ _ _ us hl => match us, hl with | [_], _ => rfl
  have gKi : GotC P w K mg base "Seeker" CK 5 ["self", "book", "age"] (spSkInit K CK) := gotC gK DK_init (fun f fd F => ok_skinit TK F gCo (gSA.mono (by decide)) (gEA.mono (by decide)) gBB) fun _ _ _ _ _ _ us hl => match us, hl with | [_, _, _], _ => rfl
  have gKp : GotM P w K mg base CX0 CK "parts" 3 ["self", "word", "level", "number", "pen"] (spParts K CK) := gotM DK_parts (fun f fd F => ok_parts TK F gLy) fun _ _ _ _ _ _ us hl => match us, hl with | [_, _, _, _, _], _ => rfl
  have gKr : GotM P w K mg base CX0 CK "reaches" 3 ["self", "level", "path", "corner", "end"] (spReach K CK) := gotM DK_reaches (fun f fd F => ok_reaches TK F gMv) fun _ _ _ _ _ _ us hl => match us, hl with | [_, _, _, _, _], _ => rfl
  have gKs : GotM P w K mg base (L2.CX P w) CK "seek" 4 ["self", "age", "corner", "end"] (spSeekX K CK C) := gotM DK_seek (fun f fd F => ok_seek T TK F gKp gKr m_MOST_LOOKS) fun _ _ _ _ _ _ us hl => match us, hl with | [_, _, _, _], _ => rfl
  have gWi : GotX P w K mg base "window" 7 ["book", "age", "corner", "end"] (spWindowX C) := gotX D.window (fun f fd F => ok_window (j := 5) (k := 6) (by decide) TK F (gB3.mono (by decide)) (gPl.mono (by decide)) gKi (gKs.mono (by decide)) (gMy.mono (by decide)) B.tuple m_MOST_AGE_SEEN) fun _ _ _ _ _ _ us hl => match us, hl with | [_, _, _, _], _ => rfl
  have gEs : Got P w K mg base "end_of_stroke" 1 ["stroke"] (spEndOf K) := got D.end_of_stroke (fun f fd F => ok_endof F mS hS) fun _ _ _ _ _ _ us hl => match us, hl with | [_], _ => rfl
  have gEo : Got P w K mg base "ends_of" 2 ["stroke"] spEndsOf := got D.ends_of (fun f fd F => ok_endsof F gEs B.min B.max) fun _ _ _ _ _ _ us hl => match us, hl with | [_], _ => rfl
  have gCp : GotX P w K mg base "check_picture" 5 ["book", "age", "corner", "end"] (spChkPic C) := gotX D.check_picture (fun f fd F => ok_chkpic T F gB3 (gPl.mono (by decide)) m_MOST_AGE_SEEN m_MOST_PLACES) fun _ _ _ _ _ _ us hl => match us, hl with | [_, _, _, _], _ => rfl
  have gBt : Got P w K mg base "between" 1 ["signs", "gaps"] spBetween := got D.between (fun f fd F => ok_between F B.zip) fun _ _ _ _ _ _ us hl => match us, hl with | [_, _], _ => rfl
  have gLp : Got P w K mg base "line_of_places" 2 ["columns", "y", "places", "sides"] (spLineP P w) := got D.line_of_places (fun f fd F => ok_linep F gBt) fun _ _ _ _ _ _ us hl => match us, hl with | [_, _, _, _], _ => rfl
  have gLb : Got P w K mg base "line_below" 2 ["columns", "y", "sides"] (spLineB P w) := got D.line_below (fun f fd F => ok_lineb F gBt) fun _ _ _ _ _ _ us hl => match us, hl with | [_, _, _], _ => rfl
  have gPi : GotX P w K mg base "picture" 8 ["book", "age", "corner", "end"] (spPicX C) := gotX D.picture (fun f fd F => ok_picture F (gCp.mono (by decide)) gWi (gEo.mono (by decide)) (gLp.mono (by decide)) (gLb.mono (by decide)) B.range B.list) fun _ _ _ _ _ _ us hl => match us, hl with | [_, _, _, _], _ => rfl
  have gTo : GotX P w K mg base "touching" 7 ["book", "age", "number"] spTouch := gotX D.touching (fun f fd F => ok_touching (j := 5) (k := 6) (by decide) TK F (gB3.mono (by decide)) (gSt.mono (by decide)) (gEo.mono (by decide)) gKi (gKs.mono (by decide)) (gMy.mono (by decide)) B.tuple m_MOST_AGE_SEEN) fun _ _ _ _ _ _ us hl => match us, hl with | [_, _, _], _ => rfl
  have gFi : GotX P w K mg base "first_coming" 7 ["book", "place", "most"] spFirstC := gotX D.first_coming (fun f fd F => ok_firstc (j := 5) (k := 6) (by decide) TK F (gCB.mono (by decide)) (gPl.mono (by decide)) (gCN.mono (by decide)) gKi (gKs.mono (by decide)) (gMy.mono (by decide)) B.range m_MOST_AGE_SEEN) fun _ _ _ _ _ _ us hl => match us, hl with | [_, _, _], _ => rfl
  exact ⟨T, T2, gS, teC, ⟨gPk.mono (by decide), gBk.mono (by decide), gKt.mono (by decide), gEb.mono (by decide), gTk.mono (by decide), gAg.mono (by decide), gGr.mono (by decide), gDn.mono (by decide), gUn.mono (by decide), (gAl 4).mono (by decide), gPi, gTo.mono (by decide), gFi.mono (by decide), B.range, B.len, B.tuple, B.isinstance, B.min, B.max⟩⟩
/-- one tuple of the written part -/
theorem modT_of {K : PySem.W.Frag} {a : Addr} {o : Obj} {its : Array Value} {n : Nat} {xs : List V} (h : K.lookup a = some o) (h1 : o.cls = .type "tuple") (h2 : o.data = .seq its n) (h3 : its.size ≤ 16777216) (h4 : Vals xs its.toList) : ModT K a xs :=
  ⟨o, its, n, h, h1, h2, by rw [sizeLine_eq]; exact h3, h4⟩
end
end SK
namespace SK
open PySem PySem.Spec PyProof.Rows L2
theorem def_mk {K : PySem.W.Frag} {h : Heap} {mg : Str → Option Value} {x : Str} {st : Stmt} {f : Addr} {oc kV doc pm cdv ct : Value} {od an : Option Addr} {osl : Array (Option Value)} (X : K.In h) (G : h.Ns mainGlobals mg) (a : PySem.W.nsIn K mainGlobals x = some (some (.ref f)))
    (l : K.lookup f = some ⟨oc, od, .func (PySem.W.fnOf x x (defArgs st) (defBody st) (defScope st) .none kV doc pm an cdv ct), osl⟩) (c : PySem.W.codeIn K cdv x = true) (k : PySem.W.keepIn K (.ref f) = true) : DefAt K mg x st := ⟨f, _, PySem.W.mg_of X G a, fun_mk (st := st) l c k⟩
theorem law_mk {l : PySem.W.OpenLaw} {w : World} {K : PySem.W.Frag} {h : Heap} {mg : Str → Option Value} {fa : Addr} (X : K.In h) (G : h.Ns mainGlobals mg) (hfa : mg "law" = some (.ref fa))
    {f_taken : Addr} {oc_taken kV_taken dc_taken pm_taken cd_taken ct_taken : Value} {od_taken an_taken : Option Addr} {sl_taken : Array (Option Value)}
    {f_pick : Addr} {oc_pick kV_pick dc_pick pm_pick cd_pick ct_pick : Value} {od_pick an_pick : Option Addr} {sl_pick : Array (Option Value)}
    {f_branched : Addr} {oc_branched kV_branched dc_branched pm_branched cd_branched ct_branched : Value} {od_branched an_branched : Option Addr} {sl_branched : Array (Option Value)}
    {f_word : Addr} {oc_word kV_word dc_word pm_word cd_word ct_word : Value} {od_word an_word : Option Addr} {sl_word : Array (Option Value)}
    {f_book : Addr} {oc_book kV_book dc_book pm_book cd_book ct_book : Value} {od_book an_book : Option Addr} {sl_book : Array (Option Value)}
    {f_kit : Addr} {oc_kit kV_kit dc_kit pm_kit cd_kit ct_kit : Value} {od_kit an_kit : Option Addr} {sl_kit : Array (Option Value)}
    {f_even_word : Addr} {oc_even_word kV_even_word dc_even_word pm_even_word cd_even_word ct_even_word : Value} {od_even_word an_even_word : Option Addr} {sl_even_word : Array (Option Value)}
    {f_even_book : Addr} {oc_even_book kV_even_book dc_even_book pm_even_book cd_even_book ct_even_book : Value} {od_even_book an_even_book : Option Addr} {sl_even_book : Array (Option Value)}
    {f_grown : Addr} {oc_grown kV_grown dc_grown pm_grown cd_grown ct_grown : Value} {od_grown an_grown : Option Addr} {sl_grown : Array (Option Value)}
    {f_unit : Addr} {oc_unit kV_unit dc_unit pm_unit cd_unit ct_unit : Value} {od_unit an_unit : Option Addr} {sl_unit : Array (Option Value)}
    {f_drawn : Addr} {oc_drawn kV_drawn dc_drawn pm_drawn cd_drawn ct_drawn : Value} {od_drawn an_drawn : Option Addr} {sl_drawn : Array (Option Value)}
    {f_alike : Addr} {oc_alike kV_alike dc_alike pm_alike cd_alike ct_alike : Value} {od_alike an_alike : Option Addr} {sl_alike : Array (Option Value)}
    {f_age : Addr} {oc_age kV_age dc_age pm_age cd_age ct_age : Value} {od_age an_age : Option Addr} {sl_age : Array (Option Value)}
    {f_is_integer : Addr} {oc_is_integer kV_is_integer dc_is_integer pm_is_integer cd_is_integer ct_is_integer : Value} {od_is_integer an_is_integer : Option Addr} {sl_is_integer : Array (Option Value)}
    {f_is_word : Addr} {oc_is_word kV_is_word dc_is_word pm_is_word cd_is_word ct_is_word : Value} {od_is_word an_is_word : Option Addr} {sl_is_word : Array (Option Value)}
    {f_has_book_form : Addr} {oc_has_book_form kV_has_book_form dc_has_book_form pm_has_book_form cd_has_book_form ct_has_book_form : Value} {od_has_book_form an_has_book_form : Option Addr} {sl_has_book_form : Array (Option Value)}
    {f_check_book : Addr} {oc_check_book kV_check_book dc_check_book pm_check_book cd_check_book ct_check_book : Value} {od_check_book an_check_book : Option Addr} {sl_check_book : Array (Option Value)}
    {f_check_number : Addr} {oc_check_number kV_check_number dc_check_number pm_check_number cd_check_number ct_check_number : Value} {od_check_number an_check_number : Option Addr} {sl_check_number : Array (Option Value)}
    {f_letters_in : Addr} {oc_letters_in kV_letters_in dc_letters_in pm_letters_in cd_letters_in ct_letters_in : Value} {od_letters_in an_letters_in : Option Addr} {sl_letters_in : Array (Option Value)}
    {f_next_letters : Addr} {oc_next_letters kV_next_letters dc_next_letters pm_next_letters cd_next_letters ct_next_letters : Value} {od_next_letters an_next_letters : Option Addr} {sl_next_letters : Array (Option Value)}
    {f_rotate : Addr} {oc_rotate kV_rotate dc_rotate pm_rotate cd_rotate ct_rotate : Value} {od_rotate an_rotate : Option Addr} {sl_rotate : Array (Option Value)}
    {f_ages_of_letters : Addr} {oc_ages_of_letters kV_ages_of_letters dc_ages_of_letters pm_ages_of_letters cd_ages_of_letters ct_ages_of_letters : Value} {od_ages_of_letters an_ages_of_letters : Option Addr} {sl_ages_of_letters : Array (Option Value)}
    {f_coming_letters : Addr} {oc_coming_letters kV_coming_letters dc_coming_letters pm_coming_letters cd_coming_letters ct_coming_letters : Value} {od_coming_letters an_coming_letters : Option Addr} {sl_coming_letters : Array (Option Value)}
    {f_strokes_of : Addr} {oc_strokes_of kV_strokes_of dc_strokes_of pm_strokes_of cd_strokes_of ct_strokes_of : Value} {od_strokes_of an_strokes_of : Option Addr} {sl_strokes_of : Array (Option Value)}
    {f_strokes_by_age : Addr} {oc_strokes_by_age kV_strokes_by_age dc_strokes_by_age pm_strokes_by_age cd_strokes_by_age ct_strokes_by_age : Value} {od_strokes_by_age an_strokes_by_age : Option Addr} {sl_strokes_by_age : Array (Option Value)}
    {f_ends_by_age : Addr} {oc_ends_by_age kV_ends_by_age dc_ends_by_age pm_ends_by_age cd_ends_by_age ct_ends_by_age : Value} {od_ends_by_age an_ends_by_age : Option Addr} {sl_ends_by_age : Array (Option Value)}
    {f_stroke : Addr} {oc_stroke kV_stroke dc_stroke pm_stroke cd_stroke ct_stroke : Value} {od_stroke an_stroke : Option Addr} {sl_stroke : Array (Option Value)}
    {f_move_box : Addr} {oc_move_box kV_move_box dc_move_box pm_move_box cd_move_box ct_move_box : Value} {od_move_box an_move_box : Option Addr} {sl_move_box : Array (Option Value)}
    {f_box_of : Addr} {oc_box_of kV_box_of dc_box_of pm_box_of cd_box_of ct_box_of : Value} {od_box_of an_box_of : Option Addr} {sl_box_of : Array (Option Value)}
    {f_boxes_by_age : Addr} {oc_boxes_by_age kV_boxes_by_age dc_boxes_by_age pm_boxes_by_age cd_boxes_by_age ct_boxes_by_age : Value} {od_boxes_by_age an_boxes_by_age : Option Addr} {sl_boxes_by_age : Array (Option Value)}
    {f_is_coordinate : Addr} {oc_is_coordinate kV_is_coordinate dc_is_coordinate pm_is_coordinate cd_is_coordinate ct_is_coordinate : Value} {od_is_coordinate an_is_coordinate : Option Addr} {sl_is_coordinate : Array (Option Value)}
    {f_check_place : Addr} {oc_check_place kV_check_place dc_check_place pm_check_place cd_check_place ct_check_place : Value} {od_check_place an_check_place : Option Addr} {sl_check_place : Array (Option Value)}
    {f_check_many : Addr} {oc_check_many kV_check_many dc_check_many pm_check_many cd_check_many ct_check_many : Value} {od_check_many an_check_many : Option Addr} {sl_check_many : Array (Option Value)}
    {f_window : Addr} {oc_window kV_window dc_window pm_window cd_window ct_window : Value} {od_window an_window : Option Addr} {sl_window : Array (Option Value)}
    {f_end_of_stroke : Addr} {oc_end_of_stroke kV_end_of_stroke dc_end_of_stroke pm_end_of_stroke cd_end_of_stroke ct_end_of_stroke : Value} {od_end_of_stroke an_end_of_stroke : Option Addr} {sl_end_of_stroke : Array (Option Value)}
    {f_ends_of : Addr} {oc_ends_of kV_ends_of dc_ends_of pm_ends_of cd_ends_of ct_ends_of : Value} {od_ends_of an_ends_of : Option Addr} {sl_ends_of : Array (Option Value)}
    {f_check_picture : Addr} {oc_check_picture kV_check_picture dc_check_picture pm_check_picture cd_check_picture ct_check_picture : Value} {od_check_picture an_check_picture : Option Addr} {sl_check_picture : Array (Option Value)}
    {f_between : Addr} {oc_between kV_between dc_between pm_between cd_between ct_between : Value} {od_between an_between : Option Addr} {sl_between : Array (Option Value)}
    {f_line_of_places : Addr} {oc_line_of_places kV_line_of_places dc_line_of_places pm_line_of_places cd_line_of_places ct_line_of_places : Value} {od_line_of_places an_line_of_places : Option Addr} {sl_line_of_places : Array (Option Value)}
    {f_line_below : Addr} {oc_line_below kV_line_below dc_line_below pm_line_below cd_line_below ct_line_below : Value} {od_line_below an_line_below : Option Addr} {sl_line_below : Array (Option Value)}
    {f_picture : Addr} {oc_picture kV_picture dc_picture pm_picture cd_picture ct_picture : Value} {od_picture an_picture : Option Addr} {sl_picture : Array (Option Value)}
    {f_touching : Addr} {oc_touching kV_touching dc_touching pm_touching cd_touching ct_touching : Value} {od_touching an_touching : Option Addr} {sl_touching : Array (Option Value)}
    {f_first_coming : Addr} {oc_first_coming kV_first_coming dc_first_coming pm_first_coming cd_first_coming ct_first_coming : Value} {od_first_coming an_first_coming : Option Addr} {sl_first_coming : Array (Option Value)}
    {T_ca : Addr} {o_ca : Obj} {n_ca : Nat}
    {f_ca : Addr} {oc_ca kV_ca dc_ca pm_ca cd_ca ct_ca : Value} {od_ca an_ca : Option Addr} {sl_ca : Array (Option Value)}
    {tk_ca : Tok}
    {T_ba : Addr} {o_ba : Obj} {n_ba : Nat}
    {f_ba : Addr} {oc_ba kV_ba dc_ba pm_ba cd_ba ct_ba : Value} {od_ba an_ba : Option Addr} {sl_ba : Array (Option Value)}
    {tk_ba : Tok}
    {T_ly : Addr} {o_ly : Obj} {n_ly : Nat}
    {f_ly : Addr} {oc_ly kV_ly dc_ly pm_ly cd_ly ct_ly : Value} {od_ly an_ly : Option Addr} {sl_ly : Array (Option Value)}
    {p_ly : Addr}
    {u0_ly u1_ly u2_ly : Tok} {ob_ly : Obj} {nn_ly : Nat}
    {t_MOST_PARTS : Tok}
    {t_MOST_LETTERS : Tok}
    {t_FARTHEST : Tok}
    {t_MOST_AGE_SEEN : Tok}
    {t_MOST_LOOKS : Tok}
    {t_MOST_STROKES : Tok}
    {t_MOST_PLACES : Tok}
    {a_STROKE : Addr}
    {u0_STROKE u1_STROKE u2_STROKE : Tok} {ob_STROKE : Obj} {nn_STROKE : Nat}
    {sa a0 a1 a2 a3 : Addr} {os : Obj} {ns : Nat}
    {u0_st0 u1_st0 : Tok} {ob_st0 : Obj} {nn_st0 : Nat}
    {u0_st1 u1_st1 : Tok} {ob_st1 : Obj} {nn_st1 : Nat}
    {u0_st2 u1_st2 : Tok} {ob_st2 : Obj} {nn_st2 : Nat}
    {u0_st3 u1_st3 : Tok} {ob_st3 : Obj} {nn_st3 : Nat}
    {CS : Addr}
    {C fI NC : Addr} {nmC qC : Str} {bsC : List Value} {snC : List Str} {subC : List Value} {abC : Bool} {colC : Option Bool} {ddC : Option Addr} {k0C k1C k2C k3C k5C : Option Value}
    {ocI ctI : Value} {odI anI : Option Addr} {dcI pmI : Value} {cdI ccI : Addr} {slI : Array (Option Value)} {cclI clI : Value} {cddI cldI : Option Addr} {vsI : Array Value} {ccsI cslI : Array (Option Value)} {fileI : Str} {tfI : Tok}
    {CK : Addr}
    {f_Kinit : Addr} {oc_Kinit kV_Kinit dc_Kinit pm_Kinit cd_Kinit ct_Kinit : Value} {od_Kinit an_Kinit : Option Addr} {sl_Kinit : Array (Option Value)}
    {f_Kparts : Addr} {oc_Kparts kV_Kparts dc_Kparts pm_Kparts cd_Kparts ct_Kparts : Value} {od_Kparts an_Kparts : Option Addr} {sl_Kparts : Array (Option Value)}
    {f_Kreaches : Addr} {oc_Kreaches kV_Kreaches dc_Kreaches pm_Kreaches cd_Kreaches ct_Kreaches : Value} {od_Kreaches an_Kreaches : Option Addr} {sl_Kreaches : Array (Option Value)}
    {f_Kseek : Addr} {oc_Kseek kV_Kseek dc_Kseek pm_Kseek cd_Kseek ct_Kseek : Value} {od_Kseek an_Kseek : Option Addr} {sl_Kseek : Array (Option Value)}
    {f_law : Addr} {oc_law kV_law dc_law pm_law cd_law ct_law : Value} {od_law an_law : Option Addr} {sl_law : Array (Option Value)}
    (a_taken : PySem.W.nsIn K mainGlobals "_law_taken" = some (some (.ref f_taken)))
    (l_taken : K.lookup f_taken = some ⟨oc_taken, od_taken, .func (PySem.W.fnOf "_law_taken" "_law_taken" (defArgs s_law_taken) (defBody s_law_taken) (defScope s_law_taken) .none kV_taken dc_taken pm_taken an_taken cd_taken ct_taken), sl_taken⟩)
    (c_taken : PySem.W.codeIn K cd_taken "_law_taken" = true)
    (k_taken : PySem.W.keepIn K (.ref f_taken) = true)
    (a_pick : PySem.W.nsIn K mainGlobals "_law_pick" = some (some (.ref f_pick)))
    (l_pick : K.lookup f_pick = some ⟨oc_pick, od_pick, .func (PySem.W.fnOf "_law_pick" "_law_pick" (defArgs s_law_pick) (defBody s_law_pick) (defScope s_law_pick) .none kV_pick dc_pick pm_pick an_pick cd_pick ct_pick), sl_pick⟩)
    (c_pick : PySem.W.codeIn K cd_pick "_law_pick" = true)
    (k_pick : PySem.W.keepIn K (.ref f_pick) = true)
    (a_branched : PySem.W.nsIn K mainGlobals "_law_branched" = some (some (.ref f_branched)))
    (l_branched : K.lookup f_branched = some ⟨oc_branched, od_branched, .func (PySem.W.fnOf "_law_branched" "_law_branched" (defArgs s_law_branched) (defBody s_law_branched) (defScope s_law_branched) .none kV_branched dc_branched pm_branched an_branched cd_branched ct_branched), sl_branched⟩)
    (c_branched : PySem.W.codeIn K cd_branched "_law_branched" = true)
    (k_branched : PySem.W.keepIn K (.ref f_branched) = true)
    (a_word : PySem.W.nsIn K mainGlobals "_law_word" = some (some (.ref f_word)))
    (l_word : K.lookup f_word = some ⟨oc_word, od_word, .func (PySem.W.fnOf "_law_word" "_law_word" (defArgs s_law_word) (defBody s_law_word) (defScope s_law_word) .none kV_word dc_word pm_word an_word cd_word ct_word), sl_word⟩)
    (c_word : PySem.W.codeIn K cd_word "_law_word" = true)
    (k_word : PySem.W.keepIn K (.ref f_word) = true)
    (a_book : PySem.W.nsIn K mainGlobals "_law_book" = some (some (.ref f_book)))
    (l_book : K.lookup f_book = some ⟨oc_book, od_book, .func (PySem.W.fnOf "_law_book" "_law_book" (defArgs s_law_book) (defBody s_law_book) (defScope s_law_book) .none kV_book dc_book pm_book an_book cd_book ct_book), sl_book⟩)
    (c_book : PySem.W.codeIn K cd_book "_law_book" = true)
    (k_book : PySem.W.keepIn K (.ref f_book) = true)
    (a_kit : PySem.W.nsIn K mainGlobals "_law_kit" = some (some (.ref f_kit)))
    (l_kit : K.lookup f_kit = some ⟨oc_kit, od_kit, .func (PySem.W.fnOf "_law_kit" "_law_kit" (defArgs s_law_kit) (defBody s_law_kit) (defScope s_law_kit) .none kV_kit dc_kit pm_kit an_kit cd_kit ct_kit), sl_kit⟩)
    (c_kit : PySem.W.codeIn K cd_kit "_law_kit" = true)
    (k_kit : PySem.W.keepIn K (.ref f_kit) = true)
    (a_even_word : PySem.W.nsIn K mainGlobals "_law_even_word" = some (some (.ref f_even_word)))
    (l_even_word : K.lookup f_even_word = some ⟨oc_even_word, od_even_word, .func (PySem.W.fnOf "_law_even_word" "_law_even_word" (defArgs s_law_even_word) (defBody s_law_even_word) (defScope s_law_even_word) .none kV_even_word dc_even_word pm_even_word an_even_word cd_even_word ct_even_word), sl_even_word⟩)
    (c_even_word : PySem.W.codeIn K cd_even_word "_law_even_word" = true)
    (k_even_word : PySem.W.keepIn K (.ref f_even_word) = true)
    (a_even_book : PySem.W.nsIn K mainGlobals "_law_even_book" = some (some (.ref f_even_book)))
    (l_even_book : K.lookup f_even_book = some ⟨oc_even_book, od_even_book, .func (PySem.W.fnOf "_law_even_book" "_law_even_book" (defArgs s_law_even_book) (defBody s_law_even_book) (defScope s_law_even_book) .none kV_even_book dc_even_book pm_even_book an_even_book cd_even_book ct_even_book), sl_even_book⟩)
    (c_even_book : PySem.W.codeIn K cd_even_book "_law_even_book" = true)
    (k_even_book : PySem.W.keepIn K (.ref f_even_book) = true)
    (a_grown : PySem.W.nsIn K mainGlobals "_law_grown" = some (some (.ref f_grown)))
    (l_grown : K.lookup f_grown = some ⟨oc_grown, od_grown, .func (PySem.W.fnOf "_law_grown" "_law_grown" (defArgs s_law_grown) (defBody s_law_grown) (defScope s_law_grown) .none kV_grown dc_grown pm_grown an_grown cd_grown ct_grown), sl_grown⟩)
    (c_grown : PySem.W.codeIn K cd_grown "_law_grown" = true)
    (k_grown : PySem.W.keepIn K (.ref f_grown) = true)
    (a_unit : PySem.W.nsIn K mainGlobals "_law_unit" = some (some (.ref f_unit)))
    (l_unit : K.lookup f_unit = some ⟨oc_unit, od_unit, .func (PySem.W.fnOf "_law_unit" "_law_unit" (defArgs s_law_unit) (defBody s_law_unit) (defScope s_law_unit) .none kV_unit dc_unit pm_unit an_unit cd_unit ct_unit), sl_unit⟩)
    (c_unit : PySem.W.codeIn K cd_unit "_law_unit" = true)
    (k_unit : PySem.W.keepIn K (.ref f_unit) = true)
    (a_drawn : PySem.W.nsIn K mainGlobals "_law_drawn" = some (some (.ref f_drawn)))
    (l_drawn : K.lookup f_drawn = some ⟨oc_drawn, od_drawn, .func (PySem.W.fnOf "_law_drawn" "_law_drawn" (defArgs s_law_drawn) (defBody s_law_drawn) (defScope s_law_drawn) .none kV_drawn dc_drawn pm_drawn an_drawn cd_drawn ct_drawn), sl_drawn⟩)
    (c_drawn : PySem.W.codeIn K cd_drawn "_law_drawn" = true)
    (k_drawn : PySem.W.keepIn K (.ref f_drawn) = true)
    (a_alike : PySem.W.nsIn K mainGlobals "_law_alike" = some (some (.ref f_alike)))
    (l_alike : K.lookup f_alike = some ⟨oc_alike, od_alike, .func (PySem.W.fnOf "_law_alike" "_law_alike" (defArgs s_law_alike) (defBody s_law_alike) (defScope s_law_alike) .none kV_alike dc_alike pm_alike an_alike cd_alike ct_alike), sl_alike⟩)
    (c_alike : PySem.W.codeIn K cd_alike "_law_alike" = true)
    (k_alike : PySem.W.keepIn K (.ref f_alike) = true)
    (a_age : PySem.W.nsIn K mainGlobals "_law_age" = some (some (.ref f_age)))
    (l_age : K.lookup f_age = some ⟨oc_age, od_age, .func (PySem.W.fnOf "_law_age" "_law_age" (defArgs s_law_age) (defBody s_law_age) (defScope s_law_age) .none kV_age dc_age pm_age an_age cd_age ct_age), sl_age⟩)
    (c_age : PySem.W.codeIn K cd_age "_law_age" = true)
    (k_age : PySem.W.keepIn K (.ref f_age) = true)
    (a_is_integer : PySem.W.nsIn K mainGlobals "is_integer" = some (some (.ref f_is_integer)))
    (l_is_integer : K.lookup f_is_integer = some ⟨oc_is_integer, od_is_integer, .func (PySem.W.fnOf "is_integer" "is_integer" (defArgs s_is_integer) (defBody s_is_integer) (defScope s_is_integer) .none kV_is_integer dc_is_integer pm_is_integer an_is_integer cd_is_integer ct_is_integer), sl_is_integer⟩)
    (c_is_integer : PySem.W.codeIn K cd_is_integer "is_integer" = true)
    (k_is_integer : PySem.W.keepIn K (.ref f_is_integer) = true)
    (a_is_word : PySem.W.nsIn K mainGlobals "is_word" = some (some (.ref f_is_word)))
    (l_is_word : K.lookup f_is_word = some ⟨oc_is_word, od_is_word, .func (PySem.W.fnOf "is_word" "is_word" (defArgs s_is_word) (defBody s_is_word) (defScope s_is_word) .none kV_is_word dc_is_word pm_is_word an_is_word cd_is_word ct_is_word), sl_is_word⟩)
    (c_is_word : PySem.W.codeIn K cd_is_word "is_word" = true)
    (k_is_word : PySem.W.keepIn K (.ref f_is_word) = true)
    (a_has_book_form : PySem.W.nsIn K mainGlobals "has_book_form" = some (some (.ref f_has_book_form)))
    (l_has_book_form : K.lookup f_has_book_form = some ⟨oc_has_book_form, od_has_book_form, .func (PySem.W.fnOf "has_book_form" "has_book_form" (defArgs s_has_book_form) (defBody s_has_book_form) (defScope s_has_book_form) .none kV_has_book_form dc_has_book_form pm_has_book_form an_has_book_form cd_has_book_form ct_has_book_form), sl_has_book_form⟩)
    (c_has_book_form : PySem.W.codeIn K cd_has_book_form "has_book_form" = true)
    (k_has_book_form : PySem.W.keepIn K (.ref f_has_book_form) = true)
    (a_check_book : PySem.W.nsIn K mainGlobals "check_book" = some (some (.ref f_check_book)))
    (l_check_book : K.lookup f_check_book = some ⟨oc_check_book, od_check_book, .func (PySem.W.fnOf "check_book" "check_book" (defArgs s_check_book) (defBody s_check_book) (defScope s_check_book) .none kV_check_book dc_check_book pm_check_book an_check_book cd_check_book ct_check_book), sl_check_book⟩)
    (c_check_book : PySem.W.codeIn K cd_check_book "check_book" = true)
    (k_check_book : PySem.W.keepIn K (.ref f_check_book) = true)
    (a_check_number : PySem.W.nsIn K mainGlobals "check_number" = some (some (.ref f_check_number)))
    (l_check_number : K.lookup f_check_number = some ⟨oc_check_number, od_check_number, .func (PySem.W.fnOf "check_number" "check_number" (defArgs s_check_number) (defBody s_check_number) (defScope s_check_number) .none kV_check_number dc_check_number pm_check_number an_check_number cd_check_number ct_check_number), sl_check_number⟩)
    (c_check_number : PySem.W.codeIn K cd_check_number "check_number" = true)
    (k_check_number : PySem.W.keepIn K (.ref f_check_number) = true)
    (a_letters_in : PySem.W.nsIn K mainGlobals "letters_in" = some (some (.ref f_letters_in)))
    (l_letters_in : K.lookup f_letters_in = some ⟨oc_letters_in, od_letters_in, .func (PySem.W.fnOf "letters_in" "letters_in" (defArgs s_letters_in) (defBody s_letters_in) (defScope s_letters_in) .none kV_letters_in dc_letters_in pm_letters_in an_letters_in cd_letters_in ct_letters_in), sl_letters_in⟩)
    (c_letters_in : PySem.W.codeIn K cd_letters_in "letters_in" = true)
    (k_letters_in : PySem.W.keepIn K (.ref f_letters_in) = true)
    (a_next_letters : PySem.W.nsIn K mainGlobals "next_letters" = some (some (.ref f_next_letters)))
    (l_next_letters : K.lookup f_next_letters = some ⟨oc_next_letters, od_next_letters, .func (PySem.W.fnOf "next_letters" "next_letters" (defArgs s_next_letters) (defBody s_next_letters) (defScope s_next_letters) .none kV_next_letters dc_next_letters pm_next_letters an_next_letters cd_next_letters ct_next_letters), sl_next_letters⟩)
    (c_next_letters : PySem.W.codeIn K cd_next_letters "next_letters" = true)
    (k_next_letters : PySem.W.keepIn K (.ref f_next_letters) = true)
    (a_rotate : PySem.W.nsIn K mainGlobals "rotate" = some (some (.ref f_rotate)))
    (l_rotate : K.lookup f_rotate = some ⟨oc_rotate, od_rotate, .func (PySem.W.fnOf "rotate" "rotate" (defArgs s_rotate) (defBody s_rotate) (defScope s_rotate) .none kV_rotate dc_rotate pm_rotate an_rotate cd_rotate ct_rotate), sl_rotate⟩)
    (c_rotate : PySem.W.codeIn K cd_rotate "rotate" = true)
    (k_rotate : PySem.W.keepIn K (.ref f_rotate) = true)
    (a_ages_of_letters : PySem.W.nsIn K mainGlobals "ages_of_letters" = some (some (.ref f_ages_of_letters)))
    (l_ages_of_letters : K.lookup f_ages_of_letters = some ⟨oc_ages_of_letters, od_ages_of_letters, .func (PySem.W.fnOf "ages_of_letters" "ages_of_letters" (defArgs s_ages_of_letters) (defBody s_ages_of_letters) (defScope s_ages_of_letters) .none kV_ages_of_letters dc_ages_of_letters pm_ages_of_letters an_ages_of_letters cd_ages_of_letters ct_ages_of_letters), sl_ages_of_letters⟩)
    (c_ages_of_letters : PySem.W.codeIn K cd_ages_of_letters "ages_of_letters" = true)
    (k_ages_of_letters : PySem.W.keepIn K (.ref f_ages_of_letters) = true)
    (a_coming_letters : PySem.W.nsIn K mainGlobals "coming_letters" = some (some (.ref f_coming_letters)))
    (l_coming_letters : K.lookup f_coming_letters = some ⟨oc_coming_letters, od_coming_letters, .func (PySem.W.fnOf "coming_letters" "coming_letters" (defArgs s_coming_letters) (defBody s_coming_letters) (defScope s_coming_letters) .none kV_coming_letters dc_coming_letters pm_coming_letters an_coming_letters cd_coming_letters ct_coming_letters), sl_coming_letters⟩)
    (c_coming_letters : PySem.W.codeIn K cd_coming_letters "coming_letters" = true)
    (k_coming_letters : PySem.W.keepIn K (.ref f_coming_letters) = true)
    (a_strokes_of : PySem.W.nsIn K mainGlobals "strokes_of" = some (some (.ref f_strokes_of)))
    (l_strokes_of : K.lookup f_strokes_of = some ⟨oc_strokes_of, od_strokes_of, .func (PySem.W.fnOf "strokes_of" "strokes_of" (defArgs s_strokes_of) (defBody s_strokes_of) (defScope s_strokes_of) .none kV_strokes_of dc_strokes_of pm_strokes_of an_strokes_of cd_strokes_of ct_strokes_of), sl_strokes_of⟩)
    (c_strokes_of : PySem.W.codeIn K cd_strokes_of "strokes_of" = true)
    (k_strokes_of : PySem.W.keepIn K (.ref f_strokes_of) = true)
    (a_strokes_by_age : PySem.W.nsIn K mainGlobals "strokes_by_age" = some (some (.ref f_strokes_by_age)))
    (l_strokes_by_age : K.lookup f_strokes_by_age = some ⟨oc_strokes_by_age, od_strokes_by_age, .func (PySem.W.fnOf "strokes_by_age" "strokes_by_age" (defArgs s_strokes_by_age) (defBody s_strokes_by_age) (defScope s_strokes_by_age) .none kV_strokes_by_age dc_strokes_by_age pm_strokes_by_age an_strokes_by_age cd_strokes_by_age ct_strokes_by_age), sl_strokes_by_age⟩)
    (c_strokes_by_age : PySem.W.codeIn K cd_strokes_by_age "strokes_by_age" = true)
    (k_strokes_by_age : PySem.W.keepIn K (.ref f_strokes_by_age) = true)
    (a_ends_by_age : PySem.W.nsIn K mainGlobals "ends_by_age" = some (some (.ref f_ends_by_age)))
    (l_ends_by_age : K.lookup f_ends_by_age = some ⟨oc_ends_by_age, od_ends_by_age, .func (PySem.W.fnOf "ends_by_age" "ends_by_age" (defArgs s_ends_by_age) (defBody s_ends_by_age) (defScope s_ends_by_age) .none kV_ends_by_age dc_ends_by_age pm_ends_by_age an_ends_by_age cd_ends_by_age ct_ends_by_age), sl_ends_by_age⟩)
    (c_ends_by_age : PySem.W.codeIn K cd_ends_by_age "ends_by_age" = true)
    (k_ends_by_age : PySem.W.keepIn K (.ref f_ends_by_age) = true)
    (a_stroke : PySem.W.nsIn K mainGlobals "stroke" = some (some (.ref f_stroke)))
    (l_stroke : K.lookup f_stroke = some ⟨oc_stroke, od_stroke, .func (PySem.W.fnOf "stroke" "stroke" (defArgs s_stroke) (defBody s_stroke) (defScope s_stroke) .none kV_stroke dc_stroke pm_stroke an_stroke cd_stroke ct_stroke), sl_stroke⟩)
    (c_stroke : PySem.W.codeIn K cd_stroke "stroke" = true)
    (k_stroke : PySem.W.keepIn K (.ref f_stroke) = true)
    (a_move_box : PySem.W.nsIn K mainGlobals "move_box" = some (some (.ref f_move_box)))
    (l_move_box : K.lookup f_move_box = some ⟨oc_move_box, od_move_box, .func (PySem.W.fnOf "move_box" "move_box" (defArgs s_move_box) (defBody s_move_box) (defScope s_move_box) .none kV_move_box dc_move_box pm_move_box an_move_box cd_move_box ct_move_box), sl_move_box⟩)
    (c_move_box : PySem.W.codeIn K cd_move_box "move_box" = true)
    (k_move_box : PySem.W.keepIn K (.ref f_move_box) = true)
    (a_box_of : PySem.W.nsIn K mainGlobals "box_of" = some (some (.ref f_box_of)))
    (l_box_of : K.lookup f_box_of = some ⟨oc_box_of, od_box_of, .func (PySem.W.fnOf "box_of" "box_of" (defArgs s_box_of) (defBody s_box_of) (defScope s_box_of) .none kV_box_of dc_box_of pm_box_of an_box_of cd_box_of ct_box_of), sl_box_of⟩)
    (c_box_of : PySem.W.codeIn K cd_box_of "box_of" = true)
    (k_box_of : PySem.W.keepIn K (.ref f_box_of) = true)
    (a_boxes_by_age : PySem.W.nsIn K mainGlobals "boxes_by_age" = some (some (.ref f_boxes_by_age)))
    (l_boxes_by_age : K.lookup f_boxes_by_age = some ⟨oc_boxes_by_age, od_boxes_by_age, .func (PySem.W.fnOf "boxes_by_age" "boxes_by_age" (defArgs s_boxes_by_age) (defBody s_boxes_by_age) (defScope s_boxes_by_age) .none kV_boxes_by_age dc_boxes_by_age pm_boxes_by_age an_boxes_by_age cd_boxes_by_age ct_boxes_by_age), sl_boxes_by_age⟩)
    (c_boxes_by_age : PySem.W.codeIn K cd_boxes_by_age "boxes_by_age" = true)
    (k_boxes_by_age : PySem.W.keepIn K (.ref f_boxes_by_age) = true)
    (a_is_coordinate : PySem.W.nsIn K mainGlobals "is_coordinate" = some (some (.ref f_is_coordinate)))
    (l_is_coordinate : K.lookup f_is_coordinate = some ⟨oc_is_coordinate, od_is_coordinate, .func (PySem.W.fnOf "is_coordinate" "is_coordinate" (defArgs s_is_coordinate) (defBody s_is_coordinate) (defScope s_is_coordinate) .none kV_is_coordinate dc_is_coordinate pm_is_coordinate an_is_coordinate cd_is_coordinate ct_is_coordinate), sl_is_coordinate⟩)
    (c_is_coordinate : PySem.W.codeIn K cd_is_coordinate "is_coordinate" = true)
    (k_is_coordinate : PySem.W.keepIn K (.ref f_is_coordinate) = true)
    (a_check_place : PySem.W.nsIn K mainGlobals "check_place" = some (some (.ref f_check_place)))
    (l_check_place : K.lookup f_check_place = some ⟨oc_check_place, od_check_place, .func (PySem.W.fnOf "check_place" "check_place" (defArgs s_check_place) (defBody s_check_place) (defScope s_check_place) .none kV_check_place dc_check_place pm_check_place an_check_place cd_check_place ct_check_place), sl_check_place⟩)
    (c_check_place : PySem.W.codeIn K cd_check_place "check_place" = true)
    (k_check_place : PySem.W.keepIn K (.ref f_check_place) = true)
    (a_check_many : PySem.W.nsIn K mainGlobals "check_many" = some (some (.ref f_check_many)))
    (l_check_many : K.lookup f_check_many = some ⟨oc_check_many, od_check_many, .func (PySem.W.fnOf "check_many" "check_many" (defArgs s_check_many) (defBody s_check_many) (defScope s_check_many) .none kV_check_many dc_check_many pm_check_many an_check_many cd_check_many ct_check_many), sl_check_many⟩)
    (c_check_many : PySem.W.codeIn K cd_check_many "check_many" = true)
    (k_check_many : PySem.W.keepIn K (.ref f_check_many) = true)
    (a_window : PySem.W.nsIn K mainGlobals "window" = some (some (.ref f_window)))
    (l_window : K.lookup f_window = some ⟨oc_window, od_window, .func (PySem.W.fnOf "window" "window" (defArgs s_window) (defBody s_window) (defScope s_window) .none kV_window dc_window pm_window an_window cd_window ct_window), sl_window⟩)
    (c_window : PySem.W.codeIn K cd_window "window" = true)
    (k_window : PySem.W.keepIn K (.ref f_window) = true)
    (a_end_of_stroke : PySem.W.nsIn K mainGlobals "end_of_stroke" = some (some (.ref f_end_of_stroke)))
    (l_end_of_stroke : K.lookup f_end_of_stroke = some ⟨oc_end_of_stroke, od_end_of_stroke, .func (PySem.W.fnOf "end_of_stroke" "end_of_stroke" (defArgs s_end_of_stroke) (defBody s_end_of_stroke) (defScope s_end_of_stroke) .none kV_end_of_stroke dc_end_of_stroke pm_end_of_stroke an_end_of_stroke cd_end_of_stroke ct_end_of_stroke), sl_end_of_stroke⟩)
    (c_end_of_stroke : PySem.W.codeIn K cd_end_of_stroke "end_of_stroke" = true)
    (k_end_of_stroke : PySem.W.keepIn K (.ref f_end_of_stroke) = true)
    (a_ends_of : PySem.W.nsIn K mainGlobals "ends_of" = some (some (.ref f_ends_of)))
    (l_ends_of : K.lookup f_ends_of = some ⟨oc_ends_of, od_ends_of, .func (PySem.W.fnOf "ends_of" "ends_of" (defArgs s_ends_of) (defBody s_ends_of) (defScope s_ends_of) .none kV_ends_of dc_ends_of pm_ends_of an_ends_of cd_ends_of ct_ends_of), sl_ends_of⟩)
    (c_ends_of : PySem.W.codeIn K cd_ends_of "ends_of" = true)
    (k_ends_of : PySem.W.keepIn K (.ref f_ends_of) = true)
    (a_check_picture : PySem.W.nsIn K mainGlobals "check_picture" = some (some (.ref f_check_picture)))
    (l_check_picture : K.lookup f_check_picture = some ⟨oc_check_picture, od_check_picture, .func (PySem.W.fnOf "check_picture" "check_picture" (defArgs s_check_picture) (defBody s_check_picture) (defScope s_check_picture) .none kV_check_picture dc_check_picture pm_check_picture an_check_picture cd_check_picture ct_check_picture), sl_check_picture⟩)
    (c_check_picture : PySem.W.codeIn K cd_check_picture "check_picture" = true)
    (k_check_picture : PySem.W.keepIn K (.ref f_check_picture) = true)
    (a_between : PySem.W.nsIn K mainGlobals "between" = some (some (.ref f_between)))
    (l_between : K.lookup f_between = some ⟨oc_between, od_between, .func (PySem.W.fnOf "between" "between" (defArgs s_between) (defBody s_between) (defScope s_between) .none kV_between dc_between pm_between an_between cd_between ct_between), sl_between⟩)
    (c_between : PySem.W.codeIn K cd_between "between" = true)
    (k_between : PySem.W.keepIn K (.ref f_between) = true)
    (a_line_of_places : PySem.W.nsIn K mainGlobals "line_of_places" = some (some (.ref f_line_of_places)))
    (l_line_of_places : K.lookup f_line_of_places = some ⟨oc_line_of_places, od_line_of_places, .func (PySem.W.fnOf "line_of_places" "line_of_places" (defArgs s_line_of_places) (defBody s_line_of_places) (defScope s_line_of_places) .none kV_line_of_places dc_line_of_places pm_line_of_places an_line_of_places cd_line_of_places ct_line_of_places), sl_line_of_places⟩)
    (c_line_of_places : PySem.W.codeIn K cd_line_of_places "line_of_places" = true)
    (k_line_of_places : PySem.W.keepIn K (.ref f_line_of_places) = true)
    (a_line_below : PySem.W.nsIn K mainGlobals "line_below" = some (some (.ref f_line_below)))
    (l_line_below : K.lookup f_line_below = some ⟨oc_line_below, od_line_below, .func (PySem.W.fnOf "line_below" "line_below" (defArgs s_line_below) (defBody s_line_below) (defScope s_line_below) .none kV_line_below dc_line_below pm_line_below an_line_below cd_line_below ct_line_below), sl_line_below⟩)
    (c_line_below : PySem.W.codeIn K cd_line_below "line_below" = true)
    (k_line_below : PySem.W.keepIn K (.ref f_line_below) = true)
    (a_picture : PySem.W.nsIn K mainGlobals "picture" = some (some (.ref f_picture)))
    (l_picture : K.lookup f_picture = some ⟨oc_picture, od_picture, .func (PySem.W.fnOf "picture" "picture" (defArgs s_picture) (defBody s_picture) (defScope s_picture) .none kV_picture dc_picture pm_picture an_picture cd_picture ct_picture), sl_picture⟩)
    (c_picture : PySem.W.codeIn K cd_picture "picture" = true)
    (k_picture : PySem.W.keepIn K (.ref f_picture) = true)
    (a_touching : PySem.W.nsIn K mainGlobals "touching" = some (some (.ref f_touching)))
    (l_touching : K.lookup f_touching = some ⟨oc_touching, od_touching, .func (PySem.W.fnOf "touching" "touching" (defArgs s_touching) (defBody s_touching) (defScope s_touching) .none kV_touching dc_touching pm_touching an_touching cd_touching ct_touching), sl_touching⟩)
    (c_touching : PySem.W.codeIn K cd_touching "touching" = true)
    (k_touching : PySem.W.keepIn K (.ref f_touching) = true)
    (a_first_coming : PySem.W.nsIn K mainGlobals "first_coming" = some (some (.ref f_first_coming)))
    (l_first_coming : K.lookup f_first_coming = some ⟨oc_first_coming, od_first_coming, .func (PySem.W.fnOf "first_coming" "first_coming" (defArgs s_first_coming) (defBody s_first_coming) (defScope s_first_coming) .none kV_first_coming dc_first_coming pm_first_coming an_first_coming cd_first_coming ct_first_coming), sl_first_coming⟩)
    (c_first_coming : PySem.W.codeIn K cd_first_coming "first_coming" = true)
    (k_first_coming : PySem.W.keepIn K (.ref f_first_coming) = true)
    (z_isinstance : PySem.W.nsIn K mainGlobals "isinstance" = some none)
    (z_int : PySem.W.nsIn K mainGlobals "int" = some none)
    (z_bool : PySem.W.nsIn K mainGlobals "bool" = some none)
    (z_str : PySem.W.nsIn K mainGlobals "str" = some none)
    (z_tuple : PySem.W.nsIn K mainGlobals "tuple" = some none)
    (z_list : PySem.W.nsIn K mainGlobals "list" = some none)
    (z_len : PySem.W.nsIn K mainGlobals "len" = some none)
    (z_enumerate : PySem.W.nsIn K mainGlobals "enumerate" = some none)
    (z_sorted : PySem.W.nsIn K mainGlobals "sorted" = some none)
    (z_range : PySem.W.nsIn K mainGlobals "range" = some none)
    (z_zip : PySem.W.nsIn K mainGlobals "zip" = some none)
    (z_sum : PySem.W.nsIn K mainGlobals "sum" = some none)
    (z_reversed : PySem.W.nsIn K mainGlobals "reversed" = some none)
    (z_abs : PySem.W.nsIn K mainGlobals "abs" = some none)
    (z_min : PySem.W.nsIn K mainGlobals "min" = some none)
    (z_max : PySem.W.nsIn K mainGlobals "max" = some none)
    (a_ca : PySem.W.nsIn K mainGlobals "check_age" = some (some (.ref f_ca)))
    (l_ca : K.lookup f_ca = some ⟨oc_ca, od_ca, .func (PySem.W.fnOf "check_age" "check_age" (defArgs s_check_age) (defBody s_check_age) (defScope s_check_age) (.ref T_ca) kV_ca dc_ca pm_ca an_ca cd_ca ct_ca), sl_ca⟩)
    (c_ca : PySem.W.codeIn K cd_ca "check_age" = true)
    (k_ca : PySem.W.keepIn K (.ref f_ca) = true)
    (tt_ca : K.lookup T_ca = some o_ca)
    (u_ca : o_ca.data = .seq (([.int 1000 tk_ca] : List Value).toArray) n_ca)
    (a_ba : PySem.W.nsIn K mainGlobals "check_book_and_age" = some (some (.ref f_ba)))
    (l_ba : K.lookup f_ba = some ⟨oc_ba, od_ba, .func (PySem.W.fnOf "check_book_and_age" "check_book_and_age" (defArgs s_check_book_and_age) (defBody s_check_book_and_age) (defScope s_check_book_and_age) (.ref T_ba) kV_ba dc_ba pm_ba an_ba cd_ba ct_ba), sl_ba⟩)
    (c_ba : PySem.W.codeIn K cd_ba "check_book_and_age" = true)
    (k_ba : PySem.W.keepIn K (.ref f_ba) = true)
    (tt_ba : K.lookup T_ba = some o_ba)
    (u_ba : o_ba.data = .seq (([.int 1000 tk_ba] : List Value).toArray) n_ba)
    (a_ly : PySem.W.nsIn K mainGlobals "lay" = some (some (.ref f_ly)))
    (l_ly : K.lookup f_ly = some ⟨oc_ly, od_ly, .func (PySem.W.fnOf "lay" "lay" (defArgs s_lay) (defBody s_lay) (defScope s_lay) (.ref T_ly) kV_ly dc_ly pm_ly an_ly cd_ly ct_ly), sl_ly⟩)
    (c_ly : PySem.W.codeIn K cd_ly "lay" = true)
    (k_ly : PySem.W.keepIn K (.ref f_ly) = true)
    (tt_ly : K.lookup T_ly = some o_ly)
    (u_ly : o_ly.data = .seq (([.ref p_ly] : List Value).toArray) n_ly)
    (lp_ly : K.lookup p_ly = some ob_ly)
    (e_ly : ob_ly.cls = .type "tuple" ∧ ob_ly.data = .seq (([.int (0) u0_ly, .int (0) u1_ly, .int (0) u2_ly] : List Value).toArray) nn_ly)
    (m_MOST_PARTS : PySem.W.nsIn K mainGlobals "MOST_PARTS" = some (some (.int 40 t_MOST_PARTS)))
    (m_MOST_LETTERS : PySem.W.nsIn K mainGlobals "MOST_LETTERS" = some (some (.int 8 t_MOST_LETTERS)))
    (m_FARTHEST : PySem.W.nsIn K mainGlobals "FARTHEST" = some (some (.int 10000000000000000000000000000000000000000000000000000000000000000000000000000000000000000000000000000000000000000000000000000000000000000000000000000000000000000000000000000000000000000000000000000000000000000000000000000000000000000000000000000000000000000000000000000000000000000000000000000000000000000000000000000000000000000000000000000000000000000000000000000000000000000000000000000000000000000 t_FARTHEST)))
    (m_MOST_AGE_SEEN : PySem.W.nsIn K mainGlobals "MOST_AGE_SEEN" = some (some (.int 400 t_MOST_AGE_SEEN)))
    (m_MOST_LOOKS : PySem.W.nsIn K mainGlobals "MOST_LOOKS" = some (some (.int 100000 t_MOST_LOOKS)))
    (m_MOST_STROKES : PySem.W.nsIn K mainGlobals "MOST_STROKES" = some (some (.int 2000 t_MOST_STROKES)))
    (m_MOST_PLACES : PySem.W.nsIn K mainGlobals "MOST_PLACES" = some (some (.int 60 t_MOST_PLACES)))
    (m_STROKE : PySem.W.nsIn K mainGlobals "STROKE" = some (some (.ref a_STROKE)))
    (l_STROKE : K.lookup a_STROKE = some ob_STROKE)
    (e_STROKE : ob_STROKE.cls = .type "tuple" ∧ ob_STROKE.data = .seq (([.int (1) u0_STROKE, .int (0) u1_STROKE, .int (0) u2_STROKE] : List Value).toArray) nn_STROKE)
    (mS : PySem.W.nsIn K mainGlobals "STEPS" = some (some (.ref sa)))
    (lS : K.lookup sa = some os)
    (eS : os.cls = .type "tuple" ∧ os.data = .seq (([.ref a0, .ref a1, .ref a2, .ref a3] : List Value).toArray) ns)
    (l_st0 : K.lookup a0 = some ob_st0)
    (e_st0 : ob_st0.cls = .type "tuple" ∧ ob_st0.data = .seq (([.int (1) u0_st0, .int (0) u1_st0] : List Value).toArray) nn_st0)
    (l_st1 : K.lookup a1 = some ob_st1)
    (e_st1 : ob_st1.cls = .type "tuple" ∧ ob_st1.data = .seq (([.int (0) u0_st1, .int (1) u1_st1] : List Value).toArray) nn_st1)
    (l_st2 : K.lookup a2 = some ob_st2)
    (e_st2 : ob_st2.cls = .type "tuple" ∧ ob_st2.data = .seq (([.int (-1) u0_st2, .int (0) u1_st2] : List Value).toArray) nn_st2)
    (l_st3 : K.lookup a3 = some ob_st3)
    (e_st3 : ob_st3.cls = .type "tuple" ∧ ob_st3.data = .seq (([.int (0) u0_st3, .int (-1) u1_st3] : List Value).toArray) nn_st3)
    (aCS : PySem.W.nsIn K mainGlobals "StrokeError" = some (some (.ref CS)))
    (exS : PySem.W.subIn K (.ref CS) (.type "BaseException") = some true)
    (hdS : PySem.W.hasDictIn K CS = true)
    (tyS : PySem.W.typeIn K (.ref CS) = some (.type "type"))
    (hnC : PySem.W.specialIn K (.builtin "object.__class__") "__get__" = some (some (.builtin "getset_descriptor.__get__")))
    (htC : PySem.W.takesIn K (.builtin "object.__class__") = some true)
    (z_super : PySem.W.nsIn K mainGlobals "super" = some none)
    (aC : PySem.W.nsIn K mainGlobals "TooMany" = some (some (.ref C)))
    (xC : K.lookup C = some (excClassObj nmC qC C NC bsC [.ref CS, .type "ValueError", .type "Exception", .type "BaseException", .type "object"] true snC subC abC colC ddC k0C k1C k2C k3C k5C "ValueError.__new__"))
    (gaC : PySem.W.findIn K (.ref C) "__getattribute__" = some (some (.builtin "BaseException.__getattribute__")))
    (ggC : PySem.W.findIn K (.ref C) "__getattr__" = some none)
    (exC : PySem.W.subIn K (.ref C) (.type "BaseException") = some true)
    (hdC : PySem.W.hasDictIn K C = true)
    (tyC : PySem.W.typeIn K (.ref C) = some (.type "type"))
    (kpC : PySem.W.keepIn K (.ref C) = true)
    (haC : PySem.W.findIn K (.ref C) "__class__" = some (some (.builtin "object.__class__")))
    (hmC : PySem.W.mroIn K C (.type "object") = some true)
    (suC : PySem.W.subIn K (.ref C) (.ref CS) = some true)
    (saC : PySem.W.findIn K (.ref C) "__setattr__" = some (some (.builtin "object.__setattr__")))
    (noC : PySem.W.findIn K (.ref C) "most" = some none)
    (iC : PySem.W.findIn K (.ref C) "__init__" = some (some (.ref fI)))
    (tC : PySem.W.typeIn K (.ref fI) = some (.type "function"))
    (veC : PySem.W.subIn K (.ref C) (.type "ValueError") = some true)
    (supC : PySem.W.ks_superIn K C C "__init__" = some (some (.builtin "ValueError.__init__")))
    (ownC : PySem.W.mroIn K C (.ref C) = some true)
    (opq : PySem.W.nsIn K cStatics "thirdparty.any" = some none)
    (lI : K.lookup fI = some ⟨ocI, odI, .func (PySem.W.ksFn "__init__" "TooMany.__init__" (defArgs s_TooMany_init) (defBody s_TooMany_init) (defScope s_TooMany_init) .none .none dcI pmI anI (.ref cdI) ctI ccI), slI⟩)
    (cI : PySem.W.codeIn K (.ref cdI) "TooMany.__init__" = true)
    (lcd : K.lookup cdI = some ⟨cclI, cddI, .fields vsI, ccsI⟩)
    (vI : vsI[2]? = some (.str fileI tfI))
    (fiI : ((l.prog.main.file : Str) == fileI) = true)
    (lcc : K.lookup ccI = some ⟨clI, cldI, .cell (some (.ref C)), cslI⟩)
    (topS : (l.prog.main.scope.names.lookup ("super" : Str)).isSome = false)
    (kitC : PySem.W.kitOne K (.ref C) (.ref C) = some true)
    (aK : PySem.W.nsIn K mainGlobals "Seeker" = some (some (.ref CK)))
    (pgK : PySem.W.plainGet K CK Str.empty = true)
    (hdK : PySem.W.hasDictIn K CK = true)
    (poK : PySem.W.plainOver K CK = true)
    (saK : PySem.W.findIn K (.ref CK) "__setattr__" = some (some (.builtin "object.__setattr__")))
    (mkK : PySem.W.makesIn K CK = true)
    (kcK : PySem.W.keepIn K (.ref CK) = true)
    (nK_words : PySem.W.findIn K (.ref CK) "words" = some none)
    (nK_start : PySem.W.findIn K (.ref CK) "start" = some none)
    (nK_strokes : PySem.W.findIn K (.ref CK) "strokes" = some none)
    (nK_ends : PySem.W.findIn K (.ref CK) "ends" = some none)
    (nK_boxes : PySem.W.findIn K (.ref CK) "boxes" = some none)
    (at_Kinit : PySem.W.findIn K (.ref CK) "__init__" = some (some (.ref f_Kinit)))
    (fn_Kinit : PySem.W.isFn K (.ref f_Kinit) = true)
    (l_Kinit : K.lookup f_Kinit = some ⟨oc_Kinit, od_Kinit, .func (PySem.W.fnOf "__init__" "Seeker.__init__" (defArgs s_Seeker_init) (defBody s_Seeker_init) (defScope s_Seeker_init) .none kV_Kinit dc_Kinit pm_Kinit an_Kinit cd_Kinit ct_Kinit), sl_Kinit⟩)
    (c_Kinit : PySem.W.codeIn K cd_Kinit "Seeker.__init__" = true)
    (k_Kinit : PySem.W.keepIn K (.ref f_Kinit) = true)
    (at_Kparts : PySem.W.findIn K (.ref CK) "parts" = some (some (.ref f_Kparts)))
    (fn_Kparts : PySem.W.isFn K (.ref f_Kparts) = true)
    (l_Kparts : K.lookup f_Kparts = some ⟨oc_Kparts, od_Kparts, .func (PySem.W.fnOf "parts" "Seeker.parts" (defArgs s_Seeker_parts) (defBody s_Seeker_parts) (defScope s_Seeker_parts) .none kV_Kparts dc_Kparts pm_Kparts an_Kparts cd_Kparts ct_Kparts), sl_Kparts⟩)
    (c_Kparts : PySem.W.codeIn K cd_Kparts "Seeker.parts" = true)
    (k_Kparts : PySem.W.keepIn K (.ref f_Kparts) = true)
    (at_Kreaches : PySem.W.findIn K (.ref CK) "reaches" = some (some (.ref f_Kreaches)))
    (fn_Kreaches : PySem.W.isFn K (.ref f_Kreaches) = true)
    (l_Kreaches : K.lookup f_Kreaches = some ⟨oc_Kreaches, od_Kreaches, .func (PySem.W.fnOf "reaches" "Seeker.reaches" (defArgs s_Seeker_reaches) (defBody s_Seeker_reaches) (defScope s_Seeker_reaches) .none kV_Kreaches dc_Kreaches pm_Kreaches an_Kreaches cd_Kreaches ct_Kreaches), sl_Kreaches⟩)
    (c_Kreaches : PySem.W.codeIn K cd_Kreaches "Seeker.reaches" = true)
    (k_Kreaches : PySem.W.keepIn K (.ref f_Kreaches) = true)
    (at_Kseek : PySem.W.findIn K (.ref CK) "seek" = some (some (.ref f_Kseek)))
    (fn_Kseek : PySem.W.isFn K (.ref f_Kseek) = true)
    (l_Kseek : K.lookup f_Kseek = some ⟨oc_Kseek, od_Kseek, .func (PySem.W.fnOf "seek" "Seeker.seek" (defArgs s_Seeker_seek) (defBody s_Seeker_seek) (defScope s_Seeker_seek) .none kV_Kseek dc_Kseek pm_Kseek an_Kseek cd_Kseek ct_Kseek), sl_Kseek⟩)
    (c_Kseek : PySem.W.codeIn K cd_Kseek "Seeker.seek" = true)
    (k_Kseek : PySem.W.keepIn K (.ref f_Kseek) = true)
    (a_law : PySem.W.nsIn K mainGlobals "law" = some (some (.ref f_law)))
    (l_law : K.lookup f_law = some ⟨oc_law, od_law, .func (PySem.W.fnOf "law" "law" (defArgs s_law) (defBody s_law) (defScope s_law) .none kV_law dc_law pm_law an_law cd_law ct_law), sl_law⟩)
    (c_law : PySem.W.codeIn K cd_law "law" = true)
    (k_law : PySem.W.keepIn K (.ref f_law) = true) :
    ∃ fd : FuncData, (∀ (s : Shared) (v : Value), BindsTo s fd ⟨[v], []⟩ [("script", v)]) ∧ ∀ base : Heap, K.In base → base.Ns mainGlobals mg → FnOk l.prog w K mg base CX0 9 fa fd ["script"] (spLaw K) := by
  have e := hfa.symm.trans (PySem.W.mg_of X G a_law)
  cases e
  have m : ∀ {x : Str} {u : Value}, PySem.W.nsIn K mainGlobals x = some (some u) → mg x = some u := fun h => PySem.W.mg_of X G h
  have z : ∀ {x : Str}, PySem.W.nsIn K mainGlobals x = some none → mg x = none := fun h => PySem.W.mg_none_of X G h
  have D : Defs K mg := ⟨def_mk X G a_taken l_taken c_taken k_taken, def_mk X G a_pick l_pick c_pick k_pick, def_mk X G a_branched l_branched c_branched k_branched, def_mk X G a_word l_word c_word k_word, def_mk X G a_book l_book c_book k_book, def_mk X G a_kit l_kit c_kit k_kit, def_mk X G a_even_word l_even_word c_even_word k_even_word, def_mk X G a_even_book l_even_book c_even_book k_even_book, def_mk X G a_grown l_grown c_grown k_grown, def_mk X G a_unit l_unit c_unit k_unit, def_mk X G a_drawn l_drawn c_drawn k_drawn, def_mk X G a_alike l_alike c_alike k_alike, def_mk X G a_age l_age c_age k_age, def_mk X G a_is_integer l_is_integer c_is_integer k_is_integer, def_mk X G a_is_word l_is_word c_is_word k_is_word, def_mk X G a_has_book_form l_has_book_form c_has_book_form k_has_book_form, def_mk X G a_check_book l_check_book c_check_book k_check_book, def_mk X G a_check_number l_check_number c_check_number k_check_number, def_mk X G a_letters_in l_letters_in c_letters_in k_letters_in, def_mk X G a_next_letters l_next_letters c_next_letters k_next_letters, def_mk X G a_rotate l_rotate c_rotate k_rotate, def_mk X G a_ages_of_letters l_ages_of_letters c_ages_of_letters k_ages_of_letters, def_mk X G a_coming_letters l_coming_letters c_coming_letters k_coming_letters, def_mk X G a_strokes_of l_strokes_of c_strokes_of k_strokes_of, def_mk X G a_strokes_by_age l_strokes_by_age c_strokes_by_age k_strokes_by_age, def_mk X G a_ends_by_age l_ends_by_age c_ends_by_age k_ends_by_age, def_mk X G a_stroke l_stroke c_stroke k_stroke, def_mk X G a_move_box l_move_box c_move_box k_move_box, def_mk X G a_box_of l_box_of c_box_of k_box_of, def_mk X G a_boxes_by_age l_boxes_by_age c_boxes_by_age k_boxes_by_age, def_mk X G a_is_coordinate l_is_coordinate c_is_coordinate k_is_coordinate, def_mk X G a_check_place l_check_place c_check_place k_check_place, def_mk X G a_check_many l_check_many c_check_many k_check_many, def_mk X G a_window l_window c_window k_window, def_mk X G a_end_of_stroke l_end_of_stroke c_end_of_stroke k_end_of_stroke, def_mk X G a_ends_of l_ends_of c_ends_of k_ends_of, def_mk X G a_check_picture l_check_picture c_check_picture k_check_picture, def_mk X G a_between l_between c_between k_between, def_mk X G a_line_of_places l_line_of_places c_line_of_places k_line_of_places, def_mk X G a_line_below l_line_below c_line_below k_line_below, def_mk X G a_picture l_picture c_picture k_picture, def_mk X G a_touching l_touching c_touching k_touching, def_mk X G a_first_coming l_first_coming c_first_coming k_first_coming⟩
  have B : Blt mg := ⟨z z_isinstance, z z_int, z z_bool, z z_str, z z_tuple, z z_list, z z_len, z z_enumerate, z z_sorted, z z_range, z z_zip, z z_sum, z z_reversed, z z_abs, z z_min, z z_max⟩
  have D_ca : DefDAt K mg "check_age" s_check_age [.int 1000] := ⟨f_ca, _, m a_ca, ⟨_, _, _, _, _, _, _, _, _, _, rfl, l_ca, c_ca, .inr ⟨by simp, T_ca, o_ca, _, _, rfl, tt_ca, u_ca, .cons ⟨_, rfl⟩ .nil⟩, .inl rfl⟩, k_ca⟩
  have D_ba : DefDAt K mg "check_book_and_age" s_check_book_and_age [.int 1000] := ⟨f_ba, _, m a_ba, ⟨_, _, _, _, _, _, _, _, _, _, rfl, l_ba, c_ba, .inr ⟨by simp, T_ba, o_ba, _, _, rfl, tt_ba, u_ba, .cons ⟨_, rfl⟩ .nil⟩, .inl rfl⟩, k_ba⟩
  have P_ly : ModT K p_ly [.int (0), .int (0), .int (0)] := modT_of lp_ly e_ly.1 e_ly.2 (by show 3 ≤ 16777216; decide) (.cons ⟨_, rfl⟩ (.cons ⟨_, rfl⟩ (.cons ⟨_, rfl⟩ (.nil))))
  have D_ly : DefDAt K mg "lay" s_lay [.ref p_ly] := ⟨f_ly, _, m a_ly, ⟨_, _, _, _, _, _, _, _, _, _, rfl, l_ly, c_ly, .inr ⟨by simp, T_ly, o_ly, _, _, rfl, tt_ly, u_ly, .cons rfl .nil⟩, .inl rfl⟩, k_ly⟩
  have h_STROKE : ModT K a_STROKE [.int (1), .int (0), .int (0)] := modT_of l_STROKE e_STROKE.1 e_STROKE.2 (by show 3 ≤ 16777216; decide) (.cons ⟨_, rfl⟩ (.cons ⟨_, rfl⟩ (.cons ⟨_, rfl⟩ (.nil))))
  have hS : StepsAt K sa := ⟨a0, a1, a2, a3, modT_of lS eS.1 eS.2 (by show 4 ≤ 16777216; decide) (.cons rfl (.cons rfl (.cons rfl (.cons rfl .nil)))), modT_of l_st0 e_st0.1 e_st0.2 (by show 2 ≤ 16777216; decide) (.cons ⟨_, rfl⟩ (.cons ⟨_, rfl⟩ (.nil))), modT_of l_st1 e_st1.1 e_st1.2 (by show 2 ≤ 16777216; decide) (.cons ⟨_, rfl⟩ (.cons ⟨_, rfl⟩ (.nil))), modT_of l_st2 e_st2.1 e_st2.2 (by show 2 ≤ 16777216; decide) (.cons ⟨_, rfl⟩ (.cons ⟨_, rfl⟩ (.nil))), modT_of l_st3 e_st3.1 e_st3.2 (by show 2 ≤ 16777216; decide) (.cons ⟨_, rfl⟩ (.cons ⟨_, rfl⟩ (.nil)))⟩
  have T : TmTxt l.prog K mg C fI := ⟨m aC, z z_super, ⟨_, _, _, _, _, _, _, _, _, _, _, _, _, _, _, xC, rfl⟩, saC, gaC, ggC, noC, iC, tC, kpC, exC, veC, tyC, hdC, supC, ownC, opq, topS, ⟨_, _, _, _, _, _, _, _, _, lI, cI, ⟨_, _, _, _, _, _, lcd, vI, fiI⟩, _, _, _, lcc⟩⟩
  have T2 : IsTxt K C := ⟨haC, hnC, htC, hmC, kitC⟩
  have teC : PySem.W.exmOne K (.ref C) (.ref CS) = some true := PySem.W.exm_ref exS hdS tyS suC
  exact ⟨PySem.W.fnOf "law" "law" (defArgs s_law) (defBody s_law) (defScope s_law) .none kV_law dc_law pm_law an_law cd_law ct_law, fun s v => .of_eq (by first | rfl | with_unfolding_all rfl), fun base _ _ =>
    ok_law20 (fun_mk (st := s_law) l_law c_law k_law) (all_got D B D_ca D_ba D_ly P_ly (m m_MOST_PARTS) (m m_MOST_LETTERS) (m m_FARTHEST) (m m_MOST_AGE_SEEN) (m m_MOST_LOOKS) (m m_MOST_STROKES) (m m_MOST_PLACES) (m m_STROKE) h_STROKE (m mS) hS (m aCS) T T2 teC (m aK) ⟨⟨pgK, hdK, poK, saK⟩, nK_words, nK_start, nK_strokes, nK_ends, nK_boxes⟩ ⟨f_Kinit, _, ⟨mkK, at_Kinit, fn_Kinit, kcK⟩, fun_mk (st := s_Seeker_init) l_Kinit c_Kinit k_Kinit⟩ ⟨f_Kparts, _, ⟨at_Kparts, fn_Kparts, k_Kparts⟩, fun_mk (st := s_Seeker_parts) l_Kparts c_Kparts k_Kparts⟩ ⟨f_Kreaches, _, ⟨at_Kreaches, fn_Kreaches, k_Kreaches⟩, fun_mk (st := s_Seeker_reaches) l_Kreaches c_Kreaches k_Kreaches⟩ ⟨f_Kseek, _, ⟨at_Kseek, fn_Kseek, k_Kseek⟩, fun_mk (st := s_Seeker_seek) l_Kseek c_Kseek k_Kseek⟩)⟩
theorem walk_law {l : PySem.W.OpenLaw} {q : Program} {loose : List Str} {XP : (Str → Option Value) → Heap → Prop} {YP : World → Heap → Prop} {d : DefRec} {K : Params → PySem.W.Frag} (hn : l.most = some 63) (hdf : d.params.defaults = [])
    (hY : ∀ (w : World) (h : Heap), YP w h → (K w.params).In h)
    (F : ∀ (w : World) (mg : Str → Option Value) (fa : Addr) (h : Heap), (K w.params).In h → h.Ns mainGlobals mg → mg d.name = some (.ref fa) →
      ∃ fd : FuncData, (∀ (s : Shared) (u : Value), BindsTo s fd ⟨[u], []⟩ [("script", u)]) ∧ ∀ base : Heap, (K w.params).In base → base.Ns mainGlobals mg → FnOk l.prog w (K w.params) mg base CX0 9 fa fd ["script"] (spLaw (K w.params))) :
    PySem.W.WalkO q loose XP YP l.row.toRowW d [] (fun f vs => PySem.call f vs) :=
  L2.walk_of (n := 63) (k := 9) (x := "script") (CX := fun _ => CX0) (sp := fun w => spLaw (K w.params)) hn (by decide) hdf ⟨rfl, by decide, by decide⟩ hY F (fun _ _ a ns hl _ hS => ⟨a, ns, rfl, hS, hl, fun _ => rfl⟩) fun _ _ _ _ _ z => z
end SK
open PySem PySem.W PyProof.Rows in
set_option maxRecDepth 100000 in
set_option maxHeartbeats 0 in
theorem PySem.Challenge.cw_strokeonce_k20_whole_pictures_holds : PySem.Challenge.rw_strokeonce_k20_whole_pictures.Holds := by
  w_on; o_law; k_head; (case hw => w_witness2)
  k_fill
  refine SK.walk_law (l := PySem.Challenge.rw_strokeonce_k20_whole_pictures) rfl rfl (fun w h Y => PySem.W.kIn_of Y) ?F
  case F =>
    intro w mg fa h KX G hmg
    refine' SK.law_mk KX G hmg ?a_taken ?l_taken ?c_taken ?k_taken ?a_pick ?l_pick ?c_pick ?k_pick ?a_branched ?l_branched ?c_branched ?k_branched ?a_word ?l_word ?c_word ?k_word ?a_book ?l_book ?c_book ?k_book ?a_kit ?l_kit ?c_kit ?k_kit ?a_even_word ?l_even_word ?c_even_word ?k_even_word ?a_even_book ?l_even_book ?c_even_book ?k_even_book ?a_grown ?l_grown ?c_grown ?k_grown ?a_unit ?l_unit ?c_unit ?k_unit ?a_drawn ?l_drawn ?c_drawn ?k_drawn ?a_alike ?l_alike ?c_alike ?k_alike ?a_age ?l_age ?c_age ?k_age ?a_is_integer ?l_is_integer ?c_is_integer ?k_is_integer ?a_is_word ?l_is_word ?c_is_word ?k_is_word ?a_has_book_form ?l_has_book_form ?c_has_book_form ?k_has_book_form ?a_check_book ?l_check_book ?c_check_book ?k_check_book ?a_check_number ?l_check_number ?c_check_number ?k_check_number ?a_letters_in ?l_letters_in ?c_letters_in ?k_letters_in ?a_next_letters ?l_next_letters ?c_next_letters ?k_next_letters ?a_rotate ?l_rotate ?c_rotate ?k_rotate ?a_ages_of_letters ?l_ages_of_letters ?c_ages_of_letters ?k_ages_of_letters ?a_coming_letters ?l_coming_letters ?c_coming_letters ?k_coming_letters ?a_strokes_of ?l_strokes_of ?c_strokes_of ?k_strokes_of ?a_strokes_by_age ?l_strokes_by_age ?c_strokes_by_age ?k_strokes_by_age ?a_ends_by_age ?l_ends_by_age ?c_ends_by_age ?k_ends_by_age ?a_stroke ?l_stroke ?c_stroke ?k_stroke ?a_move_box ?l_move_box ?c_move_box ?k_move_box ?a_box_of ?l_box_of ?c_box_of ?k_box_of ?a_boxes_by_age ?l_boxes_by_age ?c_boxes_by_age ?k_boxes_by_age ?a_is_coordinate ?l_is_coordinate ?c_is_coordinate ?k_is_coordinate ?a_check_place ?l_check_place ?c_check_place ?k_check_place ?a_check_many ?l_check_many ?c_check_many ?k_check_many ?a_window ?l_window ?c_window ?k_window ?a_end_of_stroke ?l_end_of_stroke ?c_end_of_stroke ?k_end_of_stroke ?a_ends_of ?l_ends_of ?c_ends_of ?k_ends_of ?a_check_picture ?l_check_picture ?c_check_picture ?k_check_picture ?a_between ?l_between ?c_between ?k_between ?a_line_of_places ?l_line_of_places ?c_line_of_places ?k_line_of_places ?a_line_below ?l_line_below ?c_line_below ?k_line_below ?a_picture ?l_picture ?c_picture ?k_picture ?a_touching ?l_touching ?c_touching ?k_touching ?a_first_coming ?l_first_coming ?c_first_coming ?k_first_coming ?z_isinstance ?z_int ?z_bool ?z_str ?z_tuple ?z_list ?z_len ?z_enumerate ?z_sorted ?z_range ?z_zip ?z_sum ?z_reversed ?z_abs ?z_min ?z_max ?a_ca ?l_ca ?c_ca ?k_ca ?tt_ca ?u_ca ?a_ba ?l_ba ?c_ba ?k_ba ?tt_ba ?u_ba ?a_ly ?l_ly ?c_ly ?k_ly ?tt_ly ?u_ly ?lp_ly ?e_ly ?m_MOST_PARTS ?m_MOST_LETTERS ?m_FARTHEST ?m_MOST_AGE_SEEN ?m_MOST_LOOKS ?m_MOST_STROKES ?m_MOST_PLACES ?m_STROKE ?l_STROKE ?e_STROKE ?mS ?lS ?eS ?l_st0 ?e_st0 ?l_st1 ?e_st1 ?l_st2 ?e_st2 ?l_st3 ?e_st3 ?aCS ?exS ?hdS ?tyS ?hnC ?htC ?z_super ?aC ?xC ?gaC ?ggC ?exC ?hdC ?tyC ?kpC ?haC ?hmC ?suC ?saC ?noC ?iC ?tC ?veC ?supC ?ownC ?opq ?lI ?cI ?lcd ?vI ?fiI ?lcc ?topS ?kitC ?aK ?pgK ?hdK ?poK ?saK ?mkK ?kcK ?nK_words ?nK_start ?nK_strokes ?nK_ends ?nK_boxes ?at_Kinit ?fn_Kinit ?l_Kinit ?c_Kinit ?k_Kinit ?at_Kparts ?fn_Kparts ?l_Kparts ?c_Kparts ?k_Kparts ?at_Kreaches ?fn_Kreaches ?l_Kreaches ?c_Kreaches ?k_Kreaches ?at_Kseek ?fn_Kseek ?l_Kseek ?c_Kseek ?k_Kseek ?a_law ?l_law ?c_law ?k_law
    (case a_taken => k_is)
    (case l_taken => k_is)
    (case c_taken => k_is)
    (case k_taken => k_is)
    (case a_pick => k_is)
    (case l_pick => k_is)
    (case c_pick => k_is)
    (case k_pick => k_is)
    (case a_branched => k_is)
    (case l_branched => k_is)
    (case c_branched => k_is)
    (case k_branched => k_is)
    (case a_word => k_is)
    (case l_word => k_is)
    (case c_word => k_is)
    (case k_word => k_is)
    (case a_book => k_is)
    (case l_book => k_is)
    (case c_book => k_is)
    (case k_book => k_is)
    (case a_kit => k_is)
    (case l_kit => k_is)
    (case c_kit => k_is)
    (case k_kit => k_is)
    (case a_even_word => k_is)
    (case l_even_word => k_is)
    (case c_even_word => k_is)
    (case k_even_word => k_is)
    (case a_even_book => k_is)
    (case l_even_book => k_is)
    (case c_even_book => k_is)
    (case k_even_book => k_is)
    (case a_grown => k_is)
    (case l_grown => k_is)
    (case c_grown => k_is)
    (case k_grown => k_is)
    (case a_unit => k_is)
    (case l_unit => k_is)
    (case c_unit => k_is)
    (case k_unit => k_is)
    (case a_drawn => k_is)
    (case l_drawn => k_is)
    (case c_drawn => k_is)
    (case k_drawn => k_is)
    (case a_alike => k_is)
    (case l_alike => k_is)
    (case c_alike => k_is)
    (case k_alike => k_is)
    (case a_age => k_is)
    (case l_age => k_is)
    (case c_age => k_is)
    (case k_age => k_is)
    (case a_is_integer => k_is)
    (case l_is_integer => k_is)
    (case c_is_integer => k_is)
    (case k_is_integer => k_is)
    (case a_is_word => k_is)
    (case l_is_word => k_is)
    (case c_is_word => k_is)
    (case k_is_word => k_is)
    (case a_has_book_form => k_is)
    (case l_has_book_form => k_is)
    (case c_has_book_form => k_is)
    (case k_has_book_form => k_is)
    (case a_check_book => k_is)
    (case l_check_book => k_is)
    (case c_check_book => k_is)
    (case k_check_book => k_is)
    (case a_check_number => k_is)
    (case l_check_number => k_is)
    (case c_check_number => k_is)
    (case k_check_number => k_is)
    (case a_letters_in => k_is)
    (case l_letters_in => k_is)
    (case c_letters_in => k_is)
    (case k_letters_in => k_is)
    (case a_next_letters => k_is)
    (case l_next_letters => k_is)
    (case c_next_letters => k_is)
    (case k_next_letters => k_is)
    (case a_rotate => k_is)
    (case l_rotate => k_is)
    (case c_rotate => k_is)
    (case k_rotate => k_is)
    (case a_ages_of_letters => k_is)
    (case l_ages_of_letters => k_is)
    (case c_ages_of_letters => k_is)
    (case k_ages_of_letters => k_is)
    (case a_coming_letters => k_is)
    (case l_coming_letters => k_is)
    (case c_coming_letters => k_is)
    (case k_coming_letters => k_is)
    (case a_strokes_of => k_is)
    (case l_strokes_of => k_is)
    (case c_strokes_of => k_is)
    (case k_strokes_of => k_is)
    (case a_strokes_by_age => k_is)
    (case l_strokes_by_age => k_is)
    (case c_strokes_by_age => k_is)
    (case k_strokes_by_age => k_is)
    (case a_ends_by_age => k_is)
    (case l_ends_by_age => k_is)
    (case c_ends_by_age => k_is)
    (case k_ends_by_age => k_is)
    (case a_stroke => k_is)
    (case l_stroke => k_is)
    (case c_stroke => k_is)
    (case k_stroke => k_is)
    (case a_move_box => k_is)
    (case l_move_box => k_is)
    (case c_move_box => k_is)
    (case k_move_box => k_is)
    (case a_box_of => k_is)
    (case l_box_of => k_is)
    (case c_box_of => k_is)
    (case k_box_of => k_is)
    (case a_boxes_by_age => k_is)
    (case l_boxes_by_age => k_is)
    (case c_boxes_by_age => k_is)
    (case k_boxes_by_age => k_is)
    (case a_is_coordinate => k_is)
    (case l_is_coordinate => k_is)
    (case c_is_coordinate => k_is)
    (case k_is_coordinate => k_is)
    (case a_check_place => k_is)
    (case l_check_place => k_is)
    (case c_check_place => k_is)
    (case k_check_place => k_is)
    (case a_check_many => k_is)
    (case l_check_many => k_is)
    (case c_check_many => k_is)
    (case k_check_many => k_is)
    (case a_window => k_is)
    (case l_window => k_is)
    (case c_window => k_is)
    (case k_window => k_is)
    (case a_end_of_stroke => k_is)
    (case l_end_of_stroke => k_is)
    (case c_end_of_stroke => k_is)
    (case k_end_of_stroke => k_is)
    (case a_ends_of => k_is)
    (case l_ends_of => k_is)
    (case c_ends_of => k_is)
    (case k_ends_of => k_is)
    (case a_check_picture => k_is)
    (case l_check_picture => k_is)
    (case c_check_picture => k_is)
    (case k_check_picture => k_is)
    (case a_between => k_is)
    (case l_between => k_is)
    (case c_between => k_is)
    (case k_between => k_is)
    (case a_line_of_places => k_is)
    (case l_line_of_places => k_is)
    (case c_line_of_places => k_is)
    (case k_line_of_places => k_is)
    (case a_line_below => k_is)
    (case l_line_below => k_is)
    (case c_line_below => k_is)
    (case k_line_below => k_is)
    (case a_picture => k_is)
    (case l_picture => k_is)
    (case c_picture => k_is)
    (case k_picture => k_is)
    (case a_touching => k_is)
    (case l_touching => k_is)
    (case c_touching => k_is)
    (case k_touching => k_is)
    (case a_first_coming => k_is)
    (case l_first_coming => k_is)
    (case c_first_coming => k_is)
    (case k_first_coming => k_is)
    (case z_isinstance => k_is)
    (case z_int => k_is)
    (case z_bool => k_is)
    (case z_str => k_is)
    (case z_tuple => k_is)
    (case z_list => k_is)
    (case z_len => k_is)
    (case z_enumerate => k_is)
    (case z_sorted => k_is)
    (case z_range => k_is)
    (case z_zip => k_is)
    (case z_sum => k_is)
    (case z_reversed => k_is)
    (case z_abs => k_is)
    (case z_min => k_is)
    (case z_max => k_is)
    (case a_ca => k_is)
    (case l_ca => k_is)
    (case c_ca => k_is)
    (case k_ca => k_is)
    (case tt_ca => k_is)
    (case u_ca => exact rfl)
    (case a_ba => k_is)
    (case l_ba => k_is)
    (case c_ba => k_is)
    (case k_ba => k_is)
    (case tt_ba => k_is)
    (case u_ba => exact rfl)
    (case a_ly => k_is)
    (case l_ly => k_is)
    (case c_ly => k_is)
    (case k_ly => k_is)
    (case tt_ly => k_is)
    (case u_ly => exact rfl)
    (case lp_ly => k_is)
    (case e_ly => exact ⟨rfl, rfl⟩)
    (case m_MOST_PARTS => k_is)
    (case m_MOST_LETTERS => k_is)
    (case m_FARTHEST => k_is)
    (case m_MOST_AGE_SEEN => k_is)
    (case m_MOST_LOOKS => k_is)
    (case m_MOST_STROKES => k_is)
    (case m_MOST_PLACES => k_is)
    (case m_STROKE => k_is)
    (case l_STROKE => k_is)
    (case e_STROKE => exact ⟨rfl, rfl⟩)
    (case mS => k_is)
    (case lS => k_is)
    (case eS => exact ⟨rfl, rfl⟩)
    (case l_st0 => k_is)
    (case e_st0 => exact ⟨rfl, rfl⟩)
    (case l_st1 => k_is)
    (case e_st1 => exact ⟨rfl, rfl⟩)
    (case l_st2 => k_is)
    (case e_st2 => exact ⟨rfl, rfl⟩)
    (case l_st3 => k_is)
    (case e_st3 => exact ⟨rfl, rfl⟩)
    (case aCS => k_is)
    (case exS => k_is)
    (case hdS => k_is)
    (case tyS => k_is)
    (case hnC => k_is)
    (case htC => k_is)
    (case z_super => k_is)
    (case aC => k_is)
    (case xC => k_is)
    (case gaC => k_is)
    (case ggC => k_is)
    (case exC => k_is)
    (case hdC => k_is)
    (case tyC => k_is)
    (case kpC => k_is)
    (case haC => k_is)
    (case hmC => k_is)
    (case suC => k_is)
    (case saC => k_is)
    (case noC => k_is)
    (case iC => k_is)
    (case tC => k_is)
    (case veC => k_is)
    (case supC => first | ks_is | kernel_rfl)
    (case ownC => k_is)
    (case opq => k_is)
    (case lI => k_is)
    (case cI => k_is)
    (case lcd => k_is)
    (case vI => exact rfl)
    (case fiI => decide +kernel)
    (case lcc => k_is)
    (case topS => decide +kernel)
    (case kitC => first | kernel_rfl | decide +kernel)
    (case aK => k_is)
    (case pgK => k_is)
    (case hdK => k_is)
    (case poK => k_is)
    (case saK => k_is)
    (case mkK => k_is)
    (case kcK => k_is)
    (case nK_words => k_is)
    (case nK_start => k_is)
    (case nK_strokes => k_is)
    (case nK_ends => k_is)
    (case nK_boxes => k_is)
    (case at_Kinit => k_is)
    (case fn_Kinit => k_is)
    (case l_Kinit => k_is)
    (case c_Kinit => k_is)
    (case k_Kinit => k_is)
    (case at_Kparts => k_is)
    (case fn_Kparts => k_is)
    (case l_Kparts => k_is)
    (case c_Kparts => k_is)
    (case k_Kparts => k_is)
    (case at_Kreaches => k_is)
    (case fn_Kreaches => k_is)
    (case l_Kreaches => k_is)
    (case c_Kreaches => k_is)
    (case k_Kreaches => k_is)
    (case at_Kseek => k_is)
    (case fn_Kseek => k_is)
    (case l_Kseek => k_is)
    (case c_Kseek => k_is)
    (case k_Kseek => k_is)
    (case a_law => k_is)
    (case l_law => k_is)
    (case c_law => k_is)
    (case k_law => k_is)
#print axioms PySem.Challenge.cw_strokeonce_k20_whole_pictures_holds
