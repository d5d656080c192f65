import PyProof.Rows.All
import Wide.All
import OpenK.AllK
import Wide.FinOn
import HandS.ForMost
import HandS.IsInst
import HandS.Flow
import PySem.Challenge.RW_strokeonce_k12_whole_sums_modulo
import HandS.Wide
import KE.GoesEnum
import HandS.Iter
import HandS.Defaults
import HandS.SetBool
import HandS.Strs
import HandS.Walk
import KE.DataFind
import HandS.Zip
import KE.GoesMore
import HandS.Star
import KE.KDictZip
import KE.KItemsList
import HandS.DictComp
import HandS.More
import HandS.TupSets
import HandS.SetFor
import HandS.ForExc
import HandS.ExcIs
import KE.DataMinMax
import KE.SortData
import HandS.Deep
import HandS.TupMul
import HandS.Style
import HandS.EndOwn
set_option Elab.async false
set_option linter.all false
set_option maxRecDepth 100000
set_option maxHeartbeats 4000000
/-! common words: heaps, the row of draws, words of signs, books -/
namespace SK
open PySem PySem.Spec PyProof.Rows L2

/-! ### heaps -/
theorem same_upd {H : Hp} {p : Addr} {o : HO} (h : H p = none) : Same H (upd H p o) := fun b x e => by
  rw [upd_ne (ne_of_none e h)]
  exact e
theorem sUpd {H H1 : Hp} {p : Addr} {o : HO} (s : Same H H1) (h : H1 p = none) : Same H (upd H1 p o) := s.trans (same_upd h)
theorem sNone {H H1 : Hp} {p : Addr} (s : Same H H1) (h : H1 p = none) : H p = none := s.free h
/-- a change of a new thing is none of what stood -/
theorem sPut {H H1 : Hp} {p : Addr} {o : HO} (s : Same H H1) (h : H p = none) : Same H (L2.upd H1 p o) := fun b x e => by
  rw [upd_ne (ne_of_none e h)]
  exact s b x e
theorem sTup {K : PySem.W.Frag} {H H' : Hp} {a : Addr} {xs : List V} (e : Same H H') (h : SqT K H a xs) : SqT K H' a xs := by
  rcases h with (h | ⟨o, h⟩) | h
  · exact .inl (.inl (e _ _ h))
  · exact .inl (.inr ⟨o, e _ _ h⟩)
  · exact .inr h
/-- all that was tracked but r is as it was -/
def SameX (r : Addr) (H H' : Hp) : Prop := ∀ b o, b ≠ r → H b = some o → H' b = some o
theorem SameX.refl {r : Addr} {H : Hp} : SameX r H H := fun _ _ _ h => h
theorem SameX.trans {r : Addr} {H H1 H2 : Hp} (a : SameX r H H1) (b : SameX r H1 H2) : SameX r H H2 := fun c o n h => b c o n (a c o n h)
theorem SameX.of {r : Addr} {H H' : Hp} (s : Same H H') : SameX r H H' := fun b o _ h => s b o h
theorem SameX.new {r : Addr} {H H1 : Hp} {p : Addr} {o : HO} (s : SameX r H H1) (h : H1 p = none) : SameX r H (upd H1 p o) := s.trans (.of (same_upd h))
theorem SameX.at {r : Addr} {H H1 : Hp} {o : HO} (s : SameX r H H1) : SameX r H (upd H1 r o) := fun b x n e => by
  rw [upd_ne n]
  exact s b x n e
theorem SameX.put {r : Addr} {H H1 : Hp} {p : Addr} {o : HO} (s : SameX r H H1) (h : H p = none) : SameX r H (upd H1 p o) := fun b x n e => by
  rw [upd_ne (ne_of_none e h)]
  exact s b x n e

/-! ### the row of draws: [script, how many are taken, mixed, the rest] -/
abbrev Scr := Addr × List Int
def RowOk (K : PySem.W.Frag) (S : Scr) (H : Hp) (r : Addr) : Prop := ∃ (i s c : Int),
  H r = some (.lst [.ref S.1, .int i, .int s, .int c]) ∧ SqL K H S.1 (S.2.map V.int) ∧ 0 ≤ i ∧ S.1 ≠ r ∧ S.2.length ≤ 63
theorem sqX {K : PySem.W.Frag} {H H' : Hp} {a r : Addr} {xs : List V} (s : SameX r H H') (n : a ≠ r) (h : SqL K H a xs) : SqL K H' a xs := by
  rcases h with (h | ⟨o, h⟩) | h
  · exact .inl (.inl (s _ _ n h))
  · exact .inl (.inr ⟨o, s _ _ n h⟩)
  · exact .inr h
/-- what was readable ahead of a new thing at p is so behind a change of p -/
theorem sqPut {K : PySem.W.Frag} {H H' : Hp} {a p : Addr} {xs : List V} {o : HO} (h : SqL K H a xs) (n : H p = none) (h' : SqL K H' a xs) : SqL K (upd H' p o) a xs := by
  have go : a ≠ p → SqL K (upd H' p o) a xs := fun ne => by
    rcases h' with (h | ⟨o, h⟩) | h
    · exact .inl (.inl (by rw [upd_ne ne]; exact h))
    · exact .inl (.inr ⟨o, by rw [upd_ne ne]; exact h⟩)
    · exact .inr h
  rcases h with (h | ⟨o, h⟩) | h
  · exact go (ne_of_none h n)
  · exact go (ne_of_none h n)
  · exact .inr h
section
variable {K : PySem.W.Frag} {S : Scr} {H H' H1 H2 : Hp} {r p : Addr} {o : HO}
theorem RowOk.same (h : RowOk K S H r) (s : Same H H') : RowOk K S H' r := by
  obtain ⟨i, st, c, h1, h2, h3, h4, h5⟩ := h
  exact ⟨i, st, c, s _ _ h1, s.seq h2, h3, h4, h5⟩
theorem RowOk.there (h : RowOk K S H r) {p : Addr} (n : H p = none) : p ≠ r := by
  obtain ⟨i, st, c, h1, _⟩ := h
  exact (ne_of_none h1 n).symm
theorem RowOk.put (h : RowOk K S H r) (n : H p = none) (h' : RowOk K S H' r) : RowOk K S (upd H' p o) r := by
  have hp : p ≠ r := h.there n
  obtain ⟨i, st, c, h1, h2, h3, h4, h5⟩ := h'
  obtain ⟨_, _, _, _, g, _⟩ := h
  exact ⟨i, st, c, by rw [upd_ne hp.symm]; exact h1, sqPut g n h2, h3, h4, h5⟩
/-- between: what a step that draws may change -/
structure Drawn (K : PySem.W.Frag) (S : Scr) (r : Addr) (H H' : Hp) : Prop where
  same : SameX r H H'
  row : RowOk K S H' r
theorem Drawn.trans (a : Drawn K S r H H1) (b : Drawn K S r H1 H2) : Drawn K S r H H2 := ⟨a.same.trans b.same, b.row⟩
theorem Drawn.new (a : Drawn K S r H H1) (h : H1 p = none) : Drawn K S r H (upd H1 p o) := ⟨a.same.new h, a.row.same (same_upd h)⟩
theorem Drawn.refl (h : RowOk K S H r) : Drawn K S r H H := ⟨.refl, h⟩
theorem Drawn.then (a : Drawn K S r H H1) (b : Same H1 H2) : Drawn K S r H H2 := ⟨a.same.trans (.of b), a.row.same b⟩
/-- a thing that is new since H is changed -/
theorem Drawn.put (a : Drawn K S r H H1) (h : RowOk K S H r) (n : H p = none) : Drawn K S r H (upd H1 p o) := ⟨a.same.put n, h.put n a.row⟩
/-- what stands and is not the row -/
theorem Drawn.at (a : Drawn K S r H H') {b : Addr} {o : HO} (n : b ≠ r) (h : H b = some o) : H' b = some o := a.same b o n h
theorem RowOk.ne (hr : RowOk K S H r) {b : Addr} {xs : List V} (h : H b = some (.tup xs)) : b ≠ r := by
  obtain ⟨_, _, _, h1, _⟩ := hr
  exact ne_of h h1 (by intro z; cases z)
theorem Drawn.tup (a : Drawn K S r H H') (hr : RowOk K S H r) {b : Addr} {xs : List V} (h : H b = some (.tup xs)) : H' b = some (.tup xs) := a.at (hr.ne h) h
end

/-! ### short words -/
section
variable {X : Cx}
theorem pcat {a b : Expr} {ta tb : TE} {pos : Pos} (ha : PE X a ta) (hb : PE X b tb) : PE X (.BinOp a .Add b pos) (tOp rCat ta tb) := pe_op op_cat ha hb
theorem padd {a b : Expr} {ta tb : TE} {pos : Pos} (ha : PE X a ta) (hb : PE X b tb) : PE X (.BinOp a .Add b pos) (tOp (rI0 fun i j => .int (i + j)) ta tb) := pe_op op_add ha hb
theorem psub {a b : Expr} {ta tb : TE} {pos : Pos} (ha : PE X a ta) (hb : PE X b tb) : PE X (.BinOp a .Sub b pos) (tOp (rI0 fun i j => .int (i - j)) ta tb) := pe_op op_sub ha hb
theorem pmod {a b : Expr} {ta tb : TE} {pos : Pos} (ha : PE X a ta) (hb : PE X b tb) : PE X (.BinOp a .Mod b pos) (tOp (rI (fun _ j => 0 < j) fun i j => .int (i % j)) ta tb) := pe_op op_mod ha hb
def rInt1 : List V → Hp → VK → Prop := fun xs H Q => (∃ i, xs = [.int i] ∧ Q (.int i) H) ∨ ∃ k, xs = [.bl k] ∧ Q (.int (if k then 1 else 0)) H
theorem pint {e : Expr} {te : TE} {p pos : Pos} (m : X.mg "int" = none) (h : PE X e te) (hg : Gl X "int" := by rfl) (hs1 : starEach [e] X.env = (false, eval e X.env) :: starEach [] X.env := by rfl) (hp1 : (backTo pos (starEach [] X.env)).any (·.1) = false := by rfl) : PE X (.Call (.Name "int" p) [e] [] pos) (tCB rInt1 (tCons te tNil)) :=
  pe_callTy call_int1 hg m (by decide +kernel) (pa_cons h pa_nil hs1) (by decide) (by decide) hs1 hp1
theorem pix {a : Expr} {ta : TE} {b : Expr} {tb : TE} {pos : Pos} (ha : PE X a ta) (hb : PE X b tb) (hs : PlainIx b := by exact fun _ _ => rfl) : PE X (.Subscript a b pos) (tOp (rIxL X.K) ta tb) := pe_ix ix_list ha hb hs
theorem pixT {a : Expr} {ta : TE} {b : Expr} {tb : TE} {pos : Pos} (ha : PE X a ta) (hb : PE X b tb) (hs : PlainIx b := by exact fun _ _ => rfl) : PE X (.Subscript a b pos) (tOp (rIxT X.K) ta tb) := pe_ix ix_tup ha hb hs
def rLenS (K : PySem.W.Frag) : List V → Hp → VK → Prop := fun xs H Q => ∃ p ys, xs = [.ref p] ∧ (SqL K H p ys ∨ SqT K H p ys) ∧ Q (.int ys.length) H
theorem plen {e : Expr} {te : TE} {p pos : Pos} (m : X.mg "len" = none) (h : PE X e te) (hg : Gl X "len" := by rfl) (hs1 : starEach [e] X.env = (false, eval e X.env) :: starEach [] X.env := by rfl) (hp1 : (backTo pos (starEach [] X.env)).any (·.1) = false := by rfl) : PE X (.Call (.Name "len" p) [e] [] pos) (tCB (rLenS X.K) (tCons te tNil)) :=
  pe_callB call_len_seq hg m PySem.boot_len (pa_cons h pa_nil hs1) (by decide) (by decide) hs1 hp1
theorem sapp {a e : Expr} {ta te : TE} {p1 p2 p3 : Pos} (ha : PE X a ta) (he : PE X e te) (hb : attributeBase a "append" X.env (eval a X.env) = eval a X.env := by rfl)
    (hf : ((backTo p2 (starEach (e :: []) X.env)).all (fun x => !x.1) && (backToKw p2 (keywordEach [] X.env)).all (fun x => x.1.isSome) && decide ((e :: []).length + ([] : List Keyword).length + (if ([] : List Keyword).isEmpty then 0 else 1) < 30)) = true := by rfl)
    (hl : (p1.endLine == p2.line) = true := by rfl) (hs1 : starEach [e] X.env = (false, eval e X.env) :: starEach [] X.env := by rfl) (hp1 : (backTo p2 (starEach [] X.env)).any (·.1) = false := by rfl) : PS X (.Expr (.Call (.Attribute a "append" p1) [e] [] p2) p3) (tDrop (tBM X.K "list" rAppend ta (tCons te tNil))) :=
  ps_expr (pe_bm PySem.F.plainAttrs_list PySem.F.slot_list_append PySem.F.type_list_append mt_append ha (pa_cons he pa_nil hs1) hb hf hl hs1 hp1)
end
theorem at0 {α : Type} {x : α} {xs : List α} : atI (x :: xs) 0 = some x := atI_nat (j := 0) rfl
theorem at1 {α : Type} {x y : α} {xs : List α} : atI (x :: y :: xs) 1 = some y := atI_nat (j := 1) rfl
theorem at2 {α : Type} {x y z : α} {xs : List α} : atI (x :: y :: z :: xs) 2 = some z := atI_nat (j := 2) rfl
theorem at3 {α : Type} {x y z u : α} {xs : List α} : atI (x :: y :: z :: u :: xs) 3 = some u := atI_nat (j := 3) rfl
theorem szl (n : Nat) (h : n ≤ 16777216 := by first | decide | omega | simp) : n ≤ sizeLine := by rw [sizeLine_eq]; exact h
end SK
/-! the program's text by places -/
namespace SK
open PySem PySem.Spec PyProof.Rows L2
def topS (i : Nat) : Stmt := PySem.Challenge.pw_strokeonce_k12_whole_sums_modulo.main.body.getD i (.Pass ⟨0, 0, 0, 0⟩)
def clsB : Stmt → List Stmt
  | .ClassDef (body := b) .. => b
  | _ => []
abbrev c_StrokeError : Stmt := topS 1
abbrev c_BadBook : Stmt := topS 2
abbrev s_BadBook_init : Stmt := (clsB c_BadBook).getD 0 (.Pass ⟨0, 0, 0, 0⟩)
abbrev n_BadBook_init : List Str := ["self", "letter"]
abbrev jp_BadBook_init : Pos := ⟨7, 25, 7, 54⟩
abbrev c_BadNumber : Stmt := topS 3
abbrev c_NotSteady : Stmt := topS 4
abbrev s_is_integer : Stmt := topS 9
abbrev n_is_integer : List Str := ["value"]
theorem sc_is_integer : FnScope n_is_integer ["value"] (defScope s_is_integer) := ⟨rfl, rfl, rfl, by decide +kernel, rfl, by decide +kernel, by decide +kernel⟩
abbrev s_is_word : Stmt := topS 10
abbrev n_is_word : List Str := ["value", "many", "letters", "depth", "part"]
theorem sc_is_word : FnScope n_is_word ["value", "many"] (defScope s_is_word) := ⟨rfl, rfl, rfl, by decide +kernel, rfl, by decide +kernel, by decide +kernel⟩
abbrev s_has_book_form : Stmt := topS 11
abbrev n_has_book_form : List Str := ["value", "words"]
theorem sc_has_book_form : FnScope n_has_book_form ["value"] (defScope s_has_book_form) := ⟨rfl, rfl, rfl, by decide +kernel, rfl, by decide +kernel, by decide +kernel⟩
abbrev s_check_book : Stmt := topS 12
abbrev n_check_book : List Str := ["value", "words", "start", "letter", "word"]
theorem sc_check_book : FnScope n_check_book ["value"] (defScope s_check_book) := ⟨rfl, rfl, rfl, by decide +kernel, rfl, by decide +kernel, by decide +kernel⟩
abbrev s_check_number : Stmt := topS 13
abbrev n_check_number : List Str := ["value", "least", "most"]
theorem sc_check_number : FnScope n_check_number ["value", "least", "most"] (defScope s_check_number) := ⟨rfl, rfl, rfl, by decide +kernel, rfl, by decide +kernel, by decide +kernel⟩
abbrev s_check_age : Stmt := topS 14
abbrev n_check_age : List Str := ["value", "most"]
theorem sc_check_age : FnScope n_check_age ["value", "most"] (defScope s_check_age) := ⟨rfl, rfl, rfl, by decide +kernel, rfl, by decide +kernel, by decide +kernel⟩
abbrev s_check_book_and_age : Stmt := topS 15
abbrev n_check_book_and_age : List Str := ["book", "age", "most"]
theorem sc_check_book_and_age : FnScope n_check_book_and_age ["book", "age", "most"] (defScope s_check_book_and_age) := ⟨rfl, rfl, rfl, by decide +kernel, rfl, by decide +kernel, by decide +kernel⟩
abbrev s_letters_in : Stmt := topS 17
abbrev n_letters_in : List Str := ["parts", "part"]
theorem sc_letters_in : FnScope n_letters_in ["parts"] (defScope s_letters_in) := ⟨rfl, rfl, rfl, by decide +kernel, rfl, by decide +kernel, by decide +kernel⟩
abbrev s_next_letters : Stmt := topS 18
abbrev n_next_letters : List Str := ["words", "letters", "letter", "part"]
theorem sc_next_letters : FnScope n_next_letters ["words", "letters"] (defScope s_next_letters) := ⟨rfl, rfl, rfl, by decide +kernel, rfl, by decide +kernel, by decide +kernel⟩
abbrev s_ages_of_letters : Stmt := topS 19
abbrev n_ages_of_letters : List Str := ["words", "parts", "ages", "age", "fresh", "letter"]
theorem sc_ages_of_letters : FnScope n_ages_of_letters ["words", "parts"] (defScope s_ages_of_letters) := ⟨rfl, rfl, rfl, by decide +kernel, rfl, by decide +kernel, by decide +kernel⟩
abbrev s_coming_letters : Stmt := topS 20
abbrev n_coming_letters : List Str := ["words", "parts"]
theorem sc_coming_letters : FnScope n_coming_letters ["words", "parts"] (defScope s_coming_letters) := ⟨rfl, rfl, rfl, by decide +kernel, rfl, by decide +kernel, by decide +kernel⟩
abbrev s_rotate : Stmt := topS 24
abbrev n_rotate : List Str := ["x", "y", "quarters"]
theorem sc_rotate : FnScope n_rotate ["x", "y", "quarters"] (defScope s_rotate) := ⟨rfl, rfl, rfl, by decide +kernel, rfl, by decide +kernel, by decide +kernel⟩
abbrev s_lay : Stmt := topS 25
abbrev n_lay : List Str := ["word", "ends", "pen", "x", "y", "heading", "begun", "laid", "part", "ahead", "aside", "turned", "right", "up"]
theorem sc_lay : FnScope n_lay ["word", "ends", "pen"] (defScope s_lay) := ⟨rfl, rfl, rfl, by decide +kernel, rfl, by decide +kernel, by decide +kernel⟩
abbrev s_lay_strokes : Stmt := topS 26
abbrev n_lay_strokes : List Str := ["word", "pen", "ends", "part"]
theorem sc_lay_strokes : FnScope n_lay_strokes ["word", "pen"] (defScope s_lay_strokes) := ⟨rfl, rfl, rfl, by decide +kernel, rfl, by decide +kernel, by decide +kernel⟩
abbrev s_strokes_of : Stmt := topS 28
abbrev n_strokes_of : List Str := ["word", "strokes", "part"]
theorem sc_strokes_of : FnScope n_strokes_of ["word", "strokes"] (defScope s_strokes_of) := ⟨rfl, rfl, rfl, by decide +kernel, rfl, by decide +kernel, by decide +kernel⟩
abbrev s_strokes_by_age : Stmt := topS 29
abbrev n_strokes_by_age : List Str := ["words", "letters", "age", "rows", "_", "row", "letter"]
theorem sc_strokes_by_age : FnScope n_strokes_by_age ["words", "letters", "age"] (defScope s_strokes_by_age) := ⟨rfl, rfl, rfl, by decide +kernel, rfl, by decide +kernel, by decide +kernel⟩
abbrev s_ends_by_age : Stmt := topS 30
abbrev n_ends_by_age : List Str := ["words", "letters", "age", "rows", "_", "row", "letter"]
theorem sc_ends_by_age : FnScope n_ends_by_age ["words", "letters", "age"] (defScope s_ends_by_age) := ⟨rfl, rfl, rfl, by decide +kernel, rfl, by decide +kernel, by decide +kernel⟩
abbrev s_count_letters : Stmt := topS 32
abbrev n_count_letters : List Str := ["word", "many", "letter"]
theorem sc_count_letters : FnScope n_count_letters ["word", "many"] (defScope s_count_letters) := ⟨rfl, rfl, rfl, by decide +kernel, rfl, by decide +kernel, by decide +kernel⟩
abbrev s_strokes_in : Stmt := topS 34
abbrev n_strokes_in : List Str := ["book", "age", "words", "start", "strokes"]
theorem sc_strokes_in : FnScope n_strokes_in ["book", "age"] (defScope s_strokes_in) := ⟨rfl, rfl, rfl, by decide +kernel, rfl, by decide +kernel, by decide +kernel⟩
abbrev s_end_at : Stmt := topS 35
abbrev n_end_at : List Str := ["book", "age", "words", "start", "ends"]
theorem sc_end_at : FnScope n_end_at ["book", "age"] (defScope s_end_at) := ⟨rfl, rfl, rfl, by decide +kernel, rfl, by decide +kernel, by decide +kernel⟩
abbrev s_outside_branches : Stmt := topS 36
abbrev n_outside_branches : List Str := ["word", "depth", "parts", "part"]
theorem sc_outside_branches : FnScope n_outside_branches ["word"] (defScope s_outside_branches) := ⟨rfl, rfl, rfl, by decide +kernel, rfl, by decide +kernel, by decide +kernel⟩
abbrev s_ends_of_words : Stmt := topS 38
abbrev n_ends_of_words : List Str := ["words", "letters", "letter"]
theorem sc_ends_of_words : FnScope n_ends_of_words ["words", "letters"] (defScope s_ends_of_words) := ⟨rfl, rfl, rfl, by decide +kernel, rfl, by decide +kernel, by decide +kernel⟩
abbrev s_is_steady : Stmt := topS 39
abbrev n_is_steady : List Str := ["book", "words", "start", "ends", "end"]
theorem sc_is_steady : FnScope n_is_steady ["book"] (defScope s_is_steady) := ⟨rfl, rfl, rfl, by decide +kernel, rfl, by decide +kernel, by decide +kernel⟩
abbrev s_sums_by_rows : Stmt := topS 43
abbrev n_sums_by_rows : List Str := ["rows", "values", "modulus", "times", "value", "row"]
theorem sc_sums_by_rows : FnScope n_sums_by_rows ["rows", "values", "modulus"] (defScope s_sums_by_rows) := ⟨rfl, rfl, rfl, by decide +kernel, rfl, by decide +kernel, by decide +kernel⟩
abbrev s_two_steps : Stmt := topS 44
abbrev n_two_steps : List Str := ["rows", "modulus", "columns", "column", "row"]
theorem sc_two_steps : FnScope n_two_steps ["rows", "modulus"] (defScope s_two_steps) := ⟨rfl, rfl, rfl, by decide +kernel, rfl, by decide +kernel, by decide +kernel⟩
abbrev s_values_at : Stmt := topS 45
abbrev n_values_at : List Str := ["rows", "values", "age", "modulus", "left"]
theorem sc_values_at : FnScope n_values_at ["rows", "values", "age", "modulus"] (defScope s_values_at) := ⟨rfl, rfl, rfl, by decide +kernel, rfl, by decide +kernel, by decide +kernel⟩
abbrev s_check_age_and_modulus : Stmt := topS 46
abbrev n_check_age_and_modulus : List Str := ["book", "age", "modulus"]
theorem sc_check_age_and_modulus : FnScope n_check_age_and_modulus ["book", "age", "modulus"] (defScope s_check_age_and_modulus) := ⟨rfl, rfl, rfl, by decide +kernel, rfl, by decide +kernel, by decide +kernel⟩
abbrev s_check_steady : Stmt := topS 47
abbrev n_check_steady : List Str := ["book"]
theorem sc_check_steady : FnScope n_check_steady ["book"] (defScope s_check_steady) := ⟨rfl, rfl, rfl, by decide +kernel, rfl, by decide +kernel, by decide +kernel⟩
abbrev s_strokes_modulo : Stmt := topS 48
abbrev n_strokes_modulo : List Str := ["book", "age", "modulus", "words", "start", "many", "rows", "strokes", "word"]
theorem sc_strokes_modulo : FnScope n_strokes_modulo ["book", "age", "modulus"] (defScope s_strokes_modulo) := ⟨rfl, rfl, rfl, by decide +kernel, rfl, by decide +kernel, by decide +kernel⟩
abbrev s_end_rows : Stmt := topS 49
abbrev n_end_rows : List Str := ["word", "many", "row_x", "row_y", "_", "heading", "letter", "right", "up"]
theorem sc_end_rows : FnScope n_end_rows ["word", "many"] (defScope s_end_rows) := ⟨rfl, rfl, rfl, by decide +kernel, rfl, by decide +kernel, by decide +kernel⟩
abbrev s_end_modulo : Stmt := topS 50
abbrev n_end_modulo : List Str := ["book", "age", "modulus", "words", "start", "many", "rows", "ends", "word", "row"]
theorem sc_end_modulo : FnScope n_end_modulo ["book", "age", "modulus"] (defScope s_end_modulo) := ⟨rfl, rfl, rfl, by decide +kernel, rfl, by decide +kernel, by decide +kernel⟩
abbrev s_law_taken : Stmt := topS 52
abbrev n_law_taken : List Str := ["row", "many", "found", "cell"]
theorem sc_law_taken : FnScope n_law_taken ["row", "many"] (defScope s_law_taken) := ⟨rfl, rfl, rfl, by decide +kernel, rfl, by decide +kernel, by decide +kernel⟩
abbrev s_law_pick : Stmt := topS 53
abbrev n_law_pick : List Str := ["row", "things"]
theorem sc_law_pick : FnScope n_law_pick ["row", "things"] (defScope s_law_pick) := ⟨rfl, rfl, rfl, by decide +kernel, rfl, by decide +kernel, by decide +kernel⟩
abbrev s_law_branched : Stmt := topS 54
abbrev n_law_branched : List Str := ["row", "word", "letters", "found", "at", "turn"]
theorem sc_law_branched : FnScope n_law_branched ["row", "word", "letters"] (defScope s_law_branched) := ⟨rfl, rfl, rfl, by decide +kernel, rfl, by decide +kernel, by decide +kernel⟩
abbrev s_law_word : Stmt := topS 55
abbrev n_law_word : List Str := ["row", "letters", "most", "found", "turn"]
theorem sc_law_word : FnScope n_law_word ["row", "letters", "most"] (defScope s_law_word) := ⟨rfl, rfl, rfl, by decide +kernel, rfl, by decide +kernel, by decide +kernel⟩
abbrev s_law_book : Stmt := topS 56
abbrev n_law_book : List Str := ["row", "letters", "words", "k"]
theorem sc_law_book : FnScope n_law_book ["row"] (defScope s_law_book) := ⟨rfl, rfl, rfl, by decide +kernel, rfl, by decide +kernel, by decide +kernel⟩
abbrev s_law_kit : Stmt := topS 57
abbrev n_law_kit : List Str := ["row", "dragon", "square", "levy", "wide"]
theorem sc_law_kit : FnScope n_law_kit ["row"] (defScope s_law_kit) := ⟨rfl, rfl, rfl, by decide +kernel, rfl, by decide +kernel, by decide +kernel⟩
abbrev s_law_even_word : Stmt := topS 58
abbrev n_law_even_word : List Str := ["row", "letters", "move", "steps", "way", "found", "heading", "step", "many"]
theorem sc_law_even_word : FnScope n_law_even_word ["row", "letters", "move"] (defScope s_law_even_word) := ⟨rfl, rfl, rfl, by decide +kernel, rfl, by decide +kernel, by decide +kernel⟩
abbrev s_law_even_book : Stmt := topS 59
abbrev n_law_even_book : List Str := ["row", "letters", "move", "words", "start", "k"]
theorem sc_law_even_book : FnScope n_law_even_book ["row"] (defScope s_law_even_book) := ⟨rfl, rfl, rfl, by decide +kernel, rfl, by decide +kernel, by decide +kernel⟩
abbrev s_law_alike : Stmt := topS 60
abbrev n_law_alike : List Str := ["found", "due", "k"]
theorem sc_law_alike : FnScope n_law_alike ["found", "due"] (defScope s_law_alike) := ⟨rfl, rfl, rfl, by decide +kernel, rfl, by decide +kernel, by decide +kernel⟩
abbrev s_law_far : Stmt := topS 61
abbrev n_law_far : List Str := ["rows", "age", "again", "tail", "k"]
theorem sc_law_far : FnScope n_law_far ["rows", "age"] (defScope s_law_far) := ⟨rfl, rfl, rfl, by decide +kernel, rfl, by decide +kernel, by decide +kernel⟩
abbrev s_law : Stmt := topS 62
abbrev n_law : List Str := ["script", "row", "book", "age", "modulus", "steady", "told", "error", "end", "small", "far", "letters", "counts", "rows", "seen", "due", "item", "word"]
theorem sc_law : FnScope n_law ["script"] (defScope s_law) := ⟨rfl, rfl, rfl, by decide +kernel, rfl, by decide +kernel, by decide +kernel⟩
end SK
namespace SK
open PySem PySem.Spec PyProof.Rows L2
def spTaken (K : PySem.W.Frag) : Sp := fun vs H Q _ => ∃ (r : Addr) (S : Scr) (many : Nat), vs = [.ref r, .int many] ∧ RowOk K S H r ∧ 1 ≤ many ∧ (many < 1073741824 ∨ many.log2 < 9000) ∧
  ∀ (H' : Hp) (k : Nat), Drawn K S r H H' → k < many → Q (.int k) H'
theorem mod_nat (i : Int) (m : Nat) (h : 1 ≤ m) : ∃ k : Nat, i % (m : Int) = (k : Int) ∧ k < m := by
  have h1 : (0 : Int) < m := by omega
  have a := Int.emod_nonneg i (show (m : Int) ≠ 0 by omega)
  have b := Int.emod_lt_of_pos i h1
  exact ⟨(i % (m : Int)).toNat, by omega, by omega⟩
section
variable {P : Program} {w : World} {K : PySem.W.Frag} {mg : Str → Option Value} {base : Heap}
theorem ok_taken {f : Addr} {fd : FuncData} {k : Nat} (F : Fun K "_law_taken" "_law_taken" s_law_taken f fd) (mi : mg "int" = none) (ml : mg "len" = none) : FnOk P w K mg base CX0 (k + 1) f fd ["row", "many"] (spTaken K) := by
  refine F.ok sc_law_taken (fun vs H Q E h => ?_) (fun cdv A outer s H vs Q E hr h => ?_)
  · obtain ⟨r, S, many, rfl, _⟩ := h
    rfl
  · obtain ⟨r, ⟨a, ns⟩, many, rfl, ⟨i, st, c, h1, h2, h3, h4, h5⟩, hm1, hm2, q⟩ := h
    have nd := sc_law_taken.nd
    refine ⟨_, pss_cons (ps_if (pt_cmpR op_gt (pix (pv 0) pe_int) pe_int (nomark _))
        (pss_cons (ps_set (i := 2) nd rfl (.inl rfl) (pmod (pint mi (pix (pv 0) pe_int)) (pv 1)))
          (pss_cons (ps_asg (pe_op op_fdivW (pix (pv 0) pe_int) (pv 1)) (pg_sub (pv 0) pe_int set_list)) (pss_one (ps_ret (pv 2))))) pss_nil)
      (pss_cons (ps_asg (padd (pix (pv 0) pe_int) pe_int) (pg_sub (pv 0) pe_int set_list))
      (pss_cons (ps_if (pt_cmpR op_gt (pix (pv 0) pe_int) (plen ml (pix (pv 0) pe_int)) (nomark _))
        (pss_cons (ps_asg (pmod (pint mi (padd (pe_op op_mul (pix (pv 0) pe_int) pe_int) pe_int)) pe_int) (pg_sub (pv 0) pe_int set_list))
          (pss_one (ps_ret (pmod (pint mi (pe_op op_fdiv (pix (pv 0) pe_int) pe_int)) (pv 1))))) pss_nil)
      (pss_cons (ps_set (i := 3) nd rfl (.inl rfl) (pix (pix (pv 0) pe_int) (psub (pix (pv 0) pe_int) pe_int)))
      (pss_cons (ps_asg (pmod (pint mi (padd (padd (pe_op op_mul (pix (pv 0) pe_int) pe_int) (pv 3)) pe_int)) pe_int) (pg_sub (pv 0) pe_int set_list))
      (pss_cons (ps_if (pt_cmpR op_ge (pv 3) (pe_op op_pow pe_int pe_int) (nomark _))
        (pss_one (ps_asg (pe_op op_fdivW (pv 3) (pv 1)) (pg_sub (pv 0) pe_int set_list))) pss_nil)
      (pss_one (ps_ret (pmod (pint mi (pv 3)) (pv 1))))))))), ?_⟩
    change H r = some (.lst [.ref a, .int i, .int st, .int c]) at h1
    change SqL K H a (ns.map V.int) at h2
    change a ≠ r at h4
    change ns.length ≤ 63 at h5
    have m0 : (0 : Int) < many := by omega
    have hm9 : (many : Int).natAbs.log2 < 9000 := by
      rw [Int.natAbs_natCast]
      rcases hm2 with h | h
      · have := (Nat.log2_lt (n := many) (k := 30) (by omega)).mpr (by omega)
        omega
      · exact h
    have nl : ∀ (xs : List V) (ns : List Int), (V.ref a :: xs) ≠ ns.map V.int := fun xs ns e => by cases ns <;> cases e
    -- a row with other numbers
    have row : ∀ (i s c : Int), 0 ≤ i → RowOk K (a, ns) (upd H r (.lst [.ref a, .int i, .int s, .int c])) r := fun i s c h => by
      refine ⟨i, s, c, upd_same, ?_, h, h4, h5⟩
      rcases h2 with (h | ⟨o, h⟩) | h
      · exact .inl (.inl (by rw [upd_ne h4]; exact h))
      · exact .inl (.inr ⟨o, by rw [upd_ne h4]; exact h⟩)
      · exact .inr h
    have dr : ∀ (i s c : Int), 0 ≤ i → Drawn K (a, ns) r H (upd H r (.lst [.ref a, .int i, .int s, .int c])) := fun i s c h => ⟨SameX.refl.at, row i s c h⟩
    refine ⟨.ref r, rfl, r, _, _, _, rfl, rfl, SqL.of h1, at3, _, _, rfl, rfl, _, rfl, ite2 (fun e => ?_) (fun e => ?_)⟩
    · refine ⟨.ref r, rfl, r, _, _, _, rfl, rfl, SqL.of h1, at3, .inl ⟨_, rfl, _, rfl, _, _, rfl, rfl, m0, ?_⟩⟩
      refine ⟨.ref r, rfl, r, _, _, _, rfl, rfl, SqL.of h1, at3, _, rfl, _, _, rfl, rfl, ⟨m0, hm9⟩, .ref r, rfl, r, _, _, 3, rfl, rfl, h1, rfl, _, rfl, ?_⟩
      obtain ⟨k, e1, e2⟩ := mod_nat c many hm1
      show Q (V.int (c % (many : Int))) _
      rw [e1]
      exact q _ k (dr _ _ _ h3) e2
    · refine ⟨.ref r, rfl, r, _, _, _, rfl, rfl, SqL.of h1, at1, _, _, rfl, rfl, .ref r, rfl, r, _, _, 1, rfl, rfl, h1, rfl, ?_⟩
      have g1 : (upd H r (.lst [.ref a, .int (i + 1), .int st, .int c])) r = some (.lst [.ref a, .int (i + 1), .int st, .int c]) := upd_same
      have sa : ∀ (i s c : Int), SqL K (upd H r (.lst [.ref a, .int i, .int s, .int c])) a (ns.map V.int) := fun i s c => by
        rcases h2 with (h | ⟨o, h⟩) | h
        · exact .inl (.inl (by rw [upd_ne h4]; exact h))
        · exact .inl (.inr ⟨o, by rw [upd_ne h4]; exact h⟩)
        · exact .inr h
      refine ⟨.ref r, rfl, r, _, _, _, rfl, rfl, SqL.of g1, at1, .ref r, rfl, r, _, _, _, rfl, rfl, SqL.of g1, at0, a, _, rfl, .inl (sa _ _ _), _, _, rfl, rfl, _, rfl, ite2 (fun e => ?_) (fun e2 => ?_)⟩
      · refine ⟨.ref r, rfl, r, _, _, _, rfl, rfl, SqL.of g1, at2, _, _, rfl, rfl, .inr (by decide), _, _, rfl, rfl, .inl ⟨_, rfl, _, _, rfl, rfl, (show (0 : Int) < 2147483647 by decide), .ref r, rfl, r, _, _, 2, rfl, rfl, g1, rfl, ?_⟩⟩
        rw [upd_upd]
        refine ⟨.ref r, rfl, r, _, _, _, rfl, rfl, SqL.of upd_same, at2, _, _, rfl, rfl, ⟨by decide, by decide⟩, .inl ⟨_, rfl, _, rfl, _, _, rfl, rfl, m0, ?_⟩⟩
        obtain ⟨k, e1, e2⟩ := mod_nat ((st * 48271 + 11) % 2147483647 / 7) many hm1
        show Q (V.int ((st * 48271 + 11) % 2147483647 / 7 % (many : Int))) _
        rw [e1]
        exact q _ k (dr _ _ _ (by omega)) e2
      · have e3 : ¬ ((ns.length : Int) < i + 1) := by
          have e2' := e2
          simp only [List.length_map] at e2'
          exact fun z => e2' (decide_eq_true z)
        have hlt : i.toNat < ns.length := by omega
        have gi : atI (ns.map V.int) (i + 1 - 1) = some (.int ns[i.toNat]) := by
          have e4 : i + 1 - 1 = ((i.toNat : Nat) : Int) := by omega
          rw [e4]
          refine atI_nat ?_
          rw [List.getElem?_map, List.getElem?_eq_getElem hlt]
          rfl
        generalize ns[i.toNat] = cell at gi
        refine ⟨.ref r, rfl, r, _, _, _, rfl, rfl, SqL.of g1, at0, .ref r, rfl, r, _, _, _, rfl, rfl, SqL.of g1, at1, _, _, rfl, rfl, a, _, _, _, rfl, rfl, sa _ _ _, gi, ?_⟩
        refine ⟨.ref r, rfl, r, _, _, _, rfl, rfl, SqL.of g1, at2, _, _, rfl, rfl, .inr (by decide), _, rfl, _, _, rfl, rfl, _, _, rfl, rfl, .inl ⟨_, rfl, _, _, rfl, rfl, (show (0 : Int) < 2147483647 by decide), .ref r, rfl, r, _, _, 2, rfl, rfl, g1, rfl, ?_⟩⟩
        rw [upd_upd]
        refine ⟨_, rfl, _, _, rfl, rfl, ⟨by decide, by decide, by decide⟩, _, _, rfl, rfl, _, rfl, ite2 (fun e => ?_) (fun e => ?_)⟩
        · refine ⟨_, rfl, _, rfl, _, _, rfl, rfl, ⟨m0, hm9⟩, .ref r, rfl, r, _, _, 3, rfl, rfl, upd_same, rfl, ?_⟩
          rw [upd_upd]
          refine ⟨_, rfl, .inl ⟨_, rfl, _, rfl, _, _, rfl, rfl, m0, ?_⟩⟩
          obtain ⟨k, e1, e2⟩ := mod_nat cell many hm1
          show Q (V.int (cell % (many : Int))) _
          rw [e1]
          exact q _ k (dr _ _ _ (by omega)) e2
        · refine ⟨_, rfl, .inl ⟨_, rfl, _, rfl, _, _, rfl, rfl, m0, ?_⟩⟩
          obtain ⟨k, e1, e2⟩ := mod_nat cell many hm1
          show Q (V.int (cell % (many : Int))) _
          rw [e1]
          exact q _ k (dr _ _ _ (by omega)) e2
end
end SK
namespace SK
open PySem PySem.Spec PyProof.Rows L2
/-- a def that stands in the module under its name and keeps its promise, not raising -/
structure Got (P : Program) (w : World) (K : PySem.W.Frag) (mg : Str → Option Value) (base : Heap) (x : Str) (k : Nat) (ps : List Str) (sp : Sp) : Prop where
  ex : ∃ (f : Addr) (fd : FuncData), FnOk P w K mg base CX0 k f fd ps sp ∧ mg x = some (.ref f) ∧ PySem.W.keepIn K (.ref f) = true ∧ Binds K fd ps []
theorem Got.mono {P : Program} {w : World} {K : PySem.W.Frag} {mg : Str → Option Value} {base : Heap} {x : Str} {j k : Nat} {ps : List Str} {sp : Sp} (g : Got P w K mg base x j ps sp) (h : j ≤ k) : Got P w K mg base x k ps sp := by
  obtain ⟨f, fd, F, a, b, c⟩ := g.ex
  exact ⟨f, fd, F.mono h, a, b, c⟩
theorem pcall {X : Cx} {x : Str} {k : Nat} {ps : List Str} {sp : Sp} {e : Expr} {es : List Expr} {t : TA} {p pos : Pos} (G : Got X.prog X.w X.K X.mg X.base x k ps sp) (hr : Room k X.A) (ha : PA X (e :: es) t) (hg : Gl X x := by rfl)
    (hdb : (x == ("__debug__" : Str)) = false := by decide)
    (he : starEach (e :: es) X.env = (false, eval e X.env) :: starEach es X.env := by rfl) (hpl : (backTo pos (starEach es X.env)).any (·.1) = false := by rfl) : PE X (.Call (.Name x p) (e :: es) [] pos) (tCall sp [] E0 t) := by
  obtain ⟨f, fd, F, a, b, c⟩ := G.ex
  exact pe_call F hr hg a b c .nil pass0 ha hdb he hpl
def spPick (K : PySem.W.Frag) : Sp := fun vs H Q _ => ∃ (r q : Addr) (S : Scr) (xs : List V), vs = [.ref r, .ref q] ∧ RowOk K S H r ∧ q ≠ r ∧ H q = some (.lst xs) ∧ 1 ≤ xs.length ∧ xs.length < 1073741824 ∧
  ∀ (H' : Hp) (k : Nat) (v : V), Drawn K S r H H' → xs[k]? = some v → Q v H'
section
variable {P : Program} {w : World} {K : PySem.W.Frag} {mg : Str → Option Value} {base : Heap}
theorem ok_pick {f : Addr} {fd : FuncData} {k : Nat} (F : Fun K "_law_pick" "_law_pick" s_law_pick f fd) (G : Got P w K mg base "_law_taken" k ["row", "many"] (spTaken K)) (ml : mg "len" = none) : FnOk P w K mg base CX0 (k + 1) f fd ["row", "things"] (spPick K) := by
  refine F.ok sc_law_pick (fun vs H Q E h => ?_) (fun cdv A outer s H vs Q E hr h => ?_)
  · obtain ⟨r, q, S, xs, rfl, _⟩ := h
    rfl
  · obtain ⟨r, q, S, xs, rfl, hR, hq, hx, h1, h2, hQ⟩ := h
    refine ⟨_, pss_one (ps_ret (pix (pv 1) (pcall G hr (pa_cons (pv 0) (pa_cons (plen ml (pv 1)) pa_nil))))), ?_⟩
    refine ⟨_, rfl, _, rfl, .ref q, rfl, q, xs, rfl, .inl (SqL.of hx), r, S, xs.length, rfl, hR, h1, .inl h2, fun H' k D hk => ?_⟩
    have hx' := D.at hq hx
    exact ⟨q, xs, k, _, rfl, rfl, SqL.of hx', atI_nat (List.getElem?_eq_getElem hk), hQ H' k _ D (List.getElem?_eq_getElem hk)⟩
end
end SK
namespace SK
open PySem PySem.Spec PyProof.Rows L2
/-! ### signs and words -/
inductive Sy where
  | l (k : Nat) | p | m | o | c
  deriving DecidableEq
def Sy.v : Sy → V
  | .l k => .int k
  | .p => .str "+"
  | .m => .str "-"
  | .o => .str "["
  | .c => .str "]"
abbrev wv (w : List Sy) : List V := w.map Sy.v
/-- how deep one stands behind a piece, none where a branch is ended that isn't begun -/
def nest : List Sy → Nat → Option Nat
  | [], d => some d
  | .o :: w, d => nest w (d + 1)
  | .c :: w, d => match d with
    | 0 => none
    | d + 1 => nest w d
  | _ :: w, d => nest w d
def isL : Sy → Bool
  | .l _ => true
  | _ => false
def isB : Sy → Bool
  | .o => true
  | .c => true
  | _ => false
def nL (w : List Sy) : Nat := (w.filter isL).length
theorem nL_app (a b : List Sy) : nL (a ++ b) = nL a + nL b := by unfold nL; rw [List.filter_append, List.length_append]
structure Flat (n L : Nat) (w : List Sy) : Prop where
  flat : ∀ s ∈ w, isB s = false
  lets : ∀ k, Sy.l k ∈ w → k < n
  has : w.any isL = true
  len : w.length ≤ L
  slim : w.length + 6 ≤ 8 * nL w
structure Good (n L : Nat) (w : List Sy) : Prop where
  nst : nest w 0 = some 0
  lets : ∀ k, Sy.l k ∈ w → k < n
  has : w.any isL = true
  len : w.length ≤ L
  slim : w.length + 6 ≤ 8 * nL w
theorem nest_app : ∀ (a b : List Sy) (d : Nat), nest (a ++ b) d = (nest a d).bind (nest b)
  | [], b, d => rfl
  | .l k :: a, b, d => nest_app a b d
  | .p :: a, b, d => nest_app a b d
  | .m :: a, b, d => nest_app a b d
  | .o :: a, b, d => nest_app a b (d + 1)
  | .c :: a, b, 0 => rfl
  | .c :: a, b, d + 1 => nest_app a b d
theorem nest_flat : ∀ (a : List Sy) (d : Nat), (∀ s ∈ a, isB s = false) → nest a d = some d
  | [], d, _ => rfl
  | .l k :: a, d, h => nest_flat a d fun s hs => h s (List.mem_cons_of_mem _ hs)
  | .p :: a, d, h => nest_flat a d fun s hs => h s (List.mem_cons_of_mem _ hs)
  | .m :: a, d, h => nest_flat a d fun s hs => h s (List.mem_cons_of_mem _ hs)
  | .o :: a, d, h => by have := h .o List.mem_cons_self; cases this
  | .c :: a, d, h => by have := h .c List.mem_cons_self; cases this
theorem Flat.good {n L M : Nat} {w : List Sy} (f : Flat n L w) (h : L ≤ M) : Good n M w := ⟨nest_flat w 0 f.flat, f.lets, f.has, Nat.le_trans f.len h, f.slim⟩
theorem Good.mono {n L M : Nat} {w : List Sy} (f : Good n L w) (h : L ≤ M) : Good n M w := ⟨f.nst, f.lets, f.has, Nat.le_trans f.len h, f.slim⟩
theorem Flat.mono {n L M : Nat} {w : List Sy} (f : Flat n L w) (h : L ≤ M) : Flat n M w := ⟨f.flat, f.lets, f.has, Nat.le_trans f.len h, f.slim⟩
/-- a branch put in -/
theorem Flat.branch {n L : Nat} {w t : List Sy} {at' k : Nat} (f : Flat n L w) (ht : ∀ s ∈ t, isB s = false ∧ isL s = false) (hl : t.length ≤ 1) (hk : k < n) : Good n (L + 4) (w.take at' ++ [.o] ++ t ++ [.l k] ++ [.c] ++ w.drop at') := by
  have f1 : ∀ s ∈ w.take at', isB s = false := fun s hs => f.flat s (List.mem_of_mem_take hs)
  have f2 : ∀ s ∈ w.drop at', isB s = false := fun s hs => f.flat s (List.mem_of_mem_drop hs)
  refine ⟨?_, ?_, ?_, ?_, ?_⟩
  · rw [nest_app, nest_app, nest_app, nest_app, nest_app, nest_flat _ 0 f1]
    show ((((nest t 1).bind (nest [.l k])).bind (nest [.c])).bind (nest (w.drop at'))) = some 0
    rw [nest_flat t 1 fun s hs => (ht s hs).1]
    show nest (w.drop at') 0 = some 0
    exact nest_flat _ 0 f2
  · intro j hj
    simp only [List.mem_append, List.mem_singleton] at hj
    rcases hj with ((((h | h) | h) | h) | h) | h
    · exact f.lets j (List.mem_of_mem_take h)
    · cases h
    · have := (ht _ h).2; cases this
    · cases h; exact hk
    · cases h
    · exact f.lets j (List.mem_of_mem_drop h)
  · simp only [List.any_append, List.any_cons, isL, Bool.true_or, Bool.or_true]
  · have := f.len
    have e : (w.take at').length + (w.drop at').length = w.length := by rw [← List.length_append, List.take_append_drop]
    simp only [List.length_append, List.length_singleton]
    omega
  · have := f.slim
    have e : (w.take at').length + (w.drop at').length = w.length := by rw [← List.length_append, List.take_append_drop]
    have e2 : nL (w.take at') + nL (w.drop at') = nL w := by rw [← nL_app, List.take_append_drop]
    have e3 : nL [Sy.l k] = 1 := rfl
    simp only [List.length_append, List.length_singleton, nL_app]
    omega
theorem cut_to (xs : List V) (k : Nat) : cutV xs none (some (k : Int)) = xs.take k := by
  unfold cutV
  rw [HT.sIx_none, show HT.sIx xs.length xs.length (some ((k : Nat) : Int)) = min k xs.length from HT.sIx_nat xs.length xs.length k, List.drop_zero, Nat.sub_zero]
  by_cases h : k ≤ xs.length
  · rw [Nat.min_eq_left h]
  · rw [Nat.min_eq_right (by omega), List.take_of_length_le (Nat.le_refl _), List.take_of_length_le (by omega)]
theorem cut_from (xs : List V) (k : Nat) : cutV xs (some (k : Int)) none = xs.drop k := by
  unfold cutV
  rw [HT.sIx_none, show HT.sIx xs.length 0 (some ((k : Nat) : Int)) = min k xs.length from HT.sIx_nat xs.length 0 k]
  by_cases h : k ≤ xs.length
  · rw [Nat.min_eq_left h]
    exact List.take_of_length_le (by rw [List.length_drop]; exact Nat.le_refl _)
  · rw [Nat.min_eq_right (by omega), Nat.sub_self, List.take_zero, List.drop_eq_nil_of_le (by omega)]
/-! ### words in the heap: frozen tuples without a dict -/
def WdAt (H : Hp) (a : Addr) (w : List Sy) : Prop := ∃ o : Obj, H a = some (.frz o (.tup (wv w))) ∧ o.dict = none ∧ o.slots = #[]
def NewT (xs : List V) (H : Hp) (Q : VK) : Prop := ∀ (H' : Hp) (p : Addr) (o : Obj), Same H H' → H p = none → H' p = some (.frz o (.tup xs)) → (o.dict = none ∧ o.slots = #[]) → Q (.ref p) H'
def NewW (w : List Sy) (H : Hp) (Q : VK) : Prop := ∀ (H' : Hp) (p : Addr), Same H H' → H p = none → WdAt H' p w → Q (.ref p) H'
theorem NewW.of {w : List Sy} {xs : List V} {H : Hp} {Q : VK} (h : NewW w H Q) (e : xs = wv w) : NewT xs H Q := fun H' p o s n e' d => h H' p s n ⟨o, by rw [← e]; exact e', d⟩
section
variable {K : PySem.W.Frag} {S : Scr} {H H' : Hp} {a r : Addr} {w : List Sy}
theorem WdAt.same (h : WdAt H a w) (s : Same H H') : WdAt H' a w := let ⟨o, e, d⟩ := h; ⟨o, s _ _ e, d⟩
theorem WdAt.sq (h : WdAt H a w) : SqT K H a (wv w) := let ⟨o, e, _⟩ := h; .inl (.inr ⟨o, e⟩)
theorem WdAt.ne (h : WdAt H a w) (hr : RowOk K S H r) : a ≠ r := by
  obtain ⟨o, e, _⟩ := h
  obtain ⟨_, _, _, h1, _⟩ := hr
  exact ne_of e h1 (by intro z; cases z)
theorem Drawn.wd (d : Drawn K S r H H') (hr : RowOk K S H r) (h : WdAt H a w) : WdAt H' a w := by
  have n := h.ne hr
  obtain ⟨o, e, hd⟩ := h
  exact ⟨o, d.at n e, hd⟩
end
def rTupF (K : PySem.W.Frag) : List V → Hp → VK → Prop := fun xs H Q => ∃ p ys, xs = [.ref p] ∧ SqL K H p ys ∧ NewT ys H Q
def tTupF (t : TA) : TE := fun σ H Q => t σ H fun xs H1 => xs.length ≤ sizeLine ∧ NewT xs H1 Q
section
variable {X : Cx}
theorem cr_tupF : CallR X (.type "tuple") (rTupF X.K) := by
  rintro pins s σ H xs us Q I r ⟨p, ys, rfl, hq, q⟩
  obtain ⟨u, rfl, rx⟩ := vals1 r
  cases rx
  obtain ⟨its, rv, pl, hz⟩ := I.list hq
  have hlen := rv.length
  refine call_tuple_list pl.isList (fun h1 kp => ?_) (by simp only [List.size_toArray]; omega)
  have I1 : Inv X pins σ H { s with heap := h1 } := I.kept (t' := s.toks) kp
  have fr := I1.hok.fresh (Nat.le_refl _)
  let ob : Obj := { cls := .type "tuple", data := .seq its.toArray }
  have at1 : (h1.push ob).get? h1.objs.size = some ob := Heap.get?_push_size _ rfl
  have I2 : Inv X pins σ (upd H h1.objs.size (.frz ob (.tup ys))) { s with heap := h1.push ob } := I1.laid (t' := s.toks) (fun b o e => Heap.get?_push_of_some _ e) (Nat.le_refl _) ⟨at1, hz, its, rv, ob, at1, rfl, _, rfl⟩
  exact ⟨.ref h1.objs.size, _, I2, rfl, q _ _ ob (same_upd fr) fr upd_same ⟨rfl, rfl⟩⟩
theorem ptupF {x1 : Nat} {es : List Expr} {t : TA} {pos : Pos} (h : PA X es t) : PE X (.Tuple es x1 pos) (tTupF t) := by
  refine ⟨fun pins s σ H Q I hq => wpAny_Tuple_spliced (thn (h.run pos pins s σ H _ I hq) fun us s1 ⟨xs, H1, I1, r, z, q⟩ => ⟨by rw [← r.length]; exact z, ?_⟩)⟩
  have fr := I1.hok.fresh (Nat.le_refl _)
  let ob : Obj := { cls := .type "tuple", data := .seq us.toArray }
  have at1 : (s1.heap.push ob).get? s1.heap.objs.size = some ob := Heap.get?_push_size _ rfl
  exact ⟨.ref _, upd H1 _ (.frz ob (.tup xs)), I1.laid (t' := s1.toks) (fun b u e => Heap.get?_push_of_some _ e) (Nat.le_refl _) ⟨at1, z, us, r, ob, at1, rfl, _, rfl⟩, rfl, q _ _ ob (same_upd fr) fr upd_same ⟨rfl, rfl⟩⟩
theorem ptupleF {e : Expr} {te : TE} {p pos : Pos} (m : X.mg "tuple" = none) (h : PE X e te) (hg : Gl X "tuple" := by rfl) (hs1 : starEach [e] X.env = (false, eval e X.env) :: starEach [] X.env := by rfl) (hp1 : (backTo pos (starEach [] X.env)).any (·.1) = false := by rfl) :
    PE X (.Call (.Name "tuple" p) [e] [] pos) (tCB (rTupF X.K) (tCons te tNil)) := pe_callTy cr_tupF hg m (by decide +kernel) (pa_cons h pa_nil hs1) (by decide) (by decide) hs1 hp1
end
end SK
namespace SK
open PySem PySem.Spec PyProof.Rows L2
/-- w with a branch put in, or w itself -/
def Br (w w' : List Sy) : Prop := w' = w ∨ ∃ (i : Nat) (ts : List Sy) (k : Nat), (∀ s ∈ ts, isB s = false ∧ isL s = false) ∧ w' = w.take i ++ [.o] ++ ts ++ [.l k] ++ [.c] ++ w.drop i
def spBranched (K : PySem.W.Frag) : Sp := fun vs H Q _ => ∃ (r t : Addr) (S : Scr) (n L : Nat) (w : List Sy), vs = [.ref r, .ref t, .int n] ∧ RowOk K S H r ∧ WdAt H t w ∧ Flat n L w ∧ L ≤ 36 ∧ 1 ≤ n ∧ n ≤ 8 ∧
  ∀ (H' : Hp) (p : Addr) (w' : List Sy), Drawn K S r H H' → WdAt H' p w' → Good n (L + 4) w' → Br w w' → Q (.ref p) H'
section
variable {P : Program} {w : World} {K : PySem.W.Frag} {mg : Str → Option Value} {base : Heap}
theorem ok_branched {f : Addr} {fd : FuncData} {k : Nat} (F : Fun K "_law_branched" "_law_branched" s_law_branched f fd) (GT : Got P w K mg base "_law_taken" k ["row", "many"] (spTaken K)) (GP : Got P w K mg base "_law_pick" k ["row", "things"] (spPick K))
    (ml : mg "len" = none) (mL : mg "list" = none) (mT : mg "tuple" = none) : FnOk P w K mg base CX0 (k + 1) f fd ["row", "word", "letters"] (spBranched K) := by
  refine F.ok sc_law_branched (fun vs H Q E h => ?_) (fun cdv A outer s H vs Q E hr h => ?_)
  · obtain ⟨r, t, S, n, L, w, rfl, _⟩ := h
    rfl
  · obtain ⟨r, t, S, n, L, w, rfl, hR, ht, hw, hL, hn1, hn2, q⟩ := h
    have nd := sc_law_branched.nd
    refine ⟨_, pss_cons (ps_set (i := 3) nd rfl (.inl rfl) (pe_callTy call_list_of (by rfl) mL (by decide +kernel) (pa_cons (pv 1) pa_nil)))
      (pss_cons (ps_if (pt_cmpR op_eq (pcall GT hr (pa_cons (pv 0) (pa_cons pe_int pa_nil))) pe_int (nomark _))
        (pss_cons (ps_par rfl nd (i := 4) (j := 5) rfl rfl (by decide) rfl rfl
            (pa_cons (pcall GT hr (pa_cons (pv 0) (pa_cons (padd (plen ml (pv 3)) pe_int) pa_nil)))
              (pa_cons (pcall GP hr (pa_cons (pv 0) (pa_cons (pe_lst (pa_cons (pe_lst (pa_cons pe_str pa_nil)) (pa_cons (pe_lst (pa_cons pe_str pa_nil)) (pa_cons (pe_lst pa_nil) pa_nil)))) pa_nil))) pa_nil)) (by rfl))
          (pss_one (ps_set (i := 3) nd rfl (.inl rfl) (pcat (pcat (pcat (pcat (pcat (pe_slice sl_list (pv 3) po_none (po_some (pv 4))) (pe_lst (pa_cons pe_str pa_nil))) (pv 5))
            (pe_lst (pa_cons (pcall GT hr (pa_cons (pv 0) (pa_cons (pv 2) pa_nil))) pa_nil))) (pe_lst (pa_cons pe_str pa_nil))) (pe_slice sl_list (pv 3) (po_some (pv 4)) po_none))))) pss_nil)
      (pss_one (ps_ret (ptupleF mT (pv 3))))), ?_⟩
    have lw := hw.len
    refine ⟨.ref t, rfl, t, _, rfl, .inr ht.sq, fun fo nfo => ?_⟩
    have D1 : Drawn K S r H (upd H fo (.lst (wv w))) := (Drawn.refl hR).new nfo
    have hfo : (upd H fo (.lst (wv w))) fo = some (.lst (wv w)) := upd_same
    have nfr : fo ≠ r := hR.there nfo
    generalize upd H fo (.lst (wv w)) = H1 at D1 hfo
    refine ⟨_, rfl, r, S, 3, rfl, D1.row, by decide, by decide, fun H2 k1 D2 _ => ?_⟩
    have hfo2 := D2.at nfr hfo
    refine ⟨rfl, _, rfl, ite2 (fun _ => ?_) (fun _ => ?_)⟩
    · refine ⟨_, rfl, _, rfl, fo, _, rfl, .inl (SqL.of hfo2), _, _, rfl, rfl, r, S, w.length + 1, ?_, D2.row, by omega, by omega, fun H3 at' D3 hat => ?_⟩
      · show [V.ref r, V.int (((wv w).length : Int) + 1)] = [V.ref r, V.int ((w.length + 1 : Nat) : Int)]
        rw [List.length_map]; rfl
      have hfo3 := D3.at nfr hfo2
      refine ⟨_, rfl, szl 1, fun l1 n1 => ⟨szl 1, fun l2 n2 => ⟨szl 0, fun l3 n3 => ⟨szl 3, fun l4 n4 => ?_⟩⟩⟩⟩
      have n12 : l1 ≠ l2 := (ne_of_none upd_same n2)
      have n13 : l1 ≠ l3 := ne_of_none (o := .lst [.str "+"]) (by rw [upd_ne n12, upd_same]) n3
      have n23 : l2 ≠ l3 := ne_of_none upd_same n3
      have e1 : (upd (upd (upd H3 l1 (.lst [.str "+"])) l2 (.lst [.str "-"])) l3 (.lst [])) l1 = some (.lst [.str "+"]) := by rw [upd_ne n13, upd_ne n12, upd_same]
      have e2 : (upd (upd (upd H3 l1 (.lst [.str "+"])) l2 (.lst [.str "-"])) l3 (.lst [])) l2 = some (.lst [.str "-"]) := by rw [upd_ne n23, upd_same]
      have e3 : (upd (upd (upd H3 l1 (.lst [.str "+"])) l2 (.lst [.str "-"])) l3 (.lst [])) l3 = some (.lst []) := upd_same
      have D3' : Drawn K S r H3 (upd (upd (upd H3 l1 (.lst [.str "+"])) l2 (.lst [.str "-"])) l3 (.lst [])) := (((Drawn.refl D3.row).new n1).new n2).new n3
      have nr1 : l1 ≠ r := D3.row.there n1
      have nr2 : l2 ≠ r := ((Drawn.refl D3.row).new n1).row.there n2
      have nr3 : l3 ≠ r := (((Drawn.refl D3.row).new n1).new n2).row.there n3
      generalize (upd (upd (upd H3 l1 (.lst [.str "+"])) l2 (.lst [.str "-"])) l3 (.lst [])) = H4 at e1 e2 e3 D3' n4
      have D5 := D3'.new (o := .lst [.ref l1, .ref l2, .ref l3]) n4
      have nr4 : l4 ≠ r := D3'.row.there n4
      have s5 : Same H4 (upd H4 l4 (.lst [.ref l1, .ref l2, .ref l3])) := same_upd n4
      refine ⟨r, l4, S, _, rfl, D5.row, nr4, upd_same, (show 1 ≤ 3 by decide), (show 3 < 1073741824 by decide), fun H6 kk v D6 hk => ?_⟩
      -- turn
      obtain ⟨tl, ts, rfl, nrt, htl, hts, hlen⟩ : ∃ (tl : Addr) (ts : List Sy), v = .ref tl ∧ tl ≠ r ∧ H6 tl = some (.lst (wv ts)) ∧ (∀ s ∈ ts, isB s = false ∧ isL s = false) ∧ ts.length ≤ 1 := by
        match kk, hk with
        | 0, hk => cases hk; exact ⟨l1, [.p], rfl, nr1, D6.at nr1 (s5 _ _ e1), by decide, Nat.le_refl _⟩
        | 1, hk => cases hk; exact ⟨l2, [.m], rfl, nr2, D6.at nr2 (s5 _ _ e2), by decide, Nat.le_refl _⟩
        | 2, hk => cases hk; exact ⟨l3, [], rfl, nr3, D6.at nr3 (s5 _ _ e3), by decide, Nat.zero_le _⟩
        | j + 3, hk => simp at hk
      have hfo6 := D6.at nfr (s5 _ _ (D3'.at nfr hfo3))
      have D06 : Drawn K S r H H6 := (((D1.trans D2).trans D3).trans D5).trans D6
      refine ⟨_, _, rfl, ?_⟩
      -- found[:at]
      refine ⟨_, rfl, _, rfl, _, rfl, fo, _, rfl, SqL.of hfo6, fun p1 m1 => ?_⟩
      rw [cut_to]
      have s6 : Same H6 (upd H6 p1 (.lst ((wv w).take at'))) := same_upd m1
      have hp1 : (upd H6 p1 (.lst ((wv w).take at'))) p1 = some (.lst ((wv w).take at')) := upd_same
      generalize upd H6 p1 (.lst ((wv w).take at')) = H7 at s6 hp1
      -- + ["["]
      refine ⟨szl 1, fun p2 m2 => ?_⟩
      have s7 := same_upd (o := .lst [.str "["]) m2
      refine ⟨p1, p2, _, _, rfl, rfl, s7 _ _ hp1, upd_same, ?_, fun p3 m3 => ?_⟩
      · simp only [List.length_take, List.length_map, List.length_cons, List.length_nil]
        exact szl _ (by omega)
      have s8 := s7.trans (same_upd (o := .lst ((wv w).take at' ++ [.str "["])) m3)
      -- + turn
      refine ⟨_, rfl, p3, tl, _, _, rfl, rfl, upd_same, s8 _ _ (s6 _ _ htl), ?_, fun p4 m4 => ?_⟩
      · simp only [List.length_append, List.length_take, List.length_map, List.length_cons, List.length_nil]
        exact szl _ (by omega)
      have s9 := s8.trans (same_upd (o := .lst ((wv w).take at' ++ [.str "["] ++ wv ts)) m4)
      have hp4 : (upd (upd (upd H7 p2 (.lst [.str "["])) p3 (.lst ((wv w).take at' ++ [.str "["]))) p4 (.lst ((wv w).take at' ++ [.str "["] ++ wv ts))) p4 = some (.lst ((wv w).take at' ++ [.str "["] ++ wv ts)) := upd_same
      generalize (upd (upd (upd H7 p2 (.lst [.str "["])) p3 (.lst ((wv w).take at' ++ [.str "["]))) p4 (.lst ((wv w).take at' ++ [.str "["] ++ wv ts))) = H8 at s9 hp4
      have D8 : Drawn K S r H H8 := ⟨D06.same.trans (.of (s6.trans s9)), D06.row.same (s6.trans s9)⟩
      have nr4' : p4 ≠ r := by
        intro e
        subst e
        obtain ⟨_, _, _, h1, _⟩ := D06.row
        have hh := (s6.trans (s8)) _ _ h1
        rw [m4] at hh; cases hh
      -- + [_law_taken(row, letters)]
      refine ⟨_, rfl, _, rfl, r, S, n, rfl, D8.row, hn1, by omega, fun H9 lk D9 hlk => ?_⟩
      refine ⟨szl 1, fun p5 m5 => ?_⟩
      have s10 := same_upd (o := .lst [.int lk]) m5
      refine ⟨p4, p5, _, _, rfl, rfl, s10 _ _ (D9.at nr4' hp4), upd_same, ?_, fun p6 m6 => ?_⟩
      · simp only [List.length_append, List.length_take, List.length_map, List.length_cons, List.length_nil]
        exact szl _ (by omega)
      have s11 := s10.trans (same_upd (o := .lst ((wv w).take at' ++ [.str "["] ++ wv ts ++ [.int lk])) m6)
      have hp6 : (upd (upd H9 p5 (.lst [.int lk])) p6 (.lst ((wv w).take at' ++ [.str "["] ++ wv ts ++ [.int lk]))) p6 = some (.lst ((wv w).take at' ++ [.str "["] ++ wv ts ++ [.int lk])) := upd_same
      generalize (upd (upd H9 p5 (.lst [.int lk])) p6 (.lst ((wv w).take at' ++ [.str "["] ++ wv ts ++ [.int lk]))) = H10 at s11 hp6
      -- + ["]"]
      refine ⟨szl 1, fun p7 m7 => ?_⟩
      have s12 := same_upd (o := .lst [.str "]"]) m7
      refine ⟨p6, p7, _, _, rfl, rfl, s12 _ _ hp6, upd_same, ?_, fun p8 m8 => ?_⟩
      · simp only [List.length_append, List.length_take, List.length_map, List.length_cons, List.length_nil]
        exact szl _ (by omega)
      have s13 := s12.trans (same_upd (o := .lst ((wv w).take at' ++ [.str "["] ++ wv ts ++ [.int lk] ++ [.str "]"])) m8)
      have hp8 : (upd (upd H10 p7 (.lst [.str "]"])) p8 (.lst ((wv w).take at' ++ [.str "["] ++ wv ts ++ [.int lk] ++ [.str "]"]))) p8 = some (.lst ((wv w).take at' ++ [.str "["] ++ wv ts ++ [.int lk] ++ [.str "]"])) := upd_same
      generalize (upd (upd H10 p7 (.lst [.str "]"])) p8 (.lst ((wv w).take at' ++ [.str "["] ++ wv ts ++ [.int lk] ++ [.str "]"]))) = H11 at s13 hp8
      -- + found[at:]
      have hfo11 := s13 _ _ (s11 _ _ (D9.at nfr (s9 _ _ (s6 _ _ hfo6))))
      refine ⟨_, rfl, _, rfl, _, rfl, fo, _, rfl, SqL.of hfo11, fun p9 m9 => ?_⟩
      rw [cut_from]
      have s14 := same_upd (o := .lst ((wv w).drop at')) m9
      refine ⟨p8, p9, _, _, rfl, rfl, s14 _ _ hp8, upd_same, ?_, fun p10 m10 => ?_⟩
      · simp only [List.length_append, List.length_take, List.length_drop, List.length_map, List.length_cons, List.length_nil]
        exact szl _ (by omega)
      -- tuple(found)
      refine ⟨.ref p10, rfl, p10, _, rfl, SqL.of upd_same, NewW.of (fun H12 p11 S12 m11 h12 => ?_) (w := w.take at' ++ [.o] ++ ts ++ [.l lk] ++ [.c] ++ w.drop at') ?_⟩
      · have s15 := (s11.trans s13).trans ((s14.trans (same_upd m10)).trans S12)
        exact q _ p11 _ ⟨((D8.trans D9).same).trans (.of s15), D9.row.same s15⟩ h12 (hw.branch hts hlen hlk) (.inr ⟨at', ts, lk, hts, rfl⟩)
      · simp only [wv, List.map_append, List.map_take, List.map_drop, List.map_cons, List.map_nil, Sy.v]
    · exact ⟨_, rfl, fo, _, rfl, SqL.of hfo2, NewW.of (fun H3 p S3 np hp => q _ p w ((D1.trans D2).then S3) hp (hw.good (by omega)) (.inl rfl)) rfl⟩
end
end SK
namespace SK
open PySem PySem.Spec PyProof.Rows L2
/-! ### books -/
def Words (H : Hp) (as : List Addr) (ws : List (List Sy)) : Prop := Paired (fun a w => WdAt H a w) as ws
def BookAt (H : Hp) (b : Addr) (ws : List (List Sy)) (st : List Sy) : Prop := ∃ (p q : Addr) (as : List Addr), H b = some (.tup [.ref p, .ref q]) ∧ H p = some (.tup (as.map V.ref)) ∧ WdAt H q st ∧ Words H as ws
structure GoodBook (ws : List (List Sy)) (st : List Sy) : Prop where
  one : 1 ≤ ws.length
  few : ws.length ≤ 3
  words : ∀ w ∈ ws, Good ws.length 40 w
  start : Good ws.length 40 st
/-- tuples stay -/
def TupS (H H' : Hp) : Prop := (∀ b xs, H b = some (.tup xs) → H' b = some (.tup xs)) ∧ ∀ b o u, H b = some (.frz o u) → H' b = some (.frz o u)
theorem TupS.refl {H : Hp} : TupS H H := ⟨fun _ _ h => h, fun _ _ _ h => h⟩
theorem TupS.trans {H H1 H2 : Hp} (a : TupS H H1) (b : TupS H1 H2) : TupS H H2 := ⟨fun c xs h => b.1 c xs (a.1 c xs h), fun c o u h => b.2 c o u (a.2 c o u h)⟩
theorem TupS.of {H H' : Hp} (s : Same H H') : TupS H H' := ⟨fun b xs h => s b _ h, fun b o u h => s b _ h⟩
theorem TupS.lst {H H1 : Hp} {p : Addr} {xs : List V} {o : HO} (s : TupS H H1) (h : H1 p = some (.lst xs)) : TupS H (upd H1 p o) := by
  refine ⟨fun b ys e => ?_, fun b ob u e => ?_⟩
  · rw [upd_ne (ne_of (s.1 b ys e) h (by intro z; cases z))]
    exact s.1 b ys e
  · rw [upd_ne (ne_of (s.2 b ob u e) h (by intro z; cases z))]
    exact s.2 b ob u e
theorem TupS.new {H H1 : Hp} {p : Addr} {o : HO} (s : TupS H H1) (h : H1 p = none) : TupS H (upd H1 p o) := s.trans (.of (same_upd h))
theorem TupS.wd {H H' : Hp} {a : Addr} {w : List Sy} (s : TupS H H') (h : WdAt H a w) : WdAt H' a w := let ⟨o, e, d⟩ := h; ⟨o, s.2 _ _ _ e, d⟩
theorem Drawn.tups {K : PySem.W.Frag} {S : Scr} {H H' : Hp} {r : Addr} (a : Drawn K S r H H') (hr : RowOk K S H r) : TupS H H' := ⟨fun b xs h => a.tup hr h, fun b o u h => a.at (by obtain ⟨_, _, _, h1, _⟩ := hr; exact ne_of h h1 (by intro z; cases z)) h⟩
theorem Words.keep {H H' : Hp} {as : List Addr} {ws : List (List Sy)} (s : TupS H H') (h : Words H as ws) : Words H' as ws := Paired.mono (fun a w e => s.wd e) h
theorem BookAt.keep {H H' : Hp} {b : Addr} {ws : List (List Sy)} {st : List Sy} (s : TupS H H') (h : BookAt H b ws st) : BookAt H' b ws st := by
  obtain ⟨p, q, as, h1, h2, h3, h4⟩ := h
  exact ⟨p, q, as, s.1 _ _ h1, s.1 _ _ h2, s.wd h3, h4.keep s⟩
def spBook (K : PySem.W.Frag) : Sp := fun vs H Q _ => ∃ (r : Addr) (S : Scr), vs = [.ref r] ∧ RowOk K S H r ∧
  ∀ (H' : Hp) (p : Addr) (ws : List (List Sy)) (st : List Sy), Drawn K S r H H' → BookAt H' p ws st → GoodBook ws st → Q (.ref p) H'
end SK
namespace SK
open PySem PySem.Spec PyProof.Rows L2
def spWord (K : PySem.W.Frag) : Sp := fun vs H Q _ => ∃ (r : Addr) (S : Scr) (n : Nat), vs = [.ref r, .int n, .int 3] ∧ RowOk K S H r ∧ 1 ≤ n ∧ n ≤ 8 ∧
  ∀ (H' : Hp) (p : Addr) (w' : List Sy), Drawn K S r H H' → WdAt H' p w' → Flat n 6 w' → Q (.ref p) H'
theorem flat_rot {n L : Nat} {w : List Sy} (f : Flat n L w) : Flat n L (w.drop 1 ++ w.take 1) := by
  refine ⟨fun s hs => f.flat s ?_, fun k hk => f.lets k ?_, ?_, ?_, ?_⟩
  · rcases List.mem_append.mp hs with h | h
    · exact List.mem_of_mem_drop h
    · exact List.mem_of_mem_take h
  · rcases List.mem_append.mp hk with h | h
    · exact List.mem_of_mem_drop h
    · exact List.mem_of_mem_take h
  · have := f.has
    rw [← List.take_append_drop 1 w, List.any_append, Bool.or_comm] at this
    rw [List.any_append]
    exact this
  · have := f.len
    have e : (w.take 1).length + (w.drop 1).length = w.length := by rw [← List.length_append, List.take_append_drop]
    rw [List.length_append]
    omega
  · have := f.slim
    have e : (w.take 1).length + (w.drop 1).length = w.length := by rw [← List.length_append, List.take_append_drop]
    have e2 : nL (w.take 1) + nL (w.drop 1) = nL w := by rw [← nL_app, List.take_append_drop]
    rw [List.length_append, nL_app]
    omega
section
variable {P : Program} {w : World} {K : PySem.W.Frag} {mg : Str → Option Value} {base : Heap}
theorem ok_word {f : Addr} {fd : FuncData} {k : Nat} (F : Fun K "_law_word" "_law_word" s_law_word f fd) (GT : Got P w K mg base "_law_taken" k ["row", "many"] (spTaken K)) (GP : Got P w K mg base "_law_pick" k ["row", "things"] (spPick K))
    (mR : mg "range" = none) (mT : mg "tuple" = none) : FnOk P w K mg base CX0 (k + 1) f fd ["row", "letters", "most"] (spWord K) := by
  refine F.ok sc_law_word (fun vs H Q E h => ?_) (fun cdv A outer s H vs Q E hr h => ?_)
  · obtain ⟨r, S, n, rfl, _⟩ := h
    rfl
  · obtain ⟨r, S, n, rfl, hR, hn1, hn2, q⟩ := h
    have nd := sc_law_word.nd
    refine ⟨_, pss_cons (ps_set (i := 3) nd rfl (.inl rfl) (pe_lst pa_nil))
      (pss_cons (ps_for PassesOwn.never rfl (pi_range1 rfl mR (pa_cons (padd pe_int (pcall GT hr (pa_cons (pv 0) (pa_cons (pv 2) pa_nil)))) pa_nil)) (pg_name (i := 4) nd rfl (.inl rfl))
        (pss_cons (sapp (pv 3) (pcall GT hr (pa_cons (pv 0) (pa_cons (pv 1) pa_nil))))
          (pss_one (ps_if (pt_cmpR op_eq (pcall GT hr (pa_cons (pv 0) (pa_cons pe_int pa_nil))) pe_int (nomark _))
            (pss_one (sapp (pv 3) (pcall GP hr (pa_cons (pv 0) (pa_cons (pe_lst (pa_cons pe_str (pa_cons pe_str pa_nil))) pa_nil))))) pss_nil))))
      (pss_one (ps_ret (pe_ifExp (pt_cmpR op_eq (pcall GT hr (pa_cons (pv 0) (pa_cons pe_int pa_nil))) pe_int (nomark _))
        (ptupleF mT (pcat (pe_slice sl_list (pv 3) (po_some pe_int) po_none) (pe_slice sl_list (pv 3) po_none (po_some pe_int))))
        (ptupleF mT (pv 3)))))), ?_⟩
    refine ⟨szl 0, fun fo nfo => ?_⟩
    have D1 : Drawn K S r H (upd H fo (.lst [])) := (Drawn.refl hR).new nfo
    have hfo : (upd H fo (.lst [])) fo = some (.lst []) := upd_same
    have nfr : fo ≠ r := hR.there nfo
    generalize upd H fo (.lst []) = H1 at D1 hfo
    refine ⟨_, rfl, _, rfl, r, S, 3, rfl, D1.row, by decide, by decide, fun H2 kk D2 hkk => ?_⟩
    have hfo2 := D2.at nfr hfo
    have D02 := D1.trans D2
    refine ⟨1, _, rfl, rfl, ((1 + kk : Nat) : Int), ?_, by omega, by omega, ?_⟩
    · show [V.int (1 + (kk : Int))] = [V.int ((1 + kk : Nat) : Int)]
      congr 2
    rw [Int.toNat_natCast]
    refine for_range (lo := 0) (n := 1 + kk) (fun i σ H' => ∃ (ws : List Sy) (y : Option V), σ = [some (.ref r), some (.int n), some (.int 3), some (.ref fo), y] ∧ Drawn K S r H H' ∧ H' fo = some (.lst (wv ws)) ∧
        (∀ s ∈ ws, isB s = false) ∧ (∀ k, Sy.l k ∈ ws → k < n) ∧ (1 ≤ i → ws.any isL = true) ∧ ws.length ≤ 2 * i ∧ nL ws = i)
      ⟨[], _, rfl, D02, hfo2, by decide, (fun k h => nomatch h), (fun h => by omega), Nat.zero_le _, rfl⟩ ?_ ?_
    · rintro i σ H' hi ⟨ws, y, rfl, D, hf, h1, h2, h3, h4, h5⟩
      refine ⟨_, rfl, .inl ⟨rfl, _, SqL.of hf⟩, _, rfl, _, rfl, r, S, n, rfl, D.row, hn1, by omega, fun H3 lk D3 hlk => ?_⟩
      have hf3 := D3.at nfr hf
      refine ⟨fo, _, _, rfl, rfl, hf3, ?_, ?_⟩
      · rw [List.length_map]; exact Nat.lt_of_le_of_lt (show ws.length ≤ 1000 by omega) (by decide)
      have D4 : Drawn K S r H (upd H3 fo (.lst (wv ws ++ [.int lk]))) := (D.trans D3).put hR nfo
      have hf4 : (upd H3 fo (.lst (wv ws ++ [.int lk]))) fo = some (.lst (wv (ws ++ [.l lk]))) := by rw [upd_same, wv, wv, List.map_append]; rfl
      generalize (upd H3 fo (.lst (wv ws ++ [.int lk]))) = H4 at D4 hf4
      have f1 : ∀ s ∈ ws ++ [Sy.l lk], isB s = false := fun s hs => by
        rcases List.mem_append.mp hs with h | h
        · exact h1 s h
        · rw [List.mem_singleton.mp h]; rfl
      have f2 : ∀ k, Sy.l k ∈ ws ++ [Sy.l lk] → k < n := fun k hs => by
        rcases List.mem_append.mp hs with h | h
        · exact h2 k h
        · cases List.mem_singleton.mp h; exact hlk
      have f3 : (ws ++ [Sy.l lk]).any isL = true := by simp [isL]
      have f4 : (ws ++ [Sy.l lk]).length ≤ 2 * i + 1 := by rw [List.length_append, List.length_singleton]; omega
      have f5 : nL (ws ++ [Sy.l lk]) = i + 1 := by rw [nL_app, h5]; rfl
      generalize ws ++ [Sy.l lk] = ws' at hf4 f1 f2 f3 f4 f5
      refine ⟨_, rfl, r, S, 2, rfl, D4.row, by decide, by decide, fun H5 k5 D5 _ => ?_⟩
      have hf5 := D5.at nfr hf4
      refine ⟨rfl, _, rfl, ite2 (fun _ => ?_) (fun _ => ?_)⟩
      · refine ⟨_, rfl, .inl ⟨rfl, _, SqL.of hf5⟩, _, rfl, szl 2, fun l1 n1 => ?_⟩
        have D6 := D5.new (o := .lst [.str "+", .str "-"]) n1
        have nl1 := D5.row.there n1
        refine ⟨r, l1, S, _, rfl, D6.row, nl1, upd_same, (show 1 ≤ 2 by decide), (show 2 < 1073741824 by decide), fun H7 k7 v D7 hk => ?_⟩
        have hf7 := D7.at nfr (same_upd (o := .lst [.str "+", .str "-"]) n1 _ _ hf5)
        obtain ⟨sy, rfl, b1, b2⟩ : ∃ sy : Sy, v = sy.v ∧ isB sy = false ∧ isL sy = false := by
          match k7, hk with
          | 0, hk => cases hk; exact ⟨.p, rfl, rfl, rfl⟩
          | 1, hk => cases hk; exact ⟨.m, rfl, rfl, rfl⟩
          | j + 2, hk => simp at hk
        refine ⟨fo, _, _, rfl, rfl, hf7, ?_, ?_⟩
        · rw [List.length_map]; exact Nat.lt_of_le_of_lt (show ws'.length ≤ 1000 by omega) (by decide)
        refine ⟨ws' ++ [sy], _, rfl, ((D4.trans D6).trans D7).put hR nfo, ?_, ?_, ?_, ?_, ?_, ?_⟩
        · rw [upd_same, wv, wv, List.map_append]; rfl
        · intro s hs
          rcases List.mem_append.mp hs with h | h
          · exact f1 s h
          · rw [List.mem_singleton.mp h]; exact b1
        · intro k hs
          rcases List.mem_append.mp hs with h | h
          · exact f2 k h
          · rw [← List.mem_singleton.mp h] at b2; cases b2
        · intro _; rw [List.any_append, f3]; rfl
        · rw [List.length_append, List.length_singleton]; omega
        · rw [nL_app, f5]; simp [nL, b2]
      · exact ⟨ws', _, rfl, D4.trans D5, hf5, f1, f2, fun _ => f3, by omega, f5⟩
    · rintro σ H' ⟨ws, y, rfl, D, hf, h1, h2, h3, h4, h5⟩
      have fl : Flat n 6 ws := ⟨h1, h2, h3 (by omega), by omega, by omega⟩
      refine ⟨_, rfl, r, S, 3, rfl, D.row, by decide, by decide, fun H5 k5 D5 _ => ?_⟩
      have hf5 := D5.at nfr hf
      refine ⟨rfl, _, rfl, ite2 (fun _ => ?_) (fun _ => ?_)⟩
      · refine ⟨_, rfl, ((1 : Nat) : Int), rfl, fo, _, rfl, SqL.of hf5, fun p1 m1 => ?_⟩
        rw [cut_from]
        refine ⟨_, rfl, ((1 : Nat) : Int), rfl, fo, _, rfl, SqL.of (same_upd m1 _ _ hf5), fun p2 m2 => ?_⟩
        rw [cut_to]
        have s2 := (same_upd (o := .lst ((wv ws).drop 1)) m1).trans (same_upd (o := .lst ((wv ws).take 1)) m2)
        refine ⟨p1, p2, _, _, rfl, rfl, same_upd m2 _ _ upd_same, upd_same, ?_, fun p3 m3 => ?_⟩
        · simp only [List.length_take, List.length_drop, List.length_map]
          exact szl _ (by omega)
        refine ⟨p3, _, rfl, SqL.of upd_same, NewW.of (fun H4 p4 S4 m4 h4 => q _ p4 (ws.drop 1 ++ ws.take 1) ((D.trans D5).then ((s2.trans (same_upd m3)).trans S4)) h4 (flat_rot fl)) ?_⟩
        simp only [wv, List.map_append, List.map_take, List.map_drop]
      · exact ⟨_, rfl, fo, _, rfl, SqL.of hf5, NewW.of (fun H4 p4 S4 m4 h4 => q _ p4 ws ((D.trans D5).then S4) h4 fl) rfl⟩
end
end SK
namespace SK
open PySem PySem.Spec PyProof.Rows L2
section
variable {P : Program} {w : World} {K : PySem.W.Frag} {mg : Str → Option Value} {base : Heap}
theorem ok_book {f : Addr} {fd : FuncData} {k : Nat} (F : Fun K "_law_book" "_law_book" s_law_book f fd) (GT : Got P w K mg base "_law_taken" k ["row", "many"] (spTaken K))
    (GW : Got P w K mg base "_law_word" k ["row", "letters", "most"] (spWord K)) (GB : Got P w K mg base "_law_branched" k ["row", "word", "letters"] (spBranched K))
    (mR : mg "range" = none) (mT : mg "tuple" = none) : FnOk P w K mg base CX0 (k + 1) f fd ["row"] (spBook K) := by
  refine F.ok sc_law_book (fun vs H Q E h => ?_) (fun cdv A outer s H vs Q E hr h => ?_)
  · obtain ⟨r, S, rfl, _⟩ := h
    rfl
  · obtain ⟨r, S, rfl, hR, q⟩ := h
    have nd := sc_law_book.nd
    refine ⟨_, pss_cons (ps_set (i := 1) nd rfl (.inr rfl) (padd pe_int (pcall GT hr (pa_cons (pv 0) (pa_cons pe_int pa_nil)))))
      (pss_cons (ps_set (i := 2) nd rfl (.inl rfl) (pe_callTy call_tuple_of (by rfl) mT (by decide +kernel) (pa_cons
          (pe_lc (own := [("k", 3)]) (g := gName 3) (tt := tYes) rfl nd (pi_range1 rfl mR (pa_cons (pv 1) pa_nil)) (blkOk_by (N := n_law_book) (sc := defScope s_law_book) (by decide +kernel))
            (fun _ _ _ _ _ => pg_name (i := 3) nd rfl (Or.inl rfl)) (fun _ _ _ _ _ => pts_nil)
            (fun _ _ _ _ _ => pcall GB hr (pa_cons (pv 0) (pa_cons (pcall GW hr (pa_cons (pv 0) (pa_cons (pv 1) (pa_cons pe_int pa_nil)))) (pa_cons (pv 1) pa_nil)))))
          pa_nil)))
      (pss_one (ps_ret (pe_tup (pa_cons (pv 2) (pa_cons (pcall GB hr (pa_cons (pv 0) (pa_cons (pcall GW hr (pa_cons (pv 0) (pa_cons (pv 1) (pa_cons pe_int pa_nil)))) (pa_cons (pv 1) pa_nil)))) pa_nil)))))), ?_⟩
    refine ⟨_, rfl, r, S, 3, rfl, hR, by decide, by decide, fun H1 k1 D1 hk1 => ?_⟩
    refine ⟨1, _, rfl, rfl, ?_⟩
    have en : (V.int (1 + (k1 : Int))) = V.int ((1 + k1 : Nat) : Int) := by congr 1
    dsimp only; rw [en]
    have hn1 : 1 ≤ 1 + k1 := by omega
    have hn2 : 1 + k1 ≤ 8 := by omega
    have hn3 : 1 + k1 ≤ 3 := by omega
    generalize 1 + k1 = n at hn1 hn2 hn3
    refine ⟨_, rfl, (n : Int), rfl, by omega, by omega, fun D nD => ?_⟩
    rw [Int.toNat_natCast]
    have nDr := D1.row.there nD
    refine lc_range (lo := 0) (n := n) (fun i H' => ∃ (as : List Addr) (ws : List (List Sy)), Drawn K S r H1 H' ∧ H' D = some (.lst (as.map V.ref)) ∧ Words H' as ws ∧ ws.length = i ∧ ∀ w ∈ ws, Good n 40 w)
      ⟨[], [], D1.row |> fun h => (Drawn.refl h).new nD, upd_same, .nil, rfl, fun w h => nomatch h⟩ ?_ ?_
    · rintro i H' hi ⟨as, ws, D2, hD, hw, hl, hg⟩
      refine ⟨rfl, _, rfl, _, rfl, _, rfl, r, S, n, rfl, D2.row, hn1, hn2, fun H3 t w3 D3 ht hw3 => ?_⟩
      refine ⟨_, rfl, r, t, S, n, 6, w3, rfl, D3.row, ht, hw3, by decide, hn1, hn2, fun H4 p w4 D4 hp hw4 _ => ?_⟩
      have D34 := D3.trans D4
      refine ⟨_, D34.at nDr hD, ?_, as ++ [p], ws ++ [w4], (D2.trans D34).put D1.row nD, ?_, ?_, ?_, ?_⟩
      · have := hw.length
        rw [List.length_map]; exact Nat.lt_of_le_of_lt (show as.length ≤ 1000 by omega) (by decide)
      · rw [upd_same, List.map_append]; rfl
      · have s : TupS H4 (upd H4 D (.lst (as.map V.ref ++ [V.ref p]))) := TupS.refl.lst (D34.at nDr hD)
        exact Paired.snoc ((hw.keep (D34.tups D2.row)).keep s) (s.wd hp)
      · rw [List.length_append, List.length_singleton, hl]
      · intro w hw
        rcases List.mem_append.mp hw with h | h
        · exact hg w h
        · rw [List.mem_singleton.mp h]; exact hw4.mono (by decide)
    · rintro H' ⟨as, ws, D2, hD, hw, hl, hg⟩
      refine ⟨D, _, rfl, .inl ⟨SqL.of hD, fun p np => ?_⟩⟩
      have D3 := D2.new (o := .tup (as.map V.ref)) np
      have hw3 : Words (upd H' p (.tup (as.map V.ref))) as ws := hw.keep (TupS.refl.new np)
      have hp3 : (upd H' p (.tup (as.map V.ref))) p = some (.tup (as.map V.ref)) := upd_same
      generalize upd H' p (.tup (as.map V.ref)) = H3 at D3 hw3 hp3
      refine ⟨_, rfl, _, rfl, _, rfl, _, rfl, r, S, n, rfl, D3.row, hn1, hn2, fun H4 t w4 D4 ht hw4 => ?_⟩
      refine ⟨_, rfl, r, t, S, n, 6, w4, rfl, D4.row, ht, hw4, by decide, hn1, hn2, fun H5 b w5 D5 hb hw5 _ => ?_⟩
      refine ⟨szl 2, fun p6 n6 => ?_⟩
      have D35 := D4.trans D5
      have t35 := D35.tups D3.row
      have s6 : Same H5 (upd H5 p6 (.tup [.ref p, .ref b])) := same_upd n6
      subst hl
      exact q _ p6 ws w5 (((D1.trans D3).trans D35).then s6) ⟨p, b, as, upd_same, s6 _ _ (t35.1 _ _ hp3), hb.same s6, hw3.keep (t35.trans (.of s6))⟩ ⟨hn1, hn3, hg, hw5.mono (by decide)⟩
end
end SK
namespace SK
open PySem PySem.Spec PyProof.Rows L2
/-! ### new things, the heap behind them a letter -/
def New (o : HO) (H : Hp) (Q : VK) : Prop := ∀ (H' : Hp) (p : Addr), Same H H' → H p = none → H' p = some o → Q (.ref p) H'
theorem New.ok {o : HO} {H : Hp} {Q : VK} (h : New o H Q) (p : Addr) (n : H p = none) : Q (.ref p) (upd H p o) := h _ p (same_upd n) n upd_same
def rCatN : R2 := fun x y H Q => ∃ l b xs zs, x = .ref l ∧ y = .ref b ∧ H l = some (.lst xs) ∧ H b = some (.lst zs) ∧ xs.length + zs.length ≤ sizeLine ∧ New (.lst (xs ++ zs)) H Q
def rRepN : R2 := fun x y H Q => ∃ l k xs, x = .ref l ∧ y = .int k ∧ H l = some (.lst xs) ∧ -(2 ^ 63) ≤ k ∧ k < 2 ^ 63 ∧ xs.length * k.toNat ≤ sizeLine ∧ New (.lst (List.replicate k.toNat xs).flatten) H Q
def tTupN (t : TA) : TE := fun σ H Q => t σ H fun xs H1 => xs.length ≤ sizeLine ∧ New (.tup xs) H1 Q
def tLstN (t : TA) : TE := fun σ H Q => t σ H fun xs H1 => xs.length ≤ sizeLine ∧ New (.lst xs) H1 Q
def rListN (K : PySem.W.Frag) : List V → Hp → VK → Prop := fun xs H Q => ∃ p ys, xs = [.ref p] ∧ (SqL K H p ys ∨ SqT K H p ys) ∧ New (.lst ys) H Q
def rTupleN (K : PySem.W.Frag) : List V → Hp → VK → Prop := fun xs H Q => ∃ p ys, xs = [.ref p] ∧ SqL K H p ys ∧ New (.tup ys) H Q
section
variable {X : Cx} {a b e : Expr} {ta tb te : TE} {pos p : Pos} {es : List Expr} {t : TA}
theorem pcatN (ha : PE X a ta) (hb : PE X b tb) : PE X (.BinOp a .Add b pos) (tOp rCatN ta tb) :=
  pe_op (fun pins s σ H x y v u Q I rx ry ⟨l, b, xs, zs, h1, h2, h3, h4, h5, h6⟩ => op_cat pins s σ H x y v u Q I rx ry ⟨l, b, xs, zs, h1, h2, h3, h4, h5, h6.ok⟩) ha hb
theorem prepN (ha : PE X a ta) (hb : PE X b tb) : PE X (.BinOp a .Mult b pos) (tOp rRepN ta tb) :=
  pe_op (fun pins s σ H x y v u Q I rx ry ⟨l, b, xs, h1, h2, h3, h4, h5, h6, h7⟩ => op_rep pins s σ H x y v u Q I rx ry ⟨l, b, xs, h1, h2, h3, h4, h5, h6, h7.ok⟩) ha hb
/-- whatever is wanted more of the arguments' end -/
def upA (t : TA) : TA := fun σ H R => ∃ R' : List V → Hp → Prop, t σ H R' ∧ ∀ xs H1, R' xs H1 → R xs H1
theorem pa_up (h : PA X es t) : PA X es (upA t) := ⟨fun pos pins s σ H R I ⟨R', h1, h2⟩ => thn (h.run pos pins s σ H R' I h1) fun us s1 ⟨xs, H1, I1, r, q⟩ => ⟨xs, H1, I1, r, h2 xs H1 q⟩⟩
theorem ptupN {x1 : Nat} (h : PA X es t) : PE X (.Tuple es x1 pos) (tTupN t) :=
  ⟨fun pins s σ H Q I hq => (pe_tup (pa_up h)).run pins s σ H Q I ⟨_, hq, fun xs H1 ⟨z, q⟩ => ⟨z, q.ok⟩⟩⟩
theorem plstN (h : PA X es t) : PE X (.List es pos) (tLstN t) :=
  ⟨fun pins s σ H Q I hq => (pe_lst (pa_up h)).run pins s σ H Q I ⟨_, hq, fun xs H1 ⟨z, q⟩ => ⟨z, q.ok⟩⟩⟩
theorem plistN (m : X.mg "list" = none) (h : PE X e te) (hg : Gl X "list" := by rfl) (hs1 : starEach [e] X.env = (false, eval e X.env) :: starEach [] X.env := by rfl) (hp1 : (backTo pos (starEach [] X.env)).any (·.1) = false := by rfl) :
    PE X (.Call (.Name "list" p) [e] [] pos) (tCB (rListN X.K) (tCons te tNil)) :=
  pe_callTy (fun pins s σ H xs us Q I r ⟨p, ys, h1, h2, h3⟩ => call_list_of pins s σ H xs us Q I r ⟨p, ys, h1, h2, h3.ok⟩) hg m (by decide +kernel) (pa_cons h pa_nil hs1) (by decide) (by decide) hs1 hp1
theorem ptupleN (m : X.mg "tuple" = none) (h : PE X e te) (hg : Gl X "tuple" := by rfl) (hs1 : starEach [e] X.env = (false, eval e X.env) :: starEach [] X.env := by rfl) (hp1 : (backTo pos (starEach [] X.env)).any (·.1) = false := by rfl) :
    PE X (.Call (.Name "tuple" p) [e] [] pos) (tCB (rTupleN X.K) (tCons te tNil)) :=
  pe_callTy (fun pins s σ H xs us Q I r ⟨p, ys, h1, h2, h3⟩ => call_tuple_of pins s σ H xs us Q I r ⟨p, ys, h1, .inl ⟨h2, h3.ok⟩⟩) hg m (by decide +kernel) (pa_cons h pa_nil hs1) (by decide) (by decide) hs1 hp1
end
def rSlLN (K : PySem.W.Frag) : V → Option Int → Option Int → Hp → VK → Prop := fun x lo hi H Q => ∃ a xs, x = .ref a ∧ SqL K H a xs ∧ New (.lst (cutV xs lo hi)) H Q
theorem sl_listN {X : Cx} : SlR X (rSlLN X.K) := fun pins s σ H x v vl vu lo hi sl Q I rx hs pl pu ⟨a, xs, h1, h2, h3⟩ => sl_list pins s σ H x v vl vu lo hi sl Q I rx hs pl pu ⟨a, xs, h1, h2, h3.ok⟩
/-- a written word -/
def tWd (w : List Sy) : TE := fun _ H Q => NewW w H Q
def IsWd (X : Cx) (es : List Expr) (w : List Sy) : Prop := PA X es fun _ H Q => Q (wv w) H
section
variable {X : Cx}
theorem wd_nil : IsWd X [] [] := pa_nil
theorem wd_l {es : List Expr} {w : List Sy} {j : Nat} {k : Nat} {pos : Pos} (h : IsWd X es w) (hs : starEach (.Constant (.int (k : Int)) j pos :: es) X.env = (false, eval (.Constant (.int (k : Int)) j pos) X.env) :: starEach es X.env := by rfl) :
    IsWd X (.Constant (.int (k : Int)) j pos :: es) (.l k :: w) := pa_cons pe_int h hs
theorem wd_s {es : List Expr} {w : List Sy} {z : Str} {sy : Sy} {j : Nat} {pos : Pos} (e : sy.v = .str z) (h : IsWd X es w) (hs : starEach (.Constant (.str z) j pos :: es) X.env = (false, eval (.Constant (.str z) j pos) X.env) :: starEach es X.env := by rfl) :
    IsWd X (.Constant (.str z) j pos :: es) (sy :: w) := by
  have h' : PA X es fun _ H Q => Q (wv w) H := h
  have := pa_cons (pe_str (x := z) (j := j) (pos := pos)) h' hs
  show PA X _ fun _ H Q => Q (sy.v :: wv w) H
  rw [e]
  exact this
theorem pwd {es : List Expr} {w : List Sy} {x1 : Nat} {pos : Pos} (h : IsWd X es w) (hl : w.length ≤ 100) : PE X (.Tuple es x1 pos) (tWd w) :=
  ⟨fun pins s σ H Q I hq => (ptupF h).run pins s σ H Q I ⟨by rw [List.length_map]; exact szl _ (by omega), NewW.of hq rfl⟩⟩
end
/-! ### a reading put in another's place -/
theorem pimp {X : Cx} {e : Expr} {t : TE} (t' : TE) (h : PE X e t) (f : ∀ σ H Q, t' σ H Q → t σ H Q) : PE X e t' := ⟨fun pins s σ H Q I q => h.run pins s σ H Q I (f σ H Q q)⟩
theorem psimp {X : Cx} {st : Stmt} {t : TS} (t' : TS) (h : PS X st t) (f : ∀ D σ H, t' D σ H → t D σ H) : PS X st t' := ⟨fun pins s σ H D I q => h.run pins s σ H D I (f D σ H q)⟩
/-! ### good words by decision -/
def goodC (n L : Nat) (w : List Sy) : Bool := decide (nest w 0 = some 0) && w.all (fun s => match s with | .l k => decide (k < n) | _ => true) && w.any isL && decide (w.length ≤ L) && decide (w.length + 6 ≤ 8 * nL w)
theorem good_dec {n L : Nat} {w : List Sy} (h : goodC n L w = true) : Good n L w := by
  unfold goodC at h
  simp only [Bool.and_eq_true, decide_eq_true_eq, List.all_eq_true] at h
  obtain ⟨⟨⟨⟨h1, h2⟩, h3⟩, h4⟩, h5⟩ := h
  exact ⟨h1, fun k hk => by simpa using h2 _ hk, h3, h4, h5⟩
theorem words_dec {n L : Nat} {ws : List (List Sy)} (h : ws.all (goodC n L) = true) : ∀ w ∈ ws, Good n L w := fun w hw => good_dec (List.all_eq_true.mp h w hw)
end SK
namespace SK
open PySem PySem.Spec PyProof.Rows L2
theorem dp_ints {K : PySem.W.Frag} {H : Hp} : ∀ ss : List Int, DpAll K H (ss.map V.int) (ss.map PyData.int)
  | [] => .nil
  | i :: ss => .cons (.int i) (dp_ints ss)
theorem lay_ints : ∀ ss : List Int, PyData.canLayAll0 (ss.map PyData.int) = true
  | [] => by simp [PyData.canLayAll0]
  | i :: ss => by simp only [List.map_cons, PyData.canLayAll0, PyData.canLay0, Bool.true_and]; exact lay_ints ss
theorem depth_ints : ∀ ss : List Int, PyData.depthAll (ss.map PyData.int) = 0
  | [] => by simp [PyData.depthAll]
  | i :: ss => by simp only [List.map_cons, PyData.depthAll, PyData.depth]; rw [depth_ints ss]; rfl
theorem shaped_ints (ss : List Int) : SeqAt.shaped (.list (ss.map PyData.int)) = true := by
  simp only [SeqAt.shaped, PyData.canLay0, PyData.depth, lay_ints, depth_ints, Bool.true_and]
  decide
theorem eqv_nil (ss : List Int) : PyData.eqv (.list (ss.map PyData.int)) (.list []) = ss.isEmpty := by
  cases ss <;> simp [PyData.eqv, PyData.eqvAll]
/-- xs != [] of whole numbers -/
def rNeNil (K : PySem.W.Frag) : R2 := fun x y H Q => ∃ (a b : Addr) (ss : List Int), x = .ref a ∧ y = .ref b ∧ SqL K H a (ss.map V.int) ∧ H b = some (.lst []) ∧ Q (.bl (!ss.isEmpty)) H
theorem op_neNil {X : Cx} (hu : X.A.units + 64 < cLine) : OpR X (compareOp .NotEq) (rNeNil X.K) := by
  intro pins s σ H x y v u Q I rx ry h
  obtain ⟨a, b, ss, rfl, rfl, h1, h2, q⟩ := h
  refine op_neD hu pins s σ H _ _ v u Q I rx ry ⟨.list (ss.map PyData.int), .list [], .lst h1 (dp_ints ss), .lst (SqL.of h2) .nil, shaped_ints ss, shaped_ints [], ?_⟩
  rw [eqv_nil]
  exact q
/-- where a flat word's path goes -/
def dirE (h : Int) : Int × Int := if h = 0 then (1, 0) else if h = 1 then (0, 1) else if h = 2 then (-1, 0) else (0, -1)
def wstepE (p : Int × Int × Int) : Sy → Int × Int × Int
  | .p => (p.1, p.2.1, (p.2.2 + 1) % 4)
  | .m => (p.1, p.2.1, (p.2.2 + 3) % 4)
  | .l _ => (p.1 + (dirE p.2.2).1, p.2.1 + (dirE p.2.2).2, p.2.2)
  | _ => p
/-- the sum of some steps -/
def sumD : List Int → Int × Int
  | [] => (0, 0)
  | x :: l => ((dirE x).1 + (sumD l).1, (dirE x).2 + (sumD l).2)
theorem sumD_app : ∀ a b : List Int, sumD (a ++ b) = ((sumD a).1 + (sumD b).1, (sumD a).2 + (sumD b).2)
  | [], b => by show sumD b = (0 + _, 0 + _); rw [Int.zero_add, Int.zero_add]
  | x :: a, b => by
    show ((dirE x).1 + (sumD (a ++ b)).1, (dirE x).2 + (sumD (a ++ b)).2) = ((dirE x).1 + (sumD a).1 + (sumD b).1, (dirE x).2 + (sumD a).2 + (sumD b).2)
    rw [sumD_app a b, Int.add_assoc, Int.add_assoc]
theorem sumD_rep (j : Int) : ∀ n : Nat, sumD (List.replicate n j) = ((n : Int) * (dirE j).1, (n : Int) * (dirE j).2)
  | 0 => by show (0, 0) = _; rw [Int.natCast_zero, Int.zero_mul, Int.zero_mul]
  | n + 1 => by
    show ((dirE j).1 + (sumD (List.replicate n j)).1, (dirE j).2 + (sumD (List.replicate n j)).2) = _
    rw [sumD_rep j n, Int.natCast_succ, Int.add_mul, Int.add_mul, Int.one_mul, Int.one_mul, Int.add_comm, Int.add_comm (dirE j).2]
theorem sumD_erase : ∀ {l : List Int} {i : Nat} {x : Int}, l[i]? = some x → sumD l = ((dirE x).1 + (sumD (l.eraseIdx i)).1, (dirE x).2 + (sumD (l.eraseIdx i)).2)
  | y :: l, 0, x, h => by cases h; rfl
  | y :: l, i + 1, x, h => by
    have e := sumD_erase (l := l) (i := i) h
    show ((dirE y).1 + (sumD l).1, (dirE y).2 + (sumD l).2) = ((dirE x).1 + ((dirE y).1 + (sumD (l.eraseIdx i)).1), (dirE x).2 + ((dirE y).2 + (sumD (l.eraseIdx i)).2))
    rw [e]
    refine Prod.ext ?_ ?_ <;> dsimp only <;> omega
def In4 (ss : List Int) : Prop := ∀ x ∈ ss, 0 ≤ x ∧ x < 4
theorem dir_back {x : Int} (h : 0 ≤ x ∧ x < 4) : sumD [x, (x + 2) % 4] = (0, 0) := by
  have e : x = 0 ∨ x = 1 ∨ x = 2 ∨ x = 3 := by omega
  rcases e with rfl | rfl | rfl | rfl <;> rfl
/-- turns that come to m -/
def TurnsBy (tt : List Sy) (m : Int) : Prop := ∀ p : Int × Int × Int, 0 ≤ p.2.2 ∧ p.2.2 < 4 → tt.foldl wstepE p = (p.1, p.2.1, (p.2.2 + m) % 4)
theorem turn_m : TurnsBy [.m] 3 := fun p _ => rfl
theorem turn_rep : ∀ n : Nat, TurnsBy (List.replicate n .p) n
  | 0 => fun p h => by
    show p = (p.1, p.2.1, (p.2.2 + ((0 : Nat) : Int)) % 4)
    refine Prod.ext rfl (Prod.ext rfl ?_)
    show p.2.2 = (p.2.2 + ((0 : Nat) : Int)) % 4
    omega
  | n + 1 => fun p h => by
    show (List.replicate n Sy.p).foldl wstepE (p.1, p.2.1, (p.2.2 + 1) % 4) = _
    rw [turn_rep n _ ⟨Int.emod_nonneg _ (by decide), Int.emod_lt_of_pos _ (by decide)⟩]
    refine Prod.ext rfl (Prod.ext rfl ?_)
    show ((p.2.2 + 1) % 4 + (n : Int)) % 4 = (p.2.2 + ((n + 1 : Nat) : Int)) % 4
    omega
def spEvenWord (K : PySem.W.Frag) : Sp := fun vs H Q _ => ∃ (r t : Addr) (S : Scr) (n : Nat) (u v : Int), vs = [.ref r, .int n, .ref t] ∧ RowOk K S H r ∧ H t = some (.tup [.int u, .int v]) ∧ u.natAbs + v.natAbs ≤ 3 ∧ 2 ≤ u.natAbs + v.natAbs ∧ 1 ≤ n ∧ n ≤ 8 ∧
  ∀ (H' : Hp) (p : Addr) (w' : List Sy), Drawn K S r H H' → WdAt H' p w' → Flat n 17 w' → w'.foldl wstepE (0, 0, 0) = (u, v, 0) → Q (.ref p) H'
theorem rep_ints (n : Nat) (i : Int) : (List.replicate n [V.int i]).flatten = (List.replicate n i).map V.int := by
  induction n with
  | zero => rfl
  | succ n ih => rw [List.replicate_succ, List.flatten_cons, ih]; rfl
theorem rep_sy (n : Nat) (s : Sy) : (List.replicate n [s.v]).flatten = wv (List.replicate n s) := by
  induction n with
  | zero => rfl
  | succ n ih => rw [List.replicate_succ, List.flatten_cons, ih]; rfl
theorem abs_if (i : Int) : (if i < 0 then -i else i) = (i.natAbs : Int) := by split <;> omega
/-- the turns ahead of a stroke -/
theorem turns_of {t : List Sy} (h : t = [.m] ∨ ∃ j, t = List.replicate j .p) : (∀ s ∈ t, isB s = false ∧ isL s = false) := by
  rcases h with rfl | ⟨j, rfl⟩
  · decide
  · intro s hs
    rw [List.eq_of_mem_replicate hs]
    exact ⟨rfl, rfl⟩
section
variable {X : Cx}
theorem pabs {e : Expr} {te : TE} {p pos : Pos} (m : X.mg "abs" = none) (h : PE X e te) (hg : Gl X "abs" := by rfl) (hs1 : starEach [e] X.env = (false, eval e X.env) :: starEach [] X.env := by rfl) (hp1 : (backTo pos (starEach [] X.env)).any (·.1) = false := by rfl) :
    PE X (.Call (.Name "abs" p) [e] [] pos) (tCB (fun xs H Q => ∃ i : Int, xs = [.int i] ∧ Q (.int (i.natAbs : Int)) H) (tCons te tNil)) := by
  refine pe_callB (fun pins s σ H xs us Q I r ⟨i, h1, q⟩ => call_abs pins s σ H xs us Q I r ⟨i, h1, ?_⟩) hg m (by decide +kernel) (pa_cons h pa_nil hs1) (by decide) (by decide) hs1 hp1
  rw [abs_if]
  exact q
end
section
variable {P : Program} {w : World} {K : PySem.W.Frag} {mg : Str → Option Value} {base : Heap}
theorem erase_map {α β : Type} (f : α → β) : ∀ (l : List α) (i : Nat), (l.map f).eraseIdx i = (l.eraseIdx i).map f
  | [], _ => rfl
  | _ :: _, 0 => rfl
  | x :: l, i + 1 => by
    show f x :: (l.map f).eraseIdx i = f x :: (l.eraseIdx i).map f
    rw [erase_map f l i]
def tHalf (t : Addr) (u v i jp jm : Int) : TE := fun σ H Q => σ[2]? = some (some (.ref t)) ∧ H t = some (.tup [.int u, .int v]) ∧ ∀ (H2 : Hp) (p : Addr) (j : Int), Same H H2 → H p = none → H2 p = some (.lst ((List.replicate i.natAbs j).map V.int)) → (0 < i ∧ j = jp ∨ i ≤ 0 ∧ j = jm) → Q (.ref p) H2
theorem half (H1 : Hp) (i j1 : Int) (Q' : VK) (hi : i.natAbs ≤ 3) (hq : ∀ (H2 : Hp) (p : Addr), Same H1 H2 → H1 p = none → H2 p = some (.lst ((List.replicate i.natAbs j1).map V.int)) → Q' (.ref p) H2)
    (Ha : Hp) (a : Addr) (sa : Same H1 Ha) (ha : Ha a = some (.lst [.int j1])) : rRepN (.ref a) (.int (i.natAbs : Int)) Ha Q' := by
  refine ⟨a, _, _, rfl, rfl, ha, by omega, by omega, szl _ (by rw [Int.toNat_natCast]; show 1 * i.natAbs ≤ 16777216; omega), fun H2 p s2 n2 h2 => ?_⟩
  rw [Int.toNat_natCast, rep_ints] at h2
  exact hq H2 p (sa.trans s2) (sa.free n2) h2
/-- the turns ahead of a stroke -/
def tTurns : TE := fun σ H Q => ∃ m : Int, σ[8]? = some (some (.int m)) ∧ 0 ≤ m ∧ m < 4 ∧ ∀ (H2 : Hp) (p : Addr) (tt : List Sy), Same H H2 → H p = none → H2 p = some (.lst (wv tt)) → (∀ s ∈ tt, isB s = false ∧ isL s = false) → tt.length ≤ 2 → TurnsBy tt m → Q (.ref p) H2
/-- the two steps more, there and back -/
def tMore (K : PySem.W.Frag) (n : Nat) : TS := fun D σ H => ∃ (r t sa : Addr) (S : Scr) (ss : List Int) (y4 y5 y6 y7 y8 : Option V), σ = [some (.ref r), some (.int n), some (.ref t), some (.ref sa), y4, y5, y6, y7, y8] ∧ RowOk K S H r ∧ sa ≠ r ∧ H sa = some (.lst (ss.map V.int)) ∧ ss.length ≤ 3 ∧ In4 ss ∧
  ∀ (H' : Hp) (sa' : Addr) (ss' : List Int) (y4 : Option V), Drawn K S r H H' → (sa' = sa ∨ H sa' = none) → H' sa' = some (.lst (ss'.map V.int)) → ss.length ≤ ss'.length → ss'.length ≤ ss.length + 2 → In4 ss' → sumD ss' = sumD ss → D.nx [some (.ref r), some (.int n), some (.ref t), some (.ref sa'), y4, y5, y6, y7, y8] H'
theorem m4 (i : Int) : 0 ≤ i % 4 ∧ i % 4 < 4 := ⟨by omega, by omega⟩
theorem SameX.free {r p : Addr} {H H' : Hp} (s : SameX r H H') (hr : p ≠ r) (h : H' p = none) : H p = none := by
  cases q : H p with
  | none => rfl
  | some o => rw [s p o hr q] at h; cases h
theorem Drawn.free {K : PySem.W.Frag} {S : Scr} {r p : Addr} {H H' : Hp} (s : Drawn K S r H H') (h : H' p = none) : H p = none := SameX.free s.same (s.row.there h) h
theorem ok_evenword {f : Addr} {fd : FuncData} {k : Nat} (F : Fun K "_law_even_word" "_law_even_word" s_law_even_word f fd) (GT : Got P w K mg base "_law_taken" k ["row", "many"] (spTaken K))
    (ma : mg "abs" = none) (mi : mg "int" = none) (ml : mg "len" = none) (mT : mg "tuple" = none) : FnOk P w K mg base CX0 (k + 1) f fd ["row", "letters", "move"] (spEvenWord K) := by
  refine F.ok sc_law_even_word (fun vs H Q E h => ?_) (fun cdv A outer s H vs Q E hr h => ?_)
  · obtain ⟨r, t, S, n, u, v, rfl, _⟩ := h
    rfl
  · obtain ⟨r, t, S, n, u, v, rfl, hR, ht, huv, huv1, hn1, hn2, q⟩ := h
    have nd := sc_law_even_word.nd
    have hu3 : u.natAbs ≤ 3 := by omega
    have hv3 : v.natAbs ≤ 3 := by omega
    refine ⟨_, pss_cons (ps_set (i := 3) nd rfl (.inl rfl) (pimp (tHalf t u v u 0 2) (pe_ifExp (pt_cmpR op_gt (pixT (pv 2) pe_int) pe_int (nomark _)) (prepN (plstN (pa_cons pe_int pa_nil)) (pabs ma (pixT (pv 2) pe_int))) (prepN (plstN (pa_cons pe_int pa_nil)) (pabs ma (pixT (pv 2) pe_int))))
          (fun σ H Q ⟨e, h, hq⟩ => ⟨_, e, t, _, _, _, rfl, rfl, SqT.of h, at0, _, _, rfl, rfl, _, rfl, ite2 (fun g => ⟨szl 1, fun Ha a sa na ha => ⟨_, e, t, _, _, _, rfl, rfl, SqT.of (sa _ _ h), at0, _, rfl, half H u 0 Q hu3 (fun H2 p a1 a2 a3 => hq H2 p 0 a1 a2 a3 (.inl ⟨of_decide_eq_true g, rfl⟩)) Ha a sa ha⟩⟩) (fun g => ⟨szl 1, fun Ha a sa na ha => ⟨_, e, t, _, _, _, rfl, rfl, SqT.of (sa _ _ h), at0, _, rfl, half H u 2 Q hu3 (fun H2 p a1 a2 a3 => hq H2 p 2 a1 a2 a3 (.inr ⟨Int.not_lt.mp fun z => g (decide_eq_true z), rfl⟩)) Ha a sa ha⟩⟩)⟩)))
      (pss_cons (ps_set (i := 3) nd rfl (.inl rfl) (pcatN (pv 3) (pimp (tHalf t u v v 1 3) (pe_ifExp (pt_cmpR op_gt (pixT (pv 2) pe_int) pe_int (nomark _)) (prepN (plstN (pa_cons pe_int pa_nil)) (pabs ma (pixT (pv 2) pe_int))) (prepN (plstN (pa_cons pe_int pa_nil)) (pabs ma (pixT (pv 2) pe_int))))
          (fun σ H Q ⟨e, h, hq⟩ => ⟨_, e, t, _, _, _, rfl, rfl, SqT.of h, at1, _, _, rfl, rfl, _, rfl, ite2 (fun g => ⟨szl 1, fun Ha a sa na ha => ⟨_, e, t, _, _, _, rfl, rfl, SqT.of (sa _ _ h), at1, _, rfl, half H v 1 Q hv3 (fun H2 p a1 a2 a3 => hq H2 p 1 a1 a2 a3 (.inl ⟨of_decide_eq_true g, rfl⟩)) Ha a sa ha⟩⟩) (fun g => ⟨szl 1, fun Ha a sa na ha => ⟨_, e, t, _, _, _, rfl, rfl, SqT.of (sa _ _ h), at1, _, rfl, half H v 3 Q hv3 (fun H2 p a1 a2 a3 => hq H2 p 3 a1 a2 a3 (.inr ⟨Int.not_lt.mp fun z => g (decide_eq_true z), rfl⟩)) Ha a sa ha⟩⟩)⟩))))
      (pss_cons (psimp (tMore K n) (ps_if (pt_cmpR op_eq (pcall GT hr (pa_cons (pv 0) (pa_cons pe_int pa_nil))) pe_int (nomark _))
        (pss_cons (ps_set (i := 4) nd rfl (.inl rfl) (pcall GT hr (pa_cons (pv 0) (pa_cons pe_int pa_nil))))
          (pss_one (ps_set (i := 3) nd rfl (.inl rfl) (pcatN (pv 3) (plstN (pa_cons (pv 4) (pa_cons (pmod (pint mi (padd (pv 4) pe_int)) pe_int) pa_nil))))))) pss_nil) ?more)
      (pss_cons (ps_par rfl nd (i := 5) (j := 6) rfl rfl (by decide) rfl rfl (pa_cons (plstN pa_nil) (pa_cons pe_int pa_nil)) (by rfl))
      (pss_cons (ps_while PassesOwn.never (pt_cmpR (op_neNil hr.units) (pv 3) (plstN pa_nil) (nomark _))
        (pss_cons (ps_set (i := 7) nd rfl (.inl rfl) (pe_bm PySem.F.plainAttrs_list PySem.F.slot_list_pop PySem.F.type_list_pop mt_popAt (pv 3) (pa_cons (pcall GT hr (pa_cons (pv 0) (pa_cons (plen ml (pv 3)) pa_nil))) pa_nil)))
        (pss_cons (ps_set (i := 8) nd rfl (.inl rfl) (pmod (pint mi (psub (pv 7) (pv 6))) pe_int))
        (pss_cons (ps_set (i := 5) nd rfl (.inl rfl) (pcatN (pcatN (pv 5) (pimp tTurns (pe_ifExp (pt_cmpR op_eq (pv 8) pe_int (nomark _)) (plstN (pa_cons pe_str pa_nil)) (prepN (plstN (pa_cons pe_str pa_nil)) (pv 8))) ?turns))
            (plstN (pa_cons (pcall GT hr (pa_cons (pv 0) (pa_cons (pv 1) pa_nil))) pa_nil))))
        (pss_one (ps_set (i := 6) nd rfl (.inl rfl) (pv 7)))))))
      (pss_cons (ps_set (i := 8) nd rfl (.inl rfl) (pmod (pint mi (psub pe_int (pv 6))) pe_int))
      (pss_one (ps_ret (ptupleF mT (pcatN (pv 5) (pimp tTurns (pe_ifExp (pt_cmpR op_eq (pv 8) pe_int (nomark _)) (plstN (pa_cons pe_str pa_nil)) (prepN (plstN (pa_cons pe_str pa_nil)) (pv 8))) ?turns2)))))))))), ?_⟩
    case more =>
      rintro D σ H ⟨r, t, sa, S, ss, y4, y5, y6, y7, y8, rfl, hR, nsr, hs, hl, hin, q⟩
      refine ⟨_, rfl, r, S, 3, rfl, hR, by decide, by decide, fun H1 k1 D1 _ => ⟨rfl, _, rfl, ite2 (fun _ => ?_) (fun _ => ?_)⟩⟩
      · refine ⟨_, rfl, r, S, 4, rfl, D1.row, by decide, by decide, fun H2 k2 D2 hk2 => ?_⟩
        have D12 := D1.trans D2
        refine ⟨_, rfl, _, rfl, _, rfl, _, _, rfl, rfl, .inl ⟨_, rfl, _, _, rfl, rfl, (show (0 : Int) < 4 by decide), szl 2, fun H3 l s3 n3 h3 => ?_⟩⟩
        refine ⟨sa, l, _, _, rfl, rfl, s3 _ _ (D12.at nsr hs), h3, szl _ (by simp only [List.length_map, List.length_cons, List.length_nil]; omega), fun H4 p s4 n4 h4 => ?_⟩
        refine q H4 p (ss ++ [(k2 : Int), ((k2 : Int) + 2) % 4]) _ ((D12.then s3).then s4) (.inr (D12.free (s3.free n4))) ?_ (by simp) (by simp) ?_ ?_
        · rw [h4, List.map_append]; rfl
        · intro x hx
          rcases List.mem_append.mp hx with h | h
          · exact hin x h
          · simp only [List.mem_cons, List.not_mem_nil, or_false] at h
            rcases h with rfl | rfl <;> omega
        · rw [sumD_app, dir_back (by omega)]
          refine Prod.ext ?_ ?_ <;> dsimp only <;> omega
      · exact q H1 sa ss _ D1 (.inl rfl) (D1.at nsr hs) (Nat.le_refl _) (by omega) hin rfl
    case turns =>
      rintro σ H Q ⟨m, e, h0, h4, hq⟩
      refine ⟨_, e, rfl, _, rfl, ite2 (fun e => ?_) (fun e => ?_)⟩
      · obtain rfl : m = 3 := by have e := of_decide_eq_true e; injection e
        exact ⟨szl 1, fun H2 p s2 n2 h2 => hq H2 p [.m] s2 n2 h2 (by decide) (by decide) turn_m⟩
      · have hm : m ≠ 3 := fun z => e (decide_eq_true (by rw [z]))
        refine ⟨szl 1, fun Ha a sa na ha => ⟨_, ‹_›, a, m, _, rfl, rfl, ha, by omega, by omega, szl _ (by show 1 * m.toNat ≤ 16777216; omega), fun H2 p s2 n2 h2 => ?_⟩⟩
        have h2' : H2 p = some (.lst (wv (List.replicate m.toNat .p))) := by rw [← rep_sy]; exact h2
        exact hq H2 p _ (sa.trans s2) (sa.free n2) h2' (turns_of (.inr ⟨_, rfl⟩)) (by rw [List.length_replicate]; omega) (by have := turn_rep m.toNat; rw [Int.toNat_of_nonneg h0] at this; exact this)
    case turns2 =>
      rintro σ H Q ⟨m, e, h0, h4, hq⟩
      refine ⟨_, e, rfl, _, rfl, ite2 (fun e => ?_) (fun e => ?_)⟩
      · obtain rfl : m = 3 := by have e := of_decide_eq_true e; injection e
        exact ⟨szl 1, fun H2 p s2 n2 h2 => hq H2 p [.m] s2 n2 h2 (by decide) (by decide) turn_m⟩
      · have hm : m ≠ 3 := fun z => e (decide_eq_true (by rw [z]))
        refine ⟨szl 1, fun Ha a sa na ha => ⟨_, ‹_›, a, m, _, rfl, rfl, ha, by omega, by omega, szl _ (by show 1 * m.toNat ≤ 16777216; omega), fun H2 p s2 n2 h2 => ?_⟩⟩
        have h2' : H2 p = some (.lst (wv (List.replicate m.toNat .p))) := by rw [← rep_sy]; exact h2
        exact hq H2 p _ (sa.trans s2) (sa.free n2) h2' (turns_of (.inr ⟨_, rfl⟩)) (by rw [List.length_replicate]; omega) (by have := turn_rep m.toNat; rw [Int.toNat_of_nonneg h0] at this; exact this)
    -- steps
    refine ⟨rfl, ht, fun H1 p1 j1 S1 n1 h1 l1 => ?_⟩
    refine ⟨_, rfl, rfl, S1 _ _ ht, fun H2 p2 j2 S2 n2 h2 l2 => ?_⟩
    obtain ⟨s1, es1⟩ : ∃ s1, s1 = List.replicate u.natAbs j1 := ⟨_, rfl⟩
    obtain ⟨s2, es2⟩ : ∃ s2, s2 = List.replicate v.natAbs j2 := ⟨_, rfl⟩
    have d1 : In4 s1 ∧ sumD s1 = (u, 0) ∧ s1.length = u.natAbs := by
      refine ⟨fun x hx => ?_, ?_, by rw [es1, List.length_replicate]⟩
      · rw [es1] at hx
        rw [List.eq_of_mem_replicate hx]
        rcases l1 with ⟨_, rfl⟩ | ⟨_, rfl⟩ <;> decide
      · rw [es1, sumD_rep]
        rcases l1 with ⟨z, rfl⟩ | ⟨z, rfl⟩
        · show ((u.natAbs : Int) * 1, (u.natAbs : Int) * 0) = _
          refine Prod.ext ?_ ?_ <;> dsimp only <;> omega
        · show ((u.natAbs : Int) * -1, (u.natAbs : Int) * 0) = _
          refine Prod.ext ?_ ?_ <;> dsimp only <;> omega
    have d2 : In4 s2 ∧ sumD s2 = (0, v) ∧ s2.length = v.natAbs := by
      refine ⟨fun x hx => ?_, ?_, by rw [es2, List.length_replicate]⟩
      · rw [es2] at hx
        rw [List.eq_of_mem_replicate hx]
        rcases l2 with ⟨_, rfl⟩ | ⟨_, rfl⟩ <;> decide
      · rw [es2, sumD_rep]
        rcases l2 with ⟨z, rfl⟩ | ⟨z, rfl⟩
        · show ((v.natAbs : Int) * 0, (v.natAbs : Int) * 1) = _
          refine Prod.ext ?_ ?_ <;> dsimp only <;> omega
        · show ((v.natAbs : Int) * 0, (v.natAbs : Int) * -1) = _
          refine Prod.ext ?_ ?_ <;> dsimp only <;> omega
    rw [← es1] at h1
    rw [← es2] at h2
    clear es1 es2 l1 l2
    obtain ⟨i1, d1, l1⟩ := d1
    obtain ⟨i2, d2, l2⟩ := d2
    have i12 : In4 (s1 ++ s2) := fun x hx => (List.mem_append.mp hx).elim (i1 x) (i2 x)
    have d12 : sumD (s1 ++ s2) = (u, v) := by rw [sumD_app, d1, d2]; refine Prod.ext ?_ ?_ <;> dsimp only <;> omega
    refine ⟨p1, p2, _, _, rfl, rfl, S2 _ _ h1, h2, szl _ (by simp only [List.length_map]; omega), fun H3 p3 S3 n3 h3 => ?_⟩
    rw [← List.map_append] at h3
    have S03 : Same H H3 := (S1.trans S2).trans S3
    have D3 : Drawn K S r H H3 := (Drawn.refl hR).then S03
    have n3' : H p3 = none := S1.free (S2.free n3)
    have nr3 : p3 ≠ r := hR.there n3'
    refine ⟨r, t, p3, S, s1 ++ s2, _, _, _, _, _, rfl, D3.row, nr3, h3, by rw [List.length_append]; omega, i12, fun H4 p4 s4 y4 D4 hp4 h4 hl4 hl4' i4 d4 => ?_⟩
    rw [d12] at d4
    rw [List.length_append] at hl4 hl4'
    have D04 := D3.trans D4
    have n4' : H p4 = none := by
      rcases hp4 with e | e
      · rw [e]; exact n3'
      · exact S03.free e
    -- found, heading = [], 0
    refine ⟨szl 0, fun H5 p5 S5 n5 h5 => ⟨_, _, rfl, ?_⟩⟩
    have D05 := D04.then S5
    refine ⟨fun m σ H' => ∃ (fa : Addr) (ss : List Int) (ws : List Sy) (hd : Int) (y4 y7 y8 : Option V), σ = [some (.ref r), some (.int n), some (.ref t), some (.ref p4), y4, some (.ref fa), some (.int hd), y7, y8] ∧ Drawn K S r H H' ∧
      H' p4 = some (.lst (ss.map V.int)) ∧ H' fa = some (.lst (wv ws)) ∧ fa ≠ r ∧ fa ≠ p4 ∧ ss.length = m ∧ (∀ s ∈ ws, isB s = false) ∧ (∀ k, Sy.l k ∈ ws → k < n) ∧ ws.length + 3 * m ≤ 15 ∧ (1 ≤ m ∨ ws.any isL = true) ∧ 2 ≤ nL ws + m ∧ ws.length ≤ 3 * nL ws ∧ In4 ss ∧ (0 ≤ hd ∧ hd < 4) ∧ ws.foldl wstepE (0, 0, 0) = (u - (sumD ss).1, v - (sumD ss).2, hd),
      ⟨s4.length, p5, s4, [], 0, _, _, _, rfl, D05, S5 _ _ h4, h5, D04.row.there n5, (ne_of_none h4 n5).symm, rfl, by decide, (fun k h => nomatch h), (by simp only [List.length_nil]; omega), .inl (by omega), (by omega), (by decide), i4, (by decide), by rw [d4]; show (0, 0, 0) = (u - u, v - v, 0); rw [Int.sub_self, Int.sub_self]⟩, ?_⟩
    rintro m σ H' ⟨fa, ss, ws, hd, y4, y7, y8, rfl, D, hs, hf, nfr, nfp, hm, f1, f2, f3, f4, f5, f6, f7, f8, f9⟩
    have nr4 : p4 ≠ r := hR.there n4'
    refine ⟨_, rfl, szl 0, fun H6 p6 S6 n6 h6 => ?_⟩
    have D6 := D.then S6
    have hs6 := S6 _ _ hs
    have hf6 := S6 _ _ hf
    refine ⟨p4, p6, ss, rfl, rfl, SqL.of hs6, h6, _, rfl, ?_⟩
    cases ss with
    | nil =>
      refine iteF ?_
      have hm0 : m = 0 := hm.symm
      subst hm0
      have f4' : ws.any isL = true := f4.resolve_left (by omega)
      refine ⟨_, rfl, _, _, rfl, rfl, .inl ⟨_, rfl, _, _, rfl, rfl, (show (0 : Int) < 4 by decide), ?_⟩⟩
      refine ⟨_, rfl, _, rfl, (m4 _).1, (m4 _).2, fun H7 p7 tt S7 n7 h7 b7 l7 u7 => ?_⟩
      refine ⟨fa, p7, _, _, rfl, rfl, S7 _ _ hf6, h7, szl _ (by simp only [List.length_map]; omega), fun H8 p8 S8 n8 h8 => ?_⟩
      refine ⟨p8, _, rfl, SqL.of h8, NewW.of (fun H9 p9 S9 n9 h9 => ?_) (w := ws ++ tt) (by simp only [wv, List.map_append])⟩
      have fin : (ws ++ tt).foldl wstepE (0, 0, 0) = (u, v, 0) := by
        rw [List.foldl_append, f9, u7 _ f8]
        refine Prod.ext ?_ (Prod.ext ?_ ?_)
        · show u - 0 = u; omega
        · show v - 0 = v; omega
        · show (hd + (0 - hd) % 4) % 4 = 0; omega
      refine q H9 p9 (ws ++ tt) (((D6.then S7).then S8).then S9) h9 ⟨?_, ?_, ?_, ?_, ?_⟩ fin
      · intro s hs
        rcases List.mem_append.mp hs with h | h
        · exact f1 s h
        · exact (b7 s h).1
      · intro j hj
        rcases List.mem_append.mp hj with h | h
        · exact f2 j h
        · have := (b7 _ h).2; cases this
      · rw [List.any_append, f4']; rfl
      · rw [List.length_append]; omega
      · rw [List.length_append, nL_app]; omega
    | cons s0 sr =>
      refine iteT ?_
      refine ⟨fun σ' H' => ∃ (fa : Addr) (ss : List Int) (ws : List Sy) (hd : Int) (y4 y7 y8 : Option V), σ' = [some (.ref r), some (.int n), some (.ref t), some (.ref p4), y4, some (.ref fa), some (.int hd), y7, y8] ∧ Drawn K S r H H' ∧
        H' p4 = some (.lst (ss.map V.int)) ∧ H' fa = some (.lst (wv ws)) ∧ fa ≠ r ∧ fa ≠ p4 ∧ ss.length + 1 = m ∧ (∀ s ∈ ws, isB s = false) ∧ (∀ k, Sy.l k ∈ ws → k < n) ∧ ws.length + 3 * (m - 1) ≤ 15 ∧ (ws.any isL = true) ∧ 2 ≤ nL ws + (m - 1) ∧ ws.length ≤ 3 * nL ws ∧ In4 ss ∧ (0 ≤ hd ∧ hd < 4) ∧ ws.foldl wstepE (0, 0, 0) = (u - (sumD ss).1, v - (sumD ss).2, hd), ?_, ?_⟩
      · rintro σ' H' ⟨fa, ss, ws, hd, y4, y7, y8, rfl, D, hs, hf, nfr, nfp, hm, f1, f2, f3, f4, f5, f6, f789⟩
        exact ⟨m - 1, by omega, fa, ss, ws, hd, y4, y7, y8, rfl, D, hs, hf, nfr, nfp, by omega, f1, f2, f3, .inr f4, f5, f6, f789⟩
      · refine ⟨_, rfl, .inl ⟨rfl, _, SqL.of hs6⟩, _, rfl, _, rfl, p4, _, rfl, .inl (SqL.of hs6), r, S, (s0 :: sr).length, ?_, D6.row, by simp, ?_, fun H7 k7 D7 hk7 => ?_⟩
        · rw [List.length_map]; rfl
        · rw [hm]; omega
        have hs7 := D7.at nr4 hs6
        have hf7 := D7.at nfr hf6
        have hk7' : k7 < ((s0 :: sr).map V.int).length := by rw [List.length_map]; exact hk7
        have sx : seqIndex? (k7 : Int) ((s0 :: sr).map V.int).length = some k7 := by
          have := seqIndex_of (n := ((s0 :: sr).map V.int).length) (k := (k7 : Int)) (by omega) (by omega)
          rw [this, Int.toNat_natCast]
        have gx : ((s0 :: sr).map V.int)[k7]? = some (.int (s0 :: sr)[k7]) := by
          rw [List.getElem?_map, List.getElem?_eq_getElem hk7]; rfl
        have xe := List.getElem?_eq_getElem hk7
        have x4 := f7 _ (List.mem_of_getElem? xe)
        have sd := sumD_erase xe
        have in8 : In4 ((s0 :: sr).eraseIdx k7) := fun y hy => f7 y (List.mem_of_mem_eraseIdx hy)
        generalize (s0 :: sr)[k7] = x at gx xe x4 sd
        refine ⟨p4, _, _, k7, _, rfl, rfl, hs7, by omega, by omega, sx, gx, ?_⟩
        have D8 : Drawn K S r H (upd H7 p4 (.lst (((s0 :: sr).map V.int).eraseIdx k7))) := (D6.trans D7).put hR n4'
        have hs8 : (upd H7 p4 (.lst (((s0 :: sr).map V.int).eraseIdx k7))) p4 = some (.lst (((s0 :: sr).eraseIdx k7).map V.int)) := by rw [upd_same, erase_map]
        have hf8 : (upd H7 p4 (.lst (((s0 :: sr).map V.int).eraseIdx k7))) fa = some (.lst (wv ws)) := by rw [upd_ne nfp]; exact hf7
        have hl8 : ((s0 :: sr).eraseIdx k7).length + 1 = m := by
          rw [List.length_eraseIdx_of_lt hk7, ← hm]
          simp only [List.length_cons]; omega
        generalize (upd H7 p4 (.lst (((s0 :: sr).map V.int).eraseIdx k7))) = H8 at D8 hs8 hf8
        generalize (s0 :: sr).eraseIdx k7 = ss8 at hs8 hl8 sd in8
        refine ⟨_, rfl, _, rfl, _, _, rfl, rfl, .inl ⟨_, rfl, _, _, rfl, rfl, (show (0 : Int) < 4 by decide), ?_⟩⟩
        refine ⟨_, rfl, _, rfl, (m4 _).1, (m4 _).2, fun H9 p9 tt S9 n9 h9 b9 l9 u9 => ?_⟩
        refine ⟨fa, p9, _, _, rfl, rfl, S9 _ _ hf8, h9, szl _ (by simp only [List.length_map]; omega), fun Ha pa Sa na ha => ?_⟩
        have Da := (D8.then S9).then Sa
        refine ⟨_, rfl, _, rfl, r, S, n, rfl, Da.row, hn1, by omega, fun Hb kb Db hkb => ?_⟩
        refine ⟨szl 1, fun Hc pc Sc nc hc => ?_⟩
        have npr : pa ≠ r := (D8.then S9).row.there na
        refine ⟨pa, pc, _, _, rfl, rfl, Sc _ _ (Db.at npr ha), hc, szl _ (by simp only [List.length_append, List.length_map, List.length_cons, List.length_nil]; omega), fun Hd pd Sd nd hdl => ?_⟩
        have Dd := (((Da.trans Db).then Sc).then Sd)
        have hsd := Sd _ _ (Sc _ _ (Db.at nr4 (Sa _ _ (S9 _ _ hs8))))
        refine ⟨_, rfl, pd, ss8, ws ++ tt ++ [.l kb], _, _, _, _, rfl, Dd, hsd, ?_, (((Da.trans Db).then Sc).row.there nd), (ne_of_none (Sc _ _ (Db.at nr4 (Sa _ _ (S9 _ _ hs8)))) nd).symm, hl8, ?_, ?_, ?_, ?_, ?_, ?_, in8, x4, ?_⟩
        · rw [hdl, wv, wv, wv, List.map_append, List.map_append]; rfl
        · intro s hs
          rcases List.mem_append.mp hs with h | h
          · rcases List.mem_append.mp h with h | h
            · exact f1 s h
            · exact (b9 s h).1
          · rw [List.mem_singleton.mp h]; rfl
        · intro j hj
          rcases List.mem_append.mp hj with h | h
          · rcases List.mem_append.mp h with h | h
            · exact f2 j h
            · have := (b9 _ h).2; cases this
          · cases List.mem_singleton.mp h; exact hkb
        · simp only [List.length_append, List.length_singleton]; omega
        · rw [List.any_append]; simp [isL]
        · have e1 : nL [Sy.l kb] = 1 := rfl
          rw [nL_app, nL_app, e1]; omega
        · have e1 : nL [Sy.l kb] = 1 := rfl
          rw [nL_app, nL_app, e1]
          simp only [List.length_append, List.length_singleton]; omega
        · rw [List.foldl_append, List.foldl_append, f9, u9 _ f8, sd]
          have eh : (hd + (x - hd) % 4) % 4 = x := by omega
          show wstepE (u - ((dirE x).1 + (sumD ss8).1), v - ((dirE x).2 + (sumD ss8).2), (hd + (x - hd) % 4) % 4) (Sy.l kb) = _
          rw [eh]
          refine Prod.ext ?_ (Prod.ext ?_ rfl)
          · show u - ((dirE x).1 + (sumD ss8).1) + (dirE x).1 = u - (sumD ss8).1; omega
          · show v - ((dirE x).2 + (sumD ss8).2) + (dirE x).2 = v - (sumD ss8).2; omega
end
end SK
namespace SK
open PySem PySem.Spec PyProof.Rows L2
def spEvenBook (K : PySem.W.Frag) : Sp := fun vs H Q _ => ∃ (r : Addr) (S : Scr), vs = [.ref r] ∧ RowOk K S H r ∧
  ∀ (H' : Hp) (p b m : Addr) (ws : List (List Sy)) (st : List Sy), Drawn K S r H H' → H' p = some (.tup [.ref b, .ref m]) → BookAt H' b ws st → GoodBook ws st → Q (.ref p) H'
/-- words whose paths go (u, v) on, no turning in all, but for a branch -/
def EvenWs (u v : Int) (ws : List (List Sy)) : Prop := ws.length ≤ 2 ∧ ∀ w ∈ ws, ∃ w0 : List Sy, (∀ s ∈ w0, isB s = false) ∧ w0.foldl wstepE (0, 0, 0) = (u, v, 0) ∧ Br w0 w
def spEvenBookE (K : PySem.W.Frag) : Sp := fun vs H Q _ => ∃ (r : Addr) (S : Scr), vs = [.ref r] ∧ RowOk K S H r ∧
  ∀ (H' : Hp) (p b m : Addr) (ws : List (List Sy)) (st : List Sy) (u v : Int), Drawn K S r H H' → H' p = some (.tup [.ref b, .ref m]) → BookAt H' b ws st → GoodBook ws st → H' m = some (.tup [.int u, .int v]) → EvenWs u v ws → 2 ≤ u.natAbs + v.natAbs ∧ u.natAbs + v.natAbs ≤ 3 → Q (.ref p) H'
theorem good_start {n : Nat} (h : 1 ≤ n) : Good n 40 [.l (n - 1), .l 0] := ⟨rfl, fun k hk => by
  simp only [List.mem_cons, List.not_mem_nil, or_false] at hk
  rcases hk with e | e <;> cases e <;> omega, rfl, by show 2 ≤ 40; decide, by show 2 + 6 ≤ 8 * 2; decide⟩
theorem good_up {n L : Nat} {w : List Sy} (h : Good 1 L w) (hn : 1 ≤ n) : Good n L w := ⟨h.nst, fun k hk => Nat.lt_of_lt_of_le (h.lets k hk) hn, h.has, h.len, h.slim⟩
section
variable {P : Program} {w : World} {K : PySem.W.Frag} {mg : Str → Option Value} {base : Heap}
theorem ok_evenbookE {f : Addr} {fd : FuncData} {k : Nat} (F : Fun K "_law_even_book" "_law_even_book" s_law_even_book f fd) (GT : Got P w K mg base "_law_taken" k ["row", "many"] (spTaken K)) (GP : Got P w K mg base "_law_pick" k ["row", "things"] (spPick K))
    (GW : Got P w K mg base "_law_even_word" k ["row", "letters", "move"] (spEvenWord K)) (GB : Got P w K mg base "_law_branched" k ["row", "word", "letters"] (spBranched K))
    (mR : mg "range" = none) (mT : mg "tuple" = none) : FnOk P w K mg base CX0 (k + 1) f fd ["row"] (spEvenBookE K) := by
  refine F.ok sc_law_even_book (fun vs H Q E h => ?_) (fun cdv A outer s H vs Q E hr h => ?_)
  · obtain ⟨r, S, rfl, _⟩ := h
    rfl
  · obtain ⟨r, S, rfl, hR, q⟩ := h
    have nd := sc_law_even_book.nd
    refine ⟨_, pss_cons (ps_asg (ptupN (pa_cons (padd pe_int (pcall GT hr (pa_cons (pv 0) (pa_cons pe_int pa_nil)))) (pa_cons (pcall GP hr (pa_cons (pv 0) (pa_cons (plstN (pa_cons (ptupN (pa_cons pe_int (pa_cons pe_int pa_nil))) (pa_cons (ptupN (pa_cons pe_int (pa_cons pe_int pa_nil))) (pa_cons (ptupN (pa_cons pe_int (pa_cons pe_int pa_nil))) (pa_cons (ptupN (pa_cons pe_int (pa_cons pe_int pa_nil))) (pa_cons (ptupN (pa_cons pe_int (pa_cons (pe_un un_neg pe_int) pa_nil))) (pa_cons (ptupN (pa_cons (pe_un un_neg pe_int) (pa_cons pe_int pa_nil))) (pa_cons (ptupN (pa_cons pe_int (pa_cons pe_int pa_nil))) (pa_cons (ptupN (pa_cons pe_int (pa_cons pe_int pa_nil))) (pa_cons (ptupN (pa_cons pe_int (pa_cons pe_int pa_nil))) pa_nil)))))))))) pa_nil))) pa_nil)))
        (pg_tup (by rfl) (pgs_cons (pg_name (i := 1) nd rfl (.inr rfl)) (pgs_cons (pg_name (i := 2) nd rfl (.inr rfl)) pgs_nil))))
      (pss_cons (ps_set (i := 3) nd rfl (.inl rfl) (ptupleN mT
          (pe_lc (own := [("k", 5)]) (g := gName 5) (tt := tYes) rfl nd (pi_range1 rfl mR (pa_cons (pv 1) pa_nil)) (blkOk_by (N := n_law_even_book) (sc := defScope s_law_even_book) (by decide +kernel))
            (fun _ _ _ _ _ => pg_name (i := 5) nd rfl (Or.inl rfl)) (fun _ _ _ _ _ => pts_nil)
            (fun _ _ _ _ _ => pcall GB hr (pa_cons (pv 0) (pa_cons (pcall GW hr (pa_cons (pv 0) (pa_cons (pv 1) (pa_cons (pv 2) pa_nil)))) (pa_cons (pv 1) pa_nil)))))))
      (pss_cons (ps_set (i := 4) nd rfl (.inl rfl) (pcall GP hr (pa_cons (pv 0) (pa_cons (plstN (pa_cons (pwd (wd_l (k := 0) wd_nil) (by decide)) (pa_cons (pwd (wd_l (k := 0) wd_nil) (by decide)) (pa_cons (pwd (wd_l (k := 0) (wd_s (sy := .p) rfl (wd_l (k := 0) wd_nil))) (by decide)) (pa_cons (pwd (wd_l (k := 0) (wd_s (sy := .p) rfl (wd_l (k := 0) (wd_s (sy := .p) rfl (wd_l (k := 0) (wd_s (sy := .p) rfl (wd_l (k := 0) wd_nil))))))) (by decide)) (pa_cons (ptupF (pa_cons (psub (pv 1) pe_int) (pa_cons pe_int pa_nil))) pa_nil)))))) pa_nil))))
      (pss_one (ps_ret (ptupN (pa_cons (ptupN (pa_cons (pv 3) (pa_cons (pv 4) pa_nil))) (pa_cons (pv 2) pa_nil))))))), ?_⟩
    refine ⟨_, rfl, r, S, 2, rfl, hR, by decide, by decide, fun H1 k1 D1 hk1 => ?_⟩
    obtain ⟨n, hn⟩ : ∃ n : Nat, n = 1 + k1 := ⟨_, rfl⟩
    have hn1 : 1 ≤ n := by omega
    have hn2 : n ≤ 8 := by omega
    have hn3 : n ≤ 3 := by omega
    have hn4 : n ≤ 2 := by omega
    refine ⟨1, _, rfl, rfl, ?_⟩
    have en : (V.int (1 + (k1 : Int))) = V.int (n : Int) := by rw [hn]; congr 1
    dsimp only
    rw [en]
    clear en hn hk1
    refine ⟨_, rfl, ?_⟩
    refine ⟨szl 2, fun M0 a0 s0 n0 h0 => ?_⟩
    refine ⟨szl 2, fun M1 a1 s1 n1 h1 => ?_⟩
    refine ⟨szl 2, fun M2 a2 s2 n2 h2 => ?_⟩
    refine ⟨szl 2, fun M3 a3 s3 n3 h3 => ?_⟩
    refine ⟨_, rfl, szl 2, fun M4 a4 s4 n4 h4 => ?_⟩
    refine ⟨_, rfl, szl 2, fun M5 a5 s5 n5 h5 => ?_⟩
    refine ⟨szl 2, fun M6 a6 s6 n6 h6 => ?_⟩
    refine ⟨szl 2, fun M7 a7 s7 n7 h7 => ?_⟩
    refine ⟨szl 2, fun M8 a8 s8 n8 h8 => ?_⟩
    refine ⟨szl 9, fun M9 a9 s9 n9 h9 => ?_⟩
    have t9 : Same M9 M9 := Same.refl _
    have t8 : Same M8 M9 := s9.trans t9
    have t7 : Same M7 M9 := s8.trans t8
    have t6 : Same M6 M9 := s7.trans t7
    have t5 : Same M5 M9 := s6.trans t6
    have t4 : Same M4 M9 := s5.trans t5
    have t3 : Same M3 M9 := s4.trans t4
    have t2 : Same M2 M9 := s3.trans t3
    have t1 : Same M1 M9 := s2.trans t2
    have t0 : Same M0 M9 := s1.trans t1
    have tm : Same H1 M9 := s0.trans t0
    have u := ((((((((s0.trans s1).trans s2).trans s3).trans s4).trans s5).trans s6).trans s7).trans s8)
    have D2 := D1.then tm
    refine ⟨r, a9, S, _, rfl, D2.row, (D1.then u).row.there n9, h9, (show 1 ≤ 9 by decide), (show 9 < 1073741824 by decide), fun H3 kk v D3 hk => ?_⟩
    have tt := D3.tups D2.row
    obtain ⟨m, mu, mv, rfl, hm, hm1, hm2⟩ : ∃ (m : Addr) (mu mv : Int), v = .ref m ∧ H3 m = some (.tup [.int mu, .int mv]) ∧ mu.natAbs + mv.natAbs ≤ 3 ∧ 2 ≤ mu.natAbs + mv.natAbs := by
      match kk, hk with
      | 0, hk => cases hk; exact ⟨a0, 1, 1, rfl, tt.1 _ _ (t0 _ _ h0), by decide, by decide⟩
      | 1, hk => cases hk; exact ⟨a1, 1, 1, rfl, tt.1 _ _ (t1 _ _ h1), by decide, by decide⟩
      | 2, hk => cases hk; exact ⟨a2, 2, 0, rfl, tt.1 _ _ (t2 _ _ h2), by decide, by decide⟩
      | 3, hk => cases hk; exact ⟨a3, 2, 1, rfl, tt.1 _ _ (t3 _ _ h3), by decide, by decide⟩
      | 4, hk => cases hk; exact ⟨a4, 1, -1, rfl, tt.1 _ _ (t4 _ _ h4), by decide, by decide⟩
      | 5, hk => cases hk; exact ⟨a5, -1, 1, rfl, tt.1 _ _ (t5 _ _ h5), by decide, by decide⟩
      | 6, hk => cases hk; exact ⟨a6, 0, 2, rfl, tt.1 _ _ (t6 _ _ h6), by decide, by decide⟩
      | 7, hk => cases hk; exact ⟨a7, 1, 2, rfl, tt.1 _ _ (t7 _ _ h7), by decide, by decide⟩
      | 8, hk => cases hk; exact ⟨a8, 3, 0, rfl, tt.1 _ _ (t8 _ _ h8), by decide, by decide⟩
      | j + 9, hk => simp at hk
    have D03 := D1.trans (D2.trans D3 |> fun _ => (Drawn.refl D1.row).then tm |>.trans D3)
    clear tt h0 h1 h2 h3 h4 h5 h6 h7 h8 h9 hk
    refine ⟨szl 2, fun H4 p4 S4 n4 h4 => ?_⟩
    refine ⟨p4, _, rfl, SqT.of h4, rfl, _, _, rfl, _, _, rfl, rfl, ?_⟩
    have D4 := D03.then S4
    have hm4 := S4 _ _ hm
    refine ⟨_, rfl, (n : Int), rfl, by omega, by omega, fun D nD => ?_⟩
    rw [Int.toNat_natCast]
    have nDr := D4.row.there nD
    refine lc_range (lo := 0) (n := n) (fun i H' => ∃ (as : List Addr) (ws : List (List Sy)), Drawn K S r H4 H' ∧ H' D = some (.lst (as.map V.ref)) ∧ Words H' as ws ∧ ws.length = i ∧ (∀ w ∈ ws, Good n 40 w) ∧ ∀ w ∈ ws, ∃ w0 : List Sy, (∀ s ∈ w0, isB s = false) ∧ w0.foldl wstepE (0, 0, 0) = (mu, mv, 0) ∧ Br w0 w)
      ⟨[], [], (Drawn.refl D4.row).new nD, upd_same, .nil, rfl, (fun w h => nomatch h), fun w h => nomatch h⟩ ?_ ?_
    · rintro i H' hi ⟨as, ws, D2, hD, hw, hl, hg, hE⟩
      refine ⟨rfl, _, rfl, _, rfl, _, rfl, _, rfl, r, m, S, n, mu, mv, rfl, D2.row, D2.tup D4.row hm4, hm1, hm2, hn1, hn2, fun H3 t w3 D3 ht hw3 he3 => ?_⟩
      refine ⟨_, rfl, r, t, S, n, 17, w3, rfl, D3.row, ht, hw3, by decide, hn1, hn2, fun H4' p w4 D4' hp hw4 hb4 => ?_⟩
      have D34 := D3.trans D4'
      refine ⟨_, D34.at nDr hD, ?_, as ++ [p], ws ++ [w4], (D2.trans D34).put D4.row nD, ?_, ?_, ?_, ?_, ?_⟩
      · have := hw.length
        rw [List.length_map]; exact Nat.lt_of_le_of_lt (show as.length ≤ 1000 by omega) (by decide)
      · rw [upd_same, List.map_append]; rfl
      · have s : TupS H4' (upd H4' D (.lst (as.map V.ref ++ [V.ref p]))) := TupS.refl.lst (D34.at nDr hD)
        exact Paired.snoc ((hw.keep (D34.tups D2.row)).keep s) (s.wd hp)
      · rw [List.length_append, List.length_singleton, hl]
      · intro w hw
        rcases List.mem_append.mp hw with h | h
        · exact hg w h
        · rw [List.mem_singleton.mp h]; exact hw4.mono (by decide)
      · intro w hw
        rcases List.mem_append.mp hw with h | h
        · exact hE w h
        · rw [List.mem_singleton.mp h]; exact ⟨w3, hw3.flat, he3, hb4⟩
    · rintro H' ⟨as, ws, D5, hD, hw, hl, hg, hE⟩
      refine ⟨D, _, rfl, SqL.of hD, fun H6 p6 S6 n6 h6 => ?_⟩
      have D46 := D5.then S6
      have D6 := D4.trans D46
      have hw6 := hw.keep (.of S6)
      have hm6 := D46.tup D4.row hm4
      clear hD hw D5 S6 S4 n4 h4 n6
      refine ⟨_, rfl, ?_⟩
      refine fun M0 a0 s0 n0 h0 => ?_
      refine fun M1 a1 s1 n1 h1 => ?_
      refine fun M2 a2 s2 n2 h2 => ?_
      refine fun M3 a3 s3 n3 h3 => ?_
      refine ⟨_, rfl, _, _, rfl, rfl, szl 2, NewW.of (fun M4 a4 s4 n4 h4 => ?_) (w := [.l (n - 1), .l 0]) ?_⟩
      rotate_left
      · have en : (n : Int) - 1 = ((n - 1 : Nat) : Int) := by omega
        show [V.int ((n : Int) - 1), V.int 0] = _
        rw [en]; rfl
      refine ⟨szl 5, fun M5 a5 s5 n5 h5 => ?_⟩
      have t5 : Same M5 M5 := Same.refl _
      have t4 : Same M4 M5 := s5.trans t5
      have t3 : Same M3 M5 := s4.trans t4
      have t2 : Same M2 M5 := s3.trans t3
      have t1 : Same M1 M5 := s2.trans t2
      have t0 : Same M0 M5 := s1.trans t1
      have tm : Same H6 M5 := s0.trans t0
      have u := ((((s0.trans s1).trans s2).trans s3).trans s4)
      have Dl := D6.then tm
      refine ⟨r, a5, S, _, rfl, Dl.row, (D6.then u).row.there n5, h5, (show 1 ≤ 5 by decide), (show 5 < 1073741824 by decide), fun H8 kk v D8 hk => ?_⟩
      have tt := D8.tups Dl.row
      obtain ⟨b, st, rfl, hb, hst⟩ : ∃ (b : Addr) (st : List Sy), v = .ref b ∧ WdAt H8 b st ∧ Good n 40 st := by
        match kk, hk with
        | 0, hk => cases hk; exact ⟨a0, [.l 0], rfl, tt.wd (h0.same t0), good_up (good_dec (by decide)) hn1⟩
        | 1, hk => cases hk; exact ⟨a1, [.l 0], rfl, tt.wd (h1.same t1), good_up (good_dec (by decide)) hn1⟩
        | 2, hk => cases hk; exact ⟨a2, [.l 0, .p, .l 0], rfl, tt.wd (h2.same t2), good_up (good_dec (by decide)) hn1⟩
        | 3, hk => cases hk; exact ⟨a3, [.l 0, .p, .l 0, .p, .l 0, .p, .l 0], rfl, tt.wd (h3.same t3), good_up (good_dec (by decide)) hn1⟩
        | 4, hk =>
          cases hk
          exact ⟨a4, [.l (n - 1), .l 0], rfl, tt.wd (h4.same t4), good_start hn1⟩
        | j + 5, hk => simp at hk
      have D08 := Dl.trans D8
      have w8 := (hw6.keep (.of tm)).keep (D8.tups Dl.row)
      have h8 := D8.tup Dl.row (tm _ _ h6)
      have hm8 := D8.tup Dl.row (tm _ _ hm6)
      refine ⟨_, rfl, _, rfl, szl 2, fun H9 p9 S9 n9 h9 => ?_⟩
      refine ⟨_, rfl, szl 2, fun Ha pa Sa na ha => ?_⟩
      subst hl
      exact q Ha pa p9 m ws st mu mv ((D08.then S9).then Sa) ha ⟨p6, b, as, Sa _ _ h9, Sa _ _ (S9 _ _ h8), (hb.same S9).same Sa, (w8.keep (.of S9)).keep (.of Sa)⟩ ⟨hn1, hn3, hg, hst⟩ (Sa _ _ (S9 _ _ hm8)) ⟨hn4, hE⟩ ⟨hm2, hm1⟩
theorem ok_evenbook {f : Addr} {fd : FuncData} {k : Nat} (F : Fun K "_law_even_book" "_law_even_book" s_law_even_book f fd) (GT : Got P w K mg base "_law_taken" k ["row", "many"] (spTaken K)) (GP : Got P w K mg base "_law_pick" k ["row", "things"] (spPick K))
    (GW : Got P w K mg base "_law_even_word" k ["row", "letters", "move"] (spEvenWord K)) (GB : Got P w K mg base "_law_branched" k ["row", "word", "letters"] (spBranched K))
    (mR : mg "range" = none) (mT : mg "tuple" = none) : FnOk P w K mg base CX0 (k + 1) f fd ["row"] (spEvenBook K) :=
  (ok_evenbookE F GT GP GW GB mR mT).imp fun vs H Q E ⟨r, S, e, hR, q⟩ => ⟨r, S, e, hR, fun H' p b m ws st _ _ D h1 h2 h3 _ _ _ => q H' p b m ws st D h1 h2 h3⟩
end
end SK
namespace SK
open PySem PySem.Spec PyProof.Rows L2
/-! ### a list or a tuple walked -/
def Sq (K : PySem.W.Frag) (H : Hp) (a : Addr) (xs : List V) : Prop := SqL K H a xs ∨ SqT K H a xs
theorem Sq.same {K : PySem.W.Frag} {H H' : Hp} {a : Addr} {xs : List V} (h : Sq K H a xs) (s : Same H H') : Sq K H' a xs := h.elim (fun h => .inl (s.seq h)) fun h => .inr (sTup s h)
def iSeq (K : PySem.W.Frag) (i : Nat) : TI := fun σ H R => ∃ a, σ[i]? = some (some (.ref a)) ∧ (((∃ xs, SqL K H a xs) ∧ R (Itl K a) H) ∨ ((∃ xs, SqT K H a xs) ∧ R (Itt K a) H))
theorem pi_seq {X : Cx} {tg l : Expr} {i : Nat} (hl : PE X l (tVar i)) : PI X tg l (iSeq X.K i) := by
  refine ⟨fun pins s σ H R I ⟨a, e, q⟩ => ?_⟩
  rcases q with ⟨hx, q⟩ | ⟨hx, q⟩
  · exact (pi_list hl).run pins s σ H R I ⟨_, e, a, rfl, hx, q⟩
  · exact (pi_tup hl).run pins s σ H R I ⟨_, e, a, rfl, hx, q⟩
/-- the two walks by one invariant -/
theorem for_seq {K : PySem.W.Frag} {a : Addr} {xs : List V} {g : TG} {tb : TS} {D : Ends} {σ : L2.St} {H : Hp} (h : Sq K H a xs) (Pv : Nat → L2.St → Hp → Prop) (h0 : Pv 0 σ H) (hl : ∀ i σ H', i ≤ xs.length → Pv i σ H' → Same H H')
    (hs : ∀ i x σ H, xs[i]? = some x → Pv i σ H → g x σ H fun σ2 H2 => tb { D with nx := Pv (i + 1), ct := Pv (i + 1), bk := D.nx } σ2 H2) (hd : ∀ σ H, Pv xs.length σ H → D.nx σ H) :
    ((∃ xs, SqL K H a xs) ∧ ∃ W : Nat → Nat → L2.St → Hp → Prop, (∃ m, W 0 m σ H) ∧ ∀ i m σ H, W i m σ H → ((Itl K a).stop i H ∧ D.nx σ H) ∨ ((Itl K a).go i H ∧ ∃ N : L2.St → Hp → Prop, (∀ σ' H', N σ' H' → ∃ m', m' < m ∧ W (i + 1) m' σ' H') ∧ ∀ x H', (Itl K a).yld i H x H' → g x σ H' fun σ2 H2 => tb { D with nx := N, ct := N, bk := D.nx } σ2 H2)) ∨
    ((∃ xs, SqT K H a xs) ∧ ∃ W : Nat → Nat → L2.St → Hp → Prop, (∃ m, W 0 m σ H) ∧ ∀ i m σ H, W i m σ H → ((Itt K a).stop i H ∧ D.nx σ H) ∨ ((Itt K a).go i H ∧ ∃ N : L2.St → Hp → Prop, (∀ σ' H', N σ' H' → ∃ m', m' < m ∧ W (i + 1) m' σ' H') ∧ ∀ x H', (Itt K a).yld i H x H' → g x σ H' fun σ2 H2 => tb { D with nx := N, ct := N, bk := D.nx } σ2 H2)) := by
  rcases h with h | h
  · exact .inl ⟨⟨xs, h⟩, for_list (K := K) (a := a) (xs := xs) Pv h0 (fun i σ H' hi p => (hl i σ H' hi p).seq h) hs hd⟩
  · exact .inr ⟨⟨xs, h⟩, for_tup (K := K) (a := a) (xs := xs) Pv h0 (fun i σ H' hi p => sTup (hl i σ H' hi p) h) hs hd⟩
/-! ### isinstance -/
def rIs (K : PySem.W.Frag) (T : String) : List V → Hp → VK → Prop := fun xs H Q => ∃ (x : V) (n : String) (b : Bool), xs = [x, .ty T] ∧ TyX K H x (.type n) ∧ kitB n T = some b ∧ Q (.bl b) H
theorem call_is {X : Cx} (T : String) : CallR X (.builtin "isinstance") (rIs X.K T) := fun pins s σ H xs us Q I r ⟨x, n, b, e, t, k, q⟩ => call_isi pins s σ H xs us Q I r ⟨x, .ty T, .type n, .type T, b, e, .ty T, t, kit_ty k, q⟩
theorem ty_int {K : PySem.W.Frag} {H : Hp} (i : Int) : TyX K H (.int i) (.type "int") := .base (.int i)
theorem ty_str {K : PySem.W.Frag} {H : Hp} (z : Str) : TyX K H (.str z) (.type "str") := .base (.str z)
theorem ty_non {K : PySem.W.Frag} {H : Hp} : TyX K H .non (.type "NoneType") := .base .non
theorem ty_bl {K : PySem.W.Frag} {H : Hp} (b : Bool) : TyX K H (.bl b) (.type "bool") := .base (.bl b)
theorem ty_lst {K : PySem.W.Frag} {H : Hp} {a : Addr} {xs : List V} (h : H a = some (.lst xs)) : TyX K H (.ref a) (.type "list") := .base (.lst h)
theorem ty_tup {K : PySem.W.Frag} {H : Hp} {a : Addr} {xs : List V} (h : H a = some (.tup xs)) : TyX K H (.ref a) (.type "tuple") := .base (.tup h)
theorem ty_sy {K : PySem.W.Frag} {H : Hp} (s : Sy) : ∃ n b, TyX K H s.v (.type n) ∧ kitB n "str" = some b ∧ b = !isL s := by
  cases s with
  | l k => exact ⟨_, _, ty_int _, (by decide +kernel : kitB "int" "str" = some false), rfl⟩
  | p => exact ⟨_, _, ty_str _, (by decide +kernel : kitB "str" "str" = some true), rfl⟩
  | m => exact ⟨_, _, ty_str _, (by decide +kernel : kitB "str" "str" = some true), rfl⟩
  | o => exact ⟨_, _, ty_str _, (by decide +kernel : kitB "str" "str" = some true), rfl⟩
  | c => exact ⟨_, _, ty_str _, (by decide +kernel : kitB "str" "str" = some true), rfl⟩
section
variable {X : Cx}
/-- isinstance(e, T), T a built-in type by its name -/
theorem pis {e : Expr} {te : TE} {p p2 pos : Pos} {x : Str} (T : String) (hv : bootBuiltins x = some (.type T)) (mI : X.mg "isinstance" = none) (mT : X.mg x = none) (h : PE X e te) (hg : Gl X "isinstance" := by rfl) (hgx : Gl X x := by rfl) (hn : x ≠ "__name__" := by decide) (hdb : (x == ("__debug__" : Str)) = false := by decide)
    (hs2 : starEach [.Name x p2] X.env = (false, eval (.Name x p2) X.env) :: starEach [] X.env := by rfl) (hs1 : starEach [e, .Name x p2] X.env = (false, eval e X.env) :: starEach [.Name x p2] X.env := by rfl) (hp1 : (backTo pos (starEach [.Name x p2] X.env)).any (·.1) = false := by rfl) :
    PE X (.Call (.Name "isinstance" p) [e, .Name x p2] [] pos) (tCB (rIs X.K T) (tCons te (tCons (tC (.ty T)) tNil))) :=
  pe_callB (call_is T) hg mI (by decide +kernel) (pa_cons h (pa_cons (pe_bltn (v := .ty T) hgx mT hv rfl hn hdb) pa_nil hs2) hs1) (by decide) (by decide) hs1 hp1
/-- not isinstance(part, str) of a sign -/
def tSyTest (te : TE) : TT := fun σ H Q => te σ H fun x H1 => ∃ s : Sy, x = s.v ∧ Q (isL s) H1
theorem ptNotStr {e : Expr} {te : TE} {p p2 pos pos2 : Pos} (mI : X.mg "isinstance" = none) (mS : X.mg "str" = none) (h : PE X e te) (hg : Gl X "isinstance" := by rfl) (hgx : Gl X "str" := by rfl)
    (hs2 : starEach [.Name "str" p2] X.env = (false, eval (.Name "str" p2) X.env) :: starEach [] X.env := by rfl) (hs1 : starEach [e, .Name "str" p2] X.env = (false, eval e X.env) :: starEach [.Name "str" p2] X.env := by rfl) (hp1 : (backTo pos (starEach [.Name "str" p2] X.env)).any (·.1) = false := by rfl) :
    PT X (.UnaryOp .Not (.Call (.Name "isinstance" p) [e, .Name "str" p2] [] pos) pos2) (fun σ H Q => tCB (rIs X.K "str") (tCons te (tCons (tC (.ty "str")) tNil)) σ H fun x H1 => ∃ k, x = .bl k ∧ Q (!k) H1) := by
  have a := pis (X := X) (p := p) (p2 := p2) (pos := pos) "str" (by decide +kernel) mI mS h hg hgx (by decide) (by decide) hs2 hs1 hp1
  exact pt_not (pt_val a)
end
end SK
namespace SK
open PySem PySem.Spec PyProof.Rows L2
/-! ### growth -/
def img (ws : List (List Sy)) : Sy → List Sy
  | .l k => ws.getD k []
  | s => [s]
def grow (ws : List (List Sy)) (w : List Sy) : List Sy := w.flatMap (img ws)
def grown (ws : List (List Sy)) (st : List Sy) : Nat → List Sy
  | 0 => st
  | n + 1 => grow ws (grown ws st n)
theorem grow_app (ws : List (List Sy)) (a b : List Sy) : grow ws (a ++ b) = grow ws a ++ grow ws b := List.flatMap_append
theorem any_pos {w : List Sy} (h : w.any isL = true) : 1 ≤ w.length := by
  cases w with
  | nil => cases h
  | cons _ _ => simp
theorem img_lets {ws : List (List Sy)} (hg : ∀ w ∈ ws, Good ws.length 40 w) {s : Sy} (hs : ∀ k, s = .l k → k < ws.length) : ∀ k, Sy.l k ∈ img ws s → k < ws.length := by
  intro k hk
  cases s with
  | l j =>
    have hj := hs j rfl
    have e : img ws (.l j) = ws[j] := by
      show ws.getD j [] = ws[j]
      rw [List.getD_eq_getElem?_getD, List.getElem?_eq_getElem hj]; rfl
    rw [e] at hk
    exact (hg _ (List.getElem_mem hj)).lets k hk
  | p => cases List.mem_singleton.mp hk
  | m => cases List.mem_singleton.mp hk
  | o => cases List.mem_singleton.mp hk
  | c => cases List.mem_singleton.mp hk
theorem grow_lets {ws : List (List Sy)} (hg : ∀ w ∈ ws, Good ws.length 40 w) {w : List Sy} (hw : ∀ k, Sy.l k ∈ w → k < ws.length) : ∀ k, Sy.l k ∈ grow ws w → k < ws.length := by
  intro k hk
  obtain ⟨s, hs, h⟩ := List.mem_flatMap.mp hk
  exact img_lets hg (fun j e => hw j (e ▸ hs)) k h
theorem grown_lets {ws : List (List Sy)} {st : List Sy} (h : GoodBook ws st) : ∀ n k, Sy.l k ∈ grown ws st n → k < ws.length
  | 0 => h.start.lets
  | n + 1 => grow_lets h.words (grown_lets h n)
theorem img_pos {ws : List (List Sy)} (hg : ∀ w ∈ ws, Good ws.length 40 w) {s : Sy} (hs : ∀ k, s = .l k → k < ws.length) : 1 ≤ (img ws s).length ∧ (img ws s).length ≤ 40 := by
  cases s with
  | l j =>
    have hj := hs j rfl
    have e : img ws (.l j) = ws[j] := by
      show ws.getD j [] = ws[j]
      rw [List.getD_eq_getElem?_getD, List.getElem?_eq_getElem hj]; rfl
    rw [e]
    have := hg _ (List.getElem_mem hj)
    exact ⟨any_pos this.has, this.len⟩
  | p => exact ⟨Nat.le_refl _, (by decide : 1 ≤ 40)⟩
  | m => exact ⟨Nat.le_refl _, (by decide : 1 ≤ 40)⟩
  | o => exact ⟨Nat.le_refl _, (by decide : 1 ≤ 40)⟩
  | c => exact ⟨Nat.le_refl _, (by decide : 1 ≤ 40)⟩
theorem grow_le {ws : List (List Sy)} (hg : ∀ w ∈ ws, Good ws.length 40 w) : ∀ {w : List Sy}, (∀ k, Sy.l k ∈ w → k < ws.length) → w.length ≤ (grow ws w).length
  | [], _ => Nat.zero_le _
  | s :: w, h => by
    have ih := grow_le hg (w := w) fun k hk => h k (List.mem_cons_of_mem _ hk)
    have h1 := (img_pos hg (s := s) fun k e => h k (e ▸ List.mem_cons_self)).1
    show w.length + 1 ≤ (img ws s ++ grow ws w).length
    rw [List.length_append]
    omega
theorem grown_mono {ws : List (List Sy)} {st : List Sy} (h : GoodBook ws st) : ∀ {m n : Nat}, m ≤ n → (grown ws st m).length ≤ (grown ws st n).length
  | m, 0, e => by rw [Nat.le_zero.mp e]; exact Nat.le_refl _
  | m, n + 1, e => by
    rcases Nat.lt_or_ge n m with q | q
    · have : m = n + 1 := by omega
      rw [this]; exact Nat.le_refl _
    · exact Nat.le_trans (grown_mono h q) (grow_le h.words (grown_lets h n))
/-- a piece of a word grown is no longer than the whole -/
theorem grow_take {ws : List (List Sy)} (w : List Sy) (i : Nat) : (grow ws (w.take i)).length ≤ (grow ws w).length := by
  have e : grow ws w = grow ws (w.take i) ++ grow ws (w.drop i) := by rw [← grow_app, List.take_append_drop]
  rw [e, List.length_append]
  omega
theorem take_more {α : Type} : ∀ {l : List α} {i : Nat} {x : α}, l[i]? = some x → l.take (i + 1) = l.take i ++ [x]
  | [], i, x, h => by simp at h
  | a :: l, 0, x, h => by
    have e : a = x := Option.some.inj h
    subst e
    rfl
  | a :: l, i + 1, x, h => by
    have ih := take_more (l := l) (i := i) (x := x) h
    show a :: l.take (i + 1) = a :: l.take i ++ [x]
    rw [ih]
    rfl
theorem paired_get {α β : Type} {F : α → β → Prop} : ∀ {xs : List α} {ys : List β} {i : Nat} {y : β}, Paired F xs ys → ys[i]? = some y → ∃ x, xs[i]? = some x ∧ F x y
  | _, _, _, _, .nil, e => by simp at e
  | _, _, 0, _, .cons r _, e => by simp at e; subst e; exact ⟨_, rfl, r⟩
  | _, _, i + 1, y, .cons _ t, e => by
    obtain ⟨u, h1, h2⟩ := paired_get (i := i) (y := y) t (by simpa using e)
    exact ⟨u, by simpa using h1, h2⟩
theorem wv_get {w : List Sy} {i : Nat} {x : V} (h : (wv w)[i]? = some x) : ∃ s, w[i]? = some s ∧ x = s.v := by
  rw [List.getElem?_map] at h
  cases e : w[i]? with
  | none => rw [e] at h; cases h
  | some s => rw [e] at h; exact ⟨s, rfl, (Option.some.inj h).symm⟩
end SK
namespace SK
open PySem PySem.Spec PyProof.Rows L2
/-! ### how long words grow -/
theorem img_slim {ws : List (List Sy)} (hg : ∀ w ∈ ws, Good ws.length 40 w) {s : Sy} (hs : ∀ k, s = .l k → k < ws.length) : (img ws s).length + 7 * nL [s] ≤ 8 * nL (img ws s) + 1 := by
  cases s with
  | l j =>
    have hj := hs j rfl
    have e : img ws (.l j) = ws[j] := by
      show ws.getD j [] = ws[j]
      rw [List.getD_eq_getElem?_getD, List.getElem?_eq_getElem hj]; rfl
    rw [e]
    have := (hg _ (List.getElem_mem hj)).slim
    have e1 : nL [Sy.l j] = 1 := rfl
    omega
  | p => exact (by decide : 1 + 7 * 0 ≤ 8 * 0 + 1)
  | m => exact (by decide : 1 + 7 * 0 ≤ 8 * 0 + 1)
  | o => exact (by decide : 1 + 7 * 0 ≤ 8 * 0 + 1)
  | c => exact (by decide : 1 + 7 * 0 ≤ 8 * 0 + 1)
theorem grow_slim {ws : List (List Sy)} (hg : ∀ w ∈ ws, Good ws.length 40 w) : ∀ {w : List Sy}, (∀ k, Sy.l k ∈ w → k < ws.length) → (grow ws w).length + 7 * nL w ≤ 8 * nL (grow ws w) + w.length
  | [], _ => Nat.zero_le _
  | s :: w, h => by
    have ih := grow_slim hg (w := w) fun k hk => h k (List.mem_cons_of_mem _ hk)
    have h1 := img_slim hg (s := s) fun k e => h k (e ▸ List.mem_cons_self)
    have e1 : grow ws (s :: w) = img ws s ++ grow ws w := rfl
    have e2 : nL (s :: w) = nL [s] + nL w := nL_app [s] w
    rw [e1, List.length_append, nL_app, e2, List.length_cons]
    omega
theorem grow_40 {ws : List (List Sy)} (hg : ∀ w ∈ ws, Good ws.length 40 w) : ∀ {w : List Sy}, (∀ k, Sy.l k ∈ w → k < ws.length) → (grow ws w).length ≤ 40 * w.length
  | [], _ => Nat.zero_le _
  | s :: w, h => by
    have ih := grow_40 hg (w := w) fun k hk => h k (List.mem_cons_of_mem _ hk)
    have h1 := (img_pos hg (s := s) fun k e => h k (e ▸ List.mem_cons_self)).2
    have e1 : grow ws (s :: w) = img ws s ++ grow ws w := rfl
    rw [e1, List.length_append, List.length_cons]
    omega
theorem nL_le (w : List Sy) : nL w ≤ w.length := List.length_filter_le _ _
theorem grown_len {ws : List (List Sy)} {st : List Sy} {M : Nat} (h : GoodBook ws st) : ∀ n, (∀ a, a < n → nL (grown ws st a) ≤ M) → (grown ws st n).length ≤ 8 * nL (grown ws st n) + 40 + M * n
  | 0, _ => by have := h.start.len; show st.length ≤ _; omega
  | n + 1, ha => by
    have ih := grown_len h n fun a hl => ha a (by omega)
    have h1 := grow_slim h.words (grown_lets h n)
    have h2 := ha n (by omega)
    show (grow ws (grown ws st n)).length ≤ 8 * nL (grow ws (grown ws st n)) + 40 + M * (n + 1)
    rw [Nat.mul_succ]
    omega
/-- at an age that the law draws -/
def Low (M : Nat) (ws : List (List Sy)) (st : List Sy) (n : Nat) : Prop := n ≤ 8 ∧ ∀ a, a ≤ n → nL (grown ws st a) ≤ M
theorem Low.mono {M : Nat} {ws : List (List Sy)} {st : List Sy} {m n : Nat} (h : Low M ws st n) (l : m ≤ n) : Low M ws st m := ⟨Nat.le_trans l h.1, fun a ha => h.2 a (Nat.le_trans ha l)⟩
theorem Low.len {M : Nat} {ws : List (List Sy)} {st : List Sy} {n : Nat} (g : GoodBook ws st) (h : Low M ws st n) : (grown ws st n).length ≤ 16 * M + 40 := by
  have h1 := grown_len (M := M) g n fun a ha => h.2 a (by omega)
  have h2 := h.2 n (Nat.le_refl _)
  have h3 : M * n ≤ M * 8 := Nat.mul_le_mul_left M h.1
  omega
theorem Low.zero {M : Nat} {ws : List (List Sy)} {st : List Sy} (g : GoodBook ws st) (hM : 40 ≤ M) : Low M ws st 0 := ⟨Nat.zero_le _, fun a ha => by
  have e : a = 0 := by omega
  subst e
  have := nL_le st
  have := g.start.len
  show nL st ≤ M
  omega⟩
/-- the test of the names that stand in the i-th slot -/
def tNotStr (K : PySem.W.Frag) (i : Nat) : TT := fun σ H Q => tCB (rIs K "str") (tCons (tVar i) (tCons (tC (.ty "str")) tNil)) σ H fun x H1 => ∃ k, x = .bl k ∧ Q (!k) H1
end SK
namespace SK
open PySem PySem.Spec PyProof.Rows L2
/-! ### the pen -/
abbrev Stk := Int × Int × Int × Nat
structure Pen where
  x : Int
  y : Int
  h : Int
  st : List (Int × Int × Int)
  out : List Stk
def dir (h : Int) : Int × Int := if h = 0 then (1, 0) else if h = 1 then (0, 1) else if h = 2 then (-1, 0) else (0, -1)
def pstep (p : Pen) : Sy → Pen
  | .o => { p with st := p.st ++ [(p.x, p.y, p.h)] }
  | .c => match p.st.getLast? with
    | some (a, b, c) => { p with x := a, y := b, h := c, st := p.st.dropLast }
    | none => p
  | .p => { p with h := (p.h + 1) % 4 }
  | .m => { p with h := (p.h + 3) % 4 }
  | .l k => { p with out := p.out ++ [(p.x, p.y, p.h, k)], x := p.x + (dir p.h).1, y := p.y + (dir p.h).2 }
def pen (w : List Sy) : Pen := w.foldl pstep ⟨0, 0, 0, [], []⟩
def strokes (w : List Sy) : List Stk := (pen w).out
theorem pen_snoc (v : List Sy) (s : Sy) : pen (v ++ [s]) = pstep (pen v) s := by
  unfold pen
  rw [List.foldl_append]
  rfl
structure PenOk (v : List Sy) : Prop where
  nst : nest v 0 = some (pen v).st.length
  h : 0 ≤ (pen v).h ∧ (pen v).h < 4
  st : ∀ q ∈ (pen v).st, 0 ≤ q.2.2 ∧ q.2.2 < 4
  out : ∀ q ∈ (pen v).out, 0 ≤ q.2.2.1 ∧ q.2.2.1 < 4
  len : (pen v).out.length ≤ v.length ∧ (pen v).st.length ≤ v.length
theorem penOk_nil : PenOk [] := ⟨rfl, ⟨by decide, by decide⟩, (fun q h => nomatch h), (fun q h => nomatch h), ⟨Nat.le_refl _, Nat.le_refl _⟩⟩
theorem penOk_snoc {v : List Sy} {s : Sy} (p : PenOk v) (h : nest (v ++ [s]) 0 ≠ none) : PenOk (v ++ [s]) := by
  rw [nest_app, p.nst] at h
  have e : nest (v ++ [s]) 0 = nest [s] (pen v).st.length := by rw [nest_app, p.nst]; rfl
  have hl : (v ++ [s]).length = v.length + 1 := by simp
  cases s with
  | o =>
    refine ⟨?_, ?_, ?_, ?_, ?_⟩
    · rw [e, pen_snoc]
      show some ((pen v).st.length + 1) = some ((pen v).st ++ [_]).length
      rw [List.length_append]; rfl
    · rw [pen_snoc]; exact p.h
    · rw [pen_snoc]
      intro q hq
      rcases List.mem_append.mp hq with h | h
      · exact p.st q h
      · rw [List.mem_singleton.mp h]; exact p.h
    · rw [pen_snoc]; exact p.out
    · rw [pen_snoc, hl]
      have := p.len
      exact ⟨Nat.le_succ_of_le this.1, by show ((pen v).st ++ [_]).length ≤ _; rw [List.length_append, List.length_singleton]; omega⟩
  | c =>
    cases hs : (pen v).st.getLast? with
    | none =>
      rw [List.getLast?_eq_none_iff] at hs
      rw [hs] at h
      exact absurd rfl h
    | some t =>
      obtain ⟨a, b, c⟩ := t
      have e2 : pstep (pen v) .c = { pen v with x := a, y := b, h := c, st := (pen v).st.dropLast } := by
        show (match (pen v).st.getLast? with
          | some (a, b, c) => { pen v with x := a, y := b, h := c, st := (pen v).st.dropLast }
          | none => pen v) = _
        rw [hs]
      have hm : (a, b, c) ∈ (pen v).st := List.mem_of_getLast? hs
      have hne : (pen v).st ≠ [] := fun z => by rw [z] at hm; cases hm
      have hpos : 1 ≤ (pen v).st.length := List.length_pos_iff.mpr hne
      refine ⟨?_, ?_, ?_, ?_, ?_⟩
      · rw [e, pen_snoc, e2]
        show nest [.c] (pen v).st.length = some (pen v).st.dropLast.length
        rw [List.length_dropLast]
        obtain ⟨d, hd⟩ : ∃ d, (pen v).st.length = d + 1 := ⟨_, (Nat.sub_add_cancel hpos).symm⟩
        rw [hd]
        rfl
      · rw [pen_snoc, e2]; exact p.st _ hm
      · rw [pen_snoc, e2]; intro q hq; exact p.st q (List.dropLast_subset _ hq)
      · rw [pen_snoc, e2]; exact p.out
      · rw [pen_snoc, e2, hl]
        have := p.len
        exact ⟨Nat.le_succ_of_le this.1, by show (pen v).st.dropLast.length ≤ _; rw [List.length_dropLast]; omega⟩
  | p =>
    refine ⟨by rw [e, pen_snoc]; rfl, ?_, ?_, ?_, ?_⟩
    · rw [pen_snoc]; exact ⟨by show 0 ≤ ((pen v).h + 1) % 4; omega, by show ((pen v).h + 1) % 4 < 4; omega⟩
    · rw [pen_snoc]; exact p.st
    · rw [pen_snoc]; exact p.out
    · rw [pen_snoc, hl]; exact ⟨Nat.le_succ_of_le p.len.1, Nat.le_succ_of_le p.len.2⟩
  | m =>
    refine ⟨by rw [e, pen_snoc]; rfl, ?_, ?_, ?_, ?_⟩
    · rw [pen_snoc]; exact ⟨by show 0 ≤ ((pen v).h + 3) % 4; omega, by show ((pen v).h + 3) % 4 < 4; omega⟩
    · rw [pen_snoc]; exact p.st
    · rw [pen_snoc]; exact p.out
    · rw [pen_snoc, hl]; exact ⟨Nat.le_succ_of_le p.len.1, Nat.le_succ_of_le p.len.2⟩
  | l k =>
    refine ⟨by rw [e, pen_snoc]; rfl, ?_, ?_, ?_, ?_⟩
    · rw [pen_snoc]; exact p.h
    · rw [pen_snoc]; exact p.st
    · rw [pen_snoc]
      intro q hq
      rcases List.mem_append.mp (show q ∈ (pen v).out ++ [_] from hq) with h | h
      · exact p.out q h
      · rw [List.mem_singleton.mp h]; exact p.h
    · rw [pen_snoc, hl]
      exact ⟨by show ((pen v).out ++ [_]).length ≤ _; rw [List.length_append, List.length_singleton]; have := p.len.1; omega, Nat.le_succ_of_le p.len.2⟩
/-- a piece of a word whose branches end -/
theorem nest_take {w : List Sy} (h : nest w 0 ≠ none) (i : Nat) : nest (w.take i) 0 ≠ none := by
  intro z
  apply h
  rw [← List.take_append_drop i w, nest_app, z]
  rfl
theorem penOk_take {w : List Sy} (h : nest w 0 ≠ none) : ∀ i, i ≤ w.length → PenOk (w.take i)
  | 0, _ => penOk_nil
  | i + 1, hi => by
    have e : w[i]? = some w[i] := List.getElem?_eq_getElem (by omega)
    rw [take_more e]
    exact penOk_snoc (penOk_take h i (by omega)) (by rw [← take_more e]; exact nest_take h (i + 1))
theorem pen_take {w : List Sy} {i : Nat} {s : Sy} (h : w[i]? = some s) : pen (w.take (i + 1)) = pstep (pen (w.take i)) s := by rw [take_more h, pen_snoc]
/-! ### strokes in the heap -/
def stV (s : Stk) : List V := [.int s.1, .int s.2.1, .int s.2.2.1, .int s.2.2.2]
def plV (q : Int × Int × Int) : List V := [.int q.1, .int q.2.1, .int q.2.2]
def Strs (H : Hp) (as : List Addr) (ss : List Stk) : Prop := Paired (fun a s => H a = some (.tup (stV s))) as ss
def Pls (H : Hp) (as : List Addr) (ss : List (Int × Int × Int)) : Prop := Paired (fun a s => H a = some (.tup (plV s))) as ss
theorem Strs.keep {H H' : Hp} {as : List Addr} {ss : List Stk} (s : TupS H H') (h : Strs H as ss) : Strs H' as ss := Paired.mono (fun a w e => s.1 a _ e) h
theorem Pls.keep {H H' : Hp} {as : List Addr} {ss : List (Int × Int × Int)} (s : TupS H H') (h : Pls H as ss) : Pls H' as ss := Paired.mono (fun a w e => s.1 a _ e) h
theorem paired_last {α β : Type} {F : α → β → Prop} : ∀ {xs : List α} {ys : List β} {y : β}, Paired F xs ys → ys.getLast? = some y → ∃ x, xs.getLast? = some x ∧ F x y ∧ Paired F xs.dropLast ys.dropLast
  | _, _, _, .nil, h => by simp at h
  | _, _, y, .cons r .nil, h => by simp at h; subst h; exact ⟨_, rfl, r, .nil⟩
  | _, _, y, .cons r (.cons (a := a2) (b := b2) (l₁ := l1) (l₂ := l2) r2 t), h => by
    have h' : (b2 :: l2).getLast? = some y := by rw [List.getLast?_cons_cons] at h; exact h
    obtain ⟨x, h1, h2, h3⟩ := paired_last (.cons r2 t) h'
    exact ⟨x, by rw [List.getLast?_cons_cons]; exact h1, h2, .cons r h3⟩
theorem itN {c A B : Prop} [Decidable c] (hc : ¬ c) (h : B) : if decide c = true then A else B := by
  rw [decide_eq_false hc]
  exact iteF h
theorem itY {c A B : Prop} [Decidable c] (hc : c) (h : A) : if decide c = true then A else B := by
  rw [decide_eq_true hc]
  exact iteT h
end SK
namespace SK
open PySem PySem.Spec PyProof.Rows L2
/-! ### alike: the same data, at most n deep -/
def flatA : V → Bool
  | .non => true
  | .int _ => true
  | .bl _ => true
  | .str _ => true
  | _ => false
theorem rd_same {H H' : Hp} {a : Addr} {u : HO} (s : Same H H') (h : Rd H a u) : Rd H' a u := h.imp (s _ _) (fun ⟨o, e⟩ => ⟨o, s _ _ e⟩)
theorem ty_rd {K : PySem.W.Frag} {H : Hp} {a : Addr} {xs : List V} (h : Rd H a (.tup xs)) : TyX K H (.ref a) (.type "tuple") := by
  rcases h with h | ⟨o, h⟩
  · exact ty_tup h
  · exact .fTuple h
def Alk (H : Hp) : Nat → V → V → Prop
  | 0, v, u => v = u ∧ flatA v = true
  | n + 1, v, u => (v = u ∧ flatA v = true) ∨ ∃ (a b : Addr) (xs ys : List V), v = .ref a ∧ u = .ref b ∧ ((Rd H a (.tup xs) ∧ Rd H b (.tup ys)) ∨ (H a = some (.lst xs) ∧ H b = some (.lst ys))) ∧ xs.length = ys.length ∧ xs.length ≤ 10000000 ∧
      ∀ (i : Nat) (x y : V), xs[i]? = some x → ys[i]? = some y → Alk H n x y
theorem Alk.same {H H' : Hp} (s : Same H H') : ∀ {n : Nat} {v u : V}, Alk H n v u → Alk H' n v u
  | 0, _, _, h => h
  | n + 1, _, _, .inl h => .inl h
  | n + 1, _, _, .inr ⟨a, b, xs, ys, e1, e2, h, hl, hz, hi⟩ => .inr ⟨a, b, xs, ys, e1, e2, h.imp (fun z => ⟨rd_same s z.1, rd_same s z.2⟩) (fun z => ⟨s _ _ z.1, s _ _ z.2⟩), hl, hz, fun i x y h1 h2 => Alk.same s (hi i x y h1 h2)⟩
theorem Alk.up {H : Hp} : ∀ {n : Nat} {v u : V}, Alk H n v u → Alk H (n + 1) v u
  | 0, _, _, h => .inl h
  | n + 1, _, _, .inl h => .inl h
  | n + 1, _, _, .inr ⟨a, b, xs, ys, e1, e2, h, hl, hz, hi⟩ => .inr ⟨a, b, xs, ys, e1, e2, h, hl, hz, fun i x y h1 h2 => Alk.up (hi i x y h1 h2)⟩
def spAlike (n : Nat) : Sp := fun vs H Q _ => ∃ (v u : V), vs = [v, u] ∧ Alk H n v u ∧ ∀ H', Same H H' → Q (.bl true) H'
/-- isinstance(e, (tuple, list)) -/
def tIsTL (K : PySem.W.Frag) (i : Nat) : TE := fun σ H Q => ∃ (x : V) (n : String) (b1 b2 : Bool), σ[i]? = some (some x) ∧ (∀ H2, Same H H2 → TyX K H2 x (.type n)) ∧ kitB n "tuple" = some b1 ∧ kitB n "list" = some b2 ∧ ∀ H2, Same H H2 → Q (.bl (b1 || b2)) H2
theorem kit2 {K : PySem.W.Frag} {n : String} {b1 b2 : Bool} (h1 : kitB n "tuple" = some b1) (h2 : kitB n "list" = some b2) : PySem.W.kitAny K (.type n) [.type "tuple", .type "list"] = some (b1 || b2) := by
  refine kitAny_cons (kit_ty h1) (fun e => ?_) (fun e => by rw [e]; rfl)
  subst e
  refine kitAny_cons (kit_ty h2) (fun e => ?_) (fun e => by rw [e]; rfl)
  subst e
  rfl
section
variable {X : Cx}
theorem pisTL {i : Nat} {e : Expr} {p p2 p3 p4 pos : Pos} {j : Nat} (mI : X.mg "isinstance" = none) (mT : X.mg "tuple" = none) (mL : X.mg "list" = none) (h : PE X e (tVar i)) (hg : Gl X "isinstance" := by rfl) (hgt : Gl X "tuple" := by rfl) (hgl : Gl X "list" := by rfl)
    (ha1 : starEach [.Name "list" p3] X.env = (false, eval (.Name "list" p3) X.env) :: starEach [] X.env := by rfl) (ha2 : starEach [.Name "tuple" p2, .Name "list" p3] X.env = (false, eval (.Name "tuple" p2) X.env) :: starEach [.Name "list" p3] X.env := by rfl)
    (hs2 : starEach [.Tuple [.Name "tuple" p2, .Name "list" p3] j p4] X.env = (false, eval (.Tuple [.Name "tuple" p2, .Name "list" p3] j p4) X.env) :: starEach [] X.env := by rfl)
    (hs1 : starEach [e, .Tuple [.Name "tuple" p2, .Name "list" p3] j p4] X.env = (false, eval e X.env) :: starEach [.Tuple [.Name "tuple" p2, .Name "list" p3] j p4] X.env := by rfl)
    (hp1 : (backTo pos (starEach [.Tuple [.Name "tuple" p2, .Name "list" p3] j p4] X.env)).any (·.1) = false := by rfl) :
    PE X (.Call (.Name "isinstance" p) [e, .Tuple [.Name "tuple" p2, .Name "list" p3] j p4] [] pos) (tIsTL X.K i) := by
  refine pimp _ (pe_callB call_isiT hg mI (by decide +kernel) (pa_cons h (pa_cons (ptupN (pa_cons (pe_bltn (v := .ty "tuple") hgt mT (by decide +kernel) rfl (by decide) (by decide)) (pa_cons (pe_bltn (v := .ty "list") hgl mL (by decide +kernel) rfl (by decide) (by decide)) pa_nil ha1) ha2)) pa_nil hs2) hs1) (by decide) (by decide) hs1 hp1) ?_
  rintro σ H Q ⟨x, n, b1, b2, e, ht, k1, k2, q⟩
  exact ⟨x, e, szl 2, fun H2 tp s2 n2 h2 => ⟨x, tp, [.ty "tuple", .ty "list"], _, [.type "tuple", .type "list"], _, rfl, h2, .cons (.ty _) (.cons (.ty _) .nil), ht H2 s2, kit2 k1 k2, q H2 s2⟩⟩
end
/-- the kind of a flat value -/
theorem flat_ty {K : PySem.W.Frag} {v : V} (h : flatA v = true) : ∃ n cb, (∀ H, TyX K H v (.type n)) ∧ kitB n "tuple" = some false ∧ kitB n "list" = some false ∧ kitB n "bool" = some cb ∧
    ((v = .non ∧ kitB n "str" = some false) ∨ (∃ z, v = .str z ∧ kitB n "str" = some true) ∨ ((∃ i, v = .int i ∧ kitB n "str" = some false ∧ kitB n "int" = some true) ∨ ∃ b, v = .bl b ∧ kitB n "str" = some false ∧ kitB n "int" = some true)) := by
  cases v with
  | non => exact ⟨"NoneType", false, fun H => ty_non, by decide +kernel, by decide +kernel, by decide +kernel, .inl ⟨rfl, by decide +kernel⟩⟩
  | int i => exact ⟨"int", false, fun H => ty_int i, by decide +kernel, by decide +kernel, by decide +kernel, .inr (.inr (.inl ⟨i, rfl, by decide +kernel, by decide +kernel⟩))⟩
  | str z => exact ⟨"str", false, fun H => ty_str z, by decide +kernel, by decide +kernel, by decide +kernel, .inr (.inl ⟨z, rfl, by decide +kernel⟩)⟩
  | bl b => exact ⟨"bool", true, fun H => ty_bl b, by decide +kernel, by decide +kernel, by decide +kernel, .inr (.inr (.inr ⟨b, rfl, by decide +kernel, by decide +kernel⟩))⟩
  | byt b => cases h
  | flt b => cases h
  | ref a => cases h
  | ty n => cases h
section
variable {P : Program} {w : World} {K : PySem.W.Frag} {mg : Str → Option Value} {base : Heap}
structure AlkG (mg : Str → Option Value) : Prop where
  mI : mg "isinstance" = none
  mT : mg "tuple" = none
  mL : mg "list" = none
  mS : mg "str" = none
  mi : mg "int" = none
  mB : mg "bool" = none
  ml : mg "len" = none
  mR : mg "range" = none
/-- the flat values' way: behind the first test -/
def tFlatWay : TS := fun D σ H => ∃ (v : V) (y2 : Option V), σ = [some v, some v, y2] ∧ flatA v = true ∧ D.rt (.bl true) H
theorem pssimp {X : Cx} {sts : List Stmt} {t : TS} (t' : TS) (h : PSs X sts t) (f : ∀ D σ H, t' D σ H → t D σ H) : PSs X sts t' := ⟨fun pins s σ H D I q => h.run pins s σ H D I (f D σ H q)⟩
def tAlkTest (K : PySem.W.Frag) (m : Nat) : TT := fun σ H Q => tCall (spAlike m) [] E0 (tCons (tOp (rIx K) (tVar 0) (tVar 2)) (tCons (tOp (rIx K) (tVar 1) (tVar 2)) tNil)) σ H fun x H1 => ∃ k, x = .bl k ∧ Q (!k) H1
end
end SK
namespace SK
open PySem PySem.Spec PyProof.Rows L2
section
variable {P : Program} {w : World} {K : PySem.W.Frag} {mg : Str → Option Value} {base : Heap}
theorem ok_alike (n : Nat) {f : Addr} {fd : FuncData} {k : Nat} (F : Fun K "_law_alike" "_law_alike" s_law_alike f fd) (g : AlkG mg) (G : ∀ m, n = m + 1 → Got P w K mg base "_law_alike" k ["found", "due"] (spAlike m)) : FnOk P w K mg base CX0 (k + 1) f fd ["found", "due"] (spAlike n) := by
  refine F.ok sc_law_alike (fun vs H Q E h => ?_) (fun cdv A outer s H vs Q E hr h => ?_)
  · obtain ⟨v, u, rfl, _⟩ := h
    rfl
  · obtain ⟨v, u, rfl, hA, q⟩ := h
    have nd := sc_law_alike.nd
    obtain ⟨mI, mT, mL, mS, mi, mB, ml, mR⟩ := g
    have tail : PSs (cxOf CX0 P w K mg base n_law_alike "_law_alike" (defScope s_law_alike) f cdv A outer s H E).nox ((defBody s_law_alike).drop 1) tFlatWay := by
      refine pssimp _ (pss_cons (ps_if (PW.pt (pw_or (pt_cmpR op_isN (pv 1) pe_non (nomark _)) (pw_or1 (pt_val (pis "str" (by decide +kernel) mI mS (pv 1))))))
          (pss_one (ps_ret (pe_and (pe_cmpR op_eq (pv 0) (pv 1) (nomark _)) (pe_one (pe_cmpR op_eq (pis "str" (by decide +kernel) mI mS (pv 0)) (pis "str" (by decide +kernel) mI mS (pv 1)) (nomark _)))))) pss_nil)
        (pss_one (ps_ret (pe_and (pis "int" (by decide +kernel) mI mi (pv 0)) (pe_and (pe_cmpR op_eq (pis "bool" (by decide +kernel) mI mB (pv 0)) (pis "bool" (by decide +kernel) mI mB (pv 1)) (nomark _)) (pe_one (pe_cmpR op_eq (pv 0) (pv 1) (nomark _)))))))) ?_
      rintro D σ H ⟨v, y2, rfl, hv, q⟩
      obtain ⟨n, cb, ht, k1, k2, k3, hk⟩ := flat_ty (K := K) hv
      have ht' := ht H
      rcases hk with ⟨rfl, k4⟩ | ⟨z, rfl, k4⟩ | ⟨i, rfl, k4, k5⟩ | ⟨i, rfl, k4, k5⟩
      · refine ⟨_, rfl, rfl, _, rfl, itY rfl ?_⟩
        refine ⟨_, rfl, _, rfl, rfl, _, rfl, itY rfl ?_⟩
        refine ⟨_, rfl, _, n, _, rfl, ht', k4, _, rfl, _, n, _, rfl, ht', k4, rfl, ?_⟩
        exact q
      · refine ⟨_, rfl, rfl, _, rfl, itN (fun z => nomatch z) ?_⟩
        refine ⟨_, rfl, _, n, _, rfl, ht', k4, _, rfl, iteT ?_⟩
        refine ⟨_, rfl, _, rfl, rfl, _, rfl, itY rfl ?_⟩
        refine ⟨_, rfl, _, n, _, rfl, ht', k4, _, rfl, _, n, _, rfl, ht', k4, rfl, ?_⟩
        exact q
      · refine ⟨_, rfl, rfl, _, rfl, itN (fun z => nomatch z) ?_⟩
        refine ⟨_, rfl, _, n, _, rfl, ht', k4, _, rfl, iteF ?_⟩
        refine ⟨_, rfl, _, n, _, rfl, ht', k5, _, rfl, iteT ?_⟩
        refine ⟨_, rfl, _, n, _, rfl, ht', k3, _, rfl, _, n, _, rfl, ht', k3, rfl, _, rfl, itY rfl ?_⟩
        refine ⟨_, rfl, _, rfl, rfl, ?_⟩
        rw [decide_eq_true (rfl : V.int i = V.int i)]
        exact q
      · refine ⟨_, rfl, rfl, _, rfl, itN (fun z => nomatch z) ?_⟩
        refine ⟨_, rfl, _, n, _, rfl, ht', k4, _, rfl, iteF ?_⟩
        refine ⟨_, rfl, _, n, _, rfl, ht', k5, _, rfl, iteT ?_⟩
        refine ⟨_, rfl, _, n, _, rfl, ht', k3, _, rfl, _, n, _, rfl, ht', k3, rfl, _, rfl, itY rfl ?_⟩
        refine ⟨_, rfl, _, rfl, rfl, ?_⟩
        rw [decide_eq_true (rfl : V.bl i = V.bl i)]
        exact q
    have flat : ∀ (y2 : Option V) (H2 : Hp), Same H H2 → v = u → flatA v = true → tFlatWay { nx := fun _ H' => Q .non H', rt := Q } [some v, some u, y2] H2 := fun y2 H2 S e hv => by
      subst e
      exact ⟨v, y2, rfl, hv, q H2 S⟩
    cases n with
    | zero =>
      refine ⟨_, pss_cons (ps_if (pt_val (pisTL mI mT mL (pv 1))) pss_never pss_nil) tail, ?_⟩
      obtain ⟨rfl, hv⟩ := hA
      obtain ⟨n, _, ht, k1, k2, _⟩ := flat_ty (K := K) hv
      exact ⟨v, n, _, _, rfl, fun H2 _ => ht H2, k1, k2, fun H2 S2 => ⟨_, rfl, iteF (flat none H2 S2 rfl hv)⟩⟩
    | succ m =>
      have GA := G m rfl
      refine ⟨_, pss_cons (ps_if (pt_val (pisTL mI mT mL (pv 1)))
          (pss_cons (ps_if (PW.pt (pw_or (pt_not (pt_val (pisTL mI mT mL (pv 0)))) (pw_or1 (pt_cmpR op_ne (pis "list" (by decide +kernel) mI mL (pv 0)) (pis "list" (by decide +kernel) mI mL (pv 1)) (nomark _))))) pss_never pss_nil)
          (pss_cons (ps_if (pt_cmpR op_ne (plen ml (pv 0)) (plen ml (pv 1)) (nomark _)) pss_never pss_nil)
          (pss_one (ps_ret (pe_cmpR (op_eqD hr.units) (pe_lc (own := [("k", 2)]) (g := gName 2) (tt := tAlkTest K m)
              rfl nd (pi_range1 rfl mR (pa_cons (plen ml (pv 1)) pa_nil)) (blkOk_by (N := n_law_alike) (sc := defScope s_law_alike) (by decide +kernel)) (fun _ _ _ _ _ => pg_name (i := 2) nd rfl (Or.inl rfl))
              (fun _ _ _ _ _ => pts_one (pt_not (pt_val (pcall GA hr (pa_cons (pe_ix ix_seq (pv 0) (pv 2) (fun _ _ => rfl)) (pa_cons (pe_ix ix_seq (pv 1) (pv 2) (fun _ _ => rfl)) pa_nil)))))) (fun _ _ _ _ _ => pv 2)) (plstN pa_nil) (nomark _)))))) pss_nil) tail, ?_⟩
      rcases hA with ⟨rfl, hv⟩ | ⟨a, b, xs, ys, rfl, rfl, hh, hl, hz, hi⟩
      · obtain ⟨n, _, ht, k1, k2, _⟩ := flat_ty (K := K) hv
        exact ⟨v, n, _, _, rfl, fun H2 _ => ht H2, k1, k2, fun H2 S2 => ⟨_, rfl, iteF (flat none H2 S2 rfl hv)⟩⟩
      · have key : ∃ (n : String) (b1 b2 : Bool), (∀ H2, Same H H2 → TyX K H2 (.ref a) (.type n)) ∧ (∀ H2, Same H H2 → TyX K H2 (.ref b) (.type n)) ∧ kitB n "tuple" = some b1 ∧ kitB n "list" = some b2 ∧ (b1 || b2) = true ∧
            (∀ H2, Same H H2 → (SqL K H2 a xs ∨ SqT K H2 a xs) ∧ (SqL K H2 b ys ∨ SqT K H2 b ys)) := by
          rcases hh with ⟨ha, hb⟩ | ⟨ha, hb⟩
          · exact ⟨"tuple", true, false, fun H2 S => ty_rd (rd_same S ha), fun H2 S => ty_rd (rd_same S hb), by decide +kernel, by decide +kernel, rfl, fun H2 S => ⟨.inr (.inl (rd_same S ha)), .inr (.inl (rd_same S hb))⟩⟩
          · exact ⟨"list", false, true, fun H2 S => ty_lst (S _ _ ha), fun H2 S => ty_lst (S _ _ hb), by decide +kernel, by decide +kernel, rfl, fun H2 S => ⟨.inl (SqL.of (S _ _ ha)), .inl (SqL.of (S _ _ hb))⟩⟩
        obtain ⟨n, b1, b2, ta, tb, k1, k2, kk, sq⟩ := key
        refine ⟨_, n, b1, b2, rfl, tb, k1, k2, fun H2 S2 => ⟨_, rfl, ?_⟩⟩
        rw [kk]
        refine iteT ⟨_, n, b1, b2, rfl, fun H3 S3 => ta H3 (S2.trans S3), k1, k2, fun H3 S3 => ⟨_, rfl, ?_⟩⟩
        rw [kk]
        have S03 := S2.trans S3
        refine iteF ⟨_, rfl, _, n, b2, rfl, ta H3 S03, k2, _, rfl, _, n, b2, rfl, tb H3 S03, k2, rfl, _, rfl, ?_⟩
        rw [decide_eq_true (rfl : V.bl b2 = V.bl b2)]
        refine iteF ⟨_, rfl, a, xs, rfl, (sq H3 S03).1, _, rfl, b, ys, rfl, (sq H3 S03).2, rfl, _, rfl, ?_⟩
        rw [hl, decide_eq_true (rfl : V.int (ys.length : Int) = V.int (ys.length : Int))]
        refine iteF ⟨_, rfl, b, ys, rfl, (sq H3 S03).2, (ys.length : Int), rfl, by omega, by omega, fun D nD => ?_⟩
        rw [Int.toNat_natCast]
        refine lc_range (lo := 0) (n := ys.length) (fun i H' => Same H3 H' ∧ H' D = some (.lst [])) ⟨same_upd nD, upd_same⟩ ?_ ?_
        · rintro i H4 hlt ⟨S4, hD⟩
          have S04 := S03.trans S4
          have gx : xs[i]? = some xs[i] := List.getElem?_eq_getElem (by omega)
          have gy : ys[i]? = some ys[i] := List.getElem?_eq_getElem hlt
          have e0 : (0 : Int) + (i : Int) = (i : Int) := by omega
          have ix : ∀ (c : Addr) (zs : List V) (z : V) (Q' : VK), (SqL K H4 c zs ∨ SqT K H4 c zs) → zs[i]? = some z → Q' z H4 → rIx K (.ref c) (.int (0 + (i : Int))) H4 Q' := by
            intro c zs z Q' hc hg hq
            rw [e0]
            rcases hc with hc | hc
            · exact .inl ⟨c, zs, _, z, rfl, rfl, hc, atI_nat hg, hq⟩
            · exact .inr (.inl ⟨c, zs, _, z, rfl, rfl, hc, atI_nat hg, hq⟩)
          refine ⟨rfl, _, rfl, _, rfl, ix a xs _ _ (sq H4 S04).1 gx ⟨_, rfl, _, rfl, ix b ys _ _ (sq H4 S04).2 gy ⟨xs[i], ys[i], rfl, Alk.same S04 (hi i _ _ gx gy), fun H5 S5 => ⟨true, rfl, iteF ⟨S4.trans S5, S5 _ _ hD⟩⟩⟩⟩⟩
        · rintro H4 ⟨S4, hD⟩
          refine ⟨szl 0, fun H5 p5 S5 n5 h5 => ⟨.list [], .list [], .lst (SqL.of (S5 _ _ hD)) .nil, .lst (SqL.of h5) .nil, shaped_ints [], shaped_ints [], ?_⟩⟩
          have e : PyData.eqv (.list []) (.list []) = true := by simp [PyData.eqv, PyData.eqvAll]
          rw [e]
          exact q H5 ((S03.trans S4).trans S5)
end
end SK
namespace SK
open PySem PySem.Spec PyProof.Rows L2
theorem WdAt.ty {K : PySem.W.Frag} {H : Hp} {a : Addr} {w : List Sy} (h : WdAt H a w) : TyX K H (.ref a) (.type "tuple") := let ⟨_, e, _⟩ := h; .fTuple e
def spIsInt (K : PySem.W.Frag) : Sp := fun vs H Q _ => ∃ (v : V) (n : String) (b1 b2 : Bool), vs = [v] ∧ TyX K H v (.type n) ∧ kitB n "int" = some b1 ∧ kitB n "bool" = some b2 ∧ Q (.bl (b1 && !b2)) H
theorem sy_int {K : PySem.W.Frag} (s : Sy) : ∃ n b1, (∀ H, TyX K H s.v (.type n)) ∧ kitB n "int" = some b1 ∧ kitB n "bool" = some false ∧ b1 = isL s := by
  cases s with
  | l k => exact ⟨"int", true, fun H => ty_int _, by decide +kernel, by decide +kernel, rfl⟩
  | p => exact ⟨"str", false, fun H => ty_str _, by decide +kernel, by decide +kernel, rfl⟩
  | m => exact ⟨"str", false, fun H => ty_str _, by decide +kernel, by decide +kernel, rfl⟩
  | o => exact ⟨"str", false, fun H => ty_str _, by decide +kernel, by decide +kernel, rfl⟩
  | c => exact ⟨"str", false, fun H => ty_str _, by decide +kernel, by decide +kernel, rfl⟩
def spIsWord : Sp := fun vs H Q _ => ∃ (t : Addr) (n : Nat) (w : List Sy), vs = [.ref t, .int n] ∧ WdAt H t w ∧ Good n 40 w ∧ Q (.bl true) H
def spBookForm : Sp := fun vs H Q _ => ∃ (b : Addr) (ws : List (List Sy)) (st : List Sy), vs = [.ref b] ∧ BookAt H b ws st ∧ GoodBook ws st ∧ Q (.bl true) H
section
variable {P : Program} {w : World} {K : PySem.W.Frag} {mg : Str → Option Value} {base : Heap}
theorem ok_isint {f : Addr} {fd : FuncData} {k : Nat} (F : Fun K "is_integer" "is_integer" s_is_integer f fd) (mI : mg "isinstance" = none) (mi : mg "int" = none) (mB : mg "bool" = none) : FnOk P w K mg base CX0 (k + 1) f fd ["value"] (spIsInt K) := by
  refine F.ok sc_is_integer (fun vs H Q E h => ?_) (fun cdv A outer s H vs Q E hr h => ?_)
  · obtain ⟨v, n, b1, b2, rfl, _⟩ := h
    rfl
  · obtain ⟨v, n, b1, b2, rfl, ht, k1, k2, q⟩ := h
    refine ⟨_, pss_one (ps_ret (pe_and (pis "int" (by decide +kernel) mI mi (pv 0)) (pe_one (pe_not (pis "bool" (by decide +kernel) mI mB (pv 0)))))), ?_⟩
    refine ⟨_, rfl, _, n, b1, rfl, ht, k1, b1, rfl, ?_⟩
    cases b1 with
    | true => exact ⟨_, rfl, _, n, b2, rfl, ht, k2, b2, rfl, q⟩
    | false => exact q
theorem ok_isword {f : Addr} {fd : FuncData} {k : Nat} {t40 : Tok} (F : Fun K "is_word" "is_word" s_is_word f fd) (GI : Got P w K mg base "is_integer" k ["value"] (spIsInt K)) (mI : mg "isinstance" = none) (mT : mg "tuple" = none) (ml : mg "len" = none) (m40 : mg "MOST_PARTS" = some (.int 40 t40)) :
    FnOk P w K mg base CX0 (k + 1) f fd ["value", "many"] spIsWord := by
  refine F.ok sc_is_word (fun vs H Q E h => ?_) (fun cdv A outer s H vs Q E hr h => ?_)
  · obtain ⟨t, n, w, rfl, _⟩ := h
    rfl
  · obtain ⟨t, n, w, rfl, ht, hg, q⟩ := h
    have nd := sc_is_word.nd
    refine ⟨_, pss_cons (ps_if (PW.pt (pw_or (pt_not (pt_val (pis "tuple" (by decide +kernel) mI mT (pv 0)))) (pw_or1 (pt_cmpR op_gt (plen ml (pv 0)) (pe_glob (v := .int 40) rfl m40 ⟨_, rfl⟩) (nomark _))))) pss_never pss_nil)
      (pss_cons (ps_set (i := 2) nd rfl (.inl rfl) pe_int)
      (pss_cons (ps_set (i := 3) nd rfl (.inl rfl) pe_int)
      (pss_cons (ps_for PassesOwn.never rfl (pi_tup (pv 0)) (pg_name (i := 4) nd rfl (.inl rfl))
        (pss_one (ps_if (PW.pt (pw_and (pt_val (pcall GI hr (pa_cons (pv 4) pa_nil))) (pw_and1 (pt_chain op_le op_lt pe_int (pv 4) (pv 1)))))
            (pss_one (ps_aug (i := 2) nd rfl (.inl rfl) pe_int ip_add))
          (pss_one (ps_if (pt_cmpR op_eq (pv 4) pe_str (nomark _)) (pss_one (ps_aug (i := 3) nd rfl (.inl rfl) pe_int ip_add))
          (pss_one (ps_if (PW.pt (pw_and (pt_cmpR op_eq (pv 4) pe_str (nomark _)) (pw_and1 (pt_cmpR op_gt (pv 3) pe_int (nomark _))))) (pss_one (ps_aug (i := 3) nd rfl (.inl rfl) pe_int ip_sub))
          (pss_one (ps_if (PW.pt (pw_and (pt_cmpR op_ne (pv 4) pe_str (nomark _)) (pw_and1 (pt_cmpR op_ne (pv 4) pe_str (nomark _))))) pss_never pss_nil)))))))))
      (pss_one (ps_ret (pe_and (pe_cmpR op_gt (pv 2) pe_int (nomark _)) (pe_one (pe_cmpR op_eq (pv 3) pe_int (nomark _))))))))), ?_⟩
    have hl := hg.len
    refine ⟨_, rfl, _, "tuple", true, rfl, ht.ty, by decide +kernel, _, rfl, iteF ⟨_, rfl, t, _, rfl, .inr ht.sq, _, _, rfl, rfl, _, rfl, itN (by rw [List.length_map]; omega) ?_⟩⟩
    have hne : nest w 0 ≠ none := by rw [hg.nst]; intro z; cases z
    refine ⟨_, rfl, t, rfl, ⟨_, ht.sq⟩, for_tup (K := K) (a := t) (xs := wv w) (fun i σ H' => ∃ (d : Nat) (y4 : Option V), σ = [some (.ref t), some (.int n), some (.int (nL (w.take i) : Int)), some (.int (d : Int)), y4] ∧ nest (w.take i) 0 = some d ∧ H' = H)
      ⟨0, none, rfl, rfl, rfl⟩ (fun i σ H' _ ⟨_, _, _, _, e⟩ => by rw [e]; exact ht.sq) ?_ ?_⟩
    · rintro i x σ H1 hx ⟨d, y4, rfl, hd, rfl⟩
      obtain ⟨s, hs, rfl⟩ := wv_get hx
      have e1 : nL (w.take (i + 1)) = nL (w.take i) + nL [s] := by rw [take_more hs, nL_app]
      have e2 : nest (w.take (i + 1)) 0 = nest [s] d := by rw [take_more hs, nest_app, hd]; rfl
      have h3 := nest_take hne (i + 1)
      obtain ⟨tn, tb, ht1, k1, k2, hb⟩ := sy_int (K := K) s
      refine ⟨_, rfl, s.v, tn, tb, false, rfl, ht1 H1, k1, k2, _, rfl, ?_⟩
      subst hb
      cases s with
      | l j =>
        have hj := hg.lets j (List.mem_of_getElem? hs)
        refine ⟨_, rfl, _, _, rfl, rfl, _, rfl, itY (show (0 : Int) ≤ (j : Int) by omega) ⟨_, rfl, _, _, rfl, rfl, _, rfl, itY (show (j : Int) < (n : Int) by omega) ⟨_, rfl, _, _, rfl, rfl, d, some (Sy.v (.l j)), ?_, by rw [e2]; rfl, rfl⟩⟩⟩
        rw [e1]; rfl
      | o =>
        refine ⟨_, rfl, rfl, _, rfl, itY rfl ⟨_, rfl, _, _, rfl, rfl, d + 1, some (Sy.v .o), ?_, by rw [e2]; rfl, rfl⟩⟩
        rw [e1]; rfl
      | c =>
        cases d with
        | zero => rw [e2] at h3; exact absurd rfl h3
        | succ d =>
          refine ⟨_, rfl, rfl, _, rfl, itN (by decide) ⟨_, rfl, rfl, _, rfl, itY rfl ⟨_, rfl, _, _, rfl, rfl, _, rfl, itY (show (0 : Int) < ((d + 1 : Nat) : Int) by omega) ⟨_, rfl, _, _, rfl, rfl, d, some (Sy.v .c), ?_, by rw [e2]; rfl, rfl⟩⟩⟩⟩
          rw [e1]
          have : (((d + 1 : Nat) : Int) - 1) = (d : Int) := by omega
          show [some (V.ref t), some (V.int n), some (V.int (nL (w.take i) : Int)), some (V.int (((d + 1 : Nat) : Int) - 1)), some (Sy.v .c)] = _
          rw [this]; rfl
      | p =>
        refine ⟨_, rfl, rfl, _, rfl, itN (by decide) ⟨_, rfl, rfl, _, rfl, itN (by decide) ⟨_, rfl, rfl, _, rfl, ?_⟩⟩⟩
        refine iteF (iteF ⟨d, some (Sy.v .p), ?_, by rw [e2]; rfl, rfl⟩)
        rw [e1]; rfl
      | m =>
        refine ⟨_, rfl, rfl, _, rfl, itN (by decide) ⟨_, rfl, rfl, _, rfl, itN (by decide) ⟨_, rfl, rfl, _, rfl, ?_⟩⟩⟩
        refine iteT ⟨_, rfl, rfl, _, rfl, iteF ⟨d, some (Sy.v .m), ?_, by rw [e2]; rfl, rfl⟩⟩
        rw [e1]; rfl
    · rintro σ H1 ⟨d, y4, rfl, hd, rfl⟩
      rw [List.length_map, List.take_length, hg.nst] at hd
      cases hd
      have hs := hg.slim
      refine ⟨_, rfl, _, _, rfl, rfl, _, rfl, itY ?_ ⟨_, rfl, rfl, q⟩⟩
      rw [List.length_map, List.take_length]
      omega
theorem ok_bookform {f : Addr} {fd : FuncData} {k : Nat} {t8 : Tok} (F : Fun K "has_book_form" "has_book_form" s_has_book_form f fd) (mI : mg "isinstance" = none) (mT : mg "tuple" = none) (ml : mg "len" = none) (m8 : mg "MOST_LETTERS" = some (.int 8 t8)) :
    FnOk P w K mg base CX0 (k + 1) f fd ["value"] spBookForm := by
  refine F.ok sc_has_book_form (fun vs H Q E h => ?_) (fun cdv A outer s H vs Q E hr h => ?_)
  · obtain ⟨b, ws, st, rfl, _⟩ := h
    rfl
  · obtain ⟨b, ws, st, rfl, ⟨p, pq, as, h1, h2, h3, h4⟩, hg, q⟩ := h
    have nd := sc_has_book_form.nd
    refine ⟨_, pss_cons (ps_if (PW.pt (pw_or (pt_not (pt_val (pis "tuple" (by decide +kernel) mI mT (pv 0)))) (pw_or1 (pt_cmpR op_ne (plen ml (pv 0)) pe_int (nomark _))))) pss_never pss_nil)
      (pss_cons (ps_set (i := 1) nd rfl (.inl rfl) (pixT (pv 0) pe_int))
      (pss_one (ps_ret (pe_and (pis "tuple" (by decide +kernel) mI mT (pv 1)) (pe_one (pe_chain op_le op_le pe_int (plen ml (pv 1)) (pe_glob (v := .int 8) rfl m8 ⟨_, rfl⟩))))))), ?_⟩
    have e := h4.length
    have e1 := hg.one
    have e2 := hg.few
    refine ⟨_, rfl, _, "tuple", true, rfl, ty_tup h1, by decide +kernel, _, rfl, iteF ⟨_, rfl, b, _, rfl, .inr (SqT.of h1), rfl, _, rfl, iteF ?_⟩⟩
    refine ⟨_, rfl, b, _, _, _, rfl, rfl, SqT.of h1, at0, ?_⟩
    refine ⟨_, rfl, _, "tuple", true, rfl, ty_tup h2, by decide +kernel, _, rfl, iteT ?_⟩
    refine ⟨_, rfl, p, _, rfl, .inr (SqT.of h2), _, _, rfl, rfl, _, rfl, itY (by rw [List.length_map]; omega) ⟨_, _, rfl, rfl, ?_⟩⟩
    show Q (V.bl (decide (((as.map V.ref).length : Int) ≤ 8))) H
    rw [decide_eq_true (show ((as.map V.ref).length : Int) ≤ 8 by rw [List.length_map]; omega)]
    exact q
end
end SK
namespace SK
open PySem PySem.Spec PyProof.Rows L2
/-! ### enumerate of a tuple -/
/-- the two cells that enumerate(v) lays -/
abbrev enumCell (it : Addr) : Obj := { cls := .type "enumerate", data := .fields #[.none, .bool false, .ref it, rawInt 0, .none, .none] }
theorem enum_new1 {v : Value} {o : Obj} {J : Heap → Prop} (B : Begins v o J) : Meets (Builtin.«enumerate.__new__» ⟨[.type "enumerate", v], []⟩) (fun _ R s => J s.heap ∧ R (.ok (.ret (.ref (s.heap.push o).objs.size))) { s with heap := (s.heap.push o).push (enumCell s.heap.objs.size) }) := by
  refine .of_wp fun prog w A R s h => ?_
  obtain ⟨hp, g, d, tk, os⟩ := s
  obtain ⟨j, h⟩ := h
  have sub := sub_enumerate
  have begun : ∀ {A' : Around} {E Q : Value → Shared → Prop}, Q (.ref hp.objs.size) ⟨hp.push o, g, d, tk, os⟩ → wpAny (model prog w) A' (pyIter v) Q E ⟨hp, g, d, tk, os⟩ := fun q => B.iter prog w _ _ ⟨hp, g, d, tk, os⟩ _ j q
  wp_walk using begun
  refine wpAny_stack_any fun _ => wpAny_pure ?_
  split <;> first
    | (rename_i c _ _ _ _ _; cases (c == Value.type "enumerate") <;> (wp_walk using begun; exact ⟨_, rfl, h⟩))
    | (wp_walk using begun; exact ⟨_, rfl, h⟩)
theorem enum_call1 {prog : Program} {w : World} {A : Around} {E Q : Value → Shared → Prop} {s : Shared} {v : Value} {o : Obj} {J : Heap → Prop} (B : Begins v o J) (j : J s.heap)
    (h : ∀ h', IsEnum h' (s.heap.objs.size + 1) s.heap.objs.size 0 .none → h'.get? s.heap.objs.size = some o → (∀ b o, s.heap.get? b = some o → h'.get? b = some o) → Q (.ref (s.heap.objs.size + 1)) { s with heap := h' }) :
    wpAny (model prog w) A (call (.type "enumerate") [v]) Q E s := by
  have z : (s.heap.push o).objs.size = s.heap.objs.size + 1 := Heap.size_push ..
  refine callType_new F.called_enumerate (by decide) (F.typeCall_enumerate_1 _) (F.newCall_enumerate_1 _) (fun obj => F.args_object_init_2 obj _) F.entry_enumerate_new (enum_new1 B) ⟨j, ?_⟩
  show _ ∧ _
  rw [z]
  have cell : IsEnum ((s.heap.push o).push (enumCell s.heap.objs.size)) (s.heap.objs.size + 1) s.heap.objs.size 0 .none := by
    have e := Heap.get?_push_size (s.heap.push o) (o := enumCell s.heap.objs.size) rfl
    rw [z] at e
    exact e
  exact ⟨⟨_, cell, rfl⟩, h _ cell (Heap.get?_push_of_some _ (Heap.get?_push_size _ B.free)) fun b u e => Heap.get?_push_of_some _ (Heap.get?_push_of_some _ e)⟩
def IteT (K : PySem.W.Frag) (a : Addr) : It where
  go := fun i H => ∃ (xs : List V) (x : V), SqT K H a xs ∧ xs[i]? = some x
  yld := fun i H v H' => ∃ (T : Addr) (x : V), v = .ref T ∧ H T = none ∧ H' = upd H T (.tup [.int (i : Nat), x]) ∧ ∀ xs, SqT K H a xs → xs[i]? = some x
  stop := fun i H => ∃ xs : List V, SqT K H a xs ∧ xs.length = i
theorem turn_enumT {P : Program} {w : World} {K : PySem.W.Frag} {elts : List Expr} {kk : Nat} {tpos : Pos} {a e it : Addr} (hea : a ≠ it) : Turn P w K (.Tuple elts kk tpos) (IteT K a) [e, it] e (fun i h => (∃ old, IsEnum h e it ((i : Nat) : Int) old) ∧ h.IsTupleIter it a i ∧ e ≠ it ∧ e ≠ a) := by
  refine ⟨List.mem_cons_self, ?obj, ?keep, ?item, ?done, ?self⟩
  case obj =>
    rintro i h ⟨⟨old, he⟩, ⟨o, ho, hc, hd⟩, _⟩ b hb
    rcases List.mem_cons.mp hb with rfl | hb
    · exact ⟨_, he, fun v q => nomatch q⟩
    · cases List.mem_singleton.mp hb
      exact ⟨o, ho, fun v q => by rw [hd] at q; cases q⟩
  case keep =>
    rintro i h h' ⟨⟨old, he⟩, hi, hne⟩ k
    exact ⟨⟨old, k e (by simp) _ he⟩, hi.at fun o q => k it (by simp) o q, hne⟩
  case self =>
    rintro A i s Q E ⟨⟨_, he⟩, _⟩ h
    exact wpAny_pyIter_enum he h
  case done =>
    intro X hP hw hK hc i pins s σ H E I hf st hg
    subst hP hw hK
    obtain ⟨⟨old, he⟩, hit, hne, hea'⟩ := st
    obtain ⟨xs, hq, hx⟩ := hg
    obtain ⟨its, rv, p, hz⟩ := I.tuple hq
    have hl := rv.length
    obtain ⟨f0, f1, f2, f3, f4, f5⟩ := hf it (by simp)
    have hh : X.A.in1.handled = none := I.ok.hd hc
    have hn : i = its.toArray.size := by rw [List.size_toArray]; omega
    subst hn
    exact wpAny_pyNext_enum_endD (Draws.tuple hh it a hea its.toArray) he ⟨hit, p⟩ fun h' eb => ⟨rfl, I.turned (t' := s.toks) (fun b o hb q => eb b o hb q) f0 f1 f3 f4 f5⟩
  case item =>
    intro X hP hw hK hc i pins s σ H E I hf st hg
    subst hP hw hK
    obtain ⟨⟨old, he⟩, hit, hne, hea'⟩ := st
    obtain ⟨xs, x, hq, hx⟩ := hg
    obtain ⟨its, rv, p, hz⟩ := I.tuple hq
    obtain ⟨u, hu, ru⟩ := rv.get hx
    have hel : e < s.heap.objs.size := Heap.lt_size he
    have hil : it < s.heap.objs.size := by obtain ⟨_, q, _⟩ := hit; exact Heap.lt_size q
    have hi : i < its.toArray.size := by rw [List.size_toArray]; exact (List.getElem?_eq_some_iff.mp hu).1
    have hh : X.A.in1.handled = none := I.ok.hd hc
    refine wpAny_pyNext_enum_itemD (Draws.tuple hh it a hea its.toArray) he ⟨hit, p⟩ hi hne (by simp [hne, hea']) fun x' h' tk hp ho hst hT hsz hk => ?_
    have ex : x' = u := Option.some.inj (hp.symm.trans (by simpa using hu))
    subst ex
    refine ⟨_, rfl, wpAny_letOwnedTupleGo_enum (s := { s with heap := h', toks := tk + 1 }) ho fun h2 he2 sb => ?_⟩
    have at2 : h2.get? s.heap.objs.size = some { cls := .type "tuple", data := .seq #[.int i tk, x'] } := (sb.2 _ (Nat.ne_of_gt hel)).trans hT
    have laid : ObjOk X.prog X.w (upd H s.heap.objs.size (.tup [.int (i : Nat), x])) h2 s.heap.objs.size (.tup [.int (i : Nat), x]) := ⟨szl 2, [.int i tk, x'], .cons ⟨_, rfl⟩ (.cons ru .nil), _, at2, rfl, _, rfl⟩
    have J : Inv X pins σ (upd H s.heap.objs.size (.tup [.int (i : Nat), x])) { s with heap := h2, toks := tk + 1 } :=
      I.turnedNew (ch := [e, it]) (fun b ob hb q => (sb.2 b fun z => hb (by simp [z])).trans (hk b ob (fun z => hb (by simp [z])) (fun z => hb (by simp [z])) q)) hf (Nat.le_refl _) laid
    refine ⟨.ref s.heap.objs.size, _, J, rfl, ⟨_, x, rfl, I.hok.fresh (Nat.le_refl _), rfl, fun ys hy => ?_⟩, ⟨⟨x', ?_⟩, hst.1.at fun o q => (sb.2 it (Ne.symm hne)).trans q, hne, hea'⟩, fun b hb => ?_⟩
    · rw [I.tuple_inj hy hq]
      exact hx
    · have e1 : ((i + 1 : Nat) : Int) = (i : Int) + 1 := by omega
      rw [e1]
      exact he2
    · have hb' : b < s.heap.objs.size := by
        rcases List.mem_cons.mp hb with z | z
        · rw [z]; exact hel
        · rw [List.mem_singleton.mp z]; exact hil
      rw [upd_ne (Nat.ne_of_lt hb')]
      exact (hf b hb).1
def iEnumT (K : PySem.W.Frag) (ta : TA) : TI := fun σ H R => ta σ H fun vs H1 => ∃ a xs, vs = [.ref a] ∧ SqT K H1 a xs ∧ R (IteT K a) H1
theorem pi_enumT {X : Cx} {e : Expr} {ta : TA} {p pos tpos : Pos} {elts : List Expr} {kk : Nat} (hg : Gl X "enumerate") (hm : X.mg "enumerate" = none) (ha : PA X [e] ta) (hs : starEach [e] X.env = [(false, eval e X.env)] := by rfl) :
    PI X (.Tuple elts kk tpos) (.Call (.Name "enumerate" p) [e] [] pos) (iEnumT X.K ta) := by
  refine ⟨fun pins s σ H R I h => Call_ (ld_blt I hg hm boot_enumerate (PyProof.Rows.callWith_type1 (thn (ha.run pos pins s σ H _ I h) fun us s1 ⟨vs, H1, I1, r1, q1⟩ => ?_) hs rfl))⟩
  obtain ⟨a, xs, rfl, hq, q⟩ := q1
  rcases r1 with _ | ⟨r, rr⟩
  cases rr
  cases r
  obtain ⟨its, rv, p', hz⟩ := I1.tuple hq
  refine enum_call1 (begins_tuple a its.toArray) p' fun h' he hit hk => wpAny_pyIter_enum he ?_
  have al : a < s1.heap.objs.size := p'.lt
  refine ⟨s1.heap.objs.size + 1, [s1.heap.objs.size + 1, s1.heap.objs.size], _, _, H1, rfl, I1.kept (t' := s1.toks) hk, turn_enumT (a := a) (e := s1.heap.objs.size + 1) (it := s1.heap.objs.size) (Nat.ne_of_lt al), ⟨⟨.none, he⟩, ⟨_, hit, rfl, rfl⟩, Nat.succ_ne_self _, Nat.ne_of_gt (Nat.lt_succ_of_lt al)⟩, fun b hb => ?_, q⟩
  have hle : s1.heap.objs.size ≤ b := by
    rcases List.mem_cons.mp hb with z | z
    · rw [z]; exact Nat.le_succ _
    · rw [List.mem_singleton.mp z]; exact Nat.le_refl _
  exact I1.fpOk hle (I1.hok.fresh hle)
/-- the loop by an invariant -/
theorem for_enumT {K : PySem.W.Frag} {a : Addr} {xs : List V} {g : TG} {tb : TS} {D : Ends} {σ : L2.St} {H : Hp} (Pv : Nat → L2.St → Hp → Prop) (h0 : Pv 0 σ H) (hl : ∀ i σ H, Pv i σ H → SqT K H a xs)
    (hs : ∀ (i : Nat) (x : V) (T : Addr) (σ : L2.St) (H : Hp), xs[i]? = some x → Pv i σ H → H T = none → g (.ref T) σ (upd H T (.tup [.int (i : Nat), x])) fun σ2 H2 => tb { D with nx := Pv (i + 1), ct := Pv (i + 1), bk := D.nx } σ2 H2)
    (hd : ∀ σ H, Pv xs.length σ H → D.nx σ H) :
    ∃ W : Nat → Nat → L2.St → Hp → Prop, (∃ m, W 0 m σ H) ∧ ∀ i m σ H, W i m σ H → ((IteT K a).stop i H ∧ D.nx σ H) ∨ ((IteT K a).go i H ∧ ∃ N : L2.St → Hp → Prop, (∀ σ' H', N σ' H' → ∃ m', m' < m ∧ W (i + 1) m' σ' H') ∧ ∀ v H', (IteT K a).yld i H v H' → g v σ H' fun σ2 H2 => tb { D with nx := N, ct := N, bk := D.nx } σ2 H2) := by
  refine ⟨fun i m σ H => m = xs.length - i ∧ i ≤ xs.length ∧ Pv i σ H, ⟨_, rfl, Nat.zero_le _, h0⟩, ?_⟩
  rintro i m σ H ⟨rfl, hi, p⟩
  have q := hl i σ H p
  by_cases hlt : i < xs.length
  · refine .inr ⟨⟨xs, xs[i], q, List.getElem?_eq_getElem hlt⟩, Pv (i + 1), fun σ' H' p' => ⟨_, by omega, rfl, hlt, p'⟩, ?_⟩
    rintro v H' ⟨T, x, rfl, nT, rfl, hx⟩
    exact hs i x T σ H (hx xs q) p nT
  · have e : i = xs.length := by omega
    subst e
    exact .inl ⟨⟨xs, q, rfl⟩, hd σ H p⟩
end SK
namespace SK
open PySem PySem.Spec PyProof.Rows L2
structure GotD (P : Program) (w : World) (K : PySem.W.Frag) (mg : Str → Option Value) (base : Heap) (x : Str) (k : Nat) (ps : List Str) (dvs : List V) (sp : Sp) : Prop where
  ex : ∃ (f : Addr) (fd : FuncData) (ds : List Value), FnOk P w K mg base CX0 k f fd ps sp ∧ mg x = some (.ref f) ∧ PySem.W.keepIn K (.ref f) = true ∧ Binds K fd ps ds ∧ Vals dvs ds
theorem pcallD {X : Cx} {x : Str} {k : Nat} {ps : List Str} {dvs : List V} {sp : Sp} {e : Expr} {es : List Expr} {t : TA} {p pos : Pos} (G : GotD X.prog X.w X.K X.mg X.base x k ps dvs sp) (hr : Room k X.A) (ha : PA X (e :: es) t) (hg : Gl X x := by rfl)
    (hdb : (x == ("__debug__" : Str)) = false := by decide)
    (he : starEach (e :: es) X.env = (false, eval e X.env) :: starEach es X.env := by rfl) (hpl : (backTo pos (starEach es X.env)).any (·.1) = false := by rfl) : PE X (.Call (.Name x p) (e :: es) [] pos) (tCall sp dvs E0 t) := by
  obtain ⟨f, fd, ds, F, a, b, c, d⟩ := G.ex
  exact pe_call F hr hg a b c d pass0 ha hdb he hpl
def spCheckBook : Sp := fun vs H Q _ => ∃ (b : Addr) (ws : List (List Sy)) (st : List Sy), vs = [.ref b] ∧ BookAt H b ws st ∧ GoodBook ws st ∧ ∀ H', Same H H' → Q .non H'
def spCheckNum : Sp := fun vs H Q _ => ∃ (n lo hi : Int), vs = [.int n, .int lo, .int hi] ∧ lo ≤ n ∧ n ≤ hi ∧ Q .non H
def spCheckAge : Sp := fun vs H Q _ => ∃ (n m : Nat), vs = [.int n, .int m] ∧ n ≤ m ∧ Q .non H
def spCheckBA : Sp := fun vs H Q _ => ∃ (b : Addr) (n m : Nat) (ws : List (List Sy)) (st : List Sy), vs = [.ref b, .int n, .int m] ∧ BookAt H b ws st ∧ GoodBook ws st ∧ n ≤ m ∧ ∀ H', Same H H' → Q .non H'
section
variable {P : Program} {w : World} {K : PySem.W.Frag} {mg : Str → Option Value} {base : Heap}
theorem ok_checkbook {f : Addr} {fd : FuncData} {k : Nat} (F : Fun K "check_book" "check_book" s_check_book f fd) (GF : Got P w K mg base "has_book_form" k ["value"] spBookForm) (GW : Got P w K mg base "is_word" k ["value", "many"] spIsWord) (ml : mg "len" = none) (mE : mg "enumerate" = none) :
    FnOk P w K mg base CX0 (k + 1) f fd ["value"] spCheckBook := by
  refine F.ok sc_check_book (fun vs H Q E h => ?_) (fun cdv A outer s H vs Q E hr h => ?_)
  · obtain ⟨b, ws, st, rfl, _⟩ := h
    rfl
  · obtain ⟨b, ws, st, rfl, hb, hg, q⟩ := h
    have nd := sc_check_book.nd
    refine ⟨_, pss_cons (ps_if (pt_not (pt_val (pcall GF hr (pa_cons (pv 0) pa_nil)))) pss_never pss_nil)
      (pss_cons (ps_asg (pv 0) (pg_tup (by rfl) (pgs_cons (pg_name (i := 1) nd rfl (.inl rfl)) (pgs_cons (pg_name (i := 2) nd rfl (.inl rfl)) pgs_nil))))
      (pss_cons (ps_for PassesOwn.never rfl (pi_enumT (by rfl) mE (pa_cons (pv 1) pa_nil)) (pg_tup (by rfl) (pgs_cons (pg_name (i := 3) nd rfl (.inl rfl)) (pgs_cons (pg_name (i := 4) nd rfl (.inl rfl)) pgs_nil)))
        (pss_one (ps_if (pt_not (pt_val (pcall GW hr (pa_cons (pv 4) (pa_cons (plen ml (pv 1)) pa_nil))))) pss_never pss_nil)))
      (pss_one (ps_if (pt_not (pt_val (pcall GW hr (pa_cons (pv 2) (pa_cons (plen ml (pv 1)) pa_nil))))) pss_never pss_nil)))), ?_⟩
    obtain ⟨p, pq, as, h1, h2, h3, h4⟩ := id hb
    have el := h4.length
    refine ⟨_, rfl, b, ws, st, rfl, hb, hg, _, rfl, iteF ?_⟩
    refine ⟨_, rfl, b, _, rfl, SqT.of h1, rfl, _, _, rfl, _, _, rfl, rfl, ?_⟩
    refine ⟨_, rfl, p, _, rfl, SqT.of h2, for_enumT (K := K) (a := p) (xs := as.map V.ref) (fun i σ H' => ∃ y3 y4 : Option V, σ = [some (.ref b), some (.ref p), some (.ref pq), y3, y4] ∧ Same H H') ⟨none, none, rfl, Same.refl H⟩ (fun i σ H' ⟨_, _, _, s⟩ => sTup s (SqT.of h2)) ?_ ?_⟩
    · rintro i x T σ H1 hx ⟨y3, y4, rfl, S1⟩ nT
      have S2 := S1.trans (same_upd (o := .tup [.int (i : Nat), x]) nT)
      rw [List.getElem?_map] at hx
      obtain ⟨a, ha, rfl⟩ : ∃ a, as[i]? = some a ∧ x = V.ref a := by
        cases e : as[i]? with
        | none => rw [e] at hx; cases hx
        | some a => rw [e] at hx; exact ⟨a, rfl, (Option.some.inj hx).symm⟩
      have hi : i < ws.length := by rw [← el]; exact (List.getElem?_eq_some_iff.mp ha).1
      have hw := List.getElem?_eq_getElem hi
      have gw := hg.words _ (List.getElem_mem hi)
      generalize ws[i] = w1 at hw gw
      obtain ⟨a', ha', ht⟩ := paired_get h4 hw
      rw [ha] at ha'
      cases ha'
      refine ⟨T, _, rfl, SqT.of upd_same, rfl, _, _, rfl, _, _, rfl, rfl, ?_⟩
      refine ⟨_, rfl, _, rfl, p, _, rfl, .inr (sTup S2 (SqT.of h2)), a, ws.length, w1, ?_, ht.same S2, gw, _, rfl, iteF ⟨_, _, rfl, S2⟩⟩
      rw [List.length_map, el]; rfl
    · rintro σ H1 ⟨y3, y4, rfl, S1⟩
      refine ⟨_, rfl, _, rfl, p, _, rfl, .inr (sTup S1 (SqT.of h2)), pq, ws.length, st, ?_, h3.same S1, hg.start, _, rfl, iteF (q H1 S1)⟩
      rw [List.length_map, el]; rfl
end
end SK
namespace SK
open PySem PySem.Spec PyProof.Rows L2
section
variable {P : Program} {w : World} {K : PySem.W.Frag} {mg : Str → Option Value} {base : Heap}
theorem ok_checknum {f : Addr} {fd : FuncData} {k : Nat} (F : Fun K "check_number" "check_number" s_check_number f fd) (GI : Got P w K mg base "is_integer" k ["value"] (spIsInt K)) :
    FnOk P w K mg base CX0 (k + 1) f fd ["value", "least", "most"] spCheckNum := by
  refine F.ok sc_check_number (fun vs H Q E h => ?_) (fun cdv A outer s H vs Q E hr h => ?_)
  · obtain ⟨n, lo, hi, rfl, _⟩ := h
    rfl
  · obtain ⟨n, lo, hi, rfl, h1, h2, q⟩ := h
    refine ⟨_, pss_one (ps_if (PW.pt (pw_or (pt_not (pt_val (pcall GI hr (pa_cons (pv 0) pa_nil)))) (pw_or1 (pt_not (pt_chain op_le op_le (pv 1) (pv 0) (pv 2)))))) pss_never pss_nil), ?_⟩
    refine ⟨_, rfl, _, "int", true, false, rfl, ty_int _, by decide +kernel, by decide +kernel, _, rfl, iteF ?_⟩
    refine ⟨_, rfl, _, rfl, _, _, rfl, rfl, _, rfl, itY h1 ⟨_, rfl, _, _, rfl, rfl, _, rfl, ?_⟩⟩
    rw [decide_eq_true h2]
    exact iteF q
theorem ok_checkage {f : Addr} {fd : FuncData} {k : Nat} (F : FunD K "check_age" "check_age" (defArgs s_check_age) (defBody s_check_age) (defScope s_check_age) [.int 1000] [] f fd) (GN : Got P w K mg base "check_number" k ["value", "least", "most"] spCheckNum) :
    FnOk P w K mg base CX0 (k + 1) f fd ["value", "most"] spCheckAge := by
  refine F.ok sc_check_age (fun vs H Q E h => ?_) (fun cdv A outer s H vs Q E hr h => ?_)
  · obtain ⟨n, m, rfl, _⟩ := h
    rfl
  · obtain ⟨n, m, rfl, hn, q⟩ := h
    refine ⟨_, pss_one (ps_expr (pcall GN hr (pa_cons (pv 0) (pa_cons pe_int (pa_cons (pv 1) pa_nil))))), ?_⟩
    exact ⟨_, rfl, _, rfl, (n : Int), 0, (m : Int), rfl, by omega, by omega, q⟩
theorem binds_checkage {f : Addr} {fd : FuncData} (F : FunD K "check_age" "check_age" (defArgs s_check_age) (defBody s_check_age) (defScope s_check_age) [.int 1000] [] f fd) : ∃ ds, Vals [V.int 1000] ds ∧ Binds K fd ["value", "most"] ds := by
  refine F.binds1 (ps := ["value", "most"]) 1 0 (by simp) rfl (fun T kV doc pm an cdv ct us its h1 h2 => ?_)
  match us, its, h1, h2 with
  | [u], [i], _, _ => exact ⟨_, rfl, rfl⟩
theorem ok_checkba {f : Addr} {fd : FuncData} {k : Nat} (F : FunD K "check_book_and_age" "check_book_and_age" (defArgs s_check_book_and_age) (defBody s_check_book_and_age) (defScope s_check_book_and_age) [.int 1000] [] f fd) (GB : Got P w K mg base "check_book" k ["value"] spCheckBook) (GA : Got P w K mg base "check_age" k ["value", "most"] spCheckAge) :
    FnOk P w K mg base CX0 (k + 1) f fd ["book", "age", "most"] spCheckBA := by
  refine F.ok sc_check_book_and_age (fun vs H Q E h => ?_) (fun cdv A outer s H vs Q E hr h => ?_)
  · obtain ⟨b, n, m, ws, st, rfl, _⟩ := h
    rfl
  · obtain ⟨b, n, m, ws, st, rfl, hb, hg, hn, q⟩ := h
    refine ⟨_, pss_cons (ps_expr (pcall GB hr (pa_cons (pv 0) pa_nil))) (pss_one (ps_expr (pcall GA hr (pa_cons (pv 1) (pa_cons (pv 2) pa_nil))))), ?_⟩
    exact ⟨_, rfl, b, ws, st, rfl, hb, hg, fun H1 S1 => ⟨_, rfl, _, rfl, n, m, rfl, hn, q H1 S1⟩⟩
theorem binds_checkba {f : Addr} {fd : FuncData} (F : FunD K "check_book_and_age" "check_book_and_age" (defArgs s_check_book_and_age) (defBody s_check_book_and_age) (defScope s_check_book_and_age) [.int 1000] [] f fd) : ∃ ds, Vals [V.int 1000] ds ∧ Binds K fd ["book", "age", "most"] ds := by
  refine F.binds1 (ps := ["book", "age", "most"]) 2 0 (by simp) rfl (fun T kV doc pm an cdv ct us its h1 h2 => ?_)
  match us, its, h1, h2 with
  | [u, u2], [i], _, _ => exact ⟨_, rfl, rfl⟩
end
end SK
namespace SK
open PySem PySem.Spec PyProof.Rows L2 PpSet
/-! ### {e for target in iter if ..}, e a whole number -/
def tSci (w : World) (wi : TI) (g : TG) (tt : TT) (te : TE) (vs : List Nat) : TE := fun σ H Q => wi σ H fun J H1 => ∀ D, H1 D = none →
  ∃ W : Nat → Nat → Hp → Prop, (∃ m, W 0 m (upd H1 D (SetO w D (fun _ => false) 0))) ∧ ∀ i m H, W i m H → (J.stop i H ∧ Q (.ref D) H) ∨
    (J.go i H ∧ ∃ Nx : Hp → Prop, (∀ H', Nx H' → ∃ m', m' < m ∧ W (i + 1) m' H') ∧ ∀ x H', J.yld i H x H' → g x (wipe σ vs) H' fun σ2 H2 => wipe σ2 vs = wipe σ vs ∧ tt σ2 H2 fun b H3 =>
      if b = true then te σ2 H3 fun y H4 => ∃ (k : Int) (S : Int → Bool) (n : Nat), y = .int k ∧ H4 D = some (SetO w D S n) ∧ n + 1 < scanBound ∧ Nx (upd H4 D (SetO w D (fun j => S j || decide (j = k)) (if S k = true then n else n + 1))) else Nx H3)
section
variable {X : Cx} {elt tg iter : Expr} {ifs : List Expr} {scope : Scope} {own : List (Str × Nat)} {pos : Pos} {wi : TI} {g : TG} {tt : TT} {te : TE}
theorem pe_sci (hc : X.calm = true) (hN : X.N.Nodup) (hi : PI X tg iter wi) (ok : BlkOk X.N X.env.scope scope own) (hg : ∀ s H C cl fp, PG (X.blk s H scope (compEnvC scope cl C X.env) fp) tg g) (ht : ∀ s H C cl fp, PTs (X.blk s H scope (compEnvC scope cl C X.env) fp) ifs tt)
    (he : ∀ s H C cl fp, PE (X.blk s H scope (compEnvC scope cl C X.env) fp) elt te) (hs : ∀ x, foldedSetIterable iter X.env x = pure x := by intro _; rfl) : PE X (.SetComp elt [⟨tg, iter, ifs, 0⟩] scope pos) (tSci X.w wi g tt te (own.map (·.2))) := by
  refine ⟨fun pins s σ H Q I h => ?_⟩
  rw [eval_SetComp]
  refine wpAny_comprehension_free (use := none) rfl hs (closure_ok fun y hy e => (ok.free y hy e).elim (fun k => I.ok.has _ (.inl k)) fun k => I.ok.has _ (.inr k)) ok.kind (fun y hy e => by rw [ok.uniq y hy, e])
    (thn (hi.run pins s σ H _ I h) fun xv s1 hx => thn hx fun itv s2 ⟨it, fp, tn, J, H2, eit, I2, T, st2, f2, q⟩ => ?_)
  subst eit
  refine newSet_ok (newEnv_comp ?_)
  generalize hD : s2.heap.objs.size = D
  obtain ⟨W, ⟨m0, w0⟩, turn⟩ := q D (I2.hok.fresh (Nat.le_of_eq hD))
  let cell : Obj := { cls := .type "set", dict := none, data := .set #[] 0 (.fresh 0 0 (!X.w.params.followText "set-order")) }
  generalize hs3 : ({ s2 with heap := s2.heap.push cell } : Shared) = s3
  have h3 : s3.heap = s2.heap.push cell := by rw [← hs3]
  have I3 : Inv X pins σ (upd H2 D (SetO X.w D (fun _ => false) 0)) s3 := by
    rw [← hs3]
    exact I2.laid (t' := s2.toks) (fun b o e => Heap.get?_push_of_some _ e) (Nat.le_of_eq hD) (by rw [← hD]; exact setO_new (setR_fresh X.w))
  have f3 : ∀ b ∈ fp, FpOk X pins (upd H2 D (SetO X.w D (fun _ => false) 0)) b ∧ b < s3.heap.objs.size := fun b hb => by
    obtain ⟨o, e, _⟩ := T.obj _ _ st2 b hb
    have lt := Heap.lt_size e
    exact ⟨⟨by rw [upd_ne (by rw [← hD]; exact Nat.ne_of_lt lt)]; exact (f2 b hb).1, (f2 b hb).2⟩, by rw [h3, Heap.size_push]; exact Nat.lt_succ_of_lt lt⟩
  have st3 : tn 0 s3.heap := T.keep _ _ _ st2 fun b _ o e => by rw [h3]; exact Heap.get?_push_of_some _ e
  have I4 := block_start I3 ok hN f3
  let cells := cellsFrom (s3.heap.objs.size + 1) scope.names (cloFrom X.env.cells scope.names [])
  have pg := hg s3 (upd H2 D (SetO X.w D (fun _ => false) 0)) s3.heap.objs.size cells fp
  have pt := ht s3 (upd H2 D (SetO X.w D (fun _ => false) 0)) s3.heap.objs.size cells fp
  have pe := he s3 (upd H2 D (SetO X.w D (fun _ => false) 0)) s3.heap.objs.size cells fp
  show codeAny _ _ (.compStart _ 0 (.ref it) (.ref D) (compEnvC scope cells s3.heap.objs.size X.env)) _ { s3 with heap := pushCells (s3.heap.push { cls := .type "dict", data := .dict #[] }) scope.names }
  change Inv (X.blk s3 _ scope (compEnvC scope cells s3.heap.objs.size X.env) fp) [] _ _ _ at I4
  generalize hce : compEnvC scope cells s3.heap.objs.size X.env = ce at I4 pg pt pe ⊢
  have cL : ce.locals = s3.heap.objs.size := by rw [← hce]; rfl
  generalize hH3 : upd H2 D (SetO X.w D (fun _ => false) 0) = H3 at I3 I4 pg pt pe w0 f3
  generalize hs4 : ({ s3 with heap := pushCells (s3.heap.push { cls := .type "dict", data := .dict #[] }) scope.names } : Shared) = s4 at I4 ⊢
  have st4 : tn 0 s4.heap := T.keep _ _ _ st3 fun b _ o e => by rw [← hs4]; exact pushCells_keeps _ _ _ _ (Heap.get?_push_of_some _ e)
  -- the iterator's own cells within the block
  have inside : ∀ {σ' : L2.St} {H' : Hp} {s' : Shared}, Inv (X.blk s3 H3 scope ce fp) [] σ' H' s' → (∀ b ∈ fp, H' b = none) → ∀ b ∈ fp, FpOk (X.blk s3 H3 scope ce fp) [] H' b := fun I' hn b hb =>
    ⟨hn b hb, (I'.ok.exf b hb).1, I'.ok.exfs b hb, .inl hb, (I'.ok.exf b hb).2 |> fun k x c e => k x c e, fun p hp => nomatch hp⟩
  have loop : codeAny (model X.prog X.w) X.A (.compLoop (.SetComp elt [⟨tg, iter, ifs, 0⟩] scope pos) 0 (.ref it) (.ref D) ce) (compPost (model X.prog X.w) X.A X.xe none (EP X pins σ Q) (.ref D) s3.heap.objs.size) s4 := by
    refine compLoopS_any (fun n s' => ∃ i H', Inv (X.blk s3 H3 scope ce fp) [] (wipe σ (own.map (·.2))) H' s' ∧ tn i s'.heap ∧ (∀ b ∈ fp, H' b = none) ∧ W i n H') ?_ m0 ⟨0, H3, I4, st4, fun b hb => (f3 b hb).1.1, w0⟩
    rintro n s5 ⟨i, H5, I5, st5, n5, w5⟩
    rcases turn i n H5 w5 with ⟨stop, wish⟩ | ⟨go, Nx, hNx, step⟩
    · refine thnF (T.done (X.blk s3 H3 scope ce fp) rfl rfl rfl hc i [] s5 _ H5 (fun _ _ => False) I5 (inside I5 n5) st5 stop) fun r s6 ⟨hr, I6⟩ => ?_
      subst hr
      have I7 : Inv X pins σ H5 s6 := I3.call' (ch := fp) I6.os I6.base I6.hok I6.bare fun b hb => ⟨(f3 b hb).1.2.2.2.1, (f3 b hb).1.2.1, (f3 b hb).1.2.2.2.2.1, (f3 b hb).1.2.2.2.2.2⟩
      have nC : H5 ce.locals = none := I6.free
      obtain ⟨m, hn, _⟩ := I6.loc
      have hn' : s6.heap.Ns ce.locals m := hn
      rw [cL] at hn' nC
      obtain ⟨e0, e1, e2, e3, e4, e5⟩ := I3.fpOk (Nat.le_refl _) nC
      exact ⟨m, hn', fun h'' sb => ⟨.ref D, H5, I7.turned (t' := s6.toks) (fun b o hb e => (sb.2 b hb).trans e) e0 e1 e3 e4 e5, rfl, wish⟩⟩
    · refine thnF (T.item (X.blk s3 H3 scope ce fp) rfl rfl rfl hc i [] s5 _ H5 (fun _ _ => False) I5 (inside I5 n5) st5 go) fun r s6 ⟨u, hr, h6⟩ => ?_
      subst hr
      refine thnF h6 fun _ s7 ⟨x, H7, I7, r7, y7, st7, n7⟩ => thnF (pg.run _ s7 _ H7 x u _ (I7.pinned (inside I7 n7) (T.obj _ _ st7)) r7 (step x H7 y7)) fun _ s8 ⟨σ8, H8, I8, hw8, q8⟩ => thnF (pt.run _ s8 σ8 H8 _ I8 q8) fun b s9 ⟨H9, I9, q9⟩ => ?_
      have fin : ∀ {s' : Shared} {H' : Hp}, Inv (X.blk s3 H3 scope ce fp) ([] ++ pinsAt fp s7.heap) σ8 H' s' → Nx H' → ∃ m, m < n ∧ ∃ i H', Inv (X.blk s3 H3 scope ce fp) [] (wipe σ (own.map (·.2))) H' s' ∧ tn i s'.heap ∧ (∀ b ∈ fp, H' b = none) ∧ W i m H' := fun {s' H'} I' nx => by
        obtain ⟨m', hm, w'⟩ := hNx H' nx
        have held : ∀ b ∈ fp, ∀ o, s7.heap.get? b = some o → s'.heap.get? b = some o ∧ H' b = none := fun b hb o e => by
          have z := I'.pin (b, o) (List.mem_append_right _ (List.mem_append_right _ (mem_pinsAt hb e)))
          exact ⟨z.1, z.2.1⟩
        refine ⟨m', hm, i + 1, H', (I'.unpinned (pins := [])).weak (by rw [← hw8, wipe_length]) (fun j v e => ?_), T.keep _ _ _ st7 fun b hb o e => (held b hb o e).1, fun b hb => ?_, w'⟩
        · rw [← hw8] at e
          exact (wipe_some e).1
        · obtain ⟨o, e, _⟩ := T.obj _ _ st7 b hb
          exact (held b hb o e).2
      cases b with
      | false => exact fin I9 q9
      | true =>
        refine thnF (pe.run _ s9 σ8 H9 _ I9 q9) fun z s10 ⟨yv, H10, I10, r10, k, S0, n0, ey, hD10, hz10, nx⟩ => ?_
        subst ey
        refine thnF (mt_sadd (X := X.blk s3 H3 scope ce fp) _ s10 σ8 H10 (.ref D) [.int k] (.ref D) [z] (fun _ H' => Nx H') I10 rfl (.cons r10 .nil) ⟨D, k, S0, n0, rfl, rfl, hD10, hz10, nx⟩) fun _ s11 ⟨_, H11, I11, _, nx'⟩ => fin I11 nx'
  exact codeAny_compStart_set loop (T.self X.A 0 _ _ _ st4 loop)
end
end SK
namespace SK
open PySem PySem.Spec PyProof.Rows L2
theorem sci_it {J : It} {n : Nat} {G : Hp → Prop} {Y : Nat → Hp → V → Hp → Prop} {w : World} (wk : Walk J n G Y) {g : TG} {tt : TT} {te : TE} {vs : List Nat} {σ : L2.St} {H1 : Hp} {D : Addr} {Qd : Hp → Prop} (Pv : Nat → Hp → Prop) (h0 : Pv 0 (upd H1 D (SetO w D (fun _ => false) 0))) (hG : ∀ i H, i ≤ n → Pv i H → G H)
    (hs : ∀ i x H H', i < n → Pv i H → Y i H x H' → g x (wipe σ vs) H' fun σ2 H2 => wipe σ2 vs = wipe σ vs ∧ tt σ2 H2 fun b H3 =>
      if b = true then te σ2 H3 fun y H4 => ∃ (k : Int) (S : Int → Bool) (n : Nat), y = .int k ∧ H4 D = some (SetO w D S n) ∧ n + 1 < scanBound ∧ Pv (i + 1) (upd H4 D (SetO w D (fun j => S j || decide (j = k)) (if S k = true then n else n + 1))) else Pv (i + 1) H3)
    (hd : ∀ H, Pv n H → Qd H) : ∃ W : Nat → Nat → Hp → Prop, (∃ m, W 0 m (upd H1 D (SetO w D (fun _ => false) 0))) ∧ ∀ i m H, W i m H → (J.stop i H ∧ Qd H) ∨
      (J.go i H ∧ ∃ Nx : Hp → Prop, (∀ H', Nx H' → ∃ m', m' < m ∧ W (i + 1) m' H') ∧ ∀ x H', J.yld i H x H' → g x (wipe σ vs) H' fun σ2 H2 => wipe σ2 vs = wipe σ vs ∧ tt σ2 H2 fun b H3 =>
        if b = true then te σ2 H3 fun y H4 => ∃ (k : Int) (S : Int → Bool) (n : Nat), y = .int k ∧ H4 D = some (SetO w D S n) ∧ n + 1 < scanBound ∧ Nx (upd H4 D (SetO w D (fun j => S j || decide (j = k)) (if S k = true then n else n + 1))) else Nx H3) := by
  refine ⟨fun i m H => m = n - i ∧ i ≤ n ∧ Pv i H, ⟨_, rfl, Nat.zero_le _, h0⟩, ?_⟩
  rintro i m H ⟨rfl, hi, p⟩
  have q := hG i H hi p
  by_cases hlt : i < n
  · exact .inr ⟨wk.goes i H hlt q, Pv (i + 1), fun H' p' => ⟨_, by omega, rfl, hlt, p'⟩, fun x H' y => hs i x H H' hlt p (wk.yields i H x H' hlt q y)⟩
  · have e : i = n := by omega
    subst e
    exact .inl ⟨wk.stops H q, hd H p⟩
/-! ### the letters of a piece -/
def isI (s : Sy) (j : Int) : Bool := match s with
  | .l k => decide (j = (k : Int))
  | _ => false
def hasI (v : List Sy) (j : Int) : Bool := v.any fun s => isI s j
def numI (v : List Sy) : Nat := ((List.range 8).filter fun (j : Nat) => hasI v (j : Int)).length
theorem hasI_app (v : List Sy) (s : Sy) (j : Int) : hasI (v ++ [s]) j = (hasI v j || isI s j) := by
  unfold hasI
  rw [List.any_append]
  simp
theorem hasI_mem {v : List Sy} {k : Nat} : hasI v (k : Int) = true ↔ Sy.l k ∈ v := by
  unfold hasI
  rw [List.any_eq_true]
  constructor
  · rintro ⟨s, hs, e⟩
    cases s with
    | l j =>
      have : (k : Int) = (j : Int) := of_decide_eq_true e
      have : k = j := by omega
      subst this
      exact hs
    | p => cases e
    | m => cases e
    | o => cases e
    | c => cases e
  · intro h
    exact ⟨_, h, decide_eq_true rfl⟩
theorem count_add : ∀ {l : List Nat} {p : Nat → Bool} {k : Nat}, l.Nodup → k ∈ l → p k = false → (l.filter fun j => p j || decide ((j : Int) = (k : Int))).length = (l.filter p).length + 1
  | [], _, _, _, h, _ => by cases h
  | a :: l, p, k, nd, hm, hp => by
    have nd' := (List.nodup_cons.mp nd)
    by_cases e : a = k
    · subst e
      have rest : (l.filter fun j => p j || decide ((j : Int) = (a : Int))) = l.filter p := by
        refine List.filter_congr fun j hj => ?_
        have : ¬ ((j : Int) = (a : Int)) := fun z => by
          have : j = a := by omega
          subst this
          exact nd'.1 hj
        rw [decide_eq_false this, Bool.or_false]
      rw [List.filter_cons, List.filter_cons, rest, hp]
      simp
    · have hm' : k ∈ l := by
        rcases List.mem_cons.mp hm with h | h
        · exact absurd h.symm e
        · exact h
      have ih := count_add (p := p) nd'.2 hm' hp
      have ne : ¬ ((a : Int) = (k : Int)) := fun z => e (by omega)
      rw [List.filter_cons, List.filter_cons, decide_eq_false ne, Bool.or_false]
      cases hpa : p a with
      | true => simp only [if_true, List.length_cons, ih]
      | false => simp only [Bool.false_eq_true, if_false, ih]
theorem numI_le (v : List Sy) : numI v ≤ 8 := by
  unfold numI
  have := List.length_filter_le (fun (j : Nat) => hasI v (j : Int)) (List.range 8)
  rw [List.length_range] at this
  exact this
theorem numI_app (v : List Sy) {k : Nat} (h : k < 8) : numI (v ++ [.l k]) = if hasI v (k : Int) = true then numI v else numI v + 1 := by
  unfold numI
  have e : (fun (j : Nat) => hasI (v ++ [.l k]) (j : Int)) = fun (j : Nat) => hasI v (j : Int) || decide ((j : Int) = (k : Int)) := by
    funext j
    rw [hasI_app]
    rfl
  rw [e]
  cases hk : hasI v (k : Int) with
  | true =>
    rw [if_pos rfl]
    congr 1
    refine List.filter_congr fun j _ => ?_
    by_cases z : (j : Int) = (k : Int)
    · rw [z, hk]; rfl
    · rw [decide_eq_false z, Bool.or_false]
  | false =>
    rw [if_neg (by simp)]
    exact count_add List.nodup_range (List.mem_range.mpr h) hk
theorem nat_list : ∀ {ns : List Int}, (∀ i ∈ ns, 0 ≤ i) → ∃ ls : List Nat, ns = ls.map fun (k : Nat) => (k : Int)
  | [], _ => ⟨[], rfl⟩
  | i :: ns, h => by
    obtain ⟨ls, e⟩ := nat_list (ns := ns) fun j hj => h j (List.mem_cons_of_mem _ hj)
    exact ⟨i.toNat :: ls, by rw [e, List.map_cons, Int.toNat_of_nonneg (h i List.mem_cons_self)]⟩
def iV (ls : List Nat) : List V := ls.map fun (k : Nat) => V.int (k : Int)
def spLettersIn (K : PySem.W.Frag) : Sp := fun vs H Q _ => ∃ (a : Addr) (w : List Sy), vs = [.ref a] ∧ Sq K H a (wv w) ∧ (∀ k, Sy.l k ∈ w → k < 8) ∧
  ∀ (H' : Hp) (p : Addr) (ls : List Nat), Same H H' → H p = none → H' p = some (.lst (iV ls)) → (∀ k, k ∈ ls ↔ Sy.l k ∈ w) → ls.length ≤ 8 → Q (.ref p) H'
section
variable {P : Program} {w : World} {K : PySem.W.Frag} {mg : Str → Option Value} {base : Heap}
theorem ok_lettersin {f : Addr} {fd : FuncData} {k : Nat} (F : Fun K "letters_in" "letters_in" s_letters_in f fd) (mI : mg "isinstance" = none) (mS : mg "str" = none) (mO : mg "sorted" = none) : FnOk P w K mg base CX0 (k + 1) f fd ["parts"] (spLettersIn K) := by
  refine F.ok sc_letters_in (fun vs H Q E h => ?_) (fun cdv A outer s H vs Q E hr h => ?_)
  · obtain ⟨a, w, rfl, _⟩ := h
    rfl
  · obtain ⟨a, wd, rfl, ha, hb, q⟩ := h
    have nd := sc_letters_in.nd
    refine ⟨_, pss_one (ps_ret (pe_callB (cr_sortedSet rfl) (by rfl) mO (by decide +kernel) (pa_cons
      (pe_sci (own := [("part", 1)]) (g := gName 1) (tt := tNotStr K 1) rfl nd (pi_seq (pv 0)) (blkOk_by (N := n_letters_in) (sc := defScope s_letters_in) (by decide +kernel))
        (fun _ _ _ _ _ => pg_name (i := 1) nd rfl (Or.inl rfl)) (fun _ _ _ _ _ => pts_one (ptNotStr mI mS (pv 1))) (fun _ _ _ _ _ => pv 1)) pa_nil))), ?_⟩
    have go : ∀ {J : It} {G : Hp → Prop}, Walk J (wv wd).length G (YAt (wv wd)) → (∀ H', Same H H' → G H') → ∀ D, H D = none → ∀ (Qd : Hp → Prop), (∀ H', Same H H' → H' D = some (SetO w D (hasI wd) (numI wd)) → Qd H') →
        ∃ W : Nat → Nat → Hp → Prop, (∃ m, W 0 m (upd H D (SetO w D (fun _ => false) 0))) ∧ ∀ i m H, W i m H → (J.stop i H ∧ Qd H) ∨
          (J.go i H ∧ ∃ Nx : Hp → Prop, (∀ H', Nx H' → ∃ m', m' < m ∧ W (i + 1) m' H') ∧ ∀ x H', J.yld i H x H' → gName 1 x (wipe (L2.start n_letters_in [V.ref a]) [1]) H' fun σ2 H2 => wipe σ2 [1] = wipe (L2.start n_letters_in [V.ref a]) [1] ∧ tNotStr K 1 σ2 H2 fun b H3 =>
            if b = true then tVar 1 σ2 H3 fun y H4 => ∃ (k : Int) (S : Int → Bool) (n : Nat), y = .int k ∧ H4 D = some (SetO w D S n) ∧ n + 1 < scanBound ∧ Nx (upd H4 D (SetO w D (fun j => S j || decide (j = k)) (if S k = true then n else n + 1))) else Nx H3) := by
      intro J G wk hG D nD Qd hq
      refine sci_it wk (fun i H' => Same H H' ∧ H' D = some (SetO w D (hasI (wd.take i)) (numI (wd.take i)))) ⟨same_upd nD, upd_same⟩ (fun i H' _ p => hG H' p.1) ?_ ?_
      · rintro i x H1 H2 hi ⟨S1, hD⟩ ⟨rfl, hx⟩
        obtain ⟨sy, hs, rfl⟩ := wv_get hx
        obtain ⟨tn, tb, ht, hk, htb⟩ := ty_sy (K := K) (H := H2) sy
        refine ⟨rfl, _, rfl, sy.v, tn, tb, rfl, ht, hk, tb, rfl, ?_⟩
        subst htb
        rw [Bool.not_not, take_more hs]
        cases sy with
        | l k =>
          refine iteT ⟨_, rfl, (k : Int), hasI (wd.take i), numI (wd.take i), rfl, hD, ?_, sPut S1 nD, ?_⟩
          · have := numI_le (wd.take i)
            exact Nat.lt_of_le_of_lt (show numI (wd.take i) + 1 ≤ 9 by omega) (by decide)
          · rw [upd_same, numI_app _ (hb k (List.mem_of_getElem? hs))]
            congr 2
            funext j
            rw [hasI_app]
            rfl
        | p => exact iteF ⟨S1, by rw [hD]; congr 2; exact (funext fun j => by rw [hasI_app, show isI .p j = false from rfl, Bool.or_false]); simp only [numI, hasI_app]; simp [isI]⟩
        | m => exact iteF ⟨S1, by rw [hD]; congr 2; exact (funext fun j => by rw [hasI_app, show isI .m j = false from rfl, Bool.or_false]); simp only [numI, hasI_app]; simp [isI]⟩
        | o => exact iteF ⟨S1, by rw [hD]; congr 2; exact (funext fun j => by rw [hasI_app, show isI .o j = false from rfl, Bool.or_false]); simp only [numI, hasI_app]; simp [isI]⟩
        | c => exact iteF ⟨S1, by rw [hD]; congr 2; exact (funext fun j => by rw [hasI_app, show isI .c j = false from rfl, Bool.or_false]); simp only [numI, hasI_app]; simp [isI]⟩
      · rintro H1 ⟨S1, hD⟩
        rw [List.length_map, List.take_length] at hD
        exact hq H1 S1 hD
    have fin : ∀ (D : Addr) (H' : Hp), Same H H' → H' D = some (SetO w D (hasI wd) (numI wd)) → rSortedSet w [.ref D] H' Q := by
      intro D H' S1 hD
      refine ⟨D, hasI wd, numI wd, rfl, hD, Nat.lt_of_le_of_lt (numI_le wd) (by decide), fun ns p hs hm hl np => ?_⟩
      obtain ⟨ls, rfl⟩ := nat_list (ns := ns) fun i hi => by
        have h1 := (hm i).mp hi
        unfold hasI at h1
        obtain ⟨s, _, e⟩ := List.any_eq_true.mp h1
        cases s with
        | l j => have : i = (j : Int) := of_decide_eq_true e; omega
        | p => cases e
        | m => cases e
        | o => cases e
        | c => cases e
      refine q _ p ls (sUpd S1 np) (S1.free np) ?_ (fun k => ?_) ?_
      · rw [upd_same, List.map_map]; rfl
      · rw [← hasI_mem, ← hm (k : Int)]
        constructor
        · intro h; exact List.mem_map.mpr ⟨k, h, rfl⟩
        · intro h
          obtain ⟨j, hj, e⟩ := List.mem_map.mp h
          have : j = k := by omega
          rw [← this]; exact hj
      · rw [List.length_map] at hl
        rw [hl]; exact numI_le wd
    rcases ha with ha | ha
    · exact ⟨a, rfl, .inl ⟨⟨_, ha⟩, fun D nD => go walk_list (fun H' S => S.seq ha) D nD _ fun H' S1 hD => fin D H' S1 hD⟩⟩
    · exact ⟨a, rfl, .inr ⟨⟨_, ha⟩, fun D nD => go walk_tup (fun H' S => sTup S ha) D nD _ fun H' S1 hD => fin D H' S1 hD⟩⟩
end
end SK
namespace SK
open PySem PySem.Spec PyProof.Rows L2
/-- a walk by an invariant, told by what one turn brings -/
theorem walk_by {J : It} {n : Nat} {G : Hp → Prop} {Y : Nat → Hp → V → Hp → Prop} (wk : Walk J n G Y) {H0 : Hp} {turn : V → Hp → (Hp → Prop) → Prop} {Qd : Hp → Prop} (Pv : Nat → Hp → Prop) (h0 : Pv 0 H0) (hG : ∀ i H, Pv i H → G H)
    (hs : ∀ i x H H', i < n → Pv i H → Y i H x H' → turn x H' (Pv (i + 1))) (hd : ∀ H, Pv n H → Qd H) : ∃ W : Nat → Nat → Hp → Prop, (∃ m, W 0 m H0) ∧ ∀ i m H, W i m H → (J.stop i H ∧ Qd H) ∨
      (J.go i H ∧ ∃ Nx : Hp → Prop, (∀ H', Nx H' → ∃ m', m' < m ∧ W (i + 1) m' H') ∧ ∀ x H', J.yld i H x H' → turn x H' Nx) := by
  refine ⟨fun i m H => m = n - i ∧ i ≤ n ∧ Pv i H, ⟨_, rfl, Nat.zero_le _, h0⟩, ?_⟩
  rintro i m H ⟨rfl, hi, p⟩
  have q := hG i H p
  by_cases hlt : i < n
  · exact .inr ⟨wk.goes i H hlt q, Pv (i + 1), fun H' p' => ⟨_, by omega, rfl, hlt, p'⟩, fun x H' y => hs i x H H' hlt p (wk.yields i H x H' hlt q y)⟩
  · have e : i = n := by omega
    subst e
    exact .inl ⟨wk.stops H q, hd H p⟩
def spNext : Sp := fun vs H Q _ => ∃ (p l : Addr) (as : List Addr) (ws : List (List Sy)) (ls : List Nat), vs = [.ref p, .ref l] ∧ H p = some (.tup (as.map V.ref)) ∧ Words H as ws ∧ H l = some (.lst (iV ls)) ∧ (∀ k ∈ ls, k < ws.length) ∧ ls.length ≤ 8 ∧ ws.length ≤ 8 ∧ (∀ w ∈ ws, Good ws.length 40 w) ∧
  ∀ (H' : Hp) (q : Addr) (ls' : List Nat), Same H H' → H q = none → H' q = some (.lst (iV ls')) → (∀ k, k ∈ ls' ↔ ∃ j ∈ ls, Sy.l k ∈ ws.getD j []) → ls'.length ≤ 8 → Q (.ref q) H'
section
variable {P : Program} {w : World} {K : PySem.W.Frag} {mg : Str → Option Value} {base : Heap}
theorem ok_next {f : Addr} {fd : FuncData} {k : Nat} (F : Fun K "next_letters" "next_letters" s_next_letters f fd) (GL : Got P w K mg base "letters_in" k ["parts"] (spLettersIn K)) : FnOk P w K mg base CX0 (k + 1) f fd ["words", "letters"] spNext := by
  refine F.ok sc_next_letters (fun vs H Q E h => ?_) (fun cdv A outer s H vs Q E hr h => ?_)
  · obtain ⟨p, l, as, ws, ls, rfl, _⟩ := h
    rfl
  · obtain ⟨p, l, as, ws, ls, rfl, hp, hw, hl, hk, hz, hz2, hg, q⟩ := h
    have nd := sc_next_letters.nd
    refine ⟨_, pss_one (ps_ret (pcall GL hr (pa_cons
      (pe_lc2 (own := [("letter", 2), ("part", 3)]) (vs1 := [3]) (wi1 := iTup K (tOp (rIxT K) (tVar 0) (tVar 2))) (g := gName 2) (g1 := gName 3) (tt := tYes) (tt1 := tYes) rfl nd (pi_list (pv 1)) (blkOk_by (N := n_next_letters) (sc := defScope s_next_letters) (by decide +kernel)) (by decide)
        (fun _ _ _ _ _ => pg_name (i := 2) nd rfl (Or.inl rfl)) (fun _ _ _ _ _ => pts_nil) (fun _ _ _ _ _ => pi_tup (pixT (pv 0) (pv 2))) (fun _ _ _ _ _ => pg_name (i := 3) nd rfl (Or.inl rfl)) (fun _ _ _ _ _ => pts_nil) (fun _ _ _ _ _ => pv 3)) pa_nil))), ?_⟩
    refine ⟨_, rfl, l, rfl, ⟨_, SqL.of hl⟩, fun D nD => ?_⟩
    have lz : ∀ i, ((ls.take i).flatMap fun j => ws.getD j []).length ≤ 40 * 8 := by
      have : ∀ js : List Nat, ((js.flatMap fun j => ws.getD j []).length) ≤ 40 * js.length := by
        intro js
        induction js with
        | nil => exact Nat.zero_le _
        | cons j js ih =>
          rw [List.flatMap_cons, List.length_append, List.length_cons]
          have : (ws.getD j []).length ≤ 40 := by
            rw [List.getD_eq_getElem?_getD]
            cases e : ws[j]? with
            | none => exact Nat.zero_le _
            | some w => exact (hg w (List.mem_of_getElem? e)).len
          omega
      intro i
      have h1 := this (ls.take i)
      have h2 : (ls.take i).length ≤ ls.length := by rw [List.length_take]; omega
      omega
    refine walk_by (walk_list (K := K) (a := l) (xs := iV ls)) (fun i H' => Same H H' ∧ H' D = some (.lst (wv ((ls.take i).flatMap fun j => ws.getD j [])))) ⟨same_upd nD, upd_same⟩ (fun i H' p => p.1.seq (SqL.of hl)) ?_ ?_
    · rintro i x H1 H2 hi ⟨S1, hD⟩ ⟨rfl, hx⟩
      obtain ⟨j, hj, rfl⟩ : ∃ j, ls[i]? = some j ∧ x = V.int (j : Int) := by
        unfold iV at hx
        rw [List.getElem?_map] at hx
        cases e : ls[i]? with
        | none => rw [e] at hx; cases hx
        | some j => rw [e] at hx; exact ⟨j, rfl, (Option.some.inj hx).symm⟩
      have hjw := hk j (List.mem_of_getElem? hj)
      obtain ⟨a, ha, hta⟩ := paired_get hw (List.getElem?_eq_getElem hjw)
      have ej : ws.getD j [] = ws[j] := by rw [List.getD_eq_getElem?_getD, List.getElem?_eq_getElem hjw]; rfl
      have gj := (hg _ (List.getElem_mem hjw)).len
      have et : ((ls.take (i + 1)).flatMap fun j => ws.getD j []) = ((ls.take i).flatMap fun j => ws.getD j []) ++ ws[j] := by
        rw [take_more hj, List.flatMap_append, List.flatMap_cons, List.flatMap_nil, List.append_nil, ej]
      have li := lz i
      rw [et]
      generalize ((ls.take i).flatMap fun j => ws.getD j []) = acc at hD li
      generalize ws[j] = wj at hta gj
      refine ⟨rfl, _, rfl, _, rfl, p, _, _, .ref a, rfl, rfl, SqT.of (S1 _ _ hp), atI_nat (by rw [List.getElem?_map, ha]; rfl), a, rfl, ⟨_, (hta.same S1).sq⟩, ?_⟩
      refine walk_by (walk_tup (K := K) (a := a) (xs := wv wj)) (fun m H' => Same H H' ∧ H' D = some (.lst (wv (acc ++ wj.take m)))) ⟨S1, by rw [hD, List.take_zero, List.append_nil]⟩ (fun m H' p => (hta.same p.1).sq) ?_ ?_
      · rintro m y H3 H4 hm ⟨S3, hD3⟩ ⟨rfl, hy⟩
        obtain ⟨s, hs, rfl⟩ := wv_get hy
        refine ⟨rfl, _, rfl, _, hD3, ?_, sPut S3 nD, ?_⟩
        · have : (wj.take m).length ≤ wj.length := by rw [List.length_take]; omega
          rw [List.length_map, List.length_append, sizeLine_eq]; omega
        · rw [upd_same, take_more hs, ← List.append_assoc]
          simp only [wv, List.map_append, List.map_cons, List.map_nil]
      · rintro H3 ⟨S3, hD3⟩
        rw [List.length_map, List.take_length] at hD3
        exact ⟨S3, hD3⟩
    · rintro H1 ⟨S1, hD⟩
      have hD' : H1 D = some (.lst (wv (ls.flatMap fun j => ws.getD j []))) := by
        rw [hD]
        unfold iV
        rw [List.length_map, List.take_length]
      refine ⟨D, _, rfl, .inl (SqL.of hD'), fun k hk2 => ?_, fun H2 p2 ls' S2 n2 h2 hm hl2 => q H2 p2 ls' (S1.trans S2) (S1.free n2) h2 (fun k => ?_) hl2⟩
      · obtain ⟨j, hj, h⟩ := List.mem_flatMap.mp hk2
        rw [List.getD_eq_getElem?_getD] at h
        cases e : ws[j]? with
        | none => rw [e] at h; cases h
        | some w => rw [e] at h; have := (hg w (List.mem_of_getElem? e)).lets k h; omega
      · rw [hm, List.mem_flatMap]
end
end SK
namespace SK
open PySem PySem.Spec PyProof.Rows L2
def Sy.d : Sy → PyData
  | .l k => .int k
  | .p => .str "+"
  | .m => .str "-"
  | .o => .str "["
  | .c => .str "]"
def cnt (k : Nat) (w : List Sy) : Nat := w.countP fun s => decide (s = .l k)
theorem dp_sy {K : PySem.W.Frag} {H : Hp} : ∀ w : List Sy, DpAll K H (wv w) (w.map Sy.d)
  | [] => .nil
  | .l k :: w => .cons (.int _) (dp_sy w)
  | .p :: w => .cons (.str _) (dp_sy w)
  | .m :: w => .cons (.str _) (dp_sy w)
  | .o :: w => .cons (.str _) (dp_sy w)
  | .c :: w => .cons (.str _) (dp_sy w)
theorem cnt_eq (k : Nat) (w : List Sy) : (w.map Sy.d).countP (fun y => PyData.eqv y (.int (k : Int))) = cnt k w := by
  rw [List.countP_map]
  unfold cnt
  congr 1
  funext s
  cases s with
  | l j =>
    show PyData.eqv (.int (j : Int)) (.int (k : Int)) = decide (Sy.l j = Sy.l k)
    simp [PyData.eqv]
    by_cases e : j = k
    · subst e; simp
    · rw [decide_eq_false e]; simp; omega
  | p => simp [Sy.d, PyData.eqv]
  | m => simp [Sy.d, PyData.eqv]
  | o => simp [Sy.d, PyData.eqv]
  | c => simp [Sy.d, PyData.eqv]
theorem plain_sy : ∀ w : List Sy, PyData.plainAll (w.map Sy.d) = true
  | [] => by simp [PyData.plainAll]
  | .l k :: w => by simp only [List.map_cons, Sy.d, PyData.plainAll, PyData.plain, plain_sy w]; rfl
  | .p :: w => by simp only [List.map_cons, Sy.d, PyData.plainAll, PyData.plain, plain_sy w]; decide
  | .m :: w => by simp only [List.map_cons, Sy.d, PyData.plainAll, PyData.plain, plain_sy w]; decide
  | .o :: w => by simp only [List.map_cons, Sy.d, PyData.plainAll, PyData.plain, plain_sy w]; decide
  | .c :: w => by simp only [List.map_cons, Sy.d, PyData.plainAll, PyData.plain, plain_sy w]; decide
theorem depth_sy : ∀ w : List Sy, PyData.depthAll (w.map Sy.d) = 0
  | [] => by simp [PyData.depthAll]
  | s :: w => by
    have e : PyData.depth s.d = 0 := by cases s <;> simp [Sy.d, PyData.depth]
    simp only [List.map_cons, PyData.depthAll, e, depth_sy w]
    rfl
/-- w.count(k), w a word -/
def tCnt (to : TE) (t : TA) : TE := fun σ H Q => to σ H fun x H1 => ∃ (a : Addr) (w : List Sy), x = .ref a ∧ WdAt H1 a w ∧ t σ H1 fun ys H2 => ∃ k : Nat, ys = [.int (k : Int)] ∧ WdAt H2 a w ∧ Q (.int (cnt k w : Int)) H2
section
variable {X : Cx} {o e : Expr} {to te : TE} {apos cpos : Pos}
theorem pcount (hu : X.A.units + 64 < cLine) (ho : PE X o to) (he : PE X e te) (hb : attributeBase o "count" X.env (eval o X.env) = eval o X.env := by rfl)
    (hf : ((backTo cpos (starEach (e :: []) X.env)).all (fun x => !x.1) && (backToKw cpos (keywordEach [] X.env)).all (fun x => x.1.isSome) && decide ((e :: []).length + ([] : List Keyword).length + (if ([] : List Keyword).isEmpty then 0 else 1) < 30)) = true := by rfl)
    (hl : (apos.endLine == cpos.line) = true := by rfl) (hs : starEach [e] X.env = (false, eval e X.env) :: starEach [] X.env := by rfl) (hp : (backTo cpos (starEach [] X.env)).any (·.1) = false := by rfl) : PE X (.Call (.Attribute o "count" apos) [e] [] cpos) (tCnt to (tCons te tNil)) := by
  refine ⟨fun pins s σ H Q I h => wpAny_Call_method_late hb hf hl rfl (thn (ho.run pins s σ H _ I h) fun v s1 ⟨x, H1, I1, r1, a, w, ex, hw, q1⟩ => ?_)⟩
  subst ex
  cases r1
  obtain ⟨ob, hob, hd, _⟩ := id hw
  obtain ⟨hat, _, its, rv, o2, ho2, hc2, _⟩ := (show ObjOk X.prog X.w H1 s1.heap a (.frz ob (.tup (wv w))) from I1.hok a _ hob)
  have eo : o2 = ob := Option.some.inj (ho2.symm.trans hat)
  subst eo
  refine ⟨"tuple", "tuple.count", PySem.F.plainAttrs_tuple, PySem.F.slot_tuple_count, PySem.F.type_tuple_count, ⟨_, hat, hc2⟩, fun b e => by cases e; exact ⟨_, hat, hd⟩, ?_⟩
  have hA := (pa_cons he pa_nil hs).run cpos pins s1 σ H1 _ I1 q1
  rw [hs] at hA ⊢
  refine Calls.callWith_builtin (by show (false || (backTo cpos (starEach [] X.env)).any (·.1)) = false; rw [hp]; rfl) (Calls.evalArgs_plain (thn hA fun us s2 ⟨vs, H2, I2, r2, q2⟩ => ?_))
  obtain ⟨k, ey, hw2, q⟩ := q2
  subst ey
  rcases r2 with _ | ⟨ry, rr⟩
  cases rr
  obtain ⟨its2, rv2, pl, _⟩ := I2.tuple hw2.sq
  obtain ⟨as, ra⟩ := Dp.readsAll I2 _ _ _ (dp_sy (K := X.K) (H := H2) w) rv2
  obtain ⟨bs, rb⟩ := Dp.reads I2 _ _ _ (Dp.int (K := X.K) (H := H2) (k : Int)) ry
  refine SeqAt.count_tuple_data (xs := w.map Sy.d) (d := .int (k : Int)) pl (by simpa using ra) rb (plain_sy w) (by simp [PyData.plain]) (by rw [depth_sy]; simp [PyData.depth]; omega) ?_
  rw [cnt_eq]
  exact ⟨.int (cnt k w : Int), H2, I2.tok _, ⟨_, rfl⟩, q⟩
end
end SK
namespace SK
open PySem PySem.Spec PyProof.Rows L2
def cntL (n : Nat) (w : List Sy) : List Nat := (List.range n).map fun k => cnt k w
def spCount : Sp := fun vs H Q _ => ∃ (a : Addr) (n : Nat) (w : List Sy), vs = [.ref a, .int n] ∧ WdAt H a w ∧ n ≤ 8 ∧ New (.lst (iV (cntL n w))) H Q
theorem range_get {n i : Nat} (h : i < n) : (List.range n)[i]? = some i := by rw [List.getElem?_range h]
/-- after[k] += e: the list's item read -/
theorem get_list {X : Cx} : PGet X (fun o i H Q => ∃ (p : Addr) (xs : List V) (k : Nat) (v : V), o = .ref p ∧ i = .int (k : Int) ∧ SqL X.K H p xs ∧ xs[k]? = some v ∧ Q v H) := by
  rintro pins s σ H o i ov iv Q I ro ri ⟨p, xs, k, v, rfl, rfl, h, hk, q⟩
  obtain ⟨t, rfl⟩ := ri
  cases ro
  obtain ⟨its, rv, pl, hsz⟩ := I.list h
  obtain ⟨u, hu, ru⟩ := rv.get hk
  have hlt : k < its.length := (List.getElem?_eq_some_iff.mp hu).1
  have hz := line63
  have hl := rv.length
  exact PyProof.Rows.getItem_listL pl.isList (by omega) (by omega) (by rw [Int.toNat_natCast]; exact hu) ⟨v, H, I, ru, q⟩
section
variable {P : Program} {w : World} {K : PySem.W.Frag} {mg : Str → Option Value} {base : Heap}
theorem ok_count {f : Addr} {fd : FuncData} {k : Nat} (F : Fun K "count_letters" "count_letters" s_count_letters f fd) (mR : mg "range" = none) : FnOk P w K mg base CX0 (k + 1) f fd ["word", "many"] spCount := by
  refine F.ok sc_count_letters (fun vs H Q E h => ?_) (fun cdv A outer s H vs Q E hr h => ?_)
  · obtain ⟨a, n, w, rfl, _⟩ := h
    rfl
  · obtain ⟨a, n, wd, rfl, ha, hn, q⟩ := h
    have nd := sc_count_letters.nd
    refine ⟨_, pss_one (ps_ret (pe_lc (own := [("letter", 2)]) (g := gName 2) (tt := tYes) rfl nd (pi_range1 rfl mR (pa_cons (pv 1) pa_nil)) (blkOk_by (N := n_count_letters) (sc := defScope s_count_letters) (by decide +kernel))
      (fun _ _ _ _ _ => pg_name (i := 2) nd rfl (Or.inl rfl)) (fun _ _ _ _ _ => pts_nil) (fun _ _ _ _ _ => pcount hr.units (pv 0) (pv 2)))), ?_⟩
    refine ⟨_, rfl, (n : Int), rfl, by omega, by omega, fun D nD => ?_⟩
    rw [Int.toNat_natCast]
    refine lc_range (lo := 0) (n := n) (fun i H' => Same H H' ∧ H' D = some (.lst (iV ((List.range i).map fun k => cnt k wd)))) ⟨same_upd nD, upd_same⟩ ?_ ?_
    · rintro i H1 hi ⟨S1, hD⟩
      have e0 : (0 : Int) + (i : Int) = (i : Int) := by omega
      refine ⟨rfl, _, rfl, a, wd, rfl, ha.same S1, _, rfl, i, ?_, ha.same S1, _, hD, ?_, sPut S1 nD, ?_⟩
      · rw [e0]
      · unfold iV; rw [List.length_map, List.length_map, List.length_range, sizeLine_eq]; omega
      · rw [upd_same, List.range_succ, List.map_append]
        simp only [iV, List.map_append, List.map_cons, List.map_nil]
    · rintro H1 ⟨S1, hD⟩
      exact q H1 D S1 nD hD
end
end SK
namespace SK
open PySem PySem.Spec PyProof.Rows L2
def sumN : Nat → (Nat → Nat) → Nat
  | 0, _ => 0
  | n + 1, h => sumN n h + h n
/-- the list f 0, .., f (n - 1) -/
def fl (n : Nat) (f : Nat → Nat) : List Nat := (List.range n).map f
theorem fl_len (n : Nat) (f : Nat → Nat) : (iV (fl n f)).length = n := by simp [iV, fl]
theorem fl_get {n i : Nat} (f : Nat → Nat) (h : i < n) : (iV (fl n f))[i]? = some (.int (f i : Int)) := by
  unfold iV fl
  rw [List.getElem?_map, List.getElem?_map, range_get h]
  rfl
theorem fl_set {n m : Nat} (f : Nat → Nat) (v : Nat) (h : m < n) : (iV (fl n f)).set m (.int (v : Int)) = iV (fl n fun k => if k = m then v else f k) := by
  refine List.ext_getElem? fun i => ?_
  rw [List.getElem?_set]
  by_cases e : m = i
  · subst e
    rw [if_pos rfl, fl_len, if_pos h, fl_get _ h, if_pos rfl]
  · rw [if_neg e]
    by_cases hi : i < n
    · rw [fl_get _ hi, fl_get _ hi, if_neg (fun z => e z.symm)]
    · rw [List.getElem?_eq_none (by rw [fl_len]; omega), List.getElem?_eq_none (by rw [fl_len]; omega)]
theorem fl_congr {n : Nat} {f g : Nat → Nat} (h : ∀ k, k < n → f k = g k) : fl n f = fl n g := by
  unfold fl
  exact List.map_congr_left fun k hk => h k (List.mem_range.mp hk)
theorem rep_zero (n : Nat) : (List.replicate n [V.int 0]).flatten = iV (fl n fun _ => 0) := by
  rw [rep_ints]
  unfold iV fl
  rw [List.map_map]
  have : ∀ n : Nat, List.map V.int (List.replicate n 0) = (List.range n).map ((fun (k : Nat) => V.int (k : Int)) ∘ fun _ => 0) := fun n => by
    rw [List.map_replicate]
    refine List.ext_getElem? fun i => ?_
    rw [List.getElem?_replicate, List.getElem?_map]
    by_cases hi : i < n
    · rw [if_pos hi, range_get hi]; rfl
    · rw [if_neg hi, List.getElem?_eq_none (by rw [List.length_range]; omega)]; rfl
  exact this n
end SK
namespace SK
open PySem PySem.Spec PyProof.Rows L2
/-! ### rows of numbers, and what they do to numbers, modulo m -/
def dotI : List Int → List Int → Int
  | a :: r, b :: v => a * b + dotI r v
  | _, _ => 0
def md (m : Int) (v : List Int) : List Int := v.map fun x => x % m
def mdM (m : Int) (A : List (List Int)) : List (List Int) := A.map (md m)
def apL (A : List (List Int)) (v : List Int) : List Int := A.map fun r => dotI r v
def itL (A : List (List Int)) : Nat → List Int → List Int
  | 0, v => v
  | k + 1, v => itL A k (apL A v)
theorem md_md (m : Int) (v : List Int) : md m (md m v) = md m v := by
  unfold md
  rw [List.map_map]
  refine List.map_congr_left fun x _ => ?_
  show x % m % m = x % m
  rw [Int.emod_emod_of_dvd _ (Int.dvd_refl m)]
theorem md_len (m : Int) (v : List Int) : (md m v).length = v.length := List.length_map _
theorem mul_md (a b c d m : Int) (h1 : a % m = b % m) (h2 : c % m = d % m) : a * c % m = b * d % m := by rw [Int.mul_emod, h1, h2, ← Int.mul_emod]
theorem dot_cong {m : Int} : ∀ {r r' v v' : List Int}, md m r = md m r' → md m v = md m v' → dotI r v % m = dotI r' v' % m
  | [], [], _, _, _, _ => rfl
  | [], _ :: _, _, _, h, _ => nomatch h
  | _ :: _, [], _, _, h, _ => nomatch h
  | a :: r, b :: r', [], [], _, _ => rfl
  | a :: r, b :: r', [], _ :: _, _, h => nomatch h
  | a :: r, b :: r', _ :: _, [], _, h => nomatch h
  | a :: r, b :: r', c :: v, d :: v', h1, h2 => by
    have e1 : a % m = b % m := (List.cons.inj h1).1
    have e2 : c % m = d % m := (List.cons.inj h2).1
    have e3 := dot_cong (List.cons.inj h1).2 (List.cons.inj h2).2
    show (a * c + dotI r v) % m = (b * d + dotI r' v') % m
    rw [Int.add_emod, mul_md _ _ _ _ m e1 e2, e3, ← Int.add_emod]
theorem ap_cong {m : Int} : ∀ {A A' : List (List Int)} {v v' : List Int}, mdM m A = mdM m A' → md m v = md m v' → md m (apL A v) = md m (apL A' v')
  | [], [], _, _, _, _ => rfl
  | [], _ :: _, _, _, h, _ => nomatch h
  | _ :: _, [], _, _, h, _ => nomatch h
  | a :: A, b :: A', v, v', h1, h2 => by
    have e1 := (List.cons.inj h1).1
    have e2 := ap_cong (List.cons.inj h1).2 h2
    show (dotI a v % m) :: md m (apL A v) = (dotI b v' % m) :: md m (apL A' v')
    rw [dot_cong e1 h2, e2]
theorem it_cong {m : Int} {A A' : List (List Int)} (h : mdM m A = mdM m A') : ∀ (k : Nat) {v v' : List Int}, md m v = md m v' → md m (itL A k v) = md m (itL A' k v')
  | 0, _, _, hv => hv
  | k + 1, _, _, hv => it_cong h k (ap_cong h hv)
theorem ap_len (A : List (List Int)) (v : List Int) : (apL A v).length = A.length := List.length_map _
theorem it_len {A : List (List Int)} : ∀ (k : Nat) {v : List Int}, v.length = A.length → (itL A k v).length = A.length
  | 0, _, h => h
  | k + 1, v, _ => it_len k (ap_len A v)
/-- a row times a table -/
def vm (n : Nat) : List Int → List (List Int) → List Int
  | c :: r, a :: A => List.zipWith (fun x y => c * x + y) a (vm n r A)
  | _, _ => List.replicate n 0
theorem vm_len (n : Nat) : ∀ (r : List Int) (A : List (List Int)), (∀ a ∈ A, a.length = n) → (vm n r A).length = n
  | [], _, _ => List.length_replicate
  | _ :: _, [], _ => List.length_replicate
  | c :: r, a :: A, h => by
    show (List.zipWith _ a (vm n r A)).length = n
    rw [List.length_zipWith, vm_len n r A fun x hx => h x (List.mem_cons_of_mem _ hx), h a List.mem_cons_self]
    exact Nat.min_self n
theorem dot_zero : ∀ (n : Nat) (v : List Int), dotI (List.replicate n 0) v = 0
  | 0, _ => by cases ‹List Int› <;> rfl
  | n + 1, [] => rfl
  | n + 1, x :: v => by
    show 0 * x + dotI (List.replicate n 0) v = 0
    rw [dot_zero n v, Int.zero_mul]
    rfl
theorem dot_comb (c : Int) : ∀ (a b v : List Int), a.length = b.length → dotI (List.zipWith (fun x y => c * x + y) a b) v = c * dotI a v + dotI b v
  | [], [], v, _ => by show (0 : Int) = c * 0 + 0; omega
  | [], _ :: _, _, h => nomatch h
  | _ :: _, [], _, h => nomatch h
  | x :: a, y :: b, [], _ => by show (0 : Int) = c * 0 + 0; omega
  | x :: a, y :: b, z :: v, h => by
    have ih := dot_comb c a b v (Nat.succ.inj h)
    show (c * x + y) * z + dotI (List.zipWith (fun x y => c * x + y) a b) v = c * (x * z + dotI a v) + (y * z + dotI b v)
    rw [ih, Int.add_mul, Int.mul_add, Int.mul_assoc]
    omega
theorem dot_vm (n : Nat) (v : List Int) : ∀ (r : List Int) (A : List (List Int)), (∀ a ∈ A, a.length = n) → r.length = A.length → dotI (vm n r A) v = dotI r (apL A v)
  | [], _, _, _ => dot_zero n v
  | _ :: _, [], _, h => nomatch h
  | c :: r, a :: A, h, hl => by
    have ih := dot_vm n v r A (fun x hx => h x (List.mem_cons_of_mem _ hx)) (Nat.succ.inj hl)
    show dotI (List.zipWith (fun x y => c * x + y) a (vm n r A)) v = c * dotI a v + dotI r (apL A v)
    rw [dot_comb c a _ v (by rw [vm_len n r A fun x hx => h x (List.mem_cons_of_mem _ hx), h a List.mem_cons_self]), ih]
def col (A : List (List Int)) (j : Nat) : List Int := A.map fun a => a.getD j 0
theorem vm_get (n : Nat) {j : Nat} (hj : j < n) : ∀ (r : List Int) (A : List (List Int)), (∀ a ∈ A, a.length = n) → r.length = A.length → (vm n r A)[j]? = some (dotI r (col A j))
  | [], A, _, _ => by
    show (List.replicate n (0 : Int))[j]? = some 0
    rw [List.getElem?_replicate, if_pos hj]
  | _ :: _, [], _, h => nomatch h
  | c :: r, a :: A, h, hl => by
    have ih := vm_get n hj r A (fun x hx => h x (List.mem_cons_of_mem _ hx)) (Nat.succ.inj hl)
    have ha := h a List.mem_cons_self
    show (List.zipWith (fun x y => c * x + y) a (vm n r A))[j]? = some (c * a.getD j 0 + dotI r (col A j))
    rw [List.getElem?_zipWith, ih, List.getElem?_eq_getElem (by omega), List.getD_eq_getElem?_getD, List.getElem?_eq_getElem (by omega)]
    rfl
/-- the table whose one step does two -/
def sqM (m : Int) (n : Nat) (A : List (List Int)) : List (List Int) := A.map fun r => (List.range n).map fun j => dotI r (col A j) % m
theorem sq_row (m : Int) (n : Nat) {A : List (List Int)} (h : ∀ a ∈ A, a.length = n) (r : List Int) (hr : r.length = A.length) : (List.range n).map (fun j => dotI r (col A j) % m) = md m (vm n r A) := by
  refine List.ext_getElem? fun j => ?_
  unfold md
  rw [List.getElem?_map, List.getElem?_map]
  by_cases hj : j < n
  · rw [List.getElem?_range hj, vm_get n hj r A h hr]
    rfl
  · rw [List.getElem?_eq_none (by rw [List.length_range]; omega), List.getElem?_eq_none (by rw [vm_len n r A h]; omega)]
    rfl
theorem sq_two (m : Int) {A : List (List Int)} (h : ∀ a ∈ A, a.length = A.length) (v : List Int) : md m (apL (sqM m A.length A) v) = md m (apL A (apL A v)) := by
  unfold apL sqM md
  rw [List.map_map, List.map_map, List.map_map]
  refine List.map_congr_left fun r hr => ?_
  show dotI ((List.range A.length).map fun j => dotI r (col A j) % m) v % m = dotI r (apL A v) % m
  rw [sq_row m A.length h r (h r hr), ← dot_vm A.length v r A h (h r hr)]
  exact dot_cong (md_md m _) rfl
theorem sq_square (m : Int) {A : List (List Int)} : (sqM m A.length A).length = A.length ∧ ∀ a ∈ sqM m A.length A, a.length = (sqM m A.length A).length := by
  have e : (sqM m A.length A).length = A.length := List.length_map _
  refine ⟨e, fun a ha => ?_⟩
  obtain ⟨r, _, rfl⟩ := List.mem_map.mp ha
  rw [e, List.length_map, List.length_range]
theorem sq_it (m : Int) {A : List (List Int)} (h : ∀ a ∈ A, a.length = A.length) : ∀ (k : Nat) (v : List Int), md m (itL (sqM m A.length A) k v) = md m (itL A (2 * k) v)
  | 0, _ => rfl
  | k + 1, v => by
    have ih := sq_it m h k
    show md m (itL (sqM m A.length A) k (apL (sqM m A.length A) v)) = md m (itL A (2 * k + 2) v)
    rw [it_cong rfl k (sq_two m h v), ih]
    rfl
theorem ap_it (A : List (List Int)) : ∀ (k : Nat) (v : List Int), itL A k (apL A v) = apL A (itL A k v)
  | 0, _ => rfl
  | k + 1, v => ap_it A k (apL A v)
theorem it_succ (A : List (List Int)) (k : Nat) (v : List Int) : itL A (k + 1) v = apL A (itL A k v) := ap_it A k v
end SK
namespace SK
open PySem PySem.Spec PyProof.Rows L2
/-! ### zip of a list and a tuple, equally long -/
def ItzM (K : PySem.W.Frag) (a b : Addr) : It where
  go := fun i H => ∃ (xs ys : List V) (x y : V), SqL K H a xs ∧ SqT K H b ys ∧ xs[i]? = some x ∧ ys[i]? = some y
  yld := fun i H v H' => ∃ (T : Addr) (x y : V), v = .ref T ∧ H T = none ∧ H' = upd H T (.tup [x, y]) ∧ (∀ xs, SqL K H a xs → xs[i]? = some x) ∧ ∀ ys, SqT K H b ys → ys[i]? = some y
  stop := fun i H => ∃ xs ys : List V, SqL K H a xs ∧ SqT K H b ys ∧ xs.length = i ∧ ys.length = i
theorem turn_zipM {P : Program} {w : World} {K : PySem.W.Frag} {elts : List Expr} {kk : Nat} {tpos : Pos} {a b z TI TO i1 i2 : Addr} (S : ZipSep2 z TI TO i1 i2 [i1, a] [i2, b]) (ha : a ≠ i1) (hb : b ≠ i2) :
    Turn P w K (.Tuple elts kk tpos) (ItzM K a b) [z, TI, TO, i1, i2] z (fun i h => IsZip h z TI TO .none ∧ IsTupOf2 h TI (.ref i1) (.ref i2) ∧ (∃ x y, IsTupOf2 h TO x y) ∧ h.IsListIter i1 a i ∧ h.IsTupleIter i2 b i) := by
  have z1 : z ≠ i1 := S.zi1
  have z2 : z ≠ i2 := S.zi2
  have t1 : TO ≠ i1 := S.Ti1
  have t2 : TO ≠ i2 := S.Ti2
  refine ⟨List.mem_cons_self, ?obj, ?keep, ?item, ?done, ?self⟩
  case obj =>
    rintro i h ⟨hz, hTI, ⟨x, y, hTO⟩, ⟨o1, e1, _, d1⟩, ⟨o2, e2, _, d2⟩⟩ c hc
    simp only [List.mem_cons, List.not_mem_nil, or_false] at hc
    rcases hc with rfl | rfl | rfl | rfl | rfl
    · exact ⟨_, hz, fun v q => nomatch q⟩
    · exact ⟨_, hTI, fun v q => nomatch q⟩
    · exact ⟨_, hTO, fun v q => nomatch q⟩
    · exact ⟨o1, e1, fun v q => by rw [d1] at q; cases q⟩
    · exact ⟨o2, e2, fun v q => by rw [d2] at q; cases q⟩
  case keep =>
    rintro i h h' ⟨hz, hTI, ⟨x, y, hTO⟩, h1, h2⟩ k
    exact ⟨k z (by simp) _ hz, k TI (by simp) _ hTI, ⟨x, y, k TO (by simp) _ hTO⟩, h1.at fun o q => k i1 (by simp) o q, h2.at fun o q => k i2 (by simp) o q⟩
  case self =>
    rintro A i s Q E ⟨hz, _⟩ h
    exact wpAny_pyIter_zip hz h
  case done =>
    intro X hP hw hK hc i pins s σ H E I hf st hg
    subst hP hw hK
    obtain ⟨hz, hTI, ⟨x0, y0, hTO⟩, h1, h2⟩ := st
    obtain ⟨xs, ys, hqx, hqy, hx, hy⟩ := hg
    obtain ⟨its, rv, p, _⟩ := I.list hqx
    obtain ⟨its2, rv2, p2, _⟩ := I.tuple hqy
    have l1 := rv.length
    have l2 := rv2.length
    have hh : X.A.in1.handled = none := I.ok.hd hc
    refine wpAny_pyNext_zipD2_end S (Draws.list hh i1 a ha its.toArray) (Draws.tuple hh i2 b hb its2.toArray) hz hTI hTO ⟨h1, p.isList⟩ ⟨h2, p2⟩ (by simp; omega) (by simp; omega) (.inl (by simp; omega)) fun h' tk k => ⟨rfl, ?_⟩
    exact I.turnedL (t' := tk) (ch := [z, TI, TO, i1, i2]) (fun c o hc q => k c o (fun e => hc (by simp [e])) (fun e => hc (by simp [e])) (fun e => hc (by simp [e])) (fun e => hc (by simp [e])) q) hf
  case item =>
    intro X hP hw hK hc i pins s σ H E I hf st hg
    subst hP hw hK
    obtain ⟨hz, hTI, ⟨x0, y0, hTO⟩, h1, h2⟩ := st
    obtain ⟨xs, ys, x, y, hqx, hqy, hx, hy⟩ := hg
    obtain ⟨its, rv, p, _⟩ := I.list hqx
    obtain ⟨its2, rv2, p2, _⟩ := I.tuple hqy
    obtain ⟨u, hu, ru⟩ := rv.get hx
    obtain ⟨u2, hu2, ru2⟩ := rv2.get hy
    have hh : X.A.in1.handled = none := I.ok.hd hc
    have hzl : z < s.heap.objs.size := Heap.lt_size hz
    refine wpAny_pyNext_zipD2_item S (Draws.list hh i1 a ha its.toArray) (Draws.tuple hh i2 b hb its2.toArray) hz hTI hTO ⟨h1, p.isList⟩ ⟨h2, p2⟩ (by simpa using (List.getElem?_eq_some_iff.mp hu).1) (by simpa using (List.getElem?_eq_some_iff.mp hu2).1) fun v1 v2 h' tk e1 e2 z' TO' d1 d2 hT hsz hk => ?_
    have ev1 : v1 = u := Option.some.inj (e1.symm.trans (by simpa using hu))
    have ev2 : v2 = u2 := Option.some.inj (e2.symm.trans (by simpa using hu2))
    subst ev1 ev2
    refine ⟨_, rfl, wpAny_letOwnedTupleGo_zip (s := { s with heap := h', toks := tk }) z' fun h2' z2' sb => ?_⟩
    have at2 : h2'.get? s.heap.objs.size = some { cls := .type "tuple", data := .seq #[v1, v2] } := (sb.2 _ (Nat.ne_of_gt hzl)).trans hT
    have laid : ObjOk X.prog X.w (upd H s.heap.objs.size (.tup [x, y])) h2' s.heap.objs.size (.tup [x, y]) := ⟨szl 2, [v1, v2], .cons ru (.cons ru2 .nil), _, at2, rfl, _, rfl⟩
    have J : Inv X pins σ (upd H s.heap.objs.size (.tup [x, y])) { s with heap := h2', toks := tk } :=
      I.turnedNew (ch := [z, TI, TO, i1, i2]) (fun c o hb q => (sb.2 c fun e => hb (by simp [e])).trans (hk c o (fun e => hb (by simp [e])) (fun e => hb (by simp [e])) (fun e => hb (by simp [e])) (fun e => hb (by simp [e])) q)) hf (Nat.le_refl _) laid
    refine ⟨.ref s.heap.objs.size, _, J, rfl, ⟨_, x, y, rfl, I.hok.fresh (Nat.le_refl _), rfl, fun l hl => by rw [I.list_inj hl hqx]; exact hx, fun l hl => by rw [I.tuple_inj hl hqy]; exact hy⟩, ⟨z2', ?_, ⟨v1, v2, ?_⟩, ?_, ?_⟩, fun c hcm => ?_⟩
    · exact (sb.2 _ S.TIz).trans (hk _ _ S.TIz S.TITO S.TIi1 S.TIi2 hTI)
    · exact (sb.2 _ S.TOz).trans TO'
    · exact d1.1.at fun o q => (sb.2 _ (Ne.symm z1)).trans q
    · exact d2.1.at fun o q => (sb.2 _ (Ne.symm z2)).trans q
    · have hlt : c < s.heap.objs.size := by
        simp only [List.mem_cons, List.not_mem_nil, or_false] at hcm
        obtain ⟨_, g1, _⟩ := h1
        obtain ⟨_, g2, _⟩ := h2
        rcases hcm with e | e | e | e | e <;> rw [e] <;> first
          | exact hzl
          | exact Heap.lt_size hTI
          | exact Heap.lt_size hTO
          | exact Heap.lt_size g1
          | exact Heap.lt_size g2
      rw [upd_ne (Nat.ne_of_lt hlt)]
      exact (hf c hcm).1
def iZipM (K : PySem.W.Frag) (ta : TA) : TI := fun σ H R => ta σ H fun vs H1 => ∃ a b xs ys, vs = [.ref a, .ref b] ∧ SqL K H1 a xs ∧ SqT K H1 b ys ∧ R (ItzM K a b) H1
theorem pi_zipM {X : Cx} {e e2 : Expr} {ta : TA} {p pos tpos : Pos} {elts : List Expr} {kk : Nat} (hg : Gl X "zip") (hm : X.mg "zip" = none) (ha : PA X [e, e2] ta)
    (hs : starEach [e, e2] X.env = (false, eval e X.env) :: starEach [e2] X.env := by rfl) (hpl : (backTo pos (starEach [e2] X.env)).any (·.1) = false := by rfl) : PI X (.Tuple elts kk tpos) (.Call (.Name "zip" p) [e, e2] [] pos) (iZipM X.K ta) := by
  refine ⟨fun pins s σ H R I h => Call_ (ld_blt I hg hm PyProof.Rows.boot_zip (PyProof.Rows.callWith_type1 (thn (ha.run pos pins s σ H _ I h) fun us s1 ⟨vs, H1, I1, r1, q1⟩ => ?_) hs hpl))⟩
  obtain ⟨a, b, xs, ys, rfl, hqx, hqy, q⟩ := q1
  rcases r1 with _ | ⟨r, rr⟩
  rcases rr with _ | ⟨r', rr⟩
  cases rr
  cases r
  cases r'
  obtain ⟨its, rv, p1, _⟩ := I1.list hqx
  obtain ⟨its2, rv2, p2, _⟩ := I1.tuple hqy
  have la : a < s1.heap.objs.size := p1.lt
  have lb : b < s1.heap.objs.size := p2.lt
  refine zip_begins2 (begins_list a its.toArray) (begins_tuple b its2.toArray) p1.isList p2 fun h' hz hTI hTO h1 h2 hsz hk => wpAny_pyIter_zip hz ?_
  refine ⟨s1.heap.objs.size + 4, [s1.heap.objs.size + 4, s1.heap.objs.size + 2, s1.heap.objs.size + 3, s1.heap.objs.size, s1.heap.objs.size + 1], _, _, H1, rfl, I1.kept (t' := s1.toks) hk,
    turn_zipM (zip_sep2 (N := s1.heap.objs.size) (fp1 := [a]) (fp2 := [b]) (by simpa using la) (by simpa using lb)) (Nat.ne_of_lt la) (Nat.ne_of_lt (Nat.lt_succ_of_lt lb)), ⟨hz, hTI, ⟨_, _, hTO⟩, ⟨_, h1, rfl, rfl⟩, ⟨_, h2, rfl, rfl⟩⟩, fun c hcm => ?_, q⟩
  have hle : s1.heap.objs.size ≤ c := by
    simp only [List.mem_cons, List.not_mem_nil, or_false] at hcm
    rcases hcm with e | e | e | e | e <;> rw [e] <;> first
      | exact Nat.le_refl _
      | exact Nat.le_add_right _ _
  exact I1.fpOk hle (I1.hok.fresh hle)
theorem walk_zipM {K : PySem.W.Frag} {a b : Addr} {xs ys : List V} (h : xs.length = ys.length) : Walk (ItzM K a b) xs.length (fun H => SqL K H a xs ∧ SqT K H b ys) (YPair (fun i => xs[i]?) (fun i => ys[i]?)) := by
  refine ⟨fun i H hi ⟨h1, h2⟩ => ⟨xs, ys, _, _, h1, h2, List.getElem?_eq_getElem hi, List.getElem?_eq_getElem (h ▸ hi)⟩, fun H ⟨h1, h2⟩ => ⟨xs, ys, h1, h2, rfl, h.symm⟩, ?_⟩
  rintro i H x H' hi ⟨h1, h2⟩ ⟨T, y, z, rfl, nT, rfl, g1, g2⟩
  exact ⟨T, y, z, rfl, nT, rfl, g1 xs h1, g2 ys h2⟩
end SK
/-! zip(*rows) of lists, equally long: as many as there are -/
namespace ZN
open PySem PySem.Spec PyProof.Rows L2
abbrev ZipAt (h : Heap) (z TI TO : Addr) (f0 f1 : Value) : Prop := h.get? z = some { cls := .type "zip", dict := none, data := .fields #[f0, f1, .bool false, .ref TI, .ref TO], slots := #[] }
abbrev TupAt (h : Heap) (T : Addr) (xs : Array Value) : Prop := h.get? T = some { cls := .type "tuple", data := .seq xs }
def Lent (f0 f1 : Value) : Prop := (f0 = .none ∨ ∃ T : Addr, f0 = rawInt T) ∧ ∃ b, f1 = .bool b
section
variable {prog : Program} {w : World} {A : Around} {E : Value → Shared → Prop} {s : Shared}
theorem forIn_by {α β : Type} {M : Model} {f : α → β → Sem (ForInStep β)} {Q : β → Shared → Prop} : ∀ (l : List α) (b0 : β) (s : Shared) (Iv : Nat → β → Shared → Prop), Iv 0 b0 s → (∀ i x b s, l[i]? = some x → Iv i b s → wpAny M A (f x b) (fun r s' => ∃ b', r = .yield b' ∧ Iv (i + 1) b' s') E s) →
    (∀ b s, Iv l.length b s → Q b s) → wpAny M A (forIn l b0 f) Q E s
  | [], b0, s, Iv, h0, _, hd => by
    rw [List.forIn_nil]
    exact wpAny_pure (hd _ _ h0)
  | x :: l, b0, s, Iv, h0, hs, hd => by
    rw [List.forIn_cons]
    refine wpAny_bind (wpAny_mono (hs 0 x b0 s rfl h0) (fun r s' ⟨b', e, h1⟩ => ?_) fun _ _ z => z)
    subst e
    exact forIn_by l b' s' (fun i => Iv (i + 1)) h1 (fun i x b s hx hi => hs (i + 1) x b s hx hi) hd
theorem alive_of {a : Addr} {Q : Option Obj → Shared → Prop} (h : Q (s.heap.get? a) s) : wpAny (model prog w) A (loadIfAlive a) Q E s := fun _ _ _ => h
theorem lent_free {z TI TO : Addr} {f0 f1 : Value} {Q : Bool → Shared → Prop} (hz : ZipAt s.heap z TI TO f0 f1) (hl : Lent f0 f1)
    (h : ∀ b h' g0 g1, ZipAt h' z TI TO g0 g1 → Lent g0 g1 → Heap.SameBut z s.heap h' → Q b { s with heap := h' }) : wpAny (model prog w) A (Builtin.SmallTypes.ownedTupleIsFree (.ref z)) Q E s := by
  obtain ⟨h0, b1, rfl⟩ := hl
  unfold Builtin.SmallTypes.ownedTupleIsFree
  refine wpAny_bind (wpAny_field hz rfl (x := f0) rfl ?_)
  rcases h0 with rfl | ⟨T, rfl⟩
  · exact wpAny_pure (h true s.heap _ _ hz ⟨.inl rfl, _, rfl⟩ (Heap.SameBut.refl _ _))
  · show wpAny _ _ (loadIfAlive ((T : Int).toNat) >>= _) _ _ _
    rw [Int.toNat_natCast]
    cases hT : s.heap.get? T with
    | none =>
      refine wpAny_bind (alive_of ?_)
      rw [hT]
      exact wpAny_bind (wpAny_pure (wpAny_pure (h true s.heap _ _ hz ⟨.inr ⟨T, rfl⟩, _, rfl⟩ (Heap.SameBut.refl _ _))))
    | some oT =>
      refine wpAny_bind (alive_of ?_)
      rw [hT]
      simp only [Option.isNone_some, Bool.false_eq_true, if_false]
      refine wpAny_bind (wpAny_field hz rfl (x := .bool b1) rfl ?_)
      cases b1 with
      | true =>
        rw [if_neg (show ¬ ((Value.bool true != Value.bool true) = true) from Bool.false_ne_true)]
        exact wpAny_pure (h false s.heap _ _ hz ⟨.inr ⟨T, rfl⟩, _, rfl⟩ (Heap.SameBut.refl _ _))
      | false =>
        rw [if_pos (show (Value.bool false != Value.bool true) = true from rfl)]
        exact wpAny_bind (wpAny_setField_rec hz (by simp) fun h₁ hz₁ hs₁ => wpAny_pure (h false h₁ _ _ hz₁ ⟨.inr ⟨T, rfl⟩, _, rfl⟩ hs₁))
/-- the iterators' turn; those below k have turned once more -/
def Turns (h : Heap) (ins ls : List Addr) (i k : Nat) : Prop := ∀ (j : Nat) (it l : Addr), ins[j]? = some it → ls[j]? = some l → h.IsListIter it l (if j < k then i + 1 else i)
/-- what they draw from: lists with an item there -/
def Has (h : Heap) (ls : List Addr) (xs : List Value) (i : Nat) : Prop := ls.length = xs.length ∧ ∀ (j : Nat) (l : Addr) (x : Value), ls[j]? = some l → xs[j]? = some x → ∃ items : Array Value, h.IsList l items ∧ items[i]? = some x
structure Sep (z TI TO : Addr) (ins ls : List Addr) : Prop where
  len : ins.length = ls.length
  TIz : TI ≠ z
  TOz : TO ≠ z
  TITO : TI ≠ TO
  zi : z ∉ ins
  Ti : TI ∉ ins
  To : TO ∉ ins
  nd : ins.Nodup
  lz : ∀ l ∈ ls, l ≠ z ∧ l ≠ TO ∧ l ∉ ins
/-- between: all but the zip's own things is as it was -/
def Kept (z TO : Addr) (ins : List Addr) (h h' : Heap) : Prop := h'.objs.size = h.objs.size ∧ ∀ c o, c ≠ z → c ≠ TO → c ∉ ins → h.get? c = some o → h'.get? c = some o
theorem kept_of {z TO c : Addr} {ins : List Addr} {h h' : Heap} (k : Heap.SameBut c h h') (hc : c = z ∨ c = TO ∨ c ∈ ins) : Kept z TO ins h h' := ⟨k.1, fun b o b1 b2 b3 e => k.extBut b o (fun z => by subst z; rcases hc with x | x | x; exact b1 x; exact b2 x; exact b3 x) e⟩
theorem Kept.trans {z TO : Addr} {ins : List Addr} {h h1 h2 : Heap} (a : Kept z TO ins h h1) (b : Kept z TO ins h1 h2) : Kept z TO ins h h2 := ⟨b.1.trans a.1, fun c o b1 b2 b3 e => b.2 c o b1 b2 b3 (a.2 c o b1 b2 b3 e)⟩
theorem Kept.refl {z TO : Addr} {ins : List Addr} {h : Heap} : Kept z TO ins h h := ⟨rfl, fun _ _ _ _ _ e => e⟩
/-- one draw -/
theorem draw_one {z TI TO : Addr} {ins ls : List Addr} {xs : List Value} {i k : Nat} {h0 : Heap} {it : Addr} {Q : Value → Shared → Prop} (D : Sep z TI TO ins ls) (T : Turns s.heap ins ls i k) (hk : Kept z TO ins h0 s.heap) (H : Has h0 ls xs i) (hit : ins[k]? = some it)
    (hQ : ∀ x h', xs[k]? = some x → Turns h' ins ls i (k + 1) → Heap.SameBut it s.heap h' → Q x { s with heap := h' }) : wpAny (model prog w) A (Builtin.SmallTypes.nextOf (.ref it)) Q E s := by
  have lt : k < ins.length := (List.getElem?_eq_some_iff.mp hit).1
  have lt2 : k < ls.length := D.len ▸ lt
  have lt3 : k < xs.length := H.1 ▸ lt2
  have hl := List.getElem?_eq_getElem lt2
  have hx := List.getElem?_eq_getElem lt3
  generalize ls[k] = l at hl
  generalize xs[k] = x at hx
  obtain ⟨items, i1, i2⟩ := H.2 k l x hl hx
  obtain ⟨l1, l2, l3⟩ := D.lz l (List.mem_of_getElem? hl)
  have t := T k it l hit hl
  rw [if_neg (Nat.lt_irrefl _)] at t
  refine wpAny_nextOf_list_item t (i1.at fun o e => hk.2 l o l1 l2 l3 e) i2 fun h' t' sb => hQ x h' hx (fun j it2 l2' e1 e2 => ?_) sb
  by_cases e : j = k
  · subst e
    rw [hit] at e1
    cases e1
    rw [hl] at e2
    cases e2
    rw [if_pos (Nat.lt_succ_self _)]
    exact t'
  · have ne : it2 ≠ it := fun z => e (by
      subst z
      exact (List.getElem?_inj (List.getElem?_eq_some_iff.mp e1).1 D.nd).mp (e1.trans hit.symm))
    have t2 := (T j it2 l2' e1 e2).extBut sb.extBut ne
    have : (j < k + 1) = (j < k) := propext ⟨fun h => by omega, fun h => by omega⟩
    simp only [this]
    exact t2
/-- what the zip leaves behind a draw of all -/
def Left (z TI TO : Addr) (ins ls : List Addr) (xs : List Value) (i : Nat) (h h' : Heap) : Prop :=
  (∃ g0 g1, ZipAt h' z TI TO g0 g1 ∧ Lent g0 g1) ∧ (∃ ys, TupAt h' TO ys ∧ ys.size = ins.length) ∧ Turns h' ins ls (i + 1) 0 ∧ TupAt h' h.objs.size xs.toArray ∧ h'.objs.size = h.objs.size + 1 ∧ ∀ c o, c ≠ z → c ≠ TO → c ∉ ins → h.get? c = some o → h'.get? c = some o
theorem turns_all {h : Heap} {ins ls : List Addr} {i : Nat} (T : Turns h ins ls i ins.length) : Turns h ins ls (i + 1) 0 := fun j it l e1 e2 => by
  have t := T j it l e1 e2
  rw [if_pos (List.getElem?_eq_some_iff.mp e1).1] at t
  rw [if_neg (Nat.not_lt_zero _)]
  exact t
theorem item_n {z TI TO : Addr} {ins ls : List Addr} {xs : List Value} {i : Nat} {f0 f1 : Value} {ys : Array Value} {Q : Value → Shared → Prop} (D : Sep z TI TO ins ls) (hz : ZipAt s.heap z TI TO f0 f1) (hl : Lent f0 f1) (hTI : TupAt s.heap TI (ins.map Value.ref).toArray) (hTO : TupAt s.heap TO ys) (hys : ys.size = ins.length)
    (T : Turns s.heap ins ls i 0) (H : Has s.heap ls xs i) (hpos : 0 < ins.length) (hfit : ins.length ≤ 1000) (hQ : ∀ h', Left z TI TO ins ls xs i s.heap h' → Q (.ref s.heap.objs.size) { s with heap := h' }) :
    wpAny (model prog w) A (Builtin.«zip.__next__» ⟨[.ref z], []⟩) (fun fin s' => ∃ v, fin = .done (.ret v) ∧ Q v s') E s := by
  show wpAny _ _ (field (.ref z) 2 >>= _) _ _ _
  refine wpAny_bind (wpAny_field hz rfl (x := .bool false) rfl ?_)
  show wpAny _ _ (field (.ref z) 3 >>= _) _ _ _
  refine wpAny_bind (wpAny_field hz rfl (x := .ref TI) rfl ?_)
  refine wpAny_bind (wpAny_seqItems hTI rfl ?_)
  have ne : (ins.map Value.ref).toArray.isEmpty = false := by cases ins with | nil => cases hpos | cons a b => rfl
  dsimp only
  rw [if_neg (by rw [ne]; exact Bool.false_ne_true)]
  show wpAny _ _ (Builtin.SmallTypes.ownedTupleIsFree (.ref z) >>= _) _ _ _
  refine wpAny_bind (lent_free hz hl fun b h1 g0 g1 hz1 hl1 sb1 => ?_)
  have K1 : Kept z TO ins s.heap h1 := kept_of sb1 (.inl rfl)
  have T1 : Turns h1 ins ls i 0 := fun j it l e1 e2 => (T j it l e1 e2).extBut sb1.extBut (fun q => D.zi (q ▸ List.mem_of_getElem? e1))
  have lx : xs.length = ins.length := by rw [D.len, H.1]
  cases b with
  | false =>
    simp only [Bool.false_eq_true, if_false]
    refine wpAny_bind ?_
    rw [← Array.forIn_toList]
    refine forIn_by _ _ _ (fun k b t => b.1 = none ∧ b.2 = (xs.take k).toArray ∧ ∃ h', t = { s with heap := h' } ∧ Kept z TO ins s.heap h' ∧ ZipAt h' z TI TO g0 g1 ∧ TupAt h' TO ys ∧ Turns h' ins ls i k) ⟨rfl, rfl, h1, rfl, K1, hz1, sb1.extBut _ _ D.TOz hTO, T1⟩ ?_ ?_
    · rintro k x b t hx ⟨b1, b2, h', rfl, k', z', o', t'⟩
      obtain ⟨it, hit, rfl⟩ : ∃ it, ins[k]? = some it ∧ x = Value.ref it := by
        have hx : (ins.map Value.ref)[k]? = some x := hx
        rw [List.getElem?_map] at hx
        cases e : ins[k]? with
        | none => rw [e] at hx; cases hx
        | some it => rw [e] at hx; exact ⟨it, rfl, (Option.some.inj hx).symm⟩
      have mem := List.mem_of_getElem? hit
      refine wpAny_bind (wpAny_holding ?_)
      show wpAny _ _ (Builtin.SmallTypes.nextOf (.ref it) >>= _) _ _ _
      refine wpAny_bind (draw_one (s := { s with heap := h' }) D t' k' H hit fun x h2 hx2 t2 sb => wpAny_pure ?_)
      refine wpAny_pure ⟨_, rfl, rfl, ?_, h2, rfl, k'.trans (kept_of sb (.inr (.inr mem))), sb.extBut _ _ (fun q => D.zi (q ▸ mem)) z', sb.extBut _ _ (fun q => D.To (q ▸ mem)) o', t2⟩
      show b.2.push x = _
      rw [b2]
      have e : xs.take (k + 1) = xs.take k ++ [x] := by
        rw [List.take_succ, hx2]
        rfl
      rw [e]
      exact List.push_toArray _ _
    · rintro b t ⟨b1, b2, h', rfl, k', z', o', t'⟩
      have el : (ins.map Value.ref).toArray.toList.length = ins.length := by simp
      rw [el] at b2 t'
      rw [← lx, List.take_length] at b2
      rw [b1, b2]
      show wpAny _ _ (newTuple xs >>= _) _ _ _
      refine wpAny_bind (wpAny_newTuple ?_ (by rw [sizeLine_eq]; omega))
      refine wpAny_pure ⟨_, rfl, ?_⟩
      show Q (.ref h'.objs.size) _
      have sz : h'.objs.size = s.heap.objs.size := k'.1
      rw [sz]
      refine hQ _ ⟨⟨g0, g1, Heap.get?_push_of_some _ z', hl1⟩, ⟨ys, Heap.get?_push_of_some _ o', hys⟩, turns_all (fun j it l e1 e2 => (t' j it l e1 e2).at fun o e => Heap.get?_push_of_some _ e), ?_, ?_, fun c o c1 c2 c3 e => Heap.get?_push_of_some _ (k'.2 c o c1 c2 c3 e)⟩
      · rw [← sz]
        exact Heap.get?_push_size _ rfl
      · rw [Heap.size_push, sz]
  | true =>
    simp only [if_true]
    refine wpAny_bind (wpAny_rule ?_)
    have hTO1 : TupAt h1 TO ys := sb1.extBut _ _ D.TOz hTO
    refine wpAny_bind (wpAny_field hz1 rfl (x := .ref TO) rfl ?_)
    dsimp only
    refine wpAny_bind (wpAny_setField_rec hz1 (by simp) fun h2 hz2 sb2 => ?_)
    replace hz2 : ZipAt h2 z TI TO .ellipsis g1 := hz2
    refine wpAny_bind ?_
    have K2 : Kept z TO ins s.heap h2 := K1.trans (kept_of sb2 (.inl rfl))
    have hTO2 : TupAt h2 TO ys := sb2.extBut _ _ D.TOz hTO1
    have T2 : Turns h2 ins ls i 0 := fun j it l e1 e2 => (T1 j it l e1 e2).extBut sb2.extBut (fun q => D.zi (q ▸ List.mem_of_getElem? e1))
    refine forIn_by _ _ _ (fun k b t => b = (none, ()) ∧ ∃ h' ys', t = { s with heap := h' } ∧ Kept z TO ins s.heap h' ∧ ZipAt h' z TI TO .ellipsis g1 ∧ TupAt h' TO ys' ∧ ys'.size = ins.length ∧ (∀ j, j < k → ys'[j]? = xs[j]?) ∧ Turns h' ins ls i k) ⟨rfl, h2, ys, rfl, K2, hz2, hTO2, hys, fun j hj => absurd hj (Nat.not_lt_zero _), T2⟩ ?_ ?_
    · rintro k x b t hx ⟨rfl, h', ys', rfl, k', z', o', sz, py, t'⟩
      obtain ⟨it, hit, rfl⟩ : ∃ it, ins[k]? = some it ∧ x = (Value.ref it, k) := by
        rw [List.getElem?_zipIdx, List.getElem?_map] at hx
        cases e : ins[k]? with
        | none => rw [e] at hx; cases hx
        | some it => rw [e] at hx; exact ⟨it, rfl, by have := Option.some.inj hx; rw [← this]; simp⟩
      have mem := List.mem_of_getElem? hit
      have lt : k < ins.length := (List.getElem?_eq_some_iff.mp hit).1
      refine wpAny_bind (wpAny_onRaise ?_)
      show wpAny _ _ (Builtin.SmallTypes.nextOf (.ref it) >>= _) _ _ _
      refine wpAny_bind (draw_one (s := { s with heap := h' }) D t' k' H hit fun x h3 hx3 t3 sb3 => wpAny_pure ?_)
      have o3 : TupAt h3 TO ys' := sb3.extBut _ _ (fun q => D.To (q ▸ mem)) o'
      refine wpAny_bind (wpAny_seqItems o3 rfl ?_)
      refine wpAny_bind (wpAny_updateSeq o3 rfl ?_)
      refine wpAny_bind (wpAny_letGo (wpAny_pure ⟨_, rfl, rfl, h3.update TO (Obj.mapSeq (·.setIfInBounds k x)), ys'.setIfInBounds k x, rfl, ?_, ?_, ?_, ?_, fun j hj => ?_, fun j it2 l2 e1 e2 => ?_⟩))
      · exact (k'.trans (kept_of sb3 (.inr (.inr mem)))).trans (kept_of (Heap.SameBut.update ..) (.inr (.inl rfl)))
      · exact (Heap.SameBut.update ..).extBut _ _ D.TOz.symm (sb3.extBut _ _ (fun q => D.zi (q ▸ mem)) z')
      · show (h3.update TO _).get? TO = _
        rw [Heap.get?_update_self _ o3 rfl]
        simp [Obj.mapSeq]
      · rw [Array.size_setIfInBounds]; exact sz
      · by_cases e : j = k
        · subst e
          rw [Array.getElem?_setIfInBounds_self_of_lt (by omega), hx3]
        · rw [Array.getElem?_setIfInBounds_ne (Ne.symm e)]
          exact py j (by omega)
      · exact (t3 j it2 l2 e1 e2).extBut (Heap.SameBut.update ..).extBut (fun q => D.To (q ▸ List.mem_of_getElem? e1))
    · rintro b t ⟨rfl, h', ys', rfl, k', z', o', sz, py, t'⟩
      have el : (ins.map Value.ref).zipIdx.length = ins.length := by simp
      rw [el] at py t'
      have ey : ys'.toList = xs := by
        apply List.ext_getElem?
        intro j
        rw [Array.getElem?_toList]
        by_cases hj : j < ins.length
        · exact py j hj
        · rw [Array.getElem?_eq_none (by omega), List.getElem?_eq_none (by omega)]
      dsimp only
      refine wpAny_bind (wpAny_seqItems o' rfl ?_)
      dsimp only
      refine wpAny_bind (wpAny_newTuple ?_ (by rw [sizeLine_eq, ey]; omega))
      rw [ey]
      have szh : h'.objs.size = s.heap.objs.size := k'.1
      have hzlt : z < h'.objs.size := Heap.lt_size z'
      show wpAny _ _ (Builtin.SmallTypes.ownedTupleHandOut (.ref z) (.ref h'.objs.size) >>= _) _ _ _
      refine wpAny_bind ?_
      unfold Builtin.SmallTypes.ownedTupleHandOut
      have z6 : ZipAt (h'.push { cls := .type "tuple", data := .seq xs.toArray }) z TI TO .ellipsis g1 := Heap.get?_push_of_some _ z'
      refine wpAny_bind (wpAny_setField_rec z6 (by simp) fun h7 z7 sb7 => ?_)
      replace z7 : ZipAt h7 z TI TO (rawInt h'.objs.size) g1 := z7
      refine wpAny_setField_rec z7 (by simp) fun h8 z8 sb8 => ?_
      replace z8 : ZipAt h8 z TI TO (rawInt h'.objs.size) (.bool false) := z8
      have up : ∀ c o, c ≠ z → h'.get? c = some o → h8.get? c = some o := fun c o c1 e => sb8.extBut _ _ c1 (sb7.extBut _ _ c1 (Heap.get?_push_of_some _ e))
      have at8 : TupAt h8 h'.objs.size xs.toArray := sb8.extBut _ _ (Nat.ne_of_gt hzlt) (sb7.extBut _ _ (Nat.ne_of_gt hzlt) (Heap.get?_push_size _ rfl))
      have sz8 : h8.objs.size = h'.objs.size + 1 := by rw [sb8.1, sb7.1, Heap.size_push]
      rw [szh] at z8 at8 sz8
      refine wpAny_pure ⟨_, rfl, ?_⟩
      show Q (.ref h'.objs.size) _
      rw [szh]
      exact hQ h8 ⟨⟨_, _, z8, .inr ⟨_, rfl⟩, _, rfl⟩, ⟨ys', up _ _ D.TOz o', sz⟩, turns_all (fun j it l e1 e2 => (t' j it l e1 e2).at fun o e => up _ o (fun q => D.zi (q ▸ List.mem_of_getElem? e1)) e), at8, sz8, fun c o c1 c2 c3 e => up c o c1 (k'.2 c o c1 c2 c3 e)⟩
theorem end_n {z TI TO : Addr} {ins ls : List Addr} {i : Nat} {f0 f1 : Value} {ys : Array Value} {Q : Fin → Shared → Prop} (hh : A.handled = none) (D : Sep z TI TO ins ls) (hz : ZipAt s.heap z TI TO f0 f1) (hl : Lent f0 f1) (hTI : TupAt s.heap TI (ins.map Value.ref).toArray) (hTO : TupAt s.heap TO ys)
    (T : Turns s.heap ins ls i 0) (hpos : 0 < ins.length) (H : ∀ l ∈ ls, ∃ items : Array Value, s.heap.IsList l items ∧ items[i]? = none)
    (hE : ∀ h' e, (∀ c o, c ≠ z → c ≠ TO → c ∉ ins → s.heap.get? c = some o → h'.get? c = some o) → (∃ o, h'.get? e = some o ∧ o.cls = .type "StopIteration") → E (.ref e) { s with heap := h' }) :
    wpAny (model prog w) A (Builtin.«zip.__next__» ⟨[.ref z], []⟩) Q E s := by
  cases ins with
  | nil => cases hpos
  | cons it ins =>
  cases ls with
  | nil => exact absurd D.len (by simp)
  | cons l ls =>
  have t0 := T 0 it l rfl rfl
  rw [if_neg (Nat.not_lt_zero _)] at t0
  obtain ⟨items, hl0, hx⟩ := H l List.mem_cons_self
  obtain ⟨l1, l2, l3⟩ := D.lz l List.mem_cons_self
  have itz : it ≠ z := fun q => D.zi (q ▸ List.mem_cons_self)
  show wpAny _ _ (field (.ref z) 2 >>= _) _ _ _
  refine wpAny_bind (wpAny_field hz rfl (x := .bool false) rfl ?_)
  show wpAny _ _ (field (.ref z) 3 >>= _) _ _ _
  refine wpAny_bind (wpAny_field hz rfl (x := .ref TI) rfl ?_)
  refine wpAny_bind (wpAny_seqItems hTI rfl ?_)
  dsimp only
  rw [if_neg (show ¬ ((((it :: ins).map Value.ref).toArray.isEmpty) = true) from Bool.false_ne_true)]
  show wpAny _ _ (Builtin.SmallTypes.ownedTupleIsFree (.ref z) >>= _) _ _ _
  refine wpAny_bind (lent_free hz hl fun b h1 g0 g1 hz1 hl1 sb1 => ?_)
  have t1 := t0.extBut sb1.extBut itz
  have a1 := hl0.extBut sb1.extBut l1
  cases b with
  | false =>
    simp only [Bool.false_eq_true, if_false]
    refine wpAny_bind ?_
    rw [← Array.forIn_toList]
    show wpAny _ _ (forIn (Value.ref it :: ins.map Value.ref) _ _) _ _ _
    rw [List.forIn_cons]
    refine wpAny_bind (wpAny_bind (wpAny_holding ?_))
    show wpAny _ _ (Builtin.SmallTypes.nextOf (.ref it) >>= _) _ _ _
    refine wpAny_bind (wpAny_nextOf_list_end (s := { s with heap := h1 }) hh t1 a1 hx fun h2 e k2 he => ?_)
    exact hE h2 e (fun c o c1 c2 c3 x => k2 _ _ (fun q => c3 (q ▸ List.mem_cons_self)) (sb1.extBut _ _ c1 x)) he
  | true =>
    simp only [if_true]
    refine wpAny_bind (wpAny_rule ?_)
    refine wpAny_bind (wpAny_field hz1 rfl (x := .ref TO) rfl ?_)
    dsimp only
    refine wpAny_bind (wpAny_setField_rec hz1 (by simp) fun h2 hz2 sb2 => ?_)
    replace hz2 : ZipAt h2 z TI TO .ellipsis g1 := hz2
    refine wpAny_bind ?_
    show wpAny _ _ (forIn ((Value.ref it, 0) :: (ins.map Value.ref).zipIdx 1) _ _) _ _ _
    rw [List.forIn_cons]
    refine wpAny_bind (wpAny_bind (wpAny_onRaise ?_))
    show wpAny _ _ (Builtin.SmallTypes.nextOf (.ref it) >>= _) _ _ _
    refine wpAny_bind (wpAny_nextOf_list_end (s := { s with heap := h2 }) hh (t1.extBut sb2.extBut itz) (a1.extBut sb2.extBut l1) hx fun h3 e k3 he => ?_)
    obtain ⟨oe, hoe, hce⟩ := he
    have z3 : ZipAt h3 z TI TO .ellipsis g1 := k3 _ _ itz.symm hz2
    have hez : e ≠ z := fun x => by subst x; rw [z3] at hoe; cases hoe; simp at hce
    refine wpAny_setField_rec z3 (by simp) fun h4 _ sb4 => hE h4 e (fun c o c1 c2 c3 x => sb4.extBut _ _ c1 (k3 _ _ (fun q => c3 (q ▸ List.mem_cons_self)) (sb2.extBut _ _ c1 (sb1.extBut _ _ c1 x)))) ⟨oe, sb4.extBut _ _ hez hoe, hce⟩
theorem next_n {z TI TO : Addr} {ins ls : List Addr} {xs : List Value} {i : Nat} {f0 f1 : Value} {ys : Array Value} {Q : Option Value → Shared → Prop} (D : Sep z TI TO ins ls) (hz : ZipAt s.heap z TI TO f0 f1) (hl : Lent f0 f1) (hTI : TupAt s.heap TI (ins.map Value.ref).toArray) (hTO : TupAt s.heap TO ys) (hys : ys.size = ins.length)
    (T : Turns s.heap ins ls i 0) (H : Has s.heap ls xs i) (hpos : 0 < ins.length) (hfit : ins.length ≤ 1000) (hQ : ∀ h', Left z TI TO ins ls xs i s.heap h' → Q (some (.ref s.heap.objs.size)) { s with heap := h' }) : wpAny (model prog w) A (pyNext (.ref z)) Q E s := by
  have hT : s.TypeIs (.ref z) "zip" := ⟨_, hz, rfl⟩
  unfold pyNext
  exact wpAny_bind (wpAny_attempt (wpAny_callSpecial?_slot (name := Str.ofString "__next__") hT F.slot_zip_next (wpAny_call_entry F.slot_zip_next hT F.entry_zip_next (item_n D hz hl hTI hTO hys T H hpos hfit fun h' L => wpAny_pure (hQ h' L)) (F.args_zip_next_1 _))))
theorem stop_n {z TI TO : Addr} {ins ls : List Addr} {i : Nat} {f0 f1 : Value} {ys : Array Value} {Q : Option Value → Shared → Prop} (hh : A.handled = none) (D : Sep z TI TO ins ls) (hz : ZipAt s.heap z TI TO f0 f1) (hl : Lent f0 f1) (hTI : TupAt s.heap TI (ins.map Value.ref).toArray) (hTO : TupAt s.heap TO ys)
    (T : Turns s.heap ins ls i 0) (hpos : 0 < ins.length) (H : ∀ l ∈ ls, ∃ items : Array Value, s.heap.IsList l items ∧ items[i]? = none)
    (hQ : ∀ h', (∀ c o, c ≠ z → c ≠ TO → c ∉ ins → s.heap.get? c = some o → h'.get? c = some o) → Q none { s with heap := h' }) : wpAny (model prog w) A (pyNext (.ref z)) Q E s := by
  have hT : s.TypeIs (.ref z) "zip" := ⟨_, hz, rfl⟩
  unfold pyNext
  refine wpAny_bind (wpAny_attempt (wpAny_callSpecial?_slot (name := Str.ofString "__next__") hT F.slot_zip_next (wpAny_call_entry F.slot_zip_next hT F.entry_zip_next (end_n hh D hz hl hTI hTO T hpos H fun h' e hk he => ?_) (F.args_zip_next_1 _))))
  obtain ⟨o, ho, hc⟩ := he
  refine wpAny_bind (wpAny_isInstance (T := "StopIteration") (b := true) ⟨o, ho, hc⟩ isSubtype_stop ?_)
  exact wpAny_pure (hQ _ hk)
end
def insOf (n k : Nat) : List Addr := (List.range k).map fun j => n + j
theorem insOf_get {n k j : Nat} (h : j < k) : (insOf n k)[j]? = some (n + j) := by unfold insOf; rw [List.getElem?_map, List.getElem?_range h]; rfl
theorem insOf_len (n k : Nat) : (insOf n k).length = k := by unfold insOf; rw [List.length_map, List.length_range]
theorem insOf_succ (n k : Nat) : insOf n (k + 1) = insOf n k ++ [n + k] := by unfold insOf; rw [List.range_succ, List.map_append]; rfl
/-- a new zip: its iterators, the tuple of them, the tuple that it lends -/
def Begun (ls : List Addr) (h h' : Heap) : Prop :=
  ZipAt h' (h.objs.size + ls.length + 2) (h.objs.size + ls.length) (h.objs.size + ls.length + 1) .none (.bool false) ∧ TupAt h' (h.objs.size + ls.length) ((insOf h.objs.size ls.length).map Value.ref).toArray ∧
  (∃ ys, TupAt h' (h.objs.size + ls.length + 1) ys ∧ ys.size = ls.length) ∧ Turns h' (insOf h.objs.size ls.length) ls 0 0 ∧ ∀ c o, h.get? c = some o → h'.get? c = some o
theorem new_n (ls : List Addr) (hfit : ls.length ≤ 1000) : Meets (Builtin.«zip.__new__» ⟨.type "zip" :: ls.map Value.ref, []⟩) (fun _ R s => (∀ l ∈ ls, ∃ items : Array Value, s.heap.IsList l items) ∧
    ∀ h', Begun ls s.heap h' → R (.ok (.ret (.ref (s.heap.objs.size + ls.length + 2)))) { s with heap := h' }) :=
  .of_wp fun prog w A R s h => by
    obtain ⟨h1, h2⟩ := h
    have hsub := sub_zip
    unfold Builtin.«zip.__new__»
    refine wpAny_bind ?_
    unfold Builtin.SmallTypes.newClass
    dsimp only
    refine wpAny_bind (wpAny_of_eq (a := true) (by first | rfl | (simp only [isType]; rfl)) ?_)
    rw [if_neg (by decide)]
    rw [hsub]
    refine wpAny_bind (wpAny_pure ?_)
    rw [if_neg (by decide)]
    refine wpAny_pure ?_
    dsimp only
    rw [if_neg (by decide)]
    refine wpAny_bind ?_
    unfold Builtin.SmallTypes.iterAll
    refine wpAny_bind ?_
    refine forIn_by _ _ _ (fun k b t => b = ((insOf s.heap.objs.size k).map Value.ref).toArray ∧ ∃ h', t = { s with heap := h' } ∧ h'.objs.size = s.heap.objs.size + k ∧ (∀ c o, s.heap.get? c = some o → h'.get? c = some o) ∧ ∀ (j : Nat) (l : Addr), j < k → ls[j]? = some l → h'.IsListIter (s.heap.objs.size + j) l 0) ⟨rfl, s.heap, rfl, rfl, fun _ _ e => e, fun j l hj => absurd hj (Nat.not_lt_zero _)⟩ ?_ ?_
    · rintro k x b t hx ⟨rfl, h', rfl, sz, kp, tr⟩
      rw [List.getElem?_map] at hx
      cases e : ls[k]? with
      | none => rw [e] at hx; cases hx
      | some l =>
        rw [e] at hx
        cases hx
        obtain ⟨items, hl⟩ := h1 l (List.mem_of_getElem? e)
        refine wpAny_bind (wpAny_holding (wpAny_pyIter_list (s := { s with heap := h' }) (hl.at fun o e => kp _ _ e) (wpAny_pure ⟨_, rfl, ?_, _, rfl, ?_, fun c o e => Heap.get?_push_of_some _ (kp c o e), fun j l2 hj e2 => ?_⟩)))
        · show Array.push _ _ = _
          rw [insOf_succ, List.map_append]
          dsimp only
          rw [sz]
          exact List.push_toArray _ _
        · show (h'.push _).objs.size = _
          rw [Heap.size_push, sz, Nat.add_assoc]
        · by_cases e3 : j = k
          · subst e3
            rw [e] at e2
            cases e2
            rw [← sz]
            exact ⟨_, Heap.get?_push_size _ rfl, rfl, rfl⟩
          · exact (tr j l2 (by omega) e2).at fun o e => Heap.get?_push_of_some _ e
    · rintro b t ⟨rfl, h', rfl, sz, kp, tr⟩
      rw [List.length_map] at sz tr
      refine wpAny_pure ?_
      have le : (ls.map Value.ref).length = ls.length := List.length_map _
      rw [le]
      refine wpAny_bind (wpAny_newTuple ?_ (by rw [sizeLine_eq, List.length_map, insOf_len]; omega))
      refine wpAny_bind (wpAny_newTuple ?_ (by rw [sizeLine_eq, List.length_map, List.length_map, insOf_len]; omega))
      dsimp only
      refine wpAny_bind ?_
      unfold Builtin.SmallTypes.newRecord
      dsimp only
      refine wpAny_newObj_type ?_ (by show Array.size _ ≤ _; rw [sizeLine_eq]; show 5 ≤ _; decide)
      refine wpAny_pure ⟨_, rfl, ?_⟩
      rw [Heap.size_push, Heap.size_push, sz]
      refine h2 _ ⟨?_, ?_, ?_, fun j it l e1 e2 => ?_, fun c o e => ?_⟩
      · have e1 : ((h'.push { cls := .type "tuple", data := .seq ((insOf s.heap.objs.size ls.length).map Value.ref).toArray }).push { cls := .type "tuple", data := .seq (((insOf s.heap.objs.size ls.length).map Value.ref).map fun _ => Value.none).toArray }).objs.size = s.heap.objs.size + ls.length + 2 := by rw [Heap.size_push, Heap.size_push, sz]
        rw [← e1]
        exact Heap.get?_push_size _ rfl
      · rw [← sz]
        exact Heap.get?_push_of_some _ (Heap.get?_push_of_some _ (Heap.get?_push_size _ rfl))
      · refine ⟨(((insOf s.heap.objs.size ls.length).map Value.ref).map fun _ => Value.none).toArray, ?_, by simp [insOf_len]⟩
        have e1 : (h'.push { cls := .type "tuple", data := .seq ((insOf s.heap.objs.size ls.length).map Value.ref).toArray }).objs.size = s.heap.objs.size + ls.length + 1 := by rw [Heap.size_push, sz]
        rw [← e1]
        exact Heap.get?_push_of_some _ (Heap.get?_push_size _ rfl)
      · have hj : j < ls.length := (List.getElem?_eq_some_iff.mp e2).1
        rw [insOf_get hj] at e1
        cases e1
        rw [if_neg (Nat.not_lt_zero _)]
        exact (tr j l hj e2).at fun o e => Heap.get?_push_of_some _ (Heap.get?_push_of_some _ (Heap.get?_push_of_some _ e))
      · exact Heap.get?_push_of_some _ (Heap.get?_push_of_some _ (Heap.get?_push_of_some _ (kp c o e)))
theorem fits6 (us : List Value) (h1 : 0 < us.length) (h6 : us.length ≤ 6) : checkTypeCall "zip" ⟨us, []⟩ = pure () ∧ checkBuiltinCall "zip.__new__" ⟨.type "zip" :: us, []⟩ = pure () ∧ ∀ obj : Value, argsOk "object.__init__" ⟨obj :: us, []⟩ := by
  have ok : ∀ us : List Value, checkTypeCall "zip" ⟨us, []⟩ = pure () → checkBuiltinCall "zip.__new__" ⟨.type "zip" :: us, []⟩ = pure () → (∀ obj : Value, argsOk "object.__init__" ⟨obj :: us, []⟩) → checkTypeCall "zip" ⟨us, []⟩ = pure () ∧ checkBuiltinCall "zip.__new__" ⟨.type "zip" :: us, []⟩ = pure () ∧ ∀ obj : Value, argsOk "object.__init__" ⟨obj :: us, []⟩ := fun _ a b c => ⟨a, b, c⟩
  match us, h1, h6 with
  | [a], _, _ => exact ok _ (by kernel_rfl) (by kernel_rfl) fun obj => by unfold argsOk; rw [signature?_of (id := "object.__init__") (n := ['_', '_', 't', 'i', 'n', 'i', '_', '_']) (o := ['t', 'c', 'e', 'j', 'b', 'o']) (by kernel_rfl) F.owner_object]; kernel_rfl
  | [a, b], _, _ => exact ok _ (by kernel_rfl) (by kernel_rfl) fun obj => by unfold argsOk; rw [signature?_of (id := "object.__init__") (n := ['_', '_', 't', 'i', 'n', 'i', '_', '_']) (o := ['t', 'c', 'e', 'j', 'b', 'o']) (by kernel_rfl) F.owner_object]; kernel_rfl
  | [a, b, c], _, _ => exact ok _ (by kernel_rfl) (by kernel_rfl) fun obj => by unfold argsOk; rw [signature?_of (id := "object.__init__") (n := ['_', '_', 't', 'i', 'n', 'i', '_', '_']) (o := ['t', 'c', 'e', 'j', 'b', 'o']) (by kernel_rfl) F.owner_object]; kernel_rfl
  | [a, b, c, d], _, _ => exact ok _ (by kernel_rfl) (by kernel_rfl) fun obj => by unfold argsOk; rw [signature?_of (id := "object.__init__") (n := ['_', '_', 't', 'i', 'n', 'i', '_', '_']) (o := ['t', 'c', 'e', 'j', 'b', 'o']) (by kernel_rfl) F.owner_object]; kernel_rfl
  | [a, b, c, d, e], _, _ => exact ok _ (by kernel_rfl) (by kernel_rfl) fun obj => by unfold argsOk; rw [signature?_of (id := "object.__init__") (n := ['_', '_', 't', 'i', 'n', 'i', '_', '_']) (o := ['t', 'c', 'e', 'j', 'b', 'o']) (by kernel_rfl) F.owner_object]; kernel_rfl
  | [a, b, c, d, e, f], _, _ => exact ok _ (by kernel_rfl) (by kernel_rfl) fun obj => by unfold argsOk; rw [signature?_of (id := "object.__init__") (n := ['_', '_', 't', 'i', 'n', 'i', '_', '_']) (o := ['t', 'c', 'e', 'j', 'b', 'o']) (by kernel_rfl) F.owner_object]; kernel_rfl
  | _ :: _ :: _ :: _ :: _ :: _ :: _ :: _, _, h6 => simp at h6
section
variable {prog : Program} {w : World} {A : Around} {E : Value → Shared → Prop} {s : Shared}
theorem call_n {ls : List Addr} {Q : Value → Shared → Prop} (h0 : 0 < ls.length) (h6 : ls.length ≤ 6) (hl : ∀ l ∈ ls, ∃ items : Array Value, s.heap.IsList l items)
    (hQ : ∀ h', Begun ls s.heap h' → Q (.ref (s.heap.objs.size + ls.length + 2)) { s with heap := h' }) : wpAny (model prog w) A (call (.type "zip") (ls.map Value.ref)) Q E s := by
  obtain ⟨f1, f2, f3⟩ := fits6 (ls.map Value.ref) (by rw [List.length_map]; exact h0) (by rw [List.length_map]; exact h6)
  refine callType_new F.called_zip (by decide) f1 f2 f3 F.entry_zip_new (new_n ls (by omega)) ⟨hl, fun h' B => ?_⟩
  exact ⟨⟨_, B.1, rfl⟩, hQ h' B⟩
end
/-! ### walked, the target a name -/
def ItzN (K : PySem.W.Frag) (as : List Addr) : It where
  go := fun i H => ∀ l ∈ as, ∃ (xs : List V) (x : V), SqL K H l xs ∧ xs[i]? = some x
  yld := fun i H v H' => ∃ (T : Addr) (vs : List V), v = .ref T ∧ H T = none ∧ H' = upd H T (.tup vs) ∧ vs.length = as.length ∧ ∀ (j : Nat) (l : Addr) (v : V), as[j]? = some l → vs[j]? = some v → ∀ xs : List V, SqL K H l xs → xs[i]? = some v
  stop := fun i H => ∀ l ∈ as, ∃ xs : List V, SqL K H l xs ∧ xs.length ≤ i
theorem firsts {X : Cx} {pins : List (Addr × Obj)} {σ : L2.St} {H : Hp} {s : Shared} (I : Inv X pins σ H s) (i : Nat) : ∀ as : List Addr, (∀ l ∈ as, ∃ (xs : List V) (x : V), SqL X.K H l xs ∧ xs[i]? = some x) → ∃ (vs : List V) (us : List Value), Vals vs us ∧ vs.length = as.length ∧
    (∀ (j : Nat) (l : Addr) (u : Value), as[j]? = some l → us[j]? = some u → ∃ items : Array Value, s.heap.IsList l items ∧ items[i]? = some u) ∧ ∀ (j : Nat) (l : Addr) (v : V), as[j]? = some l → vs[j]? = some v → ∀ xs : List V, SqL X.K H l xs → xs[i]? = some v
  | [], _ => ⟨[], [], .nil, rfl, fun j l u e => by simp at e, fun j l v e => by simp at e⟩
  | a :: as, h => by
    obtain ⟨vs, us, r, l1, h1, h2⟩ := firsts I i as fun l hl => h l (List.mem_cons_of_mem _ hl)
    obtain ⟨xs, x, hx, ex⟩ := h a List.mem_cons_self
    obtain ⟨its, rv, p, _⟩ := I.list hx
    obtain ⟨u, hu, ru⟩ := rv.get ex
    refine ⟨x :: vs, u :: us, .cons ru r, by rw [List.length_cons, List.length_cons, l1], fun j l u' e1 e2 => ?_, fun j l v e1 e2 => ?_⟩
    · cases j with
      | zero => cases e1; cases e2; exact ⟨_, p.isList, by simpa using hu⟩
      | succ j => exact h1 j l u' e1 e2
    · cases j with
      | zero => cases e1; cases e2; exact fun ys hy => by rw [I.list_inj hy hx]; exact ex
      | succ j => exact h2 j l v e1 e2
theorem turn_n {P : Program} {w : World} {K : PySem.W.Frag} {x : Str} {px : Pos} {as ins : List Addr} {z TI TO : Addr} (D : Sep z TI TO ins as) (h0 : 0 < ins.length) (hfit : ins.length ≤ 1000) :
    Turn P w K (.Name x px) (ItzN K as) (z :: TI :: TO :: ins) z (fun i h => (∃ f0 f1, ZipAt h z TI TO f0 f1 ∧ Lent f0 f1) ∧ TupAt h TI (ins.map Value.ref).toArray ∧ (∃ ys, TupAt h TO ys ∧ ys.size = ins.length) ∧ Turns h ins as i 0) := by
  have itr : ∀ {h : Heap} {i : Nat}, Turns h ins as i 0 → ∀ c ∈ ins, ∃ l, h.IsListIter c l i := fun {h i} T c hc => by
    obtain ⟨j, hj⟩ := List.mem_iff_getElem?.mp hc
    have lt : j < as.length := D.len ▸ (List.getElem?_eq_some_iff.mp hj).1
    have t := T j c as[j] hj (List.getElem?_eq_getElem lt)
    rw [if_neg (Nat.not_lt_zero _)] at t
    exact ⟨_, t⟩
  refine ⟨List.mem_cons_self, ?obj, ?keep, ?item, ?done, ?self⟩
  case obj =>
    rintro i h ⟨⟨f0, f1, hz, _⟩, hTI, ⟨ys, hTO, _⟩, T⟩ c hc
    rcases List.mem_cons.mp hc with rfl | hc
    · exact ⟨_, hz, fun v q => nomatch q⟩
    rcases List.mem_cons.mp hc with rfl | hc
    · exact ⟨_, hTI, fun v q => nomatch q⟩
    rcases List.mem_cons.mp hc with rfl | hc
    · exact ⟨_, hTO, fun v q => nomatch q⟩
    obtain ⟨l, o, e, _, d⟩ := itr T c hc
    exact ⟨o, e, fun v q => by rw [d] at q; cases q⟩
  case keep =>
    rintro i h h' ⟨⟨f0, f1, hz, hl⟩, hTI, ⟨ys, hTO, hy⟩, T⟩ k
    exact ⟨⟨f0, f1, k z (by simp) _ hz, hl⟩, k TI (by simp) _ hTI, ⟨ys, k TO (by simp) _ hTO, hy⟩, fun j it l e1 e2 => (T j it l e1 e2).at fun o q => k it (by simp [List.mem_of_getElem? e1]) o q⟩
  case self =>
    rintro A i s Q E ⟨⟨f0, f1, hz, _⟩, _⟩ h
    have hT : s.TypeIs (.ref z) "zip" := ⟨_, hz, rfl⟩
    refine wpAny_pyIter_slot hT F.slot_zip_iter (wpAny_call_entry F.slot_zip_iter hT F.entry_zip_iter ?_ (F.args_zip_iter_1 _))
    show wpAny _ _ (ret (.ref z)) _ _ s
    exact wpAny_pure ⟨_, rfl, "zip", _, hT, F.slot_zip_next.lookup, h⟩
  case done =>
    intro X hP hw hK hc i pins s σ H E I hf st hg
    subst hP hw hK
    obtain ⟨⟨f0, f1, hz, hl⟩, hTI, ⟨ys, hTO, hy⟩, T⟩ := st
    refine stop_n (I.ok.hd hc) D hz hl hTI hTO T h0 (fun l hl => ?_) fun h' k => ⟨rfl, I.turnedL (t' := s.toks) (ch := z :: TI :: TO :: ins) (fun c o hc q => k c o (fun e => hc (by simp [e])) (fun e => hc (by simp [e])) (fun e => hc (by simp [e])) q) hf⟩
    obtain ⟨xs, hx, hlen⟩ := hg l hl
    obtain ⟨its, rv, p, _⟩ := I.list hx
    have := rv.length
    exact ⟨_, p.isList, by simp; omega⟩
  case item =>
    intro X hP hw hK hc i pins s σ H E I hf st hg
    subst hP hw hK
    obtain ⟨⟨f0, f1, hz, hl⟩, hTI, ⟨ys, hTO, hy⟩, T⟩ := st
    obtain ⟨vs, us, r, l1, e1, e2⟩ := firsts I i as hg
    have l2 := r.length
    have hzl : z < s.heap.objs.size := Heap.lt_size hz
    refine next_n (xs := us) D hz hl hTI hTO hy T ⟨by omega, e1⟩ h0 hfit fun h' ⟨z', TO', T', at', sz, kp⟩ => ⟨_, rfl, ?_⟩
    have hd : ObjOk X.prog X.w (upd H s.heap.objs.size (.tup vs)) h' s.heap.objs.size (.tup vs) := ⟨by rw [sizeLine_eq, l1, ← D.len]; omega, us, r, _, at', rfl, _, rfl⟩
    have J : Inv X pins σ (upd H s.heap.objs.size (.tup vs)) { s with heap := h' } :=
      I.turnedNew (t' := s.toks) (ch := z :: TI :: TO :: ins) (fun c o hb q => kp c o (fun e => hb (by simp [e])) (fun e => hb (by simp [e])) (fun e => hb (by simp [e])) q) hf (Nat.le_refl _) hd
    have go : letOwnedTupleGo (.Name x px) (.ref z) (.ref s.heap.objs.size) = pure () := rfl
    rw [go]
    refine wpAny_pure ⟨.ref s.heap.objs.size, _, J, rfl, ⟨_, vs, rfl, I.hok.fresh (Nat.le_refl _), rfl, l1, e2⟩, ⟨z', ?_, TO', T'⟩, fun c hcm => ?_⟩
    · exact kp _ _ D.TIz D.TITO D.Ti hTI
    · have hlt : c < s.heap.objs.size := by
        rcases List.mem_cons.mp hcm with rfl | hc
        · exact hzl
        rcases List.mem_cons.mp hc with rfl | hc
        · exact Heap.lt_size hTI
        rcases List.mem_cons.mp hc with rfl | hc
        · exact Heap.lt_size hTO
        obtain ⟨l, o, e, _, _⟩ := itr T c hc
        exact Heap.lt_size e
      rw [upd_ne (Nat.ne_of_lt hlt)]
      exact (hf c hcm).1
def iZipS (K : PySem.W.Frag) (te : TE) : TI := fun σ H R => te σ H fun x H1 => ∃ (a : Addr) (as : List Addr), x = .ref a ∧ SqL K H1 a (as.map V.ref) ∧ 0 < as.length ∧ as.length ≤ 6 ∧ (∀ l ∈ as, ∃ xs : List V, SqL K H1 l xs) ∧ R (ItzN K as) H1
theorem refs_of : ∀ {as : List Addr} {us : List Value}, Vals (as.map V.ref) us → us = as.map Value.ref
  | [], _, .nil => rfl
  | _ :: as, _, .cons r t => by
    rw [refs_of t]
    cases r
    rfl
theorem pi_zipS {X : Cx} {x : Str} {px p p2 pos : Pos} {e : Expr} {te : TE} (hg : Gl X "zip") (hm : X.mg "zip" = none) (he : PE X e te) (hs : starEach [.Starred e p2] X.env = [(true, eval e X.env)] := by rfl) :
    PI X (.Name x px) (.Call (.Name "zip" p) [.Starred e p2] [] pos) (iZipS X.K te) := by
  refine ⟨fun pins s σ H R I h => Call_ (ld_blt I hg hm PyProof.Rows.boot_zip ?_)⟩
  rw [hs]
  refine PySem.W.ks_call (P := fun _ => True) rfl (fun h _ => ⟨.machine, .inr (.inl rfl), fun A Q E s k q => wpAny_pure q⟩) (PySem.W.ks_lone (thn (he.run pins s σ H _ I h) fun v s1 ⟨y, H1, I1, ry, a, as, ey, hx, h0, h6, hl, q⟩ => ?_))
  subst ey
  obtain rfl : v = Value.ref a := ry
  refine StX.star_lst I1 hx fun us s2 I2 rv => ⟨trivial, ?_⟩
  obtain rfl := refs_of rv
  have lst : ∀ l ∈ as, ∃ items : Array Value, s2.heap.IsList l items := fun l m => by
    obtain ⟨xs, hxs⟩ := hl l m
    obtain ⟨its, _, p, _⟩ := I2.list hxs
    exact ⟨_, p.isList⟩
  refine call_n h0 h6 lst fun h' ⟨z', ti, ⟨ys, to, sy⟩, T, kp⟩ => ?_
  have hT : ({ s2 with heap := h' } : Shared).TypeIs (.ref (s2.heap.objs.size + as.length + 2)) "zip" := ⟨_, z', rfl⟩
  refine wpAny_pyIter_slot hT F.slot_zip_iter (wpAny_call_entry F.slot_zip_iter hT F.entry_zip_iter ?_ (F.args_zip_iter_1 _))
  show wpAny _ _ (ret (.ref _)) _ _ _
  refine wpAny_pure ⟨_, rfl, "zip", _, hT, F.slot_zip_next.lookup, ?_⟩
  have small : ∀ l ∈ as, l < s2.heap.objs.size := fun l m => by
    obtain ⟨items, o, e, _⟩ := lst l m
    exact Heap.lt_size e
  have mem : ∀ c, c ∈ insOf s2.heap.objs.size as.length → ∃ j, j < as.length ∧ c = s2.heap.objs.size + j := fun c hc => by
    obtain ⟨j, hj, e⟩ := List.mem_map.mp hc
    exact ⟨j, List.mem_range.mp hj, e.symm⟩
  generalize hN : s2.heap.objs.size = N at *
  have D : Sep (N + as.length + 2) (N + as.length) (N + as.length + 1) (insOf N as.length) as := by
    have a1 : N + as.length ≠ N + as.length + 2 := Nat.ne_of_lt (by omega)
    have a2 : N + as.length + 1 ≠ N + as.length + 2 := Nat.ne_of_lt (by omega)
    have a3 : N + as.length ≠ N + as.length + 1 := Nat.ne_of_lt (by omega)
    have big : ∀ {c : Nat}, N + as.length ≤ c → (c : Addr) ∉ insOf N as.length := fun {c} h q => by
      obtain ⟨j, hj, e⟩ := mem c q
      have e : c = N + j := e
      omega
    refine ⟨insOf_len _ _, a1, a2, a3, big (by omega), big (by omega), big (by omega), ?_, fun l m => ⟨?_, ?_, fun q => ?_⟩⟩
    · unfold insOf
      exact List.pairwise_map.mpr (List.Pairwise.imp (fun {x y} (h : x ≠ y) (q : N + x = N + y) => h (Nat.add_left_cancel q)) List.nodup_range)
    · have h1 : @LT.lt Nat _ l N := small l m
      exact Nat.ne_of_lt (Nat.lt_of_lt_of_le h1 (Nat.le_trans (Nat.le_add_right N as.length) (Nat.le_add_right _ 2)))
    · have h1 : @LT.lt Nat _ l N := small l m
      exact Nat.ne_of_lt (Nat.lt_of_lt_of_le h1 (Nat.le_trans (Nat.le_add_right N as.length) (Nat.le_add_right _ 1)))
    · obtain ⟨j, hj, e⟩ := mem l q
      have h1 : @LT.lt Nat _ l N := small l m
      rw [e] at h1
      exact absurd (Nat.lt_of_lt_of_le h1 (Nat.le_add_right N j)) (Nat.lt_irrefl _)
  have I3 : Inv X pins σ H1 { s2 with heap := h' } := I2.kept (t' := s2.toks) kp
  have le : ∀ c ∈ (N + as.length + 2) :: (N + as.length) :: (N + as.length + 1) :: insOf N as.length, N ≤ c := fun c hc => by
    rcases List.mem_cons.mp hc with rfl | hc
    · show N ≤ N + as.length + 2
      omega
    rcases List.mem_cons.mp hc with rfl | hc
    · show N ≤ N + as.length
      omega
    rcases List.mem_cons.mp hc with rfl | hc
    · show N ≤ N + as.length + 1
      omega
    obtain ⟨j, hj, rfl⟩ := mem c hc
    show N ≤ N + j
    omega
  refine ⟨_, (N + as.length + 2) :: (N + as.length) :: (N + as.length + 1) :: insOf N as.length, _, _, H1, rfl, I3, turn_n D (by rw [insOf_len]; exact h0) (by rw [insOf_len]; omega), ⟨⟨_, _, z', .inl rfl, _, rfl⟩, ti, ⟨ys, to, by rw [insOf_len]; exact sy⟩, T⟩, fun c hcm => ?_, q⟩
  have hle := le c hcm
  rw [← hN] at hle
  have z := I2.fpOk (H' := H1) hle (I2.hok.fresh hle)
  exact z
theorem walk_n {K : PySem.W.Frag} {as : List Addr} {xss : List (List V)} {n : Nat} (hl : ∀ xs ∈ xss, xs.length = n) : Walk (ItzN K as) n (fun H => Paired (fun l xs => SqL K H l xs) as xss) (fun i H v H' => ∃ T : Addr, v = .ref T ∧ H T = none ∧ H' = upd H T (.tup (xss.map fun xs => xs.getD i .non))) := by
  have at' : ∀ {as : List Addr} {xss : List (List V)} {H : Hp}, Paired (fun l xs => SqL K H l xs) as xss → ∀ l ∈ as, ∃ xs ∈ xss, SqL K H l xs := by
    intro as xss H h
    induction h with
    | nil => intro l h; cases h
    | cons r t ih =>
      intro l h
      rcases List.mem_cons.mp h with rfl | h
      · exact ⟨_, List.mem_cons_self, r⟩
      · obtain ⟨xs, h1, h2⟩ := ih l h
        exact ⟨xs, List.mem_cons_of_mem _ h1, h2⟩
  refine ⟨fun i H hi h l hm => ?_, fun H h l hm => ?_, fun i H v H' hi h ⟨T, vs, e1, e2, e3, e4, e5⟩ => ⟨T, e1, e2, ?_⟩⟩
  · obtain ⟨xs, h1, h2⟩ := at' h l hm
    exact ⟨xs, xs[i]'(by rw [hl xs h1]; exact hi), h2, List.getElem?_eq_getElem _⟩
  · obtain ⟨xs, h1, h2⟩ := at' h l hm
    exact ⟨xs, h2, by rw [hl xs h1]; exact Nat.le_refl _⟩
  · rw [e3]
    have : vs = xss.map fun xs => xs.getD i .non := by
      have lx : as.length = xss.length := h.length
      refine List.ext_getElem? fun j => ?_
      rw [List.getElem?_map]
      by_cases hj : j < vs.length
      · have h1 : j < as.length := by omega
        have h2 : j < xss.length := by omega
        have ea := List.getElem?_eq_getElem h1
        have ex := List.getElem?_eq_getElem h2
        have sq : SqL K H as[j] xss[j] := by
          have gen : ∀ {as : List Addr} {xss : List (List V)} (j : Nat) (a : Addr) (x : List V), Paired (fun l xs => SqL K H l xs) as xss → as[j]? = some a → xss[j]? = some x → SqL K H a x := by
            intro as xss j a x h
            induction h generalizing j with
            | nil => intro h; simp at h
            | cons r t ih =>
              intro h1 h2
              cases j with
              | zero => cases h1; cases h2; exact r
              | succ j => exact ih j h1 h2
          exact gen j _ _ h ea ex
        have := e5 j _ _ ea (List.getElem?_eq_getElem hj) _ sq
        rw [List.getElem?_eq_getElem hj, ex]
        show _ = some (xss[j].getD i .non)
        rw [List.getD_eq_getElem?_getD, this]
        rfl
      · rw [List.getElem?_eq_none (by omega), List.getElem?_eq_none (by omega)]
        rfl
    rw [this]
end ZN
namespace SK
open PySem PySem.Spec PyProof.Rows L2
/-! ### zip of a list and of a list or a tuple, both names -/
def iZipV (K : PySem.W.Frag) (i j : Nat) : TI := fun σ H R => ∃ (a b : Addr) (xs ys : List V), σ[i]? = some (some (.ref a)) ∧ σ[j]? = some (some (.ref b)) ∧ SqL K H a xs ∧ ((SqL K H b ys ∧ R (Itz K a b) H) ∨ (SqT K H b ys ∧ R (ItzM K a b) H))
theorem pi_zipV {X : Cx} {i j : Nat} {e e2 : Expr} {p pos tpos : Pos} {elts : List Expr} {kk : Nat} (hg : Gl X "zip") (hm : X.mg "zip" = none) (h1 : PE X e (tVar i)) (h2 : PE X e2 (tVar j))
    (hs : starEach [e, e2] X.env = (false, eval e X.env) :: starEach [e2] X.env := by rfl) (hs2 : starEach [e2] X.env = (false, eval e2 X.env) :: starEach [] X.env := by rfl) (hpl : (backTo pos (starEach [e2] X.env)).any (·.1) = false := by rfl) : PI X (.Tuple elts kk tpos) (.Call (.Name "zip" p) [e, e2] [] pos) (iZipV X.K i j) := by
  have ha : PA X [e, e2] (tCons (tVar i) (tCons (tVar j) tNil)) := pa_cons h1 (pa_cons h2 pa_nil hs2) hs
  refine ⟨fun pins s σ H R I ⟨a, b, xs, ys, ei, ej, hx, q⟩ => ?_⟩
  rcases q with ⟨hy, q⟩ | ⟨hy, q⟩
  · exact (pi_zip hg hm ha hs hpl).run pins s σ H R I ⟨_, ei, _, ej, a, b, xs, ys, rfl, hx, hy, q⟩
  · exact (pi_zipM hg hm ha hs hpl).run pins s σ H R I ⟨_, ei, _, ej, a, b, xs, ys, rfl, hx, hy, q⟩
def lcScope : Expr → Scope → Scope
  | .ListComp _ _ sc _, _ => sc
  | _, sc => sc
def retOf : Stmt → Expr
  | .Return (some e) _ => e
  | .Assign _ e _ => e
  | _ => .Name "x" ⟨0, 0, 0, 0⟩
def RwsI (H : Hp) (rs : List Addr) (A : List (List Int)) : Prop := Paired (fun a r => H a = some (.lst (r.map V.int))) rs A
theorem RwsI.same {H H' : Hp} {rs : List Addr} {A : List (List Int)} (s : Same H H') (h : RwsI H rs A) : RwsI H' rs A := Paired.mono (fun a w e => s _ _ e) h
theorem sum_zip : ∀ (r v : List Int), (List.zipWith (fun x y => x * y) r v).sum = dotI r v
  | [], v => by simp [dotI]
  | _ :: _, [] => rfl
  | a :: r, b :: v => by
    show a * b + (List.zipWith (fun x y => x * y) r v).sum = a * b + dotI r v
    rw [sum_zip r v]
def Small (A : List (List Int)) : Prop := ∀ r ∈ A, ∀ x ∈ r, -(2 ^ 64) < x ∧ x < 2 ^ 64
def spSumsBy (K : PySem.W.Frag) : Sp := fun vs H Q _ => ∃ (rl vl : Addr) (rs : List Addr) (A : List (List Int)) (v : List Int) (m : Int), vs = [.ref rl, .ref vl, .int m] ∧ H rl = some (.lst (rs.map V.ref)) ∧ RwsI H rs A ∧ Sq K H vl (v.map V.int) ∧ (∀ r ∈ A, r.length = v.length) ∧
  A.length ≤ 100 ∧ v.length ≤ 100 ∧ Small A ∧ 0 < m ∧ New (.lst ((md m (apL A v)).map V.int)) H Q
/-- the products of a row and the values -/
theorem prod_lc {J : It} {G : Hp → Prop} {r v : List Int} {σ : L2.St} {H : Hp} {D : Addr} {Q : Hp → Prop} {K : PySem.W.Frag} (w : Walk J r.length G (YPair (fun i => (r.map V.int)[i]?) (fun i => (v.map V.int)[i]?))) (hl : r.length = v.length) (hsm : ∀ x ∈ r, -(2 ^ 64) < x ∧ x < 2 ^ 64) (few : r.length ≤ 100) (nD : H D = none) (hG : ∀ H', Same H H' → G H')
    (l5 : σ.length = 6) (q : ∀ H', Same H H' → H' D = some (.lst ((List.zipWith (fun x y => x * y) r v).map V.int)) → Q H') :
    ∃ W : Nat → Nat → Hp → Prop, (∃ m, W 0 m (upd H D (.lst []))) ∧ ∀ i m H, W i m H →
      (J.stop i H ∧ Q H) ∨ (J.go i H ∧ ∃ Nx : Hp → Prop, (∀ H', Nx H' → ∃ m', m' < m ∧ W (i + 1) m' H') ∧ ∀ x H', J.yld i H x H' → gTup K 2 (gCons (gName 3) (gCons (gName 4) gNil)) x (wipe σ [3, 4]) H' fun σ2 H2 => wipe σ2 [3, 4] = wipe σ [3, 4] ∧ tYes σ2 H2 fun b H3 =>
        if b = true then tOp (rI (fun i j => (-(2 ^ 64) < i ∧ i < 2 ^ 64) ∨ (-(2 ^ 64) < j ∧ j < 2 ^ 64)) fun i j => .int (i * j)) (tVar 3) (tVar 4) σ2 H3 fun y H4 => ∃ acc, H4 D = some (.lst acc) ∧ acc.length < sizeLine ∧ Nx (upd H4 D (.lst (acc ++ [y]))) else Nx H3) := by
  have lz : (List.zipWith (fun x y => x * y) r v).length = r.length := by rw [List.length_zipWith, hl, Nat.min_self]
  refine lc_it w (fun i H' => Same H H' ∧ H' D = some (.lst (((List.zipWith (fun x y => x * y) r v).take i).map V.int))) ⟨same_upd nD, upd_same⟩ (fun i H' _ h => hG H' h.1) ?_ ?_
  · rintro i x H1 H2 hi ⟨S1, hD⟩ ⟨T, x1, x2, rfl, nT, rfl, g1, g2⟩
    have g1 : (r.map V.int)[i]? = some x1 := g1
    have g2 : (v.map V.int)[i]? = some x2 := g2
    rw [List.getElem?_map, List.getElem?_eq_getElem hi] at g1
    rw [List.getElem?_map, List.getElem?_eq_getElem (hl ▸ hi)] at g2
    cases g1
    cases g2
    have S2 := S1.trans (same_upd (o := .tup [V.int r[i], V.int (v[i]'(hl ▸ hi))]) nT)
    have hD2 : (upd H1 T (.tup [V.int r[i], V.int (v[i]'(hl ▸ hi))])) D = _ := same_upd nT _ _ hD
    refine ⟨T, _, rfl, SqT.of upd_same, rfl, _, _, rfl, _, _, rfl, rfl, ?_⟩
    generalize upd H1 T (.tup [V.int r[i], V.int (v[i]'(hl ▸ hi))]) = H2 at S2 hD2 ⊢
    match σ, l5 with
    | [s0, s1, s2, s3, s4, s5], _ =>
      refine ⟨rfl, _, rfl, _, rfl, _, _, rfl, rfl, .inl (hsm _ (List.getElem_mem hi)), _, hD2, ?_, sPut S2 nD, ?_⟩
      · rw [List.length_map, List.length_take, sizeLine_eq]; omega
      · rw [upd_same, List.take_succ, List.map_append, List.getElem?_zipWith, List.getElem?_eq_getElem hi, List.getElem?_eq_getElem (hl ▸ hi)]
        rfl
  · rintro H1 ⟨S1, hD⟩
    rw [← lz, List.take_length] at hD
    exact q H1 S1 hD
section
variable {P : Program} {w : World} {K : PySem.W.Frag} {mg : Str → Option Value} {base : Heap}
abbrev tDotI (K : PySem.W.Frag) : TE := tOp (rI (fun _ j => 0 < j) fun i j => .int (i % j)) (tCB (rSum K) (tCons (tLc (iZipV K 5 1) (gTup K 2 (gCons (gName 3) (gCons (gName 4) gNil))) tYes (tOp (rI (fun i j => (-(2 ^ 64) < i ∧ i < 2 ^ 64) ∨ (-(2 ^ 64) < j ∧ j < 2 ^ 64)) fun i j => .int (i * j)) (tVar 3) (tVar 4)) [3, 4]) tNil)) (tVar 2)
theorem ok_sumsby {f : Addr} {fd : FuncData} {k : Nat} (F : Fun K "sums_by_rows" "sums_by_rows" s_sums_by_rows f fd) (mZ : mg "zip" = none) (mS : mg "sum" = none) : FnOk P w K mg base CX0 (k + 1) f fd ["rows", "values", "modulus"] (spSumsBy K) := by
  refine F.ok sc_sums_by_rows (fun vs H Q E h => ?_) (fun cdv A outer s H vs Q E hr h => ?_)
  · obtain ⟨rl, vl, rs, A, v, m, rfl, _⟩ := h
    rfl
  · obtain ⟨rl, vl, rs, A, v, m, rfl, hrl, hR, hv, hlen, hA, hvl, hsm, hm, q⟩ := h
    have nd := sc_sums_by_rows.nd
    refine ⟨_, pss_one (ps_ret (pe_lc (own := [("row", 5)]) (g := gName 5) (tt := tYes) (te := tDotI K) rfl nd (pi_list (pv 0)) (blkOk_by (N := n_sums_by_rows) (sc := defScope s_sums_by_rows) (by decide +kernel))
        (fun _ _ _ _ _ => pg_name (i := 5) nd rfl (Or.inl rfl)) (fun _ _ _ _ _ => pts_nil) (fun _ _ _ _ _ => pmod (pe_callB (cr_sum rfl) (by rfl) mS (by decide +kernel) (pa_cons (pe_lc (own := [("times", 3), ("value", 4)]) (g := gTup K 2 (gCons (gName 3) (gCons (gName 4) gNil))) (tt := tYes) (te := tOp (rI (fun i j => (-(2 ^ 64) < i ∧ i < 2 ^ 64) ∨ (-(2 ^ 64) < j ∧ j < 2 ^ 64)) fun i j => .int (i * j)) (tVar 3) (tVar 4)) rfl nd (pi_zipV (by rfl) mZ (pv 5) (pv 1))
            (blkOk_by (N := n_sums_by_rows) (sc := relS (lcScope (retOf ((defBody s_sums_by_rows).getD 0 s_sums_by_rows)) (defScope s_sums_by_rows)) (defScope s_sums_by_rows)) (by decide +kernel))
            (fun _ _ _ _ _ => pg_tup (by rfl) (pgs_cons (pg_name (i := 3) nd rfl (.inl rfl)) (pgs_cons (pg_name (i := 4) nd rfl (.inl rfl)) pgs_nil))) (fun _ _ _ _ _ => pts_nil) (fun _ _ _ _ _ => pe_op op_mul (pv 3) (pv 4))) pa_nil) (by decide) (by decide)) (pv 2)))), ?_⟩
    have lR := hR.length
    refine ⟨_, rfl, rl, rfl, ⟨_, SqL.of hrl⟩, fun D nD => ?_⟩
    refine lc_list (K := K) (a := rl) (xs := rs.map V.ref) (fun i H' => Same H H' ∧ H' D = some (.lst ((md m (apL (A.take i) v)).map V.int))) ⟨same_upd nD, upd_same⟩ (fun i H' _ h => SqL.of (h.1 _ _ hrl)) ?_ ?_
    · rintro i x H1 hx ⟨S1, hD⟩
      have hi : i < A.length := by have := (List.getElem?_eq_some_iff.mp hx).1; rw [List.length_map] at this; omega
      have hAi := List.getElem?_eq_getElem hi
      generalize A[i] = r at hAi
      have hrm := List.mem_of_getElem? hAi
      obtain ⟨ra, era, hra⟩ := paired_get hR hAi
      rw [List.getElem?_map, era] at hx
      cases hx
      have hra1 := S1 _ _ hra
      have hv1 := hv.same S1
      have lr := hlen r hrm
      refine ⟨rfl, ra, vl, r.map V.int, v.map V.int, rfl, rfl, SqL.of hra1, ?_⟩
      rcases hv1 with hv1 | hv1
      · refine .inl ⟨hv1, fun D2 nD2 => ?_⟩
        refine prod_lc (walk_zip (K := K) (a := ra) (b := vl) (xs := r.map V.int) (ys := v.map V.int) (n := r.length) (by rw [List.length_map, List.length_map, lr, Nat.min_self])) lr (fun x hx => hsm r hrm x hx) (by omega) nD2 (fun H' S => ⟨SqL.of (S _ _ hra1), S.seq hv1⟩) rfl fun H2 S2 h2 => ?_
        refine ⟨D2, _, rfl, SqL.of h2, _, rfl, _, _, rfl, rfl, hm, _, S2 _ _ hD, ?_, sPut (S1.trans S2) nD, ?_⟩
        · rw [List.length_map, md_len, ap_len, List.length_take, sizeLine_eq]; omega
        · rw [upd_same, sum_zip, take_more hAi]
          unfold apL md
          rw [List.map_append, List.map_append, List.map_append]
          rfl
      · refine .inr ⟨hv1, fun D2 nD2 => ?_⟩
        have wz := walk_zipM (K := K) (a := ra) (b := vl) (xs := r.map V.int) (ys := v.map V.int) (by rw [List.length_map, List.length_map, lr])
        rw [List.length_map] at wz
        refine prod_lc wz lr (fun x hx => hsm r hrm x hx) (by omega) nD2 (fun H' S => ⟨SqL.of (S _ _ hra1), sTup S hv1⟩) rfl fun H2 S2 h2 => ?_
        refine ⟨D2, _, rfl, SqL.of h2, _, rfl, _, _, rfl, rfl, hm, _, S2 _ _ hD, ?_, sPut (S1.trans S2) nD, ?_⟩
        · rw [List.length_map, md_len, ap_len, List.length_take, sizeLine_eq]; omega
        · rw [upd_same, sum_zip, take_more hAi]
          unfold apL md
          rw [List.map_append, List.map_append, List.map_append]
          rfl
    · rintro H1 ⟨S1, hD⟩
      rw [List.length_map, lR, List.take_length] at hD
      exact q H1 D S1 nD hD
end
end SK
namespace SK
open PySem PySem.Spec PyProof.Rows L2
/-- rows that are not the list at D -/
def RwsN (H : Hp) (D : Addr) (rs : List Addr) (A : List (List Int)) : Prop := Paired (fun a r => a ≠ D ∧ H a = some (.lst (r.map V.int))) rs A
theorem RwsN.rows {H : Hp} {D : Addr} {rs : List Addr} {A : List (List Int)} (h : RwsN H D rs A) : RwsI H rs A := Paired.mono (fun a w e => e.2) h
theorem RwsN.same {H H' : Hp} {D : Addr} {rs : List Addr} {A : List (List Int)} (s : Same H H') (h : RwsN H D rs A) : RwsN H' D rs A := Paired.mono (fun a w e => ⟨e.1, s _ _ e.2⟩) h
theorem RwsN.put {H : Hp} {D : Addr} {o : HO} {rs : List Addr} {A : List (List Int)} (h : RwsN H D rs A) : RwsN (upd H D o) D rs A := Paired.mono (fun a w e => ⟨e.1, by rw [upd_ne e.1]; exact e.2⟩) h
theorem RwsI.sq {K : PySem.W.Frag} {H : Hp} : ∀ {rs : List Addr} {A : List (List Int)}, RwsI H rs A → Paired (fun l xs => SqL K H l xs) rs (A.map fun r => r.map V.int)
  | _, _, .nil => .nil
  | _, _, .cons r t => .cons (SqL.of r) (RwsI.sq t)
theorem col_v (A : List (List Int)) (n : Nat) (h : ∀ a ∈ A, a.length = n) {i : Nat} (hi : i < n) : (A.map fun r => r.map V.int).map (fun xs => xs.getD i .non) = (col A i).map V.int := by
  unfold col
  rw [List.map_map, List.map_map]
  refine List.map_congr_left fun a ha => ?_
  show (a.map V.int).getD i .non = V.int (a.getD i 0)
  rw [List.getD_eq_getElem?_getD, List.getD_eq_getElem?_getD, List.getElem?_map, List.getElem?_eq_getElem (by rw [h a ha]; exact hi)]
  rfl
def spTwo (K : PySem.W.Frag) : Sp := fun vs H Q _ => ∃ (rl : Addr) (rs : List Addr) (A : List (List Int)) (m : Int), vs = [.ref rl, .int m] ∧ H rl = some (.lst (rs.map V.ref)) ∧ RwsI H rs A ∧ (∀ r ∈ A, r.length = A.length) ∧ 0 < A.length ∧ A.length ≤ 6 ∧ Small A ∧ 0 < m ∧
  ∀ (H' : Hp) (p : Addr) (ts : List Addr), Same H H' → H p = none → H' p = some (.lst (ts.map V.ref)) → RwsI H' ts (sqM m A.length A) → Q (.ref p) H'
def spValues (K : PySem.W.Frag) : Sp := fun vs H Q _ => ∃ (rl vl : Addr) (rs : List Addr) (A : List (List Int)) (v : List Int) (age : Nat) (m : Int), vs = [.ref rl, .ref vl, .int age, .int m] ∧ H rl = some (.lst (rs.map V.ref)) ∧ RwsI H rs A ∧ H vl = some (.lst (v.map V.int)) ∧ (∀ r ∈ A, r.length = A.length) ∧ v.length = A.length ∧
  0 < A.length ∧ A.length ≤ 6 ∧ Small A ∧ 0 < m ∧ m < 2 ^ 64 ∧ ∀ (H' : Hp) (p : Addr) (u : List Int), Same H H' → H' p = some (.lst (u.map V.int)) → u.length = A.length → md m u = md m (itL A age v) → Q (.ref p) H'
section
variable {P : Program} {w : World} {K : PySem.W.Frag} {mg : Str → Option Value} {base : Heap}
theorem ok_two {f : Addr} {fd : FuncData} {k : Nat} (F : Fun K "two_steps" "two_steps" s_two_steps f fd) (GS : Got P w K mg base "sums_by_rows" k ["rows", "values", "modulus"] (spSumsBy K)) (mZ : mg "zip" = none) (mL : mg "list" = none) : FnOk P w K mg base CX0 (k + 1) f fd ["rows", "modulus"] (spTwo K) := by
  refine F.ok sc_two_steps (fun vs H Q E h => ?_) (fun cdv A outer s H vs Q E hr h => ?_)
  · obtain ⟨rl, rs, A, m, rfl, _⟩ := h
    rfl
  · obtain ⟨rl, rs, A, m, rfl, hrl, hR, hsq, h0, h6, hsm, hm, q⟩ := h
    have nd := sc_two_steps.nd
    refine ⟨_, pss_cons (ps_setLc (i := 2) (own := [("column", 3)]) (g := gName 3) (tt := tYes) (te := tCall (spSumsBy K) [] E0 (tCons (tVar 0) (tCons (tVar 3) (tCons (tVar 1) tNil)))) rfl nd rfl rfl (sw_true rfl rfl rfl (by decide +kernel)) (ZN.pi_zipS (by rfl) mZ (pv 0)) (blkOk_by (N := n_two_steps) (sc := defScope s_two_steps) (by decide +kernel))
        (fun _ _ _ _ _ => pg_name (i := 3) nd rfl (Or.inl rfl)) (fun _ _ _ _ _ => pts_nil) (fun _ _ _ _ _ => pcall GS hr (pa_cons (pv 0) (pa_cons (pv 3) (pa_cons (pv 1) pa_nil)))))
      (pss_one (ps_ret (pe_lc (own := [("row", 4)]) (g := gName 4) (tt := tYes) (te := tCB (rListN K) (tCons (tVar 4) tNil)) rfl nd (ZN.pi_zipS (by rfl) mZ (pv 2)) (blkOk_by (N := n_two_steps) (sc := defScope s_two_steps) (by decide +kernel))
        (fun _ _ _ _ _ => pg_name (i := 4) nd rfl (Or.inl rfl)) (fun _ _ _ _ _ => pts_nil) (fun _ _ _ _ _ => plistN mL (pv 4))))), ?_⟩
    have lR := hR.length
    have hmm : ∀ {H : Hp} {rs : List Addr} {A : List (List Int)}, RwsI H rs A → ∀ l ∈ rs, ∃ xs : List V, SqL K H l xs := by
      intro H rs A h
      induction h with
      | nil => intro l h; cases h
      | cons r t ih =>
        intro l h
        rcases List.mem_cons.mp h with rfl | h
        · exact ⟨_, SqL.of r⟩
        · exact ih l h
    refine ⟨_, rfl, rl, rs, rfl, SqL.of hrl, by omega, by omega, hmm hR, fun D nD => ?_⟩
    refine lc_it (ZN.walk_n (K := K) (as := rs) (xss := A.map fun r => r.map V.int) (n := A.length) (fun xs hx => by obtain ⟨r, hr, rfl⟩ := List.mem_map.mp hx; rw [List.length_map]; exact hsq r hr)) (fun i H' => Same H H' ∧ ∃ cs : List Addr, H' D = some (.lst (cs.map V.ref)) ∧ RwsN H' D cs ((List.range i).map fun j => md m (apL A (col A j)))) ⟨same_upd nD, [], upd_same, .nil⟩ (fun i H' _ h => (hR.same h.1).sq) ?_ ?_
    · rintro i x H1 H2 hi ⟨S1, cs, hD, hC⟩ ⟨T, rfl, nT, rfl⟩
      rw [col_v A A.length hsq hi]
      have S2 := S1.trans (same_upd (o := .tup ((col A i).map V.int)) nT)
      have hT : (upd H1 T (.tup ((col A i).map V.int))) T = _ := upd_same
      have hD2 := same_upd (o := .tup ((col A i).map V.int)) nT _ _ hD
      have hC2 := hC.same (same_upd (o := .tup ((col A i).map V.int)) nT)
      generalize upd H1 T (.tup ((col A i).map V.int)) = H2 at S2 hT hD2 hC2 ⊢
      have lC := hC.length
      rw [List.length_map, List.length_range] at lC
      have lcol : (col A i).length = A.length := List.length_map _
      refine ⟨rfl, _, rfl, _, rfl, _, rfl, rl, T, rs, A, col A i, m, rfl, S2 _ _ hrl, hR.same S2, .inr (SqT.of hT), fun r hr => by rw [lcol]; exact hsq r hr, by omega, by omega, hsm, hm, fun H3 p S3 n3 h3 => ?_⟩
      have np : p ≠ D := (ne_of_none hD2 n3).symm
      refine ⟨_, S3 _ _ hD2, ?_, sPut (S2.trans S3) nD, cs ++ [p], by rw [upd_same, List.map_append]; rfl, ?_⟩
      · rw [List.length_map, sizeLine_eq]; omega
      · rw [List.range_succ, List.map_append]
        exact RwsN.put (Paired.snoc (hC2.same S3) ⟨np, h3⟩)
    · rintro H1 ⟨S1, cs, hD, hC⟩
      have hCr := hC.rows
      have lC := hC.length
      rw [List.length_map, List.length_range] at lC
      have lrow : ∀ xs ∈ (((List.range A.length).map fun j => md m (apL A (col A j))).map fun r => r.map V.int), xs.length = A.length := fun xs hx => by
        obtain ⟨r, hr, rfl⟩ := List.mem_map.mp hx
        obtain ⟨j, _, rfl⟩ := List.mem_map.mp hr
        rw [List.length_map, md_len, ap_len]
      refine ⟨_, rfl, D, cs, rfl, SqL.of hD, by omega, by omega, hmm hCr, fun D2 nD2 => ?_⟩
      refine lc_it (ZN.walk_n (K := K) (as := cs) (n := A.length) lrow) (fun i H' => Same H1 H' ∧ ∃ ts : List Addr, H' D2 = some (.lst (ts.map V.ref)) ∧ RwsN H' D2 ts ((sqM m A.length A).take i)) ⟨same_upd nD2, [], upd_same, .nil⟩ (fun i H' _ h => (hCr.same h.1).sq) ?_ ?_
      · rintro i x H2 H3 hi ⟨S2, ts, hD2, hT⟩ ⟨T, rfl, nT, rfl⟩
        have lT := hT.length
        have lsq : (sqM m A.length A).length = A.length := List.length_map _
        rw [List.length_take, lsq] at lT
        rw [col_v _ A.length (fun a ha => by obtain ⟨j, _, rfl⟩ := List.mem_map.mp ha; rw [md_len, ap_len]) hi]
        have e : col ((List.range A.length).map fun j => md m (apL A (col A j))) i = (sqM m A.length A)[i]'(by rw [lsq]; exact hi) := by
          unfold col sqM
          rw [List.map_map, List.getElem_map]
          refine List.map_congr_left fun j hj => ?_
          show (md m (apL A (col A j))).getD i 0 = _
          unfold md apL
          rw [List.getD_eq_getElem?_getD, List.getElem?_map, List.getElem?_map, List.getElem?_eq_getElem hi]
          rfl
        have ge : (sqM m A.length A)[i]? = some (col ((List.range A.length).map fun j => md m (apL A (col A j))) i) := by rw [e]; exact List.getElem?_eq_getElem _
        generalize col ((List.range A.length).map fun j => md m (apL A (col A j))) i = row at ge ⊢
        have S3 := S2.trans (same_upd (o := .tup (row.map V.int)) nT)
        have hTT : (upd H2 T (.tup (row.map V.int))) T = _ := upd_same
        have hD3 := same_upd (o := .tup (row.map V.int)) nT _ _ hD2
        have hT3 := hT.same (same_upd (o := .tup (row.map V.int)) nT)
        generalize upd H2 T (.tup (row.map V.int)) = H3 at S3 hTT hD3 hT3 ⊢
        refine ⟨rfl, _, rfl, T, _, rfl, .inr (SqT.of hTT), fun H4 p S4 n4 h4 => ?_⟩
        have np : p ≠ D2 := (ne_of_none hD3 n4).symm
        refine ⟨_, S4 _ _ hD3, ?_, sPut (S3.trans S4) nD2, ts ++ [p], by rw [upd_same, List.map_append]; rfl, ?_⟩
        · rw [List.length_map, sizeLine_eq]; omega
        · rw [take_more ge]
          exact RwsN.put (Paired.snoc (hT3.same S4) ⟨np, h4⟩)
      · rintro H2 ⟨S2, ts, hD2, hT⟩
        have lsq : (sqM m A.length A).length = A.length := List.length_map _
        rw [List.take_of_length_le (by rw [lsq]; exact Nat.le_refl _)] at hT
        exact q H2 D2 ts (S1.trans S2) (S1.free nD2) hD2 hT.rows
theorem small_sq {m : Int} (h0 : 0 < m) (h : m < 2 ^ 64) (n : Nat) (A : List (List Int)) : Small (sqM m n A) := fun r hr x hx => by
  obtain ⟨a, _, rfl⟩ := List.mem_map.mp hr
  obtain ⟨j, _, rfl⟩ := List.mem_map.mp hx
  have h1 := Int.emod_nonneg (dotI a (col A j)) (show m ≠ 0 by omega)
  have h2 := Int.emod_lt_of_pos (dotI a (col A j)) h0
  exact ⟨by omega, by omega⟩
theorem two_pos' : (0 : Int) < 2 := by decide
theorem ok_values {f : Addr} {fd : FuncData} {k : Nat} (F : Fun K "values_at" "values_at" s_values_at f fd) (GS : Got P w K mg base "sums_by_rows" k ["rows", "values", "modulus"] (spSumsBy K)) (GT : Got P w K mg base "two_steps" k ["rows", "modulus"] (spTwo K)) : FnOk P w K mg base CX0 (k + 1) f fd ["rows", "values", "age", "modulus"] (spValues K) := by
  refine F.ok sc_values_at (fun vs H Q E h => ?_) (fun cdv A outer s H vs Q E hr h => ?_)
  · obtain ⟨rl, vl, rs, A, v, age, m, rfl, _⟩ := h
    rfl
  · obtain ⟨rl, vl, rs, A, v, age, m, rfl, hrl, hR, hv, hsq, hvl, h0, h6, hsm, hm, hm64, q⟩ := h
    have nd := sc_values_at.nd
    refine ⟨_, pss_cons (ps_set (i := 4) nd rfl (.inl rfl) (pv 2))
      (pss_cons (ps_while PassesOwn.never (pt_cmpR op_gt (pv 4) pe_int (nomark _))
        (pss_cons (ps_if (pt_cmpR op_eq (pmod (pv 4) pe_int) pe_int (nomark _)) (pss_one (ps_set (i := 1) nd rfl (.inl rfl) (pcall GS hr (pa_cons (pv 0) (pa_cons (pv 1) (pa_cons (pv 3) pa_nil)))))) pss_nil)
        (pss_cons (ps_set (i := 0) nd rfl (.inl rfl) (pcall GT hr (pa_cons (pv 0) (pa_cons (pv 3) pa_nil))))
        (pss_one (ps_aug (i := 4) nd rfl (.inl rfl) pe_int iop_fdiv)))))
      (pss_one (ps_ret (pv 1)))), ?_⟩
    refine ⟨_, rfl, fun t σ H' => ∃ (rl' vl' : Addr) (rs' : List Addr) (B : List (List Int)) (u : List Int), σ = [some (.ref rl'), some (.ref vl'), some (.int age), some (.int m), some (.int (t : Int))] ∧ Same H H' ∧ H' rl' = some (.lst (rs'.map V.ref)) ∧ RwsI H' rs' B ∧ H' vl' = some (.lst (u.map V.int)) ∧
      B.length = A.length ∧ (∀ r ∈ B, r.length = B.length) ∧ u.length = A.length ∧ Small B ∧ md m (itL B t u) = md m (itL A age v), ⟨age, rl, vl, rs, A, v, rfl, Same.refl _, hrl, hR, hv, rfl, hsq, hvl, hsm, rfl⟩, ?_⟩
    rintro t σ H1 ⟨rl', vl', rs', B, u, rfl, S1, hrl', hR', hv', eB, hsqB, hu, hsB, hmd⟩
    refine ⟨_, rfl, _, _, rfl, rfl, _, rfl, ite2 (fun hlt => ?_) (fun hlt => ?_)⟩
    · have ht : 0 < t := by
        have := of_decide_eq_true hlt
        omega
      refine ⟨_, fun σ' H' h => h, ?_⟩
      have e2 : (((t : Int)) % 2) = ((t % 2 : Nat) : Int) := by omega
      -- behind the if
      have rest : ∀ (H2 : Hp) (vl2 : Addr) (u2 : List Int), Same H H2 → Same H1 H2 → H2 vl2 = some (.lst (u2.map V.int)) → u2.length = A.length → md m (itL B (2 * (t / 2)) u2) = md m (itL A age v) →
          ∀ D : Ends, (∀ σ' H', (∃ m', m' < t ∧ ∃ (rl' vl' : Addr) (rs' : List Addr) (B : List (List Int)) (u : List Int), σ' = [some (.ref rl'), some (.ref vl'), some (.int age), some (.int m), some (.int (m' : Int))] ∧ Same H H' ∧ H' rl' = some (.lst (rs'.map V.ref)) ∧ RwsI H' rs' B ∧ H' vl' = some (.lst (u.map V.int)) ∧
            B.length = A.length ∧ (∀ r ∈ B, r.length = B.length) ∧ u.length = A.length ∧ Small B ∧ md m (itL B m' u) = md m (itL A age v)) → D.nx σ' H') →
          tSeq (tAsg (tCall (spTwo K) [] E0 (tCons (tVar 0) (tCons (tVar 3) tNil))) (gName 0)) (tAug 4 (tC (.int 2)) (rI CDiv fun i j => .int (i / j))) D [some (.ref rl'), some (.ref vl2), some (.int age), some (.int m), some (.int (t : Int))] H2 := by
        intro H2 vl2 u2 S2 S12 hv2 hu2 hmd2 D hD
        refine ⟨_, rfl, _, rfl, rl', rs', B, m, rfl, S12 _ _ hrl', hR'.same S12, hsqB, by omega, by omega, hsB, hm, fun H3 p ts S3 n3 hp hT => ⟨_, rfl, _, _, rfl, rfl, ⟨two_pos', by decide⟩, hD _ _ ?_⟩⟩
        have sqB := sq_square m (A := B)
        refine ⟨t / 2, by omega, p, vl2, ts, sqM m B.length B, u2, ?_, S2.trans S3, hp, hT, S3 _ _ hv2, by omega, sqB.2, hu2, small_sq hm hm64 _ _, by rw [sq_it m hsqB]; exact hmd2⟩
        show [some (V.ref p), some (.ref vl2), some (.int age), some (.int m), some (.int ((t : Int) / 2))] = _
        rw [show ((t : Int) / 2) = ((t / 2 : Nat) : Int) by omega]
      refine ⟨_, rfl, _, _, rfl, rfl, two_pos', rfl, _, rfl, ite2 (fun ho => ?_) (fun ho => ?_)⟩
      · have ho : t % 2 = 1 := by
          have := V.int.inj (of_decide_eq_true ho)
          omega
        refine ⟨_, rfl, _, rfl, _, rfl, rl', vl', rs', B, u, m, rfl, hrl', hR', .inl (SqL.of hv'), fun r hr => by rw [hsqB r hr, eB, hu], by omega, by omega, hsB, hm, fun H2 p S2 n2 hp => ?_⟩
        refine rest H2 p _ (S1.trans S2) S2 hp (by rw [md_len, ap_len]; exact eB) ?_ _ fun σ' H' h => h
        rw [it_cong rfl _ (md_md m (apL B u))]
        rw [show t = 2 * (t / 2) + 1 by omega] at hmd
        exact hmd
      · have ho : t % 2 = 0 := by
          have : ¬((t : Int) % 2 = 1) := fun h => ho (decide_eq_true (congrArg V.int h))
          omega
        refine rest H1 vl' u S1 (Same.refl _) hv' hu ?_ _ fun σ' H' h => h
        rw [show t = 2 * (t / 2) by omega] at hmd
        exact hmd
    · have ht : t = 0 := by
        have : ¬(0 < (t : Int)) := fun h => hlt (decide_eq_true h)
        omega
      subst ht
      exact ⟨_, rfl, q H1 vl' u S1 hv' hu hmd⟩
end
end SK
namespace SK
open PySem PySem.Spec PyProof.Rows L2
/-! ### counts and sizes -/
theorem sumN_congr {n : Nat} {f g : Nat → Nat} (h : ∀ j, j < n → f j = g j) : sumN n f = sumN n g := by
  induction n with
  | zero => rfl
  | succ n ih =>
    show sumN n f + f n = sumN n g + g n
    rw [ih fun j hj => h j (by omega), h n (by omega)]
theorem sumN_add (n : Nat) (f g : Nat → Nat) : sumN n (fun j => f j + g j) = sumN n f + sumN n g := by
  induction n with
  | zero => rfl
  | succ n ih =>
    show sumN n (fun j => f j + g j) + (f n + g n) = (sumN n f + f n) + (sumN n g + g n)
    rw [ih]; omega
theorem sumN_zero (n : Nat) : sumN n (fun _ => 0) = 0 := by
  induction n with
  | zero => rfl
  | succ n ih =>
    show sumN n (fun _ => 0) + 0 = 0
    rw [ih]
theorem sumN_one {n k : Nat} (f : Nat → Nat) (h : k < n) : sumN n (fun j => if j = k then f j else 0) = f k := by
  induction n with
  | zero => omega
  | succ n ih =>
    show sumN n (fun j => if j = k then f j else 0) + (if n = k then f n else 0) = f k
    by_cases e : n = k
    · subst e
      rw [if_pos rfl, sumN_congr (g := fun _ => 0) (fun j hj => if_neg (by omega)), sumN_zero]
      omega
    · rw [if_neg e, ih (by omega)]
      omega
theorem cnt_cons (k : Nat) (s : Sy) (w : List Sy) : cnt k (s :: w) = (if s = .l k then 1 else 0) + cnt k w := by
  unfold cnt
  rw [List.countP_cons]
  by_cases e : s = .l k
  · subst e; simp; omega
  · simp [e]
theorem cnt_app (k : Nat) (a b : List Sy) : cnt k (a ++ b) = cnt k a + cnt k b := by
  unfold cnt
  exact List.countP_append
/-- a sum over the letters of a word -/
theorem sum_cons {n : Nat} (s : Sy) (w : List Sy) (h : Nat → Nat) : sumN n (fun j => cnt j (s :: w) * h j) = sumN n (fun j => (if s = .l j then 1 else 0) * h j) + sumN n (fun j => cnt j w * h j) := by
  rw [← sumN_add]
  exact sumN_congr fun j _ => by rw [cnt_cons, Nat.add_mul]
theorem sum_letter {n k : Nat} (h : Nat → Nat) (hk : k < n) : sumN n (fun j => (if Sy.l k = .l j then 1 else 0) * h j) = h k := by
  rw [← sumN_one h hk]
  refine sumN_congr fun j _ => ?_
  by_cases e : j = k
  · subst e; rw [if_pos rfl, if_pos rfl, Nat.one_mul]
  · rw [if_neg (fun z => e (by cases z; rfl)), if_neg e, Nat.zero_mul]
theorem sum_other {n : Nat} {s : Sy} (h : Nat → Nat) (hs : isL s = false) : sumN n (fun j => (if s = .l j then 1 else 0) * h j) = 0 := by
  refine (sumN_congr (g := fun _ => 0) fun j _ => ?_).trans (sumN_zero n)
  rw [if_neg (fun z => by rw [z] at hs; cases hs), Nat.zero_mul]
theorem grow_cons (ws : List (List Sy)) (s : Sy) (w : List Sy) : grow ws (s :: w) = img ws s ++ grow ws w := rfl
theorem img_other {ws : List (List Sy)} {s : Sy} (hs : isL s = false) : img ws s = [s] := by cases s <;> first | rfl | cases hs
theorem cnt_other {k : Nat} {s : Sy} (hs : isL s = false) : cnt k [s] = 0 := by
  rw [cnt_cons, if_neg (fun z => by rw [z] at hs; cases hs)]
  rfl
theorem grow_cnt {ws : List (List Sy)} {n : Nat} (k : Nat) : ∀ {w : List Sy}, (∀ j, Sy.l j ∈ w → j < n) → cnt k (grow ws w) = sumN n fun j => cnt j w * cnt k (ws.getD j [])
  | [], _ => by
    show 0 = _
    rw [← sumN_zero n]
    exact sumN_congr fun j _ => (Nat.zero_mul _).symm
  | s :: w, h => by
    rw [grow_cons, cnt_app, sum_cons, grow_cnt k (w := w) fun j hj => h j (List.mem_cons_of_mem _ hj)]
    congr 1
    cases hs : isL s with
    | false => rw [img_other hs, cnt_other hs, sum_other _ hs]
    | true =>
      cases s with
      | l j => exact (sum_letter (fun j => cnt k (ws.getD j [])) (h j List.mem_cons_self)).symm
      | p => cases hs
      | m => cases hs
      | o => cases hs
      | c => cases hs
theorem grow_length {ws : List (List Sy)} {n : Nat} (hw : ∀ j, j < n → 1 ≤ (ws.getD j []).length) : ∀ {w : List Sy}, (∀ j, Sy.l j ∈ w → j < n) → (grow ws w).length = w.length + sumN n fun j => cnt j w * ((ws.getD j []).length - 1)
  | [], _ => by
    have e : sumN n (fun j => cnt j [] * ((ws.getD j []).length - 1)) = 0 := (sumN_congr (g := fun _ => 0) fun j _ => Nat.zero_mul _).trans (sumN_zero n)
    show 0 = 0 + _
    rw [e]
  | s :: w, h => by
    have ih := grow_length hw (w := w) fun j hj => h j (List.mem_cons_of_mem _ hj)
    rw [grow_cons, List.length_append, sum_cons, ih, List.length_cons]
    cases hs : isL s with
    | false => rw [img_other hs, sum_other _ hs]; simp only [List.length_singleton]; omega
    | true =>
      cases s with
      | l j =>
        have hj := h j List.mem_cons_self
        have := hw j hj
        rw [sum_letter (fun j => (ws.getD j []).length - 1) hj]
        show (ws.getD j []).length + _ = _
        omega
      | p => cases hs
      | m => cases hs
      | o => cases hs
      | c => cases hs
theorem good_len {ws : List (List Sy)} (hg : ∀ w ∈ ws, Good ws.length 40 w) (j : Nat) (hj : j < ws.length) : 1 ≤ (ws.getD j []).length ∧ (ws.getD j []).length ≤ 40 := by
  rw [List.getD_eq_getElem?_getD, List.getElem?_eq_getElem hj]
  have := hg _ (List.getElem_mem hj)
  exact ⟨any_pos this.has, this.len⟩
theorem cnt_le (k : Nat) (w : List Sy) : cnt k w ≤ w.length := List.countP_le_length
theorem sum_ints (n : Nat) (h : Nat → Nat) : ((fl n h).map fun (k : Nat) => (k : Int)).sum = ((sumN n h : Nat) : Int) := by
  induction n with
  | zero => rfl
  | succ n ih =>
    have e : fl (n + 1) h = fl n h ++ [h n] := by unfold fl; rw [List.range_succ, List.map_append]; rfl
    rw [e, List.map_append, List.sum_append, ih]
    show ((sumN n h : Nat) : Int) + (((h n : Nat) : Int) + 0) = ((sumN n h + h n : Nat) : Int)
    omega
theorem cntL_fl (n : Nat) (w : List Sy) : cntL n w = fl n fun k => cnt k w := rfl
end SK
namespace SK
open PySem PySem.Spec PyProof.Rows L2
/-! ### a pen along paths: each letter a whole path, that ends somewhere -/
abbrev Plc := Int × Int × Int
abbrev Pth := Nat → Plc
def rot (h : Int) (p : Int × Int) : Int × Int := if h % 4 = 0 then p else if h % 4 = 1 then (-p.2, p.1) else if h % 4 = 2 then (-p.1, -p.2) else (p.2, -p.1)
/-- a place with a heading, as seen from another one -/
def mv (a q : Plc) : Plc := (a.1 + (rot a.2.2 (q.1, q.2.1)).1, a.2.1 + (rot a.2.2 (q.1, q.2.1)).2, (a.2.2 + q.2.2) % 4)
def sh (a : Plc) (s : Stk) : Stk := ((mv a (s.1, s.2.1, s.2.2.1)).1, (mv a (s.1, s.2.1, s.2.2.1)).2.1, (mv a (s.1, s.2.1, s.2.2.1)).2.2, s.2.2.2)
def Pen.pl (p : Pen) : Plc := (p.x, p.y, p.h)
def pstepE (E : Pth) (p : Pen) : Sy → Pen
  | .l k => { p with out := p.out ++ [(p.x, p.y, p.h, k)], x := (mv p.pl (E k)).1, y := (mv p.pl (E k)).2.1, h := (mv p.pl (E k)).2.2 }
  | s => pstep p s
def penF (E : Pth) (p : Pen) (w : List Sy) : Pen := w.foldl (pstepE E) p
def org : Pen := ⟨0, 0, 0, [], []⟩
def penE (E : Pth) (w : List Sy) : Pen := penF E org w
/-- each letter a stroke -/
def one : Pth := fun _ => (1, 0, 0)
theorem penF_app (E : Pth) (p : Pen) (v w : List Sy) : penF E p (v ++ w) = penF E (penF E p v) w := List.foldl_append
theorem penF_cons (E : Pth) (p : Pen) (s : Sy) (w : List Sy) : penF E p (s :: w) = penF E (pstepE E p s) w := rfl
theorem rot_mod (h : Int) (p : Int × Int) : rot (h % 4) p = rot h p := by
  unfold rot
  rw [show h % 4 % 4 = h % 4 by omega]
theorem rot4 (h : Int) : (h % 4 = 0 ∧ ∀ p, rot h p = p) ∨ (h % 4 = 1 ∧ ∀ p, rot h p = (-p.2, p.1)) ∨ (h % 4 = 2 ∧ ∀ p, rot h p = (-p.1, -p.2)) ∨ (h % 4 = 3 ∧ ∀ p, rot h p = (p.2, -p.1)) := by
  have e : h % 4 = 0 ∨ h % 4 = 1 ∨ h % 4 = 2 ∨ h % 4 = 3 := by omega
  rcases e with e | e | e | e
  · exact .inl ⟨e, fun p => by unfold rot; rw [if_pos e]⟩
  · exact .inr (.inl ⟨e, fun p => by unfold rot; rw [if_neg (by omega), if_pos e]⟩)
  · exact .inr (.inr (.inl ⟨e, fun p => by unfold rot; rw [if_neg (by omega), if_neg (by omega), if_pos e]⟩))
  · exact .inr (.inr (.inr ⟨e, fun p => by unfold rot; rw [if_neg (by omega), if_neg (by omega), if_neg (by omega)]⟩))
theorem rot_rot (a b : Int) (p : Int × Int) : rot a (rot b p) = rot (a + b) p := by
  obtain ⟨x, y⟩ := p
  rcases rot4 a with ⟨ha, ea⟩ | ⟨ha, ea⟩ | ⟨ha, ea⟩ | ⟨ha, ea⟩ <;> rcases rot4 b with ⟨hb, eb⟩ | ⟨hb, eb⟩ | ⟨hb, eb⟩ | ⟨hb, eb⟩ <;>
    rcases rot4 (a + b) with ⟨hc, ec⟩ | ⟨hc, ec⟩ | ⟨hc, ec⟩ | ⟨hc, ec⟩ <;> first | (exfalso; omega) | (rw [ea, eb, ec] <;> first | done | (refine Prod.ext ?_ ?_ <;> dsimp only <;> omega))
theorem rot_add (h : Int) (p q : Int × Int) : rot h (p.1 + q.1, p.2 + q.2) = ((rot h p).1 + (rot h q).1, (rot h p).2 + (rot h q).2) := by
  rcases rot4 h with ⟨ha, ea⟩ | ⟨ha, ea⟩ | ⟨ha, ea⟩ | ⟨ha, ea⟩ <;> rw [ea, ea, ea] <;> simp <;> omega
theorem mv_mv (a b c : Plc) : mv (mv a b) c = mv a (mv b c) := by
  have e1 : rot (mv a b).2.2 (c.1, c.2.1) = rot a.2.2 (rot b.2.2 (c.1, c.2.1)) := by
    rw [rot_rot]
    show rot ((a.2.2 + b.2.2) % 4) _ = _
    rw [rot_mod]
  have e2 := rot_add a.2.2 (b.1, b.2.1) (rot b.2.2 (c.1, c.2.1))
  show ((mv a b).1 + (rot (mv a b).2.2 (c.1, c.2.1)).1, (mv a b).2.1 + (rot (mv a b).2.2 (c.1, c.2.1)).2, ((mv a b).2.2 + c.2.2) % 4) =
    (a.1 + (rot a.2.2 (b.1 + (rot b.2.2 (c.1, c.2.1)).1, b.2.1 + (rot b.2.2 (c.1, c.2.1)).2)).1, a.2.1 + (rot a.2.2 (b.1 + (rot b.2.2 (c.1, c.2.1)).1, b.2.1 + (rot b.2.2 (c.1, c.2.1)).2)).2, (a.2.2 + (b.2.2 + c.2.2) % 4) % 4)
  rw [e1, e2]
  refine Prod.ext ?_ (Prod.ext ?_ ?_)
  · show a.1 + (rot a.2.2 (b.1, b.2.1)).1 + _ = a.1 + ((rot a.2.2 (b.1, b.2.1)).1 + _)
    omega
  · show a.2.1 + (rot a.2.2 (b.1, b.2.1)).2 + _ = a.2.1 + ((rot a.2.2 (b.1, b.2.1)).2 + _)
    omega
  · show ((a.2.2 + b.2.2) % 4 + c.2.2) % 4 = (a.2.2 + (b.2.2 + c.2.2) % 4) % 4
    omega
/-- a pen as seen from a place, with what stood ahead of it -/
def comp (a : Plc) (st : List Plc) (out : List Stk) (q : Pen) : Pen := ⟨(mv a q.pl).1, (mv a q.pl).2.1, (mv a q.pl).2.2, st ++ q.st.map (mv a), out ++ q.out.map (sh a)⟩
theorem comp_step (E : Pth) (a : Plc) (st : List Plc) (out : List Stk) (q : Pen) (s : Sy) (h : s = .c → q.st ≠ []) : pstepE E (comp a st out q) s = comp a st out (pstepE E q s) := by
  cases s with
  | o =>
    show Pen.mk _ _ _ _ _ = Pen.mk _ _ _ _ _
    congr 1
    show (st ++ q.st.map (mv a)) ++ [_] = st ++ (q.st ++ [_]).map (mv a)
    rw [List.map_append, List.append_assoc]
    rfl
  | c =>
    have hne := h rfl
    obtain ⟨t, ht⟩ : ∃ t, q.st.getLast? = some t := ⟨_, List.getLast?_eq_getLast hne⟩
    obtain ⟨tx, ty, th⟩ := t
    have e1 : pstepE E q .c = { q with x := tx, y := ty, h := th, st := q.st.dropLast } := by
      show (match q.st.getLast? with
        | some (a, b, c) => { q with x := a, y := b, h := c, st := q.st.dropLast }
        | none => q) = _
      rw [ht]
    have h2 : (comp a st out q).st.getLast? = some (mv a (tx, ty, th)) := by
      show (st ++ q.st.map (mv a)).getLast? = _
      rw [List.getLast?_append, List.getLast?_map, ht]
      rfl
    have e2 : pstepE E (comp a st out q) .c = { comp a st out q with x := (mv a (tx, ty, th)).1, y := (mv a (tx, ty, th)).2.1, h := (mv a (tx, ty, th)).2.2, st := (comp a st out q).st.dropLast } := by
      show (match (comp a st out q).st.getLast? with
        | some (a', b, c) => { comp a st out q with x := a', y := b, h := c, st := (comp a st out q).st.dropLast }
        | none => comp a st out q) = _
      rw [h2]
    rw [e1, e2]
    show Pen.mk _ _ _ _ _ = Pen.mk _ _ _ _ _
    congr 1
    show (st ++ q.st.map (mv a)).dropLast = st ++ q.st.dropLast.map (mv a)
    rw [List.dropLast_append_of_ne_nil (by simpa using hne), List.map_dropLast]
  | p =>
    show Pen.mk _ _ _ _ _ = Pen.mk _ _ _ _ _
    congr 1
    show ((a.2.2 + q.h) % 4 + 1) % 4 = (a.2.2 + (q.h + 1) % 4) % 4
    omega
  | m =>
    show Pen.mk _ _ _ _ _ = Pen.mk _ _ _ _ _
    congr 1
    show ((a.2.2 + q.h) % 4 + 3) % 4 = (a.2.2 + (q.h + 3) % 4) % 4
    omega
  | l k =>
    have e : mv (comp a st out q).pl (E k) = mv a (mv q.pl (E k)) := mv_mv a q.pl (E k)
    show Pen.mk _ _ _ _ _ = Pen.mk _ _ _ _ _
    rw [e]
    congr 1
    show (out ++ q.out.map (sh a)) ++ [_] = out ++ (q.out ++ [_]).map (sh a)
    rw [List.map_append, List.append_assoc]
    rfl
theorem st_step (E : Pth) (q : Pen) (s : Sy) {d : Nat} (h : nest [s] q.st.length = some d) : (pstepE E q s).st.length = d := by
  cases s with
  | o =>
    have h : some (q.st.length + 1) = some d := h
    show (q.st ++ [_]).length = d
    rw [List.length_append]
    exact Option.some.inj h
  | c =>
    cases hs : q.st.getLast? with
    | none =>
      rw [List.getLast?_eq_none_iff] at hs
      rw [hs] at h
      cases h
    | some t =>
      obtain ⟨a, b, c⟩ := t
      have e2 : pstepE E q .c = { q with x := a, y := b, h := c, st := q.st.dropLast } := by
        show (match q.st.getLast? with
          | some (a, b, c) => { q with x := a, y := b, h := c, st := q.st.dropLast }
          | none => q) = _
        rw [hs]
      rw [e2]
      show q.st.dropLast.length = d
      have hne : 1 ≤ q.st.length := List.length_pos_iff.mpr fun z => by rw [z] at hs; cases hs
      obtain ⟨e, he⟩ : ∃ e, q.st.length = e + 1 := ⟨_, (Nat.sub_add_cancel hne).symm⟩
      rw [he] at h
      have h : some e = some d := h
      rw [List.length_dropLast, he]
      have := Option.some.inj h
      omega
  | p => exact Option.some.inj h
  | m => exact Option.some.inj h
  | l k => exact Option.some.inj h
theorem nest_cons (s : Sy) (w : List Sy) (d : Nat) : nest (s :: w) d = (nest [s] d).bind (nest w) := nest_app [s] w d
theorem st_run (E : Pth) : ∀ (w : List Sy) (q : Pen) {d : Nat}, nest w q.st.length = some d → (penF E q w).st.length = d
  | [], q, d, h => Option.some.inj h
  | s :: w, q, d, h => by
    rw [nest_cons] at h
    cases h1 : nest [s] q.st.length with
    | none => rw [h1] at h; cases h
    | some e =>
      rw [h1] at h
      have e1 := st_step E q s h1
      exact st_run E w (pstepE E q s) (by rw [e1]; exact h)
theorem comp_run (E : Pth) (a : Plc) (st : List Plc) (out : List Stk) : ∀ (w : List Sy) (q : Pen), nest w q.st.length ≠ none → penF E (comp a st out q) w = comp a st out (penF E q w)
  | [], q, _ => rfl
  | s :: w, q, h => by
    rw [nest_cons] at h
    cases h1 : nest [s] q.st.length with
    | none => rw [h1] at h; exact absurd rfl h
    | some e =>
      rw [h1] at h
      have e1 := st_step E q s h1
      rw [penF_cons, penF_cons, comp_step E a st out q s, comp_run E a st out w (pstepE E q s) (by rw [e1]; exact h)]
      rintro rfl z
      rw [z] at h1
      cases h1
/-- headings are 0 to 3 -/
structure HOk (p : Pen) : Prop where
  h : 0 ≤ p.h ∧ p.h < 4
  st : ∀ q ∈ p.st, 0 ≤ q.2.2 ∧ q.2.2 < 4
  out : ∀ q ∈ p.out, 0 ≤ q.2.2.1 ∧ q.2.2.1 < 4
theorem hok_org : HOk org := ⟨⟨by decide, by decide⟩, (fun q h => nomatch h), (fun q h => nomatch h)⟩
theorem hok_step {E : Pth} {p : Pen} (k : HOk p) (s : Sy) : HOk (pstepE E p s) := by
  cases s with
  | o =>
    refine ⟨k.h, fun q hq => ?_, k.out⟩
    rcases List.mem_append.mp (show q ∈ p.st ++ [_] from hq) with h | h
    · exact k.st q h
    · rw [List.mem_singleton.mp h]; exact k.h
  | c =>
    cases hs : p.st.getLast? with
    | none =>
      have e2 : pstepE E p .c = p := by
        show (match p.st.getLast? with
          | some (a, b, c) => { p with x := a, y := b, h := c, st := p.st.dropLast }
          | none => p) = _
        rw [hs]
      rw [e2]
      exact k
    | some t =>
      obtain ⟨a, b, c⟩ := t
      have e2 : pstepE E p .c = { p with x := a, y := b, h := c, st := p.st.dropLast } := by
        show (match p.st.getLast? with
          | some (a, b, c) => { p with x := a, y := b, h := c, st := p.st.dropLast }
          | none => p) = _
        rw [hs]
      rw [e2]
      exact ⟨k.st _ (List.mem_of_getLast? hs), fun q hq => k.st q (List.dropLast_subset _ hq), k.out⟩
  | p => exact ⟨⟨by show 0 ≤ (p.h + 1) % 4; omega, by show (p.h + 1) % 4 < 4; omega⟩, k.st, k.out⟩
  | m => exact ⟨⟨by show 0 ≤ (p.h + 3) % 4; omega, by show (p.h + 3) % 4 < 4; omega⟩, k.st, k.out⟩
  | l j =>
    refine ⟨⟨by show 0 ≤ (p.h + (E j).2.2) % 4; omega, by show (p.h + (E j).2.2) % 4 < 4; omega⟩, k.st, fun q hq => ?_⟩
    rcases List.mem_append.mp (show q ∈ p.out ++ [_] from hq) with h | h
    · exact k.out q h
    · rw [List.mem_singleton.mp h]; exact k.h
theorem hok_run {E : Pth} : ∀ (w : List Sy) {p : Pen}, HOk p → HOk (penF E p w)
  | [], p, k => k
  | s :: w, p, k => hok_run w (hok_step k s)
theorem pen_ext {p q : Pen} (h : p.pl = q.pl) (s : p.st = q.st) (o : p.out = q.out) : p = q := by
  obtain ⟨x, y, h1, st, out⟩ := p
  obtain ⟨x', y', h', st', out'⟩ := q
  cases h
  cases s
  cases o
  rfl
theorem comp_org {p : Pen} (k : HOk p) : comp p.pl p.st p.out org = p := by
  have e : mv p.pl org.pl = p.pl := by
    have e0 : rot p.h (0, 0) = (0, 0) := by rcases rot4 p.h with ⟨_, e⟩ | ⟨_, e⟩ | ⟨_, e⟩ | ⟨_, e⟩ <;> rw [e] <;> rfl
    refine Prod.ext ?_ (Prod.ext ?_ ?_)
    · show p.x + (rot p.h (0, 0)).1 = p.x
      rw [e0]; omega
    · show p.y + (rot p.h (0, 0)).2 = p.y
      rw [e0]; omega
    · show (p.h + 0) % 4 = p.h
      have := k.h
      omega
  refine pen_ext ?_ ?_ ?_
  · exact e
  · exact List.append_nil _
  · exact List.append_nil _
/-- a whole word from wherever the pen stands -/
theorem path_run (E : Pth) {w : List Sy} (hw : nest w 0 = some 0) {p : Pen} (k : HOk p) : (penF E p w).pl = mv p.pl (penE E w).pl ∧ (penF E p w).st = p.st ∧ (penF E p w).out = p.out ++ (penE E w).out.map (sh p.pl) := by
  have e : penF E p w = comp p.pl p.st p.out (penE E w) := by
    have h := comp_run E p.pl p.st p.out w org (by show nest w 0 ≠ none; rw [hw]; exact fun z => nomatch z)
    rw [comp_org k] at h
    exact h
  have hst : (penE E w).st = [] := List.eq_nil_of_length_eq_zero (st_run E w org (show nest w 0 = some 0 from hw))
  rw [e]
  refine ⟨rfl, ?_, rfl⟩
  show p.st ++ (penE E w).st.map (mv p.pl) = p.st
  rw [hst]
  exact List.append_nil _
/-- what a stroke of the coarser path is drawn as -/
def fine (E : Pth) (ws : List (List Sy)) (s : Stk) : List Stk := (penE E (ws.getD s.2.2.2 [])).out.map (sh (s.1, s.2.1, s.2.2.1))
theorem grow_pen {ws : List (List Sy)} {E E' : Pth} : ∀ (w : List Sy), (∀ k, Sy.l k ∈ w → nest (ws.getD k []) 0 = some 0 ∧ E' k = (penE E (ws.getD k [])).pl) → ∀ (p p' : Pen), p.pl = p'.pl → p.st = p'.st → HOk p → p.out = p'.out.flatMap (fine E ws) →
    (penF E p (grow ws w)).pl = (penF E' p' w).pl ∧ (penF E p (grow ws w)).st = (penF E' p' w).st ∧ (penF E p (grow ws w)).out = (penF E' p' w).out.flatMap (fine E ws)
  | [], _, p, p', h1, h2, _, h4 => ⟨h1, h2, h4⟩
  | s :: w, hw, p, p', h1, h2, hk, h4 => by
    have hw' : ∀ k, Sy.l k ∈ w → nest (ws.getD k []) 0 = some 0 ∧ E' k = (penE E (ws.getD k [])).pl := fun k hk => hw k (List.mem_cons_of_mem _ hk)
    rw [show grow ws (s :: w) = img ws s ++ grow ws w from rfl, penF_app, penF_cons]
    have step : ∀ q q' : Pen, q.pl = q'.pl → q.st = q'.st → HOk q → q.out = q'.out.flatMap (fine E ws) → _ := fun q q' a b c d => grow_pen w hw' q q' a b c d
    have hxy : p.x = p'.x ∧ p.y = p'.y ∧ p.h = p'.h := ⟨congrArg (·.1) h1, congrArg (·.2.1) h1, congrArg (·.2.2) h1⟩
    cases s with
    | l k =>
      obtain ⟨hn, he⟩ := hw k List.mem_cons_self
      obtain ⟨r1, r2, r3⟩ := path_run E hn hk
      refine step _ _ ?_ (r2.trans h2) (hok_run _ hk) ?_
      · show (penF E p (ws.getD k [])).pl = mv p'.pl (E' k)
        rw [r1, h1, he]
      · show (penF E p (ws.getD k [])).out = (p'.out ++ [(p'.x, p'.y, p'.h, k)]).flatMap (fine E ws)
        rw [r3, h4, List.flatMap_append, h1]
        simp only [List.flatMap_cons, List.flatMap_nil, List.append_nil]
        rfl
    | o =>
      refine step _ _ h1 ?_ (hok_step (E := E) hk .o) h4
      show p.st ++ [(p.x, p.y, p.h)] = p'.st ++ [(p'.x, p'.y, p'.h)]
      rw [h2, hxy.1, hxy.2.1, hxy.2.2]
    | c =>
      show _
      have e : ∀ (F : Pth) (q : Pen), pstepE F q .c = match q.st.getLast? with
        | some (a, b, c) => { q with x := a, y := b, h := c, st := q.st.dropLast }
        | none => q := fun _ _ => rfl
      refine step (pstepE E p .c) (pstepE E' p' .c) ?_ ?_ (hok_step (E := E) hk .c) ?_ <;> rw [e, e, h2] <;> cases p'.st.getLast? <;> first | exact h1 | exact h2 | exact h4 | rfl
    | p =>
      refine step _ _ ?_ h2 (hok_step (E := E) hk .p) h4
      show (p.x, p.y, (p.h + 1) % 4) = (p'.x, p'.y, (p'.h + 1) % 4)
      rw [hxy.1, hxy.2.1, hxy.2.2]
    | m =>
      refine step _ _ ?_ h2 (hok_step (E := E) hk .m) h4
      show (p.x, p.y, (p.h + 3) % 4) = (p'.x, p'.y, (p'.h + 3) % 4)
      rw [hxy.1, hxy.2.1, hxy.2.2]
theorem dir_rot {h : Int} (h0 : 0 ≤ h) (h4 : h < 4) : dir h = rot h (1, 0) := by
  have e : h = 0 ∨ h = 1 ∨ h = 2 ∨ h = 3 := by omega
  rcases e with rfl | rfl | rfl | rfl <;> rfl
/-- the pen of strokes is the pen along paths of one step -/
theorem pstep_one {p : Pen} (k : HOk p) (s : Sy) : pstepE one p s = pstep p s := by
  cases s with
  | l j =>
    show Pen.mk _ _ _ _ _ = Pen.mk _ _ _ _ _
    rw [dir_rot k.h.1 k.h.2]
    congr 1
    show (p.h + 0) % 4 = p.h
    have := k.h
    omega
  | o => rfl
  | c => rfl
  | p => rfl
  | m => rfl
theorem pen_one' : ∀ (w : List Sy) {p : Pen}, HOk p → penF one p w = w.foldl pstep p
  | [], p, _ => rfl
  | s :: w, p, k => by
    rw [penF_cons, pen_one' w (hok_step k s), pstep_one k]
    rfl
theorem pen_one (w : List Sy) : penE one w = pen w := pen_one' w hok_org
theorem hok_pen (w : List Sy) : HOk (pen w) := by
  rw [← pen_one]
  exact hok_run w hok_org
/-! ### even books -/
def scl (u v : Int) (q : Plc) : Plc := (u * q.1 - v * q.2.1, u * q.2.1 + v * q.1, q.2.2)
def sclS (u v : Int) (s : Stk) : Stk := (u * s.1 - v * s.2.1, u * s.2.1 + v * s.1, s.2.2.1, s.2.2.2)
theorem mv_scl (u v : Int) (a : Plc) : mv (scl u v a) (u, v, 0) = scl u v (mv a (1, 0, 0)) := by
  obtain ⟨x, y, h⟩ := a
  show (u * x - v * y + (rot h (u, v)).1, u * y + v * x + (rot h (u, v)).2, (h + 0) % 4) = (u * (x + (rot h (1, 0)).1) - v * (y + (rot h (1, 0)).2), u * (y + (rot h (1, 0)).2) + v * (x + (rot h (1, 0)).1), (h + 0) % 4)
  rcases rot4 h with ⟨_, e⟩ | ⟨_, e⟩ | ⟨_, e⟩ | ⟨_, e⟩ <;> rw [e, e] <;> refine Prod.ext ?_ (Prod.ext ?_ rfl) <;> simp only [Int.mul_add] <;> omega
def sclP (u v : Int) (p : Pen) : Pen := ⟨(scl u v p.pl).1, (scl u v p.pl).2.1, p.h, p.st.map (scl u v), p.out.map (sclS u v)⟩
theorem sclP_step (u v : Int) (p : Pen) (s : Sy) : pstepE (fun _ => (u, v, 0)) (sclP u v p) s = sclP u v (pstepE one p s) := by
  cases s with
  | l k =>
    have e : mv (sclP u v p).pl (u, v, 0) = scl u v (mv p.pl (1, 0, 0)) := mv_scl u v p.pl
    show Pen.mk _ _ _ _ _ = Pen.mk _ _ _ _ _
    dsimp only
    rw [e]
    congr 1
    show p.out.map (sclS u v) ++ [_] = (p.out ++ [_]).map (sclS u v)
    rw [List.map_append]
    rfl
  | o =>
    show Pen.mk _ _ _ _ _ = Pen.mk _ _ _ _ _
    congr 1
    show p.st.map (scl u v) ++ [_] = (p.st ++ [_]).map (scl u v)
    rw [List.map_append]
    rfl
  | c =>
    have e : ∀ (F : Pth) (q : Pen), pstepE F q .c = match q.st.getLast? with
      | some (a, b, c) => { q with x := a, y := b, h := c, st := q.st.dropLast }
      | none => q := fun _ _ => rfl
    rw [e, e]
    have h2 : (sclP u v p).st.getLast? = p.st.getLast?.map (scl u v) := List.getLast?_map
    rw [h2]
    cases p.st.getLast? with
    | none => rfl
    | some t =>
      obtain ⟨a, b, c⟩ := t
      show Pen.mk _ _ _ _ _ = Pen.mk _ _ _ _ _
      congr 1
      show (p.st.map (scl u v)).dropLast = p.st.dropLast.map (scl u v)
      rw [List.map_dropLast]
  | p => rfl
  | m => rfl
theorem sclP_run (u v : Int) : ∀ (w : List Sy) (p : Pen), penF (fun _ => (u, v, 0)) (sclP u v p) w = sclP u v (penF one p w)
  | [], p => rfl
  | s :: w, p => by
    rw [penF_cons, penF_cons, sclP_step, sclP_run u v w]
theorem org_scl (u v : Int) : sclP u v org = org := by
  show Pen.mk _ _ _ _ _ = Pen.mk _ _ _ _ _
  congr 1
  · show u * 0 - v * 0 = 0
    omega
  · show u * 0 + v * 0 = 0
    omega
/-- the next age of an even book, stroke by stroke -/
theorem even_next {ws : List (List Sy)} {w : List Sy} {u v : Int} (h : ∀ k, Sy.l k ∈ w → nest (ws.getD k []) 0 = some 0 ∧ (pen (ws.getD k [])).pl = (u, v, 0)) :
    strokes (grow ws w) = (strokes w).flatMap fun s => (strokes (ws.getD s.2.2.2 [])).map (sh (u * s.1 - v * s.2.1, u * s.2.1 + v * s.1, s.2.2.1)) := by
  have g := grow_pen (ws := ws) (E := one) (E' := fun _ => (u, v, 0)) w (fun k hk => ⟨(h k hk).1, by rw [pen_one]; exact (h k hk).2.symm⟩) org org rfl rfl hok_org rfl
  have e1 : (penF one org (grow ws w)).out = strokes (grow ws w) := by
    show (penE one (grow ws w)).out = _
    rw [pen_one]; rfl
  have e2 := sclP_run u v w org
  rw [org_scl] at e2
  have e3 : (penF one org w).out = strokes w := by
    show (penE one w).out = _
    rw [pen_one]; rfl
  rw [e1, e2] at g
  rw [g.2.2]
  show ((penF one org w).out.map (sclS u v)).flatMap (fine one ws) = _
  rw [e3, List.flatMap_map]
  congr 1
  funext s
  show (penE one (ws.getD s.2.2.2 [])).out.map _ = _
  rw [pen_one]
  rfl
end SK
namespace SK
open PySem PySem.Spec PyProof.Rows L2
/-! ### what letters become -/
def imgG (G : Nat → List Sy) : Sy → List Sy
  | .l k => G k
  | s => [s]
def growG (G : Nat → List Sy) (w : List Sy) : List Sy := w.flatMap (imgG G)
theorem growG_app (G : Nat → List Sy) (a b : List Sy) : growG G (a ++ b) = growG G a ++ growG G b := List.flatMap_append
theorem growG_one (G : Nat → List Sy) (s : Sy) : growG G [s] = imgG G s := by simp [growG]
theorem growG_take (G : Nat → List Sy) (w : List Sy) (i : Nat) : (growG G (w.take i)).length ≤ (growG G w).length := by
  have e : growG G w = growG G (w.take i) ++ growG G (w.drop i) := by rw [← growG_app, List.take_append_drop]
  rw [e, List.length_append]
  omega
theorem growG_mem {G : Nat → List Sy} {w : List Sy} {k : Nat} (h : Sy.l k ∈ w) : (G k).length ≤ (growG G w).length := by
  obtain ⟨a, b, rfl⟩ := List.append_of_mem h
  have e : growG G (a ++ .l k :: b) = growG G a ++ (G k ++ growG G b) := by rw [growG_app]; rfl
  rw [e, List.length_append, List.length_append]
  omega
/-- what a letter is after so many ages -/
def gI (ws : List (List Sy)) : Nat → Nat → List Sy
  | 0, k => [.l k]
  | i + 1, k => growG (gI ws i) (ws.getD k [])
theorem growG_zero (ws : List (List Sy)) (w : List Sy) : growG (gI ws 0) w = w := by
  induction w with
  | nil => rfl
  | cons s w ih =>
    have e : imgG (gI ws 0) s = [s] := by cases s <;> rfl
    show imgG (gI ws 0) s ++ growG (gI ws 0) w = s :: w
    rw [e, ih]
    rfl
theorem growG_grow (ws : List (List Sy)) (i : Nat) (w : List Sy) : growG (gI ws (i + 1)) w = growG (gI ws i) (grow ws w) := by
  induction w with
  | nil => rfl
  | cons s w ih =>
    have e : imgG (gI ws (i + 1)) s = growG (gI ws i) (img ws s) := by
      cases s with
      | l k => rfl
      | p => exact (growG_one _ _).symm
      | m => exact (growG_one _ _).symm
      | o => exact (growG_one _ _).symm
      | c => exact (growG_one _ _).symm
    show imgG (gI ws (i + 1)) s ++ growG (gI ws (i + 1)) w = _
    rw [e, ih, show grow ws (s :: w) = img ws s ++ grow ws w from rfl, growG_app]
theorem growG_grown (ws : List (List Sy)) (st : List Sy) : ∀ i m, growG (gI ws i) (grown ws st m) = grown ws st (m + i)
  | 0, m => growG_zero ws _
  | i + 1, m => by
    rw [growG_grow]
    have := growG_grown ws st i (m + 1)
    rw [show m + (i + 1) = m + 1 + i by omega]
    exact this
theorem TupS.dict {H : Hp} {D : Addr} {kvs : List (Key × V)} {o : HO} (h : H D = some (.dK kvs)) : TupS H (upd H D o) := by
  refine ⟨fun b ys e => ?_, fun b ob u e => ?_⟩
  · rw [upd_ne (ne_of e h (by intro z; cases z))]
    exact e
  · rw [upd_ne (ne_of e h (by intro z; cases z))]
    exact e
theorem iV_get {ls : List Nat} {i : Nat} {x : V} (h : (iV ls)[i]? = some x) : ∃ k, ls[i]? = some k ∧ x = V.int (k : Int) := by
  unfold iV at h
  rw [List.getElem?_map] at h
  cases e : ls[i]? with
  | none => rw [e] at h; cases h
  | some k => rw [e] at h; exact ⟨k, rfl, (Option.some.inj h).symm⟩
end SK
namespace SK
open PySem PySem.Spec PyProof.Rows L2
/-! name = {k: v for ..}, the name a local -/
theorem ps_setDc {X : Cx} {i : Nat} {y : Str} {py : Pos} {kx vx tg iter : Expr} {ifs : List Expr} {scope : Scope} {own : List (Str × Nat)} {pos spos : Pos} {wi : TI} {g : TG} {tt : TT} {tk tv : TE} (hc : X.calm = true) (hN : X.N.Nodup) (hy : X.N[i]? = some y) (hyl : X.env.scope.names.lookup y = some .local)
    (hsw : swapsWith (.DictComp kx vx [⟨tg, iter, ifs, 0⟩] scope pos) (some (.Name y py)) spos.line X.env = pure true) (hi : PI X tg iter wi) (ok : BlkOk X.N X.env.scope scope own)
    (hg : ∀ (s : Shared) (H : Hp) (C : Addr) (cl : List (Str × Addr)) (fp : List Addr), PG (X.blk s H scope (compEnvC scope cl C X.env) fp) tg g) (ht : ∀ (s : Shared) (H : Hp) (C : Addr) (cl : List (Str × Addr)) (fp : List Addr), PTs (X.blk s H scope (compEnvC scope cl C X.env) fp) ifs tt)
    (hk : ∀ (s : Shared) (H : Hp) (C : Addr) (cl : List (Str × Addr)) (fp : List Addr), PE (X.blk s H scope (compEnvC scope cl C X.env) fp) kx tk)
    (he : ∀ (s : Shared) (H : Hp) (C : Addr) (cl : List (Str × Addr)) (fp : List Addr), PE (X.blk s H scope (compEnvC scope cl C X.env) fp) vx tv) (hs : ∀ x, foldedSetIterable iter X.env x = pure x := by intro _; rfl) :
    PS X (.Assign [.Name y py] (.DictComp kx vx [⟨tg, iter, ifs, 0⟩] scope pos) spos) (tAsg (tDc wi g tt tk tv (own.map (·.2))) (gName i)) := by
  refine ⟨fun pins s σ H D I h => ?_⟩
  rw [exec_Assign_Name_used _ _ _ _ hsw]
  refine wpAny_bind (wpAny_standAt (wpAny_bind ?_))
  show wpAny _ X.A (do let _ ← comprehension (.DictComp kx vx [⟨tg, iter, ifs, 0⟩] scope pos) scope X.env (firstIterPos [⟨tg, iter, ifs, 0⟩] pos) newDict false (eval iter X.env) (some (assign (.Name y py) X.env))) _ _ s
  have h : tDc wi g tt tk tv (own.map (·.2)) σ H (fun x H1 => gName i x σ H1 D.nx) := h
  refine wpAny_bind (thn (dc_core (Qf := fun _ s' => SP X pins D .next s') hc hN I hi ok hg ht hk he hs h fun L C s' m H' I' q hn f => ?_) fun _ s' hq => wpAny_pure (wpAny_pure hq))
  show wpAny _ _ (assign (.Name y py) X.env (.ref L)) _ _ _
  refine wpAny_assign_Name (store_ok2 (v := V.ref L) I' hN hy (.inl hyl) rfl (fun s2 I2 ⟨a, sb, ha⟩ => ?_) (.inr hyl))
  obtain ⟨f0, f1, f2, f3, f4, f5⟩ := f
  have haC : C ≠ a := by
    rcases ha with z | z
    · rw [z]; exact f1
    · exact fun e => f4 y a z e.symm
  refine ⟨m, hn.sameBut sb haC, fun h3 sb3 => ?_⟩
  exact ⟨_, H', I2.turned (t' := s2.toks) (fun b o hb e => (sb3.2 b hb).trans e) f0 f1 f3 f4 f5, q⟩
theorem sw_trueD {kx vx : Expr} {gs : List Comprehension} {scope : Scope} {pos py : Pos} {y : Str} {l : Nat} {env : Env} (hk : env.scope.kind = .function) (hy : env.scope.names.lookup y = some .local) (hl : (py.line == pos.line) = true)
    (ha : (scope.names.any fun (n, k) => n == y && (k == .local || k == .cell)) = false) : swapsWith (.DictComp kx vx gs scope pos) (some (.Name y py)) l env = pure true := by
  have ky : env.kindOf y = some .local := hy
  have hb : env.blockKind = .function := by unfold Env.blockKind; rw [hk]; rfl
  unfold swapsWith
  simp only [hb, ky, ha, Expr.pos, hl]
  rfl
end SK
namespace SK
open PySem PySem.Spec PyProof.Rows L2
theorem ex_nox {X : Cx} {st : List Stmt} {D : Ends} {σ : L2.St} {H : Hp} (h : ∃ t, PSs X.nox st t ∧ t D σ H) : ∃ t, PSs X st t ∧ t D σ H := let ⟨t, a, b⟩ := h; ⟨t, a.nox, b⟩
/-- a tuple of the module -/
def ModT (K : PySem.W.Frag) (a : Addr) (xs : List V) : Prop := ∃ (o : Obj) (its : Array Value) (n : Nat), K.lookup a = some o ∧ o.cls = .type "tuple" ∧ o.data = .seq its n ∧ its.size ≤ sizeLine ∧ Vals xs its.toList
theorem ModT.sq {K : PySem.W.Frag} {a : Addr} {xs : List V} {H : Hp} (h : ModT K a xs) : SqT K H a xs := .inr h
/-- a new tuple of strokes -/
def NewStrs (ss : List Stk) (H : Hp) (Q : VK) : Prop := ∀ (H' : Hp) (p : Addr) (as : List Addr), Same H H' → H p = none → H' p = some (.tup (as.map V.ref)) → Strs H' as ss → Q (.ref p) H'
/-- a pen that begins there -/
def stt (p : Plc) : Pen := ⟨p.1, p.2.1, p.2.2, [], []⟩
theorem hok_stt {p : Plc} (h : 0 ≤ p.2.2 ∧ p.2.2 < 4) : HOk (stt p) := ⟨h, (fun q h => nomatch h), (fun q h => nomatch h)⟩
theorem len_step (E : Pth) (p : Pen) (s : Sy) : (pstepE E p s).out.length ≤ p.out.length + 1 ∧ (pstepE E p s).st.length ≤ p.st.length + 1 := by
  cases s with
  | l k => exact ⟨by show (p.out ++ [_]).length ≤ _; rw [List.length_append]; exact Nat.le_refl _, Nat.le_succ _⟩
  | o => exact ⟨Nat.le_succ _, by show (p.st ++ [_]).length ≤ _; rw [List.length_append]; exact Nat.le_refl _⟩
  | c =>
    have e : pstepE E p .c = match p.st.getLast? with
      | some (a, b, c) => { p with x := a, y := b, h := c, st := p.st.dropLast }
      | none => p := rfl
    rw [e]
    cases p.st.getLast? with
    | none => exact ⟨Nat.le_succ _, Nat.le_succ _⟩
    | some t => exact ⟨Nat.le_succ _, by show p.st.dropLast.length ≤ _; rw [List.length_dropLast]; omega⟩
  | p => exact ⟨Nat.le_succ _, Nat.le_succ _⟩
  | m => exact ⟨Nat.le_succ _, Nat.le_succ _⟩
theorem len_run (E : Pth) : ∀ (w : List Sy) (p : Pen), (penF E p w).out.length ≤ p.out.length + w.length ∧ (penF E p w).st.length ≤ p.st.length + w.length
  | [], p => ⟨Nat.le_refl _, Nat.le_refl _⟩
  | s :: w, p => by
    have h1 := len_run E w (pstepE E p s)
    have h2 := len_step E p s
    rw [penF_cons, List.length_cons]
    omega
theorem penF_take {E : Pth} {p : Pen} {w : List Sy} {i : Nat} {s : Sy} (h : w[i]? = some s) : penF E p (w.take (i + 1)) = pstepE E (penF E p (w.take i)) s := by rw [take_more h, penF_app]; rfl
/-- a new pair of a list of strokes and the pen's place -/
def NewLaid (p : Pen) (H : Hp) (Q : VK) : Prop := ∀ (H' : Hp) (t la e : Addr) (as : List Addr), Same H H' → H t = none → H' t = some (.tup [.ref la, .ref e]) → H la = none → H' la = some (.lst (as.map V.ref)) → Strs H' as p.out → H' e = some (.tup (plV p.pl)) → Q (.ref t) H'
/-- a table of where paths end -/
def EndsT (K : PySem.W.Frag) (H : Hp) (kvs : List (Key × V)) (E : Pth) (k : Nat) : Prop := ∃ e, valV kvs (.inl (k : Int)) = some (.ref e) ∧ SqT K H e (plV (E k))
theorem EndsT.same {K : PySem.W.Frag} {H H' : Hp} {kvs : List (Key × V)} {E : Pth} {k : Nat} (h : EndsT K H kvs E k) (s : Same H H') : EndsT K H' kvs E k := let ⟨e, a, b⟩ := h; ⟨e, a, sTup s b⟩
def spRotate : Sp := fun vs H Q _ => ∃ x y h : Int, vs = [.int x, .int y, .int h] ∧ 0 ≤ h ∧ h < 4 ∧ New (.tup [.int (rot h (x, y)).1, .int (rot h (x, y)).2]) H Q
def spLay (K : PySem.W.Frag) : Sp := fun vs H Q _ => ∃ (a d pn : Addr) (w : List Sy) (kvs : List (Key × V)) (E : Pth) (p : Plc), vs = [.ref a, .ref d, .ref pn] ∧ WdAt H a w ∧ H d = some (.dK kvs) ∧ (∀ k, Sy.l k ∈ w → EndsT K H kvs E k) ∧ SqT K H pn (plV p) ∧
  0 ≤ p.2.2 ∧ p.2.2 < 4 ∧ nest w 0 ≠ none ∧ w.length ≤ 1000000 ∧ NewLaid (penF E (stt p) w) H Q
section
variable {P : Program} {w : World} {K : PySem.W.Frag} {mg : Str → Option Value} {base : Heap}
theorem ok_rotate {f : Addr} {fd : FuncData} {k : Nat} (F : Fun K "rotate" "rotate" s_rotate f fd) : FnOk P w K mg base CX0 (k + 1) f fd ["x", "y", "quarters"] spRotate := by
  refine F.ok sc_rotate (fun vs H Q E h => ?_) (fun cdv A outer s H vs Q E hr h => ?_)
  · obtain ⟨x, y, h, rfl, _⟩ := h
    rfl
  · obtain ⟨x, y, h, rfl, h0, h4, q⟩ := h
    refine ⟨_, pss_cons (ps_if (pt_cmpR op_eq (pv 2) pe_int (nomark _)) (pss_one (ps_ret (ptupN (pa_cons (pv 0) (pa_cons (pv 1) pa_nil))))) pss_nil)
      (pss_cons (ps_if (pt_cmpR op_eq (pv 2) pe_int (nomark _)) (pss_one (ps_ret (ptupN (pa_cons (pe_un un_neg (pv 1)) (pa_cons (pv 0) pa_nil))))) pss_nil)
      (pss_cons (ps_if (pt_cmpR op_eq (pv 2) pe_int (nomark _)) (pss_one (ps_ret (ptupN (pa_cons (pe_un un_neg (pv 0)) (pa_cons (pe_un un_neg (pv 1)) pa_nil))))) pss_nil)
      (pss_one (ps_ret (ptupN (pa_cons (pv 1) (pa_cons (pe_un un_neg (pv 0)) pa_nil))))))), ?_⟩
    have e : h = 0 ∨ h = 1 ∨ h = 2 ∨ h = 3 := by omega
    rcases e with rfl | rfl | rfl | rfl
    · exact ⟨_, rfl, rfl, _, rfl, itY rfl ⟨_, rfl, _, rfl, szl 2, q⟩⟩
    · exact ⟨_, rfl, rfl, _, rfl, itN (by decide) ⟨_, rfl, rfl, _, rfl, itY rfl ⟨_, rfl, _, rfl, _, rfl, szl 2, q⟩⟩⟩
    · exact ⟨_, rfl, rfl, _, rfl, itN (by decide) ⟨_, rfl, rfl, _, rfl, itN (by decide) ⟨_, rfl, rfl, _, rfl, itY rfl ⟨_, rfl, _, rfl, _, rfl, _, rfl, szl 2, q⟩⟩⟩⟩
    · exact ⟨_, rfl, rfl, _, rfl, itN (by decide) ⟨_, rfl, rfl, _, rfl, itN (by decide) ⟨_, rfl, rfl, _, rfl, itN (by decide) ⟨_, rfl, _, rfl, _, rfl, szl 2, q⟩⟩⟩⟩
theorem ok_lay {f : Addr} {fd : FuncData} {k : Nat} {dflt : Addr} (F : FunD K "lay" "lay" (defArgs s_lay) (defBody s_lay) (defScope s_lay) [.ref dflt] [] f fd) (GR : Got P w K mg base "rotate" k ["x", "y", "quarters"] spRotate) :
    FnOk P w K mg base CX0 (k + 1) f fd ["word", "ends", "pen"] (spLay K) := by
  refine F.ok sc_lay (fun vs H Q E h => ?_) (fun cdv A outer s H vs Q EE hr h => ex_nox ?_)
  · obtain ⟨a, d, pn, w, kvs, E', p, rfl, _⟩ := h
    rfl
  · obtain ⟨a, d, pn, w, kvs, E, p, rfl, hw, hd, hE, hp, p0, p4, hn, hl, q⟩ := h
    have nd := sc_lay.nd
    refine ⟨_, pss_cons (ps_asg (pv 2) (pg_tup (by rfl) (pgs_cons (pg_name (i := 3) nd rfl (.inl rfl)) (pgs_cons (pg_name (i := 4) nd rfl (.inl rfl)) (pgs_cons (pg_name (i := 5) nd rfl (.inl rfl)) pgs_nil)))))
      (pss_cons (ps_set (i := 6) nd rfl (.inl rfl) (plstN pa_nil)) (pss_cons (ps_set (i := 7) nd rfl (.inl rfl) (plstN pa_nil))
      (pss_cons (ps_for PassesOwn.never rfl (pi_tup (pv 0)) (pg_name (i := 8) nd rfl (.inl rfl))
        (pss_one (ps_if (pt_cmpR op_eq (pv 8) pe_str (nomark _)) (pss_one (ps_set (i := 5) nd rfl (.inl rfl) (pmod (padd (pv 5) pe_int) pe_int)))
          (pss_one (ps_if (pt_cmpR op_eq (pv 8) pe_str (nomark _)) (pss_one (ps_set (i := 5) nd rfl (.inl rfl) (pmod (psub (pv 5) pe_int) pe_int)))
            (pss_one (ps_if (pt_cmpR op_eq (pv 8) pe_str (nomark _)) (pss_one (sapp (pv 6) (ptupN (pa_cons (pv 3) (pa_cons (pv 4) (pa_cons (pv 5) pa_nil))))))
              (pss_one (ps_if (pt_cmpR op_eq (pv 8) pe_str (nomark _))
                (pss_one (ps_asg (pe_bm0 PySem.F.plainAttrs_list PySem.F.slot_list_pop PySem.F.type_list_pop mt_pop (pv 6)) (pg_tup (by rfl) (pgs_cons (pg_name (i := 3) nd rfl (.inl rfl)) (pgs_cons (pg_name (i := 4) nd rfl (.inl rfl)) (pgs_cons (pg_name (i := 5) nd rfl (.inl rfl)) pgs_nil))))))
                (pss_cons (sapp (pv 7) (ptupN (pa_cons (pv 3) (pa_cons (pv 4) (pa_cons (pv 5) (pa_cons (pv 8) pa_nil))))))
                (pss_cons (ps_asg (pe_dget (hu_of hr) (pv 1) (pv 8) (fun _ _ => rfl)) (pg_tup (by rfl) (pgs_cons (pg_name (i := 9) nd rfl (.inl rfl)) (pgs_cons (pg_name (i := 10) nd rfl (.inl rfl)) (pgs_cons (pg_name (i := 11) nd rfl (.inl rfl)) pgs_nil)))))
                (pss_cons (ps_asg (pcall GR hr (pa_cons (pv 9) (pa_cons (pv 10) (pa_cons (pv 5) pa_nil)))) (pg_tup (by rfl) (pgs_cons (pg_name (i := 12) nd rfl (.inl rfl)) (pgs_cons (pg_name (i := 13) nd rfl (.inl rfl)) pgs_nil))))
                (pss_cons (ps_aug (i := 3) nd rfl (.inl rfl) (pv 12) ip_add) (pss_cons (ps_aug (i := 4) nd rfl (.inl rfl) (pv 13) ip_add)
                (pss_one (ps_set (i := 5) nd rfl (.inl rfl) (pmod (padd (pv 5) (pv 11)) pe_int)))))))))))))))))
      (pss_one (ps_ret (ptupN (pa_cons (pv 7) (pa_cons (ptupN (pa_cons (pv 3) (pa_cons (pv 4) (pa_cons (pv 5) pa_nil)))) pa_nil)))))))), ?_⟩
    refine ⟨_, rfl, pn, _, rfl, hp, rfl, _, _, rfl, _, _, rfl, _, _, rfl, rfl, ?_⟩
    refine ⟨szl 0, fun H1 sb S1 n1 h1 => ⟨szl 0, fun H2 fa S2 n2 h2 => ?_⟩⟩
    have S03 := S1.trans S2
    have nfa : H fa = none := S1.free n2
    have nfs : fa ≠ sb := (ne_of_none h1 n2).symm
    have hs3 := S2 _ _ h1
    clear S1 S2 n2 h1
    refine ⟨_, rfl, a, rfl, ⟨_, (hw.same S03).sq⟩, for_tup (K := K) (a := a) (xs := wv w) (fun i σ H' => ∃ (y8 y9 y10 y11 y12 y13 : Option V) (as ss : List Addr), σ = [some (.ref a), some (.ref d), some (.ref pn), some (.int (penF E (stt p) (w.take i)).x), some (.int (penF E (stt p) (w.take i)).y), some (.int (penF E (stt p) (w.take i)).h), some (.ref sb), some (.ref fa), y8, y9, y10, y11, y12, y13] ∧
        Same H H' ∧ H' fa = some (.lst (as.map V.ref)) ∧ H' sb = some (.lst (ss.map V.ref)) ∧ Strs H' as (penF E (stt p) (w.take i)).out ∧ Pls H' ss (penF E (stt p) (w.take i)).st)
      ⟨none, none, none, none, none, none, [], [], rfl, S03, h2, hs3, .nil, .nil⟩ (fun i σ H' _ ⟨_, _, _, _, _, _, _, _, _, s, _⟩ => (hw.same s).sq) ?_ ?_⟩
    · rintro i x σ H4 hx ⟨y8, y9, y10, y11, y12, y13, as, ss, rfl, S4, hf, hs, hA, hP⟩
      obtain ⟨s, hsy, rfl⟩ := wv_get hx
      have hi : i < w.length := (List.getElem?_eq_some_iff.mp hsy).1
      have ep := penF_take (E := E) (p := stt p) hsy
      have lt : (w.take i).length ≤ 1000000 := by rw [List.length_take]; omega
      have lA := hA.length
      have lP := hP.length
      have p1 := len_run E (w.take i) (stt p)
      have z1 : (stt p).out.length = 0 := rfl
      have z2 : (stt p).st.length = 0 := rfl
      have hst := nest_take hn (i + 1)
      have hst0 := nest_take hn i
      have nst : nest (w.take i) 0 = some (penF E (stt p) (w.take i)).st.length := by
        cases hz : nest (w.take i) 0 with
        | none => exact absurd hz hst0
        | some dd => rw [st_run E (w.take i) (stt p) (show nest (w.take i) (stt p).st.length = some dd from hz)]
      rw [take_more hsy, nest_app, nst] at hst
      have ph := (hok_run (E := E) (w.take i) (hok_stt (p := p) ⟨p0, p4⟩)).h
      generalize penF E (stt p) (w.take (i + 1)) = pp at ep
      subst ep
      generalize penF E (stt p) (w.take i) = pe at hA hP lA lP p1 nst hst ph
      cases s with
      | p =>
        refine ⟨_, rfl, rfl, _, rfl, itY rfl ⟨_, rfl, _, _, rfl, rfl, _, _, rfl, rfl, (show (0 : Int) < 4 by decide), ?_⟩⟩
        exact ⟨_, y9, y10, y11, y12, y13, as, ss, rfl, S4, hf, hs, hA, hP⟩
      | m =>
        refine ⟨_, rfl, rfl, _, rfl, itN (by decide) ⟨_, rfl, rfl, _, rfl, itY rfl ⟨_, rfl, _, _, rfl, rfl, _, _, rfl, rfl, (show (0 : Int) < 4 by decide), ?_⟩⟩⟩
        refine ⟨some (Sy.v .m), y9, y10, y11, y12, y13, as, ss, ?_, S4, hf, hs, hA, hP⟩
        have e : (pe.h - 1) % 4 = (pe.h + 3) % 4 := by omega
        show [_, _, _, _, _, some (V.int ((pe.h - 1) % 4)), _, _, _, _, _, _, _, _] = _
        rw [e]
        rfl
      | o =>
        refine ⟨_, rfl, rfl, _, rfl, itN (by decide) ⟨_, rfl, rfl, _, rfl, itN (by decide) ⟨_, rfl, rfl, _, rfl, itY rfl ⟨_, rfl, .inl ⟨rfl, _, SqL.of hs⟩, _, rfl, _, rfl, _, rfl, szl 3, fun H5 p5 S5 n5 h5 => ⟨sb, _, _, rfl, rfl, S5 _ _ hs, ?_, ?_⟩⟩⟩⟩⟩
        · rw [List.length_map, sizeLine_eq]; omega
        · have hs5 := S5 _ _ hs
          have T5 : TupS H5 (upd H5 sb (.lst (ss.map V.ref ++ [V.ref p5]))) := TupS.refl.lst hs5
          refine ⟨_, y9, y10, y11, y12, y13, as, ss ++ [p5], rfl, sPut (S4.trans S5) n1, by rw [upd_ne nfs]; exact S5 _ _ hf, by rw [upd_same, List.map_append]; rfl, (hA.keep (.of S5)).keep T5, ?_⟩
          exact Paired.snoc ((hP.keep (.of S5)).keep T5) (T5.1 _ _ h5)
      | c =>
        refine ⟨_, rfl, rfl, _, rfl, itN (by decide) ⟨_, rfl, rfl, _, rfl, itN (by decide) ⟨_, rfl, rfl, _, rfl, itN (by decide) ⟨_, rfl, rfl, _, rfl, itY rfl ?_⟩⟩⟩⟩
        cases hl : pe.st.getLast? with
        | none =>
          rw [List.getLast?_eq_none_iff] at hl
          rw [hl] at hst
          exact absurd rfl hst
        | some t =>
          obtain ⟨tx, ty, th⟩ := t
          obtain ⟨la, g1, g2, g3⟩ := paired_last hP hl
          have e2 : pstepE E pe .c = { pe with x := tx, y := ty, h := th, st := pe.st.dropLast } := by
            show (match pe.st.getLast? with
              | some (a, b, c) => { pe with x := a, y := b, h := c, st := pe.st.dropLast }
              | none => pe) = _
            rw [hl]
          rw [e2]
          have g1' : (ss.map V.ref)[(ss.map V.ref).length - 1]? = some (V.ref la) := by
            rw [← List.getLast?_eq_getElem?, List.getLast?_map, g1]; rfl
          refine ⟨_, rfl, .inl ⟨rfl, _, SqL.of hs⟩, sb, _, _, rfl, rfl, hs, g1', ?_⟩
          have T5 : TupS H4 (upd H4 sb (.lst (ss.map V.ref).dropLast)) := TupS.refl.lst hs
          refine ⟨la, _, rfl, SqT.of (T5.1 _ _ g2), rfl, _, _, rfl, _, _, rfl, _, _, rfl, rfl, ?_⟩
          exact ⟨_, y9, y10, y11, y12, y13, as, ss.dropLast, rfl, sPut S4 n1, by rw [upd_ne nfs]; exact hf, by rw [upd_same, List.map_dropLast], hA.keep T5, Pls.keep T5 g3⟩
      | l kk =>
        refine ⟨_, rfl, rfl, _, rfl, itN (fun z => nomatch z) ⟨_, rfl, rfl, _, rfl, itN (fun z => nomatch z) ⟨_, rfl, rfl, _, rfl, itN (fun z => nomatch z) ⟨_, rfl, rfl, _, rfl, itN (fun z => nomatch z) ?_⟩⟩⟩⟩
        refine ⟨_, rfl, .inl ⟨rfl, _, SqL.of hf⟩, _, rfl, _, rfl, _, rfl, _, rfl, szl 4, fun H5 p5 S5 n5 h5 => ⟨fa, _, _, rfl, rfl, S5 _ _ hf, ?_, ?_⟩⟩
        · rw [List.length_map, sizeLine_eq]; omega
        have hf5 := S5 _ _ hf
        have T6 : TupS H5 (upd H5 fa (.lst (as.map V.ref ++ [V.ref p5]))) := TupS.refl.lst hf5
        have S6 : Same H (upd H5 fa (.lst (as.map V.ref ++ [V.ref p5]))) := sPut (S4.trans S5) nfa
        have hf6 : (upd H5 fa (.lst (as.map V.ref ++ [V.ref p5]))) fa = some (.lst ((as ++ [p5]).map V.ref)) := by rw [upd_same, List.map_append]; rfl
        have hs6 : (upd H5 fa (.lst (as.map V.ref ++ [V.ref p5]))) sb = some (.lst (ss.map V.ref)) := by rw [upd_ne nfs.symm]; exact S5 _ _ hs
        have hA6 : Strs (upd H5 fa (.lst (as.map V.ref ++ [V.ref p5]))) (as ++ [p5]) (pe.out ++ [(pe.x, pe.y, pe.h, kk)]) := Paired.snoc ((hA.keep (.of S5)).keep T6) (T6.1 _ _ h5)
        have hP6 := (hP.keep (.of S5)).keep T6
        generalize upd H5 fa (.lst (as.map V.ref ++ [V.ref p5])) = H6 at S6 hf6 hs6 hA6 hP6
        obtain ⟨te, v1, v2⟩ := (hE kk (List.mem_of_getElem? hsy)).same S6
        refine ⟨_, rfl, _, rfl, d, .ref te, rfl, by rw [← v1]; exact DGet.k (k := Sum.inl (kk : Int)) (S6 _ _ hd), te, _, rfl, v2, rfl, _, _, rfl, _, _, rfl, _, _, rfl, rfl, ?_⟩
        refine ⟨_, rfl, _, rfl, _, rfl, _, _, _, rfl, ph.1, ph.2, fun H7 p7 S7 n7 h7 => ?_⟩
        refine ⟨p7, _, rfl, SqT.of h7, rfl, _, _, rfl, _, _, rfl, rfl, _, rfl, _, rfl, _, _, rfl, rfl, _, rfl, _, rfl, _, _, rfl, rfl, ?_⟩
        refine ⟨_, rfl, _, rfl, _, _, rfl, rfl, _, _, rfl, rfl, (show (0 : Int) < 4 by decide), ?_⟩
        exact ⟨_, _, _, _, _, _, as ++ [p5], ss, rfl, S6.trans S7, S7 _ _ hf6, S7 _ _ hs6, hA6.keep (.of S7), hP6.keep (.of S7)⟩
    · rintro σ H4 ⟨y8, y9, y10, y11, y12, y13, as, ss, rfl, S4, hf, hs, hA, hP⟩
      rw [List.length_map, List.take_length] at hA
      refine ⟨_, rfl, _, rfl, _, rfl, _, rfl, szl 3, fun H5 e5 S5 n5 h5 => ⟨szl 2, fun H6 t6 S6 n6 h6 => ?_⟩⟩
      rw [List.length_map, List.take_length] at h5
      exact q H6 t6 fa e5 as ((S4.trans S5).trans S6) ((S4.trans S5).free n6) h6 nfa (S6 _ _ (S5 _ _ hf)) ((hA.keep (.of S5)).keep (.of S6)) (S6 _ _ h5)
end
end SK
namespace SK
open PySem PySem.Spec PyProof.Rows L2
/-! ### the letters that come -/
theorem grow_lets2 {ws : List (List Sy)} (hg : ∀ w ∈ ws, Good ws.length 40 w) {w : List Sy} (h : ∀ k, Sy.l k ∈ w → k < ws.length) : ∀ k, Sy.l k ∈ grow ws w → k < ws.length := by
  intro k hk
  obtain ⟨s, hs, hi⟩ := List.mem_flatMap.mp hk
  exact img_lets hg (s := s) (fun j e => h j (e ▸ hs)) k hi
theorem grown_lets' {ws : List (List Sy)} {pst : List Sy} (hg : ∀ w ∈ ws, Good ws.length 40 w) (h : ∀ k, Sy.l k ∈ pst → k < ws.length) : ∀ n k, Sy.l k ∈ grown ws pst n → k < ws.length
  | 0 => h
  | n + 1 => grow_lets2 hg (grown_lets' hg h n)
theorem grow_from {ws : List (List Sy)} {w : List Sy} {k : Nat} : Sy.l k ∈ grow ws w ↔ ∃ j, Sy.l j ∈ w ∧ Sy.l k ∈ ws.getD j [] := by
  constructor
  · intro h
    obtain ⟨s, hs, hi⟩ := List.mem_flatMap.mp h
    cases s with
    | l j => exact ⟨j, hs, hi⟩
    | p => exact absurd (List.mem_singleton.mp hi) (fun z => by cases z)
    | m => exact absurd (List.mem_singleton.mp hi) (fun z => by cases z)
    | o => exact absurd (List.mem_singleton.mp hi) (fun z => by cases z)
    | c => exact absurd (List.mem_singleton.mp hi) (fun z => by cases z)
  · rintro ⟨j, hj, hk⟩
    exact List.mem_flatMap.mpr ⟨_, hj, hk⟩
/-- ahead of an age -/
def Ahead (ws : List (List Sy)) (pst : List Sy) (i k : Nat) : Prop := ∃ m, m < i ∧ Sy.l k ∈ grown ws pst m
/-- the letters that stand first at an age -/
def Fresh (ws : List (List Sy)) (pst : List Sy) (i k : Nat) : Prop := Sy.l k ∈ grown ws pst i ∧ ¬ Ahead ws pst i k
def Comes (ws : List (List Sy)) (pst : List Sy) (k : Nat) : Prop := ∃ m, Sy.l k ∈ grown ws pst m
theorem ahead_succ {ws : List (List Sy)} {pst : List Sy} {i k : Nat} : Ahead ws pst (i + 1) k ↔ Ahead ws pst i k ∨ Fresh ws pst i k := by
  constructor
  · rintro ⟨m, hm, h⟩
    by_cases z : Ahead ws pst i k
    · exact .inl z
    · refine .inr ⟨?_, z⟩
      have e : m = i := by
        by_cases e : m < i
        · exact absurd ⟨m, e, h⟩ z
        · omega
      rw [← e]; exact h
  · rintro (⟨m, hm, h⟩ | ⟨h, _⟩)
    · exact ⟨m, by omega, h⟩
    · exact ⟨i, by omega, h⟩
theorem fresh_succ {ws : List (List Sy)} {pst : List Sy} {i k : Nat} : Fresh ws pst (i + 1) k ↔ (∃ j, Fresh ws pst i j ∧ Sy.l k ∈ ws.getD j []) ∧ ¬ Ahead ws pst (i + 1) k := by
  constructor
  · rintro ⟨h, n⟩
    refine ⟨?_, n⟩
    obtain ⟨j, hj, hk⟩ := grow_from.mp h
    refine ⟨j, ⟨hj, fun ⟨m, hm, z⟩ => n ⟨m + 1, by omega, grow_from.mpr ⟨j, z, hk⟩⟩⟩, hk⟩
  · rintro ⟨⟨j, ⟨hj, _⟩, hk⟩, n⟩
    exact ⟨grow_from.mpr ⟨j, hj, hk⟩, n⟩
/-- where no letter is fresh, all have come -/
theorem comes_all {ws : List (List Sy)} {pst : List Sy} {i : Nat} (h : ∀ k, ¬ Fresh ws pst i k) (k : Nat) : Comes ws pst k ↔ Ahead ws pst i k := by
  refine ⟨fun ⟨m, hm⟩ => ?_, fun ⟨m, _, hm⟩ => ⟨m, hm⟩⟩
  have step : ∀ d k, Sy.l k ∈ grown ws pst (i + d) → Ahead ws pst i k := by
    intro d
    induction d with
    | zero =>
      intro k hk
      by_cases z : Ahead ws pst i k
      · exact z
      · exact absurd ⟨hk, z⟩ (h k)
    | succ d ih =>
      intro k hk
      obtain ⟨j, hj, hkj⟩ := grow_from.mp (show Sy.l k ∈ grow ws (grown ws pst (i + d)) from hk)
      obtain ⟨m, hm, hmj⟩ := ih j hj
      by_cases z : m + 1 < i
      · exact ⟨m + 1, z, grow_from.mpr ⟨j, hmj, hkj⟩⟩
      · by_cases z2 : Ahead ws pst i k
        · exact z2
        · refine absurd ⟨?_, z2⟩ (h k)
          have e : m + 1 = i := by omega
          rw [← e]
          exact grow_from.mpr ⟨j, hmj, hkj⟩
  by_cases z : m < i
  · exact ⟨m, z, hm⟩
  · exact step (m - i) k (by rw [show i + (m - i) = m by omega]; exact hm)
/-! ### a table with numbers as keys -/
structure KeyS (F : Nat → Nat → Prop) (S : Nat → Prop) (ks : List Nat) (kvs : List (Key × V)) : Prop where
  keys : kvs.map (·.1) = ks.map fun (k : Nat) => (Sum.inl (k : Int) : Key)
  nd : ks.Nodup
  mem : ∀ k, k ∈ ks ↔ S k
  val : ∀ (k : Nat), S k → ∃ m : Nat, valV kvs (.inl (k : Int)) = some (.int (m : Int)) ∧ F k m
theorem KeyS.has {F : Nat → Nat → Prop} {S : Nat → Prop} {ks : List Nat} {kvs : List (Key × V)} (h : KeyS F S ks kvs) (k : Nat) : (valV kvs (.inl (k : Int))).isSome = true ↔ S k := by
  rw [← valV_any, List.any_eq_true, ← h.mem]
  constructor
  · rintro ⟨p, hp, e⟩
    have e : p.1 = Sum.inl (k : Int) := of_decide_eq_true e
    have : p.1 ∈ kvs.map (·.1) := List.mem_map_of_mem hp
    rw [h.keys, e] at this
    obtain ⟨j, hj, z⟩ := List.mem_map.mp this
    injection z with z
    have : j = k := by omega
    exact this ▸ hj
  · intro hk
    have : (Sum.inl (k : Int) : Key) ∈ kvs.map (·.1) := by
      rw [h.keys]
      exact List.mem_map_of_mem hk
    obtain ⟨p, hp, e⟩ := List.mem_map.mp this
    exact ⟨p, hp, decide_eq_true e⟩
theorem KeyS.len {F : Nat → Nat → Prop} {S : Nat → Prop} {ks : List Nat} {kvs : List (Key × V)} (h : KeyS F S ks kvs) : kvs.length = ks.length := by
  have := congrArg List.length h.keys
  rw [List.length_map, List.length_map] at this
  exact this
theorem keys_old {kvs : List (Key × V)} {k : Key} {v : V} (h : (kvs.any fun kv => decide (kv.1 = k)) = true) : (putK kvs k v).map (·.1) = kvs.map (·.1) := by
  unfold putK
  rw [if_pos h, List.map_map]
  refine List.map_congr_left fun p _ => ?_
  show (if p.1 = k then (p.1, v) else p).1 = p.1
  split <;> rfl
theorem KeyS.put {F : Nat → Nat → Prop} {S : Nat → Prop} {ks : List Nat} {kvs : List (Key × V)} (h : KeyS F S ks kvs) {k m : Nat} (hf : F k m) : ∃ ks', KeyS F (fun j => S j ∨ j = k) ks' (putK kvs (.inl (k : Int)) (.int (m : Int))) := by
  have val : ∀ (j : Nat), (S j ∨ j = k) → ∃ m' : Nat, valV (putK kvs (.inl (k : Int)) (.int (m : Int))) (.inl (j : Int)) = some (.int (m' : Int)) ∧ F j m' := fun j hj => by
    rw [valV_put]
    by_cases e : j = k
    · subst e
      exact ⟨m, by rw [if_pos rfl], hf⟩
    · rw [if_neg (fun z => e (by injection z with z; omega))]
      exact h.val j (hj.resolve_right e)
  cases z : valV kvs (.inl (k : Int)) with
  | some x =>
    have hk : S k := (h.has k).mp (by rw [z]; rfl)
    refine ⟨ks, by rw [keys_old (by rw [valV_any, z]; rfl)]; exact h.keys, h.nd, fun j => ?_, val⟩
    rw [h.mem]
    exact ⟨.inl, fun c => c.elim id fun e => e ▸ hk⟩
  | none =>
    have hk : ¬ S k := fun c => by
      have := (h.has k).mpr c
      rw [z] at this
      cases this
    refine ⟨ks ++ [k], ?_, ?_, fun j => ?_, val⟩
    · rw [putK_new _ z, List.map_append, List.map_append, h.keys]
      rfl
    · rw [List.nodup_append]
      refine ⟨h.nd, List.nodup_cons.mpr ⟨(fun z => nomatch z), List.nodup_nil⟩, fun a ha b hb e => ?_⟩
      rw [List.mem_singleton.mp hb] at e
      subst e
      exact hk ((h.mem _).mp ha)
    · rw [List.mem_append, h.mem, List.mem_singleton]
theorem KeyS.iff {F : Nat → Nat → Prop} {S S' : Nat → Prop} {ks : List Nat} {kvs : List (Key × V)} (h : KeyS F S ks kvs) (e : ∀ k, S' k ↔ S k) : KeyS F S' ks kvs := ⟨h.keys, h.nd, fun k => (h.mem k).trans (e k).symm, fun k hk => h.val k ((e k).mp hk)⟩
/-- the first age of a letter -/
def FirstAge (ws : List (List Sy)) (pst : List Sy) (k m : Nat) : Prop := Fresh ws pst m k
def spAges (K : PySem.W.Frag) : Sp := fun vs H Q _ => ∃ (p q : Addr) (as : List Addr) (ws : List (List Sy)) (pst : List Sy), vs = [.ref p, .ref q] ∧ H p = some (.tup (as.map V.ref)) ∧ Words H as ws ∧ Sq K H q (wv pst) ∧ ws.length ≤ 8 ∧ (∀ w ∈ ws, Good ws.length 40 w) ∧ (∀ k, Sy.l k ∈ pst → k < ws.length) ∧
  ∀ (H' : Hp) (D : Addr) (ks : List Nat) (kvs : List (Key × V)), Same H H' → H D = none → H' D = some (.dK kvs) → KeyS (FirstAge ws pst) (Comes ws pst) ks kvs → Q (.ref D) H'
theorem few_keys {n : Nat} {ks : List Nat} (nd : ks.Nodup) (h : ∀ k ∈ ks, k < n) : ks.length ≤ n := by
  have := nat_nodup_len ks (List.range n) nd fun k hk => List.mem_range.mpr (h k hk)
  rw [List.length_range] at this
  exact this
section
variable {P : Program} {w : World} {K : PySem.W.Frag} {mg : Str → Option Value} {base : Heap}
theorem ok_ages {f : Addr} {fd : FuncData} {k : Nat} (F : Fun K "ages_of_letters" "ages_of_letters" s_ages_of_letters f fd) (GL : Got P w K mg base "letters_in" k ["parts"] (spLettersIn K)) (GN : Got P w K mg base "next_letters" k ["words", "letters"] spNext) :
    FnOk P w K mg base CX0 (k + 1) f fd ["words", "parts"] (spAges K) := by
  refine F.ok sc_ages_of_letters (fun vs H Q E h => ?_) (fun cdv A outer s H vs Q E hr h => ?_)
  · obtain ⟨p, q, as, ws, pst, rfl, _⟩ := h
    rfl
  · obtain ⟨p, pq, as, ws, pst, rfl, hp, hw, hq, h8, hg, hl, q⟩ := h
    have nd := sc_ages_of_letters.nd
    refine ⟨_, pss_cons (ps_set (i := 2) nd rfl (.inr rfl) pe_dnewK)
      (pss_cons (ps_set (i := 3) nd rfl (.inl rfl) pe_int)
      (pss_cons (ps_set (i := 4) nd rfl (.inl rfl) (pcall GL hr (pa_cons (pv 1) pa_nil)))
      (pss_cons (ps_while PassesOwn.never (pt_truth (pv 4) (by intro _; rfl))
        (pss_cons (ps_for PassesOwn.never rfl (pi_list (pv 4)) (pg_name (i := 5) nd rfl (.inl rfl))
          (pss_one (ps_dput (hu_of hr) (pv 2) (pv 5) (pv 3) rfl)))
        (pss_cons (ps_setLc (i := 4) (own := [("letter", 5)]) (g := gName 5) rfl nd rfl rfl (sw_true rfl rfl rfl (by decide +kernel)) (pi_list (pcall GN hr (pa_cons (pv 0) (pa_cons (pv 4) pa_nil)))) (blkOk_by (N := n_ages_of_letters) (sc := defScope s_ages_of_letters) (by decide +kernel))
            (fun _ _ _ _ _ => pg_name (i := 5) nd rfl (Or.inl rfl)) (fun _ _ _ _ _ => pts_one (pt_cmp (pc_dnotin (hu_of hr) (pv 5) (pv 2)))) (fun _ _ _ _ _ => pv 5))
        (pss_one (ps_aug (i := 3) nd rfl (.inl rfl) pe_int ip_add)))))
      (pss_one (ps_ret (pv 2)))))), ?_⟩
    refine fun D nD => ⟨_, rfl, pq, pst, rfl, hq.same (same_upd nD), fun k hk => Nat.lt_of_lt_of_le (hl k hk) h8, fun H1 l1 ls S1 n1 h1 hm1 hl1 => ?_⟩
    have S01 := (same_upd (o := .dK []) nD).trans S1
    have fewK : ∀ {i : Nat} {ks : List Nat} {kvs : List (Key × V)}, KeyS (FirstAge ws pst) (Ahead ws pst i) ks kvs → ks.length ≤ 8 := fun h => by
      have := few_keys h.nd (n := ws.length) fun k hk => by
        obtain ⟨m, _, hm⟩ := (h.mem k).mp hk
        exact grown_lets' hg hl m k hm
      omega
    refine ⟨fun m σ H' => ∃ (i : Nat) (lp : Addr) (fr ks : List Nat) (kvs : List (Key × V)) (y5 : Option V), σ = [some (.ref p), some (.ref pq), some (.ref D), some (.int (i : Nat)), some (.ref lp), y5] ∧ Same H H' ∧ H' D = some (.dK kvs) ∧ KeyS (FirstAge ws pst) (Ahead ws pst i) ks kvs ∧ H' lp = some (.lst (iV fr)) ∧ (∀ k, k ∈ fr ↔ Fresh ws pst i k) ∧ fr.length ≤ 8 ∧ m = 8 - ks.length,
      ⟨_, 0, l1, ls, [], [], none, rfl, S01, S1 _ _ upd_same, ⟨rfl, List.nodup_nil, fun k => ⟨(fun h => nomatch h), fun ⟨m, h, _⟩ => absurd h (Nat.not_lt_zero _)⟩, fun k ⟨m, h, _⟩ => absurd h (Nat.not_lt_zero _)⟩, h1, fun k => ?_, hl1, rfl⟩, ?_⟩
    · rw [hm1]
      exact ⟨fun h => ⟨h, fun ⟨m, h, _⟩ => absurd h (Nat.not_lt_zero _)⟩, fun h => h.1⟩
    rintro m σ H2 ⟨i, lp, fr, ks, kvs, y5, rfl, S2, hD, hK, hlp, hfr, hf8, rfl⟩
    have frw : ∀ k ∈ fr, k < ws.length := fun k hk => grown_lets' hg hl i k ((hfr k).mp hk).1
    rcases List.eq_nil_or_concat fr with hfe | ⟨fr0, k0, hfe⟩
    · refine ⟨_, rfl, false, .inl ⟨iV fr, SqL.of hlp, by rw [hfe]; rfl⟩, ?_⟩
      refine iteF ⟨_, rfl, q H2 D ks kvs S2 nD hD (hK.iff fun k => ?_)⟩
      exact comes_all (fun k hk => by
        have := (hfr k).mpr hk
        rw [hfe] at this
        cases this) k
    · have hk0 : k0 ∈ fr := by rw [hfe]; simp
      refine ⟨_, rfl, true, .inl ⟨iV fr, SqL.of hlp, by rw [hfe]; unfold iV; simp⟩, ?_⟩
      clear hfe
      have nlp : lp ≠ D := ne_of hlp hD (by intro z; cases z)
      refine iteT ⟨fun σ' H' => ∃ m', m' < 8 - ks.length ∧ _, fun σ' H' h => h, ?_⟩
      refine ⟨_, rfl, lp, rfl, ⟨_, SqL.of hlp⟩, for_list (K := K) (a := lp) (xs := iV fr) (fun t σ H' => ∃ (ks' : List Nat) (kvs' : List (Key × V)) (y5 : Option V), σ = [some (.ref p), some (.ref pq), some (.ref D), some (.int (i : Nat)), some (.ref lp), y5] ∧ SameX D H2 H' ∧ H' D = some (.dK kvs') ∧ KeyS (FirstAge ws pst) (fun j => Ahead ws pst i j ∨ j ∈ fr.take t) ks' kvs')
        ⟨ks, kvs, y5, rfl, .refl, hD, hK.iff fun k => by simp⟩ (fun t σ H' _ ⟨_, _, _, _, s, _⟩ => SqL.of (s _ _ nlp hlp)) ?_ ?_⟩
      · rintro t x σ H3 hx ⟨ks', kvs', y5, rfl, S3, hD3, hK3⟩
        obtain ⟨j, hj, rfl⟩ := iV_get hx
        have hjf := (hfr j).mp (List.mem_of_getElem? hj)
        obtain ⟨ks2, hK4⟩ := hK3.put (k := j) (m := i) hjf
        have l3 : kvs'.length ≤ 8 := by
          rw [hK3.len]
          have := few_keys hK3.nd (n := ws.length) fun k hk => by
            rcases (hK3.mem k).mp hk with ⟨m, _, hm⟩ | h
            · exact grown_lets' hg hl m k hm
            · exact frw k (List.mem_of_mem_take h)
          omega
        refine ⟨_, rfl, _, rfl, _, rfl, D, _, rfl, DPut.k (k := Sum.inl (j : Int)) hD3 (by rw [sizeLine_eq]; omega), ks2, _, _, rfl, S3.at, upd_same, hK4.iff fun k => ?_⟩
        rw [take_more hj, List.mem_append, List.mem_singleton, or_assoc]
      · rintro σ H3 ⟨ks', kvs', y5, rfl, S3, hD3, hK3⟩
        have hK3 : KeyS (FirstAge ws pst) (Ahead ws pst (i + 1)) ks' kvs' := hK3.iff fun k => by
          have lz : (iV fr).length = fr.length := by unfold iV; rw [List.length_map]
          rw [lz, List.take_length, hfr, ahead_succ]
        have S03 : Same H H3 := fun b o e => S3 b o (ne_of_none e nD) (S2 b o e)
        have hlp3 := S3 _ _ nlp hlp
        have k8 := fewK hK3
        have more : ks.length + 1 ≤ ks'.length := by
          refine nat_nodup_len (k0 :: ks) ks' (List.nodup_cons.mpr ⟨fun z => ?_, hK.nd⟩) fun x hx => ?_
          · exact ((hfr k0).mp hk0).2 ((hK.mem k0).mp z)
          · rw [hK3.mem, ahead_succ]
            rcases List.mem_cons.mp hx with rfl | hx
            · exact .inr ((hfr _).mp hk0)
            · exact .inl ((hK.mem x).mp hx)
        refine ⟨_, rfl, _, rfl, p, lp, as, ws, fr, rfl, S03 _ _ hp, hw.keep (.of S03), hlp3, frw, hf8, h8, hg, fun H4 l4 ls4 S4 n4 h4 hm4 hl4 => ⟨l4, rfl, ⟨_, SqL.of h4⟩, fun L nL => ?_⟩⟩
        have hD4 := S4 _ _ hD3
        refine lc_list (K := K) (a := l4) (xs := iV ls4) (fun t H' => Same H4 H' ∧ ∃ acc : List Nat, H' L = some (.lst (iV acc)) ∧ acc.length ≤ t ∧ ∀ k, k ∈ acc ↔ k ∈ ls4.take t ∧ ¬ Ahead ws pst (i + 1) k)
          ⟨same_upd nL, [], upd_same, Nat.le_refl _, fun k => by simp⟩ (fun t H' _ h => h.1.seq (SqL.of h4)) ?_ ?_
        · rintro t x H5 hx ⟨S5, acc, hL, ha, hm⟩
          obtain ⟨j, hj, rfl⟩ := iV_get hx
          have ht : t < ls4.length := (List.getElem?_eq_some_iff.mp hj).1
          refine ⟨rfl, _, rfl, _, rfl, D, _, rfl, DGet.k (k := Sum.inl (j : Int)) (S5 _ _ hD4), _, rfl, ?_⟩
          cases hv : valV kvs' (Sum.inl (j : Int)) with
          | none =>
            have hj' : ¬ Ahead ws pst (i + 1) j := fun c => by
              have := (hK3.has j).mpr c
              rw [hv] at this
              cases this
            refine iteT ⟨_, rfl, _, hL, ?_, sPut S5 nL, acc ++ [j], ?_, ?_, fun k => ?_⟩
            · unfold iV; rw [List.length_map, sizeLine_eq]; omega
            · rw [upd_same]; unfold iV; rw [List.map_append]; rfl
            · rw [List.length_append, List.length_singleton]; omega
            · rw [List.mem_append, List.mem_singleton, hm, take_more hj, List.mem_append, List.mem_singleton]
              constructor
              · rintro (⟨a, b⟩ | rfl)
                · exact ⟨.inl a, b⟩
                · exact ⟨.inr rfl, hj'⟩
              · rintro ⟨a | a, b⟩
                · exact .inl ⟨a, b⟩
                · exact .inr a
          | some x =>
            have hj' : Ahead ws pst (i + 1) j := (hK3.has j).mp (by rw [hv]; rfl)
            refine iteF ⟨S5, acc, hL, by omega, fun k => ?_⟩
            rw [hm, take_more hj, List.mem_append, List.mem_singleton]
            constructor
            · rintro ⟨a, b⟩
              exact ⟨.inl a, b⟩
            · rintro ⟨a | rfl, b⟩
              · exact ⟨a, b⟩
              · exact absurd hj' b
        · rintro H5 ⟨S5, acc, hL, ha, hm⟩
          have lz : (iV ls4).length = ls4.length := by unfold iV; rw [List.length_map]
          rw [lz, List.take_length] at hm
          rw [lz] at ha
          refine ⟨_, rfl, _, _, rfl, rfl, 8 - ks'.length, by omega, i + 1, L, acc, ks', kvs', _, rfl, (S03.trans S4).trans S5, S5 _ _ hD4, hK3, hL, fun k => ?_, by omega, rfl⟩
          rw [hm, hm4, fresh_succ]
          refine and_congr_left fun _ => ⟨fun ⟨j, a, b⟩ => ⟨j, (hfr j).mp a, b⟩, fun ⟨j, a, b⟩ => ⟨j, (hfr j).mpr a, b⟩⟩
end
theorem int_nat_list {ys : List Int} {ks : List Nat} (h : ys.Perm (ks.map fun (k : Nat) => (k : Int))) : ys = (ys.map Int.toNat).map fun (k : Nat) => (k : Int) := by
  rw [List.map_map]
  refine (List.map_id ys).symm.trans (List.map_congr_left fun y hy => ?_)
  obtain ⟨k, _, rfl⟩ := List.mem_map.mp (h.mem_iff.mp hy)
  rfl
def spComing (K : PySem.W.Frag) : Sp := fun vs H Q _ => ∃ (p q : Addr) (as : List Addr) (ws : List (List Sy)) (pst : List Sy), vs = [.ref p, .ref q] ∧ H p = some (.tup (as.map V.ref)) ∧ Words H as ws ∧ Sq K H q (wv pst) ∧ ws.length ≤ 8 ∧ (∀ w ∈ ws, Good ws.length 40 w) ∧ (∀ k, Sy.l k ∈ pst → k < ws.length) ∧
  ∀ (H' : Hp) (l : Addr) (cl : List Nat), Same H H' → H l = none → H' l = some (.lst (iV cl)) → (∀ k, k ∈ cl ↔ Comes ws pst k) → cl.Nodup → cl.Pairwise (· ≤ ·) → cl.length ≤ 8 → Q (.ref l) H'
section
variable {P : Program} {w : World} {K : PySem.W.Frag} {mg : Str → Option Value} {base : Heap}
theorem ok_coming {f : Addr} {fd : FuncData} {k : Nat} (F : Fun K "coming_letters" "coming_letters" s_coming_letters f fd) (GA : Got P w K mg base "ages_of_letters" k ["words", "parts"] (spAges K)) (mO : mg "sorted" = none) :
    FnOk P w K mg base CX0 (k + 1) f fd ["words", "parts"] (spComing K) := by
  refine F.ok sc_coming_letters (fun vs H Q E h => ?_) (fun cdv A outer s H vs Q E hr h => ?_)
  · obtain ⟨p, q, as, ws, pst, rfl, _⟩ := h
    rfl
  · obtain ⟨p, pq, as, ws, pst, rfl, hp, hw, hq, h8, hg, hl, q⟩ := h
    refine ⟨_, pss_one (ps_ret (pe_callB (call_sortedDI (by rfl)) (by rfl) mO (by decide +kernel) (pa_cons (pcall GA hr (pa_cons (pv 0) (pa_cons (pv 1) pa_nil))) pa_nil) (by decide) (by decide))), ?_⟩
    refine ⟨_, rfl, _, rfl, p, pq, as, ws, pst, rfl, hp, hw, hq, h8, hg, hl, fun H1 D ks kvs S1 nD hD hK => ?_⟩
    have l8 : ks.length ≤ 8 := by
      have := few_keys hK.nd (n := ws.length) fun k hk => by
        obtain ⟨m, hm⟩ := (hK.mem k).mp hk
        exact grown_lets' hg hl m k hm
      omega
    refine ⟨D, kvs, ks.map fun (k : Nat) => (k : Int), rfl, .inl hD, by rw [hK.keys, List.map_map]; rfl, by rw [List.length_map]; omega, fun ys l hp hs nl => ?_⟩
    have e := int_nat_list hp
    have hp2 : (ys.map Int.toNat).Perm ks := by
      have := hp.map Int.toNat
      rw [List.map_map] at this
      refine this.trans (List.Perm.of_eq ((List.map_congr_left fun k _ => ?_).trans (List.map_id ks)))
      rfl
    refine q _ l (ys.map Int.toNat) (S1.trans (same_upd nl)) (S1.free nl) ?_ (fun k => (hp2.mem_iff).trans (hK.mem k)) (hp2.nodup_iff.mpr hK.nd) ?_ (by rw [hp2.length_eq]; exact l8)
    · rw [upd_same]
      have e2 : ys.map V.int = iV (ys.map Int.toNat) := by
        refine (congrArg (List.map V.int) e).trans ?_
        rw [List.map_map]
        rfl
      rw [e2]
    · rw [List.pairwise_map]
      exact hs.imp fun h => by omega
end
end SK
namespace SK
open PySem PySem.Spec PyProof.Rows L2
/-! ### what letters come to, age by age -/
/-- a sum over the letters of a word -/
def wsum (N : Nat → Nat) : List Sy → Nat
  | [] => 0
  | .l k :: w => N k + wsum N w
  | _ :: w => wsum N w
def vlist (N : Nat → Nat) : List Sy → List Int
  | [] => []
  | .l k :: w => (N k : Int) :: vlist N w
  | _ :: w => vlist N w
theorem vlist_app (N : Nat → Nat) : ∀ a b : List Sy, vlist N (a ++ b) = vlist N a ++ vlist N b
  | [], b => rfl
  | .l k :: a, b => congrArg (_ :: ·) (vlist_app N a b)
  | .p :: a, b => vlist_app N a b
  | .m :: a, b => vlist_app N a b
  | .o :: a, b => vlist_app N a b
  | .c :: a, b => vlist_app N a b
theorem vlist_sum (N : Nat → Nat) : ∀ w : List Sy, (vlist N w).sum = (wsum N w : Int)
  | [] => rfl
  | .l k :: w => by
    show (N k : Int) + (vlist N w).sum = ((N k + wsum N w : Nat) : Int)
    rw [vlist_sum N w, Int.natCast_add]
  | .p :: w => vlist_sum N w
  | .m :: w => vlist_sum N w
  | .o :: w => vlist_sum N w
  | .c :: w => vlist_sum N w
theorem vlist_len (N : Nat → Nat) : ∀ w : List Sy, (vlist N w).length ≤ w.length
  | [] => Nat.le_refl _
  | .l k :: w => Nat.succ_le_succ (vlist_len N w)
  | .p :: w => Nat.le_succ_of_le (vlist_len N w)
  | .m :: w => Nat.le_succ_of_le (vlist_len N w)
  | .o :: w => Nat.le_succ_of_le (vlist_len N w)
  | .c :: w => Nat.le_succ_of_le (vlist_len N w)
theorem nL_growG (G : Nat → List Sy) : ∀ w : List Sy, nL (growG G w) = wsum (fun k => nL (G k)) w
  | [] => rfl
  | s :: w => by
    have e : growG G (s :: w) = imgG G s ++ growG G w := rfl
    rw [e, nL_app, nL_growG G w]
    cases s with
    | l k => rfl
    | p => exact Nat.zero_add _
    | m => exact Nat.zero_add _
    | o => exact Nat.zero_add _
    | c => exact Nat.zero_add _
/-- how many strokes a letter has become -/
def nLg (ws : List (List Sy)) (m k : Nat) : Nat := nL (gI ws m k)
theorem nLg_zero (ws : List (List Sy)) (k : Nat) : nLg ws 0 k = 1 := rfl
theorem nLg_succ (ws : List (List Sy)) (m k : Nat) : nLg ws (m + 1) k = wsum (nLg ws m) (ws.getD k []) := nL_growG (gI ws m) (ws.getD k [])
theorem nL_grown (ws : List (List Sy)) (st : List Sy) (n : Nat) : nL (grown ws st n) = wsum (nLg ws n) st := by
  have e := growG_grown ws st n 0
  rw [Nat.zero_add] at e
  rw [← e]
  exact nL_growG _ _
theorem nest_growG {G : Nat → List Sy} : ∀ {w : List Sy} {d e : Nat}, (∀ k, Sy.l k ∈ w → nest (G k) 0 = some 0) → nest w d = some e → nest (growG G w) d = some e
  | [], d, e, _, h => h
  | s :: w, d, e, hl, h => by
    have hl' : ∀ k, Sy.l k ∈ w → nest (G k) 0 = some 0 := fun k hk => hl k (List.mem_cons_of_mem _ hk)
    show nest (imgG G s ++ growG G w) d = some e
    rw [nest_app]
    cases s with
    | l j =>
      have up : ∀ (w : List Sy) (d e k : Nat), nest w d = some e → nest w (d + k) = some (e + k) := by
        intro w
        induction w with
        | nil => intro d e k h; cases h; rfl
        | cons s w ih =>
          intro d e k h
          cases s with
          | o =>
            have := ih (d + 1) e k h
            rw [show d + 1 + k = d + k + 1 by omega] at this
            exact this
          | c =>
            cases d with
            | zero => cases h
            | succ d =>
              have := ih d e k h
              rw [show d + 1 + k = (d + k) + 1 by omega]
              exact this
          | p => exact ih d e k h
          | m => exact ih d e k h
          | l j => exact ih d e k h
      have := up (G j) 0 0 d (hl j List.mem_cons_self)
      rw [Nat.zero_add] at this
      show (nest (G j) d).bind (nest (growG G w)) = some e
      rw [this]
      exact nest_growG hl' h
    | o => exact nest_growG hl' (show nest w (d + 1) = some e from h)
    | c =>
      cases d with
      | zero => cases h
      | succ d => exact nest_growG hl' (show nest w d = some e from h)
    | p => exact nest_growG hl' (show nest w d = some e from h)
    | m => exact nest_growG hl' (show nest w d = some e from h)
theorem getD_good {ws : List (List Sy)} (hg : ∀ w ∈ ws, Good ws.length 40 w) {k : Nat} (h : k < ws.length) : Good ws.length 40 (ws.getD k []) := by
  rw [List.getD_eq_getElem?_getD, List.getElem?_eq_getElem h]
  exact hg _ (List.getElem_mem h)
theorem nest_gI {ws : List (List Sy)} (hg : ∀ w ∈ ws, Good ws.length 40 w) : ∀ m k, k < ws.length → nest (gI ws m k) 0 = some 0
  | 0, k, _ => rfl
  | m + 1, k, h => nest_growG (fun j hj => nest_gI hg m j ((getD_good hg h).lets j hj)) (getD_good hg h).nst
/-- the strokes that a stroke of the coarser path is drawn as -/
def fineG (E : Pth) (G : Nat → List Sy) (s : Stk) : List Stk := (penE E (G s.2.2.2)).out.map (sh (s.1, s.2.1, s.2.2.1))
theorem grow_penG {G : Nat → List Sy} {E E' : Pth} : ∀ (w : List Sy), (∀ k, Sy.l k ∈ w → nest (G k) 0 = some 0 ∧ E' k = (penE E (G k)).pl) → ∀ (p p' : Pen), p.pl = p'.pl → p.st = p'.st → HOk p → p.out = p'.out.flatMap (fineG E G) →
    (penF E p (growG G w)).pl = (penF E' p' w).pl ∧ (penF E p (growG G w)).st = (penF E' p' w).st ∧ (penF E p (growG G w)).out = (penF E' p' w).out.flatMap (fineG E G)
  | [], _, p, p', h1, h2, _, h4 => ⟨h1, h2, h4⟩
  | s :: w, hw, p, p', h1, h2, hk, h4 => by
    have hw' : ∀ k, Sy.l k ∈ w → nest (G k) 0 = some 0 ∧ E' k = (penE E (G k)).pl := fun k hk => hw k (List.mem_cons_of_mem _ hk)
    rw [show growG G (s :: w) = imgG G s ++ growG G w from rfl, penF_app, penF_cons]
    have step : ∀ q q' : Pen, q.pl = q'.pl → q.st = q'.st → HOk q → q.out = q'.out.flatMap (fineG E G) → _ := fun q q' a b c d => grow_penG w hw' q q' a b c d
    have hxy : p.x = p'.x ∧ p.y = p'.y ∧ p.h = p'.h := ⟨congrArg (·.1) h1, congrArg (·.2.1) h1, congrArg (·.2.2) h1⟩
    cases s with
    | l k =>
      obtain ⟨hn, he⟩ := hw k List.mem_cons_self
      obtain ⟨r1, r2, r3⟩ := path_run E hn hk
      refine step _ _ ?_ (r2.trans h2) (hok_run _ hk) ?_
      · show (penF E p (G k)).pl = mv p'.pl (E' k)
        rw [r1, h1, he]
      · show (penF E p (G k)).out = (p'.out ++ [(p'.x, p'.y, p'.h, k)]).flatMap (fineG E G)
        rw [r3, h4, List.flatMap_append, h1]
        simp only [List.flatMap_cons, List.flatMap_nil, List.append_nil]
        rfl
    | o =>
      refine step _ _ h1 ?_ (hok_step (E := E) hk .o) h4
      show p.st ++ [(p.x, p.y, p.h)] = p'.st ++ [(p'.x, p'.y, p'.h)]
      rw [h2, hxy.1, hxy.2.1, hxy.2.2]
    | c =>
      have e : ∀ (F : Pth) (q : Pen), pstepE F q .c = match q.st.getLast? with
        | some (a, b, c) => { q with x := a, y := b, h := c, st := q.st.dropLast }
        | none => q := fun _ _ => rfl
      refine step (pstepE E p .c) (pstepE E' p' .c) ?_ ?_ (hok_step (E := E) hk .c) ?_ <;> rw [e, e, h2] <;> cases p'.st.getLast? <;> first | exact h1 | exact h2 | exact h4 | rfl
    | p =>
      refine step _ _ ?_ h2 (hok_step (E := E) hk .p) h4
      show (p.x, p.y, (p.h + 1) % 4) = (p'.x, p'.y, (p'.h + 1) % 4)
      rw [hxy.1, hxy.2.1, hxy.2.2]
    | m =>
      refine step _ _ ?_ h2 (hok_step (E := E) hk .m) h4
      show (p.x, p.y, (p.h + 3) % 4) = (p'.x, p'.y, (p'.h + 3) % 4)
      rw [hxy.1, hxy.2.1, hxy.2.2]
/-- where a letter's path ends -/
def Eg (ws : List (List Sy)) (m k : Nat) : Plc := (penE one (gI ws m k)).pl
theorem Eg_zero (ws : List (List Sy)) (k : Nat) : Eg ws 0 k = (1, 0, 0) := rfl
/-- the strokes of what a word has become, from a place on -/
theorem far_pen {ws : List (List Sy)} (hg : ∀ w ∈ ws, Good ws.length 40 w) (m : Nat) {w : List Sy} (hl : ∀ k, Sy.l k ∈ w → k < ws.length) {p : Plc} (hp : 0 ≤ p.2.2 ∧ p.2.2 < 4) :
    (penF one (stt p) (growG (gI ws m) w)).pl = (penF (Eg ws m) (stt p) w).pl ∧ (penF one (stt p) (growG (gI ws m) w)).out = (penF (Eg ws m) (stt p) w).out.flatMap (fineG one (gI ws m)) := by
  have := grow_penG (G := gI ws m) (E := one) (E' := Eg ws m) w (fun k hk => ⟨nest_gI hg m k (hl k hk), rfl⟩) (stt p) (stt p) rfl rfl (hok_stt hp) rfl
  exact ⟨this.1, this.2.2⟩
theorem Eg_succ {ws : List (List Sy)} (hg : ∀ w ∈ ws, Good ws.length 40 w) (m k : Nat) (h : k < ws.length) : Eg ws (m + 1) k = (penE (Eg ws m) (ws.getD k [])).pl :=
  (far_pen hg m (p := (0, 0, 0)) (fun j hj => (getD_good hg h).lets j hj) ⟨by decide, by decide⟩).1
theorem grown_gI (ws : List (List Sy)) (st : List Sy) (n : Nat) : grown ws st n = growG (gI ws n) st := by
  have e := growG_grown ws st n 0
  rw [Nat.zero_add] at e
  exact e.symm
/-- as many strokes as letters -/
theorem out_len (E : Pth) : ∀ (w : List Sy) (p : Pen), (penF E p w).out.length = p.out.length + nL w
  | [], p => rfl
  | s :: w, p => by
    rw [penF_cons, out_len E w, show nL (s :: w) = nL [s] + nL w from nL_app [s] w]
    cases s with
    | l k => show (p.out ++ [_]).length + _ = _; rw [List.length_append]; show p.out.length + 1 + nL w = p.out.length + (1 + nL w); omega
    | o => show p.out.length + nL w = p.out.length + (0 + nL w); omega
    | p => show p.out.length + nL w = p.out.length + (0 + nL w); omega
    | m => show p.out.length + nL w = p.out.length + (0 + nL w); omega
    | c =>
      have e : pstepE E p .c = match p.st.getLast? with
        | some (a, b, c) => { p with x := a, y := b, h := c, st := p.st.dropLast }
        | none => p := rfl
      have e2 : (pstepE E p .c).out = p.out := by rw [e]; cases p.st.getLast? <;> rfl
      rw [e2]
      show p.out.length + nL w = p.out.length + (0 + nL w)
      omega
theorem fine_len (ws : List (List Sy)) (m : Nat) (s : Stk) : (fineG one (gI ws m) s).length = nLg ws m s.2.2.2 := by
  unfold fineG nLg penE
  rw [List.length_map, out_len]
  exact Nat.zero_add _
theorem sh_zero {a : Plc} (h : 0 ≤ a.2.2 ∧ a.2.2 < 4) (k : Nat) : sh a (0, 0, 0, k) = (a.1, a.2.1, a.2.2, k) := by
  have e0 : rot a.2.2 (0, 0) = (0, 0) := by rcases rot4 a.2.2 with ⟨_, e⟩ | ⟨_, e⟩ | ⟨_, e⟩ | ⟨_, e⟩ <;> rw [e] <;> rfl
  unfold sh mv
  dsimp only
  rw [e0]
  refine Prod.ext ?_ (Prod.ext ?_ (Prod.ext ?_ rfl))
  · show a.1 + 0 = a.1; omega
  · show a.2.1 + 0 = a.2.1; omega
  · show (a.2.2 + 0) % 4 = a.2.2; omega
theorem fine_zero (ws : List (List Sy)) {s : Stk} (h : 0 ≤ s.2.2.1 ∧ s.2.2.1 < 4) : fineG one (gI ws 0) s = [s] := by
  show [sh (s.1, s.2.1, s.2.2.1) (0, 0, 0, s.2.2.2)] = [s]
  rw [sh_zero (a := (s.1, s.2.1, s.2.2.1)) h]
theorem fine_succ {ws : List (List Sy)} (hg : ∀ w ∈ ws, Good ws.length 40 w) (m : Nat) {s : Stk} (hs : s.2.2.2 < ws.length) (h : 0 ≤ s.2.2.1 ∧ s.2.2.1 < 4) :
    fineG one (gI ws (m + 1)) s = (penF (Eg ws m) (stt (s.1, s.2.1, s.2.2.1)) (ws.getD s.2.2.2 [])).out.flatMap (fineG one (gI ws m)) := by
  have hn := nest_gI hg (m + 1) s.2.2.2 hs
  have r := path_run one hn (hok_stt (p := (s.1, s.2.1, s.2.2.1)) h)
  have f := far_pen hg m (p := (s.1, s.2.1, s.2.2.1)) (fun j hj => (getD_good hg hs).lets j hj) h
  have e : gI ws (m + 1) s.2.2.2 = growG (gI ws m) (ws.getD s.2.2.2 []) := rfl
  rw [← f.2, ← e, r.2.2]
  rfl
end SK
namespace SK
open PySem PySem.Spec PyProof.Rows L2
/-! ### growth.py -/
def spStrokesOf : Sp := fun vs H Q _ => ∃ (a d : Addr) (w : List Sy) (kvs : List (Key × V)) (N : Nat → Nat), vs = [.ref a, .ref d] ∧ WdAt H a w ∧ H d = some (.dK kvs) ∧ (∀ k, Sy.l k ∈ w → valV kvs (.inl (k : Int)) = some (.int (N k : Nat))) ∧ w.length ≤ 1000000 ∧ ∀ H', Same H H' → Q (.int (wsum N w : Nat)) H'
/-- a table by letters -/
def TabF (Φ : Nat → Option V → Prop) (ls : List Nat) (kvs : List (Key × V)) : Prop := ∀ k ∈ ls, Φ k (valV kvs (.inl (k : Int)))
theorem TabF.put {Φ : Nat → Option V → Prop} {ls : List Nat} {kvs : List (Key × V)} {j : Nat} {v : V} (h : TabF Φ ls kvs) (hj : Φ j (some v)) : TabF Φ (ls ++ [j]) (putK kvs (.inl (j : Int)) v) := by
  intro k hk
  rw [valV_put]
  by_cases e : k = j
  · subst e
    rw [if_pos rfl]
    exact hj
  · rw [if_neg (fun z => e (by injection z with z; omega))]
    rcases List.mem_append.mp hk with h' | h'
    · exact h k h'
    · exact absurd (List.mem_singleton.mp h') e
theorem TabF.mono {Φ Ψ : Nat → Option V → Prop} {ls : List Nat} {kvs : List (Key × V)} (h : TabF Φ ls kvs) (f : ∀ k o, Φ k o → Ψ k o) : TabF Ψ ls kvs := fun k hk => f k _ (h k hk)
/-- a table for each age -/
def RowsF (H : Hp) (rs : List Addr) (n : Nat) (cl : List Nat) (Φ : Nat → Nat → Option V → Prop) : Prop := rs.length = n + 1 ∧ ∀ m, m ≤ n → ∃ d kvs, rs[m]? = some d ∧ H d = some (.dK kvs) ∧ TabF (Φ m) cl kvs
theorem RowsF.same {H H' : Hp} {rs : List Addr} {n : Nat} {cl : List Nat} {Φ Ψ : Nat → Nat → Option V → Prop} (h : RowsF H rs n cl Φ) (s : Same H H') (f : ∀ m k o, Φ m k o → Ψ m k o) : RowsF H' rs n cl Ψ :=
  ⟨h.1, fun m hm => let ⟨d, kvs, a, b, c⟩ := h.2 m hm; ⟨d, kvs, a, s _ _ b, c.mono (f m)⟩⟩
def isN (N : Nat → Nat → Nat) : Nat → Nat → Option V → Prop := fun m k o => o = some (.int (N m k : Nat))
def isE (K : PySem.W.Frag) (H : Hp) (E : Nat → Pth) : Nat → Nat → Option V → Prop := fun m k o => ∃ e, o = some (.ref e) ∧ SqT K H e (plV (E m k))
theorem isE.same {K : PySem.W.Frag} {H H' : Hp} {E : Nat → Pth} (s : Same H H') : ∀ m k o, isE K H E m k o → isE K H' E m k o := fun m k o ⟨e, a, b⟩ => ⟨e, a, sTup s b⟩
theorem sq_tup {K : PySem.W.Frag} {H H' : Hp} {a : Addr} {xs : List V} (t : TupS H H') (h : SqT K H a xs) : SqT K H' a xs := by
  rcases h with (h | ⟨o, h⟩) | h
  · exact .inl (.inl (t.1 _ _ h))
  · exact .inl (.inr ⟨o, t.2 _ _ _ h⟩)
  · exact .inr h
theorem isE.tup {K : PySem.W.Frag} {H H' : Hp} {E : Nat → Pth} (t : TupS H H') : ∀ m k o, isE K H E m k o → isE K H' E m k o := fun m k o ⟨e, a, b⟩ => ⟨e, a, sq_tup t b⟩
/-- letters that become none but themselves -/
structure Closed (ws : List (List Sy)) (cl : List Nat) : Prop where
  few : cl.length ≤ 8
  lt : ∀ k ∈ cl, k < ws.length
  cl : ∀ k ∈ cl, ∀ j, Sy.l j ∈ ws.getD k [] → j ∈ cl
theorem closed_comes {ws : List (List Sy)} {st : List Sy} {cl : List Nat} (hg : ∀ w ∈ ws, Good ws.length 40 w) (hl : ∀ k, Sy.l k ∈ st → k < ws.length) (h : ∀ k, k ∈ cl ↔ Comes ws st k) (h8 : cl.length ≤ 8) : Closed ws cl :=
  ⟨h8, fun k hk => let ⟨m, hm⟩ := (h k).mp hk; grown_lets' hg hl m k hm, fun k hk j hj => (h j).mpr (let ⟨m, hm⟩ := (h k).mp hk; ⟨m + 1, grow_from.mpr ⟨k, hm, hj⟩⟩)⟩
def spSByAge : Sp := fun vs H Q _ => ∃ (p l : Addr) (n : Nat) (as : List Addr) (ws : List (List Sy)) (cl : List Nat), vs = [.ref p, .ref l, .int n] ∧ H p = some (.tup (as.map V.ref)) ∧ Words H as ws ∧ H l = some (.lst (iV cl)) ∧ (∀ w ∈ ws, Good ws.length 40 w) ∧ Closed ws cl ∧ n ≤ 1000 ∧
  ∀ (H' : Hp) (ro : Addr) (rs : List Addr), Same H H' → H ro = none → H' ro = some (.lst (rs.map V.ref)) → RowsF H' rs n cl (isN (nLg ws)) → Q (.ref ro) H'
def spEByAge (K : PySem.W.Frag) : Sp := fun vs H Q _ => ∃ (p l : Addr) (n : Nat) (as : List Addr) (ws : List (List Sy)) (cl : List Nat), vs = [.ref p, .ref l, .int n] ∧ H p = some (.tup (as.map V.ref)) ∧ Words H as ws ∧ H l = some (.lst (iV cl)) ∧ (∀ w ∈ ws, Good ws.length 40 w) ∧ Closed ws cl ∧ n ≤ 1000 ∧
  ∀ (H' : Hp) (ro : Addr) (rs : List Addr), Same H H' → H ro = none → H' ro = some (.lst (rs.map V.ref)) → RowsF H' rs n cl (isE K H' (Eg ws)) → Q (.ref ro) H'
section
variable {P : Program} {w : World} {K : PySem.W.Frag} {mg : Str → Option Value} {base : Heap}
theorem ok_strokesof {f : Addr} {fd : FuncData} {k : Nat} (F : Fun K "strokes_of" "strokes_of" s_strokes_of f fd) (mI : mg "isinstance" = none) (mS : mg "str" = none) (mU : mg "sum" = none) : FnOk P w K mg base CX0 (k + 1) f fd ["word", "strokes"] spStrokesOf := by
  refine F.ok sc_strokes_of (fun vs H Q E h => ?_) (fun cdv A outer s H vs Q E hr h => ?_)
  · obtain ⟨a, d, w, kvs, N, rfl, _⟩ := h
    rfl
  · obtain ⟨a, d, wd, kvs, N, rfl, ha, hd, hN, hl, q⟩ := h
    have nd := sc_strokes_of.nd
    refine ⟨_, pss_one (ps_ret (pe_callB (cr_sum rfl) (by rfl) mU (by decide +kernel) (pa_cons (pe_lc (own := [("part", 2)]) (g := gName 2) (tt := tNotStr K 2) (te := tDGet (tVar 1) (tVar 2)) rfl nd (pi_tup (pv 0)) (blkOk_by (N := n_strokes_of) (sc := defScope s_strokes_of) (by decide +kernel))
        (fun _ _ _ _ _ => pg_name (i := 2) nd rfl (Or.inl rfl)) (fun _ _ _ _ _ => pts_one (ptNotStr mI mS (pv 2))) (fun _ _ _ _ _ => pe_dget (hu_of hr) (pv 1) (pv 2) (fun _ _ => rfl))) pa_nil) (by decide) (by decide))), ?_⟩
    refine ⟨_, rfl, a, rfl, ⟨_, ha.sq⟩, fun D nD => ?_⟩
    refine lc_tup (K := K) (a := a) (xs := wv wd) (fun i H' => Same H H' ∧ H' D = some (.lst ((vlist N (wd.take i)).map V.int))) ⟨same_upd nD, upd_same⟩ (fun i H' _ h => (ha.same h.1).sq) ?_ ?_
    · rintro i x H1 hx ⟨S1, hD⟩
      obtain ⟨s, hs, rfl⟩ := wv_get hx
      have hi : i < wd.length := (List.getElem?_eq_some_iff.mp hs).1
      obtain ⟨tn, tb, ht, hk, htb⟩ := ty_sy (K := K) (H := H1) s
      refine ⟨rfl, _, rfl, s.v, tn, tb, rfl, ht, hk, tb, rfl, ?_⟩
      subst htb
      rw [Bool.not_not]
      have e : vlist N (wd.take (i + 1)) = vlist N (wd.take i) ++ vlist N [s] := by rw [take_more hs, vlist_app]
      have lv := vlist_len N (wd.take i)
      rw [List.length_take] at lv
      cases s with
      | l j =>
        refine iteT ⟨_, rfl, _, rfl, d, .int (N j : Nat), rfl, by rw [← hN j (List.mem_of_getElem? hs)]; exact DGet.k (k := Sum.inl (j : Int)) (S1 _ _ hd), _, hD, ?_, sPut S1 nD, ?_⟩
        · rw [List.length_map, sizeLine_eq]; omega
        · rw [upd_same, e, List.map_append]; rfl
      | p => exact iteF ⟨S1, by rw [hD, e]; show _ = some (HO.lst ((vlist N (wd.take i) ++ []).map V.int)); rw [List.append_nil]⟩
      | m => exact iteF ⟨S1, by rw [hD, e]; show _ = some (HO.lst ((vlist N (wd.take i) ++ []).map V.int)); rw [List.append_nil]⟩
      | o => exact iteF ⟨S1, by rw [hD, e]; show _ = some (HO.lst ((vlist N (wd.take i) ++ []).map V.int)); rw [List.append_nil]⟩
      | c => exact iteF ⟨S1, by rw [hD, e]; show _ = some (HO.lst ((vlist N (wd.take i) ++ []).map V.int)); rw [List.append_nil]⟩
    · rintro H1 ⟨S1, hD⟩
      rw [List.length_map, List.take_length] at hD
      refine ⟨D, _, rfl, SqL.of hD, ?_⟩
      rw [vlist_sum]
      exact q H1 S1
theorem ok_sbyage {f : Addr} {fd : FuncData} {k : Nat} (F : Fun K "strokes_by_age" "strokes_by_age" s_strokes_by_age f fd) (GS : Got P w K mg base "strokes_of" k ["word", "strokes"] spStrokesOf) (mR : mg "range" = none) : FnOk P w K mg base CX0 (k + 1) f fd ["words", "letters", "age"] spSByAge := by
  refine F.ok sc_strokes_by_age (fun vs H Q E h => ?_) (fun cdv A outer s H vs Q E hr h => ?_)
  · obtain ⟨p, l, n, as, ws, cl, rfl, _⟩ := h
    rfl
  · obtain ⟨p, l, n, as, ws, cl, rfl, hp, hw, hl, hg, hc, hn, q⟩ := h
    have nd := sc_strokes_by_age.nd
    refine ⟨_, pss_cons (ps_set (i := 3) nd rfl (.inl rfl) (plstN (pa_cons (pe_dc (own := [("letter", 6)]) (g := gName 6) (tt := tYes) (tk := tVar 6) (tv := tC (.int 1)) rfl nd (pi_list (pv 1)) (blkOk_by (N := n_strokes_by_age) (sc := defScope s_strokes_by_age) (by decide +kernel))
          (fun _ _ _ _ _ => pg_name (i := 6) nd rfl (Or.inl rfl)) (fun _ _ _ _ _ => pts_nil) (fun _ _ _ _ _ => pv 6) (fun _ _ _ _ _ => pe_int)) pa_nil)))
      (pss_cons (ps_for PassesOwn.never rfl (pi_range1 rfl mR (pa_cons (pv 2) pa_nil)) (pg_name (i := 4) nd rfl (.inl rfl))
        (pss_cons (ps_set (i := 5) nd rfl (.inr rfl) (pix (pv 3) (pe_un un_neg pe_int)))
        (pss_one (sapp (pv 3) (pe_dc (own := [("letter", 6)]) (g := gName 6) (tt := tYes) (tk := tVar 6) (tv := tCall spStrokesOf [] E0 (tCons (tOp (rIxT K) (tVar 0) (tVar 6)) (tCons (tVar 5) tNil))) rfl nd (pi_list (pv 1)) (blkOk_by (N := n_strokes_by_age) (sc := defScope s_strokes_by_age) (by decide +kernel))
          (fun _ _ _ _ _ => pg_name (i := 6) nd rfl (Or.inl rfl)) (fun _ _ _ _ _ => pts_nil) (fun _ _ _ _ _ => pv 6) (fun _ _ _ _ _ => pcall GS hr (pa_cons (pixT (pv 0) (pv 6)) (pa_cons (pv 5) pa_nil))))))))
      (pss_one (ps_ret (pv 3)))), ?_⟩
    have lz : (iV cl).length = cl.length := by unfold iV; rw [List.length_map]
    have c8 := hc.few
    refine ⟨_, rfl, l, rfl, ⟨_, SqL.of hl⟩, fun D nD => ?_⟩
    refine walk_by (walk_list (K := K) (a := l) (xs := iV cl)) (fun i H' => ∃ kvs, Same H H' ∧ H' D = some (.dK kvs) ∧ kvs.length ≤ i ∧ TabF (isN (nLg ws) 0) (cl.take i) kvs) ⟨[], same_upd nD, upd_same, Nat.le_refl _, fun k hk => by simp at hk⟩ (fun i H' ⟨_, s, _⟩ => s.seq (SqL.of hl)) ?_ ?_
    · rintro i x H4 H5 hi ⟨kvs, S4, hD, hlen, ht⟩ ⟨rfl, hx⟩
      obtain ⟨j, hj, rfl⟩ := iV_get hx
      have hi8 : i < 8 := by
        have := (List.getElem?_eq_some_iff.mp hj).1
        omega
      refine ⟨rfl, _, rfl, kvs, Sum.inl (j : Int), rfl, hD, ?_, putK kvs (Sum.inl (j : Int)) (.int 1), sPut S4 nD, upd_same, ?_, ?_⟩
      · rw [sizeLine_eq]; omega
      · have := length_putK kvs (Sum.inl (j : Int)) (.int 1); omega
      · rw [take_more hj]
        exact ht.put rfl
    · rintro H1 ⟨kvs, S1, hD, hlen, ht⟩
      rw [lz, List.take_length] at ht
      refine ⟨szl 1, fun H2 ro S2 n2 h2 => ?_⟩
      have nro : H ro = none := S1.free n2
      have S02 := S1.trans S2
      refine ⟨_, rfl, (n : Int), rfl, by omega, by omega, ?_⟩
      rw [Int.toNat_natCast]
      refine for_range (lo := 0) (n := n) (fun i σ H' => ∃ (rs : List Addr) (y4 y5 y6 : Option V), σ = [some (.ref p), some (.ref l), some (.int n), some (.ref ro), y4, y5, y6] ∧ Same H H' ∧ H' ro = some (.lst (rs.map V.ref)) ∧ RowsF H' rs i cl (isN (nLg ws)))
        ⟨[D], _, _, _, rfl, S02, h2, ⟨rfl, fun m hm => ⟨D, kvs, by rw [show m = 0 by omega]; rfl, S2 _ _ hD, by rw [show m = 0 by omega]; exact ht⟩⟩⟩ ?_ ?_
      · rintro i σ H3 hi ⟨rs, y4, y5, y6, rfl, S3, hro, hP⟩
        obtain ⟨di, ki, e1, e2, e3⟩ := hP.2 i (Nat.le_refl _)
        have lrs := hP.1
        have hlast : atI (rs.map V.ref) (-1) = some (V.ref di) := by
          have hx : rs = rs.take i ++ [di] := by
            rw [← take_more e1, List.take_of_length_le (by omega)]
          rw [hx, List.map_append]
          exact atI_last _ _
        refine ⟨_, rfl, _, rfl, ro, _, _, _, rfl, rfl, SqL.of hro, hlast, ?_⟩
        refine ⟨_, rfl, .inl ⟨rfl, _, SqL.of hro⟩, _, rfl, l, rfl, ⟨_, SqL.of (S3 _ _ hl)⟩, fun D2 nD2 => ?_⟩
        refine walk_by (walk_list (K := K) (a := l) (xs := iV cl)) (fun t H' => ∃ kvs2, Same H3 H' ∧ H' D2 = some (.dK kvs2) ∧ kvs2.length ≤ t ∧ TabF (isN (nLg ws) (i + 1)) (cl.take t) kvs2) ⟨[], same_upd nD2, upd_same, Nat.le_refl _, fun k hk => by simp at hk⟩ (fun t H' ⟨_, s, _⟩ => s.seq (SqL.of (S3 _ _ hl))) ?_ ?_
        · rintro t x H8 H9 htl ⟨kvs2, S8, hD2, hl2, ht2⟩ ⟨rfl, hx⟩
          obtain ⟨j, hj, rfl⟩ := iV_get hx
          have hjm := List.mem_of_getElem? hj
          have hjw := hc.lt j hjm
          have ht8 : t < 8 := by
            have := (List.getElem?_eq_some_iff.mp hj).1
            omega
          obtain ⟨wa, hwa, hwt⟩ := paired_get hw (List.getElem?_eq_getElem hjw)
          have ed : ws.getD j [] = ws[j] := by rw [List.getD_eq_getElem?_getD, List.getElem?_eq_getElem hjw]; rfl
          rw [← ed] at hwt
          have S08 := S3.trans S8
          have gl := (getD_good hg hjw).len
          refine ⟨rfl, _, rfl, _, rfl, _, rfl, p, _, _, .ref wa, rfl, rfl, SqT.of (S08 _ _ hp), atI_nat (by rw [List.getElem?_map, hwa]; rfl), _, rfl, wa, di, ws.getD j [], ki, nLg ws i, rfl, hwt.same S08, S8 _ _ e2, fun k hk => e3 k (hc.cl j hjm k hk), by omega, fun Ha Sa => ⟨kvs2, Sum.inl (j : Int), rfl, Sa _ _ hD2, ?_, putK kvs2 (Sum.inl (j : Int)) _, sPut (S8.trans Sa) nD2, upd_same, ?_, ?_⟩⟩
          · rw [sizeLine_eq]; omega
          · have := length_putK kvs2 (Sum.inl (j : Int)) (.int (wsum (nLg ws i) (ws.getD j []) : Nat)); omega
          · rw [take_more hj]
            exact ht2.put (by show some _ = some (V.int (nLg ws (i + 1) j : Nat)); rw [nLg_succ])
        · rintro H8 ⟨kvs2, S8, hD2, hl2, ht2⟩
          rw [lz, List.take_length] at ht2
          have hro8 := S8 _ _ hro
          have nDr : D2 ≠ ro := ne_of hD2 hro8 (by intro z; cases z)
          refine ⟨ro, _, _, rfl, rfl, hro8, ?_, rs ++ [D2], _, _, _, rfl, sPut (S3.trans S8) nro, by rw [upd_same, List.map_append]; rfl, ?_, fun m hm => ?_⟩
          · rw [List.length_map, sizeLine_eq]; omega
          · rw [List.length_append, lrs]; rfl
          · by_cases z : m ≤ i
            · obtain ⟨dm, km, a1, a2, a3⟩ := hP.2 m z
              have a2' := S8 _ _ a2
              refine ⟨dm, km, by rw [List.getElem?_append_left (by omega)]; exact a1, ?_, a3⟩
              rw [upd_ne (ne_of a2' hro8 (by intro z; cases z))]
              exact a2'
            · have e : m = i + 1 := by omega
              subst e
              refine ⟨D2, kvs2, by rw [List.getElem?_append_right (by omega), lrs, Nat.sub_self]; rfl, ?_, ht2⟩
              rw [upd_ne nDr]
              exact hD2
      · rintro σ H3 ⟨rs, y4, y5, y6, rfl, S3, hro, hP⟩
        exact ⟨_, rfl, q H3 ro rs S3 nro hro hP⟩
theorem ok_ebyage {f : Addr} {fd : FuncData} {k : Nat} (F : Fun K "ends_by_age" "ends_by_age" s_ends_by_age f fd) {pd sa : Addr} (GL : GotD P w K mg base "lay" k ["word", "ends", "pen"] [.ref pd] (spLay K)) (hPd : ModT K pd (plV (0, 0, 0))) (mS : mg "STROKE" = some (.ref sa)) (hS : ModT K sa (plV (1, 0, 0))) (mR : mg "range" = none) : FnOk P w K mg base CX0 (k + 1) f fd ["words", "letters", "age"] (spEByAge K) := by
  refine F.ok sc_ends_by_age (fun vs H Q E h => ?_) (fun cdv A outer s H vs Q E hr h => ?_)
  · obtain ⟨p, l, n, as, ws, cl, rfl, _⟩ := h
    rfl
  · obtain ⟨p, l, n, as, ws, cl, rfl, hp, hw, hl, hg, hc, hn, q⟩ := h
    have nd := sc_ends_by_age.nd
    refine ⟨_, pss_cons (ps_set (i := 3) nd rfl (.inl rfl) (plstN (pa_cons (pe_dc (own := [("letter", 6)]) (g := gName 6) (tt := tYes) (tk := tVar 6) (tv := tC (.ref sa)) rfl nd (pi_list (pv 1)) (blkOk_by (N := n_ends_by_age) (sc := defScope s_ends_by_age) (by decide +kernel))
          (fun _ _ _ _ _ => pg_name (i := 6) nd rfl (Or.inl rfl)) (fun _ _ _ _ _ => pts_nil) (fun _ _ _ _ _ => pv 6) (fun _ _ _ _ _ => pe_glob (v := .ref sa) rfl mS rfl)) pa_nil)))
      (pss_cons (ps_for PassesOwn.never rfl (pi_range1 rfl mR (pa_cons (pv 2) pa_nil)) (pg_name (i := 4) nd rfl (.inl rfl))
        (pss_cons (ps_set (i := 5) nd rfl (.inr rfl) (pix (pv 3) (pe_un un_neg pe_int)))
        (pss_one (sapp (pv 3) (pe_dc (own := [("letter", 6)]) (g := gName 6) (tt := tYes) (tk := tVar 6) (tv := tOp (rIxT K) (tCall (spLay K) [.ref pd] E0 (tCons (tOp (rIxT K) (tVar 0) (tVar 6)) (tCons (tVar 5) tNil))) (tC (.int 1))) rfl nd (pi_list (pv 1)) (blkOk_by (N := n_ends_by_age) (sc := defScope s_ends_by_age) (by decide +kernel))
          (fun _ _ _ _ _ => pg_name (i := 6) nd rfl (Or.inl rfl)) (fun _ _ _ _ _ => pts_nil) (fun _ _ _ _ _ => pv 6) (fun _ _ _ _ _ => pixT (pcallD GL hr (pa_cons (pixT (pv 0) (pv 6)) (pa_cons (pv 5) pa_nil))) pe_int))))))
      (pss_one (ps_ret (pv 3)))), ?_⟩
    have lz : (iV cl).length = cl.length := by unfold iV; rw [List.length_map]
    have c8 := hc.few
    refine ⟨_, rfl, l, rfl, ⟨_, SqL.of hl⟩, fun D nD => ?_⟩
    refine walk_by (walk_list (K := K) (a := l) (xs := iV cl)) (fun i H' => ∃ kvs, Same H H' ∧ H' D = some (.dK kvs) ∧ kvs.length ≤ i ∧ TabF (isE K H' (Eg ws) 0) (cl.take i) kvs) ⟨[], same_upd nD, upd_same, Nat.le_refl _, fun k hk => by simp at hk⟩ (fun i H' ⟨_, s, _⟩ => s.seq (SqL.of hl)) ?_ ?_
    · rintro i x H4 H5 hi ⟨kvs, S4, hD, hlen, ht⟩ ⟨rfl, hx⟩
      obtain ⟨j, hj, rfl⟩ := iV_get hx
      have hi8 : i < 8 := by
        have := (List.getElem?_eq_some_iff.mp hj).1
        omega
      refine ⟨rfl, _, rfl, kvs, Sum.inl (j : Int), rfl, hD, ?_, putK kvs (Sum.inl (j : Int)) (.ref sa), sPut S4 nD, upd_same, ?_, ?_⟩
      · rw [sizeLine_eq]; omega
      · have := length_putK kvs (Sum.inl (j : Int)) (.ref sa); omega
      · rw [take_more hj]
        exact (ht.mono (isE.tup (TupS.dict hD) 0)).put ⟨sa, rfl, hS.sq⟩
    · rintro H1 ⟨kvs, S1, hD, hlen, ht⟩
      rw [lz, List.take_length] at ht
      refine ⟨szl 1, fun H2 ro S2 n2 h2 => ?_⟩
      have nro : H ro = none := S1.free n2
      have S02 := S1.trans S2
      refine ⟨_, rfl, (n : Int), rfl, by omega, by omega, ?_⟩
      rw [Int.toNat_natCast]
      refine for_range (lo := 0) (n := n) (fun i σ H' => ∃ (rs : List Addr) (y4 y5 y6 : Option V), σ = [some (.ref p), some (.ref l), some (.int n), some (.ref ro), y4, y5, y6] ∧ Same H H' ∧ H' ro = some (.lst (rs.map V.ref)) ∧ RowsF H' rs i cl (isE K H' (Eg ws)))
        ⟨[D], _, _, _, rfl, S02, h2, ⟨rfl, fun m hm => ⟨D, kvs, by rw [show m = 0 by omega]; rfl, S2 _ _ hD, by rw [show m = 0 by omega]; exact ht.mono (isE.same S2 0)⟩⟩⟩ ?_ ?_
      · rintro i σ H3 hi ⟨rs, y4, y5, y6, rfl, S3, hro, hP⟩
        obtain ⟨di, ki, e1, e2, e3⟩ := hP.2 i (Nat.le_refl _)
        have lrs := hP.1
        have hlast : atI (rs.map V.ref) (-1) = some (V.ref di) := by
          have hx : rs = rs.take i ++ [di] := by
            rw [← take_more e1, List.take_of_length_le (by omega)]
          rw [hx, List.map_append]
          exact atI_last _ _
        refine ⟨_, rfl, _, rfl, ro, _, _, _, rfl, rfl, SqL.of hro, hlast, ?_⟩
        refine ⟨_, rfl, .inl ⟨rfl, _, SqL.of hro⟩, _, rfl, l, rfl, ⟨_, SqL.of (S3 _ _ hl)⟩, fun D2 nD2 => ?_⟩
        refine walk_by (walk_list (K := K) (a := l) (xs := iV cl)) (fun t H' => ∃ kvs2, Same H3 H' ∧ H' D2 = some (.dK kvs2) ∧ kvs2.length ≤ t ∧ TabF (isE K H' (Eg ws) (i + 1)) (cl.take t) kvs2) ⟨[], same_upd nD2, upd_same, Nat.le_refl _, fun k hk => by simp at hk⟩ (fun t H' ⟨_, s, _⟩ => s.seq (SqL.of (S3 _ _ hl))) ?_ ?_
        · rintro t x H8 H9 htl ⟨kvs2, S8, hD2, hl2, ht2⟩ ⟨rfl, hx⟩
          obtain ⟨j, hj, rfl⟩ := iV_get hx
          have hjm := List.mem_of_getElem? hj
          have hjw := hc.lt j hjm
          have ht8 : t < 8 := by
            have := (List.getElem?_eq_some_iff.mp hj).1
            omega
          obtain ⟨wa, hwa, hwt⟩ := paired_get hw (List.getElem?_eq_getElem hjw)
          have ed : ws.getD j [] = ws[j] := by rw [List.getD_eq_getElem?_getD, List.getElem?_eq_getElem hjw]; rfl
          rw [← ed] at hwt
          have S08 := S3.trans S8
          have gl := (getD_good hg hjw).len
          have gn : nest (ws.getD j []) 0 ≠ none := by rw [(getD_good hg hjw).nst]; exact (fun z => nomatch z)
          refine ⟨rfl, _, rfl, _, rfl, _, rfl, p, _, _, .ref wa, rfl, rfl, SqT.of (S08 _ _ hp), atI_nat (by rw [List.getElem?_map, hwa]; rfl), _, rfl, wa, di, pd, ws.getD j [], ki, Eg ws i, (0, 0, 0), rfl, hwt.same S08, S8 _ _ e2, fun k hk => ?_, hPd.sq, by decide, by decide, gn, by omega, fun Ha tt la ea asA Sa na ha nla hla hA he => ?_⟩
          · obtain ⟨ee, f1, f2⟩ := e3 k (hc.cl j hjm k hk)
            exact ⟨ee, f1, sTup S8 f2⟩
          · refine ⟨tt, _, _, .ref ea, rfl, rfl, SqT.of ha, at1, kvs2, Sum.inl (j : Int), rfl, Sa _ _ hD2, ?_, putK kvs2 (Sum.inl (j : Int)) (.ref ea), sPut (S8.trans Sa) nD2, upd_same, ?_, ?_⟩
            · rw [sizeLine_eq]; omega
            · have := length_putK kvs2 (Sum.inl (j : Int)) (.ref ea); omega
            · rw [take_more hj]
              have T2 : TupS Ha (upd Ha D2 (.dK (putK kvs2 (Sum.inl (j : Int)) (.ref ea)))) := TupS.dict (Sa _ _ hD2)
              refine (ht2.mono (isE.tup ((TupS.of Sa).trans T2) (i + 1))).put ⟨ea, rfl, SqT.of (T2.1 _ _ ?_)⟩
              rw [Eg_succ hg i j hjw]
              exact he
        · rintro H8 ⟨kvs2, S8, hD2, hl2, ht2⟩
          rw [lz, List.take_length] at ht2
          have hro8 := S8 _ _ hro
          have nDr : D2 ≠ ro := ne_of hD2 hro8 (by intro z; cases z)
          have T8 : TupS H8 (upd H8 ro (.lst (rs.map V.ref ++ [V.ref D2]))) := TupS.refl.lst hro8
          refine ⟨ro, _, _, rfl, rfl, hro8, ?_, rs ++ [D2], _, _, _, rfl, sPut (S3.trans S8) nro, by rw [upd_same, List.map_append]; rfl, ?_, fun m hm => ?_⟩
          · rw [List.length_map, sizeLine_eq]; omega
          · rw [List.length_append, lrs]; rfl
          · by_cases z : m ≤ i
            · obtain ⟨dm, km, a1, a2, a3⟩ := hP.2 m z
              have a2' := S8 _ _ a2
              refine ⟨dm, km, by rw [List.getElem?_append_left (by omega)]; exact a1, ?_, a3.mono (isE.tup ((TupS.of S8).trans T8) m)⟩
              rw [upd_ne (ne_of a2' hro8 (by intro z; cases z))]
              exact a2'
            · have e : m = i + 1 := by omega
              subst e
              refine ⟨D2, kvs2, by rw [List.getElem?_append_right (by omega), lrs, Nat.sub_self]; rfl, ?_, ht2.mono (isE.tup T8 (i + 1))⟩
              rw [upd_ne nDr]
              exact hD2
      · rintro σ H3 ⟨rs, y4, y5, y6, rfl, S3, hro, hP⟩
        exact ⟨_, rfl, q H3 ro rs S3 nro hro hP⟩
end
end SK
namespace SK
open PySem PySem.Spec PyProof.Rows L2
/-! ### ages.py -/
def spStrokesIn : Sp := fun vs H Q _ => ∃ (b : Addr) (n : Nat) (ws : List (List Sy)) (st : List Sy), vs = [.ref b, .int n] ∧ BookAt H b ws st ∧ GoodBook ws st ∧ n ≤ 1000 ∧ ∀ H', Same H H' → Q (.int (nL (grown ws st n) : Nat)) H'
def spEndAt : Sp := fun vs H Q _ => ∃ (b : Addr) (n : Nat) (ws : List (List Sy)) (st : List Sy), vs = [.ref b, .int n] ∧ BookAt H b ws st ∧ GoodBook ws st ∧ n ≤ 1000 ∧ ∀ (H' : Hp) (e : Addr), Same H H' → H' e = some (.tup (plV (pen (grown ws st n)).pl)) → Q (.ref e) H'
theorem far_end {ws : List (List Sy)} {st : List Sy} (g : GoodBook ws st) (n : Nat) : (penF (Eg ws n) (stt (0, 0, 0)) st).pl = (pen (grown ws st n)).pl := by
  have := (far_pen g.words n (w := st) (p := (0, 0, 0)) g.start.lets ⟨by decide, by decide⟩).1
  rw [← this, ← grown_gI]
  show (penE one (grown ws st n)).pl = _
  rw [pen_one]
theorem far_strokes {ws : List (List Sy)} {st : List Sy} (n : Nat) : (penF one (stt (0, 0, 0)) (growG (gI ws n) st)).out = strokes (grown ws st n) := by
  rw [← grown_gI]
  show (penE one (grown ws st n)).out = _
  rw [pen_one]
  rfl
theorem strokes_nL (w : List Sy) : (strokes w).length = nL w := by
  have := out_len one w org
  rw [show penF one org w = penE one w from rfl, pen_one] at this
  rw [show (strokes w).length = (pen w).out.length from rfl, this]
  exact Nat.zero_add _
theorem let_pen {E : Pth} : ∀ (w : List Sy) (p : Pen) (s : Stk), s ∈ (penF E p w).out → s ∈ p.out ∨ Sy.l s.2.2.2 ∈ w
  | [], p, s, h => .inl h
  | x :: w, p, s, h => by
    rw [penF_cons] at h
    rcases let_pen w _ s h with h | h
    · have no : (pstepE E p x).out = p.out → s ∈ p.out ∨ Sy.l s.2.2.2 ∈ x :: w := fun e => .inl (e ▸ h)
      cases x with
      | l k =>
        rcases List.mem_append.mp (show s ∈ p.out ++ [_] from h) with h | h
        · exact .inl h
        · rw [List.mem_singleton.mp h]; exact .inr List.mem_cons_self
      | o => exact no rfl
      | p => exact no rfl
      | m => exact no rfl
      | c =>
        refine no ?_
        have e : pstepE E p .c = match p.st.getLast? with
          | some (a, b, c) => { p with x := a, y := b, h := c, st := p.st.dropLast }
          | none => p := rfl
        rw [e]
        cases p.st.getLast? <;> rfl
    · exact .inr (List.mem_cons_of_mem _ h)
section
variable {P : Program} {w : World} {K : PySem.W.Frag} {mg : Str → Option Value} {base : Heap}
theorem ok_strokesin {f : Addr} {fd : FuncData} {k : Nat} (F : Fun K "strokes_in" "strokes_in" s_strokes_in f fd) (GB : GotD P w K mg base "check_book_and_age" k ["book", "age", "most"] [.int 1000] spCheckBA) (GC : Got P w K mg base "coming_letters" k ["words", "parts"] (spComing K))
    (GA : Got P w K mg base "strokes_by_age" k ["words", "letters", "age"] spSByAge) (GS : Got P w K mg base "strokes_of" k ["word", "strokes"] spStrokesOf) : FnOk P w K mg base CX0 (k + 1) f fd ["book", "age"] spStrokesIn := by
  refine F.ok sc_strokes_in (fun vs H Q E h => ?_) (fun cdv A outer s H vs Q E hr h => ?_)
  · obtain ⟨b, n, ws, st, rfl, _⟩ := h
    rfl
  · obtain ⟨b, n, ws, st, rfl, hb, hg, hn, q⟩ := h
    have nd := sc_strokes_in.nd
    refine ⟨_, pss_cons (ps_expr (pcallD GB hr (pa_cons (pv 0) (pa_cons (pv 1) pa_nil))))
      (pss_cons (ps_asg (pv 0) (pg_tup (by rfl) (pgs_cons (pg_name (i := 2) nd rfl (.inl rfl)) (pgs_cons (pg_name (i := 3) nd rfl (.inl rfl)) pgs_nil))))
      (pss_cons (ps_set (i := 4) nd rfl (.inl rfl) (pcall GA hr (pa_cons (pv 2) (pa_cons (pcall GC hr (pa_cons (pv 2) (pa_cons (pv 3) pa_nil))) (pa_cons (pv 1) pa_nil)))))
      (pss_one (ps_ret (pcall GS hr (pa_cons (pv 3) (pa_cons (pix (pv 4) (pv 1)) pa_nil))))))), ?_⟩
    obtain ⟨p, pq, as, h1, h2, h3, h4⟩ := id hb
    have hf := hg.few
    refine ⟨_, rfl, _, rfl, b, n, 1000, ws, st, rfl, hb, hg, hn, fun H1 S1 => ?_⟩
    refine ⟨_, rfl, b, _, rfl, SqT.of (S1 _ _ h1), rfl, _, _, rfl, _, _, rfl, rfl, ?_⟩
    refine ⟨_, rfl, _, rfl, _, rfl, p, pq, as, ws, st, rfl, S1 _ _ h2, h4.keep (.of S1), .inr (h3.same S1).sq, by omega, hg.words, hg.start.lets, fun H2 l cl S2 n2 hl hc nd2 _ l8 => ?_⟩
    have S02 := S1.trans S2
    have C := closed_comes hg.words hg.start.lets hc l8
    refine ⟨_, rfl, p, l, n, as, ws, cl, rfl, S02 _ _ h2, h4.keep (.of S02), hl, hg.words, C, hn, fun H3 ro rs S3 n3 hro hP => ?_⟩
    have S03 := S02.trans S3
    obtain ⟨d, kvs, e1, e2, e3⟩ := hP.2 n (Nat.le_refl _)
    have sl := hg.start.len
    refine ⟨_, rfl, _, rfl, _, rfl, ro, _, _, .ref d, rfl, rfl, SqL.of hro, atI_nat (by rw [List.getElem?_map, e1]; rfl), pq, d, st, kvs, nLg ws n, rfl, h3.same S03, e2, fun k hk => e3 k ((hc k).mpr ⟨0, hk⟩), by omega, fun H4 S4 => ?_⟩
    rw [← nL_grown]
    exact q H4 (S03.trans S4)
end
end SK
namespace SK
open PySem PySem.Spec PyProof.Rows L2
/-! xs.count(y), xs a list of flat values -/
def flatU (y : V) : Value → Bool
  | .int n _ => eqV (.int n) y
  | .str z _ => eqV (.str z) y
  | .bool b => eqV (.bl b) y
  | .none => eqV .non y
  | _ => false
theorem flatU_of {y x : V} {u : Value} (r : RelV x u) (fx : flatV x = true) : flatU y u = eqV x y := by
  cases x with
  | non => cases r; rfl
  | bl b => cases r; rfl
  | int i => obtain ⟨t, rfl⟩ := r; rfl
  | str z => obtain ⟨t, rfl⟩ := r; rfl
  | byt b => cases fx
  | flt b => cases fx
  | ref a => cases fx
  | ty n => cases fx
theorem countU {y : V} : ∀ {xs : List V} {us : List Value}, Vals xs us → xs.all flatV = true → us.countP (flatU y) = xs.countP fun x => eqV x y
  | _, _, .nil, _ => rfl
  | _, _, .cons (a := x) (b := u) (l₁ := xs) (l₂ := us) r t, h => by
    have h1 : flatV x = true ∧ xs.all flatV = true := by
      rw [List.all_cons, Bool.and_eq_true] at h
      exact h
    rw [List.countP_cons, List.countP_cons, countU t h1.2, flatU_of r h1.1]
theorem giveU {A : Around} {s : Shared} {y : V} {v : Value} (ry : RelV y v) (fy : flatV y = true) : ∀ {xs : List V} {us : List Value}, Vals xs us → xs.all flatV = true → ∀ u ∈ us, SeqAt.EqAt A s u v (flatU y u)
  | _, _, .nil, _ => fun u hu => by cases hu
  | _, _, .cons (a := x) (b := u0) (l₁ := xs) (l₂ := us) r t, h => fun u hu => by
    have h1 : flatV x = true ∧ xs.all flatV = true := by
      rw [List.all_cons, Bool.and_eq_true] at h
      exact h
    rcases List.mem_cons.mp hu with e | e
    · rw [e, flatU_of r h1.1]
      exact eqAt_V r ry h1.1 fy
    · exact giveU ry fy t h1.2 u e
def rCntV (K : PySem.W.Frag) : V → List V → Hp → VK → Prop := fun x vs H Q => ∃ (p : Addr) (xs : List V) (y : V), x = .ref p ∧ vs = [y] ∧ SqL K H p xs ∧ xs.all flatV = true ∧ flatV y = true ∧ Q (.int ((xs.countP fun x => eqV x y : Nat) : Int)) H
theorem mt_cntV {X : Cx} : MtR X "list.count" (rCntV X.K) := by
  intro pins s σ H x vs v us Q I rx rvs h
  obtain ⟨p, xs, y, rfl, rfl, hs, fx, fy, q⟩ := h
  cases rx
  obtain ⟨u, rfl, ru⟩ := rvs.one
  obtain ⟨its, rv, ⟨⟨cls, dd, data, sl⟩, n, ho, hc, hdn, hd⟩, hlen⟩ := I.list hs
  obtain rfl : cls = .type "list" := hc
  obtain rfl : data = .seq its.toArray n := hd
  have ec : its.toArray.toList.countP (flatU y) = xs.countP fun x => eqV x y := countU rv fx
  refine call_meets PySem.F.slot_list_count ⟨_, ho, rfl⟩ PySem.F.entry_list_count (PySem.F.args_list_count_2 _ _)
    (SeqAt.list_countAt p its.toArray n dd sl u (flatU y)) ⟨ho, fun w hw => giveU ru fy rv fx w (by simpa using hw), ?_⟩
  refine ⟨.int ((xs.countP fun x => eqV x y : Nat) : Int), H, I.tok _, ⟨s.toks, ?_⟩, q⟩
  rw [← ec]
/-- the signs of a word that are such -/
theorem cntV_p (w : List Sy) : ((wv w).countP fun x => eqV x (.str "+")) = w.countP fun s => decide (s = .p) := by
  rw [List.countP_map]
  congr 1
  funext s
  cases s <;> first | rfl | decide +kernel | (simp [Sy.v, eqV])
theorem cntV_m (w : List Sy) : ((wv w).countP fun x => eqV x (.str "-")) = w.countP fun s => decide (s = .m) := by
  rw [List.countP_map]
  congr 1
  funext s
  cases s <;> first | rfl | decide +kernel | (simp [Sy.v, eqV])
theorem cntV_l (w : List Sy) (k : Nat) : ((wv w).countP fun x => eqV x (.int (k : Int))) = cnt k w := by
  rw [List.countP_map]
  unfold cnt
  congr 1
  funext s
  cases s with
  | l j =>
    show ((j : Int) == (k : Int)) = decide (Sy.l j = Sy.l k)
    by_cases e : j = k
    · subst e; simp
    · rw [decide_eq_false (fun z => e (by injection z)), beq_eq_false_iff_ne]
      omega
  | p => simp [Sy.v, eqV]
  | m => simp [Sy.v, eqV]
  | o => simp [Sy.v, eqV]
  | c => simp [Sy.v, eqV]
end SK
namespace SK
open PySem PySem.Spec PyProof.Rows L2
/-! ### what stands outside of branches -/
def mstep (x : Nat × List Sy) : Sy → Nat × List Sy
  | .o => (x.1 + 1, x.2)
  | .c => (x.1 - 1, x.2)
  | s => if x.1 = 0 then (x.1, x.2 ++ [s]) else x
def mainF (x : Nat × List Sy) (w : List Sy) : Nat × List Sy := w.foldl mstep x
def mainW (w : List Sy) : List Sy := (mainF (0, []) w).2
theorem mainF_take {x : Nat × List Sy} {w : List Sy} {i : Nat} {s : Sy} (h : w[i]? = some s) : mainF x (w.take (i + 1)) = mstep (mainF x (w.take i)) s := by
  rw [take_more h]
  exact List.foldl_append
theorem mainF_app (x : Nat × List Sy) (v w : List Sy) : mainF x (v ++ w) = mainF (mainF x v) w := List.foldl_append
theorem mainF_cons (x : Nat × List Sy) (s : Sy) (w : List Sy) : mainF x (s :: w) = mainF (mstep x s) w := rfl
/-- no sign of a branch stands there -/
theorem main_flat : ∀ (w : List Sy) (x : Nat × List Sy), (∀ s ∈ x.2, isB s = false) → ∀ s ∈ (mainF x w).2, isB s = false
  | [], x, h => h
  | t :: w, x, h => by
    refine main_flat w (mstep x t) ?_
    have put : isB t = false → ∀ s ∈ (if x.1 = 0 then (x.1, x.2 ++ [t]) else x).2, isB s = false := fun ht s hs => by
      by_cases z : x.1 = 0
      · rw [if_pos z] at hs
        rcases List.mem_append.mp hs with h' | h'
        · exact h s h'
        · rw [List.mem_singleton.mp h']; exact ht
      · rw [if_neg z] at hs
        exact h s hs
    cases t with
    | o => exact h
    | c => exact h
    | p => exact put rfl
    | m => exact put rfl
    | l k => exact put rfl
/-- how deep one stands -/
theorem main_depth : ∀ (w : List Sy) (x : Nat × List Sy) {e : Nat}, nest w x.1 = some e → (mainF x w).1 = e
  | [], x, e, h => Option.some.inj h
  | t :: w, x, e, h => by
    rw [mainF_cons]
    have same : isB t = false → (mstep x t).1 = x.1 := fun ht => by
      cases t with
      | o => cases ht
      | c => cases ht
      | p => show (if x.1 = 0 then (x.1, x.2 ++ [_]) else x).1 = x.1; split <;> rfl
      | m => show (if x.1 = 0 then (x.1, x.2 ++ [_]) else x).1 = x.1; split <;> rfl
      | l k => show (if x.1 = 0 then (x.1, x.2 ++ [_]) else x).1 = x.1; split <;> rfl
    cases t with
    | o => exact main_depth w (x.1 + 1, x.2) h
    | c =>
      cases hx : x.1 with
      | zero => rw [hx] at h; cases h
      | succ d =>
        rw [hx] at h
        refine main_depth w (x.1 - 1, x.2) ?_
        rw [hx]
        exact h
    | p => exact main_depth w _ (by rw [same rfl]; exact h)
    | m => exact main_depth w _ (by rw [same rfl]; exact h)
    | l k => exact main_depth w _ (by rw [same rfl]; exact h)
/-- within a branch nothing is put -/
theorem main_in : ∀ (w : List Sy) (d j : Nat) {e : Nat} (acc : List Sy), nest w j = some e → mainF (d + 1 + j, acc) w = (d + 1 + e, acc)
  | [], d, j, e, acc, h => by cases h; rfl
  | t :: w, d, j, e, acc, h => by
    rw [mainF_cons]
    have stay : isB t = false → mstep (d + 1 + j, acc) t = (d + 1 + j, acc) := fun ht => by
      cases t with
      | o => cases ht
      | c => cases ht
      | p => exact if_neg (by show ¬ d + 1 + j = 0; omega)
      | m => exact if_neg (by show ¬ d + 1 + j = 0; omega)
      | l k => exact if_neg (by show ¬ d + 1 + j = 0; omega)
    cases t with
    | o =>
      show mainF (d + 1 + j + 1, acc) w = _
      rw [show d + 1 + j + 1 = d + 1 + (j + 1) by omega]
      exact main_in w d (j + 1) acc h
    | c =>
      cases j with
      | zero => cases h
      | succ j =>
        show mainF (d + 1 + (j + 1) - 1, acc) w = _
        rw [show d + 1 + (j + 1) - 1 = d + 1 + j by omega]
        exact main_in w d j acc h
    | p => rw [stay rfl]; exact main_in w d j acc h
    | m => rw [stay rfl]; exact main_in w d j acc h
    | l k => rw [stay rfl]; exact main_in w d j acc h
theorem main_acc : ∀ (w : List Sy) (d : Nat) (acc : List Sy), mainF (d, acc) w = ((mainF (d, []) w).1, acc ++ (mainF (d, []) w).2)
  | [], d, acc => by show (d, acc) = (d, acc ++ []); rw [List.append_nil]
  | t :: w, d, acc => by
    rw [mainF_cons, mainF_cons]
    have put : isB t = false → mstep (d, acc) t = (d, acc ++ if d = 0 then [t] else []) := fun ht => by
      cases t with
      | o => cases ht
      | c => cases ht
      | p => show (if d = 0 then (d, acc ++ [_]) else (d, acc)) = _; by_cases z : d = 0 <;> simp [z]
      | m => show (if d = 0 then (d, acc ++ [_]) else (d, acc)) = _; by_cases z : d = 0 <;> simp [z]
      | l k => show (if d = 0 then (d, acc ++ [_]) else (d, acc)) = _; by_cases z : d = 0 <;> simp [z]
    have put0 : isB t = false → mstep (d, []) t = (d, if d = 0 then [t] else []) := fun ht => by
      cases t with
      | o => cases ht
      | c => cases ht
      | p => show (if d = 0 then (d, [] ++ [_]) else (d, [])) = _; by_cases z : d = 0 <;> simp [z]
      | m => show (if d = 0 then (d, [] ++ [_]) else (d, [])) = _; by_cases z : d = 0 <;> simp [z]
      | l k => show (if d = 0 then (d, [] ++ [_]) else (d, [])) = _; by_cases z : d = 0 <;> simp [z]
    have go : isB t = false → mainF (mstep (d, acc) t) w = ((mainF (mstep (d, []) t) w).1, acc ++ (mainF (mstep (d, []) t) w).2) := fun ht => by
      rw [put ht, put0 ht, main_acc w d (acc ++ _), main_acc w d (if d = 0 then [t] else []), List.append_assoc]
    cases t with
    | o => exact main_acc w (d + 1) acc
    | c => exact main_acc w (d - 1) acc
    | p => exact go rfl
    | m => exact go rfl
    | l k => exact go rfl
/-- outside of branches, one age on -/
theorem main_grow {ws : List (List Sy)} : ∀ (w : List Sy) (d : Nat) {e : Nat}, (∀ k, Sy.l k ∈ w → k < ws.length ∧ nest (ws.getD k []) 0 = some 0) → nest w d = some e →
    (mainF (d, []) (grow ws w)).2 = grow (ws.map mainW) (mainF (d, []) w).2
  | [], d, e, _, _ => rfl
  | t :: w, d, e, hl, h => by
    have hl' : ∀ k, Sy.l k ∈ w → k < ws.length ∧ nest (ws.getD k []) 0 = some 0 := fun k hk => hl k (List.mem_cons_of_mem _ hk)
    rw [show grow ws (t :: w) = img ws t ++ grow ws w from rfl, mainF_app, mainF_cons]
    have gadd : ∀ a b : List Sy, grow (ws.map mainW) (a ++ b) = grow (ws.map mainW) a ++ grow (ws.map mainW) b := fun a b => grow_app _ a b
    cases t with
    | o => exact main_grow w (d + 1) hl' h
    | c =>
      cases d with
      | zero => cases h
      | succ d => exact main_grow w d hl' h
    | p =>
      show (mainF (mstep (d, []) .p) (grow ws w)).2 = grow _ (mainF (mstep (d, []) .p) w).2
      by_cases z : d = 0
      · subst z
        show (mainF (0, [.p]) (grow ws w)).2 = grow _ (mainF (0, [.p]) w).2
        rw [main_acc (grow ws w) 0 [.p], main_acc w 0 [.p]]
        show [.p] ++ _ = grow _ ([.p] ++ _)
        rw [gadd, main_grow w 0 hl' h]
        rfl
      · rw [show mstep (d, []) .p = (d, []) from if_neg z]
        exact main_grow w d hl' h
    | m =>
      show (mainF (mstep (d, []) .m) (grow ws w)).2 = grow _ (mainF (mstep (d, []) .m) w).2
      by_cases z : d = 0
      · subst z
        show (mainF (0, [.m]) (grow ws w)).2 = grow _ (mainF (0, [.m]) w).2
        rw [main_acc (grow ws w) 0 [.m], main_acc w 0 [.m]]
        show [.m] ++ _ = grow _ ([.m] ++ _)
        rw [gadd, main_grow w 0 hl' h]
        rfl
      · rw [show mstep (d, []) .m = (d, []) from if_neg z]
        exact main_grow w d hl' h
    | l k =>
      obtain ⟨hk, hn⟩ := hl k List.mem_cons_self
      show (mainF (mainF (d, []) (ws.getD k [])) (grow ws w)).2 = grow _ (mainF (mstep (d, []) (.l k)) w).2
      have emk : (ws.map mainW).getD k [] = mainW (ws.getD k []) := by
        rw [List.getD_eq_getElem?_getD, List.getElem?_map, List.getD_eq_getElem?_getD, List.getElem?_eq_getElem hk]
        rfl
      by_cases z : d = 0
      · subst z
        have e1 : mainF (0, []) (ws.getD k []) = (0, mainW (ws.getD k [])) := Prod.ext (main_depth _ (0, []) hn) rfl
        rw [e1, show mstep (0, []) (.l k) = (0, [.l k]) from rfl, main_acc (grow ws w) 0 (mainW _), main_acc w 0 [.l k]]
        show mainW _ ++ _ = grow _ ([.l k] ++ _)
        rw [gadd, main_grow w 0 hl' h]
        show mainW (ws.getD k []) ++ _ = ((ws.map mainW).getD k [] ++ []) ++ _
        rw [emk, List.append_nil]
      · obtain ⟨d', rfl⟩ : ∃ d', d = d' + 1 := ⟨d - 1, by omega⟩
        have e1 := main_in (ws.getD k []) d' 0 ([] : List Sy) hn
        rw [show d' + 1 + 0 = d' + 1 by omega] at e1
        have e2 : mstep (d' + 1, []) (.l k) = (d' + 1, ([] : List Sy)) := rfl
        rw [e1, e2]
        exact main_grow w (d' + 1) hl' h
/-! ### turns -/
def tsum (w : List Sy) : Int := ((w.countP fun s => decide (s = .p) : Nat) : Int) - ((w.countP fun s => decide (s = .m) : Nat) : Int)
theorem tsum_app (a b : List Sy) : tsum (a ++ b) = tsum a + tsum b := by
  unfold tsum
  rw [List.countP_append, List.countP_append]
  omega
def sumZ : Nat → (Nat → Int) → Int
  | 0, _ => 0
  | n + 1, h => sumZ n h + h n
theorem sumZ_add (n : Nat) (f g : Nat → Int) : sumZ n (fun j => f j + g j) = sumZ n f + sumZ n g := by
  induction n with
  | zero => rfl
  | succ n ih =>
    show sumZ n (fun j => f j + g j) + (f n + g n) = (sumZ n f + f n) + (sumZ n g + g n)
    rw [ih]; omega
theorem sumZ_congr {n : Nat} {f g : Nat → Int} (h : ∀ j, j < n → f j = g j) : sumZ n f = sumZ n g := by
  induction n with
  | zero => rfl
  | succ n ih =>
    show sumZ n f + f n = sumZ n g + g n
    rw [ih fun j hj => h j (by omega), h n (by omega)]
theorem sumZ_zero (n : Nat) : sumZ n (fun _ => 0) = 0 := by
  induction n with
  | zero => rfl
  | succ n ih => show sumZ n (fun _ => 0) + 0 = 0; rw [ih]; rfl
theorem sumZ_one {n k : Nat} (f : Nat → Int) (h : k < n) : sumZ n (fun j => if j = k then f j else 0) = f k := by
  induction n with
  | zero => omega
  | succ n ih =>
    show sumZ n (fun j => if j = k then f j else 0) + (if n = k then f n else 0) = f k
    by_cases e : n = k
    · subst e
      rw [if_pos rfl, sumZ_congr (g := fun _ => 0) (fun j hj => if_neg (by omega)), sumZ_zero]
      omega
    · rw [if_neg e, ih (by omega)]
      omega
/-- the turns of the next age -/
theorem tsum_grow {mws : List (List Sy)} {n : Nat} : ∀ {u : List Sy}, (∀ j, Sy.l j ∈ u → j < n) → tsum (grow mws u) = tsum u + sumZ n fun j => (cnt j u : Int) * tsum (mws.getD j [])
  | [], _ => by
    have : sumZ n (fun j => ((cnt j [] : Nat) : Int) * tsum (mws.getD j [])) = 0 := (sumZ_congr fun j _ => Int.zero_mul _).trans (sumZ_zero n)
    rw [this]
    rfl
  | s :: u, h => by
    have ih := tsum_grow (mws := mws) (u := u) fun j hj => h j (List.mem_cons_of_mem _ hj)
    rw [show grow mws (s :: u) = img mws s ++ grow mws u from rfl, tsum_app, ih, show s :: u = [s] ++ u from rfl, tsum_app]
    have e : sumZ n (fun j => (cnt j ([s] ++ u) : Int) * tsum (mws.getD j [])) = sumZ n (fun j => (cnt j [s] : Int) * tsum (mws.getD j [])) + sumZ n (fun j => (cnt j u : Int) * tsum (mws.getD j [])) := by
      rw [← sumZ_add]
      refine sumZ_congr fun j _ => ?_
      rw [cnt_app, Int.natCast_add, Int.add_mul]
    rw [e]
    have e2 : tsum (img mws s) = tsum [s] + sumZ n (fun j => (cnt j [s] : Int) * tsum (mws.getD j [])) := by
      have other : isL s = false → tsum (img mws s) = tsum [s] + sumZ n (fun j => (cnt j [s] : Int) * tsum (mws.getD j [])) := fun hs => by
        rw [img_other hs, (sumZ_congr fun j _ => by rw [cnt_other hs]; exact Int.zero_mul _ : sumZ n _ = sumZ n fun _ => 0), sumZ_zero]
        omega
      cases s with
      | l k =>
        have hk := h k List.mem_cons_self
        have : sumZ n (fun j => (cnt j [Sy.l k] : Int) * tsum (mws.getD j [])) = tsum (mws.getD k []) := by
          rw [← sumZ_one (fun j => tsum (mws.getD j [])) hk]
          refine sumZ_congr fun j _ => ?_
          rw [cnt_cons]
          by_cases z : j = k
          · subst z
            rw [if_pos rfl, if_pos rfl]
            show (((1 + 0 : Nat)) : Int) * _ = _
            omega
          · rw [if_neg (fun y => z (by injection y with y; exact y.symm)), if_neg z]
            show (((0 + 0 : Nat)) : Int) * _ = _
            omega
        rw [this]
        show tsum (mws.getD k []) = 0 + tsum (mws.getD k [])
        omega
      | p => exact other rfl
      | m => exact other rfl
      | o => exact other rfl
      | c => exact other rfl
    rw [e2]
    omega
/-- the turns of an age -/
def turnsW (w : List Sy) : Int := tsum (mainW w)
end SK
namespace SK
open PySem PySem.Spec PyProof.Rows L2
/-! ### numbers of strokes by rows -/
def cI (n : Nat) (w : List Sy) : List Int := (cntL n w).map fun k : Nat => (k : Int)
theorem cI_V (n : Nat) (w : List Sy) : iV (cntL n w) = (cI n w).map V.int := by
  unfold cI iV
  rw [List.map_map]
  rfl
theorem cI_len (n : Nat) (w : List Sy) : (cI n w).length = n := by
  unfold cI cntL
  rw [List.length_map, List.length_map, List.length_range]
theorem dot_snoc : ∀ (r v : List Int) (a b : Int), r.length = v.length → dotI (r ++ [a]) (v ++ [b]) = dotI r v + a * b
  | [], [], a, b, _ => by show a * b + 0 = 0 + a * b; omega
  | [], _ :: _, _, _, h => nomatch h
  | _ :: _, [], _, _, h => nomatch h
  | x :: r, y :: v, a, b, h => by
    show x * y + dotI (r ++ [a]) (v ++ [b]) = x * y + dotI r v + a * b
    rw [dot_snoc r v a b (Nat.succ.inj h)]
    omega
theorem dot_range (f g : Nat → Int) : ∀ n, dotI ((List.range n).map f) ((List.range n).map g) = sumZ n fun j => f j * g j
  | 0 => rfl
  | n + 1 => by
    rw [List.range_succ, List.map_append, List.map_append]
    show dotI (_ ++ [f n]) (_ ++ [g n]) = sumZ n _ + f n * g n
    rw [dot_snoc _ _ _ _ (by rw [List.length_map, List.length_map]), dot_range f g n]
theorem cI_range (n : Nat) (w : List Sy) : cI n w = (List.range n).map fun j => (cnt j w : Int) := by
  unfold cI cntL
  rw [List.map_map]
  rfl
def tabI (n : Nat) (f : Nat → Nat) : List Int := (List.range n).map fun j => (f j : Int)
theorem cnt_sum {n : Nat} (N : Nat → Nat) : ∀ (w : List Sy), (∀ j, Sy.l j ∈ w → j < n) → sumZ n (fun j => (cnt j w : Int) * (N j : Int)) = (wsum N w : Int)
  | [], _ => (sumZ_congr fun j _ => Int.zero_mul _).trans (sumZ_zero n)
  | s :: w, h => by
    have ih := cnt_sum N w fun j hj => h j (List.mem_cons_of_mem _ hj)
    have e : sumZ n (fun j => (cnt j (s :: w) : Int) * (N j : Int)) = sumZ n (fun j => (cnt j [s] : Int) * (N j : Int)) + sumZ n (fun j => (cnt j w : Int) * (N j : Int)) := by
      rw [← sumZ_add]
      refine sumZ_congr fun j _ => ?_
      rw [show s :: w = [s] ++ w from rfl, cnt_app, Int.natCast_add, Int.add_mul]
    rw [e, ih]
    have other : isL s = false → wsum N (s :: w) = wsum N w → sumZ n (fun j => (cnt j [s] : Int) * (N j : Int)) + (wsum N w : Int) = (wsum N (s :: w) : Int) := fun hs hw => by
      rw [hw, (sumZ_congr fun j _ => by rw [cnt_other hs]; exact Int.zero_mul _ : sumZ n _ = sumZ n fun _ => 0), sumZ_zero]
      omega
    cases s with
    | l k =>
      have hk := h k List.mem_cons_self
      have : sumZ n (fun j => (cnt j [Sy.l k] : Int) * (N j : Int)) = (N k : Int) := by
        rw [← sumZ_one (fun j => (N j : Int)) hk]
        refine sumZ_congr fun j _ => ?_
        rw [cnt_cons]
        by_cases z : j = k
        · subst z
          rw [if_pos rfl, if_pos rfl]
          show (((1 + 0 : Nat)) : Int) * _ = _
          omega
        · rw [if_neg (fun y => z (by injection y with y; exact y.symm)), if_neg z]
          show (((0 + 0 : Nat)) : Int) * _ = _
          omega
      rw [this]
      show (N k : Int) + (wsum N w : Int) = ((N k + wsum N w : Nat) : Int)
      omega
    | p => exact other rfl rfl
    | m => exact other rfl rfl
    | o => exact other rfl rfl
    | c => exact other rfl rfl
theorem dot_cnt {n : Nat} (N : Nat → Nat) (w : List Sy) (h : ∀ j, Sy.l j ∈ w → j < n) : dotI (cI n w) (tabI n N) = (wsum N w : Int) := by
  rw [cI_range]
  unfold tabI
  rw [dot_range, cnt_sum N w h]
theorem ones_it {ws : List (List Sy)} (h : ∀ w ∈ ws, ∀ j, Sy.l j ∈ w → j < ws.length) : ∀ k, itL (ws.map (cI ws.length)) k (tabI ws.length fun _ => 1) = tabI ws.length (nLg ws k)
  | 0 => rfl
  | k + 1 => by
    rw [it_succ, ones_it h k]
    unfold apL
    rw [List.map_map]
    refine List.ext_getElem? fun i => ?_
    unfold tabI
    rw [List.getElem?_map, List.getElem?_map]
    by_cases hi : i < ws.length
    · have e := List.getElem?_eq_getElem hi
      rw [e, List.getElem?_range hi]
      show some (dotI (cI ws.length ws[i]) (tabI ws.length (nLg ws k))) = some (nLg ws (k + 1) i : Int)
      rw [dot_cnt _ _ (h _ (List.getElem_mem hi)), nLg_succ, List.getD_eq_getElem?_getD, e]
      rfl
    · rw [List.getElem?_eq_none (by omega), List.getElem?_eq_none (by rw [List.length_range]; omega)]
      rfl
theorem cI_small {n : Nat} {w : List Sy} (h : w.length ≤ 1000) : ∀ x ∈ cI n w, -(2 ^ 64) < x ∧ x < 2 ^ 64 := fun x hx => by
  rw [cI_range] at hx
  obtain ⟨j, _, rfl⟩ := List.mem_map.mp hx
  have := cnt_le j w
  exact ⟨by omega, by omega⟩
end SK
namespace SK
open PySem PySem.Spec PyProof.Rows L2
def spLayS (K : PySem.W.Frag) : Sp := fun vs H Q _ => ∃ (a pn : Addr) (w : List Sy) (p : Plc), vs = [.ref a, .ref pn] ∧ WdAt H a w ∧ SqT K H pn (plV p) ∧ 0 ≤ p.2.2 ∧ p.2.2 < 4 ∧ nest w 0 ≠ none ∧ w.length ≤ 1000000 ∧ NewLaid (penF one (stt p) w) H Q
section
variable {P : Program} {w : World} {K : PySem.W.Frag} {mg : Str → Option Value} {base : Heap}
theorem ok_lays {f : Addr} {fd : FuncData} {k : Nat} {dflt sa : Addr} (F : FunD K "lay_strokes" "lay_strokes" (defArgs s_lay_strokes) (defBody s_lay_strokes) (defScope s_lay_strokes) [.ref dflt] [] f fd) (GL : Got P w K mg base "lay" k ["word", "ends", "pen"] (spLay K))
    (mS : mg "STROKE" = some (.ref sa)) (hS : ModT K sa (plV (1, 0, 0))) (mI : mg "isinstance" = none) (mSt : mg "str" = none) :
    FnOk P w K mg base CX0 (k + 1) f fd ["word", "pen"] (spLayS K) := by
  refine F.ok sc_lay_strokes (fun vs H Q E h => ?_) (fun cdv A outer s H vs Q EE hr h => ex_nox ?_)
  · obtain ⟨a, pn, w, p, rfl, _⟩ := h
    rfl
  · obtain ⟨a, pn, w, p, rfl, hw, hp, p0, p4, hn, hl, q⟩ := h
    have nd := sc_lay_strokes.nd
    refine ⟨_, pss_cons (ps_setDc (i := 2) (own := [("part", 3)]) (g := gName 3) (tt := tNotStr K 3) (tk := tVar 3) (tv := tC (.ref sa)) rfl nd rfl rfl (sw_trueD rfl rfl rfl (by decide +kernel)) (pi_tup (pv 0)) (blkOk_by (N := n_lay_strokes) (sc := defScope s_lay_strokes) (by decide +kernel))
          (fun _ _ _ _ _ => pg_name (i := 3) nd rfl (Or.inl rfl)) (fun _ _ _ _ _ => pts_one (ptNotStr mI mSt (pv 3))) (fun _ _ _ _ _ => pv 3) (fun _ _ _ _ _ => pe_glob (v := .ref sa) rfl mS rfl))
      (pss_one (ps_ret (pcall GL hr (pa_cons (pv 0) (pa_cons (pv 2) (pa_cons (pv 1) pa_nil)))))), ?_⟩
    refine ⟨_, rfl, a, rfl, ⟨_, hw.sq⟩, fun D nD => ?_⟩
    refine dc_tup (K := K) (a := a) (xs := wv w) (fun i H' => ∃ kvs, Same H H' ∧ H' D = some (.dK kvs) ∧ kvs.length ≤ i ∧ ∀ k, Sy.l k ∈ w.take i → valV kvs (.inl (k : Int)) = some (.ref sa))
      ⟨[], same_upd nD, upd_same, Nat.le_refl _, fun k hk => by simp at hk⟩ (fun i H' _ ⟨_, s, _⟩ => (hw.same s).sq) ?_ ?_
    · rintro i x H1 hx ⟨kvs, S1, hD, hlen, hv⟩
      obtain ⟨s, hs, rfl⟩ := wv_get hx
      have hi : i < w.length := (List.getElem?_eq_some_iff.mp hs).1
      obtain ⟨tn, tb, ht, hk, htb⟩ := ty_sy (K := K) (H := H1) s
      refine ⟨rfl, _, rfl, s.v, tn, tb, rfl, ht, hk, tb, rfl, ?_⟩
      subst htb
      rw [Bool.not_not]
      have no : isL s = false → ∀ k, Sy.l k ∈ w.take (i + 1) → Sy.l k ∈ w.take i := fun z k hk => by
        rw [take_more hs] at hk
        rcases List.mem_append.mp hk with h | h
        · exact h
        · rw [← List.mem_singleton.mp h] at z; cases z
      cases s with
      | l j =>
        refine iteT ⟨_, rfl, kvs, Sum.inl (j : Int), rfl, hD, ?_, putK kvs (Sum.inl (j : Int)) (.ref sa), sPut S1 nD, upd_same, ?_, fun k hk => ?_⟩
        · rw [sizeLine_eq]; omega
        · have := length_putK kvs (Sum.inl (j : Int)) (.ref sa); omega
        · rw [valV_put]
          by_cases e : k = j
          · subst e
            rw [if_pos rfl]
          · rw [if_neg (fun z => e (by injection z with z; omega))]
            rw [take_more hs] at hk
            rcases List.mem_append.mp hk with h | h
            · exact hv k h
            · exact absurd (by injection List.mem_singleton.mp h) e
      | p => exact iteF ⟨kvs, S1, hD, by omega, fun k hk => hv k (no rfl k hk)⟩
      | m => exact iteF ⟨kvs, S1, hD, by omega, fun k hk => hv k (no rfl k hk)⟩
      | o => exact iteF ⟨kvs, S1, hD, by omega, fun k hk => hv k (no rfl k hk)⟩
      | c => exact iteF ⟨kvs, S1, hD, by omega, fun k hk => hv k (no rfl k hk)⟩
    · rintro H1 ⟨kvs, S1, hD, hlen, hv⟩
      rw [List.length_map, List.take_length] at hv
      refine ⟨_, rfl, _, rfl, _, rfl, a, D, pn, w, kvs, one, p, rfl, hw.same S1, hD, fun k hk => ⟨sa, hv k hk, hS.sq⟩, sTup S1 hp, p0, p4, hn, hl, ?_⟩
      exact fun H2 t la e as S2 n2 h2 n3 h3 hA he => q H2 t la e as (S1.trans S2) (S1.free n2) h2 (S1.free n3) h3 hA he
end
end SK
namespace SK
open PySem PySem.Spec PyProof.Rows L2
/-! ### even books -/
/-- where the words of letters end -/
def endW (ws : List (List Sy)) (k : Nat) : Plc := (pen (ws.getD k [])).pl
def spEnds : Sp := fun vs H Q _ => ∃ (p l : Addr) (as : List Addr) (ws : List (List Sy)) (cl : List Nat), vs = [.ref p, .ref l] ∧ H p = some (.tup (as.map V.ref)) ∧ Words H as ws ∧ H l = some (.lst (iV cl)) ∧ (∀ w ∈ ws, Good ws.length 40 w) ∧ (∀ k ∈ cl, k < ws.length) ∧ cl.length ≤ 8 ∧
  ∀ (H' : Hp) (t : Addr) (es : List Addr), Same H H' → H t = none → H' t = some (.lst (es.map V.ref)) → Pls H' es (cl.map (endW ws)) → Q (.ref t) H'
def spSteady : Sp := fun vs H Q _ => ∃ (b : Addr) (ws : List (List Sy)) (st : List Sy), vs = [.ref b] ∧ BookAt H b ws st ∧ GoodBook ws st ∧ ∀ (H' : Hp) (c : Bool), Same H H' → (c = true ↔ ∀ k, Comes ws st k → (endW ws k).2.2 = 0) → Q (.bl c) H'
/-- a multiple as it stands in a heap -/
def MulV (ws : List (List Sy)) (st : List Sy) (H H' : Hp) (v : V) : Prop := (v = .non ∧ ¬ ∃ u w : Int, ∀ k, Comes ws st k → endW ws k = (u, w, 0)) ∨ ∃ (p : Addr) (u w : Int), v = .ref p ∧ H p = none ∧ H' p = some (.tup [.int u, .int w]) ∧ ∀ k, Comes ws st k → endW ws k = (u, w, 0)
def spMulFor : Sp := fun vs H Q _ => ∃ (p l : Addr) (as : List Addr) (ws : List (List Sy)) (st : List Sy) (cl : List Nat), vs = [.ref p, .ref l] ∧ H p = some (.tup (as.map V.ref)) ∧ Words H as ws ∧ H l = some (.lst (iV cl)) ∧ (∀ w ∈ ws, Good ws.length 40 w) ∧ (∀ k ∈ cl, k < ws.length) ∧ cl.length ≤ 8 ∧ cl ≠ [] ∧ (∀ k, k ∈ cl ↔ Comes ws st k) ∧
  ∀ (H' : Hp) (v : V), Same H H' → MulV ws st H H' v → Q v H'
def spMul : Sp := fun vs H Q _ => ∃ (b : Addr) (ws : List (List Sy)) (st : List Sy), vs = [.ref b] ∧ BookAt H b ws st ∧ GoodBook ws st ∧ ∀ (H' : Hp) (v : V), Same H H' → MulV ws st H H' v → Q v H'
theorem dp_plc {K : PySem.W.Frag} {H : Hp} {e : Addr} {q : Plc} (h : SqT K H e (plV q)) : Dp K H (.ref e) (.tuple [.int q.1, .int q.2.1, .int q.2.2]) := .tup h (.cons (.int _) (.cons (.int _) (.cons (.int _) .nil)))
theorem sh_plc (q : Plc) : SeqAt.shaped (.tuple [.int q.1, .int q.2.1, .int q.2.2]) = true := by
  simp [SeqAt.shaped, PyData.canLay0, PyData.canLayAll0, PyData.depth, PyData.depthAll]
theorem eqv_plc (q r : Plc) : PyData.eqv (.tuple [.int q.1, .int q.2.1, .int q.2.2]) (.tuple [.int r.1, .int r.2.1, .int r.2.2]) = decide (q = r) := by
  obtain ⟨a, b, c⟩ := q
  obtain ⟨a', b', c'⟩ := r
  by_cases h : (a, b, c) = (a', b', c')
  · cases h
    simp [PyData.eqv, PyData.eqvAll]
  · rw [decide_eq_false h]
    simp [PyData.eqv, PyData.eqvAll]
    intro e1 e2 e3
    exact h (by rw [e1, e2, e3])
theorem comes_start {ws : List (List Sy)} {st : List Sy} (h : st.any isL = true) : ∃ k, Comes ws st k := by
  obtain ⟨s, hs, hl⟩ := List.any_eq_true.mp h
  cases s with
  | l k => exact ⟨k, 0, hs⟩
  | p => cases hl
  | m => cases hl
  | o => cases hl
  | c => cases hl
section
variable {P : Program} {w : World} {K : PySem.W.Frag} {mg : Str → Option Value} {base : Heap}
theorem ok_ends {f : Addr} {fd : FuncData} {k : Nat} {pd : Addr} (F : Fun K "ends_of_words" "ends_of_words" s_ends_of_words f fd) (GL : GotD P w K mg base "lay_strokes" k ["word", "pen"] [.ref pd] (spLayS K)) (hP : ModT K pd (plV (0, 0, 0))) :
    FnOk P w K mg base CX0 (k + 1) f fd ["words", "letters"] spEnds := by
  refine F.ok sc_ends_of_words (fun vs H Q E h => ?_) (fun cdv A outer s H vs Q E hr h => ?_)
  · obtain ⟨p, l, as, ws, cl, rfl, _⟩ := h
    rfl
  · obtain ⟨p, l, as, ws, cl, rfl, hp, hw, hl, hg, hc, h8, q⟩ := h
    have nd := sc_ends_of_words.nd
    refine ⟨_, pss_one (ps_ret (pe_lc (own := [("letter", 2)]) (g := gName 2) (tt := tYes) (te := tOp (rIxT K) (tCall (spLayS K) [.ref pd] E0 (tCons (tOp (rIxT K) (tVar 0) (tVar 2)) tNil)) (tC (.int 1))) rfl nd (pi_list (pv 1)) (blkOk_by (N := n_ends_of_words) (sc := defScope s_ends_of_words) (by decide +kernel))
        (fun _ _ _ _ _ => pg_name (i := 2) nd rfl (Or.inl rfl)) (fun _ _ _ _ _ => pts_nil) (fun _ _ _ _ _ => pixT (pcallD GL hr (pa_cons (pixT (pv 0) (pv 2)) pa_nil)) pe_int))), ?_⟩
    refine ⟨_, rfl, l, rfl, ⟨_, SqL.of hl⟩, fun D nD => ?_⟩
    refine lc_list (K := K) (a := l) (xs := iV cl) (fun i H' => Same H H' ∧ ∃ es : List Addr, H' D = some (.lst (es.map V.ref)) ∧ Pls H' es ((cl.take i).map (endW ws))) ⟨same_upd nD, [], upd_same, .nil⟩ (fun i H' _ h => h.1.seq (SqL.of hl)) ?_ ?_
    · rintro i x H1 hx ⟨S1, es, hD, hE⟩
      obtain ⟨j, hj, rfl⟩ := iV_get hx
      have hjw := hc j (List.mem_of_getElem? hj)
      have hi : i < cl.length := (List.getElem?_eq_some_iff.mp hj).1
      obtain ⟨a, ha, hta⟩ := paired_get hw (List.getElem?_eq_getElem hjw)
      have ej : ws.getD j [] = ws[j] := by rw [List.getD_eq_getElem?_getD, List.getElem?_eq_getElem hjw]; rfl
      have gj := hg _ (List.getElem_mem hjw)
      rw [← ej] at hta gj
      have nst := gj.nst
      have len := gj.len
      refine ⟨rfl, _, rfl, _, rfl, p, _, _, .ref a, rfl, rfl, SqT.of (S1 _ _ hp), atI_nat (by rw [List.getElem?_map, ha]; rfl), a, pd, ws.getD j [], (0, 0, 0), rfl, hta.same S1, hP.sq, by decide, by decide, by rw [nst]; exact (fun z => nomatch z), by omega, fun H2 t la e as2 S2 n2 h2 n3 h3 hA he => ?_⟩
      have lE := hE.length
      rw [List.length_map, List.length_take] at lE
      refine ⟨t, _, _, .ref e, rfl, rfl, SqT.of h2, at1, _, S2 _ _ hD, ?_, sPut (S1.trans S2) nD, es ++ [e], ?_, ?_⟩
      · rw [List.length_map, sizeLine_eq]; omega
      · rw [upd_same, List.map_append]; rfl
      · have T2 : TupS H2 (upd H2 D (.lst (es.map V.ref ++ [V.ref e]))) := TupS.refl.lst (S2 _ _ hD)
        rw [take_more hj, List.map_append]
        refine Paired.snoc ((hE.keep (.of S2)).keep T2) (T2.1 _ _ ?_)
        have e1 : (penF one (stt (0, 0, 0)) (ws.getD j [])).pl = endW ws j := by
          show (penE one (ws.getD j [])).pl = _
          rw [pen_one]; rfl
        rw [← e1]
        exact he
    · rintro H1 ⟨S1, es, hD, hE⟩
      have lz : (iV cl).length = cl.length := by unfold iV; rw [List.length_map]
      rw [lz, List.take_length] at hE
      exact q H1 D es S1 nD hD hE
theorem ok_steady {f : Addr} {fd : FuncData} {k : Nat} (F : Fun K "is_steady" "is_steady" s_is_steady f fd) (GB : Got P w K mg base "check_book" k ["value"] spCheckBook) (GC : Got P w K mg base "coming_letters" k ["words", "parts"] (spComing K)) (GE : Got P w K mg base "ends_of_words" k ["words", "letters"] spEnds) (mA : mg "all" = none) :
    FnOk P w K mg base CX0 (k + 1) f fd ["book"] spSteady := by
  refine F.ok sc_is_steady (fun vs H Q E h => ?_) (fun cdv A outer s H vs Q E hr h => ?_)
  · obtain ⟨b, ws, st, rfl, _⟩ := h
    rfl
  · obtain ⟨b, ws, st, rfl, hb, hg, q⟩ := h
    have nd := sc_is_steady.nd
    refine ⟨_, pss_cons (ps_expr (pcall GB hr (pa_cons (pv 0) pa_nil)))
      (pss_cons (ps_asg (pv 0) (pg_tup (by rfl) (pgs_cons (pg_name (i := 1) nd rfl (.inl rfl)) (pgs_cons (pg_name (i := 2) nd rfl (.inl rfl)) pgs_nil))))
      (pss_cons (ps_set (i := 3) nd rfl (.inl rfl) (pcall GE hr (pa_cons (pv 1) (pa_cons (pcall GC hr (pa_cons (pv 1) (pa_cons (pv 2) pa_nil))) pa_nil))))
      (pss_one (ps_ret (pe_callB (cr_all rfl) (by rfl) mA (by decide +kernel) (pa_cons (pe_lc (own := [("end", 4)]) (g := gName 4) (tt := tYes) (te := tOp rEq (tOp (rIxT K) (tVar 4) (tC (.int 2))) (tC (.int 0))) rfl nd (pi_list (pv 3)) (blkOk_by (N := n_is_steady) (sc := defScope s_is_steady) (by decide +kernel))
        (fun _ _ _ _ _ => pg_name (i := 4) nd rfl (Or.inl rfl)) (fun _ _ _ _ _ => pts_nil) (fun _ _ _ _ _ => pe_cmpR op_eq (pixT (pv 4) pe_int) pe_int (nomark _))) pa_nil) (by decide) (by decide)))))), ?_⟩
    obtain ⟨p, pq, as, h1, h2, h3, h4⟩ := id hb
    have hf := hg.few
    refine ⟨_, rfl, b, ws, st, rfl, hb, hg, fun H1 S1 => ?_⟩
    refine ⟨_, rfl, b, _, rfl, SqT.of (S1 _ _ h1), rfl, _, _, rfl, _, _, rfl, rfl, ?_⟩
    refine ⟨_, rfl, _, rfl, _, rfl, p, pq, as, ws, st, rfl, S1 _ _ h2, h4.keep (.of S1), .inr (h3.same S1).sq, by omega, hg.words, hg.start.lets, fun H2 l cl S2 n2 hl hc nd2 _ l8 => ?_⟩
    have S02 := S1.trans S2
    have hcw : ∀ k ∈ cl, k < ws.length := fun k hk => by
      obtain ⟨m, hm⟩ := (hc k).mp hk
      exact grown_lets' hg.words hg.start.lets m k hm
    refine ⟨p, l, as, ws, cl, rfl, S02 _ _ h2, h4.keep (.of S02), hl, hg.words, hcw, l8, fun H3 t es S3 n3 ht hE => ?_⟩
    have S03 := S02.trans S3
    refine ⟨_, rfl, t, rfl, ⟨_, SqL.of ht⟩, fun D nD => ?_⟩
    have lE := hE.length
    rw [List.length_map] at lE
    refine lc_list (K := K) (a := t) (xs := es.map V.ref) (fun i H' => Same H3 H' ∧ H' D = some (.lst (((cl.take i).map fun k => decide ((endW ws k).2.2 = 0)).map V.bl))) ⟨same_upd nD, upd_same⟩ (fun i H' _ h => h.1.seq (SqL.of ht)) ?_ ?_
    · rintro i x H4 hx ⟨S4, hD⟩
      rw [List.getElem?_map] at hx
      have hi : i < es.length := by
        cases z : es[i]? with
        | none => rw [z] at hx; cases hx
        | some e => exact (List.getElem?_eq_some_iff.mp z).1
      have hj : cl[i]? = some cl[i] := List.getElem?_eq_getElem (by omega)
      generalize cl[i] = j at hj
      obtain ⟨e, he, hp⟩ := paired_get hE (show (cl.map (endW ws))[i]? = some (endW ws j) by rw [List.getElem?_map, hj]; rfl)
      rw [he] at hx
      cases hx
      refine ⟨rfl, _, rfl, e, _, _, _, rfl, rfl, SqT.of (S4 _ _ hp), at2, rfl, _, hD, ?_, sPut S4 nD, ?_⟩
      · rw [List.length_map, List.length_map, List.length_take, sizeLine_eq]; omega
      · rw [upd_same, take_more hj, List.map_append, List.map_append]
        have e1 : decide (V.int (endW ws j).2.2 = V.int 0) = decide ((endW ws j).2.2 = 0) := by
          by_cases z : (endW ws j).2.2 = 0
          · rw [decide_eq_true z, decide_eq_true (by rw [z])]
          · rw [decide_eq_false z, decide_eq_false (fun y => z (by injection y))]
        show some (HO.lst (_ ++ [V.bl (decide (V.int (endW ws j).2.2 = V.int 0))])) = _
        rw [e1]
        rfl
    · rintro H4 ⟨S4, hD⟩
      rw [List.length_map, lE, List.take_length] at hD
      refine ⟨D, _, rfl, SqL.of hD, q H4 _ (S03.trans S4) ?_⟩
      rw [List.all_eq_true]
      constructor
      · intro h k hk
        exact of_decide_eq_true (h _ (List.mem_map_of_mem ((hc k).mpr hk)))
      · intro h x hx
        obtain ⟨k, hk, rfl⟩ := List.mem_map.mp hx
        exact decide_eq_true (h k ((hc k).mp hk))
end
end SK
namespace SK
open PySem PySem.Spec PyProof.Rows L2
/-- isinstance(e, c), e the error that the suite holds -/
def rIsN (K : PySem.W.Frag) (D a : Addr) (cls : Value) (d : Option Addr) : List V → Hp → VK → Prop := fun xs H Q => cls = .ref D ∧ d = none ∧ rIsE K D a xs H Q
theorem call_isN {X : Cx} {a D : Addr} {oe : Obj} {cls : Value} {d : Option Addr} {pn : List (Addr × Obj)} (C : ExcC X.K D) (hz : Zc cls d oe) (hf : ∃ vs, oe.data = .fields vs) : CallR (X.suite a ((a, oe) :: pn)) (.builtin "isinstance") (rIsN X.K D a cls d) := by
  intro pins s σ H xs us Q I r h
  obtain ⟨rfl, rfl, h⟩ := h
  exact call_isE C hz hf pins s σ H xs us Q I r h
end SK
namespace SK
open PySem PySem.Spec PyProof.Rows L2
abbrev e40 : Nat := 10000000000000000000000000000000000000000
abbrev e18 : Nat := 1000000000000000000
def spCheckAM : Sp := fun vs H Q _ => ∃ (b : Addr) (n m : Nat) (ws : List (List Sy)) (st : List Sy), vs = [.ref b, .int n, .int m] ∧ BookAt H b ws st ∧ GoodBook ws st ∧ n ≤ e40 ∧ 2 ≤ m ∧ m ≤ e18 ∧ ∀ H', Same H H' → Q .non H'
def SteadyB (ws : List (List Sy)) (st : List Sy) : Prop := ∀ k, Comes ws st k → (endW ws k).2.2 = 0
def spCheckSteady (CS : Addr) : Sp := fun vs H Q E => ∃ (b : Addr) (ws : List (List Sy)) (st : List Sy), vs = [.ref b] ∧ BookAt H b ws st ∧ GoodBook ws st ∧ (SteadyB ws st → ∀ H', Same H H' → Q .non H') ∧ (¬ SteadyB ws st → ∀ H', Same H H' → E (.ref CS) none H')
def spSMod : Sp := fun vs H Q _ => ∃ (b : Addr) (n m : Nat) (ws : List (List Sy)) (st : List Sy), vs = [.ref b, .int n, .int m] ∧ BookAt H b ws st ∧ GoodBook ws st ∧ ws.length ≤ 6 ∧ n ≤ e40 ∧ 2 ≤ m ∧ m ≤ e18 ∧ ∀ H', Same H H' → Q (.int ((nL (grown ws st n) : Int) % m)) H'
theorem rep_v (n : Nat) (v : Int) : (List.replicate n [V.int v]).flatten = (List.replicate n v).map V.int := by
  induction n with
  | zero => rfl
  | succ n ih =>
    rw [List.replicate_succ, List.flatten_cons, ih]
    rfl
theorem rep_tab (n : Nat) : List.replicate n (1 : Int) = tabI n fun _ => 1 := by
  unfold tabI
  rw [List.map_const', List.length_range]
  rfl
theorem RwsN.snoc {H : Hp} {D : Addr} {rs : List Addr} {A : List (List Int)} {a : Addr} {r : List Int} (h : RwsN H D rs A) (n : a ≠ D) (ha : H a = some (.lst (r.map V.int))) : RwsN H D (rs ++ [a]) (A ++ [r]) := Paired.snoc h ⟨n, ha⟩
section
variable {P : Program} {w : World} {K : PySem.W.Frag} {mg : Str → Option Value} {base : Heap}
theorem ok_checkam {f : Addr} {fd : FuncData} {k : Nat} {t40 t18 : Tok} (F : Fun K "check_age_and_modulus" "check_age_and_modulus" s_check_age_and_modulus f fd) (GB : Got P w K mg base "check_book_and_age" k ["book", "age", "most"] spCheckBA) (GN : Got P w K mg base "check_number" k ["value", "least", "most"] spCheckNum)
    (m40 : mg "MOST_AGE_SUMMED" = some (.int e40 t40)) (m18 : mg "MOST_MODULUS" = some (.int e18 t18)) : FnOk P w K mg base CX0 (k + 1) f fd ["book", "age", "modulus"] spCheckAM := by
  refine F.ok sc_check_age_and_modulus (fun vs H Q E h => ?_) (fun cdv A outer s H vs Q E hr h => ?_)
  · obtain ⟨b, n, m, ws, st, rfl, _⟩ := h
    rfl
  · obtain ⟨b, n, m, ws, st, rfl, hb, hg, h1, h2, h3, q⟩ := h
    refine ⟨_, pss_cons (ps_expr (pcall GB hr (pa_cons (pv 0) (pa_cons (pv 1) (pa_cons (pe_glob (v := .int e40) rfl m40 ⟨_, rfl⟩) pa_nil))))) (pss_one (ps_expr (pcall GN hr (pa_cons (pv 2) (pa_cons pe_int (pa_cons (pe_glob (v := .int e18) rfl m18 ⟨_, rfl⟩) pa_nil)))))), ?_⟩
    exact ⟨_, rfl, _, rfl, b, n, e40, ws, st, rfl, hb, hg, h1, fun H1 S1 => ⟨_, rfl, (m : Int), 2, e18, rfl, by omega, by omega, q H1 S1⟩⟩
theorem ok_checksteady {f : Addr} {fd : FuncData} {k : Nat} {CS : Addr} (F : Fun K "check_steady" "check_steady" s_check_steady f fd) (GS : Got P w K mg base "is_steady" k ["book"] spSteady)
    (gB : mg "NotSteady" = some (.ref CS)) (xB : PySem.W.excIn K CS [.type "ValueError", .type "Exception", .type "BaseException", .type "object"] "ValueError.__new__" = true) (kB : PySem.W.keepIn K (.ref CS) = true) (sB : PySem.W.subIn K (.ref CS) (.type "BaseException") = some true) (tB : PySem.W.typeIn K (.ref CS) = some (.type "type")) :
    FnOk P w K mg base (L2.CX P w) (k + 1) f fd ["book"] (spCheckSteady CS) := by
  refine F.okX sc_check_steady (fun vs H Q E h => ?_) (fun cdv A outer s H vs Q E hr h => ?_)
  · obtain ⟨b, ws, st, rfl, _⟩ := h
    rfl
  · obtain ⟨b, ws, st, rfl, hb, hg, q1, q2⟩ := h
    refine ⟨_, pss_one (ps_if (pt_not (pt_val (pcall GS hr (pa_cons (pv 0) pa_nil)))) (pss_one (ps_raise rfl (takes_of rfl rfl rfl rfl) (pmk_own PySem.F.excBase_ValueError xB gB kB (raises_own sB tB) (by rfl)))) pss_nil), ?_⟩
    refine ⟨_, rfl, b, ws, st, rfl, hb, hg, fun H1 c S1 hc => ⟨_, rfl, ?_⟩⟩
    cases c with
    | true => exact iteF (q1 (hc.mp rfl) H1 S1)
    | false => exact iteT (q2 (fun h => by have := hc.mpr h; cases this) H1 S1)
theorem ok_smod {f : Addr} {fd : FuncData} {k : Nat} (F : Fun K "strokes_modulo" "strokes_modulo" s_strokes_modulo f fd) (GA : Got P w K mg base "check_age_and_modulus" k ["book", "age", "modulus"] spCheckAM) (GC : Got P w K mg base "count_letters" k ["word", "many"] spCount)
    (GV : Got P w K mg base "values_at" k ["rows", "values", "age", "modulus"] (spValues K)) (GS : Got P w K mg base "sums_by_rows" k ["rows", "values", "modulus"] (spSumsBy K)) (ml : mg "len" = none) : FnOk P w K mg base CX0 (k + 1) f fd ["book", "age", "modulus"] spSMod := by
  refine F.ok sc_strokes_modulo (fun vs H Q E h => ?_) (fun cdv A outer s H vs Q E hr h => ?_)
  · obtain ⟨b, n, m, ws, st, rfl, _⟩ := h
    rfl
  · obtain ⟨b, n, m, ws, st, rfl, hb, hg, h6, hn, hm2, hm18, q⟩ := h
    have nd := sc_strokes_modulo.nd
    have hm18' : m ≤ 1000000000000000000 := hm18
    refine ⟨_, pss_cons (ps_expr (pcall GA hr (pa_cons (pv 0) (pa_cons (pv 1) (pa_cons (pv 2) pa_nil)))))
      (pss_cons (ps_asg (pv 0) (pg_tup (by rfl) (pgs_cons (pg_name (i := 3) nd rfl (.inl rfl)) (pgs_cons (pg_name (i := 4) nd rfl (.inl rfl)) pgs_nil))))
      (pss_cons (ps_set (i := 5) nd rfl (.inr rfl) (plen ml (pv 3)))
      (pss_cons (ps_setLc (i := 6) (own := [("word", 8)]) (g := gName 8) (tt := tYes) (te := tCall spCount [] E0 (tCons (tVar 8) (tCons (tVar 5) tNil))) rfl nd rfl rfl (sw_true rfl rfl rfl (by decide +kernel)) (pi_tup (pv 3)) (blkOk_by (N := n_strokes_modulo) (sc := defScope s_strokes_modulo) (by decide +kernel))
        (fun _ _ _ _ _ => pg_name (i := 8) nd rfl (Or.inl rfl)) (fun _ _ _ _ _ => pts_nil) (fun _ _ _ _ _ => pcall GC hr (pa_cons (pv 8) (pa_cons (pv 5) pa_nil))))
      (pss_cons (ps_set (i := 7) nd rfl (.inl rfl) (pcall GV hr (pa_cons (pv 6) (pa_cons (prepN (plstN (pa_cons pe_int pa_nil)) (pv 5)) (pa_cons (pv 1) (pa_cons (pv 2) pa_nil))))))
      (pss_one (ps_ret (pix (pcall GS hr (pa_cons (plstN (pa_cons (pcall GC hr (pa_cons (pv 4) (pa_cons (pv 5) pa_nil))) pa_nil)) (pa_cons (pv 7) (pa_cons (pv 2) pa_nil)))) pe_int))))))), ?_⟩
    obtain ⟨p, pq, as, h1, h2, h3, h4⟩ := id hb
    have hf := hg.few
    have el := h4.length
    have g1 := hg.one
    refine ⟨_, rfl, _, rfl, _, rfl, b, n, m, ws, st, rfl, hb, hg, hn, hm2, hm18, fun H1 S1 => ?_⟩
    refine ⟨_, rfl, b, _, rfl, SqT.of (S1 _ _ h1), rfl, _, _, rfl, _, _, rfl, rfl, ?_⟩
    refine ⟨_, rfl, p, _, rfl, .inr (SqT.of (S1 _ _ h2)), ?_⟩
    rw [List.length_map, el]
    refine ⟨_, rfl, p, rfl, ⟨_, SqT.of (S1 _ _ h2)⟩, fun D nD => ?_⟩
    have gall := hg.words
    refine lc_tup (K := K) (a := p) (xs := as.map V.ref) (fun i H' => Same H1 H' ∧ ∃ rs : List Addr, H' D = some (.lst (rs.map V.ref)) ∧ RwsN H' D rs ((ws.take i).map (cI ws.length))) ⟨same_upd nD, [], upd_same, .nil⟩ (fun i H' _ h => SqT.of (h.1 _ _ (S1 _ _ h2))) ?_ ?_
    · rintro i x H2 hx ⟨S2, rs, hD, hR⟩
      rw [List.getElem?_map] at hx
      cases ea : as[i]? with
      | none => rw [ea] at hx; cases hx
      | some a =>
        rw [ea] at hx
        cases hx
        have hi : i < ws.length := by have := (List.getElem?_eq_some_iff.mp ea).1; omega
        have hwi := List.getElem?_eq_getElem hi
        generalize ws[i] = wd at hwi
        obtain ⟨a', ea', hwa⟩ := paired_get h4 hwi
        rw [ea] at ea'
        cases ea'
        have lR := hR.length
        rw [List.length_map, List.length_take] at lR
        refine ⟨rfl, _, rfl, _, rfl, a, ws.length, wd, rfl, (hwa.same S1).same S2, by omega, fun H3 c S3 n3 h3 => ⟨_, S3 _ _ hD, ?_, sPut (S2.trans S3) nD, rs ++ [c], ?_, ?_⟩⟩
        · rw [List.length_map, sizeLine_eq]; omega
        · rw [upd_same, List.map_append]; rfl
        · rw [take_more hwi, List.map_append]
          rw [cI_V] at h3
          exact RwsN.put (RwsN.snoc (hR.same S3) (ne_of_none hD n3).symm h3)
    rintro H2 ⟨S2, rs, hD, hR⟩
    rw [List.length_map, el, List.take_length] at hR
    have S02 := S1.trans S2
    refine ⟨_, rfl, szl 1, fun H3 p1 S3 n3 h3p => ⟨_, rfl, p1, (ws.length : Int), _, rfl, rfl, h3p, by omega, by omega, ?_, fun H4 vl S4 n4 h4v => ?_⟩⟩
    · rw [Int.toNat_natCast, sizeLine_eq]; show 1 * ws.length ≤ 16777216; omega
    rw [Int.toNat_natCast, rep_v] at h4v
    have S24 := S3.trans S4
    have lA : (ws.map (cI ws.length)).length = ws.length := List.length_map _
    have sm : ∀ wd : List Sy, wd.length ≤ 1000 → ∀ x ∈ cI ws.length wd, -(2 ^ 64) < x ∧ x < 2 ^ 64 := fun wd h => cI_small h
    have wl : ∀ w ∈ ws, w.length ≤ 1000 := fun w hw => by have := (hg.words w hw).len; omega
    have wlet : ∀ w ∈ ws, ∀ j, Sy.l j ∈ w → j < ws.length := fun w hw => (hg.words w hw).lets
    refine ⟨_, rfl, _, rfl, D, vl, rs, ws.map (cI ws.length), List.replicate ws.length 1, n, (m : Int), rfl, S24 _ _ hD, (hR.same S24).rows, h4v, fun r hr => ?_, ?_, ?_, ?_, fun r hr x hx => ?_, by omega, by omega, fun H5 u ul S5 hu lu hmd => ?_⟩
    · obtain ⟨w0, _, rfl⟩ := List.mem_map.mp hr
      rw [cI_len, lA]
    · rw [lA, List.length_replicate]
    · omega
    · omega
    · obtain ⟨w0, hw0, rfl⟩ := List.mem_map.mp hr
      exact sm w0 (wl w0 hw0) x hx
    rw [rep_tab, ones_it wlet] at hmd
    have S05 := (S02.trans S24).trans S5
    have sl := hg.start.len
    refine ⟨_, rfl, _, rfl, pq, ws.length, st, rfl, h3.same S05, by omega, fun H6 c S6 n6 h6 => ⟨szl 1, fun H7 rl S7 n7 h7 => ?_⟩⟩
    rw [cI_V] at h6
    refine ⟨_, rfl, _, rfl, rl, u, [c], [cI ws.length st], ul, (m : Int), rfl, h7, .cons (S7 _ _ h6) .nil, .inl (SqL.of ((S6.trans S7) _ _ hu)), fun r hr => ?_, by show 1 ≤ 100; decide, by omega, fun r hr => ?_, by omega, fun H8 o S8 n8 h8 => ?_⟩
    · rw [List.mem_singleton.mp hr, cI_len, lu, lA]
    · rw [List.mem_singleton.mp hr]
      exact sm st (by omega)
    have fin : dotI (cI ws.length st) ul % (m : Int) = (nL (grown ws st n) : Int) % (m : Int) := by
      rw [dot_cong (r := cI ws.length st) rfl hmd, dot_cnt _ _ hg.start.lets, nL_grown]
    refine ⟨o, _, _, _, rfl, rfl, SqL.of h8, at0, ?_⟩
    show Q (.int (dotI (cI ws.length st) ul % (m : Int))) H8
    rw [fin]
    exact q H8 (((S05.trans S6).trans S7).trans S8)
end
end SK
namespace SK
open PySem PySem.Spec PyProof.Rows L2
/-! ### where a word ends, without its branches -/
def hdP (p : Pen) : Option Plc := (p.st ++ [p.pl]).head?
theorem hd_o (E : Pth) (p : Pen) : hdP (pstepE E p .o) = hdP p := by
  show ((p.st ++ [(p.x, p.y, p.h)]) ++ [(p.x, p.y, p.h)]).head? = (p.st ++ [(p.x, p.y, p.h)]).head?
  cases p.st <;> rfl
theorem hd_c (E : Pth) (p : Pen) (h : p.st ≠ []) : hdP (pstepE E p .c) = hdP p := by
  obtain ⟨x, y, hh, st, out⟩ := p
  have h : st ≠ [] := h
  have e := List.dropLast_concat_getLast h
  have hl := List.getLast?_eq_some_getLast h
  generalize st.getLast h = t at e hl
  obtain ⟨a, b, c⟩ := t
  have e2 : pstepE E ⟨x, y, hh, st, out⟩ .c = ⟨a, b, c, st.dropLast, out⟩ := by
    show (match st.getLast? with
      | some (a, b, c) => (⟨a, b, c, st.dropLast, out⟩ : Pen)
      | none => ⟨x, y, hh, st, out⟩) = _
    rw [hl]
  rw [e2]
  show (st.dropLast ++ [(a, b, c)]).head? = (st ++ [(x, y, hh)]).head?
  rw [e]
  cases st with
  | nil => exact absurd rfl h
  | cons q r => rfl
theorem pl_step (E : Pth) {p p' : Pen} (s : Sy) (h : isB s = false) (e : p.pl = p'.pl) : (pstepE E p s).pl = (pstepE E p' s).pl := by
  obtain ⟨x, y, hh, st, out⟩ := p
  obtain ⟨x', y', hh', st', out'⟩ := p'
  have e : (x, y, hh) = (x', y', hh') := e
  injection e with e1 e2
  injection e2 with e2 e3
  subst e1 e2 e3
  cases s with
  | o => cases h
  | c => cases h
  | _ => rfl
theorem st_step' (E : Pth) (p : Pen) (s : Sy) (h : isB s = false) : (pstepE E p s).st = p.st := by
  cases s with
  | o => cases h
  | c => cases h
  | _ => rfl
theorem hd_st {p : Pen} (h : p.st ≠ []) (q : Pen) (e : q.st = p.st) : hdP q = hdP p := by
  unfold hdP
  rw [e]
  cases z : p.st with
  | nil => exact absurd z h
  | cons a r => rfl
theorem main_hd (E : Pth) : ∀ (w : List Sy) (p : Pen) (acc : List Sy) {e : Nat}, nest w p.st.length = some e → hdP p = some (penE E acc).pl → hdP (penF E p w) = some (penE E (mainF (p.st.length, acc) w).2).pl
  | [], p, acc, e, _, h => h
  | s :: w, p, acc, e, hn, h => by
    rw [nest_cons] at hn
    cases hs : nest [s] p.st.length with
    | none => rw [hs] at hn; cases hn
    | some d =>
      rw [hs] at hn
      have ls := st_step E p s hs
      rw [penF_cons, mainF_cons]
      have go : ∀ acc', mstep (p.st.length, acc) s = (d, acc') → hdP (pstepE E p s) = some (penE E acc').pl → hdP (penF E (pstepE E p s) w) = some (penE E (mainF (mstep (p.st.length, acc) s) w).2).pl := fun acc' e1 h1 => by
        have z := main_hd E w (pstepE E p s) acc' (e := e) (by rw [ls]; exact hn) h1
        rw [e1, ← ls]
        exact z
      have flat : isB s = false → (p.st.length = d) → (mstep (p.st.length, acc) s = if p.st.length = 0 then (p.st.length, acc ++ [s]) else (p.st.length, acc)) → hdP (penF E (pstepE E p s) w) = some (penE E (mainF (mstep (p.st.length, acc) s) w).2).pl := fun hb hd hm => by
        by_cases z : p.st.length = 0
        · rw [if_pos z] at hm
          refine go (acc ++ [s]) (by rw [hm, hd]) ?_
          have e0 : p.st = [] := List.length_eq_zero_iff.mp z
          have e1 : p.pl = (penE E acc).pl := by
            unfold hdP at h
            rw [e0] at h
            exact Option.some.inj h
          unfold hdP
          rw [st_step' E p s hb, e0]
          show some (pstepE E p s).pl = _
          rw [pl_step E s hb e1]
          unfold penE
          rw [penF_app]
          rfl
        · rw [if_neg z] at hm
          refine go acc (by rw [hm, hd]) ?_
          rw [hd_st (fun y => z (by rw [y]; rfl)) _ (st_step' E p s hb)]
          exact h
      cases s with
      | o =>
        have e1 : d = p.st.length + 1 := (Option.some.inj hs).symm
        refine go acc (by rw [e1]; rfl) ?_
        rw [hd_o]
        exact h
      | c =>
        cases hz : p.st.length with
        | zero => rw [hz] at hs; cases hs
        | succ j =>
          rw [hz] at hs
          have e1 : d = j := (Option.some.inj hs).symm
          rw [← hz]
          refine go acc (by rw [hz, e1]; rfl) ?_
          rw [hd_c E p (fun y => by rw [y] at hz; cases hz)]
          exact h
      | p => exact flat rfl (Option.some.inj hs) rfl
      | m => exact flat rfl (Option.some.inj hs) rfl
      | l k => exact flat rfl (Option.some.inj hs) rfl
theorem main_pl (E : Pth) {w : List Sy} (h : nest w 0 = some 0) : (penE E w).pl = (penE E (mainW w)).pl := by
  have z := main_hd E w org [] (e := 0) h rfl
  have s : (penF E org w).st = [] := List.length_eq_zero_iff.mp (st_run E w org h)
  unfold hdP at z
  rw [s] at z
  exact Option.some.inj z
/-! ### the rows that tell where a flat word ends -/
def addAt (v : List Int) (i : Nat) (d : Int) : List Int := v.set i (v.getD i 0 + d)
theorem addAt_len (v : List Int) (i : Nat) (d : Int) : (addAt v i d).length = v.length := List.length_set ..
theorem dot_addAt (d : Int) : ∀ (v u : List Int) (i : Nat), v.length = u.length → i < v.length → dotI (addAt v i d) u = dotI v u + d * u.getD i 0
  | [], _, _, _, h => nomatch h
  | _ :: _, [], _, h, _ => nomatch h
  | x :: v, y :: u, 0, _, _ => by
    show (x + d) * y + dotI v u = x * y + dotI v u + d * y
    rw [Int.add_mul]
    omega
  | x :: v, y :: u, i + 1, h, hi => by
    have ih := dot_addAt d v u i (Nat.succ.inj h) (Nat.lt_of_succ_lt_succ hi)
    show x * y + dotI (addAt v i d) u = x * y + dotI v u + d * u.getD i 0
    rw [ih]
    omega
def stepRw (p : List Int × List Int) (s : Stk) : List Int × List Int :=
  (addAt (addAt p.1 (2 * s.2.2.2) (dir s.2.2.1).1) (2 * s.2.2.2 + 1) (-(dir s.2.2.1).2), addAt (addAt p.2 (2 * s.2.2.2) (dir s.2.2.1).2) (2 * s.2.2.2 + 1) (dir s.2.2.1).1)
def rowsF (p : List Int × List Int) (ss : List Stk) : List Int × List Int := ss.foldl stepRw p
def rows0 (n : Nat) : List Int × List Int := (List.replicate (2 * n) 0, List.replicate (2 * n) 0)
def rowsW (n : Nat) (w : List Sy) : List Int × List Int := rowsF (rows0 n) (penE one (mainW w)).out
theorem rowsF_len {N : Nat} : ∀ (ss : List Stk) (p : List Int × List Int), p.1.length = N → p.2.length = N → (rowsF p ss).1.length = N ∧ (rowsF p ss).2.length = N
  | [], p, h1, h2 => ⟨h1, h2⟩
  | s :: ss, p, h1, h2 => rowsF_len ss (stepRw p s) (by unfold stepRw; rw [addAt_len, addAt_len]; exact h1) (by unfold stepRw; rw [addAt_len, addAt_len]; exact h2)
theorem rowsW_len (n : Nat) (w : List Sy) : (rowsW n w).1.length = 2 * n ∧ (rowsW n w).2.length = 2 * n := rowsF_len _ _ List.length_replicate List.length_replicate
/-- the places that numbers tell -/
def EU (u : List Int) : Pth := fun k => (u.getD (2 * k) 0, u.getD (2 * k + 1) 0, 0)
def sX (E : Pth) : List Stk → Int × Int
  | [] => (0, 0)
  | s :: ss => ((rot s.2.2.1 ((E s.2.2.2).1, (E s.2.2.2).2.1)).1 + (sX E ss).1, (rot s.2.2.1 ((E s.2.2.2).1, (E s.2.2.2).2.1)).2 + (sX E ss).2)
theorem rot_dir {h : Int} (h0 : 0 ≤ h) (h4 : h < 4) (a b : Int) : rot h (a, b) = ((dir h).1 * a - (dir h).2 * b, (dir h).2 * a + (dir h).1 * b) := by
  have e : h = 0 ∨ h = 1 ∨ h = 2 ∨ h = 3 := by omega
  rcases e with rfl | rfl | rfl | rfl
  · show (a, b) = ((1 : Int) * a - 0 * b, (0 : Int) * a + 1 * b)
    rw [Int.one_mul, Int.zero_mul, Int.zero_mul, Int.one_mul, Int.sub_zero, Int.zero_add]
  · show (-b, a) = ((0 : Int) * a - 1 * b, (1 : Int) * a + 0 * b)
    rw [Int.one_mul, Int.zero_mul, Int.zero_mul, Int.one_mul, Int.zero_sub, Int.add_zero]
  · show (-a, -b) = ((-1 : Int) * a - 0 * b, (0 : Int) * a + -1 * b)
    rw [Int.zero_mul, Int.zero_mul, Int.neg_mul, Int.neg_mul, Int.one_mul, Int.one_mul, Int.sub_zero, Int.zero_add]
  · show (b, -a) = ((0 : Int) * a - -1 * b, (-1 : Int) * a + 0 * b)
    rw [Int.zero_mul, Int.zero_mul, Int.neg_mul, Int.neg_mul, Int.one_mul, Int.one_mul, Int.zero_sub, Int.neg_neg, Int.add_zero]
theorem rows_dot {u : List Int} : ∀ (ss : List Stk) (p : List Int × List Int), p.1.length = u.length → p.2.length = u.length → (∀ s ∈ ss, 0 ≤ s.2.2.1 ∧ s.2.2.1 < 4 ∧ 2 * s.2.2.2 + 1 < u.length) →
    dotI (rowsF p ss).1 u = dotI p.1 u + (sX (EU u) ss).1 ∧ dotI (rowsF p ss).2 u = dotI p.2 u + (sX (EU u) ss).2
  | [], p, _, _, _ => ⟨by show _ = _ + (0 : Int); rw [Int.add_zero]; rfl, by show _ = _ + (0 : Int); rw [Int.add_zero]; rfl⟩
  | s :: ss, p, h1, h2, h => by
    obtain ⟨a0, a4, ak⟩ := h s List.mem_cons_self
    have l1 : (addAt p.1 (2 * s.2.2.2) (dir s.2.2.1).1).length = u.length := by rw [addAt_len, h1]
    have l2 : (addAt p.2 (2 * s.2.2.2) (dir s.2.2.1).2).length = u.length := by rw [addAt_len, h2]
    have ih := rows_dot ss (stepRw p s) (by unfold stepRw; rw [addAt_len]; exact l1) (by unfold stepRw; rw [addAt_len]; exact l2) fun t ht => h t (List.mem_cons_of_mem _ ht)
    have d1 : dotI (stepRw p s).1 u = dotI p.1 u + (dir s.2.2.1).1 * u.getD (2 * s.2.2.2) 0 + -(dir s.2.2.1).2 * u.getD (2 * s.2.2.2 + 1) 0 := by
      unfold stepRw
      rw [dot_addAt _ _ _ _ l1 (by omega), dot_addAt _ _ _ _ h1 (by omega)]
    have d2 : dotI (stepRw p s).2 u = dotI p.2 u + (dir s.2.2.1).2 * u.getD (2 * s.2.2.2) 0 + (dir s.2.2.1).1 * u.getD (2 * s.2.2.2 + 1) 0 := by
      unfold stepRw
      rw [dot_addAt _ _ _ _ l2 (by omega), dot_addAt _ _ _ _ h2 (by omega)]
    have r := rot_dir a0 a4 (u.getD (2 * s.2.2.2) 0) (u.getD (2 * s.2.2.2 + 1) 0)
    have e1 : (sX (EU u) (s :: ss)).1 = (rot s.2.2.1 (u.getD (2 * s.2.2.2) 0, u.getD (2 * s.2.2.2 + 1) 0)).1 + (sX (EU u) ss).1 := rfl
    have e2 : (sX (EU u) (s :: ss)).2 = (rot s.2.2.1 (u.getD (2 * s.2.2.2) 0, u.getD (2 * s.2.2.2 + 1) 0)).2 + (sX (EU u) ss).2 := rfl
    show dotI (rowsF (stepRw p s) ss).1 u = _ ∧ dotI (rowsF (stepRw p s) ss).2 u = _
    rw [ih.1, ih.2, d1, d2, e1, e2, r]
    rw [Int.neg_mul]
    exact ⟨by dsimp only; omega, by dsimp only; omega⟩
/-- letters that don't turn -/
theorem flat_run {E : Pth} : ∀ (w : List Sy), (∀ s ∈ w, isB s = false) → (∀ k, Sy.l k ∈ w → (E k).2.2 = 0) → ∀ (p p' : Pen), p.h = p'.h →
    (penF E p w).h = (penF one p' w).h ∧ ∃ new, (penF one p' w).out = p'.out ++ new ∧ (penF E p w).x = p.x + (sX E new).1 ∧ (penF E p w).y = p.y + (sX E new).2
  | [], _, _, p, p', h => ⟨h, [], (List.append_nil _).symm, (Int.add_zero _).symm, (Int.add_zero _).symm⟩
  | s :: w, hb, hE, p, p', h => by
    have hb' : ∀ t ∈ w, isB t = false := fun t ht => hb t (List.mem_cons_of_mem _ ht)
    have hE' : ∀ k, Sy.l k ∈ w → (E k).2.2 = 0 := fun k hk => hE k (List.mem_cons_of_mem _ hk)
    have s0 := hb s List.mem_cons_self
    rw [penF_cons, penF_cons]
    cases s with
    | o => cases s0
    | c => cases s0
    | p => exact flat_run w hb' hE' (pstepE E p .p) (pstepE one p' .p) (by show (p.h + 1) % 4 = (p'.h + 1) % 4; rw [h])
    | m => exact flat_run w hb' hE' (pstepE E p .m) (pstepE one p' .m) (by show (p.h + 3) % 4 = (p'.h + 3) % 4; rw [h])
    | l k =>
      have z := hE k List.mem_cons_self
      have eh : (pstepE E p (.l k)).h = (pstepE one p' (.l k)).h := by
        show (p.h + (E k).2.2) % 4 = (p'.h + 0) % 4
        rw [z, h]
      obtain ⟨a, new, b, c, d⟩ := flat_run w hb' hE' (pstepE E p (.l k)) (pstepE one p' (.l k)) eh
      refine ⟨a, (p'.x, p'.y, p'.h, k) :: new, ?_, ?_, ?_⟩
      · rw [b]
        show (p'.out ++ [(p'.x, p'.y, p'.h, k)]) ++ new = _
        rw [List.append_assoc]
        rfl
      · rw [c]
        show p.x + (rot p.h ((E k).1, (E k).2.1)).1 + (sX E new).1 = p.x + ((rot p'.h ((E k).1, (E k).2.1)).1 + (sX E new).1)
        rw [h]; omega
      · rw [d]
        show p.y + (rot p.h ((E k).1, (E k).2.1)).2 + (sX E new).2 = p.y + ((rot p'.h ((E k).1, (E k).2.1)).2 + (sX E new).2)
        rw [h]; omega
end SK
namespace SK
open PySem PySem.Spec PyProof.Rows L2
/-- a list, new: none of the written part either -/
def tLstK (K : PySem.W.Frag) (t : TA) : TE := fun σ H Q => t σ H fun xs H1 => xs.length ≤ sizeLine ∧ ∀ (H' : Hp) (p : Addr), Same H1 H' → H1 p = none → K.lookup p = none → H' p = some (.lst xs) → Q (.ref p) H'
theorem plstK {X : Cx} {es : List Expr} {t : TA} {pos : Pos} (h : PA X es t) : PE X (.List es pos) (tLstK X.K t) := by
  refine ⟨fun pins s σ H Q I hq => ?_⟩
  refine wpAny_List_spliced (thn (h.run pos pins s σ H _ I hq) fun us s1 ⟨xs, H1, I1, r, z, q⟩ => ⟨by rw [← r.length]; exact z, ?_⟩)
  have hf : H1 s1.heap.objs.size = none := I1.hok.fresh (Nat.le_refl _)
  have hk : X.K.lookup s1.heap.objs.size = none := by
    cases e : X.K.lookup s1.heap.objs.size with
    | none => rfl
    | some o => exact absurd (Heap.lt_size (I1.kIn _ _ e)) (Nat.lt_irrefl _)
  refine ⟨.ref s1.heap.objs.size, upd H1 s1.heap.objs.size (.lst xs), I1.laid (t' := s1.toks) (fun b u e => Heap.get?_push_of_some _ e) (Nat.le_refl _) ?_, rfl, q _ _ (same_upd hf) hf hk upd_same⟩
  exact ⟨z, us, 0, r, Heap.get?_push_size _ rfl⟩
def rSlTN (K : PySem.W.Frag) : V → Option Int → Option Int → Hp → VK → Prop := fun x lo hi H Q => ∃ a xs, x = .ref a ∧ SqT K H a xs ∧ ¬ (HT.sIx xs.length 0 lo = 0 ∧ HT.sIx xs.length xs.length hi = xs.length) ∧ New (.tup (cutV xs lo hi)) H Q
theorem sl_tupN {X : Cx} : SlR X (rSlTN X.K) := fun pins s σ H x v vl vu lo hi sl Q I rx hs pl pu ⟨a, xs, h1, h2, h3, h4⟩ => sl_tup pins s σ H x v vl vu lo hi sl Q I rx hs pl pu ⟨a, xs, h1, h2, h3, h4.ok⟩
end SK
namespace SK
open PySem PySem.Spec PyProof.Rows L2
theorem stk_get {H : Hp} {as : List Addr} {ss : List Stk} {i : Nat} {x : V} (h : Strs H as ss) (hx : (as.map V.ref)[i]? = some x) : ∃ a s, x = .ref a ∧ ss[i]? = some s ∧ H a = some (.tup (stV s)) := by
  rw [List.getElem?_map] at hx
  cases e : as[i]? with
  | none => rw [e] at hx; cases hx
  | some a =>
    rw [e] at hx
    have hi : i < ss.length := by
      have := h.length
      have := (List.getElem?_eq_some_iff.mp e).1
      omega
    have hs := List.getElem?_eq_getElem hi
    obtain ⟨a', ha', ht⟩ := paired_get h hs
    rw [e] at ha'
    cases ha'
    exact ⟨a, ss[i], (Option.some.inj hx).symm, hs, ht⟩
theorem strokes_ok {w : List Sy} (hn : nest w 0 ≠ none) : (∀ q ∈ strokes w, 0 ≤ q.2.2.1 ∧ q.2.2.1 < 4) ∧ (strokes w).length ≤ w.length := by
  have PO := penOk_take hn w.length (Nat.le_refl _)
  rw [List.take_length] at PO
  exact ⟨PO.out, PO.len.1⟩
theorem nest_up : ∀ (w : List Sy) (d e k : Nat), nest w d = some e → nest w (d + k) = some (e + k)
  | [], d, e, k, h => by
    have h : some d = some e := h
    cases h
    rfl
  | s :: w, d, e, k, h => by
    cases s with
    | o =>
      have := nest_up w (d + 1) e k h
      rw [show d + 1 + k = d + k + 1 by omega] at this
      exact this
    | c =>
      cases d with
      | zero => cases h
      | succ d =>
        have := nest_up w d e k h
        rw [show d + 1 + k = (d + k) + 1 by omega]
        exact this
    | p => exact nest_up w d e k h
    | m => exact nest_up w d e k h
    | l j => exact nest_up w d e k h
theorem nest_grow {ws : List (List Sy)} {n : Nat} (hg : ∀ w ∈ ws, Good n 40 w) : ∀ {w : List Sy} {d e : Nat}, (∀ k, Sy.l k ∈ w → k < ws.length) → nest w d = some e → nest (grow ws w) d = some e
  | [], d, e, _, h => h
  | s :: w, d, e, hl, h => by
    have hl' : ∀ k, Sy.l k ∈ w → k < ws.length := fun k hk => hl k (List.mem_cons_of_mem _ hk)
    show nest (img ws s ++ grow ws w) d = some e
    rw [nest_app]
    cases s with
    | l j =>
      have hj := hl j List.mem_cons_self
      have ew : ws.getD j [] = ws[j] := by rw [List.getD_eq_getElem?_getD, List.getElem?_eq_getElem hj]; rfl
      have g := (hg _ (List.getElem_mem hj)).nst
      have := nest_up ws[j] 0 0 d g
      rw [Nat.zero_add] at this
      show (nest (ws.getD j []) d).bind (nest (grow ws w)) = some e
      rw [ew, this]
      exact nest_grow hg hl' h
    | o => exact nest_grow hg hl' (show nest w (d + 1) = some e from h)
    | c =>
      cases d with
      | zero => cases h
      | succ d => exact nest_grow hg hl' (show nest w d = some e from h)
    | p => exact nest_grow hg hl' (show nest w d = some e from h)
    | m => exact nest_grow hg hl' (show nest w d = some e from h)
theorem nest_grown {ws : List (List Sy)} {st : List Sy} (g : GoodBook ws st) : ∀ n, nest (grown ws st n) 0 = some 0
  | 0 => g.start.nst
  | n + 1 => nest_grow g.words (grown_lets g n) (nest_grown g n)
theorem nest_grown' {ws : List (List Sy)} {st : List Sy} (g : GoodBook ws st) (n : Nat) : nest (grown ws st n) 0 ≠ none := by
  rw [nest_grown g n]
  exact fun z => nomatch z
/-! alike -/
theorem Alk.flat {H : Hp} {v : V} (h : flatA v = true) : ∀ n, Alk H n v v
  | 0 => ⟨rfl, h⟩
  | n + 1 => .inl ⟨rfl, h⟩
theorem Alk.tup {H : Hp} {n : Nat} {a b : Addr} {xs ys : List V} (ha : Rd H a (.tup xs)) (hb : Rd H b (.tup ys)) (hl : xs.length = ys.length) (hz : xs.length ≤ 10000000) (hi : ∀ (i : Nat) (x y : V), xs[i]? = some x → ys[i]? = some y → Alk H n x y) : Alk H (n + 1) (.ref a) (.ref b) :=
  .inr ⟨a, b, xs, ys, rfl, rfl, .inl ⟨ha, hb⟩, hl, hz, hi⟩
theorem Alk.lst {H : Hp} {n : Nat} {a b : Addr} {xs ys : List V} (ha : H a = some (.lst xs)) (hb : H b = some (.lst ys)) (hl : xs.length = ys.length) (hz : xs.length ≤ 10000000) (hi : ∀ (i : Nat) (x y : V), xs[i]? = some x → ys[i]? = some y → Alk H n x y) : Alk H (n + 1) (.ref a) (.ref b) :=
  .inr ⟨a, b, xs, ys, rfl, rfl, .inr ⟨ha, hb⟩, hl, hz, hi⟩
/-- a tuple of flat things, twice -/
theorem Alk.flats {H : Hp} {n : Nat} {a b : Addr} {xs : List V} (ha : Rd H a (.tup xs)) (hb : Rd H b (.tup xs)) (hz : xs.length ≤ 10000000) (hf : ∀ x ∈ xs, flatA x = true) : Alk H (n + 1) (.ref a) (.ref b) :=
  Alk.tup ha hb rfl hz fun i x y hx hy => by
    rw [hx] at hy
    cases hy
    exact Alk.flat (hf x (List.mem_of_getElem? hx)) n
theorem flat_sy (s : Sy) : flatA s.v = true := by cases s <;> rfl
theorem alk_word {H : Hp} {n : Nat} {a b : Addr} {w : List Sy} (ha : WdAt H a w) (hb : H b = some (.tup (wv w))) (hz : w.length ≤ 10000000) : Alk H (n + 1) (.ref a) (.ref b) := by
  obtain ⟨o, e, _⟩ := ha
  refine Alk.flats (.inr ⟨o, e⟩) (.inl hb) (by rw [List.length_map]; exact hz) fun x hx => ?_
  obtain ⟨s, _, rfl⟩ := List.mem_map.mp hx
  exact flat_sy s
theorem alk_strs {H : Hp} {n : Nat} {a b : Addr} {as bs : List Addr} {ss : List Stk} (ha : H a = some (.tup (as.map V.ref))) (hb : H b = some (.tup (bs.map V.ref))) (hA : Strs H as ss) (hB : Strs H bs ss) (hz : ss.length ≤ 10000000) : Alk H (n + 2) (.ref a) (.ref b) := by
  have la := hA.length
  have lb := hB.length
  refine Alk.tup (.inl ha) (.inl hb) (by rw [List.length_map, List.length_map, la, lb]) (by rw [List.length_map, la]; exact hz) fun i x y hx hy => ?_
  obtain ⟨a1, s1, rfl, e1, t1⟩ := stk_get hA hx
  obtain ⟨b1, s2, rfl, e2, t2⟩ := stk_get hB hy
  rw [e1] at e2
  cases e2
  refine Alk.flats (.inl t1) (.inl t2) (by show 4 ≤ _; decide) fun x hx => ?_
  simp only [stV, List.mem_cons, List.not_mem_nil, or_false] at hx
  rcases hx with rfl | rfl | rfl | rfl <;> rfl
end SK
namespace SK
open PySem PySem.Spec PyProof.Rows L2
def spOutside : Sp := fun vs H Q _ => ∃ (a : Addr) (w : List Sy), vs = [.ref a] ∧ WdAt H a w ∧ nest w 0 ≠ none ∧ w.length ≤ 1000000 ∧ New (.lst (wv (mainW w))) H Q
def spCountL (K : PySem.W.Frag) : Sp := fun vs H Q _ => ∃ (a : Addr) (n : Nat) (w : List Sy), vs = [.ref a, .int n] ∧ SqL K H a (wv w) ∧ n ≤ 8 ∧ New (.lst (iV (cntL n w))) H Q
def spTurns : Sp := fun vs H Q _ => ∃ (b : Addr) (n : Nat) (ws : List (List Sy)) (st : List Sy), vs = [.ref b, .int n] ∧ BookAt H b ws st ∧ GoodBook ws st ∧ n ≤ 1000 ∧ ∀ H', Same H H' → Q (.int (turnsW (grown ws st n))) H'
theorem nest_step {w : List Sy} {i : Nat} {s : Sy} {d : Nat} (hn : nest w 0 ≠ none) (hs : w[i]? = some s) (hd : nest (w.take i) 0 = some d) : nest [s] d ≠ none := by
  have := nest_take hn (i + 1)
  rw [take_more hs, nest_app, hd] at this
  exact this
theorem main_len : ∀ (w : List Sy) (x : Nat × List Sy), (mainF x w).2.length ≤ x.2.length + w.length
  | [], x => Nat.le_refl _
  | t :: w, x => by
    have ih := main_len w (mstep x t)
    have h1 : (mstep x t).2.length ≤ x.2.length + 1 := by
      have put : (if x.1 = 0 then (x.1, x.2 ++ [t]) else x).2.length ≤ x.2.length + 1 := by
        by_cases z : x.1 = 0
        · rw [if_pos z, List.length_append]; exact Nat.le_refl _
        · rw [if_neg z]; omega
      cases t with
      | o => exact Nat.le_succ _
      | c => exact Nat.le_succ _
      | p => exact put
      | m => exact put
      | l k => exact put
    rw [mainF_cons, List.length_cons]
    omega
section
variable {P : Program} {w : World} {K : PySem.W.Frag} {mg : Str → Option Value} {base : Heap}
theorem ok_outside {f : Addr} {fd : FuncData} {k : Nat} (F : Fun K "outside_branches" "outside_branches" s_outside_branches f fd) : FnOk P w K mg base CX0 (k + 1) f fd ["word"] spOutside := by
  refine F.ok sc_outside_branches (fun vs H Q E h => ?_) (fun cdv A outer s H vs Q E hr h => ?_)
  · obtain ⟨a, w, rfl, _⟩ := h
    rfl
  · obtain ⟨a, wd, rfl, ha, hn, hl, q⟩ := h
    have nd := sc_outside_branches.nd
    refine ⟨_, pss_cons (ps_set (i := 1) nd rfl (.inl rfl) pe_int) (pss_cons (ps_set (i := 2) nd rfl (.inl rfl) (plstN pa_nil))
      (pss_cons (ps_for PassesOwn.never rfl (pi_tup (pv 0)) (pg_name (i := 3) nd rfl (.inl rfl))
        (pss_one (ps_if (pt_cmpR op_eq (pv 3) pe_str (nomark _)) (pss_one (ps_aug (i := 1) nd rfl (.inl rfl) pe_int ip_add))
          (pss_one (ps_if (pt_cmpR op_eq (pv 3) pe_str (nomark _)) (pss_one (ps_aug (i := 1) nd rfl (.inl rfl) pe_int ip_sub))
            (pss_one (ps_if (pt_cmpR op_eq (pv 1) pe_int (nomark _)) (pss_one (sapp (pv 2) (pv 3))) pss_nil)))))))
      (pss_one (ps_ret (pv 2))))), ?_⟩
    refine ⟨szl 0, fun H1 po S1 n1 h1 => ⟨_, rfl, a, rfl, ⟨_, (ha.same S1).sq⟩, for_tup (K := K) (a := a) (xs := wv wd) (fun i σ H' => ∃ y3 : Option V, σ = [some (.ref a), some (.int ((mainF (0, []) (wd.take i)).1 : Nat)), some (.ref po), y3] ∧ Same H H' ∧ H' po = some (.lst (wv (mainF (0, []) (wd.take i)).2)))
      ⟨none, rfl, S1, h1⟩ (fun i σ H' _ ⟨_, _, s, _⟩ => (ha.same s).sq) ?_ ?_⟩⟩
    · rintro i x σ H2 hx ⟨y3, rfl, S2, hp⟩
      obtain ⟨s, hs, rfl⟩ := wv_get hx
      have hi : i < wd.length := (List.getElem?_eq_some_iff.mp hs).1
      have ml := main_len (wd.take i) (0, [])
      have e0 : ((0 : Nat), ([] : List Sy)).2.length = 0 := rfl
      rw [List.length_take] at ml
      have nd1 : nest [s] (mainF (0, []) (wd.take i)).1 ≠ none := by
        cases hd : nest (wd.take i) 0 with
        | none => exact absurd hd (nest_take hn i)
        | some d =>
          rw [main_depth (wd.take i) (0, []) hd]
          exact nest_step hn hs hd
      rw [mainF_take hs]
      generalize mainF (0, []) (wd.take i) = x at hp ml nd1
      obtain ⟨d, acc⟩ := x
      have put : ∀ (t : Sy), t.v ≠ .str "[" → t.v ≠ .str "]" → mstep (d, acc) t = (if d = 0 then (d, acc ++ [t]) else (d, acc)) := fun t h1 h2 => by
        cases t with
        | o => exact absurd rfl h1
        | c => exact absurd rfl h2
        | p => rfl
        | m => rfl
        | l k => rfl
      have e1 : ((d + 1 : Nat) : Int) = (d : Int) + 1 := Int.natCast_add d 1
      cases s with
      | o =>
        refine ⟨_, rfl, rfl, _, rfl, itY rfl ⟨_, rfl, _, _, rfl, rfl, some (Sy.v .o), ?_, S2, hp⟩⟩
        show _ = [some (V.ref a), some (V.int ((d + 1 : Nat) : Int)), some (V.ref po), some (Sy.v .o)]
        rw [e1]
        rfl
      | c =>
        obtain ⟨d', hd'⟩ : ∃ d', d = d' + 1 := by
          cases d with
          | zero => exact absurd rfl nd1
          | succ d => exact ⟨d, rfl⟩
        refine ⟨_, rfl, rfl, _, rfl, itN (by decide) ⟨_, rfl, rfl, _, rfl, itY rfl ⟨_, rfl, _, _, rfl, rfl, some (Sy.v .c), ?_, S2, hp⟩⟩⟩
        show _ = [some (V.ref a), some (V.int ((d - 1 : Nat) : Int)), some (V.ref po), some (Sy.v .c)]
        rw [show ((d - 1 : Nat) : Int) = (d : Int) - 1 by omega]
        rfl
      | p =>
        refine ⟨_, rfl, rfl, _, rfl, itN (by decide) ⟨_, rfl, rfl, _, rfl, itN (by decide) ⟨_, rfl, rfl, _, rfl, ?_⟩⟩⟩
        rw [put .p (by decide) (by decide)]
        by_cases z : d = 0
        · rw [if_pos z]
          refine itY (by rw [z]; rfl) ⟨_, rfl, .inl ⟨rfl, _, SqL.of hp⟩, _, rfl, po, _, _, rfl, rfl, hp, ?_, some (Sy.v .p), rfl, sPut S2 n1, ?_⟩
          · rw [List.length_map, sizeLine_eq]; have ml : acc.length ≤ 0 + min i wd.length := ml; show acc.length < _; omega
          · rw [upd_same]; show some (HO.lst (acc.map Sy.v ++ [_])) = some (HO.lst ((acc ++ [_]).map Sy.v)); rw [List.map_append]; rfl
        · rw [if_neg z]
          exact itN (fun y => z (by injection y with y; omega)) ⟨some (Sy.v .p), rfl, S2, hp⟩
      | m =>
        refine ⟨_, rfl, rfl, _, rfl, itN (by decide) ⟨_, rfl, rfl, _, rfl, itN (by decide) ⟨_, rfl, rfl, _, rfl, ?_⟩⟩⟩
        rw [put .m (by decide) (by decide)]
        by_cases z : d = 0
        · rw [if_pos z]
          refine itY (by rw [z]; rfl) ⟨_, rfl, .inl ⟨rfl, _, SqL.of hp⟩, _, rfl, po, _, _, rfl, rfl, hp, ?_, some (Sy.v .m), rfl, sPut S2 n1, ?_⟩
          · rw [List.length_map, sizeLine_eq]; have ml : acc.length ≤ 0 + min i wd.length := ml; show acc.length < _; omega
          · rw [upd_same]; show some (HO.lst (acc.map Sy.v ++ [_])) = some (HO.lst ((acc ++ [_]).map Sy.v)); rw [List.map_append]; rfl
        · rw [if_neg z]
          exact itN (fun y => z (by injection y with y; omega)) ⟨some (Sy.v .m), rfl, S2, hp⟩
      | l kk =>
        refine ⟨_, rfl, rfl, _, rfl, itN (fun z => nomatch z) ⟨_, rfl, rfl, _, rfl, itN (fun z => nomatch z) ⟨_, rfl, rfl, _, rfl, ?_⟩⟩⟩
        rw [put (.l kk) (fun z => nomatch z) (fun z => nomatch z)]
        by_cases z : d = 0
        · rw [if_pos z]
          refine itY (by rw [z]; rfl) ⟨_, rfl, .inl ⟨rfl, _, SqL.of hp⟩, _, rfl, po, _, _, rfl, rfl, hp, ?_, some (Sy.v (.l kk)), rfl, sPut S2 n1, ?_⟩
          · rw [List.length_map, sizeLine_eq]; have ml : acc.length ≤ 0 + min i wd.length := ml; show acc.length < _; omega
          · rw [upd_same]; show some (HO.lst (acc.map Sy.v ++ [_])) = some (HO.lst ((acc ++ [_]).map Sy.v)); rw [List.map_append]; rfl
        · rw [if_neg z]
          exact itN (fun y => z (by injection y with y; omega)) ⟨some (Sy.v (.l kk)), rfl, S2, hp⟩
    · rintro σ H2 ⟨y3, rfl, S2, hp⟩
      rw [List.length_map, List.take_length] at hp
      exact ⟨_, rfl, q H2 po S2 n1 hp⟩
/-- the test of a list of signs: how often one of them -/
theorem pcntL {X : Cx} {o e : Expr} {to te : TE} {apos cpos : Pos} (ho : PE X o to) (he : PE X e te) (hb : attributeBase o "count" X.env (eval o X.env) = eval o X.env := by rfl)
    (hf : ((backTo cpos (starEach (e :: []) X.env)).all (fun x => !x.1) && (backToKw cpos (keywordEach [] X.env)).all (fun x => x.1.isSome) && decide ((e :: []).length + ([] : List Keyword).length + (if ([] : List Keyword).isEmpty then 0 else 1) < 30)) = true := by rfl)
    (hl : (apos.endLine == cpos.line) = true := by rfl) (hs1 : starEach [e] X.env = (false, eval e X.env) :: starEach [] X.env := by rfl) (hp1 : (backTo cpos (starEach [] X.env)).any (·.1) = false := by rfl) :
    PE X (.Call (.Attribute o "count" apos) [e] [] cpos) (tBM X.K "list" (rCntV X.K) to (tCons te tNil)) :=
  pe_bm PySem.F.plainAttrs_list PySem.F.slot_list_count PySem.F.type_list_count mt_cntV ho (pa_cons he pa_nil hs1) hb hf hl hs1 hp1
theorem flat_wv' : ∀ w : List Sy, (wv w).all flatV = true
  | [] => rfl
  | s :: w => by
    show (flatV s.v && (wv w).all flatV) = true
    rw [flat_wv' w]
    cases s <;> rfl
end
theorem main_sub : ∀ (w : List Sy) (x : Nat × List Sy) (s : Sy), s ∈ (mainF x w).2 → s ∈ x.2 ∨ s ∈ w
  | [], x, s, h => .inl h
  | t :: w, x, s, h => by
    rcases main_sub w (mstep x t) s h with h | h
    · have put : s ∈ (if x.1 = 0 then (x.1, x.2 ++ [t]) else x).2 → s ∈ x.2 ∨ s ∈ t :: w := fun h => by
        by_cases z : x.1 = 0
        · rw [if_pos z] at h
          rcases List.mem_append.mp h with h | h
          · exact .inl h
          · rw [List.mem_singleton.mp h]; exact .inr List.mem_cons_self
        · rw [if_neg z] at h
          exact .inl h
      cases t with
      | o => exact .inl h
      | c => exact .inl h
      | p => exact put h
      | m => exact put h
      | l k => exact put h
    · exact .inr (List.mem_cons_of_mem _ h)
end SK
namespace SK
open PySem PySem.Spec PyProof.Rows L2
def Tells (u : List Int) (E : Pth) (k : Nat) : Prop := u.getD (2 * k) 0 = (E k).1 ∧ u.getD (2 * k + 1) 0 = (E k).2.1
theorem sX_congr {E E' : Pth} : ∀ {ss : List Stk}, (∀ s ∈ ss, (E s.2.2.2).1 = (E' s.2.2.2).1 ∧ (E s.2.2.2).2.1 = (E' s.2.2.2).2.1) → sX E ss = sX E' ss
  | [], _ => rfl
  | s :: ss, h => by
    have ih := sX_congr (ss := ss) fun t ht => h t (List.mem_cons_of_mem _ ht)
    obtain ⟨a, b⟩ := h s List.mem_cons_self
    unfold sX
    rw [ih, a, b]
theorem row_ends {n : Nat} {w : List Sy} (hw : nest w 0 = some 0) (hl : ∀ k, Sy.l k ∈ w → k < n) {u : List Int} (lu : u.length = 2 * n) {E : Pth} (hE : ∀ k, Sy.l k ∈ w → Tells u E k ∧ (E k).2.2 = 0) :
    dotI (rowsW n w).1 u = (penE E w).x ∧ dotI (rowsW n w).2 u = (penE E w).y ∧ (penE E w).h = (pen w).h := by
  have sub : ∀ s, s ∈ mainW w → s ∈ w := fun s hs => (main_sub w (0, []) s hs).resolve_left fun z => by cases z
  have fl : ∀ s ∈ mainW w, isB s = false := main_flat w (0, []) fun s h => by cases h
  obtain ⟨a, new, b, c, d⟩ := flat_run (E := E) (mainW w) fl (fun k hk => (hE k (sub _ hk)).2) org org rfl
  have b : (penE one (mainW w)).out = new := b
  have hk := hok_run (E := one) (mainW w) hok_org
  have hb : ∀ s ∈ new, 0 ≤ s.2.2.1 ∧ s.2.2.1 < 4 ∧ Sy.l s.2.2.2 ∈ w := fun s hs => by
    rw [← b] at hs
    have h1 := hk.out s hs
    exact ⟨h1.1, h1.2, sub _ ((let_pen (mainW w) org s hs).resolve_left fun z => by cases z)⟩
  have r := rows_dot (u := u) new (rows0 n) (by rw [lu]; exact List.length_replicate) (by rw [lu]; exact List.length_replicate) fun s hs => by
    obtain ⟨h1, h2, h3⟩ := hb s hs
    have := hl _ h3
    exact ⟨h1, h2, by omega⟩
  have e := sX_congr (E := EU u) (E' := E) (ss := new) fun s hs => (hE _ (hb s hs).2.2).1
  have m1 := main_pl E hw
  have m2 := main_pl one hw
  have z1 : dotI (rows0 n).1 u = 0 := dot_zero _ _
  have z2 : dotI (rows0 n).2 u = 0 := dot_zero _ _
  rw [z1, z2, e] at r
  have ex : (penE E w).x = (penE E (mainW w)).x := congrArg Prod.fst m1
  have ey : (penE E w).y = (penE E (mainW w)).y := congrArg (fun p => p.2.1) m1
  have eh : (penE E w).h = (penE E (mainW w)).h := congrArg (fun p => p.2.2) m1
  have eo : (penE one w).h = (penE one (mainW w)).h := congrArg (fun p => p.2.2) m2
  have c : (penE E (mainW w)).x = 0 + (sX E new).1 := c
  have d : (penE E (mainW w)).y = 0 + (sX E new).2 := d
  have a : (penE E (mainW w)).h = (penE one (mainW w)).h := a
  unfold rowsW
  rw [b, ex, ey, eh, a, ← eo, pen_one, c, d]
  exact ⟨r.1, r.2, rfl⟩
/-- both rows of all words -/
def rowsA (n : Nat) (ws : List (List Sy)) : List (List Int) := ws.flatMap fun w => [(rowsW n w).1, (rowsW n w).2]
theorem rowsA_len (n : Nat) (ws : List (List Sy)) : (rowsA n ws).length = 2 * ws.length := by
  unfold rowsA
  induction ws with
  | nil => rfl
  | cons w ws ih => rw [List.flatMap_cons, List.length_append, ih]; show 2 + 2 * ws.length = 2 * (ws.length + 1); omega
theorem rowsA_get (n : Nat) : ∀ (ws : List (List Sy)) (c : Nat) {w : List Sy}, ws[c]? = some w → (rowsA n ws)[2 * c]? = some (rowsW n w).1 ∧ (rowsA n ws)[2 * c + 1]? = some (rowsW n w).2
  | [], c, w, h => by cases h
  | v :: ws, 0, w, h => by
    cases h
    exact ⟨rfl, rfl⟩
  | v :: ws, c + 1, w, h => by
    have ih := rowsA_get n ws c (w := w) h
    have e : rowsA n (v :: ws) = [(rowsW n v).1, (rowsW n v).2] ++ rowsA n ws := rfl
    rw [e, show 2 * (c + 1) = 2 * c + 2 by omega]
    exact ih
theorem rowsA_rows (n : Nat) (ws : List (List Sy)) : ∀ r ∈ rowsA n ws, r.length = 2 * n := fun r hr => by
  obtain ⟨w, _, hw⟩ := List.mem_flatMap.mp hr
  rcases List.mem_cons.mp hw with rfl | hw
  · exact (rowsW_len n w).1
  · rw [List.mem_singleton.mp hw]; exact (rowsW_len n w).2
def v0 (n : Nat) : List Int := (List.replicate n [1, 0]).flatten
theorem v0_len (n : Nat) : (v0 n).length = 2 * n := by
  unfold v0
  induction n with
  | zero => rfl
  | succ n ih => rw [List.replicate_succ, List.flatten_cons, List.length_append, ih]; show 2 + 2 * n = 2 * (n + 1); omega
theorem v0_get : ∀ {n c : Nat}, c < n → (v0 n).getD (2 * c) 0 = 1 ∧ (v0 n).getD (2 * c + 1) 0 = 0
  | 0, c, h => absurd h (Nat.not_lt_zero c)
  | n + 1, 0, _ => ⟨rfl, rfl⟩
  | n + 1, c + 1, h => by
    have ih := v0_get (Nat.lt_of_succ_lt_succ h)
    have e : v0 (n + 1) = [1, 0] ++ v0 n := by unfold v0; rw [List.replicate_succ, List.flatten_cons]
    rw [e, show 2 * (c + 1) = 2 * c + 2 by omega]
    exact ih
theorem ends_it {ws : List (List Sy)} {st : List Sy} (hg : GoodBook ws st) (hs : ∀ k, Comes ws st k → (endW ws k).2.2 = 0) : ∀ (k c : Nat), Comes ws st c → Tells (itL (rowsA ws.length ws) k (v0 ws.length)) (Eg ws k) c ∧ (Eg ws k c).2.2 = 0
  | 0, c, hc => by
    obtain ⟨m, hm⟩ := hc
    exact ⟨v0_get (grown_lets' hg.words hg.start.lets m c hm), rfl⟩
  | k + 1, c, hc => by
    have lt : c < ws.length := let ⟨m, hm⟩ := hc; grown_lets' hg.words hg.start.lets m c hm
    have nx : ∀ j, Sy.l j ∈ ws.getD c [] → Comes ws st j := fun j hj => let ⟨m, hm⟩ := hc; ⟨m + 1, grow_from.mpr ⟨c, hm, hj⟩⟩
    have gw := getD_good hg.words lt
    have lu : (itL (rowsA ws.length ws) k (v0 ws.length)).length = 2 * ws.length := by
      have := it_len (A := rowsA ws.length ws) k (v := v0 ws.length) (by rw [v0_len, rowsA_len])
      rw [this, rowsA_len]
    have r := row_ends gw.nst gw.lets lu (E := Eg ws k) fun j hj => ends_it hg hs k j (nx j hj)
    have e := Eg_succ hg.words k c lt
    have hw : ws[c]? = some (ws.getD c []) := by
      rw [List.getD_eq_getElem?_getD, List.getElem?_eq_getElem lt]
      rfl
    obtain ⟨g1, g2⟩ := rowsA_get ws.length ws c hw
    rw [it_succ]
    have a1 : (apL (rowsA ws.length ws) (itL (rowsA ws.length ws) k (v0 ws.length))).getD (2 * c) 0 = dotI (rowsW ws.length (ws.getD c [])).1 (itL (rowsA ws.length ws) k (v0 ws.length)) := by
      unfold apL
      rw [List.getD_eq_getElem?_getD, List.getElem?_map, g1]
      rfl
    have a2 : (apL (rowsA ws.length ws) (itL (rowsA ws.length ws) k (v0 ws.length))).getD (2 * c + 1) 0 = dotI (rowsW ws.length (ws.getD c [])).2 (itL (rowsA ws.length ws) k (v0 ws.length)) := by
      unfold apL
      rw [List.getD_eq_getElem?_getD, List.getElem?_map, g2]
      rfl
    refine ⟨⟨?_, ?_⟩, ?_⟩
    · rw [a1, r.1, e]
      rfl
    · rw [a2, r.2.1, e]
      rfl
    · rw [e]
      show (penE (Eg ws k) (ws.getD c [])).h = 0
      rw [r.2.2]
      exact hs c hc
theorem end_far {ws : List (List Sy)} {st : List Sy} (hg : GoodBook ws st) (hs : ∀ k, Comes ws st k → (endW ws k).2.2 = 0) (n : Nat) :
    dotI (rowsW ws.length st).1 (itL (rowsA ws.length ws) n (v0 ws.length)) = (pen (grown ws st n)).x ∧ dotI (rowsW ws.length st).2 (itL (rowsA ws.length ws) n (v0 ws.length)) = (pen (grown ws st n)).y := by
  have lu : (itL (rowsA ws.length ws) n (v0 ws.length)).length = 2 * ws.length := by
    have := it_len (A := rowsA ws.length ws) n (v := v0 ws.length) (by rw [v0_len, rowsA_len])
    rw [this, rowsA_len]
  have r := row_ends hg.start.nst hg.start.lets lu (E := Eg ws n) fun j hj => ends_it hg hs n j ⟨0, hj⟩
  have e := far_end hg n
  have e : (penE (Eg ws n) st).pl = (pen (grown ws st n)).pl := e
  have ex : (penE (Eg ws n) st).x = (pen (grown ws st n)).x := congrArg Prod.fst e
  have ey : (penE (Eg ws n) st).y = (pen (grown ws st n)).y := congrArg (fun p => p.2.1) e
  rw [← ex, ← ey]
  exact ⟨r.1, r.2.1⟩
/-- how great the rows' numbers are -/
theorem rowsF_small : ∀ (ss : List Stk) (p : List Int × List Int) (b : Int), 0 ≤ b → (∀ x ∈ p.1, -b ≤ x ∧ x ≤ b) → (∀ x ∈ p.2, -b ≤ x ∧ x ≤ b) → (∀ s ∈ ss, 0 ≤ s.2.2.1 ∧ s.2.2.1 < 4) → ∀ x, (x ∈ (rowsF p ss).1 ∨ x ∈ (rowsF p ss).2) → -(b + 2 * ss.length) ≤ x ∧ x ≤ b + 2 * ss.length
  | [], p, b, hb, h1, h2, _, x, hx => by
    rcases hx with hx | hx
    · have := h1 x hx; simp; omega
    · have := h2 x hx; simp; omega
  | s :: ss, p, b, hb, h1, h2, hs, x, hx => by
    have add : ∀ (v : List Int) (i : Nat) (d c : Int), 0 ≤ c → -1 ≤ d → d ≤ 1 → (∀ x ∈ v, -c ≤ x ∧ x ≤ c) → ∀ x ∈ addAt v i d, -(c + 1) ≤ x ∧ x ≤ c + 1 := fun v i d c c0 d1 d2 hv x hx => by
      unfold addAt at hx
      rcases List.mem_or_eq_of_mem_set hx with hx | rfl
      · have := hv x hx; omega
      · rw [List.getD_eq_getElem?_getD]
        cases e : v[i]? with
        | none => show -(c + 1) ≤ 0 + d ∧ 0 + d ≤ c + 1; omega
        | some y => have := hv y (List.mem_of_getElem? e); show -(c + 1) ≤ y + d ∧ y + d ≤ c + 1; omega
    have hd : ∀ h : Int, 0 ≤ h → h < 4 → -1 ≤ (dir h).1 ∧ (dir h).1 ≤ 1 ∧ -1 ≤ (dir h).2 ∧ (dir h).2 ≤ 1 := fun h h0 h4 => by
      have e : h = 0 ∨ h = 1 ∨ h = 2 ∨ h = 3 := by omega
      rcases e with rfl | rfl | rfl | rfl <;> decide
    obtain ⟨s0, s4⟩ := hs s List.mem_cons_self
    obtain ⟨d1, d2, d3, d4⟩ := hd _ s0 s4
    have ih := rowsF_small ss (stepRw p s) (b + 2) (by omega) (fun x hx => by
        have := add _ _ _ (b + 1) (by omega) (by omega) (by omega) (add _ _ _ b hb d1 d2 h1) x hx
        omega) (fun x hx => by
        have := add _ _ _ (b + 1) (by omega) (by omega) (by omega) (add _ _ _ b hb d3 d4 h2) x hx
        omega) (fun t ht => hs t (List.mem_cons_of_mem _ ht)) x hx
    rw [List.length_cons]
    omega
theorem rowsW_small {n : Nat} {w : List Sy} (hl : w.length ≤ 1000) : ∀ x, (x ∈ (rowsW n w).1 ∨ x ∈ (rowsW n w).2) → -(2 ^ 64) < x ∧ x < 2 ^ 64 := fun x hx => by
  have hk := hok_run (E := one) (mainW w) hok_org
  have r0 : ∀ x ∈ List.replicate (2 * n) (0 : Int), -0 ≤ x ∧ x ≤ 0 := fun x hx => by
    rw [List.eq_of_mem_replicate hx]
    exact ⟨by decide, by decide⟩
  have h := rowsF_small (penE one (mainW w)).out (rows0 n) 0 (Int.le_refl _) r0 r0 hk.out x hx
  have l1 := (len_run one (mainW w) org).1
  have l2 := main_len w (0, [])
  have l1 : (penE one (mainW w)).out.length ≤ 0 + (mainW w).length := l1
  have l2 : (mainW w).length ≤ 0 + w.length := l2
  omega
end SK
namespace SK
open PySem PySem.Spec PyProof.Rows L2
/-! lay and lay_strokes of a word that stands in a list -/
def spLayL (K : PySem.W.Frag) : Sp := fun vs H Q _ => ∃ (a d pn : Addr) (w : List Sy) (kvs : List (Key × V)) (E : Pth) (p : Plc), vs = [.ref a, .ref d, .ref pn] ∧ SqL K H a (wv w) ∧ H d = some (.dK kvs) ∧ (∀ k, Sy.l k ∈ w → EndsT K H kvs E k) ∧ SqT K H pn (plV p) ∧
  0 ≤ p.2.2 ∧ p.2.2 < 4 ∧ nest w 0 ≠ none ∧ w.length ≤ 1000000 ∧ NewLaid (penF E (stt p) w) H Q
def spLaySL (K : PySem.W.Frag) : Sp := fun vs H Q _ => ∃ (a pn : Addr) (w : List Sy) (p : Plc), vs = [.ref a, .ref pn] ∧ SqL K H a (wv w) ∧ SqT K H pn (plV p) ∧ 0 ≤ p.2.2 ∧ p.2.2 < 4 ∧ nest w 0 ≠ none ∧ w.length ≤ 1000000 ∧ NewLaid (penF one (stt p) w) H Q
section
variable {P : Program} {w : World} {K : PySem.W.Frag} {mg : Str → Option Value} {base : Heap}
theorem ok_layL {f : Addr} {fd : FuncData} {k : Nat} {dflt : Addr} (F : FunD K "lay" "lay" (defArgs s_lay) (defBody s_lay) (defScope s_lay) [.ref dflt] [] f fd) (GR : Got P w K mg base "rotate" k ["x", "y", "quarters"] spRotate) :
    FnOk P w K mg base CX0 (k + 1) f fd ["word", "ends", "pen"] (spLayL K) := by
  refine F.ok sc_lay (fun vs H Q E h => ?_) (fun cdv A outer s H vs Q EE hr h => ex_nox ?_)
  · obtain ⟨a, d, pn, w, kvs, E', p, rfl, _⟩ := h
    rfl
  · obtain ⟨a, d, pn, w, kvs, E, p, rfl, hw, hd, hE, hp, p0, p4, hn, hl, q⟩ := h
    have nd := sc_lay.nd
    refine ⟨_, pss_cons (ps_asg (pv 2) (pg_tup (by rfl) (pgs_cons (pg_name (i := 3) nd rfl (.inl rfl)) (pgs_cons (pg_name (i := 4) nd rfl (.inl rfl)) (pgs_cons (pg_name (i := 5) nd rfl (.inl rfl)) pgs_nil)))))
      (pss_cons (ps_set (i := 6) nd rfl (.inl rfl) (plstN pa_nil)) (pss_cons (ps_set (i := 7) nd rfl (.inl rfl) (plstN pa_nil))
      (pss_cons (ps_for PassesOwn.never rfl (pi_list (pv 0)) (pg_name (i := 8) nd rfl (.inl rfl))
        (pss_one (ps_if (pt_cmpR op_eq (pv 8) pe_str (nomark _)) (pss_one (ps_set (i := 5) nd rfl (.inl rfl) (pmod (padd (pv 5) pe_int) pe_int)))
          (pss_one (ps_if (pt_cmpR op_eq (pv 8) pe_str (nomark _)) (pss_one (ps_set (i := 5) nd rfl (.inl rfl) (pmod (psub (pv 5) pe_int) pe_int)))
            (pss_one (ps_if (pt_cmpR op_eq (pv 8) pe_str (nomark _)) (pss_one (sapp (pv 6) (ptupN (pa_cons (pv 3) (pa_cons (pv 4) (pa_cons (pv 5) pa_nil))))))
              (pss_one (ps_if (pt_cmpR op_eq (pv 8) pe_str (nomark _))
                (pss_one (ps_asg (pe_bm0 PySem.F.plainAttrs_list PySem.F.slot_list_pop PySem.F.type_list_pop mt_pop (pv 6)) (pg_tup (by rfl) (pgs_cons (pg_name (i := 3) nd rfl (.inl rfl)) (pgs_cons (pg_name (i := 4) nd rfl (.inl rfl)) (pgs_cons (pg_name (i := 5) nd rfl (.inl rfl)) pgs_nil))))))
                (pss_cons (sapp (pv 7) (ptupN (pa_cons (pv 3) (pa_cons (pv 4) (pa_cons (pv 5) (pa_cons (pv 8) pa_nil))))))
                (pss_cons (ps_asg (pe_dget (hu_of hr) (pv 1) (pv 8) (fun _ _ => rfl)) (pg_tup (by rfl) (pgs_cons (pg_name (i := 9) nd rfl (.inl rfl)) (pgs_cons (pg_name (i := 10) nd rfl (.inl rfl)) (pgs_cons (pg_name (i := 11) nd rfl (.inl rfl)) pgs_nil)))))
                (pss_cons (ps_asg (pcall GR hr (pa_cons (pv 9) (pa_cons (pv 10) (pa_cons (pv 5) pa_nil)))) (pg_tup (by rfl) (pgs_cons (pg_name (i := 12) nd rfl (.inl rfl)) (pgs_cons (pg_name (i := 13) nd rfl (.inl rfl)) pgs_nil))))
                (pss_cons (ps_aug (i := 3) nd rfl (.inl rfl) (pv 12) ip_add) (pss_cons (ps_aug (i := 4) nd rfl (.inl rfl) (pv 13) ip_add)
                (pss_one (ps_set (i := 5) nd rfl (.inl rfl) (pmod (padd (pv 5) (pv 11)) pe_int)))))))))))))))))
      (pss_one (ps_ret (ptupN (pa_cons (pv 7) (pa_cons (ptupN (pa_cons (pv 3) (pa_cons (pv 4) (pa_cons (pv 5) pa_nil)))) pa_nil)))))))), ?_⟩
    refine ⟨_, rfl, pn, _, rfl, hp, rfl, _, _, rfl, _, _, rfl, _, _, rfl, rfl, ?_⟩
    refine ⟨szl 0, fun H1 sb S1 n1 h1 => ⟨szl 0, fun H2 fa S2 n2 h2 => ?_⟩⟩
    have S03 := S1.trans S2
    have nfa : H fa = none := S1.free n2
    have nfs : fa ≠ sb := (ne_of_none h1 n2).symm
    have hs3 := S2 _ _ h1
    clear S1 S2 n2 h1
    refine ⟨_, rfl, a, rfl, ⟨_, S03.seq hw⟩, for_list (K := K) (a := a) (xs := wv w) (fun i σ H' => ∃ (y8 y9 y10 y11 y12 y13 : Option V) (as ss : List Addr), σ = [some (.ref a), some (.ref d), some (.ref pn), some (.int (penF E (stt p) (w.take i)).x), some (.int (penF E (stt p) (w.take i)).y), some (.int (penF E (stt p) (w.take i)).h), some (.ref sb), some (.ref fa), y8, y9, y10, y11, y12, y13] ∧
        Same H H' ∧ H' fa = some (.lst (as.map V.ref)) ∧ H' sb = some (.lst (ss.map V.ref)) ∧ Strs H' as (penF E (stt p) (w.take i)).out ∧ Pls H' ss (penF E (stt p) (w.take i)).st)
      ⟨none, none, none, none, none, none, [], [], rfl, S03, h2, hs3, .nil, .nil⟩ (fun i σ H' _ ⟨_, _, _, _, _, _, _, _, _, s, _⟩ => s.seq hw) ?_ ?_⟩
    · rintro i x σ H4 hx ⟨y8, y9, y10, y11, y12, y13, as, ss, rfl, S4, hf, hs, hA, hP⟩
      obtain ⟨s, hsy, rfl⟩ := wv_get hx
      have hi : i < w.length := (List.getElem?_eq_some_iff.mp hsy).1
      have ep := penF_take (E := E) (p := stt p) hsy
      have lt : (w.take i).length ≤ 1000000 := by rw [List.length_take]; omega
      have lA := hA.length
      have lP := hP.length
      have p1 := len_run E (w.take i) (stt p)
      have z1 : (stt p).out.length = 0 := rfl
      have z2 : (stt p).st.length = 0 := rfl
      have hst := nest_take hn (i + 1)
      have hst0 := nest_take hn i
      have nst : nest (w.take i) 0 = some (penF E (stt p) (w.take i)).st.length := by
        cases hz : nest (w.take i) 0 with
        | none => exact absurd hz hst0
        | some dd => rw [st_run E (w.take i) (stt p) (show nest (w.take i) (stt p).st.length = some dd from hz)]
      rw [take_more hsy, nest_app, nst] at hst
      have ph := (hok_run (E := E) (w.take i) (hok_stt (p := p) ⟨p0, p4⟩)).h
      generalize penF E (stt p) (w.take (i + 1)) = pp at ep
      subst ep
      generalize penF E (stt p) (w.take i) = pe at hA hP lA lP p1 nst hst ph
      cases s with
      | p =>
        refine ⟨_, rfl, rfl, _, rfl, itY rfl ⟨_, rfl, _, _, rfl, rfl, _, _, rfl, rfl, (show (0 : Int) < 4 by decide), ?_⟩⟩
        exact ⟨_, y9, y10, y11, y12, y13, as, ss, rfl, S4, hf, hs, hA, hP⟩
      | m =>
        refine ⟨_, rfl, rfl, _, rfl, itN (by decide) ⟨_, rfl, rfl, _, rfl, itY rfl ⟨_, rfl, _, _, rfl, rfl, _, _, rfl, rfl, (show (0 : Int) < 4 by decide), ?_⟩⟩⟩
        refine ⟨some (Sy.v .m), y9, y10, y11, y12, y13, as, ss, ?_, S4, hf, hs, hA, hP⟩
        have e : (pe.h - 1) % 4 = (pe.h + 3) % 4 := by omega
        show [_, _, _, _, _, some (V.int ((pe.h - 1) % 4)), _, _, _, _, _, _, _, _] = _
        rw [e]
        rfl
      | o =>
        refine ⟨_, rfl, rfl, _, rfl, itN (by decide) ⟨_, rfl, rfl, _, rfl, itN (by decide) ⟨_, rfl, rfl, _, rfl, itY rfl ⟨_, rfl, .inl ⟨rfl, _, SqL.of hs⟩, _, rfl, _, rfl, _, rfl, szl 3, fun H5 p5 S5 n5 h5 => ⟨sb, _, _, rfl, rfl, S5 _ _ hs, ?_, ?_⟩⟩⟩⟩⟩
        · rw [List.length_map, sizeLine_eq]; omega
        · have hs5 := S5 _ _ hs
          have T5 : TupS H5 (upd H5 sb (.lst (ss.map V.ref ++ [V.ref p5]))) := TupS.refl.lst hs5
          refine ⟨_, y9, y10, y11, y12, y13, as, ss ++ [p5], rfl, sPut (S4.trans S5) n1, by rw [upd_ne nfs]; exact S5 _ _ hf, by rw [upd_same, List.map_append]; rfl, (hA.keep (.of S5)).keep T5, ?_⟩
          exact Paired.snoc ((hP.keep (.of S5)).keep T5) (T5.1 _ _ h5)
      | c =>
        refine ⟨_, rfl, rfl, _, rfl, itN (by decide) ⟨_, rfl, rfl, _, rfl, itN (by decide) ⟨_, rfl, rfl, _, rfl, itN (by decide) ⟨_, rfl, rfl, _, rfl, itY rfl ?_⟩⟩⟩⟩
        cases hl : pe.st.getLast? with
        | none =>
          rw [List.getLast?_eq_none_iff] at hl
          rw [hl] at hst
          exact absurd rfl hst
        | some t =>
          obtain ⟨tx, ty, th⟩ := t
          obtain ⟨la, g1, g2, g3⟩ := paired_last hP hl
          have e2 : pstepE E pe .c = { pe with x := tx, y := ty, h := th, st := pe.st.dropLast } := by
            show (match pe.st.getLast? with
              | some (a, b, c) => { pe with x := a, y := b, h := c, st := pe.st.dropLast }
              | none => pe) = _
            rw [hl]
          rw [e2]
          have g1' : (ss.map V.ref)[(ss.map V.ref).length - 1]? = some (V.ref la) := by
            rw [← List.getLast?_eq_getElem?, List.getLast?_map, g1]; rfl
          refine ⟨_, rfl, .inl ⟨rfl, _, SqL.of hs⟩, sb, _, _, rfl, rfl, hs, g1', ?_⟩
          have T5 : TupS H4 (upd H4 sb (.lst (ss.map V.ref).dropLast)) := TupS.refl.lst hs
          refine ⟨la, _, rfl, SqT.of (T5.1 _ _ g2), rfl, _, _, rfl, _, _, rfl, _, _, rfl, rfl, ?_⟩
          exact ⟨_, y9, y10, y11, y12, y13, as, ss.dropLast, rfl, sPut S4 n1, by rw [upd_ne nfs]; exact hf, by rw [upd_same, List.map_dropLast], hA.keep T5, Pls.keep T5 g3⟩
      | l kk =>
        refine ⟨_, rfl, rfl, _, rfl, itN (fun z => nomatch z) ⟨_, rfl, rfl, _, rfl, itN (fun z => nomatch z) ⟨_, rfl, rfl, _, rfl, itN (fun z => nomatch z) ⟨_, rfl, rfl, _, rfl, itN (fun z => nomatch z) ?_⟩⟩⟩⟩
        refine ⟨_, rfl, .inl ⟨rfl, _, SqL.of hf⟩, _, rfl, _, rfl, _, rfl, _, rfl, szl 4, fun H5 p5 S5 n5 h5 => ⟨fa, _, _, rfl, rfl, S5 _ _ hf, ?_, ?_⟩⟩
        · rw [List.length_map, sizeLine_eq]; omega
        have hf5 := S5 _ _ hf
        have T6 : TupS H5 (upd H5 fa (.lst (as.map V.ref ++ [V.ref p5]))) := TupS.refl.lst hf5
        have S6 : Same H (upd H5 fa (.lst (as.map V.ref ++ [V.ref p5]))) := sPut (S4.trans S5) nfa
        have hf6 : (upd H5 fa (.lst (as.map V.ref ++ [V.ref p5]))) fa = some (.lst ((as ++ [p5]).map V.ref)) := by rw [upd_same, List.map_append]; rfl
        have hs6 : (upd H5 fa (.lst (as.map V.ref ++ [V.ref p5]))) sb = some (.lst (ss.map V.ref)) := by rw [upd_ne nfs.symm]; exact S5 _ _ hs
        have hA6 : Strs (upd H5 fa (.lst (as.map V.ref ++ [V.ref p5]))) (as ++ [p5]) (pe.out ++ [(pe.x, pe.y, pe.h, kk)]) := Paired.snoc ((hA.keep (.of S5)).keep T6) (T6.1 _ _ h5)
        have hP6 := (hP.keep (.of S5)).keep T6
        generalize upd H5 fa (.lst (as.map V.ref ++ [V.ref p5])) = H6 at S6 hf6 hs6 hA6 hP6
        obtain ⟨te, v1, v2⟩ := (hE kk (List.mem_of_getElem? hsy)).same S6
        refine ⟨_, rfl, _, rfl, d, .ref te, rfl, by rw [← v1]; exact DGet.k (k := Sum.inl (kk : Int)) (S6 _ _ hd), te, _, rfl, v2, rfl, _, _, rfl, _, _, rfl, _, _, rfl, rfl, ?_⟩
        refine ⟨_, rfl, _, rfl, _, rfl, _, _, _, rfl, ph.1, ph.2, fun H7 p7 S7 n7 h7 => ?_⟩
        refine ⟨p7, _, rfl, SqT.of h7, rfl, _, _, rfl, _, _, rfl, rfl, _, rfl, _, rfl, _, _, rfl, rfl, _, rfl, _, rfl, _, _, rfl, rfl, ?_⟩
        refine ⟨_, rfl, _, rfl, _, _, rfl, rfl, _, _, rfl, rfl, (show (0 : Int) < 4 by decide), ?_⟩
        exact ⟨_, _, _, _, _, _, as ++ [p5], ss, rfl, S6.trans S7, S7 _ _ hf6, S7 _ _ hs6, hA6.keep (.of S7), hP6.keep (.of S7)⟩
    · rintro σ H4 ⟨y8, y9, y10, y11, y12, y13, as, ss, rfl, S4, hf, hs, hA, hP⟩
      rw [List.length_map, List.take_length] at hA
      refine ⟨_, rfl, _, rfl, _, rfl, _, rfl, szl 3, fun H5 e5 S5 n5 h5 => ⟨szl 2, fun H6 t6 S6 n6 h6 => ?_⟩⟩
      rw [List.length_map, List.take_length] at h5
      exact q H6 t6 fa e5 as ((S4.trans S5).trans S6) ((S4.trans S5).free n6) h6 nfa (S6 _ _ (S5 _ _ hf)) ((hA.keep (.of S5)).keep (.of S6)) (S6 _ _ h5)
theorem ok_laysL {f : Addr} {fd : FuncData} {k : Nat} {dflt sa : Addr} (F : FunD K "lay_strokes" "lay_strokes" (defArgs s_lay_strokes) (defBody s_lay_strokes) (defScope s_lay_strokes) [.ref dflt] [] f fd) (GL : Got P w K mg base "lay" k ["word", "ends", "pen"] (spLayL K))
    (mS : mg "STROKE" = some (.ref sa)) (hS : ModT K sa (plV (1, 0, 0))) (mI : mg "isinstance" = none) (mSt : mg "str" = none) :
    FnOk P w K mg base CX0 (k + 1) f fd ["word", "pen"] (spLaySL K) := by
  refine F.ok sc_lay_strokes (fun vs H Q E h => ?_) (fun cdv A outer s H vs Q EE hr h => ex_nox ?_)
  · obtain ⟨a, pn, w, p, rfl, _⟩ := h
    rfl
  · obtain ⟨a, pn, w, p, rfl, hw, hp, p0, p4, hn, hl, q⟩ := h
    have nd := sc_lay_strokes.nd
    refine ⟨_, pss_cons (ps_setDc (i := 2) (own := [("part", 3)]) (g := gName 3) (tt := tNotStr K 3) (tk := tVar 3) (tv := tC (.ref sa)) rfl nd rfl rfl (sw_trueD rfl rfl rfl (by decide +kernel)) (pi_list (pv 0)) (blkOk_by (N := n_lay_strokes) (sc := defScope s_lay_strokes) (by decide +kernel))
          (fun _ _ _ _ _ => pg_name (i := 3) nd rfl (Or.inl rfl)) (fun _ _ _ _ _ => pts_one (ptNotStr mI mSt (pv 3))) (fun _ _ _ _ _ => pv 3) (fun _ _ _ _ _ => pe_glob (v := .ref sa) rfl mS rfl))
      (pss_one (ps_ret (pcall GL hr (pa_cons (pv 0) (pa_cons (pv 2) (pa_cons (pv 1) pa_nil)))))), ?_⟩
    refine ⟨_, rfl, a, rfl, ⟨_, hw⟩, fun D nD => ?_⟩
    refine walk_by (walk_list (K := K) (a := a) (xs := wv w)) (fun i H' => ∃ kvs, Same H H' ∧ H' D = some (.dK kvs) ∧ kvs.length ≤ i ∧ ∀ k, Sy.l k ∈ w.take i → valV kvs (.inl (k : Int)) = some (.ref sa))
      ⟨[], same_upd nD, upd_same, Nat.le_refl _, fun k hk => by simp at hk⟩ (fun i H' ⟨_, s, _⟩ => s.seq hw) ?_ ?_
    · rintro i x H1Z H1 hi ⟨kvs, S1, hD, hlen, hv⟩ ⟨eZ, hx⟩
      subst eZ
      obtain ⟨s, hs, rfl⟩ := wv_get hx
      have hi : i < w.length := (List.getElem?_eq_some_iff.mp hs).1
      obtain ⟨tn, tb, ht, hk, htb⟩ := ty_sy (K := K) (H := H1) s
      refine ⟨rfl, _, rfl, s.v, tn, tb, rfl, ht, hk, tb, rfl, ?_⟩
      subst htb
      rw [Bool.not_not]
      have no : isL s = false → ∀ k, Sy.l k ∈ w.take (i + 1) → Sy.l k ∈ w.take i := fun z k hk => by
        rw [take_more hs] at hk
        rcases List.mem_append.mp hk with h | h
        · exact h
        · rw [← List.mem_singleton.mp h] at z; cases z
      cases s with
      | l j =>
        refine iteT ⟨_, rfl, kvs, Sum.inl (j : Int), rfl, hD, ?_, putK kvs (Sum.inl (j : Int)) (.ref sa), sPut S1 nD, upd_same, ?_, fun k hk => ?_⟩
        · rw [sizeLine_eq]; omega
        · have := length_putK kvs (Sum.inl (j : Int)) (.ref sa); omega
        · rw [valV_put]
          by_cases e : k = j
          · subst e
            rw [if_pos rfl]
          · rw [if_neg (fun z => e (by injection z with z; omega))]
            rw [take_more hs] at hk
            rcases List.mem_append.mp hk with h | h
            · exact hv k h
            · exact absurd (by injection List.mem_singleton.mp h) e
      | p => exact iteF ⟨kvs, S1, hD, by omega, fun k hk => hv k (no rfl k hk)⟩
      | m => exact iteF ⟨kvs, S1, hD, by omega, fun k hk => hv k (no rfl k hk)⟩
      | o => exact iteF ⟨kvs, S1, hD, by omega, fun k hk => hv k (no rfl k hk)⟩
      | c => exact iteF ⟨kvs, S1, hD, by omega, fun k hk => hv k (no rfl k hk)⟩
    · rintro H1 ⟨kvs, S1, hD, hlen, hv⟩
      rw [List.length_map, List.take_length] at hv
      refine ⟨_, rfl, _, rfl, _, rfl, a, D, pn, w, kvs, one, p, rfl, S1.seq hw, hD, fun k hk => ⟨sa, hv k hk, hS.sq⟩, sTup S1 hp, p0, p4, hn, hl, ?_⟩
      exact fun H2 t la e as S2 n2 h2 n3 h3 hA he => q H2 t la e as (S1.trans S2) (S1.free n2) h2 (S1.free n3) h3 hA he
end
end SK
namespace PySem.W
open PySem PySem.SeqAt PyProof.Rows
section
variable {prog : Program} {w : World} {A : Around} {E : Value → Shared → Prop} {s : Shared}
theorem call_min_two_walkH {x y : Value} {Q : Value → Shared → Prop}
    (h : wpAny (model prog w) A.in1 (pyIter (.ref s.heap.objs.size)) (fun it s₂ => ∃ I fp wr G n P St H bt, it = .ref I ∧ WalksS prog w A.in1 I fp wr G n P St ∧ St 0 s₂ ∧ (∀ b ∈ fp, b < s₂.heap.objs.size) ∧ 0 < n ∧
      (∀ b o, H.get? b = some o → b ∉ wr) ∧ (∀ b o, H.get? b = some o → s₂.heap.get? b = some o) ∧ CmpIn prog w A.in1 .Lt H P bt ∧ ∀ v s', P (argBest bt (n - 1)) v → Moved wr G s₂ s' → Q v s') E
      { s with heap := s.heap.push { cls := .type "tuple", data := .seq #[x, y] } }) :
    wpAny (model prog w) A (call (.builtin "min") [x, y]) Q E s := by
  have hname : (toString "min" ++ toString ".loop" : String) = "min.loop" := by decide
  refine call_function_tree F.kind_min F.plain_min F.entry_min (F.args_min2 _ _) ?_
  show wpAny _ A.in1 (Builtin.Builtins.bindParams "min" ["key", "default"] 0 ⟨[], []⟩ >>= _) _ _ s
  refine wpAny_bind (wpAny_of_eq (show Builtin.Builtins.bindParams "min" ["key", "default"] 0 ⟨[], []⟩ = pure [none, none] from rfl) ?_)
  show wpAny _ A.in1 (newTuple [x, y] >>= _) _ _ s
  refine wpAny_bind (wpAny_newObj_type ?_)
  refine wpAny_bind (wpAny_mono h (fun it s₂ h₂ => ?_) fun _ _ e => e)
  obtain ⟨I, fp, wr, G, n, P, St, H, bt, rfl, W, hst, hfp, hn, hw, hkeep, hcmp, hQ⟩ := h₂
  refine wpAny_bind (wpAny_newObj_type ?_)
  have hSf : s₂.heap.objs.size ∉ fp := fun hm => Nat.lt_irrefl _ (hfp _ hm)
  rw [hname]
  refine wpAny_pure ⟨plainId_quiet F.plain_min_loop _, codeAny_min_loop_firstH W H hw bt hcmp s₂.heap.objs.size hSf (fresh_in hkeep) _ hn (fun b o e => Heap.get?_push_of_some _ (hkeep b o e)) (W.frame 0 s₂ _ s₂.toks hst (Nat.le_refl _) fun b _ o e => Heap.get?_push_of_some _ e) (Heap.get?_push_size _ rfl) fun v s' hP hm => ?_⟩
  exact hQ v s' hP (Moved.drop_new (tk := s₂.toks) hm (Nat.le_refl _))
theorem call_max_two_walkH {x y : Value} {Q : Value → Shared → Prop}
    (h : wpAny (model prog w) A.in1 (pyIter (.ref s.heap.objs.size)) (fun it s₂ => ∃ I fp wr G n P St H bt, it = .ref I ∧ WalksS prog w A.in1 I fp wr G n P St ∧ St 0 s₂ ∧ (∀ b ∈ fp, b < s₂.heap.objs.size) ∧ 0 < n ∧
      (∀ b o, H.get? b = some o → b ∉ wr) ∧ (∀ b o, H.get? b = some o → s₂.heap.get? b = some o) ∧ CmpIn prog w A.in1 .Gt H P bt ∧ ∀ v s', P (argBest bt (n - 1)) v → Moved wr G s₂ s' → Q v s') E
      { s with heap := s.heap.push { cls := .type "tuple", data := .seq #[x, y] } }) :
    wpAny (model prog w) A (call (.builtin "max") [x, y]) Q E s := by
  have hname : (toString "max" ++ toString ".loop" : String) = "max.loop" := by decide
  refine call_function_tree F.kind_max F.plain_max F.entry_max (F.args_max2 _ _) ?_
  show wpAny _ A.in1 (Builtin.Builtins.bindParams "max" ["key", "default"] 0 ⟨[], []⟩ >>= _) _ _ s
  refine wpAny_bind (wpAny_of_eq (show Builtin.Builtins.bindParams "max" ["key", "default"] 0 ⟨[], []⟩ = pure [none, none] from rfl) ?_)
  show wpAny _ A.in1 (newTuple [x, y] >>= _) _ _ s
  refine wpAny_bind (wpAny_newObj_type ?_)
  refine wpAny_bind (wpAny_mono h (fun it s₂ h₂ => ?_) fun _ _ e => e)
  obtain ⟨I, fp, wr, G, n, P, St, H, bt, rfl, W, hst, hfp, hn, hw, hkeep, hcmp, hQ⟩ := h₂
  refine wpAny_bind (wpAny_newObj_type ?_)
  have hSf : s₂.heap.objs.size ∉ fp := fun hm => Nat.lt_irrefl _ (hfp _ hm)
  rw [hname]
  refine wpAny_pure ⟨plainId_quiet F.plain_max_loop _, codeAny_max_loop_firstH W H hw bt hcmp s₂.heap.objs.size hSf (fresh_in hkeep) _ hn (fun b o e => Heap.get?_push_of_some _ (hkeep b o e)) (W.frame 0 s₂ _ s₂.toks hst (Nat.le_refl _) fun b _ o e => Heap.get?_push_of_some _ e) (Heap.get?_push_size _ rfl) fun v s' hP hm => ?_⟩
  exact hQ v s' hP (Moved.drop_new (tk := s₂.toks) hm (Nat.le_refl _))
theorem two_old {s₂ s' : Shared} {a : Addr} {o o1 : Obj} (e : s₂ = { ({ s with heap := s.heap.push o1 } : Shared) with heap := (s.heap.push o1).push o }) (ha : a = (s.heap.push o1).objs.size) (m : Moved [a] (fun a b => b = a) s₂ s') : ∃ h' tk, s' = { s with heap := h', toks := tk } ∧ ∀ b o, s.heap.get? b = some o → h'.get? b = some o := by
  obtain ⟨h', tk, e1, k⟩ := moved_old (s := { s with heap := s.heap.push o1 }) e ha m
  exact ⟨h', tk, e1, fun b o e => k b o (Heap.get?_push_of_some _ e)⟩
theorem min_two_data {x y : Value} {dx dy : PyData} {as bs : List Addr} {Q : Value → Shared → Prop} (hh : A.handled = none) (rx : Reads s.heap x dx as) (ry : Reads s.heap y dy bs) (ha : AlikeAll [dx, dy]) (hu : A.units + 1 + PyData.depthAll [dx, dy] < cLine)
    (h : ∀ h' tk, (∀ b o, s.heap.get? b = some o → h'.get? b = some o) → Q (if dataLt dy dx = true then y else x) { s with heap := h', toks := tk }) :
    wpAny (model prog w) A (call (.builtin "min") [x, y]) Q E s := by
  have k0 : ∀ b o, s.heap.get? b = some o → (s.heap.push { cls := .type "tuple", data := .seq #[x, y] }).get? b = some o := fun b o e => Heap.get?_push_of_some _ e
  have hr : ReadsAll (s.heap.push { cls := .type "tuple", data := .seq #[x, y] }) (#[x, y] : Array Value).toList [dx, dy] (as ++ (bs ++ [])) := .cons (Reads.keeps k0 rx) (.cons (Reads.keeps k0 ry) .nil)
  refine call_min_two_walkH (iter_tupleW (vs := #[x, y]) (A := A.in1) hh ⟨_, Heap.get?_push_size _ rfl, rfl, _, rfl⟩ fun s₂ e W st hfp hw hk => ?_)
  refine ⟨_, _, _, _, _, _, _, _, _, rfl, W, st, hfp, (by show 0 < 2; decide : 0 < (#[x, y] : Array Value).size), hw, hk, cmpIn_lt (A := A.in1) (s := { s with heap := s.heap.push { cls := .type "tuple", data := .seq #[x, y] } }) hr ha (by show A.units + 1 + _ < _; exact hu), fun v s' hP m => ?_⟩
  obtain ⟨h', tk, rfl, hk'⟩ := two_old e rfl m
  have e1 : v = if dataLt dy dx = true then y else x := by
    have hP : (#[x, y] : Array Value)[if dataLt dy dx = true then 1 else 0]? = some v := hP
    by_cases z : dataLt dy dx = true
    · rw [if_pos z] at hP ⊢; exact (Option.some.inj hP).symm
    · rw [if_neg z] at hP ⊢; exact (Option.some.inj hP).symm
  rw [e1]
  exact h h' tk hk'
theorem max_two_data {x y : Value} {dx dy : PyData} {as bs : List Addr} {Q : Value → Shared → Prop} (hh : A.handled = none) (rx : Reads s.heap x dx as) (ry : Reads s.heap y dy bs) (ha : AlikeAll [dx, dy]) (hu : A.units + 1 + PyData.depthAll [dx, dy] < cLine)
    (h : ∀ h' tk, (∀ b o, s.heap.get? b = some o → h'.get? b = some o) → Q (if dataLt dx dy = true then y else x) { s with heap := h', toks := tk }) :
    wpAny (model prog w) A (call (.builtin "max") [x, y]) Q E s := by
  have k0 : ∀ b o, s.heap.get? b = some o → (s.heap.push { cls := .type "tuple", data := .seq #[x, y] }).get? b = some o := fun b o e => Heap.get?_push_of_some _ e
  have hr : ReadsAll (s.heap.push { cls := .type "tuple", data := .seq #[x, y] }) (#[x, y] : Array Value).toList [dx, dy] (as ++ (bs ++ [])) := .cons (Reads.keeps k0 rx) (.cons (Reads.keeps k0 ry) .nil)
  refine call_max_two_walkH (iter_tupleW (vs := #[x, y]) (A := A.in1) hh ⟨_, Heap.get?_push_size _ rfl, rfl, _, rfl⟩ fun s₂ e W st hfp hw hk => ?_)
  refine ⟨_, _, _, _, _, _, _, _, _, rfl, W, st, hfp, (by show 0 < 2; decide : 0 < (#[x, y] : Array Value).size), hw, hk, cmpIn_gt (A := A.in1) (s := { s with heap := s.heap.push { cls := .type "tuple", data := .seq #[x, y] } }) hr ha (by show A.units + 1 + _ < _; exact hu), fun v s' hP m => ?_⟩
  obtain ⟨h', tk, rfl, hk'⟩ := two_old e rfl m
  have e1 : v = if dataLt dx dy = true then y else x := by
    have hP : (#[x, y] : Array Value)[if dataLt dx dy = true then 1 else 0]? = some v := hP
    by_cases z : dataLt dx dy = true
    · rw [if_pos z] at hP ⊢; exact (Option.some.inj hP).symm
    · rw [if_neg z] at hP ⊢; exact (Option.some.inj hP).symm
  rw [e1]
  exact h h' tk hk'
end
end PySem.W
namespace SK
open PySem PySem.Spec PyProof.Rows L2 PySem.W
/-- one pair of numbers ahead of another -/
def ltZ (a b : Int × Int) : Bool := decide (a.1 < b.1 ∨ (a.1 = b.1 ∧ a.2 < b.2))
def pD (a : Int × Int) : PyData := .tuple [.int a.1, .int a.2]
theorem ltZ_data (a b : Int × Int) : dataLt (pD a) (pD b) = ltZ a b := dataLt_ii _ _ _ _
theorem alike_pD (a b : Int × Int) : AlikeAll [pD a, pD b] := by
  refine ⟨fun x hx y hy => ?_, fun x hx => ?_⟩
  · simp only [List.mem_cons, List.not_mem_nil, or_false] at hx hy
    rcases hx with rfl | rfl <;> rcases hy with rfl | rfl <;> rfl
  · simp only [List.mem_cons, List.not_mem_nil, or_false] at hx
    rcases hx with rfl | rfl <;> (intro h; cases h)
def rMinT (K : PySem.W.Frag) : List V → Hp → VK → Prop := fun xs H Q => ∃ (p q : Addr) (a b : Int × Int), xs = [.ref p, .ref q] ∧ SqT K H p [.int a.1, .int a.2] ∧ SqT K H q [.int b.1, .int b.2] ∧ Q (if ltZ b a = true then .ref q else .ref p) H
def rMaxT (K : PySem.W.Frag) : List V → Hp → VK → Prop := fun xs H Q => ∃ (p q : Addr) (a b : Int × Int), xs = [.ref p, .ref q] ∧ SqT K H p [.int a.1, .int a.2] ∧ SqT K H q [.int b.1, .int b.2] ∧ Q (if ltZ a b = true then .ref q else .ref p) H
section
variable {X : Cx}
theorem dp_pair {K : PySem.W.Frag} {H : Hp} {p : Addr} {a : Int × Int} (h : SqT K H p [.int a.1, .int a.2]) : Dp K H (.ref p) (pD a) := .tup h (.cons (.int _) (.cons (.int _) .nil))
theorem depth_pD (a b : Int × Int) : PyData.depthAll [pD a, pD b] ≤ 8 := by
  have e : PyData.depthAll [pD a, pD b] = PyData.depthAll [pD (0, 0), pD (0, 0)] := by
    unfold pD
    simp [PyData.depthAll, PyData.depth]
  rw [e]
  decide
theorem call_minT (hc : X.calm = true) (hu : X.A.units + 64 < cLine) : CallR X (.builtin "min") (rMinT X.K) := by
  intro pins s σ H xs us Q I r h
  obtain ⟨p, q, a, b, rfl, hp, hq, h⟩ := h
  obtain ⟨u, w', rfl, r1, r2⟩ := vals2 r
  obtain rfl : u = Value.ref p := r1
  obtain rfl : w' = Value.ref q := r2
  obtain ⟨as, ra⟩ := Dp.reads I _ _ _ (dp_pair hp) rfl
  obtain ⟨bs, rb⟩ := Dp.reads I _ _ _ (dp_pair hq) rfl
  refine min_two_data (I.ok.hd hc) ra rb (alike_pD _ _) (by have := depth_pD a b; omega) fun h' tk k => ⟨_, H, I.kept k, ?_, h⟩
  rw [ltZ_data]
  by_cases z : ltZ b a = true
  · rw [if_pos z, if_pos z]; rfl
  · rw [if_neg z, if_neg z]; rfl
theorem call_maxT (hc : X.calm = true) (hu : X.A.units + 64 < cLine) : CallR X (.builtin "max") (rMaxT X.K) := by
  intro pins s σ H xs us Q I r h
  obtain ⟨p, q, a, b, rfl, hp, hq, h⟩ := h
  obtain ⟨u, w', rfl, r1, r2⟩ := vals2 r
  obtain rfl : u = Value.ref p := r1
  obtain rfl : w' = Value.ref q := r2
  obtain ⟨as, ra⟩ := Dp.reads I _ _ _ (dp_pair hp) rfl
  obtain ⟨bs, rb⟩ := Dp.reads I _ _ _ (dp_pair hq) rfl
  refine max_two_data (I.ok.hd hc) ra rb (alike_pD _ _) (by have := depth_pD a b; omega) fun h' tk k => ⟨_, H, I.kept k, ?_, h⟩
  rw [ltZ_data]
  by_cases z : ltZ a b = true
  · rw [if_pos z, if_pos z]; rfl
  · rw [if_neg z, if_neg z]; rfl
end
end SK
namespace SK
open PySem PySem.Spec PyProof.Rows L2
/-- where a stroke ends -/
def endS (s : Stk) : Int × Int := (s.1 + (dir s.2.2.1).1, s.2.1 + (dir s.2.2.1).2)
end SK
namespace SK
open PySem PySem.Spec PyProof.Rows L2
abbrev Edge := (Int × Int) × (Int × Int)
def edge (s : Stk) : Edge := if ltZ (s.1 + (dir s.2.2.1).1, s.2.1 + (dir s.2.2.1).2) (s.1, s.2.1) = true then ((s.1 + (dir s.2.2.1).1, s.2.1 + (dir s.2.2.1).2), (s.1, s.2.1)) else ((s.1, s.2.1), (s.1 + (dir s.2.2.1).1, s.2.1 + (dir s.2.2.1).2))
def EdgeAt (H : Hp) (p : Addr) (e : Edge) : Prop := ∃ t1 t2, H p = some (.tup [.ref t1, .ref t2]) ∧ H t1 = some (.tup [.int e.1.1, .int e.1.2]) ∧ H t2 = some (.tup [.int e.2.1, .int e.2.2])
theorem EdgeAt.keep {H H' : Hp} {p : Addr} {e : Edge} (s : TupS H H') (h : EdgeAt H p e) : EdgeAt H' p e := by
  obtain ⟨t1, t2, h0, h1, h2⟩ := h
  exact ⟨t1, t2, s.1 _ _ h0, s.1 _ _ h1, s.1 _ _ h2⟩
theorem dir_ne {h : Int} : (dir h).1 ≠ 0 ∨ (dir h).2 ≠ 0 := by
  unfold dir
  by_cases z : h = 0
  · rw [if_pos z]; exact .inl (by decide)
  · rw [if_neg z]
    by_cases z : h = 1
    · rw [if_pos z]; exact .inr (by decide)
    · rw [if_neg z]
      by_cases z : h = 2
      · rw [if_pos z]; exact .inl (by decide)
      · rw [if_neg z]; exact .inr (by decide)
theorem ltZ_other {a b : Int × Int} (h : a ≠ b) : ltZ b a = !ltZ a b := by
  unfold ltZ
  have h' : a.1 ≠ b.1 ∨ a.2 ≠ b.2 := by
    by_cases z : a.1 = b.1
    · exact .inr (fun y => h (Prod.ext z y))
    · exact .inl z
  rw [← decide_not]
  exact decide_eq_decide.mpr (by omega)
theorem step_ne (s : Stk) : (s.1, s.2.1) ≠ ((s.1 + (dir s.2.2.1).1, s.2.1 + (dir s.2.2.1).2) : Int × Int) := by
  intro z
  injection z with z1 z2
  have := @dir_ne s.2.2.1
  omega
def spEndsOf : Sp := fun vs H Q _ => ∃ (p : Addr) (s : Stk), vs = [.ref p] ∧ H p = some (.tup (stV s)) ∧ 0 ≤ s.2.2.1 ∧ s.2.2.1 < 4 ∧ ∀ (H' : Hp) (r : Addr), Same H H' → H r = none → EdgeAt H' r (edge s) → Q (.ref r) H'
/-- the four steps -/
def StepsAt (K : PySem.W.Frag) (sa : Addr) : Prop := ∃ a0 a1 a2 a3, ModT K sa [.ref a0, .ref a1, .ref a2, .ref a3] ∧ ModT K a0 [.int 1, .int 0] ∧ ModT K a1 [.int 0, .int 1] ∧ ModT K a2 [.int (-1), .int 0] ∧ ModT K a3 [.int 0, .int (-1)]
theorem StepsAt.get {K : PySem.W.Frag} {sa : Addr} {h : Int} (S : StepsAt K sa) (h0 : 0 ≤ h) (h4 : h < 4) : ∃ xs t, ModT K sa xs ∧ atI xs h = some (.ref t) ∧ ModT K t [.int (dir h).1, .int (dir h).2] := by
  obtain ⟨a0, a1, a2, a3, m, m0, m1, m2, m3⟩ := S
  have e : h = 0 ∨ h = 1 ∨ h = 2 ∨ h = 3 := by omega
  rcases e with rfl | rfl | rfl | rfl
  · exact ⟨_, a0, m, rfl, m0⟩
  · exact ⟨_, a1, m, rfl, m1⟩
  · exact ⟨_, a2, m, rfl, m2⟩
  · exact ⟨_, a3, m, rfl, m3⟩
def spEndOf (K : PySem.W.Frag) : Sp := fun vs H Q _ => ∃ (p : Addr) (s : Stk), vs = [.ref p] ∧ SqT K H p (stV s) ∧ 0 ≤ s.2.2.1 ∧ s.2.2.1 < 4 ∧ New (.tup [.int (endS s).1, .int (endS s).2]) H Q
end SK
namespace SK
open PySem PySem.Spec PyProof.Rows L2
def spEndRows : Sp := fun vs H Q _ => ∃ (a : Addr) (n : Nat) (w : List Sy), vs = [.ref a, .int n] ∧ WdAt H a w ∧ Good n 40 w ∧ n ≤ 8 ∧
  ∀ (H' : Hp) (p rx ry : Addr), Same H H' → H p = none → H rx = none → H ry = none → H' p = some (.lst [.ref rx, .ref ry]) → H' rx = some (.lst ((rowsW n w).1.map V.int)) → H' ry = some (.lst ((rowsW n w).2.map V.int)) → Q (.ref p) H'
theorem getD_v {v : List Int} {i : Nat} (h : i < v.length) : (v.map V.int)[i]? = some (.int (v.getD i 0)) := by
  rw [List.getElem?_map, List.getD_eq_getElem?_getD, List.getElem?_eq_getElem h]
  rfl
theorem set_v (v : List Int) (i : Nat) (d : Int) : (v.map V.int).set i (.int (v.getD i 0 + d)) = (addAt v i d).map V.int := by
  unfold addAt
  rw [List.map_set]
theorem ixN_nat {n i : Nat} (h : i < n) : ixN n (i : Int) = some i := by
  show (if 0 ≤ (i : Int) then (if (i : Int) < (n : Int) then some (i : Int).toNat else none) else _) = some i
  rw [if_pos (by omega), if_pos (by omega), Int.toNat_natCast]
section
variable {P : Program} {w : World} {K : PySem.W.Frag} {mg : Str → Option Value} {base : Heap}
abbrev tAddAt (K : PySem.W.Frag) (l j : Nat) (ti : TE) (ip : TIp) : TS := tAugS (tVar l) ti (tVar j) (fun o i H Q => ∃ (p : Addr) (xs : List V) (k : Nat) (v : V), o = .ref p ∧ i = .int (k : Int) ∧ SqL K H p xs ∧ xs[k]? = some v ∧ Q v H) ip rSetL
theorem rowsF_snoc (p : List Int × List Int) (ss : List Stk) (s : Stk) : rowsF p (ss ++ [s]) = stepRw (rowsF p ss) s := List.foldl_append
theorem ok_endrows {f : Addr} {fd : FuncData} {k : Nat} {pd sa : Addr} (F : Fun K "end_rows" "end_rows" s_end_rows f fd) (GO : Got P w K mg base "outside_branches" k ["word"] spOutside) (GL : GotD P w K mg base "lay_strokes" k ["word", "pen"] [.ref pd] (spLaySL K)) (hP : ModT K pd (plV (0, 0, 0)))
    (mS : mg "STEPS" = some (.ref sa)) (hS : StepsAt K sa) : FnOk P w K mg base CX0 (k + 1) f fd ["word", "many"] spEndRows := by
  refine F.ok sc_end_rows (fun vs H Q E h => ?_) (fun cdv A outer s H vs Q E hr h => ?_)
  · obtain ⟨a, n, w, rfl, _⟩ := h
    rfl
  · obtain ⟨a, n, wd, rfl, hw, hg, hn, q⟩ := h
    have nd := sc_end_rows.nd
    refine ⟨_, pss_cons (ps_set (i := 2) nd rfl (.inl rfl) (prepN (plstN (pa_cons pe_int pa_nil)) (pe_op op_mul pe_int (pv 1))))
      (pss_cons (ps_set (i := 3) nd rfl (.inl rfl) (prepN (plstN (pa_cons pe_int pa_nil)) (pe_op op_mul pe_int (pv 1))))
      (pss_cons (ps_for PassesOwn.never rfl (pi_list (pixT (pcallD GL hr (pa_cons (pcall GO hr (pa_cons (pv 0) pa_nil)) pa_nil)) pe_int)) (pg_tup (by rfl) (pgs_cons (pg_name (i := 4) nd rfl (.inl rfl)) (pgs_cons (pg_name (i := 4) nd rfl (.inl rfl)) (pgs_cons (pg_name (i := 5) nd rfl (.inl rfl)) (pgs_cons (pg_name (i := 6) nd rfl (.inl rfl)) pgs_nil)))))
        (pss_cons (ps_asg (pixT (pe_glob (v := .ref sa) rfl mS rfl) (pv 5)) (pg_tup (by rfl) (pgs_cons (pg_name (i := 7) nd rfl (.inl rfl)) (pgs_cons (pg_name (i := 8) nd rfl (.inl rfl)) pgs_nil))))
        (pss_cons (ps_augS (pv 2) (pe_op op_mul pe_int (pv 6)) get_list (pv 7) ip_add set_list)
        (pss_cons (ps_augS (pv 2) (padd (pe_op op_mul pe_int (pv 6)) pe_int) get_list (pv 8) ip_sub set_list)
        (pss_cons (ps_augS (pv 3) (pe_op op_mul pe_int (pv 6)) get_list (pv 8) ip_add set_list)
        (pss_one (ps_augS (pv 3) (padd (pe_op op_mul pe_int (pv 6)) pe_int) get_list (pv 7) ip_add set_list)))))))
      (pss_one (ps_ret (plstN (pa_cons (pv 2) (pa_cons (pv 3) pa_nil))))))), ?_⟩
    have gl := hg.len
    have e2 : (2 : Int) * (n : Int) = ((2 * n : Nat) : Int) := by omega
    have tn : ((2 : Int) * (n : Int)).toNat = 2 * n := by omega
    have rz : (List.replicate (2 * n) [V.int 0]).flatten = (List.replicate (2 * n) (0 : Int)).map V.int := rep_v (2 * n) 0
    refine ⟨szl 1, fun H1 p1 S1 n1 h1 => ⟨_, rfl, _, _, rfl, rfl, .inl ⟨by decide, by decide⟩, p1, 2 * (n : Int), _, rfl, rfl, h1, by omega, by omega, ?_, fun H2 rx S2 n2 h2 => ?_⟩⟩
    · rw [tn, sizeLine_eq]; show 1 * (2 * n) ≤ 16777216; omega
    rw [tn, rz] at h2
    refine ⟨szl 1, fun H3 p3 S3 n3 h3 => ⟨_, rfl, _, _, rfl, rfl, .inl ⟨by decide, by decide⟩, p3, 2 * (n : Int), _, rfl, rfl, h3, by omega, by omega, ?_, fun H4 ry S4 n4 h4 => ?_⟩⟩
    · rw [tn, sizeLine_eq]; show 1 * (2 * n) ≤ 16777216; omega
    rw [tn, rz] at h4
    have S02 := S1.trans S2
    have S24 := S3.trans S4
    have S04 := S02.trans S24
    have nx : H rx = none := S1.free n2
    have ny : H ry = none := (S02.trans S3).free n4
    have hx4 := S24 _ _ h2
    have nxy : rx ≠ ry := ne_of_none (S3 _ _ h2) n4
    have fl : ∀ s ∈ mainW wd, isB s = false := main_flat wd (0, []) fun s h => by cases h
    have sub : ∀ s, s ∈ mainW wd → s ∈ wd := fun s hs => (main_sub wd (0, []) s hs).resolve_left fun z => by cases z
    have wn : nest wd 0 ≠ none := by rw [hg.nst]; exact (fun z => nomatch z)
    have ml := main_len wd (0, [])
    have ml : (mainW wd).length ≤ 0 + wd.length := ml
    refine ⟨_, rfl, a, wd, rfl, hw.same S04, wn, by omega, fun H5 fo S5 n5 h5 => ?_⟩
    have mn : nest (mainW wd) 0 ≠ none := by rw [nest_flat _ 0 fl]; exact (fun z => nomatch z)
    refine ⟨fo, pd, mainW wd, (0, 0, 0), rfl, SqL.of h5, hP.sq, by decide, by decide, mn, by omega, fun H6 t la e as S6 n6 h6 n7 hla hA he => ?_⟩
    refine ⟨t, _, _, .ref la, rfl, rfl, SqT.of h6, at0, ?_⟩
    have S46 := S5.trans S6
    have S06 := S04.trans S46
    have nla : H4 la = none := S5.free n7
    have eo : (penF one (stt (0, 0, 0)) (mainW wd)).out = (penE one (mainW wd)).out := rfl
    rw [eo] at hA
    have hout : ∀ s ∈ (penE one (mainW wd)).out, 0 ≤ s.2.2.1 ∧ s.2.2.1 < 4 ∧ s.2.2.2 < n := fun s hs => by
      have h1 := (hok_run (E := one) (mainW wd) hok_org).out s hs
      exact ⟨h1.1, h1.2, hg.lets _ (sub _ ((let_pen (mainW wd) org s hs).resolve_left fun z => by cases z))⟩
    have nlx : la ≠ rx := (ne_of_none hx4 nla).symm
    have nly : la ≠ ry := (ne_of_none h4 nla).symm
    refine ⟨la, rfl, ⟨_, SqL.of hla⟩, for_list (K := K) (a := la) (xs := as.map V.ref) (fun i σ H' => ∃ y4 y5 y6 y7 y8 : Option V, σ = [some (.ref a), some (.int n), some (.ref rx), some (.ref ry), y4, y5, y6, y7, y8] ∧ Same H H' ∧ TupS H6 H' ∧ H' la = some (.lst (as.map V.ref)) ∧
        H' rx = some (.lst ((rowsF (rows0 n) ((penE one (mainW wd)).out.take i)).1.map V.int)) ∧ H' ry = some (.lst ((rowsF (rows0 n) ((penE one (mainW wd)).out.take i)).2.map V.int)))
      ⟨none, none, none, none, none, rfl, S06, TupS.refl, hla, S46 _ _ hx4, S46 _ _ h4⟩ (fun i σ H' _ ⟨_, _, _, _, _, _, _, _, s, _⟩ => SqL.of s) ?_ ?_⟩
    · rintro i x σ H7 hx ⟨y4, y5, y6, y7, y8, rfl, S7, T7, hl7, hx7, hy7⟩
      rw [List.getElem?_map] at hx
      cases ea : as[i]? with
      | none => rw [ea] at hx; cases hx
      | some sp =>
        rw [ea] at hx
        cases hx
        have lA := hA.length
        have hi : i < (penE one (mainW wd)).out.length := by have := (List.getElem?_eq_some_iff.mp ea).1; omega
        have hsi := List.getElem?_eq_getElem hi
        generalize (penE one (mainW wd)).out[i] = sk at hsi
        obtain ⟨sp', esp, hsp⟩ := paired_get (hA.keep T7) hsi
        rw [ea] at esp
        cases esp
        obtain ⟨s0, s4, sk8⟩ := hout sk (List.mem_of_getElem? hsi)
        obtain ⟨xs, tt, m1, m2, m3⟩ := hS.get s0 s4
        refine ⟨sp, _, rfl, SqT.of hsp, rfl, _, _, rfl, _, _, rfl, _, _, rfl, _, _, rfl, rfl, ?_⟩
        refine ⟨_, rfl, sa, _, _, _, rfl, rfl, m1.sq, m2, tt, _, rfl, m3.sq, rfl, _, _, rfl, _, _, rfl, rfl, ?_⟩
        rw [take_more hsi, rowsF_snoc]
        have lr := rowsF_len (N := 2 * n) ((penE one (mainW wd)).out.take i) (rows0 n) List.length_replicate List.length_replicate
        generalize rowsF (rows0 n) ((penE one (mainW wd)).out.take i) = rr at hx7 hy7 lr ⊢
        obtain ⟨r1, r2⟩ := rr
        obtain ⟨l1, l2⟩ := lr
        have l1 : r1.length = 2 * n := l1
        have l2 : r2.length = 2 * n := l2
        have hx7 : H7 rx = some (.lst (r1.map V.int)) := hx7
        have hy7 : H7 ry = some (.lst (r2.map V.int)) := hy7
        have e0 : (2 : Int) * (sk.2.2.2 : Int) = ((2 * sk.2.2.2 : Nat) : Int) := by omega
        have e1 : (2 : Int) * (sk.2.2.2 : Int) + 1 = ((2 * sk.2.2.2 + 1 : Nat) : Int) := by omega
        have cm : CMul 2 (sk.2.2.2 : Int) := .inl ⟨by decide, by decide⟩
        refine ⟨_, rfl, _, rfl, _, _, rfl, rfl, cm, rx, _, 2 * sk.2.2.2, _, rfl, congrArg V.int e0, SqL.of hx7, getD_v (by omega), _, rfl, _, _, rfl, rfl, rx, _, _, 2 * sk.2.2.2, rfl, rfl, hx7, by rw [List.length_map, l1, e0]; exact ixN_nat (by omega), ?_⟩
        dsimp only
        rw [set_v]
        have la1 : (addAt r1 (2 * sk.2.2.2) (dir sk.2.2.1).1).length = 2 * n := by rw [addAt_len, l1]
        have S8 : Same H (upd H7 rx (.lst ((addAt r1 (2 * sk.2.2.2) (dir sk.2.2.1).1).map V.int))) := sPut S7 nx
        have T8 : TupS H6 (upd H7 rx (.lst ((addAt r1 (2 * sk.2.2.2) (dir sk.2.2.1).1).map V.int))) := T7.lst hx7
        have hl8 := (upd_ne (H := H7) (o := .lst ((addAt r1 (2 * sk.2.2.2) (dir sk.2.2.1).1).map V.int)) nlx).trans hl7
        have hy8 := (upd_ne (H := H7) (o := .lst ((addAt r1 (2 * sk.2.2.2) (dir sk.2.2.1).1).map V.int)) nxy.symm).trans hy7
        have hx8 : (upd H7 rx (.lst ((addAt r1 (2 * sk.2.2.2) (dir sk.2.2.1).1).map V.int))) rx = _ := upd_same
        generalize upd H7 rx (.lst ((addAt r1 (2 * sk.2.2.2) (dir sk.2.2.1).1).map V.int)) = H8 at S8 T8 hl8 hy8 hx8 ⊢
        refine ⟨_, rfl, _, rfl, _, _, rfl, rfl, cm, _, _, rfl, rfl, rx, _, 2 * sk.2.2.2 + 1, _, rfl, congrArg V.int e1, SqL.of hx8, getD_v (by omega), _, rfl, _, _, rfl, rfl, rx, _, _, 2 * sk.2.2.2 + 1, rfl, rfl, hx8, by rw [List.length_map, la1, e1]; exact ixN_nat (by omega), ?_⟩
        dsimp only
        rw [Int.sub_eq_add_neg, set_v]
        have S9 : Same H (upd H8 rx (.lst ((addAt (addAt r1 (2 * sk.2.2.2) (dir sk.2.2.1).1) (2 * sk.2.2.2 + 1) (-(dir sk.2.2.1).2)).map V.int))) := sPut S8 nx
        have T9 : TupS H6 (upd H8 rx (.lst ((addAt (addAt r1 (2 * sk.2.2.2) (dir sk.2.2.1).1) (2 * sk.2.2.2 + 1) (-(dir sk.2.2.1).2)).map V.int))) := T8.lst hx8
        have hl9 := (upd_ne (H := H8) (o := .lst ((addAt (addAt r1 (2 * sk.2.2.2) (dir sk.2.2.1).1) (2 * sk.2.2.2 + 1) (-(dir sk.2.2.1).2)).map V.int)) nlx).trans hl8
        have hy9 := (upd_ne (H := H8) (o := .lst ((addAt (addAt r1 (2 * sk.2.2.2) (dir sk.2.2.1).1) (2 * sk.2.2.2 + 1) (-(dir sk.2.2.1).2)).map V.int)) nxy.symm).trans hy8
        have hx9 : (upd H8 rx (.lst ((addAt (addAt r1 (2 * sk.2.2.2) (dir sk.2.2.1).1) (2 * sk.2.2.2 + 1) (-(dir sk.2.2.1).2)).map V.int))) rx = _ := upd_same
        generalize upd H8 rx (.lst ((addAt (addAt r1 (2 * sk.2.2.2) (dir sk.2.2.1).1) (2 * sk.2.2.2 + 1) (-(dir sk.2.2.1).2)).map V.int)) = H9 at S9 T9 hl9 hy9 hx9 ⊢
        refine ⟨_, rfl, _, rfl, _, _, rfl, rfl, cm, ry, _, 2 * sk.2.2.2, _, rfl, congrArg V.int e0, SqL.of hy9, getD_v (by omega), _, rfl, _, _, rfl, rfl, ry, _, _, 2 * sk.2.2.2, rfl, rfl, hy9, by rw [List.length_map, l2, e0]; exact ixN_nat (by omega), ?_⟩
        dsimp only
        rw [set_v]
        have la2 : (addAt r2 (2 * sk.2.2.2) (dir sk.2.2.1).2).length = 2 * n := by rw [addAt_len, l2]
        have S10 : Same H (upd H9 ry (.lst ((addAt r2 (2 * sk.2.2.2) (dir sk.2.2.1).2).map V.int))) := sPut S9 ny
        have T10 : TupS H6 (upd H9 ry (.lst ((addAt r2 (2 * sk.2.2.2) (dir sk.2.2.1).2).map V.int))) := T9.lst hy9
        have hl10 := (upd_ne (H := H9) (o := .lst ((addAt r2 (2 * sk.2.2.2) (dir sk.2.2.1).2).map V.int)) nly).trans hl9
        have hx10 := (upd_ne (H := H9) (o := .lst ((addAt r2 (2 * sk.2.2.2) (dir sk.2.2.1).2).map V.int)) nxy).trans hx9
        have hy10 : (upd H9 ry (.lst ((addAt r2 (2 * sk.2.2.2) (dir sk.2.2.1).2).map V.int))) ry = _ := upd_same
        generalize upd H9 ry (.lst ((addAt r2 (2 * sk.2.2.2) (dir sk.2.2.1).2).map V.int)) = H10 at S10 T10 hl10 hy10 hx10 ⊢
        refine ⟨_, rfl, _, rfl, _, _, rfl, rfl, cm, _, _, rfl, rfl, ry, _, 2 * sk.2.2.2 + 1, _, rfl, congrArg V.int e1, SqL.of hy10, getD_v (by omega), _, rfl, _, _, rfl, rfl, ry, _, _, 2 * sk.2.2.2 + 1, rfl, rfl, hy10, by rw [List.length_map, la2, e1]; exact ixN_nat (by omega), ?_⟩
        dsimp only
        rw [set_v]
        refine ⟨_, _, _, _, _, rfl, sPut S10 ny, T10.lst hy10, by rw [upd_ne nly]; exact hl10, by rw [upd_ne nxy]; exact hx10, upd_same⟩
    · rintro σ H7 ⟨y4, y5, y6, y7, y8, rfl, S7, T7, hl7, hx7, hy7⟩
      have lA := hA.length
      rw [List.length_map, lA, List.take_length] at hx7 hy7
      refine ⟨_, rfl, _, rfl, szl 2, fun H8 p S8 n8 h8 => ?_⟩
      exact q H8 p rx ry (S7.trans S8) (S7.free n8) nx ny h8 (S8 _ _ hx7) (S8 _ _ hy7)
end
end SK
/-! what may raise, where it doesn't; fields as targets; what stands when an instance is written -/
namespace SK
open PySem PySem.Spec PyProof.Rows L2
section
variable {P : Program} {w : World} {K : PySem.W.Frag} {mg : Str → Option Value} {base : Heap}
/-- a def that may raise lets nothing out where its promise has no way out -/
theorem cool {k : Nat} {f : Addr} {fd : FuncData} {ps : List Str} {sp sp0 : Sp} (F : FnOk P w K mg base (L2.CX P w) k f fd ps sp) (h : ∀ vs H Q E, sp0 vs H Q E → sp vs H Q E0) : FnOk P w K mg base CX0 k f fd ps sp0 :=
  ⟨fun vs H Q E z => F.len vs H Q E0 (h _ _ _ _ z), fun A outer s H args us vs Q E hr e0 b r z => codeAny_mono (F.run A outer s H args us vs Q E0 hr e0 b r (h _ _ _ _ z)) fun r s' hq => match r, hq with
    | .ok (.ret _), hq => hq
    | .ok .next, hq => hq
    | .ok .brk, hq => hq
    | .ok .cont, hq => hq
    | .error _, ⟨_, _, _, _, _, _, _, _, _, _, _, _, z⟩ => z⟩
end
def gFld (K : PySem.W.Frag) (to : TE) (f : Str) : TG := fun v σ H Q => to σ H fun o H1 => ∃ a C dx fs, o = .ref a ∧ H1 a = some (.ins C dx fs) ∧ Cls K C ∧ NoAttr K C f ∧ fs.length < 1000 ∧ Q σ (upd H1 a (.ins C dx (putF f v fs)))
theorem pg_fld {X : Cx} {o : Expr} {f : Str} {to : TE} {pos : Pos} (ho : PE X o to)
    (ha : ∀ v, assign (.Attribute o f pos) X.env v = (do
      let ov ← holding [v] (eval o X.env)
      standAt pos.atName
      holding [v, ov] (setAttr ov f v)
      release [v, ov] []) := by intro _; rfl) : PG X (.Attribute o f pos) (gFld X.K to f) := by
  refine ⟨fun pins s σ H v u Q I r h => ?_⟩
  rw [ha]
  refine wpAny_bind (wpAny_holding (thn (ho.run pins s σ H _ I h) fun ov s1 ⟨x, H1, I1, r1, a, C, dx, fs, ex, ea, c, n, l, q⟩ => ?_))
  subst ex
  obtain rfl : ov = Value.ref a := r1
  refine wpAny_bind (wpAny_standAt (wpAny_bind (wpAny_holding (setattr_ok I1 ea c n l r fun s3 I3 => ?_))))
  exact wpAny_release ⟨σ, _, I3, q⟩
theorem lk0 {f : Str} {v : V} {l : List (Str × V)} : List.lookup f ((f, v) :: l) = some v := by simp [List.lookup]
theorem lkS {f g : Str} {v : V} {l : List (Str × V)} (h : ¬ f = g) : List.lookup f ((g, v) :: l) = List.lookup f l := by
  have e : (f == g) = false := by simpa using h
  simp [List.lookup, e]
theorem putF_new {f : Str} {v : V} : ∀ {fs : List (Str × V)}, (∀ p ∈ fs, ¬ p.1 = f) → putF f v fs = fs ++ [(f, v)]
  | [], _ => rfl
  | (g, u) :: fs, h => by
    show (if g = f then _ else (g, u) :: putF f v fs) = _
    rw [if_neg (h (g, u) List.mem_cons_self), putF_new fun p hp => h p (List.mem_cons_of_mem _ hp)]
    rfl
/-- all that is no instance stands -/
def KeepI (H H' : Hp) : Prop := ∀ c o, (∀ C dx fs, o ≠ .ins C dx fs) → H c = some o → H' c = some o
theorem KeepI.of {H H' : Hp} (s : Same H H') : KeepI H H' := fun c o _ e => s c o e
theorem KeepI.trans {H H' H2 : Hp} (a : KeepI H H') (b : KeepI H' H2) : KeepI H H2 := fun c o n e => b c o n (a c o n e)
theorem KeepI.ins {H : Hp} {p C dx : Addr} {fs : List (Str × V)} {o : HO} (h : H p = some (.ins C dx fs)) : KeepI H (upd H p o) := fun c u n e => by
  have z : c ≠ p := fun z => by
    rw [z, h] at e
    exact n C dx fs (Option.some.inj e).symm
  rw [upd_ne z]
  exact e
theorem KeepI.tup {H H' : Hp} (k : KeepI H H') : TupS H H' := ⟨fun b xs e => k b _ (fun _ _ _ z => nomatch z) e, fun b o u e => k b _ (fun _ _ _ z => nomatch z) e⟩
theorem KeepI.lst {H H' : Hp} (k : KeepI H H') {b : Addr} {xs : List V} (e : H b = some (.lst xs)) : H' b = some (.lst xs) := k b _ (fun _ _ _ z => nomatch z) e
theorem KeepI.dK {H H' : Hp} (k : KeepI H H') {b : Addr} {kvs : List (Key × V)} (e : H b = some (.dK kvs)) : H' b = some (.dK kvs) := k b _ (fun _ _ _ z => nomatch z) e
end SK
/-! defs that may raise -/
namespace SK
open PySem PySem.Spec PyProof.Rows L2
/-- a def that may raise -/
structure GotX (P : Program) (w : World) (K : PySem.W.Frag) (mg : Str → Option Value) (base : Heap) (x : Str) (k : Nat) (ps : List Str) (sp : Sp) : Prop where
  ex : ∃ (f : Addr) (fd : FuncData), FnOk P w K mg base (L2.CX P w) k f fd ps sp ∧ mg x = some (.ref f) ∧ PySem.W.keepIn K (.ref f) = true ∧ Binds K fd ps []
theorem pcallX {X : Cx} {W : WX} {x : Str} {k : Nat} {ps : List Str} {sp : Sp} {e : Expr} {es : List Expr} {t : TA} {p pos : Pos} (G : GotX X.prog X.w X.K X.mg X.base x k ps sp) (hr : Room k X.A) (tk : Takes X W) (ha : PA X (e :: es) t) (hg : Gl X x := by rfl)
    (hdb : (x == ("__debug__" : Str)) = false := by decide)
    (he : starEach (e :: es) X.env = (false, eval e X.env) :: starEach es X.env := by rfl) (hpl : (backTo pos (starEach es X.env)).any (·.1) = false := by rfl) : PE X (.Call (.Name x p) (e :: es) [] pos) (tCallS sp (WE W) t) := by
  obtain ⟨f, fd, F, a, b, c⟩ := G.ex
  exact pe_callS F hr hg a b c (fun σ => passAt tk σ) ha hdb he hpl
theorem GotX.mono {P : Program} {w : World} {K : PySem.W.Frag} {mg : Str → Option Value} {base : Heap} {x : Str} {j k : Nat} {ps : List Str} {sp : Sp} (g : GotX P w K mg base x j ps sp) (h : j ≤ k) : GotX P w K mg base x k ps sp := by
  obtain ⟨f, fd, F, a, b, c⟩ := g.ex
  exact ⟨f, fd, F.mono h, a, b, c⟩
/-- .. and lets nothing out -/
theorem GotX.cool {P : Program} {w : World} {K : PySem.W.Frag} {mg : Str → Option Value} {base : Heap} {x : Str} {k : Nat} {ps : List Str} {sp sp0 : Sp} (g : GotX P w K mg base x k ps sp) (h : ∀ vs H Q E, sp0 vs H Q E → sp vs H Q E0) : Got P w K mg base x k ps sp0 := by
  obtain ⟨f, fd, F, a, b, c⟩ := g.ex
  exact ⟨f, fd, SK.cool F h, a, b, c⟩
end SK
namespace SK
open PySem PySem.Spec PyProof.Rows L2
def spEMod (CS : Addr) : Sp := fun vs H Q E => ∃ (b : Addr) (n m : Nat) (ws : List (List Sy)) (st : List Sy), vs = [.ref b, .int n, .int m] ∧ BookAt H b ws st ∧ GoodBook ws st ∧ ws.length ≤ 3 ∧ n ≤ e40 ∧ 2 ≤ m ∧ m ≤ e18 ∧
  (SteadyB ws st → New (.tup [.int ((pen (grown ws st n)).x % (m : Int)), .int ((pen (grown ws st n)).y % (m : Int))]) H Q) ∧ (¬ SteadyB ws st → ∀ H', Same H H' → E (.ref CS) none H')
theorem rep_v0 (n : Nat) : (List.replicate n [V.int 1, V.int 0]).flatten = (v0 n).map V.int := by
  unfold v0
  induction n with
  | zero => rfl
  | succ n ih =>
    rw [List.replicate_succ, List.flatten_cons, ih]
    rw [List.replicate_succ, List.flatten_cons, List.map_append]
    rfl
theorem rowsA_take {n : Nat} {ws : List (List Sy)} {i : Nat} {w : List Sy} (h : ws[i]? = some w) : rowsA n (ws.take (i + 1)) = (rowsA n (ws.take i) ++ [(rowsW n w).1]) ++ [(rowsW n w).2] := by
  unfold rowsA
  rw [take_more h, List.flatMap_append, List.append_assoc]
  rfl
theorem steady_dec (ws : List (List Sy)) (st : List Sy) : SteadyB ws st ∨ ¬ SteadyB ws st := Classical.em _
section
variable {P : Program} {w : World} {K : PySem.W.Frag} {mg : Str → Option Value} {base : Heap}
theorem ok_emod {f : Addr} {fd : FuncData} {k : Nat} {CS : Addr} (F : Fun K "end_modulo" "end_modulo" s_end_modulo f fd) (GA : Got P w K mg base "check_age_and_modulus" k ["book", "age", "modulus"] spCheckAM) (GSt : GotX P w K mg base "check_steady" k ["book"] (spCheckSteady CS))
    (GE : Got P w K mg base "end_rows" k ["word", "many"] spEndRows) (GV : Got P w K mg base "values_at" k ["rows", "values", "age", "modulus"] (spValues K)) (GS : Got P w K mg base "sums_by_rows" k ["rows", "values", "modulus"] (spSumsBy K)) (ml : mg "len" = none) (mT : mg "tuple" = none) :
    FnOk P w K mg base (L2.CX P w) (k + 1) f fd ["book", "age", "modulus"] (spEMod CS) := by
  refine F.okX sc_end_modulo (fun vs H Q E h => ?_) (fun cdv A outer s H vs Q E hr h => ?_)
  · obtain ⟨b, n, m, ws, st, rfl, _⟩ := h
    rfl
  · obtain ⟨b, n, m, ws, st, rfl, hb, hg, h3l, hn, hm2, hm18, q1, q2⟩ := h
    have nd := sc_end_modulo.nd
    have hm18' : m ≤ 1000000000000000000 := hm18
    refine ⟨_, pss_cons (ps_expr (pcall GA hr (pa_cons (pv 0) (pa_cons (pv 1) (pa_cons (pv 2) pa_nil)))))
      (pss_cons (ps_expr (pcallX GSt hr (takes_of rfl rfl rfl rfl) (pa_cons (pv 0) pa_nil)))
      (pss_cons (ps_asg (pv 0) (pg_tup (by rfl) (pgs_cons (pg_name (i := 3) nd rfl (.inl rfl)) (pgs_cons (pg_name (i := 4) nd rfl (.inl rfl)) pgs_nil))))
      (pss_cons (ps_set (i := 5) nd rfl (.inr rfl) (plen ml (pv 3)))
      (pss_cons (ps_setLc2 (i := 6) (own := [("word", 8), ("row", 9)]) (vs1 := [9]) (wi1 := iList K (tCall spEndRows [] E0 (tCons (tVar 8) (tCons (tVar 5) tNil)))) (g := gName 8) (g1 := gName 9) (tt := tYes) (tt1 := tYes) (te := tVar 9) rfl nd rfl rfl (sw_true rfl rfl rfl (by decide +kernel)) (pi_tup (pv 3)) (blkOk_by (N := n_end_modulo) (sc := defScope s_end_modulo) (by decide +kernel)) (by decide)
        (fun _ _ _ _ _ => pg_name (i := 8) nd rfl (Or.inl rfl)) (fun _ _ _ _ _ => pts_nil) (fun _ _ _ _ _ => pi_list (pcall GE hr (pa_cons (pv 8) (pa_cons (pv 5) pa_nil)))) (fun _ _ _ _ _ => pg_name (i := 9) nd rfl (Or.inl rfl)) (fun _ _ _ _ _ => pts_nil) (fun _ _ _ _ _ => pv 9))
      (pss_cons (ps_set (i := 7) nd rfl (.inl rfl) (pcall GV hr (pa_cons (pv 6) (pa_cons (prepN (plstN (pa_cons pe_int (pa_cons pe_int pa_nil))) (pv 5)) (pa_cons (pv 1) (pa_cons (pv 2) pa_nil))))))
      (pss_one (ps_ret (ptupleN mT (pcall GS hr (pa_cons (pcall GE hr (pa_cons (pv 4) (pa_cons (pv 5) pa_nil))) (pa_cons (pv 7) (pa_cons (pv 2) pa_nil)))))))))))), ?_⟩
    obtain ⟨p, pq, as, h1, h2, h3, h4⟩ := id hb
    have el := h4.length
    have g1 := hg.one
    refine ⟨_, rfl, _, rfl, _, rfl, b, n, m, ws, st, rfl, hb, hg, hn, hm2, hm18, fun H1 S1 => ?_⟩
    refine ⟨_, rfl, b, ws, st, rfl, hb.keep (.of S1), hg, fun hS H2 S2 => ?_, fun hN H2 S2 => q2 hN H2 (S1.trans S2)⟩
    have q := q1 hS
    have S02 := S1.trans S2
    clear q1 q2 S1 S2
    refine ⟨_, rfl, b, _, rfl, SqT.of (S02 _ _ h1), rfl, _, _, rfl, _, _, rfl, rfl, ?_⟩
    refine ⟨_, rfl, p, _, rfl, .inr (SqT.of (S02 _ _ h2)), ?_⟩
    rw [List.length_map, el]
    refine ⟨_, rfl, p, rfl, ⟨_, SqT.of (S02 _ _ h2)⟩, fun D nD => ?_⟩
    refine walk_by (walk_tup (K := K) (a := p) (xs := as.map V.ref)) (fun i H' => Same H2 H' ∧ ∃ rs : List Addr, H' D = some (.lst (rs.map V.ref)) ∧ RwsN H' D rs (rowsA ws.length (ws.take i))) ⟨same_upd nD, [], upd_same, .nil⟩ (fun i H' h => SqT.of (h.1 _ _ (S02 _ _ h2))) ?_ ?_
    · rintro i x H4 H5 hi ⟨S4, rs, hD, hR⟩ ⟨rfl, hx⟩
      rw [List.getElem?_map] at hx
      cases ea : as[i]? with
      | none => rw [ea] at hx; cases hx
      | some a =>
        rw [ea] at hx
        cases hx
        have hiw : i < ws.length := by have := (List.getElem?_eq_some_iff.mp ea).1; omega
        have hwi := List.getElem?_eq_getElem hiw
        generalize ws[i] = wd at hwi
        obtain ⟨a', ea', hwa⟩ := paired_get h4 hwi
        rw [ea] at ea'
        cases ea'
        have gw := hg.words wd (List.mem_of_getElem? hwi)
        have lR := hR.length
        rw [rowsA_len, List.length_take] at lR
        refine ⟨rfl, _, rfl, _, rfl, a, ws.length, wd, rfl, (hwa.same S02).same S4, gw, by omega, fun H6 pl rx ry S6 n6 nrx nry h6 hrx hry => ⟨pl, rfl, ⟨_, SqL.of h6⟩, ?_⟩⟩
        have dx : rx ≠ D := (ne_of_none hD nrx).symm
        have dy : ry ≠ D := (ne_of_none hD nry).symm
        have dp : pl ≠ D := (ne_of_none hD n6).symm
        refine walk_by (walk_list (K := K) (a := pl) (xs := [V.ref rx, V.ref ry])) (fun j H' => Same H2 H' ∧ H' pl = some (.lst [V.ref rx, V.ref ry]) ∧ H' rx = some (.lst ((rowsW ws.length wd).1.map V.int)) ∧ H' ry = some (.lst ((rowsW ws.length wd).2.map V.int)) ∧ RwsN H' D rs (rowsA ws.length (ws.take i)) ∧ H' D = some (.lst ((rs ++ [rx, ry].take j).map V.ref)))
          ⟨S4.trans S6, h6, hrx, hry, hR.same S6, by rw [List.take_zero, List.append_nil]; exact S6 _ _ hD⟩ (fun j H' h => SqL.of h.2.1) ?_ ?_
        · rintro j y H7 H8 hj ⟨S7, hp7, hx7, hy7, hR7, hD7⟩ ⟨rfl, hy⟩
          have put : ∀ z : Addr, [rx, ry][j]? = some z → (rs ++ [rx, ry].take (j + 1)).map V.ref = (rs ++ [rx, ry].take j).map V.ref ++ [V.ref z] := fun z hz => by
            rw [take_more hz, ← List.append_assoc, List.map_append]
            rfl
          obtain ⟨z, hz, rfl⟩ : ∃ z, [rx, ry][j]? = some z ∧ y = V.ref z := by
            match j, hy with
            | 0, hy => cases hy; exact ⟨rx, rfl, rfl⟩
            | 1, hy => cases hy; exact ⟨ry, rfl, rfl⟩
            | j + 2, hy => cases hy
          refine ⟨rfl, _, rfl, _, hD7, ?_, sPut S7 nD, by rw [upd_ne dp]; exact hp7, by rw [upd_ne dx]; exact hx7, by rw [upd_ne dy]; exact hy7, RwsN.put hR7, by rw [upd_same, put z hz]⟩
          rw [List.length_map, List.length_append, List.length_take, sizeLine_eq]
          show rs.length + min j 2 < _
          omega
        · rintro H7 ⟨S7, hp7, hx7, hy7, hR7, hD7⟩
          refine ⟨S7, (rs ++ [rx]) ++ [ry], ?_, ?_⟩
          · rw [hD7, List.append_assoc]; rfl
          · rw [rowsA_take hwi]
            exact RwsN.snoc (RwsN.snoc hR7 dx hx7) dy hy7
    rintro H3 ⟨S3, rs, hD, hR⟩
    rw [List.length_map, el, List.take_length] at hR
    have S03 := S02.trans S3
    refine ⟨_, rfl, szl 2, fun H4 p1 S4 n4 h4p => ⟨_, rfl, p1, (ws.length : Int), _, rfl, rfl, h4p, by omega, by omega, ?_, fun H5 vl S5 n5 h5v => ?_⟩⟩
    · rw [Int.toNat_natCast, sizeLine_eq]; show 2 * ws.length ≤ 16777216; omega
    rw [Int.toNat_natCast, rep_v0] at h5v
    have S35 := S4.trans S5
    have lA : (rowsA ws.length ws).length = 2 * ws.length := rowsA_len _ _
    have sm : ∀ wd : List Sy, wd.length ≤ 1000 → ∀ x, (x ∈ (rowsW ws.length wd).1 ∨ x ∈ (rowsW ws.length wd).2) → -(2 ^ 64) < x ∧ x < 2 ^ 64 := fun wd h => rowsW_small h
    refine ⟨_, rfl, _, rfl, D, vl, rs, rowsA ws.length ws, v0 ws.length, n, (m : Int), rfl, S35 _ _ hD, (hR.same S35).rows, h5v, fun r hr => ?_, ?_, ?_, ?_, fun r hr x hx => ?_, by omega, by omega, fun H6 u ul S6 hu lu hmd => ?_⟩
    · rw [lA]; exact rowsA_rows _ _ r hr
    · rw [lA, v0_len]
    · omega
    · omega
    · obtain ⟨w0, hw0, hr0⟩ := List.mem_flatMap.mp hr
      have := (hg.words w0 hw0).len
      rcases List.mem_cons.mp hr0 with rfl | hr0
      · exact sm w0 (by omega) x (.inl hx)
      · rw [List.mem_singleton.mp hr0] at hx
        exact sm w0 (by omega) x (.inr hx)
    have S06 := (S03.trans S35).trans S6
    have sl := hg.start.len
    refine ⟨_, rfl, _, rfl, pq, ws.length, st, rfl, h3.same S06, hg.start, by omega, fun H7 rl rx ry S7 n7 _ _ h7 hrx hry => ?_⟩
    obtain ⟨lw1, lw2⟩ := rowsW_len ws.length st
    refine ⟨_, rfl, _, rfl, rl, u, [rx, ry], [(rowsW ws.length st).1, (rowsW ws.length st).2], ul, (m : Int), rfl, h7, .cons hrx (.cons hry .nil), .inl (SqL.of (S7 _ _ hu)), fun r hr => ?_, by show 2 ≤ 100; decide, by omega, fun r hr x hx => ?_, by omega, fun H8 o S8 n8 h8 => ?_⟩
    · rcases List.mem_cons.mp hr with rfl | hr
      · rw [lw1, lu, lA]
      · rw [List.mem_singleton.mp hr, lw2, lu, lA]
    · rcases List.mem_cons.mp hr with rfl | hr
      · exact sm st (by omega) x (.inl hx)
      · rw [List.mem_singleton.mp hr] at hx
        exact sm st (by omega) x (.inr hx)
    have e := end_far hg hS n
    have f1 : dotI (rowsW ws.length st).1 ul % (m : Int) = (pen (grown ws st n)).x % (m : Int) := by
      rw [← e.1]
      exact dot_cong rfl hmd
    have f2 : dotI (rowsW ws.length st).2 ul % (m : Int) = (pen (grown ws st n)).y % (m : Int) := by
      rw [← e.2]
      exact dot_cong rfl hmd
    have h8 : H8 o = some (.lst [.int (dotI (rowsW ws.length st).1 ul % (m : Int)), .int (dotI (rowsW ws.length st).2 ul % (m : Int))]) := h8
    rw [f1, f2] at h8
    have S08 := (S06.trans S7).trans S8
    exact ⟨o, _, rfl, SqL.of h8, fun H9 t S9 n9 h9 => q H9 t (S08.trans S9) (S08.free n9) h9⟩
end
end SK
namespace SK
open PySem PySem.Spec PyProof.Rows L2
theorem nodup_sub {α : Type} [DecidableEq α] : ∀ {l D : List α}, l.Nodup → (∀ x ∈ l, x ∈ D) → l.length ≤ D.length
  | [], _, _, _ => Nat.zero_le _
  | x :: l, D, hn, hs => by
    obtain ⟨h1, h2⟩ := List.nodup_cons.mp hn
    have hx : x ∈ D := hs x List.mem_cons_self
    have ih := nodup_sub (l := l) (D := D.erase x) h2 fun y hy => by
      have ne : y ≠ x := fun e => h1 (e ▸ hy)
      exact (List.mem_erase_of_ne ne).2 (hs y (List.mem_cons_of_mem _ hy))
    rw [List.length_erase_of_mem hx] at ih
    have := List.length_pos_of_mem hx
    rw [List.length_cons]
    omega
theorem fresh_many {ws : List (List Sy)} {st : List Sy} : ∀ (i k : Nat), Fresh ws st i k → ∃ L : List Nat, L.Nodup ∧ L.length = i + 1 ∧ ∀ x ∈ L, Ahead ws st (i + 1) x
  | 0, k, h => ⟨[k], by simp, rfl, fun x hx => by rw [List.mem_singleton.mp hx]; exact ahead_succ.mpr (.inr h)⟩
  | i + 1, k, h => by
    obtain ⟨⟨j, hj, _⟩, hn⟩ := fresh_succ.mp h
    obtain ⟨L, nd, len, hL⟩ := fresh_many i j hj
    refine ⟨k :: L, List.nodup_cons.mpr ⟨fun z => hn (hL k z), nd⟩, by rw [List.length_cons, len], fun x hx => ?_⟩
    rcases List.mem_cons.mp hx with rfl | hx
    · exact ahead_succ.mpr (.inr h)
    · exact ahead_succ.mpr (.inl (hL x hx))
theorem comes_fresh {ws : List (List Sy)} {st : List Sy} {k : Nat} (h : Comes ws st k) : ∃ i, Fresh ws st i k := by
  obtain ⟨m, hm⟩ := h
  obtain ⟨i, _, hi, least⟩ := st_least (p := fun m => Sy.l k ∈ grown ws st m) m hm
  exact ⟨i, hi, fun ⟨j, hj, z⟩ => least j hj z⟩
theorem comes_soon {ws : List (List Sy)} {st : List Sy} (hg : ∀ w ∈ ws, Good ws.length 40 w) (hl : ∀ k, Sy.l k ∈ st → k < ws.length) {n : Nat} (hn : ws.length ≤ n) (k : Nat) : Comes ws st k ↔ Ahead ws st n k := by
  refine ⟨fun h => ?_, fun ⟨m, _, h⟩ => ⟨m, h⟩⟩
  obtain ⟨i, hi⟩ := comes_fresh h
  obtain ⟨L, nd, len, hL⟩ := fresh_many i k hi
  have := few_keys nd (n := ws.length) fun x hx => by
    obtain ⟨m, _, hm⟩ := hL x hx
    exact grown_lets' hg hl m x hm
  exact ⟨i, by omega, hi.1⟩
/-! how far a pen comes -/
end SK
namespace SK
open PySem PySem.Spec PyProof.Rows L2
/-! ### numbers of strokes modulo a small number: they go round -/
def nxC (ws : List (List Sy)) (m : Nat) (c : List Nat) : List Nat := ws.map fun w => wsum (fun j => c.getD j 0) w % m
def cAt (ws : List (List Sy)) (m : Nat) : Nat → List Nat
  | 0 => List.replicate ws.length 1
  | i + 1 => nxC ws m (cAt ws m i)
theorem cAt_len (ws : List (List Sy)) (m : Nat) : ∀ i, (cAt ws m i).length = ws.length
  | 0 => List.length_replicate
  | i + 1 => List.length_map _
theorem wsum_mod {m : Nat} {N N' : Nat → Nat} : ∀ (w : List Sy), (∀ j, Sy.l j ∈ w → N j % m = N' j % m) → wsum N w % m = wsum N' w % m
  | [], _ => rfl
  | s :: w, h => by
    have ih := wsum_mod w fun j hj => h j (List.mem_cons_of_mem _ hj)
    cases s with
    | l k =>
      have a := h k List.mem_cons_self
      show (N k + wsum N w) % m = (N' k + wsum N' w) % m
      rw [Nat.add_mod, a, ih, ← Nat.add_mod]
    | p => exact ih
    | m => exact ih
    | o => exact ih
    | c => exact ih
theorem cAt_mod {ws : List (List Sy)} (h : ∀ w ∈ ws, ∀ j, Sy.l j ∈ w → j < ws.length) (m : Nat) : ∀ (i j : Nat), j < ws.length → (cAt ws m i).getD j 0 % m = nLg ws i j % m
  | 0, j, hj => by
    show (List.replicate ws.length 1).getD j 0 % m = 1 % m
    rw [List.getD_eq_getElem?_getD, List.getElem?_replicate, if_pos hj]
    rfl
  | i + 1, j, hj => by
    have e := List.getElem?_eq_getElem hj
    show (nxC ws m (cAt ws m i)).getD j 0 % m = _
    unfold nxC
    rw [List.getD_eq_getElem?_getD, List.getElem?_map, e, nLg_succ, List.getD_eq_getElem?_getD, e]
    show (wsum (fun j => (cAt ws m i).getD j 0) ws[j] % m) % m = wsum (nLg ws i) ws[j] % m
    rw [Nat.mod_mod]
    exact wsum_mod _ fun k hk => cAt_mod h m i k (h _ (List.getElem_mem hj) k hk)
theorem far_mod {ws : List (List Sy)} {st : List Sy} (h : ∀ w ∈ ws, ∀ j, Sy.l j ∈ w → j < ws.length) (hs : ∀ j, Sy.l j ∈ st → j < ws.length) (m n : Nat) : wsum (fun j => (cAt ws m n).getD j 0) st % m = nL (grown ws st n) % m := by
  rw [nL_grown]
  exact wsum_mod st fun j hj => cAt_mod h m n j (hs j hj)
theorem cAt_go {ws : List (List Sy)} {m t l : Nat} (e : cAt ws m l = cAt ws m t) : ∀ j, cAt ws m (l + j) = cAt ws m (t + j)
  | 0 => e
  | j + 1 => congrArg (nxC ws m) (cAt_go e j)
theorem cAt_round {ws : List (List Sy)} {m t p : Nat} (hp : 0 < p) (e : cAt ws m (t + p) = cAt ws m t) : ∀ j, cAt ws m (t + j) = cAt ws m (t + j % p) := by
  intro j
  induction j using Nat.strongRecOn with
  | ind j ih =>
    by_cases hj : j < p
    · rw [Nat.mod_eq_of_lt hj]
    · have h1 := cAt_go e (j - p)
      have h2 := ih (j - p) (by omega)
      rw [show t + j = t + p + (j - p) by omega, h1, h2, show j % p = (j - p) % p from (Nat.mod_eq_sub_mod (by omega))]
/-- where the law looks for an age's -/
def rndAt (t l n : Nat) : Nat := if n < t then n else t + (n - t) % (l - t)
theorem rnd_at {ws : List (List Sy)} {m t l : Nat} (h : t < l) (e : cAt ws m l = cAt ws m t) (n : Nat) : cAt ws m (rndAt t l n) = cAt ws m n ∧ rndAt t l n < l := by
  unfold rndAt
  by_cases z : n < t
  · rw [if_pos z]
    exact ⟨rfl, by omega⟩
  · rw [if_neg z]
    have hp : 0 < l - t := by omega
    have r := cAt_round (ws := ws) (m := m) (t := t) hp (by rw [show t + (l - t) = l by omega]; exact e) (n - t)
    rw [← r, show t + (n - t) = n by omega]
    exact ⟨rfl, by have := Nat.mod_lt (n - t) hp; omega⟩
/-- all there can be -/
def allV (m : Nat) : Nat → List (List Nat)
  | 0 => [[]]
  | n + 1 => (allV m n).flatMap fun v => (List.range m).map fun x => x :: v
theorem mem_all {m : Nat} : ∀ {n : Nat} (v : List Nat), v.length = n → (∀ x ∈ v, x < m) → v ∈ allV m n
  | 0, v, h, _ => by
    rw [List.eq_nil_of_length_eq_zero h]
    exact List.mem_singleton.mpr rfl
  | n + 1, [], h, _ => by cases h
  | n + 1, x :: v, h, hx => List.mem_flatMap.mpr ⟨v, mem_all v (Nat.succ.inj h) fun y hy => hx y (List.mem_cons_of_mem _ hy), List.mem_map.mpr ⟨x, List.mem_range.mpr (hx x List.mem_cons_self), rfl⟩⟩
theorem all_few {m n : Nat} (hm : m ≤ 4) (hn : n ≤ 3) : (allV m n).length ≤ 64 := by
  have e1 : m = 0 ∨ m = 1 ∨ m = 2 ∨ m = 3 ∨ m = 4 := by omega
  have e2 : n = 0 ∨ n = 1 ∨ n = 2 ∨ n = 3 := by omega
  rcases e1 with rfl | rfl | rfl | rfl | rfl <;> rcases e2 with rfl | rfl | rfl | rfl <;> decide +kernel
theorem cAt_lt {ws : List (List Sy)} {m : Nat} (hm : 2 ≤ m) : ∀ i, ∀ x ∈ cAt ws m i, x < m
  | 0, x, h => by
    rw [List.eq_of_mem_replicate h]
    omega
  | i + 1, x, h => by
    obtain ⟨w, _, rfl⟩ := List.mem_map.mp h
    exact Nat.mod_lt _ (by omega)
theorem round_few {ws : List (List Sy)} {m i : Nat} (hm : 2 ≤ m) (hm4 : m ≤ 4) (hw : ws.length ≤ 3) (nd : ((List.range i).map (cAt ws m)).Nodup) : i ≤ 64 := by
  have h := nodup_sub nd (D := allV m ws.length) fun v hv => by
    obtain ⟨j, _, rfl⟩ := List.mem_map.mp hv
    exact mem_all _ (cAt_len ws m j) (cAt_lt hm j)
  rw [List.length_map, List.length_range] at h
  exact Nat.le_trans h (all_few hm4 hw)
end SK
namespace SK
open PySem PySem.Spec PyProof.Rows L2
def Cts (H : Hp) (as : List Addr) (cs : List (List Nat)) : Prop := Paired (fun a c => H a = some (.tup (iV c))) as cs
theorem Cts.same {H H' : Hp} {as : List Addr} {cs : List (List Nat)} (s : Same H H') (h : Cts H as cs) : Cts H' as cs := Paired.mono (fun a w e => s _ _ e) h
def dC (c : List Nat) : PyData := .tuple (c.map fun k : Nat => PyData.int (k : Int))
theorem dp_iv {K : PySem.W.Frag} {H : Hp} : ∀ c : List Nat, DpAll K H (iV c) (c.map fun k : Nat => PyData.int (k : Int))
  | [] => .nil
  | k :: c => .cons (.int _) (dp_iv c)
theorem dp_cts {K : PySem.W.Frag} {H : Hp} : ∀ {as : List Addr} {cs : List (List Nat)}, Cts H as cs → DpAll K H (as.map V.ref) (cs.map dC)
  | _, _, .nil => .nil
  | _, _, .cons r t => .cons (.tup (SqT.of r) (dp_iv _)) (dp_cts t)
theorem lay_nats : ∀ c : List Nat, PyData.canLayAll0 (c.map fun k : Nat => PyData.int (k : Int)) = true ∧ PyData.depthAll (c.map fun k : Nat => PyData.int (k : Int)) ≤ 2
  | [] => ⟨rfl, by decide⟩
  | k :: c => by
    have ih := lay_nats c
    refine ⟨?_, ?_⟩
    · rw [List.map_cons]
      simp [PyData.canLayAll0, PyData.canLay0, ih.1]
    · rw [List.map_cons]
      have := ih.2
      simp [PyData.depthAll, PyData.depth]
      omega
theorem sh_dC (c : List Nat) : SeqAt.shaped (dC c) = true := by
  have a := lay_nats c
  unfold SeqAt.shaped dC PyData.canLay0 PyData.depth
  rw [a.1]
  have := a.2
  simp
  omega
theorem sh_dCs (cs : List (List Nat)) : SeqAt.shaped (.list (cs.map dC)) = true := by
  have h : PyData.canLayAll0 (cs.map dC) = true ∧ PyData.depthAll (cs.map dC) ≤ 4 := by
    induction cs with
    | nil => exact ⟨rfl, by decide⟩
    | cons w vs ih =>
      have a := lay_nats w
      refine ⟨?_, ?_⟩
      · rw [List.map_cons]
        simp [PyData.canLayAll0, dC, PyData.canLay0, ih.1, a.1]
      · rw [List.map_cons]
        have := ih.2
        have := a.2
        simp [PyData.depthAll, dC, PyData.depth]
        omega
  unfold SeqAt.shaped PyData.canLay0 PyData.depth
  rw [h.1]
  have := h.2
  simp
  omega
theorem eqv_dCA : ∀ (c d : List Nat), PyData.eqvAll (c.map fun k : Nat => PyData.int (k : Int)) (d.map fun k : Nat => PyData.int (k : Int)) = decide (c = d)
  | [], [] => rfl
  | [], _ :: _ => rfl
  | _ :: _, [] => rfl
  | k :: c, j :: d => by
    have ih := eqv_dCA c d
    rw [List.map_cons, List.map_cons]
    have e : PyData.eqvAll (PyData.int (k : Int) :: c.map fun k : Nat => PyData.int (k : Int)) (PyData.int (j : Int) :: d.map fun k : Nat => PyData.int (k : Int)) = (PyData.eqv (.int (k : Int)) (.int (j : Int)) && PyData.eqvAll (c.map fun k : Nat => PyData.int (k : Int)) (d.map fun k : Nat => PyData.int (k : Int))) := by
      simp [PyData.eqvAll]
    rw [e, ih, Bool.eq_iff_iff]
    have h1 : PyData.eqv (.int (k : Int)) (.int (j : Int)) = decide (k = j) := by
      simp [PyData.eqv]
      by_cases z : k = j
      · subst z; simp
      · rw [decide_eq_false z]; simp; omega
    rw [h1]
    simp
theorem eqv_dC (c d : List Nat) : PyData.eqv (dC c) (dC d) = decide (c = d) := by
  unfold dC
  have e : PyData.eqv (.tuple (c.map fun k : Nat => PyData.int (k : Int))) (.tuple (d.map fun k : Nat => PyData.int (k : Int))) = PyData.eqvAll (c.map fun k : Nat => PyData.int (k : Int)) (d.map fun k : Nat => PyData.int (k : Int)) := by
    simp [PyData.eqv]
  rw [e, eqv_dCA]
theorem any_dC (cs : List (List Nat)) (c : List Nat) : ((cs.map dC).any fun z => PyData.eqv z (dC c)) = decide (c ∈ cs) := by
  rw [List.any_map, Bool.eq_iff_iff, List.any_eq_true, decide_eq_true_iff]
  constructor
  · rintro ⟨d, hd, e⟩
    have e : PyData.eqv (dC d) (dC c) = true := e
    rw [eqv_dC] at e
    rw [← of_decide_eq_true e]
    exact hd
  · intro h
    refine ⟨c, h, ?_⟩
    show PyData.eqv (dC c) (dC c) = true
    rw [eqv_dC]
    exact decide_eq_true rfl
theorem paired_take' {α β : Type} {F : α → β → Prop} : ∀ (n : Nat) {xs : List α} {ys : List β}, Paired F xs ys → Paired F (xs.take n) (ys.take n)
  | 0, _, _, _ => .nil
  | _ + 1, _, _, .nil => .nil
  | n + 1, _, _, .cons r t => .cons r (paired_take' n t)
def spFarR (K : PySem.W.Frag) : Sp := fun vs H Q _ => ∃ (l : Addr) (as : List Addr) (cs : List (List Nat)) (t L n : Nat), vs = [.ref l, .int n] ∧ H l = some (.lst (as.map V.ref)) ∧ Cts H as cs ∧ cs.length = L + 1 ∧ L ≤ 100 ∧ t < L ∧ cs[L]? = cs[t]? ∧
  (∀ i j, i < j → j < L → cs[i]? ≠ cs[j]?) ∧ ∀ (a : Addr) (H' : Hp), as[rndAt t L n]? = some a → Same H H' → Q (.ref a) H'
section
variable {P : Program} {w : World} {K : PySem.W.Frag} {mg : Str → Option Value} {base : Heap}
theorem ok_lawfar {f : Addr} {fd : FuncData} {k : Nat} (F : Fun K "_law_far" "_law_far" s_law_far f fd) (ml : mg "len" = none) (mR : mg "range" = none) (mi : mg "int" = none) : FnOk P w K mg base CX0 (k + 1) f fd ["rows", "age"] (spFarR K) := by
  refine F.ok sc_law_far (fun vs H Q E h => ?_) (fun cdv A outer s H vs Q E hr h => ?_)
  · obtain ⟨l, as, cs, t, L, n, rfl, _⟩ := h
    rfl
  · obtain ⟨l, as, cs, t, L, n, rfl, hl, hC, hlen, hL, ht, hLt, hne, q⟩ := h
    have nd := sc_law_far.nd
    have hu65 : (A.deeper (envOfC "_law_far" (defScope s_law_far) s.heap.objs.size f cdv)).units + 65 < cLine := by have := hr.un; omega
    refine ⟨_, pss_cons (ps_setLc (i := 2) (own := [("k", 4)]) (g := gName 4) (tt := tTest (tOp (rInD K) (tOp (rIxL K) (tVar 0) (tVar 4)) (tSl (rSlLN K) (tVar 0) tNoPart (tPart (tVar 4))))) (te := tVar 4) rfl nd rfl rfl (sw_true rfl rfl rfl (by decide +kernel)) (pi_range2 rfl mR (pa_cons pe_int (pa_cons (plen ml (pv 0)) pa_nil))) (blkOk_by (N := n_law_far) (sc := defScope s_law_far) (by decide +kernel))
        (fun _ _ _ _ _ => pg_name (i := 4) nd rfl (Or.inl rfl)) (fun _ _ _ _ _ => pts_one (pt_cmpR (op_inD hu65) (pix (pv 0) (pv 4)) (pe_slice sl_listN (pv 0) po_none (po_some (pv 4))) (by rfl))) (fun _ _ _ _ _ => pv 4))
      (pss_cons (ps_set (i := 3) nd rfl (.inl rfl) (pe_bm PySem.F.plainAttrs_list PySem.F.slot_list_index PySem.F.type_list_index (mt_indexD hu65) (pv 0) (pa_cons (pix (pv 0) (pix (pv 2) pe_int)) pa_nil)))
      (pss_one (ps_ret (pe_ifExp (pt_cmpR op_lt (pv 1) (pv 3) (nomark _)) (pix (pv 0) (pv 1)) (pix (pv 0) (padd (pv 3) (pmod (pint mi (psub (pv 1) (pv 3))) (psub (pix (pv 2) pe_int) (pv 3))))))))), ?_⟩
    have lC := hC.length
    have lA : as.length = L + 1 := by omega
    have cget : ∀ {i : Nat}, i < L + 1 → ∃ a c, as[i]? = some a ∧ cs[i]? = some c ∧ H a = some (.tup (iV c)) := fun {i} hi => by
      have hc := List.getElem?_eq_getElem (show i < cs.length by omega)
      obtain ⟨a, ea, ha⟩ := paired_get hC hc
      exact ⟨a, _, ea, hc, ha⟩
    have inb : ∀ {i : Nat} {c : List Nat}, i < L + 1 → cs[i]? = some c → decide (c ∈ cs.take i) = decide (i = L) := fun {i c} hi hc => by
      by_cases z : i = L
      · subst z
        rw [decide_eq_true rfl, decide_eq_true_iff]
        rw [hLt] at hc
        exact List.mem_of_getElem? (show (cs.take i)[t]? = some c by rw [List.getElem?_take, if_pos ht]; exact hc)
      · rw [decide_eq_false z, decide_eq_false_iff_not]
        intro hm
        obtain ⟨j, hj⟩ := List.mem_iff_getElem?.mp hm
        have hjl : j < i := by
          have := (List.getElem?_eq_some_iff.mp hj).1
          rw [List.length_take] at this
          omega
        rw [List.getElem?_take, if_pos hjl] at hj
        exact hne j i hjl (by omega) (hj.trans hc.symm)
    refine ⟨_, rfl, l, _, rfl, .inl (SqL.of hl), ?_⟩
    rw [List.length_map, lA]
    refine ⟨1, _, rfl, ⟨by omega, by omega, by omega, by omega⟩, fun D nD => ?_⟩
    rw [show (((L + 1 : Nat) : Int) - 1).toNat = L by omega]
    refine lc_range (lo := 1) (n := L) (fun i H' => Same H H' ∧ H' D = some (.lst (if i = L then [V.int (L : Int)] else []))) ⟨same_upd nD, by rw [upd_same, if_neg (by omega)]⟩ ?_ ?_
    · rintro i H1 hi ⟨S1, hD⟩
      rw [if_neg (by omega)] at hD
      have e1 : (1 : Int) + (i : Int) = ((i + 1 : Nat) : Int) := by omega
      obtain ⟨a, c, ea, ec, ha⟩ := cget (i := i + 1) (by omega)
      refine ⟨rfl, _, rfl, _, rfl, l, _, _, .ref a, rfl, rfl, SqL.of (S1 _ _ hl), by rw [e1]; exact atI_nat (by rw [List.getElem?_map, ea]; rfl), ?_⟩
      refine ⟨_, rfl, _, rfl, _, rfl, l, _, rfl, SqL.of (S1 _ _ hl), fun H2 p S2 n2 h2 => ?_⟩
      rw [e1, cut_to] at h2
      have S02 := S1.trans S2
      have hC2 : Cts H2 (as.take (i + 1)) (cs.take (i + 1)) := paired_take' (i + 1) (hC.same S02)
      have h2' : H2 p = some (.lst ((as.take (i + 1)).map V.ref)) := by rw [h2, List.map_take]
      refine ⟨dC c, (cs.take (i + 1)).map dC, .tup (SqT.of (S02 _ _ ha)) (dp_iv c), .lst (SqL.of h2') (dp_cts hC2), sh_dC c, sh_dCs _, _, rfl, ?_⟩
      rw [any_dC, inb (by omega) ec]
      by_cases z : i + 1 = L
      · rw [decide_eq_true z]
        refine iteT ⟨_, rfl, [], S2 _ _ hD, ?_, sPut S02 nD, ?_⟩
        · rw [sizeLine_eq]; decide
        · rw [upd_same, if_pos z, e1, z]; rfl
      · rw [decide_eq_false z]
        refine iteF ⟨S02, ?_⟩
        rw [if_neg z]
        exact S2 _ _ hD
    rintro H1 ⟨S1, hD⟩
    rw [if_pos rfl] at hD
    obtain ⟨aL, cL, eaL, ecL, haL⟩ := cget (i := L) (by omega)
    have hl1 := S1 _ _ hl
    have hC1 := hC.same S1
    refine ⟨_, rfl, .inl ⟨rfl, _, SqL.of hl1⟩, _, rfl, _, rfl, D, _, 0, _, rfl, rfl, SqL.of hD, at0, l, _, _, .ref aL, rfl, rfl, SqL.of hl1, atI_nat (by rw [List.getElem?_map, eaL]; rfl), ?_⟩
    have dget : ∀ {m : Nat} {z : PyData}, (cs.map dC)[m]? = some z → ∃ c, cs[m]? = some c ∧ z = dC c := fun {m z} h => by
      rw [List.getElem?_map] at h
      cases e : cs[m]? with
      | none => rw [e] at h; cases h
      | some c => rw [e] at h; exact ⟨c, rfl, (Option.some.inj h).symm⟩
    refine ⟨l, .ref aL, dC cL, cs.map dC, t, dC cL, rfl, rfl, .lst (SqL.of hl1) (dp_cts hC1), .tup (SqT.of (S1 _ _ haL)) (dp_iv cL), sh_dCs _, sh_dC _, ?_, ?_, fun m z hm hz => ?_, ?_⟩
    · rw [List.getElem?_map, ← hLt, ecL]; rfl
    · rw [eqv_dC]; exact decide_eq_true rfl
    · obtain ⟨c, hc, rfl⟩ := dget hz
      rw [eqv_dC]
      refine decide_eq_false fun y => ?_
      subst y
      exact hne m t hm ht (hc.trans (ecL.symm.trans hLt))
    refine ⟨_, rfl, _, rfl, _, _, rfl, rfl, _, rfl, ?_⟩
    have fin : ∀ j, rndAt t L n = j → ∃ a, as[j]? = some a ∧ atI (as.map V.ref) (j : Int) = some (V.ref a) ∧ Q (.ref a) H1 := fun j hj => by
      have lt : j < L + 1 := by
        subst hj
        unfold rndAt
        by_cases z : n < t
        · rw [if_pos z]; omega
        · rw [if_neg z]
          have := Nat.mod_lt (n - t) (show 0 < L - t by omega)
          omega
      obtain ⟨a, c, ea, _, _⟩ := cget lt
      exact ⟨a, ea, atI_nat (by rw [List.getElem?_map, ea]; rfl), q a H1 (by rw [hj]; exact ea) S1⟩
    by_cases z : n < t
    · obtain ⟨a, ea, ha, qa⟩ := fin n (by unfold rndAt; rw [if_pos z])
      rw [decide_eq_true (show (n : Int) < ((t : Nat) : Int) by omega)]
      exact iteT ⟨_, rfl, _, rfl, l, _, _, _, rfl, rfl, SqL.of hl1, ha, qa⟩
    · obtain ⟨a, ea, ha, qa⟩ := fin (t + (n - t) % (L - t)) (by unfold rndAt; rw [if_neg z])
      rw [decide_eq_false (show ¬ (n : Int) < ((t : Nat) : Int) by omega)]
      have em : (t : Int) + ((n : Int) - (t : Int)) % ((L : Int) - (t : Int)) = ((t + (n - t) % (L - t) : Nat) : Int) := by
        rw [show (n : Int) - (t : Int) = ((n - t : Nat) : Int) by omega, show (L : Int) - (t : Int) = ((L - t : Nat) : Int) by omega]
        omega
      refine iteF ⟨_, rfl, _, rfl, _, rfl, _, rfl, _, _, rfl, rfl, .inl ⟨_, rfl, _, rfl, D, _, 0, _, rfl, rfl, SqL.of hD, at0, _, rfl, _, _, rfl, rfl, _, _, rfl, rfl, ?_, _, _, rfl, rfl, l, _, _, _, rfl, rfl, SqL.of hl1, ?_, qa⟩⟩
      · show (0 : Int) < (L : Int) - (t : Int)
        omega
      · rw [em]; exact ha
end
end SK
namespace SK
open PySem PySem.Spec PyProof.Rows L2
/-- the known books -/
def kitL : List (List (List Sy) × List Sy) := [([[.l 0, .p, .l 1, .m], [.p, .l 0, .m, .l 1]], [.l 0]), ([[.l 0, .p, .l 0, .m, .l 0, .m, .l 0, .p, .l 0]], [.l 0]), ([[.l 0, .p, .l 0, .m]], [.l 0]), ([[.l 0, .p, .l 1, .m], [.p, .l 0, .m, .l 1]], [.l 1, .p, .l 0]), ([[.l 0, .p, .l 0, .m, .l 0, .m, .l 0, .p, .l 0]], [.l 0, .m, .l 0]), ([[.l 0, .p, .l 0, .m, .m, .l 0, .p, .l 0, .l 0]], [.l 0])]
def spKitL (K : PySem.W.Frag) : Sp := fun vs H Q _ => ∃ (r : Addr) (S : Scr), vs = [.ref r] ∧ RowOk K S H r ∧
  ∀ (H' : Hp) (p : Addr) (ws : List (List Sy)) (st : List Sy), Drawn K S r H H' → BookAt H' p ws st → GoodBook ws st → (ws, st) ∈ kitL → Q (.ref p) H'
section
variable {P : Program} {w : World} {K : PySem.W.Frag} {mg : Str → Option Value} {base : Heap}
theorem ok_kitL {f : Addr} {fd : FuncData} {k : Nat} (F : Fun K "_law_kit" "_law_kit" s_law_kit f fd) (GP : Got P w K mg base "_law_pick" k ["row", "things"] (spPick K)) : FnOk P w K mg base CX0 (k + 1) f fd ["row"] (spKitL K) := by
  refine F.ok sc_law_kit (fun vs H Q E h => ?_) (fun cdv A outer s H vs Q E hr h => ?_)
  · obtain ⟨r, S, rfl, _⟩ := h
    rfl
  · obtain ⟨r, S, rfl, hR, q⟩ := h
    have nd := sc_law_kit.nd
    refine ⟨_, pss_cons (ps_set (i := 1) nd rfl (.inl rfl) (ptupN (pa_cons (pwd (wd_l (k := 0) (wd_s (sy := .p) rfl (wd_l (k := 1) (wd_s (sy := .m) rfl wd_nil)))) (by decide)) (pa_cons (pwd (wd_s (sy := .p) rfl (wd_l (k := 0) (wd_s (sy := .m) rfl (wd_l (k := 1) wd_nil)))) (by decide)) pa_nil))))
      (pss_cons (ps_set (i := 2) nd rfl (.inl rfl) (ptupN (pa_cons (pwd (wd_l (k := 0) (wd_s (sy := .p) rfl (wd_l (k := 0) (wd_s (sy := .m) rfl (wd_l (k := 0) (wd_s (sy := .m) rfl (wd_l (k := 0) (wd_s (sy := .p) rfl (wd_l (k := 0) wd_nil))))))))) (by decide)) pa_nil)))
      (pss_cons (ps_asg (ptupN (pa_cons (ptupN (pa_cons (pwd (wd_l (k := 0) (wd_s (sy := .p) rfl (wd_l (k := 0) (wd_s (sy := .m) rfl wd_nil)))) (by decide)) pa_nil)) (pa_cons (ptupN (pa_cons (pwd (wd_l (k := 0) (wd_s (sy := .p) rfl (wd_l (k := 0) (wd_s (sy := .m) rfl (wd_s (sy := .m) rfl (wd_l (k := 0) (wd_s (sy := .p) rfl (wd_l (k := 0) (wd_l (k := 0) wd_nil))))))))) (by decide)) pa_nil)) pa_nil))) (pg_tup (by rfl) (pgs_cons (pg_name (i := 3) nd rfl (.inl rfl)) (pgs_cons (pg_name (i := 4) nd rfl (.inl rfl)) pgs_nil))))
      (pss_one (ps_ret (pcall GP hr (pa_cons (pv 0) (pa_cons (plstN (pa_cons (ptupN (pa_cons (pv 1) (pa_cons (pwd (wd_l (k := 0) wd_nil) (by decide)) pa_nil))) (pa_cons (ptupN (pa_cons (pv 2) (pa_cons (pwd (wd_l (k := 0) wd_nil) (by decide)) pa_nil))) (pa_cons (ptupN (pa_cons (pv 3) (pa_cons (pwd (wd_l (k := 0) wd_nil) (by decide)) pa_nil))) (pa_cons (ptupN (pa_cons (pv 1) (pa_cons (pwd (wd_l (k := 1) (wd_s (sy := .p) rfl (wd_l (k := 0) wd_nil))) (by decide)) pa_nil))) (pa_cons (ptupN (pa_cons (pv 2) (pa_cons (pwd (wd_l (k := 0) (wd_s (sy := .m) rfl (wd_l (k := 0) wd_nil))) (by decide)) pa_nil))) (pa_cons (ptupN (pa_cons (pv 4) (pa_cons (pwd (wd_l (k := 0) wd_nil) (by decide)) pa_nil))) pa_nil))))))) pa_nil))))))), ?_⟩
    refine fun H1 a1 s1 n1 h1 => ?_
    refine fun H2 a2 s2 n2 h2 => ?_
    refine ⟨szl 2, fun H3 a3 s3 n3 h3 => ?_⟩
    refine fun H4 a4 s4 n4 h4 => ?_
    refine ⟨szl 1, fun H5 a5 s5 n5 h5 => ?_⟩
    refine fun H6 a6 s6 n6 h6 => ?_
    refine ⟨szl 1, fun H7 a7 s7 n7 h7 => ?_⟩
    refine fun H8 a8 s8 n8 h8 => ?_
    refine ⟨szl 1, fun H9 a9 s9 n9 h9 => ?_⟩
    refine ⟨szl 2, fun H10 a10 s10 n10 h10 => ?_⟩
    refine ⟨a10, _, rfl, SqT.of h10, rfl, _, _, rfl, _, _, rfl, rfl, ?_⟩
    refine ⟨_, rfl, ?_⟩
    refine ⟨_, rfl, ?_⟩
    refine fun H11 a11 s11 n11 h11 => ?_
    refine ⟨szl 2, fun H12 a12 s12 n12 h12 => ?_⟩
    refine ⟨_, rfl, ?_⟩
    refine fun H13 a13 s13 n13 h13 => ?_
    refine ⟨szl 2, fun H14 a14 s14 n14 h14 => ?_⟩
    refine ⟨_, rfl, ?_⟩
    refine fun H15 a15 s15 n15 h15 => ?_
    refine ⟨szl 2, fun H16 a16 s16 n16 h16 => ?_⟩
    refine ⟨_, rfl, ?_⟩
    refine fun H17 a17 s17 n17 h17 => ?_
    refine ⟨szl 2, fun H18 a18 s18 n18 h18 => ?_⟩
    refine ⟨_, rfl, ?_⟩
    refine fun H19 a19 s19 n19 h19 => ?_
    refine ⟨szl 2, fun H20 a20 s20 n20 h20 => ?_⟩
    refine ⟨_, rfl, ?_⟩
    refine fun H21 a21 s21 n21 h21 => ?_
    refine ⟨szl 2, fun H22 a22 s22 n22 h22 => ?_⟩
    refine ⟨szl 6, fun H23 a23 s23 n23 h23 => ?_⟩
    have t23 : Same H23 H23 := Same.refl _
    have t22 : Same H22 H23 := s23.trans t23
    have t21 : Same H21 H23 := s22.trans t22
    have t20 : Same H20 H23 := s21.trans t21
    have t19 : Same H19 H23 := s20.trans t20
    have t18 : Same H18 H23 := s19.trans t19
    have t17 : Same H17 H23 := s18.trans t18
    have t16 : Same H16 H23 := s17.trans t17
    have t15 : Same H15 H23 := s16.trans t16
    have t14 : Same H14 H23 := s15.trans t15
    have t13 : Same H13 H23 := s14.trans t14
    have t12 : Same H12 H23 := s13.trans t13
    have t11 : Same H11 H23 := s12.trans t12
    have t10 : Same H10 H23 := s11.trans t11
    have t9 : Same H9 H23 := s10.trans t10
    have t8 : Same H8 H23 := s9.trans t9
    have t7 : Same H7 H23 := s8.trans t8
    have t6 : Same H6 H23 := s7.trans t7
    have t5 : Same H5 H23 := s6.trans t6
    have t4 : Same H4 H23 := s5.trans t5
    have t3 : Same H3 H23 := s4.trans t4
    have t2 : Same H2 H23 := s3.trans t3
    have t1 : Same H1 H23 := s2.trans t2
    have t0 : Same H H23 := s1.trans t1
    have hR' := hR.same t0
    have u := (((((((((((((((((((((s1.trans s2).trans s3).trans s4).trans s5).trans s6).trans s7).trans s8).trans s9).trans s10).trans s11).trans s12).trans s13).trans s14).trans s15).trans s16).trans s17).trans s18).trans s19).trans s20).trans s21).trans s22)
    refine ⟨r, a23, S, _, rfl, hR', (hR.same u).there n23, h23, (show 1 ≤ 6 by decide), (show 6 < 1073741824 by decide), fun H' kk v D hk => ?_⟩
    have tt := D.tups hR'
    match kk, hk with
    | 0, hk =>
      cases hk
      exact q H' a12 [[.l 0, .p, .l 1, .m], [.p, .l 0, .m, .l 1]] [.l 0] (((Drawn.refl hR).then t0).trans D) ⟨a3, a11, [a1, a2], tt.1 _ _ (t12 _ _ h12), tt.1 _ _ (t3 _ _ h3), tt.wd (h11.same t11), (.cons (tt.wd (h1.same t1)) (.cons (tt.wd (h2.same t2)) .nil))⟩ ⟨by decide, by decide, words_dec (by decide), good_dec (by decide)⟩ (.head _)
    | 1, hk =>
      cases hk
      exact q H' a14 [[.l 0, .p, .l 0, .m, .l 0, .m, .l 0, .p, .l 0]] [.l 0] (((Drawn.refl hR).then t0).trans D) ⟨a5, a13, [a4], tt.1 _ _ (t14 _ _ h14), tt.1 _ _ (t5 _ _ h5), tt.wd (h13.same t13), (.cons (tt.wd (h4.same t4)) .nil)⟩ ⟨by decide, by decide, words_dec (by decide), good_dec (by decide)⟩ (.tail _ (.head _))
    | 2, hk =>
      cases hk
      exact q H' a16 [[.l 0, .p, .l 0, .m]] [.l 0] (((Drawn.refl hR).then t0).trans D) ⟨a7, a15, [a6], tt.1 _ _ (t16 _ _ h16), tt.1 _ _ (t7 _ _ h7), tt.wd (h15.same t15), (.cons (tt.wd (h6.same t6)) .nil)⟩ ⟨by decide, by decide, words_dec (by decide), good_dec (by decide)⟩ (.tail _ (.tail _ (.head _)))
    | 3, hk =>
      cases hk
      exact q H' a18 [[.l 0, .p, .l 1, .m], [.p, .l 0, .m, .l 1]] [.l 1, .p, .l 0] (((Drawn.refl hR).then t0).trans D) ⟨a3, a17, [a1, a2], tt.1 _ _ (t18 _ _ h18), tt.1 _ _ (t3 _ _ h3), tt.wd (h17.same t17), (.cons (tt.wd (h1.same t1)) (.cons (tt.wd (h2.same t2)) .nil))⟩ ⟨by decide, by decide, words_dec (by decide), good_dec (by decide)⟩ (.tail _ (.tail _ (.tail _ (.head _))))
    | 4, hk =>
      cases hk
      exact q H' a20 [[.l 0, .p, .l 0, .m, .l 0, .m, .l 0, .p, .l 0]] [.l 0, .m, .l 0] (((Drawn.refl hR).then t0).trans D) ⟨a5, a19, [a4], tt.1 _ _ (t20 _ _ h20), tt.1 _ _ (t5 _ _ h5), tt.wd (h19.same t19), (.cons (tt.wd (h4.same t4)) .nil)⟩ ⟨by decide, by decide, words_dec (by decide), good_dec (by decide)⟩ (.tail _ (.tail _ (.tail _ (.tail _ (.head _)))))
    | 5, hk =>
      cases hk
      exact q H' a22 [[.l 0, .p, .l 0, .m, .m, .l 0, .p, .l 0, .l 0]] [.l 0] (((Drawn.refl hR).then t0).trans D) ⟨a9, a21, [a8], tt.1 _ _ (t22 _ _ h22), tt.1 _ _ (t9 _ _ h9), tt.wd (h21.same t21), (.cons (tt.wd (h8.same t8)) .nil)⟩ ⟨by decide, by decide, words_dec (by decide), good_dec (by decide)⟩ (.tail _ (.tail _ (.tail _ (.tail _ (.tail _ (.head _))))))
    | j + 6, hk => simp at hk
theorem ok_kit {f : Addr} {fd : FuncData} {k : Nat} (F : Fun K "_law_kit" "_law_kit" s_law_kit f fd) (GP : Got P w K mg base "_law_pick" k ["row", "things"] (spPick K)) : FnOk P w K mg base CX0 (k + 1) f fd ["row"] (spBook K) :=
  (ok_kitL F GP).imp fun vs H Q E ⟨r, S, e, hR, q⟩ => ⟨r, S, e, hR, fun H' p ws st D B g _ => q H' p ws st D B g⟩
end
end SK
namespace SK
open PySem PySem.Spec PyProof.Rows L2
section
variable {P : Program} {w : World} {K : PySem.W.Frag} {mg : Str → Option Value} {base : Heap}
theorem ok_endat {f : Addr} {fd : FuncData} {k : Nat} {pd : Addr} (F : Fun K "end_at" "end_at" s_end_at f fd) (GB : GotD P w K mg base "check_book_and_age" k ["book", "age", "most"] [.int 1000] spCheckBA) (GC : Got P w K mg base "coming_letters" k ["words", "parts"] (spComing K))
    (GA : Got P w K mg base "ends_by_age" k ["words", "letters", "age"] (spEByAge K)) (GL : GotD P w K mg base "lay" k ["word", "ends", "pen"] [.ref pd] (spLay K)) (hPd : ModT K pd (plV (0, 0, 0))) : FnOk P w K mg base CX0 (k + 1) f fd ["book", "age"] spEndAt := by
  refine F.ok sc_end_at (fun vs H Q E h => ?_) (fun cdv A outer s H vs Q E hr h => ?_)
  · obtain ⟨b, n, ws, st, rfl, _⟩ := h
    rfl
  · obtain ⟨b, n, ws, st, rfl, hb, hg, hn, q⟩ := h
    have nd := sc_end_at.nd
    refine ⟨_, pss_cons (ps_expr (pcallD GB hr (pa_cons (pv 0) (pa_cons (pv 1) pa_nil))))
      (pss_cons (ps_asg (pv 0) (pg_tup (by rfl) (pgs_cons (pg_name (i := 2) nd rfl (.inl rfl)) (pgs_cons (pg_name (i := 3) nd rfl (.inl rfl)) pgs_nil))))
      (pss_cons (ps_set (i := 4) nd rfl (.inl rfl) (pcall GA hr (pa_cons (pv 2) (pa_cons (pcall GC hr (pa_cons (pv 2) (pa_cons (pv 3) pa_nil))) (pa_cons (pv 1) pa_nil)))))
      (pss_one (ps_ret (pixT (pcallD GL hr (pa_cons (pv 3) (pa_cons (pix (pv 4) (pv 1)) pa_nil))) pe_int))))), ?_⟩
    obtain ⟨p, pq, as, h1, h2, h3, h4⟩ := id hb
    have hf := hg.few
    refine ⟨_, rfl, _, rfl, b, n, 1000, ws, st, rfl, hb, hg, hn, fun H1 S1 => ?_⟩
    refine ⟨_, rfl, b, _, rfl, SqT.of (S1 _ _ h1), rfl, _, _, rfl, _, _, rfl, rfl, ?_⟩
    refine ⟨_, rfl, _, rfl, _, rfl, p, pq, as, ws, st, rfl, S1 _ _ h2, h4.keep (.of S1), .inr (h3.same S1).sq, by omega, hg.words, hg.start.lets, fun H2 l cl S2 n2 hl hc nd2 _ l8 => ?_⟩
    have S02 := S1.trans S2
    have C := closed_comes hg.words hg.start.lets hc l8
    refine ⟨_, rfl, p, l, n, as, ws, cl, rfl, S02 _ _ h2, h4.keep (.of S02), hl, hg.words, C, hn, fun H3 ro rs S3 n3 hro hP => ?_⟩
    have S03 := S02.trans S3
    obtain ⟨d, kvs, e1, e2, e3⟩ := hP.2 n (Nat.le_refl _)
    have sl := hg.start.len
    have sn : nest st 0 ≠ none := by rw [hg.start.nst]; exact (fun z => nomatch z)
    refine ⟨_, rfl, _, rfl, _, rfl, ro, _, _, .ref d, rfl, rfl, SqL.of hro, atI_nat (by rw [List.getElem?_map, e1]; rfl), pq, d, pd, st, kvs, Eg ws n, (0, 0, 0), rfl, h3.same S03, e2, fun k hk => e3 k ((hc k).mpr ⟨0, hk⟩), hPd.sq, by decide, by decide, sn, by omega, fun H4 t la e asL S4 n4 h4t n5 hla hA he => ?_⟩
    refine ⟨t, _, _, .ref e, rfl, rfl, SqT.of h4t, at1, q H4 e (S03.trans S4) ?_⟩
    rw [← far_end hg n]
    exact he
end
end SK
namespace SK
open PySem PySem.Spec PyProof.Rows L2
/-! a tuple times one is the tuple -/
theorem tuple_mul1 (l : Addr) (items : Array Value) (n : Nat) (dd : Option Addr) (sl : Array (Option Value)) (u : Tok) :
    Meets (Builtin.«tuple.__mul__» ⟨[.ref l, .int 1 u], []⟩) (fun _ R s => s.heap.get? l = some { cls := .type "tuple", dict := dd, data := .seq items n, slots := sl } ∧ R (.ok (.ret (.ref l))) s) :=
  .of_wp fun prog w A R s h => by
    obtain ⟨hp, g, d, tk, os⟩ := s
    obtain ⟨hl, h⟩ := h
    have f1 := AutoSeq1.idx_int
    wp_walk using wpAny_loadPart' hl
    repeat (first
      | (refine wpAny_ite_false (by decide) ?_; wp_walk using wpAny_loadPart' hl)
      | (refine wpAny_ite_true (by simp) ?_; wp_walk using wpAny_loadPart' hl))
    exact ⟨_, rfl, h⟩
def rRep1 (K : PySem.W.Frag) : R2 := fun x y H Q => ∃ l xs, x = .ref l ∧ y = .int 1 ∧ SqT K H l xs ∧ xs ≠ [] ∧ Q (.ref l) H
def rRepA (K : PySem.W.Frag) : R2 := fun x y H Q => rRepT K x y H Q ∨ rRep1 K x y H Q
theorem op_rep1 {X : Cx} : OpR X (binaryOp .Mult) (rRep1 X.K) := by
  intro pins s σ H x y v u Q I rx ry h
  obtain ⟨l, xs, rfl, rfl, hT, hne, q⟩ := h
  cases rx
  obtain ⟨t, rfl⟩ := ry
  obtain ⟨its, r, ⟨⟨cls, dd, data, sl⟩, ho, hc, n, hd⟩, hs⟩ := I.tuple hT
  simp only at hc hd
  subst hc hd
  refine wpAny_binaryOp_repeat_ref (T := "tuple") (U := "int") (by decide) ⟨_, ho, rfl⟩ (fun s' => typeIs_int s' 1 t) noFill_tuple_mul F.fills_int_mul F.slot_int_rmul repeat_tuple F.slot_int_index.lookup
    (call_meets F.slot_int_rmul (typeIs_int s 1 t) F.entry_int_rmul (F.args_int_rmul_2 _ _) (int_rmul_tuple 1 t l its.toArray n dd sl)
      ⟨ho, rfl, ⟨_, ho, rfl⟩, call_meets F.slot_tuple_mul ⟨_, ho, rfl⟩ F.entry_tuple_mul (F.args_tuple_mul_2 _ _) (tuple_mul1 l its.toArray n dd sl t) ⟨ho, ?_⟩⟩)
  exact ⟨.ref l, H, I, rfl, q⟩
theorem op_repA {X : Cx} : OpR X (binaryOp .Mult) (rRepA X.K) := by
  intro pins s σ H x y v u Q I rx ry h
  rcases h with h | h
  · exact op_repT pins s σ H x y v u Q I rx ry h
  · exact op_rep1 pins s σ H x y v u Q I rx ry h
end SK
namespace SK
open PySem PySem.Spec PyProof.Rows L2
def spLaw (K : PySem.W.Frag) : Sp := fun vs H Q _ => ∃ (a : Addr) (ns : List Int), vs = [.ref a] ∧ SqL K H a (ns.map V.int) ∧ ns.length ≤ 63 ∧ ∀ H', Q (.bl true) H'
structure LawG12 (P : Program) (w : World) (K : PySem.W.Frag) (mg : Str → Option Value) (base : Heap) (CN : Addr) (k : Nat) : Prop where
  pick : Got P w K mg base "_law_pick" k ["row", "things"] (spPick K)
  book : Got P w K mg base "_law_book" k ["row"] (spBook K)
  kit : Got P w K mg base "_law_kit" k ["row"] (spBook K)
  even : Got P w K mg base "_law_even_book" k ["row"] (spEvenBook K)
  taken : Got P w K mg base "_law_taken" k ["row", "many"] (spTaken K)
  alike : Got P w K mg base "_law_alike" k ["found", "due"] (spAlike 2)
  far : Got P w K mg base "_law_far" k ["rows", "age"] (spFarR K)
  sin : Got P w K mg base "strokes_in" k ["book", "age"] spStrokesIn
  eat : Got P w K mg base "end_at" k ["book", "age"] spEndAt
  std : Got P w K mg base "is_steady" k ["book"] spSteady
  smod : Got P w K mg base "strokes_modulo" k ["book", "age", "modulus"] spSMod
  emod : GotX P w K mg base "end_modulo" k ["book", "age", "modulus"] (spEMod CN)
  ml : mg "len" = none
  mT : mg "tuple" = none
  mI : mg "isinstance" = none
  mi : mg "int" = none
  mSt : mg "str" = none
  mU : mg "sum" = none
structure D12 (K : PySem.W.Frag) (S : Scr) (r b : Addr) (ws : List (List Sy)) (st : List Sy) (H : Hp) : Prop where
  row : RowOk K S H r
  bk : BookAt H b ws st
  g : GoodBook ws st
theorem D12.same {K : PySem.W.Frag} {S : Scr} {r b : Addr} {ws : List (List Sy)} {st : List Sy} {H H' : Hp} (h : D12 K S r b ws st H) (s : Same H H') : D12 K S r b ws st H' := ⟨h.row.same s, h.bk.keep (.of s), h.g⟩
theorem D12.drawn {K : PySem.W.Frag} {S : Scr} {r b : Addr} {ws : List (List Sy)} {st : List Sy} {H H' : Hp} (h : D12 K S r b ws st H) (d : Drawn K S r H H') : D12 K S r b ws st H' := ⟨d.row, h.bk.keep (d.tups h.row), h.g⟩
def tR2 (K : PySem.W.Frag) : TS := fun D σ H => ∃ (a r b : Addr) (ns : List Int) (ws : List (List Sy)) (st : List Sy) (n m : Nat), σ = [some (.ref a), some (.ref r), some (.ref b), some (.int n), some (.int m), none, none, none, none, none, none, none, none, none, none, none, none, none] ∧
  D12 K (a, ns) r b ws st H ∧ n ≤ 1000 ∧ 2 ≤ m ∧ m ≤ e18 ∧ ∀ H', D.rt (.bl true) H'
def tR4 (K : PySem.W.Frag) : TS := fun D σ H => ∃ (a r b : Addr) (ns : List Int) (ws : List (List Sy)) (st : List Sy) (n m : Nat) (c : Bool), σ = [some (.ref a), some (.ref r), some (.ref b), some (.int n), some (.int m), some (.bl c), some .non, none, none, none, none, none, none, none, none, none, none, none] ∧
  D12 K (a, ns) r b ws st H ∧ n ≤ 1000 ∧ 2 ≤ m ∧ m ≤ e18 ∧ (c = true ↔ SteadyB ws st) ∧ ∀ H', D.rt (.bl true) H'
def tR5 (K : PySem.W.Frag) : TS := fun D σ H => ∃ (a r b : Addr) (ns : List Int) (ws : List (List Sy)) (st : List Sy) (n m : Nat) (c : Bool) (v : V), σ = [some (.ref a), some (.ref r), some (.ref b), some (.int n), some (.int m), some (.bl c), some v, none, none, none, none, none, none, none, none, none, none, none] ∧
  D12 K (a, ns) r b ws st H ∧ n ≤ 1000 ∧ 2 ≤ m ∧ (c = true → ∃ t, v = .ref t ∧ H t = some (.tup [.int ((pen (grown ws st n)).x % (m : Int)), .int ((pen (grown ws st n)).y % (m : Int))])) ∧ (c = false → v = .str "turns") ∧ ∀ H', D.rt (.bl true) H'
def tR7 (K : PySem.W.Frag) : TS := fun D σ H => ∃ (a r b : Addr) (ns : List Int) (ws : List (List Sy)) (st : List Sy) (y3 y4 y5 y6 y8 : Option V), σ = [some (.ref a), some (.ref r), some (.ref b), y3, y4, y5, y6, none, y8, none, none, none, none, none, none, none, none, none] ∧
  D12 K (a, ns) r b ws st H ∧ ∀ H', D.rt (.bl true) H'
end SK
namespace SK
open PySem PySem.Spec PyProof.Rows L2
section
variable {P : Program} {w : World} {K : PySem.W.Frag} {mg : Str → Option Value} {base : Heap}
theorem law12_a {f CN : Addr} {fd : FuncData} {k : Nat} (F : Fun K "law" "law" s_law f fd) (G : LawG12 P w K mg base CN k)
    (R : ∀ (cdv : Value) (A : Around) (outer : List Env) (s : Shared) (H : Hp) (E : XK), Room k (A.deeper (envOfC "law" (defScope s_law) s.heap.objs.size f cdv)) → PSs (cxOf CX0 P w K mg base n_law "law" (defScope s_law) f cdv A outer s H E).nox ((defBody s_law).drop 2) (tR2 K)) :
    FnOk P w K mg base CX0 (k + 1) f fd ["script"] (spLaw K) := by
  refine F.ok sc_law (fun vs H Q E h => ?_) (fun cdv A outer s H vs Q E hr h => ?_)
  · obtain ⟨a, ns, rfl, _⟩ := h
    rfl
  · obtain ⟨a, ns, rfl, ha, hns, q⟩ := h
    have nd := sc_law.nd
    obtain ⟨GP, GB, GK, GE, GT, GL, GF, GSi, GEa, GSd, GSm, GEm, ml, mT, mI, mi, mSt, mU⟩ := G
    refine ⟨_, pss_cons (ps_set (i := 1) nd rfl (.inl rfl) (plstK (pa_cons (pv 0) (pa_cons pe_int (pa_cons pe_int (pa_cons pe_int pa_nil))))))
      (pss_cons (ps_par3 (i := 2) (j := 3) (l := 4) rfl nd rfl rfl rfl (by decide) (by decide) (by decide) rfl rfl rfl (pa_cons (pcall GP hr (pa_cons (pv 1) (pa_cons (plstN (pa_cons (pcall GB hr (pa_cons (pv 1) pa_nil)) (pa_cons (pcall GK hr (pa_cons (pv 1) pa_nil)) (pa_cons (pixT (pcall GE hr (pa_cons (pv 1) pa_nil)) pe_int) pa_nil)))) pa_nil))) (pa_cons (pcall GT hr (pa_cons (pv 1) (pa_cons pe_int pa_nil))) (pa_cons (padd pe_int (pcall GT hr (pa_cons (pv 1) (pa_cons (pe_op op_shl pe_int pe_int) pa_nil)))) pa_nil))) (by rfl))
      (R cdv A outer s H E hr)), ?_⟩
    refine ⟨_, rfl, szl 4, fun H1 r S1 n1 k1 h1 => ?_⟩
    have nar : a ≠ r := by
      rcases ha with (e | ⟨o, e⟩) | ⟨o, its, n, e, _⟩
      · exact ne_of_none e n1
      · exact ne_of_none e n1
      · intro z; rw [z, show K.lookup r = none from k1] at e; cases e
    have hR1 : RowOk K (a, ns) H1 r := ⟨0, 11312, 0, h1, S1.seq ha, Int.le_refl _, nar, hns⟩
    refine ⟨_, rfl, _, rfl, r, (a, ns), rfl, hR1, fun H2 b1 ws1 st1 D1 B1 g1 => ⟨_, rfl, r, (a, ns), rfl, D1.row, fun H3 b2 ws2 st2 D2 B2 g2 => ⟨_, rfl, r, (a, ns), rfl, D2.row, fun H4 p3 b3 m3 ws3 st3 D3 h3 B3 g3 => ?_⟩⟩⟩
    refine ⟨p3, _, _, _, rfl, rfl, SqT.of h3, at0, szl 3, fun H5 q5 S5 n5 h5 => ?_⟩
    have hR5 := D3.row.same S5
    refine ⟨r, q5, (a, ns), _, rfl, hR5, D3.row.there n5, h5, by show 1 ≤ 3; decide, by show 3 < _; decide, fun H6 k6 v6 D6 hv6 => ?_⟩
    have T56 := D6.tups hR5
    have bk : ∃ b ws st, v6 = .ref b ∧ BookAt H6 b ws st ∧ GoodBook ws st := by
      have hm := List.mem_of_getElem? hv6
      simp only [List.mem_cons, List.not_mem_nil, or_false] at hm
      rcases hm with rfl | rfl | rfl
      · exact ⟨b1, ws1, st1, rfl, (((B1.keep (D2.tups D1.row)).keep (D3.tups D2.row)).keep (.of S5)).keep T56, g1⟩
      · exact ⟨b2, ws2, st2, rfl, ((B2.keep (D3.tups D2.row)).keep (.of S5)).keep T56, g2⟩
      · exact ⟨b3, ws3, st3, rfl, (B3.keep (.of S5)).keep T56, g3⟩
    obtain ⟨b, ws, st, rfl, B6, g⟩ := bk
    have d6 : D12 K (a, ns) r b ws st H6 := ⟨D6.row, B6, g⟩
    clear B1 B2 B3 g1 g2 g3 D1 D2 D3 D6 hR5 T56 hv6 h3 S5 n5 h5 hR1 h1 S1 n1 B6
    refine ⟨_, rfl, r, (a, ns), 200, rfl, d6.row, by decide, .inl (by decide), fun H7 n D7 hn => ?_⟩
    have d7 := d6.drawn D7
    refine ⟨_, rfl, _, _, rfl, rfl, ⟨by decide, by decide, by decide⟩, r, (a, ns), 576460752303423488, ?_, d7.row, by decide, .inr (by decide +kernel), fun H8 m D8 hm => ?_⟩
    · show [V.ref r, V.int (1 * 2 ^ (59 : Int).toNat)] = _
      rfl
    have d8 := d7.drawn D8
    refine ⟨_, _, rfl, rfl, _, _, _, rfl, ?_⟩
    have e2 : (2 : Int) + (m : Int) = ((2 + m : Nat) : Int) := by omega
    refine ⟨a, r, b, ns, ws, st, n, 2 + m, ?_, d8, by omega, by omega, ?_, q⟩
    · rw [← e2]; rfl
    · show 2 + m ≤ 1000000000000000000
      omega
end
end SK
namespace SK
open PySem PySem.Spec PyProof.Rows L2
/-- the try's body -/
def tEm (CN : Addr) (W : WX) : TS := tAsg (tCallS (spEMod CN) (WE W) (tCons (tVar 2) (tCons (tVar 3) (tCons (tVar 4) tNil)))) (gName 6)
/-- told = "turns" if isinstance(error, NotSteady) else "other" -/
def tSuiteEm (CN a : Addr) (cls : Value) (d : Option Addr) : TS := fun D σ H => σ[7]? = some (some (.ref a)) ∧ cls = .ref CN ∧ d = none ∧ D.nx (σ.set 6 (some (.str "turns"))) H
section
variable {P : Program} {w : World} {K : PySem.W.Frag} {mg : Str → Option Value} {base : Heap}
theorem law12_b {f CN : Addr} {cdv : Value} {k : Nat} (G : LawG12 P w K mg base CN k) {A : Around} {outer : List Env} {s : Shared} {H : Hp} {E : XK} (hr : Room k (A.deeper (envOfC "law" (defScope s_law) s.heap.objs.size f cdv)))
    (R : PSs (cxOf CX0 P w K mg base n_law "law" (defScope s_law) f cdv A outer s H E).nox ((defBody s_law).drop 4) (tR4 K)) :
    PSs (cxOf CX0 P w K mg base n_law "law" (defScope s_law) f cdv A outer s H E).nox ((defBody s_law).drop 2) (tR2 K) := by
  have nd := sc_law.nd
  obtain ⟨GP, GB, GK, GE, GT, GL, GF, GSi, GEa, GSd, GSm, GEm, ml, mT, mI, mi, mSt, mU⟩ := G
  refine pssimp _ (pss_cons (ps_if (pt_not (pt_val (pcall GL hr (pa_cons (pcall GSm hr (pa_cons (pv 2) (pa_cons (pv 3) (pa_cons (pv 4) pa_nil)))) (pa_cons (pmod (pcall GSi hr (pa_cons (pv 2) (pa_cons (pv 3) pa_nil))) (pv 4)) pa_nil))))) pss_never pss_nil)
    (pss_cons (ps_par rfl nd (i := 5) (j := 6) rfl rfl (by decide) rfl rfl (pa_cons (pcall GSd hr (pa_cons (pv 2) pa_nil)) (pa_cons pe_non pa_nil)) (by rfl))
    R)) ?_
  rintro D σ H0 ⟨a, r, b, ns, ws, st, n, m, rfl, d, hn, hm2, hm18, q⟩
  have few := d.g.few
  have h40 : n ≤ e40 := by show n ≤ 10000000000000000000000000000000000000000; omega
  refine ⟨_, rfl, _, rfl, _, rfl, b, n, m, ws, st, rfl, d.bk, d.g, by omega, h40, hm2, hm18, fun H1 S1 => ?_⟩
  refine ⟨_, rfl, _, rfl, b, n, ws, st, rfl, d.bk.keep (.of S1), d.g, hn, fun H2 S2 => ⟨_, rfl, _, _, rfl, rfl, ?_, _, _, rfl, .inl ⟨rfl, rfl⟩, fun H3 S3 => ⟨_, rfl, iteF ?_⟩⟩⟩
  · show (0 : Int) < (m : Int)
    omega
  have S03 := (S1.trans S2).trans S3
  refine ⟨_, rfl, b, ws, st, rfl, d.bk.keep (.of S03), d.g, fun H4 c S4 hc => ⟨_, _, rfl, ?_⟩⟩
  exact ⟨a, r, b, ns, ws, st, n, m, c, rfl, d.same (S03.trans S4), hn, hm2, hm18, hc, q⟩
theorem law12_c {f CN CS : Addr} {cdv : Value} {k : Nat} (EC : ExcC K CN) (gB : mg "NotSteady" = some (.ref CN)) (kiB : PySem.W.kitOne K (.ref CN) (.ref CN) = some true) (gS : mg "StrokeError" = some (.ref CS)) (te : PySem.W.exmOne K (.ref CN) (.ref CS) = some true)
    (G : LawG12 P w K mg base CN k) {A : Around} {outer : List Env} {s : Shared} {H : Hp} {E : XK} (hr : Room k (A.deeper (envOfC "law" (defScope s_law) s.heap.objs.size f cdv)))
    (R : PSs (cxOf CX0 P w K mg base n_law "law" (defScope s_law) f cdv A outer s H E).nox ((defBody s_law).drop 5) (tR5 K)) :
    PSs (cxOf CX0 P w K mg base n_law "law" (defScope s_law) f cdv A outer s H E).nox ((defBody s_law).drop 4) (tR4 K) := by
  have nd := sc_law.nd
  have GEm := G.emod
  have mI := G.mI
  refine pssimp _ (pss_cons (ps_try_as (i := 7) (tb := tEm CN) (ts := tSuiteEm CN) (Wout := fun _ _ _ _ => False) rfl rfl nd rfl rfl ⟨rfl, by decide, .inl gS⟩ takes0
        (fun W pn xe tk _ => pss_one (ps_set (i := 6) nd rfl (.inl rfl) (pcallX GEm hr tk (pa_cons (pv 2) (pa_cons (pv 3) (pa_cons (pv 4) pa_nil))))))
        (fun a oe cls d pn hz hf => pssimp _ (pss_one (ps_set (i := 6) nd rfl (.inl rfl) (pe_ifExp (pt_val (pe_callB (call_isN EC hz hf) (by rfl) mI (by decide +kernel) (pa_cons (pv 7) (pa_cons (pe_glob (v := .ref CN) rfl gB rfl) pa_nil)) (by decide) (by decide))) pe_str pe_str))) ?suite))
    R) ?_
  case suite =>
    rintro D σ H ⟨e7, rfl, rfl, q⟩
    exact ⟨_, e7, rfl, rfl, .ref CN, .ref CN, true, rfl, (fun u r => r), kiB, true, rfl, iteT q⟩
  rintro D σ H0 ⟨a, r, b, ns, ws, st, n, m, c, rfl, d, hn, hm2, hm18, hc, q⟩
  have few := d.g.few
  have h40 : n ≤ e40 := by show n ≤ 10000000000000000000000000000000000000000; omega
  refine ⟨_, rfl, _, rfl, _, rfl, b, n, m, ws, st, rfl, d.bk, d.g, by omega, h40, hm2, hm18, fun hS H1 t S1 n1 ht => ?_, fun hN H1 S1 => ⟨true, te, fun _ a' ha' => ⟨rfl, rfl, rfl, ?_⟩, fun z => Bool.noConfusion z⟩⟩
  · exact ⟨a, r, b, ns, ws, st, n, m, c, _, rfl, d.same S1, hn, hm2, fun _ => ⟨t, rfl, ht⟩, (fun z => by rw [hc.mpr hS] at z; cases z), q⟩
  · exact ⟨a, r, b, ns, ws, st, n, m, c, _, rfl, d.same S1, hn, hm2, fun z => absurd (hc.mp z) hN, fun _ => rfl, q⟩
theorem law12_d {f CN : Addr} {cdv : Value} {k : Nat} (G : LawG12 P w K mg base CN k) {A : Around} {outer : List Env} {s : Shared} {H : Hp} {E : XK} (hr : Room k (A.deeper (envOfC "law" (defScope s_law) s.heap.objs.size f cdv)))
    (R : PSs (cxOf CX0 P w K mg base n_law "law" (defScope s_law) f cdv A outer s H E).nox ((defBody s_law).drop 7) (tR7 K)) :
    PSs (cxOf CX0 P w K mg base n_law "law" (defScope s_law) f cdv A outer s H E).nox ((defBody s_law).drop 5) (tR5 K) := by
  have nd := sc_law.nd
  obtain ⟨GP, GB, GK, GE, GT, GL, GF, GSi, GEa, GSd, GSm, GEm, ml, mT, mI, mi, mSt, mU⟩ := G
  refine pssimp _ (pss_cons (ps_set (i := 8) nd rfl (.inl rfl) (pcall GEa hr (pa_cons (pv 2) (pa_cons (pv 3) pa_nil))))
    (pss_cons (ps_if (pt_not (pt_val (pcall GL hr (pa_cons (pv 6) (pa_cons (pe_ifExp (pt_val (pv 5)) (ptupN (pa_cons (pmod (pixT (pv 8) pe_int) (pv 4)) (pa_cons (pmod (pixT (pv 8) pe_int) (pv 4)) pa_nil))) pe_str) pa_nil))))) pss_never pss_nil)
    R)) ?_
  rintro D σ H0 ⟨a, r, b, ns, ws, st, n, m, c, v, rfl, d, hn, hm2, h1, h2, q⟩
  have hm0 : (0 : Int) < (m : Int) := by omega
  refine ⟨_, rfl, _, rfl, b, n, ws, st, rfl, d.bk, d.g, hn, fun H1 e S1 he => ?_⟩
  cases c with
  | true =>
    obtain ⟨t, rfl, ht⟩ := h1 rfl
    refine ⟨_, rfl, _, rfl, true, rfl, iteT ?_⟩
    refine ⟨_, rfl, e, _, _, _, rfl, rfl, SqT.of he, at0, _, rfl, _, _, rfl, rfl, hm0, _, rfl, e, _, _, _, rfl, rfl, SqT.of he, at1, _, rfl, _, _, rfl, rfl, hm0, szl 2, fun H2 t2 S2 n2 h2t => ?_⟩
    refine ⟨_, _, rfl, (Alk.flats (n := 0) (.inl (S2 _ _ (S1 _ _ ht))) (.inl h2t) (by show 2 ≤ _; decide) fun x hx => ?_).up, fun H3 S3 => ⟨_, rfl, iteF ?_⟩⟩
    · simp only [List.mem_cons, List.not_mem_nil, or_false] at hx
      rcases hx with rfl | rfl <;> rfl
    · exact ⟨a, r, b, ns, ws, st, _, _, _, _, _, rfl, d.same ((S1.trans S2).trans S3), q⟩
  | false =>
    rw [h2 rfl]
    refine ⟨_, rfl, _, rfl, false, rfl, iteF ⟨_, _, rfl, .inl ⟨rfl, rfl⟩, fun H3 S3 => ⟨_, rfl, iteF ?_⟩⟩⟩
    exact ⟨a, r, b, ns, ws, st, _, _, _, _, _, rfl, d.same (S1.trans S3), q⟩
end
end SK
namespace SK
open PySem PySem.Spec PyProof.Rows L2
def keyC (c : List Nat) : List Key := c.map fun k : Nat => Sum.inl (k : Int)
theorem keyC_V (c : List Nat) : (keyC c).map kV = iV c := by
  unfold keyC iV
  rw [List.map_map]
  rfl
theorem keyC_inj {c d : List Nat} (h : keyC c = keyC d) : c = d := by
  have e := congrArg (List.map fun k : Key => match k with | .inl i => i.toNat | .inr _ => 0) h
  unfold keyC at e
  rw [List.map_map, List.map_map] at e
  have z : ∀ c : List Nat, c.map ((fun k : Key => match k with | .inl i => i.toNat | .inr _ => 0) ∘ fun k : Nat => (Sum.inl (k : Int) : Key)) = c := fun c => by
    refine (List.map_congr_left (g := id) fun x _ => ?_).trans (List.map_id c)
    show (x : Int).toNat = x
    rfl
  rw [z, z] at e
  exact e
theorem TupS.dT {H : Hp} {D : Addr} {kvs : List (List Key × V)} {o : HO} (h : H D = some (.dT kvs)) : TupS H (upd H D o) := by
  refine ⟨fun b ys e => ?_, fun b ob u e => ?_⟩
  · rw [upd_ne (ne_of e h (by intro z; cases z))]
    exact e
  · rw [upd_ne (ne_of e h (by intro z; cases z))]
    exact e
theorem Cts.keep {H H' : Hp} {as : List Addr} {cs : List (List Nat)} (s : TupS H H') (h : Cts H as cs) : Cts H' as cs := Paired.mono (fun a w e => s.1 _ _ e) h
/-- [counts[item] for item in word if not isinstance(item, str)] -/
theorem cnt_lc {K : PySem.W.Frag} {σ : L2.St} {H : Hp} {a ca ci : Nat} {tl : TE} {wd : List Sy} {c : List Nat} {Q : VK} (ha : ∀ H', Same H H' → SqT K H' a (wv wd)) (hc : H ca = some (.tup (iV c))) (hs : σ[ci]? = some (some (.ref ca))) (hci : ci ≠ 16) (h16 : 16 < σ.length)
    (hl : ∀ j, Sy.l j ∈ wd → j < c.length) (wl : wd.length ≤ 1000000) (htl : ∀ R : VK, R (.ref a) H → tl σ H R) (q : ∀ (H' : Hp) (D : Addr), Same H H' → H' D = some (.lst ((vlist (fun j => c.getD j 0) wd).map V.int)) → Q (.ref D) H') :
    tLc (iTup K tl) (gName 16) (tNotStr K 16) (tOp (rIxT K) (tVar ci) (tVar 16)) [16] σ H Q := by
  unfold tLc
  refine htl _ ⟨a, rfl, ⟨_, ha H (Same.refl _)⟩, fun D nD => ?_⟩
  refine lc_tup (K := K) (a := a) (xs := wv wd) (fun i H' => Same H H' ∧ H' D = some (.lst ((vlist (fun j => c.getD j 0) (wd.take i)).map V.int))) ⟨same_upd nD, upd_same⟩ (fun i H' _ h => ha H' h.1) ?_ ?_
  · rintro i x H1 hx ⟨S1, hD⟩
    obtain ⟨s, hsy, rfl⟩ := wv_get hx
    have hi : i < wd.length := (List.getElem?_eq_some_iff.mp hsy).1
    obtain ⟨tn, tb, ht, hk, htb⟩ := ty_sy (K := K) (H := H1) s
    have s16 : ((wipe σ [16]).set 16 (some s.v))[16]? = some (some s.v) := by
      rw [List.getElem?_set_self]
      show 16 < (wipe σ [16]).length
      rw [wipe_length]; exact h16
    have sc : ((wipe σ [16]).set 16 (some s.v))[ci]? = some (some (.ref ca)) := by
      rw [List.getElem?_set_ne hci.symm]
      show (σ.set 16 none)[ci]? = _
      rw [List.getElem?_set_ne hci.symm]
      exact hs
    refine ⟨?_, _, s16, s.v, tn, tb, rfl, ht, hk, tb, rfl, ?_⟩
    · show (((σ.set 16 none).set 16 (some s.v)).set 16 none) = σ.set 16 none
      rw [List.set_set, List.set_set]
    subst htb
    rw [Bool.not_not]
    have e : vlist (fun j => c.getD j 0) (wd.take (i + 1)) = vlist (fun j => c.getD j 0) (wd.take i) ++ vlist (fun j => c.getD j 0) [s] := by rw [take_more hsy, vlist_app]
    have lv := vlist_len (fun j => c.getD j 0) (wd.take i)
    rw [List.length_take] at lv
    have none' : vlist (fun j => c.getD j 0) [s] = [] → Same H H1 ∧ H1 D = some (.lst ((vlist (fun j => c.getD j 0) (wd.take (i + 1))).map V.int)) := fun z => ⟨S1, by rw [hD, e, z, List.append_nil]⟩
    cases s with
    | l j =>
      have hj := hl j (List.mem_of_getElem? hsy)
      refine iteT ⟨_, sc, _, s16, ca, iV c, (j : Int), .int (c.getD j 0 : Nat), rfl, rfl, SqT.of (S1 _ _ hc), atI_nat ?_, _, hD, ?_, sPut S1 nD, ?_⟩
      · unfold iV
        rw [List.getElem?_map, List.getD_eq_getElem?_getD, List.getElem?_eq_getElem hj]
        rfl
      · rw [List.length_map, sizeLine_eq]; omega
      · rw [upd_same, e, List.map_append]; rfl
    | p => exact iteF (none' rfl)
    | m => exact iteF (none' rfl)
    | o => exact iteF (none' rfl)
    | c => exact iteF (none' rfl)
  · rintro H1 ⟨S1, hD⟩
    rw [List.length_map, List.take_length] at hD
    exact q H1 D S1 hD
def whBody : Stmt → List Stmt
  | .While _ b _ _ => b
  | _ => []
def valOf : Stmt → Expr
  | .Assign _ e _ => e
  | _ => .Name "x" ⟨0, 0, 0, 0⟩
def firstArg : Expr → Expr
  | .Call _ (a :: _) _ _ => a
  | e => e
def lcSc : Expr → Scope
  | .ListComp _ _ sc _ => sc
  | _ => defScope s_law
def whScope : Scope := lcSc (firstArg (valOf ((whBody ((defBody s_law).getD 9 s_law)).getD 2 s_law)))
/-- what the loop has come to -/
structure Rnd (H : Hp) (ws : List (List Sy)) (sm i : Nat) (ca lr ls : Addr) (as : List Addr) (kvs : List (List Key × V)) : Prop where
  ca : H ca = some (.tup (iV (cAt ws sm i)))
  lr : H lr = some (.lst (as.map V.ref))
  ls : H ls = some (.dT kvs)
  cs : Cts H as ((List.range i).map (cAt ws sm))
  len : kvs.length ≤ i
  keys : ∀ k, (valV kvs k).isSome = true ↔ ∃ j, j < i ∧ k = keyC (cAt ws sm j)
  nd : ((List.range i).map (cAt ws sm)).Nodup
def tR9 (K : PySem.W.Frag) : TS := fun D σ H => ∃ (a r b ca lr ls : Addr) (ns : List Int) (ws : List (List Sy)) (st : List Sy) (sm fr : Nat) (y3 y4 y5 y6 y8 y11 : Option V), σ = [some (.ref a), some (.ref r), some (.ref b), y3, y4, y5, y6, none, y8, some (.int sm), some (.int fr), y11, some (.ref ca), some (.ref lr), some (.ref ls), none, none, none] ∧
  (∃ Hb, Same Hb H ∧ D12 K (a, ns) r b ws st Hb ∧ Hb lr = none ∧ Hb ls = none) ∧ 2 ≤ sm ∧ sm ≤ 4 ∧ fr ≤ e40 ∧ Rnd H ws sm 0 ca lr ls [] [] ∧ ∀ H', D.rt (.bl true) H'
def tR10 (K : PySem.W.Frag) : TS := fun D σ H => ∃ (a r b ca lr : Addr) (ns : List Int) (as : List Addr) (ws : List (List Sy)) (st : List Sy) (sm fr L t : Nat) (y3 y4 y5 y6 y8 y11 y14 : Option V), σ = [some (.ref a), some (.ref r), some (.ref b), y3, y4, y5, y6, none, y8, some (.int sm), some (.int fr), y11, some (.ref ca), some (.ref lr), y14, none, none, none] ∧
  D12 K (a, ns) r b ws st H ∧ 2 ≤ sm ∧ sm ≤ 4 ∧ fr ≤ e40 ∧ H ca = some (.tup (iV (cAt ws sm L))) ∧ H lr = some (.lst (as.map V.ref)) ∧ Cts H as ((List.range L).map (cAt ws sm)) ∧ ((List.range L).map (cAt ws sm)).Nodup ∧ t < L ∧ L ≤ 64 ∧ cAt ws sm L = cAt ws sm t ∧ ∀ H', D.rt (.bl true) H'
end SK
namespace SK
open PySem PySem.Spec PyProof.Rows L2
section
variable {P : Program} {w : World} {K : PySem.W.Frag} {mg : Str → Option Value} {base : Heap}
theorem law12_e {f CN : Addr} {cdv : Value} {k : Nat} (G : LawG12 P w K mg base CN k) {A : Around} {outer : List Env} {s : Shared} {H : Hp} {E : XK} (hr : Room k (A.deeper (envOfC "law" (defScope s_law) s.heap.objs.size f cdv)))
    (R : PSs (cxOf CX0 P w K mg base n_law "law" (defScope s_law) f cdv A outer s H E).nox ((defBody s_law).drop 9) (tR9 K)) :
    PSs (cxOf CX0 P w K mg base n_law "law" (defScope s_law) f cdv A outer s H E).nox ((defBody s_law).drop 7) (tR7 K) := by
  have nd := sc_law.nd
  obtain ⟨GP, GB, GK, GE, GT, GL, GF, GSi, GEa, GSd, GSm, GEm, ml, mT, mI, mi, mSt, mU⟩ := G
  refine pssimp _ (pss_cons (ps_asg (ptupN (pa_cons (padd pe_int (pcall GT hr (pa_cons (pv 1) (pa_cons pe_int pa_nil)))) (pa_cons (pcall GT hr (pa_cons (pv 1) (pa_cons (pe_op op_shl pe_int pe_int) pa_nil))) (pa_cons (plen ml (pixT (pv 2) pe_int)) pa_nil))))
        (pg_tup (by rfl) (pgs_cons (pg_name (i := 9) nd rfl (.inr rfl)) (pgs_cons (pg_name (i := 10) nd rfl (.inl rfl)) (pgs_cons (pg_name (i := 11) nd rfl (.inl rfl)) pgs_nil)))))
    (pss_cons (ps_asg (ptupN (pa_cons (pe_op op_repA (ptupN (pa_cons pe_int pa_nil)) (pv 11)) (pa_cons (plstN pa_nil) (pa_cons pe_dnewT pa_nil))))
        (pg_tup (by rfl) (pgs_cons (pg_name (i := 12) nd rfl (.inr rfl)) (pgs_cons (pg_name (i := 13) nd rfl (.inl rfl)) (pgs_cons (pg_name (i := 14) nd rfl (.inl rfl)) pgs_nil)))))
    R)) ?_
  rintro D σ H0 ⟨a, r, b, ns, ws, st, y3, y4, y5, y6, y8, rfl, d, q⟩
  have few := d.g.few
  have one := d.g.one
  refine ⟨_, rfl, r, (a, ns), 3, rfl, d.row, by decide, .inl (by decide), fun H1 s1 D1 hs1 => ⟨_, _, rfl, rfl, ?_⟩⟩
  have d1 := d.drawn D1
  refine ⟨_, rfl, _, _, rfl, rfl, ⟨by decide, by decide, by decide⟩, r, (a, ns), 1361129467683753853853498429727072845824, ?_, d1.row, by decide, .inr (by decide +kernel), fun H2 fr D2 hfr => ?_⟩
  · show [V.ref r, V.int (1 * 2 ^ (130 : Int).toNat)] = _
    rfl
  have d2 := d1.drawn D2
  obtain ⟨p, pq, as, h1, h2, h3, h4⟩ := id d2.bk
  have el := h4.length
  refine ⟨_, rfl, b, _, _, .ref p, rfl, rfl, SqT.of h1, at0, p, _, rfl, .inr (SqT.of h2), ?_⟩
  rw [List.length_map, el]
  refine ⟨szl 3, fun H3 t3 S3 n3 h3t => ⟨t3, _, rfl, SqT.of h3t, rfl, _, _, rfl, _, _, rfl, _, _, rfl, rfl, ?_⟩⟩
  have d3 := d2.same S3
  have e2 : (2 : Int) + (s1 : Int) = ((2 + s1 : Nat) : Int) := by omega
  clear d d1 d2 D1 D2 h1 h2 h3 h4 S3 n3 h3t
  refine ⟨szl 1, fun H4 t4 S4 n4 h4 => ⟨_, rfl, ?_⟩⟩
  -- the first counts
  have first : ∀ R : VK, (∀ (H5 : Hp) (ca : Addr), Same H4 H5 → H5 ca = some (.tup (iV (List.replicate ws.length 1))) → R (.ref ca) H5) → rRepA K (.ref t4) (.int (ws.length : Int)) H4 R := fun R hR => by
    have z : ∀ n, (List.replicate n [V.int 1]).flatten = iV (List.replicate n 1) := fun n => by
      induction n with
      | zero => rfl
      | succ n ih =>
        rw [List.replicate_succ, List.flatten_cons, ih]
        rfl
    by_cases one' : ws.length = 1
    · refine .inr ⟨t4, _, rfl, by rw [one']; rfl, SqT.of h4, (fun z => nomatch z), hR H4 t4 (Same.refl _) ?_⟩
      rw [one']
      exact h4
    · refine .inl ⟨t4, _, _, rfl, rfl, SqT.of h4, (fun z => nomatch z), by omega, by omega, by show 1 ≤ 1000; decide, fun p np => ?_⟩
      rw [Int.toNat_natCast, z]
      exact hR _ p (same_upd np) upd_same
  refine first _ fun H5 ca S5 h5 => ?_
  refine ⟨szl 0, fun H6 lr S6 n6 h6 => fun ls nls => ⟨szl 3, fun H8 t8 S8 n8 h8 => ⟨t8, _, rfl, SqT.of h8, rfl, _, _, rfl, _, _, rfl, _, _, rfl, rfl, ?_⟩⟩⟩
  have S7 : Same H6 (upd H6 ls (.dT [])) := same_upd nls
  have h7 : (upd H6 ls (.dT [])) ls = some (.dT []) := upd_same
  generalize upd H6 ls (.dT []) = H7 at S7 h7 S8 h8 n8
  have S35 := S4.trans S5
  have S36 := S35.trans S6
  have S38 := (S36.trans S7).trans S8
  refine ⟨a, r, b, ca, lr, ls, ns, ws, st, 2 + s1, fr, y3, y4, y5, y6, y8, some (.int (ws.length : Int)), ?_, ⟨H3, S38, d3, S35.free n6, S36.free nls⟩, by omega, by omega, ?_, ⟨S8 _ _ (S7 _ _ (S6 _ _ h5)), S8 _ _ (S7 _ _ h6), S8 _ _ h7, .nil, Nat.le_refl _, fun k => ⟨(fun z => by cases z), fun ⟨j, hj, _⟩ => absurd hj (Nat.not_lt_zero j)⟩, List.nodup_nil⟩, q⟩
  · rw [← e2]; rfl
  · show fr ≤ 10000000000000000000000000000000000000000
    omega
end
end SK
namespace SK
open PySem PySem.Spec PyProof.Rows L2
theorem word_get' {H : Hp} {as : List Addr} {ws : List (List Sy)} {n : Nat} {i : Nat} {x : V} (h : Words H as ws) (hg : ∀ w ∈ ws, Good n 40 w) (hx : (as.map V.ref)[i]? = some x) : ∃ a w, x = .ref a ∧ i < ws.length ∧ ws[i]? = some w ∧ WdAt H a w ∧ Good n 40 w := by
  rw [List.getElem?_map] at hx
  cases e : as[i]? with
  | none => rw [e] at hx; cases hx
  | some a =>
    rw [e] at hx
    cases hx
    have hi : i < ws.length := by
      have := (List.getElem?_eq_some_iff.mp e).1
      have := h.length
      omega
    have ew := List.getElem?_eq_getElem hi
    obtain ⟨a', e', hw⟩ := paired_get h ew
    rw [e] at e'
    cases e'
    exact ⟨a, _, rfl, hi, ew, hw, hg _ (List.getElem_mem hi)⟩
abbrev tCntM (K : PySem.W.Frag) (i : Nat) : TE := tOp (rI (fun _ j => 0 < j) fun i j => .int (i % j)) (tCB rInt1 (tCons (tCB (rSum K) (tCons (tLc (iTup K (tVar i)) (gName 16) (tNotStr K 16) (tOp (rIxT K) (tVar 12) (tVar 16)) [16]) tNil)) tNil)) (tVar 9)
section
variable {P : Program} {w : World} {K : PySem.W.Frag} {mg : Str → Option Value} {base : Heap}
theorem law12_f {f CN : Addr} {cdv : Value} {k : Nat} (G : LawG12 P w K mg base CN k) {A : Around} {outer : List Env} {s : Shared} {H : Hp} {E : XK} (hr : Room k (A.deeper (envOfC "law" (defScope s_law) s.heap.objs.size f cdv)))
    (R : PSs (cxOf CX0 P w K mg base n_law "law" (defScope s_law) f cdv A outer s H E).nox ((defBody s_law).drop 10) (tR10 K)) :
    PSs (cxOf CX0 P w K mg base n_law "law" (defScope s_law) f cdv A outer s H E).nox ((defBody s_law).drop 9) (tR9 K) := by
  have nd := sc_law.nd
  have hu := hu_of hr
  obtain ⟨GP, GB, GK, GE, GT, GL, GF, GSi, GEa, GSd, GSm, GEm, ml, mT, mI, mi, mSt, mU⟩ := G
  refine pssimp _ (pss_cons (ps_while PassesOwn.never (pt_cmp (pc_dnotin hu (pv 12) (pv 14)))
      (pss_cons (ps_dput hu (pv 14) (pv 12) pe_bl (by rfl))
      (pss_cons (sapp (pv 13) (pv 12))
      (pss_one (ps_set (i := 12) nd rfl (.inr rfl) (ptupleN mT (pe_lc (own := [("word", 17)]) (g := gName 17) (tt := tYes) (te := tCntM K 17) rfl nd (pi_tup (pixT (pv 2) pe_int)) (blkOk_by (N := n_law) (sc := defScope s_law) (by decide +kernel))
        (fun _ _ _ _ _ => pg_name (i := 17) nd rfl (Or.inl rfl)) (fun _ _ _ _ _ => pts_nil) (fun _ _ _ _ _ => pmod (pint mi (pe_callB (cr_sum rfl) (by rfl) mU (by decide +kernel) (pa_cons (pe_lc (own := [("item", 16)]) (g := gName 16) (tt := tNotStr K 16) (te := tOp (rIxT K) (tVar 12) (tVar 16)) rfl nd (pi_tup (pv 17)) (blkOk_by (N := n_law) (sc := relS whScope (defScope s_law)) (by decide +kernel))
          (fun _ _ _ _ _ => pg_name (i := 16) nd rfl (Or.inl rfl)) (fun _ _ _ _ _ => pts_one (ptNotStr mI mSt (pv 16))) (fun _ _ _ _ _ => pixT (pv 12) (pv 16))) pa_nil) (by decide) (by decide))) (pv 9)))))))))
    R) ?_
  rintro D σ H0 ⟨a, r, b, ca0, lr, ls, ns, ws, st, sm, fr, y3, y4, y5, y6, y8, y11, rfl, ⟨Hb, Sb0, d, nlr, nls⟩, hs2, hs4, hfr, R0, q⟩
  have few := d.g.few
  refine ⟨fun t σ H' => ∃ (i : Nat) (ca : Addr) (as : List Addr) (kvs : List (List Key × V)), σ = [some (.ref a), some (.ref r), some (.ref b), y3, y4, y5, y6, none, y8, some (.int sm), some (.int fr), y11, some (.ref ca), some (.ref lr), some (.ref ls), none, none, none] ∧ t = 64 - i ∧ Same Hb H' ∧ Rnd H' ws sm i ca lr ls as kvs, ⟨64, 0, ca0, [], [], rfl, rfl, Sb0, R0⟩, ?_⟩
  rintro t σ H1 ⟨i, ca, as, kvs, rfl, rfl, S1, Ri⟩
  have nlrs : lr ≠ ls := ne_of Ri.lr Ri.ls (by intro z; cases z)
  have ncar : ca ≠ lr := ne_of Ri.ca Ri.lr (by intro z; cases z)
  have ncas : ca ≠ ls := ne_of Ri.ca Ri.ls (by intro z; cases z)
  have hca := Ri.ca
  rw [← keyC_V] at hca
  refine ⟨_, rfl, _, rfl, ls, _, rfl, DGet.t Ri.ls hca, ?_⟩
  by_cases seen : (valV kvs (keyC (cAt ws sm i))).isSome = true
  · -- it comes again
    rw [seen]
    obtain ⟨j, hj, ej⟩ := (Ri.keys _).mp seen
    refine ⟨_, rfl, iteF ?_⟩
    exact ⟨a, r, b, ca, lr, ns, as, ws, st, sm, fr, i, j, y3, y4, y5, y6, y8, y11, _, rfl, d.same S1, hs2, hs4, hfr, Ri.ca, Ri.lr, Ri.cs, Ri.nd, hj, round_few hs2 hs4 few Ri.nd, keyC_inj ej, q⟩
  · have sn : (valV kvs (keyC (cAt ws sm i))).isSome = false := by simpa using seen
    rw [sn]
    refine ⟨_, rfl, iteT ⟨_, fun σ' H' h => h, ?_⟩⟩
    have nd2 : ((List.range (i + 1)).map (cAt ws sm)).Nodup := by
      rw [List.range_succ, List.map_append]
      refine List.nodup_append.mpr ⟨Ri.nd, by simp, fun x hx y hy e => ?_⟩
      have hy : y = cAt ws sm i := List.mem_singleton.mp hy
      obtain ⟨j, hj, ejx⟩ := List.mem_map.mp hx
      refine seen ((Ri.keys _).mpr ⟨j, List.mem_range.mp hj, ?_⟩)
      rw [ejx, e, hy]
    have i64 : i + 1 ≤ 64 := round_few hs2 hs4 few nd2
    have lk := Ri.len
    have lcs := Ri.cs.length
    rw [List.length_map, List.length_range] at lcs
    -- seen[counts] = True
    refine ⟨_, rfl, _, rfl, ls, _, rfl, DPut.t Ri.ls hca (by rw [sizeLine_eq]; omega), ?_⟩
    have T2 : TupS H1 (upd H1 ls (.dT (putK kvs (keyC (cAt ws sm i)) (.bl true)))) := TupS.dT Ri.ls
    have S2 : Same Hb (upd H1 ls (.dT (putK kvs (keyC (cAt ws sm i)) (.bl true)))) := sPut S1 nls
    have hls2 : (upd H1 ls (.dT (putK kvs (keyC (cAt ws sm i)) (.bl true)))) ls = _ := upd_same
    have hlr2 := (upd_ne (H := H1) (o := .dT (putK kvs (keyC (cAt ws sm i)) (.bl true))) nlrs).trans Ri.lr
    have hca2 := T2.1 _ _ Ri.ca
    have hcs2 := Ri.cs.keep T2
    generalize upd H1 ls (.dT (putK kvs (keyC (cAt ws sm i)) (.bl true))) = H2 at T2 S2 hls2 hlr2 hca2 hcs2 ⊢
    -- rows.append(counts)
    refine ⟨_, rfl, .inl ⟨rfl, _, SqL.of hlr2⟩, _, rfl, lr, _, _, rfl, rfl, hlr2, ?_, ?_⟩
    · rw [List.length_map, sizeLine_eq]; omega
    have T3 : TupS H2 (upd H2 lr (.lst (as.map V.ref ++ [V.ref ca]))) := TupS.refl.lst hlr2
    have S3 : Same Hb (upd H2 lr (.lst (as.map V.ref ++ [V.ref ca]))) := sPut S2 nlr
    have hlr3 : (upd H2 lr (.lst (as.map V.ref ++ [V.ref ca]))) lr = _ := upd_same
    have hls3 := (upd_ne (H := H2) (o := .lst (as.map V.ref ++ [V.ref ca])) nlrs.symm).trans hls2
    have hca3 := T3.1 _ _ hca2
    have hcs3 := hcs2.keep T3
    generalize upd H2 lr (.lst (as.map V.ref ++ [V.ref ca])) = H3 at T3 S3 hlr3 hls3 hca3 hcs3 ⊢
    -- the next counts
    have B3 := d.bk.keep (.of S3)
    obtain ⟨p, pq, was, b1, b2, b3, b4⟩ := id B3
    have el := b4.length
    refine ⟨_, rfl, b, _, _, .ref p, rfl, rfl, SqT.of b1, at0, p, rfl, ⟨_, SqT.of b2⟩, fun D4 nD4 => ?_⟩
    have gall := d.g.words
    have clen := cAt_len ws sm i
    refine lc_tup (K := K) (a := p) (xs := was.map V.ref) (fun j H' => Same H3 H' ∧ H' D4 = some (.lst (iV ((ws.take j).map fun w => wsum (fun j => (cAt ws sm i).getD j 0) w % sm)))) ⟨same_upd nD4, upd_same⟩ (fun j H' _ h => SqT.of (h.1 _ _ b2)) ?_ ?_
    · rintro j x H4 hx ⟨S4, hD4⟩
      obtain ⟨wa, wd, rfl, hj, ewd, hwa, gw⟩ := word_get' b4 gall hx
      have gl := gw.len
      have hwa4 := hwa.same S4
      refine ⟨rfl, ?_⟩
      dsimp only [tYes]
      rw [if_pos rfl]
      dsimp only [tCntM, tOp, tCB, tCons]
      show tLc (iTup K (tVar 17)) (gName 16) (tNotStr K 16) (tOp (rIxT K) (tVar 12) (tVar 16)) [16] _ H4 _
      refine cnt_lc (a := wa) (ca := ca) (ci := 12) (fun H' s => (hwa4.same s).sq) (S4 _ _ hca3) rfl (by decide) (by show 16 < 18; decide) (fun j hj => by rw [clen]; exact gw.lets j hj) (by omega) (fun R h => ⟨_, rfl, h⟩) fun H5 D5 S5 hD5 => ?_
      refine ⟨D5, _, rfl, SqL.of hD5, .inl ⟨_, rfl, _, rfl, _, _, rfl, rfl, by omega, _, S5 _ _ hD4, ?_, sPut (S4.trans S5) nD4, ?_⟩⟩
      · unfold iV
        rw [List.length_map, List.length_map, List.length_take, sizeLine_eq]; omega
      · rw [upd_same, vlist_sum, take_more ewd, List.map_append]
        unfold iV
        rw [List.map_append]
        rfl
    · rintro H4 ⟨S4, hD4⟩
      rw [List.length_map, el, List.take_length] at hD4
      refine ⟨D4, _, rfl, SqL.of hD4, fun H5 ca2 S5 n5 h5 => ?_⟩
      have S35 := S4.trans S5
      have nca : ca2 ≠ ca := (ne_of_none ((S4 _ _ hca3)) n5).symm
      refine ⟨64 - (i + 1), by omega, i + 1, ca2, as ++ [ca], putK kvs (keyC (cAt ws sm i)) (.bl true), rfl, rfl, S3.trans S35, ⟨h5, ?_, S35 _ _ hls3, ?_, ?_, fun k => ?_, nd2⟩⟩
      · rw [List.map_append]
        exact S35 _ _ hlr3
      · rw [List.range_succ, List.map_append]
        exact Paired.snoc (hcs3.same S35) (S35 _ _ hca3)
      · have := length_putK kvs (keyC (cAt ws sm i)) (.bl true)
        omega
      · rw [valV_put]
        by_cases z : k = keyC (cAt ws sm i)
        · rw [if_pos z]
          exact ⟨fun _ => ⟨i, by omega, z⟩, fun _ => rfl⟩
        · rw [if_neg z, Ri.keys]
          exact ⟨fun ⟨j, hj, e⟩ => ⟨j, by omega, e⟩, fun ⟨j, hj, e⟩ => ⟨j, by
            rcases Nat.lt_or_ge j i with h | h
            · exact h
            · have : j = i := by omega
              subst this
              exact absurd e z, e⟩⟩
end
end SK
namespace SK
open PySem PySem.Spec PyProof.Rows L2
section
variable {P : Program} {w : World} {K : PySem.W.Frag} {mg : Str → Option Value} {base : Heap}
theorem law12_g {f CN : Addr} {cdv : Value} {k : Nat} (G : LawG12 P w K mg base CN k) {A : Around} {outer : List Env} {s : Shared} {H : Hp} {E : XK} (hr : Room k (A.deeper (envOfC "law" (defScope s_law) s.heap.objs.size f cdv))) :
    PSs (cxOf CX0 P w K mg base n_law "law" (defScope s_law) f cdv A outer s H E).nox ((defBody s_law).drop 10) (tR10 K) := by
  have nd := sc_law.nd
  obtain ⟨GP, GB, GK, GE, GT, GL, GF, GSi, GEa, GSd, GSm, GEm, ml, mT, mI, mi, mSt, mU⟩ := G
  refine pssimp _ (pss_cons (ps_set (i := 15) nd rfl (.inr rfl) (pcall GF hr (pa_cons (pcatN (pv 13) (plstN (pa_cons (pv 12) pa_nil))) (pa_cons (pv 10) pa_nil))))
    (pss_one (ps_ret (pe_cmpR op_eq (pcall GSm hr (pa_cons (pv 2) (pa_cons (pv 10) (pa_cons (pv 9) pa_nil)))) (pmod (pint mi (pe_callB (cr_sum rfl) (by rfl) mU (by decide +kernel) (pa_cons (pe_lc (own := [("item", 16)]) (g := gName 16) (tt := tNotStr K 16) (te := tOp (rIxT K) (tVar 15) (tVar 16)) rfl nd (pi_tup (pixT (pv 2) pe_int)) (blkOk_by (N := n_law) (sc := defScope s_law) (by decide +kernel))
          (fun _ _ _ _ _ => pg_name (i := 16) nd rfl (Or.inl rfl)) (fun _ _ _ _ _ => pts_one (ptNotStr mI mSt (pv 16))) (fun _ _ _ _ _ => pixT (pv 15) (pv 16))) pa_nil) (by decide) (by decide))) (pv 9)) (nomark _))))) ?_
  rintro D σ H0 ⟨a, r, b, ca, lr, ns, as, ws, st, sm, fr, L, t, y3, y4, y5, y6, y8, y11, y14, rfl, d, hs2, hs4, hfr, hca, hlr, hcs, hnd, htL, hL, heq, q⟩
  have few := d.g.few
  have lcs := hcs.length
  rw [List.length_map, List.length_range] at lcs
  refine ⟨_, rfl, _, rfl, szl 1, fun H1 l1 S1 n1 h1 => ⟨lr, l1, _, _, rfl, rfl, S1 _ _ hlr, h1, ?_, fun H2 l2 S2 n2 h2 => ?_⟩⟩
  · rw [List.length_map, sizeLine_eq]
    show as.length + 1 ≤ _
    omega
  have S02 := S1.trans S2
  have h2' : H2 l2 = some (.lst ((as ++ [ca]).map V.ref)) := by rw [h2, List.map_append]; rfl
  have eC : (List.range L).map (cAt ws sm) ++ [cAt ws sm L] = (List.range (L + 1)).map (cAt ws sm) := by rw [List.range_succ, List.map_append]; rfl
  have hC2 : Cts H2 (as ++ [ca]) ((List.range (L + 1)).map (cAt ws sm)) := by
    rw [← eC]
    exact Paired.snoc (hcs.same S02) (S02 _ _ hca)
  have cg : ∀ {i : Nat}, i < L + 1 → ((List.range (L + 1)).map (cAt ws sm))[i]? = some (cAt ws sm i) := fun {i} hi => by
    rw [List.getElem?_map, List.getElem?_range hi]
    rfl
  have hne : ∀ i j, i < j → j < L → ((List.range (L + 1)).map (cAt ws sm))[i]? ≠ ((List.range (L + 1)).map (cAt ws sm))[j]? := fun i j hij hj e => by
    rw [cg (by omega), cg (by omega)] at e
    have e := Option.some.inj e
    have ll : ((List.range L).map (cAt ws sm)).length = L := by rw [List.length_map, List.length_range]
    have z := List.pairwise_iff_getElem.mp hnd i j (by omega) (by omega) hij
    rw [List.getElem_map, List.getElem_map, List.getElem_range, List.getElem_range] at z
    exact z e
  obtain ⟨er, lt⟩ := rnd_at (ws := ws) (m := sm) htL heq fr
  refine ⟨_, rfl, l2, as ++ [ca], (List.range (L + 1)).map (cAt ws sm), t, L, fr, rfl, h2', hC2, by rw [List.length_map, List.length_range], by omega, htL, by rw [cg (by omega), cg (by omega), heq], hne, fun da H3 hda S3 => ?_⟩
  obtain ⟨da', eda, hdat⟩ := paired_get hC2 (cg (i := rndAt t L fr) (by omega))
  rw [hda] at eda
  cases eda
  rw [er] at hdat
  have S03 := S02.trans S3
  have hda3 := S3 _ _ hdat
  have d3 := d.same S03
  refine ⟨_, rfl, _, rfl, _, rfl, b, fr, sm, ws, st, rfl, d3.bk, d3.g, by omega, hfr, hs2, by show sm ≤ 1000000000000000000; omega, fun H4 S4 => ?_⟩
  have B4 := d3.bk.keep (.of S4)
  obtain ⟨p, pq, was, b1, b2, b3, b4⟩ := id B4
  have sl := d.g.start.len
  dsimp only [tOp, tCB, tCons]
  show tLc (iTup K (tOp (rIxT K) (tVar 2) (tC (.int 1)))) (gName 16) (tNotStr K 16) (tOp (rIxT K) (tVar 15) (tVar 16)) [16] _ H4 _
  refine cnt_lc (a := pq) (ca := da) (ci := 15) (c := cAt ws sm fr) (fun H' s => (b3.same s).sq) (S4 _ _ hda3) rfl (by decide) (by show 16 < 18; decide) (fun j hj => by rw [cAt_len]; exact d.g.start.lets j hj) (by omega) (fun R h => ⟨_, rfl, b, _, _, .ref pq, rfl, rfl, SqT.of b1, at1, h⟩) fun H5 D5 S5 hD5 => ?_
  refine ⟨D5, _, rfl, SqL.of hD5, .inl ⟨_, rfl, _, rfl, _, _, rfl, rfl, by omega, rfl, ?_⟩⟩
  have fm := far_mod (ws := ws) (st := st) (fun w hw => (d.g.words w hw).lets) d.g.start.lets sm fr
  rw [vlist_sum]
  have e : decide (V.int ((nL (grown ws st fr) : Int) % (sm : Int)) = V.int (((wsum (fun j => (cAt ws sm fr).getD j 0) st : Nat) : Int) % (sm : Int))) = true := by
    refine decide_eq_true (congrArg V.int ?_)
    have z : ((wsum (fun j => (cAt ws sm fr).getD j 0) st % sm : Nat) : Int) = ((nL (grown ws st fr) % sm : Nat) : Int) := congrArg _ fm
    rw [Int.natCast_emod, Int.natCast_emod] at z
    exact z.symm
  show D.rt (.bl (decide _)) H5
  rw [e]
  exact q H5
theorem ok_law12 {f CN CS : Addr} {fd : FuncData} {k : Nat} (F : Fun K "law" "law" s_law f fd) (X : ExcC K CN ∧ mg "NotSteady" = some (.ref CN) ∧ PySem.W.kitOne K (.ref CN) (.ref CN) = some true ∧ mg "StrokeError" = some (.ref CS) ∧ PySem.W.exmOne K (.ref CN) (.ref CS) = some true ∧ LawG12 P w K mg base CN k) :
    FnOk P w K mg base CX0 (k + 1) f fd ["script"] (spLaw K) := by
  obtain ⟨EC, gB, kiB, gS, te, G⟩ := X
  exact law12_a F G fun cdv A outer s H E hr => law12_b G hr (law12_c EC gB kiB gS te G hr (law12_d G hr (law12_e G hr (law12_f G hr (law12_g G hr)))))
end
end SK
namespace SK
open PySem PySem.Spec PyProof.Rows L2
/-- a def of the module -/
def DefAt (K : PySem.W.Frag) (mg : Str → Option Value) (x : Str) (st : Stmt) : Prop := ∃ (f : Addr) (fd : FuncData), mg x = some (.ref f) ∧ Fun K x x st f fd
/-- a def of the module with defaults -/
def DefDAt (K : PySem.W.Frag) (mg : Str → Option Value) (x : Str) (st : Stmt) (dvs : List V) : Prop := ∃ (f : Addr) (fd : FuncData), mg x = some (.ref f) ∧ FunD K x x (defArgs st) (defBody st) (defScope st) dvs [] f fd
structure Defs (K : PySem.W.Frag) (mg : Str → Option Value) : Prop where
  taken : DefAt K mg "_law_taken" s_law_taken
  pick : DefAt K mg "_law_pick" s_law_pick
  branched : DefAt K mg "_law_branched" s_law_branched
  word : DefAt K mg "_law_word" s_law_word
  book : DefAt K mg "_law_book" s_law_book
  kit : DefAt K mg "_law_kit" s_law_kit
  even_word : DefAt K mg "_law_even_word" s_law_even_word
  even_book : DefAt K mg "_law_even_book" s_law_even_book
  alike : DefAt K mg "_law_alike" s_law_alike
  far : DefAt K mg "_law_far" s_law_far
  is_integer : DefAt K mg "is_integer" s_is_integer
  is_word : DefAt K mg "is_word" s_is_word
  has_book_form : DefAt K mg "has_book_form" s_has_book_form
  check_book : DefAt K mg "check_book" s_check_book
  check_number : DefAt K mg "check_number" s_check_number
  letters_in : DefAt K mg "letters_in" s_letters_in
  next_letters : DefAt K mg "next_letters" s_next_letters
  count_letters : DefAt K mg "count_letters" s_count_letters
  rotate : DefAt K mg "rotate" s_rotate
  ages_of_letters : DefAt K mg "ages_of_letters" s_ages_of_letters
  coming_letters : DefAt K mg "coming_letters" s_coming_letters
  strokes_of : DefAt K mg "strokes_of" s_strokes_of
  strokes_by_age : DefAt K mg "strokes_by_age" s_strokes_by_age
  ends_by_age : DefAt K mg "ends_by_age" s_ends_by_age
  strokes_in : DefAt K mg "strokes_in" s_strokes_in
  end_at : DefAt K mg "end_at" s_end_at
  ends_of_words : DefAt K mg "ends_of_words" s_ends_of_words
  is_steady : DefAt K mg "is_steady" s_is_steady
  outside_branches : DefAt K mg "outside_branches" s_outside_branches
  sums_by_rows : DefAt K mg "sums_by_rows" s_sums_by_rows
  two_steps : DefAt K mg "two_steps" s_two_steps
  values_at : DefAt K mg "values_at" s_values_at
  check_am : DefAt K mg "check_age_and_modulus" s_check_age_and_modulus
  check_steady : DefAt K mg "check_steady" s_check_steady
  strokes_modulo : DefAt K mg "strokes_modulo" s_strokes_modulo
  end_rows : DefAt K mg "end_rows" s_end_rows
  end_modulo : DefAt K mg "end_modulo" s_end_modulo
structure Blt (mg : Str → Option Value) : Prop where
  isinstance : mg "isinstance" = none
  int : mg "int" = none
  bool : mg "bool" = none
  str : mg "str" = none
  tuple : mg "tuple" = none
  list : mg "list" = none
  len : mg "len" = none
  enumerate : mg "enumerate" = none
  sorted : mg "sorted" = none
  range : mg "range" = none
  zip : mg "zip" = none
  sum : mg "sum" = none
  reversed : mg "reversed" = none
  abs : mg "abs" = none
  all : mg "all" = none
section
variable {P : Program} {w : World} {K : PySem.W.Frag} {mg : Str → Option Value} {base : Heap}
theorem got {x : Str} {st : Stmt} {k : Nat} {ps : List Str} {sp : Sp} (D : DefAt K mg x st) (h : ∀ (f : Addr) (fd : FuncData), Fun K x x st f fd → FnOk P w K mg base CX0 k f fd ps sp)
    (b : ∀ (kV doc pm : Value) (an : Option Addr) (cdv ct : Value) (us : List Value), us.length = ps.length → bindArgs (PySem.W.fnOf x x (defArgs st) (defBody st) (defScope st) .none kV doc pm an cdv ct) ⟨us, []⟩ = pure (ps.zip us)) : Got P w K mg base x k ps sp := by
  obtain ⟨f, fd, m, F⟩ := D
  exact ⟨f, fd, h f fd F, m, F.kp, F.binds b⟩
theorem gotX {x : Str} {st : Stmt} {k : Nat} {ps : List Str} {sp : Sp} (D : DefAt K mg x st) (h : ∀ (f : Addr) (fd : FuncData), Fun K x x st f fd → FnOk P w K mg base (L2.CX P w) k f fd ps sp)
    (b : ∀ (kV doc pm : Value) (an : Option Addr) (cdv ct : Value) (us : List Value), us.length = ps.length → bindArgs (PySem.W.fnOf x x (defArgs st) (defBody st) (defScope st) .none kV doc pm an cdv ct) ⟨us, []⟩ = pure (ps.zip us)) : GotX P w K mg base x k ps sp := by
  obtain ⟨f, fd, m, F⟩ := D
  exact ⟨f, fd, h f fd F, m, F.kp, F.binds b⟩
theorem GotD.mono {x : Str} {j k : Nat} {ps : List Str} {dvs : List V} {sp : Sp} (g : GotD P w K mg base x j ps dvs sp) (h : j ≤ k) : GotD P w K mg base x k ps dvs sp := by
  obtain ⟨f, fd, ds, F, a, b, c, d⟩ := g.ex
  exact ⟨f, fd, ds, F.mono h, a, b, c, d⟩
/-- with the default, and without -/
theorem gotD {x : Str} {st : Stmt} {k : Nat} {ps : List Str} {dv : V} {sp : Sp} (D : DefDAt K mg x st [dv]) (h : ∀ (f : Addr) (fd : FuncData), FunD K x x (defArgs st) (defBody st) (defScope st) [dv] [] f fd → FnOk P w K mg base CX0 k f fd ps sp)
    (b : ∀ (f : Addr) (fd : FuncData), FunD K x x (defArgs st) (defBody st) (defScope st) [dv] [] f fd → ∃ ds, Vals [dv] ds ∧ Binds K fd ps ds) : GotD P w K mg base x k ps [dv] sp := by
  obtain ⟨f, fd, m, F⟩ := D
  obtain ⟨ds, v, b⟩ := b f fd F
  exact ⟨f, fd, ds, h f fd F, m, F.kp, b, v⟩
theorem gotF {x : Str} {st : Stmt} {k : Nat} {ps : List Str} {dv : V} {sp : Sp} (D : DefDAt K mg x st [dv]) (h : ∀ (f : Addr) (fd : FuncData), FunD K x x (defArgs st) (defBody st) (defScope st) [dv] [] f fd → FnOk P w K mg base CX0 k f fd ps sp)
    (b : ∀ (f : Addr) (fd : FuncData), FunD K x x (defArgs st) (defBody st) (defScope st) [dv] [] f fd → ∃ ds, Vals [] ds ∧ Binds K fd ps ds) : Got P w K mg base x k ps sp := by
  obtain ⟨f, fd, m, F⟩ := D
  obtain ⟨ds, v, b⟩ := b f fd F
  cases v
  exact ⟨f, fd, h f fd F, m, F.kp, b⟩
theorem bd_ca (f : Addr) (fd : FuncData) (F : FunD K "check_age" "check_age" (defArgs s_check_age) (defBody s_check_age) (defScope s_check_age) [V.int 1000] [] f fd) : ∃ ds, Vals [V.int 1000] ds ∧ Binds K fd ["value", "most"] ds := by
  refine F.binds1 (ps := ["value", "most"]) 1 0 (by simp) rfl (fun T kV doc pm an cdv ct us its h1 h2 => ?_)
  match us, its, h1, h2 with
  | [_], [i], _, _ => exact ⟨_, rfl, rfl⟩
theorem bf_ca (f : Addr) (fd : FuncData) (F : FunD K "check_age" "check_age" (defArgs s_check_age) (defBody s_check_age) (defScope s_check_age) [V.int 1000] [] f fd) : ∃ ds, Vals [] ds ∧ Binds K fd ["value", "most"] ds := by
  refine F.binds1 (ps := ["value", "most"]) 2 1 (by simp) rfl (fun T kV doc pm an cdv ct us its h1 h2 => ?_)
  match us, its, h1, h2 with
  | [_, _], [i], _, _ => exact ⟨_, rfl, rfl⟩
theorem bd_ba (f : Addr) (fd : FuncData) (F : FunD K "check_book_and_age" "check_book_and_age" (defArgs s_check_book_and_age) (defBody s_check_book_and_age) (defScope s_check_book_and_age) [V.int 1000] [] f fd) : ∃ ds, Vals [V.int 1000] ds ∧ Binds K fd ["book", "age", "most"] ds := by
  refine F.binds1 (ps := ["book", "age", "most"]) 2 0 (by simp) rfl (fun T kV doc pm an cdv ct us its h1 h2 => ?_)
  match us, its, h1, h2 with
  | [_, _], [i], _, _ => exact ⟨_, rfl, rfl⟩
theorem bf_ba (f : Addr) (fd : FuncData) (F : FunD K "check_book_and_age" "check_book_and_age" (defArgs s_check_book_and_age) (defBody s_check_book_and_age) (defScope s_check_book_and_age) [V.int 1000] [] f fd) : ∃ ds, Vals [] ds ∧ Binds K fd ["book", "age", "most"] ds := by
  refine F.binds1 (ps := ["book", "age", "most"]) 3 1 (by simp) rfl (fun T kV doc pm an cdv ct us its h1 h2 => ?_)
  match us, its, h1, h2 with
  | [_, _, _], [i], _, _ => exact ⟨_, rfl, rfl⟩
theorem bd_ly {pd : Addr} (f : Addr) (fd : FuncData) (F : FunD K "lay" "lay" (defArgs s_lay) (defBody s_lay) (defScope s_lay) [V.ref pd] [] f fd) : ∃ ds, Vals [V.ref pd] ds ∧ Binds K fd ["word", "ends", "pen"] ds := by
  refine F.binds1 (ps := ["word", "ends", "pen"]) 2 0 (by simp) rfl (fun T kV doc pm an cdv ct us its h1 h2 => ?_)
  match us, its, h1, h2 with
  | [_, _], [i], _, _ => exact ⟨_, rfl, rfl⟩
theorem bf_ly {pd : Addr} (f : Addr) (fd : FuncData) (F : FunD K "lay" "lay" (defArgs s_lay) (defBody s_lay) (defScope s_lay) [V.ref pd] [] f fd) : ∃ ds, Vals [] ds ∧ Binds K fd ["word", "ends", "pen"] ds := by
  refine F.binds1 (ps := ["word", "ends", "pen"]) 3 1 (by simp) rfl (fun T kV doc pm an cdv ct us its h1 h2 => ?_)
  match us, its, h1, h2 with
  | [_, _, _], [i], _, _ => exact ⟨_, rfl, rfl⟩
theorem bd_ls {pd : Addr} (f : Addr) (fd : FuncData) (F : FunD K "lay_strokes" "lay_strokes" (defArgs s_lay_strokes) (defBody s_lay_strokes) (defScope s_lay_strokes) [V.ref pd] [] f fd) : ∃ ds, Vals [V.ref pd] ds ∧ Binds K fd ["word", "pen"] ds := by
  refine F.binds1 (ps := ["word", "pen"]) 1 0 (by simp) rfl (fun T kV doc pm an cdv ct us its h1 h2 => ?_)
  match us, its, h1, h2 with
  | [_], [i], _, _ => exact ⟨_, rfl, rfl⟩
theorem bf_ls {pd : Addr} (f : Addr) (fd : FuncData) (F : FunD K "lay_strokes" "lay_strokes" (defArgs s_lay_strokes) (defBody s_lay_strokes) (defScope s_lay_strokes) [V.ref pd] [] f fd) : ∃ ds, Vals [] ds ∧ Binds K fd ["word", "pen"] ds := by
  refine F.binds1 (ps := ["word", "pen"]) 2 1 (by simp) rfl (fun T kV doc pm an cdv ct us its h1 h2 => ?_)
  match us, its, h1, h2 with
  | [_, _], [i], _, _ => exact ⟨_, rfl, rfl⟩
theorem all_got {pd_ly : Addr} {pd_ls : Addr} {t_MOST_PARTS : Tok} {t_MOST_LETTERS : Tok} {t_MOST_AGE_SUMMED : Tok} {t_MOST_MODULUS : Tok} {a_STROKE : Addr} {sa : Addr} {CS : Addr} {E_NotSteady : Addr} (D : Defs K mg) (B : Blt mg) (D_ca : DefDAt K mg "check_age" s_check_age [.int 1000]) (D_ba : DefDAt K mg "check_book_and_age" s_check_book_and_age [.int 1000]) (D_ly : DefDAt K mg "lay" s_lay [.ref pd_ly]) (P_ly : ModT K pd_ly [.int 0, .int 0, .int 0]) (D_ls : DefDAt K mg "lay_strokes" s_lay_strokes [.ref pd_ls]) (P_ls : ModT K pd_ls [.int 0, .int 0, .int 0]) (m_MOST_PARTS : mg "MOST_PARTS" = some (.int 40 t_MOST_PARTS)) (m_MOST_LETTERS : mg "MOST_LETTERS" = some (.int 8 t_MOST_LETTERS)) (m_MOST_AGE_SUMMED : mg "MOST_AGE_SUMMED" = some (.int 10000000000000000000000000000000000000000 t_MOST_AGE_SUMMED)) (m_MOST_MODULUS : mg "MOST_MODULUS" = some (.int 1000000000000000000 t_MOST_MODULUS)) (m_STROKE : mg "STROKE" = some (.ref a_STROKE)) (h_STROKE : ModT K a_STROKE [.int 1, .int 0, .int 0]) (mS : mg "STEPS" = some (.ref sa)) (hS : StepsAt K sa) (gS : mg "StrokeError" = some (.ref CS)) (gNotSteady : mg "NotSteady" = some (.ref E_NotSteady)) (xNotSteady : PySem.W.excIn K E_NotSteady [.type "ValueError", .type "Exception", .type "BaseException", .type "object"] "ValueError.__new__" = true) (kNotSteady : PySem.W.keepIn K (.ref E_NotSteady) = true) (sNotSteady : PySem.W.subIn K (.ref E_NotSteady) (.type "BaseException") = some true) (tNotSteady : PySem.W.typeIn K (.ref E_NotSteady) = some (.type "type")) (cNotSteady : ExcC K E_NotSteady) (teNotSteady : PySem.W.exmOne K (.ref E_NotSteady) (.ref CS) = some true) (kiNotSteady : PySem.W.kitOne K (.ref E_NotSteady) (.ref E_NotSteady) = some true) : ExcC K E_NotSteady ∧ mg "NotSteady" = some (.ref E_NotSteady) ∧ PySem.W.kitOne K (.ref E_NotSteady) (.ref E_NotSteady) = some true ∧ mg "StrokeError" = some (.ref CS) ∧ PySem.W.exmOne K (.ref E_NotSteady) (.ref CS) = some true ∧ LawG12 P w K mg base E_NotSteady 7 := by
  have gTk : Got P w K mg base "_law_taken" 1 ["row", "many"] (spTaken K) := got D.taken (fun f fd F => ok_taken F B.int B.len) fun _ _ _ _ _ _ us hl => match us, hl with | [_, _], _ => rfl
  have gPk : Got P w K mg base "_law_pick" 2 ["row", "things"] (spPick K) := got D.pick (fun f fd F => ok_pick F gTk B.len) fun _ _ _ _ _ _ us hl => match us, hl with | [_, _], _ => rfl
  have gBr : Got P w K mg base "_law_branched" 3 ["row", "word", "letters"] (spBranched K) := got D.branched (fun f fd F => ok_branched F (gTk.mono (by decide)) gPk B.len B.list B.tuple) fun _ _ _ _ _ _ us hl => match us, hl with | [_, _, _], _ => rfl
  have gWd : Got P w K mg base "_law_word" 3 ["row", "letters", "most"] (spWord K) := got D.word (fun f fd F => ok_word F (gTk.mono (by decide)) gPk B.range B.tuple) fun _ _ _ _ _ _ us hl => match us, hl with | [_, _, _], _ => rfl
  have gBk : Got P w K mg base "_law_book" 4 ["row"] (spBook K) := got D.book (fun f fd F => ok_book F (gTk.mono (by decide)) gWd gBr B.range B.tuple) fun _ _ _ _ _ _ us hl => match us, hl with | [_], _ => rfl
  have gKt : Got P w K mg base "_law_kit" 3 ["row"] (spBook K) := got D.kit (fun f fd F => ok_kit F gPk) fun _ _ _ _ _ _ us hl => match us, hl with | [_], _ => rfl
  have gEw : Got P w K mg base "_law_even_word" 3 ["row", "letters", "move"] (spEvenWord K) := got D.even_word (fun f fd F => ok_evenword F (gTk.mono (by decide)) B.abs B.int B.len B.tuple) fun _ _ _ _ _ _ us hl => match us, hl with | [_, _, _], _ => rfl
  have gEb : Got P w K mg base "_law_even_book" 4 ["row"] (spEvenBook K) := got D.even_book (fun f fd F => ok_evenbook F (gTk.mono (by decide)) (gPk.mono (by decide)) gEw gBr B.range B.tuple) fun _ _ _ _ _ _ us hl => match us, hl with | [_], _ => rfl
  have gA : AlkG mg := ⟨B.isinstance, B.tuple, B.list, B.str, B.int, B.bool, B.len, B.range⟩
  have bA : ∀ (kV doc pm : Value) (an : Option Addr) (cdv ct : Value) (us : List Value), us.length = (["found", "due"] : List Str).length → bindArgs (PySem.W.fnOf "_law_alike" "_law_alike" (defArgs s_law_alike) (defBody s_law_alike) (defScope s_law_alike) .none kV doc pm an cdv ct) ⟨us, []⟩ = pure ((["found", "due"] : List Str).zip us) :=
    fun _ _ _ _ _ _ us hl => (match us, hl with | [_, _], _ => rfl)
  have gAl : ∀ n, Got P w K mg base "_law_alike" (n + 1) ["found", "due"] (spAlike n) := fun n => by
    induction n with
    | zero => exact got D.alike (fun f fd F => ok_alike 0 F gA fun m e => absurd e (by omega)) bA
    | succ n ih =>
      refine got D.alike (fun f fd F => ok_alike (n + 1) F gA fun m e => ?_) bA
      have e : n = m := by omega
      subst e
      exact ih
  have gII : Got P w K mg base "is_integer" 1 ["value"] (spIsInt K) := got D.is_integer (fun f fd F => ok_isint F B.isinstance B.int B.bool) fun _ _ _ _ _ _ us hl => match us, hl with | [_], _ => rfl
  have gIW : Got P w K mg base "is_word" 2 ["value", "many"] spIsWord := got D.is_word (fun f fd F => ok_isword F gII B.isinstance B.tuple B.len m_MOST_PARTS) fun _ _ _ _ _ _ us hl => match us, hl with | [_, _], _ => rfl
  have gBF : Got P w K mg base "has_book_form" 2 ["value"] spBookForm := got D.has_book_form (fun f fd F => ok_bookform F B.isinstance B.tuple B.len m_MOST_LETTERS) fun _ _ _ _ _ _ us hl => match us, hl with | [_], _ => rfl
  have gCN : Got P w K mg base "check_number" 2 ["value", "least", "most"] spCheckNum := got D.check_number (fun f fd F => ok_checknum F gII) fun _ _ _ _ _ _ us hl => match us, hl with | [_, _, _], _ => rfl
  have gCB : Got P w K mg base "check_book" 3 ["value"] spCheckBook := got D.check_book (fun f fd F => ok_checkbook F gBF gIW B.len B.enumerate) fun _ _ _ _ _ _ us hl => match us, hl with | [_], _ => rfl
  have gCA : Got P w K mg base "check_age" 3 ["value", "most"] spCheckAge := gotF D_ca (fun f fd F => ok_checkage F gCN) bf_ca
  have gBA : GotD P w K mg base "check_book_and_age" 4 ["book", "age", "most"] [.int 1000] spCheckBA := gotD D_ba (fun f fd F => ok_checkba F gCB (gCA.mono (by decide))) bd_ba
  have gBf : Got P w K mg base "check_book_and_age" 4 ["book", "age", "most"] spCheckBA := gotF D_ba (fun f fd F => ok_checkba F gCB (gCA.mono (by decide))) bf_ba
  have gLI : Got P w K mg base "letters_in" 1 ["parts"] (spLettersIn K) := got D.letters_in (fun f fd F => ok_lettersin F B.isinstance B.str B.sorted) fun _ _ _ _ _ _ us hl => match us, hl with | [_], _ => rfl
  have gNL : Got P w K mg base "next_letters" 2 ["words", "letters"] spNext := got D.next_letters (fun f fd F => ok_next F gLI) fun _ _ _ _ _ _ us hl => match us, hl with | [_, _], _ => rfl
  have gCL : Got P w K mg base "count_letters" 1 ["word", "many"] spCount := got D.count_letters (fun f fd F => ok_count F B.range) fun _ _ _ _ _ _ us hl => match us, hl with | [_, _], _ => rfl
  have gRt : Got P w K mg base "rotate" 1 ["x", "y", "quarters"] spRotate := got D.rotate (fun f fd F => ok_rotate F) fun _ _ _ _ _ _ us hl => match us, hl with | [_, _, _], _ => rfl
  have gLy : Got P w K mg base "lay" 2 ["word", "ends", "pen"] (spLay K) := gotF D_ly (fun f fd F => ok_lay F gRt) bf_ly
  have gLd : GotD P w K mg base "lay" 2 ["word", "ends", "pen"] [.ref pd_ly] (spLay K) := gotD D_ly (fun f fd F => ok_lay F gRt) bd_ly
  have gLS : GotD P w K mg base "lay_strokes" 3 ["word", "pen"] [.ref pd_ls] (spLayS K) := gotD D_ls (fun f fd F => ok_lays F gLy m_STROKE h_STROKE B.isinstance B.str) bd_ls
  have gYL : Got P w K mg base "lay" 2 ["word", "ends", "pen"] (spLayL K) := gotF D_ly (fun f fd F => ok_layL F gRt) bf_ly
  have gSL : GotD P w K mg base "lay_strokes" 3 ["word", "pen"] [.ref pd_ls] (spLaySL K) := gotD D_ls (fun f fd F => ok_laysL F gYL m_STROKE h_STROKE B.isinstance B.str) bd_ls
  have gAL : Got P w K mg base "ages_of_letters" 3 ["words", "parts"] (spAges K) := got D.ages_of_letters (fun f fd F => ok_ages F (gLI.mono (by decide)) gNL) fun _ _ _ _ _ _ us hl => match us, hl with | [_, _], _ => rfl
  have gCo : Got P w K mg base "coming_letters" 4 ["words", "parts"] (spComing K) := got D.coming_letters (fun f fd F => ok_coming F gAL B.sorted) fun _ _ _ _ _ _ us hl => match us, hl with | [_, _], _ => rfl
  have gSo : Got P w K mg base "strokes_of" 1 ["word", "strokes"] spStrokesOf := got D.strokes_of (fun f fd F => ok_strokesof F B.isinstance B.str B.sum) fun _ _ _ _ _ _ us hl => match us, hl with | [_, _], _ => rfl
  have gSA : Got P w K mg base "strokes_by_age" 2 ["words", "letters", "age"] spSByAge := got D.strokes_by_age (fun f fd F => ok_sbyage F gSo B.range) fun _ _ _ _ _ _ us hl => match us, hl with | [_, _, _], _ => rfl
  have gEA : Got P w K mg base "ends_by_age" 3 ["words", "letters", "age"] (spEByAge K) := got D.ends_by_age (fun f fd F => ok_ebyage F gLd P_ly m_STROKE h_STROKE B.range) fun _ _ _ _ _ _ us hl => match us, hl with | [_, _, _], _ => rfl
  have gSI : Got P w K mg base "strokes_in" 5 ["book", "age"] spStrokesIn := got D.strokes_in (fun f fd F => ok_strokesin F gBA gCo (gSA.mono (by decide)) (gSo.mono (by decide))) fun _ _ _ _ _ _ us hl => match us, hl with | [_, _], _ => rfl
  have gEt : Got P w K mg base "end_at" 5 ["book", "age"] spEndAt := got D.end_at (fun f fd F => ok_endat F gBA gCo (gEA.mono (by decide)) (gLd.mono (by decide)) P_ly) fun _ _ _ _ _ _ us hl => match us, hl with | [_, _], _ => rfl
  have gEn : Got P w K mg base "ends_of_words" 4 ["words", "letters"] spEnds := got D.ends_of_words (fun f fd F => ok_ends F gLS P_ls) fun _ _ _ _ _ _ us hl => match us, hl with | [_, _], _ => rfl
  have gSt : Got P w K mg base "is_steady" 5 ["book"] spSteady := got D.is_steady (fun f fd F => ok_steady F (gCB.mono (by decide)) gCo gEn B.all) fun _ _ _ _ _ _ us hl => match us, hl with | [_], _ => rfl
  have gOb : Got P w K mg base "outside_branches" 1 ["word"] spOutside := got D.outside_branches (fun f fd F => ok_outside F) fun _ _ _ _ _ _ us hl => match us, hl with | [_], _ => rfl
  have gSR : Got P w K mg base "sums_by_rows" 1 ["rows", "values", "modulus"] (spSumsBy K) := got D.sums_by_rows (fun f fd F => ok_sumsby F B.zip B.sum) fun _ _ _ _ _ _ us hl => match us, hl with | [_, _, _], _ => rfl
  have gTS : Got P w K mg base "two_steps" 2 ["rows", "modulus"] (spTwo K) := got D.two_steps (fun f fd F => ok_two F gSR B.zip B.list) fun _ _ _ _ _ _ us hl => match us, hl with | [_, _], _ => rfl
  have gVa : Got P w K mg base "values_at" 3 ["rows", "values", "age", "modulus"] (spValues K) := got D.values_at (fun f fd F => ok_values F (gSR.mono (by decide)) gTS) fun _ _ _ _ _ _ us hl => match us, hl with | [_, _, _, _], _ => rfl
  have gAM : Got P w K mg base "check_age_and_modulus" 5 ["book", "age", "modulus"] spCheckAM := got D.check_am (fun f fd F => ok_checkam F gBf (gCN.mono (by decide)) m_MOST_AGE_SUMMED m_MOST_MODULUS) fun _ _ _ _ _ _ us hl => match us, hl with | [_, _, _], _ => rfl
  have gCS : GotX P w K mg base "check_steady" 6 ["book"] (spCheckSteady E_NotSteady) := gotX D.check_steady (fun f fd F => ok_checksteady F gSt gNotSteady xNotSteady kNotSteady sNotSteady tNotSteady) fun _ _ _ _ _ _ us hl => match us, hl with | [_], _ => rfl
  have gSM : Got P w K mg base "strokes_modulo" 6 ["book", "age", "modulus"] spSMod := got D.strokes_modulo (fun f fd F => ok_smod F gAM (gCL.mono (by decide)) (gVa.mono (by decide)) (gSR.mono (by decide)) B.len) fun _ _ _ _ _ _ us hl => match us, hl with | [_, _, _], _ => rfl
  have gER : Got P w K mg base "end_rows" 4 ["word", "many"] spEndRows := got D.end_rows (fun f fd F => ok_endrows F (gOb.mono (by decide)) gSL P_ls mS hS) fun _ _ _ _ _ _ us hl => match us, hl with | [_, _], _ => rfl
  have gEM : GotX P w K mg base "end_modulo" 7 ["book", "age", "modulus"] (spEMod E_NotSteady) := gotX D.end_modulo (fun f fd F => ok_emod F (gAM.mono (by decide)) gCS (gER.mono (by decide)) (gVa.mono (by decide)) (gSR.mono (by decide)) B.len B.tuple) fun _ _ _ _ _ _ us hl => match us, hl with | [_, _, _], _ => rfl
  have gLF : Got P w K mg base "_law_far" 1 ["rows", "age"] (spFarR K) := got D.far (fun f fd F => ok_lawfar F B.len B.range B.int) fun _ _ _ _ _ _ us hl => match us, hl with | [_, _], _ => rfl
  exact ⟨cNotSteady, gNotSteady, kiNotSteady, gS, teNotSteady, ⟨gPk.mono (by decide), gBk.mono (by decide), gKt.mono (by decide), gEb.mono (by decide), gTk.mono (by decide), (gAl 2).mono (by decide), gLF.mono (by decide), gSI.mono (by decide), gEt.mono (by decide), gSt.mono (by decide), gSM.mono (by decide), gEM.mono (by decide), B.len, B.tuple, B.isinstance, B.int, B.str, B.sum⟩⟩
/-- one tuple of the written part -/
theorem modT_of {K : PySem.W.Frag} {a : Addr} {o : Obj} {its : Array Value} {n : Nat} {xs : List V} (h : K.lookup a = some o) (h1 : o.cls = .type "tuple") (h2 : o.data = .seq its n) (h3 : its.size ≤ 16777216) (h4 : Vals xs its.toList) : ModT K a xs :=
  ⟨o, its, n, h, h1, h2, by rw [sizeLine_eq]; exact h3, h4⟩
end
end SK
namespace SK
open PySem PySem.Spec PyProof.Rows L2
theorem def_mk {K : PySem.W.Frag} {h : Heap} {mg : Str → Option Value} {x : Str} {st : Stmt} {f : Addr} {oc kV doc pm cdv ct : Value} {od an : Option Addr} {osl : Array (Option Value)} (X : K.In h) (G : h.Ns mainGlobals mg) (a : PySem.W.nsIn K mainGlobals x = some (some (.ref f)))
    (l : K.lookup f = some ⟨oc, od, .func (PySem.W.fnOf x x (defArgs st) (defBody st) (defScope st) .none kV doc pm an cdv ct), osl⟩) (c : PySem.W.codeIn K cdv x = true) (k : PySem.W.keepIn K (.ref f) = true) : DefAt K mg x st := ⟨f, _, PySem.W.mg_of X G a, fun_mk (st := st) l c k⟩
theorem law_mk {l : PySem.W.OpenLaw} {w : World} {K : PySem.W.Frag} {h : Heap} {mg : Str → Option Value} {fa : Addr} (X : K.In h) (G : h.Ns mainGlobals mg) (hfa : mg "law" = some (.ref fa))
    {f_taken : Addr} {oc_taken kV_taken dc_taken pm_taken cd_taken ct_taken : Value} {od_taken an_taken : Option Addr} {sl_taken : Array (Option Value)}
    {f_pick : Addr} {oc_pick kV_pick dc_pick pm_pick cd_pick ct_pick : Value} {od_pick an_pick : Option Addr} {sl_pick : Array (Option Value)}
    {f_branched : Addr} {oc_branched kV_branched dc_branched pm_branched cd_branched ct_branched : Value} {od_branched an_branched : Option Addr} {sl_branched : Array (Option Value)}
    {f_word : Addr} {oc_word kV_word dc_word pm_word cd_word ct_word : Value} {od_word an_word : Option Addr} {sl_word : Array (Option Value)}
    {f_book : Addr} {oc_book kV_book dc_book pm_book cd_book ct_book : Value} {od_book an_book : Option Addr} {sl_book : Array (Option Value)}
    {f_kit : Addr} {oc_kit kV_kit dc_kit pm_kit cd_kit ct_kit : Value} {od_kit an_kit : Option Addr} {sl_kit : Array (Option Value)}
    {f_even_word : Addr} {oc_even_word kV_even_word dc_even_word pm_even_word cd_even_word ct_even_word : Value} {od_even_word an_even_word : Option Addr} {sl_even_word : Array (Option Value)}
    {f_even_book : Addr} {oc_even_book kV_even_book dc_even_book pm_even_book cd_even_book ct_even_book : Value} {od_even_book an_even_book : Option Addr} {sl_even_book : Array (Option Value)}
    {f_alike : Addr} {oc_alike kV_alike dc_alike pm_alike cd_alike ct_alike : Value} {od_alike an_alike : Option Addr} {sl_alike : Array (Option Value)}
    {f_far : Addr} {oc_far kV_far dc_far pm_far cd_far ct_far : Value} {od_far an_far : Option Addr} {sl_far : Array (Option Value)}
    {f_is_integer : Addr} {oc_is_integer kV_is_integer dc_is_integer pm_is_integer cd_is_integer ct_is_integer : Value} {od_is_integer an_is_integer : Option Addr} {sl_is_integer : Array (Option Value)}
    {f_is_word : Addr} {oc_is_word kV_is_word dc_is_word pm_is_word cd_is_word ct_is_word : Value} {od_is_word an_is_word : Option Addr} {sl_is_word : Array (Option Value)}
    {f_has_book_form : Addr} {oc_has_book_form kV_has_book_form dc_has_book_form pm_has_book_form cd_has_book_form ct_has_book_form : Value} {od_has_book_form an_has_book_form : Option Addr} {sl_has_book_form : Array (Option Value)}
    {f_check_book : Addr} {oc_check_book kV_check_book dc_check_book pm_check_book cd_check_book ct_check_book : Value} {od_check_book an_check_book : Option Addr} {sl_check_book : Array (Option Value)}
    {f_check_number : Addr} {oc_check_number kV_check_number dc_check_number pm_check_number cd_check_number ct_check_number : Value} {od_check_number an_check_number : Option Addr} {sl_check_number : Array (Option Value)}
    {f_letters_in : Addr} {oc_letters_in kV_letters_in dc_letters_in pm_letters_in cd_letters_in ct_letters_in : Value} {od_letters_in an_letters_in : Option Addr} {sl_letters_in : Array (Option Value)}
    {f_next_letters : Addr} {oc_next_letters kV_next_letters dc_next_letters pm_next_letters cd_next_letters ct_next_letters : Value} {od_next_letters an_next_letters : Option Addr} {sl_next_letters : Array (Option Value)}
    {f_count_letters : Addr} {oc_count_letters kV_count_letters dc_count_letters pm_count_letters cd_count_letters ct_count_letters : Value} {od_count_letters an_count_letters : Option Addr} {sl_count_letters : Array (Option Value)}
    {f_rotate : Addr} {oc_rotate kV_rotate dc_rotate pm_rotate cd_rotate ct_rotate : Value} {od_rotate an_rotate : Option Addr} {sl_rotate : Array (Option Value)}
    {f_ages_of_letters : Addr} {oc_ages_of_letters kV_ages_of_letters dc_ages_of_letters pm_ages_of_letters cd_ages_of_letters ct_ages_of_letters : Value} {od_ages_of_letters an_ages_of_letters : Option Addr} {sl_ages_of_letters : Array (Option Value)}
    {f_coming_letters : Addr} {oc_coming_letters kV_coming_letters dc_coming_letters pm_coming_letters cd_coming_letters ct_coming_letters : Value} {od_coming_letters an_coming_letters : Option Addr} {sl_coming_letters : Array (Option Value)}
    {f_strokes_of : Addr} {oc_strokes_of kV_strokes_of dc_strokes_of pm_strokes_of cd_strokes_of ct_strokes_of : Value} {od_strokes_of an_strokes_of : Option Addr} {sl_strokes_of : Array (Option Value)}
    {f_strokes_by_age : Addr} {oc_strokes_by_age kV_strokes_by_age dc_strokes_by_age pm_strokes_by_age cd_strokes_by_age ct_strokes_by_age : Value} {od_strokes_by_age an_strokes_by_age : Option Addr} {sl_strokes_by_age : Array (Option Value)}
    {f_ends_by_age : Addr} {oc_ends_by_age kV_ends_by_age dc_ends_by_age pm_ends_by_age cd_ends_by_age ct_ends_by_age : Value} {od_ends_by_age an_ends_by_age : Option Addr} {sl_ends_by_age : Array (Option Value)}
    {f_strokes_in : Addr} {oc_strokes_in kV_strokes_in dc_strokes_in pm_strokes_in cd_strokes_in ct_strokes_in : Value} {od_strokes_in an_strokes_in : Option Addr} {sl_strokes_in : Array (Option Value)}
    {f_end_at : Addr} {oc_end_at kV_end_at dc_end_at pm_end_at cd_end_at ct_end_at : Value} {od_end_at an_end_at : Option Addr} {sl_end_at : Array (Option Value)}
    {f_ends_of_words : Addr} {oc_ends_of_words kV_ends_of_words dc_ends_of_words pm_ends_of_words cd_ends_of_words ct_ends_of_words : Value} {od_ends_of_words an_ends_of_words : Option Addr} {sl_ends_of_words : Array (Option Value)}
    {f_is_steady : Addr} {oc_is_steady kV_is_steady dc_is_steady pm_is_steady cd_is_steady ct_is_steady : Value} {od_is_steady an_is_steady : Option Addr} {sl_is_steady : Array (Option Value)}
    {f_outside_branches : Addr} {oc_outside_branches kV_outside_branches dc_outside_branches pm_outside_branches cd_outside_branches ct_outside_branches : Value} {od_outside_branches an_outside_branches : Option Addr} {sl_outside_branches : Array (Option Value)}
    {f_sums_by_rows : Addr} {oc_sums_by_rows kV_sums_by_rows dc_sums_by_rows pm_sums_by_rows cd_sums_by_rows ct_sums_by_rows : Value} {od_sums_by_rows an_sums_by_rows : Option Addr} {sl_sums_by_rows : Array (Option Value)}
    {f_two_steps : Addr} {oc_two_steps kV_two_steps dc_two_steps pm_two_steps cd_two_steps ct_two_steps : Value} {od_two_steps an_two_steps : Option Addr} {sl_two_steps : Array (Option Value)}
    {f_values_at : Addr} {oc_values_at kV_values_at dc_values_at pm_values_at cd_values_at ct_values_at : Value} {od_values_at an_values_at : Option Addr} {sl_values_at : Array (Option Value)}
    {f_check_am : Addr} {oc_check_am kV_check_am dc_check_am pm_check_am cd_check_am ct_check_am : Value} {od_check_am an_check_am : Option Addr} {sl_check_am : Array (Option Value)}
    {f_check_steady : Addr} {oc_check_steady kV_check_steady dc_check_steady pm_check_steady cd_check_steady ct_check_steady : Value} {od_check_steady an_check_steady : Option Addr} {sl_check_steady : Array (Option Value)}
    {f_strokes_modulo : Addr} {oc_strokes_modulo kV_strokes_modulo dc_strokes_modulo pm_strokes_modulo cd_strokes_modulo ct_strokes_modulo : Value} {od_strokes_modulo an_strokes_modulo : Option Addr} {sl_strokes_modulo : Array (Option Value)}
    {f_end_rows : Addr} {oc_end_rows kV_end_rows dc_end_rows pm_end_rows cd_end_rows ct_end_rows : Value} {od_end_rows an_end_rows : Option Addr} {sl_end_rows : Array (Option Value)}
    {f_end_modulo : Addr} {oc_end_modulo kV_end_modulo dc_end_modulo pm_end_modulo cd_end_modulo ct_end_modulo : Value} {od_end_modulo an_end_modulo : Option Addr} {sl_end_modulo : Array (Option Value)}
    {T_ca : Addr} {o_ca : Obj} {n_ca : Nat}
    {f_ca : Addr} {oc_ca kV_ca dc_ca pm_ca cd_ca ct_ca : Value} {od_ca an_ca : Option Addr} {sl_ca : Array (Option Value)}
    {tk_ca : Tok}
    {T_ba : Addr} {o_ba : Obj} {n_ba : Nat}
    {f_ba : Addr} {oc_ba kV_ba dc_ba pm_ba cd_ba ct_ba : Value} {od_ba an_ba : Option Addr} {sl_ba : Array (Option Value)}
    {tk_ba : Tok}
    {T_ly : Addr} {o_ly : Obj} {n_ly : Nat}
    {f_ly : Addr} {oc_ly kV_ly dc_ly pm_ly cd_ly ct_ly : Value} {od_ly an_ly : Option Addr} {sl_ly : Array (Option Value)}
    {p_ly : Addr}
    {u0_ly u1_ly u2_ly : Tok} {ob_ly : Obj} {nn_ly : Nat}
    {T_ls : Addr} {o_ls : Obj} {n_ls : Nat}
    {f_ls : Addr} {oc_ls kV_ls dc_ls pm_ls cd_ls ct_ls : Value} {od_ls an_ls : Option Addr} {sl_ls : Array (Option Value)}
    {p_ls : Addr}
    {u0_ls u1_ls u2_ls : Tok} {ob_ls : Obj} {nn_ls : Nat}
    {t_MOST_PARTS : Tok}
    {t_MOST_LETTERS : Tok}
    {t_MOST_AGE_SUMMED : Tok}
    {t_MOST_MODULUS : Tok}
    {a_STROKE : Addr}
    {u0_STROKE u1_STROKE u2_STROKE : Tok} {ob_STROKE : Obj} {nn_STROKE : Nat}
    {sa a0 a1 a2 a3 : Addr} {os : Obj} {ns : Nat}
    {u0_st0 u1_st0 : Tok} {ob_st0 : Obj} {nn_st0 : Nat}
    {u0_st1 u1_st1 : Tok} {ob_st1 : Obj} {nn_st1 : Nat}
    {u0_st2 u1_st2 : Tok} {ob_st2 : Obj} {nn_st2 : Nat}
    {u0_st3 u1_st3 : Tok} {ob_st3 : Obj} {nn_st3 : Nat}
    {CS : Addr}
    {E_NotSteady : Addr}
    {f_law : Addr} {oc_law kV_law dc_law pm_law cd_law ct_law : Value} {od_law an_law : Option Addr} {sl_law : Array (Option Value)}
    (a_taken : PySem.W.nsIn K mainGlobals "_law_taken" = some (some (.ref f_taken)))
    (l_taken : K.lookup f_taken = some ⟨oc_taken, od_taken, .func (PySem.W.fnOf "_law_taken" "_law_taken" (defArgs s_law_taken) (defBody s_law_taken) (defScope s_law_taken) .none kV_taken dc_taken pm_taken an_taken cd_taken ct_taken), sl_taken⟩)
    (c_taken : PySem.W.codeIn K cd_taken "_law_taken" = true)
    (k_taken : PySem.W.keepIn K (.ref f_taken) = true)
    (a_pick : PySem.W.nsIn K mainGlobals "_law_pick" = some (some (.ref f_pick)))
    (l_pick : K.lookup f_pick = some ⟨oc_pick, od_pick, .func (PySem.W.fnOf "_law_pick" "_law_pick" (defArgs s_law_pick) (defBody s_law_pick) (defScope s_law_pick) .none kV_pick dc_pick pm_pick an_pick cd_pick ct_pick), sl_pick⟩)
    (c_pick : PySem.W.codeIn K cd_pick "_law_pick" = true)
    (k_pick : PySem.W.keepIn K (.ref f_pick) = true)
    (a_branched : PySem.W.nsIn K mainGlobals "_law_branched" = some (some (.ref f_branched)))
    (l_branched : K.lookup f_branched = some ⟨oc_branched, od_branched, .func (PySem.W.fnOf "_law_branched" "_law_branched" (defArgs s_law_branched) (defBody s_law_branched) (defScope s_law_branched) .none kV_branched dc_branched pm_branched an_branched cd_branched ct_branched), sl_branched⟩)
    (c_branched : PySem.W.codeIn K cd_branched "_law_branched" = true)
    (k_branched : PySem.W.keepIn K (.ref f_branched) = true)
    (a_word : PySem.W.nsIn K mainGlobals "_law_word" = some (some (.ref f_word)))
    (l_word : K.lookup f_word = some ⟨oc_word, od_word, .func (PySem.W.fnOf "_law_word" "_law_word" (defArgs s_law_word) (defBody s_law_word) (defScope s_law_word) .none kV_word dc_word pm_word an_word cd_word ct_word), sl_word⟩)
    (c_word : PySem.W.codeIn K cd_word "_law_word" = true)
    (k_word : PySem.W.keepIn K (.ref f_word) = true)
    (a_book : PySem.W.nsIn K mainGlobals "_law_book" = some (some (.ref f_book)))
    (l_book : K.lookup f_book = some ⟨oc_book, od_book, .func (PySem.W.fnOf "_law_book" "_law_book" (defArgs s_law_book) (defBody s_law_book) (defScope s_law_book) .none kV_book dc_book pm_book an_book cd_book ct_book), sl_book⟩)
    (c_book : PySem.W.codeIn K cd_book "_law_book" = true)
    (k_book : PySem.W.keepIn K (.ref f_book) = true)
    (a_kit : PySem.W.nsIn K mainGlobals "_law_kit" = some (some (.ref f_kit)))
    (l_kit : K.lookup f_kit = some ⟨oc_kit, od_kit, .func (PySem.W.fnOf "_law_kit" "_law_kit" (defArgs s_law_kit) (defBody s_law_kit) (defScope s_law_kit) .none kV_kit dc_kit pm_kit an_kit cd_kit ct_kit), sl_kit⟩)
    (c_kit : PySem.W.codeIn K cd_kit "_law_kit" = true)
    (k_kit : PySem.W.keepIn K (.ref f_kit) = true)
    (a_even_word : PySem.W.nsIn K mainGlobals "_law_even_word" = some (some (.ref f_even_word)))
    (l_even_word : K.lookup f_even_word = some ⟨oc_even_word, od_even_word, .func (PySem.W.fnOf "_law_even_word" "_law_even_word" (defArgs s_law_even_word) (defBody s_law_even_word) (defScope s_law_even_word) .none kV_even_word dc_even_word pm_even_word an_even_word cd_even_word ct_even_word), sl_even_word⟩)
    (c_even_word : PySem.W.codeIn K cd_even_word "_law_even_word" = true)
    (k_even_word : PySem.W.keepIn K (.ref f_even_word) = true)
    (a_even_book : PySem.W.nsIn K mainGlobals "_law_even_book" = some (some (.ref f_even_book)))
    (l_even_book : K.lookup f_even_book = some ⟨oc_even_book, od_even_book, .func (PySem.W.fnOf "_law_even_book" "_law_even_book" (defArgs s_law_even_book) (defBody s_law_even_book) (defScope s_law_even_book) .none kV_even_book dc_even_book pm_even_book an_even_book cd_even_book ct_even_book), sl_even_book⟩)
    (c_even_book : PySem.W.codeIn K cd_even_book "_law_even_book" = true)
    (k_even_book : PySem.W.keepIn K (.ref f_even_book) = true)
    (a_alike : PySem.W.nsIn K mainGlobals "_law_alike" = some (some (.ref f_alike)))
    (l_alike : K.lookup f_alike = some ⟨oc_alike, od_alike, .func (PySem.W.fnOf "_law_alike" "_law_alike" (defArgs s_law_alike) (defBody s_law_alike) (defScope s_law_alike) .none kV_alike dc_alike pm_alike an_alike cd_alike ct_alike), sl_alike⟩)
    (c_alike : PySem.W.codeIn K cd_alike "_law_alike" = true)
    (k_alike : PySem.W.keepIn K (.ref f_alike) = true)
    (a_far : PySem.W.nsIn K mainGlobals "_law_far" = some (some (.ref f_far)))
    (l_far : K.lookup f_far = some ⟨oc_far, od_far, .func (PySem.W.fnOf "_law_far" "_law_far" (defArgs s_law_far) (defBody s_law_far) (defScope s_law_far) .none kV_far dc_far pm_far an_far cd_far ct_far), sl_far⟩)
    (c_far : PySem.W.codeIn K cd_far "_law_far" = true)
    (k_far : PySem.W.keepIn K (.ref f_far) = true)
    (a_is_integer : PySem.W.nsIn K mainGlobals "is_integer" = some (some (.ref f_is_integer)))
    (l_is_integer : K.lookup f_is_integer = some ⟨oc_is_integer, od_is_integer, .func (PySem.W.fnOf "is_integer" "is_integer" (defArgs s_is_integer) (defBody s_is_integer) (defScope s_is_integer) .none kV_is_integer dc_is_integer pm_is_integer an_is_integer cd_is_integer ct_is_integer), sl_is_integer⟩)
    (c_is_integer : PySem.W.codeIn K cd_is_integer "is_integer" = true)
    (k_is_integer : PySem.W.keepIn K (.ref f_is_integer) = true)
    (a_is_word : PySem.W.nsIn K mainGlobals "is_word" = some (some (.ref f_is_word)))
    (l_is_word : K.lookup f_is_word = some ⟨oc_is_word, od_is_word, .func (PySem.W.fnOf "is_word" "is_word" (defArgs s_is_word) (defBody s_is_word) (defScope s_is_word) .none kV_is_word dc_is_word pm_is_word an_is_word cd_is_word ct_is_word), sl_is_word⟩)
    (c_is_word : PySem.W.codeIn K cd_is_word "is_word" = true)
    (k_is_word : PySem.W.keepIn K (.ref f_is_word) = true)
    (a_has_book_form : PySem.W.nsIn K mainGlobals "has_book_form" = some (some (.ref f_has_book_form)))
    (l_has_book_form : K.lookup f_has_book_form = some ⟨oc_has_book_form, od_has_book_form, .func (PySem.W.fnOf "has_book_form" "has_book_form" (defArgs s_has_book_form) (defBody s_has_book_form) (defScope s_has_book_form) .none kV_has_book_form dc_has_book_form pm_has_book_form an_has_book_form cd_has_book_form ct_has_book_form), sl_has_book_form⟩)
    (c_has_book_form : PySem.W.codeIn K cd_has_book_form "has_book_form" = true)
    (k_has_book_form : PySem.W.keepIn K (.ref f_has_book_form) = true)
    (a_check_book : PySem.W.nsIn K mainGlobals "check_book" = some (some (.ref f_check_book)))
    (l_check_book : K.lookup f_check_book = some ⟨oc_check_book, od_check_book, .func (PySem.W.fnOf "check_book" "check_book" (defArgs s_check_book) (defBody s_check_book) (defScope s_check_book) .none kV_check_book dc_check_book pm_check_book an_check_book cd_check_book ct_check_book), sl_check_book⟩)
    (c_check_book : PySem.W.codeIn K cd_check_book "check_book" = true)
    (k_check_book : PySem.W.keepIn K (.ref f_check_book) = true)
    (a_check_number : PySem.W.nsIn K mainGlobals "check_number" = some (some (.ref f_check_number)))
    (l_check_number : K.lookup f_check_number = some ⟨oc_check_number, od_check_number, .func (PySem.W.fnOf "check_number" "check_number" (defArgs s_check_number) (defBody s_check_number) (defScope s_check_number) .none kV_check_number dc_check_number pm_check_number an_check_number cd_check_number ct_check_number), sl_check_number⟩)
    (c_check_number : PySem.W.codeIn K cd_check_number "check_number" = true)
    (k_check_number : PySem.W.keepIn K (.ref f_check_number) = true)
    (a_letters_in : PySem.W.nsIn K mainGlobals "letters_in" = some (some (.ref f_letters_in)))
    (l_letters_in : K.lookup f_letters_in = some ⟨oc_letters_in, od_letters_in, .func (PySem.W.fnOf "letters_in" "letters_in" (defArgs s_letters_in) (defBody s_letters_in) (defScope s_letters_in) .none kV_letters_in dc_letters_in pm_letters_in an_letters_in cd_letters_in ct_letters_in), sl_letters_in⟩)
    (c_letters_in : PySem.W.codeIn K cd_letters_in "letters_in" = true)
    (k_letters_in : PySem.W.keepIn K (.ref f_letters_in) = true)
    (a_next_letters : PySem.W.nsIn K mainGlobals "next_letters" = some (some (.ref f_next_letters)))
    (l_next_letters : K.lookup f_next_letters = some ⟨oc_next_letters, od_next_letters, .func (PySem.W.fnOf "next_letters" "next_letters" (defArgs s_next_letters) (defBody s_next_letters) (defScope s_next_letters) .none kV_next_letters dc_next_letters pm_next_letters an_next_letters cd_next_letters ct_next_letters), sl_next_letters⟩)
    (c_next_letters : PySem.W.codeIn K cd_next_letters "next_letters" = true)
    (k_next_letters : PySem.W.keepIn K (.ref f_next_letters) = true)
    (a_count_letters : PySem.W.nsIn K mainGlobals "count_letters" = some (some (.ref f_count_letters)))
    (l_count_letters : K.lookup f_count_letters = some ⟨oc_count_letters, od_count_letters, .func (PySem.W.fnOf "count_letters" "count_letters" (defArgs s_count_letters) (defBody s_count_letters) (defScope s_count_letters) .none kV_count_letters dc_count_letters pm_count_letters an_count_letters cd_count_letters ct_count_letters), sl_count_letters⟩)
    (c_count_letters : PySem.W.codeIn K cd_count_letters "count_letters" = true)
    (k_count_letters : PySem.W.keepIn K (.ref f_count_letters) = true)
    (a_rotate : PySem.W.nsIn K mainGlobals "rotate" = some (some (.ref f_rotate)))
    (l_rotate : K.lookup f_rotate = some ⟨oc_rotate, od_rotate, .func (PySem.W.fnOf "rotate" "rotate" (defArgs s_rotate) (defBody s_rotate) (defScope s_rotate) .none kV_rotate dc_rotate pm_rotate an_rotate cd_rotate ct_rotate), sl_rotate⟩)
    (c_rotate : PySem.W.codeIn K cd_rotate "rotate" = true)
    (k_rotate : PySem.W.keepIn K (.ref f_rotate) = true)
    (a_ages_of_letters : PySem.W.nsIn K mainGlobals "ages_of_letters" = some (some (.ref f_ages_of_letters)))
    (l_ages_of_letters : K.lookup f_ages_of_letters = some ⟨oc_ages_of_letters, od_ages_of_letters, .func (PySem.W.fnOf "ages_of_letters" "ages_of_letters" (defArgs s_ages_of_letters) (defBody s_ages_of_letters) (defScope s_ages_of_letters) .none kV_ages_of_letters dc_ages_of_letters pm_ages_of_letters an_ages_of_letters cd_ages_of_letters ct_ages_of_letters), sl_ages_of_letters⟩)
    (c_ages_of_letters : PySem.W.codeIn K cd_ages_of_letters "ages_of_letters" = true)
    (k_ages_of_letters : PySem.W.keepIn K (.ref f_ages_of_letters) = true)
    (a_coming_letters : PySem.W.nsIn K mainGlobals "coming_letters" = some (some (.ref f_coming_letters)))
    (l_coming_letters : K.lookup f_coming_letters = some ⟨oc_coming_letters, od_coming_letters, .func (PySem.W.fnOf "coming_letters" "coming_letters" (defArgs s_coming_letters) (defBody s_coming_letters) (defScope s_coming_letters) .none kV_coming_letters dc_coming_letters pm_coming_letters an_coming_letters cd_coming_letters ct_coming_letters), sl_coming_letters⟩)
    (c_coming_letters : PySem.W.codeIn K cd_coming_letters "coming_letters" = true)
    (k_coming_letters : PySem.W.keepIn K (.ref f_coming_letters) = true)
    (a_strokes_of : PySem.W.nsIn K mainGlobals "strokes_of" = some (some (.ref f_strokes_of)))
    (l_strokes_of : K.lookup f_strokes_of = some ⟨oc_strokes_of, od_strokes_of, .func (PySem.W.fnOf "strokes_of" "strokes_of" (defArgs s_strokes_of) (defBody s_strokes_of) (defScope s_strokes_of) .none kV_strokes_of dc_strokes_of pm_strokes_of an_strokes_of cd_strokes_of ct_strokes_of), sl_strokes_of⟩)
    (c_strokes_of : PySem.W.codeIn K cd_strokes_of "strokes_of" = true)
    (k_strokes_of : PySem.W.keepIn K (.ref f_strokes_of) = true)
    (a_strokes_by_age : PySem.W.nsIn K mainGlobals "strokes_by_age" = some (some (.ref f_strokes_by_age)))
    (l_strokes_by_age : K.lookup f_strokes_by_age = some ⟨oc_strokes_by_age, od_strokes_by_age, .func (PySem.W.fnOf "strokes_by_age" "strokes_by_age" (defArgs s_strokes_by_age) (defBody s_strokes_by_age) (defScope s_strokes_by_age) .none kV_strokes_by_age dc_strokes_by_age pm_strokes_by_age an_strokes_by_age cd_strokes_by_age ct_strokes_by_age), sl_strokes_by_age⟩)
    (c_strokes_by_age : PySem.W.codeIn K cd_strokes_by_age "strokes_by_age" = true)
    (k_strokes_by_age : PySem.W.keepIn K (.ref f_strokes_by_age) = true)
    (a_ends_by_age : PySem.W.nsIn K mainGlobals "ends_by_age" = some (some (.ref f_ends_by_age)))
    (l_ends_by_age : K.lookup f_ends_by_age = some ⟨oc_ends_by_age, od_ends_by_age, .func (PySem.W.fnOf "ends_by_age" "ends_by_age" (defArgs s_ends_by_age) (defBody s_ends_by_age) (defScope s_ends_by_age) .none kV_ends_by_age dc_ends_by_age pm_ends_by_age an_ends_by_age cd_ends_by_age ct_ends_by_age), sl_ends_by_age⟩)
    (c_ends_by_age : PySem.W.codeIn K cd_ends_by_age "ends_by_age" = true)
    (k_ends_by_age : PySem.W.keepIn K (.ref f_ends_by_age) = true)
    (a_strokes_in : PySem.W.nsIn K mainGlobals "strokes_in" = some (some (.ref f_strokes_in)))
    (l_strokes_in : K.lookup f_strokes_in = some ⟨oc_strokes_in, od_strokes_in, .func (PySem.W.fnOf "strokes_in" "strokes_in" (defArgs s_strokes_in) (defBody s_strokes_in) (defScope s_strokes_in) .none kV_strokes_in dc_strokes_in pm_strokes_in an_strokes_in cd_strokes_in ct_strokes_in), sl_strokes_in⟩)
    (c_strokes_in : PySem.W.codeIn K cd_strokes_in "strokes_in" = true)
    (k_strokes_in : PySem.W.keepIn K (.ref f_strokes_in) = true)
    (a_end_at : PySem.W.nsIn K mainGlobals "end_at" = some (some (.ref f_end_at)))
    (l_end_at : K.lookup f_end_at = some ⟨oc_end_at, od_end_at, .func (PySem.W.fnOf "end_at" "end_at" (defArgs s_end_at) (defBody s_end_at) (defScope s_end_at) .none kV_end_at dc_end_at pm_end_at an_end_at cd_end_at ct_end_at), sl_end_at⟩)
    (c_end_at : PySem.W.codeIn K cd_end_at "end_at" = true)
    (k_end_at : PySem.W.keepIn K (.ref f_end_at) = true)
    (a_ends_of_words : PySem.W.nsIn K mainGlobals "ends_of_words" = some (some (.ref f_ends_of_words)))
    (l_ends_of_words : K.lookup f_ends_of_words = some ⟨oc_ends_of_words, od_ends_of_words, .func (PySem.W.fnOf "ends_of_words" "ends_of_words" (defArgs s_ends_of_words) (defBody s_ends_of_words) (defScope s_ends_of_words) .none kV_ends_of_words dc_ends_of_words pm_ends_of_words an_ends_of_words cd_ends_of_words ct_ends_of_words), sl_ends_of_words⟩)
    (c_ends_of_words : PySem.W.codeIn K cd_ends_of_words "ends_of_words" = true)
    (k_ends_of_words : PySem.W.keepIn K (.ref f_ends_of_words) = true)
    (a_is_steady : PySem.W.nsIn K mainGlobals "is_steady" = some (some (.ref f_is_steady)))
    (l_is_steady : K.lookup f_is_steady = some ⟨oc_is_steady, od_is_steady, .func (PySem.W.fnOf "is_steady" "is_steady" (defArgs s_is_steady) (defBody s_is_steady) (defScope s_is_steady) .none kV_is_steady dc_is_steady pm_is_steady an_is_steady cd_is_steady ct_is_steady), sl_is_steady⟩)
    (c_is_steady : PySem.W.codeIn K cd_is_steady "is_steady" = true)
    (k_is_steady : PySem.W.keepIn K (.ref f_is_steady) = true)
    (a_outside_branches : PySem.W.nsIn K mainGlobals "outside_branches" = some (some (.ref f_outside_branches)))
    (l_outside_branches : K.lookup f_outside_branches = some ⟨oc_outside_branches, od_outside_branches, .func (PySem.W.fnOf "outside_branches" "outside_branches" (defArgs s_outside_branches) (defBody s_outside_branches) (defScope s_outside_branches) .none kV_outside_branches dc_outside_branches pm_outside_branches an_outside_branches cd_outside_branches ct_outside_branches), sl_outside_branches⟩)
    (c_outside_branches : PySem.W.codeIn K cd_outside_branches "outside_branches" = true)
    (k_outside_branches : PySem.W.keepIn K (.ref f_outside_branches) = true)
    (a_sums_by_rows : PySem.W.nsIn K mainGlobals "sums_by_rows" = some (some (.ref f_sums_by_rows)))
    (l_sums_by_rows : K.lookup f_sums_by_rows = some ⟨oc_sums_by_rows, od_sums_by_rows, .func (PySem.W.fnOf "sums_by_rows" "sums_by_rows" (defArgs s_sums_by_rows) (defBody s_sums_by_rows) (defScope s_sums_by_rows) .none kV_sums_by_rows dc_sums_by_rows pm_sums_by_rows an_sums_by_rows cd_sums_by_rows ct_sums_by_rows), sl_sums_by_rows⟩)
    (c_sums_by_rows : PySem.W.codeIn K cd_sums_by_rows "sums_by_rows" = true)
    (k_sums_by_rows : PySem.W.keepIn K (.ref f_sums_by_rows) = true)
    (a_two_steps : PySem.W.nsIn K mainGlobals "two_steps" = some (some (.ref f_two_steps)))
    (l_two_steps : K.lookup f_two_steps = some ⟨oc_two_steps, od_two_steps, .func (PySem.W.fnOf "two_steps" "two_steps" (defArgs s_two_steps) (defBody s_two_steps) (defScope s_two_steps) .none kV_two_steps dc_two_steps pm_two_steps an_two_steps cd_two_steps ct_two_steps), sl_two_steps⟩)
    (c_two_steps : PySem.W.codeIn K cd_two_steps "two_steps" = true)
    (k_two_steps : PySem.W.keepIn K (.ref f_two_steps) = true)
    (a_values_at : PySem.W.nsIn K mainGlobals "values_at" = some (some (.ref f_values_at)))
    (l_values_at : K.lookup f_values_at = some ⟨oc_values_at, od_values_at, .func (PySem.W.fnOf "values_at" "values_at" (defArgs s_values_at) (defBody s_values_at) (defScope s_values_at) .none kV_values_at dc_values_at pm_values_at an_values_at cd_values_at ct_values_at), sl_values_at⟩)
    (c_values_at : PySem.W.codeIn K cd_values_at "values_at" = true)
    (k_values_at : PySem.W.keepIn K (.ref f_values_at) = true)
    (a_check_am : PySem.W.nsIn K mainGlobals "check_age_and_modulus" = some (some (.ref f_check_am)))
    (l_check_am : K.lookup f_check_am = some ⟨oc_check_am, od_check_am, .func (PySem.W.fnOf "check_age_and_modulus" "check_age_and_modulus" (defArgs s_check_age_and_modulus) (defBody s_check_age_and_modulus) (defScope s_check_age_and_modulus) .none kV_check_am dc_check_am pm_check_am an_check_am cd_check_am ct_check_am), sl_check_am⟩)
    (c_check_am : PySem.W.codeIn K cd_check_am "check_age_and_modulus" = true)
    (k_check_am : PySem.W.keepIn K (.ref f_check_am) = true)
    (a_check_steady : PySem.W.nsIn K mainGlobals "check_steady" = some (some (.ref f_check_steady)))
    (l_check_steady : K.lookup f_check_steady = some ⟨oc_check_steady, od_check_steady, .func (PySem.W.fnOf "check_steady" "check_steady" (defArgs s_check_steady) (defBody s_check_steady) (defScope s_check_steady) .none kV_check_steady dc_check_steady pm_check_steady an_check_steady cd_check_steady ct_check_steady), sl_check_steady⟩)
    (c_check_steady : PySem.W.codeIn K cd_check_steady "check_steady" = true)
    (k_check_steady : PySem.W.keepIn K (.ref f_check_steady) = true)
    (a_strokes_modulo : PySem.W.nsIn K mainGlobals "strokes_modulo" = some (some (.ref f_strokes_modulo)))
    (l_strokes_modulo : K.lookup f_strokes_modulo = some ⟨oc_strokes_modulo, od_strokes_modulo, .func (PySem.W.fnOf "strokes_modulo" "strokes_modulo" (defArgs s_strokes_modulo) (defBody s_strokes_modulo) (defScope s_strokes_modulo) .none kV_strokes_modulo dc_strokes_modulo pm_strokes_modulo an_strokes_modulo cd_strokes_modulo ct_strokes_modulo), sl_strokes_modulo⟩)
    (c_strokes_modulo : PySem.W.codeIn K cd_strokes_modulo "strokes_modulo" = true)
    (k_strokes_modulo : PySem.W.keepIn K (.ref f_strokes_modulo) = true)
    (a_end_rows : PySem.W.nsIn K mainGlobals "end_rows" = some (some (.ref f_end_rows)))
    (l_end_rows : K.lookup f_end_rows = some ⟨oc_end_rows, od_end_rows, .func (PySem.W.fnOf "end_rows" "end_rows" (defArgs s_end_rows) (defBody s_end_rows) (defScope s_end_rows) .none kV_end_rows dc_end_rows pm_end_rows an_end_rows cd_end_rows ct_end_rows), sl_end_rows⟩)
    (c_end_rows : PySem.W.codeIn K cd_end_rows "end_rows" = true)
    (k_end_rows : PySem.W.keepIn K (.ref f_end_rows) = true)
    (a_end_modulo : PySem.W.nsIn K mainGlobals "end_modulo" = some (some (.ref f_end_modulo)))
    (l_end_modulo : K.lookup f_end_modulo = some ⟨oc_end_modulo, od_end_modulo, .func (PySem.W.fnOf "end_modulo" "end_modulo" (defArgs s_end_modulo) (defBody s_end_modulo) (defScope s_end_modulo) .none kV_end_modulo dc_end_modulo pm_end_modulo an_end_modulo cd_end_modulo ct_end_modulo), sl_end_modulo⟩)
    (c_end_modulo : PySem.W.codeIn K cd_end_modulo "end_modulo" = true)
    (k_end_modulo : PySem.W.keepIn K (.ref f_end_modulo) = true)
    (z_isinstance : PySem.W.nsIn K mainGlobals "isinstance" = some none)
    (z_int : PySem.W.nsIn K mainGlobals "int" = some none)
    (z_bool : PySem.W.nsIn K mainGlobals "bool" = some none)
    (z_str : PySem.W.nsIn K mainGlobals "str" = some none)
    (z_tuple : PySem.W.nsIn K mainGlobals "tuple" = some none)
    (z_list : PySem.W.nsIn K mainGlobals "list" = some none)
    (z_len : PySem.W.nsIn K mainGlobals "len" = some none)
    (z_enumerate : PySem.W.nsIn K mainGlobals "enumerate" = some none)
    (z_sorted : PySem.W.nsIn K mainGlobals "sorted" = some none)
    (z_range : PySem.W.nsIn K mainGlobals "range" = some none)
    (z_zip : PySem.W.nsIn K mainGlobals "zip" = some none)
    (z_sum : PySem.W.nsIn K mainGlobals "sum" = some none)
    (z_reversed : PySem.W.nsIn K mainGlobals "reversed" = some none)
    (z_abs : PySem.W.nsIn K mainGlobals "abs" = some none)
    (z_all : PySem.W.nsIn K mainGlobals "all" = some none)
    (a_ca : PySem.W.nsIn K mainGlobals "check_age" = some (some (.ref f_ca)))
    (l_ca : K.lookup f_ca = some ⟨oc_ca, od_ca, .func (PySem.W.fnOf "check_age" "check_age" (defArgs s_check_age) (defBody s_check_age) (defScope s_check_age) (.ref T_ca) kV_ca dc_ca pm_ca an_ca cd_ca ct_ca), sl_ca⟩)
    (c_ca : PySem.W.codeIn K cd_ca "check_age" = true)
    (k_ca : PySem.W.keepIn K (.ref f_ca) = true)
    (tt_ca : K.lookup T_ca = some o_ca)
    (u_ca : o_ca.data = .seq (([.int 1000 tk_ca] : List Value).toArray) n_ca)
    (a_ba : PySem.W.nsIn K mainGlobals "check_book_and_age" = some (some (.ref f_ba)))
    (l_ba : K.lookup f_ba = some ⟨oc_ba, od_ba, .func (PySem.W.fnOf "check_book_and_age" "check_book_and_age" (defArgs s_check_book_and_age) (defBody s_check_book_and_age) (defScope s_check_book_and_age) (.ref T_ba) kV_ba dc_ba pm_ba an_ba cd_ba ct_ba), sl_ba⟩)
    (c_ba : PySem.W.codeIn K cd_ba "check_book_and_age" = true)
    (k_ba : PySem.W.keepIn K (.ref f_ba) = true)
    (tt_ba : K.lookup T_ba = some o_ba)
    (u_ba : o_ba.data = .seq (([.int 1000 tk_ba] : List Value).toArray) n_ba)
    (a_ly : PySem.W.nsIn K mainGlobals "lay" = some (some (.ref f_ly)))
    (l_ly : K.lookup f_ly = some ⟨oc_ly, od_ly, .func (PySem.W.fnOf "lay" "lay" (defArgs s_lay) (defBody s_lay) (defScope s_lay) (.ref T_ly) kV_ly dc_ly pm_ly an_ly cd_ly ct_ly), sl_ly⟩)
    (c_ly : PySem.W.codeIn K cd_ly "lay" = true)
    (k_ly : PySem.W.keepIn K (.ref f_ly) = true)
    (tt_ly : K.lookup T_ly = some o_ly)
    (u_ly : o_ly.data = .seq (([.ref p_ly] : List Value).toArray) n_ly)
    (lp_ly : K.lookup p_ly = some ob_ly)
    (e_ly : ob_ly.cls = .type "tuple" ∧ ob_ly.data = .seq (([.int (0) u0_ly, .int (0) u1_ly, .int (0) u2_ly] : List Value).toArray) nn_ly)
    (a_ls : PySem.W.nsIn K mainGlobals "lay_strokes" = some (some (.ref f_ls)))
    (l_ls : K.lookup f_ls = some ⟨oc_ls, od_ls, .func (PySem.W.fnOf "lay_strokes" "lay_strokes" (defArgs s_lay_strokes) (defBody s_lay_strokes) (defScope s_lay_strokes) (.ref T_ls) kV_ls dc_ls pm_ls an_ls cd_ls ct_ls), sl_ls⟩)
    (c_ls : PySem.W.codeIn K cd_ls "lay_strokes" = true)
    (k_ls : PySem.W.keepIn K (.ref f_ls) = true)
    (tt_ls : K.lookup T_ls = some o_ls)
    (u_ls : o_ls.data = .seq (([.ref p_ls] : List Value).toArray) n_ls)
    (lp_ls : K.lookup p_ls = some ob_ls)
    (e_ls : ob_ls.cls = .type "tuple" ∧ ob_ls.data = .seq (([.int (0) u0_ls, .int (0) u1_ls, .int (0) u2_ls] : List Value).toArray) nn_ls)
    (m_MOST_PARTS : PySem.W.nsIn K mainGlobals "MOST_PARTS" = some (some (.int 40 t_MOST_PARTS)))
    (m_MOST_LETTERS : PySem.W.nsIn K mainGlobals "MOST_LETTERS" = some (some (.int 8 t_MOST_LETTERS)))
    (m_MOST_AGE_SUMMED : PySem.W.nsIn K mainGlobals "MOST_AGE_SUMMED" = some (some (.int 10000000000000000000000000000000000000000 t_MOST_AGE_SUMMED)))
    (m_MOST_MODULUS : PySem.W.nsIn K mainGlobals "MOST_MODULUS" = some (some (.int 1000000000000000000 t_MOST_MODULUS)))
    (m_STROKE : PySem.W.nsIn K mainGlobals "STROKE" = some (some (.ref a_STROKE)))
    (l_STROKE : K.lookup a_STROKE = some ob_STROKE)
    (e_STROKE : ob_STROKE.cls = .type "tuple" ∧ ob_STROKE.data = .seq (([.int (1) u0_STROKE, .int (0) u1_STROKE, .int (0) u2_STROKE] : List Value).toArray) nn_STROKE)
    (mS : PySem.W.nsIn K mainGlobals "STEPS" = some (some (.ref sa)))
    (lS : K.lookup sa = some os)
    (eS : os.cls = .type "tuple" ∧ os.data = .seq (([.ref a0, .ref a1, .ref a2, .ref a3] : List Value).toArray) ns)
    (l_st0 : K.lookup a0 = some ob_st0)
    (e_st0 : ob_st0.cls = .type "tuple" ∧ ob_st0.data = .seq (([.int (1) u0_st0, .int (0) u1_st0] : List Value).toArray) nn_st0)
    (l_st1 : K.lookup a1 = some ob_st1)
    (e_st1 : ob_st1.cls = .type "tuple" ∧ ob_st1.data = .seq (([.int (0) u0_st1, .int (1) u1_st1] : List Value).toArray) nn_st1)
    (l_st2 : K.lookup a2 = some ob_st2)
    (e_st2 : ob_st2.cls = .type "tuple" ∧ ob_st2.data = .seq (([.int (-1) u0_st2, .int (0) u1_st2] : List Value).toArray) nn_st2)
    (l_st3 : K.lookup a3 = some ob_st3)
    (e_st3 : ob_st3.cls = .type "tuple" ∧ ob_st3.data = .seq (([.int (0) u0_st3, .int (-1) u1_st3] : List Value).toArray) nn_st3)
    (aCS : PySem.W.nsIn K mainGlobals "StrokeError" = some (some (.ref CS)))
    (exS : PySem.W.subIn K (.ref CS) (.type "BaseException") = some true)
    (hdS : PySem.W.hasDictIn K CS = true)
    (tyS : PySem.W.typeIn K (.ref CS) = some (.type "type"))
    (hnC : PySem.W.specialIn K (.builtin "object.__class__") "__get__" = some (some (.builtin "getset_descriptor.__get__")))
    (htC : PySem.W.takesIn K (.builtin "object.__class__") = some true)
    (aENotSteady : PySem.W.nsIn K mainGlobals "NotSteady" = some (some (.ref E_NotSteady)))
    (gaNotSteady : PySem.W.findIn K (.ref E_NotSteady) "__getattribute__" = some (some (.builtin "BaseException.__getattribute__")))
    (ggNotSteady : PySem.W.findIn K (.ref E_NotSteady) "__getattr__" = some none)
    (exNotSteady : PySem.W.subIn K (.ref E_NotSteady) (.type "BaseException") = some true)
    (hdNotSteady : PySem.W.hasDictIn K E_NotSteady = true)
    (tyNotSteady : PySem.W.typeIn K (.ref E_NotSteady) = some (.type "type"))
    (kpNotSteady : PySem.W.keepIn K (.ref E_NotSteady) = true)
    (haNotSteady : PySem.W.findIn K (.ref E_NotSteady) "__class__" = some (some (.builtin "object.__class__")))
    (hmNotSteady : PySem.W.mroIn K E_NotSteady (.type "object") = some true)
    (suNotSteady : PySem.W.subIn K (.ref E_NotSteady) (.ref CS) = some true)
    (xiNotSteady : PySem.W.excIn K E_NotSteady [.type "ValueError", .type "Exception", .type "BaseException", .type "object"] "ValueError.__new__" = true)
    (kiNotSteady : PySem.W.kitOne K (.ref E_NotSteady) (.ref E_NotSteady) = some true)
    (a_law : PySem.W.nsIn K mainGlobals "law" = some (some (.ref f_law)))
    (l_law : K.lookup f_law = some ⟨oc_law, od_law, .func (PySem.W.fnOf "law" "law" (defArgs s_law) (defBody s_law) (defScope s_law) .none kV_law dc_law pm_law an_law cd_law ct_law), sl_law⟩)
    (c_law : PySem.W.codeIn K cd_law "law" = true)
    (k_law : PySem.W.keepIn K (.ref f_law) = true) :
    ∃ fd : FuncData, (∀ (s : Shared) (v : Value), BindsTo s fd ⟨[v], []⟩ [("script", v)]) ∧ ∀ base : Heap, K.In base → base.Ns mainGlobals mg → FnOk l.prog w K mg base CX0 8 fa fd ["script"] (spLaw K) := by
  have e := hfa.symm.trans (PySem.W.mg_of X G a_law)
  cases e
  have m : ∀ {x : Str} {u : Value}, PySem.W.nsIn K mainGlobals x = some (some u) → mg x = some u := fun h => PySem.W.mg_of X G h
  have z : ∀ {x : Str}, PySem.W.nsIn K mainGlobals x = some none → mg x = none := fun h => PySem.W.mg_none_of X G h
  have D : Defs K mg := ⟨def_mk X G a_taken l_taken c_taken k_taken, def_mk X G a_pick l_pick c_pick k_pick, def_mk X G a_branched l_branched c_branched k_branched, def_mk X G a_word l_word c_word k_word, def_mk X G a_book l_book c_book k_book, def_mk X G a_kit l_kit c_kit k_kit, def_mk X G a_even_word l_even_word c_even_word k_even_word, def_mk X G a_even_book l_even_book c_even_book k_even_book, def_mk X G a_alike l_alike c_alike k_alike, def_mk X G a_far l_far c_far k_far, def_mk X G a_is_integer l_is_integer c_is_integer k_is_integer, def_mk X G a_is_word l_is_word c_is_word k_is_word, def_mk X G a_has_book_form l_has_book_form c_has_book_form k_has_book_form, def_mk X G a_check_book l_check_book c_check_book k_check_book, def_mk X G a_check_number l_check_number c_check_number k_check_number, def_mk X G a_letters_in l_letters_in c_letters_in k_letters_in, def_mk X G a_next_letters l_next_letters c_next_letters k_next_letters, def_mk X G a_count_letters l_count_letters c_count_letters k_count_letters, def_mk X G a_rotate l_rotate c_rotate k_rotate, def_mk X G a_ages_of_letters l_ages_of_letters c_ages_of_letters k_ages_of_letters, def_mk X G a_coming_letters l_coming_letters c_coming_letters k_coming_letters, def_mk X G a_strokes_of l_strokes_of c_strokes_of k_strokes_of, def_mk X G a_strokes_by_age l_strokes_by_age c_strokes_by_age k_strokes_by_age, def_mk X G a_ends_by_age l_ends_by_age c_ends_by_age k_ends_by_age, def_mk X G a_strokes_in l_strokes_in c_strokes_in k_strokes_in, def_mk X G a_end_at l_end_at c_end_at k_end_at, def_mk X G a_ends_of_words l_ends_of_words c_ends_of_words k_ends_of_words, def_mk X G a_is_steady l_is_steady c_is_steady k_is_steady, def_mk X G a_outside_branches l_outside_branches c_outside_branches k_outside_branches, def_mk X G a_sums_by_rows l_sums_by_rows c_sums_by_rows k_sums_by_rows, def_mk X G a_two_steps l_two_steps c_two_steps k_two_steps, def_mk X G a_values_at l_values_at c_values_at k_values_at, def_mk X G a_check_am l_check_am c_check_am k_check_am, def_mk X G a_check_steady l_check_steady c_check_steady k_check_steady, def_mk X G a_strokes_modulo l_strokes_modulo c_strokes_modulo k_strokes_modulo, def_mk X G a_end_rows l_end_rows c_end_rows k_end_rows, def_mk X G a_end_modulo l_end_modulo c_end_modulo k_end_modulo⟩
  have B : Blt mg := ⟨z z_isinstance, z z_int, z z_bool, z z_str, z z_tuple, z z_list, z z_len, z z_enumerate, z z_sorted, z z_range, z z_zip, z z_sum, z z_reversed, z z_abs, z z_all⟩
  have D_ca : DefDAt K mg "check_age" s_check_age [.int 1000] := ⟨f_ca, _, m a_ca, ⟨_, _, _, _, _, _, _, _, _, _, rfl, l_ca, c_ca, .inr ⟨by simp, T_ca, o_ca, _, _, rfl, tt_ca, u_ca, .cons ⟨_, rfl⟩ .nil⟩, .inl rfl⟩, k_ca⟩
  have D_ba : DefDAt K mg "check_book_and_age" s_check_book_and_age [.int 1000] := ⟨f_ba, _, m a_ba, ⟨_, _, _, _, _, _, _, _, _, _, rfl, l_ba, c_ba, .inr ⟨by simp, T_ba, o_ba, _, _, rfl, tt_ba, u_ba, .cons ⟨_, rfl⟩ .nil⟩, .inl rfl⟩, k_ba⟩
  have P_ly : ModT K p_ly [.int (0), .int (0), .int (0)] := modT_of lp_ly e_ly.1 e_ly.2 (by show 3 ≤ 16777216; decide) (.cons ⟨_, rfl⟩ (.cons ⟨_, rfl⟩ (.cons ⟨_, rfl⟩ (.nil))))
  have D_ly : DefDAt K mg "lay" s_lay [.ref p_ly] := ⟨f_ly, _, m a_ly, ⟨_, _, _, _, _, _, _, _, _, _, rfl, l_ly, c_ly, .inr ⟨by simp, T_ly, o_ly, _, _, rfl, tt_ly, u_ly, .cons rfl .nil⟩, .inl rfl⟩, k_ly⟩
  have P_ls : ModT K p_ls [.int (0), .int (0), .int (0)] := modT_of lp_ls e_ls.1 e_ls.2 (by show 3 ≤ 16777216; decide) (.cons ⟨_, rfl⟩ (.cons ⟨_, rfl⟩ (.cons ⟨_, rfl⟩ (.nil))))
  have D_ls : DefDAt K mg "lay_strokes" s_lay_strokes [.ref p_ls] := ⟨f_ls, _, m a_ls, ⟨_, _, _, _, _, _, _, _, _, _, rfl, l_ls, c_ls, .inr ⟨by simp, T_ls, o_ls, _, _, rfl, tt_ls, u_ls, .cons rfl .nil⟩, .inl rfl⟩, k_ls⟩
  have h_STROKE : ModT K a_STROKE [.int (1), .int (0), .int (0)] := modT_of l_STROKE e_STROKE.1 e_STROKE.2 (by show 3 ≤ 16777216; decide) (.cons ⟨_, rfl⟩ (.cons ⟨_, rfl⟩ (.cons ⟨_, rfl⟩ (.nil))))
  have hS : StepsAt K sa := ⟨a0, a1, a2, a3, modT_of lS eS.1 eS.2 (by show 4 ≤ 16777216; decide) (.cons rfl (.cons rfl (.cons rfl (.cons rfl .nil)))), modT_of l_st0 e_st0.1 e_st0.2 (by show 2 ≤ 16777216; decide) (.cons ⟨_, rfl⟩ (.cons ⟨_, rfl⟩ (.nil))), modT_of l_st1 e_st1.1 e_st1.2 (by show 2 ≤ 16777216; decide) (.cons ⟨_, rfl⟩ (.cons ⟨_, rfl⟩ (.nil))), modT_of l_st2 e_st2.1 e_st2.2 (by show 2 ≤ 16777216; decide) (.cons ⟨_, rfl⟩ (.cons ⟨_, rfl⟩ (.nil))), modT_of l_st3 e_st3.1 e_st3.2 (by show 2 ≤ 16777216; decide) (.cons ⟨_, rfl⟩ (.cons ⟨_, rfl⟩ (.nil)))⟩
  exact ⟨PySem.W.fnOf "law" "law" (defArgs s_law) (defBody s_law) (defScope s_law) .none kV_law dc_law pm_law an_law cd_law ct_law, fun s v => .of_eq (by first | rfl | with_unfolding_all rfl), fun base _ _ =>
    ok_law12 (fun_mk (st := s_law) l_law c_law k_law) (all_got D B D_ca D_ba D_ly P_ly D_ls P_ls (m m_MOST_PARTS) (m m_MOST_LETTERS) (m m_MOST_AGE_SUMMED) (m m_MOST_MODULUS) (m m_STROKE) h_STROKE (m mS) hS (m aCS) (m aENotSteady) xiNotSteady kpNotSteady exNotSteady tyNotSteady ⟨gaNotSteady, ggNotSteady, exNotSteady, hdNotSteady, haNotSteady, hnC, htC, hmNotSteady⟩ (PySem.W.exm_ref exS hdS tyS suNotSteady) kiNotSteady)⟩
theorem walk_law {l : PySem.W.OpenLaw} {q : Program} {loose : List Str} {XP : (Str → Option Value) → Heap → Prop} {YP : World → Heap → Prop} {d : DefRec} {K : Params → PySem.W.Frag} (hn : l.most = some 63) (hdf : d.params.defaults = [])
    (hY : ∀ (w : World) (h : Heap), YP w h → (K w.params).In h)
    (F : ∀ (w : World) (mg : Str → Option Value) (fa : Addr) (h : Heap), (K w.params).In h → h.Ns mainGlobals mg → mg d.name = some (.ref fa) →
      ∃ fd : FuncData, (∀ (s : Shared) (u : Value), BindsTo s fd ⟨[u], []⟩ [("script", u)]) ∧ ∀ base : Heap, (K w.params).In base → base.Ns mainGlobals mg → FnOk l.prog w (K w.params) mg base CX0 8 fa fd ["script"] (spLaw (K w.params))) :
    PySem.W.WalkO q loose XP YP l.row.toRowW d [] (fun f vs => PySem.call f vs) :=
  L2.walk_of (n := 63) (k := 8) (x := "script") (CX := fun _ => CX0) (sp := fun w => spLaw (K w.params)) hn (by decide) hdf ⟨rfl, by decide, by decide⟩ hY F (fun _ _ a ns hl _ hS => ⟨a, ns, rfl, hS, hl, fun _ => rfl⟩) fun _ _ _ _ _ z => z
end SK
open PySem PySem.W PyProof.Rows in
set_option maxRecDepth 100000 in
set_option maxHeartbeats 0 in
theorem PySem.Challenge.cw_strokeonce_k12_whole_sums_modulo_holds : PySem.Challenge.rw_strokeonce_k12_whole_sums_modulo.Holds := by
  w_on; o_law; k_head; (case hw => w_witness2)
  k_fill
  refine SK.walk_law (l := PySem.Challenge.rw_strokeonce_k12_whole_sums_modulo) rfl rfl (fun w h Y => PySem.W.kIn_of Y) ?F
  case F =>
    intro w mg fa h KX G hmg
    refine' SK.law_mk KX G hmg ?a_taken ?l_taken ?c_taken ?k_taken ?a_pick ?l_pick ?c_pick ?k_pick ?a_branched ?l_branched ?c_branched ?k_branched ?a_word ?l_word ?c_word ?k_word ?a_book ?l_book ?c_book ?k_book ?a_kit ?l_kit ?c_kit ?k_kit ?a_even_word ?l_even_word ?c_even_word ?k_even_word ?a_even_book ?l_even_book ?c_even_book ?k_even_book ?a_alike ?l_alike ?c_alike ?k_alike ?a_far ?l_far ?c_far ?k_far ?a_is_integer ?l_is_integer ?c_is_integer ?k_is_integer ?a_is_word ?l_is_word ?c_is_word ?k_is_word ?a_has_book_form ?l_has_book_form ?c_has_book_form ?k_has_book_form ?a_check_book ?l_check_book ?c_check_book ?k_check_book ?a_check_number ?l_check_number ?c_check_number ?k_check_number ?a_letters_in ?l_letters_in ?c_letters_in ?k_letters_in ?a_next_letters ?l_next_letters ?c_next_letters ?k_next_letters ?a_count_letters ?l_count_letters ?c_count_letters ?k_count_letters ?a_rotate ?l_rotate ?c_rotate ?k_rotate ?a_ages_of_letters ?l_ages_of_letters ?c_ages_of_letters ?k_ages_of_letters ?a_coming_letters ?l_coming_letters ?c_coming_letters ?k_coming_letters ?a_strokes_of ?l_strokes_of ?c_strokes_of ?k_strokes_of ?a_strokes_by_age ?l_strokes_by_age ?c_strokes_by_age ?k_strokes_by_age ?a_ends_by_age ?l_ends_by_age ?c_ends_by_age ?k_ends_by_age ?a_strokes_in ?l_strokes_in ?c_strokes_in ?k_strokes_in ?a_end_at ?l_end_at ?c_end_at ?k_end_at ?a_ends_of_words ?l_ends_of_words ?c_ends_of_words ?k_ends_of_words ?a_is_steady ?l_is_steady ?c_is_steady ?k_is_steady ?a_outside_branches ?l_outside_branches ?c_outside_branches ?k_outside_branches ?a_sums_by_rows ?l_sums_by_rows ?c_sums_by_rows ?k_sums_by_rows ?a_two_steps ?l_two_steps ?c_two_steps ?k_two_steps ?a_values_at ?l_values_at ?c_values_at ?k_values_at ?a_check_am ?l_check_am ?c_check_am ?k_check_am ?a_check_steady ?l_check_steady ?c_check_steady ?k_check_steady ?a_strokes_modulo ?l_strokes_modulo ?c_strokes_modulo ?k_strokes_modulo ?a_end_rows ?l_end_rows ?c_end_rows ?k_end_rows ?a_end_modulo ?l_end_modulo ?c_end_modulo ?k_end_modulo ?z_isinstance ?z_int ?z_bool ?z_str ?z_tuple ?z_list ?z_len ?z_enumerate ?z_sorted ?z_range ?z_zip ?z_sum ?z_reversed ?z_abs ?z_all ?a_ca ?l_ca ?c_ca ?k_ca ?tt_ca ?u_ca ?a_ba ?l_ba ?c_ba ?k_ba ?tt_ba ?u_ba ?a_ly ?l_ly ?c_ly ?k_ly ?tt_ly ?u_ly ?lp_ly ?e_ly ?a_ls ?l_ls ?c_ls ?k_ls ?tt_ls ?u_ls ?lp_ls ?e_ls ?m_MOST_PARTS ?m_MOST_LETTERS ?m_MOST_AGE_SUMMED ?m_MOST_MODULUS ?m_STROKE ?l_STROKE ?e_STROKE ?mS ?lS ?eS ?l_st0 ?e_st0 ?l_st1 ?e_st1 ?l_st2 ?e_st2 ?l_st3 ?e_st3 ?aCS ?exS ?hdS ?tyS ?hnC ?htC ?aENotSteady ?gaNotSteady ?ggNotSteady ?exNotSteady ?hdNotSteady ?tyNotSteady ?kpNotSteady ?haNotSteady ?hmNotSteady ?suNotSteady ?xiNotSteady ?kiNotSteady ?a_law ?l_law ?c_law ?k_law
    (case a_taken => k_is)
    (case l_taken => k_is)
    (case c_taken => k_is)
    (case k_taken => k_is)
    (case a_pick => k_is)
    (case l_pick => k_is)
    (case c_pick => k_is)
    (case k_pick => k_is)
    (case a_branched => k_is)
    (case l_branched => k_is)
    (case c_branched => k_is)
    (case k_branched => k_is)
    (case a_word => k_is)
    (case l_word => k_is)
    (case c_word => k_is)
    (case k_word => k_is)
    (case a_book => k_is)
    (case l_book => k_is)
    (case c_book => k_is)
    (case k_book => k_is)
    (case a_kit => k_is)
    (case l_kit => k_is)
    (case c_kit => k_is)
    (case k_kit => k_is)
    (case a_even_word => k_is)
    (case l_even_word => k_is)
    (case c_even_word => k_is)
    (case k_even_word => k_is)
    (case a_even_book => k_is)
    (case l_even_book => k_is)
    (case c_even_book => k_is)
    (case k_even_book => k_is)
    (case a_alike => k_is)
    (case l_alike => k_is)
    (case c_alike => k_is)
    (case k_alike => k_is)
    (case a_far => k_is)
    (case l_far => k_is)
    (case c_far => k_is)
    (case k_far => k_is)
    (case a_is_integer => k_is)
    (case l_is_integer => k_is)
    (case c_is_integer => k_is)
    (case k_is_integer => k_is)
    (case a_is_word => k_is)
    (case l_is_word => k_is)
    (case c_is_word => k_is)
    (case k_is_word => k_is)
    (case a_has_book_form => k_is)
    (case l_has_book_form => k_is)
    (case c_has_book_form => k_is)
    (case k_has_book_form => k_is)
    (case a_check_book => k_is)
    (case l_check_book => k_is)
    (case c_check_book => k_is)
    (case k_check_book => k_is)
    (case a_check_number => k_is)
    (case l_check_number => k_is)
    (case c_check_number => k_is)
    (case k_check_number => k_is)
    (case a_letters_in => k_is)
    (case l_letters_in => k_is)
    (case c_letters_in => k_is)
    (case k_letters_in => k_is)
    (case a_next_letters => k_is)
    (case l_next_letters => k_is)
    (case c_next_letters => k_is)
    (case k_next_letters => k_is)
    (case a_count_letters => k_is)
    (case l_count_letters => k_is)
    (case c_count_letters => k_is)
    (case k_count_letters => k_is)
    (case a_rotate => k_is)
    (case l_rotate => k_is)
    (case c_rotate => k_is)
    (case k_rotate => k_is)
    (case a_ages_of_letters => k_is)
    (case l_ages_of_letters => k_is)
    (case c_ages_of_letters => k_is)
    (case k_ages_of_letters => k_is)
    (case a_coming_letters => k_is)
    (case l_coming_letters => k_is)
    (case c_coming_letters => k_is)
    (case k_coming_letters => k_is)
    (case a_strokes_of => k_is)
    (case l_strokes_of => k_is)
    (case c_strokes_of => k_is)
    (case k_strokes_of => k_is)
    (case a_strokes_by_age => k_is)
    (case l_strokes_by_age => k_is)
    (case c_strokes_by_age => k_is)
    (case k_strokes_by_age => k_is)
    (case a_ends_by_age => k_is)
    (case l_ends_by_age => k_is)
    (case c_ends_by_age => k_is)
    (case k_ends_by_age => k_is)
    (case a_strokes_in => k_is)
    (case l_strokes_in => k_is)
    (case c_strokes_in => k_is)
    (case k_strokes_in => k_is)
    (case a_end_at => k_is)
    (case l_end_at => k_is)
    (case c_end_at => k_is)
    (case k_end_at => k_is)
    (case a_ends_of_words => k_is)
    (case l_ends_of_words => k_is)
    (case c_ends_of_words => k_is)
    (case k_ends_of_words => k_is)
    (case a_is_steady => k_is)
    (case l_is_steady => k_is)
    (case c_is_steady => k_is)
    (case k_is_steady => k_is)
    (case a_outside_branches => k_is)
    (case l_outside_branches => k_is)
    (case c_outside_branches => k_is)
    (case k_outside_branches => k_is)
    (case a_sums_by_rows => k_is)
    (case l_sums_by_rows => k_is)
    (case c_sums_by_rows => k_is)
    (case k_sums_by_rows => k_is)
    (case a_two_steps => k_is)
    (case l_two_steps => k_is)
    (case c_two_steps => k_is)
    (case k_two_steps => k_is)
    (case a_values_at => k_is)
    (case l_values_at => k_is)
    (case c_values_at => k_is)
    (case k_values_at => k_is)
    (case a_check_am => k_is)
    (case l_check_am => k_is)
    (case c_check_am => k_is)
    (case k_check_am => k_is)
    (case a_check_steady => k_is)
    (case l_check_steady => k_is)
    (case c_check_steady => k_is)
    (case k_check_steady => k_is)
    (case a_strokes_modulo => k_is)
    (case l_strokes_modulo => k_is)
    (case c_strokes_modulo => k_is)
    (case k_strokes_modulo => k_is)
    (case a_end_rows => k_is)
    (case l_end_rows => k_is)
    (case c_end_rows => k_is)
    (case k_end_rows => k_is)
    (case a_end_modulo => k_is)
    (case l_end_modulo => k_is)
    (case c_end_modulo => k_is)
    (case k_end_modulo => k_is)
    (case z_isinstance => k_is)
    (case z_int => k_is)
    (case z_bool => k_is)
    (case z_str => k_is)
    (case z_tuple => k_is)
    (case z_list => k_is)
    (case z_len => k_is)
    (case z_enumerate => k_is)
    (case z_sorted => k_is)
    (case z_range => k_is)
    (case z_zip => k_is)
    (case z_sum => k_is)
    (case z_reversed => k_is)
    (case z_abs => k_is)
    (case z_all => k_is)
    (case a_ca => k_is)
    (case l_ca => k_is)
    (case c_ca => k_is)
    (case k_ca => k_is)
    (case tt_ca => k_is)
    (case u_ca => exact rfl)
    (case a_ba => k_is)
    (case l_ba => k_is)
    (case c_ba => k_is)
    (case k_ba => k_is)
    (case tt_ba => k_is)
    (case u_ba => exact rfl)
    (case a_ly => k_is)
    (case l_ly => k_is)
    (case c_ly => k_is)
    (case k_ly => k_is)
    (case tt_ly => k_is)
    (case u_ly => exact rfl)
    (case lp_ly => k_is)
    (case e_ly => exact ⟨rfl, rfl⟩)
    (case a_ls => k_is)
    (case l_ls => k_is)
    (case c_ls => k_is)
    (case k_ls => k_is)
    (case tt_ls => k_is)
    (case u_ls => exact rfl)
    (case lp_ls => k_is)
    (case e_ls => exact ⟨rfl, rfl⟩)
    (case m_MOST_PARTS => k_is)
    (case m_MOST_LETTERS => k_is)
    (case m_MOST_AGE_SUMMED => k_is)
    (case m_MOST_MODULUS => k_is)
    (case m_STROKE => k_is)
    (case l_STROKE => k_is)
    (case e_STROKE => exact ⟨rfl, rfl⟩)
    (case mS => k_is)
    (case lS => k_is)
    (case eS => exact ⟨rfl, rfl⟩)
    (case l_st0 => k_is)
    (case e_st0 => exact ⟨rfl, rfl⟩)
    (case l_st1 => k_is)
    (case e_st1 => exact ⟨rfl, rfl⟩)
    (case l_st2 => k_is)
    (case e_st2 => exact ⟨rfl, rfl⟩)
    (case l_st3 => k_is)
    (case e_st3 => exact ⟨rfl, rfl⟩)
    (case aCS => k_is)
    (case exS => k_is)
    (case hdS => k_is)
    (case tyS => k_is)
    (case hnC => k_is)
    (case htC => k_is)
    (case aENotSteady => k_is)
    (case gaNotSteady => k_is)
    (case ggNotSteady => k_is)
    (case exNotSteady => k_is)
    (case hdNotSteady => k_is)
    (case tyNotSteady => k_is)
    (case kpNotSteady => k_is)
    (case haNotSteady => k_is)
    (case hmNotSteady => k_is)
    (case suNotSteady => k_is)
    (case xiNotSteady => first | k_exc | k_is | first | kernel_rfl | decide +kernel)
    (case kiNotSteady => first | kernel_rfl | decide +kernel)
    (case a_law => k_is)
    (case l_law => k_is)
    (case c_law => k_is)
    (case k_law => k_is)
#print axioms PySem.Challenge.cw_strokeonce_k12_whole_sums_modulo_holds
