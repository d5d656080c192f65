import PyProof.Rows.All
import Wide.All
import OpenK.AllK
import Wide.FinOn
import HandS.ForMost
import HandS.IsInst
import HandS.Flow
import PySem.Challenge.RW_strokeonce_k00_whole_books_as_text
import HandS.Wide
import HandS.Text
import HandS.ReplaceList
import KE.GoesEnum
import HandS.Iter
import HandS.Defaults
import HandS.Codes
import HandS.FStr
import HandS.Zip
import HandS.Walk
import HandS.ExcInit
import KE.KExcSuper
import KE.KSuper
import HandS.ForExc
import KE.KExcIs
import HandS.Replace
import KE.GoesEnumKw
import PyProof.Rows.CallKwBuiltin
import HandS.SetBool
import HandS.Strs
import HandS.More
import HandS.TupSets
import HandS.DictTup
import HandS.ListItems
import HandS.SortInts
import KE.KDictList
import KE.KItemsList
import HandS.ExcIs
import HandS.ReplaceLit
import PyProof.StrOps2
import HandS.EndOwn
import KE.OsRunLaw
set_option Elab.async false
set_option linter.all false
set_option maxRecDepth 100000
set_option maxHeartbeats 4000000
/-! common words: heaps, the row of draws, words of signs, books -/
namespace SK
open PySem PySem.Spec PyProof.Rows L2

/-! ### heaps -/
theorem same_upd {H : Hp} {p : Addr} {o : HO} (h : H p = none) : Same H (upd H p o) := fun b x e => by
  rw [upd_ne (ne_of_none e h)]
  exact e
theorem sUpd {H H1 : Hp} {p : Addr} {o : HO} (s : Same H H1) (h : H1 p = none) : Same H (upd H1 p o) := s.trans (same_upd h)
theorem sNone {H H1 : Hp} {p : Addr} (s : Same H H1) (h : H1 p = none) : H p = none := s.free h
/-- a change of a new thing is none of what stood -/
theorem sPut {H H1 : Hp} {p : Addr} {o : HO} (s : Same H H1) (h : H p = none) : Same H (L2.upd H1 p o) := fun b x e => by
  rw [upd_ne (ne_of_none e h)]
  exact s b x e
theorem sTup {K : PySem.W.Frag} {H H' : Hp} {a : Addr} {xs : List V} (e : Same H H') (h : SqT K H a xs) : SqT K H' a xs := by
  rcases h with (h | ⟨o, h⟩) | h
  · exact .inl (.inl (e _ _ h))
  · exact .inl (.inr ⟨o, e _ _ h⟩)
  · exact .inr h
/-- all that was tracked but r is as it was -/
def SameX (r : Addr) (H H' : Hp) : Prop := ∀ b o, b ≠ r → H b = some o → H' b = some o
theorem SameX.refl {r : Addr} {H : Hp} : SameX r H H := fun _ _ _ h => h
theorem SameX.trans {r : Addr} {H H1 H2 : Hp} (a : SameX r H H1) (b : SameX r H1 H2) : SameX r H H2 := fun c o n h => b c o n (a c o n h)
theorem SameX.of {r : Addr} {H H' : Hp} (s : Same H H') : SameX r H H' := fun b o _ h => s b o h
theorem SameX.new {r : Addr} {H H1 : Hp} {p : Addr} {o : HO} (s : SameX r H H1) (h : H1 p = none) : SameX r H (upd H1 p o) := s.trans (.of (same_upd h))
theorem SameX.at {r : Addr} {H H1 : Hp} {o : HO} (s : SameX r H H1) : SameX r H (upd H1 r o) := fun b x n e => by
  rw [upd_ne n]
  exact s b x n e
theorem SameX.put {r : Addr} {H H1 : Hp} {p : Addr} {o : HO} (s : SameX r H H1) (h : H p = none) : SameX r H (upd H1 p o) := fun b x n e => by
  rw [upd_ne (ne_of_none e h)]
  exact s b x n e

/-! ### the row of draws: [script, how many are taken, mixed, the rest] -/
abbrev Scr := Addr × List Int
def RowOk (K : PySem.W.Frag) (S : Scr) (H : Hp) (r : Addr) : Prop := ∃ (i s c : Int),
  H r = some (.lst [.ref S.1, .int i, .int s, .int c]) ∧ SqL K H S.1 (S.2.map V.int) ∧ 0 ≤ i ∧ S.1 ≠ r ∧ S.2.length ≤ 63
theorem sqX {K : PySem.W.Frag} {H H' : Hp} {a r : Addr} {xs : List V} (s : SameX r H H') (n : a ≠ r) (h : SqL K H a xs) : SqL K H' a xs := by
  rcases h with (h | ⟨o, h⟩) | h
  · exact .inl (.inl (s _ _ n h))
  · exact .inl (.inr ⟨o, s _ _ n h⟩)
  · exact .inr h
/-- what was readable ahead of a new thing at p is so behind a change of p -/
theorem sqPut {K : PySem.W.Frag} {H H' : Hp} {a p : Addr} {xs : List V} {o : HO} (h : SqL K H a xs) (n : H p = none) (h' : SqL K H' a xs) : SqL K (upd H' p o) a xs := by
  have go : a ≠ p → SqL K (upd H' p o) a xs := fun ne => by
    rcases h' with (h | ⟨o, h⟩) | h
    · exact .inl (.inl (by rw [upd_ne ne]; exact h))
    · exact .inl (.inr ⟨o, by rw [upd_ne ne]; exact h⟩)
    · exact .inr h
  rcases h with (h | ⟨o, h⟩) | h
  · exact go (ne_of_none h n)
  · exact go (ne_of_none h n)
  · exact .inr h
section
variable {K : PySem.W.Frag} {S : Scr} {H H' H1 H2 : Hp} {r p : Addr} {o : HO}
theorem RowOk.same (h : RowOk K S H r) (s : Same H H') : RowOk K S H' r := by
  obtain ⟨i, st, c, h1, h2, h3, h4, h5⟩ := h
  exact ⟨i, st, c, s _ _ h1, s.seq h2, h3, h4, h5⟩
theorem RowOk.there (h : RowOk K S H r) {p : Addr} (n : H p = none) : p ≠ r := by
  obtain ⟨i, st, c, h1, _⟩ := h
  exact (ne_of_none h1 n).symm
theorem RowOk.put (h : RowOk K S H r) (n : H p = none) (h' : RowOk K S H' r) : RowOk K S (upd H' p o) r := by
  have hp : p ≠ r := h.there n
  obtain ⟨i, st, c, h1, h2, h3, h4, h5⟩ := h'
  obtain ⟨_, _, _, _, g, _⟩ := h
  exact ⟨i, st, c, by rw [upd_ne hp.symm]; exact h1, sqPut g n h2, h3, h4, h5⟩
/-- between: what a step that draws may change -/
structure Drawn (K : PySem.W.Frag) (S : Scr) (r : Addr) (H H' : Hp) : Prop where
  same : SameX r H H'
  row : RowOk K S H' r
theorem Drawn.trans (a : Drawn K S r H H1) (b : Drawn K S r H1 H2) : Drawn K S r H H2 := ⟨a.same.trans b.same, b.row⟩
theorem Drawn.new (a : Drawn K S r H H1) (h : H1 p = none) : Drawn K S r H (upd H1 p o) := ⟨a.same.new h, a.row.same (same_upd h)⟩
theorem Drawn.refl (h : RowOk K S H r) : Drawn K S r H H := ⟨.refl, h⟩
theorem Drawn.then (a : Drawn K S r H H1) (b : Same H1 H2) : Drawn K S r H H2 := ⟨a.same.trans (.of b), a.row.same b⟩
/-- a thing that is new since H is changed -/
theorem Drawn.put (a : Drawn K S r H H1) (h : RowOk K S H r) (n : H p = none) : Drawn K S r H (upd H1 p o) := ⟨a.same.put n, h.put n a.row⟩
/-- what stands and is not the row -/
theorem Drawn.at (a : Drawn K S r H H') {b : Addr} {o : HO} (n : b ≠ r) (h : H b = some o) : H' b = some o := a.same b o n h
theorem RowOk.ne (hr : RowOk K S H r) {b : Addr} {xs : List V} (h : H b = some (.tup xs)) : b ≠ r := by
  obtain ⟨_, _, _, h1, _⟩ := hr
  exact ne_of h h1 (by intro z; cases z)
theorem Drawn.tup (a : Drawn K S r H H') (hr : RowOk K S H r) {b : Addr} {xs : List V} (h : H b = some (.tup xs)) : H' b = some (.tup xs) := a.at (hr.ne h) h
end

/-! ### short words -/
section
variable {X : Cx}
theorem pcat {a b : Expr} {ta tb : TE} {pos : Pos} (ha : PE X a ta) (hb : PE X b tb) : PE X (.BinOp a .Add b pos) (tOp rCat ta tb) := pe_op op_cat ha hb
theorem padd {a b : Expr} {ta tb : TE} {pos : Pos} (ha : PE X a ta) (hb : PE X b tb) : PE X (.BinOp a .Add b pos) (tOp (rI0 fun i j => .int (i + j)) ta tb) := pe_op op_add ha hb
theorem psub {a b : Expr} {ta tb : TE} {pos : Pos} (ha : PE X a ta) (hb : PE X b tb) : PE X (.BinOp a .Sub b pos) (tOp (rI0 fun i j => .int (i - j)) ta tb) := pe_op op_sub ha hb
theorem pmod {a b : Expr} {ta tb : TE} {pos : Pos} (ha : PE X a ta) (hb : PE X b tb) : PE X (.BinOp a .Mod b pos) (tOp (rI (fun _ j => 0 < j) fun i j => .int (i % j)) ta tb) := pe_op op_mod ha hb
def rInt1 : List V → Hp → VK → Prop := fun xs H Q => (∃ i, xs = [.int i] ∧ Q (.int i) H) ∨ ∃ k, xs = [.bl k] ∧ Q (.int (if k then 1 else 0)) H
theorem pint {e : Expr} {te : TE} {p pos : Pos} (m : X.mg "int" = none) (h : PE X e te) (hg : Gl X "int" := by rfl) (hs1 : starEach [e] X.env = (false, eval e X.env) :: starEach [] X.env := by rfl) (hp1 : (backTo pos (starEach [] X.env)).any (·.1) = false := by rfl) : PE X (.Call (.Name "int" p) [e] [] pos) (tCB rInt1 (tCons te tNil)) :=
  pe_callTy call_int1 hg m (by decide +kernel) (pa_cons h pa_nil hs1) (by decide) (by decide) hs1 hp1
theorem pix {a : Expr} {ta : TE} {b : Expr} {tb : TE} {pos : Pos} (ha : PE X a ta) (hb : PE X b tb) (hs : PlainIx b := by exact fun _ _ => rfl) : PE X (.Subscript a b pos) (tOp (rIxL X.K) ta tb) := pe_ix ix_list ha hb hs
theorem pixT {a : Expr} {ta : TE} {b : Expr} {tb : TE} {pos : Pos} (ha : PE X a ta) (hb : PE X b tb) (hs : PlainIx b := by exact fun _ _ => rfl) : PE X (.Subscript a b pos) (tOp (rIxT X.K) ta tb) := pe_ix ix_tup ha hb hs
def rLenS (K : PySem.W.Frag) : List V → Hp → VK → Prop := fun xs H Q => ∃ p ys, xs = [.ref p] ∧ (SqL K H p ys ∨ SqT K H p ys) ∧ Q (.int ys.length) H
theorem plen {e : Expr} {te : TE} {p pos : Pos} (m : X.mg "len" = none) (h : PE X e te) (hg : Gl X "len" := by rfl) (hs1 : starEach [e] X.env = (false, eval e X.env) :: starEach [] X.env := by rfl) (hp1 : (backTo pos (starEach [] X.env)).any (·.1) = false := by rfl) : PE X (.Call (.Name "len" p) [e] [] pos) (tCB (rLenS X.K) (tCons te tNil)) :=
  pe_callB call_len_seq hg m PySem.boot_len (pa_cons h pa_nil hs1) (by decide) (by decide) hs1 hp1
theorem sapp {a e : Expr} {ta te : TE} {p1 p2 p3 : Pos} (ha : PE X a ta) (he : PE X e te) (hb : attributeBase a "append" X.env (eval a X.env) = eval a X.env := by rfl)
    (hf : ((backTo p2 (starEach (e :: []) X.env)).all (fun x => !x.1) && (backToKw p2 (keywordEach [] X.env)).all (fun x => x.1.isSome) && decide ((e :: []).length + ([] : List Keyword).length + (if ([] : List Keyword).isEmpty then 0 else 1) < 30)) = true := by rfl)
    (hl : (p1.endLine == p2.line) = true := by rfl) (hs1 : starEach [e] X.env = (false, eval e X.env) :: starEach [] X.env := by rfl) (hp1 : (backTo p2 (starEach [] X.env)).any (·.1) = false := by rfl) : PS X (.Expr (.Call (.Attribute a "append" p1) [e] [] p2) p3) (tDrop (tBM X.K "list" rAppend ta (tCons te tNil))) :=
  ps_expr (pe_bm PySem.F.plainAttrs_list PySem.F.slot_list_append PySem.F.type_list_append mt_append ha (pa_cons he pa_nil hs1) hb hf hl hs1 hp1)
end
theorem at0 {α : Type} {x : α} {xs : List α} : atI (x :: xs) 0 = some x := atI_nat (j := 0) rfl
theorem at1 {α : Type} {x y : α} {xs : List α} : atI (x :: y :: xs) 1 = some y := atI_nat (j := 1) rfl
theorem at2 {α : Type} {x y z : α} {xs : List α} : atI (x :: y :: z :: xs) 2 = some z := atI_nat (j := 2) rfl
theorem at3 {α : Type} {x y z u : α} {xs : List α} : atI (x :: y :: z :: u :: xs) 3 = some u := atI_nat (j := 3) rfl
theorem szl (n : Nat) (h : n ≤ 16777216 := by first | decide | omega | simp) : n ≤ sizeLine := by rw [sizeLine_eq]; exact h
end SK
/-! the program's text by places -/
namespace SK
open PySem PySem.Spec PyProof.Rows L2
def topS (i : Nat) : Stmt := PySem.Challenge.pw_strokeonce_k00_whole_books_as_text.main.body.getD i (.Pass ⟨0, 0, 0, 0⟩)
def clsB : Stmt → List Stmt
  | .ClassDef (body := b) .. => b
  | _ => []
abbrev c_StrokeError : Stmt := topS 1
abbrev c_BadBook : Stmt := topS 2
abbrev s_BadBook_init : Stmt := (clsB c_BadBook).getD 0 (.Pass ⟨0, 0, 0, 0⟩)
abbrev n_BadBook_init : List Str := ["self", "letter"]
abbrev jp_BadBook_init : Pos := ⟨7, 25, 7, 54⟩
abbrev c_NotText : Stmt := topS 3
abbrev c_BadLine : Stmt := topS 4
abbrev s_BadLine_init : Stmt := (clsB c_BadLine).getD 0 (.Pass ⟨0, 0, 0, 0⟩)
abbrev n_BadLine_init : List Str := ["self", "line", "word"]
abbrev jp_BadLine_init : Pos := ⟨14, 25, 14, 52⟩
abbrev s_is_integer : Stmt := topS 8
abbrev n_is_integer : List Str := ["value"]
theorem sc_is_integer : FnScope n_is_integer ["value"] (defScope s_is_integer) := ⟨rfl, rfl, rfl, by decide +kernel, rfl, by decide +kernel, by decide +kernel⟩
abbrev s_is_word : Stmt := topS 9
abbrev n_is_word : List Str := ["value", "many", "letters", "depth", "part"]
theorem sc_is_word : FnScope n_is_word ["value", "many"] (defScope s_is_word) := ⟨rfl, rfl, rfl, by decide +kernel, rfl, by decide +kernel, by decide +kernel⟩
abbrev s_has_book_form : Stmt := topS 10
abbrev n_has_book_form : List Str := ["value", "words"]
theorem sc_has_book_form : FnScope n_has_book_form ["value"] (defScope s_has_book_form) := ⟨rfl, rfl, rfl, by decide +kernel, rfl, by decide +kernel, by decide +kernel⟩
abbrev s_check_book : Stmt := topS 11
abbrev n_check_book : List Str := ["value", "words", "start", "letter", "word"]
theorem sc_check_book : FnScope n_check_book ["value"] (defScope s_check_book) := ⟨rfl, rfl, rfl, by decide +kernel, rfl, by decide +kernel, by decide +kernel⟩
abbrev s_text_of_word : Stmt := topS 16
abbrev n_text_of_word : List Str := ["word", "part"]
theorem sc_text_of_word : FnScope n_text_of_word ["word"] (defScope s_text_of_word) := ⟨rfl, rfl, rfl, by decide +kernel, rfl, by decide +kernel, by decide +kernel⟩
abbrev s_write_book : Stmt := topS 17
abbrev n_write_book : List Str := ["book", "words", "start", "head", "word"]
theorem sc_write_book : FnScope n_write_book ["book"] (defScope s_write_book) := ⟨rfl, rfl, rfl, by decide +kernel, rfl, by decide +kernel, by decide +kernel⟩
abbrev s_word_of_text : Stmt := topS 18
abbrev n_word_of_text : List Str := ["text", "word", "sign"]
theorem sc_word_of_text : FnScope n_word_of_text ["text"] (defScope s_word_of_text) := ⟨rfl, rfl, rfl, by decide +kernel, rfl, by decide +kernel, by decide +kernel⟩
abbrev s_words_of_line : Stmt := topS 19
abbrev n_words_of_line : List Str := ["line", "word"]
theorem sc_words_of_line : FnScope n_words_of_line ["line"] (defScope s_words_of_line) := ⟨rfl, rfl, rfl, by decide +kernel, rfl, by decide +kernel, by decide +kernel⟩
abbrev s_read_line : Stmt := topS 20
abbrev n_read_line : List Str := ["words", "line", "heads", "word"]
theorem sc_read_line : FnScope n_read_line ["words", "line", "heads"] (defScope s_read_line) := ⟨rfl, rfl, rfl, by decide +kernel, rfl, by decide +kernel, by decide +kernel⟩
abbrev s_read_book : Stmt := topS 21
abbrev n_read_book : List Str := ["text", "lines", "told", "line", "content", "words", "many", "word", "_"]
theorem sc_read_book : FnScope n_read_book ["text"] (defScope s_read_book) := ⟨rfl, rfl, rfl, by decide +kernel, rfl, by decide +kernel, by decide +kernel⟩
abbrev s_letters_in : Stmt := topS 23
abbrev n_letters_in : List Str := ["parts", "part"]
theorem sc_letters_in : FnScope n_letters_in ["parts"] (defScope s_letters_in) := ⟨rfl, rfl, rfl, by decide +kernel, rfl, by decide +kernel, by decide +kernel⟩
abbrev s_next_letters : Stmt := topS 24
abbrev n_next_letters : List Str := ["words", "letters", "letter", "part"]
theorem sc_next_letters : FnScope n_next_letters ["words", "letters"] (defScope s_next_letters) := ⟨rfl, rfl, rfl, by decide +kernel, rfl, by decide +kernel, by decide +kernel⟩
abbrev s_ages_of_letters : Stmt := topS 25
abbrev n_ages_of_letters : List Str := ["words", "parts", "ages", "age", "fresh", "letter"]
theorem sc_ages_of_letters : FnScope n_ages_of_letters ["words", "parts"] (defScope s_ages_of_letters) := ⟨rfl, rfl, rfl, by decide +kernel, rfl, by decide +kernel, by decide +kernel⟩
abbrev s_first_ages : Stmt := topS 26
abbrev n_first_ages : List Str := ["book", "words", "start"]
theorem sc_first_ages : FnScope n_first_ages ["book"] (defScope s_first_ages) := ⟨rfl, rfl, rfl, by decide +kernel, rfl, by decide +kernel, by decide +kernel⟩
abbrev s_law_taken : Stmt := topS 28
abbrev n_law_taken : List Str := ["row", "many", "found", "cell"]
theorem sc_law_taken : FnScope n_law_taken ["row", "many"] (defScope s_law_taken) := ⟨rfl, rfl, rfl, by decide +kernel, rfl, by decide +kernel, by decide +kernel⟩
abbrev s_law_pick : Stmt := topS 29
abbrev n_law_pick : List Str := ["row", "things"]
theorem sc_law_pick : FnScope n_law_pick ["row", "things"] (defScope s_law_pick) := ⟨rfl, rfl, rfl, by decide +kernel, rfl, by decide +kernel, by decide +kernel⟩
abbrev s_law_branched : Stmt := topS 30
abbrev n_law_branched : List Str := ["row", "word", "letters", "found", "at", "turn"]
theorem sc_law_branched : FnScope n_law_branched ["row", "word", "letters"] (defScope s_law_branched) := ⟨rfl, rfl, rfl, by decide +kernel, rfl, by decide +kernel, by decide +kernel⟩
abbrev s_law_word : Stmt := topS 31
abbrev n_law_word : List Str := ["row", "letters", "most", "found", "turn"]
theorem sc_law_word : FnScope n_law_word ["row", "letters", "most"] (defScope s_law_word) := ⟨rfl, rfl, rfl, by decide +kernel, rfl, by decide +kernel, by decide +kernel⟩
abbrev s_law_book : Stmt := topS 32
abbrev n_law_book : List Str := ["row", "letters", "words", "k"]
theorem sc_law_book : FnScope n_law_book ["row"] (defScope s_law_book) := ⟨rfl, rfl, rfl, by decide +kernel, rfl, by decide +kernel, by decide +kernel⟩
abbrev s_law_word_text : Stmt := topS 33
abbrev n_law_word_text : List Str := ["word", "item"]
theorem sc_law_word_text : FnScope n_law_word_text ["word"] (defScope s_law_word_text) := ⟨rfl, rfl, rfl, by decide +kernel, rfl, by decide +kernel, by decide +kernel⟩
abbrev s_law_alike : Stmt := topS 34
abbrev n_law_alike : List Str := ["found", "due", "k"]
theorem sc_law_alike : FnScope n_law_alike ["found", "due"] (defScope s_law_alike) := ⟨rfl, rfl, rfl, by decide +kernel, rfl, by decide +kernel, by decide +kernel⟩
abbrev s_law_grown : Stmt := topS 35
abbrev n_law_grown : List Str := ["book", "age", "word", "turn", "found", "item"]
theorem sc_law_grown : FnScope n_law_grown ["book", "age"] (defScope s_law_grown) := ⟨rfl, rfl, rfl, by decide +kernel, rfl, by decide +kernel, by decide +kernel⟩
abbrev s_law : Stmt := topS 36
abbrev n_law : List Str := ["script", "row", "book", "lines", "text", "told", "found", "age", "item", "one", "rows", "some", "line", "word", "place", "error", "wrong", "value", "k", "letter"]
theorem sc_law : FnScope n_law ["script"] (defScope s_law) := ⟨rfl, rfl, rfl, by decide +kernel, rfl, by decide +kernel, by decide +kernel⟩
end SK
namespace SK
open PySem PySem.Spec PyProof.Rows L2
def spTaken (K : PySem.W.Frag) : Sp := fun vs H Q _ => ∃ (r : Addr) (S : Scr) (many : Nat), vs = [.ref r, .int many] ∧ RowOk K S H r ∧ 1 ≤ many ∧ (many < 1073741824 ∨ many.log2 < 9000) ∧
  ∀ (H' : Hp) (k : Nat), Drawn K S r H H' → k < many → Q (.int k) H'
theorem mod_nat (i : Int) (m : Nat) (h : 1 ≤ m) : ∃ k : Nat, i % (m : Int) = (k : Int) ∧ k < m := by
  have h1 : (0 : Int) < m := by omega
  have a := Int.emod_nonneg i (show (m : Int) ≠ 0 by omega)
  have b := Int.emod_lt_of_pos i h1
  exact ⟨(i % (m : Int)).toNat, by omega, by omega⟩
section
variable {P : Program} {w : World} {K : PySem.W.Frag} {mg : Str → Option Value} {base : Heap}
theorem ok_taken {f : Addr} {fd : FuncData} {k : Nat} (F : Fun K "_law_taken" "_law_taken" s_law_taken f fd) (mi : mg "int" = none) (ml : mg "len" = none) : FnOk P w K mg base CX0 (k + 1) f fd ["row", "many"] (spTaken K) := by
  refine F.ok sc_law_taken (fun vs H Q E h => ?_) (fun cdv A outer s H vs Q E hr h => ?_)
  · obtain ⟨r, S, many, rfl, _⟩ := h
    rfl
  · obtain ⟨r, ⟨a, ns⟩, many, rfl, ⟨i, st, c, h1, h2, h3, h4, h5⟩, hm1, hm2, q⟩ := h
    have nd := sc_law_taken.nd
    refine ⟨_, pss_cons (ps_if (pt_cmpR op_gt (pix (pv 0) pe_int) pe_int (nomark _))
        (pss_cons (ps_set (i := 2) nd rfl (.inl rfl) (pmod (pint mi (pix (pv 0) pe_int)) (pv 1)))
          (pss_cons (ps_asg (pe_op op_fdivW (pix (pv 0) pe_int) (pv 1)) (pg_sub (pv 0) pe_int set_list)) (pss_one (ps_ret (pv 2))))) pss_nil)
      (pss_cons (ps_asg (padd (pix (pv 0) pe_int) pe_int) (pg_sub (pv 0) pe_int set_list))
      (pss_cons (ps_if (pt_cmpR op_gt (pix (pv 0) pe_int) (plen ml (pix (pv 0) pe_int)) (nomark _))
        (pss_cons (ps_asg (pmod (pint mi (padd (pe_op op_mul (pix (pv 0) pe_int) pe_int) pe_int)) pe_int) (pg_sub (pv 0) pe_int set_list))
          (pss_one (ps_ret (pmod (pint mi (pe_op op_fdiv (pix (pv 0) pe_int) pe_int)) (pv 1))))) pss_nil)
      (pss_cons (ps_set (i := 3) nd rfl (.inl rfl) (pix (pix (pv 0) pe_int) (psub (pix (pv 0) pe_int) pe_int)))
      (pss_cons (ps_asg (pmod (pint mi (padd (padd (pe_op op_mul (pix (pv 0) pe_int) pe_int) (pv 3)) pe_int)) pe_int) (pg_sub (pv 0) pe_int set_list))
      (pss_cons (ps_if (pt_cmpR op_ge (pv 3) (pe_op op_pow pe_int pe_int) (nomark _))
        (pss_one (ps_asg (pe_op op_fdivW (pv 3) (pv 1)) (pg_sub (pv 0) pe_int set_list))) pss_nil)
      (pss_one (ps_ret (pmod (pint mi (pv 3)) (pv 1))))))))), ?_⟩
    change H r = some (.lst [.ref a, .int i, .int st, .int c]) at h1
    change SqL K H a (ns.map V.int) at h2
    change a ≠ r at h4
    change ns.length ≤ 63 at h5
    have m0 : (0 : Int) < many := by omega
    have hm9 : (many : Int).natAbs.log2 < 9000 := by
      rw [Int.natAbs_natCast]
      rcases hm2 with h | h
      · have := (Nat.log2_lt (n := many) (k := 30) (by omega)).mpr (by omega)
        omega
      · exact h
    have nl : ∀ (xs : List V) (ns : List Int), (V.ref a :: xs) ≠ ns.map V.int := fun xs ns e => by cases ns <;> cases e
    -- a row with other numbers
    have row : ∀ (i s c : Int), 0 ≤ i → RowOk K (a, ns) (upd H r (.lst [.ref a, .int i, .int s, .int c])) r := fun i s c h => by
      refine ⟨i, s, c, upd_same, ?_, h, h4, h5⟩
      rcases h2 with (h | ⟨o, h⟩) | h
      · exact .inl (.inl (by rw [upd_ne h4]; exact h))
      · exact .inl (.inr ⟨o, by rw [upd_ne h4]; exact h⟩)
      · exact .inr h
    have dr : ∀ (i s c : Int), 0 ≤ i → Drawn K (a, ns) r H (upd H r (.lst [.ref a, .int i, .int s, .int c])) := fun i s c h => ⟨SameX.refl.at, row i s c h⟩
    refine ⟨.ref r, rfl, r, _, _, _, rfl, rfl, SqL.of h1, at3, _, _, rfl, rfl, _, rfl, ite2 (fun e => ?_) (fun e => ?_)⟩
    · refine ⟨.ref r, rfl, r, _, _, _, rfl, rfl, SqL.of h1, at3, .inl ⟨_, rfl, _, rfl, _, _, rfl, rfl, m0, ?_⟩⟩
      refine ⟨.ref r, rfl, r, _, _, _, rfl, rfl, SqL.of h1, at3, _, rfl, _, _, rfl, rfl, ⟨m0, hm9⟩, .ref r, rfl, r, _, _, 3, rfl, rfl, h1, rfl, _, rfl, ?_⟩
      obtain ⟨k, e1, e2⟩ := mod_nat c many hm1
      show Q (V.int (c % (many : Int))) _
      rw [e1]
      exact q _ k (dr _ _ _ h3) e2
    · refine ⟨.ref r, rfl, r, _, _, _, rfl, rfl, SqL.of h1, at1, _, _, rfl, rfl, .ref r, rfl, r, _, _, 1, rfl, rfl, h1, rfl, ?_⟩
      have g1 : (upd H r (.lst [.ref a, .int (i + 1), .int st, .int c])) r = some (.lst [.ref a, .int (i + 1), .int st, .int c]) := upd_same
      have sa : ∀ (i s c : Int), SqL K (upd H r (.lst [.ref a, .int i, .int s, .int c])) a (ns.map V.int) := fun i s c => by
        rcases h2 with (h | ⟨o, h⟩) | h
        · exact .inl (.inl (by rw [upd_ne h4]; exact h))
        · exact .inl (.inr ⟨o, by rw [upd_ne h4]; exact h⟩)
        · exact .inr h
      refine ⟨.ref r, rfl, r, _, _, _, rfl, rfl, SqL.of g1, at1, .ref r, rfl, r, _, _, _, rfl, rfl, SqL.of g1, at0, a, _, rfl, .inl (sa _ _ _), _, _, rfl, rfl, _, rfl, ite2 (fun e => ?_) (fun e2 => ?_)⟩
      · refine ⟨.ref r, rfl, r, _, _, _, rfl, rfl, SqL.of g1, at2, _, _, rfl, rfl, .inr (by decide), _, _, rfl, rfl, .inl ⟨_, rfl, _, _, rfl, rfl, (show (0 : Int) < 2147483647 by decide), .ref r, rfl, r, _, _, 2, rfl, rfl, g1, rfl, ?_⟩⟩
        rw [upd_upd]
        refine ⟨.ref r, rfl, r, _, _, _, rfl, rfl, SqL.of upd_same, at2, _, _, rfl, rfl, ⟨by decide, by decide⟩, .inl ⟨_, rfl, _, rfl, _, _, rfl, rfl, m0, ?_⟩⟩
        obtain ⟨k, e1, e2⟩ := mod_nat ((st * 48271 + 11) % 2147483647 / 7) many hm1
        show Q (V.int ((st * 48271 + 11) % 2147483647 / 7 % (many : Int))) _
        rw [e1]
        exact q _ k (dr _ _ _ (by omega)) e2
      · have e3 : ¬ ((ns.length : Int) < i + 1) := by
          have e2' := e2
          simp only [List.length_map] at e2'
          exact fun z => e2' (decide_eq_true z)
        have hlt : i.toNat < ns.length := by omega
        have gi : atI (ns.map V.int) (i + 1 - 1) = some (.int ns[i.toNat]) := by
          have e4 : i + 1 - 1 = ((i.toNat : Nat) : Int) := by omega
          rw [e4]
          refine atI_nat ?_
          rw [List.getElem?_map, List.getElem?_eq_getElem hlt]
          rfl
        generalize ns[i.toNat] = cell at gi
        refine ⟨.ref r, rfl, r, _, _, _, rfl, rfl, SqL.of g1, at0, .ref r, rfl, r, _, _, _, rfl, rfl, SqL.of g1, at1, _, _, rfl, rfl, a, _, _, _, rfl, rfl, sa _ _ _, gi, ?_⟩
        refine ⟨.ref r, rfl, r, _, _, _, rfl, rfl, SqL.of g1, at2, _, _, rfl, rfl, .inr (by decide), _, rfl, _, _, rfl, rfl, _, _, rfl, rfl, .inl ⟨_, rfl, _, _, rfl, rfl, (show (0 : Int) < 2147483647 by decide), .ref r, rfl, r, _, _, 2, rfl, rfl, g1, rfl, ?_⟩⟩
        rw [upd_upd]
        refine ⟨_, rfl, _, _, rfl, rfl, ⟨by decide, by decide, by decide⟩, _, _, rfl, rfl, _, rfl, ite2 (fun e => ?_) (fun e => ?_)⟩
        · refine ⟨_, rfl, _, rfl, _, _, rfl, rfl, ⟨m0, hm9⟩, .ref r, rfl, r, _, _, 3, rfl, rfl, upd_same, rfl, ?_⟩
          rw [upd_upd]
          refine ⟨_, rfl, .inl ⟨_, rfl, _, rfl, _, _, rfl, rfl, m0, ?_⟩⟩
          obtain ⟨k, e1, e2⟩ := mod_nat cell many hm1
          show Q (V.int (cell % (many : Int))) _
          rw [e1]
          exact q _ k (dr _ _ _ (by omega)) e2
        · refine ⟨_, rfl, .inl ⟨_, rfl, _, rfl, _, _, rfl, rfl, m0, ?_⟩⟩
          obtain ⟨k, e1, e2⟩ := mod_nat cell many hm1
          show Q (V.int (cell % (many : Int))) _
          rw [e1]
          exact q _ k (dr _ _ _ (by omega)) e2
end
end SK
namespace SK
open PySem PySem.Spec PyProof.Rows L2
/-- a def that stands in the module under its name and keeps its promise, not raising -/
structure Got (P : Program) (w : World) (K : PySem.W.Frag) (mg : Str → Option Value) (base : Heap) (x : Str) (k : Nat) (ps : List Str) (sp : Sp) : Prop where
  ex : ∃ (f : Addr) (fd : FuncData), FnOk P w K mg base CX0 k f fd ps sp ∧ mg x = some (.ref f) ∧ PySem.W.keepIn K (.ref f) = true ∧ Binds K fd ps []
theorem Got.mono {P : Program} {w : World} {K : PySem.W.Frag} {mg : Str → Option Value} {base : Heap} {x : Str} {j k : Nat} {ps : List Str} {sp : Sp} (g : Got P w K mg base x j ps sp) (h : j ≤ k) : Got P w K mg base x k ps sp := by
  obtain ⟨f, fd, F, a, b, c⟩ := g.ex
  exact ⟨f, fd, F.mono h, a, b, c⟩
theorem pcall {X : Cx} {x : Str} {k : Nat} {ps : List Str} {sp : Sp} {e : Expr} {es : List Expr} {t : TA} {p pos : Pos} (G : Got X.prog X.w X.K X.mg X.base x k ps sp) (hr : Room k X.A) (ha : PA X (e :: es) t) (hg : Gl X x := by rfl)
    (hdb : (x == ("__debug__" : Str)) = false := by decide)
    (he : starEach (e :: es) X.env = (false, eval e X.env) :: starEach es X.env := by rfl) (hpl : (backTo pos (starEach es X.env)).any (·.1) = false := by rfl) : PE X (.Call (.Name x p) (e :: es) [] pos) (tCall sp [] E0 t) := by
  obtain ⟨f, fd, F, a, b, c⟩ := G.ex
  exact pe_call F hr hg a b c .nil pass0 ha hdb he hpl
def spPick (K : PySem.W.Frag) : Sp := fun vs H Q _ => ∃ (r q : Addr) (S : Scr) (xs : List V), vs = [.ref r, .ref q] ∧ RowOk K S H r ∧ q ≠ r ∧ H q = some (.lst xs) ∧ 1 ≤ xs.length ∧ xs.length < 1073741824 ∧
  ∀ (H' : Hp) (k : Nat) (v : V), Drawn K S r H H' → xs[k]? = some v → Q v H'
section
variable {P : Program} {w : World} {K : PySem.W.Frag} {mg : Str → Option Value} {base : Heap}
theorem ok_pick {f : Addr} {fd : FuncData} {k : Nat} (F : Fun K "_law_pick" "_law_pick" s_law_pick f fd) (G : Got P w K mg base "_law_taken" k ["row", "many"] (spTaken K)) (ml : mg "len" = none) : FnOk P w K mg base CX0 (k + 1) f fd ["row", "things"] (spPick K) := by
  refine F.ok sc_law_pick (fun vs H Q E h => ?_) (fun cdv A outer s H vs Q E hr h => ?_)
  · obtain ⟨r, q, S, xs, rfl, _⟩ := h
    rfl
  · obtain ⟨r, q, S, xs, rfl, hR, hq, hx, h1, h2, hQ⟩ := h
    refine ⟨_, pss_one (ps_ret (pix (pv 1) (pcall G hr (pa_cons (pv 0) (pa_cons (plen ml (pv 1)) pa_nil))))), ?_⟩
    refine ⟨_, rfl, _, rfl, .ref q, rfl, q, xs, rfl, .inl (SqL.of hx), r, S, xs.length, rfl, hR, h1, .inl h2, fun H' k D hk => ?_⟩
    have hx' := D.at hq hx
    exact ⟨q, xs, k, _, rfl, rfl, SqL.of hx', atI_nat (List.getElem?_eq_getElem hk), hQ H' k _ D (List.getElem?_eq_getElem hk)⟩
end
end SK
namespace SK
open PySem PySem.Spec PyProof.Rows L2
/-! ### signs and words -/
inductive Sy where
  | l (k : Nat) | p | m | o | c
  deriving DecidableEq
def Sy.v : Sy → V
  | .l k => .int k
  | .p => .str "+"
  | .m => .str "-"
  | .o => .str "["
  | .c => .str "]"
abbrev wv (w : List Sy) : List V := w.map Sy.v
/-- how deep one stands behind a piece, none where a branch is ended that isn't begun -/
def nest : List Sy → Nat → Option Nat
  | [], d => some d
  | .o :: w, d => nest w (d + 1)
  | .c :: w, d => match d with
    | 0 => none
    | d + 1 => nest w d
  | _ :: w, d => nest w d
def isL : Sy → Bool
  | .l _ => true
  | _ => false
def isB : Sy → Bool
  | .o => true
  | .c => true
  | _ => false
def nL (w : List Sy) : Nat := (w.filter isL).length
theorem nL_app (a b : List Sy) : nL (a ++ b) = nL a + nL b := by unfold nL; rw [List.filter_append, List.length_append]
structure Flat (n L : Nat) (w : List Sy) : Prop where
  flat : ∀ s ∈ w, isB s = false
  lets : ∀ k, Sy.l k ∈ w → k < n
  has : w.any isL = true
  len : w.length ≤ L
  slim : w.length + 6 ≤ 8 * nL w
structure Good (n L : Nat) (w : List Sy) : Prop where
  nst : nest w 0 = some 0
  lets : ∀ k, Sy.l k ∈ w → k < n
  has : w.any isL = true
  len : w.length ≤ L
  slim : w.length + 6 ≤ 8 * nL w
theorem nest_app : ∀ (a b : List Sy) (d : Nat), nest (a ++ b) d = (nest a d).bind (nest b)
  | [], b, d => rfl
  | .l k :: a, b, d => nest_app a b d
  | .p :: a, b, d => nest_app a b d
  | .m :: a, b, d => nest_app a b d
  | .o :: a, b, d => nest_app a b (d + 1)
  | .c :: a, b, 0 => rfl
  | .c :: a, b, d + 1 => nest_app a b d
theorem nest_flat : ∀ (a : List Sy) (d : Nat), (∀ s ∈ a, isB s = false) → nest a d = some d
  | [], d, _ => rfl
  | .l k :: a, d, h => nest_flat a d fun s hs => h s (List.mem_cons_of_mem _ hs)
  | .p :: a, d, h => nest_flat a d fun s hs => h s (List.mem_cons_of_mem _ hs)
  | .m :: a, d, h => nest_flat a d fun s hs => h s (List.mem_cons_of_mem _ hs)
  | .o :: a, d, h => by have := h .o List.mem_cons_self; cases this
  | .c :: a, d, h => by have := h .c List.mem_cons_self; cases this
theorem Flat.good {n L M : Nat} {w : List Sy} (f : Flat n L w) (h : L ≤ M) : Good n M w := ⟨nest_flat w 0 f.flat, f.lets, f.has, Nat.le_trans f.len h, f.slim⟩
theorem Good.mono {n L M : Nat} {w : List Sy} (f : Good n L w) (h : L ≤ M) : Good n M w := ⟨f.nst, f.lets, f.has, Nat.le_trans f.len h, f.slim⟩
theorem Flat.mono {n L M : Nat} {w : List Sy} (f : Flat n L w) (h : L ≤ M) : Flat n M w := ⟨f.flat, f.lets, f.has, Nat.le_trans f.len h, f.slim⟩
/-- a branch put in -/
theorem Flat.branch {n L : Nat} {w t : List Sy} {at' k : Nat} (f : Flat n L w) (ht : ∀ s ∈ t, isB s = false ∧ isL s = false) (hl : t.length ≤ 1) (hk : k < n) : Good n (L + 4) (w.take at' ++ [.o] ++ t ++ [.l k] ++ [.c] ++ w.drop at') := by
  have f1 : ∀ s ∈ w.take at', isB s = false := fun s hs => f.flat s (List.mem_of_mem_take hs)
  have f2 : ∀ s ∈ w.drop at', isB s = false := fun s hs => f.flat s (List.mem_of_mem_drop hs)
  refine ⟨?_, ?_, ?_, ?_, ?_⟩
  · rw [nest_app, nest_app, nest_app, nest_app, nest_app, nest_flat _ 0 f1]
    show ((((nest t 1).bind (nest [.l k])).bind (nest [.c])).bind (nest (w.drop at'))) = some 0
    rw [nest_flat t 1 fun s hs => (ht s hs).1]
    show nest (w.drop at') 0 = some 0
    exact nest_flat _ 0 f2
  · intro j hj
    simp only [List.mem_append, List.mem_singleton] at hj
    rcases hj with ((((h | h) | h) | h) | h) | h
    · exact f.lets j (List.mem_of_mem_take h)
    · cases h
    · have := (ht _ h).2; cases this
    · cases h; exact hk
    · cases h
    · exact f.lets j (List.mem_of_mem_drop h)
  · simp only [List.any_append, List.any_cons, isL, Bool.true_or, Bool.or_true]
  · have := f.len
    have e : (w.take at').length + (w.drop at').length = w.length := by rw [← List.length_append, List.take_append_drop]
    simp only [List.length_append, List.length_singleton]
    omega
  · have := f.slim
    have e : (w.take at').length + (w.drop at').length = w.length := by rw [← List.length_append, List.take_append_drop]
    have e2 : nL (w.take at') + nL (w.drop at') = nL w := by rw [← nL_app, List.take_append_drop]
    have e3 : nL [Sy.l k] = 1 := rfl
    simp only [List.length_append, List.length_singleton, nL_app]
    omega
theorem cut_to (xs : List V) (k : Nat) : cutV xs none (some (k : Int)) = xs.take k := by
  unfold cutV
  rw [HT.sIx_none, show HT.sIx xs.length xs.length (some ((k : Nat) : Int)) = min k xs.length from HT.sIx_nat xs.length xs.length k, List.drop_zero, Nat.sub_zero]
  by_cases h : k ≤ xs.length
  · rw [Nat.min_eq_left h]
  · rw [Nat.min_eq_right (by omega), List.take_of_length_le (Nat.le_refl _), List.take_of_length_le (by omega)]
theorem cut_from (xs : List V) (k : Nat) : cutV xs (some (k : Int)) none = xs.drop k := by
  unfold cutV
  rw [HT.sIx_none, show HT.sIx xs.length 0 (some ((k : Nat) : Int)) = min k xs.length from HT.sIx_nat xs.length 0 k]
  by_cases h : k ≤ xs.length
  · rw [Nat.min_eq_left h]
    exact List.take_of_length_le (by rw [List.length_drop]; exact Nat.le_refl _)
  · rw [Nat.min_eq_right (by omega), Nat.sub_self, List.take_zero, List.drop_eq_nil_of_le (by omega)]
/-! ### words in the heap: frozen tuples without a dict -/
def WdAt (H : Hp) (a : Addr) (w : List Sy) : Prop := ∃ o : Obj, H a = some (.frz o (.tup (wv w))) ∧ o.dict = none ∧ o.slots = #[]
def NewT (xs : List V) (H : Hp) (Q : VK) : Prop := ∀ (H' : Hp) (p : Addr) (o : Obj), Same H H' → H p = none → H' p = some (.frz o (.tup xs)) → (o.dict = none ∧ o.slots = #[]) → Q (.ref p) H'
def NewW (w : List Sy) (H : Hp) (Q : VK) : Prop := ∀ (H' : Hp) (p : Addr), Same H H' → H p = none → WdAt H' p w → Q (.ref p) H'
theorem NewW.of {w : List Sy} {xs : List V} {H : Hp} {Q : VK} (h : NewW w H Q) (e : xs = wv w) : NewT xs H Q := fun H' p o s n e' d => h H' p s n ⟨o, by rw [← e]; exact e', d⟩
section
variable {K : PySem.W.Frag} {S : Scr} {H H' : Hp} {a r : Addr} {w : List Sy}
theorem WdAt.same (h : WdAt H a w) (s : Same H H') : WdAt H' a w := let ⟨o, e, d⟩ := h; ⟨o, s _ _ e, d⟩
theorem WdAt.sq (h : WdAt H a w) : SqT K H a (wv w) := let ⟨o, e, _⟩ := h; .inl (.inr ⟨o, e⟩)
theorem WdAt.ne (h : WdAt H a w) (hr : RowOk K S H r) : a ≠ r := by
  obtain ⟨o, e, _⟩ := h
  obtain ⟨_, _, _, h1, _⟩ := hr
  exact ne_of e h1 (by intro z; cases z)
theorem Drawn.wd (d : Drawn K S r H H') (hr : RowOk K S H r) (h : WdAt H a w) : WdAt H' a w := by
  have n := h.ne hr
  obtain ⟨o, e, hd⟩ := h
  exact ⟨o, d.at n e, hd⟩
end
def rTupF (K : PySem.W.Frag) : List V → Hp → VK → Prop := fun xs H Q => ∃ p ys, xs = [.ref p] ∧ SqL K H p ys ∧ NewT ys H Q
def tTupF (t : TA) : TE := fun σ H Q => t σ H fun xs H1 => xs.length ≤ sizeLine ∧ NewT xs H1 Q
section
variable {X : Cx}
theorem cr_tupF : CallR X (.type "tuple") (rTupF X.K) := by
  rintro pins s σ H xs us Q I r ⟨p, ys, rfl, hq, q⟩
  obtain ⟨u, rfl, rx⟩ := vals1 r
  cases rx
  obtain ⟨its, rv, pl, hz⟩ := I.list hq
  have hlen := rv.length
  refine call_tuple_list pl.isList (fun h1 kp => ?_) (by simp only [List.size_toArray]; omega)
  have I1 : Inv X pins σ H { s with heap := h1 } := I.kept (t' := s.toks) kp
  have fr := I1.hok.fresh (Nat.le_refl _)
  let ob : Obj := { cls := .type "tuple", data := .seq its.toArray }
  have at1 : (h1.push ob).get? h1.objs.size = some ob := Heap.get?_push_size _ rfl
  have I2 : Inv X pins σ (upd H h1.objs.size (.frz ob (.tup ys))) { s with heap := h1.push ob } := I1.laid (t' := s.toks) (fun b o e => Heap.get?_push_of_some _ e) (Nat.le_refl _) ⟨at1, hz, its, rv, ob, at1, rfl, _, rfl⟩
  exact ⟨.ref h1.objs.size, _, I2, rfl, q _ _ ob (same_upd fr) fr upd_same ⟨rfl, rfl⟩⟩
theorem ptupF {x1 : Nat} {es : List Expr} {t : TA} {pos : Pos} (h : PA X es t) : PE X (.Tuple es x1 pos) (tTupF t) := by
  refine ⟨fun pins s σ H Q I hq => wpAny_Tuple_spliced (thn (h.run pos pins s σ H _ I hq) fun us s1 ⟨xs, H1, I1, r, z, q⟩ => ⟨by rw [← r.length]; exact z, ?_⟩)⟩
  have fr := I1.hok.fresh (Nat.le_refl _)
  let ob : Obj := { cls := .type "tuple", data := .seq us.toArray }
  have at1 : (s1.heap.push ob).get? s1.heap.objs.size = some ob := Heap.get?_push_size _ rfl
  exact ⟨.ref _, upd H1 _ (.frz ob (.tup xs)), I1.laid (t' := s1.toks) (fun b u e => Heap.get?_push_of_some _ e) (Nat.le_refl _) ⟨at1, z, us, r, ob, at1, rfl, _, rfl⟩, rfl, q _ _ ob (same_upd fr) fr upd_same ⟨rfl, rfl⟩⟩
theorem ptupleF {e : Expr} {te : TE} {p pos : Pos} (m : X.mg "tuple" = none) (h : PE X e te) (hg : Gl X "tuple" := by rfl) (hs1 : starEach [e] X.env = (false, eval e X.env) :: starEach [] X.env := by rfl) (hp1 : (backTo pos (starEach [] X.env)).any (·.1) = false := by rfl) :
    PE X (.Call (.Name "tuple" p) [e] [] pos) (tCB (rTupF X.K) (tCons te tNil)) := pe_callTy cr_tupF hg m (by decide +kernel) (pa_cons h pa_nil hs1) (by decide) (by decide) hs1 hp1
end
end SK
namespace SK
open PySem PySem.Spec PyProof.Rows L2
/-- w with a branch put in, or w itself -/
def Br (w w' : List Sy) : Prop := w' = w ∨ ∃ (i : Nat) (ts : List Sy) (k : Nat), (∀ s ∈ ts, isB s = false ∧ isL s = false) ∧ w' = w.take i ++ [.o] ++ ts ++ [.l k] ++ [.c] ++ w.drop i
def spBranched (K : PySem.W.Frag) : Sp := fun vs H Q _ => ∃ (r t : Addr) (S : Scr) (n L : Nat) (w : List Sy), vs = [.ref r, .ref t, .int n] ∧ RowOk K S H r ∧ WdAt H t w ∧ Flat n L w ∧ L ≤ 36 ∧ 1 ≤ n ∧ n ≤ 8 ∧
  ∀ (H' : Hp) (p : Addr) (w' : List Sy), Drawn K S r H H' → WdAt H' p w' → Good n (L + 4) w' → Br w w' → Q (.ref p) H'
section
variable {P : Program} {w : World} {K : PySem.W.Frag} {mg : Str → Option Value} {base : Heap}
theorem ok_branched {f : Addr} {fd : FuncData} {k : Nat} (F : Fun K "_law_branched" "_law_branched" s_law_branched f fd) (GT : Got P w K mg base "_law_taken" k ["row", "many"] (spTaken K)) (GP : Got P w K mg base "_law_pick" k ["row", "things"] (spPick K))
    (ml : mg "len" = none) (mL : mg "list" = none) (mT : mg "tuple" = none) : FnOk P w K mg base CX0 (k + 1) f fd ["row", "word", "letters"] (spBranched K) := by
  refine F.ok sc_law_branched (fun vs H Q E h => ?_) (fun cdv A outer s H vs Q E hr h => ?_)
  · obtain ⟨r, t, S, n, L, w, rfl, _⟩ := h
    rfl
  · obtain ⟨r, t, S, n, L, w, rfl, hR, ht, hw, hL, hn1, hn2, q⟩ := h
    have nd := sc_law_branched.nd
    refine ⟨_, pss_cons (ps_set (i := 3) nd rfl (.inl rfl) (pe_callTy call_list_of (by rfl) mL (by decide +kernel) (pa_cons (pv 1) pa_nil)))
      (pss_cons (ps_if (pt_cmpR op_eq (pcall GT hr (pa_cons (pv 0) (pa_cons pe_int pa_nil))) pe_int (nomark _))
        (pss_cons (ps_par rfl nd (i := 4) (j := 5) rfl rfl (by decide) rfl rfl
            (pa_cons (pcall GT hr (pa_cons (pv 0) (pa_cons (padd (plen ml (pv 3)) pe_int) pa_nil)))
              (pa_cons (pcall GP hr (pa_cons (pv 0) (pa_cons (pe_lst (pa_cons (pe_lst (pa_cons pe_str pa_nil)) (pa_cons (pe_lst (pa_cons pe_str pa_nil)) (pa_cons (pe_lst pa_nil) pa_nil)))) pa_nil))) pa_nil)) (by rfl))
          (pss_one (ps_set (i := 3) nd rfl (.inl rfl) (pcat (pcat (pcat (pcat (pcat (pe_slice sl_list (pv 3) po_none (po_some (pv 4))) (pe_lst (pa_cons pe_str pa_nil))) (pv 5))
            (pe_lst (pa_cons (pcall GT hr (pa_cons (pv 0) (pa_cons (pv 2) pa_nil))) pa_nil))) (pe_lst (pa_cons pe_str pa_nil))) (pe_slice sl_list (pv 3) (po_some (pv 4)) po_none))))) pss_nil)
      (pss_one (ps_ret (ptupleF mT (pv 3))))), ?_⟩
    have lw := hw.len
    refine ⟨.ref t, rfl, t, _, rfl, .inr ht.sq, fun fo nfo => ?_⟩
    have D1 : Drawn K S r H (upd H fo (.lst (wv w))) := (Drawn.refl hR).new nfo
    have hfo : (upd H fo (.lst (wv w))) fo = some (.lst (wv w)) := upd_same
    have nfr : fo ≠ r := hR.there nfo
    generalize upd H fo (.lst (wv w)) = H1 at D1 hfo
    refine ⟨_, rfl, r, S, 3, rfl, D1.row, by decide, by decide, fun H2 k1 D2 _ => ?_⟩
    have hfo2 := D2.at nfr hfo
    refine ⟨rfl, _, rfl, ite2 (fun _ => ?_) (fun _ => ?_)⟩
    · refine ⟨_, rfl, _, rfl, fo, _, rfl, .inl (SqL.of hfo2), _, _, rfl, rfl, r, S, w.length + 1, ?_, D2.row, by omega, by omega, fun H3 at' D3 hat => ?_⟩
      · show [V.ref r, V.int (((wv w).length : Int) + 1)] = [V.ref r, V.int ((w.length + 1 : Nat) : Int)]
        rw [List.length_map]; rfl
      have hfo3 := D3.at nfr hfo2
      refine ⟨_, rfl, szl 1, fun l1 n1 => ⟨szl 1, fun l2 n2 => ⟨szl 0, fun l3 n3 => ⟨szl 3, fun l4 n4 => ?_⟩⟩⟩⟩
      have n12 : l1 ≠ l2 := (ne_of_none upd_same n2)
      have n13 : l1 ≠ l3 := ne_of_none (o := .lst [.str "+"]) (by rw [upd_ne n12, upd_same]) n3
      have n23 : l2 ≠ l3 := ne_of_none upd_same n3
      have e1 : (upd (upd (upd H3 l1 (.lst [.str "+"])) l2 (.lst [.str "-"])) l3 (.lst [])) l1 = some (.lst [.str "+"]) := by rw [upd_ne n13, upd_ne n12, upd_same]
      have e2 : (upd (upd (upd H3 l1 (.lst [.str "+"])) l2 (.lst [.str "-"])) l3 (.lst [])) l2 = some (.lst [.str "-"]) := by rw [upd_ne n23, upd_same]
      have e3 : (upd (upd (upd H3 l1 (.lst [.str "+"])) l2 (.lst [.str "-"])) l3 (.lst [])) l3 = some (.lst []) := upd_same
      have D3' : Drawn K S r H3 (upd (upd (upd H3 l1 (.lst [.str "+"])) l2 (.lst [.str "-"])) l3 (.lst [])) := (((Drawn.refl D3.row).new n1).new n2).new n3
      have nr1 : l1 ≠ r := D3.row.there n1
      have nr2 : l2 ≠ r := ((Drawn.refl D3.row).new n1).row.there n2
      have nr3 : l3 ≠ r := (((Drawn.refl D3.row).new n1).new n2).row.there n3
      generalize (upd (upd (upd H3 l1 (.lst [.str "+"])) l2 (.lst [.str "-"])) l3 (.lst [])) = H4 at e1 e2 e3 D3' n4
      have D5 := D3'.new (o := .lst [.ref l1, .ref l2, .ref l3]) n4
      have nr4 : l4 ≠ r := D3'.row.there n4
      have s5 : Same H4 (upd H4 l4 (.lst [.ref l1, .ref l2, .ref l3])) := same_upd n4
      refine ⟨r, l4, S, _, rfl, D5.row, nr4, upd_same, (show 1 ≤ 3 by decide), (show 3 < 1073741824 by decide), fun H6 kk v D6 hk => ?_⟩
      -- turn
      obtain ⟨tl, ts, rfl, nrt, htl, hts, hlen⟩ : ∃ (tl : Addr) (ts : List Sy), v = .ref tl ∧ tl ≠ r ∧ H6 tl = some (.lst (wv ts)) ∧ (∀ s ∈ ts, isB s = false ∧ isL s = false) ∧ ts.length ≤ 1 := by
        match kk, hk with
        | 0, hk => cases hk; exact ⟨l1, [.p], rfl, nr1, D6.at nr1 (s5 _ _ e1), by decide, Nat.le_refl _⟩
        | 1, hk => cases hk; exact ⟨l2, [.m], rfl, nr2, D6.at nr2 (s5 _ _ e2), by decide, Nat.le_refl _⟩
        | 2, hk => cases hk; exact ⟨l3, [], rfl, nr3, D6.at nr3 (s5 _ _ e3), by decide, Nat.zero_le _⟩
        | j + 3, hk => simp at hk
      have hfo6 := D6.at nfr (s5 _ _ (D3'.at nfr hfo3))
      have D06 : Drawn K S r H H6 := (((D1.trans D2).trans D3).trans D5).trans D6
      refine ⟨_, _, rfl, ?_⟩
      -- found[:at]
      refine ⟨_, rfl, _, rfl, _, rfl, fo, _, rfl, SqL.of hfo6, fun p1 m1 => ?_⟩
      rw [cut_to]
      have s6 : Same H6 (upd H6 p1 (.lst ((wv w).take at'))) := same_upd m1
      have hp1 : (upd H6 p1 (.lst ((wv w).take at'))) p1 = some (.lst ((wv w).take at')) := upd_same
      generalize upd H6 p1 (.lst ((wv w).take at')) = H7 at s6 hp1
      -- + ["["]
      refine ⟨szl 1, fun p2 m2 => ?_⟩
      have s7 := same_upd (o := .lst [.str "["]) m2
      refine ⟨p1, p2, _, _, rfl, rfl, s7 _ _ hp1, upd_same, ?_, fun p3 m3 => ?_⟩
      · simp only [List.length_take, List.length_map, List.length_cons, List.length_nil]
        exact szl _ (by omega)
      have s8 := s7.trans (same_upd (o := .lst ((wv w).take at' ++ [.str "["])) m3)
      -- + turn
      refine ⟨_, rfl, p3, tl, _, _, rfl, rfl, upd_same, s8 _ _ (s6 _ _ htl), ?_, fun p4 m4 => ?_⟩
      · simp only [List.length_append, List.length_take, List.length_map, List.length_cons, List.length_nil]
        exact szl _ (by omega)
      have s9 := s8.trans (same_upd (o := .lst ((wv w).take at' ++ [.str "["] ++ wv ts)) m4)
      have hp4 : (upd (upd (upd H7 p2 (.lst [.str "["])) p3 (.lst ((wv w).take at' ++ [.str "["]))) p4 (.lst ((wv w).take at' ++ [.str "["] ++ wv ts))) p4 = some (.lst ((wv w).take at' ++ [.str "["] ++ wv ts)) := upd_same
      generalize (upd (upd (upd H7 p2 (.lst [.str "["])) p3 (.lst ((wv w).take at' ++ [.str "["]))) p4 (.lst ((wv w).take at' ++ [.str "["] ++ wv ts))) = H8 at s9 hp4
      have D8 : Drawn K S r H H8 := ⟨D06.same.trans (.of (s6.trans s9)), D06.row.same (s6.trans s9)⟩
      have nr4' : p4 ≠ r := by
        intro e
        subst e
        obtain ⟨_, _, _, h1, _⟩ := D06.row
        have hh := (s6.trans (s8)) _ _ h1
        rw [m4] at hh; cases hh
      -- + [_law_taken(row, letters)]
      refine ⟨_, rfl, _, rfl, r, S, n, rfl, D8.row, hn1, by omega, fun H9 lk D9 hlk => ?_⟩
      refine ⟨szl 1, fun p5 m5 => ?_⟩
      have s10 := same_upd (o := .lst [.int lk]) m5
      refine ⟨p4, p5, _, _, rfl, rfl, s10 _ _ (D9.at nr4' hp4), upd_same, ?_, fun p6 m6 => ?_⟩
      · simp only [List.length_append, List.length_take, List.length_map, List.length_cons, List.length_nil]
        exact szl _ (by omega)
      have s11 := s10.trans (same_upd (o := .lst ((wv w).take at' ++ [.str "["] ++ wv ts ++ [.int lk])) m6)
      have hp6 : (upd (upd H9 p5 (.lst [.int lk])) p6 (.lst ((wv w).take at' ++ [.str "["] ++ wv ts ++ [.int lk]))) p6 = some (.lst ((wv w).take at' ++ [.str "["] ++ wv ts ++ [.int lk])) := upd_same
      generalize (upd (upd H9 p5 (.lst [.int lk])) p6 (.lst ((wv w).take at' ++ [.str "["] ++ wv ts ++ [.int lk]))) = H10 at s11 hp6
      -- + ["]"]
      refine ⟨szl 1, fun p7 m7 => ?_⟩
      have s12 := same_upd (o := .lst [.str "]"]) m7
      refine ⟨p6, p7, _, _, rfl, rfl, s12 _ _ hp6, upd_same, ?_, fun p8 m8 => ?_⟩
      · simp only [List.length_append, List.length_take, List.length_map, List.length_cons, List.length_nil]
        exact szl _ (by omega)
      have s13 := s12.trans (same_upd (o := .lst ((wv w).take at' ++ [.str "["] ++ wv ts ++ [.int lk] ++ [.str "]"])) m8)
      have hp8 : (upd (upd H10 p7 (.lst [.str "]"])) p8 (.lst ((wv w).take at' ++ [.str "["] ++ wv ts ++ [.int lk] ++ [.str "]"]))) p8 = some (.lst ((wv w).take at' ++ [.str "["] ++ wv ts ++ [.int lk] ++ [.str "]"])) := upd_same
      generalize (upd (upd H10 p7 (.lst [.str "]"])) p8 (.lst ((wv w).take at' ++ [.str "["] ++ wv ts ++ [.int lk] ++ [.str "]"]))) = H11 at s13 hp8
      -- + found[at:]
      have hfo11 := s13 _ _ (s11 _ _ (D9.at nfr (s9 _ _ (s6 _ _ hfo6))))
      refine ⟨_, rfl, _, rfl, _, rfl, fo, _, rfl, SqL.of hfo11, fun p9 m9 => ?_⟩
      rw [cut_from]
      have s14 := same_upd (o := .lst ((wv w).drop at')) m9
      refine ⟨p8, p9, _, _, rfl, rfl, s14 _ _ hp8, upd_same, ?_, fun p10 m10 => ?_⟩
      · simp only [List.length_append, List.length_take, List.length_drop, List.length_map, List.length_cons, List.length_nil]
        exact szl _ (by omega)
      -- tuple(found)
      refine ⟨.ref p10, rfl, p10, _, rfl, SqL.of upd_same, NewW.of (fun H12 p11 S12 m11 h12 => ?_) (w := w.take at' ++ [.o] ++ ts ++ [.l lk] ++ [.c] ++ w.drop at') ?_⟩
      · have s15 := (s11.trans s13).trans ((s14.trans (same_upd m10)).trans S12)
        exact q _ p11 _ ⟨((D8.trans D9).same).trans (.of s15), D9.row.same s15⟩ h12 (hw.branch hts hlen hlk) (.inr ⟨at', ts, lk, hts, rfl⟩)
      · simp only [wv, List.map_append, List.map_take, List.map_drop, List.map_cons, List.map_nil, Sy.v]
    · exact ⟨_, rfl, fo, _, rfl, SqL.of hfo2, NewW.of (fun H3 p S3 np hp => q _ p w ((D1.trans D2).then S3) hp (hw.good (by omega)) (.inl rfl)) rfl⟩
end
end SK
namespace SK
open PySem PySem.Spec PyProof.Rows L2
/-! ### books -/
def Words (H : Hp) (as : List Addr) (ws : List (List Sy)) : Prop := Paired (fun a w => WdAt H a w) as ws
def BookAt (H : Hp) (b : Addr) (ws : List (List Sy)) (st : List Sy) : Prop := ∃ (p q : Addr) (as : List Addr), H b = some (.tup [.ref p, .ref q]) ∧ H p = some (.tup (as.map V.ref)) ∧ WdAt H q st ∧ Words H as ws
structure GoodBook (ws : List (List Sy)) (st : List Sy) : Prop where
  one : 1 ≤ ws.length
  few : ws.length ≤ 3
  words : ∀ w ∈ ws, Good ws.length 40 w
  start : Good ws.length 40 st
/-- tuples stay -/
def TupS (H H' : Hp) : Prop := (∀ b xs, H b = some (.tup xs) → H' b = some (.tup xs)) ∧ ∀ b o u, H b = some (.frz o u) → H' b = some (.frz o u)
theorem TupS.refl {H : Hp} : TupS H H := ⟨fun _ _ h => h, fun _ _ _ h => h⟩
theorem TupS.trans {H H1 H2 : Hp} (a : TupS H H1) (b : TupS H1 H2) : TupS H H2 := ⟨fun c xs h => b.1 c xs (a.1 c xs h), fun c o u h => b.2 c o u (a.2 c o u h)⟩
theorem TupS.of {H H' : Hp} (s : Same H H') : TupS H H' := ⟨fun b xs h => s b _ h, fun b o u h => s b _ h⟩
theorem TupS.lst {H H1 : Hp} {p : Addr} {xs : List V} {o : HO} (s : TupS H H1) (h : H1 p = some (.lst xs)) : TupS H (upd H1 p o) := by
  refine ⟨fun b ys e => ?_, fun b ob u e => ?_⟩
  · rw [upd_ne (ne_of (s.1 b ys e) h (by intro z; cases z))]
    exact s.1 b ys e
  · rw [upd_ne (ne_of (s.2 b ob u e) h (by intro z; cases z))]
    exact s.2 b ob u e
theorem TupS.new {H H1 : Hp} {p : Addr} {o : HO} (s : TupS H H1) (h : H1 p = none) : TupS H (upd H1 p o) := s.trans (.of (same_upd h))
theorem TupS.wd {H H' : Hp} {a : Addr} {w : List Sy} (s : TupS H H') (h : WdAt H a w) : WdAt H' a w := let ⟨o, e, d⟩ := h; ⟨o, s.2 _ _ _ e, d⟩
theorem Drawn.tups {K : PySem.W.Frag} {S : Scr} {H H' : Hp} {r : Addr} (a : Drawn K S r H H') (hr : RowOk K S H r) : TupS H H' := ⟨fun b xs h => a.tup hr h, fun b o u h => a.at (by obtain ⟨_, _, _, h1, _⟩ := hr; exact ne_of h h1 (by intro z; cases z)) h⟩
theorem Words.keep {H H' : Hp} {as : List Addr} {ws : List (List Sy)} (s : TupS H H') (h : Words H as ws) : Words H' as ws := Paired.mono (fun a w e => s.wd e) h
theorem BookAt.keep {H H' : Hp} {b : Addr} {ws : List (List Sy)} {st : List Sy} (s : TupS H H') (h : BookAt H b ws st) : BookAt H' b ws st := by
  obtain ⟨p, q, as, h1, h2, h3, h4⟩ := h
  exact ⟨p, q, as, s.1 _ _ h1, s.1 _ _ h2, s.wd h3, h4.keep s⟩
def spBook (K : PySem.W.Frag) : Sp := fun vs H Q _ => ∃ (r : Addr) (S : Scr), vs = [.ref r] ∧ RowOk K S H r ∧
  ∀ (H' : Hp) (p : Addr) (ws : List (List Sy)) (st : List Sy), Drawn K S r H H' → BookAt H' p ws st → GoodBook ws st → Q (.ref p) H'
end SK
namespace SK
open PySem PySem.Spec PyProof.Rows L2
def spWord (K : PySem.W.Frag) : Sp := fun vs H Q _ => ∃ (r : Addr) (S : Scr) (n : Nat), vs = [.ref r, .int n, .int 3] ∧ RowOk K S H r ∧ 1 ≤ n ∧ n ≤ 8 ∧
  ∀ (H' : Hp) (p : Addr) (w' : List Sy), Drawn K S r H H' → WdAt H' p w' → Flat n 6 w' → Q (.ref p) H'
theorem flat_rot {n L : Nat} {w : List Sy} (f : Flat n L w) : Flat n L (w.drop 1 ++ w.take 1) := by
  refine ⟨fun s hs => f.flat s ?_, fun k hk => f.lets k ?_, ?_, ?_, ?_⟩
  · rcases List.mem_append.mp hs with h | h
    · exact List.mem_of_mem_drop h
    · exact List.mem_of_mem_take h
  · rcases List.mem_append.mp hk with h | h
    · exact List.mem_of_mem_drop h
    · exact List.mem_of_mem_take h
  · have := f.has
    rw [← List.take_append_drop 1 w, List.any_append, Bool.or_comm] at this
    rw [List.any_append]
    exact this
  · have := f.len
    have e : (w.take 1).length + (w.drop 1).length = w.length := by rw [← List.length_append, List.take_append_drop]
    rw [List.length_append]
    omega
  · have := f.slim
    have e : (w.take 1).length + (w.drop 1).length = w.length := by rw [← List.length_append, List.take_append_drop]
    have e2 : nL (w.take 1) + nL (w.drop 1) = nL w := by rw [← nL_app, List.take_append_drop]
    rw [List.length_append, nL_app]
    omega
section
variable {P : Program} {w : World} {K : PySem.W.Frag} {mg : Str → Option Value} {base : Heap}
theorem ok_word {f : Addr} {fd : FuncData} {k : Nat} (F : Fun K "_law_word" "_law_word" s_law_word f fd) (GT : Got P w K mg base "_law_taken" k ["row", "many"] (spTaken K)) (GP : Got P w K mg base "_law_pick" k ["row", "things"] (spPick K))
    (mR : mg "range" = none) (mT : mg "tuple" = none) : FnOk P w K mg base CX0 (k + 1) f fd ["row", "letters", "most"] (spWord K) := by
  refine F.ok sc_law_word (fun vs H Q E h => ?_) (fun cdv A outer s H vs Q E hr h => ?_)
  · obtain ⟨r, S, n, rfl, _⟩ := h
    rfl
  · obtain ⟨r, S, n, rfl, hR, hn1, hn2, q⟩ := h
    have nd := sc_law_word.nd
    refine ⟨_, pss_cons (ps_set (i := 3) nd rfl (.inl rfl) (pe_lst pa_nil))
      (pss_cons (ps_for PassesOwn.never rfl (pi_range1 rfl mR (pa_cons (padd pe_int (pcall GT hr (pa_cons (pv 0) (pa_cons (pv 2) pa_nil)))) pa_nil)) (pg_name (i := 4) nd rfl (.inl rfl))
        (pss_cons (sapp (pv 3) (pcall GT hr (pa_cons (pv 0) (pa_cons (pv 1) pa_nil))))
          (pss_one (ps_if (pt_cmpR op_eq (pcall GT hr (pa_cons (pv 0) (pa_cons pe_int pa_nil))) pe_int (nomark _))
            (pss_one (sapp (pv 3) (pcall GP hr (pa_cons (pv 0) (pa_cons (pe_lst (pa_cons pe_str (pa_cons pe_str pa_nil))) pa_nil))))) pss_nil))))
      (pss_one (ps_ret (pe_ifExp (pt_cmpR op_eq (pcall GT hr (pa_cons (pv 0) (pa_cons pe_int pa_nil))) pe_int (nomark _))
        (ptupleF mT (pcat (pe_slice sl_list (pv 3) (po_some pe_int) po_none) (pe_slice sl_list (pv 3) po_none (po_some pe_int))))
        (ptupleF mT (pv 3)))))), ?_⟩
    refine ⟨szl 0, fun fo nfo => ?_⟩
    have D1 : Drawn K S r H (upd H fo (.lst [])) := (Drawn.refl hR).new nfo
    have hfo : (upd H fo (.lst [])) fo = some (.lst []) := upd_same
    have nfr : fo ≠ r := hR.there nfo
    generalize upd H fo (.lst []) = H1 at D1 hfo
    refine ⟨_, rfl, _, rfl, r, S, 3, rfl, D1.row, by decide, by decide, fun H2 kk D2 hkk => ?_⟩
    have hfo2 := D2.at nfr hfo
    have D02 := D1.trans D2
    refine ⟨1, _, rfl, rfl, ((1 + kk : Nat) : Int), ?_, by omega, by omega, ?_⟩
    · show [V.int (1 + (kk : Int))] = [V.int ((1 + kk : Nat) : Int)]
      congr 2
    rw [Int.toNat_natCast]
    refine for_range (lo := 0) (n := 1 + kk) (fun i σ H' => ∃ (ws : List Sy) (y : Option V), σ = [some (.ref r), some (.int n), some (.int 3), some (.ref fo), y] ∧ Drawn K S r H H' ∧ H' fo = some (.lst (wv ws)) ∧
        (∀ s ∈ ws, isB s = false) ∧ (∀ k, Sy.l k ∈ ws → k < n) ∧ (1 ≤ i → ws.any isL = true) ∧ ws.length ≤ 2 * i ∧ nL ws = i)
      ⟨[], _, rfl, D02, hfo2, by decide, (fun k h => nomatch h), (fun h => by omega), Nat.zero_le _, rfl⟩ ?_ ?_
    · rintro i σ H' hi ⟨ws, y, rfl, D, hf, h1, h2, h3, h4, h5⟩
      refine ⟨_, rfl, .inl ⟨rfl, _, SqL.of hf⟩, _, rfl, _, rfl, r, S, n, rfl, D.row, hn1, by omega, fun H3 lk D3 hlk => ?_⟩
      have hf3 := D3.at nfr hf
      refine ⟨fo, _, _, rfl, rfl, hf3, ?_, ?_⟩
      · rw [List.length_map]; exact Nat.lt_of_le_of_lt (show ws.length ≤ 1000 by omega) (by decide)
      have D4 : Drawn K S r H (upd H3 fo (.lst (wv ws ++ [.int lk]))) := (D.trans D3).put hR nfo
      have hf4 : (upd H3 fo (.lst (wv ws ++ [.int lk]))) fo = some (.lst (wv (ws ++ [.l lk]))) := by rw [upd_same, wv, wv, List.map_append]; rfl
      generalize (upd H3 fo (.lst (wv ws ++ [.int lk]))) = H4 at D4 hf4
      have f1 : ∀ s ∈ ws ++ [Sy.l lk], isB s = false := fun s hs => by
        rcases List.mem_append.mp hs with h | h
        · exact h1 s h
        · rw [List.mem_singleton.mp h]; rfl
      have f2 : ∀ k, Sy.l k ∈ ws ++ [Sy.l lk] → k < n := fun k hs => by
        rcases List.mem_append.mp hs with h | h
        · exact h2 k h
        · cases List.mem_singleton.mp h; exact hlk
      have f3 : (ws ++ [Sy.l lk]).any isL = true := by simp [isL]
      have f4 : (ws ++ [Sy.l lk]).length ≤ 2 * i + 1 := by rw [List.length_append, List.length_singleton]; omega
      have f5 : nL (ws ++ [Sy.l lk]) = i + 1 := by rw [nL_app, h5]; rfl
      generalize ws ++ [Sy.l lk] = ws' at hf4 f1 f2 f3 f4 f5
      refine ⟨_, rfl, r, S, 2, rfl, D4.row, by decide, by decide, fun H5 k5 D5 _ => ?_⟩
      have hf5 := D5.at nfr hf4
      refine ⟨rfl, _, rfl, ite2 (fun _ => ?_) (fun _ => ?_)⟩
      · refine ⟨_, rfl, .inl ⟨rfl, _, SqL.of hf5⟩, _, rfl, szl 2, fun l1 n1 => ?_⟩
        have D6 := D5.new (o := .lst [.str "+", .str "-"]) n1
        have nl1 := D5.row.there n1
        refine ⟨r, l1, S, _, rfl, D6.row, nl1, upd_same, (show 1 ≤ 2 by decide), (show 2 < 1073741824 by decide), fun H7 k7 v D7 hk => ?_⟩
        have hf7 := D7.at nfr (same_upd (o := .lst [.str "+", .str "-"]) n1 _ _ hf5)
        obtain ⟨sy, rfl, b1, b2⟩ : ∃ sy : Sy, v = sy.v ∧ isB sy = false ∧ isL sy = false := by
          match k7, hk with
          | 0, hk => cases hk; exact ⟨.p, rfl, rfl, rfl⟩
          | 1, hk => cases hk; exact ⟨.m, rfl, rfl, rfl⟩
          | j + 2, hk => simp at hk
        refine ⟨fo, _, _, rfl, rfl, hf7, ?_, ?_⟩
        · rw [List.length_map]; exact Nat.lt_of_le_of_lt (show ws'.length ≤ 1000 by omega) (by decide)
        refine ⟨ws' ++ [sy], _, rfl, ((D4.trans D6).trans D7).put hR nfo, ?_, ?_, ?_, ?_, ?_, ?_⟩
        · rw [upd_same, wv, wv, List.map_append]; rfl
        · intro s hs
          rcases List.mem_append.mp hs with h | h
          · exact f1 s h
          · rw [List.mem_singleton.mp h]; exact b1
        · intro k hs
          rcases List.mem_append.mp hs with h | h
          · exact f2 k h
          · rw [← List.mem_singleton.mp h] at b2; cases b2
        · intro _; rw [List.any_append, f3]; rfl
        · rw [List.length_append, List.length_singleton]; omega
        · rw [nL_app, f5]; simp [nL, b2]
      · exact ⟨ws', _, rfl, D4.trans D5, hf5, f1, f2, fun _ => f3, by omega, f5⟩
    · rintro σ H' ⟨ws, y, rfl, D, hf, h1, h2, h3, h4, h5⟩
      have fl : Flat n 6 ws := ⟨h1, h2, h3 (by omega), by omega, by omega⟩
      refine ⟨_, rfl, r, S, 3, rfl, D.row, by decide, by decide, fun H5 k5 D5 _ => ?_⟩
      have hf5 := D5.at nfr hf
      refine ⟨rfl, _, rfl, ite2 (fun _ => ?_) (fun _ => ?_)⟩
      · refine ⟨_, rfl, ((1 : Nat) : Int), rfl, fo, _, rfl, SqL.of hf5, fun p1 m1 => ?_⟩
        rw [cut_from]
        refine ⟨_, rfl, ((1 : Nat) : Int), rfl, fo, _, rfl, SqL.of (same_upd m1 _ _ hf5), fun p2 m2 => ?_⟩
        rw [cut_to]
        have s2 := (same_upd (o := .lst ((wv ws).drop 1)) m1).trans (same_upd (o := .lst ((wv ws).take 1)) m2)
        refine ⟨p1, p2, _, _, rfl, rfl, same_upd m2 _ _ upd_same, upd_same, ?_, fun p3 m3 => ?_⟩
        · simp only [List.length_take, List.length_drop, List.length_map]
          exact szl _ (by omega)
        refine ⟨p3, _, rfl, SqL.of upd_same, NewW.of (fun H4 p4 S4 m4 h4 => q _ p4 (ws.drop 1 ++ ws.take 1) ((D.trans D5).then ((s2.trans (same_upd m3)).trans S4)) h4 (flat_rot fl)) ?_⟩
        simp only [wv, List.map_append, List.map_take, List.map_drop]
      · exact ⟨_, rfl, fo, _, rfl, SqL.of hf5, NewW.of (fun H4 p4 S4 m4 h4 => q _ p4 ws ((D.trans D5).then S4) h4 fl) rfl⟩
end
end SK
namespace SK
open PySem PySem.Spec PyProof.Rows L2
section
variable {P : Program} {w : World} {K : PySem.W.Frag} {mg : Str → Option Value} {base : Heap}
theorem ok_book {f : Addr} {fd : FuncData} {k : Nat} (F : Fun K "_law_book" "_law_book" s_law_book f fd) (GT : Got P w K mg base "_law_taken" k ["row", "many"] (spTaken K))
    (GW : Got P w K mg base "_law_word" k ["row", "letters", "most"] (spWord K)) (GB : Got P w K mg base "_law_branched" k ["row", "word", "letters"] (spBranched K))
    (mR : mg "range" = none) (mT : mg "tuple" = none) : FnOk P w K mg base CX0 (k + 1) f fd ["row"] (spBook K) := by
  refine F.ok sc_law_book (fun vs H Q E h => ?_) (fun cdv A outer s H vs Q E hr h => ?_)
  · obtain ⟨r, S, rfl, _⟩ := h
    rfl
  · obtain ⟨r, S, rfl, hR, q⟩ := h
    have nd := sc_law_book.nd
    refine ⟨_, pss_cons (ps_set (i := 1) nd rfl (.inr rfl) (padd pe_int (pcall GT hr (pa_cons (pv 0) (pa_cons pe_int pa_nil)))))
      (pss_cons (ps_set (i := 2) nd rfl (.inl rfl) (pe_callTy call_tuple_of (by rfl) mT (by decide +kernel) (pa_cons
          (pe_lc (own := [("k", 3)]) (g := gName 3) (tt := tYes) rfl nd (pi_range1 rfl mR (pa_cons (pv 1) pa_nil)) (blkOk_by (N := n_law_book) (sc := defScope s_law_book) (by decide +kernel))
            (fun _ _ _ _ _ => pg_name (i := 3) nd rfl (Or.inl rfl)) (fun _ _ _ _ _ => pts_nil)
            (fun _ _ _ _ _ => pcall GB hr (pa_cons (pv 0) (pa_cons (pcall GW hr (pa_cons (pv 0) (pa_cons (pv 1) (pa_cons pe_int pa_nil)))) (pa_cons (pv 1) pa_nil)))))
          pa_nil)))
      (pss_one (ps_ret (pe_tup (pa_cons (pv 2) (pa_cons (pcall GB hr (pa_cons (pv 0) (pa_cons (pcall GW hr (pa_cons (pv 0) (pa_cons (pv 1) (pa_cons pe_int pa_nil)))) (pa_cons (pv 1) pa_nil)))) pa_nil)))))), ?_⟩
    refine ⟨_, rfl, r, S, 3, rfl, hR, by decide, by decide, fun H1 k1 D1 hk1 => ?_⟩
    refine ⟨1, _, rfl, rfl, ?_⟩
    have en : (V.int (1 + (k1 : Int))) = V.int ((1 + k1 : Nat) : Int) := by congr 1
    dsimp only; rw [en]
    have hn1 : 1 ≤ 1 + k1 := by omega
    have hn2 : 1 + k1 ≤ 8 := by omega
    have hn3 : 1 + k1 ≤ 3 := by omega
    generalize 1 + k1 = n at hn1 hn2 hn3
    refine ⟨_, rfl, (n : Int), rfl, by omega, by omega, fun D nD => ?_⟩
    rw [Int.toNat_natCast]
    have nDr := D1.row.there nD
    refine lc_range (lo := 0) (n := n) (fun i H' => ∃ (as : List Addr) (ws : List (List Sy)), Drawn K S r H1 H' ∧ H' D = some (.lst (as.map V.ref)) ∧ Words H' as ws ∧ ws.length = i ∧ ∀ w ∈ ws, Good n 40 w)
      ⟨[], [], D1.row |> fun h => (Drawn.refl h).new nD, upd_same, .nil, rfl, fun w h => nomatch h⟩ ?_ ?_
    · rintro i H' hi ⟨as, ws, D2, hD, hw, hl, hg⟩
      refine ⟨rfl, _, rfl, _, rfl, _, rfl, r, S, n, rfl, D2.row, hn1, hn2, fun H3 t w3 D3 ht hw3 => ?_⟩
      refine ⟨_, rfl, r, t, S, n, 6, w3, rfl, D3.row, ht, hw3, by decide, hn1, hn2, fun H4 p w4 D4 hp hw4 _ => ?_⟩
      have D34 := D3.trans D4
      refine ⟨_, D34.at nDr hD, ?_, as ++ [p], ws ++ [w4], (D2.trans D34).put D1.row nD, ?_, ?_, ?_, ?_⟩
      · have := hw.length
        rw [List.length_map]; exact Nat.lt_of_le_of_lt (show as.length ≤ 1000 by omega) (by decide)
      · rw [upd_same, List.map_append]; rfl
      · have s : TupS H4 (upd H4 D (.lst (as.map V.ref ++ [V.ref p]))) := TupS.refl.lst (D34.at nDr hD)
        exact Paired.snoc ((hw.keep (D34.tups D2.row)).keep s) (s.wd hp)
      · rw [List.length_append, List.length_singleton, hl]
      · intro w hw
        rcases List.mem_append.mp hw with h | h
        · exact hg w h
        · rw [List.mem_singleton.mp h]; exact hw4.mono (by decide)
    · rintro H' ⟨as, ws, D2, hD, hw, hl, hg⟩
      refine ⟨D, _, rfl, .inl ⟨SqL.of hD, fun p np => ?_⟩⟩
      have D3 := D2.new (o := .tup (as.map V.ref)) np
      have hw3 : Words (upd H' p (.tup (as.map V.ref))) as ws := hw.keep (TupS.refl.new np)
      have hp3 : (upd H' p (.tup (as.map V.ref))) p = some (.tup (as.map V.ref)) := upd_same
      generalize upd H' p (.tup (as.map V.ref)) = H3 at D3 hw3 hp3
      refine ⟨_, rfl, _, rfl, _, rfl, _, rfl, r, S, n, rfl, D3.row, hn1, hn2, fun H4 t w4 D4 ht hw4 => ?_⟩
      refine ⟨_, rfl, r, t, S, n, 6, w4, rfl, D4.row, ht, hw4, by decide, hn1, hn2, fun H5 b w5 D5 hb hw5 _ => ?_⟩
      refine ⟨szl 2, fun p6 n6 => ?_⟩
      have D35 := D4.trans D5
      have t35 := D35.tups D3.row
      have s6 : Same H5 (upd H5 p6 (.tup [.ref p, .ref b])) := same_upd n6
      subst hl
      exact q _ p6 ws w5 (((D1.trans D3).trans D35).then s6) ⟨p, b, as, upd_same, s6 _ _ (t35.1 _ _ hp3), hb.same s6, hw3.keep (t35.trans (.of s6))⟩ ⟨hn1, hn3, hg, hw5.mono (by decide)⟩
end
end SK
namespace SK
open PySem PySem.Spec PyProof.Rows L2
/-! ### new things, the heap behind them a letter -/
def New (o : HO) (H : Hp) (Q : VK) : Prop := ∀ (H' : Hp) (p : Addr), Same H H' → H p = none → H' p = some o → Q (.ref p) H'
theorem New.ok {o : HO} {H : Hp} {Q : VK} (h : New o H Q) (p : Addr) (n : H p = none) : Q (.ref p) (upd H p o) := h _ p (same_upd n) n upd_same
def rCatN : R2 := fun x y H Q => ∃ l b xs zs, x = .ref l ∧ y = .ref b ∧ H l = some (.lst xs) ∧ H b = some (.lst zs) ∧ xs.length + zs.length ≤ sizeLine ∧ New (.lst (xs ++ zs)) H Q
def rRepN : R2 := fun x y H Q => ∃ l k xs, x = .ref l ∧ y = .int k ∧ H l = some (.lst xs) ∧ -(2 ^ 63) ≤ k ∧ k < 2 ^ 63 ∧ xs.length * k.toNat ≤ sizeLine ∧ New (.lst (List.replicate k.toNat xs).flatten) H Q
def tTupN (t : TA) : TE := fun σ H Q => t σ H fun xs H1 => xs.length ≤ sizeLine ∧ New (.tup xs) H1 Q
def tLstN (t : TA) : TE := fun σ H Q => t σ H fun xs H1 => xs.length ≤ sizeLine ∧ New (.lst xs) H1 Q
def rListN (K : PySem.W.Frag) : List V → Hp → VK → Prop := fun xs H Q => ∃ p ys, xs = [.ref p] ∧ (SqL K H p ys ∨ SqT K H p ys) ∧ New (.lst ys) H Q
def rTupleN (K : PySem.W.Frag) : List V → Hp → VK → Prop := fun xs H Q => ∃ p ys, xs = [.ref p] ∧ SqL K H p ys ∧ New (.tup ys) H Q
section
variable {X : Cx} {a b e : Expr} {ta tb te : TE} {pos p : Pos} {es : List Expr} {t : TA}
theorem pcatN (ha : PE X a ta) (hb : PE X b tb) : PE X (.BinOp a .Add b pos) (tOp rCatN ta tb) :=
  pe_op (fun pins s σ H x y v u Q I rx ry ⟨l, b, xs, zs, h1, h2, h3, h4, h5, h6⟩ => op_cat pins s σ H x y v u Q I rx ry ⟨l, b, xs, zs, h1, h2, h3, h4, h5, h6.ok⟩) ha hb
theorem prepN (ha : PE X a ta) (hb : PE X b tb) : PE X (.BinOp a .Mult b pos) (tOp rRepN ta tb) :=
  pe_op (fun pins s σ H x y v u Q I rx ry ⟨l, b, xs, h1, h2, h3, h4, h5, h6, h7⟩ => op_rep pins s σ H x y v u Q I rx ry ⟨l, b, xs, h1, h2, h3, h4, h5, h6, h7.ok⟩) ha hb
/-- whatever is wanted more of the arguments' end -/
def upA (t : TA) : TA := fun σ H R => ∃ R' : List V → Hp → Prop, t σ H R' ∧ ∀ xs H1, R' xs H1 → R xs H1
theorem pa_up (h : PA X es t) : PA X es (upA t) := ⟨fun pos pins s σ H R I ⟨R', h1, h2⟩ => thn (h.run pos pins s σ H R' I h1) fun us s1 ⟨xs, H1, I1, r, q⟩ => ⟨xs, H1, I1, r, h2 xs H1 q⟩⟩
theorem ptupN {x1 : Nat} (h : PA X es t) : PE X (.Tuple es x1 pos) (tTupN t) :=
  ⟨fun pins s σ H Q I hq => (pe_tup (pa_up h)).run pins s σ H Q I ⟨_, hq, fun xs H1 ⟨z, q⟩ => ⟨z, q.ok⟩⟩⟩
theorem plstN (h : PA X es t) : PE X (.List es pos) (tLstN t) :=
  ⟨fun pins s σ H Q I hq => (pe_lst (pa_up h)).run pins s σ H Q I ⟨_, hq, fun xs H1 ⟨z, q⟩ => ⟨z, q.ok⟩⟩⟩
theorem plistN (m : X.mg "list" = none) (h : PE X e te) (hg : Gl X "list" := by rfl) (hs1 : starEach [e] X.env = (false, eval e X.env) :: starEach [] X.env := by rfl) (hp1 : (backTo pos (starEach [] X.env)).any (·.1) = false := by rfl) :
    PE X (.Call (.Name "list" p) [e] [] pos) (tCB (rListN X.K) (tCons te tNil)) :=
  pe_callTy (fun pins s σ H xs us Q I r ⟨p, ys, h1, h2, h3⟩ => call_list_of pins s σ H xs us Q I r ⟨p, ys, h1, h2, h3.ok⟩) hg m (by decide +kernel) (pa_cons h pa_nil hs1) (by decide) (by decide) hs1 hp1
theorem ptupleN (m : X.mg "tuple" = none) (h : PE X e te) (hg : Gl X "tuple" := by rfl) (hs1 : starEach [e] X.env = (false, eval e X.env) :: starEach [] X.env := by rfl) (hp1 : (backTo pos (starEach [] X.env)).any (·.1) = false := by rfl) :
    PE X (.Call (.Name "tuple" p) [e] [] pos) (tCB (rTupleN X.K) (tCons te tNil)) :=
  pe_callTy (fun pins s σ H xs us Q I r ⟨p, ys, h1, h2, h3⟩ => call_tuple_of pins s σ H xs us Q I r ⟨p, ys, h1, .inl ⟨h2, h3.ok⟩⟩) hg m (by decide +kernel) (pa_cons h pa_nil hs1) (by decide) (by decide) hs1 hp1
end
def rSlLN (K : PySem.W.Frag) : V → Option Int → Option Int → Hp → VK → Prop := fun x lo hi H Q => ∃ a xs, x = .ref a ∧ SqL K H a xs ∧ New (.lst (cutV xs lo hi)) H Q
theorem sl_listN {X : Cx} : SlR X (rSlLN X.K) := fun pins s σ H x v vl vu lo hi sl Q I rx hs pl pu ⟨a, xs, h1, h2, h3⟩ => sl_list pins s σ H x v vl vu lo hi sl Q I rx hs pl pu ⟨a, xs, h1, h2, h3.ok⟩
/-- a written word -/
def tWd (w : List Sy) : TE := fun _ H Q => NewW w H Q
def IsWd (X : Cx) (es : List Expr) (w : List Sy) : Prop := PA X es fun _ H Q => Q (wv w) H
section
variable {X : Cx}
theorem wd_nil : IsWd X [] [] := pa_nil
theorem wd_l {es : List Expr} {w : List Sy} {j : Nat} {k : Nat} {pos : Pos} (h : IsWd X es w) (hs : starEach (.Constant (.int (k : Int)) j pos :: es) X.env = (false, eval (.Constant (.int (k : Int)) j pos) X.env) :: starEach es X.env := by rfl) :
    IsWd X (.Constant (.int (k : Int)) j pos :: es) (.l k :: w) := pa_cons pe_int h hs
theorem wd_s {es : List Expr} {w : List Sy} {z : Str} {sy : Sy} {j : Nat} {pos : Pos} (e : sy.v = .str z) (h : IsWd X es w) (hs : starEach (.Constant (.str z) j pos :: es) X.env = (false, eval (.Constant (.str z) j pos) X.env) :: starEach es X.env := by rfl) :
    IsWd X (.Constant (.str z) j pos :: es) (sy :: w) := by
  have h' : PA X es fun _ H Q => Q (wv w) H := h
  have := pa_cons (pe_str (x := z) (j := j) (pos := pos)) h' hs
  show PA X _ fun _ H Q => Q (sy.v :: wv w) H
  rw [e]
  exact this
theorem pwd {es : List Expr} {w : List Sy} {x1 : Nat} {pos : Pos} (h : IsWd X es w) (hl : w.length ≤ 100) : PE X (.Tuple es x1 pos) (tWd w) :=
  ⟨fun pins s σ H Q I hq => (ptupF h).run pins s σ H Q I ⟨by rw [List.length_map]; exact szl _ (by omega), NewW.of hq rfl⟩⟩
end
/-! ### a reading put in another's place -/
theorem pimp {X : Cx} {e : Expr} {t : TE} (t' : TE) (h : PE X e t) (f : ∀ σ H Q, t' σ H Q → t σ H Q) : PE X e t' := ⟨fun pins s σ H Q I q => h.run pins s σ H Q I (f σ H Q q)⟩
theorem psimp {X : Cx} {st : Stmt} {t : TS} (t' : TS) (h : PS X st t) (f : ∀ D σ H, t' D σ H → t D σ H) : PS X st t' := ⟨fun pins s σ H D I q => h.run pins s σ H D I (f D σ H q)⟩
/-! ### good words by decision -/
def goodC (n L : Nat) (w : List Sy) : Bool := decide (nest w 0 = some 0) && w.all (fun s => match s with | .l k => decide (k < n) | _ => true) && w.any isL && decide (w.length ≤ L) && decide (w.length + 6 ≤ 8 * nL w)
theorem good_dec {n L : Nat} {w : List Sy} (h : goodC n L w = true) : Good n L w := by
  unfold goodC at h
  simp only [Bool.and_eq_true, decide_eq_true_eq, List.all_eq_true] at h
  obtain ⟨⟨⟨⟨h1, h2⟩, h3⟩, h4⟩, h5⟩ := h
  exact ⟨h1, fun k hk => by simpa using h2 _ hk, h3, h4, h5⟩
theorem words_dec {n L : Nat} {ws : List (List Sy)} (h : ws.all (goodC n L) = true) : ∀ w ∈ ws, Good n L w := fun w hw => good_dec (List.all_eq_true.mp h w hw)
end SK
namespace SK
open PySem PySem.Spec PyProof.Rows L2
theorem dp_ints {K : PySem.W.Frag} {H : Hp} : ∀ ss : List Int, DpAll K H (ss.map V.int) (ss.map PyData.int)
  | [] => .nil
  | i :: ss => .cons (.int i) (dp_ints ss)
theorem lay_ints : ∀ ss : List Int, PyData.canLayAll0 (ss.map PyData.int) = true
  | [] => by simp [PyData.canLayAll0]
  | i :: ss => by simp only [List.map_cons, PyData.canLayAll0, PyData.canLay0, Bool.true_and]; exact lay_ints ss
theorem depth_ints : ∀ ss : List Int, PyData.depthAll (ss.map PyData.int) = 0
  | [] => by simp [PyData.depthAll]
  | i :: ss => by simp only [List.map_cons, PyData.depthAll, PyData.depth]; rw [depth_ints ss]; rfl
theorem shaped_ints (ss : List Int) : SeqAt.shaped (.list (ss.map PyData.int)) = true := by
  simp only [SeqAt.shaped, PyData.canLay0, PyData.depth, lay_ints, depth_ints, Bool.true_and]
  decide
theorem eqv_nil (ss : List Int) : PyData.eqv (.list (ss.map PyData.int)) (.list []) = ss.isEmpty := by
  cases ss <;> simp [PyData.eqv, PyData.eqvAll]
/-- xs != [] of whole numbers -/
def rNeNil (K : PySem.W.Frag) : R2 := fun x y H Q => ∃ (a b : Addr) (ss : List Int), x = .ref a ∧ y = .ref b ∧ SqL K H a (ss.map V.int) ∧ H b = some (.lst []) ∧ Q (.bl (!ss.isEmpty)) H
theorem op_neNil {X : Cx} (hu : X.A.units + 64 < cLine) : OpR X (compareOp .NotEq) (rNeNil X.K) := by
  intro pins s σ H x y v u Q I rx ry h
  obtain ⟨a, b, ss, rfl, rfl, h1, h2, q⟩ := h
  refine op_neD hu pins s σ H _ _ v u Q I rx ry ⟨.list (ss.map PyData.int), .list [], .lst h1 (dp_ints ss), .lst (SqL.of h2) .nil, shaped_ints ss, shaped_ints [], ?_⟩
  rw [eqv_nil]
  exact q
/-- where a flat word's path goes -/
def dirE (h : Int) : Int × Int := if h = 0 then (1, 0) else if h = 1 then (0, 1) else if h = 2 then (-1, 0) else (0, -1)
def wstepE (p : Int × Int × Int) : Sy → Int × Int × Int
  | .p => (p.1, p.2.1, (p.2.2 + 1) % 4)
  | .m => (p.1, p.2.1, (p.2.2 + 3) % 4)
  | .l _ => (p.1 + (dirE p.2.2).1, p.2.1 + (dirE p.2.2).2, p.2.2)
  | _ => p
/-- the sum of some steps -/
def sumD : List Int → Int × Int
  | [] => (0, 0)
  | x :: l => ((dirE x).1 + (sumD l).1, (dirE x).2 + (sumD l).2)
theorem sumD_app : ∀ a b : List Int, sumD (a ++ b) = ((sumD a).1 + (sumD b).1, (sumD a).2 + (sumD b).2)
  | [], b => by show sumD b = (0 + _, 0 + _); rw [Int.zero_add, Int.zero_add]
  | x :: a, b => by
    show ((dirE x).1 + (sumD (a ++ b)).1, (dirE x).2 + (sumD (a ++ b)).2) = ((dirE x).1 + (sumD a).1 + (sumD b).1, (dirE x).2 + (sumD a).2 + (sumD b).2)
    rw [sumD_app a b, Int.add_assoc, Int.add_assoc]
theorem sumD_rep (j : Int) : ∀ n : Nat, sumD (List.replicate n j) = ((n : Int) * (dirE j).1, (n : Int) * (dirE j).2)
  | 0 => by show (0, 0) = _; rw [Int.natCast_zero, Int.zero_mul, Int.zero_mul]
  | n + 1 => by
    show ((dirE j).1 + (sumD (List.replicate n j)).1, (dirE j).2 + (sumD (List.replicate n j)).2) = _
    rw [sumD_rep j n, Int.natCast_succ, Int.add_mul, Int.add_mul, Int.one_mul, Int.one_mul, Int.add_comm, Int.add_comm (dirE j).2]
theorem sumD_erase : ∀ {l : List Int} {i : Nat} {x : Int}, l[i]? = some x → sumD l = ((dirE x).1 + (sumD (l.eraseIdx i)).1, (dirE x).2 + (sumD (l.eraseIdx i)).2)
  | y :: l, 0, x, h => by cases h; rfl
  | y :: l, i + 1, x, h => by
    have e := sumD_erase (l := l) (i := i) h
    show ((dirE y).1 + (sumD l).1, (dirE y).2 + (sumD l).2) = ((dirE x).1 + ((dirE y).1 + (sumD (l.eraseIdx i)).1), (dirE x).2 + ((dirE y).2 + (sumD (l.eraseIdx i)).2))
    rw [e]
    refine Prod.ext ?_ ?_ <;> dsimp only <;> omega
def In4 (ss : List Int) : Prop := ∀ x ∈ ss, 0 ≤ x ∧ x < 4
theorem dir_back {x : Int} (h : 0 ≤ x ∧ x < 4) : sumD [x, (x + 2) % 4] = (0, 0) := by
  have e : x = 0 ∨ x = 1 ∨ x = 2 ∨ x = 3 := by omega
  rcases e with rfl | rfl | rfl | rfl <;> rfl
/-- turns that come to m -/
def TurnsBy (tt : List Sy) (m : Int) : Prop := ∀ p : Int × Int × Int, 0 ≤ p.2.2 ∧ p.2.2 < 4 → tt.foldl wstepE p = (p.1, p.2.1, (p.2.2 + m) % 4)
theorem turn_m : TurnsBy [.m] 3 := fun p _ => rfl
theorem turn_rep : ∀ n : Nat, TurnsBy (List.replicate n .p) n
  | 0 => fun p h => by
    show p = (p.1, p.2.1, (p.2.2 + ((0 : Nat) : Int)) % 4)
    refine Prod.ext rfl (Prod.ext rfl ?_)
    show p.2.2 = (p.2.2 + ((0 : Nat) : Int)) % 4
    omega
  | n + 1 => fun p h => by
    show (List.replicate n Sy.p).foldl wstepE (p.1, p.2.1, (p.2.2 + 1) % 4) = _
    rw [turn_rep n _ ⟨Int.emod_nonneg _ (by decide), Int.emod_lt_of_pos _ (by decide)⟩]
    refine Prod.ext rfl (Prod.ext rfl ?_)
    show ((p.2.2 + 1) % 4 + (n : Int)) % 4 = (p.2.2 + ((n + 1 : Nat) : Int)) % 4
    omega
def spEvenWord (K : PySem.W.Frag) : Sp := fun vs H Q _ => ∃ (r t : Addr) (S : Scr) (n : Nat) (u v : Int), vs = [.ref r, .int n, .ref t] ∧ RowOk K S H r ∧ H t = some (.tup [.int u, .int v]) ∧ u.natAbs + v.natAbs ≤ 3 ∧ 2 ≤ u.natAbs + v.natAbs ∧ 1 ≤ n ∧ n ≤ 8 ∧
  ∀ (H' : Hp) (p : Addr) (w' : List Sy), Drawn K S r H H' → WdAt H' p w' → Flat n 17 w' → w'.foldl wstepE (0, 0, 0) = (u, v, 0) → Q (.ref p) H'
theorem rep_ints (n : Nat) (i : Int) : (List.replicate n [V.int i]).flatten = (List.replicate n i).map V.int := by
  induction n with
  | zero => rfl
  | succ n ih => rw [List.replicate_succ, List.flatten_cons, ih]; rfl
theorem rep_sy (n : Nat) (s : Sy) : (List.replicate n [s.v]).flatten = wv (List.replicate n s) := by
  induction n with
  | zero => rfl
  | succ n ih => rw [List.replicate_succ, List.flatten_cons, ih]; rfl
theorem abs_if (i : Int) : (if i < 0 then -i else i) = (i.natAbs : Int) := by split <;> omega
/-- the turns ahead of a stroke -/
theorem turns_of {t : List Sy} (h : t = [.m] ∨ ∃ j, t = List.replicate j .p) : (∀ s ∈ t, isB s = false ∧ isL s = false) := by
  rcases h with rfl | ⟨j, rfl⟩
  · decide
  · intro s hs
    rw [List.eq_of_mem_replicate hs]
    exact ⟨rfl, rfl⟩
section
variable {X : Cx}
theorem pabs {e : Expr} {te : TE} {p pos : Pos} (m : X.mg "abs" = none) (h : PE X e te) (hg : Gl X "abs" := by rfl) (hs1 : starEach [e] X.env = (false, eval e X.env) :: starEach [] X.env := by rfl) (hp1 : (backTo pos (starEach [] X.env)).any (·.1) = false := by rfl) :
    PE X (.Call (.Name "abs" p) [e] [] pos) (tCB (fun xs H Q => ∃ i : Int, xs = [.int i] ∧ Q (.int (i.natAbs : Int)) H) (tCons te tNil)) := by
  refine pe_callB (fun pins s σ H xs us Q I r ⟨i, h1, q⟩ => call_abs pins s σ H xs us Q I r ⟨i, h1, ?_⟩) hg m (by decide +kernel) (pa_cons h pa_nil hs1) (by decide) (by decide) hs1 hp1
  rw [abs_if]
  exact q
end
section
variable {P : Program} {w : World} {K : PySem.W.Frag} {mg : Str → Option Value} {base : Heap}
theorem erase_map {α β : Type} (f : α → β) : ∀ (l : List α) (i : Nat), (l.map f).eraseIdx i = (l.eraseIdx i).map f
  | [], _ => rfl
  | _ :: _, 0 => rfl
  | x :: l, i + 1 => by
    show f x :: (l.map f).eraseIdx i = f x :: (l.eraseIdx i).map f
    rw [erase_map f l i]
def tHalf (t : Addr) (u v i jp jm : Int) : TE := fun σ H Q => σ[2]? = some (some (.ref t)) ∧ H t = some (.tup [.int u, .int v]) ∧ ∀ (H2 : Hp) (p : Addr) (j : Int), Same H H2 → H p = none → H2 p = some (.lst ((List.replicate i.natAbs j).map V.int)) → (0 < i ∧ j = jp ∨ i ≤ 0 ∧ j = jm) → Q (.ref p) H2
theorem half (H1 : Hp) (i j1 : Int) (Q' : VK) (hi : i.natAbs ≤ 3) (hq : ∀ (H2 : Hp) (p : Addr), Same H1 H2 → H1 p = none → H2 p = some (.lst ((List.replicate i.natAbs j1).map V.int)) → Q' (.ref p) H2)
    (Ha : Hp) (a : Addr) (sa : Same H1 Ha) (ha : Ha a = some (.lst [.int j1])) : rRepN (.ref a) (.int (i.natAbs : Int)) Ha Q' := by
  refine ⟨a, _, _, rfl, rfl, ha, by omega, by omega, szl _ (by rw [Int.toNat_natCast]; show 1 * i.natAbs ≤ 16777216; omega), fun H2 p s2 n2 h2 => ?_⟩
  rw [Int.toNat_natCast, rep_ints] at h2
  exact hq H2 p (sa.trans s2) (sa.free n2) h2
/-- the turns ahead of a stroke -/
def tTurns : TE := fun σ H Q => ∃ m : Int, σ[8]? = some (some (.int m)) ∧ 0 ≤ m ∧ m < 4 ∧ ∀ (H2 : Hp) (p : Addr) (tt : List Sy), Same H H2 → H p = none → H2 p = some (.lst (wv tt)) → (∀ s ∈ tt, isB s = false ∧ isL s = false) → tt.length ≤ 2 → TurnsBy tt m → Q (.ref p) H2
/-- the two steps more, there and back -/
def tMore (K : PySem.W.Frag) (n : Nat) : TS := fun D σ H => ∃ (r t sa : Addr) (S : Scr) (ss : List Int) (y4 y5 y6 y7 y8 : Option V), σ = [some (.ref r), some (.int n), some (.ref t), some (.ref sa), y4, y5, y6, y7, y8] ∧ RowOk K S H r ∧ sa ≠ r ∧ H sa = some (.lst (ss.map V.int)) ∧ ss.length ≤ 3 ∧ In4 ss ∧
  ∀ (H' : Hp) (sa' : Addr) (ss' : List Int) (y4 : Option V), Drawn K S r H H' → (sa' = sa ∨ H sa' = none) → H' sa' = some (.lst (ss'.map V.int)) → ss.length ≤ ss'.length → ss'.length ≤ ss.length + 2 → In4 ss' → sumD ss' = sumD ss → D.nx [some (.ref r), some (.int n), some (.ref t), some (.ref sa'), y4, y5, y6, y7, y8] H'
theorem m4 (i : Int) : 0 ≤ i % 4 ∧ i % 4 < 4 := ⟨by omega, by omega⟩
theorem SameX.free {r p : Addr} {H H' : Hp} (s : SameX r H H') (hr : p ≠ r) (h : H' p = none) : H p = none := by
  cases q : H p with
  | none => rfl
  | some o => rw [s p o hr q] at h; cases h
theorem Drawn.free {K : PySem.W.Frag} {S : Scr} {r p : Addr} {H H' : Hp} (s : Drawn K S r H H') (h : H' p = none) : H p = none := SameX.free s.same (s.row.there h) h
end
end SK
namespace SK
open PySem PySem.Spec PyProof.Rows L2
def spEvenBook (K : PySem.W.Frag) : Sp := fun vs H Q _ => ∃ (r : Addr) (S : Scr), vs = [.ref r] ∧ RowOk K S H r ∧
  ∀ (H' : Hp) (p b m : Addr) (ws : List (List Sy)) (st : List Sy), Drawn K S r H H' → H' p = some (.tup [.ref b, .ref m]) → BookAt H' b ws st → GoodBook ws st → Q (.ref p) H'
/-- words whose paths go (u, v) on, no turning in all, but for a branch -/
def EvenWs (u v : Int) (ws : List (List Sy)) : Prop := ws.length ≤ 2 ∧ ∀ w ∈ ws, ∃ w0 : List Sy, (∀ s ∈ w0, isB s = false) ∧ w0.foldl wstepE (0, 0, 0) = (u, v, 0) ∧ Br w0 w
def spEvenBookE (K : PySem.W.Frag) : Sp := fun vs H Q _ => ∃ (r : Addr) (S : Scr), vs = [.ref r] ∧ RowOk K S H r ∧
  ∀ (H' : Hp) (p b m : Addr) (ws : List (List Sy)) (st : List Sy) (u v : Int), Drawn K S r H H' → H' p = some (.tup [.ref b, .ref m]) → BookAt H' b ws st → GoodBook ws st → H' m = some (.tup [.int u, .int v]) → EvenWs u v ws → 2 ≤ u.natAbs + v.natAbs ∧ u.natAbs + v.natAbs ≤ 3 → Q (.ref p) H'
theorem good_start {n : Nat} (h : 1 ≤ n) : Good n 40 [.l (n - 1), .l 0] := ⟨rfl, fun k hk => by
  simp only [List.mem_cons, List.not_mem_nil, or_false] at hk
  rcases hk with e | e <;> cases e <;> omega, rfl, by show 2 ≤ 40; decide, by show 2 + 6 ≤ 8 * 2; decide⟩
theorem good_up {n L : Nat} {w : List Sy} (h : Good 1 L w) (hn : 1 ≤ n) : Good n L w := ⟨h.nst, fun k hk => Nat.lt_of_lt_of_le (h.lets k hk) hn, h.has, h.len, h.slim⟩
end SK
namespace SK
open PySem PySem.Spec PyProof.Rows L2
/-! ### a list or a tuple walked -/
def Sq (K : PySem.W.Frag) (H : Hp) (a : Addr) (xs : List V) : Prop := SqL K H a xs ∨ SqT K H a xs
theorem Sq.same {K : PySem.W.Frag} {H H' : Hp} {a : Addr} {xs : List V} (h : Sq K H a xs) (s : Same H H') : Sq K H' a xs := h.elim (fun h => .inl (s.seq h)) fun h => .inr (sTup s h)
def iSeq (K : PySem.W.Frag) (i : Nat) : TI := fun σ H R => ∃ a, σ[i]? = some (some (.ref a)) ∧ (((∃ xs, SqL K H a xs) ∧ R (Itl K a) H) ∨ ((∃ xs, SqT K H a xs) ∧ R (Itt K a) H))
theorem pi_seq {X : Cx} {tg l : Expr} {i : Nat} (hl : PE X l (tVar i)) : PI X tg l (iSeq X.K i) := by
  refine ⟨fun pins s σ H R I ⟨a, e, q⟩ => ?_⟩
  rcases q with ⟨hx, q⟩ | ⟨hx, q⟩
  · exact (pi_list hl).run pins s σ H R I ⟨_, e, a, rfl, hx, q⟩
  · exact (pi_tup hl).run pins s σ H R I ⟨_, e, a, rfl, hx, q⟩
/-- the two walks by one invariant -/
theorem for_seq {K : PySem.W.Frag} {a : Addr} {xs : List V} {g : TG} {tb : TS} {D : Ends} {σ : L2.St} {H : Hp} (h : Sq K H a xs) (Pv : Nat → L2.St → Hp → Prop) (h0 : Pv 0 σ H) (hl : ∀ i σ H', i ≤ xs.length → Pv i σ H' → Same H H')
    (hs : ∀ i x σ H, xs[i]? = some x → Pv i σ H → g x σ H fun σ2 H2 => tb { D with nx := Pv (i + 1), ct := Pv (i + 1), bk := D.nx } σ2 H2) (hd : ∀ σ H, Pv xs.length σ H → D.nx σ H) :
    ((∃ xs, SqL K H a xs) ∧ ∃ W : Nat → Nat → L2.St → Hp → Prop, (∃ m, W 0 m σ H) ∧ ∀ i m σ H, W i m σ H → ((Itl K a).stop i H ∧ D.nx σ H) ∨ ((Itl K a).go i H ∧ ∃ N : L2.St → Hp → Prop, (∀ σ' H', N σ' H' → ∃ m', m' < m ∧ W (i + 1) m' σ' H') ∧ ∀ x H', (Itl K a).yld i H x H' → g x σ H' fun σ2 H2 => tb { D with nx := N, ct := N, bk := D.nx } σ2 H2)) ∨
    ((∃ xs, SqT K H a xs) ∧ ∃ W : Nat → Nat → L2.St → Hp → Prop, (∃ m, W 0 m σ H) ∧ ∀ i m σ H, W i m σ H → ((Itt K a).stop i H ∧ D.nx σ H) ∨ ((Itt K a).go i H ∧ ∃ N : L2.St → Hp → Prop, (∀ σ' H', N σ' H' → ∃ m', m' < m ∧ W (i + 1) m' σ' H') ∧ ∀ x H', (Itt K a).yld i H x H' → g x σ H' fun σ2 H2 => tb { D with nx := N, ct := N, bk := D.nx } σ2 H2)) := by
  rcases h with h | h
  · exact .inl ⟨⟨xs, h⟩, for_list (K := K) (a := a) (xs := xs) Pv h0 (fun i σ H' hi p => (hl i σ H' hi p).seq h) hs hd⟩
  · exact .inr ⟨⟨xs, h⟩, for_tup (K := K) (a := a) (xs := xs) Pv h0 (fun i σ H' hi p => sTup (hl i σ H' hi p) h) hs hd⟩
/-! ### isinstance -/
def rIs (K : PySem.W.Frag) (T : String) : List V → Hp → VK → Prop := fun xs H Q => ∃ (x : V) (n : String) (b : Bool), xs = [x, .ty T] ∧ TyX K H x (.type n) ∧ kitB n T = some b ∧ Q (.bl b) H
theorem call_is {X : Cx} (T : String) : CallR X (.builtin "isinstance") (rIs X.K T) := fun pins s σ H xs us Q I r ⟨x, n, b, e, t, k, q⟩ => call_isi pins s σ H xs us Q I r ⟨x, .ty T, .type n, .type T, b, e, .ty T, t, kit_ty k, q⟩
theorem ty_int {K : PySem.W.Frag} {H : Hp} (i : Int) : TyX K H (.int i) (.type "int") := .base (.int i)
theorem ty_str {K : PySem.W.Frag} {H : Hp} (z : Str) : TyX K H (.str z) (.type "str") := .base (.str z)
theorem ty_non {K : PySem.W.Frag} {H : Hp} : TyX K H .non (.type "NoneType") := .base .non
theorem ty_bl {K : PySem.W.Frag} {H : Hp} (b : Bool) : TyX K H (.bl b) (.type "bool") := .base (.bl b)
theorem ty_lst {K : PySem.W.Frag} {H : Hp} {a : Addr} {xs : List V} (h : H a = some (.lst xs)) : TyX K H (.ref a) (.type "list") := .base (.lst h)
theorem ty_tup {K : PySem.W.Frag} {H : Hp} {a : Addr} {xs : List V} (h : H a = some (.tup xs)) : TyX K H (.ref a) (.type "tuple") := .base (.tup h)
theorem ty_sy {K : PySem.W.Frag} {H : Hp} (s : Sy) : ∃ n b, TyX K H s.v (.type n) ∧ kitB n "str" = some b ∧ b = !isL s := by
  cases s with
  | l k => exact ⟨_, _, ty_int _, (by decide +kernel : kitB "int" "str" = some false), rfl⟩
  | p => exact ⟨_, _, ty_str _, (by decide +kernel : kitB "str" "str" = some true), rfl⟩
  | m => exact ⟨_, _, ty_str _, (by decide +kernel : kitB "str" "str" = some true), rfl⟩
  | o => exact ⟨_, _, ty_str _, (by decide +kernel : kitB "str" "str" = some true), rfl⟩
  | c => exact ⟨_, _, ty_str _, (by decide +kernel : kitB "str" "str" = some true), rfl⟩
section
variable {X : Cx}
/-- isinstance(e, T), T a built-in type by its name -/
theorem pis {e : Expr} {te : TE} {p p2 pos : Pos} {x : Str} (T : String) (hv : bootBuiltins x = some (.type T)) (mI : X.mg "isinstance" = none) (mT : X.mg x = none) (h : PE X e te) (hg : Gl X "isinstance" := by rfl) (hgx : Gl X x := by rfl) (hn : x ≠ "__name__" := by decide) (hdb : (x == ("__debug__" : Str)) = false := by decide)
    (hs2 : starEach [.Name x p2] X.env = (false, eval (.Name x p2) X.env) :: starEach [] X.env := by rfl) (hs1 : starEach [e, .Name x p2] X.env = (false, eval e X.env) :: starEach [.Name x p2] X.env := by rfl) (hp1 : (backTo pos (starEach [.Name x p2] X.env)).any (·.1) = false := by rfl) :
    PE X (.Call (.Name "isinstance" p) [e, .Name x p2] [] pos) (tCB (rIs X.K T) (tCons te (tCons (tC (.ty T)) tNil))) :=
  pe_callB (call_is T) hg mI (by decide +kernel) (pa_cons h (pa_cons (pe_bltn (v := .ty T) hgx mT hv rfl hn hdb) pa_nil hs2) hs1) (by decide) (by decide) hs1 hp1
/-- not isinstance(part, str) of a sign -/
def tSyTest (te : TE) : TT := fun σ H Q => te σ H fun x H1 => ∃ s : Sy, x = s.v ∧ Q (isL s) H1
theorem ptNotStr {e : Expr} {te : TE} {p p2 pos pos2 : Pos} (mI : X.mg "isinstance" = none) (mS : X.mg "str" = none) (h : PE X e te) (hg : Gl X "isinstance" := by rfl) (hgx : Gl X "str" := by rfl)
    (hs2 : starEach [.Name "str" p2] X.env = (false, eval (.Name "str" p2) X.env) :: starEach [] X.env := by rfl) (hs1 : starEach [e, .Name "str" p2] X.env = (false, eval e X.env) :: starEach [.Name "str" p2] X.env := by rfl) (hp1 : (backTo pos (starEach [.Name "str" p2] X.env)).any (·.1) = false := by rfl) :
    PT X (.UnaryOp .Not (.Call (.Name "isinstance" p) [e, .Name "str" p2] [] pos) pos2) (fun σ H Q => tCB (rIs X.K "str") (tCons te (tCons (tC (.ty "str")) tNil)) σ H fun x H1 => ∃ k, x = .bl k ∧ Q (!k) H1) := by
  have a := pis (X := X) (p := p) (p2 := p2) (pos := pos) "str" (by decide +kernel) mI mS h hg hgx (by decide) (by decide) hs2 hs1 hp1
  exact pt_not (pt_val a)
end
end SK
namespace SK
open PySem PySem.Spec PyProof.Rows L2
/-! ### growth -/
def img (ws : List (List Sy)) : Sy → List Sy
  | .l k => ws.getD k []
  | s => [s]
def grow (ws : List (List Sy)) (w : List Sy) : List Sy := w.flatMap (img ws)
def grown (ws : List (List Sy)) (st : List Sy) : Nat → List Sy
  | 0 => st
  | n + 1 => grow ws (grown ws st n)
theorem grow_app (ws : List (List Sy)) (a b : List Sy) : grow ws (a ++ b) = grow ws a ++ grow ws b := List.flatMap_append
theorem any_pos {w : List Sy} (h : w.any isL = true) : 1 ≤ w.length := by
  cases w with
  | nil => cases h
  | cons _ _ => simp
theorem img_lets {ws : List (List Sy)} (hg : ∀ w ∈ ws, Good ws.length 40 w) {s : Sy} (hs : ∀ k, s = .l k → k < ws.length) : ∀ k, Sy.l k ∈ img ws s → k < ws.length := by
  intro k hk
  cases s with
  | l j =>
    have hj := hs j rfl
    have e : img ws (.l j) = ws[j] := by
      show ws.getD j [] = ws[j]
      rw [List.getD_eq_getElem?_getD, List.getElem?_eq_getElem hj]; rfl
    rw [e] at hk
    exact (hg _ (List.getElem_mem hj)).lets k hk
  | p => cases List.mem_singleton.mp hk
  | m => cases List.mem_singleton.mp hk
  | o => cases List.mem_singleton.mp hk
  | c => cases List.mem_singleton.mp hk
theorem grow_lets {ws : List (List Sy)} (hg : ∀ w ∈ ws, Good ws.length 40 w) {w : List Sy} (hw : ∀ k, Sy.l k ∈ w → k < ws.length) : ∀ k, Sy.l k ∈ grow ws w → k < ws.length := by
  intro k hk
  obtain ⟨s, hs, h⟩ := List.mem_flatMap.mp hk
  exact img_lets hg (fun j e => hw j (e ▸ hs)) k h
theorem grown_lets {ws : List (List Sy)} {st : List Sy} (h : GoodBook ws st) : ∀ n k, Sy.l k ∈ grown ws st n → k < ws.length
  | 0 => h.start.lets
  | n + 1 => grow_lets h.words (grown_lets h n)
theorem img_pos {ws : List (List Sy)} (hg : ∀ w ∈ ws, Good ws.length 40 w) {s : Sy} (hs : ∀ k, s = .l k → k < ws.length) : 1 ≤ (img ws s).length ∧ (img ws s).length ≤ 40 := by
  cases s with
  | l j =>
    have hj := hs j rfl
    have e : img ws (.l j) = ws[j] := by
      show ws.getD j [] = ws[j]
      rw [List.getD_eq_getElem?_getD, List.getElem?_eq_getElem hj]; rfl
    rw [e]
    have := hg _ (List.getElem_mem hj)
    exact ⟨any_pos this.has, this.len⟩
  | p => exact ⟨Nat.le_refl _, (by decide : 1 ≤ 40)⟩
  | m => exact ⟨Nat.le_refl _, (by decide : 1 ≤ 40)⟩
  | o => exact ⟨Nat.le_refl _, (by decide : 1 ≤ 40)⟩
  | c => exact ⟨Nat.le_refl _, (by decide : 1 ≤ 40)⟩
theorem grow_le {ws : List (List Sy)} (hg : ∀ w ∈ ws, Good ws.length 40 w) : ∀ {w : List Sy}, (∀ k, Sy.l k ∈ w → k < ws.length) → w.length ≤ (grow ws w).length
  | [], _ => Nat.zero_le _
  | s :: w, h => by
    have ih := grow_le hg (w := w) fun k hk => h k (List.mem_cons_of_mem _ hk)
    have h1 := (img_pos hg (s := s) fun k e => h k (e ▸ List.mem_cons_self)).1
    show w.length + 1 ≤ (img ws s ++ grow ws w).length
    rw [List.length_append]
    omega
theorem grown_mono {ws : List (List Sy)} {st : List Sy} (h : GoodBook ws st) : ∀ {m n : Nat}, m ≤ n → (grown ws st m).length ≤ (grown ws st n).length
  | m, 0, e => by rw [Nat.le_zero.mp e]; exact Nat.le_refl _
  | m, n + 1, e => by
    rcases Nat.lt_or_ge n m with q | q
    · have : m = n + 1 := by omega
      rw [this]; exact Nat.le_refl _
    · exact Nat.le_trans (grown_mono h q) (grow_le h.words (grown_lets h n))
/-- a piece of a word grown is no longer than the whole -/
theorem grow_take {ws : List (List Sy)} (w : List Sy) (i : Nat) : (grow ws (w.take i)).length ≤ (grow ws w).length := by
  have e : grow ws w = grow ws (w.take i) ++ grow ws (w.drop i) := by rw [← grow_app, List.take_append_drop]
  rw [e, List.length_append]
  omega
theorem take_more {α : Type} : ∀ {l : List α} {i : Nat} {x : α}, l[i]? = some x → l.take (i + 1) = l.take i ++ [x]
  | [], i, x, h => by simp at h
  | a :: l, 0, x, h => by
    have e : a = x := Option.some.inj h
    subst e
    rfl
  | a :: l, i + 1, x, h => by
    have ih := take_more (l := l) (i := i) (x := x) h
    show a :: l.take (i + 1) = a :: l.take i ++ [x]
    rw [ih]
    rfl
theorem paired_get {α β : Type} {F : α → β → Prop} : ∀ {xs : List α} {ys : List β} {i : Nat} {y : β}, Paired F xs ys → ys[i]? = some y → ∃ x, xs[i]? = some x ∧ F x y
  | _, _, _, _, .nil, e => by simp at e
  | _, _, 0, _, .cons r _, e => by simp at e; subst e; exact ⟨_, rfl, r⟩
  | _, _, i + 1, y, .cons _ t, e => by
    obtain ⟨u, h1, h2⟩ := paired_get (i := i) (y := y) t (by simpa using e)
    exact ⟨u, by simpa using h1, h2⟩
theorem wv_get {w : List Sy} {i : Nat} {x : V} (h : (wv w)[i]? = some x) : ∃ s, w[i]? = some s ∧ x = s.v := by
  rw [List.getElem?_map] at h
  cases e : w[i]? with
  | none => rw [e] at h; cases h
  | some s => rw [e] at h; exact ⟨s, rfl, (Option.some.inj h).symm⟩
end SK
namespace SK
open PySem PySem.Spec PyProof.Rows L2
/-! ### how long words grow -/
theorem img_slim {ws : List (List Sy)} (hg : ∀ w ∈ ws, Good ws.length 40 w) {s : Sy} (hs : ∀ k, s = .l k → k < ws.length) : (img ws s).length + 7 * nL [s] ≤ 8 * nL (img ws s) + 1 := by
  cases s with
  | l j =>
    have hj := hs j rfl
    have e : img ws (.l j) = ws[j] := by
      show ws.getD j [] = ws[j]
      rw [List.getD_eq_getElem?_getD, List.getElem?_eq_getElem hj]; rfl
    rw [e]
    have := (hg _ (List.getElem_mem hj)).slim
    have e1 : nL [Sy.l j] = 1 := rfl
    omega
  | p => exact (by decide : 1 + 7 * 0 ≤ 8 * 0 + 1)
  | m => exact (by decide : 1 + 7 * 0 ≤ 8 * 0 + 1)
  | o => exact (by decide : 1 + 7 * 0 ≤ 8 * 0 + 1)
  | c => exact (by decide : 1 + 7 * 0 ≤ 8 * 0 + 1)
theorem grow_slim {ws : List (List Sy)} (hg : ∀ w ∈ ws, Good ws.length 40 w) : ∀ {w : List Sy}, (∀ k, Sy.l k ∈ w → k < ws.length) → (grow ws w).length + 7 * nL w ≤ 8 * nL (grow ws w) + w.length
  | [], _ => Nat.zero_le _
  | s :: w, h => by
    have ih := grow_slim hg (w := w) fun k hk => h k (List.mem_cons_of_mem _ hk)
    have h1 := img_slim hg (s := s) fun k e => h k (e ▸ List.mem_cons_self)
    have e1 : grow ws (s :: w) = img ws s ++ grow ws w := rfl
    have e2 : nL (s :: w) = nL [s] + nL w := nL_app [s] w
    rw [e1, List.length_append, nL_app, e2, List.length_cons]
    omega
theorem grow_40 {ws : List (List Sy)} (hg : ∀ w ∈ ws, Good ws.length 40 w) : ∀ {w : List Sy}, (∀ k, Sy.l k ∈ w → k < ws.length) → (grow ws w).length ≤ 40 * w.length
  | [], _ => Nat.zero_le _
  | s :: w, h => by
    have ih := grow_40 hg (w := w) fun k hk => h k (List.mem_cons_of_mem _ hk)
    have h1 := (img_pos hg (s := s) fun k e => h k (e ▸ List.mem_cons_self)).2
    have e1 : grow ws (s :: w) = img ws s ++ grow ws w := rfl
    rw [e1, List.length_append, List.length_cons]
    omega
theorem nL_le (w : List Sy) : nL w ≤ w.length := List.length_filter_le _ _
theorem grown_len {ws : List (List Sy)} {st : List Sy} {M : Nat} (h : GoodBook ws st) : ∀ n, (∀ a, a < n → nL (grown ws st a) ≤ M) → (grown ws st n).length ≤ 8 * nL (grown ws st n) + 40 + M * n
  | 0, _ => by have := h.start.len; show st.length ≤ _; omega
  | n + 1, ha => by
    have ih := grown_len h n fun a hl => ha a (by omega)
    have h1 := grow_slim h.words (grown_lets h n)
    have h2 := ha n (by omega)
    show (grow ws (grown ws st n)).length ≤ 8 * nL (grow ws (grown ws st n)) + 40 + M * (n + 1)
    rw [Nat.mul_succ]
    omega
/-- at an age that the law draws -/
def Low (M : Nat) (ws : List (List Sy)) (st : List Sy) (n : Nat) : Prop := n ≤ 8 ∧ ∀ a, a ≤ n → nL (grown ws st a) ≤ M
theorem Low.mono {M : Nat} {ws : List (List Sy)} {st : List Sy} {m n : Nat} (h : Low M ws st n) (l : m ≤ n) : Low M ws st m := ⟨Nat.le_trans l h.1, fun a ha => h.2 a (Nat.le_trans ha l)⟩
theorem Low.len {M : Nat} {ws : List (List Sy)} {st : List Sy} {n : Nat} (g : GoodBook ws st) (h : Low M ws st n) : (grown ws st n).length ≤ 16 * M + 40 := by
  have h1 := grown_len (M := M) g n fun a ha => h.2 a (by omega)
  have h2 := h.2 n (Nat.le_refl _)
  have h3 : M * n ≤ M * 8 := Nat.mul_le_mul_left M h.1
  omega
theorem Low.zero {M : Nat} {ws : List (List Sy)} {st : List Sy} (g : GoodBook ws st) (hM : 40 ≤ M) : Low M ws st 0 := ⟨Nat.zero_le _, fun a ha => by
  have e : a = 0 := by omega
  subst e
  have := nL_le st
  have := g.start.len
  show nL st ≤ M
  omega⟩
/-- the test of the names that stand in the i-th slot -/
def tNotStr (K : PySem.W.Frag) (i : Nat) : TT := fun σ H Q => tCB (rIs K "str") (tCons (tVar i) (tCons (tC (.ty "str")) tNil)) σ H fun x H1 => ∃ k, x = .bl k ∧ Q (!k) H1
end SK
namespace SK
open PySem PySem.Spec PyProof.Rows L2
/-! ### the pen -/
abbrev Stk := Int × Int × Int × Nat
structure Pen where
  x : Int
  y : Int
  h : Int
  st : List (Int × Int × Int)
  out : List Stk
def dir (h : Int) : Int × Int := if h = 0 then (1, 0) else if h = 1 then (0, 1) else if h = 2 then (-1, 0) else (0, -1)
def pstep (p : Pen) : Sy → Pen
  | .o => { p with st := p.st ++ [(p.x, p.y, p.h)] }
  | .c => match p.st.getLast? with
    | some (a, b, c) => { p with x := a, y := b, h := c, st := p.st.dropLast }
    | none => p
  | .p => { p with h := (p.h + 1) % 4 }
  | .m => { p with h := (p.h + 3) % 4 }
  | .l k => { p with out := p.out ++ [(p.x, p.y, p.h, k)], x := p.x + (dir p.h).1, y := p.y + (dir p.h).2 }
def pen (w : List Sy) : Pen := w.foldl pstep ⟨0, 0, 0, [], []⟩
def strokes (w : List Sy) : List Stk := (pen w).out
theorem pen_snoc (v : List Sy) (s : Sy) : pen (v ++ [s]) = pstep (pen v) s := by
  unfold pen
  rw [List.foldl_append]
  rfl
structure PenOk (v : List Sy) : Prop where
  nst : nest v 0 = some (pen v).st.length
  h : 0 ≤ (pen v).h ∧ (pen v).h < 4
  st : ∀ q ∈ (pen v).st, 0 ≤ q.2.2 ∧ q.2.2 < 4
  out : ∀ q ∈ (pen v).out, 0 ≤ q.2.2.1 ∧ q.2.2.1 < 4
  len : (pen v).out.length ≤ v.length ∧ (pen v).st.length ≤ v.length
theorem penOk_nil : PenOk [] := ⟨rfl, ⟨by decide, by decide⟩, (fun q h => nomatch h), (fun q h => nomatch h), ⟨Nat.le_refl _, Nat.le_refl _⟩⟩
theorem penOk_snoc {v : List Sy} {s : Sy} (p : PenOk v) (h : nest (v ++ [s]) 0 ≠ none) : PenOk (v ++ [s]) := by
  rw [nest_app, p.nst] at h
  have e : nest (v ++ [s]) 0 = nest [s] (pen v).st.length := by rw [nest_app, p.nst]; rfl
  have hl : (v ++ [s]).length = v.length + 1 := by simp
  cases s with
  | o =>
    refine ⟨?_, ?_, ?_, ?_, ?_⟩
    · rw [e, pen_snoc]
      show some ((pen v).st.length + 1) = some ((pen v).st ++ [_]).length
      rw [List.length_append]; rfl
    · rw [pen_snoc]; exact p.h
    · rw [pen_snoc]
      intro q hq
      rcases List.mem_append.mp hq with h | h
      · exact p.st q h
      · rw [List.mem_singleton.mp h]; exact p.h
    · rw [pen_snoc]; exact p.out
    · rw [pen_snoc, hl]
      have := p.len
      exact ⟨Nat.le_succ_of_le this.1, by show ((pen v).st ++ [_]).length ≤ _; rw [List.length_append, List.length_singleton]; omega⟩
  | c =>
    cases hs : (pen v).st.getLast? with
    | none =>
      rw [List.getLast?_eq_none_iff] at hs
      rw [hs] at h
      exact absurd rfl h
    | some t =>
      obtain ⟨a, b, c⟩ := t
      have e2 : pstep (pen v) .c = { pen v with x := a, y := b, h := c, st := (pen v).st.dropLast } := by
        show (match (pen v).st.getLast? with
          | some (a, b, c) => { pen v with x := a, y := b, h := c, st := (pen v).st.dropLast }
          | none => pen v) = _
        rw [hs]
      have hm : (a, b, c) ∈ (pen v).st := List.mem_of_getLast? hs
      have hne : (pen v).st ≠ [] := fun z => by rw [z] at hm; cases hm
      have hpos : 1 ≤ (pen v).st.length := List.length_pos_iff.mpr hne
      refine ⟨?_, ?_, ?_, ?_, ?_⟩
      · rw [e, pen_snoc, e2]
        show nest [.c] (pen v).st.length = some (pen v).st.dropLast.length
        rw [List.length_dropLast]
        obtain ⟨d, hd⟩ : ∃ d, (pen v).st.length = d + 1 := ⟨_, (Nat.sub_add_cancel hpos).symm⟩
        rw [hd]
        rfl
      · rw [pen_snoc, e2]; exact p.st _ hm
      · rw [pen_snoc, e2]; intro q hq; exact p.st q (List.dropLast_subset _ hq)
      · rw [pen_snoc, e2]; exact p.out
      · rw [pen_snoc, e2, hl]
        have := p.len
        exact ⟨Nat.le_succ_of_le this.1, by show (pen v).st.dropLast.length ≤ _; rw [List.length_dropLast]; omega⟩
  | p =>
    refine ⟨by rw [e, pen_snoc]; rfl, ?_, ?_, ?_, ?_⟩
    · rw [pen_snoc]; exact ⟨by show 0 ≤ ((pen v).h + 1) % 4; omega, by show ((pen v).h + 1) % 4 < 4; omega⟩
    · rw [pen_snoc]; exact p.st
    · rw [pen_snoc]; exact p.out
    · rw [pen_snoc, hl]; exact ⟨Nat.le_succ_of_le p.len.1, Nat.le_succ_of_le p.len.2⟩
  | m =>
    refine ⟨by rw [e, pen_snoc]; rfl, ?_, ?_, ?_, ?_⟩
    · rw [pen_snoc]; exact ⟨by show 0 ≤ ((pen v).h + 3) % 4; omega, by show ((pen v).h + 3) % 4 < 4; omega⟩
    · rw [pen_snoc]; exact p.st
    · rw [pen_snoc]; exact p.out
    · rw [pen_snoc, hl]; exact ⟨Nat.le_succ_of_le p.len.1, Nat.le_succ_of_le p.len.2⟩
  | l k =>
    refine ⟨by rw [e, pen_snoc]; rfl, ?_, ?_, ?_, ?_⟩
    · rw [pen_snoc]; exact p.h
    · rw [pen_snoc]; exact p.st
    · rw [pen_snoc]
      intro q hq
      rcases List.mem_append.mp (show q ∈ (pen v).out ++ [_] from hq) with h | h
      · exact p.out q h
      · rw [List.mem_singleton.mp h]; exact p.h
    · rw [pen_snoc, hl]
      exact ⟨by show ((pen v).out ++ [_]).length ≤ _; rw [List.length_append, List.length_singleton]; have := p.len.1; omega, Nat.le_succ_of_le p.len.2⟩
/-- a piece of a word whose branches end -/
theorem nest_take {w : List Sy} (h : nest w 0 ≠ none) (i : Nat) : nest (w.take i) 0 ≠ none := by
  intro z
  apply h
  rw [← List.take_append_drop i w, nest_app, z]
  rfl
theorem penOk_take {w : List Sy} (h : nest w 0 ≠ none) : ∀ i, i ≤ w.length → PenOk (w.take i)
  | 0, _ => penOk_nil
  | i + 1, hi => by
    have e : w[i]? = some w[i] := List.getElem?_eq_getElem (by omega)
    rw [take_more e]
    exact penOk_snoc (penOk_take h i (by omega)) (by rw [← take_more e]; exact nest_take h (i + 1))
theorem pen_take {w : List Sy} {i : Nat} {s : Sy} (h : w[i]? = some s) : pen (w.take (i + 1)) = pstep (pen (w.take i)) s := by rw [take_more h, pen_snoc]
/-! ### strokes in the heap -/
def stV (s : Stk) : List V := [.int s.1, .int s.2.1, .int s.2.2.1, .int s.2.2.2]
def plV (q : Int × Int × Int) : List V := [.int q.1, .int q.2.1, .int q.2.2]
def Strs (H : Hp) (as : List Addr) (ss : List Stk) : Prop := Paired (fun a s => H a = some (.tup (stV s))) as ss
def Pls (H : Hp) (as : List Addr) (ss : List (Int × Int × Int)) : Prop := Paired (fun a s => H a = some (.tup (plV s))) as ss
theorem Strs.keep {H H' : Hp} {as : List Addr} {ss : List Stk} (s : TupS H H') (h : Strs H as ss) : Strs H' as ss := Paired.mono (fun a w e => s.1 a _ e) h
theorem Pls.keep {H H' : Hp} {as : List Addr} {ss : List (Int × Int × Int)} (s : TupS H H') (h : Pls H as ss) : Pls H' as ss := Paired.mono (fun a w e => s.1 a _ e) h
theorem paired_last {α β : Type} {F : α → β → Prop} : ∀ {xs : List α} {ys : List β} {y : β}, Paired F xs ys → ys.getLast? = some y → ∃ x, xs.getLast? = some x ∧ F x y ∧ Paired F xs.dropLast ys.dropLast
  | _, _, _, .nil, h => by simp at h
  | _, _, y, .cons r .nil, h => by simp at h; subst h; exact ⟨_, rfl, r, .nil⟩
  | _, _, y, .cons r (.cons (a := a2) (b := b2) (l₁ := l1) (l₂ := l2) r2 t), h => by
    have h' : (b2 :: l2).getLast? = some y := by rw [List.getLast?_cons_cons] at h; exact h
    obtain ⟨x, h1, h2, h3⟩ := paired_last (.cons r2 t) h'
    exact ⟨x, by rw [List.getLast?_cons_cons]; exact h1, h2, .cons r h3⟩
theorem itN {c A B : Prop} [Decidable c] (hc : ¬ c) (h : B) : if decide c = true then A else B := by
  rw [decide_eq_false hc]
  exact iteF h
theorem itY {c A B : Prop} [Decidable c] (hc : c) (h : A) : if decide c = true then A else B := by
  rw [decide_eq_true hc]
  exact iteT h
end SK
namespace SK
open PySem PySem.Spec PyProof.Rows L2
/-! ### alike: the same data, at most n deep -/
def flatA : V → Bool
  | .non => true
  | .int _ => true
  | .bl _ => true
  | .str _ => true
  | _ => false
theorem rd_same {H H' : Hp} {a : Addr} {u : HO} (s : Same H H') (h : Rd H a u) : Rd H' a u := h.imp (s _ _) (fun ⟨o, e⟩ => ⟨o, s _ _ e⟩)
theorem ty_rd {K : PySem.W.Frag} {H : Hp} {a : Addr} {xs : List V} (h : Rd H a (.tup xs)) : TyX K H (.ref a) (.type "tuple") := by
  rcases h with h | ⟨o, h⟩
  · exact ty_tup h
  · exact .fTuple h
def Alk (H : Hp) : Nat → V → V → Prop
  | 0, v, u => v = u ∧ flatA v = true
  | n + 1, v, u => (v = u ∧ flatA v = true) ∨ ∃ (a b : Addr) (xs ys : List V), v = .ref a ∧ u = .ref b ∧ ((Rd H a (.tup xs) ∧ Rd H b (.tup ys)) ∨ (H a = some (.lst xs) ∧ H b = some (.lst ys))) ∧ xs.length = ys.length ∧ xs.length ≤ 10000000 ∧
      ∀ (i : Nat) (x y : V), xs[i]? = some x → ys[i]? = some y → Alk H n x y
theorem Alk.same {H H' : Hp} (s : Same H H') : ∀ {n : Nat} {v u : V}, Alk H n v u → Alk H' n v u
  | 0, _, _, h => h
  | n + 1, _, _, .inl h => .inl h
  | n + 1, _, _, .inr ⟨a, b, xs, ys, e1, e2, h, hl, hz, hi⟩ => .inr ⟨a, b, xs, ys, e1, e2, h.imp (fun z => ⟨rd_same s z.1, rd_same s z.2⟩) (fun z => ⟨s _ _ z.1, s _ _ z.2⟩), hl, hz, fun i x y h1 h2 => Alk.same s (hi i x y h1 h2)⟩
theorem Alk.up {H : Hp} : ∀ {n : Nat} {v u : V}, Alk H n v u → Alk H (n + 1) v u
  | 0, _, _, h => .inl h
  | n + 1, _, _, .inl h => .inl h
  | n + 1, _, _, .inr ⟨a, b, xs, ys, e1, e2, h, hl, hz, hi⟩ => .inr ⟨a, b, xs, ys, e1, e2, h, hl, hz, fun i x y h1 h2 => Alk.up (hi i x y h1 h2)⟩
def spAlike (n : Nat) : Sp := fun vs H Q _ => ∃ (v u : V), vs = [v, u] ∧ Alk H n v u ∧ ∀ H', Same H H' → Q (.bl true) H'
/-- isinstance(e, (tuple, list)) -/
def tIsTL (K : PySem.W.Frag) (i : Nat) : TE := fun σ H Q => ∃ (x : V) (n : String) (b1 b2 : Bool), σ[i]? = some (some x) ∧ (∀ H2, Same H H2 → TyX K H2 x (.type n)) ∧ kitB n "tuple" = some b1 ∧ kitB n "list" = some b2 ∧ ∀ H2, Same H H2 → Q (.bl (b1 || b2)) H2
theorem kit2 {K : PySem.W.Frag} {n : String} {b1 b2 : Bool} (h1 : kitB n "tuple" = some b1) (h2 : kitB n "list" = some b2) : PySem.W.kitAny K (.type n) [.type "tuple", .type "list"] = some (b1 || b2) := by
  refine kitAny_cons (kit_ty h1) (fun e => ?_) (fun e => by rw [e]; rfl)
  subst e
  refine kitAny_cons (kit_ty h2) (fun e => ?_) (fun e => by rw [e]; rfl)
  subst e
  rfl
section
variable {X : Cx}
theorem pisTL {i : Nat} {e : Expr} {p p2 p3 p4 pos : Pos} {j : Nat} (mI : X.mg "isinstance" = none) (mT : X.mg "tuple" = none) (mL : X.mg "list" = none) (h : PE X e (tVar i)) (hg : Gl X "isinstance" := by rfl) (hgt : Gl X "tuple" := by rfl) (hgl : Gl X "list" := by rfl)
    (ha1 : starEach [.Name "list" p3] X.env = (false, eval (.Name "list" p3) X.env) :: starEach [] X.env := by rfl) (ha2 : starEach [.Name "tuple" p2, .Name "list" p3] X.env = (false, eval (.Name "tuple" p2) X.env) :: starEach [.Name "list" p3] X.env := by rfl)
    (hs2 : starEach [.Tuple [.Name "tuple" p2, .Name "list" p3] j p4] X.env = (false, eval (.Tuple [.Name "tuple" p2, .Name "list" p3] j p4) X.env) :: starEach [] X.env := by rfl)
    (hs1 : starEach [e, .Tuple [.Name "tuple" p2, .Name "list" p3] j p4] X.env = (false, eval e X.env) :: starEach [.Tuple [.Name "tuple" p2, .Name "list" p3] j p4] X.env := by rfl)
    (hp1 : (backTo pos (starEach [.Tuple [.Name "tuple" p2, .Name "list" p3] j p4] X.env)).any (·.1) = false := by rfl) :
    PE X (.Call (.Name "isinstance" p) [e, .Tuple [.Name "tuple" p2, .Name "list" p3] j p4] [] pos) (tIsTL X.K i) := by
  refine pimp _ (pe_callB call_isiT hg mI (by decide +kernel) (pa_cons h (pa_cons (ptupN (pa_cons (pe_bltn (v := .ty "tuple") hgt mT (by decide +kernel) rfl (by decide) (by decide)) (pa_cons (pe_bltn (v := .ty "list") hgl mL (by decide +kernel) rfl (by decide) (by decide)) pa_nil ha1) ha2)) pa_nil hs2) hs1) (by decide) (by decide) hs1 hp1) ?_
  rintro σ H Q ⟨x, n, b1, b2, e, ht, k1, k2, q⟩
  exact ⟨x, e, szl 2, fun H2 tp s2 n2 h2 => ⟨x, tp, [.ty "tuple", .ty "list"], _, [.type "tuple", .type "list"], _, rfl, h2, .cons (.ty _) (.cons (.ty _) .nil), ht H2 s2, kit2 k1 k2, q H2 s2⟩⟩
end
/-- the kind of a flat value -/
theorem flat_ty {K : PySem.W.Frag} {v : V} (h : flatA v = true) : ∃ n cb, (∀ H, TyX K H v (.type n)) ∧ kitB n "tuple" = some false ∧ kitB n "list" = some false ∧ kitB n "bool" = some cb ∧
    ((v = .non ∧ kitB n "str" = some false) ∨ (∃ z, v = .str z ∧ kitB n "str" = some true) ∨ ((∃ i, v = .int i ∧ kitB n "str" = some false ∧ kitB n "int" = some true) ∨ ∃ b, v = .bl b ∧ kitB n "str" = some false ∧ kitB n "int" = some true)) := by
  cases v with
  | non => exact ⟨"NoneType", false, fun H => ty_non, by decide +kernel, by decide +kernel, by decide +kernel, .inl ⟨rfl, by decide +kernel⟩⟩
  | int i => exact ⟨"int", false, fun H => ty_int i, by decide +kernel, by decide +kernel, by decide +kernel, .inr (.inr (.inl ⟨i, rfl, by decide +kernel, by decide +kernel⟩))⟩
  | str z => exact ⟨"str", false, fun H => ty_str z, by decide +kernel, by decide +kernel, by decide +kernel, .inr (.inl ⟨z, rfl, by decide +kernel⟩)⟩
  | bl b => exact ⟨"bool", true, fun H => ty_bl b, by decide +kernel, by decide +kernel, by decide +kernel, .inr (.inr (.inr ⟨b, rfl, by decide +kernel, by decide +kernel⟩))⟩
  | byt b => cases h
  | flt b => cases h
  | ref a => cases h
  | ty n => cases h
section
variable {P : Program} {w : World} {K : PySem.W.Frag} {mg : Str → Option Value} {base : Heap}
structure AlkG (mg : Str → Option Value) : Prop where
  mI : mg "isinstance" = none
  mT : mg "tuple" = none
  mL : mg "list" = none
  mS : mg "str" = none
  mi : mg "int" = none
  mB : mg "bool" = none
  ml : mg "len" = none
  mR : mg "range" = none
/-- the flat values' way: behind the first test -/
def tFlatWay : TS := fun D σ H => ∃ (v : V) (y2 : Option V), σ = [some v, some v, y2] ∧ flatA v = true ∧ D.rt (.bl true) H
theorem pssimp {X : Cx} {sts : List Stmt} {t : TS} (t' : TS) (h : PSs X sts t) (f : ∀ D σ H, t' D σ H → t D σ H) : PSs X sts t' := ⟨fun pins s σ H D I q => h.run pins s σ H D I (f D σ H q)⟩
def tAlkTest (K : PySem.W.Frag) (m : Nat) : TT := fun σ H Q => tCall (spAlike m) [] E0 (tCons (tOp (rIx K) (tVar 0) (tVar 2)) (tCons (tOp (rIx K) (tVar 1) (tVar 2)) tNil)) σ H fun x H1 => ∃ k, x = .bl k ∧ Q (!k) H1
end
end SK
namespace SK
open PySem PySem.Spec PyProof.Rows L2
section
variable {P : Program} {w : World} {K : PySem.W.Frag} {mg : Str → Option Value} {base : Heap}
theorem ok_alike (n : Nat) {f : Addr} {fd : FuncData} {k : Nat} (F : Fun K "_law_alike" "_law_alike" s_law_alike f fd) (g : AlkG mg) (G : ∀ m, n = m + 1 → Got P w K mg base "_law_alike" k ["found", "due"] (spAlike m)) : FnOk P w K mg base CX0 (k + 1) f fd ["found", "due"] (spAlike n) := by
  refine F.ok sc_law_alike (fun vs H Q E h => ?_) (fun cdv A outer s H vs Q E hr h => ?_)
  · obtain ⟨v, u, rfl, _⟩ := h
    rfl
  · obtain ⟨v, u, rfl, hA, q⟩ := h
    have nd := sc_law_alike.nd
    obtain ⟨mI, mT, mL, mS, mi, mB, ml, mR⟩ := g
    have tail : PSs (cxOf CX0 P w K mg base n_law_alike "_law_alike" (defScope s_law_alike) f cdv A outer s H E).nox ((defBody s_law_alike).drop 1) tFlatWay := by
      refine pssimp _ (pss_cons (ps_if (PW.pt (pw_or (pt_cmpR op_isN (pv 1) pe_non (nomark _)) (pw_or1 (pt_val (pis "str" (by decide +kernel) mI mS (pv 1))))))
          (pss_one (ps_ret (pe_and (pe_cmpR op_eq (pv 0) (pv 1) (nomark _)) (pe_one (pe_cmpR op_eq (pis "str" (by decide +kernel) mI mS (pv 0)) (pis "str" (by decide +kernel) mI mS (pv 1)) (nomark _)))))) pss_nil)
        (pss_one (ps_ret (pe_and (pis "int" (by decide +kernel) mI mi (pv 0)) (pe_and (pe_cmpR op_eq (pis "bool" (by decide +kernel) mI mB (pv 0)) (pis "bool" (by decide +kernel) mI mB (pv 1)) (nomark _)) (pe_one (pe_cmpR op_eq (pv 0) (pv 1) (nomark _)))))))) ?_
      rintro D σ H ⟨v, y2, rfl, hv, q⟩
      obtain ⟨n, cb, ht, k1, k2, k3, hk⟩ := flat_ty (K := K) hv
      have ht' := ht H
      rcases hk with ⟨rfl, k4⟩ | ⟨z, rfl, k4⟩ | ⟨i, rfl, k4, k5⟩ | ⟨i, rfl, k4, k5⟩
      · refine ⟨_, rfl, rfl, _, rfl, itY rfl ?_⟩
        refine ⟨_, rfl, _, rfl, rfl, _, rfl, itY rfl ?_⟩
        refine ⟨_, rfl, _, n, _, rfl, ht', k4, _, rfl, _, n, _, rfl, ht', k4, rfl, ?_⟩
        exact q
      · refine ⟨_, rfl, rfl, _, rfl, itN (fun z => nomatch z) ?_⟩
        refine ⟨_, rfl, _, n, _, rfl, ht', k4, _, rfl, iteT ?_⟩
        refine ⟨_, rfl, _, rfl, rfl, _, rfl, itY rfl ?_⟩
        refine ⟨_, rfl, _, n, _, rfl, ht', k4, _, rfl, _, n, _, rfl, ht', k4, rfl, ?_⟩
        exact q
      · refine ⟨_, rfl, rfl, _, rfl, itN (fun z => nomatch z) ?_⟩
        refine ⟨_, rfl, _, n, _, rfl, ht', k4, _, rfl, iteF ?_⟩
        refine ⟨_, rfl, _, n, _, rfl, ht', k5, _, rfl, iteT ?_⟩
        refine ⟨_, rfl, _, n, _, rfl, ht', k3, _, rfl, _, n, _, rfl, ht', k3, rfl, _, rfl, itY rfl ?_⟩
        refine ⟨_, rfl, _, rfl, rfl, ?_⟩
        rw [decide_eq_true (rfl : V.int i = V.int i)]
        exact q
      · refine ⟨_, rfl, rfl, _, rfl, itN (fun z => nomatch z) ?_⟩
        refine ⟨_, rfl, _, n, _, rfl, ht', k4, _, rfl, iteF ?_⟩
        refine ⟨_, rfl, _, n, _, rfl, ht', k5, _, rfl, iteT ?_⟩
        refine ⟨_, rfl, _, n, _, rfl, ht', k3, _, rfl, _, n, _, rfl, ht', k3, rfl, _, rfl, itY rfl ?_⟩
        refine ⟨_, rfl, _, rfl, rfl, ?_⟩
        rw [decide_eq_true (rfl : V.bl i = V.bl i)]
        exact q
    have flat : ∀ (y2 : Option V) (H2 : Hp), Same H H2 → v = u → flatA v = true → tFlatWay { nx := fun _ H' => Q .non H', rt := Q } [some v, some u, y2] H2 := fun y2 H2 S e hv => by
      subst e
      exact ⟨v, y2, rfl, hv, q H2 S⟩
    cases n with
    | zero =>
      refine ⟨_, pss_cons (ps_if (pt_val (pisTL mI mT mL (pv 1))) pss_never pss_nil) tail, ?_⟩
      obtain ⟨rfl, hv⟩ := hA
      obtain ⟨n, _, ht, k1, k2, _⟩ := flat_ty (K := K) hv
      exact ⟨v, n, _, _, rfl, fun H2 _ => ht H2, k1, k2, fun H2 S2 => ⟨_, rfl, iteF (flat none H2 S2 rfl hv)⟩⟩
    | succ m =>
      have GA := G m rfl
      refine ⟨_, pss_cons (ps_if (pt_val (pisTL mI mT mL (pv 1)))
          (pss_cons (ps_if (PW.pt (pw_or (pt_not (pt_val (pisTL mI mT mL (pv 0)))) (pw_or1 (pt_cmpR op_ne (pis "list" (by decide +kernel) mI mL (pv 0)) (pis "list" (by decide +kernel) mI mL (pv 1)) (nomark _))))) pss_never pss_nil)
          (pss_cons (ps_if (pt_cmpR op_ne (plen ml (pv 0)) (plen ml (pv 1)) (nomark _)) pss_never pss_nil)
          (pss_one (ps_ret (pe_cmpR (op_eqD hr.units) (pe_lc (own := [("k", 2)]) (g := gName 2) (tt := tAlkTest K m)
              rfl nd (pi_range1 rfl mR (pa_cons (plen ml (pv 1)) pa_nil)) (blkOk_by (N := n_law_alike) (sc := defScope s_law_alike) (by decide +kernel)) (fun _ _ _ _ _ => pg_name (i := 2) nd rfl (Or.inl rfl))
              (fun _ _ _ _ _ => pts_one (pt_not (pt_val (pcall GA hr (pa_cons (pe_ix ix_seq (pv 0) (pv 2) (fun _ _ => rfl)) (pa_cons (pe_ix ix_seq (pv 1) (pv 2) (fun _ _ => rfl)) pa_nil)))))) (fun _ _ _ _ _ => pv 2)) (plstN pa_nil) (nomark _)))))) pss_nil) tail, ?_⟩
      rcases hA with ⟨rfl, hv⟩ | ⟨a, b, xs, ys, rfl, rfl, hh, hl, hz, hi⟩
      · obtain ⟨n, _, ht, k1, k2, _⟩ := flat_ty (K := K) hv
        exact ⟨v, n, _, _, rfl, fun H2 _ => ht H2, k1, k2, fun H2 S2 => ⟨_, rfl, iteF (flat none H2 S2 rfl hv)⟩⟩
      · have key : ∃ (n : String) (b1 b2 : Bool), (∀ H2, Same H H2 → TyX K H2 (.ref a) (.type n)) ∧ (∀ H2, Same H H2 → TyX K H2 (.ref b) (.type n)) ∧ kitB n "tuple" = some b1 ∧ kitB n "list" = some b2 ∧ (b1 || b2) = true ∧
            (∀ H2, Same H H2 → (SqL K H2 a xs ∨ SqT K H2 a xs) ∧ (SqL K H2 b ys ∨ SqT K H2 b ys)) := by
          rcases hh with ⟨ha, hb⟩ | ⟨ha, hb⟩
          · exact ⟨"tuple", true, false, fun H2 S => ty_rd (rd_same S ha), fun H2 S => ty_rd (rd_same S hb), by decide +kernel, by decide +kernel, rfl, fun H2 S => ⟨.inr (.inl (rd_same S ha)), .inr (.inl (rd_same S hb))⟩⟩
          · exact ⟨"list", false, true, fun H2 S => ty_lst (S _ _ ha), fun H2 S => ty_lst (S _ _ hb), by decide +kernel, by decide +kernel, rfl, fun H2 S => ⟨.inl (SqL.of (S _ _ ha)), .inl (SqL.of (S _ _ hb))⟩⟩
        obtain ⟨n, b1, b2, ta, tb, k1, k2, kk, sq⟩ := key
        refine ⟨_, n, b1, b2, rfl, tb, k1, k2, fun H2 S2 => ⟨_, rfl, ?_⟩⟩
        rw [kk]
        refine iteT ⟨_, n, b1, b2, rfl, fun H3 S3 => ta H3 (S2.trans S3), k1, k2, fun H3 S3 => ⟨_, rfl, ?_⟩⟩
        rw [kk]
        have S03 := S2.trans S3
        refine iteF ⟨_, rfl, _, n, b2, rfl, ta H3 S03, k2, _, rfl, _, n, b2, rfl, tb H3 S03, k2, rfl, _, rfl, ?_⟩
        rw [decide_eq_true (rfl : V.bl b2 = V.bl b2)]
        refine iteF ⟨_, rfl, a, xs, rfl, (sq H3 S03).1, _, rfl, b, ys, rfl, (sq H3 S03).2, rfl, _, rfl, ?_⟩
        rw [hl, decide_eq_true (rfl : V.int (ys.length : Int) = V.int (ys.length : Int))]
        refine iteF ⟨_, rfl, b, ys, rfl, (sq H3 S03).2, (ys.length : Int), rfl, by omega, by omega, fun D nD => ?_⟩
        rw [Int.toNat_natCast]
        refine lc_range (lo := 0) (n := ys.length) (fun i H' => Same H3 H' ∧ H' D = some (.lst [])) ⟨same_upd nD, upd_same⟩ ?_ ?_
        · rintro i H4 hlt ⟨S4, hD⟩
          have S04 := S03.trans S4
          have gx : xs[i]? = some xs[i] := List.getElem?_eq_getElem (by omega)
          have gy : ys[i]? = some ys[i] := List.getElem?_eq_getElem hlt
          have e0 : (0 : Int) + (i : Int) = (i : Int) := by omega
          have ix : ∀ (c : Addr) (zs : List V) (z : V) (Q' : VK), (SqL K H4 c zs ∨ SqT K H4 c zs) → zs[i]? = some z → Q' z H4 → rIx K (.ref c) (.int (0 + (i : Int))) H4 Q' := by
            intro c zs z Q' hc hg hq
            rw [e0]
            rcases hc with hc | hc
            · exact .inl ⟨c, zs, _, z, rfl, rfl, hc, atI_nat hg, hq⟩
            · exact .inr (.inl ⟨c, zs, _, z, rfl, rfl, hc, atI_nat hg, hq⟩)
          refine ⟨rfl, _, rfl, _, rfl, ix a xs _ _ (sq H4 S04).1 gx ⟨_, rfl, _, rfl, ix b ys _ _ (sq H4 S04).2 gy ⟨xs[i], ys[i], rfl, Alk.same S04 (hi i _ _ gx gy), fun H5 S5 => ⟨true, rfl, iteF ⟨S4.trans S5, S5 _ _ hD⟩⟩⟩⟩⟩
        · rintro H4 ⟨S4, hD⟩
          refine ⟨szl 0, fun H5 p5 S5 n5 h5 => ⟨.list [], .list [], .lst (SqL.of (S5 _ _ hD)) .nil, .lst (SqL.of h5) .nil, shaped_ints [], shaped_ints [], ?_⟩⟩
          have e : PyData.eqv (.list []) (.list []) = true := by simp [PyData.eqv, PyData.eqvAll]
          rw [e]
          exact q H5 ((S03.trans S4).trans S5)
end
end SK
namespace SK
open PySem PySem.Spec PyProof.Rows L2
def spGrown (K : PySem.W.Frag) : Sp := fun vs H Q _ => ∃ (b : Addr) (n : Nat) (ws : List (List Sy)) (st : List Sy), vs = [.ref b, .int n] ∧ BookAt H b ws st ∧ GoodBook ws st ∧ n ≤ 1000 ∧ (grown ws st n).length ≤ 4000000 ∧
  New (.lst (wv (grown ws st n))) H Q
/-- what one sign is replaced by: its word's items in a new list, or itself alone -/
def tImg (ws : List (List Sy)) (st : List Sy) : TE := fun σ H Q => ∃ (b : Addr) (s : Sy), σ[0]? = some (some (.ref b)) ∧ σ[5]? = some (some s.v) ∧ BookAt H b ws st ∧ (∀ k, s = .l k → k < ws.length) ∧ New (.lst (wv (img ws s))) H Q
section
variable {P : Program} {w : World} {K : PySem.W.Frag} {mg : Str → Option Value} {base : Heap}
theorem ok_grown {f : Addr} {fd : FuncData} {k : Nat} (F : Fun K "_law_grown" "_law_grown" s_law_grown f fd) (mR : mg "range" = none) (mL : mg "list" = none) (mI : mg "isinstance" = none) (mS : mg "str" = none) :
    FnOk P w K mg base CX0 (k + 1) f fd ["book", "age"] (spGrown K) := by
  refine F.ok sc_law_grown (fun vs H Q E h => ?_) (fun cdv A outer s H vs Q E hr h => ?_)
  · obtain ⟨b, n, ws, st, rfl, _⟩ := h
    rfl
  · obtain ⟨b, n, ws, st, rfl, hb, hg, hn, hlen, q⟩ := h
    have nd := sc_law_grown.nd
    refine ⟨_, pss_cons (ps_set (i := 2) nd rfl (.inl rfl) (pixT (pv 0) pe_int))
      (pss_cons (ps_for PassesOwn.never rfl (pi_range1 rfl mR (pa_cons (pv 1) pa_nil)) (pg_name (i := 3) nd rfl (.inl rfl))
        (pss_cons (ps_set (i := 4) nd rfl (.inl rfl) (plstN pa_nil))
        (pss_cons (ps_for PassesOwn.never rfl (pi_seq (pv 2)) (pg_name (i := 5) nd rfl (.inl rfl))
          (pss_one (ps_set (i := 4) nd rfl (.inl rfl) (pcatN (pv 4) (pimp (tImg ws st) (pe_ifExp (ptNotStr mI mS (pv 5)) (plistN mL (pixT (pixT (pv 0) pe_int) (pv 5))) (plstN (pa_cons (pv 5) pa_nil))) ?img)))))
        (pss_one (ps_set (i := 2) nd rfl (.inl rfl) (pv 4))))))
      (pss_one (ps_ret (plistN mL (pv 2))))), ?_⟩
    case img =>
      rintro σ H Q ⟨b, s, e0, e5, ⟨p, pq, as, h1, h2, h3, h4⟩, hs, q⟩
      obtain ⟨tn, tb, ht, hk, htb⟩ := ty_sy (K := K) (H := H) s
      refine ⟨_, e5, s.v, tn, tb, rfl, ht, hk, tb, rfl, ?_⟩
      subst htb
      cases s with
      | l j =>
        obtain ⟨a, ha1, ha2⟩ := paired_get h4 (List.getElem?_eq_getElem (hs j rfl))
        refine ⟨_, e0, b, _, _, _, rfl, rfl, SqT.of h1, at0, _, e5, p, _, _, .ref a, rfl, rfl, SqT.of h2, atI_nat ?_, a, _, rfl, .inr ha2.sq, ?_⟩
        · rw [List.getElem?_map, ha1]; rfl
        · have e : img ws (.l j) = ws[j]'(hs j rfl) := by
            show ws.getD j [] = _
            rw [List.getD_eq_getElem?_getD, List.getElem?_eq_getElem (hs j rfl)]; rfl
          rw [← e]
          exact q
      | p => exact ⟨_, e5, szl 1, q⟩
      | m => exact ⟨_, e5, szl 1, q⟩
      | o => exact ⟨_, e5, szl 1, q⟩
      | c => exact ⟨_, e5, szl 1, q⟩
    obtain ⟨p, pq, as, h1, h2, h3, h4⟩ := id hb
    refine ⟨_, rfl, b, _, _, _, rfl, rfl, SqT.of h1, at1, ?_⟩
    refine ⟨_, rfl, (n : Int), rfl, by omega, by omega, ?_⟩
    rw [Int.toNat_natCast]
    refine for_range (lo := 0) (n := n) (fun i σ H' => ∃ (a : Addr) (y3 y4 y5 : Option V), σ = [some (.ref b), some (.int n), some (.ref a), y3, y4, y5] ∧ Same H H' ∧ Sq K H' a (wv (grown ws st i)))
      ⟨pq, _, _, _, rfl, Same.refl H, .inr h3.sq⟩ ?_ ?_
    · rintro i σ H1 hi ⟨a, y3, y4, y5, rfl, S1, ha⟩
      have l1 : (grown ws st (i + 1)).length ≤ 4000000 := Nat.le_trans (grown_mono hg (by omega)) hlen
      refine ⟨szl 0, fun H2 fa S2 n2 h2 => ?_⟩
      have hb2 : BookAt H2 b ws st := (hb.keep (.of S1)).keep (.of S2)
      refine ⟨a, rfl, for_seq (ha.same S2) (fun j σ H' => ∃ (fa : Addr) (y5 : Option V), σ = [some (.ref b), some (.int n), some (.ref a), some (.int (0 + (i : Int))), some (.ref fa), y5] ∧ Same H2 H' ∧ H' fa = some (.lst (wv (grow ws ((grown ws st i).take j)))))
        ⟨fa, _, rfl, Same.refl _, h2⟩ (fun j σ H' _ ⟨_, _, _, s, _⟩ => s) ?_ ?_⟩
      · rintro j x σ H3 hx ⟨fa, y5, rfl, S3, h3⟩
        obtain ⟨s, hs, rfl⟩ := wv_get hx
        have lj : (grow ws ((grown ws st i).take (j + 1))).length ≤ 4000000 := Nat.le_trans (grow_take _ _) l1
        rw [take_more hs, grow_app] at lj
        have e1 : grow ws [s] = img ws s := by simp [grow]
        rw [e1, List.length_append] at lj
        refine ⟨_, rfl, b, s, rfl, rfl, hb2.keep (.of S3), fun k e => grown_lets hg i k (by rw [← e]; exact List.mem_of_getElem? hs), fun H4 p4 S4 n4 h4 => ?_⟩
        refine ⟨fa, p4, _, _, rfl, rfl, S4 _ _ h3, h4, szl _ (by simp only [List.length_map]; omega), fun H5 p5 S5 n5 h5 => ?_⟩
        refine ⟨p5, _, rfl, (S3.trans S4).trans S5, ?_⟩
        rw [h5, take_more hs, grow_app, e1]
        simp only [wv, List.map_append]
      · rintro σ H3 ⟨fa, y5, rfl, S3, h3⟩
        refine ⟨_, rfl, fa, _, _, _, rfl, (S1.trans S2).trans S3, .inl (SqL.of ?_)⟩
        rw [h3, List.length_map, List.take_length]
        rfl
    · rintro σ H1 ⟨a, y3, y4, y5, rfl, S1, ha⟩
      exact ⟨_, rfl, a, _, rfl, ha, fun H2 p S2 n2 h2 => q H2 p (S1.trans S2) (S1.free n2) h2⟩
end
end SK
namespace SK
open PySem PySem.Spec PyProof.Rows L2
theorem WdAt.ty {K : PySem.W.Frag} {H : Hp} {a : Addr} {w : List Sy} (h : WdAt H a w) : TyX K H (.ref a) (.type "tuple") := let ⟨_, e, _⟩ := h; .fTuple e
def spIsInt (K : PySem.W.Frag) : Sp := fun vs H Q _ => ∃ (v : V) (n : String) (b1 b2 : Bool), vs = [v] ∧ TyX K H v (.type n) ∧ kitB n "int" = some b1 ∧ kitB n "bool" = some b2 ∧ Q (.bl (b1 && !b2)) H
theorem sy_int {K : PySem.W.Frag} (s : Sy) : ∃ n b1, (∀ H, TyX K H s.v (.type n)) ∧ kitB n "int" = some b1 ∧ kitB n "bool" = some false ∧ b1 = isL s := by
  cases s with
  | l k => exact ⟨"int", true, fun H => ty_int _, by decide +kernel, by decide +kernel, rfl⟩
  | p => exact ⟨"str", false, fun H => ty_str _, by decide +kernel, by decide +kernel, rfl⟩
  | m => exact ⟨"str", false, fun H => ty_str _, by decide +kernel, by decide +kernel, rfl⟩
  | o => exact ⟨"str", false, fun H => ty_str _, by decide +kernel, by decide +kernel, rfl⟩
  | c => exact ⟨"str", false, fun H => ty_str _, by decide +kernel, by decide +kernel, rfl⟩
def spIsWord : Sp := fun vs H Q _ => ∃ (t : Addr) (n : Nat) (w : List Sy), vs = [.ref t, .int n] ∧ WdAt H t w ∧ Good n 40 w ∧ Q (.bl true) H
def spBookForm : Sp := fun vs H Q _ => ∃ (b : Addr) (ws : List (List Sy)) (st : List Sy), vs = [.ref b] ∧ BookAt H b ws st ∧ GoodBook ws st ∧ Q (.bl true) H
section
variable {P : Program} {w : World} {K : PySem.W.Frag} {mg : Str → Option Value} {base : Heap}
theorem ok_isint {f : Addr} {fd : FuncData} {k : Nat} (F : Fun K "is_integer" "is_integer" s_is_integer f fd) (mI : mg "isinstance" = none) (mi : mg "int" = none) (mB : mg "bool" = none) : FnOk P w K mg base CX0 (k + 1) f fd ["value"] (spIsInt K) := by
  refine F.ok sc_is_integer (fun vs H Q E h => ?_) (fun cdv A outer s H vs Q E hr h => ?_)
  · obtain ⟨v, n, b1, b2, rfl, _⟩ := h
    rfl
  · obtain ⟨v, n, b1, b2, rfl, ht, k1, k2, q⟩ := h
    refine ⟨_, pss_one (ps_ret (pe_and (pis "int" (by decide +kernel) mI mi (pv 0)) (pe_one (pe_not (pis "bool" (by decide +kernel) mI mB (pv 0)))))), ?_⟩
    refine ⟨_, rfl, _, n, b1, rfl, ht, k1, b1, rfl, ?_⟩
    cases b1 with
    | true => exact ⟨_, rfl, _, n, b2, rfl, ht, k2, b2, rfl, q⟩
    | false => exact q
theorem ok_isword {f : Addr} {fd : FuncData} {k : Nat} {t40 : Tok} (F : Fun K "is_word" "is_word" s_is_word f fd) (GI : Got P w K mg base "is_integer" k ["value"] (spIsInt K)) (mI : mg "isinstance" = none) (mT : mg "tuple" = none) (ml : mg "len" = none) (m40 : mg "MOST_PARTS" = some (.int 40 t40)) :
    FnOk P w K mg base CX0 (k + 1) f fd ["value", "many"] spIsWord := by
  refine F.ok sc_is_word (fun vs H Q E h => ?_) (fun cdv A outer s H vs Q E hr h => ?_)
  · obtain ⟨t, n, w, rfl, _⟩ := h
    rfl
  · obtain ⟨t, n, w, rfl, ht, hg, q⟩ := h
    have nd := sc_is_word.nd
    refine ⟨_, pss_cons (ps_if (PW.pt (pw_or (pt_not (pt_val (pis "tuple" (by decide +kernel) mI mT (pv 0)))) (pw_or1 (pt_cmpR op_gt (plen ml (pv 0)) (pe_glob (v := .int 40) rfl m40 ⟨_, rfl⟩) (nomark _))))) pss_never pss_nil)
      (pss_cons (ps_set (i := 2) nd rfl (.inl rfl) pe_int)
      (pss_cons (ps_set (i := 3) nd rfl (.inl rfl) pe_int)
      (pss_cons (ps_for PassesOwn.never rfl (pi_tup (pv 0)) (pg_name (i := 4) nd rfl (.inl rfl))
        (pss_one (ps_if (PW.pt (pw_and (pt_val (pcall GI hr (pa_cons (pv 4) pa_nil))) (pw_and1 (pt_chain op_le op_lt pe_int (pv 4) (pv 1)))))
            (pss_one (ps_aug (i := 2) nd rfl (.inl rfl) pe_int ip_add))
          (pss_one (ps_if (pt_cmpR op_eq (pv 4) pe_str (nomark _)) (pss_one (ps_aug (i := 3) nd rfl (.inl rfl) pe_int ip_add))
          (pss_one (ps_if (PW.pt (pw_and (pt_cmpR op_eq (pv 4) pe_str (nomark _)) (pw_and1 (pt_cmpR op_gt (pv 3) pe_int (nomark _))))) (pss_one (ps_aug (i := 3) nd rfl (.inl rfl) pe_int ip_sub))
          (pss_one (ps_if (PW.pt (pw_and (pt_cmpR op_ne (pv 4) pe_str (nomark _)) (pw_and1 (pt_cmpR op_ne (pv 4) pe_str (nomark _))))) pss_never pss_nil)))))))))
      (pss_one (ps_ret (pe_and (pe_cmpR op_gt (pv 2) pe_int (nomark _)) (pe_one (pe_cmpR op_eq (pv 3) pe_int (nomark _))))))))), ?_⟩
    have hl := hg.len
    refine ⟨_, rfl, _, "tuple", true, rfl, ht.ty, by decide +kernel, _, rfl, iteF ⟨_, rfl, t, _, rfl, .inr ht.sq, _, _, rfl, rfl, _, rfl, itN (by rw [List.length_map]; omega) ?_⟩⟩
    have hne : nest w 0 ≠ none := by rw [hg.nst]; intro z; cases z
    refine ⟨_, rfl, t, rfl, ⟨_, ht.sq⟩, for_tup (K := K) (a := t) (xs := wv w) (fun i σ H' => ∃ (d : Nat) (y4 : Option V), σ = [some (.ref t), some (.int n), some (.int (nL (w.take i) : Int)), some (.int (d : Int)), y4] ∧ nest (w.take i) 0 = some d ∧ H' = H)
      ⟨0, none, rfl, rfl, rfl⟩ (fun i σ H' _ ⟨_, _, _, _, e⟩ => by rw [e]; exact ht.sq) ?_ ?_⟩
    · rintro i x σ H1 hx ⟨d, y4, rfl, hd, rfl⟩
      obtain ⟨s, hs, rfl⟩ := wv_get hx
      have e1 : nL (w.take (i + 1)) = nL (w.take i) + nL [s] := by rw [take_more hs, nL_app]
      have e2 : nest (w.take (i + 1)) 0 = nest [s] d := by rw [take_more hs, nest_app, hd]; rfl
      have h3 := nest_take hne (i + 1)
      obtain ⟨tn, tb, ht1, k1, k2, hb⟩ := sy_int (K := K) s
      refine ⟨_, rfl, s.v, tn, tb, false, rfl, ht1 H1, k1, k2, _, rfl, ?_⟩
      subst hb
      cases s with
      | l j =>
        have hj := hg.lets j (List.mem_of_getElem? hs)
        refine ⟨_, rfl, _, _, rfl, rfl, _, rfl, itY (show (0 : Int) ≤ (j : Int) by omega) ⟨_, rfl, _, _, rfl, rfl, _, rfl, itY (show (j : Int) < (n : Int) by omega) ⟨_, rfl, _, _, rfl, rfl, d, some (Sy.v (.l j)), ?_, by rw [e2]; rfl, rfl⟩⟩⟩
        rw [e1]; rfl
      | o =>
        refine ⟨_, rfl, rfl, _, rfl, itY rfl ⟨_, rfl, _, _, rfl, rfl, d + 1, some (Sy.v .o), ?_, by rw [e2]; rfl, rfl⟩⟩
        rw [e1]; rfl
      | c =>
        cases d with
        | zero => rw [e2] at h3; exact absurd rfl h3
        | succ d =>
          refine ⟨_, rfl, rfl, _, rfl, itN (by decide) ⟨_, rfl, rfl, _, rfl, itY rfl ⟨_, rfl, _, _, rfl, rfl, _, rfl, itY (show (0 : Int) < ((d + 1 : Nat) : Int) by omega) ⟨_, rfl, _, _, rfl, rfl, d, some (Sy.v .c), ?_, by rw [e2]; rfl, rfl⟩⟩⟩⟩
          rw [e1]
          have : (((d + 1 : Nat) : Int) - 1) = (d : Int) := by omega
          show [some (V.ref t), some (V.int n), some (V.int (nL (w.take i) : Int)), some (V.int (((d + 1 : Nat) : Int) - 1)), some (Sy.v .c)] = _
          rw [this]; rfl
      | p =>
        refine ⟨_, rfl, rfl, _, rfl, itN (by decide) ⟨_, rfl, rfl, _, rfl, itN (by decide) ⟨_, rfl, rfl, _, rfl, ?_⟩⟩⟩
        refine iteF (iteF ⟨d, some (Sy.v .p), ?_, by rw [e2]; rfl, rfl⟩)
        rw [e1]; rfl
      | m =>
        refine ⟨_, rfl, rfl, _, rfl, itN (by decide) ⟨_, rfl, rfl, _, rfl, itN (by decide) ⟨_, rfl, rfl, _, rfl, ?_⟩⟩⟩
        refine iteT ⟨_, rfl, rfl, _, rfl, iteF ⟨d, some (Sy.v .m), ?_, by rw [e2]; rfl, rfl⟩⟩
        rw [e1]; rfl
    · rintro σ H1 ⟨d, y4, rfl, hd, rfl⟩
      rw [List.length_map, List.take_length, hg.nst] at hd
      cases hd
      have hs := hg.slim
      refine ⟨_, rfl, _, _, rfl, rfl, _, rfl, itY ?_ ⟨_, rfl, rfl, q⟩⟩
      rw [List.length_map, List.take_length]
      omega
theorem ok_bookform {f : Addr} {fd : FuncData} {k : Nat} {t8 : Tok} (F : Fun K "has_book_form" "has_book_form" s_has_book_form f fd) (mI : mg "isinstance" = none) (mT : mg "tuple" = none) (ml : mg "len" = none) (m8 : mg "MOST_LETTERS" = some (.int 8 t8)) :
    FnOk P w K mg base CX0 (k + 1) f fd ["value"] spBookForm := by
  refine F.ok sc_has_book_form (fun vs H Q E h => ?_) (fun cdv A outer s H vs Q E hr h => ?_)
  · obtain ⟨b, ws, st, rfl, _⟩ := h
    rfl
  · obtain ⟨b, ws, st, rfl, ⟨p, pq, as, h1, h2, h3, h4⟩, hg, q⟩ := h
    have nd := sc_has_book_form.nd
    refine ⟨_, pss_cons (ps_if (PW.pt (pw_or (pt_not (pt_val (pis "tuple" (by decide +kernel) mI mT (pv 0)))) (pw_or1 (pt_cmpR op_ne (plen ml (pv 0)) pe_int (nomark _))))) pss_never pss_nil)
      (pss_cons (ps_set (i := 1) nd rfl (.inl rfl) (pixT (pv 0) pe_int))
      (pss_one (ps_ret (pe_and (pis "tuple" (by decide +kernel) mI mT (pv 1)) (pe_one (pe_chain op_le op_le pe_int (plen ml (pv 1)) (pe_glob (v := .int 8) rfl m8 ⟨_, rfl⟩))))))), ?_⟩
    have e := h4.length
    have e1 := hg.one
    have e2 := hg.few
    refine ⟨_, rfl, _, "tuple", true, rfl, ty_tup h1, by decide +kernel, _, rfl, iteF ⟨_, rfl, b, _, rfl, .inr (SqT.of h1), rfl, _, rfl, iteF ?_⟩⟩
    refine ⟨_, rfl, b, _, _, _, rfl, rfl, SqT.of h1, at0, ?_⟩
    refine ⟨_, rfl, _, "tuple", true, rfl, ty_tup h2, by decide +kernel, _, rfl, iteT ?_⟩
    refine ⟨_, rfl, p, _, rfl, .inr (SqT.of h2), _, _, rfl, rfl, _, rfl, itY (by rw [List.length_map]; omega) ⟨_, _, rfl, rfl, ?_⟩⟩
    show Q (V.bl (decide (((as.map V.ref).length : Int) ≤ 8))) H
    rw [decide_eq_true (show ((as.map V.ref).length : Int) ≤ 8 by rw [List.length_map]; omega)]
    exact q
end
end SK
namespace SK
/-! ### books as text: lists of signs -/
open TL PySem.StrLaws
def sgC : Sy → Nat
  | .l k => 97 + k
  | .p => 43
  | .m => 45
  | .o => 91
  | .c => 93
def txW (w : List Sy) : List Nat := w.map sgC
def cSy (c : Nat) : Option Sy := if c = 43 then some .p else if c = 45 then some .m else if c = 91 then some .o else if c = 93 then some .c else if 97 ≤ c ∧ c ≤ 104 then some (.l (c - 97)) else none
def letOk (n : Nat) : Sy → Bool
  | .l k => decide (k < n)
  | _ => true
def isWd (n : Nat) (w : List Sy) : Bool := decide (w.length ≤ 40) && (w.all (letOk n) && (decide (nest w 0 = some 0) && w.any isL))
def wdOf (t : List Nat) : Option (List Sy) := if t.length ≤ 40 ∧ t.all (fun c => (cSy c).isSome) = true then (if isWd 8 (t.filterMap cSy) = true then some (t.filterMap cSy) else none) else none
def wordsL (t : List Nat) : List (List Nat) := (spl [32] 0 [] t).filter (fun p => !p.isEmpty)
def headsL : List (List Nat) := [[115, 116, 97, 114, 116], [97], [98], [99], [100], [101], [102], [103], [104]]
def readLn (ws : List (List Nat)) (hd : Option (List Nat)) : Sum Nat (List Sy) :=
  if hd = ws.head? then (match (ws[1]?).bind wdOf with
    | none => .inl 2
    | some w => if 2 < ws.length then .inl 3 else .inr w) else .inl 1
def rdLines : Nat → List (List Nat) → List (Nat × List Sy) → Sum (Nat × Nat) (List (Nat × List Sy))
  | _, [], told => .inr told
  | n, c :: cs, told => if wordsL c = [] then rdLines (n + 1) cs told else match readLn (wordsL c) headsL[told.length]? with
    | .inl k => .inl (n, k)
    | .inr w => rdLines (n + 1) cs (told ++ [(n, w)])
def badLn (m : Nat) : List (Nat × List Sy) → Option Nat
  | [] => none
  | p :: r => if isWd m p.2 = true then badLn m r else some p.1
def readB (t : List Nat) : Sum (Nat × Nat) (List (List Sy) × List Sy) := match rdLines 1 (spl [10] 0 [] t) [] with
  | .inl e => .inl e
  | .inr told => if told.length < 2 then .inl ((spl [10] 0 [] t).length + 1, 1) else match badLn (told.length - 1) told with
    | some n => .inl (n, 2)
    | none => .inr ((told.drop 1).map (·.2), (told.headD (0, [])).2)
/-! what is written -/
def lineOf (j : Nat) (w : List Sy) : List Nat := headsL.getD j [] ++ 32 :: txW w
def linesOf : Nat → List (List Sy) → List (List Nat)
  | _, [] => []
  | j, w :: r => lineOf j w :: linesOf (j + 1) r
def bookTx (ws : List (List Sy)) (st : List Sy) : List Nat := joinL [10] (linesOf 0 (st :: ws))
theorem isWd_of {n L : Nat} {w : List Sy} (h : Good n L w) (hL : L ≤ 40) : isWd n w = true := by
  unfold isWd
  rw [Bool.and_eq_true, Bool.and_eq_true, Bool.and_eq_true, decide_eq_true_iff, decide_eq_true_iff, List.all_eq_true]
  refine ⟨Nat.le_trans h.len hL, fun s hs => ?_, h.nst, h.has⟩
  cases s with
  | l k => exact decide_eq_true (h.lets k hs)
  | _ => rfl
theorem isWd_lets {n : Nat} {w : List Sy} (h : isWd n w = true) {k : Nat} (hk : Sy.l k ∈ w) : k < n := by
  unfold isWd at h
  rw [Bool.and_eq_true, Bool.and_eq_true, Bool.and_eq_true, List.all_eq_true] at h
  exact of_decide_eq_true (h.2.1 _ hk)
theorem isWd_len {n : Nat} {w : List Sy} (h : isWd n w = true) : w.length ≤ 40 := by
  unfold isWd at h
  rw [Bool.and_eq_true, decide_eq_true_iff] at h
  exact h.1
theorem isWd_mono {n m : Nat} {w : List Sy} (h : isWd n w = true) (hm : n ≤ m) : isWd m w = true := by
  have hl := fun k => isWd_lets (k := k) h
  unfold isWd at h ⊢
  rw [Bool.and_eq_true, Bool.and_eq_true, Bool.and_eq_true, List.all_eq_true] at h ⊢
  refine ⟨h.1, fun s hs => ?_, h.2.2⟩
  cases s with
  | l k => exact decide_eq_true (Nat.lt_of_lt_of_le (hl k hs) hm)
  | _ => rfl
theorem cSy_sgC {s : Sy} (h : letOk 8 s = true) : cSy (sgC s) = some s := by
  cases s with
  | l k =>
    have hk : k < 8 := of_decide_eq_true h
    show cSy (97 + k) = _
    unfold cSy
    rw [if_neg (by omega), if_neg (by omega), if_neg (by omega), if_neg (by omega), if_pos (by omega), show 97 + k - 97 = k by omega]
  | _ => rfl
theorem wd_lets {w : List Sy} (h : isWd 8 w = true) : ∀ s ∈ w, letOk 8 s = true := by
  unfold isWd at h
  rw [Bool.and_eq_true, Bool.and_eq_true, List.all_eq_true] at h
  exact h.2.1
theorem fm_txW : ∀ {w : List Sy}, (∀ s ∈ w, letOk 8 s = true) → (txW w).filterMap cSy = w
  | [], _ => rfl
  | s :: w, h => by
    show (sgC s :: txW w).filterMap cSy = _
    rw [List.filterMap_cons_some (cSy_sgC (h s List.mem_cons_self)), fm_txW fun x hx => h x (List.mem_cons_of_mem _ hx)]
theorem wdOf_tx {w : List Sy} (h : isWd 8 w = true) : wdOf (txW w) = some w := by
  have hl := wd_lets h
  unfold wdOf
  rw [fm_txW hl, if_pos h, if_pos ⟨by unfold txW; rw [List.length_map]; exact isWd_len h, List.all_eq_true.mpr fun c hc => by
    obtain ⟨s, hs, rfl⟩ := List.mem_map.mp hc
    rw [cSy_sgC (hl s hs)]; rfl⟩]
theorem sg_big {w : List Sy} (h : isWd 8 w = true) : ∀ c ∈ txW w, c ≠ 32 ∧ c ≠ 10 := by
  intro c hc
  obtain ⟨s, hs, rfl⟩ := List.mem_map.mp hc
  cases s with
  | l k => show 97 + k ≠ 32 ∧ 97 + k ≠ 10; omega
  | _ => decide
theorem tx_ne {w : List Sy} (h : isWd 8 w = true) : txW w ≠ [] := by
  unfold isWd at h
  rw [Bool.and_eq_true, Bool.and_eq_true, Bool.and_eq_true] at h
  cases w with
  | nil => cases h.2.2.2
  | cons s w => exact List.cons_ne_nil _ _
theorem head_ok : ∀ j : Nat, (∀ c ∈ headsL.getD j [], c ≠ 32 ∧ c ≠ 10) := by
  intro j c hc
  by_cases hj : j < 9
  · have : ∀ i : Fin 9, ∀ c ∈ headsL.getD i.1 [], c ≠ 32 ∧ c ≠ 10 := by decide
    exact this ⟨j, hj⟩ c hc
  · rw [List.getD_eq_getElem?_getD, List.getElem?_eq_none (by show 9 ≤ j; omega)] at hc
    cases hc
theorem head_ne {j : Nat} (hj : j < 9) : headsL.getD j [] ≠ [] := by
  have : ∀ i : Fin 9, headsL.getD i.1 [] ≠ [] := by decide
  exact this ⟨j, hj⟩
/-! the words of a line -/
def words_cut {p r : List Nat} (h : 32 ∉ p) : wordsL (p ++ 32 :: r) = (if p = [] then [] else [p]) ++ wordsL r := by
  unfold wordsL
  rw [show p ++ 32 :: r = p ++ ([32] ++ r) from rfl, spl_part1 h, List.nil_append]
  cases p with
  | nil => rfl
  | cons c p => rfl
theorem words_end {p : List Nat} (h : 32 ∉ p) : wordsL p = if p = [] then [] else [p] := by
  unfold wordsL
  rw [spl_last1 h, List.nil_append]
  cases p <;> rfl
theorem words_line {j : Nat} {w : List Sy} (hj : j < 9) (h : isWd 8 w = true) : wordsL (lineOf j w) = [headsL.getD j [], txW w] := by
  unfold lineOf
  rw [words_cut fun z => (head_ok j _ z).1 rfl, words_end fun z => (sg_big h _ z).1 rfl, if_neg (head_ne hj), if_neg (tx_ne h)]
  rfl
/-! what is read -/
def pairsH : Nat → List (List Sy) → List (List (List Nat))
  | _, [] => []
  | j, w :: r => [headsL.getD j [], txW w] :: pairsH (j + 1) r
theorem head_at {j : Nat} (hj : j < 9) : headsL[j]? = some (headsL.getD j []) := by
  rw [List.getD_eq_getElem?_getD, List.getElem?_eq_getElem (show j < headsL.length from hj)]
  rfl
theorem rd_ok : ∀ (cs : List (List Nat)) (n : Nat) (told : List (Nat × List Sy)) (W : List (List Sy)), (cs.map wordsL).filter (fun x => !x.isEmpty) = pairsH told.length W → (∀ w ∈ W, isWd 8 w = true) → told.length + W.length ≤ 9 →
    ∃ told', rdLines n cs told = .inr told' ∧ told'.map (·.2) = told.map (·.2) ++ W
  | [], n, told, W, h, hw, hl => by
    cases W with
    | nil => exact ⟨told, rfl, (List.append_nil _).symm⟩
    | cons w W => cases h
  | c :: cs, n, told, W, h, hw, hl => by
    rw [List.map_cons] at h
    by_cases hc : wordsL c = []
    · rw [hc] at h
      unfold rdLines
      rw [if_pos hc]
      exact rd_ok cs (n + 1) told W h hw hl
    · have e : (!(wordsL c).isEmpty) = true := by cases q : wordsL c with
        | nil => exact absurd q hc
        | cons => rfl
      rw [List.filter_cons_of_pos (by exact e)] at h
      cases W with
      | nil => cases h
      | cons w W =>
        have h : wordsL c :: (cs.map wordsL).filter (fun x => !x.isEmpty) = [headsL.getD told.length [], txW w] :: pairsH (told.length + 1) W := h
        injection h with h1 h2
        have hlt : told.length < 9 := by
          rw [List.length_cons] at hl
          omega
        have hr : readLn (wordsL c) headsL[told.length]? = .inr w := by
          rw [h1, head_at hlt]
          unfold readLn
          rw [if_pos (by rfl)]
          have e1 : (([headsL.getD told.length [], txW w] : List (List Nat))[1]?).bind wdOf = some w := wdOf_tx (hw w List.mem_cons_self)
          rw [e1]
          rfl
        unfold rdLines
        rw [if_neg hc, hr]
        obtain ⟨t', e1, e2⟩ := rd_ok cs (n + 1) (told ++ [(n, w)]) W (by rw [List.length_append]; exact h2) (fun x hx => hw x (List.mem_cons_of_mem _ hx)) (by rw [List.length_append]; rw [List.length_cons] at hl; show told.length + 1 + W.length ≤ 9; omega)
        exact ⟨t', e1, by rw [e2, List.map_append, List.append_assoc]; rfl⟩
theorem bad_none : ∀ {m : Nat} {told : List (Nat × List Sy)}, (∀ w ∈ told.map (·.2), isWd m w = true) → badLn m told = none
  | _, [], _ => rfl
  | m, p :: r, h => by
    unfold badLn
    rw [if_pos (h p.2 List.mem_cons_self)]
    exact bad_none fun w hw => h w (List.mem_cons_of_mem _ hw)
theorem readB_ok {t : List Nat} {ws : List (List Sy)} {st : List Sy} (h1 : 1 ≤ ws.length) (h8 : ws.length ≤ 8) (hs : isWd ws.length st = true) (hw : ∀ w ∈ ws, isWd ws.length w = true)
    (h : ((spl [10] 0 [] t).map wordsL).filter (fun x => !x.isEmpty) = pairsH 0 (st :: ws)) : readB t = .inr (ws, st) := by
  have all : ∀ w ∈ st :: ws, isWd ws.length w = true := fun w hm => by
    rcases List.mem_cons.mp hm with e | e
    · rw [e]; exact hs
    · exact hw w e
  obtain ⟨told, e1, e2⟩ := rd_ok _ 1 [] (st :: ws) h (fun w hm => isWd_mono (all w hm) h8) (by rw [List.length_cons]; show 0 + (ws.length + 1) ≤ 9; omega)
  have e2 : told.map (·.2) = st :: ws := e2
  have el : told.length = ws.length + 1 := by
    have := congrArg List.length e2
    rw [List.length_map] at this
    exact this
  unfold readB
  rw [e1]
  show (if told.length < 2 then _ else _) = _
  rw [if_neg (by omega), show told.length - 1 = ws.length by omega, bad_none (by rw [e2]; exact all)]
  cases told with
  | nil => cases e2
  | cons p r =>
    have e2 : p.2 :: r.map (·.2) = st :: ws := e2
    injection e2 with a b
    show Sum.inr (r.map (·.2), p.2) = _
    rw [a, b]
theorem lines_map : ∀ {j : Nat} {W : List (List Sy)}, (∀ w ∈ W, isWd 8 w = true) → j + W.length ≤ 9 → ((linesOf j W).map wordsL).filter (fun x => !x.isEmpty) = pairsH j W
  | _, [], _, _ => rfl
  | j, w :: r, h, hl => by
    rw [List.length_cons] at hl
    show (wordsL (lineOf j w) :: (linesOf (j + 1) r).map wordsL).filter _ = _
    rw [words_line (by omega) (h w List.mem_cons_self)]
    show [headsL.getD j [], txW w] :: ((linesOf (j + 1) r).map wordsL).filter _ = _
    rw [lines_map (fun x hx => h x (List.mem_cons_of_mem _ hx)) (by omega)]
    rfl
theorem line_10 {j : Nat} {w : List Sy} (h : isWd 8 w = true) : 10 ∉ lineOf j w := by
  unfold lineOf
  intro z
  rcases List.mem_append.mp z with z | z
  · exact (head_ok j _ z).2 rfl
  · rcases List.mem_cons.mp z with z | z
    · cases z
    · exact (sg_big h _ z).2 rfl
theorem lines_10 : ∀ {j : Nat} {W : List (List Sy)}, (∀ w ∈ W, isWd 8 w = true) → ∀ p ∈ linesOf j W, 10 ∉ p
  | _, [], _, _, hp => by cases hp
  | j, w :: r, h, p, hp => by
    rcases List.mem_cons.mp hp with e | e
    · rw [e]; exact line_10 (h w List.mem_cons_self)
    · exact lines_10 (fun x hx => h x (List.mem_cons_of_mem _ hx)) p e
theorem read_back {ws : List (List Sy)} {st : List Sy} (h1 : 1 ≤ ws.length) (h8 : ws.length ≤ 8) (hs : isWd ws.length st = true) (hw : ∀ w ∈ ws, isWd ws.length w = true) : readB (bookTx ws st) = .inr (ws, st) := by
  have all : ∀ w ∈ st :: ws, isWd 8 w = true := fun w hm => by
    rcases List.mem_cons.mp hm with e | e
    · rw [e]; exact isWd_mono hs h8
    · exact isWd_mono (hw w e) h8
  refine readB_ok h1 h8 hs hw ?_
  unfold bookTx
  rw [spl_join (by exact List.cons_ne_nil _ _) (lines_10 all), lines_map all (by rw [List.length_cons]; omega)]
/-! the text with more spaces and void lines -/
theorem repl_one {y : Nat} {z : List Nat} : ∀ l : List Nat, replL [y] z l = l.flatMap fun c => if c = y then z else [c]
  | [] => replL_nil
  | c :: r => by
    by_cases h : c = y
    · rw [replL_hit (by exact List.cons_ne_nil _ _) (by rw [h]; rfl), List.flatMap_cons, if_pos h]
      show z ++ replL [y] z r = _
      rw [repl_one r]
    · rw [replL_miss (fun e => h (by injection e)), repl_one r, List.flatMap_cons, if_neg h]
      rfl
def wide (l : List Nat) : List Nat := l.flatMap fun c => if c = 32 then [32, 32, 32] else [c]
def weird (t : List Nat) : List Nat := [10, 32, 32] ++ (replL [10] [10, 10] (replL [32] [32, 32, 32] t) ++ [10])
theorem fm_free {y : Nat} {z : List Nat} : ∀ {l : List Nat}, y ∉ l → (l.flatMap fun c => if c = y then z else [c]) = l
  | [], _ => rfl
  | c :: r, h => by
    rw [List.flatMap_cons, if_neg (fun e => h (by rw [e]; exact List.mem_cons_self)), fm_free fun e => h (List.mem_cons_of_mem _ e)]
    rfl
theorem wide_line {j : Nat} {w : List Sy} (h : isWd 8 w = true) : wide (lineOf j w) = headsL.getD j [] ++ 32 :: 32 :: 32 :: txW w := by
  unfold wide lineOf
  rw [List.flatMap_append, fm_free fun z => (head_ok j _ z).1 rfl, List.flatMap_cons, fm_free fun z => (sg_big h _ z).1 rfl]
  rfl
theorem words_wide {j : Nat} {w : List Sy} (hj : j < 9) (h : isWd 8 w = true) : wordsL (wide (lineOf j w)) = [headsL.getD j [], txW w] := by
  rw [wide_line h, words_cut fun z => (head_ok j _ z).1 rfl, show (32 :: 32 :: txW w) = [] ++ 32 :: ([] ++ 32 :: txW w) from rfl, words_cut (by simp), words_cut (by simp), words_end fun z => (sg_big h _ z).1 rfl, if_neg (head_ne hj), if_neg (tx_ne h)]
  rfl
theorem wide_10 {j : Nat} {w : List Sy} (h : isWd 8 w = true) : 10 ∉ wide (lineOf j w) := by
  rw [wide_line h]
  intro z
  rcases List.mem_append.mp z with z | z
  · exact (head_ok j _ z).2 rfl
  · simp only [List.mem_cons] at z
    rcases z with z | z | z | z
    · cases z
    · cases z
    · cases z
    · exact (sg_big h _ z).2 rfl
theorem fm_congr {f g : Nat → List Nat} : ∀ {l : List Nat}, (∀ c ∈ l, f c = g c) → l.flatMap f = l.flatMap g
  | [], _ => rfl
  | c :: r, h => by rw [List.flatMap_cons, List.flatMap_cons, h c List.mem_cons_self, fm_congr fun x hx => h x (List.mem_cons_of_mem _ hx)]
/-- each line's end twice, one more behind all -/
theorem weird_tail : ∀ {j : Nat} {W : List (List Sy)}, W ≠ [] → (∀ w ∈ W, isWd 8 w = true) → j + W.length ≤ 9 → ∀ g : List Nat, (∀ c ∈ g, c = 32) →
    ((spl [10] 0 [] (g ++ (((joinL [10] (linesOf j W)).flatMap fun c => if c = 32 then [32, 32, 32] else if c = 10 then [10, 10] else [c]) ++ [10]))).map wordsL).filter (fun x => !x.isEmpty) = pairsH j W := by
  have one : ∀ {j : Nat} {w : List Sy}, isWd 8 w = true → ((lineOf j w).flatMap fun c => if c = 32 then [32, 32, 32] else if c = 10 then [10, 10] else [c]) = wide (lineOf j w) := fun {j w} h => by
    have h10 := line_10 (j := j) h
    unfold wide
    refine fm_congr fun c hc => ?_
    have : c ≠ 10 := fun e => h10 (by rw [← e]; exact hc)
    rw [if_neg this]
  have gw : ∀ {g r : List Nat}, (∀ c ∈ g, c = 32) → wordsL (g ++ r) = wordsL r := fun {g r} h => by
    induction g with
    | nil => rfl
    | cons c g ih =>
      rw [h c List.mem_cons_self, show 32 :: g ++ r = [] ++ 32 :: (g ++ r) from rfl, words_cut (by simp), ih fun x hx => h x (List.mem_cons_of_mem _ hx)]
      rfl
  have g10 : ∀ {g : List Nat}, (∀ c ∈ g, c = 32) → 10 ∉ g := fun h z => by cases h 10 z
  intro j W
  induction W generalizing j with
  | nil => exact fun h => absurd rfl h
  | cons w r ih =>
    intro _ h hl g hg
    have hw := h w List.mem_cons_self
    rw [List.length_cons] at hl
    have n10 : 10 ∉ g ++ wide (lineOf j w) := fun z => by
      rcases List.mem_append.mp z with z | z
      · exact g10 hg z
      · exact wide_10 hw z
    cases r with
    | nil =>
      show ((spl [10] 0 [] (g ++ (((lineOf j w).flatMap _) ++ [10]))).map wordsL).filter _ = _
      rw [one hw, ← List.append_assoc, show (g ++ wide (lineOf j w)) ++ [10] = (g ++ wide (lineOf j w)) ++ ([10] ++ []) from rfl, spl_part1 n10, List.nil_append, List.map_cons, gw hg, words_wide (by omega) hw]
      rfl
    | cons v r =>
      show ((spl [10] 0 [] (g ++ (((lineOf j w ++ ([10] ++ joinL [10] (linesOf (j + 1) (v :: r)))).flatMap _) ++ [10]))).map wordsL).filter _ = _
      rw [List.flatMap_append, one hw, List.flatMap_append]
      rw [show (List.flatMap (fun c => if c = 32 then [32, 32, 32] else if c = 10 then [10, 10] else [c]) [10]) = [10, 10] from rfl, List.append_assoc, ← List.append_assoc g, List.append_assoc [10, 10]]
      rw [show ∀ x : List Nat, [10, 10] ++ x = [10] ++ ([] ++ ([10] ++ x)) from fun _ => rfl, spl_part1 n10, spl_part1 (by simp), List.nil_append, List.nil_append, List.map_cons, List.map_cons, gw hg, words_wide (by omega) hw]
      have := ih (j := j + 1) (List.cons_ne_nil _ _) (fun x hx => h x (List.mem_cons_of_mem _ hx)) (by rw [List.length_cons] at hl ⊢; omega) [] (by simp)
      rw [List.nil_append] at this
      show [headsL.getD j [], txW w] :: (((spl [10] 0 [] _).map wordsL).filter _) = _
      rw [this]
      rfl
theorem read_weird {ws : List (List Sy)} {st : List Sy} (h1 : 1 ≤ ws.length) (h8 : ws.length ≤ 8) (hs : isWd ws.length st = true) (hw : ∀ w ∈ ws, isWd ws.length w = true) : readB (weird (bookTx ws st)) = .inr (ws, st) := by
  have all : ∀ w ∈ st :: ws, isWd 8 w = true := fun w hm => by
    rcases List.mem_cons.mp hm with e | e
    · rw [e]; exact isWd_mono hs h8
    · exact isWd_mono (hw w e) h8
  refine readB_ok h1 h8 hs hw ?_
  have e : weird (bookTx ws st) = [] ++ ([10] ++ ([32, 32] ++ ((bookTx ws st).flatMap (fun c => if c = 32 then [32, 32, 32] else if c = 10 then [10, 10] else [c]) ++ [10]))) := by
    unfold weird
    rw [repl_one, repl_one, List.flatMap_assoc]
    have : (fun x => List.flatMap (fun c => if c = 10 then [10, 10] else [c]) (if x = 32 then [32, 32, 32] else [x])) = fun c => if c = 32 then [32, 32, 32] else if c = 10 then [10, 10] else [c] := by
      funext c
      by_cases h : c = 32
      · rw [if_pos h, if_pos h]; rfl
      · rw [if_neg h, if_neg h]
        show (if c = 10 then [10, 10] else [c]) ++ [] = _
        rw [List.append_nil]
    rw [this]
    rfl
  rw [e, spl_part1 (by simp), List.nil_append, List.map_cons]
  exact weird_tail (List.cons_ne_nil _ _) all (by rw [List.length_cons]; omega) [32, 32] (by simp)
end SK
namespace SK
open PySem PySem.Spec PyProof.Rows L2
/-! is_word of any value -/
def stepV (n : Nat) : Nat × Nat → V → Option (Nat × Nat)
  | (l, d), .int k => if 0 ≤ k ∧ k < (n : Int) then some (l + 1, d) else none
  | (l, d), .str z => if z = "[" then some (l, d + 1) else if z = "]" ∧ 0 < d then some (l, d - 1) else if z = "+" ∨ z = "-" then some (l, d) else none
  | _, _ => none
def runV (n : Nat) : Nat × Nat → List V → Option (Nat × Nat)
  | s, [] => some s
  | s, v :: r => match stepV n s v with
    | none => none
    | some s' => runV n s' r
def isWdV (n : Nat) (xs : List V) : Bool := decide (xs.length ≤ 40) && match runV n (0, 0) xs with
  | some s => decide (0 < s.1) && decide (s.2 = 0)
  | none => false
theorem runV_snoc {n : Nat} : ∀ {xs : List V} {s s' : Nat × Nat} {v : V}, runV n s xs = some s' → runV n s (xs ++ [v]) = stepV n s' v
  | [], s, s', v, h => by
    cases h
    show (match stepV n s v with | none => none | some s' => runV n s' []) = _
    cases stepV n s v <;> rfl
  | x :: r, s, s', v, h => by
    have h : (match stepV n s x with | none => none | some s' => runV n s' r) = some s' := h
    show (match stepV n s x with | none => none | some s' => runV n s' (r ++ [v])) = _
    cases e : stepV n s x with
    | none => rw [e] at h; cases h
    | some t => rw [e] at h; exact runV_snoc h
theorem runV_app {n : Nat} : ∀ {xs ys : List V} {s s' : Nat × Nat}, runV n s xs = some s' → runV n s (xs ++ ys) = runV n s' ys
  | [], ys, s, s', h => by cases h; rfl
  | x :: r, ys, s, s', h => by
    have h : (match stepV n s x with | none => none | some s' => runV n s' r) = some s' := h
    show (match stepV n s x with | none => none | some s' => runV n s' (r ++ ys)) = _
    cases e : stepV n s x with
    | none => rw [e] at h; cases h
    | some t => rw [e] at h; exact runV_app h
theorem runV_none {n : Nat} {xs : List V} {i : Nat} {s : Nat × Nat} {v : V} (h : runV n (0, 0) (xs.take i) = some s) (hv : xs[i]? = some v) (hn : stepV n s v = none) : runV n (0, 0) xs = none := by
  have e : xs = xs.take i ++ v :: xs.drop (i + 1) := by
    obtain ⟨a, b⟩ := List.getElem?_eq_some_iff.mp hv
    rw [← b, ← List.drop_eq_getElem_cons a, List.take_append_drop]
  rw [e, runV_app h]
  show (match stepV n s v with | none => none | some s' => _) = none
  rw [hn]
theorem sv_str {n l d : Nat} {z : PySem.Str} : stepV n (l, d) (.str z) = if z = "[" then some (l, d + 1) else if z = "]" ∧ 0 < d then some (l, d - 1) else if z = "+" ∨ z = "-" then some (l, d) else none := rfl
/-- words -/
theorem runV_wd {n : Nat} : ∀ {w : List Sy} {l d : Nat}, runV n (l, d) (wv w) = if w.all (letOk n) = true then (nest w d).map fun d' => (l + nL w, d') else none
  | [], l, d => rfl
  | s :: w, l, d => by
    show (match stepV n (l, d) s.v with | none => none | some s' => runV n s' (wv w)) = _
    rw [List.all_cons]
    cases s with
    | l k =>
      by_cases h : k < n
      · rw [show stepV n (l, d) (Sy.v (.l k)) = some (l + 1, d) from if_pos ⟨by omega, by omega⟩]
        dsimp only
        rw [runV_wd, show letOk n (.l k) = true from decide_eq_true h, Bool.true_and, show nest (.l k :: w) d = nest w d from rfl, show nL (.l k :: w) = nL w + 1 from by unfold nL; rw [List.filter_cons_of_pos rfl]; rfl, show l + 1 + nL w = l + (nL w + 1) by omega]
      · rw [show stepV n (l, d) (Sy.v (.l k)) = none from if_neg (by omega), show letOk n (.l k) = false from decide_eq_false h, Bool.false_and]
        rfl
    | p =>
      rw [show stepV n (l, d) (Sy.v .p) = some (l, d) from by show stepV n (l, d) (.str "+") = _; rw [sv_str, if_neg (by decide +kernel), if_neg (fun h => absurd h.1 (by decide +kernel)), if_pos (.inl rfl)]]
      dsimp only
      rw [runV_wd]; rfl
    | m =>
      rw [show stepV n (l, d) (Sy.v .m) = some (l, d) from by show stepV n (l, d) (.str "-") = _; rw [sv_str, if_neg (by decide +kernel), if_neg (fun h => absurd h.1 (by decide +kernel)), if_pos (.inr rfl)]]
      dsimp only
      rw [runV_wd]; rfl
    | o =>
      rw [show stepV n (l, d) (Sy.v .o) = some (l, d + 1) from rfl]
      dsimp only
      rw [runV_wd]; rfl
    | c =>
      cases d with
      | zero =>
        rw [show stepV n (l, 0) (Sy.v .c) = none from by show stepV n (l, 0) (.str "]") = _; rw [sv_str, if_neg (by decide +kernel), if_neg (fun h => absurd h.2 (Nat.lt_irrefl _)), if_neg (by decide +kernel)]]
        show none = if _ then (none : Option Nat).map _ else none
        split <;> rfl
      | succ d =>
        rw [show stepV n (l, d + 1) (Sy.v .c) = some (l, d) from by show stepV n (l, d + 1) (.str "]") = _; rw [sv_str, if_neg (by decide +kernel), if_pos ⟨rfl, Nat.succ_pos _⟩]; rfl]
        dsimp only
        rw [runV_wd]; rfl
theorem nL_any {w : List Sy} : decide (0 < nL w) = w.any isL := by
  unfold nL
  rw [Bool.eq_iff_iff, decide_eq_true_iff, List.any_eq_true, List.length_pos_iff]
  constructor
  · intro h
    obtain ⟨x, hx⟩ := List.exists_mem_of_ne_nil _ h
    exact ⟨x, (List.mem_filter.mp hx).1, (List.mem_filter.mp hx).2⟩
  · rintro ⟨x, hx, h⟩ e
    have := List.mem_filter.mpr ⟨hx, h⟩
    rw [e] at this
    cases this
theorem isWdV_wd {n : Nat} {w : List Sy} : isWdV n (wv w) = isWd n w := by
  unfold isWdV isWd
  rw [List.length_map, runV_wd]
  congr 1
  cases h : w.all (letOk n) with
  | false => rfl
  | true =>
    rw [if_pos rfl, Bool.true_and]
    cases e : nest w 0 with
    | none => rfl
    | some d =>
      show (decide (0 < 0 + nL w) && decide (d = 0)) = _
      rw [Nat.zero_add, nL_any, Bool.and_comm]
      congr 1
      simp
def spIsWordV (K : PySem.W.Frag) : Sp := fun vs H Q _ => ∃ (v : V) (n : Nat), vs = [v, .int n] ∧ ((∃ T, TyX K H v (.type T) ∧ kitB T "tuple" = some false ∧ Q (.bl false) H) ∨
  ∃ (t : Addr) (xs : List V), v = .ref t ∧ TyX K H v (.type "tuple") ∧ SqT K H t xs ∧ (∀ x ∈ xs, flatA x = true) ∧ Q (.bl (isWdV n xs)) H)
section
variable {P : Program} {w : World} {K : PySem.W.Frag} {mg : Str → Option Value} {base : Heap}
theorem ok_iswordV {f : Addr} {fd : FuncData} {k : Nat} {t40 : Tok} (F : Fun K "is_word" "is_word" s_is_word f fd) (GI : Got P w K mg base "is_integer" k ["value"] (spIsInt K)) (mI : mg "isinstance" = none) (mT : mg "tuple" = none) (ml : mg "len" = none) (m40 : mg "MOST_PARTS" = some (.int 40 t40)) :
    FnOk P w K mg base CX0 (k + 1) f fd ["value", "many"] (spIsWordV K) := by
  refine F.ok sc_is_word (fun vs H Q E h => ?_) (fun cdv A outer s H vs Q E hr h => ?_)
  · obtain ⟨v, n, rfl, _⟩ := h
    rfl
  · obtain ⟨v, n, rfl, hh⟩ := h
    have nd := sc_is_word.nd
    refine ⟨_, pss_cons (ps_if (PW.pt (pw_or (pt_not (pt_val (pis "tuple" (by decide +kernel) mI mT (pv 0)))) (pw_or1 (pt_cmpR op_gt (plen ml (pv 0)) (pe_glob (v := .int 40) rfl m40 ⟨_, rfl⟩) (nomark _))))) (pss_one (ps_ret pe_bl)) pss_nil)
      (pss_cons (ps_set (i := 2) nd rfl (.inl rfl) pe_int)
      (pss_cons (ps_set (i := 3) nd rfl (.inl rfl) pe_int)
      (pss_cons (ps_for PassesOwn.never rfl (pi_tup (pv 0)) (pg_name (i := 4) nd rfl (.inl rfl))
        (pss_one (ps_if (PW.pt (pw_and (pt_val (pcall GI hr (pa_cons (pv 4) pa_nil))) (pw_and1 (pt_chain op_le op_lt pe_int (pv 4) (pv 1)))))
            (pss_one (ps_aug (i := 2) nd rfl (.inl rfl) pe_int ip_add))
          (pss_one (ps_if (pt_cmpR op_eq (pv 4) pe_str (nomark _)) (pss_one (ps_aug (i := 3) nd rfl (.inl rfl) pe_int ip_add))
          (pss_one (ps_if (PW.pt (pw_and (pt_cmpR op_eq (pv 4) pe_str (nomark _)) (pw_and1 (pt_cmpR op_gt (pv 3) pe_int (nomark _))))) (pss_one (ps_aug (i := 3) nd rfl (.inl rfl) pe_int ip_sub))
          (pss_one (ps_if (PW.pt (pw_and (pt_cmpR op_ne (pv 4) pe_str (nomark _)) (pw_and1 (pt_cmpR op_ne (pv 4) pe_str (nomark _))))) (pss_one (ps_ret pe_bl)) pss_nil)))))))))
      (pss_one (ps_ret (pe_and (pe_cmpR op_gt (pv 2) pe_int (nomark _)) (pe_one (pe_cmpR op_eq (pv 3) pe_int (nomark _))))))))), ?_⟩
    rcases hh with ⟨T, hT, k1, q⟩ | ⟨t, xs, rfl, hty, ht, hfl, q⟩
    · exact ⟨_, rfl, _, T, false, rfl, hT, k1, _, rfl, iteT q⟩
    refine ⟨_, rfl, _, "tuple", true, rfl, hty, by decide +kernel, _, rfl, iteF ⟨_, rfl, t, _, rfl, .inr ht, _, _, rfl, rfl, _, rfl, ?_⟩⟩
    by_cases z : xs.length ≤ 40
    case neg =>
      refine itY (show (40 : Int) < (xs.length : Int) by omega) ?_
      rw [show isWdV n xs = false from by unfold isWdV; rw [decide_eq_false z]; rfl] at q
      exact q
    refine itN (show ¬ (40 : Int) < (xs.length : Int) by omega) ?_
    have qz : isWdV n xs = match runV n (0, 0) xs with | some s => decide (0 < s.1) && decide (s.2 = 0) | none => false := by
      unfold isWdV
      rw [decide_eq_true z, Bool.true_and]
    refine ⟨_, rfl, t, rfl, ⟨_, ht⟩, for_tup (K := K) (a := t) (xs := xs) (fun i σ H' => ∃ (l d : Nat) (y4 : Option V), σ = [some (.ref t), some (.int n), some (.int l), some (.int d), y4] ∧ runV n (0, 0) (xs.take i) = some (l, d) ∧ H' = H)
      ⟨0, 0, none, rfl, rfl, rfl⟩ (fun i σ H' _ ⟨_, _, _, _, _, e⟩ => by rw [e]; exact ht) ?_ ?_⟩
    · rintro i x σ H1 hx ⟨l, d, y4, rfl, hd, rfl⟩
      have e2 : runV n (0, 0) (xs.take (i + 1)) = stepV n (l, d) x := by rw [take_more hx]; exact runV_snoc hd
      have bad : stepV n (l, d) x = none → Q (.bl false) H1 := fun e => by
        rw [qz, runV_none hd hx e] at q
        exact q
      have fx := hfl x (List.mem_of_getElem? hx)
      obtain ⟨tn, cb, ht1, _, _, kb, hk⟩ := flat_ty (K := K) fx
      have go : ∀ s', stepV n (l, d) x = some s' → runV n (0, 0) (xs.take (i + 1)) = some s' := fun s' e => e2.trans e
      have rest : ∀ (z : Str), x = .str z → ¬ z = "[" → ¬ (z = "]" ∧ 0 < d) → (z = "+" ∨ z = "-" → stepV n (l, d) x = some (l, d)) ∧ (¬ (z = "+" ∨ z = "-") → stepV n (l, d) x = none) := by
        rintro z rfl h1 h2
        constructor
        · intro h; show (if _ then _ else _) = _
          rw [if_neg h1, if_neg h2, if_pos h]
        · intro h; show (if _ then _ else _) = _
          rw [if_neg h1, if_neg h2, if_neg h]
      rcases hk with ⟨rfl, k4⟩ | ⟨z, rfl, k4⟩ | ⟨j, rfl, k4, k5⟩ | ⟨b, rfl, k4, k5⟩
      · refine ⟨_, rfl, .non, "NoneType", false, false, rfl, ty_non, by decide +kernel, by decide +kernel, _, rfl, iteF ?_⟩
        refine ⟨_, rfl, rfl, _, rfl, itN (fun z => nomatch z) ⟨_, rfl, rfl, _, rfl, itN (fun z => nomatch z) ⟨_, rfl, rfl, _, rfl, ?_⟩⟩⟩
        exact iteT ⟨_, rfl, rfl, _, rfl, iteT (bad rfl)⟩
      · refine ⟨_, rfl, .str z, "str", false, false, rfl, ty_str _, by decide +kernel, by decide +kernel, _, rfl, iteF ?_⟩
        refine ⟨_, rfl, rfl, _, rfl, ?_⟩
        by_cases h1 : z = "["
        · subst h1
          exact itY rfl ⟨_, rfl, _, _, rfl, rfl, l, d + 1, _, rfl, go _ rfl, rfl⟩
        refine itN (fun e => h1 (by injection e)) ⟨_, rfl, rfl, _, rfl, ?_⟩
        have fin : ¬ (z = "]" ∧ 0 < d) → ∀ {A B : Prop}, (stepV n (l, d) (.str z) = some (l, d) → A) → (stepV n (l, d) (.str z) = none → B) → (if (!decide (V.str z = V.str "+")) = true then (if (!decide (V.str z = V.str "-")) = true then B else A) else A) := by
          intro h2 A B ha hb
          obtain ⟨r1, r2⟩ := rest z rfl h1 h2
          by_cases p1 : z = "+"
          · subst p1
            rw [if_neg (by simp)]
            exact ha (r1 (.inl rfl))
          · rw [if_pos (by simp; exact p1)]
            by_cases p2 : z = "-"
            · subst p2
              rw [if_neg (by simp)]
              exact ha (r1 (.inr rfl))
            · rw [if_pos (by simp; exact p2)]
              exact hb (r2 (by rintro (e | e); exact p1 e; exact p2 e))
        have tail : ¬ (z = "]" ∧ 0 < d) → (∃ k, V.bl (!decide (V.str z = V.str "+")) = V.bl k ∧ if k = true then (∃ v, some (some (V.str z)) = some (some v) ∧ scal v (V.str "-") = true ∧ ∃ k, V.bl (!decide (v = V.str "-")) = V.bl k ∧ if k = true then Q (.bl false) H1 else (∃ (l' d' : Nat) (y4 : Option V), [some (V.ref t), some (V.int n), some (V.int l), some (V.int d), some (V.str z)] = [some (V.ref t), some (V.int n), some (V.int l'), some (V.int d'), y4] ∧ runV n (0, 0) (xs.take (i + 1)) = some (l', d') ∧ H1 = H1)) else (∃ (l' d' : Nat) (y4 : Option V), [some (V.ref t), some (V.int n), some (V.int l), some (V.int d), some (V.str z)] = [some (V.ref t), some (V.int n), some (V.int l'), some (V.int d'), y4] ∧ runV n (0, 0) (xs.take (i + 1)) = some (l', d') ∧ H1 = H1)) := by
          intro h2
          have := fin h2 (A := (∃ (l' d' : Nat) (y4 : Option V), [some (V.ref t), some (V.int n), some (V.int l), some (V.int d), some (V.str z)] = [some (V.ref t), some (V.int n), some (V.int l'), some (V.int d'), y4] ∧ runV n (0, 0) (xs.take (i + 1)) = some (l', d') ∧ H1 = H1)) (B := Q (.bl false) H1) (fun e => ⟨l, d, _, rfl, go _ e, rfl⟩) (fun e => bad e)
          refine ⟨_, rfl, ?_⟩
          by_cases p1 : (!decide (V.str z = V.str "+")) = true
          · rw [if_pos p1] at this ⊢
            exact ⟨_, rfl, rfl, _, rfl, this⟩
          · rw [if_neg p1] at this ⊢
            exact this
        by_cases h2 : z = "]"
        · subst h2
          refine itY rfl ⟨_, rfl, _, _, rfl, rfl, _, rfl, ?_⟩
          by_cases h3 : 0 < d
          · refine itY (show (0 : Int) < (d : Int) by omega) ⟨_, rfl, _, _, rfl, rfl, l, d - 1, some (.str "]"), ?_, go _ ?_, rfl⟩
            · have : ((d : Int) - 1) = ((d - 1 : Nat) : Int) := by omega
              rw [← this]; rfl
            · rw [sv_str, if_neg h1, if_pos ⟨rfl, h3⟩]
          · refine itN (show ¬ (0 : Int) < (d : Int) by omega) ⟨_, rfl, rfl, ?_⟩
            exact tail (fun ⟨_, h⟩ => h3 h)
        · refine itN (fun e => h2 (by injection e)) ⟨_, rfl, rfl, ?_⟩
          exact tail (fun ⟨h, _⟩ => h2 h)
      · refine ⟨_, rfl, .int j, "int", true, false, rfl, ty_int _, by decide +kernel, by decide +kernel, _, rfl, iteT ?_⟩
        refine ⟨_, rfl, _, _, rfl, rfl, _, rfl, ?_⟩
        have no : ¬ (0 ≤ j ∧ j < (n : Int)) → Q (.bl false) H1 := fun h => bad (if_neg h)
        by_cases h1 : (0 : Int) ≤ j
        · refine itY h1 ⟨_, rfl, _, _, rfl, rfl, _, rfl, ?_⟩
          by_cases h2 : j < (n : Int)
          · exact itY h2 ⟨_, rfl, _, _, rfl, rfl, l + 1, d, some (.int j), rfl, go _ (if_pos ⟨h1, h2⟩), rfl⟩
          · refine itN h2 ⟨_, rfl, rfl, _, rfl, itN (fun z => nomatch z) ⟨_, rfl, rfl, _, rfl, itN (fun z => nomatch z) ⟨_, rfl, rfl, _, rfl, iteT ⟨_, rfl, rfl, _, rfl, iteT (no fun h => h2 h.2)⟩⟩⟩⟩
        · refine itN h1 ?_
          refine ⟨_, rfl, iteF ⟨_, rfl, rfl, _, rfl, itN (fun z => nomatch z) ⟨_, rfl, rfl, _, rfl, itN (fun z => nomatch z) ⟨_, rfl, rfl, _, rfl, iteT ⟨_, rfl, rfl, _, rfl, iteT (no fun h => h1 h.1)⟩⟩⟩⟩⟩
      · refine ⟨_, rfl, .bl b, "bool", true, true, rfl, ty_bl _, by decide +kernel, by decide +kernel, _, rfl, iteF ?_⟩
        refine ⟨_, rfl, rfl, _, rfl, itN (fun z => nomatch z) ⟨_, rfl, rfl, _, rfl, itN (fun z => nomatch z) ⟨_, rfl, rfl, _, rfl, ?_⟩⟩⟩
        exact iteT ⟨_, rfl, rfl, _, rfl, iteT (bad rfl)⟩
    · rintro σ H1 ⟨l, d, y4, rfl, hd, rfl⟩
      rw [List.take_length] at hd
      rw [qz, hd] at q
      have q : Q (.bl (decide (0 < l) && decide (d = 0))) H1 := q
      refine ⟨_, rfl, _, _, rfl, rfl, _, rfl, ?_⟩
      by_cases h : 0 < l
      · refine itY (show (0 : Int) < (l : Int) by omega) ⟨_, rfl, rfl, ?_⟩
        rw [decide_eq_true h, Bool.true_and] at q
        have : decide (V.int (d : Int) = V.int 0) = decide (d = 0) := by
          rw [Bool.eq_iff_iff, decide_eq_true_iff, decide_eq_true_iff]
          constructor
          · intro e; injection e with e; omega
          · intro e; rw [e]; rfl
        show Q (.bl (decide (V.int (d : Int) = V.int 0))) H1
        rw [this]
        exact q
      · refine itN (show ¬ (0 : Int) < (l : Int) by omega) ?_
        rw [decide_eq_false h] at q
        exact q
end
end SK
namespace SK
open PySem PySem.Spec PyProof.Rows L2
/-! ### enumerate of a tuple -/
/-- the two cells that enumerate(v) lays -/
abbrev enumCell (it : Addr) : Obj := { cls := .type "enumerate", data := .fields #[.none, .bool false, .ref it, rawInt 0, .none, .none] }
theorem enum_new1 {v : Value} {o : Obj} {J : Heap → Prop} (B : Begins v o J) : Meets (Builtin.«enumerate.__new__» ⟨[.type "enumerate", v], []⟩) (fun _ R s => J s.heap ∧ R (.ok (.ret (.ref (s.heap.push o).objs.size))) { s with heap := (s.heap.push o).push (enumCell s.heap.objs.size) }) := by
  refine .of_wp fun prog w A R s h => ?_
  obtain ⟨hp, g, d, tk, os⟩ := s
  obtain ⟨j, h⟩ := h
  have sub := sub_enumerate
  have begun : ∀ {A' : Around} {E Q : Value → Shared → Prop}, Q (.ref hp.objs.size) ⟨hp.push o, g, d, tk, os⟩ → wpAny (model prog w) A' (pyIter v) Q E ⟨hp, g, d, tk, os⟩ := fun q => B.iter prog w _ _ ⟨hp, g, d, tk, os⟩ _ j q
  wp_walk using begun
  refine wpAny_stack_any fun _ => wpAny_pure ?_
  split <;> first
    | (rename_i c _ _ _ _ _; cases (c == Value.type "enumerate") <;> (wp_walk using begun; exact ⟨_, rfl, h⟩))
    | (wp_walk using begun; exact ⟨_, rfl, h⟩)
theorem enum_call1 {prog : Program} {w : World} {A : Around} {E Q : Value → Shared → Prop} {s : Shared} {v : Value} {o : Obj} {J : Heap → Prop} (B : Begins v o J) (j : J s.heap)
    (h : ∀ h', IsEnum h' (s.heap.objs.size + 1) s.heap.objs.size 0 .none → h'.get? s.heap.objs.size = some o → (∀ b o, s.heap.get? b = some o → h'.get? b = some o) → Q (.ref (s.heap.objs.size + 1)) { s with heap := h' }) :
    wpAny (model prog w) A (call (.type "enumerate") [v]) Q E s := by
  have z : (s.heap.push o).objs.size = s.heap.objs.size + 1 := Heap.size_push ..
  refine callType_new F.called_enumerate (by decide) (F.typeCall_enumerate_1 _) (F.newCall_enumerate_1 _) (fun obj => F.args_object_init_2 obj _) F.entry_enumerate_new (enum_new1 B) ⟨j, ?_⟩
  show _ ∧ _
  rw [z]
  have cell : IsEnum ((s.heap.push o).push (enumCell s.heap.objs.size)) (s.heap.objs.size + 1) s.heap.objs.size 0 .none := by
    have e := Heap.get?_push_size (s.heap.push o) (o := enumCell s.heap.objs.size) rfl
    rw [z] at e
    exact e
  exact ⟨⟨_, cell, rfl⟩, h _ cell (Heap.get?_push_of_some _ (Heap.get?_push_size _ B.free)) fun b u e => Heap.get?_push_of_some _ (Heap.get?_push_of_some _ e)⟩
def IteT (K : PySem.W.Frag) (a : Addr) : It where
  go := fun i H => ∃ (xs : List V) (x : V), SqT K H a xs ∧ xs[i]? = some x
  yld := fun i H v H' => ∃ (T : Addr) (x : V), v = .ref T ∧ H T = none ∧ H' = upd H T (.tup [.int (i : Nat), x]) ∧ ∀ xs, SqT K H a xs → xs[i]? = some x
  stop := fun i H => ∃ xs : List V, SqT K H a xs ∧ xs.length = i
theorem turn_enumT {P : Program} {w : World} {K : PySem.W.Frag} {elts : List Expr} {kk : Nat} {tpos : Pos} {a e it : Addr} (hea : a ≠ it) : Turn P w K (.Tuple elts kk tpos) (IteT K a) [e, it] e (fun i h => (∃ old, IsEnum h e it ((i : Nat) : Int) old) ∧ h.IsTupleIter it a i ∧ e ≠ it ∧ e ≠ a) := by
  refine ⟨List.mem_cons_self, ?obj, ?keep, ?item, ?done, ?self⟩
  case obj =>
    rintro i h ⟨⟨old, he⟩, ⟨o, ho, hc, hd⟩, _⟩ b hb
    rcases List.mem_cons.mp hb with rfl | hb
    · exact ⟨_, he, fun v q => nomatch q⟩
    · cases List.mem_singleton.mp hb
      exact ⟨o, ho, fun v q => by rw [hd] at q; cases q⟩
  case keep =>
    rintro i h h' ⟨⟨old, he⟩, hi, hne⟩ k
    exact ⟨⟨old, k e (by simp) _ he⟩, hi.at fun o q => k it (by simp) o q, hne⟩
  case self =>
    rintro A i s Q E ⟨⟨_, he⟩, _⟩ h
    exact wpAny_pyIter_enum he h
  case done =>
    intro X hP hw hK hc i pins s σ H E I hf st hg
    subst hP hw hK
    obtain ⟨⟨old, he⟩, hit, hne, hea'⟩ := st
    obtain ⟨xs, hq, hx⟩ := hg
    obtain ⟨its, rv, p, hz⟩ := I.tuple hq
    have hl := rv.length
    obtain ⟨f0, f1, f2, f3, f4, f5⟩ := hf it (by simp)
    have hh : X.A.in1.handled = none := I.ok.hd hc
    have hn : i = its.toArray.size := by rw [List.size_toArray]; omega
    subst hn
    exact wpAny_pyNext_enum_endD (Draws.tuple hh it a hea its.toArray) he ⟨hit, p⟩ fun h' eb => ⟨rfl, I.turned (t' := s.toks) (fun b o hb q => eb b o hb q) f0 f1 f3 f4 f5⟩
  case item =>
    intro X hP hw hK hc i pins s σ H E I hf st hg
    subst hP hw hK
    obtain ⟨⟨old, he⟩, hit, hne, hea'⟩ := st
    obtain ⟨xs, x, hq, hx⟩ := hg
    obtain ⟨its, rv, p, hz⟩ := I.tuple hq
    obtain ⟨u, hu, ru⟩ := rv.get hx
    have hel : e < s.heap.objs.size := Heap.lt_size he
    have hil : it < s.heap.objs.size := by obtain ⟨_, q, _⟩ := hit; exact Heap.lt_size q
    have hi : i < its.toArray.size := by rw [List.size_toArray]; exact (List.getElem?_eq_some_iff.mp hu).1
    have hh : X.A.in1.handled = none := I.ok.hd hc
    refine wpAny_pyNext_enum_itemD (Draws.tuple hh it a hea its.toArray) he ⟨hit, p⟩ hi hne (by simp [hne, hea']) fun x' h' tk hp ho hst hT hsz hk => ?_
    have ex : x' = u := Option.some.inj (hp.symm.trans (by simpa using hu))
    subst ex
    refine ⟨_, rfl, wpAny_letOwnedTupleGo_enum (s := { s with heap := h', toks := tk + 1 }) ho fun h2 he2 sb => ?_⟩
    have at2 : h2.get? s.heap.objs.size = some { cls := .type "tuple", data := .seq #[.int i tk, x'] } := (sb.2 _ (Nat.ne_of_gt hel)).trans hT
    have laid : ObjOk X.prog X.w (upd H s.heap.objs.size (.tup [.int (i : Nat), x])) h2 s.heap.objs.size (.tup [.int (i : Nat), x]) := ⟨szl 2, [.int i tk, x'], .cons ⟨_, rfl⟩ (.cons ru .nil), _, at2, rfl, _, rfl⟩
    have J : Inv X pins σ (upd H s.heap.objs.size (.tup [.int (i : Nat), x])) { s with heap := h2, toks := tk + 1 } :=
      I.turnedNew (ch := [e, it]) (fun b ob hb q => (sb.2 b fun z => hb (by simp [z])).trans (hk b ob (fun z => hb (by simp [z])) (fun z => hb (by simp [z])) q)) hf (Nat.le_refl _) laid
    refine ⟨.ref s.heap.objs.size, _, J, rfl, ⟨_, x, rfl, I.hok.fresh (Nat.le_refl _), rfl, fun ys hy => ?_⟩, ⟨⟨x', ?_⟩, hst.1.at fun o q => (sb.2 it (Ne.symm hne)).trans q, hne, hea'⟩, fun b hb => ?_⟩
    · rw [I.tuple_inj hy hq]
      exact hx
    · have e1 : ((i + 1 : Nat) : Int) = (i : Int) + 1 := by omega
      rw [e1]
      exact he2
    · have hb' : b < s.heap.objs.size := by
        rcases List.mem_cons.mp hb with z | z
        · rw [z]; exact hel
        · rw [List.mem_singleton.mp z]; exact hil
      rw [upd_ne (Nat.ne_of_lt hb')]
      exact (hf b hb).1
def iEnumT (K : PySem.W.Frag) (ta : TA) : TI := fun σ H R => ta σ H fun vs H1 => ∃ a xs, vs = [.ref a] ∧ SqT K H1 a xs ∧ R (IteT K a) H1
theorem pi_enumT {X : Cx} {e : Expr} {ta : TA} {p pos tpos : Pos} {elts : List Expr} {kk : Nat} (hg : Gl X "enumerate") (hm : X.mg "enumerate" = none) (ha : PA X [e] ta) (hs : starEach [e] X.env = [(false, eval e X.env)] := by rfl) :
    PI X (.Tuple elts kk tpos) (.Call (.Name "enumerate" p) [e] [] pos) (iEnumT X.K ta) := by
  refine ⟨fun pins s σ H R I h => Call_ (ld_blt I hg hm boot_enumerate (PyProof.Rows.callWith_type1 (thn (ha.run pos pins s σ H _ I h) fun us s1 ⟨vs, H1, I1, r1, q1⟩ => ?_) hs rfl))⟩
  obtain ⟨a, xs, rfl, hq, q⟩ := q1
  rcases r1 with _ | ⟨r, rr⟩
  cases rr
  cases r
  obtain ⟨its, rv, p', hz⟩ := I1.tuple hq
  refine enum_call1 (begins_tuple a its.toArray) p' fun h' he hit hk => wpAny_pyIter_enum he ?_
  have al : a < s1.heap.objs.size := p'.lt
  refine ⟨s1.heap.objs.size + 1, [s1.heap.objs.size + 1, s1.heap.objs.size], _, _, H1, rfl, I1.kept (t' := s1.toks) hk, turn_enumT (a := a) (e := s1.heap.objs.size + 1) (it := s1.heap.objs.size) (Nat.ne_of_lt al), ⟨⟨.none, he⟩, ⟨_, hit, rfl, rfl⟩, Nat.succ_ne_self _, Nat.ne_of_gt (Nat.lt_succ_of_lt al)⟩, fun b hb => ?_, q⟩
  have hle : s1.heap.objs.size ≤ b := by
    rcases List.mem_cons.mp hb with z | z
    · rw [z]; exact Nat.le_succ _
    · rw [List.mem_singleton.mp z]; exact Nat.le_refl _
  exact I1.fpOk hle (I1.hok.fresh hle)
/-- the loop by an invariant -/
theorem for_enumT {K : PySem.W.Frag} {a : Addr} {xs : List V} {g : TG} {tb : TS} {D : Ends} {σ : L2.St} {H : Hp} (Pv : Nat → L2.St → Hp → Prop) (h0 : Pv 0 σ H) (hl : ∀ i σ H, Pv i σ H → SqT K H a xs)
    (hs : ∀ (i : Nat) (x : V) (T : Addr) (σ : L2.St) (H : Hp), xs[i]? = some x → Pv i σ H → H T = none → g (.ref T) σ (upd H T (.tup [.int (i : Nat), x])) fun σ2 H2 => tb { D with nx := Pv (i + 1), ct := Pv (i + 1), bk := D.nx } σ2 H2)
    (hd : ∀ σ H, Pv xs.length σ H → D.nx σ H) :
    ∃ W : Nat → Nat → L2.St → Hp → Prop, (∃ m, W 0 m σ H) ∧ ∀ i m σ H, W i m σ H → ((IteT K a).stop i H ∧ D.nx σ H) ∨ ((IteT K a).go i H ∧ ∃ N : L2.St → Hp → Prop, (∀ σ' H', N σ' H' → ∃ m', m' < m ∧ W (i + 1) m' σ' H') ∧ ∀ v H', (IteT K a).yld i H v H' → g v σ H' fun σ2 H2 => tb { D with nx := N, ct := N, bk := D.nx } σ2 H2) := by
  refine ⟨fun i m σ H => m = xs.length - i ∧ i ≤ xs.length ∧ Pv i σ H, ⟨_, rfl, Nat.zero_le _, h0⟩, ?_⟩
  rintro i m σ H ⟨rfl, hi, p⟩
  have q := hl i σ H p
  by_cases hlt : i < xs.length
  · refine .inr ⟨⟨xs, xs[i], q, List.getElem?_eq_getElem hlt⟩, Pv (i + 1), fun σ' H' p' => ⟨_, by omega, rfl, hlt, p'⟩, ?_⟩
    rintro v H' ⟨T, x, rfl, nT, rfl, hx⟩
    exact hs i x T σ H (hx xs q) p nT
  · have e : i = xs.length := by omega
    subst e
    exact .inl ⟨⟨xs, q, rfl⟩, hd σ H p⟩
end SK
namespace SK
open PySem PySem.Spec PyProof.Rows L2
structure GotD (P : Program) (w : World) (K : PySem.W.Frag) (mg : Str → Option Value) (base : Heap) (x : Str) (k : Nat) (ps : List Str) (dvs : List V) (sp : Sp) : Prop where
  ex : ∃ (f : Addr) (fd : FuncData) (ds : List Value), FnOk P w K mg base CX0 k f fd ps sp ∧ mg x = some (.ref f) ∧ PySem.W.keepIn K (.ref f) = true ∧ Binds K fd ps ds ∧ Vals dvs ds
theorem pcallD {X : Cx} {x : Str} {k : Nat} {ps : List Str} {dvs : List V} {sp : Sp} {e : Expr} {es : List Expr} {t : TA} {p pos : Pos} (G : GotD X.prog X.w X.K X.mg X.base x k ps dvs sp) (hr : Room k X.A) (ha : PA X (e :: es) t) (hg : Gl X x := by rfl)
    (hdb : (x == ("__debug__" : Str)) = false := by decide)
    (he : starEach (e :: es) X.env = (false, eval e X.env) :: starEach es X.env := by rfl) (hpl : (backTo pos (starEach es X.env)).any (·.1) = false := by rfl) : PE X (.Call (.Name x p) (e :: es) [] pos) (tCall sp dvs E0 t) := by
  obtain ⟨f, fd, ds, F, a, b, c, d⟩ := G.ex
  exact pe_call F hr hg a b c d pass0 ha hdb he hpl
def spCheckBook : Sp := fun vs H Q _ => ∃ (b : Addr) (ws : List (List Sy)) (st : List Sy), vs = [.ref b] ∧ BookAt H b ws st ∧ GoodBook ws st ∧ ∀ H', Same H H' → Q .non H'
def spCheckNum : Sp := fun vs H Q _ => ∃ (n lo hi : Int), vs = [.int n, .int lo, .int hi] ∧ lo ≤ n ∧ n ≤ hi ∧ Q .non H
def spCheckAge : Sp := fun vs H Q _ => ∃ (n m : Nat), vs = [.int n, .int m] ∧ n ≤ m ∧ Q .non H
def spCheckBA : Sp := fun vs H Q _ => ∃ (b : Addr) (n m : Nat) (ws : List (List Sy)) (st : List Sy), vs = [.ref b, .int n, .int m] ∧ BookAt H b ws st ∧ GoodBook ws st ∧ n ≤ m ∧ ∀ H', Same H H' → Q .non H'
section
variable {P : Program} {w : World} {K : PySem.W.Frag} {mg : Str → Option Value} {base : Heap}
theorem ok_checkbook {f : Addr} {fd : FuncData} {k : Nat} (F : Fun K "check_book" "check_book" s_check_book f fd) (GF : Got P w K mg base "has_book_form" k ["value"] spBookForm) (GW : Got P w K mg base "is_word" k ["value", "many"] spIsWord) (ml : mg "len" = none) (mE : mg "enumerate" = none) :
    FnOk P w K mg base CX0 (k + 1) f fd ["value"] spCheckBook := by
  refine F.ok sc_check_book (fun vs H Q E h => ?_) (fun cdv A outer s H vs Q E hr h => ?_)
  · obtain ⟨b, ws, st, rfl, _⟩ := h
    rfl
  · obtain ⟨b, ws, st, rfl, hb, hg, q⟩ := h
    have nd := sc_check_book.nd
    refine ⟨_, pss_cons (ps_if (pt_not (pt_val (pcall GF hr (pa_cons (pv 0) pa_nil)))) pss_never pss_nil)
      (pss_cons (ps_asg (pv 0) (pg_tup (by rfl) (pgs_cons (pg_name (i := 1) nd rfl (.inl rfl)) (pgs_cons (pg_name (i := 2) nd rfl (.inl rfl)) pgs_nil))))
      (pss_cons (ps_for PassesOwn.never rfl (pi_enumT (by rfl) mE (pa_cons (pv 1) pa_nil)) (pg_tup (by rfl) (pgs_cons (pg_name (i := 3) nd rfl (.inl rfl)) (pgs_cons (pg_name (i := 4) nd rfl (.inl rfl)) pgs_nil)))
        (pss_one (ps_if (pt_not (pt_val (pcall GW hr (pa_cons (pv 4) (pa_cons (plen ml (pv 1)) pa_nil))))) pss_never pss_nil)))
      (pss_one (ps_if (pt_not (pt_val (pcall GW hr (pa_cons (pv 2) (pa_cons (plen ml (pv 1)) pa_nil))))) pss_never pss_nil)))), ?_⟩
    obtain ⟨p, pq, as, h1, h2, h3, h4⟩ := id hb
    have el := h4.length
    refine ⟨_, rfl, b, ws, st, rfl, hb, hg, _, rfl, iteF ?_⟩
    refine ⟨_, rfl, b, _, rfl, SqT.of h1, rfl, _, _, rfl, _, _, rfl, rfl, ?_⟩
    refine ⟨_, rfl, p, _, rfl, SqT.of h2, for_enumT (K := K) (a := p) (xs := as.map V.ref) (fun i σ H' => ∃ y3 y4 : Option V, σ = [some (.ref b), some (.ref p), some (.ref pq), y3, y4] ∧ Same H H') ⟨none, none, rfl, Same.refl H⟩ (fun i σ H' ⟨_, _, _, s⟩ => sTup s (SqT.of h2)) ?_ ?_⟩
    · rintro i x T σ H1 hx ⟨y3, y4, rfl, S1⟩ nT
      have S2 := S1.trans (same_upd (o := .tup [.int (i : Nat), x]) nT)
      rw [List.getElem?_map] at hx
      obtain ⟨a, ha, rfl⟩ : ∃ a, as[i]? = some a ∧ x = V.ref a := by
        cases e : as[i]? with
        | none => rw [e] at hx; cases hx
        | some a => rw [e] at hx; exact ⟨a, rfl, (Option.some.inj hx).symm⟩
      have hi : i < ws.length := by rw [← el]; exact (List.getElem?_eq_some_iff.mp ha).1
      have hw := List.getElem?_eq_getElem hi
      have gw := hg.words _ (List.getElem_mem hi)
      generalize ws[i] = w1 at hw gw
      obtain ⟨a', ha', ht⟩ := paired_get h4 hw
      rw [ha] at ha'
      cases ha'
      refine ⟨T, _, rfl, SqT.of upd_same, rfl, _, _, rfl, _, _, rfl, rfl, ?_⟩
      refine ⟨_, rfl, _, rfl, p, _, rfl, .inr (sTup S2 (SqT.of h2)), a, ws.length, w1, ?_, ht.same S2, gw, _, rfl, iteF ⟨_, _, rfl, S2⟩⟩
      rw [List.length_map, el]; rfl
    · rintro σ H1 ⟨y3, y4, rfl, S1⟩
      refine ⟨_, rfl, _, rfl, p, _, rfl, .inr (sTup S1 (SqT.of h2)), pq, ws.length, st, ?_, h3.same S1, hg.start, _, rfl, iteF (q H1 S1)⟩
      rw [List.length_map, el]; rfl
end
end SK
namespace SK
open PySem PySem.Spec PyProof.Rows L2 SX
/-! a word's text, a book's text -/
theorem sv_sign {s : Sy} (h : isL s = false) : s.v = .str (S [sgC s]) := by
  cases s with
  | l k => cases h
  | p => exact congrArg V.str (by decide +kernel)
  | m => exact congrArg V.str (by decide +kernel)
  | o => exact congrArg V.str (by decide +kernel)
  | c => exact congrArg V.str (by decide +kernel)
theorem abc_at {k : Nat} (h : k < 8) : (Str.ofString "abcdefgh").cps[k]? = some (97 + k) := by
  have : ∀ i : Fin 8, (Str.ofString "abcdefgh").cps[i.1]? = some (97 + i.1) := by decide +kernel
  exact this ⟨k, h⟩
def ones (l : List Nat) : List (List Nat) := l.map fun c => [c]
theorem ones_flat : ∀ l : List Nat, (ones l).flatten = l
  | [] => rfl
  | c :: r => by
    show [c] ++ (ones r).flatten = _
    rw [ones_flat r]
    rfl
theorem ones_sum : ∀ l : List Nat, (((ones l).map List.length).sum) = l.length
  | [] => rfl
  | c :: r => by
    show 1 + ((ones r).map List.length).sum = r.length + 1
    rw [ones_sum r, Nat.add_comm]
theorem joinL_nil' : ∀ l : List (List Nat), TL.joinL [] l = l.flatten
  | [] => rfl
  | [p] => by rw [List.flatten_cons, List.flatten_nil, List.append_nil]; rfl
  | p :: q :: r => by
    show p ++ ([] ++ TL.joinL [] (q :: r)) = p ++ (q :: r).flatten
    rw [joinL_nil' (q :: r), List.nil_append]
def tSgn (i : Nat) : TE := fun σ H Q => ∃ s : Sy, σ[i]? = some (some s.v) ∧ letOk 8 s = true ∧ Q (.str (S [sgC s])) H
def spTextOf (K : PySem.W.Frag) : Sp := fun vs H Q _ => ∃ (t : Addr) (w : List Sy), vs = [.ref t] ∧ SqT K H t (wv w) ∧ (∀ s ∈ w, letOk 8 s = true) ∧ w.length ≤ 1000 ∧ ∀ H', Same H H' → Q (.str (S (txW w))) H'
def tLineW (K : PySem.W.Frag) : TE := fun σ H Q => ∃ (l : List Nat) (t : Addr) (w : List Sy), σ[3]? = some (some (.str (S l))) ∧ σ[4]? = some (some (.ref t)) ∧ SqT K H t (wv w) ∧ (∀ s ∈ w, letOk 8 s = true) ∧ w.length ≤ 1000 ∧ l.length ≤ 1000 ∧ ∀ H', Same H H' → Q (.str (S (l ++ 32 :: txW w))) H'
def spWrite : Sp := fun vs H Q _ => ∃ (b : Addr) (ws : List (List Sy)) (st : List Sy), vs = [.ref b] ∧ BookAt H b ws st ∧ GoodBook ws st ∧ ∀ H', Same H H' → Q (.str (S (bookTx ws st))) H'
theorem walk_zipT {K : PySem.W.Frag} {a b : Addr} {xs ys : List V} {n : Nat} (hn : n = min xs.length ys.length) : Walk (RZ.ItzT K a b) n (fun H => SqT K H a xs ∧ SqT K H b ys) (YPair (fun i => xs[i]?) (fun i => ys[i]?)) := by
  subst hn
  refine ⟨fun i _ hi q => ?_, fun _ q => ⟨xs, ys, q.1, q.2, by omega⟩, fun i H v H' _ q y => ?_⟩
  · have h1 : i < xs.length := by omega
    have h2 : i < ys.length := by omega
    exact ⟨xs, ys, xs[i], ys[i], q.1, q.2, by simp [h1], by simp [h2]⟩
  · obtain ⟨T, x, z, h1, h2, h3, h4, h5⟩ := y
    exact ⟨T, x, z, h1, h2, h3, h4 xs q.1, h5 ys q.2⟩
/-- the heads, as they are written -/
abbrev headsV : List V := headsL.map fun l => V.str (S l)
theorem linesOf_len : ∀ (j : Nat) (W : List (List Sy)), (linesOf j W).length = W.length
  | _, [] => rfl
  | j, w :: r => congrArg (· + 1) (linesOf_len (j + 1) r)
theorem linesOf_at : ∀ (j : Nat) (W : List (List Sy)) (i : Nat) (w : List Sy), W[i]? = some w → (linesOf j W)[i]? = some (lineOf (j + i) w)
  | j, v :: r, 0, w, h => by
    cases h
    rfl
  | j, v :: r, i + 1, w, h => by
    have := linesOf_at (j + 1) r i w h
    show (linesOf (j + 1) r)[i]? = _
    rw [this, show j + 1 + i = j + (i + 1) by omega]
theorem good_let {ws : List (List Sy)} {st w : List Sy} (hg : GoodBook ws st) (h : w ∈ st :: ws) : (∀ s ∈ w, letOk 8 s = true) ∧ w.length ≤ 40 := by
  have gw : Good ws.length 40 w := by
    rcases List.mem_cons.mp h with e | e
    · rw [e]; exact hg.start
    · exact hg.words w e
  refine ⟨fun s hs => ?_, gw.len⟩
  cases s with
  | l k =>
    have := gw.lets k hs
    have := hg.few
    exact decide_eq_true (by omega)
  | _ => rfl
section
variable {P : Program} {w : World} {K : PySem.W.Frag} {mg : Str → Option Value} {base : Heap}
theorem ok_textof {f : Addr} {fd : FuncData} {k : Nat} {tL : Tok} (F : Fun K "text_of_word" "text_of_word" s_text_of_word f fd) (mI : mg "isinstance" = none) (mS : mg "str" = none) (mL : mg "LETTERS" = some (.str "abcdefgh" tL)) : FnOk P w K mg base CX0 (k + 1) f fd ["word"] (spTextOf K) := by
  refine F.ok sc_text_of_word (fun vs H Q E h => ?_) (fun cdv A outer s H vs Q E hr h => ?_)
  · obtain ⟨t, w, rfl, _⟩ := h
    rfl
  · obtain ⟨t, wd, rfl, ht, hl, hz, q⟩ := h
    have nd := sc_text_of_word.nd
    refine ⟨_, pss_one (ps_ret (pe_join pe_str (pe_lc (own := [("part", 1)]) (g := gName 1) (tt := tYes) (te := tSgn 1) rfl nd (pi_tup (pv 0)) (blkOk_by (N := n_text_of_word) (sc := defScope s_text_of_word) (by decide +kernel))
      (fun _ _ _ _ _ => pg_name (i := 1) nd rfl (Or.inl rfl)) (fun _ _ _ _ _ => pts_nil)
      (fun _ _ _ _ _ => pimp (tSgn 1) (pe_ifExp (pt_val (pis "str" (by decide +kernel) mI mS (pv 1))) (pv 1) (pe_item_str (pe_glob (v := .str "abcdefgh") rfl mL ⟨_, rfl⟩) (pv 1) (fun _ _ => rfl))) ?sg)))), ?_⟩
    case sg =>
      rintro σ H Q ⟨s, hs, hl, q⟩
      obtain ⟨tn, tb, ht, hk, htb⟩ := ty_sy (K := K) (H := H) s
      refine ⟨_, hs, s.v, tn, tb, rfl, ht, hk, tb, rfl, ?_⟩
      cases e : isL s with
      | false =>
        rw [htb, e]
        refine iteT ⟨_, hs, ?_⟩
        rw [sv_sign e]
        exact q
      | true =>
        rw [htb, e]
        cases s with
        | l k =>
          have hk8 : k < 8 := of_decide_eq_true hl
          refine iteF ⟨_, hs, _, (k : Int), 97 + k, rfl, rfl, by omega, by omega, ?_, ?_, q⟩
          · show (k : Int) < ((Str.ofString "abcdefgh").length : Nat)
            rw [show (Str.ofString "abcdefgh").length = 8 by decide +kernel]
            omega
          · rw [Int.toNat_natCast]; exact abc_at hk8
        | _ => cases e
    dsimp only [tRet, tM1, tCons]
    refine ⟨⟨_, rfl⟩, _, rfl, t, rfl, ⟨_, ht⟩, fun D nD => ?_⟩
    refine lc_tup (K := K) (a := t) (xs := wv wd) (fun i H' => Same H H' ∧ H' D = some (.lst (((ones (txW (wd.take i))).map S).map V.str))) ⟨same_upd nD, upd_same⟩ (fun i H' _ h => sTup h.1 ht) ?_ ?_
    · rintro i x H1 hx ⟨S1, hD⟩
      obtain ⟨s, hs, rfl⟩ := wv_get hx
      have hi : i < wd.length := (List.getElem?_eq_some_iff.mp hs).1
      refine ⟨rfl, s, rfl, hl s (List.mem_of_getElem? hs), _, hD, ?_, sPut S1 nD, ?_⟩
      · unfold ones txW
        rw [List.length_map, List.length_map, List.length_map, List.length_map, List.length_take, sizeLine_eq]; omega
      · rw [upd_same, take_more hs]
        unfold ones txW
        rw [List.map_append, List.map_append, List.map_append, List.map_append]
        rfl
    · rintro H1 ⟨S1, hD⟩
      have e0 : (Str.ofString "") = S [] := by decide +kernel
      rw [List.length_map, List.take_length] at hD
      have lt : (txW wd).length = wd.length := by unfold txW; rw [List.length_map]
      refine ⟨_, D, _, rfl, rfl, .inl (SqL.of hD), ?_, ?_⟩
      · rw [lens, e0, S_len, ones_sum, lt]
        show _ + _ * 0 ≤ _
        omega
      · rw [e0, join_S, joinL_nil', ones_flat]
        exact q H1 S1
theorem ok_write {f : Addr} {fd : FuncData} {k : Nat} {aH : Addr} (F : Fun K "write_book" "write_book" s_write_book f fd) (GC : Got P w K mg base "check_book" k ["value"] spCheckBook) (GT : Got P w K mg base "text_of_word" k ["word"] (spTextOf K))
    (mH : mg "HEADS" = some (.ref aH)) (hH : ∀ H, SqT K H aH headsV) (mZ : mg "zip" = none) : FnOk P w K mg base CX0 (k + 1) f fd ["book"] spWrite := by
  refine F.ok sc_write_book (fun vs H Q E h => ?_) (fun cdv A outer s H vs Q E hr h => ?_)
  · obtain ⟨b, ws, st, rfl, _⟩ := h
    rfl
  · obtain ⟨b, ws, st, rfl, hb, hg, q⟩ := h
    have nd := sc_write_book.nd
    refine ⟨_, pss_cons (ps_expr (pcall GC hr (pa_cons (pv 0) pa_nil)))
      (pss_cons (ps_asg (pv 0) (pg_tup (by rfl) (pgs_cons (pg_name (i := 1) nd rfl (.inl rfl)) (pgs_cons (pg_name (i := 2) nd rfl (.inl rfl)) pgs_nil))))
      (pss_one (ps_ret (pe_join pe_str (pe_lc (own := [("head", 3), ("word", 4)]) (g := gTup K 2 (gCons (gName 3) (gCons (gName 4) gNil))) (tt := tYes) (te := tLineW K) rfl nd
        (RZ.pi_zipA rfl mZ (pa_cons (pe_glob (v := .ref aH) rfl mH rfl) (pa_cons (pe_op op_catT (ptupN (pa_cons (pv 2) pa_nil)) (pv 1)) pa_nil))) (blkOk_by (N := n_write_book) (sc := defScope s_write_book) (by decide +kernel))
        (fun _ _ _ _ _ => pg_tup (by rfl) (pgs_cons (pg_name (i := 3) nd rfl (Or.inl rfl)) (pgs_cons (pg_name (i := 4) nd rfl (Or.inl rfl)) pgs_nil))) (fun _ _ _ _ _ => pts_nil)
        (fun _ _ _ _ _ => pimp (tLineW K) (pe_joined (PJ.cons (pe_fmt (pv 3)) (PJ.cons pe_str (PJ.cons (pe_fmt (pcall GT hr (pa_cons (pv 4) pa_nil))) PJ.nil)))) ?ln)))))), ?_⟩
    case ln =>
      rintro σ H Q ⟨l, t, w, h3, h4, ht, hl, hz, hll, q⟩
      have e1 : Str.empty ++ S l = S l := S_cat [] l
      have e2 : S l ++ Str.ofString " " = S (l ++ [32]) := by rw [show Str.ofString " " = S [32] by decide +kernel, S_cat]
      have lw : (txW w).length = w.length := by unfold txW; rw [List.length_map]
      refine ⟨_, h3, .inl ⟨_, rfl, by rw [S_len, sizeLine_eq]; omega, S l, rfl, by rw [e1, S_len, sizeLine_eq]; omega, Str.ofString " ", rfl, ?_, ?_⟩⟩
      · rw [e1, e2, S_len, List.length_append, sizeLine_eq]; show l.length + 1 ≤ _; omega
      rw [e1, e2]
      refine ⟨_, h4, t, w, rfl, ht, hl, hz, fun H' S' => .inl ⟨_, rfl, by rw [S_len, lw, sizeLine_eq]; omega, S (txW w), rfl, ?_, ?_⟩⟩
      · rw [S_cat, S_len, List.length_append, List.length_append, lw, sizeLine_eq]; show l.length + 1 + w.length ≤ _; omega
      · rw [S_cat, List.append_assoc]
        exact q H' S'
    refine ⟨_, rfl, b, ws, st, rfl, hb, hg, fun H1 S1 => ?_⟩
    obtain ⟨p, pq, as, h1, h2, h3, h4⟩ := hb
    have el := h4.length
    refine ⟨_, rfl, b, _, rfl, SqT.of (S1 _ _ h1), rfl, _, _, rfl, _, _, rfl, rfl, ?_⟩
    dsimp only [tRet, tM1, tCons]
    refine ⟨⟨_, rfl⟩, ?_⟩
    refine ⟨_, rfl, szl 1, fun H2 ta S2 n2 e2 => ⟨_, rfl, ta, p, _, _, rfl, rfl, SqT.of e2, SqT.of (S2 _ _ (S1 _ _ h2)), List.cons_ne_nil _ _, ?_, ?_, fun _ tb nb => ?_⟩⟩
    · rw [List.length_map, el, sizeLine_eq]; have := hg.few; show 1 + _ ≤ _; omega
    · intro z
      rw [List.map_eq_nil_iff] at z
      rw [z] at el
      have := hg.one
      rw [List.length_nil] at el
      omega
    have S02 := S1.trans S2
    have S3 : Same H (upd H2 tb (.tup ([V.ref pq] ++ as.map V.ref))) := sUpd S02 nb
    have hB : (upd H2 tb (.tup ([V.ref pq] ++ as.map V.ref))) tb = some (.tup ((pq :: as).map V.ref)) := upd_same
    generalize upd H2 tb (.tup ([V.ref pq] ++ as.map V.ref)) = H3 at S3 hB
    have W3 : Words H3 (pq :: as) (st :: ws) := .cons (h3.same S3) (Paired.mono (fun a q e => WdAt.same e S3) h4)
    have few := hg.few
    have wz := walk_zipT (K := K) (a := aH) (b := tb) (xs := headsV) (ys := (pq :: as).map V.ref) (n := ws.length + 1) (by rw [List.length_map, List.length_map, List.length_cons, el]; show _ = min 9 _; omega)
    refine ⟨aH, tb, headsV, _, rfl, .inr ⟨hH H3, SqT.of hB, fun D nD => ?_⟩⟩
    refine lc_it wz (fun i H' => Same H3 H' ∧ H' D = some (.lst ((((linesOf 0 (st :: ws)).take i).map S).map V.str))) ⟨same_upd nD, upd_same⟩ (fun i H' _ h => ⟨hH H', SqT.of (h.1 _ _ hB)⟩) ?_ ?_
    · rintro i x H4 H5 hi ⟨S4, hD⟩ ⟨T, x1, x2, rfl, nT, rfl, g1, g2⟩
      have g1 : headsV[i]? = some x1 := g1
      have g2 : ((pq :: as).map V.ref)[i]? = some x2 := g2
      rw [List.getElem?_map, head_at (by omega)] at g1
      cases g1
      rw [List.getElem?_map] at g2
      obtain ⟨ai, hai, rfl⟩ : ∃ a, (pq :: as)[i]? = some a ∧ x2 = V.ref a := by
        cases e : (pq :: as)[i]? with
        | none => rw [e] at g2; cases g2
        | some a => rw [e] at g2; exact ⟨a, rfl, (Option.some.inj g2).symm⟩
      have hw : (st :: ws)[i]? = some ((st :: ws)[i]'(by rw [List.length_cons]; exact hi)) := List.getElem?_eq_getElem _
      generalize (st :: ws)[i]'(by rw [List.length_cons]; exact hi) = wi at hw
      obtain ⟨a', ha', hwt⟩ := paired_get W3 hw
      rw [hai] at ha'
      cases ha'
      obtain ⟨gl, gz⟩ := good_let hg (List.mem_of_getElem? hw)
      have S5 : Same H3 (upd H4 T (.tup [V.str (S (headsL.getD i [])), V.ref ai])) := sUpd S4 nT
      have hD5 : (upd H4 T (.tup [V.str (S (headsL.getD i [])), V.ref ai])) D = _ := same_upd nT _ _ hD
      refine ⟨T, _, rfl, SqT.of upd_same, rfl, _, _, rfl, _, _, rfl, rfl, rfl, headsL.getD i [], ai, wi, rfl, rfl, (hwt.same S5).sq, gl, by omega, ?_, fun H6 S6 => ⟨_, S6 _ _ hD5, ?_, sPut (S5.trans S6) nD, ?_⟩⟩
      · have : ∀ j : Fin 9, (headsL.getD j.1 []).length ≤ 1000 := by decide
        exact this ⟨i, by omega⟩
      · rw [List.length_map, List.length_map, List.length_take, sizeLine_eq]; omega
      · have hli := linesOf_at 0 (st :: ws) i wi hw
        rw [Nat.zero_add] at hli
        rw [upd_same, take_more hli, List.map_append, List.map_append]
        rfl
    · rintro H4 ⟨S4, hD⟩
      have ll := linesOf_len 0 (st :: ws)
      rw [List.length_cons] at ll
      rw [← ll, List.take_length] at hD
      have e10 : Str.ofString "\n" = S [10] := by decide +kernel
      refine ⟨_, D, _, rfl, rfl, .inl (SqL.of hD), ?_, ?_⟩
      · rw [lens, e10, S_len, List.length_map, ll]
        have : ∀ (W : List (List Sy)) (j : Nat), (∀ w ∈ W, w.length ≤ 40) → ((linesOf j W).map List.length).sum ≤ 46 * W.length := by
          intro W
          induction W with
          | nil => intro j _; exact Nat.zero_le _
          | cons w r ih =>
            intro j h
            have i1 := ih (j + 1) (fun x hx => h x (List.mem_cons_of_mem _ hx))
            have i2 := h w List.mem_cons_self
            show (lineOf j w).length + ((linesOf (j + 1) r).map List.length).sum ≤ _
            have h5 : (headsL.getD j []).length ≤ 5 := by
              by_cases hj : j < 9
              · have : ∀ i : Fin 9, (headsL.getD i.1 []).length ≤ 5 := by decide
                exact this ⟨j, hj⟩
              · rw [List.getD_eq_getElem?_getD, List.getElem?_eq_none (by show 9 ≤ j; omega)]
                exact Nat.zero_le _
            unfold lineOf txW
            rw [List.length_append, List.length_cons, List.length_map, List.length_cons]
            omega
        have := this (st :: ws) 0 fun w hw => (good_let hg hw).2
        rw [List.length_cons] at this
        show ((linesOf 0 (st :: ws)).map List.length).sum + (ws.length + 1) * 1 ≤ 16777216
        omega
      · rw [e10, join_S]
        exact q H4 (S3.trans S4)
end
end SK
/-! an error of the program's own whose making begins with super: its making, its field -/
namespace SK
open PySem PySem.Spec PyProof.Rows L2
open PySem.W PySem.Calls PySem.HandSPX
/-- what is written of the class and of its __init__ -/
structure BlTxt (P : Program) (K : Frag) (mg : Str → Option Value) (C fI : Addr) : Prop where
  gC : mg "BadLine" = some (.ref C)
  gS : mg "super" = none
  cls : ∃ nm q N bs bm sn sub ab col dd k0 k1 k2 k3 k5, K.lookup C = some (excClassObj nm q C N bs bm true sn sub ab col dd k0 k1 k2 k3 k5 "ValueError.__new__") ∧ refsVE bm = true
  sa : findIn K (.ref C) "__setattr__" = some (some (.builtin "object.__setattr__"))
  ga : findIn K (.ref C) "__getattribute__" = some (some (.builtin "BaseException.__getattribute__"))
  gg : findIn K (.ref C) "__getattr__" = some none
  noN : findIn K (.ref C) "line" = some none
  noW : findIn K (.ref C) "word" = some none
  iC : findIn K (.ref C) "__init__" = some (some (.ref fI))
  tC : typeIn K (.ref fI) = some (.type "function")
  kC : keepIn K (.ref C) = true
  exC : subIn K (.ref C) (.type "BaseException") = some true
  veC : subIn K (.ref C) (.type "ValueError") = some true
  tyC : typeIn K (.ref C) = some (.type "type")
  hdC : hasDictIn K C = true
  sup : ks_superIn K C C "__init__" = some (some (.builtin "ValueError.__init__"))
  own : mroIn K C (.ref C) = some true
  opq : nsIn K cStatics "thirdparty.any" = some none
  top : (P.main.scope.names.lookup ("super" : Str)).isSome = false
  fn : ∃ (oc : Value) (od : Option Addr) (doc pm : Value) (an : Option Addr) (cda : Addr) (ct : Value) (cc : Addr) (osl : Array (Option Value)),
    K.lookup fI = some ⟨oc, od, .func (ksFn "__init__" "BadLine.__init__" (defArgs s_BadLine_init) (defBody s_BadLine_init) (defScope s_BadLine_init) .none .none doc pm an (.ref cda) ct cc), osl⟩ ∧ codeIn K (.ref cda) "BadLine.__init__" = true ∧
    (∃ ccl cdd vs ccs file tf, K.lookup cda = some ⟨ccl, cdd, .fields vs, ccs⟩ ∧ vs[2]? = some (.str file tf) ∧ ((P.main.file : Str) == file) = true) ∧ ∃ cl cld csl, K.lookup cc = some ⟨cl, cld, .cell (some (.ref C)), csl⟩
/-- what the making leaves of a fresh one at x -/
structure BlEnd (h h' : Heap) (x C dx : Addr) (v v2 : Value) : Prop where
  keep : ∀ b o, b ≠ x → h.get? b = some o → h'.get? b = some o
  obj : ∃ t1 : Addr, h'.get? x = some { cls := .ref C, dict := some dx, data := .fields #[.ref t1, .none, .none, .none, .bool false, .none] }
  dbig : h.objs.size ≤ dx
  dne : dx ≠ x
  ns : h'.Ns1 dx (fun y => if y = "word" then some v2 else if y = "line" then some v else none)
section
variable {prog : Program} {w : World} {A : Around} {R : Result → Shared → Prop} {s : Shared} {K : Frag} {mg : Str → Option Value} {C fI : Addr}
theorem bl_cw {M : Model} {E : Value → Shared → Prop} {pos : Pos} {env : Env} {e : Expr} {rest : List Expr} {u x : Addr} {i : String} {Q : Value → Shared → Prop}
    (h : wpAny M A (spliced (backTo pos (starEach (e :: rest) env))) (fun vs s₁ => KxsAt i u x s₁.heap ∧ wpAny M A (call (.ref u) vs) Q E s₁) E s)
    (he : starEach (e :: rest) env = (false, eval e env) :: starEach rest env := by rfl) (hplain : (backTo pos (starEach rest env)).any (·.1) = false := by rfl) :
    wpAny M A (callWith pos (.ref u) [] (backTo pos (starEach (e :: rest) env)) []) Q E s := by
  rw [he] at h ⊢
  refine kxs_callWith (i := i) (x := x) (by show (false || (backTo pos (starEach rest env)).any (·.1)) = false; rw [hplain]; rfl) ?_
  exact evalArgs_plain h
theorem bl_call {E : Value → Shared → Prop} {h : Heap} {g : Array GenState} {d : PySem.Drawn} {tk : Nat} {os : OsState} {nm q : Str} {N : Addr} {bs bm : List Value} {hdct : Bool} {sn : List Str} {sub : List Value} {ab : Bool} {col : Option Bool} {dd : Option Addr} {k0 k1 k2 k3 k5 : Option Value}
    {u x t : Addr} {rest : List Value} {Q : Value → Shared → Prop} (hC : h.get? C = some (excClassObj nm q C N bs bm hdct sn sub ab col dd k0 k1 k2 k3 k5 "ValueError.__new__")) (he : h.get? x = some (excO C t)) (hu : h.get? u = some (kxs_mw "ValueError.__init__" x)) (hz : rest.length ≤ sizeLine)
    (hq : ∀ h' t', (∀ b o, b ≠ x → h.get? b = some o → h'.get? b = some o) → h'.get? x = some (excO C t') → Q .none ⟨h', g, d, tk, os⟩) :
    wpAny (model prog w) A (call (.ref u) rest) Q E ⟨h, g, d, tk, os⟩ := by
  refine wpAny_call (codeAny_of_tree ?_)
  show wpAny _ A.in1 (callAny (.ref u) ⟨rest, []⟩) _ _ _
  simp only [callAny]
  refine wpAny_bind (wpAny_load hu ?_)
  simp only [kxs_mw, show (Value.type "method-wrapper" == Value.type "method" || Value.type "method-wrapper" == Value.type "builtin_function_or_method" || Value.type "method-wrapper" == Value.type "method-wrapper") = true by decide, if_true]
  refine KFB.if_so (by decide) ?_
  refine wpAny_bind (check_bound_init PySem.F.excBase_ValueError.toExcCallFacts hC he rfl ?_)
  refine wpAny_bind (wpAny_pure (wpAny_pure ?_))
  refine ⟨plainId_quiet PySem.F.excBase_ValueError.init.plain _, codeAny_builtin PySem.F.excBase_ValueError.initEntry ?_⟩
  exact exc_init_tree (cls := .ref C) (t0 := t) (dv := none) (c2 := .none) (c3 := .none) (b4 := .bool false) he hz fun h' k e _ => hq h' _ k e
theorem bl_init (T : BlTxt prog K mg C fI) {x t0 : Addr} {i j : Int} {t tj : Tok} (X : K.In s.heap) (hlim : s.heap.NoLimit) (hns : s.heap.Ns mainGlobals mg) (hbl : ∃ mb, s.heap.Ns builtinsNs mb ∧ ∀ x : Str, x ≠ "__name__" → mb x = bootBuiltins x)
    (hx : s.heap.get? x = some (excO C t0)) (hnx : K.lookup x = none) (hroom : A.depth < recursionLimit) (hi : i.natAbs.log2 < 1920) (hj : j.natAbs.log2 < 1920) (hl : (Str.empty ++ (Str.ofString "line ") ++ (toString i : Str) ++ (Str.ofString ", word ") ++ (toString j : Str)).length ≤ sizeLine)
    (hq : ∀ h' tk dx, BlEnd s.heap h' x C dx (.int i t) (.int j tj) → R (.ok (.ret .none)) { s with heap := h', toks := tk }) :
    codeAny (model prog w) A (.call (.ref fI) ⟨[.ref x, .int i t, .int j tj], []⟩) R s := by
  obtain ⟨oc, od, doc, pm, an, cda, ct, cc, osl, ho, hcd, ⟨ccl, cdd, vs, ccs, file, tf, hcode, hvs, hfile⟩, cl, cld, csl, hcell⟩ := T.fn
  obtain ⟨nm, q, N, bs, bm, sn, sub, ab, col, dd, k0, k1, k2, k3, k5, hC, hbm⟩ := T.cls
  have hcl : clsIn K C = some { name := nm, bases := bs, mro := .ref C :: bm, ns := N, qualname := q, hasDict := true, slotNames := sn, subclasses := sub, abstract := ab, collection := col, hasDel := false } := by unfold clsIn; rw [hC] <;> rfl
  obtain ⟨hp, g, dr, tk0, os⟩ := s
  refine ks_codeAny_call_defAt (fd := ksFn "__init__" "BadLine.__init__" (defArgs s_BadLine_init) (defBody s_BadLine_init) (defScope s_BadLine_init) .none .none doc pm an (.ref cda) ct cc) (body := defBody s_BadLine_init) (binds := [("self", .ref x), ("line", .int i t), ("word", .int j tj)]) hroom (X _ _ ho) rfl hlim (codeRec_of X hcd) rfl
    (BindsTo.of_eq (by first | rfl | with_unfolding_all rfl)) (by show ∀ x ∈ (defScope s_BadLine_init).names, x.2 ≠ .cell; decide +kernel) (fun y hy => by
      rcases List.mem_cons.mp hy with rfl | hy
      · rfl
      · rcases List.mem_cons.mp hy with rfl | hy
        · rfl
        · rw [List.mem_singleton.mp hy]; rfl) (fun h₁ hn k => ?_) rfl rfl rfl
  have hxL : hp.objs.size ≠ x := Nat.ne_of_gt (Heap.lt_size hx)
  have X₁ : K.In h₁ := X.keeps k
  have hx₁ := k _ _ hx
  obtain ⟨mb, hb1, hb2⟩ := hbl
  refine ks_wpAt_execs_cons (ks_wpAt_Expr_any (ks_wpAt_MethodCall ?_))
  refine ks_wpAt_super_base (f := fI) (cc := cda) rfl rfl rfl rfl (X₁ _ _ ho) rfl rfl rfl (X₁ _ _ hcode) rfl hvs hfile T.top ?_
  refine ks_loadName_global rfl rfl (loadGlobal_builtin (hns.keeps k) T.gS (hb1.keeps k) ((hb2 _ (by decide +kernel)).trans (by decide +kernel : bootBuiltins "super" = some (.type "super"))) ⟨rfl, ?_⟩)
  refine wpAny_loadName_free rfl rfl rfl ⟨_, X₁ _ _ hcell, rfl⟩ ?_
  refine wpAny_loadName_local rfl rfl hn (by first | rfl | with_unfolding_all rfl) ?_
  refine ks_wpAny_isType_cls (X₁ _ _ hC) rfl ⟨rfl, ?_⟩
  refine ks_wpAny_call_super (X₁ _ _ hC) rfl hx₁ rfl (fun c e => by cases e) (looks_mroIn X₁ T.own) (fun h₂ e2 k2 => ?_)
  have X₂ : K.In h₂ := X₁.keeps k2
  have hx₂ := k2 _ _ hx₁
  have I₂ : InstAt h₂ x (excO C t0) C none := ⟨hx₂, rfl, rfl, trivial⟩
  have hsup := T.sup
  unfold ks_superIn at hsup
  rw [hcl] at hsup
  refine kxs_getMethod kxs_ValueError e2 (looks_opaque X₂ T.opq) (l₀ := .ref C :: bm) (fun A Q E s k q => wpAny_bind ((looks_clsIn X₂ hcl) A _ E s k (wpAny_pure q))) rfl X₂ hsup (I₂.type.andThen (looks_subIn X₂ T.veC)) (ks_ne X₂ I₂ hcl) rfl ?_
  have N₃ : ∀ b o, h₂.get? b = some o → (h₂.push (kxs_mw "ValueError.__init__" x)).get? b = some o := fun b o e => Heap.get?_push_of_some _ e
  have hu₃ : (h₂.push (kxs_mw "ValueError.__init__" x)).get? h₂.objs.size = some (kxs_mw "ValueError.__init__" x) := Heap.get?_push_at rfl rfl
  have k3 : ∀ b o, hp.get? b = some o → (h₂.push (kxs_mw "ValueError.__init__" x)).get? b = some o := fun b o e => N₃ _ _ (k2 _ _ (k _ _ e))
  have kL : ∀ o, h₁.get? hp.objs.size = some o → (h₂.push (kxs_mw "ValueError.__init__" x)).get? hp.objs.size = some o := fun o e => N₃ _ _ (k2 _ _ e)
  have hn3 : (h₂.push (kxs_mw "ValueError.__init__" x)).Ns hp.objs.size (fun y => ([("self", .ref x), ("line", .int i t), ("word", .int j tj)] : List (Str × Value)).reverse.lookup y) := by
    obtain ⟨o, es, ep, e1, r⟩ := hn
    exact ⟨o, es, ep, kL _ e1, r⟩
  have hx₃ := N₃ _ _ hx₂
  generalize h₂.push (kxs_mw "ValueError.__init__" x) = h₃ at N₃ hu₃ k3 kL hn3 hx₃ ⊢
  show wpAny _ _ (callWith _ (.ref h₂.objs.size) [] (backTo _ (starEach [_] _)) []) _ _ _
  refine bl_cw (i := "ValueError.__init__") (x := x) (Calls.spliced_cons (wpAny_JoinedStr (pos := jp_BadLine_init) ?_))
  have ll : ∀ a b : Str, (a ++ b).length ≤ sizeLine → a.length ≤ sizeLine := fun a b h => by
    rw [TL.len_tl, TL.tl_append, List.length_append] at h
    rw [TL.len_tl]
    omega
  have l3 := ll _ _ hl
  have l2 := ll _ _ l3
  refine Calls.Constant_str ⟨_, _, rfl, ?_, ?_⟩
  · rw [sizeLine_eq]; decide +kernel
  refine wpAny_FormattedValue_plain (wpAny_Name (wpAny_loadName_local rfl rfl hn3 (by first | rfl | with_unfolding_all rfl) ?_) (by decide))
  refine wpAny_formatField_int hi ⟨_, _, rfl, l2, ?_⟩
  refine Calls.Constant_str ⟨_, _, rfl, l3, ?_⟩
  refine wpAny_FormattedValue_plain (wpAny_Name (wpAny_loadName_local rfl rfl hn3 (by first | rfl | with_unfolding_all rfl) ?_) (by decide))
  refine wpAny_formatField_int hj ⟨_, _, rfl, hl, ?_⟩
  refine ⟨hl, Calls.spliced_nil ⟨hu₃, ?_⟩⟩
  refine bl_call (k3 _ _ (X _ _ hC)) hx₃ hu₃ (by show 1 ≤ sizeLine; rw [sizeLine_eq]; decide) fun h₄ t4 k4 hx₄ => ?_
  have X₄ : K.In h₄ := fun a o e => k4 a o (fun z => by rw [z, hnx] at e; cases e) (k3 _ _ (X _ _ e))
  have hn4 : h₄.Ns hp.objs.size (fun y => ([("self", .ref x), ("line", .int i t), ("word", .int j tj)] : List (Str × Value)).reverse.lookup y) := by
    obtain ⟨o, es, ep, e1, r⟩ := hn3
    exact ⟨o, es, ep, k4 _ _ hxL e1, r⟩
  refine wpAt_of_wpAny (wpAny_execs_cons (plainObj_wpAny_Assign_Attribute ?_))
  refine wpAny_Name (wpAny_loadName_local rfl rfl hn4 (by first | rfl | with_unfolding_all rfl) ?_) (by decide)
  refine wpAny_Name (wpAny_loadName_local rfl rfl hn4 (by first | rfl | with_unfolding_all rfl) ?_) (by decide)
  refine set_plain X₄ (ox := excO C t4) (od := none) ⟨hx₄, rfl, rfl, trivial⟩ T.sa ?_
  refine exc_osa X₄ hx₄ hcl (show refsVE (.ref C :: bm) = true from hbm) rfl T.noN (fun h₅ tk₅ dx k₅ dn dne hx₅ hn₅ => ?_)
  have X₅ : K.In h₅ := fun a o e => k₅ a o (fun z => by rw [z, hnx] at e; cases e) (X₄ _ _ e)
  have hn5 : h₅.Ns hp.objs.size (fun y => ([("self", .ref x), ("line", .int i t), ("word", .int j tj)] : List (Str × Value)).reverse.lookup y) := by
    obtain ⟨o, es, ep, e1, r⟩ := hn4
    exact ⟨o, es, ep, k₅ _ _ hxL e1, r⟩
  have z := hn4.lt
  have dL : hp.objs.size ≠ dx := Nat.ne_of_lt (Nat.lt_of_lt_of_le z dn)
  obtain ⟨oD, esD, epD, hoD, hdD, _⟩ := hn₅.count (Within.cons "line" (.int i t) Within.nil)
  refine wpAny_execs_cons (plainObj_wpAny_Assign_Attribute ?_)
  refine wpAny_Name (wpAny_loadName_local rfl rfl hn5 (by first | rfl | with_unfolding_all rfl) ?_) (by decide)
  refine wpAny_Name (wpAny_loadName_local rfl rfl hn5 (by first | rfl | with_unfolding_all rfl) ?_) (by decide)
  refine set_plain X₅ (ox := { cls := .ref C, dict := some dx, data := .fields #[.ref t4, .none, .none, .none, .bool false, .none] }) (od := some oD) ⟨hx₅, rfl, rfl, hoD⟩ T.sa ?_
  refine PySem.OEX.osa_old X₅ hx₅ hn₅ (Within.cons "line" (.int i t) Within.nil) (by decide) hcl (show refsVE (.ref C :: bm) = true from hbm) rfl T.noW (fun h₆ tk₆ k₆ hn₆ => ?_)
  refine wpAny_execs_nil (hq h₆ tk₆ dx ⟨fun b o hb e => ?_, ⟨t4, k₆ _ _ (Ne.symm dne) hx₅⟩, Nat.le_of_lt (Nat.lt_of_lt_of_le z dn), dne, hn₆⟩)
  exact k₆ b o (Nat.ne_of_lt (Nat.lt_of_lt_of_le (Heap.lt_size e) (Nat.le_trans (Nat.le_of_lt z) dn))) (k₅ b o hb (k4 b o hb (k3 b o e)))
end
end SK
namespace SK
open PySem PySem.Spec PyProof.Rows L2
/-- what isinstance asks of the class of an error -/
structure IsTxt (K : PySem.W.Frag) (C : Addr) : Prop where
  ha : PySem.W.findIn K (.ref C) "__class__" = some (some (.builtin "object.__class__"))
  hn : PySem.W.specialIn K (.builtin "object.__class__") "__get__" = some (some (.builtin "getset_descriptor.__get__"))
  ht : PySem.W.takesIn K (.builtin "object.__class__") = some true
  hm : PySem.W.mroIn K C (.type "object") = some true
  kit : PySem.W.kitOne K (.ref C) (.ref C) = some true
end SK
namespace SK
open PySem PySem.Spec PyProof.Rows L2
open PySem.W PySem.Calls PySem.HandSPX
/-- a made one at e, its dict at d -/
structure BlMade (h h' : Heap) (e C d : Addr) (v v2 : Value) : Prop where
  keep : ∀ b o, h.get? b = some o → h'.get? b = some o
  new : h.objs.size ≤ e
  obj : ∃ oe vs, h'.get? e = some oe ∧ oe.cls = .ref C ∧ oe.dict = some d ∧ oe.data = .fields vs ∧ vs[1]? = some .none ∧ vs[2]? = some .none
  dbig : h.objs.size ≤ d
  dne : d ≠ e
  ns : h'.Ns1 d (fun y => if y = "word" then some v2 else if y = "line" then some v else none)
section
variable {prog : Program} {w : World} {A : Around} {R : Result → Shared → Prop} {s : Shared} {K : Frag} {mg : Str → Option Value} {C fI : Addr}
theorem bl_made (T : BlTxt prog K mg C fI) {i j : Int} {t tj : Tok} (X : K.In s.heap) (hlim : s.heap.NoLimit) (hns : s.heap.Ns mainGlobals mg) (hbl : ∃ mb, s.heap.Ns builtinsNs mb ∧ ∀ x : Str, x ≠ "__name__" → mb x = bootBuiltins x) (hroom : A.depth + 1 < recursionLimit)
    (hi : i.natAbs.log2 < 1920) (hj : j.natAbs.log2 < 1920) (hl : (Str.empty ++ (Str.ofString "line ") ++ (toString i : Str) ++ (Str.ofString ", word ") ++ (toString j : Str)).length ≤ sizeLine)
    (hq : ∀ h' tk e d, BlMade s.heap h' e C d (.int i t) (.int j tj) → R (.ok (.ret (.ref e))) { s with heap := h', toks := tk }) : codeAny (model prog w) A (.call (.ref C) ⟨[.int i t, .int j tj], []⟩) R s := by
  obtain ⟨nm, q, N, bs, bm, sn, sub, ab, col, dd, k0, k1, k2, k3, k5, hC, hbm⟩ := T.cls
  obtain ⟨hp, g, dr, tk, os⟩ := s
  have k : ∀ b o, hp.get? b = some o → ((hp.push (kdv_tup [.int i t, .int j tj])).push (excO C hp.objs.size)).get? b = some o := fun b o e => Heap.get?_push_of_some _ (Heap.get?_push_of_some _ e)
  have hget : ((hp.push (kdv_tup [.int i t, .int j tj])).push (excO C hp.objs.size)).get? (hp.objs.size + 1) = some (excO C hp.objs.size) := by heap_get
  have hnx : K.lookup (hp.objs.size + 1) = none := by
    cases e : K.lookup (hp.objs.size + 1) with
    | none => rfl
    | some o => exact absurd (Nat.lt_of_succ_lt (Heap.lt_size (show hp.get? (hp.objs.size + 1) = some o from X _ _ e))) (Nat.lt_irrefl _)
  obtain ⟨mb, hb1, hb2⟩ := hbl
  refine call_own PySem.F.excBase_ValueError (fun Y => refsVE_contains Y bm hbm) (X _ _ hC) (looks_findIn X T.iC) (fun self => bind_fn X self T.tC) (by show 2 ≤ sizeLine; rw [sizeLine_eq]; decide) ?_
  refine bl_init (s := ⟨(hp.push (kdv_tup [.int i t, .int j tj])).push (excO C hp.objs.size), g, dr, tk, os⟩) T (X.keeps k) (hlim.keeps k) (hns.keeps k) ⟨mb, hb1.keeps k, hb2⟩ hget hnx hroom hi hj hl fun h' tk' dx M => ?_
  have old : ∀ b o, hp.get? b = some o → h'.get? b = some o := fun b o e => M.keep b o (Nat.ne_of_lt (Nat.lt_succ_of_lt (Heap.lt_size e))) (k b o e)
  have z : hp.objs.size + 1 + 1 ≤ dx := by
    have q := M.dbig
    first
      | exact q
      | (rw [Heap.size_push, Heap.size_push] at q; exact q)
  obtain ⟨t1, hx⟩ := M.obj
  exact ⟨rfl, hq h' tk' (hp.objs.size + 1) dx ⟨old, Nat.le_succ _, ⟨_, _, hx, rfl, rfl, rfl, rfl, rfl⟩, (by show hp.objs.size ≤ dx; omega), M.dne, M.ns⟩⟩
end
abbrev blF (i j : V) : List (Str × V) := [(("line" : Str), i), (("word" : Str), j)]
theorem relO_bl {v v2 : V} {u u2 : Value} (r : RelV v u) (r2 : RelV v2 u2) (f : Str) : RelO (List.lookup f (blF v v2)) (if f = "word" then some u2 else if f = "line" then some u else none) := by
  have ne : ¬ (("word" : Str) = "line") := by decide +kernel
  by_cases h : f = "word"
  · rw [if_pos h, h]
    have e : ((("word" : Str)) == ("line" : Str)) = false := by simpa using ne
    have e2 : List.lookup ("word" : Str) (blF v v2) = some v2 := by simp [List.lookup, e]
    rw [e2]
    exact r2
  · rw [if_neg h]
    have e : (f == ("word" : Str)) = false := by simpa using h
    by_cases h1 : f = "line"
    · rw [if_pos h1, h1]
      have e2 : List.lookup ("line" : Str) (blF v v2) = some v := by simp [List.lookup]
      rw [e2]
      exact r
    · rw [if_neg h1]
      have e1 : (f == ("line" : Str)) = false := by simpa using h1
      have e2 : List.lookup f (blF v v2) = none := by simp [List.lookup, e, e1]
      rw [e2]
      trivial
section
variable {X : Cx} {C fI : Addr}
/-- BadLine(i, j) -/
def tMkBl (C : Addr) (ta : TA) : L2.St → Hp → XK → Prop := fun σ H Q => ta σ H fun vs H1 => ∃ i j : Nat, vs = [.int i, .int j] ∧ i < 10 ^ 9 ∧ j < 10 ^ 9 ∧ ∀ d, H1 d = none → Q (.ref C) (some d) (upd H1 d (.xd (blF (.int i) (.int j))))
theorem pmk_bl {a a2 : Expr} {ta : TA} {p pos : Pos} {k : Nat} (T : BlTxt X.prog X.K X.mg C fI) (hr : Room k X.A) (ha : PA X [a, a2] ta) (hg : Gl X "BadLine" := by rfl)
    (he : starEach (a :: [a2]) X.env = (false, eval a X.env) :: starEach [a2] X.env := by rfl) (hpl : (backTo pos (starEach [a2] X.env)).any (·.1) = false := by rfl) :
    PMk X (.Call (.Name "BadLine" p) [a, a2] [] pos) (tMkBl C ta) := by
  intro pins s σ H Q I h
  refine wpAny_Call_Name_kw (ld_glob I hg T.gC ?_)
  refine PySem.W.callWith_K (h₀ := X.base) I.ok.mod.kin T.kC (thn (ha.run pos pins s σ H _ I h) fun us s1 hh => ?_) he hpl
  obtain ⟨vs, H1, I1, r1, i, j, ev, hi, hj, q1⟩ := hh
  subst ev
  refine ⟨I1.kIn, ?_⟩
  obtain ⟨v', v2, rfl, rv, rv2⟩ := vals2 r1
  obtain ⟨t, rfl⟩ := id rv
  obtain ⟨tj, rfl⟩ := id rv2
  have lg : ∀ n : Nat, n < 10 ^ 9 → ((n : Int)).natAbs.log2 < 1920 := fun n h => by
    have : (n : Int).natAbs = n := rfl
    rw [this]
    by_cases z : n = 0
    · rw [z]; decide
    · exact Nat.lt_trans ((Nat.log2_lt z).mpr (Nat.lt_trans h (by decide : 10 ^ 9 < 2 ^ 40))) (by decide)
  have ls : ∀ n : Nat, n < 10 ^ 9 → (toString (n : Int) : Str).length ≤ 9 := fun n h => PyProof.Rows.toString_length_le (by omega) (by decide) (by omega)
  have hl : (Str.empty ++ (Str.ofString "line ") ++ (toString (i : Int) : Str) ++ (Str.ofString ", word ") ++ (toString (j : Int) : Str)).length ≤ sizeLine := by
    have a1 := ls i hi
    have a2 := ls j hj
    rw [TL.len_tl] at a1 a2 ⊢
    rw [TL.tl_append, TL.tl_append, TL.tl_append, TL.tl_append, List.length_append, List.length_append, List.length_append, List.length_append, show (TL.tl Str.empty).length = 0 by decide +kernel, show (TL.tl (Str.ofString "line ")).length = 5 by decide +kernel, show (TL.tl (Str.ofString ", word ")).length = 7 by decide +kernel, sizeLine_eq]
    omega
  show wpAny _ _ (call (.ref C) [.int i t, .int j tj]) _ _ _
  have hlim := I1.nolimit
  obtain ⟨mb, hb1, hb2⟩ := I1.mod.blt
  have hns := I1.mod.glob.keeps I1.bk
  have hb1' := hb1.keeps I1.bk
  obtain ⟨hp, g, dr, tk, os⟩ := s1
  refine wpAny_call (bl_made T I1.kIn hlim hns ⟨mb, hb1', hb2⟩ (by have := hr.dp; omega) (lg i hi) (lg j hj) hl fun h' tk' e d M => ?_)
  show MkP X pins σ Q (.ref e) ⟨h', g, dr, tk', os⟩
  obtain ⟨oe, fv, hoe, hc, hd, hdat, h1, _⟩ := M.obj
  obtain ⟨G', g1, g2⟩ := restrict h' fun b => decide (b ≠ e)
  have gk : ∀ b, b ≠ e → G'.get? b = h'.get? b := fun b hb => g1 b (decide_eq_true hb)
  have ge : G'.get? e = none := g2 e (by simp)
  have old : ∀ b o, hp.get? b = some o → G'.get? b = some o := fun b o q => (gk b (Nat.ne_of_lt (Nat.lt_of_lt_of_le (Heap.lt_size q) M.new))).trans (M.keep b o q)
  have ob : ObjOk X.prog X.w (upd H1 d (.xd (blF (.int i) (.int j)))) G' d (.xd (blF (.int i) (.int j))) := ⟨_, M.ns.at (fun o q => (gk d M.dne).trans q), fun f => relO_bl rv rv2 f⟩
  have J : Inv X pins σ (upd H1 d (.xd (blF (.int i) (.int j)))) ⟨G', g, dr, tk', os⟩ := I1.laid (t' := tk') old M.dbig ob
  refine ⟨e, oe, fv, ⟨G', g, dr, tk', os⟩, _, .ref C, some d, rfl, J, fun b o q => ?_, ge, hoe, ⟨hc, hd⟩, hdat, h1, ?_, rfl, I1.bare, raises_own T.exC T.tyC, q1 d (I1.hok.fresh M.dbig)⟩
  · by_cases hb : b = e
    · rw [hb] at q
      exact absurd (show G'.get? e = some o from q) (by rw [ge]; exact fun z => nomatch z)
    · exact (gk b hb).symm.trans q
  · rw [upd_ne (Ne.symm M.dne)]
    exact I1.hok.fresh M.new
def tRaiseBl (C : Addr) (W : WX) (ta : TA) : TS := fun _ σ H => tMkBl C ta σ H fun cls d H' => W cls d σ H'
theorem ps_raiseBl {a a2 : Expr} {ta : TA} {W : WX} {p pos pos2 : Pos} {k : Nat} (hc : X.calm = true) (T : BlTxt X.prog X.K X.mg C fI) (hr : Room k X.A) (tk : Takes X W) (ha : PA X [a, a2] ta) (hg : Gl X "BadLine" := by rfl)
    (he : starEach (a :: [a2]) X.env = (false, eval a X.env) :: starEach [a2] X.env := by rfl) (hpl : (backTo pos (starEach [a2] X.env)).any (·.1) = false := by rfl) :
    PS X (.Raise (some (.Call (.Name "BadLine" p) [a, a2] [] pos)) none pos2) (tRaiseBl C W ta) := ps_raise hc tk (pmk_bl T hr ha hg he hpl)
/-- error.line, error.word: a field of the error that the suite holds at a -/
def tBlF (C : Addr) (a : Addr) (cls : Value) (d : Option Addr) (x : Str) (te : TE) : TE := fun σ H Q => te σ H fun y H1 => y = .ref a ∧ cls = .ref C ∧ ∃ (dd : Addr) (v1 v2 : V), d = some dd ∧ H1 dd = some (.xd (blF v1 v2)) ∧ Q (if x = "line" then v1 else v2) H1
theorem pe_blF {a : Addr} {oe : Obj} {cls : Value} {d : Option Addr} {pn : List (Addr × Obj)} {e : Expr} {te : TE} {pos : Pos} {x : Str} (hx : x = "line" ∨ x = "word") (T : BlTxt X.prog X.K X.mg C fI) (hz : Zc cls d oe) (hf : ∃ vs, oe.data = .fields vs) (he : PE (X.suite a ((a, oe) :: pn)) e te)
    (hb : attributeBase e x X.env (eval e X.env) = eval e X.env := by rfl) : PE (X.suite a ((a, oe) :: pn)) (.Attribute e x pos) (tBlF C a cls d x te) := by
  refine ⟨fun pins s σ H Q I h => ?_⟩
  refine attr_of hb (thn (he.run pins s σ H _ I h) fun u s1 hh => ?_)
  obtain ⟨y, H1, I1, rx, ex, ec, dd, v1, v2, ed, ea, q⟩ := hh
  subst ex ec ed
  obtain rfl : u = Value.ref a := rx
  obtain ⟨ha, _⟩ := I1.pin (a, oe) (List.mem_append_left _ List.mem_cons_self)
  obtain ⟨vs, hd⟩ := hf
  obtain ⟨mA, hns, hr⟩ := (show ObjOk X.prog X.w H1 s1.heap dd (.xd (blF v1 v2)) from I1.hok dd _ ea)
  obtain ⟨od, ho, hl⟩ := lookIn_ns hns
  have ne : ((("word" : Str)) == ("line" : Str)) = false := by decide +kernel
  have nf : ¬ (("word" : Str) = "line") := by decide +kernel
  have l : List.lookup x (blF v1 v2) = some (if x = "line" then v1 else v2) := by
    rcases hx with rfl | rfl
    · simp [List.lookup]
    · simp [List.lookup, ne, nf]
  obtain ⟨u, hu, ru⟩ := RelO.some_of (v := if x = "line" then v1 else v2) (o := mA x) (by rw [← l]; exact hr x)
  have J : PySem.W.InstAt s1.heap a oe C (some od) := ⟨ha, hz.1, by unfold PySem.W.notCls; rw [hd] <;> rfl, by rw [hz.2]; exact ho⟩
  have no : PySem.W.findIn X.K (.ref C) x = some none := by
    rcases hx with rfl | rfl
    · exact T.noN
    · exact T.noW
  exact HandSPX.exc_get I1.kIn J T.ga T.gg T.exC (PySem.W.findObj_own T.hdC no rfl (by rw [hl, hu])) (handed_of ru) ⟨_, H1, I1.tok _, ru, q⟩
end
end SK
/-! what may raise, where it doesn't; fields as targets; what stands when an instance is written -/
namespace SK
open PySem PySem.Spec PyProof.Rows L2
section
variable {P : Program} {w : World} {K : PySem.W.Frag} {mg : Str → Option Value} {base : Heap}
/-- a def that may raise lets nothing out where its promise has no way out -/
theorem cool {k : Nat} {f : Addr} {fd : FuncData} {ps : List Str} {sp sp0 : Sp} (F : FnOk P w K mg base (L2.CX P w) k f fd ps sp) (h : ∀ vs H Q E, sp0 vs H Q E → sp vs H Q E0) : FnOk P w K mg base CX0 k f fd ps sp0 :=
  ⟨fun vs H Q E z => F.len vs H Q E0 (h _ _ _ _ z), fun A outer s H args us vs Q E hr e0 b r z => codeAny_mono (F.run A outer s H args us vs Q E0 hr e0 b r (h _ _ _ _ z)) fun r s' hq => match r, hq with
    | .ok (.ret _), hq => hq
    | .ok .next, hq => hq
    | .ok .brk, hq => hq
    | .ok .cont, hq => hq
    | .error _, ⟨_, _, _, _, _, _, _, _, _, _, _, _, z⟩ => z⟩
end
def gFld (K : PySem.W.Frag) (to : TE) (f : Str) : TG := fun v σ H Q => to σ H fun o H1 => ∃ a C dx fs, o = .ref a ∧ H1 a = some (.ins C dx fs) ∧ Cls K C ∧ NoAttr K C f ∧ fs.length < 1000 ∧ Q σ (upd H1 a (.ins C dx (putF f v fs)))
theorem pg_fld {X : Cx} {o : Expr} {f : Str} {to : TE} {pos : Pos} (ho : PE X o to)
    (ha : ∀ v, assign (.Attribute o f pos) X.env v = (do
      let ov ← holding [v] (eval o X.env)
      standAt pos.atName
      holding [v, ov] (setAttr ov f v)
      release [v, ov] []) := by intro _; rfl) : PG X (.Attribute o f pos) (gFld X.K to f) := by
  refine ⟨fun pins s σ H v u Q I r h => ?_⟩
  rw [ha]
  refine wpAny_bind (wpAny_holding (thn (ho.run pins s σ H _ I h) fun ov s1 ⟨x, H1, I1, r1, a, C, dx, fs, ex, ea, c, n, l, q⟩ => ?_))
  subst ex
  obtain rfl : ov = Value.ref a := r1
  refine wpAny_bind (wpAny_standAt (wpAny_bind (wpAny_holding (setattr_ok I1 ea c n l r fun s3 I3 => ?_))))
  exact wpAny_release ⟨σ, _, I3, q⟩
theorem lk0 {f : Str} {v : V} {l : List (Str × V)} : List.lookup f ((f, v) :: l) = some v := by simp [List.lookup]
theorem lkS {f g : Str} {v : V} {l : List (Str × V)} (h : ¬ f = g) : List.lookup f ((g, v) :: l) = List.lookup f l := by
  have e : (f == g) = false := by simpa using h
  simp [List.lookup, e]
theorem putF_new {f : Str} {v : V} : ∀ {fs : List (Str × V)}, (∀ p ∈ fs, ¬ p.1 = f) → putF f v fs = fs ++ [(f, v)]
  | [], _ => rfl
  | (g, u) :: fs, h => by
    show (if g = f then _ else (g, u) :: putF f v fs) = _
    rw [if_neg (h (g, u) List.mem_cons_self), putF_new fun p hp => h p (List.mem_cons_of_mem _ hp)]
    rfl
/-- all that is no instance stands -/
def KeepI (H H' : Hp) : Prop := ∀ c o, (∀ C dx fs, o ≠ .ins C dx fs) → H c = some o → H' c = some o
theorem KeepI.of {H H' : Hp} (s : Same H H') : KeepI H H' := fun c o _ e => s c o e
theorem KeepI.trans {H H' H2 : Hp} (a : KeepI H H') (b : KeepI H' H2) : KeepI H H2 := fun c o n e => b c o n (a c o n e)
theorem KeepI.ins {H : Hp} {p C dx : Addr} {fs : List (Str × V)} {o : HO} (h : H p = some (.ins C dx fs)) : KeepI H (upd H p o) := fun c u n e => by
  have z : c ≠ p := fun z => by
    rw [z, h] at e
    exact n C dx fs (Option.some.inj e).symm
  rw [upd_ne z]
  exact e
theorem KeepI.tup {H H' : Hp} (k : KeepI H H') : TupS H H' := ⟨fun b xs e => k b _ (fun _ _ _ z => nomatch z) e, fun b o u e => k b _ (fun _ _ _ z => nomatch z) e⟩
theorem KeepI.lst {H H' : Hp} (k : KeepI H H') {b : Addr} {xs : List V} (e : H b = some (.lst xs)) : H' b = some (.lst xs) := k b _ (fun _ _ _ z => nomatch z) e
theorem KeepI.dK {H H' : Hp} (k : KeepI H H') {b : Addr} {kvs : List (Key × V)} (e : H b = some (.dK kvs)) : H' b = some (.dK kvs) := k b _ (fun _ _ _ z => nomatch z) e
end SK
/-! defs that may raise -/
namespace SK
open PySem PySem.Spec PyProof.Rows L2
/-- a def that may raise -/
structure GotX (P : Program) (w : World) (K : PySem.W.Frag) (mg : Str → Option Value) (base : Heap) (x : Str) (k : Nat) (ps : List Str) (sp : Sp) : Prop where
  ex : ∃ (f : Addr) (fd : FuncData), FnOk P w K mg base (L2.CX P w) k f fd ps sp ∧ mg x = some (.ref f) ∧ PySem.W.keepIn K (.ref f) = true ∧ Binds K fd ps []
theorem pcallX {X : Cx} {W : WX} {x : Str} {k : Nat} {ps : List Str} {sp : Sp} {e : Expr} {es : List Expr} {t : TA} {p pos : Pos} (G : GotX X.prog X.w X.K X.mg X.base x k ps sp) (hr : Room k X.A) (tk : Takes X W) (ha : PA X (e :: es) t) (hg : Gl X x := by rfl)
    (hdb : (x == ("__debug__" : Str)) = false := by decide)
    (he : starEach (e :: es) X.env = (false, eval e X.env) :: starEach es X.env := by rfl) (hpl : (backTo pos (starEach es X.env)).any (·.1) = false := by rfl) : PE X (.Call (.Name x p) (e :: es) [] pos) (tCallS sp (WE W) t) := by
  obtain ⟨f, fd, F, a, b, c⟩ := G.ex
  exact pe_callS F hr hg a b c (fun σ => passAt tk σ) ha hdb he hpl
theorem GotX.mono {P : Program} {w : World} {K : PySem.W.Frag} {mg : Str → Option Value} {base : Heap} {x : Str} {j k : Nat} {ps : List Str} {sp : Sp} (g : GotX P w K mg base x j ps sp) (h : j ≤ k) : GotX P w K mg base x k ps sp := by
  obtain ⟨f, fd, F, a, b, c⟩ := g.ex
  exact ⟨f, fd, F.mono h, a, b, c⟩
/-- .. and lets nothing out -/
theorem GotX.cool {P : Program} {w : World} {K : PySem.W.Frag} {mg : Str → Option Value} {base : Heap} {x : Str} {k : Nat} {ps : List Str} {sp sp0 : Sp} (g : GotX P w K mg base x k ps sp) (h : ∀ vs H Q E, sp0 vs H Q E → sp vs H Q E0) : Got P w K mg base x k ps sp0 := by
  obtain ⟨f, fd, F, a, b, c⟩ := g.ex
  exact ⟨f, fd, SK.cool F h, a, b, c⟩
end SK
namespace SK
open PySem PySem.Spec PyProof.Rows L2 SX
/-! a word told by a text, the words of a line, a line read -/
def NewWd (w : List Sy) (H : Hp) (Q : VK) : Prop := ∀ (H' : Hp) (p : Addr), Same H H' → H p = none → WdAt H' p w → Q (.ref p) H'
def spWordOf : Sp := fun vs H Q _ => ∃ t : List Nat, vs = [.str (S t)] ∧ t.length ≤ 1000000 ∧ (match wdOf t with
  | none => ∀ H', Same H H' → Q .non H'
  | some w => NewWd w H Q)
def spWordsL : Sp := fun vs H Q _ => ∃ t : List Nat, vs = [.str (S t)] ∧ t.length ≤ 1000000 ∧ ∀ (H' : Hp) (p : Addr), Same H H' → H p = none → H' p = some (.lst ((wordsL t).map fun l => V.str (S l))) → Q (.ref p) H'
def ErrBL (C : Addr) (i j : Nat) (H : Hp) (E : XK) : Prop := ∀ (H' : Hp) (d : Addr), Same H H' → H d = none → H' d = some (.xd (blF (.int i) (.int j))) → E (.ref C) (some d) H'
theorem ErrBL.keep {C : Addr} {i j : Nat} {H H' : Hp} {E : XK} (s : Same H H') (h : ErrBL C i j H E) : ErrBL C i j H' E := fun H2 d s2 n e => h H2 d (s.trans s2) (s.free n) e
def spReadLn (K : PySem.W.Frag) (C : Addr) : Sp := fun vs H Q E => ∃ (l h : Addr) (ws : List (List Nat)) (n : Nat) (hd : Option (List Nat)), vs = [.ref l, .int n, .ref h] ∧ SqL K H l (ws.map fun x => V.str (S x)) ∧ SqT K H h (hd.toList.map fun x => V.str (S x)) ∧ ws ≠ [] ∧ (∀ x ∈ ws, x.length ≤ 1000000) ∧ n < 10 ^ 8 ∧
  (match readLn ws hd with
  | .inl k => ErrBL C n k H E
  | .inr w => NewWd w H Q)
theorem abcs_in (c : Nat) : c ∈ (Str.ofString "abcdefgh" ++ Str.ofString "+-[]").cps.toList ↔ (cSy c).isSome = true := by
  have e : (Str.ofString "abcdefgh" ++ Str.ofString "+-[]").cps.toList = [97, 98, 99, 100, 101, 102, 103, 104, 43, 45, 91, 93] := by decide +kernel
  rw [e]
  simp only [List.mem_cons, List.not_mem_nil, or_false]
  unfold cSy
  constructor
  · intro h
    split
    · rfl
    · split
      · rfl
      · split
        · rfl
        · split
          · rfl
          · rw [if_pos (by omega)]; rfl
  · intro h
    by_cases h1 : c = 43
    · omega
    · by_cases h2 : c = 45
      · omega
      · by_cases h3 : c = 91
        · omega
        · by_cases h4 : c = 93
          · omega
          · rw [if_neg h1, if_neg h2, if_neg h3, if_neg h4] at h
            by_cases h5 : 97 ≤ c ∧ c ≤ 104
            · omega
            · rw [if_neg h5] at h; cases h
theorem signs_in (c : Nat) (s : Sy) (h : cSy c = some s) : (c ∈ (Str.ofString "+-[]").cps.toList ↔ isL s = false) ∧ sgC s = c ∧ letOk 8 s = true := by
  have e : (Str.ofString "+-[]").cps.toList = [43, 45, 91, 93] := by decide +kernel
  rw [e]
  simp only [List.mem_cons, List.not_mem_nil, or_false]
  unfold cSy at h
  by_cases h1 : c = 43
  · rw [if_pos h1] at h; cases h; exact ⟨⟨fun _ => rfl, fun _ => .inl h1⟩, h1.symm, rfl⟩
  rw [if_neg h1] at h
  by_cases h2 : c = 45
  · rw [if_pos h2] at h; cases h; exact ⟨⟨fun _ => rfl, fun _ => .inr (.inl h2)⟩, h2.symm, rfl⟩
  rw [if_neg h2] at h
  by_cases h3 : c = 91
  · rw [if_pos h3] at h; cases h; exact ⟨⟨fun _ => rfl, fun _ => .inr (.inr (.inl h3))⟩, h3.symm, rfl⟩
  rw [if_neg h3] at h
  by_cases h4 : c = 93
  · rw [if_pos h4] at h; cases h; exact ⟨⟨fun _ => rfl, fun _ => .inr (.inr (.inr h4))⟩, h4.symm, rfl⟩
  rw [if_neg h4] at h
  by_cases h5 : 97 ≤ c ∧ c ≤ 104
  · rw [if_pos h5] at h
    cases h
    refine ⟨⟨fun z => by omega, fun z => by cases z⟩, ?_, decide_eq_true (by omega)⟩
    show 97 + (c - 97) = c
    omega
  · rw [if_neg h5] at h; cases h
theorem occ_abc {k : Nat} (h : k < 8) : Builtin.Str.occurrences (Str.ofString "abcdefgh") (S [97 + k]) 0 (Str.ofString "abcdefgh").length 1 = k :: [] := by
  have : ∀ i : Fin 8, Builtin.Str.occurrences (Str.ofString "abcdefgh") (S [97 + i.1]) 0 (Str.ofString "abcdefgh").length 1 = [i.1] := by decide +kernel
  exact this ⟨k, h⟩
def tInAbc (i : Nat) : TE := fun σ H Q => ∃ c : Nat, σ[i]? = some (some (.str (S [c]))) ∧ Q (.bl (cSy c).isSome) H
def tToSy (i : Nat) : TE := fun σ H Q => ∃ (c : Nat) (s : Sy), σ[i]? = some (some (.str (S [c]))) ∧ cSy c = some s ∧ Q s.v H
def tTruI (K : PySem.W.Frag) (i : Nat) : TT := fun σ H Q => ∃ x, σ[i]? = some (some x) ∧ ∃ k, TruV K x H k ∧ Q k H
theorem fm_take {l : List Nat} {i c : Nat} {s : Sy} (h : l[i]? = some c) (e : cSy c = some s) : (l.take (i + 1)).filterMap cSy = (l.take i).filterMap cSy ++ [s] := by
  rw [take_more h, List.filterMap_append, List.filterMap_cons_some e, List.filterMap_nil]
theorem all_take {l : List Nat} {f : Nat → Bool} {i c : Nat} (h : l[i]? = some c) : ((l.take (i + 1)).map f) = ((l.take i).map f) ++ [f c] := by
  rw [take_more h, List.map_append]
  rfl
section
variable {P : Program} {w : World} {K : PySem.W.Frag} {mg : Str → Option Value} {base : Heap}
theorem ok_wordof {f : Addr} {fd : FuncData} {k : Nat} {tL tS t40 t8 : Tok} (F : Fun K "word_of_text" "word_of_text" s_word_of_text f fd) (GW : Got P w K mg base "is_word" k ["value", "many"] (spIsWordV K)) (ml : mg "len" = none) (mA : mg "all" = none) (mT : mg "tuple" = none)
    (m40 : mg "MOST_PARTS" = some (.int 40 t40)) (m8 : mg "MOST_LETTERS" = some (.int 8 t8)) (mL : mg "LETTERS" = some (.str "abcdefgh" tL)) (mS : mg "SIGNS" = some (.str "+-[]" tS)) : FnOk P w K mg base CX0 (k + 1) f fd ["text"] spWordOf := by
  refine F.ok sc_word_of_text (fun vs H Q E h => ?_) (fun cdv A outer s H vs Q E hr h => ?_)
  · obtain ⟨t, rfl, _⟩ := h
    rfl
  · obtain ⟨t, rfl, hz, q⟩ := h
    have nd := sc_word_of_text.nd
    refine ⟨_, pss_cons (ps_if (PW.pt (pw_or (pt_cmpR op_gt (pe_callB call_len (by rfl) ml boot_len (pa_cons (pv 0) pa_nil)) (pe_glob (v := .int 40) rfl m40 ⟨_, rfl⟩) (nomark _))
          (pw_or1 (pt_not (pt_val (pe_callB (cr_all rfl) (by rfl) mA (by decide +kernel) (pa_cons (pe_lc (own := [("sign", 2)]) (g := gName 2) (tt := tYes) (te := tInAbc 2) rfl nd (pi_str (pv 0)) (blkOk_by (N := n_word_of_text) (sc := defScope s_word_of_text) (by decide +kernel))
            (fun _ _ _ _ _ => pg_name (i := 2) nd rfl (Or.inl rfl)) (fun _ _ _ _ _ => pts_nil)
            (fun _ _ _ _ _ => pimp (tInAbc 2) (pe_cmpR op_in_sign (pv 2) (pe_op op_add_str (pe_glob (v := .str "abcdefgh") rfl mL ⟨_, rfl⟩) (pe_glob (v := .str "+-[]") rfl mS ⟨_, rfl⟩)) (by rfl)) ?t1)) pa_nil) (by decide) (by decide))))))) (pss_one (ps_ret pe_non)) pss_nil)
      (pss_cons (ps_set (i := 1) nd rfl (.inl rfl) (ptupleF mT (pe_lc (own := [("sign", 2)]) (g := gName 2) (tt := tYes) (te := tToSy 2) rfl nd (pi_str (pv 0)) (blkOk_by (N := n_word_of_text) (sc := defScope s_word_of_text) (by decide +kernel))
            (fun _ _ _ _ _ => pg_name (i := 2) nd rfl (Or.inl rfl)) (fun _ _ _ _ _ => pts_nil)
            (fun _ _ _ _ _ => pimp (tToSy 2) (pe_ifExp (pt_cmpR op_in_sign (pv 2) (pe_glob (v := .str "+-[]") rfl mS ⟨_, rfl⟩) (by rfl)) (pv 2)
              (pe_bm PySem.F.plainAttrs_str PySem.F.slot_str_index PySem.F.type_str_index mt_sindex (pe_glob (v := .str "abcdefgh") rfl mL ⟨_, rfl⟩) (pa_cons (pv 2) pa_nil))) ?t2))))
      (pss_one (ps_ret (pe_ifExp (pt_val (pcall GW hr (pa_cons (pv 1) (pa_cons (pe_glob (v := .int 8) rfl m8 ⟨_, rfl⟩) pa_nil)))) (pv 1) pe_non)))), ?_⟩
    case t1 =>
      rintro σ H Q ⟨c, hc, q⟩
      refine ⟨_, hc, _, _, rfl, rfl, by decide +kernel, c, _, rfl, rfl, ?_⟩
      have e : decide (c ∈ (Str.ofString "abcdefgh" ++ Str.ofString "+-[]").cps.toList) = (cSy c).isSome := by
        rw [Bool.eq_iff_iff, decide_eq_true_iff]
        exact abcs_in c
      show Q (.bl (decide (c ∈ (Str.ofString "abcdefgh" ++ Str.ofString "+-[]").cps.toList))) H
      rw [e]
      exact q
    case t2 =>
      rintro σ H Q ⟨c, s, hc, hs, q⟩
      obtain ⟨e1, e2, e3⟩ := signs_in c s hs
      refine ⟨_, hc, c, _, rfl, rfl, _, rfl, ?_⟩
      cases z : isL s with
      | false =>
        refine itY (e1.mpr z) ⟨_, hc, ?_⟩
        rw [sv_sign z, e2] at q
        exact q
      | true =>
        refine itN (fun h => by rw [e1.mp h] at z; cases z) ?_
        cases s with
        | l k =>
          have hk : k < 8 := of_decide_eq_true e3
          have e2 : 97 + k = c := e2
          subst e2
          refine ⟨rfl, _, hc, _, _, k, [], rfl, rfl, occ_abc hk, q⟩
        | _ => cases z
    refine ⟨_, rfl, _, _, rfl, ⟨by rw [S_len, sizeLine_eq]; omega, rfl⟩, _, _, rfl, rfl, _, rfl, ?_⟩
    rw [S_len]
    by_cases h40 : t.length ≤ 40
    case neg =>
      refine itY (show (40 : Int) < (t.length : Int) by omega) ?_
      rw [show wdOf t = none from by unfold wdOf; rw [if_neg (fun h => h40 h.1)]] at q
      exact q H (Same.refl H)
    refine itN (show ¬ (40 : Int) < (t.length : Int) by omega) ?_
    dsimp only [tNot, tB, tCB, tCons]
    have wk := walk_str (z := S t)
    have st : (S t).cps.size = t.length := by simp
    refine ⟨_, rfl, _, rfl, fun D nD => ?_⟩
    refine lc_it wk (fun i H' => Same H H' ∧ H' D = some (.lst (((t.take i).map fun c => (cSy c).isSome).map V.bl))) ⟨same_upd nD, upd_same⟩ (fun _ _ _ _ => trivial) ?_ ?_
    · rintro i x H1 H2 hi ⟨S1, hD⟩ ⟨rfl, c, hc, rfl⟩
      have hc : t[i]? = some c := by simpa using hc
      refine ⟨rfl, c, rfl, _, hD, ?_, sPut S1 nD, ?_⟩
      · rw [List.length_map, List.length_map, List.length_take, sizeLine_eq]; omega
      · rw [upd_same, all_take hc, List.map_append]; rfl
    · rintro H1 ⟨S1, hD⟩
      rw [st, List.take_length] at hD
      refine ⟨D, _, rfl, SqL.of hD, _, rfl, ?_⟩
      have ea : ((t.map fun c => (cSy c).isSome).all id) = t.all fun c => (cSy c).isSome := by rw [List.all_map]; rfl
      rw [ea]
      by_cases hall : t.all (fun c => (cSy c).isSome) = true
      case neg =>
        rw [show t.all (fun c => (cSy c).isSome) = false from by simpa using hall]
        refine iteT ?_
        rw [show wdOf t = none from by unfold wdOf; rw [if_neg (fun h => hall h.2)]] at q
        exact q H1 S1
      rw [hall]
      refine iteF ?_
      refine ⟨_, rfl, _, rfl, fun D2 nD2 => ?_⟩
      have wk := walk_str (z := S t)
      refine lc_it wk (fun i H' => Same H1 H' ∧ H' D2 = some (.lst (wv ((t.take i).filterMap cSy)))) ⟨same_upd nD2, upd_same⟩ (fun _ _ _ _ => trivial) ?_ ?_
      · rintro i x H2 H3 hi ⟨S2, hD2⟩ ⟨rfl, c, hc, rfl⟩
        have hc : t[i]? = some c := by simpa using hc
        have hs := List.all_eq_true.mp hall c (List.mem_of_getElem? hc)
        obtain ⟨s, hs⟩ := Option.isSome_iff_exists.mp hs
        refine ⟨rfl, c, s, rfl, hs, _, hD2, ?_, sPut S2 nD2, ?_⟩
        · have := List.length_filterMap_le cSy (t.take i)
          rw [List.length_take] at this
          rw [List.length_map, sizeLine_eq]; omega
        · rw [upd_same, fm_take hc hs]
          show some (HO.lst (wv ((t.take i).filterMap cSy) ++ [s.v])) = some (HO.lst (List.map Sy.v ((t.take i).filterMap cSy ++ [s])))
          rw [List.map_append]; rfl
      · rintro H2 ⟨S2, hD2⟩
        rw [st, List.take_length] at hD2
        refine ⟨D2, _, rfl, SqL.of hD2, fun H3 p o S3 n3 h3 ho => ?_⟩
        have hw : WdAt H3 p (t.filterMap cSy) := ⟨o, h3, ho⟩
        have S03 := (S1.trans S2).trans S3
        refine ⟨_, rfl, .ref p, 8, rfl, .inr ⟨p, _, rfl, hw.ty, hw.sq, ?_, _, rfl, ?_⟩⟩
        · intro x hx
          obtain ⟨s, _, rfl⟩ := List.mem_map.mp hx
          cases s <;> rfl
        rw [isWdV_wd]
        have np : H p = none := (S1.trans S2).free n3
        cases z : isWd 8 (t.filterMap cSy) with
        | true =>
          rw [show wdOf t = some (t.filterMap cSy) from by unfold wdOf; rw [if_pos ⟨h40, hall⟩, if_pos z]] at q
          exact iteT ⟨_, rfl, q H3 p S03 np hw⟩
        | false =>
          rw [show wdOf t = none from by unfold wdOf; rw [if_pos ⟨h40, hall⟩, if_neg (by rw [z]; exact Bool.false_ne_true)]] at q
          exact iteF (q H3 S03)
theorem ok_wordsl {f : Addr} {fd : FuncData} {k : Nat} (F : Fun K "words_of_line" "words_of_line" s_words_of_line f fd) : FnOk P w K mg base CX0 (k + 1) f fd ["line"] spWordsL := by
  refine F.ok sc_words_of_line (fun vs H Q E h => ?_) (fun cdv A outer s H vs Q E hr h => ?_)
  · obtain ⟨t, rfl, _⟩ := h
    rfl
  · obtain ⟨t, rfl, hz, q⟩ := h
    have nd := sc_words_of_line.nd
    refine ⟨_, pss_one (ps_ret (pe_lc (own := [("word", 1)]) (g := gName 1) (tt := tTruI K 1) (te := tVar 1) rfl nd (pi_list (pe_split (pv 0) pe_str)) (blkOk_by (N := n_words_of_line) (sc := defScope s_words_of_line) (by decide +kernel))
      (fun _ _ _ _ _ => pg_name (i := 1) nd rfl (Or.inl rfl)) (fun _ _ _ _ _ => pts_one (pt_truth (pv 1) (by intro _; rfl))) (fun _ _ _ _ _ => pv 1))), ?_⟩
    have e32 : Str.ofString " " = S [32] := by decide +kernel
    have esp : Txt.split (S t) (S [32]) = (TL.spl [32] 0 [] t).map S := split_S (by simp) (by decide)
    refine ⟨_, rfl, ⟨_, rfl⟩, _, _, rfl, rfl, by decide +kernel, by rw [S_len, sizeLine_eq]; omega, fun l nl => ?_⟩
    rw [e32, esp]
    have S1 : Same H (upd H l (.lst (((TL.spl [32] 0 [] t).map S).map V.str))) := same_upd nl
    have hl : (upd H l (.lst (((TL.spl [32] 0 [] t).map S).map V.str))) l = some (.lst (((TL.spl [32] 0 [] t).map S).map V.str)) := upd_same
    generalize upd H l (.lst (((TL.spl [32] 0 [] t).map S).map V.str)) = H1 at S1 hl
    have slen : ∀ (l acc : List Nat), (∀ p ∈ TL.spl [32] 0 acc l, p.length ≤ acc.length + l.length) ∧ (TL.spl [32] 0 acc l).length ≤ l.length + 1 := by
      intro l
      induction l with
      | nil => intro acc; exact ⟨fun p hp => by rw [show TL.spl [32] 0 acc [] = [acc] from rfl] at hp; rw [List.mem_singleton.mp hp]; exact Nat.le_add_right _ _, Nat.le_refl _⟩
      | cons c r ih =>
        intro acc
        by_cases h : TL.pre [32] (c :: r) = true
        · rw [TL.spl_hit h]
          obtain ⟨i1, i2⟩ := ih []
          refine ⟨fun p hp => ?_, by show (TL.spl [32] 0 [] r).length + 1 ≤ r.length + 1 + 1; omega⟩
          rcases List.mem_cons.mp hp with e | e
          · rw [e]; exact Nat.le_add_right _ _
          · have := i1 p e
            rw [List.length_nil] at this
            rw [List.length_cons]; omega
        · rw [TL.spl_miss (by simpa using h)]
          obtain ⟨i1, i2⟩ := ih (acc ++ [c])
          refine ⟨fun p hp => ?_, by rw [List.length_cons]; omega⟩
          have := i1 p hp
          rw [List.length_append, List.length_singleton] at this
          rw [List.length_cons]; omega
    obtain ⟨l1, l2⟩ := slen t []
    refine ⟨l, rfl, ⟨_, SqL.of hl⟩, fun D nD => ?_⟩
    refine lc_list (K := K) (a := l) (xs := ((TL.spl [32] 0 [] t).map S).map V.str) (fun i H' => Same H1 H' ∧ H' D = some (.lst ((((TL.spl [32] 0 [] t).take i).filter fun p => !p.isEmpty).map fun l => V.str (S l)))) ⟨same_upd nD, upd_same⟩ (fun i H' _ h => SqL.of (h.1 _ _ hl)) ?_ ?_
    · rintro i x H2 hx ⟨S2, hD⟩
      rw [List.getElem?_map, List.getElem?_map] at hx
      obtain ⟨p, hp, rfl⟩ : ∃ p, (TL.spl [32] 0 [] t)[i]? = some p ∧ x = V.str (S p) := by
        cases e : (TL.spl [32] 0 [] t)[i]? with
        | none => rw [e] at hx; cases hx
        | some p => rw [e] at hx; exact ⟨p, rfl, (Option.some.inj hx).symm⟩
      have lp := l1 p (List.mem_of_getElem? hp)
      rw [List.length_nil] at lp
      refine ⟨rfl, _, rfl, _, ⟨by rw [S_len, sizeLine_eq]; omega, rfl⟩, ?_⟩
      rw [S_len]
      have hi := (List.getElem?_eq_some_iff.mp hp).1
      rw [take_more hp, List.filter_append]
      cases p with
      | nil =>
        refine iteF ⟨S2, ?_⟩
        rw [show ([[]] : List (List Nat)).filter (fun p => !p.isEmpty) = [] from rfl, List.append_nil]
        exact hD
      | cons c r =>
        rw [show (((c :: r).length : Int) != 0) = true from by rw [List.length_cons]; simp; omega]
        refine iteT ⟨_, rfl, _, hD, ?_, sPut S2 nD, ?_⟩
        · have := List.length_filter_le (fun p => !p.isEmpty) ((TL.spl [32] 0 [] t).take i)
          rw [List.length_take] at this
          rw [List.length_map, sizeLine_eq]; omega
        · rw [upd_same, List.map_append]; rfl
    · rintro H2 ⟨S2, hD⟩
      rw [List.length_map, List.length_map, List.take_length] at hD
      exact q H2 D (S1.trans S2) (S1.free nD) hD
end
end SK
namespace SK
open PySem PySem.Spec PyProof.Rows L2
/-! ### enumerate(list, start=k) -/
section
variable {M : Model} {A : Around} {E : Value → Shared → Prop} {s : Shared} {env : Env}
theorem callWith_typeKw {pos : Pos} {T : String} {e : Expr} {rest : List Expr} {kws : List Keyword} {Q : Value → Shared → Prop}
    (h : wpAny M A (spliced (backTo pos (starEach (e :: rest) env))) (fun vs s₁ => wpAny M A (evalAll ((backToKw pos (keywordEach kws env)).map (·.2)))
      (fun kvs s₂ => wpAny M A (call (.type T) vs (((backToKw pos (keywordEach kws env)).filterMap (·.1)).zip kvs)) Q E s₂) E s₁) E s)
    (he : backTo pos (starEach (e :: rest) env) = (false, eval e env) :: backTo pos (starEach rest env) := by rfl)
    (hplain : (backTo pos (starEach (e :: rest) env)).any (·.1) = false := by rfl)
    (hall : (backToKw pos (keywordEach kws env)).all (·.1.isSome) = true := by rfl)
    (hkw : (backToKw pos (keywordEach kws env)).any (·.1.isNone) = false := by rfl) :
    wpAny M A (callWith pos (.type T) [] (backTo pos (starEach (e :: rest) env)) (backToKw pos (keywordEach kws env))) Q E s := by
  have h' : wpAny M A (evalArgs (.type T) true (backTo pos (starEach (e :: rest) env)) (backToKw pos (keywordEach kws env))) (fun a s₁ => wpAny M A (call (.type T) ([] ++ a.pos) a.kw) Q E s₁) E s := by
    rw [he] at h ⊢
    exact evalArgs_kwB hall h
  unfold callWith
  refine wpAny_bind (wpAny_holding (wpAny_mono h' (fun a s₁ h₁ => wpAny_bind (wpAny_standAt ?_)) fun _ _ x => x))
  simp only [hplain, hkw, Bool.or_false]
  refine wpAny_bind (wpAny_pure ?_)
  exact wpAny_bind (wpAny_mono h₁ (fun r s₂ hr => wpAny_bind (wpAny_holding (wpAny_point (wpAny_pure hr)))) fun _ _ x => x)
end
/-- the index of a turn begins at k0 -/
def IteS (K : PySem.W.Frag) (a : Addr) (k0 : Nat) : It where
  go := fun i H => ∃ (xs : List V) (x : V), SqL K H a xs ∧ xs[i]? = some x
  yld := fun i H v H' => ∃ (T : Addr) (x : V), v = .ref T ∧ H T = none ∧ H' = upd H T (.tup [.int ((k0 + i : Nat) : Int), x]) ∧ ∀ xs, SqL K H a xs → xs[i]? = some x
  stop := fun i H => ∃ xs : List V, SqL K H a xs ∧ xs.length = i
theorem turn_enumS {P : Program} {w : World} {K : PySem.W.Frag} {elts : List Expr} {kk : Nat} {tpos : Pos} {a e it : Addr} {k0 : Nat} (hea : a ≠ it) : Turn P w K (.Tuple elts kk tpos) (IteS K a k0) [e, it] e (fun i h => (∃ old, IsEnum h e it ((k0 + i : Nat) : Int) old) ∧ h.IsListIter it a i ∧ e ≠ it ∧ e ≠ a) := by
  refine ⟨List.mem_cons_self, ?obj, ?keep, ?item, ?done, ?self⟩
  case obj =>
    rintro i h ⟨⟨old, he⟩, ⟨o, ho, hc, hd⟩, _⟩ b hb
    rcases List.mem_cons.mp hb with rfl | hb
    · exact ⟨_, he, fun v q => nomatch q⟩
    · cases List.mem_singleton.mp hb
      exact ⟨o, ho, fun v q => by rw [hd] at q; cases q⟩
  case keep =>
    rintro i h h' ⟨⟨old, he⟩, hi, hne⟩ k
    exact ⟨⟨old, k e (by simp) _ he⟩, hi.at fun o q => k it (by simp) o q, hne⟩
  case self =>
    rintro A i s Q E ⟨⟨_, he⟩, _⟩ h
    exact wpAny_pyIter_enum he h
  case done =>
    intro X hP hw hK hc i pins s σ H E I hf st hg
    subst hP hw hK
    obtain ⟨⟨old, he⟩, hit, hne, hea'⟩ := st
    obtain ⟨xs, hq, hx⟩ := hg
    obtain ⟨its, rv, p, hz⟩ := I.list hq
    have hl := rv.length
    obtain ⟨f0, f1, f2, f3, f4, f5⟩ := hf it (by simp)
    have hh : X.A.in1.handled = none := I.ok.hd hc
    have hn : i = its.toArray.size := by rw [List.size_toArray]; omega
    subst hn
    exact wpAny_pyNext_enum_endD (Draws.list hh it a hea its.toArray) he ⟨hit, p.isList⟩ fun h' eb => ⟨rfl, I.turned (t' := s.toks) (fun b o hb q => eb b o hb q) f0 f1 f3 f4 f5⟩
  case item =>
    intro X hP hw hK hc i pins s σ H E I hf st hg
    subst hP hw hK
    obtain ⟨⟨old, he⟩, hit, hne, hea'⟩ := st
    obtain ⟨xs, x, hq, hx⟩ := hg
    obtain ⟨its, rv, p, hz⟩ := I.list hq
    obtain ⟨u, hu, ru⟩ := rv.get hx
    have hel : e < s.heap.objs.size := Heap.lt_size he
    have hil : it < s.heap.objs.size := by obtain ⟨_, q, _⟩ := hit; exact Heap.lt_size q
    have hi : i < its.toArray.size := by rw [List.size_toArray]; exact (List.getElem?_eq_some_iff.mp hu).1
    have hh : X.A.in1.handled = none := I.ok.hd hc
    refine wpAny_pyNext_enum_itemC (c := ((k0 + i : Nat) : Int)) (Draws.list hh it a hea its.toArray) he ⟨hit, p.isList⟩ hi hne (by simp [hne, hea']) fun x' h' tk hp ho hst hT hsz hk => ?_
    have ex : x' = u := Option.some.inj (hp.symm.trans (by simpa using hu))
    subst ex
    refine ⟨_, rfl, wpAny_letOwnedTupleGo_enum (s := { s with heap := h', toks := tk + 1 }) ho fun h2 he2 sb => ?_⟩
    have at2 : h2.get? s.heap.objs.size = some { cls := .type "tuple", data := .seq #[.int ((k0 + i : Nat) : Int) tk, x'] } := (sb.2 _ (Nat.ne_of_gt hel)).trans hT
    have laid : ObjOk X.prog X.w (upd H s.heap.objs.size (.tup [.int ((k0 + i : Nat) : Int), x])) h2 s.heap.objs.size (.tup [.int ((k0 + i : Nat) : Int), x]) := ⟨szl 2, [.int ((k0 + i : Nat) : Int) tk, x'], .cons ⟨_, rfl⟩ (.cons ru .nil), _, at2, rfl, _, rfl⟩
    have J : Inv X pins σ (upd H s.heap.objs.size (.tup [.int ((k0 + i : Nat) : Int), x])) { s with heap := h2, toks := tk + 1 } :=
      I.turnedNew (ch := [e, it]) (fun b ob hb q => (sb.2 b fun z => hb (by simp [z])).trans (hk b ob (fun z => hb (by simp [z])) (fun z => hb (by simp [z])) q)) hf (Nat.le_refl _) laid
    refine ⟨.ref s.heap.objs.size, _, J, rfl, ⟨_, x, rfl, I.hok.fresh (Nat.le_refl _), rfl, fun ys hy => ?_⟩, ⟨⟨x', ?_⟩, hst.1.at fun o q => (sb.2 it (Ne.symm hne)).trans q, hne, hea'⟩, fun b hb => ?_⟩
    · rw [I.list_inj hy hq]
      exact hx
    · have e1 : ((k0 + (i + 1) : Nat) : Int) = ((k0 + i : Nat) : Int) + 1 := by omega
      rw [e1]
      exact he2
    · have hb' : b < s.heap.objs.size := by
        rcases List.mem_cons.mp hb with z | z
        · rw [z]; exact hel
        · rw [List.mem_singleton.mp z]; exact hil
      rw [upd_ne (Nat.ne_of_lt hb')]
      exact (hf b hb).1
def iEnumS (K : PySem.W.Frag) (k0 : Nat) (ta : TA) : TI := fun σ H R => ta σ H fun vs H1 => ∃ a xs, vs = [.ref a] ∧ SqL K H1 a xs ∧ R (IteS K a k0) H1
theorem pi_enumS {X : Cx} {e : Expr} {ta : TA} {p pos tpos kp cp : Pos} {elts : List Expr} {kk j : Nat} {k0 : Nat} (hg : Gl X "enumerate") (hm : X.mg "enumerate" = none) (ha : PA X [e] ta) (hk : k0 < 2 ^ 62) (hs : starEach [e] X.env = [(false, eval e X.env)] := by rfl) :
    PI X (.Tuple elts kk tpos) (.Call (.Name "enumerate" p) [e] [⟨some "start", .Constant (.int (k0 : Int)) j cp, kp⟩] pos) (iEnumS X.K k0 ta) := by
  refine ⟨fun pins s σ H R I h => wpAny_Call_Name_kw (ld_blt I hg hm boot_enumerate (callWith_typeKw (thn (ha.run pos pins s σ H _ I h) fun us s1 ⟨vs, H1, I1, r1, q1⟩ => ?_) (by rw [hs]; rfl) (by rw [hs]; rfl)))⟩
  obtain ⟨a, xs, rfl, hq, q⟩ := q1
  rcases r1 with _ | ⟨r, rr⟩
  cases rr
  cases r
  obtain ⟨its, rv, p', hz⟩ := I1.list hq
  refine kws_cons (wpAny_Constant_int ?_)
  refine kws_nil ?_
  refine enum_begins_start (begins_list a its.toArray) p'.isList (by omega) (by omega) fun h' he hit hsz hk => wpAny_pyIter_enum he ?_
  have al : a < s1.heap.objs.size := p'.lt
  refine ⟨s1.heap.objs.size + 1, [s1.heap.objs.size + 1, s1.heap.objs.size], _, _, H1, rfl, I1.kept hk, turn_enumS (a := a) (e := s1.heap.objs.size + 1) (it := s1.heap.objs.size) (Nat.ne_of_lt al), ⟨⟨.none, he⟩, ⟨_, hit, rfl, rfl⟩, Nat.succ_ne_self _, Nat.ne_of_gt (Nat.lt_succ_of_lt al)⟩, fun b hb => ?_, q⟩
  have hle : s1.heap.objs.size ≤ b := by
    rcases List.mem_cons.mp hb with z | z
    · rw [z]; exact Nat.le_succ _
    · rw [List.mem_singleton.mp z]; exact Nat.le_refl _
  exact I1.fpOk hle (I1.hok.fresh hle)
theorem walk_enumS {K : PySem.W.Frag} {a : Addr} {xs : List V} {k0 : Nat} : Walk (IteS K a k0) xs.length (fun H => SqL K H a xs) (YPair (fun i => some (.int ((k0 + i : Nat) : Int))) (fun i => xs[i]?)) := by
  refine ⟨fun i _ hi q => ⟨xs, xs[i], q, by simp [hi]⟩, fun _ q => ⟨xs, q, rfl⟩, fun i H v H' _ q y => ?_⟩
  obtain ⟨T, x, h1, h2, h3, h4⟩ := y
  exact ⟨T, .int ((k0 + i : Nat) : Int), x, h1, h2, h3, rfl, h4 xs q⟩
end SK
namespace SK
open PySem PySem.Spec PyProof.Rows L2
def rSlTN (K : PySem.W.Frag) : V → Option Int → Option Int → Hp → VK → Prop := fun x lo hi H Q => ∃ a xs, x = .ref a ∧ SqT K H a xs ∧ ¬ (HT.sIx xs.length 0 lo = 0 ∧ HT.sIx xs.length xs.length hi = xs.length) ∧ New (.tup (cutV xs lo hi)) H Q
theorem sl_tupN {X : Cx} : SlR X (rSlTN X.K) := fun pins s σ H x v vl vu lo hi sl Q I rx hs pl pu ⟨a, xs, h1, h2, h3, h4⟩ => sl_tup pins s σ H x v vl vu lo hi sl Q I rx hs pl pu ⟨a, xs, h1, h2, h3, h4.ok⟩
end SK
namespace SK
open PySem PySem.Spec PyProof.Rows L2 SX
/-! a line read, a book read -/
theorem inV_heads {a : List Nat} {hd : Option (List Nat)} : inV (.str (S a)) (hd.toList.map fun x => V.str (S x)) = decide (hd = some a) := by
  cases hd with
  | none => rfl
  | some b =>
    show (eqV (.str (S b)) (.str (S a)) || false) = _
    rw [Bool.or_false]
    show (S b == S a) = _
    rw [S_beq_eq]
    rw [Bool.eq_iff_iff, decide_eq_true_iff, decide_eq_true_iff]
    constructor
    · intro h; rw [h]
    · intro h; exact Option.some.inj h
def toldV (as : List Addr) : List V := as.map V.ref
def Told (H : Hp) (as : List Addr) (tl : List (Nat × List Sy)) : Prop := Paired (fun a x => ∃ pa : Addr, H a = some (.tup [.int (x.1 : Nat), .ref pa]) ∧ WdAt H pa x.2) as tl
theorem Told.keep {H H' : Hp} {as : List Addr} {tl : List (Nat × List Sy)} (s : TupS H H') (h : Told H as tl) : Told H' as tl := Paired.mono (fun a x ⟨pa, h1, h2⟩ => ⟨pa, s.1 _ _ h1, s.wd h2⟩) h
def spReadBook (K : PySem.W.Frag) (C CT : Addr) : Sp := fun vs H Q E => ∃ v : V, vs = [v] ∧ ((∃ T, TyX K H v (.type T) ∧ kitB T "str" = some false ∧ E (.ref CT) none H) ∨
  ∃ t : List Nat, v = .str (S t) ∧ t.length ≤ 1000000 ∧ (match readB t with
    | .inl e => ErrBL C e.1 e.2 H E
    | .inr b => ∀ (H' : Hp) (p : Addr), Same H H' → H p = none → BookAt H' p b.1 b.2 → Q (.ref p) H'))
theorem spl_len : ∀ (s : Nat) (l acc : List Nat), (∀ p ∈ TL.spl [s] 0 acc l, p.length ≤ acc.length + l.length) ∧ (TL.spl [s] 0 acc l).length ≤ l.length + 1 := by
  intro s l
  induction l with
  | nil => intro acc; exact ⟨fun p hp => by rw [show TL.spl [s] 0 acc [] = [acc] from rfl] at hp; rw [List.mem_singleton.mp hp]; exact Nat.le_add_right _ _, Nat.le_refl _⟩
  | cons c r ih =>
    intro acc
    by_cases h : TL.pre [s] (c :: r) = true
    · rw [TL.spl_hit h]
      obtain ⟨i1, i2⟩ := ih []
      refine ⟨fun p hp => ?_, by show (TL.spl [s] 0 [] r).length + 1 ≤ r.length + 1 + 1; omega⟩
      rcases List.mem_cons.mp hp with e | e
      · rw [e]; exact Nat.le_add_right _ _
      · have := i1 p e
        rw [List.length_nil] at this
        rw [List.length_cons]; omega
    · rw [TL.spl_miss (by simpa using h)]
      obtain ⟨i1, i2⟩ := ih (acc ++ [c])
      refine ⟨fun p hp => ?_, by rw [List.length_cons]; omega⟩
      have := i1 p hp
      rw [List.length_append, List.length_singleton] at this
      rw [List.length_cons]; omega
theorem rd_snoc : ∀ (cs : List (List Nat)) (n : Nat) (told : List (Nat × List Sy)) (c : List Nat), rdLines n (cs ++ [c]) told = match rdLines n cs told with
    | .inl e => .inl e
    | .inr t => rdLines (n + cs.length) [c] t
  | [], n, told, c => rfl
  | x :: cs, n, told, c => by
    show rdLines n (x :: (cs ++ [c])) told = _
    unfold rdLines
    by_cases h : wordsL x = []
    · rw [if_pos h, if_pos h, rd_snoc cs (n + 1) told c, List.length_cons, show n + 1 + cs.length = n + (cs.length + 1) by omega]
      rfl
    · rw [if_neg h, if_neg h]
      cases readLn (wordsL x) headsL[told.length]? with
      | inl k => rfl
      | inr w =>
        dsimp only
        rw [rd_snoc cs (n + 1) _ c, List.length_cons, show n + 1 + cs.length = n + (cs.length + 1) by omega]
        rfl
/-- what a line makes of the whole: the lines ahead told so many -/
theorem rd_err : ∀ (cs : List (List Nat)) (n : Nat) (told : List (Nat × List Sy)) (r : List (List Nat)) (e : Nat × Nat), rdLines n cs told = .inl e → rdLines n (cs ++ r) told = .inl e
  | [], n, told, r, e, h => by cases h
  | x :: cs, n, told, r, e, h => by
    show rdLines n (x :: (cs ++ r)) told = _
    unfold rdLines at h ⊢
    by_cases z : wordsL x = []
    · rw [if_pos z] at h ⊢
      exact rd_err cs (n + 1) told r e h
    · rw [if_neg z] at h ⊢
      cases q : readLn (wordsL x) headsL[told.length]? with
      | inl k => rw [q] at h; exact h
      | inr w =>
        rw [q] at h
        exact rd_err cs (n + 1) _ r e h
theorem rd_len : ∀ (cs : List (List Nat)) (n : Nat) (told t : List (Nat × List Sy)), rdLines n cs told = .inr t → t.length ≤ told.length + cs.length
  | [], n, told, t, h => by cases h; exact Nat.le_refl _
  | x :: cs, n, told, t, h => by
    unfold rdLines at h
    rw [List.length_cons]
    by_cases z : wordsL x = []
    · rw [if_pos z] at h
      have := rd_len cs (n + 1) told t h
      omega
    · rw [if_neg z] at h
      cases q : readLn (wordsL x) headsL[told.length]? with
      | inl k => rw [q] at h; cases h
      | inr w =>
        rw [q] at h
        have := rd_len cs (n + 1) _ t h
        rw [List.length_append, List.length_singleton] at this
        omega
theorem bad_at : ∀ (m : Nat) (tl : List (Nat × List Sy)) (i : Nat), badLn m (tl.take i) = none → ∀ x, tl[i]? = some x → (isWd m x.2 = true → badLn m (tl.take (i + 1)) = none) ∧ (isWd m x.2 = false → badLn m tl = some x.1)
  | m, [], i, _, x, h => by cases h
  | m, y :: r, 0, _, x, h => by
    cases h
    refine ⟨fun z => ?_, fun z => ?_⟩
    · show badLn m [y] = none
      unfold badLn
      rw [if_pos z]; rfl
    · unfold badLn
      rw [if_neg (by rw [z]; exact Bool.false_ne_true)]
  | m, y :: r, i + 1, hb, x, h => by
    have hb : badLn m (y :: r.take i) = none := hb
    have h : r[i]? = some x := h
    unfold badLn at hb
    by_cases z : isWd m y.2 = true
    · rw [if_pos z] at hb
      obtain ⟨a, b⟩ := bad_at m r i hb x h
      refine ⟨fun e => ?_, fun e => ?_⟩
      · show badLn m (y :: r.take (i + 1)) = none
        unfold badLn
        rw [if_pos z]; exact a e
      · unfold badLn
        rw [if_pos z]; exact b e
    · rw [if_neg z] at hb; cases hb
section
variable {P : Program} {w : World} {K : PySem.W.Frag} {mg : Str → Option Value} {base : Heap}
theorem ok_readln {f : Addr} {fd : FuncData} {k : Nat} {C fI : Addr} (T : BlTxt P K mg C fI) (F : Fun K "read_line" "read_line" s_read_line f fd) (GW : Got P w K mg base "word_of_text" k ["text"] spWordOf) (ml : mg "len" = none) :
    FnOk P w K mg base (L2.CX P w) (k + 1) f fd ["words", "line", "heads"] (spReadLn K C) := by
  refine F.okX sc_read_line (fun vs H Q E h => ?_) (fun cdv A outer s H vs Q E hr h => ?_)
  · obtain ⟨l, h, ws, n, hd, rfl, _⟩ := h
    rfl
  · obtain ⟨l, h, ws, n, hd, rfl, hl, hh, hne, hz, hn, q⟩ := h
    have nd := sc_read_line.nd
    refine ⟨_, pss_cons (ps_if (pt_cmpR op_notIn_seq (pix (pv 0) pe_int) (pv 2) (by rfl)) (pss_one (ps_raiseBl rfl T hr (takes_of rfl rfl rfl rfl) (by exact (pa_cons (pv 1) (pa_cons pe_int pa_nil))))) pss_nil)
      (pss_cons (ps_set (i := 3) nd rfl (.inl rfl) (pe_ifExp (pt_cmpR op_gt (plen ml (pv 0)) pe_int (nomark _)) (pcall GW hr (pa_cons (pix (pv 0) pe_int) pa_nil)) pe_non))
      (pss_cons (ps_if (pt_cmpR op_isN (pv 3) pe_non (nomark _)) (pss_one (ps_raiseBl rfl T hr (takes_of rfl rfl rfl rfl) (by exact (pa_cons (pv 1) (pa_cons pe_int pa_nil))))) pss_nil)
      (pss_cons (ps_if (pt_cmpR op_gt (plen ml (pv 0)) pe_int (nomark _)) (pss_one (ps_raiseBl rfl T hr (takes_of rfl rfl rfl rfl) (by exact (pa_cons (pv 1) (pa_cons pe_int pa_nil))))) pss_nil)
      (pss_one (ps_ret (pv 3)))))), ?_⟩
    obtain ⟨a, r, rfl⟩ : ∃ a r, ws = a :: r := by cases ws with
      | nil => exact absurd rfl hne
      | cons a r => exact ⟨a, r, rfl⟩
    have bad : ∀ (j : Nat), j < 10 ^ 9 → readLn (a :: r) hd = .inl j → ∀ H1, Same H H1 → ∃ i j', [V.int n, V.int j] = [V.int (i : Nat), V.int (j' : Nat)] ∧ i < 10 ^ 9 ∧ j' < 10 ^ 9 ∧ ∀ d, H1 d = none → E (.ref C) (some d) (upd H1 d (.xd (blF (.int i) (.int j')))) := by
      intro j hj e H1 S1
      rw [e] at q
      exact ⟨n, j, rfl, by omega, hj, fun d hd => q _ d (sUpd S1 hd) (S1.free hd) upd_same⟩
    refine ⟨_, rfl, l, _, _, _, rfl, rfl, hl, at0, _, rfl, h, _, rfl, .inr hh, rfl, ?_, _, rfl, ?_⟩
    · cases hd <;> rfl
    show (if (!(inV (V.str (S a)) (hd.toList.map fun x => V.str (S x)))) = true then _ else _)
    rw [inV_heads]
    by_cases z1 : hd = some a
    case neg =>
      rw [decide_eq_false z1]
      exact iteT ⟨_, rfl, bad 1 (by decide) (by unfold readLn; exact if_neg z1) H (Same.refl H)⟩
    rw [decide_eq_true z1]
    refine iteF ?_
    have rl : readLn (a :: r) hd = (match (r[0]?).bind wdOf with | none => .inl 2 | some w => if 2 < (a :: r).length then .inl 3 else .inr w) := by
      unfold readLn
      exact if_pos z1
    refine ⟨_, rfl, l, _, rfl, .inl hl, _, _, rfl, rfl, _, rfl, ?_⟩
    rw [List.length_map]
    cases r with
    | nil =>
      refine itN (by show ¬ (1 : Int) < 1; omega) ⟨_, rfl, rfl, _, rfl, itY rfl ⟨_, rfl, bad 2 (by decide) (by rw [rl]; rfl) H (Same.refl H)⟩⟩
    | cons b r =>
      have rl : readLn (a :: b :: r) hd = (match wdOf b with | none => .inl 2 | some w => if 2 < (a :: b :: r).length then .inl 3 else .inr w) := rl
      refine itY (by show (1 : Int) < ((r.length + 1 + 1 : Nat) : Int); omega) ⟨_, rfl, l, _, _, _, rfl, rfl, hl, at1, b, rfl, hz b (by simp), ?_⟩
      cases e : wdOf b with
      | none =>
        intro H1 S1
        refine ⟨_, rfl, rfl, _, rfl, itY rfl ⟨_, rfl, bad 2 (by decide) (by rw [rl, e]) H1 S1⟩⟩
      | some wd =>
        intro H1 p S1 np hw
        refine ⟨_, rfl, rfl, _, rfl, itN (fun z => nomatch z) ⟨_, rfl, l, _, rfl, .inl (S1.seq hl), _, _, rfl, rfl, _, rfl, ?_⟩⟩
        rw [List.length_map]
        by_cases z3 : 2 < (a :: b :: r).length
        · exact itY (by omega) ⟨_, rfl, bad 3 (by decide) (by rw [rl, e]; dsimp only; rw [if_pos z3]) H1 S1⟩
        · refine itN (by omega) ⟨_, rfl, ?_⟩
          rw [rl, e] at q
          dsimp only at q
          rw [if_neg z3] at q
          exact q H1 p S1 np hw
theorem ok_readbook {f : Addr} {fd : FuncData} {k : Nat} {C fI CT aH : Addr} (T : BlTxt P K mg C fI) (F : Fun K "read_book" "read_book" s_read_book f fd) (GL : Got P w K mg base "words_of_line" k ["line"] spWordsL) (GR : GotX P w K mg base "read_line" k ["words", "line", "heads"] (spReadLn K C))
    (GW : Got P w K mg base "is_word" k ["value", "many"] (spIsWordV K)) (mI : mg "isinstance" = none) (mS : mg "str" = none) (mE : mg "enumerate" = none) (ml : mg "len" = none) (mT : mg "tuple" = none) (mH : mg "HEADS" = some (.ref aH)) (hH : ∀ H, SqT K H aH headsV)
    (xB : PySem.W.excIn K CT [.type "ValueError", .type "Exception", .type "BaseException", .type "object"] "ValueError.__new__" = true) (gB : mg "NotText" = some (.ref CT)) (kB : PySem.W.keepIn K (.ref CT) = true) (sB : PySem.W.subIn K (.ref CT) (.type "BaseException") = some true) (tB : PySem.W.typeIn K (.ref CT) = some (.type "type")) :
    FnOk P w K mg base (L2.CX P w) (k + 1) f fd ["text"] (spReadBook K C CT) := by
  refine F.okX sc_read_book (fun vs H Q E h => ?_) (fun cdv A outer s H vs Q E hr h => ?_)
  · obtain ⟨v, rfl, _⟩ := h
    rfl
  · obtain ⟨v, rfl, hh⟩ := h
    have nd := sc_read_book.nd
    refine ⟨_, pss_cons (ps_if (pt_not (pt_val (pis "str" (by decide +kernel) mI mS (pv 0)))) (pss_one (ps_raise rfl (takes_of rfl rfl rfl rfl) (pmk_own PySem.F.excBase_ValueError xB gB kB (raises_own sB tB) (by rfl)))) pss_nil)
      (pss_cons (ps_set (i := 1) nd rfl (.inl rfl) (pe_split (pv 0) pe_str))
      (pss_cons (ps_set (i := 2) nd rfl (.inl rfl) (plstN pa_nil))
      (pss_cons (ps_for (passes_of rfl) rfl (pi_enumS (k0 := 1) (by rfl) mE (pa_cons (pv 1) pa_nil) (by decide)) (pg_tup (by rfl) (pgs_cons (pg_name (i := 3) nd rfl (.inl rfl)) (pgs_cons (pg_name (i := 4) nd rfl (.inl rfl)) pgs_nil)))
        (pss_cons (ps_set (i := 5) nd rfl (.inl rfl) (pcall GL hr (pa_cons (pv 4) pa_nil)))
        (pss_one (ps_if (pt_truth (pv 5) (by intro _; rfl))
          (pss_cons (ps_set (i := 6) nd rfl (.inl rfl) (plen ml (pv 2)))
          (pss_one (sapp (pv 2) (ptupN (pa_cons (pv 3) (pa_cons (pcallX GR hr (takes_of rfl rfl rfl rfl) (pa_cons (pv 5) (pa_cons (pv 3) (pa_cons (pe_slice sl_tupN (pe_glob (v := .ref aH) rfl mH rfl) (po_some (pv 6)) (po_some (padd (pv 6) pe_int))) pa_nil)))) pa_nil)))))) pss_nil))))
      (pss_cons (ps_if (pt_cmpR op_lt (plen ml (pv 2)) pe_int (nomark _)) (pss_one (ps_raiseBl rfl T hr (takes_of rfl rfl rfl rfl) (by exact (pa_cons (padd (plen ml (pv 1)) pe_int) (pa_cons pe_int pa_nil))))) pss_nil)
      (pss_cons (ps_for (passes_of rfl) rfl (pi_list (pv 2)) (pg_tup (by rfl) (pgs_cons (pg_name (i := 3) nd rfl (.inl rfl)) (pgs_cons (pg_name (i := 7) nd rfl (.inl rfl)) pgs_nil)))
        (pss_one (ps_if (pt_not (pt_val (pcall GW hr (pa_cons (pv 7) (pa_cons (psub (plen ml (pv 2)) pe_int) pa_nil))))) (pss_one (ps_raiseBl rfl T hr (takes_of rfl rfl rfl rfl) (by exact (pa_cons (pv 3) (pa_cons pe_int pa_nil))))) pss_nil)))
      (pss_one (ps_ret (ptupN (pa_cons (ptupleN mT (pe_lc (own := [("_", 8), ("word", 7)]) (g := gTup K 2 (gCons (gName 8) (gCons (gName 7) gNil))) (tt := tYes) (te := tVar 7) rfl nd (pi_list (pe_slice sl_listN (pv 2) (po_some pe_int) po_none)) (blkOk_by (N := n_read_book) (sc := defScope s_read_book) (by decide +kernel))
          (fun _ _ _ _ _ => pg_tup (by rfl) (pgs_cons (pg_name (i := 8) nd rfl (Or.inl rfl)) (pgs_cons (pg_name (i := 7) nd rfl (Or.inl rfl)) pgs_nil))) (fun _ _ _ _ _ => pts_nil) (fun _ _ _ _ _ => pv 7)))
        (pa_cons (pixT (pix (pv 2) pe_int) pe_int) pa_nil)))))))))), ?_⟩
    rcases hh with ⟨Ty, hty, kty, e0⟩ | ⟨t, rfl, hz, q⟩
    · exact ⟨_, rfl, _, Ty, false, rfl, hty, kty, _, rfl, iteT e0⟩
    refine ⟨_, rfl, _, "str", true, rfl, ty_str _, by decide +kernel, _, rfl, iteF ?_⟩
    have e10 : Str.ofString "\n" = S [10] := by decide +kernel
    have esp : Txt.split (S t) (S [10]) = (TL.spl [10] 0 [] t).map S := split_S (by simp) (by decide)
    refine ⟨_, rfl, ⟨_, rfl⟩, _, _, rfl, rfl, by decide +kernel, by rw [S_len, sizeLine_eq]; omega, fun l nl => ?_⟩
    rw [e10, esp]
    obtain ⟨cs, ecs⟩ : ∃ cs, cs = TL.spl [10] 0 [] t := ⟨_, rfl⟩
    obtain ⟨lc1, lc2⟩ := spl_len 10 t []
    have q : (match (match rdLines 1 cs [] with
      | .inl e => (.inl e : Sum (Nat × Nat) (List (List Sy) × List Sy))
      | .inr told => if told.length < 2 then .inl (cs.length + 1, 1) else match badLn (told.length - 1) told with
        | some n => .inl (n, 2)
        | none => .inr ((told.drop 1).map (fun (x : Nat × List Sy) => x.2), (told.headD (0, [])).2)) with
      | .inl e => ErrBL C e.1 e.2 H E
      | .inr b => ∀ (H' : Hp) (p : Addr), Same H H' → H p = none → BookAt H' p b.1 b.2 → Q (.ref p) H') := by rw [ecs]; exact q
    rw [← ecs] at lc1 lc2 ⊢
    rw [List.length_nil] at lc1
    have S1 : Same H (upd H l (.lst ((cs.map S).map V.str))) := same_upd nl
    have hl1 : (upd H l (.lst ((cs.map S).map V.str))) l = some (.lst ((cs.map S).map V.str)) := upd_same
    generalize upd H l (.lst ((cs.map S).map V.str)) = H1 at S1 hl1
    refine ⟨szl 0, fun H2 tl S2 n2 h2 => ?_⟩
    have S02 := S1.trans S2
    have nt : H tl = none := S1.free n2
    have ntl : l ≠ tl := ne_of_none hl1 n2
    have hl2 := S2 _ _ hl1
    refine ⟨_, rfl, l, _, rfl, SqL.of hl2, ?_⟩
    refine for_it (walk_enumS (K := K) (a := l) (xs := (cs.map S).map V.str) (k0 := 1)) (fun i σ H' => ∃ (as : List Addr) (told : List (Nat × List Sy)) (y3 y4 y5 y6 : Option V), σ = [some (.str (S t)), some (.ref l), some (.ref tl), y3, y4, y5, y6, none, none] ∧ Same H H' ∧ H' l = some (.lst ((cs.map S).map V.str)) ∧ H' tl = some (.lst (toldV as)) ∧ Told H' as told ∧ rdLines 1 (cs.take i) [] = .inr told)
      ⟨[], [], none, none, none, none, rfl, S02, hl2, h2, .nil, rfl⟩ (fun i σ H' _ ⟨_, _, _, _, _, _, _, _, h, _⟩ => SqL.of h) ?_ ?_
    · rintro i x σ H3 H4 hi ⟨as, told, y3, y4, y5, y6, rfl, S3, hl3, htl, hT, hR⟩ ⟨Tp, x1, x2, rfl, nT, rfl, g1, g2⟩
      rw [List.length_map, List.length_map] at hi
      cases g1
      have g2 : ((cs.map S).map V.str)[i]? = some x2 := g2
      rw [List.getElem?_map, List.getElem?_map, List.getElem?_eq_getElem hi] at g2
      cases g2
      have hc : cs[i]? = some cs[i] := List.getElem?_eq_getElem hi
      generalize cs[i] = c at hc
      have lc := lc1 c (List.mem_of_getElem? hc)
      have lt1 := rd_len _ _ _ _ hR
      rw [List.length_nil, List.length_take] at lt1
      have la := hT.length
      have ecs2 : cs.take (i + 1) = cs.take i ++ [c] := take_more hc
      have step : rdLines 1 (cs.take (i + 1)) [] = rdLines (1 + i) [c] told := by
        rw [ecs2, rd_snoc, hR, List.length_take, Nat.min_eq_left (by omega)]
      have S4 : Same H (upd H3 Tp (.tup [.int ((1 + i : Nat) : Int), .str (S c)])) := sUpd S3 nT
      have hl4 : (upd H3 Tp (.tup [.int ((1 + i : Nat) : Int), .str (S c)])) l = _ := same_upd nT _ _ hl3
      have htl4 : (upd H3 Tp (.tup [.int ((1 + i : Nat) : Int), .str (S c)])) tl = _ := same_upd nT _ _ htl
      have hT4 : Told (upd H3 Tp (.tup [.int ((1 + i : Nat) : Int), .str (S c)])) as told := hT.keep (TupS.refl.new nT)
      refine ⟨Tp, _, rfl, SqT.of upd_same, rfl, _, _, rfl, _, _, rfl, rfl, ?_⟩
      generalize upd H3 Tp (.tup [.int ((1 + i : Nat) : Int), .str (S c)]) = H5 at S4 hl4 htl4 hT4
      refine ⟨_, rfl, c, rfl, by omega, fun H6 wl S6 nw hw => ?_⟩
      have S06 := S4.trans S6
      have htl6 := S6 _ _ htl4
      have hT6 := hT4.keep (.of S6)
      refine ⟨_, rfl, !(wordsL c).isEmpty, .inl ⟨_, SqL.of hw, by cases wordsL c <;> rfl⟩, ?_⟩
      cases ew : wordsL c with
      | nil =>
        refine iteF ⟨as, told, _, _, _, _, rfl, S06, S6 _ _ hl4, htl6, hT6, ?_⟩
        rw [step]
        show (if wordsL c = [] then _ else _) = _
        rw [if_pos ew]; rfl
      | cons a r =>
        rw [ew] at hw
        have step2 : rdLines 1 (cs.take (i + 1)) [] = match readLn (a :: r) headsL[told.length]? with
            | .inl k => .inl (1 + i, k)
            | .inr w => .inr (told ++ [(1 + i, w)]) := by
          rw [step]
          show (if wordsL c = [] then _ else _) = _
          rw [if_neg (by rw [ew]; exact List.cons_ne_nil _ _), ew]
          cases readLn (a :: r) headsL[told.length]? <;> rfl
        refine iteT ⟨_, rfl, tl, _, rfl, .inl (SqL.of htl6), ?_⟩
        have ltl : (toldV as).length = told.length := by unfold toldV; rw [List.length_map, la]
        rw [ltl]
        refine ⟨_, rfl, .inl ⟨rfl, _, SqL.of htl6⟩, _, rfl, _, rfl, _, rfl, _, rfl, (told.length : Int), rfl, _, rfl, _, _, rfl, rfl, _, rfl, aH, _, rfl, hH H6, ?_, fun H7 hp S7 n7 h7 => ?_⟩
        · rintro ⟨z1, z2⟩
          have z1 : HT.sIx 9 0 (some ((told.length : Nat) : Int)) = 0 := z1
          have z2 : HT.sIx 9 9 (some (((told.length : Nat) : Int) + 1)) = 9 := z2
          rw [HT.sIx_nat] at z1
          rw [show ((told.length : Nat) : Int) + 1 = ((told.length + 1 : Nat) : Int) by omega, HT.sIx_nat] at z2
          omega
        have ehd : cutV headsV (some ((told.length : Nat) : Int)) (some (((told.length : Nat) : Int) + 1)) = (headsL[told.length]?).toList.map fun x => V.str (S x) := by
          unfold cutV
          rw [show ((told.length : Nat) : Int) + 1 = ((told.length + 1 : Nat) : Int) by omega, HT.sIx_nat, HT.sIx_nat]
          rw [show headsV.length = 9 from rfl]
          by_cases hlt : told.length < 9
          · rw [Nat.min_eq_left (by omega), Nat.min_eq_left (by omega), show told.length + 1 - told.length = 1 by omega, head_at hlt]
            have : ∀ j : Fin 9, (headsV.drop j.1).take 1 = [V.str (S (headsL.getD j.1 []))] := by decide +kernel
            exact this ⟨told.length, hlt⟩
          · rw [Nat.min_eq_right (by omega), Nat.min_eq_right (by omega), Nat.sub_self, List.take_zero, List.getElem?_eq_none (by show 9 ≤ _; omega)]
            rfl
        rw [ehd] at h7
        have S07 := S06.trans S7
        refine ⟨wl, hp, a :: r, 1 + i, headsL[told.length]?, rfl, SqL.of (S7 _ _ hw), SqT.of h7, List.cons_ne_nil _ _, ?_, by omega, ?_⟩
        · intro x hx
          have hx : x ∈ wordsL c := by rw [ew]; exact hx
          have := (spl_len 32 c []).1 x (List.mem_filter.mp hx).1
          rw [List.length_nil] at this
          omega
        cases er : readLn (a :: r) headsL[told.length]? with
        | inl j =>
          have eall : rdLines 1 cs [] = .inl (1 + i, j) := by
            have := rd_err (cs.take (i + 1)) 1 [] (cs.drop (i + 1)) (1 + i, j) (by rw [step2, er])
            rwa [List.take_append_drop] at this
          rw [eall] at q
          exact ErrBL.keep S07 q
        | inr wd =>
          intro H8 pw S8 n8 hw8
          refine ⟨szl 2, fun H9 ta S9 n9 h9 => ⟨tl, _, _, rfl, rfl, S9 _ _ (S8 _ _ (S7 _ _ htl6)), ?_, ?_⟩⟩
          · rw [ltl, sizeLine_eq]; omega
          have S09 := (S07.trans S8).trans S9
          have htl9 := S9 _ _ (S8 _ _ (S7 _ _ htl6))
          have ts : TupS H9 (upd H9 tl (.lst (toldV as ++ [V.ref ta]))) := TupS.refl.lst htl9
          refine ⟨as ++ [ta], told ++ [(1 + i, wd)], _, _, _, _, rfl, sPut S09 nt, ?_, ?_, ?_, ?_⟩
          · rw [upd_ne ntl]; exact S9 _ _ (S8 _ _ (S7 _ _ (S6 _ _ hl4)))
          · rw [upd_same]; unfold toldV; rw [List.map_append]; rfl
          · exact Paired.snoc (Told.keep ts (Told.keep (.of S9) (Told.keep (.of S8) (Told.keep (.of S7) hT6)))) ⟨pw, ts.1 _ _ h9, ts.wd (hw8.same S9)⟩
          · rw [step2, er]
    · rintro σ H3 ⟨as, told, y3, y4, y5, y6, rfl, S3, hl3, htl, hT, hR⟩
      rw [List.length_map, List.length_map, List.take_length] at hR
      rw [hR] at q
      dsimp only at q
      have la := hT.length
      have ltl : (toldV as).length = told.length := by unfold toldV; rw [List.length_map, la]
      have lt1 := rd_len _ _ _ _ hR
      rw [List.length_nil] at lt1
      refine ⟨_, rfl, tl, _, rfl, .inl (SqL.of htl), _, _, rfl, rfl, _, rfl, ?_⟩
      rw [ltl]
      by_cases z2 : told.length < 2
      · rw [if_pos z2] at q
        refine itY (by omega) ⟨_, rfl, l, _, rfl, .inl (SqL.of hl3), _, _, rfl, rfl, ?_⟩
        rw [List.length_map, List.length_map]
        exact ⟨cs.length + 1, 1, rfl, by omega, by decide, fun d hd => q _ d (sUpd S3 hd) (S3.free hd) upd_same⟩
      rw [if_neg z2] at q
      refine itN (by omega) ?_
      refine ⟨_, rfl, tl, rfl, ⟨_, SqL.of htl⟩, for_list (K := K) (a := tl) (xs := toldV as) (fun i σ H' => ∃ (y3 y4 y5 y6 y7 : Option V), σ = [some (.str (S t)), some (.ref l), some (.ref tl), y3, y4, y5, y6, y7, none] ∧ Same H3 H' ∧ badLn (told.length - 1) (told.take i) = none)
        ⟨_, _, _, _, _, rfl, Same.refl H3, rfl⟩ (fun i σ H' _ ⟨_, _, _, _, _, _, h, _⟩ => SqL.of (h _ _ htl)) ?_ ?_⟩
      · rintro i x σ H4 hx ⟨y3, y4, y5, y6, y7, rfl, S4, hb⟩
        unfold toldV at hx
        rw [List.getElem?_map] at hx
        obtain ⟨a, ha, rfl⟩ : ∃ a, as[i]? = some a ∧ x = V.ref a := by
          cases e : as[i]? with
          | none => rw [e] at hx; cases hx
          | some a => rw [e] at hx; exact ⟨a, rfl, (Option.some.inj hx).symm⟩
        have hi : i < told.length := by rw [← la]; exact (List.getElem?_eq_some_iff.mp ha).1
        have hti := List.getElem?_eq_getElem hi
        generalize told[i] = y at hti
        obtain ⟨a', ha', pa, h1, hw⟩ := paired_get hT hti
        rw [ha] at ha'
        cases ha'
        obtain ⟨b1, b2⟩ := bad_at _ _ _ hb y hti
        have hw4 := hw.same S4
        refine ⟨a, _, rfl, SqT.of (S4 _ _ h1), rfl, _, _, rfl, _, _, rfl, rfl, ?_⟩
        refine ⟨_, rfl, _, rfl, tl, _, rfl, .inl (SqL.of (S4 _ _ htl)), _, _, rfl, rfl, ?_⟩
        rw [ltl]
        refine ⟨.ref pa, told.length - 1, ?_, .inr ⟨pa, _, rfl, hw4.ty, hw4.sq, ?_, _, rfl, ?_⟩⟩
        · have : ((told.length : Int) - 1) = ((told.length - 1 : Nat) : Int) := by omega
          rw [← this]
          rfl
        · intro v hv
          obtain ⟨s, _, rfl⟩ := List.mem_map.mp hv
          cases s <;> rfl
        rw [isWdV_wd]
        cases z : isWd (told.length - 1) y.2 with
        | true => exact iteF ⟨_, _, _, _, _, rfl, S4, b1 z⟩
        | false =>
          rw [b2 z] at q
          have S04 := S3.trans S4
          have ly : y.1 < 10 ^ 9 := by
            have : ∀ (cs : List (List Nat)) (n : Nat) (told t : List (Nat × List Sy)), rdLines n cs told = .inr t → (∀ x ∈ told, x.1 < n) → ∀ x ∈ t, x.1 < n + cs.length := by
              intro cs
              induction cs with
              | nil => intro n told t h hx x hm; cases h; exact hx x hm
              | cons c cs ih =>
                intro n told t h hx x hm
                unfold rdLines at h
                rw [List.length_cons]
                by_cases z : wordsL c = []
                · rw [if_pos z] at h
                  have := ih (n + 1) told t h (fun x hm => Nat.lt_succ_of_lt (hx x hm)) x hm
                  omega
                · rw [if_neg z] at h
                  cases q : readLn (wordsL c) headsL[told.length]? with
                  | inl k => rw [q] at h; cases h
                  | inr w =>
                    rw [q] at h
                    have := ih (n + 1) _ t h (fun x hm => by
                      rcases List.mem_append.mp hm with e | e
                      · exact Nat.lt_succ_of_lt (hx x e)
                      · rw [List.mem_singleton.mp e]; exact Nat.lt_succ_self _) x hm
                    omega
            have := this cs 1 [] told hR (fun x hm => by cases hm) y (List.mem_of_getElem? hti)
            omega
          exact iteT ⟨_, rfl, y.1, 2, rfl, ly, by decide, fun d hd => q _ d (sUpd S04 hd) (S04.free hd) upd_same⟩
      · rintro σ H4 ⟨y3, y4, y5, y6, y7, rfl, S4, hb⟩
        rw [ltl, List.take_length] at hb
        rw [hb] at q
        have q : ∀ (H' : Hp) (p : Addr), Same H H' → H p = none → BookAt H' p ((told.drop 1).map (fun (x : Nat × List Sy) => x.2)) (told.headD (0, [])).2 → Q (.ref p) H' := q
        obtain ⟨x0, tr, rfl⟩ : ∃ x r, told = x :: r := by cases told with
          | nil => exact absurd (show (([] : List (Nat × List Sy)).length < 2) by decide) z2
          | cons x r => exact ⟨x, r, rfl⟩
        obtain ⟨a0, ar, rfl⟩ : ∃ a r, as = a :: r := by cases as with
          | nil => cases la
          | cons a r => exact ⟨a, r, rfl⟩
        rcases hT with _ | ⟨⟨p0, hp0, hw0⟩, hTr⟩
        have htl4 := S4 _ _ htl
        refine ⟨_, rfl, 1, rfl, tl, _, rfl, SqL.of htl4, fun H5 sl S5 n5 h5 => ?_⟩
        have h5 : H5 sl = some (.lst (cutV (toldV (a0 :: ar)) (some ((1 : Nat) : Int)) none)) := h5
        rw [cut_from] at h5
        have h5 : H5 sl = some (.lst (ar.map V.ref)) := h5
        have hT5 : Told H5 ar tr := Told.keep (.of (S4.trans S5)) hTr
        refine ⟨sl, rfl, ⟨_, SqL.of h5⟩, fun D nD => ?_⟩
        refine lc_list (K := K) (a := sl) (xs := ar.map V.ref) (fun i H' => ∃ bs : List Addr, Same H5 H' ∧ H' D = some (.lst (bs.map V.ref)) ∧ Words H' bs ((tr.take i).map (·.2))) ⟨[], same_upd nD, upd_same, .nil⟩ (fun i H' _ ⟨_, h, _⟩ => SqL.of (h _ _ h5)) ?_ ?_
        · rintro i x H6 hx ⟨bs, S6, hD, hW⟩
          rw [List.getElem?_map] at hx
          obtain ⟨a, ha, rfl⟩ : ∃ a, ar[i]? = some a ∧ x = V.ref a := by
            cases e : ar[i]? with
            | none => rw [e] at hx; cases hx
            | some a => rw [e] at hx; exact ⟨a, rfl, (Option.some.inj hx).symm⟩
          have lr := hT5.length
          have hi : i < tr.length := by rw [← lr]; exact (List.getElem?_eq_some_iff.mp ha).1
          have hti := List.getElem?_eq_getElem hi
          generalize tr[i] = y at hti
          obtain ⟨a', ha', pa, h1, hw⟩ := paired_get hT5 hti
          rw [ha] at ha'
          cases ha'
          have lb := hW.length
          rw [List.length_map, List.length_take] at lb
          have ts : TupS H6 (upd H6 D (.lst (bs.map V.ref ++ [V.ref pa]))) := TupS.refl.lst hD
          refine ⟨a, _, rfl, SqT.of (S6 _ _ h1), rfl, _, _, rfl, _, _, rfl, rfl, rfl, _, rfl, _, hD, ?_, bs ++ [pa], sPut S6 nD, ?_, ?_⟩
          · rw [List.length_map, sizeLine_eq]
            rw [List.length_cons] at lt1
            omega
          · rw [upd_same, List.map_append]; rfl
          · rw [take_more hti, List.map_append]
            exact Paired.snoc (Words.keep ts hW) (ts.wd (hw.same S6))
        · rintro H6 ⟨bs, S6, hD, hW⟩
          have lr := hT5.length
          rw [List.length_map, lr, List.take_length] at hW
          refine ⟨D, _, rfl, SqL.of hD, fun H7 pt S7 n7 h7 => ?_⟩
          have S47 := (S5.trans S6).trans S7
          have htl7 := S47 _ _ htl4
          refine ⟨_, rfl, tl, _, _, _, rfl, rfl, SqL.of htl7, at0, a0, _, _, _, rfl, rfl, SqT.of (S47 _ _ (S4 _ _ hp0)), at1, szl 2, fun H8 pb S8 n8 h8 => ?_⟩
          have S08 := ((S3.trans S4).trans S47).trans S8
          refine q H8 pb S08 (((S3.trans S4).trans S47).free n8) ⟨pt, p0, bs, h8, S8 _ _ h7, (((hw0.same S4).same S47).same S8), hW.keep (.of (S7.trans S8))⟩
end
end SK
namespace SK
open PySem PySem.Spec PyProof.Rows L2 PpSet
/-! ### {e for target in iter if ..}, e a whole number -/
def tSci (w : World) (wi : TI) (g : TG) (tt : TT) (te : TE) (vs : List Nat) : TE := fun σ H Q => wi σ H fun J H1 => ∀ D, H1 D = none →
  ∃ W : Nat → Nat → Hp → Prop, (∃ m, W 0 m (upd H1 D (SetO w D (fun _ => false) 0))) ∧ ∀ i m H, W i m H → (J.stop i H ∧ Q (.ref D) H) ∨
    (J.go i H ∧ ∃ Nx : Hp → Prop, (∀ H', Nx H' → ∃ m', m' < m ∧ W (i + 1) m' H') ∧ ∀ x H', J.yld i H x H' → g x (wipe σ vs) H' fun σ2 H2 => wipe σ2 vs = wipe σ vs ∧ tt σ2 H2 fun b H3 =>
      if b = true then te σ2 H3 fun y H4 => ∃ (k : Int) (S : Int → Bool) (n : Nat), y = .int k ∧ H4 D = some (SetO w D S n) ∧ n + 1 < scanBound ∧ Nx (upd H4 D (SetO w D (fun j => S j || decide (j = k)) (if S k = true then n else n + 1))) else Nx H3)
section
variable {X : Cx} {elt tg iter : Expr} {ifs : List Expr} {scope : Scope} {own : List (Str × Nat)} {pos : Pos} {wi : TI} {g : TG} {tt : TT} {te : TE}
theorem pe_sci (hc : X.calm = true) (hN : X.N.Nodup) (hi : PI X tg iter wi) (ok : BlkOk X.N X.env.scope scope own) (hg : ∀ s H C cl fp, PG (X.blk s H scope (compEnvC scope cl C X.env) fp) tg g) (ht : ∀ s H C cl fp, PTs (X.blk s H scope (compEnvC scope cl C X.env) fp) ifs tt)
    (he : ∀ s H C cl fp, PE (X.blk s H scope (compEnvC scope cl C X.env) fp) elt te) (hs : ∀ x, foldedSetIterable iter X.env x = pure x := by intro _; rfl) : PE X (.SetComp elt [⟨tg, iter, ifs, 0⟩] scope pos) (tSci X.w wi g tt te (own.map (·.2))) := by
  refine ⟨fun pins s σ H Q I h => ?_⟩
  rw [eval_SetComp]
  refine wpAny_comprehension_free (use := none) rfl hs (closure_ok fun y hy e => (ok.free y hy e).elim (fun k => I.ok.has _ (.inl k)) fun k => I.ok.has _ (.inr k)) ok.kind (fun y hy e => by rw [ok.uniq y hy, e])
    (thn (hi.run pins s σ H _ I h) fun xv s1 hx => thn hx fun itv s2 ⟨it, fp, tn, J, H2, eit, I2, T, st2, f2, q⟩ => ?_)
  subst eit
  refine newSet_ok (newEnv_comp ?_)
  generalize hD : s2.heap.objs.size = D
  obtain ⟨W, ⟨m0, w0⟩, turn⟩ := q D (I2.hok.fresh (Nat.le_of_eq hD))
  let cell : Obj := { cls := .type "set", dict := none, data := .set #[] 0 (.fresh 0 0 (!X.w.params.followText "set-order")) }
  generalize hs3 : ({ s2 with heap := s2.heap.push cell } : Shared) = s3
  have h3 : s3.heap = s2.heap.push cell := by rw [← hs3]
  have I3 : Inv X pins σ (upd H2 D (SetO X.w D (fun _ => false) 0)) s3 := by
    rw [← hs3]
    exact I2.laid (t' := s2.toks) (fun b o e => Heap.get?_push_of_some _ e) (Nat.le_of_eq hD) (by rw [← hD]; exact setO_new (setR_fresh X.w))
  have f3 : ∀ b ∈ fp, FpOk X pins (upd H2 D (SetO X.w D (fun _ => false) 0)) b ∧ b < s3.heap.objs.size := fun b hb => by
    obtain ⟨o, e, _⟩ := T.obj _ _ st2 b hb
    have lt := Heap.lt_size e
    exact ⟨⟨by rw [upd_ne (by rw [← hD]; exact Nat.ne_of_lt lt)]; exact (f2 b hb).1, (f2 b hb).2⟩, by rw [h3, Heap.size_push]; exact Nat.lt_succ_of_lt lt⟩
  have st3 : tn 0 s3.heap := T.keep _ _ _ st2 fun b _ o e => by rw [h3]; exact Heap.get?_push_of_some _ e
  have I4 := block_start I3 ok hN f3
  let cells := cellsFrom (s3.heap.objs.size + 1) scope.names (cloFrom X.env.cells scope.names [])
  have pg := hg s3 (upd H2 D (SetO X.w D (fun _ => false) 0)) s3.heap.objs.size cells fp
  have pt := ht s3 (upd H2 D (SetO X.w D (fun _ => false) 0)) s3.heap.objs.size cells fp
  have pe := he s3 (upd H2 D (SetO X.w D (fun _ => false) 0)) s3.heap.objs.size cells fp
  show codeAny _ _ (.compStart _ 0 (.ref it) (.ref D) (compEnvC scope cells s3.heap.objs.size X.env)) _ { s3 with heap := pushCells (s3.heap.push { cls := .type "dict", data := .dict #[] }) scope.names }
  change Inv (X.blk s3 _ scope (compEnvC scope cells s3.heap.objs.size X.env) fp) [] _ _ _ at I4
  generalize hce : compEnvC scope cells s3.heap.objs.size X.env = ce at I4 pg pt pe ⊢
  have cL : ce.locals = s3.heap.objs.size := by rw [← hce]; rfl
  generalize hH3 : upd H2 D (SetO X.w D (fun _ => false) 0) = H3 at I3 I4 pg pt pe w0 f3
  generalize hs4 : ({ s3 with heap := pushCells (s3.heap.push { cls := .type "dict", data := .dict #[] }) scope.names } : Shared) = s4 at I4 ⊢
  have st4 : tn 0 s4.heap := T.keep _ _ _ st3 fun b _ o e => by rw [← hs4]; exact pushCells_keeps _ _ _ _ (Heap.get?_push_of_some _ e)
  -- the iterator's own cells within the block
  have inside : ∀ {σ' : L2.St} {H' : Hp} {s' : Shared}, Inv (X.blk s3 H3 scope ce fp) [] σ' H' s' → (∀ b ∈ fp, H' b = none) → ∀ b ∈ fp, FpOk (X.blk s3 H3 scope ce fp) [] H' b := fun I' hn b hb =>
    ⟨hn b hb, (I'.ok.exf b hb).1, I'.ok.exfs b hb, .inl hb, (I'.ok.exf b hb).2 |> fun k x c e => k x c e, fun p hp => nomatch hp⟩
  have loop : codeAny (model X.prog X.w) X.A (.compLoop (.SetComp elt [⟨tg, iter, ifs, 0⟩] scope pos) 0 (.ref it) (.ref D) ce) (compPost (model X.prog X.w) X.A X.xe none (EP X pins σ Q) (.ref D) s3.heap.objs.size) s4 := by
    refine compLoopS_any (fun n s' => ∃ i H', Inv (X.blk s3 H3 scope ce fp) [] (wipe σ (own.map (·.2))) H' s' ∧ tn i s'.heap ∧ (∀ b ∈ fp, H' b = none) ∧ W i n H') ?_ m0 ⟨0, H3, I4, st4, fun b hb => (f3 b hb).1.1, w0⟩
    rintro n s5 ⟨i, H5, I5, st5, n5, w5⟩
    rcases turn i n H5 w5 with ⟨stop, wish⟩ | ⟨go, Nx, hNx, step⟩
    · refine thnF (T.done (X.blk s3 H3 scope ce fp) rfl rfl rfl hc i [] s5 _ H5 (fun _ _ => False) I5 (inside I5 n5) st5 stop) fun r s6 ⟨hr, I6⟩ => ?_
      subst hr
      have I7 : Inv X pins σ H5 s6 := I3.call' (ch := fp) I6.os I6.base I6.hok I6.bare fun b hb => ⟨(f3 b hb).1.2.2.2.1, (f3 b hb).1.2.1, (f3 b hb).1.2.2.2.2.1, (f3 b hb).1.2.2.2.2.2⟩
      have nC : H5 ce.locals = none := I6.free
      obtain ⟨m, hn, _⟩ := I6.loc
      have hn' : s6.heap.Ns ce.locals m := hn
      rw [cL] at hn' nC
      obtain ⟨e0, e1, e2, e3, e4, e5⟩ := I3.fpOk (Nat.le_refl _) nC
      exact ⟨m, hn', fun h'' sb => ⟨.ref D, H5, I7.turned (t' := s6.toks) (fun b o hb e => (sb.2 b hb).trans e) e0 e1 e3 e4 e5, rfl, wish⟩⟩
    · refine thnF (T.item (X.blk s3 H3 scope ce fp) rfl rfl rfl hc i [] s5 _ H5 (fun _ _ => False) I5 (inside I5 n5) st5 go) fun r s6 ⟨u, hr, h6⟩ => ?_
      subst hr
      refine thnF h6 fun _ s7 ⟨x, H7, I7, r7, y7, st7, n7⟩ => thnF (pg.run _ s7 _ H7 x u _ (I7.pinned (inside I7 n7) (T.obj _ _ st7)) r7 (step x H7 y7)) fun _ s8 ⟨σ8, H8, I8, hw8, q8⟩ => thnF (pt.run _ s8 σ8 H8 _ I8 q8) fun b s9 ⟨H9, I9, q9⟩ => ?_
      have fin : ∀ {s' : Shared} {H' : Hp}, Inv (X.blk s3 H3 scope ce fp) ([] ++ pinsAt fp s7.heap) σ8 H' s' → Nx H' → ∃ m, m < n ∧ ∃ i H', Inv (X.blk s3 H3 scope ce fp) [] (wipe σ (own.map (·.2))) H' s' ∧ tn i s'.heap ∧ (∀ b ∈ fp, H' b = none) ∧ W i m H' := fun {s' H'} I' nx => by
        obtain ⟨m', hm, w'⟩ := hNx H' nx
        have held : ∀ b ∈ fp, ∀ o, s7.heap.get? b = some o → s'.heap.get? b = some o ∧ H' b = none := fun b hb o e => by
          have z := I'.pin (b, o) (List.mem_append_right _ (List.mem_append_right _ (mem_pinsAt hb e)))
          exact ⟨z.1, z.2.1⟩
        refine ⟨m', hm, i + 1, H', (I'.unpinned (pins := [])).weak (by rw [← hw8, wipe_length]) (fun j v e => ?_), T.keep _ _ _ st7 fun b hb o e => (held b hb o e).1, fun b hb => ?_, w'⟩
        · rw [← hw8] at e
          exact (wipe_some e).1
        · obtain ⟨o, e, _⟩ := T.obj _ _ st7 b hb
          exact (held b hb o e).2
      cases b with
      | false => exact fin I9 q9
      | true =>
        refine thnF (pe.run _ s9 σ8 H9 _ I9 q9) fun z s10 ⟨yv, H10, I10, r10, k, S0, n0, ey, hD10, hz10, nx⟩ => ?_
        subst ey
        refine thnF (mt_sadd (X := X.blk s3 H3 scope ce fp) _ s10 σ8 H10 (.ref D) [.int k] (.ref D) [z] (fun _ H' => Nx H') I10 rfl (.cons r10 .nil) ⟨D, k, S0, n0, rfl, rfl, hD10, hz10, nx⟩) fun _ s11 ⟨_, H11, I11, _, nx'⟩ => fin I11 nx'
  exact codeAny_compStart_set loop (T.self X.A 0 _ _ _ st4 loop)
end
end SK
namespace SK
open PySem PySem.Spec PyProof.Rows L2
theorem sci_it {J : It} {n : Nat} {G : Hp → Prop} {Y : Nat → Hp → V → Hp → Prop} {w : World} (wk : Walk J n G Y) {g : TG} {tt : TT} {te : TE} {vs : List Nat} {σ : L2.St} {H1 : Hp} {D : Addr} {Qd : Hp → Prop} (Pv : Nat → Hp → Prop) (h0 : Pv 0 (upd H1 D (SetO w D (fun _ => false) 0))) (hG : ∀ i H, i ≤ n → Pv i H → G H)
    (hs : ∀ i x H H', i < n → Pv i H → Y i H x H' → g x (wipe σ vs) H' fun σ2 H2 => wipe σ2 vs = wipe σ vs ∧ tt σ2 H2 fun b H3 =>
      if b = true then te σ2 H3 fun y H4 => ∃ (k : Int) (S : Int → Bool) (n : Nat), y = .int k ∧ H4 D = some (SetO w D S n) ∧ n + 1 < scanBound ∧ Pv (i + 1) (upd H4 D (SetO w D (fun j => S j || decide (j = k)) (if S k = true then n else n + 1))) else Pv (i + 1) H3)
    (hd : ∀ H, Pv n H → Qd H) : ∃ W : Nat → Nat → Hp → Prop, (∃ m, W 0 m (upd H1 D (SetO w D (fun _ => false) 0))) ∧ ∀ i m H, W i m H → (J.stop i H ∧ Qd H) ∨
      (J.go i H ∧ ∃ Nx : Hp → Prop, (∀ H', Nx H' → ∃ m', m' < m ∧ W (i + 1) m' H') ∧ ∀ x H', J.yld i H x H' → g x (wipe σ vs) H' fun σ2 H2 => wipe σ2 vs = wipe σ vs ∧ tt σ2 H2 fun b H3 =>
        if b = true then te σ2 H3 fun y H4 => ∃ (k : Int) (S : Int → Bool) (n : Nat), y = .int k ∧ H4 D = some (SetO w D S n) ∧ n + 1 < scanBound ∧ Nx (upd H4 D (SetO w D (fun j => S j || decide (j = k)) (if S k = true then n else n + 1))) else Nx H3) := by
  refine ⟨fun i m H => m = n - i ∧ i ≤ n ∧ Pv i H, ⟨_, rfl, Nat.zero_le _, h0⟩, ?_⟩
  rintro i m H ⟨rfl, hi, p⟩
  have q := hG i H hi p
  by_cases hlt : i < n
  · exact .inr ⟨wk.goes i H hlt q, Pv (i + 1), fun H' p' => ⟨_, by omega, rfl, hlt, p'⟩, fun x H' y => hs i x H H' hlt p (wk.yields i H x H' hlt q y)⟩
  · have e : i = n := by omega
    subst e
    exact .inl ⟨wk.stops H q, hd H p⟩
/-! ### the letters of a piece -/
def isI (s : Sy) (j : Int) : Bool := match s with
  | .l k => decide (j = (k : Int))
  | _ => false
def hasI (v : List Sy) (j : Int) : Bool := v.any fun s => isI s j
def numI (v : List Sy) : Nat := ((List.range 8).filter fun (j : Nat) => hasI v (j : Int)).length
theorem hasI_app (v : List Sy) (s : Sy) (j : Int) : hasI (v ++ [s]) j = (hasI v j || isI s j) := by
  unfold hasI
  rw [List.any_append]
  simp
theorem hasI_mem {v : List Sy} {k : Nat} : hasI v (k : Int) = true ↔ Sy.l k ∈ v := by
  unfold hasI
  rw [List.any_eq_true]
  constructor
  · rintro ⟨s, hs, e⟩
    cases s with
    | l j =>
      have : (k : Int) = (j : Int) := of_decide_eq_true e
      have : k = j := by omega
      subst this
      exact hs
    | p => cases e
    | m => cases e
    | o => cases e
    | c => cases e
  · intro h
    exact ⟨_, h, decide_eq_true rfl⟩
theorem count_add : ∀ {l : List Nat} {p : Nat → Bool} {k : Nat}, l.Nodup → k ∈ l → p k = false → (l.filter fun j => p j || decide ((j : Int) = (k : Int))).length = (l.filter p).length + 1
  | [], _, _, _, h, _ => by cases h
  | a :: l, p, k, nd, hm, hp => by
    have nd' := (List.nodup_cons.mp nd)
    by_cases e : a = k
    · subst e
      have rest : (l.filter fun j => p j || decide ((j : Int) = (a : Int))) = l.filter p := by
        refine List.filter_congr fun j hj => ?_
        have : ¬ ((j : Int) = (a : Int)) := fun z => by
          have : j = a := by omega
          subst this
          exact nd'.1 hj
        rw [decide_eq_false this, Bool.or_false]
      rw [List.filter_cons, List.filter_cons, rest, hp]
      simp
    · have hm' : k ∈ l := by
        rcases List.mem_cons.mp hm with h | h
        · exact absurd h.symm e
        · exact h
      have ih := count_add (p := p) nd'.2 hm' hp
      have ne : ¬ ((a : Int) = (k : Int)) := fun z => e (by omega)
      rw [List.filter_cons, List.filter_cons, decide_eq_false ne, Bool.or_false]
      cases hpa : p a with
      | true => simp only [if_true, List.length_cons, ih]
      | false => simp only [Bool.false_eq_true, if_false, ih]
theorem numI_le (v : List Sy) : numI v ≤ 8 := by
  unfold numI
  have := List.length_filter_le (fun (j : Nat) => hasI v (j : Int)) (List.range 8)
  rw [List.length_range] at this
  exact this
theorem numI_app (v : List Sy) {k : Nat} (h : k < 8) : numI (v ++ [.l k]) = if hasI v (k : Int) = true then numI v else numI v + 1 := by
  unfold numI
  have e : (fun (j : Nat) => hasI (v ++ [.l k]) (j : Int)) = fun (j : Nat) => hasI v (j : Int) || decide ((j : Int) = (k : Int)) := by
    funext j
    rw [hasI_app]
    rfl
  rw [e]
  cases hk : hasI v (k : Int) with
  | true =>
    rw [if_pos rfl]
    congr 1
    refine List.filter_congr fun j _ => ?_
    by_cases z : (j : Int) = (k : Int)
    · rw [z, hk]; rfl
    · rw [decide_eq_false z, Bool.or_false]
  | false =>
    rw [if_neg (by simp)]
    exact count_add List.nodup_range (List.mem_range.mpr h) hk
theorem nat_list : ∀ {ns : List Int}, (∀ i ∈ ns, 0 ≤ i) → ∃ ls : List Nat, ns = ls.map fun (k : Nat) => (k : Int)
  | [], _ => ⟨[], rfl⟩
  | i :: ns, h => by
    obtain ⟨ls, e⟩ := nat_list (ns := ns) fun j hj => h j (List.mem_cons_of_mem _ hj)
    exact ⟨i.toNat :: ls, by rw [e, List.map_cons, Int.toNat_of_nonneg (h i List.mem_cons_self)]⟩
def iV (ls : List Nat) : List V := ls.map fun (k : Nat) => V.int (k : Int)
def spLettersIn (K : PySem.W.Frag) : Sp := fun vs H Q _ => ∃ (a : Addr) (w : List Sy), vs = [.ref a] ∧ Sq K H a (wv w) ∧ (∀ k, Sy.l k ∈ w → k < 8) ∧
  ∀ (H' : Hp) (p : Addr) (ls : List Nat), Same H H' → H p = none → H' p = some (.lst (iV ls)) → (∀ k, k ∈ ls ↔ Sy.l k ∈ w) → ls.length ≤ 8 → Q (.ref p) H'
section
variable {P : Program} {w : World} {K : PySem.W.Frag} {mg : Str → Option Value} {base : Heap}
theorem ok_lettersin {f : Addr} {fd : FuncData} {k : Nat} (F : Fun K "letters_in" "letters_in" s_letters_in f fd) (mI : mg "isinstance" = none) (mS : mg "str" = none) (mO : mg "sorted" = none) : FnOk P w K mg base CX0 (k + 1) f fd ["parts"] (spLettersIn K) := by
  refine F.ok sc_letters_in (fun vs H Q E h => ?_) (fun cdv A outer s H vs Q E hr h => ?_)
  · obtain ⟨a, w, rfl, _⟩ := h
    rfl
  · obtain ⟨a, wd, rfl, ha, hb, q⟩ := h
    have nd := sc_letters_in.nd
    refine ⟨_, pss_one (ps_ret (pe_callB (cr_sortedSet rfl) (by rfl) mO (by decide +kernel) (pa_cons
      (pe_sci (own := [("part", 1)]) (g := gName 1) (tt := tNotStr K 1) rfl nd (pi_seq (pv 0)) (blkOk_by (N := n_letters_in) (sc := defScope s_letters_in) (by decide +kernel))
        (fun _ _ _ _ _ => pg_name (i := 1) nd rfl (Or.inl rfl)) (fun _ _ _ _ _ => pts_one (ptNotStr mI mS (pv 1))) (fun _ _ _ _ _ => pv 1)) pa_nil))), ?_⟩
    have go : ∀ {J : It} {G : Hp → Prop}, Walk J (wv wd).length G (YAt (wv wd)) → (∀ H', Same H H' → G H') → ∀ D, H D = none → ∀ (Qd : Hp → Prop), (∀ H', Same H H' → H' D = some (SetO w D (hasI wd) (numI wd)) → Qd H') →
        ∃ W : Nat → Nat → Hp → Prop, (∃ m, W 0 m (upd H D (SetO w D (fun _ => false) 0))) ∧ ∀ i m H, W i m H → (J.stop i H ∧ Qd H) ∨
          (J.go i H ∧ ∃ Nx : Hp → Prop, (∀ H', Nx H' → ∃ m', m' < m ∧ W (i + 1) m' H') ∧ ∀ x H', J.yld i H x H' → gName 1 x (wipe (L2.start n_letters_in [V.ref a]) [1]) H' fun σ2 H2 => wipe σ2 [1] = wipe (L2.start n_letters_in [V.ref a]) [1] ∧ tNotStr K 1 σ2 H2 fun b H3 =>
            if b = true then tVar 1 σ2 H3 fun y H4 => ∃ (k : Int) (S : Int → Bool) (n : Nat), y = .int k ∧ H4 D = some (SetO w D S n) ∧ n + 1 < scanBound ∧ Nx (upd H4 D (SetO w D (fun j => S j || decide (j = k)) (if S k = true then n else n + 1))) else Nx H3) := by
      intro J G wk hG D nD Qd hq
      refine sci_it wk (fun i H' => Same H H' ∧ H' D = some (SetO w D (hasI (wd.take i)) (numI (wd.take i)))) ⟨same_upd nD, upd_same⟩ (fun i H' _ p => hG H' p.1) ?_ ?_
      · rintro i x H1 H2 hi ⟨S1, hD⟩ ⟨rfl, hx⟩
        obtain ⟨sy, hs, rfl⟩ := wv_get hx
        obtain ⟨tn, tb, ht, hk, htb⟩ := ty_sy (K := K) (H := H2) sy
        refine ⟨rfl, _, rfl, sy.v, tn, tb, rfl, ht, hk, tb, rfl, ?_⟩
        subst htb
        rw [Bool.not_not, take_more hs]
        cases sy with
        | l k =>
          refine iteT ⟨_, rfl, (k : Int), hasI (wd.take i), numI (wd.take i), rfl, hD, ?_, sPut S1 nD, ?_⟩
          · have := numI_le (wd.take i)
            exact Nat.lt_of_le_of_lt (show numI (wd.take i) + 1 ≤ 9 by omega) (by decide)
          · rw [upd_same, numI_app _ (hb k (List.mem_of_getElem? hs))]
            congr 2
            funext j
            rw [hasI_app]
            rfl
        | p => exact iteF ⟨S1, by rw [hD]; congr 2; exact (funext fun j => by rw [hasI_app, show isI .p j = false from rfl, Bool.or_false]); simp only [numI, hasI_app]; simp [isI]⟩
        | m => exact iteF ⟨S1, by rw [hD]; congr 2; exact (funext fun j => by rw [hasI_app, show isI .m j = false from rfl, Bool.or_false]); simp only [numI, hasI_app]; simp [isI]⟩
        | o => exact iteF ⟨S1, by rw [hD]; congr 2; exact (funext fun j => by rw [hasI_app, show isI .o j = false from rfl, Bool.or_false]); simp only [numI, hasI_app]; simp [isI]⟩
        | c => exact iteF ⟨S1, by rw [hD]; congr 2; exact (funext fun j => by rw [hasI_app, show isI .c j = false from rfl, Bool.or_false]); simp only [numI, hasI_app]; simp [isI]⟩
      · rintro H1 ⟨S1, hD⟩
        rw [List.length_map, List.take_length] at hD
        exact hq H1 S1 hD
    have fin : ∀ (D : Addr) (H' : Hp), Same H H' → H' D = some (SetO w D (hasI wd) (numI wd)) → rSortedSet w [.ref D] H' Q := by
      intro D H' S1 hD
      refine ⟨D, hasI wd, numI wd, rfl, hD, Nat.lt_of_le_of_lt (numI_le wd) (by decide), fun ns p hs hm hl np => ?_⟩
      obtain ⟨ls, rfl⟩ := nat_list (ns := ns) fun i hi => by
        have h1 := (hm i).mp hi
        unfold hasI at h1
        obtain ⟨s, _, e⟩ := List.any_eq_true.mp h1
        cases s with
        | l j => have : i = (j : Int) := of_decide_eq_true e; omega
        | p => cases e
        | m => cases e
        | o => cases e
        | c => cases e
      refine q _ p ls (sUpd S1 np) (S1.free np) ?_ (fun k => ?_) ?_
      · rw [upd_same, List.map_map]; rfl
      · rw [← hasI_mem, ← hm (k : Int)]
        constructor
        · intro h; exact List.mem_map.mpr ⟨k, h, rfl⟩
        · intro h
          obtain ⟨j, hj, e⟩ := List.mem_map.mp h
          have : j = k := by omega
          rw [← this]; exact hj
      · rw [List.length_map] at hl
        rw [hl]; exact numI_le wd
    rcases ha with ha | ha
    · exact ⟨a, rfl, .inl ⟨⟨_, ha⟩, fun D nD => go walk_list (fun H' S => S.seq ha) D nD _ fun H' S1 hD => fin D H' S1 hD⟩⟩
    · exact ⟨a, rfl, .inr ⟨⟨_, ha⟩, fun D nD => go walk_tup (fun H' S => sTup S ha) D nD _ fun H' S1 hD => fin D H' S1 hD⟩⟩
end
end SK
namespace SK
open PySem PySem.Spec PyProof.Rows L2
/-- a walk by an invariant, told by what one turn brings -/
theorem walk_by {J : It} {n : Nat} {G : Hp → Prop} {Y : Nat → Hp → V → Hp → Prop} (wk : Walk J n G Y) {H0 : Hp} {turn : V → Hp → (Hp → Prop) → Prop} {Qd : Hp → Prop} (Pv : Nat → Hp → Prop) (h0 : Pv 0 H0) (hG : ∀ i H, Pv i H → G H)
    (hs : ∀ i x H H', i < n → Pv i H → Y i H x H' → turn x H' (Pv (i + 1))) (hd : ∀ H, Pv n H → Qd H) : ∃ W : Nat → Nat → Hp → Prop, (∃ m, W 0 m H0) ∧ ∀ i m H, W i m H → (J.stop i H ∧ Qd H) ∨
      (J.go i H ∧ ∃ Nx : Hp → Prop, (∀ H', Nx H' → ∃ m', m' < m ∧ W (i + 1) m' H') ∧ ∀ x H', J.yld i H x H' → turn x H' Nx) := by
  refine ⟨fun i m H => m = n - i ∧ i ≤ n ∧ Pv i H, ⟨_, rfl, Nat.zero_le _, h0⟩, ?_⟩
  rintro i m H ⟨rfl, hi, p⟩
  have q := hG i H p
  by_cases hlt : i < n
  · exact .inr ⟨wk.goes i H hlt q, Pv (i + 1), fun H' p' => ⟨_, by omega, rfl, hlt, p'⟩, fun x H' y => hs i x H H' hlt p (wk.yields i H x H' hlt q y)⟩
  · have e : i = n := by omega
    subst e
    exact .inl ⟨wk.stops H q, hd H p⟩
def spNext : Sp := fun vs H Q _ => ∃ (p l : Addr) (as : List Addr) (ws : List (List Sy)) (ls : List Nat), vs = [.ref p, .ref l] ∧ H p = some (.tup (as.map V.ref)) ∧ Words H as ws ∧ H l = some (.lst (iV ls)) ∧ (∀ k ∈ ls, k < ws.length) ∧ ls.length ≤ 8 ∧ ws.length ≤ 8 ∧ (∀ w ∈ ws, Good ws.length 40 w) ∧
  ∀ (H' : Hp) (q : Addr) (ls' : List Nat), Same H H' → H q = none → H' q = some (.lst (iV ls')) → (∀ k, k ∈ ls' ↔ ∃ j ∈ ls, Sy.l k ∈ ws.getD j []) → ls'.length ≤ 8 → Q (.ref q) H'
section
variable {P : Program} {w : World} {K : PySem.W.Frag} {mg : Str → Option Value} {base : Heap}
theorem ok_next {f : Addr} {fd : FuncData} {k : Nat} (F : Fun K "next_letters" "next_letters" s_next_letters f fd) (GL : Got P w K mg base "letters_in" k ["parts"] (spLettersIn K)) : FnOk P w K mg base CX0 (k + 1) f fd ["words", "letters"] spNext := by
  refine F.ok sc_next_letters (fun vs H Q E h => ?_) (fun cdv A outer s H vs Q E hr h => ?_)
  · obtain ⟨p, l, as, ws, ls, rfl, _⟩ := h
    rfl
  · obtain ⟨p, l, as, ws, ls, rfl, hp, hw, hl, hk, hz, hz2, hg, q⟩ := h
    have nd := sc_next_letters.nd
    refine ⟨_, pss_one (ps_ret (pcall GL hr (pa_cons
      (pe_lc2 (own := [("letter", 2), ("part", 3)]) (vs1 := [3]) (wi1 := iTup K (tOp (rIxT K) (tVar 0) (tVar 2))) (g := gName 2) (g1 := gName 3) (tt := tYes) (tt1 := tYes) rfl nd (pi_list (pv 1)) (blkOk_by (N := n_next_letters) (sc := defScope s_next_letters) (by decide +kernel)) (by decide)
        (fun _ _ _ _ _ => pg_name (i := 2) nd rfl (Or.inl rfl)) (fun _ _ _ _ _ => pts_nil) (fun _ _ _ _ _ => pi_tup (pixT (pv 0) (pv 2))) (fun _ _ _ _ _ => pg_name (i := 3) nd rfl (Or.inl rfl)) (fun _ _ _ _ _ => pts_nil) (fun _ _ _ _ _ => pv 3)) pa_nil))), ?_⟩
    refine ⟨_, rfl, l, rfl, ⟨_, SqL.of hl⟩, fun D nD => ?_⟩
    have lz : ∀ i, ((ls.take i).flatMap fun j => ws.getD j []).length ≤ 40 * 8 := by
      have : ∀ js : List Nat, ((js.flatMap fun j => ws.getD j []).length) ≤ 40 * js.length := by
        intro js
        induction js with
        | nil => exact Nat.zero_le _
        | cons j js ih =>
          rw [List.flatMap_cons, List.length_append, List.length_cons]
          have : (ws.getD j []).length ≤ 40 := by
            rw [List.getD_eq_getElem?_getD]
            cases e : ws[j]? with
            | none => exact Nat.zero_le _
            | some w => exact (hg w (List.mem_of_getElem? e)).len
          omega
      intro i
      have h1 := this (ls.take i)
      have h2 : (ls.take i).length ≤ ls.length := by rw [List.length_take]; omega
      omega
    refine walk_by (walk_list (K := K) (a := l) (xs := iV ls)) (fun i H' => Same H H' ∧ H' D = some (.lst (wv ((ls.take i).flatMap fun j => ws.getD j [])))) ⟨same_upd nD, upd_same⟩ (fun i H' p => p.1.seq (SqL.of hl)) ?_ ?_
    · rintro i x H1 H2 hi ⟨S1, hD⟩ ⟨rfl, hx⟩
      obtain ⟨j, hj, rfl⟩ : ∃ j, ls[i]? = some j ∧ x = V.int (j : Int) := by
        unfold iV at hx
        rw [List.getElem?_map] at hx
        cases e : ls[i]? with
        | none => rw [e] at hx; cases hx
        | some j => rw [e] at hx; exact ⟨j, rfl, (Option.some.inj hx).symm⟩
      have hjw := hk j (List.mem_of_getElem? hj)
      obtain ⟨a, ha, hta⟩ := paired_get hw (List.getElem?_eq_getElem hjw)
      have ej : ws.getD j [] = ws[j] := by rw [List.getD_eq_getElem?_getD, List.getElem?_eq_getElem hjw]; rfl
      have gj := (hg _ (List.getElem_mem hjw)).len
      have et : ((ls.take (i + 1)).flatMap fun j => ws.getD j []) = ((ls.take i).flatMap fun j => ws.getD j []) ++ ws[j] := by
        rw [take_more hj, List.flatMap_append, List.flatMap_cons, List.flatMap_nil, List.append_nil, ej]
      have li := lz i
      rw [et]
      generalize ((ls.take i).flatMap fun j => ws.getD j []) = acc at hD li
      generalize ws[j] = wj at hta gj
      refine ⟨rfl, _, rfl, _, rfl, p, _, _, .ref a, rfl, rfl, SqT.of (S1 _ _ hp), atI_nat (by rw [List.getElem?_map, ha]; rfl), a, rfl, ⟨_, (hta.same S1).sq⟩, ?_⟩
      refine walk_by (walk_tup (K := K) (a := a) (xs := wv wj)) (fun m H' => Same H H' ∧ H' D = some (.lst (wv (acc ++ wj.take m)))) ⟨S1, by rw [hD, List.take_zero, List.append_nil]⟩ (fun m H' p => (hta.same p.1).sq) ?_ ?_
      · rintro m y H3 H4 hm ⟨S3, hD3⟩ ⟨rfl, hy⟩
        obtain ⟨s, hs, rfl⟩ := wv_get hy
        refine ⟨rfl, _, rfl, _, hD3, ?_, sPut S3 nD, ?_⟩
        · have : (wj.take m).length ≤ wj.length := by rw [List.length_take]; omega
          rw [List.length_map, List.length_append, sizeLine_eq]; omega
        · rw [upd_same, take_more hs, ← List.append_assoc]
          simp only [wv, List.map_append, List.map_cons, List.map_nil]
      · rintro H3 ⟨S3, hD3⟩
        rw [List.length_map, List.take_length] at hD3
        exact ⟨S3, hD3⟩
    · rintro H1 ⟨S1, hD⟩
      have hD' : H1 D = some (.lst (wv (ls.flatMap fun j => ws.getD j []))) := by
        rw [hD]
        unfold iV
        rw [List.length_map, List.take_length]
      refine ⟨D, _, rfl, .inl (SqL.of hD'), fun k hk2 => ?_, fun H2 p2 ls' S2 n2 h2 hm hl2 => q H2 p2 ls' (S1.trans S2) (S1.free n2) h2 (fun k => ?_) hl2⟩
      · obtain ⟨j, hj, h⟩ := List.mem_flatMap.mp hk2
        rw [List.getD_eq_getElem?_getD] at h
        cases e : ws[j]? with
        | none => rw [e] at h; cases h
        | some w => rw [e] at h; have := (hg w (List.mem_of_getElem? e)).lets k h; omega
      · rw [hm, List.mem_flatMap]
end
end SK
namespace SK
open PySem PySem.Spec PyProof.Rows L2
/-! ### a pen along paths: each letter a whole path, that ends somewhere -/
abbrev Plc := Int × Int × Int
abbrev Pth := Nat → Plc
def rot (h : Int) (p : Int × Int) : Int × Int := if h % 4 = 0 then p else if h % 4 = 1 then (-p.2, p.1) else if h % 4 = 2 then (-p.1, -p.2) else (p.2, -p.1)
/-- a place with a heading, as seen from another one -/
def mv (a q : Plc) : Plc := (a.1 + (rot a.2.2 (q.1, q.2.1)).1, a.2.1 + (rot a.2.2 (q.1, q.2.1)).2, (a.2.2 + q.2.2) % 4)
def sh (a : Plc) (s : Stk) : Stk := ((mv a (s.1, s.2.1, s.2.2.1)).1, (mv a (s.1, s.2.1, s.2.2.1)).2.1, (mv a (s.1, s.2.1, s.2.2.1)).2.2, s.2.2.2)
def Pen.pl (p : Pen) : Plc := (p.x, p.y, p.h)
def pstepE (E : Pth) (p : Pen) : Sy → Pen
  | .l k => { p with out := p.out ++ [(p.x, p.y, p.h, k)], x := (mv p.pl (E k)).1, y := (mv p.pl (E k)).2.1, h := (mv p.pl (E k)).2.2 }
  | s => pstep p s
def penF (E : Pth) (p : Pen) (w : List Sy) : Pen := w.foldl (pstepE E) p
def org : Pen := ⟨0, 0, 0, [], []⟩
def penE (E : Pth) (w : List Sy) : Pen := penF E org w
/-- each letter a stroke -/
def one : Pth := fun _ => (1, 0, 0)
theorem penF_app (E : Pth) (p : Pen) (v w : List Sy) : penF E p (v ++ w) = penF E (penF E p v) w := List.foldl_append
theorem penF_cons (E : Pth) (p : Pen) (s : Sy) (w : List Sy) : penF E p (s :: w) = penF E (pstepE E p s) w := rfl
theorem rot_mod (h : Int) (p : Int × Int) : rot (h % 4) p = rot h p := by
  unfold rot
  rw [show h % 4 % 4 = h % 4 by omega]
theorem rot4 (h : Int) : (h % 4 = 0 ∧ ∀ p, rot h p = p) ∨ (h % 4 = 1 ∧ ∀ p, rot h p = (-p.2, p.1)) ∨ (h % 4 = 2 ∧ ∀ p, rot h p = (-p.1, -p.2)) ∨ (h % 4 = 3 ∧ ∀ p, rot h p = (p.2, -p.1)) := by
  have e : h % 4 = 0 ∨ h % 4 = 1 ∨ h % 4 = 2 ∨ h % 4 = 3 := by omega
  rcases e with e | e | e | e
  · exact .inl ⟨e, fun p => by unfold rot; rw [if_pos e]⟩
  · exact .inr (.inl ⟨e, fun p => by unfold rot; rw [if_neg (by omega), if_pos e]⟩)
  · exact .inr (.inr (.inl ⟨e, fun p => by unfold rot; rw [if_neg (by omega), if_neg (by omega), if_pos e]⟩))
  · exact .inr (.inr (.inr ⟨e, fun p => by unfold rot; rw [if_neg (by omega), if_neg (by omega), if_neg (by omega)]⟩))
theorem rot_rot (a b : Int) (p : Int × Int) : rot a (rot b p) = rot (a + b) p := by
  obtain ⟨x, y⟩ := p
  rcases rot4 a with ⟨ha, ea⟩ | ⟨ha, ea⟩ | ⟨ha, ea⟩ | ⟨ha, ea⟩ <;> rcases rot4 b with ⟨hb, eb⟩ | ⟨hb, eb⟩ | ⟨hb, eb⟩ | ⟨hb, eb⟩ <;>
    rcases rot4 (a + b) with ⟨hc, ec⟩ | ⟨hc, ec⟩ | ⟨hc, ec⟩ | ⟨hc, ec⟩ <;> first | (exfalso; omega) | (rw [ea, eb, ec] <;> first | done | (refine Prod.ext ?_ ?_ <;> dsimp only <;> omega))
theorem rot_add (h : Int) (p q : Int × Int) : rot h (p.1 + q.1, p.2 + q.2) = ((rot h p).1 + (rot h q).1, (rot h p).2 + (rot h q).2) := by
  rcases rot4 h with ⟨ha, ea⟩ | ⟨ha, ea⟩ | ⟨ha, ea⟩ | ⟨ha, ea⟩ <;> rw [ea, ea, ea] <;> simp <;> omega
theorem mv_mv (a b c : Plc) : mv (mv a b) c = mv a (mv b c) := by
  have e1 : rot (mv a b).2.2 (c.1, c.2.1) = rot a.2.2 (rot b.2.2 (c.1, c.2.1)) := by
    rw [rot_rot]
    show rot ((a.2.2 + b.2.2) % 4) _ = _
    rw [rot_mod]
  have e2 := rot_add a.2.2 (b.1, b.2.1) (rot b.2.2 (c.1, c.2.1))
  show ((mv a b).1 + (rot (mv a b).2.2 (c.1, c.2.1)).1, (mv a b).2.1 + (rot (mv a b).2.2 (c.1, c.2.1)).2, ((mv a b).2.2 + c.2.2) % 4) =
    (a.1 + (rot a.2.2 (b.1 + (rot b.2.2 (c.1, c.2.1)).1, b.2.1 + (rot b.2.2 (c.1, c.2.1)).2)).1, a.2.1 + (rot a.2.2 (b.1 + (rot b.2.2 (c.1, c.2.1)).1, b.2.1 + (rot b.2.2 (c.1, c.2.1)).2)).2, (a.2.2 + (b.2.2 + c.2.2) % 4) % 4)
  rw [e1, e2]
  refine Prod.ext ?_ (Prod.ext ?_ ?_)
  · show a.1 + (rot a.2.2 (b.1, b.2.1)).1 + _ = a.1 + ((rot a.2.2 (b.1, b.2.1)).1 + _)
    omega
  · show a.2.1 + (rot a.2.2 (b.1, b.2.1)).2 + _ = a.2.1 + ((rot a.2.2 (b.1, b.2.1)).2 + _)
    omega
  · show ((a.2.2 + b.2.2) % 4 + c.2.2) % 4 = (a.2.2 + (b.2.2 + c.2.2) % 4) % 4
    omega
/-- a pen as seen from a place, with what stood ahead of it -/
def comp (a : Plc) (st : List Plc) (out : List Stk) (q : Pen) : Pen := ⟨(mv a q.pl).1, (mv a q.pl).2.1, (mv a q.pl).2.2, st ++ q.st.map (mv a), out ++ q.out.map (sh a)⟩
theorem comp_step (E : Pth) (a : Plc) (st : List Plc) (out : List Stk) (q : Pen) (s : Sy) (h : s = .c → q.st ≠ []) : pstepE E (comp a st out q) s = comp a st out (pstepE E q s) := by
  cases s with
  | o =>
    show Pen.mk _ _ _ _ _ = Pen.mk _ _ _ _ _
    congr 1
    show (st ++ q.st.map (mv a)) ++ [_] = st ++ (q.st ++ [_]).map (mv a)
    rw [List.map_append, List.append_assoc]
    rfl
  | c =>
    have hne := h rfl
    obtain ⟨t, ht⟩ : ∃ t, q.st.getLast? = some t := ⟨_, List.getLast?_eq_getLast hne⟩
    obtain ⟨tx, ty, th⟩ := t
    have e1 : pstepE E q .c = { q with x := tx, y := ty, h := th, st := q.st.dropLast } := by
      show (match q.st.getLast? with
        | some (a, b, c) => { q with x := a, y := b, h := c, st := q.st.dropLast }
        | none => q) = _
      rw [ht]
    have h2 : (comp a st out q).st.getLast? = some (mv a (tx, ty, th)) := by
      show (st ++ q.st.map (mv a)).getLast? = _
      rw [List.getLast?_append, List.getLast?_map, ht]
      rfl
    have e2 : pstepE E (comp a st out q) .c = { comp a st out q with x := (mv a (tx, ty, th)).1, y := (mv a (tx, ty, th)).2.1, h := (mv a (tx, ty, th)).2.2, st := (comp a st out q).st.dropLast } := by
      show (match (comp a st out q).st.getLast? with
        | some (a', b, c) => { comp a st out q with x := a', y := b, h := c, st := (comp a st out q).st.dropLast }
        | none => comp a st out q) = _
      rw [h2]
    rw [e1, e2]
    show Pen.mk _ _ _ _ _ = Pen.mk _ _ _ _ _
    congr 1
    show (st ++ q.st.map (mv a)).dropLast = st ++ q.st.dropLast.map (mv a)
    rw [List.dropLast_append_of_ne_nil (by simpa using hne), List.map_dropLast]
  | p =>
    show Pen.mk _ _ _ _ _ = Pen.mk _ _ _ _ _
    congr 1
    show ((a.2.2 + q.h) % 4 + 1) % 4 = (a.2.2 + (q.h + 1) % 4) % 4
    omega
  | m =>
    show Pen.mk _ _ _ _ _ = Pen.mk _ _ _ _ _
    congr 1
    show ((a.2.2 + q.h) % 4 + 3) % 4 = (a.2.2 + (q.h + 3) % 4) % 4
    omega
  | l k =>
    have e : mv (comp a st out q).pl (E k) = mv a (mv q.pl (E k)) := mv_mv a q.pl (E k)
    show Pen.mk _ _ _ _ _ = Pen.mk _ _ _ _ _
    rw [e]
    congr 1
    show (out ++ q.out.map (sh a)) ++ [_] = out ++ (q.out ++ [_]).map (sh a)
    rw [List.map_append, List.append_assoc]
    rfl
theorem st_step (E : Pth) (q : Pen) (s : Sy) {d : Nat} (h : nest [s] q.st.length = some d) : (pstepE E q s).st.length = d := by
  cases s with
  | o =>
    have h : some (q.st.length + 1) = some d := h
    show (q.st ++ [_]).length = d
    rw [List.length_append]
    exact Option.some.inj h
  | c =>
    cases hs : q.st.getLast? with
    | none =>
      rw [List.getLast?_eq_none_iff] at hs
      rw [hs] at h
      cases h
    | some t =>
      obtain ⟨a, b, c⟩ := t
      have e2 : pstepE E q .c = { q with x := a, y := b, h := c, st := q.st.dropLast } := by
        show (match q.st.getLast? with
          | some (a, b, c) => { q with x := a, y := b, h := c, st := q.st.dropLast }
          | none => q) = _
        rw [hs]
      rw [e2]
      show q.st.dropLast.length = d
      have hne : 1 ≤ q.st.length := List.length_pos_iff.mpr fun z => by rw [z] at hs; cases hs
      obtain ⟨e, he⟩ : ∃ e, q.st.length = e + 1 := ⟨_, (Nat.sub_add_cancel hne).symm⟩
      rw [he] at h
      have h : some e = some d := h
      rw [List.length_dropLast, he]
      have := Option.some.inj h
      omega
  | p => exact Option.some.inj h
  | m => exact Option.some.inj h
  | l k => exact Option.some.inj h
theorem nest_cons (s : Sy) (w : List Sy) (d : Nat) : nest (s :: w) d = (nest [s] d).bind (nest w) := nest_app [s] w d
theorem st_run (E : Pth) : ∀ (w : List Sy) (q : Pen) {d : Nat}, nest w q.st.length = some d → (penF E q w).st.length = d
  | [], q, d, h => Option.some.inj h
  | s :: w, q, d, h => by
    rw [nest_cons] at h
    cases h1 : nest [s] q.st.length with
    | none => rw [h1] at h; cases h
    | some e =>
      rw [h1] at h
      have e1 := st_step E q s h1
      exact st_run E w (pstepE E q s) (by rw [e1]; exact h)
theorem comp_run (E : Pth) (a : Plc) (st : List Plc) (out : List Stk) : ∀ (w : List Sy) (q : Pen), nest w q.st.length ≠ none → penF E (comp a st out q) w = comp a st out (penF E q w)
  | [], q, _ => rfl
  | s :: w, q, h => by
    rw [nest_cons] at h
    cases h1 : nest [s] q.st.length with
    | none => rw [h1] at h; exact absurd rfl h
    | some e =>
      rw [h1] at h
      have e1 := st_step E q s h1
      rw [penF_cons, penF_cons, comp_step E a st out q s, comp_run E a st out w (pstepE E q s) (by rw [e1]; exact h)]
      rintro rfl z
      rw [z] at h1
      cases h1
/-- headings are 0 to 3 -/
structure HOk (p : Pen) : Prop where
  h : 0 ≤ p.h ∧ p.h < 4
  st : ∀ q ∈ p.st, 0 ≤ q.2.2 ∧ q.2.2 < 4
  out : ∀ q ∈ p.out, 0 ≤ q.2.2.1 ∧ q.2.2.1 < 4
theorem hok_org : HOk org := ⟨⟨by decide, by decide⟩, (fun q h => nomatch h), (fun q h => nomatch h)⟩
theorem hok_step {E : Pth} {p : Pen} (k : HOk p) (s : Sy) : HOk (pstepE E p s) := by
  cases s with
  | o =>
    refine ⟨k.h, fun q hq => ?_, k.out⟩
    rcases List.mem_append.mp (show q ∈ p.st ++ [_] from hq) with h | h
    · exact k.st q h
    · rw [List.mem_singleton.mp h]; exact k.h
  | c =>
    cases hs : p.st.getLast? with
    | none =>
      have e2 : pstepE E p .c = p := by
        show (match p.st.getLast? with
          | some (a, b, c) => { p with x := a, y := b, h := c, st := p.st.dropLast }
          | none => p) = _
        rw [hs]
      rw [e2]
      exact k
    | some t =>
      obtain ⟨a, b, c⟩ := t
      have e2 : pstepE E p .c = { p with x := a, y := b, h := c, st := p.st.dropLast } := by
        show (match p.st.getLast? with
          | some (a, b, c) => { p with x := a, y := b, h := c, st := p.st.dropLast }
          | none => p) = _
        rw [hs]
      rw [e2]
      exact ⟨k.st _ (List.mem_of_getLast? hs), fun q hq => k.st q (List.dropLast_subset _ hq), k.out⟩
  | p => exact ⟨⟨by show 0 ≤ (p.h + 1) % 4; omega, by show (p.h + 1) % 4 < 4; omega⟩, k.st, k.out⟩
  | m => exact ⟨⟨by show 0 ≤ (p.h + 3) % 4; omega, by show (p.h + 3) % 4 < 4; omega⟩, k.st, k.out⟩
  | l j =>
    refine ⟨⟨by show 0 ≤ (p.h + (E j).2.2) % 4; omega, by show (p.h + (E j).2.2) % 4 < 4; omega⟩, k.st, fun q hq => ?_⟩
    rcases List.mem_append.mp (show q ∈ p.out ++ [_] from hq) with h | h
    · exact k.out q h
    · rw [List.mem_singleton.mp h]; exact k.h
theorem hok_run {E : Pth} : ∀ (w : List Sy) {p : Pen}, HOk p → HOk (penF E p w)
  | [], p, k => k
  | s :: w, p, k => hok_run w (hok_step k s)
theorem pen_ext {p q : Pen} (h : p.pl = q.pl) (s : p.st = q.st) (o : p.out = q.out) : p = q := by
  obtain ⟨x, y, h1, st, out⟩ := p
  obtain ⟨x', y', h', st', out'⟩ := q
  cases h
  cases s
  cases o
  rfl
theorem comp_org {p : Pen} (k : HOk p) : comp p.pl p.st p.out org = p := by
  have e : mv p.pl org.pl = p.pl := by
    have e0 : rot p.h (0, 0) = (0, 0) := by rcases rot4 p.h with ⟨_, e⟩ | ⟨_, e⟩ | ⟨_, e⟩ | ⟨_, e⟩ <;> rw [e] <;> rfl
    refine Prod.ext ?_ (Prod.ext ?_ ?_)
    · show p.x + (rot p.h (0, 0)).1 = p.x
      rw [e0]; omega
    · show p.y + (rot p.h (0, 0)).2 = p.y
      rw [e0]; omega
    · show (p.h + 0) % 4 = p.h
      have := k.h
      omega
  refine pen_ext ?_ ?_ ?_
  · exact e
  · exact List.append_nil _
  · exact List.append_nil _
/-- a whole word from wherever the pen stands -/
theorem path_run (E : Pth) {w : List Sy} (hw : nest w 0 = some 0) {p : Pen} (k : HOk p) : (penF E p w).pl = mv p.pl (penE E w).pl ∧ (penF E p w).st = p.st ∧ (penF E p w).out = p.out ++ (penE E w).out.map (sh p.pl) := by
  have e : penF E p w = comp p.pl p.st p.out (penE E w) := by
    have h := comp_run E p.pl p.st p.out w org (by show nest w 0 ≠ none; rw [hw]; exact fun z => nomatch z)
    rw [comp_org k] at h
    exact h
  have hst : (penE E w).st = [] := List.eq_nil_of_length_eq_zero (st_run E w org (show nest w 0 = some 0 from hw))
  rw [e]
  refine ⟨rfl, ?_, rfl⟩
  show p.st ++ (penE E w).st.map (mv p.pl) = p.st
  rw [hst]
  exact List.append_nil _
/-- what a stroke of the coarser path is drawn as -/
def fine (E : Pth) (ws : List (List Sy)) (s : Stk) : List Stk := (penE E (ws.getD s.2.2.2 [])).out.map (sh (s.1, s.2.1, s.2.2.1))
theorem grow_pen {ws : List (List Sy)} {E E' : Pth} : ∀ (w : List Sy), (∀ k, Sy.l k ∈ w → nest (ws.getD k []) 0 = some 0 ∧ E' k = (penE E (ws.getD k [])).pl) → ∀ (p p' : Pen), p.pl = p'.pl → p.st = p'.st → HOk p → p.out = p'.out.flatMap (fine E ws) →
    (penF E p (grow ws w)).pl = (penF E' p' w).pl ∧ (penF E p (grow ws w)).st = (penF E' p' w).st ∧ (penF E p (grow ws w)).out = (penF E' p' w).out.flatMap (fine E ws)
  | [], _, p, p', h1, h2, _, h4 => ⟨h1, h2, h4⟩
  | s :: w, hw, p, p', h1, h2, hk, h4 => by
    have hw' : ∀ k, Sy.l k ∈ w → nest (ws.getD k []) 0 = some 0 ∧ E' k = (penE E (ws.getD k [])).pl := fun k hk => hw k (List.mem_cons_of_mem _ hk)
    rw [show grow ws (s :: w) = img ws s ++ grow ws w from rfl, penF_app, penF_cons]
    have step : ∀ q q' : Pen, q.pl = q'.pl → q.st = q'.st → HOk q → q.out = q'.out.flatMap (fine E ws) → _ := fun q q' a b c d => grow_pen w hw' q q' a b c d
    have hxy : p.x = p'.x ∧ p.y = p'.y ∧ p.h = p'.h := ⟨congrArg (·.1) h1, congrArg (·.2.1) h1, congrArg (·.2.2) h1⟩
    cases s with
    | l k =>
      obtain ⟨hn, he⟩ := hw k List.mem_cons_self
      obtain ⟨r1, r2, r3⟩ := path_run E hn hk
      refine step _ _ ?_ (r2.trans h2) (hok_run _ hk) ?_
      · show (penF E p (ws.getD k [])).pl = mv p'.pl (E' k)
        rw [r1, h1, he]
      · show (penF E p (ws.getD k [])).out = (p'.out ++ [(p'.x, p'.y, p'.h, k)]).flatMap (fine E ws)
        rw [r3, h4, List.flatMap_append, h1]
        simp only [List.flatMap_cons, List.flatMap_nil, List.append_nil]
        rfl
    | o =>
      refine step _ _ h1 ?_ (hok_step (E := E) hk .o) h4
      show p.st ++ [(p.x, p.y, p.h)] = p'.st ++ [(p'.x, p'.y, p'.h)]
      rw [h2, hxy.1, hxy.2.1, hxy.2.2]
    | c =>
      show _
      have e : ∀ (F : Pth) (q : Pen), pstepE F q .c = match q.st.getLast? with
        | some (a, b, c) => { q with x := a, y := b, h := c, st := q.st.dropLast }
        | none => q := fun _ _ => rfl
      refine step (pstepE E p .c) (pstepE E' p' .c) ?_ ?_ (hok_step (E := E) hk .c) ?_ <;> rw [e, e, h2] <;> cases p'.st.getLast? <;> first | exact h1 | exact h2 | exact h4 | rfl
    | p =>
      refine step _ _ ?_ h2 (hok_step (E := E) hk .p) h4
      show (p.x, p.y, (p.h + 1) % 4) = (p'.x, p'.y, (p'.h + 1) % 4)
      rw [hxy.1, hxy.2.1, hxy.2.2]
    | m =>
      refine step _ _ ?_ h2 (hok_step (E := E) hk .m) h4
      show (p.x, p.y, (p.h + 3) % 4) = (p'.x, p'.y, (p'.h + 3) % 4)
      rw [hxy.1, hxy.2.1, hxy.2.2]
theorem dir_rot {h : Int} (h0 : 0 ≤ h) (h4 : h < 4) : dir h = rot h (1, 0) := by
  have e : h = 0 ∨ h = 1 ∨ h = 2 ∨ h = 3 := by omega
  rcases e with rfl | rfl | rfl | rfl <;> rfl
/-- the pen of strokes is the pen along paths of one step -/
theorem pstep_one {p : Pen} (k : HOk p) (s : Sy) : pstepE one p s = pstep p s := by
  cases s with
  | l j =>
    show Pen.mk _ _ _ _ _ = Pen.mk _ _ _ _ _
    rw [dir_rot k.h.1 k.h.2]
    congr 1
    show (p.h + 0) % 4 = p.h
    have := k.h
    omega
  | o => rfl
  | c => rfl
  | p => rfl
  | m => rfl
theorem pen_one' : ∀ (w : List Sy) {p : Pen}, HOk p → penF one p w = w.foldl pstep p
  | [], p, _ => rfl
  | s :: w, p, k => by
    rw [penF_cons, pen_one' w (hok_step k s), pstep_one k]
    rfl
theorem pen_one (w : List Sy) : penE one w = pen w := pen_one' w hok_org
theorem hok_pen (w : List Sy) : HOk (pen w) := by
  rw [← pen_one]
  exact hok_run w hok_org
/-! ### even books -/
def scl (u v : Int) (q : Plc) : Plc := (u * q.1 - v * q.2.1, u * q.2.1 + v * q.1, q.2.2)
def sclS (u v : Int) (s : Stk) : Stk := (u * s.1 - v * s.2.1, u * s.2.1 + v * s.1, s.2.2.1, s.2.2.2)
theorem mv_scl (u v : Int) (a : Plc) : mv (scl u v a) (u, v, 0) = scl u v (mv a (1, 0, 0)) := by
  obtain ⟨x, y, h⟩ := a
  show (u * x - v * y + (rot h (u, v)).1, u * y + v * x + (rot h (u, v)).2, (h + 0) % 4) = (u * (x + (rot h (1, 0)).1) - v * (y + (rot h (1, 0)).2), u * (y + (rot h (1, 0)).2) + v * (x + (rot h (1, 0)).1), (h + 0) % 4)
  rcases rot4 h with ⟨_, e⟩ | ⟨_, e⟩ | ⟨_, e⟩ | ⟨_, e⟩ <;> rw [e, e] <;> refine Prod.ext ?_ (Prod.ext ?_ rfl) <;> simp only [Int.mul_add] <;> omega
def sclP (u v : Int) (p : Pen) : Pen := ⟨(scl u v p.pl).1, (scl u v p.pl).2.1, p.h, p.st.map (scl u v), p.out.map (sclS u v)⟩
theorem sclP_step (u v : Int) (p : Pen) (s : Sy) : pstepE (fun _ => (u, v, 0)) (sclP u v p) s = sclP u v (pstepE one p s) := by
  cases s with
  | l k =>
    have e : mv (sclP u v p).pl (u, v, 0) = scl u v (mv p.pl (1, 0, 0)) := mv_scl u v p.pl
    show Pen.mk _ _ _ _ _ = Pen.mk _ _ _ _ _
    dsimp only
    rw [e]
    congr 1
    show p.out.map (sclS u v) ++ [_] = (p.out ++ [_]).map (sclS u v)
    rw [List.map_append]
    rfl
  | o =>
    show Pen.mk _ _ _ _ _ = Pen.mk _ _ _ _ _
    congr 1
    show p.st.map (scl u v) ++ [_] = (p.st ++ [_]).map (scl u v)
    rw [List.map_append]
    rfl
  | c =>
    have e : ∀ (F : Pth) (q : Pen), pstepE F q .c = match q.st.getLast? with
      | some (a, b, c) => { q with x := a, y := b, h := c, st := q.st.dropLast }
      | none => q := fun _ _ => rfl
    rw [e, e]
    have h2 : (sclP u v p).st.getLast? = p.st.getLast?.map (scl u v) := List.getLast?_map
    rw [h2]
    cases p.st.getLast? with
    | none => rfl
    | some t =>
      obtain ⟨a, b, c⟩ := t
      show Pen.mk _ _ _ _ _ = Pen.mk _ _ _ _ _
      congr 1
      show (p.st.map (scl u v)).dropLast = p.st.dropLast.map (scl u v)
      rw [List.map_dropLast]
  | p => rfl
  | m => rfl
theorem sclP_run (u v : Int) : ∀ (w : List Sy) (p : Pen), penF (fun _ => (u, v, 0)) (sclP u v p) w = sclP u v (penF one p w)
  | [], p => rfl
  | s :: w, p => by
    rw [penF_cons, penF_cons, sclP_step, sclP_run u v w]
theorem org_scl (u v : Int) : sclP u v org = org := by
  show Pen.mk _ _ _ _ _ = Pen.mk _ _ _ _ _
  congr 1
  · show u * 0 - v * 0 = 0
    omega
  · show u * 0 + v * 0 = 0
    omega
/-- the next age of an even book, stroke by stroke -/
theorem even_next {ws : List (List Sy)} {w : List Sy} {u v : Int} (h : ∀ k, Sy.l k ∈ w → nest (ws.getD k []) 0 = some 0 ∧ (pen (ws.getD k [])).pl = (u, v, 0)) :
    strokes (grow ws w) = (strokes w).flatMap fun s => (strokes (ws.getD s.2.2.2 [])).map (sh (u * s.1 - v * s.2.1, u * s.2.1 + v * s.1, s.2.2.1)) := by
  have g := grow_pen (ws := ws) (E := one) (E' := fun _ => (u, v, 0)) w (fun k hk => ⟨(h k hk).1, by rw [pen_one]; exact (h k hk).2.symm⟩) org org rfl rfl hok_org rfl
  have e1 : (penF one org (grow ws w)).out = strokes (grow ws w) := by
    show (penE one (grow ws w)).out = _
    rw [pen_one]; rfl
  have e2 := sclP_run u v w org
  rw [org_scl] at e2
  have e3 : (penF one org w).out = strokes w := by
    show (penE one w).out = _
    rw [pen_one]; rfl
  rw [e1, e2] at g
  rw [g.2.2]
  show ((penF one org w).out.map (sclS u v)).flatMap (fine one ws) = _
  rw [e3, List.flatMap_map]
  congr 1
  funext s
  show (penE one (ws.getD s.2.2.2 [])).out.map _ = _
  rw [pen_one]
  rfl
end SK
namespace SK
open PySem PySem.Spec PyProof.Rows L2
/-! ### what letters become -/
def imgG (G : Nat → List Sy) : Sy → List Sy
  | .l k => G k
  | s => [s]
def growG (G : Nat → List Sy) (w : List Sy) : List Sy := w.flatMap (imgG G)
theorem growG_app (G : Nat → List Sy) (a b : List Sy) : growG G (a ++ b) = growG G a ++ growG G b := List.flatMap_append
theorem growG_one (G : Nat → List Sy) (s : Sy) : growG G [s] = imgG G s := by simp [growG]
theorem growG_take (G : Nat → List Sy) (w : List Sy) (i : Nat) : (growG G (w.take i)).length ≤ (growG G w).length := by
  have e : growG G w = growG G (w.take i) ++ growG G (w.drop i) := by rw [← growG_app, List.take_append_drop]
  rw [e, List.length_append]
  omega
theorem growG_mem {G : Nat → List Sy} {w : List Sy} {k : Nat} (h : Sy.l k ∈ w) : (G k).length ≤ (growG G w).length := by
  obtain ⟨a, b, rfl⟩ := List.append_of_mem h
  have e : growG G (a ++ .l k :: b) = growG G a ++ (G k ++ growG G b) := by rw [growG_app]; rfl
  rw [e, List.length_append, List.length_append]
  omega
/-- what a letter is after so many ages -/
def gI (ws : List (List Sy)) : Nat → Nat → List Sy
  | 0, k => [.l k]
  | i + 1, k => growG (gI ws i) (ws.getD k [])
theorem growG_zero (ws : List (List Sy)) (w : List Sy) : growG (gI ws 0) w = w := by
  induction w with
  | nil => rfl
  | cons s w ih =>
    have e : imgG (gI ws 0) s = [s] := by cases s <;> rfl
    show imgG (gI ws 0) s ++ growG (gI ws 0) w = s :: w
    rw [e, ih]
    rfl
theorem growG_grow (ws : List (List Sy)) (i : Nat) (w : List Sy) : growG (gI ws (i + 1)) w = growG (gI ws i) (grow ws w) := by
  induction w with
  | nil => rfl
  | cons s w ih =>
    have e : imgG (gI ws (i + 1)) s = growG (gI ws i) (img ws s) := by
      cases s with
      | l k => rfl
      | p => exact (growG_one _ _).symm
      | m => exact (growG_one _ _).symm
      | o => exact (growG_one _ _).symm
      | c => exact (growG_one _ _).symm
    show imgG (gI ws (i + 1)) s ++ growG (gI ws (i + 1)) w = _
    rw [e, ih, show grow ws (s :: w) = img ws s ++ grow ws w from rfl, growG_app]
theorem growG_grown (ws : List (List Sy)) (st : List Sy) : ∀ i m, growG (gI ws i) (grown ws st m) = grown ws st (m + i)
  | 0, m => growG_zero ws _
  | i + 1, m => by
    rw [growG_grow]
    have := growG_grown ws st i (m + 1)
    rw [show m + (i + 1) = m + 1 + i by omega]
    exact this
theorem TupS.dict {H : Hp} {D : Addr} {kvs : List (Key × V)} {o : HO} (h : H D = some (.dK kvs)) : TupS H (upd H D o) := by
  refine ⟨fun b ys e => ?_, fun b ob u e => ?_⟩
  · rw [upd_ne (ne_of e h (by intro z; cases z))]
    exact e
  · rw [upd_ne (ne_of e h (by intro z; cases z))]
    exact e
theorem iV_get {ls : List Nat} {i : Nat} {x : V} (h : (iV ls)[i]? = some x) : ∃ k, ls[i]? = some k ∧ x = V.int (k : Int) := by
  unfold iV at h
  rw [List.getElem?_map] at h
  cases e : ls[i]? with
  | none => rw [e] at h; cases h
  | some k => rw [e] at h; exact ⟨k, rfl, (Option.some.inj h).symm⟩
end SK
namespace SK
open PySem PySem.Spec PyProof.Rows L2
/-! ### the letters that come -/
theorem grow_lets2 {ws : List (List Sy)} (hg : ∀ w ∈ ws, Good ws.length 40 w) {w : List Sy} (h : ∀ k, Sy.l k ∈ w → k < ws.length) : ∀ k, Sy.l k ∈ grow ws w → k < ws.length := by
  intro k hk
  obtain ⟨s, hs, hi⟩ := List.mem_flatMap.mp hk
  exact img_lets hg (s := s) (fun j e => h j (e ▸ hs)) k hi
theorem grown_lets' {ws : List (List Sy)} {pst : List Sy} (hg : ∀ w ∈ ws, Good ws.length 40 w) (h : ∀ k, Sy.l k ∈ pst → k < ws.length) : ∀ n k, Sy.l k ∈ grown ws pst n → k < ws.length
  | 0 => h
  | n + 1 => grow_lets2 hg (grown_lets' hg h n)
theorem grow_from {ws : List (List Sy)} {w : List Sy} {k : Nat} : Sy.l k ∈ grow ws w ↔ ∃ j, Sy.l j ∈ w ∧ Sy.l k ∈ ws.getD j [] := by
  constructor
  · intro h
    obtain ⟨s, hs, hi⟩ := List.mem_flatMap.mp h
    cases s with
    | l j => exact ⟨j, hs, hi⟩
    | p => exact absurd (List.mem_singleton.mp hi) (fun z => by cases z)
    | m => exact absurd (List.mem_singleton.mp hi) (fun z => by cases z)
    | o => exact absurd (List.mem_singleton.mp hi) (fun z => by cases z)
    | c => exact absurd (List.mem_singleton.mp hi) (fun z => by cases z)
  · rintro ⟨j, hj, hk⟩
    exact List.mem_flatMap.mpr ⟨_, hj, hk⟩
/-- ahead of an age -/
def Ahead (ws : List (List Sy)) (pst : List Sy) (i k : Nat) : Prop := ∃ m, m < i ∧ Sy.l k ∈ grown ws pst m
/-- the letters that stand first at an age -/
def Fresh (ws : List (List Sy)) (pst : List Sy) (i k : Nat) : Prop := Sy.l k ∈ grown ws pst i ∧ ¬ Ahead ws pst i k
def Comes (ws : List (List Sy)) (pst : List Sy) (k : Nat) : Prop := ∃ m, Sy.l k ∈ grown ws pst m
theorem ahead_succ {ws : List (List Sy)} {pst : List Sy} {i k : Nat} : Ahead ws pst (i + 1) k ↔ Ahead ws pst i k ∨ Fresh ws pst i k := by
  constructor
  · rintro ⟨m, hm, h⟩
    by_cases z : Ahead ws pst i k
    · exact .inl z
    · refine .inr ⟨?_, z⟩
      have e : m = i := by
        by_cases e : m < i
        · exact absurd ⟨m, e, h⟩ z
        · omega
      rw [← e]; exact h
  · rintro (⟨m, hm, h⟩ | ⟨h, _⟩)
    · exact ⟨m, by omega, h⟩
    · exact ⟨i, by omega, h⟩
theorem fresh_succ {ws : List (List Sy)} {pst : List Sy} {i k : Nat} : Fresh ws pst (i + 1) k ↔ (∃ j, Fresh ws pst i j ∧ Sy.l k ∈ ws.getD j []) ∧ ¬ Ahead ws pst (i + 1) k := by
  constructor
  · rintro ⟨h, n⟩
    refine ⟨?_, n⟩
    obtain ⟨j, hj, hk⟩ := grow_from.mp h
    refine ⟨j, ⟨hj, fun ⟨m, hm, z⟩ => n ⟨m + 1, by omega, grow_from.mpr ⟨j, z, hk⟩⟩⟩, hk⟩
  · rintro ⟨⟨j, ⟨hj, _⟩, hk⟩, n⟩
    exact ⟨grow_from.mpr ⟨j, hj, hk⟩, n⟩
/-- where no letter is fresh, all have come -/
theorem comes_all {ws : List (List Sy)} {pst : List Sy} {i : Nat} (h : ∀ k, ¬ Fresh ws pst i k) (k : Nat) : Comes ws pst k ↔ Ahead ws pst i k := by
  refine ⟨fun ⟨m, hm⟩ => ?_, fun ⟨m, _, hm⟩ => ⟨m, hm⟩⟩
  have step : ∀ d k, Sy.l k ∈ grown ws pst (i + d) → Ahead ws pst i k := by
    intro d
    induction d with
    | zero =>
      intro k hk
      by_cases z : Ahead ws pst i k
      · exact z
      · exact absurd ⟨hk, z⟩ (h k)
    | succ d ih =>
      intro k hk
      obtain ⟨j, hj, hkj⟩ := grow_from.mp (show Sy.l k ∈ grow ws (grown ws pst (i + d)) from hk)
      obtain ⟨m, hm, hmj⟩ := ih j hj
      by_cases z : m + 1 < i
      · exact ⟨m + 1, z, grow_from.mpr ⟨j, hmj, hkj⟩⟩
      · by_cases z2 : Ahead ws pst i k
        · exact z2
        · refine absurd ⟨?_, z2⟩ (h k)
          have e : m + 1 = i := by omega
          rw [← e]
          exact grow_from.mpr ⟨j, hmj, hkj⟩
  by_cases z : m < i
  · exact ⟨m, z, hm⟩
  · exact step (m - i) k (by rw [show i + (m - i) = m by omega]; exact hm)
/-! ### a table with numbers as keys -/
structure KeyS (F : Nat → Nat → Prop) (S : Nat → Prop) (ks : List Nat) (kvs : List (Key × V)) : Prop where
  keys : kvs.map (·.1) = ks.map fun (k : Nat) => (Sum.inl (k : Int) : Key)
  nd : ks.Nodup
  mem : ∀ k, k ∈ ks ↔ S k
  val : ∀ (k : Nat), S k → ∃ m : Nat, valV kvs (.inl (k : Int)) = some (.int (m : Int)) ∧ F k m
theorem KeyS.has {F : Nat → Nat → Prop} {S : Nat → Prop} {ks : List Nat} {kvs : List (Key × V)} (h : KeyS F S ks kvs) (k : Nat) : (valV kvs (.inl (k : Int))).isSome = true ↔ S k := by
  rw [← valV_any, List.any_eq_true, ← h.mem]
  constructor
  · rintro ⟨p, hp, e⟩
    have e : p.1 = Sum.inl (k : Int) := of_decide_eq_true e
    have : p.1 ∈ kvs.map (·.1) := List.mem_map_of_mem hp
    rw [h.keys, e] at this
    obtain ⟨j, hj, z⟩ := List.mem_map.mp this
    injection z with z
    have : j = k := by omega
    exact this ▸ hj
  · intro hk
    have : (Sum.inl (k : Int) : Key) ∈ kvs.map (·.1) := by
      rw [h.keys]
      exact List.mem_map_of_mem hk
    obtain ⟨p, hp, e⟩ := List.mem_map.mp this
    exact ⟨p, hp, decide_eq_true e⟩
theorem KeyS.len {F : Nat → Nat → Prop} {S : Nat → Prop} {ks : List Nat} {kvs : List (Key × V)} (h : KeyS F S ks kvs) : kvs.length = ks.length := by
  have := congrArg List.length h.keys
  rw [List.length_map, List.length_map] at this
  exact this
theorem keys_old {kvs : List (Key × V)} {k : Key} {v : V} (h : (kvs.any fun kv => decide (kv.1 = k)) = true) : (putK kvs k v).map (·.1) = kvs.map (·.1) := by
  unfold putK
  rw [if_pos h, List.map_map]
  refine List.map_congr_left fun p _ => ?_
  show (if p.1 = k then (p.1, v) else p).1 = p.1
  split <;> rfl
theorem KeyS.put {F : Nat → Nat → Prop} {S : Nat → Prop} {ks : List Nat} {kvs : List (Key × V)} (h : KeyS F S ks kvs) {k m : Nat} (hf : F k m) : ∃ ks', KeyS F (fun j => S j ∨ j = k) ks' (putK kvs (.inl (k : Int)) (.int (m : Int))) := by
  have val : ∀ (j : Nat), (S j ∨ j = k) → ∃ m' : Nat, valV (putK kvs (.inl (k : Int)) (.int (m : Int))) (.inl (j : Int)) = some (.int (m' : Int)) ∧ F j m' := fun j hj => by
    rw [valV_put]
    by_cases e : j = k
    · subst e
      exact ⟨m, by rw [if_pos rfl], hf⟩
    · rw [if_neg (fun z => e (by injection z with z; omega))]
      exact h.val j (hj.resolve_right e)
  cases z : valV kvs (.inl (k : Int)) with
  | some x =>
    have hk : S k := (h.has k).mp (by rw [z]; rfl)
    refine ⟨ks, by rw [keys_old (by rw [valV_any, z]; rfl)]; exact h.keys, h.nd, fun j => ?_, val⟩
    rw [h.mem]
    exact ⟨.inl, fun c => c.elim id fun e => e ▸ hk⟩
  | none =>
    have hk : ¬ S k := fun c => by
      have := (h.has k).mpr c
      rw [z] at this
      cases this
    refine ⟨ks ++ [k], ?_, ?_, fun j => ?_, val⟩
    · rw [putK_new _ z, List.map_append, List.map_append, h.keys]
      rfl
    · rw [List.nodup_append]
      refine ⟨h.nd, List.nodup_cons.mpr ⟨(fun z => nomatch z), List.nodup_nil⟩, fun a ha b hb e => ?_⟩
      rw [List.mem_singleton.mp hb] at e
      subst e
      exact hk ((h.mem _).mp ha)
    · rw [List.mem_append, h.mem, List.mem_singleton]
theorem KeyS.iff {F : Nat → Nat → Prop} {S S' : Nat → Prop} {ks : List Nat} {kvs : List (Key × V)} (h : KeyS F S ks kvs) (e : ∀ k, S' k ↔ S k) : KeyS F S' ks kvs := ⟨h.keys, h.nd, fun k => (h.mem k).trans (e k).symm, fun k hk => h.val k ((e k).mp hk)⟩
/-- the first age of a letter -/
def FirstAge (ws : List (List Sy)) (pst : List Sy) (k m : Nat) : Prop := Fresh ws pst m k
def spAges (K : PySem.W.Frag) : Sp := fun vs H Q _ => ∃ (p q : Addr) (as : List Addr) (ws : List (List Sy)) (pst : List Sy), vs = [.ref p, .ref q] ∧ H p = some (.tup (as.map V.ref)) ∧ Words H as ws ∧ Sq K H q (wv pst) ∧ ws.length ≤ 8 ∧ (∀ w ∈ ws, Good ws.length 40 w) ∧ (∀ k, Sy.l k ∈ pst → k < ws.length) ∧
  ∀ (H' : Hp) (D : Addr) (ks : List Nat) (kvs : List (Key × V)), Same H H' → H D = none → H' D = some (.dK kvs) → KeyS (FirstAge ws pst) (Comes ws pst) ks kvs → Q (.ref D) H'
theorem few_keys {n : Nat} {ks : List Nat} (nd : ks.Nodup) (h : ∀ k ∈ ks, k < n) : ks.length ≤ n := by
  have := nat_nodup_len ks (List.range n) nd fun k hk => List.mem_range.mpr (h k hk)
  rw [List.length_range] at this
  exact this
section
variable {P : Program} {w : World} {K : PySem.W.Frag} {mg : Str → Option Value} {base : Heap}
theorem ok_ages {f : Addr} {fd : FuncData} {k : Nat} (F : Fun K "ages_of_letters" "ages_of_letters" s_ages_of_letters f fd) (GL : Got P w K mg base "letters_in" k ["parts"] (spLettersIn K)) (GN : Got P w K mg base "next_letters" k ["words", "letters"] spNext) :
    FnOk P w K mg base CX0 (k + 1) f fd ["words", "parts"] (spAges K) := by
  refine F.ok sc_ages_of_letters (fun vs H Q E h => ?_) (fun cdv A outer s H vs Q E hr h => ?_)
  · obtain ⟨p, q, as, ws, pst, rfl, _⟩ := h
    rfl
  · obtain ⟨p, pq, as, ws, pst, rfl, hp, hw, hq, h8, hg, hl, q⟩ := h
    have nd := sc_ages_of_letters.nd
    refine ⟨_, pss_cons (ps_set (i := 2) nd rfl (.inr rfl) pe_dnewK)
      (pss_cons (ps_set (i := 3) nd rfl (.inl rfl) pe_int)
      (pss_cons (ps_set (i := 4) nd rfl (.inl rfl) (pcall GL hr (pa_cons (pv 1) pa_nil)))
      (pss_cons (ps_while PassesOwn.never (pt_truth (pv 4) (by intro _; rfl))
        (pss_cons (ps_for PassesOwn.never rfl (pi_list (pv 4)) (pg_name (i := 5) nd rfl (.inl rfl))
          (pss_one (ps_dput (hu_of hr) (pv 2) (pv 5) (pv 3) rfl)))
        (pss_cons (ps_setLc (i := 4) (own := [("letter", 5)]) (g := gName 5) rfl nd rfl rfl (sw_true rfl rfl rfl (by decide +kernel)) (pi_list (pcall GN hr (pa_cons (pv 0) (pa_cons (pv 4) pa_nil)))) (blkOk_by (N := n_ages_of_letters) (sc := defScope s_ages_of_letters) (by decide +kernel))
            (fun _ _ _ _ _ => pg_name (i := 5) nd rfl (Or.inl rfl)) (fun _ _ _ _ _ => pts_one (pt_cmp (pc_dnotin (hu_of hr) (pv 5) (pv 2)))) (fun _ _ _ _ _ => pv 5))
        (pss_one (ps_aug (i := 3) nd rfl (.inl rfl) pe_int ip_add)))))
      (pss_one (ps_ret (pv 2)))))), ?_⟩
    refine fun D nD => ⟨_, rfl, pq, pst, rfl, hq.same (same_upd nD), fun k hk => Nat.lt_of_lt_of_le (hl k hk) h8, fun H1 l1 ls S1 n1 h1 hm1 hl1 => ?_⟩
    have S01 := (same_upd (o := .dK []) nD).trans S1
    have fewK : ∀ {i : Nat} {ks : List Nat} {kvs : List (Key × V)}, KeyS (FirstAge ws pst) (Ahead ws pst i) ks kvs → ks.length ≤ 8 := fun h => by
      have := few_keys h.nd (n := ws.length) fun k hk => by
        obtain ⟨m, _, hm⟩ := (h.mem k).mp hk
        exact grown_lets' hg hl m k hm
      omega
    refine ⟨fun m σ H' => ∃ (i : Nat) (lp : Addr) (fr ks : List Nat) (kvs : List (Key × V)) (y5 : Option V), σ = [some (.ref p), some (.ref pq), some (.ref D), some (.int (i : Nat)), some (.ref lp), y5] ∧ Same H H' ∧ H' D = some (.dK kvs) ∧ KeyS (FirstAge ws pst) (Ahead ws pst i) ks kvs ∧ H' lp = some (.lst (iV fr)) ∧ (∀ k, k ∈ fr ↔ Fresh ws pst i k) ∧ fr.length ≤ 8 ∧ m = 8 - ks.length,
      ⟨_, 0, l1, ls, [], [], none, rfl, S01, S1 _ _ upd_same, ⟨rfl, List.nodup_nil, fun k => ⟨(fun h => nomatch h), fun ⟨m, h, _⟩ => absurd h (Nat.not_lt_zero _)⟩, fun k ⟨m, h, _⟩ => absurd h (Nat.not_lt_zero _)⟩, h1, fun k => ?_, hl1, rfl⟩, ?_⟩
    · rw [hm1]
      exact ⟨fun h => ⟨h, fun ⟨m, h, _⟩ => absurd h (Nat.not_lt_zero _)⟩, fun h => h.1⟩
    rintro m σ H2 ⟨i, lp, fr, ks, kvs, y5, rfl, S2, hD, hK, hlp, hfr, hf8, rfl⟩
    have frw : ∀ k ∈ fr, k < ws.length := fun k hk => grown_lets' hg hl i k ((hfr k).mp hk).1
    rcases List.eq_nil_or_concat fr with hfe | ⟨fr0, k0, hfe⟩
    · refine ⟨_, rfl, false, .inl ⟨iV fr, SqL.of hlp, by rw [hfe]; rfl⟩, ?_⟩
      refine iteF ⟨_, rfl, q H2 D ks kvs S2 nD hD (hK.iff fun k => ?_)⟩
      exact comes_all (fun k hk => by
        have := (hfr k).mpr hk
        rw [hfe] at this
        cases this) k
    · have hk0 : k0 ∈ fr := by rw [hfe]; simp
      refine ⟨_, rfl, true, .inl ⟨iV fr, SqL.of hlp, by rw [hfe]; unfold iV; simp⟩, ?_⟩
      clear hfe
      have nlp : lp ≠ D := ne_of hlp hD (by intro z; cases z)
      refine iteT ⟨fun σ' H' => ∃ m', m' < 8 - ks.length ∧ _, fun σ' H' h => h, ?_⟩
      refine ⟨_, rfl, lp, rfl, ⟨_, SqL.of hlp⟩, for_list (K := K) (a := lp) (xs := iV fr) (fun t σ H' => ∃ (ks' : List Nat) (kvs' : List (Key × V)) (y5 : Option V), σ = [some (.ref p), some (.ref pq), some (.ref D), some (.int (i : Nat)), some (.ref lp), y5] ∧ SameX D H2 H' ∧ H' D = some (.dK kvs') ∧ KeyS (FirstAge ws pst) (fun j => Ahead ws pst i j ∨ j ∈ fr.take t) ks' kvs')
        ⟨ks, kvs, y5, rfl, .refl, hD, hK.iff fun k => by simp⟩ (fun t σ H' _ ⟨_, _, _, _, s, _⟩ => SqL.of (s _ _ nlp hlp)) ?_ ?_⟩
      · rintro t x σ H3 hx ⟨ks', kvs', y5, rfl, S3, hD3, hK3⟩
        obtain ⟨j, hj, rfl⟩ := iV_get hx
        have hjf := (hfr j).mp (List.mem_of_getElem? hj)
        obtain ⟨ks2, hK4⟩ := hK3.put (k := j) (m := i) hjf
        have l3 : kvs'.length ≤ 8 := by
          rw [hK3.len]
          have := few_keys hK3.nd (n := ws.length) fun k hk => by
            rcases (hK3.mem k).mp hk with ⟨m, _, hm⟩ | h
            · exact grown_lets' hg hl m k hm
            · exact frw k (List.mem_of_mem_take h)
          omega
        refine ⟨_, rfl, _, rfl, _, rfl, D, _, rfl, DPut.k (k := Sum.inl (j : Int)) hD3 (by rw [sizeLine_eq]; omega), ks2, _, _, rfl, S3.at, upd_same, hK4.iff fun k => ?_⟩
        rw [take_more hj, List.mem_append, List.mem_singleton, or_assoc]
      · rintro σ H3 ⟨ks', kvs', y5, rfl, S3, hD3, hK3⟩
        have hK3 : KeyS (FirstAge ws pst) (Ahead ws pst (i + 1)) ks' kvs' := hK3.iff fun k => by
          have lz : (iV fr).length = fr.length := by unfold iV; rw [List.length_map]
          rw [lz, List.take_length, hfr, ahead_succ]
        have S03 : Same H H3 := fun b o e => S3 b o (ne_of_none e nD) (S2 b o e)
        have hlp3 := S3 _ _ nlp hlp
        have k8 := fewK hK3
        have more : ks.length + 1 ≤ ks'.length := by
          refine nat_nodup_len (k0 :: ks) ks' (List.nodup_cons.mpr ⟨fun z => ?_, hK.nd⟩) fun x hx => ?_
          · exact ((hfr k0).mp hk0).2 ((hK.mem k0).mp z)
          · rw [hK3.mem, ahead_succ]
            rcases List.mem_cons.mp hx with rfl | hx
            · exact .inr ((hfr _).mp hk0)
            · exact .inl ((hK.mem x).mp hx)
        refine ⟨_, rfl, _, rfl, p, lp, as, ws, fr, rfl, S03 _ _ hp, hw.keep (.of S03), hlp3, frw, hf8, h8, hg, fun H4 l4 ls4 S4 n4 h4 hm4 hl4 => ⟨l4, rfl, ⟨_, SqL.of h4⟩, fun L nL => ?_⟩⟩
        have hD4 := S4 _ _ hD3
        refine lc_list (K := K) (a := l4) (xs := iV ls4) (fun t H' => Same H4 H' ∧ ∃ acc : List Nat, H' L = some (.lst (iV acc)) ∧ acc.length ≤ t ∧ ∀ k, k ∈ acc ↔ k ∈ ls4.take t ∧ ¬ Ahead ws pst (i + 1) k)
          ⟨same_upd nL, [], upd_same, Nat.le_refl _, fun k => by simp⟩ (fun t H' _ h => h.1.seq (SqL.of h4)) ?_ ?_
        · rintro t x H5 hx ⟨S5, acc, hL, ha, hm⟩
          obtain ⟨j, hj, rfl⟩ := iV_get hx
          have ht : t < ls4.length := (List.getElem?_eq_some_iff.mp hj).1
          refine ⟨rfl, _, rfl, _, rfl, D, _, rfl, DGet.k (k := Sum.inl (j : Int)) (S5 _ _ hD4), _, rfl, ?_⟩
          cases hv : valV kvs' (Sum.inl (j : Int)) with
          | none =>
            have hj' : ¬ Ahead ws pst (i + 1) j := fun c => by
              have := (hK3.has j).mpr c
              rw [hv] at this
              cases this
            refine iteT ⟨_, rfl, _, hL, ?_, sPut S5 nL, acc ++ [j], ?_, ?_, fun k => ?_⟩
            · unfold iV; rw [List.length_map, sizeLine_eq]; omega
            · rw [upd_same]; unfold iV; rw [List.map_append]; rfl
            · rw [List.length_append, List.length_singleton]; omega
            · rw [List.mem_append, List.mem_singleton, hm, take_more hj, List.mem_append, List.mem_singleton]
              constructor
              · rintro (⟨a, b⟩ | rfl)
                · exact ⟨.inl a, b⟩
                · exact ⟨.inr rfl, hj'⟩
              · rintro ⟨a | a, b⟩
                · exact .inl ⟨a, b⟩
                · exact .inr a
          | some x =>
            have hj' : Ahead ws pst (i + 1) j := (hK3.has j).mp (by rw [hv]; rfl)
            refine iteF ⟨S5, acc, hL, by omega, fun k => ?_⟩
            rw [hm, take_more hj, List.mem_append, List.mem_singleton]
            constructor
            · rintro ⟨a, b⟩
              exact ⟨.inl a, b⟩
            · rintro ⟨a | rfl, b⟩
              · exact ⟨a, b⟩
              · exact absurd hj' b
        · rintro H5 ⟨S5, acc, hL, ha, hm⟩
          have lz : (iV ls4).length = ls4.length := by unfold iV; rw [List.length_map]
          rw [lz, List.take_length] at hm
          rw [lz] at ha
          refine ⟨_, rfl, _, _, rfl, rfl, 8 - ks'.length, by omega, i + 1, L, acc, ks', kvs', _, rfl, (S03.trans S4).trans S5, S5 _ _ hD4, hK3, hL, fun k => ?_, by omega, rfl⟩
          rw [hm, hm4, fresh_succ]
          refine and_congr_left fun _ => ⟨fun ⟨j, a, b⟩ => ⟨j, (hfr j).mp a, b⟩, fun ⟨j, a, b⟩ => ⟨j, (hfr j).mpr a, b⟩⟩
end
theorem int_nat_list {ys : List Int} {ks : List Nat} (h : ys.Perm (ks.map fun (k : Nat) => (k : Int))) : ys = (ys.map Int.toNat).map fun (k : Nat) => (k : Int) := by
  rw [List.map_map]
  refine (List.map_id ys).symm.trans (List.map_congr_left fun y hy => ?_)
  obtain ⟨k, _, rfl⟩ := List.mem_map.mp (h.mem_iff.mp hy)
  rfl
end SK
namespace SK
open PySem PySem.Spec PyProof.Rows L2
theorem nodup_sub {α : Type} [DecidableEq α] : ∀ {l D : List α}, l.Nodup → (∀ x ∈ l, x ∈ D) → l.length ≤ D.length
  | [], _, _, _ => Nat.zero_le _
  | x :: l, D, hn, hs => by
    obtain ⟨h1, h2⟩ := List.nodup_cons.mp hn
    have hx : x ∈ D := hs x List.mem_cons_self
    have ih := nodup_sub (l := l) (D := D.erase x) h2 fun y hy => by
      have ne : y ≠ x := fun e => h1 (e ▸ hy)
      exact (List.mem_erase_of_ne ne).2 (hs y (List.mem_cons_of_mem _ hy))
    rw [List.length_erase_of_mem hx] at ih
    have := List.length_pos_of_mem hx
    rw [List.length_cons]
    omega
theorem fresh_many {ws : List (List Sy)} {st : List Sy} : ∀ (i k : Nat), Fresh ws st i k → ∃ L : List Nat, L.Nodup ∧ L.length = i + 1 ∧ ∀ x ∈ L, Ahead ws st (i + 1) x
  | 0, k, h => ⟨[k], by simp, rfl, fun x hx => by rw [List.mem_singleton.mp hx]; exact ahead_succ.mpr (.inr h)⟩
  | i + 1, k, h => by
    obtain ⟨⟨j, hj, _⟩, hn⟩ := fresh_succ.mp h
    obtain ⟨L, nd, len, hL⟩ := fresh_many i j hj
    refine ⟨k :: L, List.nodup_cons.mpr ⟨fun z => hn (hL k z), nd⟩, by rw [List.length_cons, len], fun x hx => ?_⟩
    rcases List.mem_cons.mp hx with rfl | hx
    · exact ahead_succ.mpr (.inr h)
    · exact ahead_succ.mpr (.inl (hL x hx))
theorem comes_fresh {ws : List (List Sy)} {st : List Sy} {k : Nat} (h : Comes ws st k) : ∃ i, Fresh ws st i k := by
  obtain ⟨m, hm⟩ := h
  obtain ⟨i, _, hi, least⟩ := st_least (p := fun m => Sy.l k ∈ grown ws st m) m hm
  exact ⟨i, hi, fun ⟨j, hj, z⟩ => least j hj z⟩
theorem comes_soon {ws : List (List Sy)} {st : List Sy} (hg : ∀ w ∈ ws, Good ws.length 40 w) (hl : ∀ k, Sy.l k ∈ st → k < ws.length) {n : Nat} (hn : ws.length ≤ n) (k : Nat) : Comes ws st k ↔ Ahead ws st n k := by
  refine ⟨fun h => ?_, fun ⟨m, _, h⟩ => ⟨m, h⟩⟩
  obtain ⟨i, hi⟩ := comes_fresh h
  obtain ⟨L, nd, len, hL⟩ := fresh_many i k hi
  have := few_keys nd (n := ws.length) fun x hx => by
    obtain ⟨m, _, hm⟩ := hL x hx
    exact grown_lets' hg hl m x hm
  exact ⟨i, by omega, hi.1⟩
/-! how far a pen comes -/
end SK
/-! sorted(d.items()), sorted(d.keys()) of a dict by ints -/
namespace SK
open PySem PySem.Spec PyProof.Rows L2
abbrev kvI (ps : List (Int × Int)) : List (Key × V) := ps.map fun p => (Sum.inl p.1, V.int p.2)
/-- the views -/
def itemsK (p d : Addr) : HO := .ext fun h => h.IsItemsView p d
theorem itemsK_ok {P : Program} {w : World} {H : Hp} {h : Heap} {p d : Addr} (e : h.get? p = some { cls := .type "dict_items", data := .fields #[.ref d] }) : ObjOk P w H h p (itemsK p d) :=
  ⟨⟨_, e, rfl, rfl⟩, ⟨_, e⟩, fun h1 h2 x k => let ⟨o, ho, r⟩ := x; ⟨o, k o ho, r⟩⟩
def keysK (p d : Addr) : HO := .ext fun h => PySem.W.KdlKeysView h p d
theorem keysK_ok {P : Program} {w : World} {H : Hp} {h : Heap} {p d : Addr} (e : h.get? p = some { cls := .type "dict_keys", data := .fields #[.ref d] }) : ObjOk P w H h p (keysK p d) :=
  ⟨⟨_, e, rfl, rfl⟩, ⟨_, e⟩, fun h1 h2 x k => let ⟨o, ho, r⟩ := x; ⟨o, k o ho, r⟩⟩
/-- what is collected of the keys -/
theorem kdl_collect {prog : Program} {w : World} {A : Around} {E : Value → Shared → Prop} {s : Shared} {T : String} {r d : Addr} {n : Nat} {P : Nat → Value → Prop} {OK : Heap → Prop} {R : List Value → Shared → Prop} (K : PySem.W.KdlSrc prog w T r d n P OK) (hh : A.handled = none) (hok : OK s.heap) (hn : n ≤ sizeLine)
    (h : ∀ (h' : Heap) (tk : Nat) (acc' : Array Value), (∀ b o, s.heap.get? b = some o → h'.get? b = some o) → s.heap.objs.size < h'.objs.size → ItemsOf P acc' n → R acc'.toList { s with heap := h', toks := tk }) :
    wpAny (model prog w) A (collect (.ref r)) R E s := by
  have hlt := K.there _ hok
  unfold collect
  refine wpAny_bind (wpAny_runValue (codeAny_builtin entry_proto_collect' ?_))
  rw [Around.under_plainId PySem.F.plain_proto_collect _]
  show wpAny _ A.in1 (newList [] >>= fun l => again (.builtin "list.__iadd__" ⟨[l, .ref r], []⟩)) _ _ s
  refine wpAny_bind (wpAny_newObj_type ?_)
  refine wpAny_pure ⟨plainId_quiet PySem.F.plain_list_iadd _, codeAny_builtin entry_list_iadd' ?_⟩
  rw [Around.under_plainId PySem.F.plain_list_iadd _]
  have hS₁ : (s.heap.push { cls := .type "list", data := .seq ([] : List Value).toArray }).get? s.heap.objs.size = some { cls := .type "list", data := .seq #[] } := Heap.get?_push_size _ rfl
  show wpAny _ A.in1 (Builtin.List.listExtendWith (.ref s.heap.objs.size) (.ref r) (.ref s.heap.objs.size)) _ _ _
  have key := PySem.W.kdl_extend (A := A) (s := { s with heap := s.heap.push { cls := .type "list", data := .seq ([] : List Value).toArray } })
    (R := fun (q : Result) (s' : Shared) => ∃ (h' : Heap) (tk : Nat) (acc' : Array Value) (c' : Nat), q = .ok (.ret (.ref s.heap.objs.size)) ∧ s' = { s with heap := h', toks := tk } ∧
      (∀ b o, s.heap.get? b = some o → h'.get? b = some o) ∧ h'.get? s.heap.objs.size = some { cls := .type "list", dict := none, data := .seq acc' c', slots := #[] } ∧ ItemsOf P acc' n)
    K hh (K.keep _ _ hok fun b _ o e => Heap.get?_push_of_some _ e) s.heap.objs.size (Nat.ne_of_gt hlt.1) (Nat.ne_of_gt hlt.2) (.ref s.heap.objs.size) 0 hS₁
    (fun h' tk acc' c' hk hS' hacc => ⟨h', tk, acc', c', rfl, rfl, fun b o e => hk b o (Nat.ne_of_lt (Heap.lt_size e)) (Heap.get?_push_of_some _ e), hS', hacc⟩) hn
  refine wpAny_mono key (fun fin s' x => ?_) fun e s' x => ?_
  · cases fin with
    | done f =>
      obtain ⟨h', tk, acc', c', e, rfl, hk, hS', hacc⟩ := x
      cases e
      show wpAny _ A (load s.heap.objs.size >>= _) _ _ _
      refine wpAny_bind (wpAny_load hS' ?_)
      exact wpAny_pure (h h' tk acc' hk (Heap.lt_size hS') hacc)
    | again c₁ =>
      refine ⟨x.1, codeAny_mono x.2 fun q s₂ y => ?_⟩
      obtain ⟨h', tk, acc', c', rfl, rfl, hk, hS', hacc⟩ := y
      show wpAny _ A (load s.heap.objs.size >>= _) _ _ _
      refine wpAny_bind (wpAny_load hS' ?_)
      exact wpAny_pure (h h' tk acc' hk (Heap.lt_size hS') hacc)
  · obtain ⟨_, _, _, _, e', _⟩ := x
    cases e'
section
open PySem.W
theorem kdx_collect2 {prog : Program} {w : World} {A : Around} {E : Value → Shared → Prop} {s : Shared} {K : Type} [DecidableEq K] {knd : KeyKind prog w K} {r d : Addr} {kvs : List (K × Value)} {ep : Nat} {R : List Value → Shared → Prop} (hh : A.handled = none) (hv : s.heap.IsItemsView r d) (hm : s.heap.DictAt knd d kvs ep) (hn : kvs.length ≤ sizeLine)
    (h : ∀ (h' : Heap) (tk : Nat) (as : List Addr), (∀ b o, s.heap.get? b = some o → h'.get? b = some o) → s.heap.objs.size < h'.objs.size → as.length = kvs.length → KdxG knd kvs s.heap.objs.size h' as → R (as.map Value.ref) { s with heap := h', toks := tk }) :
    wpAny (model prog w) A (collect (.ref r)) R E s := by
  have hr : r < s.heap.objs.size := let ⟨_, ho, _⟩ := hv; Heap.lt_size ho
  have hd : d < s.heap.objs.size := hm.lt_size
  unfold collect
  refine wpAny_bind (wpAny_runValue (codeAny_builtin entry_proto_collect' ?_))
  rw [Around.under_plainId PySem.F.plain_proto_collect _]
  show wpAny _ A.in1 (newList [] >>= fun l => again (.builtin "list.__iadd__" ⟨[l, .ref r], []⟩)) _ _ s
  refine wpAny_bind (wpAny_newObj_type ?_)
  refine wpAny_pure ⟨plainId_quiet PySem.F.plain_list_iadd _, codeAny_builtin entry_list_iadd' ?_⟩
  rw [Around.under_plainId PySem.F.plain_list_iadd _]
  have hS₁ : (s.heap.push { cls := .type "list", data := .seq ([] : List Value).toArray }).get? s.heap.objs.size = some { cls := .type "list", data := .seq #[] } := Heap.get?_push_size _ rfl
  show wpAny _ A.in1 (Builtin.List.listExtendWith (.ref s.heap.objs.size) (.ref r) (.ref s.heap.objs.size)) _ _ _
  have key := kdx_extend (A := A) (s := { s with heap := s.heap.push { cls := .type "list", data := .seq ([] : List Value).toArray } }) (knd := knd) (kvs := kvs) (ep := ep)
    (R := fun (q : Result) (s' : Shared) => ∃ (h' : Heap) (tk : Nat) (acc' : Array Value) (c' : Nat) (as : List Addr), q = .ok (.ret (.ref s.heap.objs.size)) ∧ s' = { s with heap := h', toks := tk } ∧
      (∀ b o, s.heap.get? b = some o → h'.get? b = some o) ∧ h'.get? s.heap.objs.size = some { cls := .type "list", dict := none, data := .seq acc' c', slots := #[] } ∧ as.length = kvs.length ∧ KdxG knd kvs s.heap.objs.size h' as ∧ acc'.toList = as.map Value.ref)
    hh (let ⟨o, ho, x⟩ := hv; ⟨o, Heap.get?_push_of_some _ ho, x⟩) (hm.push _) s.heap.objs.size (Nat.ne_of_gt hr) (Nat.ne_of_lt hd) (.ref s.heap.objs.size) 0 hS₁
    (fun h' tk acc' c' as hk hS' hl hG hacc => ⟨h', tk, acc', c', as, rfl, rfl, fun b o e => hk b o (Nat.ne_of_lt (Heap.lt_size e)) (Heap.get?_push_of_some _ e), hS', hl, hG.low (by show s.heap.objs.size ≤ (s.heap.push _).objs.size; rw [Heap.size_push]; exact Nat.le_succ _), hacc⟩) hn
  refine wpAny_mono key (fun fin s' x => ?_) fun e s' x => ?_
  · cases fin with
    | done f =>
      obtain ⟨h', tk, acc', c', as, e, rfl, hk, hS', hl, hG, hacc⟩ := x
      cases e
      show wpAny _ A (load s.heap.objs.size >>= _) _ _ _
      refine wpAny_bind (wpAny_load hS' ?_)
      refine wpAny_pure ?_
      show R acc'.toList _
      rw [hacc]
      exact h h' tk as hk (Heap.lt_size hS') hl hG
    | again c₁ =>
      refine ⟨x.1, codeAny_mono x.2 fun q s₂ y => ?_⟩
      obtain ⟨h', tk, acc', c', as, rfl, rfl, hk, hS', hl, hG, hacc⟩ := y
      show wpAny _ A (load s.heap.objs.size >>= _) _ _ _
      refine wpAny_bind (wpAny_load hS' ?_)
      refine wpAny_pure ?_
      show R acc'.toList _
      rw [hacc]
      exact h h' tk as hk (Heap.lt_size hS') hl hG
  · obtain ⟨_, _, _, _, _, e', _⟩ := x
    cases e'
end
def rItemsK : V → List V → Hp → VK → Prop := fun x xs H Q => ∃ (a : Addr) (kvs : List (Key × V)), x = .ref a ∧ xs = [] ∧ H a = some (.dK kvs) ∧ ∀ p, H p = none → Q (.ref p) (upd H p (itemsK p a))
def rKeysK : V → List V → Hp → VK → Prop := fun x xs H Q => ∃ (a : Addr) (kvs : List (Key × V)), x = .ref a ∧ xs = [] ∧ H a = some (.dK kvs) ∧ ∀ p, H p = none → Q (.ref p) (upd H p (keysK p a))
/-- ascending by the first, then by the second -/
def lexI (p q : Int × Int) : Prop := p.1 < q.1 ∨ (p.1 = q.1 ∧ p.2 ≤ q.2)
def rSortKV : List V → Hp → VK → Prop := fun vs H Q => ∃ (p a : Addr) (ps : List (Int × Int)), vs = [.ref p] ∧ H p = some (itemsK p a) ∧ H a = some (.dK (kvI ps)) ∧
  ∀ (H' : Hp) (l : Addr) (ts : List Addr) (qs : List (Int × Int)), Same H H' → H l = none → H' l = some (.lst (ts.map V.ref)) → Paired (fun (t : Addr) (q : Int × Int) => H' t = some (.tup [.int q.1, .int q.2])) ts qs → qs.Perm ps → qs.Pairwise lexI → Q (.ref l) H'
def rSortK : List V → Hp → VK → Prop := fun vs H Q => ∃ (p a : Addr) (ps : List (Int × V)), vs = [.ref p] ∧ H p = some (keysK p a) ∧ H a = some (.dK (ps.map fun p => (Sum.inl p.1, p.2))) ∧
  ∀ (H' : Hp) (l : Addr) (ks : List Int), Same H H' → H l = none → H' l = some (.lst (ks.map V.int)) → ks.Perm (ps.map (·.1)) → ks.Pairwise (· ≤ ·) → Q (.ref l) H'
section
variable {X : Cx}
theorem mt_itemsK : MtR X "dict.items" rItemsK := by
  intro pins s σ H x xs v us Q I rx rxs h
  obtain ⟨a, kvs, rfl, rfl, ha, q⟩ := h
  cases rx
  cases rxs
  obtain ⟨hz, hd, vs, kv, hdo⟩ := dk_of I.hok ha
  have hf : H s.heap.objs.size = none := I.hok.fresh (Nat.le_refl _)
  exact call_meetsIn PySem.F.slot_dict_items hdo.typeIs PySem.F.entry_dict_items (PySem.F.args_dict_items_1 _) (meets_dict_items (mixKind X.prog X.w) a hd)
    ⟨⟨vs, hdo⟩, ⟨.ref s.heap.objs.size, upd H s.heap.objs.size (itemsK s.heap.objs.size a), I.laid (t' := s.toks) (fun b u e => Heap.get?_push_of_some _ e) (Nat.le_refl _) (itemsK_ok (Heap.get?_push_size _ rfl)), rfl, q _ hf⟩⟩
theorem mt_keysK : MtR X "dict.keys" rKeysK := by
  intro pins s σ H x xs v us Q I rx rxs h
  obtain ⟨a, kvs, rfl, rfl, ha, q⟩ := h
  cases rx
  cases rxs
  obtain ⟨hz, hd, vs, kv, hdo⟩ := dk_of I.hok ha
  have hf : H s.heap.objs.size = none := I.hok.fresh (Nat.le_refl _)
  exact call_meetsIn PySem.F.slot_dict_keys hdo.typeIs PySem.F.entry_dict_keys (PySem.F.args_dict_keys_1 _) (PySem.W.kdl_meets_keys (mixKind X.prog X.w) a hd)
    ⟨⟨vs, hdo⟩, ⟨.ref s.heap.objs.size, upd H s.heap.objs.size (keysK s.heap.objs.size a), I.laid (t' := s.toks) (fun b u e => Heap.get?_push_of_some _ e) (Nat.le_refl _) (keysK_ok (Heap.get?_push_size _ rfl)), rfl, q _ hf⟩⟩
theorem idx_at {as : List Addr} (nd : as.Nodup) {j : Nat} {b : Addr} (h : as[j]? = some b) : as.idxOf b = j := by
  obtain ⟨hj, e⟩ := List.getElem?_eq_some_iff.mp h
  have hm : b ∈ as := List.mem_of_getElem? h
  have hl := List.idxOf_lt_length_of_mem hm
  have e2 := List.getElem_idxOf hl
  exact (List.getElem_inj nd).mp (e2.trans e.symm)
theorem cr_sortKV (hc : X.calm = true) : CallR X (.builtin "sorted") rSortKV := by
  intro pins s σ H xs us Q I r h
  obtain ⟨p, a, ps, rfl, hp, ha, q⟩ := h
  obtain rfl := Vals.ref1 r
  have view : s.heap.IsItemsView p a := (show ObjOk X.prog X.w H s.heap p (itemsK p a) from I.hok p _ hp).1
  obtain ⟨hz, hd, vs, kv, hdo⟩ := dk_of I.hok ha
  obtain ⟨ep, hat⟩ := hdo.dictAt
  have lk : (kvI ps).length = vs.length := Paired.length kv
  rw [List.length_map] at lk hz
  have hh : X.A.handled = none := I.ok.hd hc
  refine Calls.call_function_entry kind_sorted plain_sorted entry_sorted (args_sorted1 _) ?_
  unfold Builtin.«sorted»
  refine wpAny_bind (m := checkCount "sorted" 1 1 _) (wpAny_pure (wpAny_bind ?_))
  refine kdx_collect2 (knd := mixKind X.prog X.w) (kvs := vs) (ep := ep) (A := X.A.in1) hh view hat (by omega) fun h' tk as hk hlt' hl hG => ?_
  have la : as.length = ps.length := by omega
  have nd : as.Nodup := List.Pairwise.imp (fun h => Nat.ne_of_lt h) hG.rise
  have pr : ∀ (j : Nat) (b : Addr), as[j]? = some b → ∃ (e : Int × Int) (t1 t2 : Tok), ps[j]? = some e ∧ h'.get? b = some { cls := .type "tuple", data := .seq #[Value.int e.1 t1, Value.int e.2 t2] } := by
    intro j b hj
    obtain ⟨key, k, x, f1, f2, f3⟩ := hG.pairs j b hj
    have jl : j < ps.length := by have := (List.getElem?_eq_some_iff.mp f1).1; omega
    obtain ⟨e, hpj⟩ : ∃ e, ps[j]? = some e := ⟨_, List.getElem?_eq_getElem jl⟩
    have hkj : (kvI ps)[j]? = some ((Sum.inl e.1 : Key), V.int e.2) := by rw [List.getElem?_map, hpj]; rfl
    obtain ⟨qv, g1, g2, g3⟩ := LiI.paired_get kv hkj
    rw [f1] at g1
    cases g1
    · have rk : RelV (.int e.1) key := by
        have := relV_key (show keyIs k key = true from f2)
        have g2 : Sum.inl e.1 = k := g2
        rw [← g2] at this
        exact this
      obtain ⟨t1, rfl⟩ := rk
      obtain ⟨t2, rfl⟩ := (show RelV (.int e.2) x from g3)
      exact ⟨e, t1, t2, hpj, f3⟩
  have low : ((as.map Value.ref)).length ≤ sizeLine := by rw [List.length_map]; omega
  refine wpAny_bind (wpAny_newList (wpAny_bind (wpAny_holding ?_)) low)
  have hob : (h'.push (seqObj "list" (as.map Value.ref).toArray 0)).get? h'.objs.size = some (seqObj "list" (as.map Value.ref).toArray 0) := Heap.get?_push_size _ rfl
  have ne0 : ∀ b o, h'.get? b = some o → b ≠ h'.objs.size := fun b o e => Nat.ne_of_lt (Heap.lt_size e)
  have kk : Value → Int × Int := fun v => match v with
    | .ref b => ps.getD (as.idxOf b) (0, 0)
    | _ => (0, 0)
  obtain ⟨kf, ekf⟩ : ∃ kf : Value → Int × Int, kf = fun v => match v with
    | .ref b => ps.getD (as.idxOf b) (0, 0)
    | _ => (0, 0) := ⟨_, rfl⟩
  have kfa : ∀ (j : Nat) (b : Addr) (e : Int × Int), as[j]? = some b → ps[j]? = some e → kf (.ref b) = e := by
    intro j b e h1 h2
    rw [ekf]
    show ps.getD (as.idxOf b) (0, 0) = e
    rw [idx_at nd h1, List.getD_eq_getElem?_getD, h2]
    rfl
  have isp : ∀ v ∈ as.map Value.ref, Srt.IsPair (h'.push (seqObj "list" (as.map Value.ref).toArray 0)) v (kf v).1 (kf v).2 := by
    intro v hv
    obtain ⟨b, hb, rfl⟩ := List.mem_map.mp hv
    obtain ⟨j, hj⟩ := List.mem_iff_getElem?.mp hb
    obtain ⟨e, t1, t2, he, hg⟩ := pr j b hj
    rw [kfa j b e hj he]
    exact ⟨b, _, t1, t2, 0, rfl, Heap.get?_push_of_some _ hg, rfl, rfl⟩
  refine wpAny_call_entry slot_list_sort ⟨_, hob, rfl⟩ entry_list_sort (SrtO.list_sort_ord (SrtO.swo_lex kf) hob low (fun h2 => SrtO.pairs_sortableO (by omega) isp fun o e => ?_) fun out o1 o2 => ⟨_, rfl, ?_⟩) (args_list_sort _)
  · have e' : some o = some (seqObj "list" (as.map Value.ref).toArray 0) := e.symm.trans hob
    cases e'
    intro c
    exact absurd (Value.type.inj c) (by decide)
  refine wpAny_pure ⟨_, rfl, ?_⟩
  obtain ⟨eF, heF⟩ := sortedHeap_at (vs := as.map Value.ref) (out := out.toArray) hob
  have perm := o2.perm
  obtain ⟨ts, ets⟩ : ∃ ts : List Addr, out = ts.map Value.ref := by
    have : ∀ v ∈ out, ∃ b, v = Value.ref b := fun v hv => by
      obtain ⟨b, _, rfl⟩ := List.mem_map.mp (perm.mem_iff.mp hv)
      exact ⟨b, rfl⟩
    clear o1 o2 heF perm
    induction out with
    | nil => exact ⟨[], rfl⟩
    | cons v r ih =>
      obtain ⟨b, rfl⟩ := this _ List.mem_cons_self
      obtain ⟨ts, rfl⟩ := ih fun v hv => this v (List.mem_cons_of_mem _ hv)
      exact ⟨b :: ts, rfl⟩
  subst ets
  have pt : ts.Perm as := by
    have := perm.map (fun v => match v with | Value.ref b => b | _ => 0)
    rw [List.map_map, List.map_map] at this
    have e1 : ((fun v => match v with | Value.ref b => b | _ => 0) ∘ Value.ref : Addr → Addr) = id := rfl
    rw [e1, List.map_id, List.map_id] at this
    exact this
  have mts : ∀ b ∈ ts, ∃ (j : Nat) (e : Int × Int) (t1 t2 : Tok), as[j]? = some b ∧ ps[j]? = some e ∧ kf (.ref b) = e ∧ h'.get? b = some { cls := .type "tuple", data := .seq #[Value.int e.1 t1, Value.int e.2 t2] } := by
    intro b hb
    obtain ⟨j, hj⟩ := List.mem_iff_getElem?.mp (pt.mem_iff.mp hb)
    obtain ⟨e, t1, t2, he, hg⟩ := pr j b hj
    exact ⟨j, e, t1, t2, hj, he, kfa j b e hj he, hg⟩
  have kF : ∀ b o, h'.get? b = some o → (sortedHeap (h'.push (seqObj "list" (as.map Value.ref).toArray 0)) h'.objs.size (as.map Value.ref) (ts.map Value.ref).toArray).get? b = some o := fun b o e =>
    (sortedHeap_old (ne0 b o e) (by rw [size_push']; exact Nat.lt_succ_of_lt (Heap.lt_size e))).trans (Heap.get?_push_of_some _ e)
  have kS : ∀ b o, s.heap.get? b = some o → (sortedHeap (h'.push (seqObj "list" (as.map Value.ref).toArray 0)) h'.objs.size (as.map Value.ref) (ts.map Value.ref).toArray).get? b = some o := fun b o e => kF b o (hk b o e)
  have hlt : s.heap.objs.size ≤ h'.objs.size := Nat.le_of_lt hlt'
  generalize sortedHeap (h'.push (seqObj "list" (as.map Value.ref).toArray 0)) h'.objs.size (as.map Value.ref) (ts.map Value.ref).toArray = hF at heF kF kS ⊢
  have I1 : Inv X pins σ H { s with heap := hF, toks := tk } := I.kept (t' := tk) kS
  have hn0 : H h'.objs.size = none := I.hok.fresh hlt
  have hlen : (ts.map V.ref).length ≤ sizeLine := by rw [List.length_map, pt.length_eq]; omega
  have I2 : Inv X pins σ (upd H h'.objs.size (.lst (ts.map V.ref))) { s with heap := hF, toks := tk } :=
    I1.take (h' := hF) (t' := tk) (fun b ob _ e => e) (I.fpOk hlt hn0) ⟨hlen, (ts.map Value.ref), eF, LiI.vals_refs ts, heF⟩
  obtain ⟨H2, I3, g, qt⟩ := L2.DX.takeT (P := fun b vs => vs = [V.int (kf (.ref b)).1, V.int (kf (.ref b)).2]) I ts _ I2 (pt.nodup_iff.mpr nd) fun b hb => by
    obtain ⟨j, e, t1, t2, hj, he, hke, hg⟩ := mts b hb
    have hbl : s.heap.objs.size ≤ b := Nat.le_of_lt (hG.above b (List.mem_of_getElem? hj))
    refine ⟨hbl, ?_, [.int e.1, .int e.2], by rw [hke], fun H3 => ⟨szl 2, [Value.int e.1 t1, Value.int e.2 t2], .cons ⟨_, rfl⟩ (.cons ⟨_, rfl⟩ .nil), ⟨_, kF _ _ hg, rfl, 0, rfl⟩⟩⟩
    rw [upd_ne (ne0 _ _ hg)]
    exact I.hok.fresh hbl
  have gr : ∀ b o, H b = some o → H2 b = some o := fun b o e => g b o (by rw [upd_ne (ne_of_none e hn0)]; exact e)
  refine ⟨.ref h'.objs.size, H2, I3, rfl, q H2 h'.objs.size ts (ts.map fun b => kf (.ref b)) gr hn0 (g _ _ upd_same) ?_ ?_ ?_⟩
  · have : ∀ l : List Addr, (∀ b ∈ l, b ∈ ts) → Paired (fun (t : Addr) (q : Int × Int) => H2 t = some (.tup [.int q.1, .int q.2])) l (l.map fun b => kf (.ref b)) := by
      intro l
      induction l with
      | nil => intro _; exact .nil
      | cons b l ih =>
        intro h
        obtain ⟨vs, e1, e2⟩ := qt b (h b List.mem_cons_self)
        rw [e1] at e2
        exact .cons e2 (ih fun b hb => h b (List.mem_cons_of_mem _ hb))
    exact this ts fun _ h => h
  · have e : as.map (fun b => kf (.ref b)) = ps := by
      refine List.ext_getElem? fun j => ?_
      rw [List.getElem?_map]
      cases hj : as[j]? with
      | none =>
        rw [List.getElem?_eq_none_iff] at hj
        rw [List.getElem?_eq_none (by omega)]
        rfl
      | some b =>
        obtain ⟨e, t1, t2, he, _⟩ := pr j b hj
        rw [he]
        exact congrArg some (kfa j b e hj he)
    rw [← e]
    exact pt.map _
  · rw [List.pairwise_map]
    have o1 : (ts.map Value.ref).Pairwise fun x y => SrtO.lexB (kf y) (kf x) = false := o1
    rw [List.pairwise_map] at o1
    refine o1.imp fun {x y} h => ?_
    have := SrtO.lexB_no.mp h
    unfold lexI
    omega
theorem cr_sortK (hc : X.calm = true) : CallR X (.builtin "sorted") rSortK := by
  intro pins s σ H xs us Q I r h
  obtain ⟨p, a, ps, rfl, hp, ha, q⟩ := h
  obtain rfl := Vals.ref1 r
  have view : PySem.W.KdlKeysView s.heap p a := (show ObjOk X.prog X.w H s.heap p (keysK p a) from I.hok p _ hp).1
  obtain ⟨hz, hd, vs, kv, hdo⟩ := dk_of I.hok ha
  obtain ⟨ep, hat⟩ := hdo.dictAt
  have lk : (ps.map fun p => ((Sum.inl p.1 : Key), p.2)).length = vs.length := Paired.length kv
  rw [List.length_map] at lk hz
  have hh : X.A.handled = none := I.ok.hd hc
  refine Calls.call_function_entry kind_sorted plain_sorted entry_sorted (args_sorted1 _) ?_
  unfold Builtin.«sorted»
  refine wpAny_bind (m := checkCount "sorted" 1 1 _) (wpAny_pure (wpAny_bind ?_))
  refine kdl_collect (PySem.W.kdl_keys (knd := mixKind X.prog X.w) (kvs := vs) (ep := ep)) (A := X.A.in1) hh ⟨view, hat⟩ (by omega) fun h' tk acc hk hlt' hacc => ?_
  have each : ∀ (j : Nat) (v : Value), acc.toList[j]? = some v → ∃ e, ps[j]? = some e ∧ ∃ t, v = Value.int e.1 t := by
    intro j v hj
    obtain ⟨k, x, f1, f2⟩ := hacc.2 j v (by rw [← Array.getElem?_toList]; exact hj)
    have jl : j < ps.length := by have := (List.getElem?_eq_some_iff.mp f1).1; omega
    obtain ⟨e, hpj⟩ : ∃ e, ps[j]? = some e := ⟨_, List.getElem?_eq_getElem jl⟩
    have hkj : (ps.map fun p => ((Sum.inl p.1 : Key), p.2))[j]? = some ((Sum.inl e.1 : Key), e.2) := by rw [List.getElem?_map, hpj]; rfl
    obtain ⟨qv, g1, g2, g3⟩ := LiI.paired_get kv hkj
    rw [f1] at g1
    cases g1
    · have rk : RelV (.int e.1) v := by
        have := relV_key (show keyIs k v = true from f2)
        have g2 : Sum.inl e.1 = k := g2
        rw [← g2] at this
        exact this
      exact ⟨e, hpj, rk⟩
  have ln : acc.toList.length = ps.length := by rw [Array.length_toList, hacc.1]; omega
  have hI : IntsAre acc.toList (ps.map (·.1)) := by
    have : ∀ (l : List Value) (r : List (Int × V)), l.length = r.length → (∀ (j : Nat) (v : Value), l[j]? = some v → ∃ e, r[j]? = some e ∧ ∃ t, v = Value.int e.1 t) → IntsAre l (r.map (·.1)) := by
      intro l
      induction l with
      | nil => intro r h _; cases r with
        | nil => exact .nil
        | cons => cases h
      | cons v l ih =>
        intro r h hj
        cases r with
        | nil => cases h
        | cons e r =>
          obtain ⟨e', he, t, rfl⟩ := hj 0 v rfl
          cases he
          exact .cons _ _ (ih r (Nat.succ.inj h) fun j v hv => hj (j + 1) v hv)
    exact this _ _ ln each
  have low : acc.toList.length ≤ sizeLine := by omega
  refine wpAny_bind (wpAny_newList (wpAny_bind (wpAny_holding ?_)) low)
  have hob : (h'.push (seqObj "list" acc.toList.toArray 0)).get? h'.objs.size = some (seqObj "list" acc.toList.toArray 0) := Heap.get?_push_size _ rfl
  refine wpAny_call_entry slot_list_sort ⟨_, hob, rfl⟩ entry_list_sort (SrtO.list_sort_ord SrtO.swo_int hob low (fun h2 => SrtO.ints_sortable hI h2) fun out o1 o2 => ⟨_, rfl, ?_⟩) (args_list_sort _)
  obtain ⟨i1, i2, i3⟩ := SrtO.ints_out hI o1 o2
  refine wpAny_pure ⟨_, rfl, ?_⟩
  obtain ⟨eF, heF⟩ := sortedHeap_at (vs := acc.toList) (out := out.toArray) hob
  have ne0 : ∀ b o, h'.get? b = some o → b ≠ h'.objs.size := fun b o e => Nat.ne_of_lt (Heap.lt_size e)
  have kS : ∀ b o, s.heap.get? b = some o → (sortedHeap (h'.push (seqObj "list" acc.toList.toArray 0)) h'.objs.size acc.toList out.toArray).get? b = some o := fun b o e =>
    (sortedHeap_old (ne0 b o (hk b o e)) (by rw [size_push']; exact Nat.lt_succ_of_lt (Heap.lt_size (hk b o e)))).trans (Heap.get?_push_of_some _ (hk b o e))
  have hlt : s.heap.objs.size ≤ h'.objs.size := Nat.le_of_lt hlt'
  generalize sortedHeap (h'.push (seqObj "list" acc.toList.toArray 0)) h'.objs.size acc.toList out.toArray = hF at heF kS ⊢
  have I1 : Inv X pins σ H { s with heap := hF, toks := tk } := I.kept (t' := tk) kS
  have hn0 : H h'.objs.size = none := I.hok.fresh hlt
  have hlen : ((out.map SrtO.iv).map V.int).length ≤ sizeLine := by rw [List.length_map, i2.length_eq, List.length_map]; omega
  have hv : Vals ((out.map SrtO.iv).map V.int) out := by
    have : ∀ {l : List Value} {ns : List Int}, IntsAre l ns → Vals (ns.map V.int) l := fun h => by
      induction h with
      | nil => exact .nil
      | cons n t _ ih => exact .cons ⟨_, rfl⟩ ih
    exact this i1
  have I2 : Inv X pins σ (upd H h'.objs.size (.lst ((out.map SrtO.iv).map V.int))) { s with heap := hF, toks := tk } :=
    I1.take (h' := hF) (t' := tk) (fun b ob _ e => e) (I.fpOk hlt hn0) ⟨hlen, out, eF, hv, heF⟩
  exact ⟨.ref h'.objs.size, _, I2, rfl, q _ h'.objs.size (out.map SrtO.iv) (same_upd hn0) hn0 upd_same i2 i3⟩
end
end SK
namespace SK
open PySem PySem.Spec PyProof.Rows L2
/-! first_ages -/
theorem valV_mem {α : Type} : ∀ {kvs : List (Key × V)}, (kvs.map (·.1)).Nodup → ∀ p ∈ kvs, valV kvs p.1 = some p.2
  | [], _, p, h => by cases h
  | q :: r, nd, p, h => by
    have nd : (q.1 :: r.map (·.1)).Nodup := nd
    rw [List.nodup_cons] at nd
    unfold valV
    rcases List.mem_cons.mp h with e | h
    · subst e
      rw [List.find?_cons_of_pos (by simp)]
      rfl
    · have ne : q.1 ≠ p.1 := fun e => nd.1 (by rw [e]; exact List.mem_map_of_mem h)
      rw [List.find?_cons_of_neg (by simpa using ne)]
      exact valV_mem (α := α) nd.2 p h
abbrev pairI (p : Key × V) : Int × Int := match p with
  | (.inl i, .int j) => (i, j)
  | _ => (0, 0)
/-- a table with numbers as keys, as pairs -/
theorem keyS_pairs {F : Nat → Nat → Prop} {S : Nat → Prop} {ks : List Nat} {kvs : List (Key × V)} (h : KeyS F S ks kvs) : ∃ ps : List (Nat × Nat), kvs = kvI (ps.map fun p => ((p.1 : Int), (p.2 : Int))) ∧ ps.map (·.1) = ks ∧ ∀ p ∈ ps, F p.1 p.2 := by
  have nd : (kvs.map (·.1)).Nodup := by
    rw [h.keys]
    have e : ks.map (fun (k : Nat) => (Sum.inl (k : Int) : Key)) = (ks.map fun (k : Nat) => (k : Int)).map Sum.inl := by rw [List.map_map]; rfl
    rw [e]
    exact List.Pairwise.map _ (fun a b (z : a ≠ b) e => z (Sum.inl.inj e)) (List.Pairwise.map _ (fun a b (z : a ≠ b) e => z (by omega)) h.nd)
  have each : ∀ p ∈ kvs, ∃ k m : Nat, p = (Sum.inl (k : Int), V.int (m : Int)) ∧ F k m := by
    intro p hp
    have hk : p.1 ∈ kvs.map (·.1) := List.mem_map_of_mem hp
    rw [h.keys] at hk
    obtain ⟨k, hk, e⟩ := List.mem_map.mp hk
    obtain ⟨m, h1, h2⟩ := h.val k ((h.mem k).mp hk)
    have := valV_mem (α := Nat) nd p hp
    rw [← e, h1] at this
    have e2 := Option.some.inj this
    exact ⟨k, m, Prod.ext e.symm e2.symm, h2⟩
  have go : ∀ l : List (Key × V), (∀ p ∈ l, ∃ k m : Nat, p = (Sum.inl (k : Int), V.int (m : Int)) ∧ F k m) → ∃ ps : List (Nat × Nat), l = kvI (ps.map fun p => ((p.1 : Int), (p.2 : Int))) ∧ ∀ p ∈ ps, F p.1 p.2 := by
    intro l
    induction l with
    | nil => intro _; exact ⟨[], rfl, fun p hp => by cases hp⟩
    | cons p l ih =>
      intro h
      obtain ⟨k, m, rfl, hf⟩ := h p List.mem_cons_self
      obtain ⟨ps, e, hp⟩ := ih fun q hq => h q (List.mem_cons_of_mem _ hq)
      refine ⟨(k, m) :: ps, by rw [e]; rfl, fun q hq => ?_⟩
      rcases List.mem_cons.mp hq with z | z
      · rw [z]; exact hf
      · exact hp q z
  obtain ⟨ps, e, hp⟩ := go kvs each
  refine ⟨ps, e, ?_, hp⟩
  have hk := h.keys
  rw [e, List.map_map, List.map_map] at hk
  have inj : ∀ (a b : List Nat), a.map (fun (k : Nat) => (Sum.inl (k : Int) : Key)) = b.map (fun (k : Nat) => (Sum.inl (k : Int) : Key)) → a = b := by
    intro a
    induction a with
    | nil => intro b h; cases b with
      | nil => rfl
      | cons => cases h
    | cons x a ih =>
      intro b h
      cases b with
      | nil => cases h
      | cons y b =>
        rw [List.map_cons, List.map_cons] at h
        injection h with h1 h2
        injection h1 with h1
        rw [ih b h2, show x = y by omega]
  refine inj _ _ ?_
  rw [List.map_map]
  exact hk
def PairsAt (H : Hp) (ts : List Addr) (qs : List (Nat × Nat)) : Prop := Paired (fun (t : Addr) (q : Nat × Nat) => H t = some (.tup [.int (q.1 : Nat), .int (q.2 : Nat)])) ts qs
def spFAges : Sp := fun vs H Q _ => ∃ (b : Addr) (ws : List (List Sy)) (st : List Sy), vs = [.ref b] ∧ BookAt H b ws st ∧ GoodBook ws st ∧
  ∀ (H' : Hp) (p : Addr) (ts : List Addr) (qs : List (Nat × Nat)), Same H H' → H p = none → H' p = some (.tup (ts.map V.ref)) → PairsAt H' ts qs → (qs.map (·.1)).Pairwise (· < ·) → (∀ k, k ∈ qs.map (·.1) ↔ Comes ws st k) → (∀ q ∈ qs, FirstAge ws st q.1 q.2) → Q (.ref p) H'
section
variable {P : Program} {w : World} {K : PySem.W.Frag} {mg : Str → Option Value} {base : Heap}
theorem ok_fages {f : Addr} {fd : FuncData} {k : Nat} (F : Fun K "first_ages" "first_ages" s_first_ages f fd) (GC : Got P w K mg base "check_book" k ["value"] spCheckBook) (GA : Got P w K mg base "ages_of_letters" k ["words", "parts"] (spAges K)) (mO : mg "sorted" = none) (mT : mg "tuple" = none) :
    FnOk P w K mg base CX0 (k + 1) f fd ["book"] spFAges := by
  refine F.ok sc_first_ages (fun vs H Q E h => ?_) (fun cdv A outer s H vs Q E hr h => ?_)
  · obtain ⟨b, ws, st, rfl, _⟩ := h
    rfl
  · obtain ⟨b, ws, st, rfl, hb, hg, q⟩ := h
    have nd := sc_first_ages.nd
    refine ⟨_, pss_cons (ps_expr (pcall GC hr (pa_cons (pv 0) pa_nil)))
      (pss_cons (ps_asg (pv 0) (pg_tup (by rfl) (pgs_cons (pg_name (i := 1) nd rfl (.inl rfl)) (pgs_cons (pg_name (i := 2) nd rfl (.inl rfl)) pgs_nil))))
      (pss_one (ps_ret (ptupleN mT (pe_callB (cr_sortKV rfl) (by rfl) mO (by decide +kernel) (pa_cons (pe_bm0 PySem.F.plainAttrs_dict PySem.F.slot_dict_items PySem.F.type_dict_items mt_itemsK (pcall GA hr (pa_cons (pv 1) (pa_cons (pv 2) pa_nil)))) pa_nil) (by decide) (by decide)))))), ?_⟩
    refine ⟨_, rfl, b, ws, st, rfl, hb, hg, fun H1 S1 => ?_⟩
    obtain ⟨p, pq, as, h1, h2, h3, h4⟩ := hb
    refine ⟨_, rfl, b, _, rfl, SqT.of (S1 _ _ h1), rfl, _, _, rfl, _, _, rfl, rfl, ?_⟩
    refine ⟨_, rfl, _, rfl, p, pq, as, ws, st, rfl, S1 _ _ h2, Paired.mono (fun a q e => WdAt.same e S1) h4, .inr (h3.same S1).sq, by have := hg.few; omega, hg.words, hg.start.lets, fun H2 D ks kvs S2 n2 hD hK => ?_⟩
    obtain ⟨ps, rfl, e1, e2⟩ := keyS_pairs hK
    refine ⟨.inr (.inr (.inl ⟨rfl, .inl ⟨_, hD⟩⟩)), D, _, rfl, rfl, hD, fun v nv => ⟨v, D, _, rfl, upd_same, same_upd nv _ _ hD, fun H3 l ts qs S3 n3 h3' hp perm srt => ?_⟩⟩
    refine ⟨l, _, rfl, SqL.of h3', fun H4 pt S4 n4 h4' => ?_⟩
    have S04 := ((S1.trans S2).trans (same_upd (o := itemsK v D) nv)).trans (S3.trans S4)
    have np : H pt = none := ((S1.trans S2).trans (same_upd (o := itemsK v D) nv)).free (S3.free n4)
    have cast : ∀ x ∈ qs, ∃ y ∈ ps, x = ((y.1 : Int), (y.2 : Int)) := fun x hx => by
      obtain ⟨y, hy, e⟩ := List.mem_map.mp (perm.mem_iff.mp hx)
      exact ⟨y, hy, e.symm⟩
    have pm : (qs.map fun x => (x.1.toNat, x.2.toNat)).Perm ps := by
      have := perm.map fun x : Int × Int => (x.1.toNat, x.2.toNat)
      rw [List.map_map] at this
      have e : (ps.map ((fun x : Int × Int => (x.1.toNat, x.2.toNat)) ∘ fun p : Nat × Nat => ((p.1 : Int), (p.2 : Int)))) = ps := (List.map_congr_left fun y _ => rfl).trans (List.map_id ps)
      rw [e] at this
      exact this
    have k1 : ((qs.map fun x => (x.1.toNat, x.2.toNat)).map (·.1)).Perm ks := by rw [← e1]; exact pm.map _
    refine q H4 pt ts (qs.map fun x => (x.1.toNat, x.2.toNat)) S04 np h4' ?_ ?_ (fun k => (k1.mem_iff).trans (hK.mem k)) (fun x hx => e2 x (pm.mem_iff.mp hx))
    · have : ∀ {ts : List Addr} {qs : List (Int × Int)}, Paired (fun (t : Addr) (q : Int × Int) => H3 t = some (.tup [.int q.1, .int q.2])) ts qs → (∀ x ∈ qs, ∃ y ∈ ps, x = ((y.1 : Int), (y.2 : Int))) → PairsAt H4 ts (qs.map fun x => (x.1.toNat, x.2.toNat)) := by
        intro ts qs h
        induction h with
        | nil => intro _; exact .nil
        | cons r t ih =>
          intro c
          refine .cons ?_ (ih fun x hx => c x (List.mem_cons_of_mem _ hx))
          obtain ⟨y, _, rfl⟩ := c _ List.mem_cons_self
          exact S4 _ _ r
      exact this hp cast
    · have ndk : ((qs.map fun x => (x.1.toNat, x.2.toNat)).map (·.1)).Nodup := k1.nodup_iff.mpr hK.nd
      rw [List.map_map] at ndk ⊢
      rw [List.Nodup, List.pairwise_map] at ndk
      rw [List.pairwise_map]
      refine List.Pairwise.imp_of_mem (fun {x y} hx hy h => ?_) (srt.and ndk)
      obtain ⟨x', _, rfl⟩ := cast x hx
      obtain ⟨y', _, rfl⟩ := cast y hy
      obtain ⟨h1, h2⟩ := h
      have h2 : x'.1 ≠ y'.1 := h2
      show x'.1 < y'.1
      unfold lexI at h1
      dsimp only at h1
      omega
end
end SK
namespace SK
open PySem PySem.Spec PyProof.Rows L2
/-! ### books alike -/
theorem sy_flat (w : List Sy) : ∀ x ∈ wv w, flatA x = true := fun x hx => by
  obtain ⟨s, _, rfl⟩ := List.mem_map.mp hx
  cases s <;> rfl
theorem alk_wd {H : Hp} {a b : Addr} {w : List Sy} (h1 : WdAt H a w) (h2 : WdAt H b w) (hl : w.length ≤ 10000000) : Alk H 1 (.ref a) (.ref b) := by
  obtain ⟨o1, e1, _⟩ := h1
  obtain ⟨o2, e2, _⟩ := h2
  refine .inr ⟨a, b, wv w, wv w, rfl, rfl, .inl ⟨.inr ⟨o1, e1⟩, .inr ⟨o2, e2⟩⟩, rfl, by rw [List.length_map]; exact hl, fun i x y h1 h2 => ?_⟩
  rw [h1] at h2
  cases h2
  exact ⟨rfl, sy_flat w x (List.mem_of_getElem? h1)⟩
theorem alk_wds {H : Hp} {p q : Addr} {as bs : List Addr} {ws : List (List Sy)} (hp : H p = some (.tup (as.map V.ref))) (hq : H q = some (.tup (bs.map V.ref))) (h1 : Words H as ws) (h2 : Words H bs ws) (hl : ws.length ≤ 1000) (hw : ∀ w ∈ ws, w.length ≤ 10000000) : Alk H 2 (.ref p) (.ref q) := by
  have l1 := h1.length
  have l2 := h2.length
  refine .inr ⟨p, q, _, _, rfl, rfl, .inl ⟨.inl hp, .inl hq⟩, by rw [List.length_map, List.length_map]; omega, by rw [List.length_map]; omega, fun i x y hx hy => ?_⟩
  have hi : i < ws.length := by have := (List.getElem?_eq_some_iff.mp hx).1; rw [List.length_map] at this; omega
  have hwi := List.getElem?_eq_getElem hi
  obtain ⟨a, ea, ha⟩ := paired_get h1 hwi
  obtain ⟨b, eb, hb⟩ := paired_get h2 hwi
  rw [List.getElem?_map, ea] at hx
  rw [List.getElem?_map, eb] at hy
  cases hx
  cases hy
  exact alk_wd ha hb (hw _ (List.getElem_mem hi))
theorem alk_book {H : Hp} {b c : Addr} {ws : List (List Sy)} {st : List Sy} (h1 : BookAt H b ws st) (h2 : BookAt H c ws st) (hl : ws.length ≤ 1000) (hw : ∀ w ∈ ws ++ [st], w.length ≤ 10000000) : Alk H 3 (.ref b) (.ref c) := by
  obtain ⟨p, q, as, a1, a2, a3, a4⟩ := h1
  obtain ⟨p', q', as', b1, b2, b3, b4⟩ := h2
  refine .inr ⟨b, c, _, _, rfl, rfl, .inl ⟨.inl a1, .inl b1⟩, rfl, by show 2 ≤ _; decide, fun i x y hx hy => ?_⟩
  match i, hx, hy with
  | 0, hx, hy =>
    cases hx
    cases hy
    exact alk_wds a2 b2 a4 b4 hl fun w h => hw w (List.mem_append_left _ h)
  | 1, hx, hy =>
    cases hx
    cases hy
    exact (alk_wd a3 b3 (hw st (by simp))).up
  | n + 2, hx, hy => cases hx
end SK
namespace SK
open PySem PySem.Spec PyProof.Rows L2
/-- a list, new: none of the written part either -/
def tLstK (K : PySem.W.Frag) (t : TA) : TE := fun σ H Q => t σ H fun xs H1 => xs.length ≤ sizeLine ∧ ∀ (H' : Hp) (p : Addr), Same H1 H' → H1 p = none → K.lookup p = none → H' p = some (.lst xs) → Q (.ref p) H'
theorem plstK {X : Cx} {es : List Expr} {t : TA} {pos : Pos} (h : PA X es t) : PE X (.List es pos) (tLstK X.K t) := by
  refine ⟨fun pins s σ H Q I hq => ?_⟩
  refine wpAny_List_spliced (thn (h.run pos pins s σ H _ I hq) fun us s1 ⟨xs, H1, I1, r, z, q⟩ => ⟨by rw [← r.length]; exact z, ?_⟩)
  have hf : H1 s1.heap.objs.size = none := I1.hok.fresh (Nat.le_refl _)
  have hk : X.K.lookup s1.heap.objs.size = none := by
    cases e : X.K.lookup s1.heap.objs.size with
    | none => rfl
    | some o => exact absurd (Heap.lt_size (I1.kIn _ _ e)) (Nat.lt_irrefl _)
  refine ⟨.ref s1.heap.objs.size, upd H1 s1.heap.objs.size (.lst xs), I1.laid (t' := s1.toks) (fun b u e => Heap.get?_push_of_some _ e) (Nat.le_refl _) ?_, rfl, q _ _ (same_upd hf) hf hk upd_same⟩
  exact ⟨z, us, 0, r, Heap.get?_push_size _ rfl⟩
end SK
namespace SK
open PySem PySem.Spec PyProof.Rows L2
def rIsBl (C a : Addr) (cls : Value) (d : Option Addr) : List V → Hp → VK → Prop := fun xs H Q => xs = [.ref a, .ref C] ∧ cls = .ref C ∧ ∃ (dd : Addr) (fs : List (Str × V)), d = some dd ∧ H dd = some (.xd fs) ∧ Q (.bl true) H
theorem call_isBl {X : Cx} {a C fI : Addr} {oe : Obj} {cls : Value} {d : Option Addr} {pn : List (Addr × Obj)} (T : BlTxt X.prog X.K X.mg C fI) (T2 : IsTxt X.K C) (hz : Zc cls d oe) (hf : ∃ vs, oe.data = .fields vs) : CallR (X.suite a ((a, oe) :: pn)) (.builtin "isinstance") (rIsBl C a cls d) := by
  intro pins s σ H xs us Q I r h
  obtain ⟨rfl, rfl, dd, fs, rfl, hd, q⟩ := h
  obtain ⟨u, w', rfl, r1, r2⟩ := vals2 r
  obtain rfl : u = Value.ref a := r1
  obtain rfl : w' = Value.ref C := r2
  obtain ⟨hget, _⟩ := I.pin (a, oe) (List.mem_append.mpr (.inl List.mem_cons_self))
  obtain ⟨vs, hv⟩ := hf
  obtain ⟨mA, hns, hr⟩ := (show ObjOk X.prog X.w H s.heap dd (.xd fs) from I.hok dd _ hd)
  obtain ⟨od, ho, hl⟩ := lookIn_ns hns
  have J : PySem.W.InstAt s.heap a oe C (some od) := ⟨hget, hz.1, by unfold PySem.W.notCls; rw [hv] <;> rfl, by rw [hz.2]; exact ho⟩
  have hcl : (PySem.W.clsIn X.K C).isSome = true := by
    obtain ⟨nm, q, N, bs, bm, sn, sub, ab, col, dd, k0, k1, k2, k3, k5, hC, hbm⟩ := T.cls
    unfold PySem.W.clsIn
    rw [hC] <;> rfl
  exact PySem.W.kia_one (PySem.W.kitx_exc (ox := oe) (od := some od) hcl T.ga T.gg T.exC T2.ha T2.hn T2.ht T2.hm) I.kIn J T2.kit (fun z => nomatch z) fun tk => ⟨.bl true, H, I.kept (t' := tk) fun _ _ z => z, rfl, q⟩
end SK
namespace SK
open PySem PySem.Spec PyProof.Rows L2
/-- isinstance(e, c), e the error that the suite holds -/
def rIsN (K : PySem.W.Frag) (D a : Addr) (cls : Value) (d : Option Addr) : List V → Hp → VK → Prop := fun xs H Q => cls = .ref D ∧ d = none ∧ rIsE K D a xs H Q
theorem call_isN {X : Cx} {a D : Addr} {oe : Obj} {cls : Value} {d : Option Addr} {pn : List (Addr × Obj)} (C : ExcC X.K D) (hz : Zc cls d oe) (hf : ∃ vs, oe.data = .fields vs) : CallR (X.suite a ((a, oe) :: pn)) (.builtin "isinstance") (rIsN X.K D a cls d) := by
  intro pins s σ H xs us Q I r h
  obtain ⟨rfl, rfl, h⟩ := h
  exact call_isE C hz hf pins s σ H xs us Q I r h
end SK
namespace SK
open PySem PySem.Spec PyProof.Rows L2 SX
/-! law 0: what it calls, its words' texts -/
def spLaw (K : PySem.W.Frag) : Sp := fun vs H Q _ => ∃ (a : Addr) (ns : List Int), vs = [.ref a] ∧ SqL K H a (ns.map V.int) ∧ ns.length ≤ 63 ∧ ∀ H', Q (.bl true) H'
/-- a text that tells a book -/
def spReadOk : Sp := fun vs H Q _ => ∃ (t : List Nat) (ws : List (List Sy)) (st : List Sy), vs = [.str (S t)] ∧ t.length ≤ 1000000 ∧ readB t = .inr (ws, st) ∧ ∀ (H' : Hp) (p : Addr), Same H H' → H p = none → BookAt H' p ws st → Q (.ref p) H'
structure LawG00 (P : Program) (w : World) (K : PySem.W.Frag) (mg : Str → Option Value) (base : Heap) (C CT : Addr) (k : Nat) : Prop where
  book : Got P w K mg base "_law_book" k ["row"] (spBook K)
  text : Got P w K mg base "_law_word_text" k ["word"] (spTextOf K)
  grown : Got P w K mg base "_law_grown" k ["book", "age"] (spGrown K)
  alike : Got P w K mg base "_law_alike" k ["found", "due"] (spAlike 4)
  write : Got P w K mg base "write_book" k ["book"] spWrite
  read : Got P w K mg base "read_book" k ["text"] spReadOk
  readX : GotX P w K mg base "read_book" k ["text"] (spReadBook K C CT)
  fages : Got P w K mg base "first_ages" k ["book"] spFAges
  mR : mg "range" = none
  ml : mg "len" = none
  mT : mg "tuple" = none
  mI : mg "isinstance" = none
  mS : mg "str" = none
  mi : mg "int" = none
  mO : mg "sorted" = none
theorem read_ok {P : Program} {w : World} {K : PySem.W.Frag} {mg : Str → Option Value} {base : Heap} {k : Nat} {C CT : Addr} (g : GotX P w K mg base "read_book" k ["text"] (spReadBook K C CT)) : Got P w K mg base "read_book" k ["text"] spReadOk :=
  g.cool fun vs H Q E ⟨t, ws, st, e, hz, hr, q⟩ => ⟨_, e, .inr ⟨t, rfl, hz, by rw [hr]; exact q⟩⟩
def tSgnL (i : Nat) : TE := tSgn i
section
variable {P : Program} {w : World} {K : PySem.W.Frag} {mg : Str → Option Value} {base : Heap}
theorem ok_lawtext {f : Addr} {fd : FuncData} {k : Nat} (F : Fun K "_law_word_text" "_law_word_text" s_law_word_text f fd) (mI : mg "isinstance" = none) (mS : mg "str" = none) : FnOk P w K mg base CX0 (k + 1) f fd ["word"] (spTextOf K) := by
  refine F.ok sc_law_word_text (fun vs H Q E h => ?_) (fun cdv A outer s H vs Q E hr h => ?_)
  · obtain ⟨t, w, rfl, _⟩ := h
    rfl
  · obtain ⟨t, wd, rfl, ht, hl, hz, q⟩ := h
    have nd := sc_law_word_text.nd
    refine ⟨_, pss_one (ps_ret (pe_join pe_str (pe_lc (own := [("item", 1)]) (g := gName 1) (tt := tYes) (te := tSgn 1) rfl nd (pi_tup (pv 0)) (blkOk_by (N := n_law_word_text) (sc := defScope s_law_word_text) (by decide +kernel))
      (fun _ _ _ _ _ => pg_name (i := 1) nd rfl (Or.inl rfl)) (fun _ _ _ _ _ => pts_nil)
      (fun _ _ _ _ _ => pimp (tSgn 1) (pe_ifExp (pt_val (pis "str" (by decide +kernel) mI mS (pv 1))) (pv 1) (pe_item_str pe_str (pv 1) (fun _ _ => rfl))) ?sg)))), ?_⟩
    case sg =>
      rintro σ H Q ⟨s, hs, hl, q⟩
      obtain ⟨tn, tb, ht, hk, htb⟩ := ty_sy (K := K) (H := H) s
      refine ⟨_, hs, s.v, tn, tb, rfl, ht, hk, tb, rfl, ?_⟩
      cases e : isL s with
      | false =>
        rw [htb, e]
        refine iteT ⟨_, hs, ?_⟩
        rw [sv_sign e]
        exact q
      | true =>
        rw [htb, e]
        cases s with
        | l k =>
          have hk8 : k < 8 := of_decide_eq_true hl
          refine iteF ⟨_, hs, _, (k : Int), 97 + k, rfl, rfl, by omega, by omega, ?_, ?_, q⟩
          · show (k : Int) < ((Str.ofString "abcdefgh").length : Nat)
            rw [show (Str.ofString "abcdefgh").length = 8 by decide +kernel]
            omega
          · rw [Int.toNat_natCast]; exact abc_at hk8
        | _ => cases e
    dsimp only [tRet, tM1, tCons]
    refine ⟨⟨_, rfl⟩, _, rfl, t, rfl, ⟨_, ht⟩, fun D nD => ?_⟩
    refine lc_tup (K := K) (a := t) (xs := wv wd) (fun i H' => Same H H' ∧ H' D = some (.lst (((ones (txW (wd.take i))).map S).map V.str))) ⟨same_upd nD, upd_same⟩ (fun i H' _ h => sTup h.1 ht) ?_ ?_
    · rintro i x H1 hx ⟨S1, hD⟩
      obtain ⟨s, hs, rfl⟩ := wv_get hx
      have hi : i < wd.length := (List.getElem?_eq_some_iff.mp hs).1
      refine ⟨rfl, s, rfl, hl s (List.mem_of_getElem? hs), _, hD, ?_, sPut S1 nD, ?_⟩
      · unfold ones txW
        rw [List.length_map, List.length_map, List.length_map, List.length_map, List.length_take, sizeLine_eq]; omega
      · rw [upd_same, take_more hs]
        unfold ones txW
        rw [List.map_append, List.map_append, List.map_append, List.map_append]
        rfl
    · rintro H1 ⟨S1, hD⟩
      have e0 : (Str.ofString "") = S [] := by decide +kernel
      rw [List.length_map, List.take_length] at hD
      have lt : (txW wd).length = wd.length := by unfold txW; rw [List.length_map]
      refine ⟨_, D, _, rfl, rfl, .inl (SqL.of hD), ?_, ?_⟩
      · rw [lens, e0, S_len, ones_sum, lt]
        show _ + _ * 0 ≤ _
        omega
      · rw [e0, join_S, joinL_nil', ones_flat]
        exact q H1 S1
end
end SK
namespace SK
open PySem PySem.Spec PyProof.Rows L2 SX
/-! law 0: the book and its text -/
def tLn (K : PySem.W.Frag) : TE := fun σ H Q => ∃ (b : Addr) (ws : List (List Sy)) (st w : List Sy) (j : Nat), σ[2]? = some (some (.ref b)) ∧ σ[18]? = some (some (.int (j : Nat))) ∧ BookAt H b ws st ∧ GoodBook ws st ∧ ws[j]? = some w ∧ ∀ H', Same H H' → Q (.str (S (lineOf (j + 1) w))) H'
def tR5 (K : PySem.W.Frag) : TS := fun D σ H => ∃ (a r b l : Addr) (ws : List (List Sy)) (st : List Sy), σ = [some (.ref a), some (.ref r), some (.ref b), some (.ref l), some (.str (S (bookTx ws st))), none, none, none, none, none, none, none, none, none, none, none, none, none, none, none] ∧ BookAt H b ws st ∧ GoodBook ws st ∧ ∀ H', D.rt (.bl true) H'
theorem tx_len (w : List Sy) : (txW w).length = w.length := by unfold txW; rw [List.length_map]
theorem lines_sum : ∀ (W : List (List Sy)) (j : Nat), (∀ w ∈ W, w.length ≤ 40) → ((linesOf j W).map List.length).sum ≤ 46 * W.length := by
  intro W
  induction W with
  | nil => intro j _; exact Nat.zero_le _
  | cons w r ih =>
    intro j h
    have i1 := ih (j + 1) (fun x hx => h x (List.mem_cons_of_mem _ hx))
    have i2 := h w List.mem_cons_self
    show (lineOf j w).length + ((linesOf (j + 1) r).map List.length).sum ≤ _
    have h5 : (headsL.getD j []).length ≤ 5 := by
      by_cases hj : j < 9
      · have : ∀ i : Fin 9, (headsL.getD i.1 []).length ≤ 5 := by decide
        exact this ⟨j, hj⟩
      · rw [List.getD_eq_getElem?_getD, List.getElem?_eq_none (by show 9 ≤ j; omega)]
        exact Nat.zero_le _
    unfold lineOf txW
    rw [List.length_append, List.length_cons, List.length_map, List.length_cons]
    omega
theorem join_len (l : List (List Nat)) : (TL.joinL [10] l).length ≤ (l.map List.length).sum + l.length := by
  induction l with
  | nil => exact Nat.zero_le _
  | cons p r ih =>
    cases r with
    | nil => show p.length ≤ p.length + 0 + 1; omega
    | cons q r =>
      show (p ++ ([10] ++ TL.joinL [10] (q :: r))).length ≤ p.length + ((q :: r).map List.length).sum + ((q :: r).length + 1)
      rw [List.length_append, List.length_append]
      show p.length + (1 + _) ≤ _
      omega
theorem book_few {ws : List (List Sy)} {st : List Sy} (hg : GoodBook ws st) : (bookTx ws st).length ≤ 1000 := by
  have h1 := lines_sum (st :: ws) 0 fun w hw => (good_let hg hw).2
  have h2 := join_len (linesOf 0 (st :: ws))
  rw [linesOf_len] at h2
  have := hg.few
  rw [List.length_cons] at h1 h2
  unfold bookTx
  omega
section
variable {P : Program} {w : World} {K : PySem.W.Frag} {mg : Str → Option Value} {base : Heap}
theorem law00_a {f C CT : Addr} {fd : FuncData} {k : Nat} (F : Fun K "law" "law" s_law f fd) (G : LawG00 P w K mg base C CT k)
    (R : ∀ (cdv : Value) (A : Around) (outer : List Env) (s : Shared) (H : Hp) (E : XK), Room k (A.deeper (envOfC "law" (defScope s_law) s.heap.objs.size f cdv)) → PSs (cxOf CX0 P w K mg base n_law "law" (defScope s_law) f cdv A outer s H E).nox ((defBody s_law).drop 5) (tR5 K)) :
    FnOk P w K mg base CX0 (k + 1) f fd ["script"] (spLaw K) := by
  refine F.ok sc_law (fun vs H Q E h => ?_) (fun cdv A outer s H vs Q E hr h => ?_)
  · obtain ⟨a, ns, rfl, _⟩ := h
    rfl
  · obtain ⟨a, ns, rfl, ha, hns, q⟩ := h
    have nd := sc_law.nd
    have GB := G.book
    have GT := G.text
    have mR := G.mR
    have ml := G.ml
    refine ⟨_, pss_cons (ps_set (i := 1) nd rfl (.inl rfl) (plstK (pa_cons (pv 0) (pa_cons pe_int (pa_cons pe_int (pa_cons pe_int pa_nil))))))
      (pss_cons (ps_set (i := 2) nd rfl (.inr rfl) (pcall GB hr (pa_cons (pv 1) pa_nil)))
      (pss_cons (ps_set (i := 3) nd rfl (.inl rfl) (plstN (pa_cons (pe_op op_add_str pe_str (pcall GT hr (pa_cons (pixT (pv 2) pe_int) pa_nil))) pa_nil)))
      (pss_cons (ps_set (i := 3) nd rfl (.inl rfl) (pcatN (pv 3) (pe_lc (own := [("k", 18)]) (g := gName 18) (tt := tYes) (te := tLn K) rfl nd (pi_range1 rfl mR (pa_cons (plen ml (pixT (pv 2) pe_int)) pa_nil)) (blkOk_by (N := n_law) (sc := defScope s_law) (by decide +kernel))
        (fun _ _ _ _ _ => pg_name (i := 18) nd rfl (Or.inl rfl)) (fun _ _ _ _ _ => pts_nil)
        (fun _ _ _ _ _ => pimp (tLn K) (pe_op op_add_str (pe_op op_add_str (pe_item_str pe_str (pv 18) (fun _ _ => rfl)) pe_str) (pcall GT hr (pa_cons (pixT (pixT (pv 2) pe_int) (pv 18)) pa_nil))) ?ln))))
      (pss_cons (ps_set (i := 4) nd rfl (.inl rfl) (pe_join pe_str (pv 3)))
      (R cdv A outer s H E hr))))), ?_⟩
    case ln =>
      rintro σ H Q ⟨b, ws, st, w1, j, h2, h18, hb, hg, hj, q⟩
      have jl := (List.getElem?_eq_some_iff.mp hj).1
      have few := hg.few
      obtain ⟨p, pq, as, b1, b2, b3, b4⟩ := hb
      obtain ⟨wa, ha, hwt⟩ := paired_get b4 hj
      obtain ⟨gl, gz⟩ := good_let hg (List.mem_cons_of_mem _ (List.mem_of_getElem? hj))
      have e32 : Str.ofString " " = S [32] := by decide +kernel
      refine ⟨_, h18, _, (j : Int), 97 + j, rfl, rfl, by omega, by omega, ?_, ?_, _, _, rfl, rfl, by rw [e32, S_len, S_len, sizeLine_eq]; show 2 ≤ _; decide, ?_⟩
      · show (j : Int) < ((Str.ofString "abcdefgh").length : Nat)
        rw [show (Str.ofString "abcdefgh").length = 8 by decide +kernel]
        omega
      · rw [Int.toNat_natCast]; exact abc_at (by omega)
      rw [e32, S_cat]
      refine ⟨_, h2, b, _, _, _, rfl, rfl, SqT.of b1, at0, _, h18, p, _, _, .ref wa, rfl, rfl, SqT.of b2, atI_nat (by rw [List.getElem?_map, ha]; rfl), wa, w1, rfl, hwt.sq, gl, by omega, fun H' S' => ⟨_, _, rfl, rfl, ?_, ?_⟩⟩
      · rw [S_len, S_len, tx_len, sizeLine_eq]; show 2 + _ ≤ _; omega
      · rw [S_cat]
        have eh : headsL.getD (j + 1) [] = [97 + j] := by
          have : ∀ i : Fin 8, headsL.getD (i.1 + 1) [] = [97 + i.1] := by decide
          exact this ⟨j, by omega⟩
        have := q H' S'
        unfold lineOf at this
        rw [eh] at this
        exact this
    refine ⟨_, rfl, szl 4, fun H1 r S1 n1 k1 h1 => ?_⟩
    have nar : a ≠ r := by
      rcases ha with (e | ⟨o, e⟩) | ⟨o, its, n, e, _⟩
      · exact ne_of_none e n1
      · exact ne_of_none e n1
      · intro z; rw [z, show K.lookup r = none from k1] at e; cases e
    have hR1 : RowOk K (a, ns) H1 r := ⟨0, 11300, 0, h1, S1.seq ha, Int.le_refl _, nar, hns⟩
    refine ⟨_, rfl, r, (a, ns), rfl, hR1, fun H2 b ws st D2 hb hg => ?_⟩
    have few := hg.few
    obtain ⟨p, pq, as, b1, b2, b3, b4⟩ := id hb
    have el := b4.length
    obtain ⟨gl0, gz0⟩ := good_let hg (w := st) List.mem_cons_self
    refine ⟨_, rfl, b, _, _, _, rfl, rfl, SqT.of b1, at1, pq, st, rfl, b3.sq, gl0, by omega, fun H3 S3 => ⟨_, _, rfl, rfl, ?_, szl 1, fun H4 l0 S4 n4 h4 => ?_⟩⟩
    · rw [show (S (txW st)).length = st.length from (S_len _).trans (tx_len st), sizeLine_eq, show (Str.ofString "start ").length = 6 by decide +kernel]; omega
    have es : Str.ofString "start " ++ S (txW st) = S (lineOf 0 st) := by
      rw [show Str.ofString "start " = S [115, 116, 97, 114, 116, 32] by decide +kernel, S_cat]
      rfl
    rw [es] at h4
    have S24 := S3.trans S4
    have hb4 := hb.keep (.of S24)
    refine ⟨_, rfl, _, rfl, b, _, _, _, rfl, rfl, SqT.of (S24 _ _ b1), at0, p, _, rfl, .inr (SqT.of (S24 _ _ b2)), (ws.length : Int), ?_, by omega, by omega, fun D nD => ?_⟩
    · rw [List.length_map, el]
    rw [Int.toNat_natCast]
    refine lc_range (lo := 0) (n := ws.length) (fun i H' => Same H4 H' ∧ H' D = some (.lst ((((linesOf 1 ws).take i).map S).map V.str))) ⟨same_upd nD, upd_same⟩ ?_ ?_
    · rintro i H5 hi ⟨S5, hD⟩
      have hj := List.getElem?_eq_getElem hi
      generalize ws[i] = w1 at hj
      refine ⟨rfl, b, ws, st, w1, i, rfl, ?_, hb4.keep (.of S5), hg, hj, fun H6 S6 => ⟨_, S6 _ _ hD, ?_, sPut (S5.trans S6) nD, ?_⟩⟩
      · show some (some (V.int (0 + (i : Int)))) = _
        rw [Int.zero_add]
      · rw [List.length_map, List.length_map, List.length_take, sizeLine_eq]; omega
      · have hli := linesOf_at 1 ws i w1 hj
        rw [upd_same, take_more hli, List.map_append, List.map_append, Nat.add_comm i 1]
        rfl
    · rintro H5 ⟨S5, hD⟩
      have ll := linesOf_len 1 ws
      rw [← ll, List.take_length] at hD
      refine ⟨l0, D, _, _, rfl, rfl, S5 _ _ h4, hD, ?_, fun H6 l S6 n6 h6 => ?_⟩
      · rw [List.length_map, List.length_map, ll, sizeLine_eq]; show 1 + _ ≤ _; omega
      have h6 : H6 l = some (.lst (((linesOf 0 (st :: ws)).map S).map V.str)) := h6
      have e10 : Str.ofString "\n" = S [10] := by decide +kernel
      refine ⟨⟨_, rfl⟩, _, rfl, _, l, _, rfl, rfl, .inl (SqL.of h6), ?_, ?_⟩
      · rw [lens, e10, S_len, List.length_map, linesOf_len, List.length_cons]
        have := lines_sum (st :: ws) 0 fun w hw => (good_let hg hw).2
        rw [List.length_cons] at this
        show ((linesOf 0 (st :: ws)).map List.length).sum + (ws.length + 1) * 1 ≤ 16777216
        omega
      · rw [e10, join_S]
        exact ⟨a, r, b, l, ws, st, rfl, hb4.keep (.of (S5.trans S6)), hg, q⟩
end
end SK
namespace SK
open PySem PySem.Spec PyProof.Rows L2 SX
/-! law 0: written, read, read from a text with more spaces -/
def tR8 (K : PySem.W.Frag) : TS := fun D σ H => ∃ (b : Addr) (ws : List (List Sy)) (st : List Sy) (y0 y1 y3 y4 y5 : Option V), σ = [y0, y1, some (.ref b), y3, y4, y5, none, none, none, none, none, none, none, none, none, none, none, none, none, none] ∧ BookAt H b ws st ∧ GoodBook ws st ∧ ∀ H', D.rt (.bl true) H'
/-- a written text ahead: what follows finds a token -/
theorem pe_opPET {X : Cx} {op : Operator} {r : R2} {f : Expr} {tf : TE} {c : Str} {j : Nat} {cp pos : Pos} (ho : OpR X (binaryOp op) r) (hb : PET X f tf) : PE X (.BinOp (.Constant (.str c) j cp) op f pos) (tOp r (tC (.str c)) tf) :=
  ⟨fun pins s σ H Q I h => wpAny_BinOp (Calls.Constant_str (thn (hb pins { s with toks := s.toks + 1 } σ H _ (by show 1 ≤ s.toks + 1; omega) (I.tok _) h) fun u s2 ⟨y, H2, I2, r2, q2⟩ => ho pins s2 σ H2 (.str c) y _ u Q I2 ⟨_, rfl⟩ r2 q2))⟩
theorem replace_S {t y z : List Nat} (hy : y ≠ []) : Txt.replace (S t) (S y) (S z) = S (PySem.StrLaws.replL y z t) := by
  have := PySem.StrLaws.replace_list (x := S t) (y := S y) (z := S z) (by rw [S_len]; exact List.length_pos_iff.mpr hy)
  rw [← S_tl (Txt.replace (S t) (S y) (S z)), this]
section
variable {P : Program} {w : World} {K : PySem.W.Frag} {mg : Str → Option Value} {base : Heap}
theorem law00_b {f C CT : Addr} {cdv : Value} {k : Nat} (G : LawG00 P w K mg base C CT k) {A : Around} {outer : List Env} {s : Shared} {H : Hp} {E : XK} (hr : Room k (A.deeper (envOfC "law" (defScope s_law) s.heap.objs.size f cdv)))
    (R : PSs (cxOf CX0 P w K mg base n_law "law" (defScope s_law) f cdv A outer s H E).nox ((defBody s_law).drop 8) (tR8 K)) :
    PSs (cxOf CX0 P w K mg base n_law "law" (defScope s_law) f cdv A outer s H E).nox ((defBody s_law).drop 5) (tR5 K) := by
  have nd := sc_law.nd
  have GW := G.write
  have GR := G.read
  have GA := G.alike
  refine pssimp _ (pss_cons (ps_set (i := 5) nd rfl (.inl rfl) (plstN (pa_cons (pcall GW hr (pa_cons (pv 2) pa_nil)) (pa_cons (pcall GR hr (pa_cons (pv 4) pa_nil)) pa_nil))))
    (pss_cons (ps_set (i := 5) nd rfl (.inl rfl) (pcatN (pv 5) (plstN (pa_cons (pcall GR hr (pa_cons (pe_op op_add_str (pe_opPET op_add_str (CwR.pet_replT (CwR.pet_replC (pv 4)))) pe_str) pa_nil)) pa_nil))))
    (pss_cons (ps_if (pt_not (pt_val (pcall GA hr (pa_cons (pv 5) (pa_cons (plstN (pa_cons (pv 4) (pa_cons (pv 2) (pa_cons (pv 2) pa_nil)))) pa_nil))))) pss_never pss_nil)
    R))) ?_
  rintro D σ H0 ⟨a, r, b, l, ws, st, rfl, hb, hg, q⟩
  have few := hg.few
  have one := hg.one
  have lt := book_few hg
  have hs : isWd ws.length st = true := isWd_of hg.start (Nat.le_refl _)
  have hw : ∀ w ∈ ws, isWd ws.length w = true := fun w h => isWd_of (hg.words w h) (Nat.le_refl _)
  obtain ⟨t, et⟩ : ∃ t, t = bookTx ws st := ⟨_, rfl⟩
  have r1 : readB t = .inr (ws, st) := by rw [et]; exact read_back one (by omega) hs hw
  have r2 : readB (weird t) = .inr (ws, st) := by rw [et]; exact read_weird one (by omega) hs hw
  rw [← et] at lt ⊢
  refine ⟨_, rfl, b, ws, st, rfl, hb, hg, fun H1 S1 => ?_⟩
  rw [← et]
  have hb1 := hb.keep (.of S1)
  refine ⟨_, rfl, t, ws, st, rfl, by omega, r1, fun H2 p1 S2 n2 hp1 => ⟨szl 2, fun H3 l5 S3 n3 h3 => ?_⟩⟩
  have hb3 := (hb1.keep (.of S2)).keep (.of S3)
  have hp3 := hp1.keep (.of S3)
  have e1 : Txt.replace (S t) (Str.ofString " ") (Str.ofString "   ") = S (PySem.StrLaws.replL [32] [32, 32, 32] t) := by
    rw [show Str.ofString " " = S [32] by decide +kernel, show Str.ofString "   " = S [32, 32, 32] by decide +kernel, replace_S (by simp)]
  have l1 : (Txt.replace (S t) (Str.ofString " ") (Str.ofString "   ")).length ≤ 5000 := by
    refine Nat.le_trans (TK.replace_len _ _ _) ?_
    rw [S_len, show (Str.ofString "   ").length = 3 by decide +kernel]
    omega
  refine ⟨_, rfl, _, rfl, _, rfl, ?_, _, rfl, ?_, ?_⟩
  · rw [S_len, show (Str.ofString "   ").length = 3 by decide +kernel]; omega
  · rw [show (Str.ofString "\n\n").length = 2 by decide +kernel]; omega
  have l2 : (Txt.replace (Txt.replace (S t) (Str.ofString " ") (Str.ofString "   ")) (Str.ofString "\n") (Str.ofString "\n\n")).length ≤ 16000 := by
    refine Nat.le_trans (TK.replace_len _ _ _) ?_
    rw [show (Str.ofString "\n\n").length = 2 by decide +kernel]
    omega
  have e2 : Str.ofString "\n  " ++ Txt.replace (Txt.replace (S t) (Str.ofString " ") (Str.ofString "   ")) (Str.ofString "\n") (Str.ofString "\n\n") ++ Str.ofString "\n" = S (weird t) := by
    rw [e1, show Str.ofString "\n" = S [10] by decide +kernel, show Str.ofString "\n\n" = S [10, 10] by decide +kernel, replace_S (by simp), show Str.ofString "\n  " = S [10, 32, 32] by decide +kernel, S_cat, S_cat, List.append_assoc]
    rfl
  have l3 : (Str.ofString "\n  " ++ Txt.replace (Txt.replace (S t) (Str.ofString " ") (Str.ofString "   ")) (Str.ofString "\n") (Str.ofString "\n\n")).length ≤ 16003 := by
    rw [TL.len_tl, TL.tl_append, List.length_append, ← TL.len_tl, ← TL.len_tl, show (Str.ofString "\n  ").length = 3 by decide +kernel]
    omega
  refine ⟨_, _, rfl, rfl, ?_, _, _, rfl, rfl, ?_, ?_⟩
  · rw [show (Str.ofString "\n  ").length = 3 by decide +kernel, sizeLine_eq]; omega
  · rw [show (Str.ofString "\n").length = 1 by decide +kernel, sizeLine_eq]; omega
  rw [e2]
  have lw : (weird t).length ≤ 1000000 := by
    have e3 : (weird t).length = (S (weird t)).length := (S_len _).symm
    rw [e3, ← e2, TL.len_tl, TL.tl_append, List.length_append, ← TL.len_tl, ← TL.len_tl, show (Str.ofString "\n").length = 1 by decide +kernel]
    omega
  refine ⟨weird t, ws, st, rfl, lw, r2, fun H4 p2 S4 n4 hp2 => ⟨szl 1, fun H5 l6 S5 n5 h5 => ⟨l5, l6, _, _, rfl, rfl, S5 _ _ (S4 _ _ h3), h5, szl 3, fun H6 l7 S6 n6 h6 => ?_⟩⟩⟩
  have S36 := (S4.trans S5).trans S6
  refine ⟨_, rfl, _, rfl, _, rfl, _, rfl, szl 3, fun H7 l8 S7 n7 h7 => ?_⟩
  have S37 := S36.trans S7
  have hb7 := hb3.keep (.of S37)
  refine ⟨.ref l7, .ref l8, rfl, .inr ⟨l7, l8, _, _, rfl, rfl, .inr ⟨S7 _ _ h6, h7⟩, rfl, by show 3 ≤ _; decide, fun i x y hx hy => ?_⟩, fun H8 S8 => ⟨true, rfl, iteF ⟨b, ws, st, _, _, _, _, _, rfl, hb7.keep (.of S8), hg, q⟩⟩⟩
  have bk : ∀ p, BookAt H7 p ws st → Alk H7 3 (.ref p) (.ref b) := fun p hp => alk_book hp hb7 (by omega) fun w h => by
    rcases List.mem_append.mp h with h | h
    · have := (hg.words w h).len; omega
    · rw [List.mem_singleton.mp h]; have := hg.start.len; omega
  match i, hx, hy with
  | 0, hx, hy =>
    cases hx
    cases hy
    exact .inl ⟨rfl, rfl⟩
  | 1, hx, hy =>
    cases hx
    cases hy
    exact bk p1 (hp3.keep (.of S37))
  | 2, hx, hy =>
    cases hx
    cases hy
    exact bk p2 (((hp2.keep (.of S5)).keep (.of S6)).keep (.of S7))
  | n + 3, hx, hy => cases hx
end
end SK
namespace SK
open PySem PySem.Spec PyProof.Rows L2 SX
/-! law 0: the first ages -/
def tR11 (K : PySem.W.Frag) : TS := fun D σ H => ∃ (y0 y1 y2 y3 y4 y5 y6 y7 y8 : Option V), σ = [y0, y1, y2, y3, y4, y5, y6, y7, y8, none, none, none, none, none, none, none, none, none, none, none] ∧ ∀ H', D.rt (.bl true) H'
theorem sorted_nat : ∀ {xs ys : List Nat}, xs.Pairwise (· < ·) → ys.Pairwise (· < ·) → (∀ k, k ∈ xs ↔ k ∈ ys) → xs = ys
  | [], [], _, _, _ => rfl
  | [], y :: ys, _, _, h => absurd ((h y).mpr List.mem_cons_self) (by simp)
  | x :: xs, [], _, _, h => absurd ((h x).mp List.mem_cons_self) (by simp)
  | x :: xs, y :: ys, hx, hy, h => by
    obtain ⟨x1, x2⟩ := List.pairwise_cons.mp hx
    obtain ⟨y1, y2⟩ := List.pairwise_cons.mp hy
    have e : x = y := by
      rcases List.mem_cons.mp ((h x).mp List.mem_cons_self) with e | e
      · exact e
      · rcases List.mem_cons.mp ((h y).mpr List.mem_cons_self) with e2 | e2
        · exact e2.symm
        · have a := y1 x e
          have b := x1 y e2
          omega
    subst e
    congr 1
    refine sorted_nat x2 y2 fun k => ⟨fun hk => ?_, fun hk => ?_⟩
    · rcases List.mem_cons.mp ((h k).mp (List.mem_cons_of_mem _ hk)) with e | e
      · have := x1 k hk; omega
      · exact e
    · rcases List.mem_cons.mp ((h k).mpr (List.mem_cons_of_mem _ hk)) with e | e
      · have := y1 k hk; omega
      · exact e
theorem fresh_one {ws : List (List Sy)} {st : List Sy} {k m n : Nat} (h1 : FirstAge ws st k m) (h2 : FirstAge ws st k n) : m = n := by
  rcases Nat.lt_trichotomy m n with h | h | h
  · exact absurd ⟨m, h, h1.1⟩ h2.2
  · exact h
  · exact absurd ⟨n, h, h2.1⟩ h1.2
theorem grown_few {ws : List (List Sy)} {st : List Sy} (hg : GoodBook ws st) : ∀ n : Nat, (grown ws st n).length ≤ 40 * 40 ^ n
  | 0 => by have := hg.start.len; show st.length ≤ 40 * 1; omega
  | n + 1 => by
    have ih := grown_few hg n
    have : ∀ w : List Sy, (grow ws w).length ≤ 40 * w.length := by
      intro w
      induction w with
      | nil => exact Nat.le_refl _
      | cons s w ih =>
        show ((img ws s) ++ grow ws w).length ≤ _
        rw [List.length_append, List.length_cons]
        have : (img ws s).length ≤ 40 := by
          cases s with
          | l j =>
            show (ws.getD j []).length ≤ 40
            rw [List.getD_eq_getElem?_getD]
            cases e : ws[j]? with
            | none => exact Nat.zero_le _
            | some w1 => exact (hg.words w1 (List.mem_of_getElem? e)).len
          | _ => show 1 ≤ 40; decide
        omega
    have h2 := this (grown ws st n)
    show (grow ws (grown ws st n)).length ≤ _
    rw [Nat.pow_succ]
    omega
theorem alk_pairs {H : Hp} {p q : Addr} {as bs : List Addr} {qs : List (Nat × Nat)} (hp : H p = some (.tup (as.map V.ref))) (hq : H q = some (.tup (bs.map V.ref))) (h1 : PairsAt H as qs) (h2 : PairsAt H bs qs) (hl : qs.length ≤ 1000) : Alk H 2 (.ref p) (.ref q) := by
  have l1 := h1.length
  have l2 := h2.length
  refine .inr ⟨p, q, _, _, rfl, rfl, .inl ⟨.inl hp, .inl hq⟩, by rw [List.length_map, List.length_map]; omega, by rw [List.length_map]; omega, fun i x y hx hy => ?_⟩
  have hi : i < qs.length := by have := (List.getElem?_eq_some_iff.mp hx).1; rw [List.length_map] at this; omega
  have hwi := List.getElem?_eq_getElem hi
  obtain ⟨a, ea, ha⟩ := paired_get h1 hwi
  obtain ⟨b, eb, hb⟩ := paired_get h2 hwi
  rw [List.getElem?_map, ea] at hx
  rw [List.getElem?_map, eb] at hy
  cases hx
  cases hy
  refine .inr ⟨a, b, _, _, rfl, rfl, .inl ⟨.inl ha, .inl hb⟩, rfl, by show 2 ≤ _; decide, fun j x y hx hy => ?_⟩
  match j, hx, hy with
  | 0, hx, hy =>
    cases hx
    cases hy
    exact ⟨rfl, rfl⟩
  | 1, hx, hy =>
    cases hx
    cases hy
    exact ⟨rfl, rfl⟩
  | n + 2, hx, hy => cases hx
section
variable {P : Program} {w : World} {K : PySem.W.Frag} {mg : Str → Option Value} {base : Heap}
theorem law00_c {f C CT : Addr} {cdv : Value} {k : Nat} (G : LawG00 P w K mg base C CT k) {A : Around} {outer : List Env} {s : Shared} {H : Hp} {E : XK} (hr : Room k (A.deeper (envOfC "law" (defScope s_law) s.heap.objs.size f cdv)))
    (R : PSs (cxOf CX0 P w K mg base n_law "law" (defScope s_law) f cdv A outer s H E).nox ((defBody s_law).drop 11) (tR11 K)) :
    PSs (cxOf CX0 P w K mg base n_law "law" (defScope s_law) f cdv A outer s H E).nox ((defBody s_law).drop 8) (tR8 K) := by
  have nd := sc_law.nd
  have hu := hu_of hr
  have GG := G.grown
  have GF := G.fages
  have GA := G.alike
  have mR := G.mR
  have mI := G.mI
  have mS := G.mS
  have mT := G.mT
  have mO := G.mO
  refine pssimp _ (pss_cons (ps_set (i := 6) nd rfl (.inr rfl) pe_dnewK)
    (pss_cons (ps_for PassesOwn.never rfl (pi_range1 rfl mR (pa_cons pe_int pa_nil)) (pg_name (i := 7) nd rfl (.inl rfl))
      (pss_one (ps_for PassesOwn.never rfl (pi_list (pcall GG hr (pa_cons (pv 2) (pa_cons (pv 7) pa_nil)))) (pg_name (i := 8) nd rfl (.inl rfl))
        (pss_one (ps_if (ptNotStr mI mS (pv 8)) (pss_one (ps_dput hu (pv 6) (pv 8) (pe_dget2 hu (pv 6) (pv 8) (pv 7) ⟨rfl, rfl, rfl, rfl⟩) rfl)) pss_nil)))))
    (pss_cons (ps_if (pt_not (pt_val (pcall GA hr (pa_cons (pcall GF hr (pa_cons (pv 2) pa_nil)) (pa_cons (ptupleN mT (pe_lc (own := [("letter", 19)]) (g := gName 19) (tt := tYes) (te := tTupN (tCons (tVar 19) (tCons (tDGet (tVar 6) (tVar 19)) tNil))) rfl nd
        (pi_list (pe_callB (cr_sortK rfl) (by rfl) mO (by decide +kernel) (pa_cons (pe_bm0 PySem.F.plainAttrs_dict PySem.F.slot_dict_keys PySem.F.type_dict_keys mt_keysK (pv 6)) pa_nil) (by decide) (by decide))) (blkOk_by (N := n_law) (sc := defScope s_law) (by decide +kernel))
        (fun _ _ _ _ _ => pg_name (i := 19) nd rfl (Or.inl rfl)) (fun _ _ _ _ _ => pts_nil) (fun _ _ _ _ _ => ptupN (pa_cons (pv 19) (pa_cons (pe_dget hu (pv 6) (pv 19) (fun _ _ => rfl)) pa_nil))))) pa_nil))))) pss_never pss_nil)
    R))) ?_
  rintro D σ H0 ⟨b, ws, st, y0, y1, y3, y4, y5, rfl, hb, hg, q⟩
  have few := hg.few
  refine fun d hd => ?_
  have S1 : Same H0 (upd H0 d (.dK [])) := same_upd hd
  have h1 : (upd H0 d (.dK [])) d = some (.dK []) := upd_same
  generalize upd H0 d (.dK []) = H1 at S1 h1
  refine ⟨4, rfl, by decide, by decide, for_range (n := 4) (fun i σ H' => ∃ (ks : List Nat) (kvs : List (Key × V)) (y7 y8 : Option V), σ = [y0, y1, some (.ref b), y3, y4, y5, some (.ref d), y7, y8, none, none, none, none, none, none, none, none, none, none, none] ∧ Same H0 H' ∧ H' d = some (.dK kvs) ∧ KeyS (FirstAge ws st) (Ahead ws st i) ks kvs)
    ⟨[], [], none, none, rfl, S1, h1, ⟨rfl, List.nodup_nil, fun k => ⟨fun h => (nomatch h), fun ⟨m, hm, _⟩ => absurd hm (Nat.not_lt_zero _)⟩, fun k ⟨m, hm, _⟩ => absurd hm (Nat.not_lt_zero _)⟩⟩ ?_ ?_⟩
  · rintro i σ H2 hi ⟨ks, kvs, y7, y8, rfl, S2, hd2, hK⟩
    have hb2 := hb.keep (.of S2)
    have gf : (grown ws st i).length ≤ 4000000 := by
      have := grown_few hg i
      have : 40 ^ i ≤ 40 ^ 3 := Nat.pow_le_pow_right (by decide) (by omega)
      omega
    refine ⟨_, rfl, _, rfl, b, i, ws, st, ?_, hb2, hg, by omega, gf, fun H3 g S3 n3 h3 => ⟨g, rfl, ⟨_, SqL.of h3⟩, ?_⟩⟩
    · show [V.ref b, V.int (0 + (i : Int))] ++ [] = _
      rw [Int.zero_add]; rfl
    have S03 := S2.trans S3
    have hd3 := S3 _ _ hd2
    have ngd : g ≠ d := fun z => by rw [z, hd2] at n3; cases n3
    refine for_list (K := K) (a := g) (xs := wv (grown ws st i)) (fun j σ H' => ∃ (ks : List Nat) (kvs : List (Key × V)) (y8 : Option V), σ = [y0, y1, some (.ref b), y3, y4, y5, some (.ref d), some (.int (i : Int)), y8, none, none, none, none, none, none, none, none, none, none, none] ∧ Same H0 H' ∧ H' g = some (.lst (wv (grown ws st i))) ∧ H' d = some (.dK kvs) ∧ KeyS (FirstAge ws st) (fun k => Ahead ws st i k ∨ Sy.l k ∈ (grown ws st i).take j) ks kvs)
      ⟨ks, kvs, y8, by show _ = _; rw [Int.zero_add]; rfl, S03, h3, hd3, hK.iff fun k => by rw [List.take_zero]; simp⟩ (fun j σ H' _ ⟨_, _, _, _, _, h, _⟩ => SqL.of h) ?_ ?_
    · rintro j x σ H4 hx ⟨ks, kvs, y8, rfl, S4, hg4, hd4, hK⟩
      obtain ⟨s, hs, rfl⟩ := wv_get hx
      obtain ⟨tn, tb, ht, hk, htb⟩ := ty_sy (K := K) (H := H4) s
      refine ⟨_, rfl, s.v, tn, tb, rfl, ht, hk, tb, rfl, ?_⟩
      subst htb
      rw [Bool.not_not]
      have mem : ∀ k, (Ahead ws st i k ∨ Sy.l k ∈ (grown ws st i).take (j + 1)) ↔ ((Ahead ws st i k ∨ Sy.l k ∈ (grown ws st i).take j) ∨ Sy.l k = s) := fun k => by
        rw [take_more hs, List.mem_append, List.mem_singleton, or_assoc]
      cases hsl : isL s with
      | false =>
        refine iteF ⟨ks, kvs, _, rfl, S4, hg4, hd4, hK.iff fun k => (mem k).trans ⟨fun h => h.resolve_right (fun e => by rw [← e] at hsl; cases hsl), .inl⟩⟩
      | true =>
        cases s with
        | l k =>
          refine iteT ?_
          have m1 : ∃ m : Nat, (valV kvs (.inl (k : Int))).getD (V.int (i : Int)) = V.int (m : Int) ∧ FirstAge ws st k m := by
            cases e : valV kvs (.inl (k : Int)) with
            | none =>
              have no : ¬ (Ahead ws st i k ∨ Sy.l k ∈ (grown ws st i).take j) := fun h => by
                have := (hK.has k).mpr h
                rw [e] at this
                cases this
              exact ⟨i, rfl, List.mem_of_getElem? hs, fun h => no (.inl h)⟩
            | some v =>
              have yes := (hK.has k).mp (by rw [e]; rfl)
              obtain ⟨m, e1, e2⟩ := hK.val k yes
              rw [e] at e1
              exact ⟨m, Option.some.inj e1, e2⟩
          obtain ⟨m, em, fm⟩ := m1
          obtain ⟨ks', hK'⟩ := hK.put (k := k) (m := m) fm
          have lk : kvs.length < sizeLine := by
            have e1 := hK.len
            have : ks.length ≤ ws.length := few_keys hK.nd fun x hx => by
              rcases (hK.mem x).mp hx with ⟨m, _, h⟩ | h
              · exact grown_lets' hg.words hg.start.lets m x h
              · exact grown_lets' hg.words hg.start.lets i x (List.mem_of_mem_take h)
            rw [sizeLine_eq]; omega
          refine ⟨_, rfl, d, rfl, .inl ⟨_, .inl hd4⟩, _, rfl, _, rfl, _, DGet.k (k := Sum.inl (k : Int)) hd4, _, rfl, _, rfl, d, _, rfl, DPut.k (k := Sum.inl (k : Int)) hd4 lk, ?_⟩
          rw [em]
          refine ⟨ks', _, _, rfl, sPut S4 hd, ?_, upd_same, hK'.iff fun k' => (mem k').trans ⟨fun h => h.imp id fun e => by injection e, fun h => h.imp id fun e => by rw [e]⟩⟩
          rw [upd_ne ngd]
          exact hg4
        | _ => cases hsl
    · rintro σ H4 ⟨ks, kvs, y8, rfl, S4, hg4, hd4, hK⟩
      refine ⟨ks, kvs, _, _, rfl, S4, hd4, hK.iff fun k => ?_⟩
      rw [List.length_map, List.take_length]
      constructor
      · rintro ⟨m, hm, h⟩
        by_cases z : m < i
        · exact .inl ⟨m, z, h⟩
        · exact .inr (by rw [show i = m by omega]; exact h)
      · rintro (⟨m, hm, h⟩ | h)
        · exact ⟨m, by omega, h⟩
        · exact ⟨i, Nat.lt_succ_self _, h⟩
  · rintro σ H2 ⟨ks, kvs, y7, y8, rfl, S2, hd2, hK⟩
    have hb2 := hb.keep (.of S2)
    have soon : ∀ k, Comes ws st k ↔ Ahead ws st 4 k := fun k => comes_soon hg.words hg.start.lets (by omega) k
    refine ⟨_, rfl, b, ws, st, rfl, hb2, hg, fun H3 p ts qs S3 n3 h3 hp srt mem fa => ?_⟩
    have hd3 := S3 _ _ hd2
    obtain ⟨ps, eps, e1, e2⟩ := keyS_pairs hK
    have eps2 : kvs = ((ps.map fun p => ((p.1 : Int), V.int (p.2 : Int))).map fun p => ((Sum.inl p.1 : Key), p.2)) := by
      rw [eps]
      unfold kvI
      rw [List.map_map, List.map_map]
      rfl
    refine ⟨_, rfl, .inr (.inr (.inl ⟨rfl, .inl ⟨_, hd3⟩⟩)), d, _, rfl, rfl, hd3, fun v nv => ⟨v, d, ps.map fun p => ((p.1 : Int), V.int (p.2 : Int)), rfl, upd_same, ?_, fun H4 l kl S4 n4 h4 perm srk => ?_⟩⟩
    · rw [← eps2]
      exact same_upd nv _ _ hd3
    have S34 := (same_upd (o := keysK v d) nv).trans S4
    have hd4 := S34 _ _ hd3
    have pk : (kl.map Int.toNat).Perm ks := by
      have := perm.map Int.toNat
      rw [List.map_map, List.map_map, ← e1] at *
      exact this
    have castK : ∀ x ∈ kl, ∃ k ∈ ks, x = ((k : Nat) : Int) := fun x hx => by
      obtain ⟨y, hy, e⟩ := List.mem_map.mp (perm.mem_iff.mp hx)
      obtain ⟨z, hz, e'⟩ := List.mem_map.mp hy
      refine ⟨z.1, by rw [← e1]; exact List.mem_map_of_mem hz, ?_⟩
      rw [← e, ← e']
    obtain ⟨ageF, eA⟩ : ∃ ageF : Nat → Nat, ∀ k ∈ ks, valV kvs (.inl (k : Int)) = some (.int (ageF k : Int)) ∧ FirstAge ws st k (ageF k) := by
      refine ⟨fun k => match valV kvs (.inl (k : Int)) with | some (.int m) => m.toNat | _ => 0, fun k hk => ?_⟩
      obtain ⟨m, h1, h2⟩ := hK.val k ((hK.mem k).mp hk)
      have e : (match valV kvs (.inl (k : Int)) with | some (.int m) => m.toNat | _ => 0) = m := by rw [h1]; rfl
      refine ⟨?_, ?_⟩
      · show valV kvs (.inl (k : Int)) = some (.int ((match valV kvs (.inl (k : Int)) with | some (.int m) => m.toNat | _ => 0 : Nat) : Int))
        rw [e]
        exact h1
      · show FirstAge ws st k (match valV kvs (.inl (k : Int)) with | some (.int m) => m.toNat | _ => 0)
        rw [e]
        exact h2
    have lkl : kl.length ≤ 3 := by
      have e3 := pk.length_eq
      rw [List.length_map] at e3
      have : ks.length ≤ ws.length := few_keys hK.nd fun x hx => by
        obtain ⟨m, _, h⟩ := (hK.mem x).mp hx
        exact grown_lets' hg.words hg.start.lets m x h
      omega
    refine ⟨l, rfl, ⟨_, SqL.of h4⟩, fun Dc nD => ?_⟩
    refine lc_list (K := K) (a := l) (xs := kl.map V.int) (fun i H' => ∃ bs : List Addr, Same H4 H' ∧ H' Dc = some (.lst (bs.map V.ref)) ∧ PairsAt H' bs ((kl.take i).map fun x => (x.toNat, ageF x.toNat))) ⟨[], same_upd nD, upd_same, .nil⟩ (fun i H' _ ⟨_, h, _⟩ => SqL.of (h _ _ h4)) ?_ ?_
    · rintro i x H5 hx ⟨bs, S5, hD, hP⟩
      rw [List.getElem?_map] at hx
      obtain ⟨y, hy, rfl⟩ : ∃ y, kl[i]? = some y ∧ x = V.int y := by
        cases e : kl[i]? with
        | none => rw [e] at hx; cases hx
        | some y => rw [e] at hx; exact ⟨y, rfl, (Option.some.inj hx).symm⟩
      obtain ⟨k, hk, rfl⟩ := castK y (List.mem_of_getElem? hy)
      obtain ⟨va, _⟩ := eA k hk
      have lb := hP.length
      rw [List.length_map, List.length_take] at lb
      refine ⟨rfl, _, rfl, _, rfl, _, rfl, d, _, rfl, by rw [← va]; exact DGet.k (k := Sum.inl (k : Int)) (S5 _ _ hd4), szl 2, fun H6 ta S6 n6 h6 => ?_⟩
      have T6 : TupS H6 (upd H6 Dc (.lst (bs.map V.ref ++ [V.ref ta]))) := TupS.refl.lst (S6 _ _ hD)
      refine ⟨_, S6 _ _ hD, ?_, bs ++ [ta], sPut (S5.trans S6) nD, ?_, ?_⟩
      · rw [List.length_map, sizeLine_eq]; omega
      · rw [upd_same, List.map_append]; rfl
      · rw [take_more hy, List.map_append]
        exact Paired.snoc (Paired.mono (fun a q e => T6.1 _ _ (S6 _ _ e)) hP) (T6.1 _ _ h6)
    · rintro H5 ⟨bs, S5, hD, hP⟩
      rw [List.length_map, List.take_length] at hP
      refine ⟨Dc, _, rfl, SqL.of hD, fun H6 pt S6 n6 h6 => ?_⟩
      have S36 := (S34.trans S5).trans S6
      have eq : qs = kl.map fun x => (x.toNat, ageF x.toNat) := by
        have k1 : qs.map (·.1) = kl.map Int.toNat := by
          refine sorted_nat srt ?_ fun k => (mem k).trans ((soon k).trans ((hK.mem k).symm.trans pk.mem_iff.symm))
          have ndk : (kl.map Int.toNat).Nodup := pk.nodup_iff.mpr hK.nd
          rw [List.Nodup, List.pairwise_map] at ndk
          rw [List.pairwise_map]
          refine List.Pairwise.imp_of_mem (fun {x y} hx hy h => ?_) (srk.and ndk)
          obtain ⟨x', _, rfl⟩ := castK x hx
          obtain ⟨y', _, rfl⟩ := castK y hy
          obtain ⟨h1, h2⟩ := h
          have h1 : (x' : Int) ≤ (y' : Int) := h1
          have h2 : x' ≠ y' := h2
          show x' < y'
          omega
        have k2 : qs = (qs.map (·.1)).map fun k => (k, ageF k) := by
          rw [List.map_map]
          refine (List.map_id qs).symm.trans (List.map_congr_left fun x hx => ?_)
          have hk : x.1 ∈ ks := (hK.mem _).mpr ((soon _).mp ((mem _).mp (List.mem_map_of_mem hx)))
          have := fresh_one (fa x hx) (eA x.1 hk).2
          show x = (x.1, ageF x.1)
          rw [← this]
        rw [k2, k1, List.map_map]
        rfl
      subst eq
      have lq : (kl.map fun x => (x.toNat, ageF x.toNat)).length ≤ 1000 := by rw [List.length_map]; omega
      have pk1 : PairsAt H6 ts (kl.map fun x => (x.toNat, ageF x.toNat)) := Paired.mono (fun a q e => S36 _ _ e) hp
      have pk2 : PairsAt H6 bs (kl.map fun x => (x.toNat, ageF x.toNat)) := Paired.mono (fun a q e => S6 _ _ e) hP
      exact ⟨.ref p, .ref pt, rfl, (alk_pairs (S36 _ _ h3) h6 pk1 pk2 lq).up.up, fun H7 S7 => ⟨true, rfl, iteF ⟨_, _, _, _, _, _, _, _, _, rfl, q⟩⟩⟩
end
end SK
namespace SK
open PySem PySem.Spec PyProof.Rows L2 SX
/-! law 0: the rows of texts -/
abbrev Row := Str × V × V
def rowV (r : Row) : List V := [.str r.1, r.2.1, r.2.2]
def oneS : Str := Str.ofString "start a\n"
def repS (z : Str) (n : Nat) : Str := ⟨(List.replicate n z.cps).foldl (· ++ ·) #[]⟩
def j8 : Str := Txt.join (Str.ofString "\n") (((List.range 8).map fun k => [97 + k, 32, 97]).map S)
def rows0 : List Row := [(Str.ofString "", .int 2, .int 1), (Str.ofString "start", .int 1, .int 2), (Str.ofString "start a", .int 2, .int 1), (Str.ofString "Start a", .int 1, .int 1), (Str.ofString "a a", .int 1, .int 1)]
def rows1 : List Row := [(Str.ofString "start a b", .int 1, .int 3), (Str.ofString "start +", .int 1, .int 2), (Str.ofString "start i\na a", .int 1, .int 2)]
def rows2 : List Row := [(oneS ++ Str.ofString "b a", .int 2, .int 1), (oneS ++ Str.ofString "a", .int 2, .int 2), (oneS ++ Str.ofString "a ab", .int 2, .int 2), (oneS ++ Str.ofString "a a*", .int 2, .int 2)]
def rows3 : List Row := [(oneS ++ Str.ofString "a " ++ repS (Str.ofString "a") 41, .int 2, .int 2), (oneS ++ Str.ofString "a " ++ repS (Str.ofString "a") 40, .non, .non)]
def rows4 : List Row := [(oneS ++ Str.ofString "a a\na a", .int 3, .int 1), (oneS ++ Str.ofString "a a\nb b a", .int 3, .int 3), (Str.ofString "start b\na a", .int 1, .int 2)]
def rows5 : List Row := [(oneS ++ j8, .non, .non)]
def rows6 : List Row := [(oneS ++ j8 ++ Str.ofString "\ni a", .int 10, .int 1)]
def rows7 : List Row := [(oneS ++ Str.ofString "a +-", .int 2, .int 2), (oneS ++ Str.ofString "a b\nb a", .non, .non), (oneS ++ Str.ofString "a [a", .int 2, .int 2), (oneS ++ Str.ofString "a a]", .int 2, .int 2)]
def rows8 : List Row := [(oneS ++ Str.ofString "a ]a[", .int 2, .int 2), (oneS ++ Str.ofString "a [[a]+]", .non, .non), (Str.ofString "start []\na a", .int 1, .int 2)]
def rowsL : List Row := rows0 ++ rows1 ++ rows2 ++ rows3 ++ rows4 ++ rows5 ++ rows6 ++ rows7 ++ rows8
def rowOk (r : Row) : Bool := decide (r.1.length ≤ 1000) && match readB (TL.tl r.1) with
  | .inl e => decide (r.2.1 = .int (e.1 : Nat)) && decide (r.2.2 = .int (e.2 : Nat))
  | .inr _ => decide (r.2.1 = .non) && decide (r.2.2 = .non)
set_option maxHeartbeats 0 in
theorem rows_ok : rowsL.all rowOk = true := by decide +kernel
def RowsAt (H : Hp) (as : List Addr) (L : List Row) : Prop := Paired (fun (a : Addr) (r : Row) => H a = some (.tup (rowV r))) as L
theorem RowsAt.keep {H H' : Hp} {as : List Addr} {L : List Row} (s : TupS H H') (h : RowsAt H as L) : RowsAt H' as L := Paired.mono (fun _ _ e => s.1 _ _ e) h
theorem RowsAt.app {H : Hp} {as bs : List Addr} {L M : List Row} (h : RowsAt H as L) (h2 : RowsAt H bs M) : RowsAt H (as ++ bs) (L ++ M) := by
  induction h with
  | nil => exact h2
  | cons r t ih => exact .cons r ih
def At9 (σ : L2.St) : Prop := σ[9]? = some (some (.str oneS)) ∧ σ.length = 20
def tRow (r : Row) : TE := fun σ H Q => At9 σ ∧ New (.tup (rowV r)) H Q
def tRows (L : List Row) : TA := fun σ H R => At9 σ ∧ ∀ (H' : Hp) (as : List Addr), Same H H' → RowsAt H' as L → R (as.map V.ref) H'
theorem rep_size (c : Array Nat) : ∀ (n : Nat) (acc : Array Nat), ((List.replicate n c).foldl (· ++ ·) acc).size = acc.size + n * c.size
  | 0, acc => by simp
  | n + 1, acc => by
    rw [List.replicate_succ, List.foldl_cons, rep_size c n, Array.size_append, Nat.succ_mul]
    omega
theorem repS_len (z : Str) (n : Nat) : (repS z n).length = n * z.length := by
  have := rep_size z.cps n #[]
  show ((List.replicate n z.cps).foldl (· ++ ·) #[]).size = _
  rw [this]
  show 0 + _ = _
  rw [Nat.zero_add]
  rfl
section
variable {X : Cx}
theorem rows_nil : PA X [] (tRows []) := ⟨fun pos pins s σ H R I ⟨h, q⟩ => pa_nil.run pos pins s σ H R I (q H [] (Same.refl H) .nil)⟩
theorem rows_cons {e : Expr} {es : List Expr} {r : Row} {L : List Row} (he : PE X e (tRow r)) (hr : PA X es (tRows L)) (hs : starEach (e :: es) X.env = (false, eval e X.env) :: starEach es X.env := by rfl) : PA X (e :: es) (tRows (r :: L)) :=
  ⟨fun pos pins s σ H R I ⟨h, q⟩ => (pa_cons he hr hs).run pos pins s σ H R I ⟨h, fun H1 p S1 n1 h1 => ⟨h, fun H2 as S2 hA => q H2 (p :: as) (S1.trans S2) (.cons (S2 _ _ h1) hA)⟩⟩⟩
/-- one sign, so many times -/
theorem op_repS : OpR X (binaryOp .Mult) (fun x y H Q => ∃ (z : Str) (n : Nat), x = .str z ∧ y = .int (n : Nat) ∧ 2 ≤ n ∧ n ≤ 1000 ∧ z.length = 1 ∧ Q (.str (repS z n)) H) := by
  intro pins s σ H x y v u Q I rx ry h
  obtain ⟨z, n, rfl, rfl, h2, h3, hz, q⟩ := h
  obtain ⟨t, rfl⟩ := rx
  obtain ⟨t', rfl⟩ := ry
  refine P.mul_str ?_ (fun _ _ => ?_) (fun _ _ => ?_) ?_
  · rw [decide_eq_false (by omega), decide_eq_false (by omega)]; rfl
  · rw [hz]
    have : (1 : Int) ≤ (2 ^ 63 - 1) / (n : Int) := Int.le_ediv_of_mul_le (by omega) (by omega)
    omega
  · rw [hz, Int.toNat_natCast, Nat.one_mul]
    unfold Builtin.Str.tooLong
    exact decide_eq_false (by have := sizeLine_eq; omega)
  · rw [if_neg (by omega), if_neg (by
      rw [hz]
      have : ((n : Int) == 1) = false := by simp; omega
      rw [this]
      decide), Int.toNat_natCast]
    refine ⟨?_, .str (repS z n), H, I.tok _, ⟨_, rfl⟩, q⟩
    have := repS_len z n
    rw [hz, Nat.mul_one] at this
    show (repS z n).length ≤ sizeLine
    rw [this, sizeLine_eq]; omega
theorem row_c {z : Str} {l w : V} {a b c : Expr} {x1 : Nat} {pos : Pos} (ha : PE X a (tC (.str z))) (hb : PE X b (tC l)) (hc : PE X c (tC w)) (h1 : starEach [a, b, c] X.env = (false, eval a X.env) :: starEach [b, c] X.env := by rfl) (h2 : starEach [b, c] X.env = (false, eval b X.env) :: starEach [c] X.env := by rfl) (h3 : starEach [c] X.env = (false, eval c X.env) :: starEach [] X.env := by rfl) :
    PE X (.Tuple [a, b, c] x1 pos) (tRow (z, l, w)) := pimp (tRow (z, l, w)) (ptupN (pa_cons ha (pa_cons hb (pa_cons hc pa_nil h3) h2) h1)) fun σ H Q ⟨h, q⟩ => ⟨szl 3, q⟩
def tTx (z : Str) : TE := fun σ H Q => At9 σ ∧ ∀ H', Same H H' → Q (.str z) H'
theorem row_t {z : Str} {l w : V} {a b c : Expr} {x1 : Nat} {pos : Pos} (ha : PE X a (tTx z)) (hb : PE X b (tC l)) (hc : PE X c (tC w)) (h1 : starEach [a, b, c] X.env = (false, eval a X.env) :: starEach [b, c] X.env := by rfl) (h2 : starEach [b, c] X.env = (false, eval b X.env) :: starEach [c] X.env := by rfl) (h3 : starEach [c] X.env = (false, eval c X.env) :: starEach [] X.env := by rfl) :
    PE X (.Tuple [a, b, c] x1 pos) (tRow (z, l, w)) := pimp (tRow (z, l, w)) (ptupN (pa_cons ha (pa_cons hb (pa_cons hc pa_nil h3) h2) h1)) fun σ H Q ⟨h, q⟩ => ⟨h, fun H' S' => ⟨szl 3, fun H2 p S2 n2 h2 => q H2 p (S'.trans S2) (S'.free n2) h2⟩⟩
theorem tx_cat {z y : Str} {a b : Expr} {pos : Pos} (hl : z.length + y.length ≤ 16777216) (ha : PE X a (tTx z)) (hb : PE X b (tTx y)) : PE X (.BinOp a .Add b pos) (tTx (z ++ y)) :=
  pimp (tTx (z ++ y)) (pe_op op_add_str ha hb) fun σ H Q ⟨h, q⟩ => ⟨h, fun H1 S1 => ⟨h, fun H2 S2 => ⟨_, _, rfl, rfl, by rw [sizeLine_eq]; exact hl, q H2 (S1.trans S2)⟩⟩⟩
theorem tx_c {z : Str} {j : Nat} {pos : Pos} : PE X (.Constant (.str z) j pos) (tTx z) := pimp (tTx z) pe_str fun σ H Q ⟨h, q⟩ => q H (Same.refl H)
theorem tx_rep {z : Str} {n j j' : Nat} {p1 p2 pos : Pos} (h2 : 2 ≤ n) (h3 : n ≤ 1000) (hz : z.length = 1) : PE X (.BinOp (.Constant (.str z) j p1) .Mult (.Constant (.int (n : Int)) j' p2) pos) (tTx (repS z n)) :=
  pimp (tTx (repS z n)) (pe_op op_repS pe_str pe_int) fun σ H Q ⟨h, q⟩ => ⟨z, n, rfl, rfl, h2, h3, hz, q H (Same.refl H)⟩
end
end SK
namespace SK
open PySem PySem.Spec PyProof.Rows L2 SX
/-! law 0: the rows are made -/
def slR (y0 y1 y2 y3 y4 y5 y6 y7 y8 : Option V) (lo : Addr) : L2.St := [y0, y1, y2, y3, y4, y5, y6, y7, y8, some (.str oneS), some (.ref lo), none, none, none, none, none, none, none, none, none]
def tRw (L : List Row) : TS := fun D σ H => ∃ (y0 y1 y2 y3 y4 y5 y6 y7 y8 : Option V) (lo : Addr) (as : List Addr), σ = [y0, y1, y2, y3, y4, y5, y6, y7, y8, some (.str oneS), some (.ref lo), none, none, none, none, none, none, none, none, none] ∧ H lo = some (.lst (as.map V.ref)) ∧ RowsAt H as L ∧ ∀ H', D.rt (.bl true) H'
def tJ8 : TE := fun σ H Q => σ.length = 20 ∧ ∀ H', Same H H' → Q (.str j8) H'
def tK8 (i : Nat) : TE := fun σ H Q => ∃ k : Nat, k < 8 ∧ σ[i]? = some (some (.int (k : Nat))) ∧ Q (.str (S [97 + k, 32, 97])) H
section
variable {X : Cx}
theorem tx_j8 {e : Expr} (h : PE X e tJ8) : PE X e (tTx j8) := pimp (tTx j8) h fun σ H Q ⟨h, q⟩ => ⟨h.2, q⟩
theorem tx_one {e : Expr} (h : PE X e (tVar 9)) : PE X e (tTx oneS) := pimp (tTx oneS) h fun σ H Q ⟨h, q⟩ => ⟨_, h.1, q H (Same.refl H)⟩
theorem rows_add {L M : List Row} {D : Ends} {H : Hp} {y0 y1 y2 y3 y4 y5 y6 y7 y8 : Option V} {lo : Addr} {as : List Addr}
    (hl : L.length + M.length ≤ 1000) (h1 : H lo = some (.lst (as.map V.ref))) (h2 : RowsAt H as L) (q : ∀ H', D.rt (.bl true) H')
    (hn : ∀ (lo : Addr) (as : List Addr) (H' : Hp), H' lo = some (.lst (as.map V.ref)) → RowsAt H' as (L ++ M) → D.nx [y0, y1, y2, y3, y4, y5, y6, y7, y8, some (.str oneS), some (.ref lo), none, none, none, none, none, none, none, none, none] H') :
    tAsg (tOp rCatN (tVar 10) (tLstN (tRows M))) (gName 10) D [y0, y1, y2, y3, y4, y5, y6, y7, y8, some (.str oneS), some (.ref lo), none, none, none, none, none, none, none, none, none] H := by
  have ll := h2.length
  refine ⟨_, rfl, ⟨rfl, rfl⟩, fun H1 bs S1 hB => ?_⟩
  have lb := hB.length
  refine ⟨by rw [List.length_map, sizeLine_eq]; omega, fun H2 l2 S2 n2 e2 => ⟨lo, l2, _, _, rfl, rfl, S2 _ _ (S1 _ _ h1), e2, by rw [List.length_map, List.length_map, sizeLine_eq]; omega, fun H3 l3 S3 n3 e3 => ?_⟩⟩
  rw [← List.map_append] at e3
  exact hn l3 (as ++ bs) H3 e3 ((RowsAt.keep (.of ((S1.trans S2).trans S3)) h2).app (RowsAt.keep (.of (S2.trans S3)) hB))
end
section
variable {P : Program} {w : World} {K : PySem.W.Frag} {mg : Str → Option Value} {base : Heap}
theorem law00_d {f C CT : Addr} {cdv : Value} {k : Nat} (G : LawG00 P w K mg base C CT k) {A : Around} {outer : List Env} {s : Shared} {H : Hp} {E : XK} (hr : Room k (A.deeper (envOfC "law" (defScope s_law) s.heap.objs.size f cdv)))
    (R : PSs (cxOf CX0 P w K mg base n_law "law" (defScope s_law) f cdv A outer s H E).nox ((defBody s_law).drop 16) (tRw (rows0 ++ rows1 ++ rows2 ++ rows3))) :
    PSs (cxOf CX0 P w K mg base n_law "law" (defScope s_law) f cdv A outer s H E).nox ((defBody s_law).drop 11) (tR11 K) := by
  have nd := sc_law.nd
  refine pssimp _ (pss_cons (ps_set (i := 9) nd rfl (.inl rfl) pe_str)
    (pss_cons (ps_set (i := 10) nd rfl (.inl rfl) (plstN (t := tRows rows0) (rows_cons (row_c pe_str pe_int pe_int) (rows_cons (row_c pe_str pe_int pe_int) (rows_cons (row_c pe_str pe_int pe_int) (rows_cons (row_c pe_str pe_int pe_int) (rows_cons (row_c pe_str pe_int pe_int) rows_nil)))))))
    (pss_cons (ps_set (i := 10) nd rfl (.inl rfl) (pcatN (pv 10) (plstN (t := tRows rows1) (rows_cons (row_c pe_str pe_int pe_int) (rows_cons (row_c pe_str pe_int pe_int) (rows_cons (row_c pe_str pe_int pe_int) rows_nil))))))
    (pss_cons (ps_set (i := 10) nd rfl (.inl rfl) (pcatN (pv 10) (plstN (t := tRows rows2) (rows_cons (row_t (tx_cat (by decide +kernel) (tx_one (pv 9)) tx_c) pe_int pe_int) (rows_cons (row_t (tx_cat (by decide +kernel) (tx_one (pv 9)) tx_c) pe_int pe_int) (rows_cons (row_t (tx_cat (by decide +kernel) (tx_one (pv 9)) tx_c) pe_int pe_int) (rows_cons (row_t (tx_cat (by decide +kernel) (tx_one (pv 9)) tx_c) pe_int pe_int) rows_nil)))))))
    (pss_cons (ps_set (i := 10) nd rfl (.inl rfl) (pcatN (pv 10) (plstN (t := tRows rows3) (rows_cons (row_t (tx_cat (by decide +kernel) (tx_cat (by decide +kernel) (tx_one (pv 9)) tx_c) (tx_rep (n := 41) (by decide) (by decide) (by decide +kernel))) pe_int pe_int) (rows_cons (row_t (tx_cat (by decide +kernel) (tx_cat (by decide +kernel) (tx_one (pv 9)) tx_c) (tx_rep (n := 40) (by decide) (by decide) (by decide +kernel))) pe_non pe_non) rows_nil)))))
    R))))) ?_
  rintro D σ H0 ⟨y0, y1, y2, y3, y4, y5, y6, y7, y8, rfl, q⟩
  refine ⟨⟨rfl, rfl⟩, fun H1 as S1 hA => ⟨by rw [List.length_map, hA.length, sizeLine_eq]; decide, fun H2 lo S2 n2 h2 => ?_⟩⟩
  refine rows_add (L := rows0) (M := rows1) (by decide) h2 (hA.keep (.of S2)) q fun lo as H3 e3 hA3 => ?_
  refine rows_add (L := rows0 ++ rows1) (M := rows2) (by decide) e3 hA3 q fun lo as H4 e4 hA4 => ?_
  refine rows_add (L := rows0 ++ rows1 ++ rows2) (M := rows3) (by decide) e4 hA4 q fun lo as H5 e5 hA5 => ?_
  exact ⟨y0, y1, y2, y3, y4, y5, y6, y7, y8, lo, as, rfl, e5, hA5, q⟩
end
end SK
namespace SK
open PySem PySem.Spec PyProof.Rows L2 SX
/-! law 0: the other rows -/
theorem wipe_own {σ : L2.St} {v : Option V} (hs : σ.length = 20) : wipe ((wipe σ [18]).set 18 v) [18] = wipe σ [18] := by
  show ((σ.set 18 none).set 18 v).set 18 none = σ.set 18 none
  rw [List.set_set, List.set_set]
abbrev tJr (K : PySem.W.Frag) : TE := tM1 (fun x xs H Q => ∃ a p, ∃ ys : List Str, x = .str a ∧ xs = [.ref p] ∧ (SqL K H p (ys.map V.str) ∨ SqT K H p (ys.map V.str)) ∧
    (ys.map (·.length)).sum + ys.length * a.length ≤ 16777216 ∧ Q (.str (Txt.join a ys)) H) (tC (.str "\n")) (tLc (iRng1 (tCons (tC (.int 8)) tNil)) (gName 18) tYes (tK8 18) [18])
theorem j8_go {K : PySem.W.Frag} {σ : L2.St} {H : Hp} {Q : VK} (q : tJ8 σ H Q) : tJr K σ H Q := by
  obtain ⟨hs, q⟩ := q
  refine ⟨⟨_, rfl⟩, 8, rfl, by decide, by decide, fun D nD => ?_⟩
  refine lc_range (lo := 0) (n := 8) (fun i H' => Same H H' ∧ H' D = some (.lst (((((List.range 8).map fun k => [97 + k, 32, 97]).take i).map S).map V.str))) ⟨same_upd nD, upd_same⟩ ?_ ?_
  · rintro i H1 hi ⟨S1, hD⟩
    refine ⟨?_, i, hi, ?_, _, hD, ?_, sPut S1 nD, ?_⟩
    · exact wipe_own hs
    · show (List.set _ 18 _)[18]? = _
      rw [List.getElem?_set_self (by rw [wipe_length, hs]; decide), Int.zero_add]
    · rw [List.length_map, List.length_map, List.length_take, sizeLine_eq]; omega
    · have e : ((List.range 8).map fun k => [97 + k, 32, 97])[i]? = some [97 + i, 32, 97] := by
        rw [List.getElem?_map, List.getElem?_range hi]; rfl
      rw [upd_same, take_more e, List.map_append, List.map_append]
      rfl
  · rintro H1 ⟨S1, hD⟩
    refine ⟨_, D, _, rfl, rfl, .inl (SqL.of hD), by decide +kernel, q H1 S1⟩
section
variable {P : Program} {w : World} {K : PySem.W.Frag} {mg : Str → Option Value} {base : Heap}
theorem law00_e {f C CT : Addr} {cdv : Value} {k : Nat} (G : LawG00 P w K mg base C CT k) {A : Around} {outer : List Env} {s : Shared} {H : Hp} {E : XK} (hr : Room k (A.deeper (envOfC "law" (defScope s_law) s.heap.objs.size f cdv)))
    (R : PSs (cxOf CX0 P w K mg base n_law "law" (defScope s_law) f cdv A outer s H E).nox ((defBody s_law).drop 21) (tRw rowsL)) :
    PSs (cxOf CX0 P w K mg base n_law "law" (defScope s_law) f cdv A outer s H E).nox ((defBody s_law).drop 16) (tRw (rows0 ++ rows1 ++ rows2 ++ rows3)) := by
  have nd := sc_law.nd
  have mR := G.mR
  refine pssimp _ (pss_cons (ps_set (i := 10) nd rfl (.inl rfl) (pcatN (pv 10) (plstN (t := tRows rows4) (rows_cons (row_t (tx_cat (by decide +kernel) (tx_one (pv 9)) tx_c) pe_int pe_int) (rows_cons (row_t (tx_cat (by decide +kernel) (tx_one (pv 9)) tx_c) pe_int pe_int) (rows_cons (row_c pe_str pe_int pe_int) rows_nil))))))
    (pss_cons (ps_set (i := 10) nd rfl (.inl rfl) (pcatN (pv 10) (plstN (t := tRows rows5) (rows_cons (row_t (tx_cat (by decide +kernel) (tx_one (pv 9)) (tx_j8 (pimp tJ8 (pe_join pe_str (pe_lc (own := [("k", 18)]) (g := gName 18) (tt := tYes) (te := tK8 18) rfl nd (pi_range1 rfl mR (pa_cons pe_int pa_nil)) (blkOk_by (N := n_law) (sc := defScope s_law) (by decide +kernel))
        (fun _ _ _ _ _ => pg_name (i := 18) nd rfl (Or.inl rfl)) (fun _ _ _ _ _ => pts_nil) (fun _ _ _ _ _ => pimp (tK8 18) (pe_op op_add_str (pe_item_str pe_str (pv 18) (fun _ _ => rfl)) pe_str) ?k1))) ?j1))) pe_non pe_non) rows_nil))))
    (pss_cons (ps_set (i := 10) nd rfl (.inl rfl) (pcatN (pv 10) (plstN (t := tRows rows6) (rows_cons (row_t (tx_cat (by decide +kernel) (tx_cat (by decide +kernel) (tx_one (pv 9)) (tx_j8 (pimp tJ8 (pe_join pe_str (pe_lc (own := [("k", 18)]) (g := gName 18) (tt := tYes) (te := tK8 18) rfl nd (pi_range1 rfl mR (pa_cons pe_int pa_nil)) (blkOk_by (N := n_law) (sc := defScope s_law) (by decide +kernel))
        (fun _ _ _ _ _ => pg_name (i := 18) nd rfl (Or.inl rfl)) (fun _ _ _ _ _ => pts_nil) (fun _ _ _ _ _ => pimp (tK8 18) (pe_op op_add_str (pe_item_str pe_str (pv 18) (fun _ _ => rfl)) pe_str) ?k2))) ?j2))) tx_c) pe_int pe_int) rows_nil))))
    (pss_cons (ps_set (i := 10) nd rfl (.inl rfl) (pcatN (pv 10) (plstN (t := tRows rows7) (rows_cons (row_t (tx_cat (by decide +kernel) (tx_one (pv 9)) tx_c) pe_int pe_int) (rows_cons (row_t (tx_cat (by decide +kernel) (tx_one (pv 9)) tx_c) pe_non pe_non) (rows_cons (row_t (tx_cat (by decide +kernel) (tx_one (pv 9)) tx_c) pe_int pe_int) (rows_cons (row_t (tx_cat (by decide +kernel) (tx_one (pv 9)) tx_c) pe_int pe_int) rows_nil)))))))
    (pss_cons (ps_set (i := 10) nd rfl (.inl rfl) (pcatN (pv 10) (plstN (t := tRows rows8) (rows_cons (row_t (tx_cat (by decide +kernel) (tx_one (pv 9)) tx_c) pe_int pe_int) (rows_cons (row_t (tx_cat (by decide +kernel) (tx_one (pv 9)) tx_c) pe_non pe_non) (rows_cons (row_c pe_str pe_int pe_int) rows_nil))))))
    R))))) ?_
  case k1 =>
    rintro σ H Q ⟨k, hk, h18, q⟩
    refine ⟨_, h18, _, (k : Int), 97 + k, rfl, rfl, by omega, by omega, ?_, ?_, _, _, rfl, rfl, by rw [sizeLine_eq, S_len]; show 1 + (Str.ofString " a").length ≤ _; decide +kernel, ?_⟩
    · show (k : Int) < ((Str.ofString "abcdefgh").length : Nat)
      rw [show (Str.ofString "abcdefgh").length = 8 by decide +kernel]
      omega
    · rw [Int.toNat_natCast]; exact abc_at hk
    · rw [show Str.ofString " a" = S [32, 97] by decide +kernel, S_cat]
      exact q
  case k2 =>
    rintro σ H Q ⟨k, hk, h18, q⟩
    refine ⟨_, h18, _, (k : Int), 97 + k, rfl, rfl, by omega, by omega, ?_, ?_, _, _, rfl, rfl, by rw [sizeLine_eq, S_len]; show 1 + (Str.ofString " a").length ≤ _; decide +kernel, ?_⟩
    · show (k : Int) < ((Str.ofString "abcdefgh").length : Nat)
      rw [show (Str.ofString "abcdefgh").length = 8 by decide +kernel]
      omega
    · rw [Int.toNat_natCast]; exact abc_at hk
    · rw [show Str.ofString " a" = S [32, 97] by decide +kernel, S_cat]
      exact q
  case j1 => exact fun σ H Q q => j8_go q
  case j2 => exact fun σ H Q q => j8_go q
  rintro D σ H0 ⟨y0, y1, y2, y3, y4, y5, y6, y7, y8, lo, as, rfl, h2, hA, q⟩
  refine rows_add (L := rows0 ++ rows1 ++ rows2 ++ rows3) (M := rows4) (by decide) h2 hA q fun lo as H3 e3 hA3 => ?_
  refine rows_add (L := rows0 ++ rows1 ++ rows2 ++ rows3 ++ rows4) (M := rows5) (by decide) e3 hA3 q fun lo as H4 e4 hA4 => ?_
  refine rows_add (L := rows0 ++ rows1 ++ rows2 ++ rows3 ++ rows4 ++ rows5) (M := rows6) (by decide) e4 hA4 q fun lo as H5 e5 hA5 => ?_
  refine rows_add (L := rows0 ++ rows1 ++ rows2 ++ rows3 ++ rows4 ++ rows5 ++ rows6) (M := rows7) (by decide) e5 hA5 q fun lo as H6 e6 hA6 => ?_
  refine rows_add (L := rows0 ++ rows1 ++ rows2 ++ rows3 ++ rows4 ++ rows5 ++ rows6 ++ rows7) (M := rows8) (by decide) e6 hA6 q fun lo as H7 e7 hA7 => ?_
  exact ⟨y0, y1, y2, y3, y4, y5, y6, y7, y8, lo, as, rfl, e7, hA7, q⟩
end
end SK
namespace SK
open PySem PySem.Spec PyProof.Rows L2 SX
/-! law 0: what the rows come to; wrong values -/
def tTry (K : PySem.W.Frag) (C CT : Addr) (i : Nat) (W : WX) : TS := tDrop (tCallS (spReadBook K C CT) (WE W) (tCons (tVar i) tNil))
/-- place = (error.line, error.word) if isinstance(error, BadLine) else "other" -/
def tSuiteBl (C a : Addr) (cls : Value) (d : Option Addr) : TS := fun D σ H => σ[15]? = some (some (.ref a)) ∧ cls = .ref C ∧ ∃ (dd : Addr) (i j : Nat), d = some dd ∧ H dd = some (.xd (blF (.int i) (.int j))) ∧
  ∀ (H' : Hp) (p : Addr), Same H H' → H p = none → H' p = some (.tup [.int i, .int j]) → D.nx (σ.set 14 (some (.ref p))) H'
/-- wrong = wrong + int(isinstance(error, NotText)) -/
def tSuiteNt (CT a : Addr) (cls : Value) (d : Option Addr) : TS := fun D σ H => σ[15]? = some (some (.ref a)) ∧ cls = .ref CT ∧ d = none ∧ ∃ n : Int, σ[16]? = some (some (.int n)) ∧ D.nx (σ.set 16 (some (.int (n + 1)))) H
theorem alk_two {H : Hp} {p q : Addr} {v w : V} (hp : H p = some (.tup [v, w])) (hq : H q = some (.tup [v, w])) (fv : flatA v = true) (fw : flatA w = true) : Alk H 1 (.ref p) (.ref q) := by
  refine .inr ⟨p, q, _, _, rfl, rfl, .inl ⟨.inl hp, .inl hq⟩, rfl, by show 2 ≤ _; decide, fun j x y hx hy => ?_⟩
  match j, hx, hy with
  | 0, hx, hy =>
    cases hx
    cases hy
    exact ⟨rfl, fv⟩
  | 1, hx, hy =>
    cases hx
    cases hy
    exact ⟨rfl, fw⟩
  | n + 2, hx, hy => cases hx
def tR22 : TS := fun D σ H => ∃ (y0 y1 y2 y3 y4 y5 y6 y7 y8 y9 y10 y11 y12 y13 y14 : Option V), σ = [y0, y1, y2, y3, y4, y5, y6, y7, y8, y9, y10, y11, y12, y13, y14, none, none, none, none, none] ∧ ∀ H', D.rt (.bl true) H'
section
variable {P : Program} {w : World} {K : PySem.W.Frag} {mg : Str → Option Value} {base : Heap}
theorem law00_f {f C fI CT CS : Addr} {cdv : Value} {k : Nat} (T : BlTxt P K mg C fI) (T2 : IsTxt K C) (gS : mg "StrokeError" = some (.ref CS)) (te : PySem.W.exmOne K (.ref C) (.ref CS) = some true) (G : LawG00 P w K mg base C CT k) {A : Around} {outer : List Env} {s : Shared} {H : Hp} {E : XK} (hr : Room k (A.deeper (envOfC "law" (defScope s_law) s.heap.objs.size f cdv)))
    (R : PSs (cxOf CX0 P w K mg base n_law "law" (defScope s_law) f cdv A outer s H E).nox ((defBody s_law).drop 22) tR22) :
    PSs (cxOf CX0 P w K mg base n_law "law" (defScope s_law) f cdv A outer s H E).nox ((defBody s_law).drop 21) (tRw rowsL) := by
  have nd := sc_law.nd
  have GR := G.readX
  have GA := G.alike
  have mI := G.mI
  refine pssimp _ (pss_cons (ps_for PassesOwn.never rfl (pi_list (pv 10)) (pg_tup (by rfl) (pgs_cons (pg_name (i := 11) nd rfl (.inl rfl)) (pgs_cons (pg_name (i := 12) nd rfl (.inl rfl)) (pgs_cons (pg_name (i := 13) nd rfl (.inl rfl)) pgs_nil))))
      (pss_cons (ps_set (i := 14) nd rfl (.inl rfl) (ptupN (pa_cons pe_non (pa_cons pe_non pa_nil))))
      (pss_cons (ps_try_as (i := 15) (tb := tTry K C CT 11) (ts := tSuiteBl C) (Wout := fun _ _ _ _ => False) rfl rfl nd rfl rfl ⟨rfl, by decide, .inl gS⟩ takes0
        (fun W pn xe tk _ => pss_one (ps_expr (pcallX GR hr tk (pa_cons (pv 11) pa_nil))))
        (fun a oe cls d pn hz hf => pssimp _ (pss_one (ps_set (i := 14) nd rfl (.inl rfl) (pe_ifExp (pt_val (pe_callB (call_isBl T T2 hz hf) (by rfl) mI (by decide +kernel) (pa_cons (pv 15) (pa_cons (pe_glob (v := .ref C) rfl T.gC rfl) pa_nil)) (by decide) (by decide)))
          (ptupN (pa_cons (pe_blF (.inl rfl) T hz hf (pv 15)) (pa_cons (pe_blF (.inr rfl) T hz hf (pv 15)) pa_nil))) pe_str))) ?suite))
      (pss_one (ps_if (pt_not (pt_val (pcall GA hr (pa_cons (pv 14) (pa_cons (ptupN (pa_cons (pv 12) (pa_cons (pv 13) pa_nil))) pa_nil))))) pss_never pss_nil)))))
    R) ?_
  case suite =>
    rintro D σ H ⟨h15, rfl, dd, i, j, rfl, hd, q⟩
    refine ⟨_, h15, rfl, rfl, dd, _, rfl, hd, true, rfl, iteT ⟨_, h15, rfl, rfl, dd, _, _, rfl, hd, _, h15, rfl, rfl, dd, _, _, rfl, hd, szl 2, fun H' p S' n' e => ?_⟩⟩
    rw [if_pos rfl, if_neg (by decide +kernel)] at e
    exact q H' p S' n' e
  rintro D σ H0 ⟨y0, y1, y2, y3, y4, y5, y6, y7, y8, lo, as, rfl, h2, hA, q⟩
  refine ⟨_, rfl, lo, rfl, ⟨_, SqL.of h2⟩, for_list (K := K) (a := lo) (xs := as.map V.ref) (fun i σ H' => ∃ (y11 y12 y13 y14 : Option V), σ = [y0, y1, y2, y3, y4, y5, y6, y7, y8, some (.str oneS), some (.ref lo), y11, y12, y13, y14, none, none, none, none, none] ∧ Same H0 H')
    ⟨none, none, none, none, rfl, Same.refl H0⟩ (fun i σ H' _ ⟨_, _, _, _, _, h⟩ => SqL.of (h _ _ h2)) ?_ ?_⟩
  · rintro i x σ H1 hx ⟨y11, y12, y13, y14, rfl, S1⟩
    rw [List.getElem?_map] at hx
    obtain ⟨a, ha, rfl⟩ : ∃ a, as[i]? = some a ∧ x = V.ref a := by
      cases e : as[i]? with
      | none => rw [e] at hx; cases hx
      | some a => rw [e] at hx; exact ⟨a, rfl, (Option.some.inj hx).symm⟩
    have la := hA.length
    have hi : i < rowsL.length := by rw [← la]; exact (List.getElem?_eq_some_iff.mp ha).1
    have hri := List.getElem?_eq_getElem hi
    generalize rowsL[i] = r at hri
    obtain ⟨a', ha', hra⟩ := paired_get hA hri
    rw [ha] at ha'
    cases ha'
    have ok := List.all_eq_true.mp rows_ok r (List.mem_of_getElem? hri)
    obtain ⟨z, l, wd⟩ := r
    unfold rowOk at ok
    rw [Bool.and_eq_true, decide_eq_true_iff] at ok
    obtain ⟨lz, ok⟩ := ok
    have lz : (TL.tl z).length ≤ 1000 := by rw [← TL.len_tl]; exact lz
    refine ⟨a, _, rfl, SqT.of (S1 _ _ hra), rfl, _, _, rfl, _, _, rfl, _, _, rfl, rfl, szl 2, fun H2 pl S2 n2 h2' => ?_⟩
    have S02 := S1.trans S2
    have fin : ∀ (H3 : Hp) (pq : Addr) (v u : V), Same H0 H3 → H3 pq = some (.tup [v, u]) → l = v → wd = u → flatA v = true → flatA u = true →
        (tIfS (tNot (tB (tCall (spAlike 4) [] E0 (tCons (tVar 14) (tCons (tTupN (tCons (tVar 12) (tCons (tVar 13) tNil))) tNil))))) (fun _ _ _ => False) tNext) { D with nx := fun σ H' => ∃ (y11 y12 y13 y14 : Option V), σ = [y0, y1, y2, y3, y4, y5, y6, y7, y8, some (.str oneS), some (.ref lo), y11, y12, y13, y14, none, none, none, none, none] ∧ Same H0 H', ct := fun σ H' => ∃ (y11 y12 y13 y14 : Option V), σ = [y0, y1, y2, y3, y4, y5, y6, y7, y8, some (.str oneS), some (.ref lo), y11, y12, y13, y14, none, none, none, none, none] ∧ Same H0 H', bk := tR22 D }
          [y0, y1, y2, y3, y4, y5, y6, y7, y8, some (.str oneS), some (.ref lo), some (.str z), some l, some wd, some (.ref pq), none, none, none, none, none] H3 := by
      rintro H3 pq v u S3 hq rfl rfl fv fu
      refine ⟨_, rfl, _, rfl, _, rfl, szl 2, fun H4 p4 S4 n4 h4 => ?_⟩
      exact ⟨.ref pq, .ref p4, rfl, (alk_two (S4 _ _ hq) h4 fv fu).up.up.up, fun H5 S5 => ⟨true, rfl, iteF ⟨_, _, _, _, rfl, (S3.trans S4).trans S5⟩⟩⟩
    refine ⟨_, rfl, .str z, rfl, .inr ⟨TL.tl z, congrArg V.str (S_tl z).symm, by omega, ?_⟩⟩
    cases er : readB (TL.tl z) with
    | inr b =>
      rw [er] at ok
      have ok : (decide (l = .non) && decide (wd = .non)) = true := ok
      rw [Bool.and_eq_true, decide_eq_true_iff, decide_eq_true_iff] at ok
      intro H3 p S3 n3 _
      exact fin H3 pl .non .non (S02.trans S3) (S3 _ _ h2') ok.1 ok.2 rfl rfl
    | inl e =>
      rw [er] at ok
      have ok : (decide (l = .int (e.1 : Nat)) && decide (wd = .int (e.2 : Nat))) = true := ok
      rw [Bool.and_eq_true, decide_eq_true_iff, decide_eq_true_iff] at ok
      intro H3 d S3 n3 hd
      refine ⟨true, te, fun _ a' ha' => ⟨rfl, rfl, d, e.1, e.2, rfl, hd, fun H4 p S4 n4 h4 => ?_⟩, fun z => Bool.noConfusion z⟩
      exact fin H4 p _ _ ((S02.trans S3).trans S4) h4 ok.1 ok.2 rfl rfl
  · rintro σ H1 ⟨y11, y12, y13, y14, rfl, S1⟩
    exact ⟨y0, y1, y2, y3, y4, y5, y6, y7, y8, _, _, y11, y12, y13, y14, rfl, q⟩
end
end SK
namespace SK
open PySem PySem.Spec PyProof.Rows L2 SX
/-! law 0 whole -/
section
variable {P : Program} {w : World} {K : PySem.W.Frag} {mg : Str → Option Value} {base : Heap}
theorem law00_g {f C CT CS : Addr} {cdv : Value} {k : Nat} (EC : ExcC K CT) (gB : mg "NotText" = some (.ref CT)) (kiB : PySem.W.kitOne K (.ref CT) (.ref CT) = some true) (gS : mg "StrokeError" = some (.ref CS)) (te : PySem.W.exmOne K (.ref CT) (.ref CS) = some true) (G : LawG00 P w K mg base C CT k) {A : Around} {outer : List Env} {s : Shared} {H : Hp} {E : XK} (hr : Room k (A.deeper (envOfC "law" (defScope s_law) s.heap.objs.size f cdv))) :
    PSs (cxOf CX0 P w K mg base n_law "law" (defScope s_law) f cdv A outer s H E).nox ((defBody s_law).drop 22) tR22 := by
  have nd := sc_law.nd
  have GR := G.readX
  have mI := G.mI
  have mi := G.mi
  refine pssimp _ (pss_cons (ps_set (i := 16) nd rfl (.inl rfl) pe_int)
    (pss_cons (ps_for PassesOwn.never rfl (pi_list (plstN (pa_cons pe_non (pa_cons pe_int (pa_cons (ptupN pa_nil) (pa_cons (plstN (pa_cons pe_str (pa_cons pe_str pa_nil))) pa_nil)))))) (pg_name (i := 17) nd rfl (.inl rfl))
      (pss_one (ps_try_as (i := 15) (tb := tTry K C CT 17) (ts := tSuiteNt CT) (Wout := fun _ _ _ _ => False) rfl rfl nd rfl rfl ⟨rfl, by decide, .inl gS⟩ takes0
        (fun W pn xe tk _ => pss_one (ps_expr (pcallX GR hr tk (pa_cons (pv 17) pa_nil))))
        (fun a oe cls d pn hz hf => pssimp _ (pss_one (ps_set (i := 16) nd rfl (.inl rfl) (padd (pv 16) (pint mi (pe_callB (call_isN EC hz hf) (by rfl) mI (by decide +kernel) (pa_cons (pv 15) (pa_cons (pe_glob (v := .ref CT) rfl gB rfl) pa_nil)) (by decide) (by decide)))))) ?suite))))
    (pss_one (ps_ret (pe_cmpR op_eq (pv 16) pe_int (nomark _)))))) ?_
  case suite =>
    rintro D σ H ⟨h15, rfl, rfl, n, h16, q⟩
    exact ⟨_, h16, _, h15, rfl, rfl, .ref CT, .ref CT, true, rfl, (fun u r => r), kiB, .inr ⟨true, rfl, _, _, rfl, rfl, q⟩⟩
  rintro D σ H0 ⟨y0, y1, y2, y3, y4, y5, y6, y7, y8, y9, y10, y11, y12, y13, y14, rfl, q⟩
  refine ⟨szl 0, fun H1 t S1 n1 h1 => ⟨szl 2, fun H2 l1 S2 n2 h2 => ⟨szl 4, fun H3 l2 S3 n3 h3 => ⟨l2, rfl, ⟨_, SqL.of h3⟩, ?_⟩⟩⟩⟩
  refine for_list (tb := fun D σ H => tTry K C CT 17 (wAs K (.ref CS) 15 (tSuiteNt CT) (fun _ _ _ _ => False) D) D σ H) (K := K) (a := l2) (xs := [.non, .int 5, .ref t, .ref l1]) (fun i σ H' => ∃ (y17 : Option V), σ = [y0, y1, y2, y3, y4, y5, y6, y7, y8, y9, y10, y11, y12, y13, y14, none, some (.int (i : Nat)), y17, none, none] ∧ Same H3 H')
    ⟨none, rfl, Same.refl H3⟩ (fun i σ H' _ ⟨_, _, h⟩ => SqL.of (h _ _ h3)) ?_ ?_
  · rintro i x σ H4 hx ⟨y17, rfl, S4⟩
    have ty : ∃ Ty, TyX K H4 x (.type Ty) ∧ kitB Ty "str" = some false := by
      match i, hx with
      | 0, hx => cases hx; exact ⟨"NoneType", ty_non, by decide +kernel⟩
      | 1, hx => cases hx; exact ⟨"int", ty_int _, by decide +kernel⟩
      | 2, hx => cases hx; exact ⟨"tuple", ty_tup (S4 _ _ (S3 _ _ (S2 _ _ h1))), by decide +kernel⟩
      | 3, hx => cases hx; exact ⟨"list", ty_lst (S4 _ _ (S3 _ _ h2)), by decide +kernel⟩
      | n + 4, hx => cases hx
    obtain ⟨Ty, t1, t2⟩ := ty
    refine ⟨_, rfl, x, rfl, .inl ⟨Ty, t1, t2, true, te, fun _ a' ha' => ⟨rfl, rfl, rfl, (i : Nat), rfl, ?_⟩, fun z => Bool.noConfusion z⟩⟩
    refine ⟨some x, ?_, S4⟩
    have e : ((i : Nat) : Int) + 1 = ((i + 1 : Nat) : Int) := by omega
    rw [e]
    rfl
  · rintro σ H4 ⟨y17, rfl, S4⟩
    refine ⟨_, rfl, rfl, ?_⟩
    exact q H4
theorem ok_law00 {f C fI CT CS : Addr} {fd : FuncData} {k : Nat} (F : Fun K "law" "law" s_law f fd) (G : BlTxt P K mg C fI ∧ IsTxt K C ∧ mg "StrokeError" = some (.ref CS) ∧ PySem.W.exmOne K (.ref C) (.ref CS) = some true ∧ ExcC K CT ∧ mg "NotText" = some (.ref CT) ∧ PySem.W.kitOne K (.ref CT) (.ref CT) = some true ∧ PySem.W.exmOne K (.ref CT) (.ref CS) = some true ∧ LawG00 P w K mg base C CT k) :
    FnOk P w K mg base CX0 (k + 1) f fd ["script"] (spLaw K) := by
  obtain ⟨T, T2, gS, teC, EC, gB, kiB, teB, G⟩ := G
  exact law00_a F G fun _ _ _ _ _ _ hr => law00_b G hr (law00_c G hr (law00_d G hr (law00_e G hr (law00_f T T2 gS teC G hr (law00_g EC gB kiB gS teB G hr)))))
end
end SK
namespace SK
open PySem PySem.Spec PyProof.Rows L2
def ModT (K : PySem.W.Frag) (a : Addr) (xs : List V) : Prop := ∃ (o : Obj) (its : Array Value) (n : Nat), K.lookup a = some o ∧ o.cls = .type "tuple" ∧ o.data = .seq its n ∧ its.size ≤ sizeLine ∧ Vals xs its.toList
theorem ModT.sq {K : PySem.W.Frag} {a : Addr} {xs : List V} {H : Hp} (h : ModT K a xs) : SqT K H a xs := .inr h
end SK
namespace SK
open PySem PySem.Spec PyProof.Rows L2
/-- a def of the module -/
def DefAt (K : PySem.W.Frag) (mg : Str → Option Value) (x : Str) (st : Stmt) : Prop := ∃ (f : Addr) (fd : FuncData), mg x = some (.ref f) ∧ Fun K x x st f fd
/-- a def of the module with defaults -/
def DefDAt (K : PySem.W.Frag) (mg : Str → Option Value) (x : Str) (st : Stmt) (dvs : List V) : Prop := ∃ (f : Addr) (fd : FuncData), mg x = some (.ref f) ∧ FunD K x x (defArgs st) (defBody st) (defScope st) dvs [] f fd
structure Defs (K : PySem.W.Frag) (mg : Str → Option Value) : Prop where
  taken : DefAt K mg "_law_taken" s_law_taken
  pick : DefAt K mg "_law_pick" s_law_pick
  branched : DefAt K mg "_law_branched" s_law_branched
  word : DefAt K mg "_law_word" s_law_word
  book : DefAt K mg "_law_book" s_law_book
  grown : DefAt K mg "_law_grown" s_law_grown
  word_text : DefAt K mg "_law_word_text" s_law_word_text
  alike : DefAt K mg "_law_alike" s_law_alike
  is_integer : DefAt K mg "is_integer" s_is_integer
  is_word : DefAt K mg "is_word" s_is_word
  has_book_form : DefAt K mg "has_book_form" s_has_book_form
  check_book : DefAt K mg "check_book" s_check_book
  letters_in : DefAt K mg "letters_in" s_letters_in
  next_letters : DefAt K mg "next_letters" s_next_letters
  ages_of_letters : DefAt K mg "ages_of_letters" s_ages_of_letters
  first_ages : DefAt K mg "first_ages" s_first_ages
  text_of_word : DefAt K mg "text_of_word" s_text_of_word
  write_book : DefAt K mg "write_book" s_write_book
  word_of_text : DefAt K mg "word_of_text" s_word_of_text
  words_of_line : DefAt K mg "words_of_line" s_words_of_line
  read_line : DefAt K mg "read_line" s_read_line
  read_book : DefAt K mg "read_book" s_read_book
structure Blt (mg : Str → Option Value) : Prop where
  isinstance : mg "isinstance" = none
  int : mg "int" = none
  bool : mg "bool" = none
  str : mg "str" = none
  tuple : mg "tuple" = none
  list : mg "list" = none
  len : mg "len" = none
  enumerate : mg "enumerate" = none
  sorted : mg "sorted" = none
  range : mg "range" = none
  zip : mg "zip" = none
  sum : mg "sum" = none
  reversed : mg "reversed" = none
  abs : mg "abs" = none
  all : mg "all" = none
section
variable {P : Program} {w : World} {K : PySem.W.Frag} {mg : Str → Option Value} {base : Heap}
theorem got {x : Str} {st : Stmt} {k : Nat} {ps : List Str} {sp : Sp} (D : DefAt K mg x st) (h : ∀ (f : Addr) (fd : FuncData), Fun K x x st f fd → FnOk P w K mg base CX0 k f fd ps sp)
    (b : ∀ (kV doc pm : Value) (an : Option Addr) (cdv ct : Value) (us : List Value), us.length = ps.length → bindArgs (PySem.W.fnOf x x (defArgs st) (defBody st) (defScope st) .none kV doc pm an cdv ct) ⟨us, []⟩ = pure (ps.zip us)) : Got P w K mg base x k ps sp := by
  obtain ⟨f, fd, m, F⟩ := D
  exact ⟨f, fd, h f fd F, m, F.kp, F.binds b⟩
theorem gotX {x : Str} {st : Stmt} {k : Nat} {ps : List Str} {sp : Sp} (D : DefAt K mg x st) (h : ∀ (f : Addr) (fd : FuncData), Fun K x x st f fd → FnOk P w K mg base (L2.CX P w) k f fd ps sp)
    (b : ∀ (kV doc pm : Value) (an : Option Addr) (cdv ct : Value) (us : List Value), us.length = ps.length → bindArgs (PySem.W.fnOf x x (defArgs st) (defBody st) (defScope st) .none kV doc pm an cdv ct) ⟨us, []⟩ = pure (ps.zip us)) : GotX P w K mg base x k ps sp := by
  obtain ⟨f, fd, m, F⟩ := D
  exact ⟨f, fd, h f fd F, m, F.kp, F.binds b⟩
theorem GotD.mono {x : Str} {j k : Nat} {ps : List Str} {dvs : List V} {sp : Sp} (g : GotD P w K mg base x j ps dvs sp) (h : j ≤ k) : GotD P w K mg base x k ps dvs sp := by
  obtain ⟨f, fd, ds, F, a, b, c, d⟩ := g.ex
  exact ⟨f, fd, ds, F.mono h, a, b, c, d⟩
/-- with the default, and without -/
theorem gotD {x : Str} {st : Stmt} {k : Nat} {ps : List Str} {dv : V} {sp : Sp} (D : DefDAt K mg x st [dv]) (h : ∀ (f : Addr) (fd : FuncData), FunD K x x (defArgs st) (defBody st) (defScope st) [dv] [] f fd → FnOk P w K mg base CX0 k f fd ps sp)
    (b : ∀ (f : Addr) (fd : FuncData), FunD K x x (defArgs st) (defBody st) (defScope st) [dv] [] f fd → ∃ ds, Vals [dv] ds ∧ Binds K fd ps ds) : GotD P w K mg base x k ps [dv] sp := by
  obtain ⟨f, fd, m, F⟩ := D
  obtain ⟨ds, v, b⟩ := b f fd F
  exact ⟨f, fd, ds, h f fd F, m, F.kp, b, v⟩
theorem gotF {x : Str} {st : Stmt} {k : Nat} {ps : List Str} {dv : V} {sp : Sp} (D : DefDAt K mg x st [dv]) (h : ∀ (f : Addr) (fd : FuncData), FunD K x x (defArgs st) (defBody st) (defScope st) [dv] [] f fd → FnOk P w K mg base CX0 k f fd ps sp)
    (b : ∀ (f : Addr) (fd : FuncData), FunD K x x (defArgs st) (defBody st) (defScope st) [dv] [] f fd → ∃ ds, Vals [] ds ∧ Binds K fd ps ds) : Got P w K mg base x k ps sp := by
  obtain ⟨f, fd, m, F⟩ := D
  obtain ⟨ds, v, b⟩ := b f fd F
  cases v
  exact ⟨f, fd, h f fd F, m, F.kp, b⟩
theorem all_got {t_MOST_PARTS : Tok} {t_MOST_LETTERS : Tok} {t_LETTERS : Tok} {t_SIGNS : Tok} {CS : Addr} {E_NotText : Addr} {a_HEADS : Addr} {CB fI : Addr} (D : Defs K mg) (B : Blt mg) (m_MOST_PARTS : mg "MOST_PARTS" = some (.int 40 t_MOST_PARTS)) (m_MOST_LETTERS : mg "MOST_LETTERS" = some (.int 8 t_MOST_LETTERS)) (m_LETTERS : mg "LETTERS" = some (.str "abcdefgh" t_LETTERS)) (m_SIGNS : mg "SIGNS" = some (.str "+-[]" t_SIGNS)) (gS : mg "StrokeError" = some (.ref CS)) (gNotText : mg "NotText" = some (.ref E_NotText)) (xNotText : PySem.W.excIn K E_NotText [.type "ValueError", .type "Exception", .type "BaseException", .type "object"] "ValueError.__new__" = true) (kNotText : PySem.W.keepIn K (.ref E_NotText) = true) (sNotText : PySem.W.subIn K (.ref E_NotText) (.type "BaseException") = some true) (tNotText : PySem.W.typeIn K (.ref E_NotText) = some (.type "type")) (cNotText : ExcC K E_NotText) (teNotText : PySem.W.exmOne K (.ref E_NotText) (.ref CS) = some true) (kiNotText : PySem.W.kitOne K (.ref E_NotText) (.ref E_NotText) = some true) (m_HEADS : mg "HEADS" = some (.ref a_HEADS)) (hHEADS : ∀ H, SqT K H a_HEADS headsV) (T : BlTxt P K mg CB fI) (T2 : IsTxt K CB) (teB : PySem.W.exmOne K (.ref CB) (.ref CS) = some true) : BlTxt P K mg CB fI ∧ IsTxt K CB ∧ mg "StrokeError" = some (.ref CS) ∧ PySem.W.exmOne K (.ref CB) (.ref CS) = some true ∧ ExcC K E_NotText ∧ mg "NotText" = some (.ref E_NotText) ∧ PySem.W.kitOne K (.ref E_NotText) (.ref E_NotText) = some true ∧ PySem.W.exmOne K (.ref E_NotText) (.ref CS) = some true ∧ LawG00 P w K mg base CB E_NotText 5 := by
  have gTk : Got P w K mg base "_law_taken" 1 ["row", "many"] (spTaken K) := got D.taken (fun f fd F => ok_taken F B.int B.len) fun _ _ _ _ _ _ us hl => match us, hl with | [_, _], _ => rfl
  have gPk : Got P w K mg base "_law_pick" 2 ["row", "things"] (spPick K) := got D.pick (fun f fd F => ok_pick F gTk B.len) fun _ _ _ _ _ _ us hl => match us, hl with | [_, _], _ => rfl
  have gBr : Got P w K mg base "_law_branched" 3 ["row", "word", "letters"] (spBranched K) := got D.branched (fun f fd F => ok_branched F (gTk.mono (by decide)) gPk B.len B.list B.tuple) fun _ _ _ _ _ _ us hl => match us, hl with | [_, _, _], _ => rfl
  have gWd : Got P w K mg base "_law_word" 3 ["row", "letters", "most"] (spWord K) := got D.word (fun f fd F => ok_word F (gTk.mono (by decide)) gPk B.range B.tuple) fun _ _ _ _ _ _ us hl => match us, hl with | [_, _, _], _ => rfl
  have gBk : Got P w K mg base "_law_book" 4 ["row"] (spBook K) := got D.book (fun f fd F => ok_book F (gTk.mono (by decide)) gWd gBr B.range B.tuple) fun _ _ _ _ _ _ us hl => match us, hl with | [_], _ => rfl
  have gGr : Got P w K mg base "_law_grown" 1 ["book", "age"] (spGrown K) := got D.grown (fun f fd F => ok_grown F B.range B.list B.isinstance B.str) fun _ _ _ _ _ _ us hl => match us, hl with | [_, _], _ => rfl
  have gA : AlkG mg := ⟨B.isinstance, B.tuple, B.list, B.str, B.int, B.bool, B.len, B.range⟩
  have bA : ∀ (kV doc pm : Value) (an : Option Addr) (cdv ct : Value) (us : List Value), us.length = (["found", "due"] : List Str).length → bindArgs (PySem.W.fnOf "_law_alike" "_law_alike" (defArgs s_law_alike) (defBody s_law_alike) (defScope s_law_alike) .none kV doc pm an cdv ct) ⟨us, []⟩ = pure ((["found", "due"] : List Str).zip us) :=
    fun _ _ _ _ _ _ us hl => (match us, hl with | [_, _], _ => rfl)
  have gAl : ∀ n, Got P w K mg base "_law_alike" (n + 1) ["found", "due"] (spAlike n) := fun n => by
    induction n with
    | zero => exact got D.alike (fun f fd F => ok_alike 0 F gA fun m e => absurd e (by omega)) bA
    | succ n ih =>
      refine got D.alike (fun f fd F => ok_alike (n + 1) F gA fun m e => ?_) bA
      have e : n = m := by omega
      subst e
      exact ih
  have gII : Got P w K mg base "is_integer" 1 ["value"] (spIsInt K) := got D.is_integer (fun f fd F => ok_isint F B.isinstance B.int B.bool) fun _ _ _ _ _ _ us hl => match us, hl with | [_], _ => rfl
  have gIW : Got P w K mg base "is_word" 2 ["value", "many"] spIsWord := got D.is_word (fun f fd F => ok_isword F gII B.isinstance B.tuple B.len m_MOST_PARTS) fun _ _ _ _ _ _ us hl => match us, hl with | [_, _], _ => rfl
  have gBF : Got P w K mg base "has_book_form" 2 ["value"] spBookForm := got D.has_book_form (fun f fd F => ok_bookform F B.isinstance B.tuple B.len m_MOST_LETTERS) fun _ _ _ _ _ _ us hl => match us, hl with | [_], _ => rfl
  have gCB : Got P w K mg base "check_book" 3 ["value"] spCheckBook := got D.check_book (fun f fd F => ok_checkbook F gBF gIW B.len B.enumerate) fun _ _ _ _ _ _ us hl => match us, hl with | [_], _ => rfl
  have gIV : Got P w K mg base "is_word" 2 ["value", "many"] (spIsWordV K) := got D.is_word (fun f fd F => ok_iswordV F gII B.isinstance B.tuple B.len m_MOST_PARTS) fun _ _ _ _ _ _ us hl => match us, hl with | [_, _], _ => rfl
  have gLI : Got P w K mg base "letters_in" 1 ["parts"] (spLettersIn K) := got D.letters_in (fun f fd F => ok_lettersin F B.isinstance B.str B.sorted) fun _ _ _ _ _ _ us hl => match us, hl with | [_], _ => rfl
  have gNL : Got P w K mg base "next_letters" 2 ["words", "letters"] spNext := got D.next_letters (fun f fd F => ok_next F gLI) fun _ _ _ _ _ _ us hl => match us, hl with | [_, _], _ => rfl
  have gAL : Got P w K mg base "ages_of_letters" 3 ["words", "parts"] (spAges K) := got D.ages_of_letters (fun f fd F => ok_ages F (gLI.mono (by decide)) gNL) fun _ _ _ _ _ _ us hl => match us, hl with | [_, _], _ => rfl
  have gFA : Got P w K mg base "first_ages" 4 ["book"] spFAges := got D.first_ages (fun f fd F => ok_fages F gCB gAL B.sorted B.tuple) fun _ _ _ _ _ _ us hl => match us, hl with | [_], _ => rfl
  have gTo : Got P w K mg base "text_of_word" 1 ["word"] (spTextOf K) := got D.text_of_word (fun f fd F => ok_textof F B.isinstance B.str m_LETTERS) fun _ _ _ _ _ _ us hl => match us, hl with | [_], _ => rfl
  have gWb : Got P w K mg base "write_book" 4 ["book"] spWrite := got D.write_book (fun f fd F => ok_write F gCB (gTo.mono (by decide)) m_HEADS hHEADS B.zip) fun _ _ _ _ _ _ us hl => match us, hl with | [_], _ => rfl
  have gWo : Got P w K mg base "word_of_text" 3 ["text"] spWordOf := got D.word_of_text (fun f fd F => ok_wordof F gIV B.len B.all B.tuple m_MOST_PARTS m_MOST_LETTERS m_LETTERS m_SIGNS) fun _ _ _ _ _ _ us hl => match us, hl with | [_], _ => rfl
  have gWl : Got P w K mg base "words_of_line" 1 ["line"] spWordsL := got D.words_of_line (fun f fd F => ok_wordsl F) fun _ _ _ _ _ _ us hl => match us, hl with | [_], _ => rfl
  have gRl : GotX P w K mg base "read_line" 4 ["words", "line", "heads"] (spReadLn K CB) := gotX D.read_line (fun f fd F => ok_readln T F gWo B.len) fun _ _ _ _ _ _ us hl => match us, hl with | [_, _, _], _ => rfl
  have gRb : GotX P w K mg base "read_book" 5 ["text"] (spReadBook K CB E_NotText) := gotX D.read_book (fun f fd F => ok_readbook T F (gWl.mono (by decide)) gRl (gIV.mono (by decide)) B.isinstance B.str B.enumerate B.len B.tuple m_HEADS hHEADS xNotText gNotText kNotText sNotText tNotText) fun _ _ _ _ _ _ us hl => match us, hl with | [_], _ => rfl
  have gLx : Got P w K mg base "_law_word_text" 1 ["word"] (spTextOf K) := got D.word_text (fun f fd F => ok_lawtext F B.isinstance B.str) fun _ _ _ _ _ _ us hl => match us, hl with | [_], _ => rfl
  exact ⟨T, T2, gS, teB, cNotText, gNotText, kiNotText, teNotText, ⟨gBk.mono (by decide), gLx.mono (by decide), gGr.mono (by decide), (gAl 4).mono (by decide), gWb.mono (by decide), read_ok gRb, gRb, gFA.mono (by decide), B.range, B.len, B.tuple, B.isinstance, B.str, B.int, B.sorted⟩⟩
/-- one tuple of the written part -/
theorem modT_of {K : PySem.W.Frag} {a : Addr} {o : Obj} {its : Array Value} {n : Nat} {xs : List V} (h : K.lookup a = some o) (h1 : o.cls = .type "tuple") (h2 : o.data = .seq its n) (h3 : its.size ≤ 16777216) (h4 : Vals xs its.toList) : ModT K a xs :=
  ⟨o, its, n, h, h1, h2, by rw [sizeLine_eq]; exact h3, h4⟩
end
end SK
namespace SK
open PySem PySem.Spec PyProof.Rows L2
theorem def_mk {K : PySem.W.Frag} {h : Heap} {mg : Str → Option Value} {x : Str} {st : Stmt} {f : Addr} {oc kV doc pm cdv ct : Value} {od an : Option Addr} {osl : Array (Option Value)} (X : K.In h) (G : h.Ns mainGlobals mg) (a : PySem.W.nsIn K mainGlobals x = some (some (.ref f)))
    (l : K.lookup f = some ⟨oc, od, .func (PySem.W.fnOf x x (defArgs st) (defBody st) (defScope st) .none kV doc pm an cdv ct), osl⟩) (c : PySem.W.codeIn K cdv x = true) (k : PySem.W.keepIn K (.ref f) = true) : DefAt K mg x st := ⟨f, _, PySem.W.mg_of X G a, fun_mk (st := st) l c k⟩
theorem law_mk {l : PySem.W.OpenLaw} {w : World} {K : PySem.W.Frag} {h : Heap} {mg : Str → Option Value} {fa : Addr} (X : K.In h) (G : h.Ns mainGlobals mg) (hfa : mg "law" = some (.ref fa))
    {f_taken : Addr} {oc_taken kV_taken dc_taken pm_taken cd_taken ct_taken : Value} {od_taken an_taken : Option Addr} {sl_taken : Array (Option Value)}
    {f_pick : Addr} {oc_pick kV_pick dc_pick pm_pick cd_pick ct_pick : Value} {od_pick an_pick : Option Addr} {sl_pick : Array (Option Value)}
    {f_branched : Addr} {oc_branched kV_branched dc_branched pm_branched cd_branched ct_branched : Value} {od_branched an_branched : Option Addr} {sl_branched : Array (Option Value)}
    {f_word : Addr} {oc_word kV_word dc_word pm_word cd_word ct_word : Value} {od_word an_word : Option Addr} {sl_word : Array (Option Value)}
    {f_book : Addr} {oc_book kV_book dc_book pm_book cd_book ct_book : Value} {od_book an_book : Option Addr} {sl_book : Array (Option Value)}
    {f_grown : Addr} {oc_grown kV_grown dc_grown pm_grown cd_grown ct_grown : Value} {od_grown an_grown : Option Addr} {sl_grown : Array (Option Value)}
    {f_word_text : Addr} {oc_word_text kV_word_text dc_word_text pm_word_text cd_word_text ct_word_text : Value} {od_word_text an_word_text : Option Addr} {sl_word_text : Array (Option Value)}
    {f_alike : Addr} {oc_alike kV_alike dc_alike pm_alike cd_alike ct_alike : Value} {od_alike an_alike : Option Addr} {sl_alike : Array (Option Value)}
    {f_is_integer : Addr} {oc_is_integer kV_is_integer dc_is_integer pm_is_integer cd_is_integer ct_is_integer : Value} {od_is_integer an_is_integer : Option Addr} {sl_is_integer : Array (Option Value)}
    {f_is_word : Addr} {oc_is_word kV_is_word dc_is_word pm_is_word cd_is_word ct_is_word : Value} {od_is_word an_is_word : Option Addr} {sl_is_word : Array (Option Value)}
    {f_has_book_form : Addr} {oc_has_book_form kV_has_book_form dc_has_book_form pm_has_book_form cd_has_book_form ct_has_book_form : Value} {od_has_book_form an_has_book_form : Option Addr} {sl_has_book_form : Array (Option Value)}
    {f_check_book : Addr} {oc_check_book kV_check_book dc_check_book pm_check_book cd_check_book ct_check_book : Value} {od_check_book an_check_book : Option Addr} {sl_check_book : Array (Option Value)}
    {f_letters_in : Addr} {oc_letters_in kV_letters_in dc_letters_in pm_letters_in cd_letters_in ct_letters_in : Value} {od_letters_in an_letters_in : Option Addr} {sl_letters_in : Array (Option Value)}
    {f_next_letters : Addr} {oc_next_letters kV_next_letters dc_next_letters pm_next_letters cd_next_letters ct_next_letters : Value} {od_next_letters an_next_letters : Option Addr} {sl_next_letters : Array (Option Value)}
    {f_ages_of_letters : Addr} {oc_ages_of_letters kV_ages_of_letters dc_ages_of_letters pm_ages_of_letters cd_ages_of_letters ct_ages_of_letters : Value} {od_ages_of_letters an_ages_of_letters : Option Addr} {sl_ages_of_letters : Array (Option Value)}
    {f_first_ages : Addr} {oc_first_ages kV_first_ages dc_first_ages pm_first_ages cd_first_ages ct_first_ages : Value} {od_first_ages an_first_ages : Option Addr} {sl_first_ages : Array (Option Value)}
    {f_text_of_word : Addr} {oc_text_of_word kV_text_of_word dc_text_of_word pm_text_of_word cd_text_of_word ct_text_of_word : Value} {od_text_of_word an_text_of_word : Option Addr} {sl_text_of_word : Array (Option Value)}
    {f_write_book : Addr} {oc_write_book kV_write_book dc_write_book pm_write_book cd_write_book ct_write_book : Value} {od_write_book an_write_book : Option Addr} {sl_write_book : Array (Option Value)}
    {f_word_of_text : Addr} {oc_word_of_text kV_word_of_text dc_word_of_text pm_word_of_text cd_word_of_text ct_word_of_text : Value} {od_word_of_text an_word_of_text : Option Addr} {sl_word_of_text : Array (Option Value)}
    {f_words_of_line : Addr} {oc_words_of_line kV_words_of_line dc_words_of_line pm_words_of_line cd_words_of_line ct_words_of_line : Value} {od_words_of_line an_words_of_line : Option Addr} {sl_words_of_line : Array (Option Value)}
    {f_read_line : Addr} {oc_read_line kV_read_line dc_read_line pm_read_line cd_read_line ct_read_line : Value} {od_read_line an_read_line : Option Addr} {sl_read_line : Array (Option Value)}
    {f_read_book : Addr} {oc_read_book kV_read_book dc_read_book pm_read_book cd_read_book ct_read_book : Value} {od_read_book an_read_book : Option Addr} {sl_read_book : Array (Option Value)}
    {t_MOST_PARTS : Tok}
    {t_MOST_LETTERS : Tok}
    {t_LETTERS : Tok}
    {t_SIGNS : Tok}
    {CS : Addr}
    {E_NotText : Addr}
    {a_HEADS : Addr} {ob_HEADS : Obj} {nn_HEADS : Nat} {uh0 uh1 uh2 uh3 uh4 uh5 uh6 uh7 uh8 : Tok}
    {CB fI NC : Addr} {nmC qC : Str} {bsC : List Value} {snC : List Str} {subC : List Value} {abC : Bool} {colC : Option Bool} {ddC : Option Addr} {k0C k1C k2C k3C k5C : Option Value}
    {ocI ctI : Value} {odI anI : Option Addr} {dcI pmI : Value} {cdI ccI : Addr} {slI : Array (Option Value)} {cclI clI : Value} {cddI cldI : Option Addr} {vsI : Array Value} {ccsI cslI : Array (Option Value)} {fileI : Str} {tfI : Tok}
    {f_law : Addr} {oc_law kV_law dc_law pm_law cd_law ct_law : Value} {od_law an_law : Option Addr} {sl_law : Array (Option Value)}
    (a_taken : PySem.W.nsIn K mainGlobals "_law_taken" = some (some (.ref f_taken)))
    (l_taken : K.lookup f_taken = some ⟨oc_taken, od_taken, .func (PySem.W.fnOf "_law_taken" "_law_taken" (defArgs s_law_taken) (defBody s_law_taken) (defScope s_law_taken) .none kV_taken dc_taken pm_taken an_taken cd_taken ct_taken), sl_taken⟩)
    (c_taken : PySem.W.codeIn K cd_taken "_law_taken" = true)
    (k_taken : PySem.W.keepIn K (.ref f_taken) = true)
    (a_pick : PySem.W.nsIn K mainGlobals "_law_pick" = some (some (.ref f_pick)))
    (l_pick : K.lookup f_pick = some ⟨oc_pick, od_pick, .func (PySem.W.fnOf "_law_pick" "_law_pick" (defArgs s_law_pick) (defBody s_law_pick) (defScope s_law_pick) .none kV_pick dc_pick pm_pick an_pick cd_pick ct_pick), sl_pick⟩)
    (c_pick : PySem.W.codeIn K cd_pick "_law_pick" = true)
    (k_pick : PySem.W.keepIn K (.ref f_pick) = true)
    (a_branched : PySem.W.nsIn K mainGlobals "_law_branched" = some (some (.ref f_branched)))
    (l_branched : K.lookup f_branched = some ⟨oc_branched, od_branched, .func (PySem.W.fnOf "_law_branched" "_law_branched" (defArgs s_law_branched) (defBody s_law_branched) (defScope s_law_branched) .none kV_branched dc_branched pm_branched an_branched cd_branched ct_branched), sl_branched⟩)
    (c_branched : PySem.W.codeIn K cd_branched "_law_branched" = true)
    (k_branched : PySem.W.keepIn K (.ref f_branched) = true)
    (a_word : PySem.W.nsIn K mainGlobals "_law_word" = some (some (.ref f_word)))
    (l_word : K.lookup f_word = some ⟨oc_word, od_word, .func (PySem.W.fnOf "_law_word" "_law_word" (defArgs s_law_word) (defBody s_law_word) (defScope s_law_word) .none kV_word dc_word pm_word an_word cd_word ct_word), sl_word⟩)
    (c_word : PySem.W.codeIn K cd_word "_law_word" = true)
    (k_word : PySem.W.keepIn K (.ref f_word) = true)
    (a_book : PySem.W.nsIn K mainGlobals "_law_book" = some (some (.ref f_book)))
    (l_book : K.lookup f_book = some ⟨oc_book, od_book, .func (PySem.W.fnOf "_law_book" "_law_book" (defArgs s_law_book) (defBody s_law_book) (defScope s_law_book) .none kV_book dc_book pm_book an_book cd_book ct_book), sl_book⟩)
    (c_book : PySem.W.codeIn K cd_book "_law_book" = true)
    (k_book : PySem.W.keepIn K (.ref f_book) = true)
    (a_grown : PySem.W.nsIn K mainGlobals "_law_grown" = some (some (.ref f_grown)))
    (l_grown : K.lookup f_grown = some ⟨oc_grown, od_grown, .func (PySem.W.fnOf "_law_grown" "_law_grown" (defArgs s_law_grown) (defBody s_law_grown) (defScope s_law_grown) .none kV_grown dc_grown pm_grown an_grown cd_grown ct_grown), sl_grown⟩)
    (c_grown : PySem.W.codeIn K cd_grown "_law_grown" = true)
    (k_grown : PySem.W.keepIn K (.ref f_grown) = true)
    (a_word_text : PySem.W.nsIn K mainGlobals "_law_word_text" = some (some (.ref f_word_text)))
    (l_word_text : K.lookup f_word_text = some ⟨oc_word_text, od_word_text, .func (PySem.W.fnOf "_law_word_text" "_law_word_text" (defArgs s_law_word_text) (defBody s_law_word_text) (defScope s_law_word_text) .none kV_word_text dc_word_text pm_word_text an_word_text cd_word_text ct_word_text), sl_word_text⟩)
    (c_word_text : PySem.W.codeIn K cd_word_text "_law_word_text" = true)
    (k_word_text : PySem.W.keepIn K (.ref f_word_text) = true)
    (a_alike : PySem.W.nsIn K mainGlobals "_law_alike" = some (some (.ref f_alike)))
    (l_alike : K.lookup f_alike = some ⟨oc_alike, od_alike, .func (PySem.W.fnOf "_law_alike" "_law_alike" (defArgs s_law_alike) (defBody s_law_alike) (defScope s_law_alike) .none kV_alike dc_alike pm_alike an_alike cd_alike ct_alike), sl_alike⟩)
    (c_alike : PySem.W.codeIn K cd_alike "_law_alike" = true)
    (k_alike : PySem.W.keepIn K (.ref f_alike) = true)
    (a_is_integer : PySem.W.nsIn K mainGlobals "is_integer" = some (some (.ref f_is_integer)))
    (l_is_integer : K.lookup f_is_integer = some ⟨oc_is_integer, od_is_integer, .func (PySem.W.fnOf "is_integer" "is_integer" (defArgs s_is_integer) (defBody s_is_integer) (defScope s_is_integer) .none kV_is_integer dc_is_integer pm_is_integer an_is_integer cd_is_integer ct_is_integer), sl_is_integer⟩)
    (c_is_integer : PySem.W.codeIn K cd_is_integer "is_integer" = true)
    (k_is_integer : PySem.W.keepIn K (.ref f_is_integer) = true)
    (a_is_word : PySem.W.nsIn K mainGlobals "is_word" = some (some (.ref f_is_word)))
    (l_is_word : K.lookup f_is_word = some ⟨oc_is_word, od_is_word, .func (PySem.W.fnOf "is_word" "is_word" (defArgs s_is_word) (defBody s_is_word) (defScope s_is_word) .none kV_is_word dc_is_word pm_is_word an_is_word cd_is_word ct_is_word), sl_is_word⟩)
    (c_is_word : PySem.W.codeIn K cd_is_word "is_word" = true)
    (k_is_word : PySem.W.keepIn K (.ref f_is_word) = true)
    (a_has_book_form : PySem.W.nsIn K mainGlobals "has_book_form" = some (some (.ref f_has_book_form)))
    (l_has_book_form : K.lookup f_has_book_form = some ⟨oc_has_book_form, od_has_book_form, .func (PySem.W.fnOf "has_book_form" "has_book_form" (defArgs s_has_book_form) (defBody s_has_book_form) (defScope s_has_book_form) .none kV_has_book_form dc_has_book_form pm_has_book_form an_has_book_form cd_has_book_form ct_has_book_form), sl_has_book_form⟩)
    (c_has_book_form : PySem.W.codeIn K cd_has_book_form "has_book_form" = true)
    (k_has_book_form : PySem.W.keepIn K (.ref f_has_book_form) = true)
    (a_check_book : PySem.W.nsIn K mainGlobals "check_book" = some (some (.ref f_check_book)))
    (l_check_book : K.lookup f_check_book = some ⟨oc_check_book, od_check_book, .func (PySem.W.fnOf "check_book" "check_book" (defArgs s_check_book) (defBody s_check_book) (defScope s_check_book) .none kV_check_book dc_check_book pm_check_book an_check_book cd_check_book ct_check_book), sl_check_book⟩)
    (c_check_book : PySem.W.codeIn K cd_check_book "check_book" = true)
    (k_check_book : PySem.W.keepIn K (.ref f_check_book) = true)
    (a_letters_in : PySem.W.nsIn K mainGlobals "letters_in" = some (some (.ref f_letters_in)))
    (l_letters_in : K.lookup f_letters_in = some ⟨oc_letters_in, od_letters_in, .func (PySem.W.fnOf "letters_in" "letters_in" (defArgs s_letters_in) (defBody s_letters_in) (defScope s_letters_in) .none kV_letters_in dc_letters_in pm_letters_in an_letters_in cd_letters_in ct_letters_in), sl_letters_in⟩)
    (c_letters_in : PySem.W.codeIn K cd_letters_in "letters_in" = true)
    (k_letters_in : PySem.W.keepIn K (.ref f_letters_in) = true)
    (a_next_letters : PySem.W.nsIn K mainGlobals "next_letters" = some (some (.ref f_next_letters)))
    (l_next_letters : K.lookup f_next_letters = some ⟨oc_next_letters, od_next_letters, .func (PySem.W.fnOf "next_letters" "next_letters" (defArgs s_next_letters) (defBody s_next_letters) (defScope s_next_letters) .none kV_next_letters dc_next_letters pm_next_letters an_next_letters cd_next_letters ct_next_letters), sl_next_letters⟩)
    (c_next_letters : PySem.W.codeIn K cd_next_letters "next_letters" = true)
    (k_next_letters : PySem.W.keepIn K (.ref f_next_letters) = true)
    (a_ages_of_letters : PySem.W.nsIn K mainGlobals "ages_of_letters" = some (some (.ref f_ages_of_letters)))
    (l_ages_of_letters : K.lookup f_ages_of_letters = some ⟨oc_ages_of_letters, od_ages_of_letters, .func (PySem.W.fnOf "ages_of_letters" "ages_of_letters" (defArgs s_ages_of_letters) (defBody s_ages_of_letters) (defScope s_ages_of_letters) .none kV_ages_of_letters dc_ages_of_letters pm_ages_of_letters an_ages_of_letters cd_ages_of_letters ct_ages_of_letters), sl_ages_of_letters⟩)
    (c_ages_of_letters : PySem.W.codeIn K cd_ages_of_letters "ages_of_letters" = true)
    (k_ages_of_letters : PySem.W.keepIn K (.ref f_ages_of_letters) = true)
    (a_first_ages : PySem.W.nsIn K mainGlobals "first_ages" = some (some (.ref f_first_ages)))
    (l_first_ages : K.lookup f_first_ages = some ⟨oc_first_ages, od_first_ages, .func (PySem.W.fnOf "first_ages" "first_ages" (defArgs s_first_ages) (defBody s_first_ages) (defScope s_first_ages) .none kV_first_ages dc_first_ages pm_first_ages an_first_ages cd_first_ages ct_first_ages), sl_first_ages⟩)
    (c_first_ages : PySem.W.codeIn K cd_first_ages "first_ages" = true)
    (k_first_ages : PySem.W.keepIn K (.ref f_first_ages) = true)
    (a_text_of_word : PySem.W.nsIn K mainGlobals "text_of_word" = some (some (.ref f_text_of_word)))
    (l_text_of_word : K.lookup f_text_of_word = some ⟨oc_text_of_word, od_text_of_word, .func (PySem.W.fnOf "text_of_word" "text_of_word" (defArgs s_text_of_word) (defBody s_text_of_word) (defScope s_text_of_word) .none kV_text_of_word dc_text_of_word pm_text_of_word an_text_of_word cd_text_of_word ct_text_of_word), sl_text_of_word⟩)
    (c_text_of_word : PySem.W.codeIn K cd_text_of_word "text_of_word" = true)
    (k_text_of_word : PySem.W.keepIn K (.ref f_text_of_word) = true)
    (a_write_book : PySem.W.nsIn K mainGlobals "write_book" = some (some (.ref f_write_book)))
    (l_write_book : K.lookup f_write_book = some ⟨oc_write_book, od_write_book, .func (PySem.W.fnOf "write_book" "write_book" (defArgs s_write_book) (defBody s_write_book) (defScope s_write_book) .none kV_write_book dc_write_book pm_write_book an_write_book cd_write_book ct_write_book), sl_write_book⟩)
    (c_write_book : PySem.W.codeIn K cd_write_book "write_book" = true)
    (k_write_book : PySem.W.keepIn K (.ref f_write_book) = true)
    (a_word_of_text : PySem.W.nsIn K mainGlobals "word_of_text" = some (some (.ref f_word_of_text)))
    (l_word_of_text : K.lookup f_word_of_text = some ⟨oc_word_of_text, od_word_of_text, .func (PySem.W.fnOf "word_of_text" "word_of_text" (defArgs s_word_of_text) (defBody s_word_of_text) (defScope s_word_of_text) .none kV_word_of_text dc_word_of_text pm_word_of_text an_word_of_text cd_word_of_text ct_word_of_text), sl_word_of_text⟩)
    (c_word_of_text : PySem.W.codeIn K cd_word_of_text "word_of_text" = true)
    (k_word_of_text : PySem.W.keepIn K (.ref f_word_of_text) = true)
    (a_words_of_line : PySem.W.nsIn K mainGlobals "words_of_line" = some (some (.ref f_words_of_line)))
    (l_words_of_line : K.lookup f_words_of_line = some ⟨oc_words_of_line, od_words_of_line, .func (PySem.W.fnOf "words_of_line" "words_of_line" (defArgs s_words_of_line) (defBody s_words_of_line) (defScope s_words_of_line) .none kV_words_of_line dc_words_of_line pm_words_of_line an_words_of_line cd_words_of_line ct_words_of_line), sl_words_of_line⟩)
    (c_words_of_line : PySem.W.codeIn K cd_words_of_line "words_of_line" = true)
    (k_words_of_line : PySem.W.keepIn K (.ref f_words_of_line) = true)
    (a_read_line : PySem.W.nsIn K mainGlobals "read_line" = some (some (.ref f_read_line)))
    (l_read_line : K.lookup f_read_line = some ⟨oc_read_line, od_read_line, .func (PySem.W.fnOf "read_line" "read_line" (defArgs s_read_line) (defBody s_read_line) (defScope s_read_line) .none kV_read_line dc_read_line pm_read_line an_read_line cd_read_line ct_read_line), sl_read_line⟩)
    (c_read_line : PySem.W.codeIn K cd_read_line "read_line" = true)
    (k_read_line : PySem.W.keepIn K (.ref f_read_line) = true)
    (a_read_book : PySem.W.nsIn K mainGlobals "read_book" = some (some (.ref f_read_book)))
    (l_read_book : K.lookup f_read_book = some ⟨oc_read_book, od_read_book, .func (PySem.W.fnOf "read_book" "read_book" (defArgs s_read_book) (defBody s_read_book) (defScope s_read_book) .none kV_read_book dc_read_book pm_read_book an_read_book cd_read_book ct_read_book), sl_read_book⟩)
    (c_read_book : PySem.W.codeIn K cd_read_book "read_book" = true)
    (k_read_book : PySem.W.keepIn K (.ref f_read_book) = true)
    (z_isinstance : PySem.W.nsIn K mainGlobals "isinstance" = some none)
    (z_int : PySem.W.nsIn K mainGlobals "int" = some none)
    (z_bool : PySem.W.nsIn K mainGlobals "bool" = some none)
    (z_str : PySem.W.nsIn K mainGlobals "str" = some none)
    (z_tuple : PySem.W.nsIn K mainGlobals "tuple" = some none)
    (z_list : PySem.W.nsIn K mainGlobals "list" = some none)
    (z_len : PySem.W.nsIn K mainGlobals "len" = some none)
    (z_enumerate : PySem.W.nsIn K mainGlobals "enumerate" = some none)
    (z_sorted : PySem.W.nsIn K mainGlobals "sorted" = some none)
    (z_range : PySem.W.nsIn K mainGlobals "range" = some none)
    (z_zip : PySem.W.nsIn K mainGlobals "zip" = some none)
    (z_sum : PySem.W.nsIn K mainGlobals "sum" = some none)
    (z_reversed : PySem.W.nsIn K mainGlobals "reversed" = some none)
    (z_abs : PySem.W.nsIn K mainGlobals "abs" = some none)
    (z_all : PySem.W.nsIn K mainGlobals "all" = some none)
    (m_MOST_PARTS : PySem.W.nsIn K mainGlobals "MOST_PARTS" = some (some (.int 40 t_MOST_PARTS)))
    (m_MOST_LETTERS : PySem.W.nsIn K mainGlobals "MOST_LETTERS" = some (some (.int 8 t_MOST_LETTERS)))
    (m_LETTERS : PySem.W.nsIn K mainGlobals "LETTERS" = some (some (.str "abcdefgh" t_LETTERS)))
    (m_SIGNS : PySem.W.nsIn K mainGlobals "SIGNS" = some (some (.str "+-[]" t_SIGNS)))
    (aCS : PySem.W.nsIn K mainGlobals "StrokeError" = some (some (.ref CS)))
    (exS : PySem.W.subIn K (.ref CS) (.type "BaseException") = some true)
    (hdS : PySem.W.hasDictIn K CS = true)
    (tyS : PySem.W.typeIn K (.ref CS) = some (.type "type"))
    (hnC : PySem.W.specialIn K (.builtin "object.__class__") "__get__" = some (some (.builtin "getset_descriptor.__get__")))
    (htC : PySem.W.takesIn K (.builtin "object.__class__") = some true)
    (aENotText : PySem.W.nsIn K mainGlobals "NotText" = some (some (.ref E_NotText)))
    (gaNotText : PySem.W.findIn K (.ref E_NotText) "__getattribute__" = some (some (.builtin "BaseException.__getattribute__")))
    (ggNotText : PySem.W.findIn K (.ref E_NotText) "__getattr__" = some none)
    (exNotText : PySem.W.subIn K (.ref E_NotText) (.type "BaseException") = some true)
    (hdNotText : PySem.W.hasDictIn K E_NotText = true)
    (tyNotText : PySem.W.typeIn K (.ref E_NotText) = some (.type "type"))
    (kpNotText : PySem.W.keepIn K (.ref E_NotText) = true)
    (haNotText : PySem.W.findIn K (.ref E_NotText) "__class__" = some (some (.builtin "object.__class__")))
    (hmNotText : PySem.W.mroIn K E_NotText (.type "object") = some true)
    (suNotText : PySem.W.subIn K (.ref E_NotText) (.ref CS) = some true)
    (xiNotText : PySem.W.excIn K E_NotText [.type "ValueError", .type "Exception", .type "BaseException", .type "object"] "ValueError.__new__" = true)
    (kiNotText : PySem.W.kitOne K (.ref E_NotText) (.ref E_NotText) = some true)
    (m_HEADS : PySem.W.nsIn K mainGlobals "HEADS" = some (some (.ref a_HEADS)))
    (l_HEADS : K.lookup a_HEADS = some ob_HEADS)
    (e_HEADS : ob_HEADS.cls = .type "tuple" ∧ ob_HEADS.data = .seq (([.str "start" uh0, .str "a" uh1, .str "b" uh2, .str "c" uh3, .str "d" uh4, .str "e" uh5, .str "f" uh6, .str "g" uh7, .str "h" uh8] : List Value).toArray) nn_HEADS)
    (z_super : PySem.W.nsIn K mainGlobals "super" = some none)
    (aB : PySem.W.nsIn K mainGlobals "BadLine" = some (some (.ref CB)))
    (xB : K.lookup CB = some (excClassObj nmC qC CB NC bsC [.ref CS, .type "ValueError", .type "Exception", .type "BaseException", .type "object"] true snC subC abC colC ddC k0C k1C k2C k3C k5C "ValueError.__new__"))
    (gaB : PySem.W.findIn K (.ref CB) "__getattribute__" = some (some (.builtin "BaseException.__getattribute__")))
    (ggB : PySem.W.findIn K (.ref CB) "__getattr__" = some none)
    (exB : PySem.W.subIn K (.ref CB) (.type "BaseException") = some true)
    (hdB : PySem.W.hasDictIn K CB = true)
    (tyB : PySem.W.typeIn K (.ref CB) = some (.type "type"))
    (kpB : PySem.W.keepIn K (.ref CB) = true)
    (haB : PySem.W.findIn K (.ref CB) "__class__" = some (some (.builtin "object.__class__")))
    (hmB : PySem.W.mroIn K CB (.type "object") = some true)
    (suB : PySem.W.subIn K (.ref CB) (.ref CS) = some true)
    (saB : PySem.W.findIn K (.ref CB) "__setattr__" = some (some (.builtin "object.__setattr__")))
    (no1B : PySem.W.findIn K (.ref CB) "line" = some none)
    (no2B : PySem.W.findIn K (.ref CB) "word" = some none)
    (iB : PySem.W.findIn K (.ref CB) "__init__" = some (some (.ref fI)))
    (tB : PySem.W.typeIn K (.ref fI) = some (.type "function"))
    (veB : PySem.W.subIn K (.ref CB) (.type "ValueError") = some true)
    (supB : PySem.W.ks_superIn K CB CB "__init__" = some (some (.builtin "ValueError.__init__")))
    (ownB : PySem.W.mroIn K CB (.ref CB) = some true)
    (opq : PySem.W.nsIn K cStatics "thirdparty.any" = some none)
    (lI : K.lookup fI = some ⟨ocI, odI, .func (PySem.W.ksFn "__init__" "BadLine.__init__" (defArgs s_BadLine_init) (defBody s_BadLine_init) (defScope s_BadLine_init) .none .none dcI pmI anI (.ref cdI) ctI ccI), slI⟩)
    (cI : PySem.W.codeIn K (.ref cdI) "BadLine.__init__" = true)
    (lcd : K.lookup cdI = some ⟨cclI, cddI, .fields vsI, ccsI⟩)
    (vI : vsI[2]? = some (.str fileI tfI))
    (fiI : ((l.prog.main.file : Str) == fileI) = true)
    (lcc : K.lookup ccI = some ⟨clI, cldI, .cell (some (.ref CB)), cslI⟩)
    (topS : (l.prog.main.scope.names.lookup ("super" : Str)).isSome = false)
    (kitB : PySem.W.kitOne K (.ref CB) (.ref CB) = some true)
    (a_law : PySem.W.nsIn K mainGlobals "law" = some (some (.ref f_law)))
    (l_law : K.lookup f_law = some ⟨oc_law, od_law, .func (PySem.W.fnOf "law" "law" (defArgs s_law) (defBody s_law) (defScope s_law) .none kV_law dc_law pm_law an_law cd_law ct_law), sl_law⟩)
    (c_law : PySem.W.codeIn K cd_law "law" = true)
    (k_law : PySem.W.keepIn K (.ref f_law) = true) :
    ∃ fd : FuncData, (∀ (s : Shared) (v : Value), BindsTo s fd ⟨[v], []⟩ [("script", v)]) ∧ ∀ base : Heap, K.In base → base.Ns mainGlobals mg → FnOk l.prog w K mg base CX0 6 fa fd ["script"] (spLaw K) := by
  have e := hfa.symm.trans (PySem.W.mg_of X G a_law)
  cases e
  have m : ∀ {x : Str} {u : Value}, PySem.W.nsIn K mainGlobals x = some (some u) → mg x = some u := fun h => PySem.W.mg_of X G h
  have z : ∀ {x : Str}, PySem.W.nsIn K mainGlobals x = some none → mg x = none := fun h => PySem.W.mg_none_of X G h
  have D : Defs K mg := ⟨def_mk X G a_taken l_taken c_taken k_taken, def_mk X G a_pick l_pick c_pick k_pick, def_mk X G a_branched l_branched c_branched k_branched, def_mk X G a_word l_word c_word k_word, def_mk X G a_book l_book c_book k_book, def_mk X G a_grown l_grown c_grown k_grown, def_mk X G a_word_text l_word_text c_word_text k_word_text, def_mk X G a_alike l_alike c_alike k_alike, def_mk X G a_is_integer l_is_integer c_is_integer k_is_integer, def_mk X G a_is_word l_is_word c_is_word k_is_word, def_mk X G a_has_book_form l_has_book_form c_has_book_form k_has_book_form, def_mk X G a_check_book l_check_book c_check_book k_check_book, def_mk X G a_letters_in l_letters_in c_letters_in k_letters_in, def_mk X G a_next_letters l_next_letters c_next_letters k_next_letters, def_mk X G a_ages_of_letters l_ages_of_letters c_ages_of_letters k_ages_of_letters, def_mk X G a_first_ages l_first_ages c_first_ages k_first_ages, def_mk X G a_text_of_word l_text_of_word c_text_of_word k_text_of_word, def_mk X G a_write_book l_write_book c_write_book k_write_book, def_mk X G a_word_of_text l_word_of_text c_word_of_text k_word_of_text, def_mk X G a_words_of_line l_words_of_line c_words_of_line k_words_of_line, def_mk X G a_read_line l_read_line c_read_line k_read_line, def_mk X G a_read_book l_read_book c_read_book k_read_book⟩
  have B : Blt mg := ⟨z z_isinstance, z z_int, z z_bool, z z_str, z z_tuple, z z_list, z z_len, z z_enumerate, z z_sorted, z z_range, z z_zip, z z_sum, z z_reversed, z z_abs, z z_all⟩
  have h_HEADS : ModT K a_HEADS [.str "start", .str "a", .str "b", .str "c", .str "d", .str "e", .str "f", .str "g", .str "h"] := modT_of l_HEADS e_HEADS.1 e_HEADS.2 (by show 9 ≤ 16777216; decide) (.cons ⟨_, rfl⟩ (.cons ⟨_, rfl⟩ (.cons ⟨_, rfl⟩ (.cons ⟨_, rfl⟩ (.cons ⟨_, rfl⟩ (.cons ⟨_, rfl⟩ (.cons ⟨_, rfl⟩ (.cons ⟨_, rfl⟩ (.cons ⟨_, rfl⟩ (.nil))))))))))
  have e_hv : headsV = [.str "start", .str "a", .str "b", .str "c", .str "d", .str "e", .str "f", .str "g", .str "h"] := by decide +kernel
  have hHEADS : ∀ H, SqT K H a_HEADS headsV := fun H => by rw [e_hv]; exact ModT.sq h_HEADS
  have T : BlTxt l.prog K mg CB fI := ⟨m aB, z z_super, ⟨_, _, _, _, _, _, _, _, _, _, _, _, _, _, _, xB, rfl⟩, saB, gaB, ggB, no1B, no2B, iB, tB, kpB, exB, veB, tyB, hdB, supB, ownB, opq, topS, ⟨_, _, _, _, _, _, _, _, _, lI, cI, ⟨_, _, _, _, _, _, lcd, vI, fiI⟩, _, _, _, lcc⟩⟩
  have T2 : IsTxt K CB := ⟨haB, hnC, htC, hmB, kitB⟩
  have teB : PySem.W.exmOne K (.ref CB) (.ref CS) = some true := PySem.W.exm_ref exS hdS tyS suB
  exact ⟨PySem.W.fnOf "law" "law" (defArgs s_law) (defBody s_law) (defScope s_law) .none kV_law dc_law pm_law an_law cd_law ct_law, fun s v => .of_eq (by first | rfl | with_unfolding_all rfl), fun base _ _ =>
    ok_law00 (fun_mk (st := s_law) l_law c_law k_law) (all_got D B (m m_MOST_PARTS) (m m_MOST_LETTERS) (m m_LETTERS) (m m_SIGNS) (m aCS) (m aENotText) xiNotText kpNotText exNotText tyNotText ⟨gaNotText, ggNotText, exNotText, hdNotText, haNotText, hnC, htC, hmNotText⟩ (PySem.W.exm_ref exS hdS tyS suNotText) kiNotText (m m_HEADS) hHEADS T T2 teB)⟩
theorem walk_law {l : PySem.W.OpenLaw} {q : Program} {loose : List Str} {XP : (Str → Option Value) → Heap → Prop} {YP : World → Heap → Prop} {d : DefRec} {K : Params → PySem.W.Frag} (hn : l.most = some 63) (hdf : d.params.defaults = [])
    (hY : ∀ (w : World) (h : Heap), YP w h → (K w.params).In h)
    (F : ∀ (w : World) (mg : Str → Option Value) (fa : Addr) (h : Heap), (K w.params).In h → h.Ns mainGlobals mg → mg d.name = some (.ref fa) →
      ∃ fd : FuncData, (∀ (s : Shared) (u : Value), BindsTo s fd ⟨[u], []⟩ [("script", u)]) ∧ ∀ base : Heap, (K w.params).In base → base.Ns mainGlobals mg → FnOk l.prog w (K w.params) mg base CX0 6 fa fd ["script"] (spLaw (K w.params))) :
    PySem.W.WalkO q loose XP YP l.row.toRowW d [] (fun f vs => PySem.call f vs) :=
  L2.walk_of (n := 63) (k := 6) (x := "script") (CX := fun _ => CX0) (sp := fun w => spLaw (K w.params)) hn (by decide) hdf ⟨rfl, by decide, by decide⟩ hY F (fun _ _ a ns hl _ hS => ⟨a, ns, rfl, hS, hl, fun _ => rfl⟩) fun _ _ _ _ _ z => z
end SK
open PySem PySem.W PyProof.Rows in
set_option maxRecDepth 100000 in
set_option maxHeartbeats 0 in
theorem PySem.Challenge.cw_strokeonce_k00_whole_books_as_text_holds : PySem.Challenge.rw_strokeonce_k00_whole_books_as_text.Holds := by
  w_on; o_law; k_headL; (case hw => w_witness2)
  k_fill
  refine SK.walk_law (l := PySem.Challenge.rw_strokeonce_k00_whole_books_as_text) rfl rfl (fun w h Y => PySem.W.kIn_of Y) ?F
  case F =>
    intro w mg fa h KX G hmg
    refine' SK.law_mk KX G hmg ?a_taken ?l_taken ?c_taken ?k_taken ?a_pick ?l_pick ?c_pick ?k_pick ?a_branched ?l_branched ?c_branched ?k_branched ?a_word ?l_word ?c_word ?k_word ?a_book ?l_book ?c_book ?k_book ?a_grown ?l_grown ?c_grown ?k_grown ?a_word_text ?l_word_text ?c_word_text ?k_word_text ?a_alike ?l_alike ?c_alike ?k_alike ?a_is_integer ?l_is_integer ?c_is_integer ?k_is_integer ?a_is_word ?l_is_word ?c_is_word ?k_is_word ?a_has_book_form ?l_has_book_form ?c_has_book_form ?k_has_book_form ?a_check_book ?l_check_book ?c_check_book ?k_check_book ?a_letters_in ?l_letters_in ?c_letters_in ?k_letters_in ?a_next_letters ?l_next_letters ?c_next_letters ?k_next_letters ?a_ages_of_letters ?l_ages_of_letters ?c_ages_of_letters ?k_ages_of_letters ?a_first_ages ?l_first_ages ?c_first_ages ?k_first_ages ?a_text_of_word ?l_text_of_word ?c_text_of_word ?k_text_of_word ?a_write_book ?l_write_book ?c_write_book ?k_write_book ?a_word_of_text ?l_word_of_text ?c_word_of_text ?k_word_of_text ?a_words_of_line ?l_words_of_line ?c_words_of_line ?k_words_of_line ?a_read_line ?l_read_line ?c_read_line ?k_read_line ?a_read_book ?l_read_book ?c_read_book ?k_read_book ?z_isinstance ?z_int ?z_bool ?z_str ?z_tuple ?z_list ?z_len ?z_enumerate ?z_sorted ?z_range ?z_zip ?z_sum ?z_reversed ?z_abs ?z_all ?m_MOST_PARTS ?m_MOST_LETTERS ?m_LETTERS ?m_SIGNS ?aCS ?exS ?hdS ?tyS ?hnC ?htC ?aENotText ?gaNotText ?ggNotText ?exNotText ?hdNotText ?tyNotText ?kpNotText ?haNotText ?hmNotText ?suNotText ?xiNotText ?kiNotText ?m_HEADS ?l_HEADS ?e_HEADS ?z_super ?aB ?xB ?gaB ?ggB ?exB ?hdB ?tyB ?kpB ?haB ?hmB ?suB ?saB ?no1B ?no2B ?iB ?tB ?veB ?supB ?ownB ?opq ?lI ?cI ?lcd ?vI ?fiI ?lcc ?topS ?kitB ?a_law ?l_law ?c_law ?k_law
    (case a_taken => k_is)
    (case l_taken => k_is)
    (case c_taken => k_is)
    (case k_taken => k_is)
    (case a_pick => k_is)
    (case l_pick => k_is)
    (case c_pick => k_is)
    (case k_pick => k_is)
    (case a_branched => k_is)
    (case l_branched => k_is)
    (case c_branched => k_is)
    (case k_branched => k_is)
    (case a_word => k_is)
    (case l_word => k_is)
    (case c_word => k_is)
    (case k_word => k_is)
    (case a_book => k_is)
    (case l_book => k_is)
    (case c_book => k_is)
    (case k_book => k_is)
    (case a_grown => k_is)
    (case l_grown => k_is)
    (case c_grown => k_is)
    (case k_grown => k_is)
    (case a_word_text => k_is)
    (case l_word_text => k_is)
    (case c_word_text => k_is)
    (case k_word_text => k_is)
    (case a_alike => k_is)
    (case l_alike => k_is)
    (case c_alike => k_is)
    (case k_alike => k_is)
    (case a_is_integer => k_is)
    (case l_is_integer => k_is)
    (case c_is_integer => k_is)
    (case k_is_integer => k_is)
    (case a_is_word => k_is)
    (case l_is_word => k_is)
    (case c_is_word => k_is)
    (case k_is_word => k_is)
    (case a_has_book_form => k_is)
    (case l_has_book_form => k_is)
    (case c_has_book_form => k_is)
    (case k_has_book_form => k_is)
    (case a_check_book => k_is)
    (case l_check_book => k_is)
    (case c_check_book => k_is)
    (case k_check_book => k_is)
    (case a_letters_in => k_is)
    (case l_letters_in => k_is)
    (case c_letters_in => k_is)
    (case k_letters_in => k_is)
    (case a_next_letters => k_is)
    (case l_next_letters => k_is)
    (case c_next_letters => k_is)
    (case k_next_letters => k_is)
    (case a_ages_of_letters => k_is)
    (case l_ages_of_letters => k_is)
    (case c_ages_of_letters => k_is)
    (case k_ages_of_letters => k_is)
    (case a_first_ages => k_is)
    (case l_first_ages => k_is)
    (case c_first_ages => k_is)
    (case k_first_ages => k_is)
    (case a_text_of_word => k_is)
    (case l_text_of_word => k_is)
    (case c_text_of_word => k_is)
    (case k_text_of_word => k_is)
    (case a_write_book => k_is)
    (case l_write_book => k_is)
    (case c_write_book => k_is)
    (case k_write_book => k_is)
    (case a_word_of_text => k_is)
    (case l_word_of_text => k_is)
    (case c_word_of_text => k_is)
    (case k_word_of_text => k_is)
    (case a_words_of_line => k_is)
    (case l_words_of_line => k_is)
    (case c_words_of_line => k_is)
    (case k_words_of_line => k_is)
    (case a_read_line => k_is)
    (case l_read_line => k_is)
    (case c_read_line => k_is)
    (case k_read_line => k_is)
    (case a_read_book => k_is)
    (case l_read_book => k_is)
    (case c_read_book => k_is)
    (case k_read_book => k_is)
    (case z_isinstance => k_is)
    (case z_int => k_is)
    (case z_bool => k_is)
    (case z_str => k_is)
    (case z_tuple => k_is)
    (case z_list => k_is)
    (case z_len => k_is)
    (case z_enumerate => k_is)
    (case z_sorted => k_is)
    (case z_range => k_is)
    (case z_zip => k_is)
    (case z_sum => k_is)
    (case z_reversed => k_is)
    (case z_abs => k_is)
    (case z_all => k_is)
    (case m_MOST_PARTS => k_is)
    (case m_MOST_LETTERS => k_is)
    (case m_LETTERS => k_is)
    (case m_SIGNS => k_is)
    (case aCS => k_is)
    (case exS => k_is)
    (case hdS => k_is)
    (case tyS => k_is)
    (case hnC => k_is)
    (case htC => k_is)
    (case aENotText => k_is)
    (case gaNotText => k_is)
    (case ggNotText => k_is)
    (case exNotText => k_is)
    (case hdNotText => k_is)
    (case tyNotText => k_is)
    (case kpNotText => k_is)
    (case haNotText => k_is)
    (case hmNotText => k_is)
    (case suNotText => k_is)
    (case xiNotText => first | k_exc | k_is | first | kernel_rfl | decide +kernel)
    (case kiNotText => first | kernel_rfl | decide +kernel)
    (case m_HEADS => k_is)
    (case l_HEADS => k_is)
    (case e_HEADS => exact ⟨rfl, rfl⟩)
    (case z_super => k_is)
    (case aB => k_is)
    (case xB => k_is)
    (case gaB => k_is)
    (case ggB => k_is)
    (case exB => k_is)
    (case hdB => k_is)
    (case tyB => k_is)
    (case kpB => k_is)
    (case haB => k_is)
    (case hmB => k_is)
    (case suB => k_is)
    (case saB => k_is)
    (case no1B => k_is)
    (case no2B => k_is)
    (case iB => k_is)
    (case tB => k_is)
    (case veB => k_is)
    (case supB => first | ks_is | kernel_rfl)
    (case ownB => k_is)
    (case opq => k_is)
    (case lI => k_is)
    (case cI => k_is)
    (case lcd => k_is)
    (case vI => exact rfl)
    (case fiI => decide +kernel)
    (case lcc => k_is)
    (case topS => decide +kernel)
    (case kitB => first | kernel_rfl | decide +kernel)
    (case a_law => k_is)
    (case l_law => k_is)
    (case c_law => k_is)
    (case k_law => k_is)
#print axioms PySem.Challenge.cw_strokeonce_k00_whole_books_as_text_holds
