import PyProof.Rows.All
import Wide.All
import OpenK.AllK
import Wide.FinOn
import PyProof.Rows.SortShellAny
import HandS.Base
import HandS.Call
import HandS.List
import HandS.Comp
import HandS.Iter
import HandS.Text
import HandS.StrMore
import HandS.Star
import HandS.More
import HandS.TupMul
import HandS.TupAny
import HandS.Flow
import HandS.IsInst
import HandS.Dict
import HandS.Words
import HandS.Exc
import HandS.Defaults
import HandS.Head0
import HandS.Head1
import HandS.Head2
import HandS.HeadEnd
import HandS.HeadHook1
import HandS.HeadHook2
import HandS.HeadHook3
import HandS.Codes
import HandS.WordsExc
import PySem.Challenge.RW_leaveledger_k09_walks_written
set_option linter.all false
/-! Dqw: words, plain. -/
namespace Dq
def LET : List Nat := [97, 98, 99, 100, 101, 102, 103, 104, 105, 106, 107, 108, 109, 110, 111, 112, 113, 114, 115, 116, 117, 118, 119, 120, 121, 122]
def LDG : List Nat := [97, 98, 99, 100, 101, 102, 103, 104, 105, 106, 107, 108, 109, 110, 111, 112, 113, 114, 115, 116, 117, 118, 119, 120, 121, 122, 48, 49, 50, 51, 52, 53, 54, 55, 56, 57]
def DIG : List Nat := [48, 49, 50, 51, 52, 53, 54, 55, 56, 57]
def RES : List (List Nat) := [[97, 115, 107, 101, 114], [103, 114, 111, 117, 112], [116, 104, 105, 110, 103], [98, 97, 100, 103, 101], [116, 97, 103], [110, 117, 109, 98, 101, 114], [102, 108, 97, 103], [97, 115, 107, 101, 100], [97, 99, 116, 105, 111, 110], [100, 117, 116, 121], [116, 105, 101], [110, 101, 118, 101, 114], [119, 97, 108, 107], [119, 104, 101, 110], [114, 111, 108, 101], [103, 97, 116, 101], [108, 101, 116], [98, 97, 114], [111, 110], [102, 114, 111, 109], [116, 111], [98, 121], [105, 115], [109, 97, 121], [114, 97, 110, 107], [100, 117, 101], [97, 110, 100], [111, 114], [110, 111, 116], [97, 108, 119, 97, 121, 115], [110, 111, 119], [97, 115, 107], [97, 110, 121], [116, 97, 98, 108, 101], [102, 105, 110, 97, 108], [110, 111, 100, 101], [114, 117, 108, 101]]
def good (n : List Nat) : Bool := decide (1 ≤ n.length) && (decide (n.length ≤ 8) && ((!(n.take 2 == [122, 122])) && ((!RES.contains n) && ((match n with
  | [] => false
  | c :: _ => decide (c ∈ LET)) && n.all fun c => decide (c ∈ LDG)))))
def num (w : List Nat) : Int := w.foldl (fun (a : Int) (c : Nat) => a * 10 + ((c : Int) - 48)) 0
def goodN (w : List Nat) : Bool := (decide (1 ≤ w.length) && decide (w.length ≤ 4)) && ((w.all fun c => decide (c ∈ DIG)) && (decide (w = [48]) || !(w.take 1 == [48])))
theorem good_in {n : List Nat} (h : good n = true) : ∀ c ∈ n, c ∈ LDG := by
  unfold good at h
  simp only [Bool.and_eq_true, List.all_eq_true, decide_eq_true_eq] at h
  exact h.2.2.2.2.2
theorem good_res {n : List Nat} (h : good n = true) : n ∉ RES := by
  unfold good at h
  simp only [Bool.and_eq_true, Bool.not_eq_true'] at h
  intro m
  have z := h.2.2.2.1
  rw [List.contains_iff_mem.mpr m] at z
  cases z
theorem good_len {n : List Nat} (h : good n = true) : 1 ≤ n.length ∧ n.length ≤ 8 := by
  unfold good at h
  simp only [Bool.and_eq_true, decide_eq_true_eq] at h
  exact ⟨h.1, h.2.1⟩
theorem ldg_no : ∀ c ∈ LDG, c ≠ 46 ∧ c ≠ 40 ∧ c ≠ 32 ∧ c < 128 := by decide
theorem good_ne {n w : List Nat} (h : good n = true) (hw : w ∈ RES ∨ ∃ c ∈ w, c ∉ LDG) : n ≠ w := by
  rintro rfl
  rcases hw with m | ⟨c, m, k⟩
  · exact good_res h m
  · exact k (good_in h c m)
structure RS where
  pos : Nat
  bad : Bool
  z : Nat
def see (ws : List (List Nat)) (s : RS) : List Nat := (ws[s.pos]?).getD []
def RS.on (s : RS) (k : Nat) : RS := { s with pos := s.pos + k }
def RS.fail (s : RS) : RS := { s with bad := true }
def take (ws : List (List Nat)) (s : RS) (w : List Nat) : RS := if s.bad = false ∧ see ws s = w then s.on 1 else s.fail
def takeName (ws : List (List Nat)) (s : RS) : List Nat × RS := if s.bad = true ∨ good (see ws s) = false then ([], s.fail) else (see ws s, s.on 1)
def takeNum (ws : List (List Nat)) (s : RS) : Int × RS := if s.bad = true ∨ goodN (see ws s) = false then (0, s.fail) else (num (see ws s), s.on 1)
def takeNumR (ws : List (List Nat)) (s : RS) (lo hi : Int) : Int × RS := if s.bad = true ∨ goodN (see ws s) = false ∨ ¬ (lo ≤ num (see ws s) ∧ num (see ws s) ≤ hi) then (0, s.fail) else (num (see ws s), s.on 1)
theorem num_to : ∀ (k : Nat) (w : List Nat), w.length = k → (∀ c ∈ w, c ∈ DIG) → 0 ≤ num w ∧ num w < 10 ^ k := by
  intro k
  induction k with
  | zero =>
    intro w h _
    rw [List.length_eq_zero_iff.mp h]
    exact ⟨by decide, by decide⟩
  | succ k ih =>
    intro w h hd
    have hne : w ≠ [] := by
      rintro rfl
      cases h
    rw [← List.dropLast_concat_getLast hne] at hd
    have h1 := ih w.dropLast (by rw [List.length_dropLast, h]; rfl) fun c hc => hd c (List.mem_append_left _ hc)
    have h2 := hd (w.getLast hne) (by simp)
    have e : num w = num w.dropLast * 10 + ((w.getLast hne : Int) - 48) := by
      conv => lhs; rw [← List.dropLast_concat_getLast hne]
      unfold num
      rw [List.foldl_append, List.foldl_cons, List.foldl_nil]
    have h3 : 48 ≤ w.getLast hne ∧ w.getLast hne ≤ 57 := (by decide : ∀ c ∈ DIG, 48 ≤ c ∧ c ≤ 57) _ h2
    rw [Int.pow_succ]
    omega
theorem goodN_num {w : List Nat} (h : goodN w = true) : 0 ≤ num w ∧ num w ≤ 9999 := by
  unfold goodN at h
  simp only [Bool.and_eq_true, decide_eq_true_eq, List.all_eq_true] at h
  obtain ⟨⟨h1, h2⟩, h3, h4⟩ := h
  have := num_to w.length w rfl h3
  have h5 : w.length = 1 ∨ w.length = 2 ∨ w.length = 3 ∨ w.length = 4 := by omega
  rcases h5 with e | e | e | e <;> rw [e] at this <;> omega
theorem takeNumR_all (ws : List (List Nat)) (s : RS) : takeNumR ws s 0 9999 = takeNum ws s := by
  unfold takeNumR takeNum
  by_cases h1 : s.bad = true
  · rw [if_pos (.inl h1), if_pos (.inl h1)]
  · cases h2 : goodN (see ws s) with
    | false => rw [if_pos (.inr (.inl rfl)), if_pos (.inr rfl)]
    | true =>
      have := goodN_num h2
      rw [if_neg (by rintro (a | a | a); exact h1 a; cases a; exact a this), if_neg (by rintro (a | a); exact h1 a; cases a)]
end Dq

set_option Elab.async false
set_option linter.all false
set_option maxRecDepth 100000
set_option maxHeartbeats 4000000
/-! DqS: sorted of texts that stand in a list or a tuple, of any length. -/
namespace Dq
open PySem PySem.Spec PyProof.Rows L2
section
variable {prog : Program} {w : World} {A : Around} {E : Value → Shared → Prop} {s : Shared}
theorem collect_tup {l : Addr} {vs : List Value} {Q : List Value → Shared → Prop} (hl : s.heap.IsTuple l vs.toArray)
    (h : Q vs { s with heap := (s.heap.push (seqObj "list" #[] 0)).update s.heap.objs.size (Obj.mapSeq (· ++ vs.toArray)) }) (hsz : vs.length ≤ sizeLine) :
    wpAny (model prog w) A (collect (.ref l)) Q E s := by
  obtain ⟨o, ho, hc, n, hd⟩ := id hl
  unfold collect
  refine wpAny_bind (wpAny_runValue (codeAny_builtin entry_proto_collect' ?_))
  show wpAny _ _ (do again (.builtin "list.__iadd__" ⟨[← newList [], .ref l], []⟩)) _ _ s
  refine wpAny_bind (wpAny_newList (wpAny_pure ⟨Code.quiet_builtin _ (by decide +kernel), codeAny_builtin entry_list_iadd' ?_⟩))
  show wpAny _ _ (Builtin.List.listExtendWith (.ref s.heap.objs.size) (.ref l) (.ref s.heap.objs.size)) _ _ { s with heap := s.heap.push (seqObj "list" #[] 0) }
  unfold Builtin.List.listExtendWith
  have ho' : (s.heap.push (seqObj "list" #[] 0)).get? l = some o := Heap.get?_push_of_some _ ho
  refine wpAny_bind (wpAny_typeOf (T := "tuple") ⟨o, ho', hc⟩ ?_)
  have ht : (Value.type "tuple" == Value.type "tuple") = true := by rfl
  rw [if_pos (by rw [ht]; simp)]
  refine wpAny_bind (listItems_at ho' hd ?_)
  refine wpAny_bind (listItems_at (xs := #[]) (n := 0) (Heap.get?_push_size _ rfl) rfl ?_)
  rw [if_neg (by simp)]
  refine wpAny_bind (listUpdate_at (xs := #[]) (n := 0) (Heap.get?_push_size _ rfl) rfl ?_ (Nat.zero_le _) (by show (#[] ++ vs.toArray).size ≤ sizeLine + 1; simp only [Array.size_append, List.size_toArray, List.length_nil]; omega))
  refine wpAny_pure ?_
  show wpAny (model prog w) A (do
      let o ← load s.heap.objs.size
      match o.data with
      | .seq xs _ => pure xs.toList
      | _ => unsupported "internal:collect") Q E { s with heap := (s.heap.push (seqObj "list" #[] 0)).update s.heap.objs.size (Obj.mapSeq (· ++ vs.toArray)) }
  refine wpAny_bind (wpAny_load (get?_update_seq (Heap.get?_push_size _ rfl) _) ?_)
  show wpAny _ _ (pure ((#[] : Array Value) ++ vs.toArray).toList) Q E _
  rw [show ((#[] : Array Value) ++ vs.toArray).toList = vs by simp]
  exact wpAny_pure h
theorem sortedKAnyT {κ : KeyKind} (hO : κ.OneLt) {l : Addr} {vs : List Value} {Q : Value → Shared → Prop} (hl : s.heap.IsTuple l vs.toArray) (h0 : KeysOf κ (pairsOf vs)) (hkk : ∀ v₁ v₂ rest, vs = v₁ :: v₂ :: rest → keyKind' (v₁ :: v₂ :: rest).toArray = pure oneType') (hL : vs.length ≤ sizeLine)
    (h : ∀ st' : SortSt, (arrOf st').Perm (pairsOf vs) → SortedToK κ (arrOf st') (pairsOf vs).size → Q (.ref (s.heap.objs.size + 1)) { s with heap := sortedAll s.heap vs ((arrOf st').map (·.2)) }) :
    wpAny (model prog w) A (call (.builtin "sorted") [.ref l]) Q E s := by
  refine Calls.call_function_entry kind_sorted plain_sorted entry_sorted (args_sorted1 _) ?_
  unfold Builtin.«sorted»
  refine wpAny_bind (m := checkCount "sorted" 1 1 _) (wpAny_pure ?_)
  refine wpAny_bind (collect_tup hl ?_ hL)
  refine wpAny_bind (wpAny_newList ?_)
  have hsz : ((s.heap.push (seqObj "list" #[] 0)).update s.heap.objs.size (Obj.mapSeq (· ++ vs.toArray))).objs.size = s.heap.objs.size + 1 := by
    rw [Heap.size_update, size_push']
  have hoL : (((s.heap.push (seqObj "list" #[] 0)).update s.heap.objs.size (Obj.mapSeq (· ++ vs.toArray))).push (seqObj "list" vs.toArray 0)).get? (s.heap.objs.size + 1) = some (seqObj "list" vs.toArray 0) := by
    rw [← hsz]; exact Heap.get?_push_size _ rfl
  show wpAny _ _ _ _ _ { s with heap := ((s.heap.push (seqObj "list" #[] 0)).update s.heap.objs.size (Obj.mapSeq (· ++ vs.toArray))).push (seqObj "list" vs.toArray 0) }
  rw [hsz]
  refine wpAny_bind (wpAny_holding (wpAny_call_entry slot_list_sort ⟨_, hoL, rfl⟩ entry_list_sort (list_sort_treeKAny hO hoL h0 hkk hL fun st' a1 a2 => ⟨_, rfl, ?_⟩) (args_list_sort _)))
  exact wpAny_pure ⟨_, rfl, h st' a1 a2⟩
theorem sorted_strsT {l : Addr} {vs : List Value} {ss : List Str} {Q : Value → Shared → Prop} (hl : s.heap.IsTuple l vs.toArray) (hS : StrsAre vs ss) (hL : vs.length ≤ sizeLine)
    (h : ∀ (out : Array Value) (ss' : List Str), StrsAre out.toList ss' → ss'.Perm ss → sortedS ss' = true → Q (.ref (s.heap.objs.size + 1)) { s with heap := sortedAll s.heap vs out }) :
    wpAny (model prog w) A (call (.builtin "sorted") [.ref l]) Q E s := by
  refine sortedKAnyT strKind_oneLt hl hS.keysOf (fun v₁ v₂ rest e => keyKind_strs (by rw [← e]; exact hS)) hL fun st' hp hs => ?_
  obtain ⟨ss', h1, h2, h3⟩ := sorted_out_str hS hp hs
  exact h _ ss' h1 h2 h3
end
variable {X : Cx}
def rSrt (K : PySem.W.Frag) : List V → Hp → VK → Prop := fun vs H Q => ∃ (a : Addr) (xs : List Str), vs = [V.ref a] ∧ (SqL K H a (xs.map V.str) ∨ SqT K H a (xs.map V.str)) ∧ xs.length ≤ sizeLine ∧
  ∀ (ys : List Str) (p : Addr), ys.Perm xs → sortedS ys = true → H p = none → Q (.ref p) (upd H p (.lst (ys.map V.str)))
theorem cr_srt : CallR X (.builtin "sorted") (rSrt X.K) := by
  intro pins s σ H vs us Q I r h
  obtain ⟨a, xs, rfl, hs, hz, q⟩ := h
  rcases hs with hs | hs
  · obtain ⟨its, rv, hl, _⟩ := I.list hs
    rw [Vals.ref1 r]
    have hlen0 := rv.length
    rw [List.length_map] at hlen0
    refine PyProof.Rows.sorted_strsAny hl.isList rv.strs (by rw [← hlen0]; exact hz) fun out ys h1 h2 h3 => ?_
    obtain ⟨ep, he'⟩ := PyProof.Rows.sortedAll_at s.heap its out
    have hlen : (ys.map V.str).length ≤ sizeLine := by rw [List.length_map, h2.length_eq]; exact hz
    exact ⟨.ref _, upd H (s.heap.objs.size + 1) (.lst (ys.map V.str)), I.laid (t' := s.toks) (fun _ _ => PyProof.Rows.sortedAll_old) (Nat.le_succ _) ⟨hlen, out.toList, ep, vals_of_strs h1, he'⟩, rfl, q ys _ h2 h3 (I.hok.fresh (Nat.le_succ _))⟩
  · obtain ⟨its, rv, hl, _⟩ := I.tuple hs
    rw [Vals.ref1 r]
    have hlen0 := rv.length
    rw [List.length_map] at hlen0
    refine sorted_strsT hl rv.strs (by rw [← hlen0]; exact hz) fun out ys h1 h2 h3 => ?_
    obtain ⟨ep, he'⟩ := PyProof.Rows.sortedAll_at s.heap its out
    have hlen : (ys.map V.str).length ≤ sizeLine := by rw [List.length_map, h2.length_eq]; exact hz
    exact ⟨.ref _, upd H (s.heap.objs.size + 1) (.lst (ys.map V.str)), I.laid (t' := s.toks) (fun _ _ => PyProof.Rows.sortedAll_old) (Nat.le_succ _) ⟨hlen, out.toList, ep, vals_of_strs h1, he'⟩, rfl, q ys _ h2 h3 (I.hok.fresh (Nat.le_succ _))⟩
end Dq

set_option Elab.async false
set_option linter.all false
set_option maxRecDepth 100000
set_option maxHeartbeats 2000000
/-! Dq0: data, stores, a small language and what its runs want. -/
namespace Dq
open PySem PySem.Spec PyProof.Rows L2

/-! ### data: tuples by value, lists that change by their place in a store -/
inductive D where
  | non
  | bl (b : Bool)
  | int (i : Int)
  | str (s : List Nat)
  | tup (ws : List D)
  | flst (ws : List D)
  | loc (n : Nat)
  | fn (k : Nat)
  | dic (ks : List (List Nat)) (ws : List D)

inductive Cell where
  | lst (ws : List D)

abbrev Sto := List Cell
abbrev En := List (Option D)
abbrev DK := D → Sto → Prop
abbrev EK := En → Sto → Prop

/-! ### the language -/
inductive Bt where
  | len | abs | max | min | int | str | tuple | list | all | any | sorted | set | sum | bool
inductive Mt where
  | join | split | partition | startswith | endswith | upper | removeprefix
  | append | pop | extend | insert
inductive Ty where
  | int | str | bool | tuple
mutual
inductive E where
  | var (i : Nat)
  | cst (w : D)
  | glob (k : Nat)
  | bin (op : Operator) (a b : E)
  | neg (a : E)
  | cmp (op : CmpOp) (a b : E)
  | chain (o p : CmpOp) (a b c : E)
  | band (a b : E)
  | bor (a b : E)
  | bnot (a : E)
  | ife (c : Te) (a b : E)
  | tup (es : Es)
  | lst (es : Es)
  | idx (a b : E)
  | slc (a : E) (lo hi : Eo)
  | call (f : Nat) (es : Es)
  | blt (f : Bt) (es : Es)
  | isi (a : E) (t : Ty)
  | dget (o a b : E)
  | dsel (ks : List (List Nat)) (ws : List D) (e : E)
  | mth (m : Mt) (o : E) (es : Es)
  | comp (own : List Nat) (elt : E) (t : T) (it : I) (c : Teo)
inductive Eo where
  | no
  | yes (e : E)
inductive Es where
  | nil
  | cons (e : E) (es : Es)
  | star (e : E) (es : Es)
inductive Te where
  | val (e : E)
  | tst (e : E)
  | and_ (a b : Te)
  | or_ (a b : Te)
  | not_ (a : Te)
inductive Teo where
  | no
  | yes (e : Te)
inductive T where
  | name (i : Nat)
  | tup (ts : Ts)
  | sub (o i : E)
inductive Ts where
  | nil
  | cons (t : T) (ts : Ts)
inductive I where
  | exp (e : E)
  | range1 (a : E)
  | range2 (a b : E)
end
mutual
inductive S where
  | expr (e : E)
  | asg (t : T) (e : E)
  | aug (i : Nat) (op : Operator) (e : E)
  | augs (o i : E) (op : Operator) (e : E)
  | ret (e : E)
  | retn
  | ite (c : Te) (a b : Ss)
  | while_ (c : Te) (b : Ss)
  | for_ (t : T) (it : I) (b : Ss)
  | brk
  | cont
  | pass
inductive Ss where
  | nil
  | cons (s : S) (ss : Ss)
end

/-- plain data -/
def immD : D → Bool
  | .non => true
  | .bl _ => true
  | .int _ => true
  | .str _ => true
  | _ => false
mutual
/-- the slots that a target stores to -/
def slT : T → List Nat
  | .name i => [i]
  | .tup ts => slTs ts
  | .sub _ _ => []
def slTs : Ts → List Nat
  | .nil => []
  | .cons t ts => slT t ++ slTs ts
end
def lenTs : Ts → Nat
  | .nil => 0
  | .cons _ ts => lenTs ts + 1
/-! ### what the small steps want -/
def truW (st : Sto) : D → (Bool → Prop) → Prop
  | .non, Q => Q false
  | .bl b, Q => Q b
  | .int i, Q => Q (i != 0)
  | .str s, Q => s.length ≤ sizeLine ∧ Q (!s.isEmpty)
  | .tup ws, Q => Q (!ws.isEmpty)
  | .flst ws, Q => Q (!ws.isEmpty)
  | .loc n, Q => ∃ ws, st[n]? = some (.lst ws) ∧ Q (!ws.isEmpty)
  | .fn _, _ => False
  | .dic _ _, _ => False
def lenW (st : Sto) : D → (Nat → Prop) → Prop
  | .str s, Q => s.length ≤ sizeLine ∧ Q s.length
  | .tup ws, Q => Q ws.length
  | .flst ws, Q => Q ws.length
  | .loc n, Q => ∃ ws, st[n]? = some (.lst ws) ∧ Q ws.length
  | _, _ => False
def dicL (ks : List (List Nat)) (ws : List D) (k : List Nat) : Option D := (ks.zip ws).lookup k
def idxW (st : Sto) : D → D → (D → Prop) → Prop
  | .dic ks ws, .str k, Q => ∃ w, dicL ks ws k = some w ∧ Q w
  | .str s, .int i, Q => s.length ≤ sizeLine ∧ ∃ c, atI s i = some c ∧ Q (.str [c])
  | .tup ws, .int i, Q => ∃ w, atI ws i = some w ∧ Q w
  | .flst ws, .int i, Q => ∃ w, atI ws i = some w ∧ Q w
  | .loc n, .int i, Q => ∃ ws, st[n]? = some (.lst ws) ∧ ∃ w, atI ws i = some w ∧ Q w
  | _, _, _ => False
def dselOk (ks : List (List Nat)) (ws : List D) : Bool := decide (ks ≠ []) && (decide (ks.length ≤ 15) && (decide (ks.length = ws.length) && (decide ks.Nodup && ws.all immD)))
def cutL {α : Type} (xs : List α) (lo hi : Option Int) : List α := (xs.drop (HT.sIx xs.length 0 lo)).take (HT.sIx xs.length xs.length hi - HT.sIx xs.length 0 lo)
def slcW (st : Sto) : D → Option Int → Option Int → DK → Prop
  | .str s, lo, hi, Q => s.length ≤ sizeLine ∧ Q (.str (cutL s lo hi)) st
  | .loc n, lo, hi, Q => ∃ ws, st[n]? = some (.lst ws) ∧ Q (.loc st.length) (st ++ [.lst (cutL ws lo hi)])
  | .flst ws, lo, hi, Q => Q (.loc st.length) (st ++ [.lst (cutL ws lo hi)])
  | .tup ws, lo, hi, Q => Q (.tup (cutL ws lo hi)) st
  | _, _, _, _ => False
def binW (st : Sto) : Operator → D → D → DK → Prop
  | .Add, .int i, .int j, Q => Q (.int (i + j)) st
  | .Add, .str a, .str b, Q => a.length + b.length ≤ sizeLine ∧ Q (.str (a ++ b)) st
  | .Add, .loc m, .loc n, Q => ∃ xs ys, st[m]? = some (.lst xs) ∧ st[n]? = some (.lst ys) ∧ xs.length + ys.length ≤ sizeLine ∧ Q (.loc st.length) (st ++ [.lst (xs ++ ys)])
  | .Add, .tup xs, .tup ys, Q => xs.length + ys.length ≤ sizeLine ∧ Q (.tup (xs ++ ys)) st
  | .Sub, .int i, .int j, Q => Q (.int (i - j)) st
  | .Mult, .tup xs, .int j, Q => xs ≠ [] ∧ 2 ≤ j ∧ j ≤ 1000 ∧ xs.length ≤ 1000 ∧ Q (.tup (List.replicate j.toNat xs).flatten) st
  | .Mult, .int i, .int j, Q => CMul i j ∧ Q (.int (i * j)) st
  | .FloorDiv, .int i, .int j, Q => CDiv i j ∧ Q (.int (i / j)) st
  | .Mod, .int i, .int j, Q => 0 < j ∧ Q (.int (i % j)) st
  | .Pow, .int i, .int j, Q => CPow i j ∧ Q (.int (i ^ j.toNat)) st
  | .LShift, .int i, .int j, Q => CPow i j ∧ Q (.int (i * 2 ^ j.toNat)) st
  | _, _, _, _ => False
/-- flat: no part of its own -/
def flatD : D → Bool
  | .non => true
  | .bl _ => true
  | .int _ => true
  | .str _ => true
  | _ => false
def eqF : D → D → Bool
  | .non, .non => true
  | .bl a, .bl b => a == b
  | .bl a, .int b => (if a then 1 else 0) == b
  | .int a, .bl b => a == (if b then 1 else 0)
  | .int a, .int b => a == b
  | .str a, .str b => a == b
  | _, _ => false
/-- the pairs of flat data that the plain rule of == takes -/
def scalD : D → D → Bool
  | .bl _, .int _ => false
  | .int _, .bl _ => false
  | x, y => flatD x && flatD y
/-- data as the library has it, lists looked up -/
def pdAll (f : D → Option PyData) : List D → Option (List PyData)
  | [] => some []
  | w :: ws => (f w).bind fun d => (pdAll f ws).map fun ds => d :: ds
def pd (st : Sto) : Nat → D → Option PyData
  | 0, _ => none
  | _ + 1, .non => some .none
  | _ + 1, .bl b => some (.bool b)
  | _ + 1, .int i => some (.int i)
  | _ + 1, .str s => some (.str ⟨s.toArray⟩)
  | k + 1, .tup ws => (pdAll (pd st k) ws).map .tuple
  | k + 1, .flst ws => (pdAll (pd st k) ws).map .list
  | k + 1, .loc n => match st[n]? with
    | some (.lst ws) => (pdAll (pd st k) ws).map .list
    | none => none
  | _ + 1, .fn _ => none
  | _ + 1, .dic _ _ => none
def eqW (st : Sto) (x y : D) (Q : Bool → Prop) : Prop :=
  (scalD x y = true ∧ Q (eqF x y)) ∨ ∃ k d e, pd st k x = some d ∧ pd st k y = some e ∧ SeqAt.shaped d = true ∧ SeqAt.shaped e = true ∧ Q (PyData.eqv d e)
def inW (st : Sto) (x : D) : D → (Bool → Prop) → Prop
  | .dic ks _, Q => ∃ k, x = .str k ∧ Q (decide (k ∈ ks))
  | .str s, Q => ∃ c, x = .str [c] ∧ Q (decide (c ∈ s))
  | .tup ws, Q => flatD x = true ∧ ws.all flatD = true ∧ Q (ws.any fun y => eqF y x)
  | .flst ws, Q => flatD x = true ∧ ws.all flatD = true ∧ Q (ws.any fun y => eqF y x)
  | .loc n, Q => ∃ ws, st[n]? = some (.lst ws) ∧ flatD x = true ∧ ws.all flatD = true ∧ Q (ws.any fun y => eqF y x)
  | _, _ => False
def isNonD : D → Bool
  | .non => true
  | _ => false
/-- op= of a name or a place of a list: what changes no list -/
def augW (st : Sto) : Operator → D → D → DK → Prop
  | .Add, .int i, .int j, Q => Q (.int (i + j)) st
  | .Add, .str a, .str b, Q => a.length + b.length ≤ sizeLine ∧ Q (.str (a ++ b)) st
  | .Sub, .int i, .int j, Q => Q (.int (i - j)) st
  | _, _, _, _ => False
def idlW (st : Sto) : D → D → (D → Prop) → Prop
  | .loc n, .int i, Q => ∃ ws, st[n]? = some (.lst ws) ∧ ∃ w, atI ws i = some w ∧ Q w
  | _, _, _ => False
def cmpW (st : Sto) : CmpOp → D → D → (Bool → Prop) → Prop
  | .Eq, x, y, Q => eqW st x y Q
  | .NotEq, x, y, Q => eqW st x y fun b => Q (!b)
  | .Lt, .int i, .int j, Q => Q (decide (i < j))
  | .LtE, .int i, .int j, Q => Q (decide (i ≤ j))
  | .Gt, .int i, .int j, Q => Q (decide (j < i))
  | .GtE, .int i, .int j, Q => Q (decide (j ≤ i))
  | .Lt, .str i, .str j, Q => Q (decide (i < j))
  | .In, x, y, Q => inW st x y Q
  | .NotIn, x, y, Q => inW st x y fun b => Q (!b)
  | .Is, x, .non, Q => Q (isNonD x)
  | .IsNot, x, .non, Q => Q (!isNonD x)
  | _, _, _, _ => False
/-- isinstance -/
def Ty.nm : Ty → String
  | .int => "int"
  | .str => "str"
  | .bool => "bool"
  | .tuple => "tuple"
def isiB : D → Ty → Option Bool
  | .bl _, t => some (match t with | .bool => true | .int => true | _ => false)
  | .int _, t => some (match t with | .int => true | _ => false)
  | .str _, t => some (match t with | .str => true | _ => false)
  | .tup _, t => some (match t with | .tuple => true | _ => false)
  | .non, _ => some false
  | _, _ => none
def strI (i : Int) : List Nat := (Str.ofString (toString i)).cps.toList
def sv (s : List Nat) : Str := ⟨s.toArray⟩
def splitL (s t : List Nat) : List (List Nat) := (Txt.split (sv s) (sv t)).map fun x => x.cps.toList
/-- the texts of a list or a tuple -/
def strsOf (st : Sto) : D → (List (List Nat) → Prop) → Prop
  | .loc n, Q => ∃ ss : List (List Nat), st[n]? = some (.lst (ss.map .str)) ∧ Q ss
  | .tup ws, Q => ∃ ss : List (List Nat), ws = ss.map .str ∧ Q ss
  | _, _ => False
def bltW (st : Sto) : Bt → List D → DK → Prop
  | .sorted, [x], Q => strsOf st x fun ss => ss.length ≤ sizeLine ∧ ∀ ys : List (List Nat), ys.Perm ss → PyProof.Rows.sortedS (ys.map sv) = true → Q (.loc st.length) (st ++ [.lst (ys.map .str)])
  | .str, [.int i], Q => i.natAbs.log2 < 1920 ∧ Q (.str (strI i)) st
  | .int, [.str s], Q => ∃ n, PySem.intText? (sv s) = some n ∧ s.length ≤ 640 ∧ Q (.int n) st
  | .len, [x], Q => lenW st x fun n => Q (.int n) st
  | .abs, [.int i], Q => Q (.int (if i < 0 then -i else i)) st
  | .max, [.int i, .int j], Q => Q (.int (if j > i then j else i)) st
  | .min, [.int i, .int j], Q => Q (.int (if j < i then j else i)) st
  | .int, [.int i], Q => Q (.int i) st
  | .int, [.bl k], Q => Q (.int (if k then 1 else 0)) st
  | .tuple, [.loc n], Q => ∃ ws, st[n]? = some (.lst ws) ∧ Q (.tup ws) st
  | .tuple, [.tup ws], Q => Q (.tup ws) st
  | .list, [.tup ws], Q => Q (.loc st.length) (st ++ [.lst ws])
  | .list, [.flst ws], Q => Q (.loc st.length) (st ++ [.lst ws])
  | .list, [.loc n], Q => ∃ ws, st[n]? = some (.lst ws) ∧ Q (.loc st.length) (st ++ [.lst ws])
  | .all, [.loc n], Q => ∃ bs : List Bool, st[n]? = some (.lst (bs.map .bl)) ∧ Q (.bl (bs.all id)) st
  | .any, [.loc n], Q => ∃ bs : List Bool, st[n]? = some (.lst (bs.map .bl)) ∧ Q (.bl (bs.any id)) st
  | _, _, _ => False
/-- what the receiver of a method is -/
def mthTy (st : Sto) : Mt → D → Prop
  | .join, x => ∃ s, x = .str s
  | .split, x => ∃ s, x = .str s
  | .partition, x => ∃ s, x = .str s
  | .startswith, x => ∃ s, x = .str s
  | .endswith, x => ∃ s, x = .str s
  | .upper, x => ∃ s, x = .str s
  | .removeprefix, x => ∃ s, x = .str s
  | _, x => ∃ n ws, x = .loc n ∧ st[n]? = some (.lst ws)
def mthW (st : Sto) : Mt → D → List D → DK → Prop
  | .extend, .loc n, [.loc m], Q => ∃ xs ys, st[n]? = some (.lst xs) ∧ st[m]? = some (.lst ys) ∧ xs.length + ys.length ≤ sizeLine ∧ Q .non (st.set n (.lst (xs ++ ys)))
  | .split, .str s, [.str t], Q => t.length ≠ 0 ∧ s.length + 2 ≤ sizeLine ∧ Q (.loc st.length) (st ++ [.lst ((splitL s t).map .str)])
  | .partition, .str s, [.str t], Q => t.length ≠ 0 ∧ s.length ≤ sizeLine ∧ Q (.tup [.str (Txt.partition (sv s) (sv t)).1.cps.toList, .str (Txt.partition (sv s) (sv t)).2.1.cps.toList, .str (Txt.partition (sv s) (sv t)).2.2.cps.toList]) st
  | .startswith, .str s, [.str t], Q => Q (.bl (Txt.startswith (sv s) (sv t))) st
  | .removeprefix, .str s, [.str t], Q => s.length ≤ sizeLine ∧ Q (.str (Txt.removeprefix (sv s) (sv t)).cps.toList) st
  | .append, .loc n, [w], Q => ∃ ws, st[n]? = some (.lst ws) ∧ ws.length < sizeLine ∧ Q .non (st.set n (.lst (ws ++ [w])))
  | .pop, .loc n, [], Q => ∃ ws w, st[n]? = some (.lst ws) ∧ ws[ws.length - 1]? = some w ∧ Q w (st.set n (.lst ws.dropLast))
  | .join, .str s, [.loc n], Q => ∃ ss : List (List Nat), st[n]? = some (.lst (ss.map .str)) ∧ (ss.map (·.length)).sum + ss.length * s.length ≤ 16777216 ∧ Q (.str (TL.joinL s ss)) st
  | _, _, _, _ => False
/-- what a star spreads -/
def splW (st : Sto) : D → (List D → Prop) → Prop
  | .tup ws, Q => Q ws
  | .flst ws, Q => Q ws
  | .loc n, Q => ∃ ws, st[n]? = some (.lst ws) ∧ Q ws
  | _, _ => False
def setW (st : Sto) : D → D → D → (Sto → Prop) → Prop
  | .loc n, .int i, w, Q => ∃ ws j, st[n]? = some (.lst ws) ∧ ixN ws.length i = some j ∧ Q (st.set n (.lst (ws.set j w)))
  | _, _, _, _ => False
def wipeE (env : En) : List Nat → En
  | [] => env
  | v :: vs => (wipeE env vs).set v none
/-- a walked list that stands in the store stays as it is -/
def keepW (k : Option (Nat × List D)) (st : Sto) : Prop := match k with
  | none => True
  | some (n, ws) => st[n]? = some (.lst ws)
def seqW (st : Sto) : D → (List D → Option (Nat × List D) → Prop) → Prop
  | .str s, Q => Q (s.map fun c => .str [c]) none
  | .tup ws, Q => Q ws none
  | .flst ws, Q => Q ws none
  | .loc n, Q => ∃ ws, st[n]? = some (.lst ws) ∧ Q ws (some (n, ws))
  | _, _ => False
def compW (keep : Sto → Prop) (step : D → Sto → (Option D → Sto → Prop) → Prop) (Q : DK) : List D → List D → Sto → Prop
  | [], acc, st => keep st ∧ Q (.loc st.length) (st ++ [.lst acc])
  | w :: ws, acc, st => keep st ∧ step w st fun r st' => match r with
    | some x => acc.length < sizeLine ∧ compW keep step Q ws (acc ++ [x]) st'
    | none => compW keep step Q ws acc st'
def forW (keep : Sto → Prop) (step : D → En → Sto → EK → Prop) (Q : EK) : List D → EK
  | [], env, st => keep st ∧ Q env st
  | w :: ws, env, st => keep st ∧ step w env st (forW keep step Q ws)
def whileW (c : En → Sto → (Bool → Sto → Prop) → Prop) (step : En → Sto → EK → Prop) (Q : EK) : Nat → EK
  | 0, _, _ => False
  | n + 1, env, st => c env st fun b st' => if b = true then step env st' (whileW c step Q n) else Q env st'

abbrev Cal := Nat → List D → Sto → DK → Prop
section
variable (call : Cal) (cst : List D)
mutual
def wpE : E → En → Sto → DK → Prop
  | .var i, env, st, Q => ∃ w, env[i]? = some (some w) ∧ Q w st
  | .cst w, _, st, Q => immD w = true ∧ Q w st
  | .glob k, _, st, Q => ∃ w, cst[k]? = some w ∧ Q w st
  | .bin op a b, env, st, Q => wpE a env st fun x st1 => wpE b env st1 fun y st2 => binW st2 op x y Q
  | .neg a, env, st, Q => wpE a env st fun x st1 => ∃ i, x = .int i ∧ Q (.int (-i)) st1
  | .cmp op a b, env, st, Q => wpE a env st fun x st1 => wpE b env st1 fun y st2 => cmpW st2 op x y fun r => Q (.bl r) st2
  | .chain o p a b c, env, st, Q => wpE a env st fun x st1 => wpE b env st1 fun y st2 => cmpW st2 o x y fun r =>
      if r = true then wpE c env st2 fun z st3 => cmpW st3 p y z fun r => Q (.bl r) st3 else Q (.bl false) st2
  | .band a b, env, st, Q => wpE a env st fun x st1 => truW st1 x fun r => if r = true then wpE b env st1 Q else Q x st1
  | .bor a b, env, st, Q => wpE a env st fun x st1 => truW st1 x fun r => if r = true then Q x st1 else wpE b env st1 Q
  | .bnot a, env, st, Q => wpE a env st fun x st1 => truW st1 x fun r => Q (.bl (!r)) st1
  | .ife c a b, env, st, Q => wpT c env st fun r st1 => if r = true then wpE a env st1 Q else wpE b env st1 Q
  | .tup es, env, st, Q => wpEs es env st fun xs st1 => xs.length ≤ sizeLine ∧ Q (.tup xs) st1
  | .lst es, env, st, Q => wpEs es env st fun xs st1 => xs.length ≤ sizeLine ∧ Q (.loc st1.length) (st1 ++ [.lst xs])
  | .idx a b, env, st, Q => wpE a env st fun x st1 => wpE b env st1 fun y st2 => idxW st2 x y fun z => Q z st2
  | .slc a lo hi, env, st, Q => wpE a env st fun x st1 => wpEo lo env st1 fun l st2 => wpEo hi env st2 fun h st3 => slcW st3 x l h Q
  | .call f es, env, st, Q => wpEs es env st fun xs st1 => call f xs st1 Q
  | .blt f es, env, st, Q => wpEs es env st fun xs st1 => bltW st1 f xs Q
  | .isi a t, env, st, Q => wpE a env st fun x st1 => ∃ b, isiB x t = some b ∧ Q (.bl b) st1
  | .dget o a b, env, st, Q => wpE o env st fun x st1 => ∃ ks ws, x = .dic ks ws ∧ wpE a env st1 fun y st2 => wpE b env st2 fun z st3 => ∃ k, y = .str k ∧ ((∃ w, dicL ks ws k = some w ∧ Q w st3) ∨ (dicL ks ws k = none ∧ Q z st3))
  | .dsel ks ws e, env, st, Q => dselOk ks ws = true ∧ wpE e env st fun x st1 => ∃ k w, x = .str k ∧ dicL ks ws k = some w ∧ Q w st1
  | .mth m o es, env, st, Q => wpE o env st fun x st1 => mthTy st1 m x ∧ wpEs es env st1 fun xs st2 => mthW st2 m x xs Q
  | .comp own elt t it c, env, st, Q => (slT t).all (own.contains ·) = true ∧ wpI it env st fun ws keep st1 => compW (keepW keep)
      (fun w st K => wpTg t w (wipeE env own) st fun env2 st2 => wpTeo c env2 st2 fun r st3 => if r = true then wpE elt env2 st3 fun x st4 => K (some x) st4 else K none st3) Q ws [] st1
def wpEo : Eo → En → Sto → (Option Int → Sto → Prop) → Prop
  | .no, _, st, Q => Q none st
  | .yes e, env, st, Q => wpE e env st fun x st1 => ∃ i, x = .int i ∧ Q (some i) st1
def wpEs : Es → En → Sto → (List D → Sto → Prop) → Prop
  | .nil, _, st, Q => Q [] st
  | .cons e es, env, st, Q => wpE e env st fun x st1 => wpEs es env st1 fun xs st2 => Q (x :: xs) st2
  | .star e es, env, st, Q => wpE e env st fun x st1 => splW st1 x fun ys => wpEs es env st1 fun xs st2 => Q (ys ++ xs) st2
def wpT : Te → En → Sto → (Bool → Sto → Prop) → Prop
  | .val e, env, st, Q => wpE e env st fun x st1 => truW st1 x fun r => Q r st1
  | .tst e, env, st, Q => wpE e env st fun x st1 => ∃ b, x = .bl b ∧ Q b st1
  | .and_ a b, env, st, Q => wpT a env st fun r st1 => if r = true then wpT b env st1 Q else Q false st1
  | .or_ a b, env, st, Q => wpT a env st fun r st1 => if r = true then Q true st1 else wpT b env st1 Q
  | .not_ a, env, st, Q => wpT a env st fun r st1 => Q (!r) st1
def wpTeo : Teo → En → Sto → (Bool → Sto → Prop) → Prop
  | .no, _, st, Q => Q true st
  | .yes e, env, st, Q => wpT e env st Q
def wpTg : T → D → En → Sto → EK → Prop
  | .name i, w, env, st, Q => Q (env.set i (some w)) st
  | .tup ts, w, env, st, Q => ∃ ws, w = .tup ws ∧ ws.length = lenTs ts ∧ wpTgs ts ws env st Q
  | .sub o i, w, env, st, Q => wpE o env st fun x st1 => wpE i env st1 fun y st2 => setW st2 x y w fun st3 => Q env st3
def wpTgs : Ts → List D → En → Sto → EK → Prop
  | .nil, ws, env, st, Q => ws = [] ∧ Q env st
  | .cons t ts, ws, env, st, Q => ∃ w r, ws = w :: r ∧ wpTg t w env st fun env1 st1 => wpTgs ts r env1 st1 Q
def wpI : I → En → Sto → (List D → Option (Nat × List D) → Sto → Prop) → Prop
  | .exp e, env, st, Q => wpE e env st fun x st1 => seqW st1 x fun ws k => Q ws k st1
  | .range1 a, env, st, Q => wpE a env st fun x st1 => ∃ j : Int, x = .int j ∧ -(2 ^ 62) ≤ j ∧ j < 2 ^ 62 ∧ Q ((List.range j.toNat).map fun (k : Nat) => .int k) none st1
  | .range2 a b, env, st, Q => wpE a env st fun x st1 => wpE b env st1 fun y st2 => ∃ i j : Int, x = .int i ∧ y = .int j ∧ (-(2 ^ 62) ≤ i ∧ i < 2 ^ 62 ∧ -(2 ^ 62) ≤ j ∧ j < 2 ^ 62) ∧
      Q ((List.range (j - i).toNat).map fun (k : Nat) => .int (i + k)) none st2
end
structure K4 where
  nx : EK
  rt : DK
  bk : EK
  ct : EK
mutual
def wpS : S → En → Sto → K4 → Prop
  | .expr e, env, st, K => wpE call cst e env st fun _ st1 => K.nx env st1
  | .asg t e, env, st, K => wpE call cst e env st fun x st1 => wpTg call cst t x env st1 K.nx
  | .aug i op e, env, st, K => ∃ x, env[i]? = some (some x) ∧ wpE call cst e env st fun y st1 => augW st1 op x y fun z st2 => K.nx (env.set i (some z)) st2
  | .augs o i op e, env, st, K => wpE call cst o env st fun x st1 => wpE call cst i env st1 fun y st2 => idlW st2 x y fun v => wpE call cst e env st2 fun u st3 => augW st3 op v u fun z st4 => setW st4 x y z fun st5 => K.nx env st5
  | .ret e, env, st, K => wpE call cst e env st K.rt
  | .retn, _, st, K => K.rt .non st
  | .ite c a b, env, st, K => wpT call cst c env st fun r st1 => if r = true then wpSs a env st1 K else wpSs b env st1 K
  | .while_ c b, env, st, K => ∃ n, whileW (wpT call cst c) (fun env st N => wpSs b env st ⟨N, K.rt, K.nx, N⟩) K.nx n env st
  | .for_ t it b, env, st, K => wpI call cst it env st fun ws keep st1 => forW (keepW keep) (fun w env st N => wpTg call cst t w env st fun env2 st2 => wpSs b env2 st2 ⟨N, K.rt, K.nx, N⟩) K.nx ws env st1
  | .brk, env, st, K => K.bk env st
  | .cont, env, st, K => K.ct env st
  | .pass, env, st, K => K.nx env st
def wpSs : Ss → En → Sto → K4 → Prop
  | .nil, env, st, K => K.nx env st
  | .cons s ss, env, st, K => wpS s env st ⟨fun env1 st1 => wpSs ss env1 st1 K, K.rt, K.bk, K.ct⟩
end
end

/-- a def: its parameters' number, its slots' number, its body -/
structure Fi where
  ps : Nat
  sl : Nat
  body : Ss
/-- a call of a def of the program, n levels deep -/
def callW (fns : List Fi) (cst : List D) : Nat → Cal
  | 0, _, _, _, _ => False
  | n + 1, f, ws, st, Q => ∃ d, fns[f]? = some d ∧ ws.length = d.ps ∧
      wpSs (callW fns cst n) cst d.body (ws.map some ++ List.replicate (d.sl - ws.length) none) st ⟨fun _ st1 => Q .non st1, Q, fun _ _ => False, fun _ _ => False⟩
end Dq

set_option Elab.async false
set_option linter.all false
set_option maxRecDepth 100000
set_option maxHeartbeats 2000000
/-! Dq1: how data and stores stand in the heap; the small steps. -/
namespace Dq
open PySem PySem.Spec PyProof.Rows L2

/-- a list that never changes -/
def FrzL (K : PySem.W.Frag) (H : Hp) (a : Addr) (xs : List V) : Prop := (∃ o, H a = some (.frz o (.lst xs))) ∨ ∀ H0, SqL K H0 a xs
/-- the module's functions by number, and the world -/
structure MW where
  f : Nat → Option Value
  w : World
/-- a dict of the module's top with text keys -/
def DicR (K : PySem.W.Frag) (w : World) (a : Addr) (ks : List (List Nat)) (vs : List V) : Prop :=
  (∃ es n, KDict K w a es n) ∧ ks.length = vs.length ∧ (∀ (i : Nat) (k : List Nat) (v : V), ks[i]? = some k → vs[i]? = some v → ∃ u, PySem.W.nsIn K a (sv k) = some (some u) ∧ RelV v u) ∧ ∀ k, k ∉ ks → PySem.W.nsIn K a (sv k) = some none
mutual
inductive Rep (K : PySem.W.Frag) (mg : MW) (μ : List Addr) (H : Hp) : V → D → Prop where
  | non : Rep K mg μ H .non .non
  | bl (b : Bool) : Rep K mg μ H (.bl b) (.bl b)
  | int (i : Int) : Rep K mg μ H (.int i) (.int i)
  | str (s : List Nat) : Rep K mg μ H (.str ⟨s.toArray⟩) (.str s)
  | tup {a : Addr} {xs : List V} {ws : List D} : SqT K H a xs → Reps K mg μ H xs ws → Rep K mg μ H (.ref a) (.tup ws)
  | flst {a : Addr} {xs : List V} {ws : List D} : FrzL K H a xs → Reps K mg μ H xs ws → Rep K mg μ H (.ref a) (.flst ws)
  | loc {a : Addr} {n : Nat} : μ[n]? = some a → Rep K mg μ H (.ref a) (.loc n)
  | fn {a : Addr} {x : Nat} : mg.f x = some (.ref a) → Rep K mg μ H (.ref a) (.fn x)
  | dic {a : Addr} {ks : List (List Nat)} {vs : List V} {ws : List D} : DicR K mg.w a ks vs → Reps K mg μ H vs ws → Rep K mg μ H (.ref a) (.dic ks ws)
inductive Reps (K : PySem.W.Frag) (mg : MW) (μ : List Addr) (H : Hp) : List V → List D → Prop where
  | nil : Reps K mg μ H [] []
  | cons {v : V} {vs : List V} {w : D} {ws : List D} : Rep K mg μ H v w → Reps K mg μ H vs ws → Reps K mg μ H (v :: vs) (w :: ws)
end

/-- what the places of a store hold may change; nothing else does -/
def isCell : HO → Bool
  | .lst _ => true
  | .dK _ => true
  | .dT _ => true
  | .set _ _ => true
  | .ins _ _ _ => true
  | _ => false
structure Ext (μ : List Addr) (H : Hp) (μ' : List Addr) (H' : Hp) : Prop where
  pre : μ <+: μ'
  old : ∀ a o, H a = some o → a ∉ μ → H' a = some o
  new : ∀ a, a ∈ μ' → a ∉ μ → H a = none
def Mu (μ : List Addr) (H : Hp) : Prop := ∀ a, a ∈ μ → ∃ o, H a = some o ∧ isCell o = true
section
variable {K : PySem.W.Frag} {mg : MW} {μ μ1 μ2 : List Addr} {H H1 H2 : Hp}
theorem Ext.refl : Ext μ H μ H := ⟨List.prefix_refl _, fun _ _ h _ => h, fun _ h n => absurd h n⟩
theorem Ext.trans (e1 : Ext μ H μ1 H1) (e2 : Ext μ1 H1 μ2 H2) : Ext μ H μ2 H2 := by
  refine ⟨e1.pre.trans e2.pre, fun a o h n => ?_, fun a h n => ?_⟩
  · refine e2.old a o (e1.old a o h n) fun m => ?_
    have z := e1.new a m n
    rw [h] at z
    cases z
  · by_cases m : a ∈ μ1
    · exact e1.new a m n
    · have z := e2.new a h m
      cases q : H a with
      | none => rfl
      | some o =>
        rw [e1.old a o q n] at z
        cases z
/-- what never changes stays -/
def Imm (H H' : Hp) : Prop := ∀ a o, H a = some o → isCell o = false → H' a = some o
theorem Imm.trans (a : Imm H H1) (b : Imm H1 H2) : Imm H H2 := fun x o h c => b x o (a x o h c) c
theorem Ext.imm (e : Ext μ H μ1 H1) (m : Mu μ H) : Imm H H1 := fun a o h c => e.old a o h fun hm => by
  obtain ⟨u, e1, e2⟩ := m a hm
  rw [h] at e1
  cases e1
  rw [c] at e2
  cases e2
theorem imm_upd {p : Addr} {o : HO} (h : ∀ u, H p = some u → isCell u = true) : Imm H (upd H p o) := fun a u e c => by
  rw [upd_ne fun z => ?_]
  · exact e
  · rw [z] at e
    rw [h u e] at c
    cases c
theorem SqT.imm {a : Addr} {xs : List V} (h : SqT K H a xs) (i : Imm H H1) : SqT K H1 a xs := by
  rcases h with (h | ⟨u, h⟩) | h
  · exact .inl (.inl (i _ _ h rfl))
  · exact .inl (.inr ⟨u, i _ _ h rfl⟩)
  · exact .inr h
theorem FrzL.imm {a : Addr} {xs : List V} (h : FrzL K H a xs) (i : Imm H H1) : FrzL K H1 a xs := by
  rcases h with ⟨u, h⟩ | h
  · exact .inl ⟨u, i _ _ h rfl⟩
  · exact .inr h
theorem FrzL.sq {a : Addr} {xs : List V} (h : FrzL K H a xs) : SqL K H a xs := by
  rcases h with ⟨u, h⟩ | h
  · exact .inl (.inr ⟨u, h⟩)
  · exact h H
theorem pre_get {n : Nat} {a : Addr} (p : μ <+: μ1) (h : μ[n]? = some a) : μ1[n]? = some a := by
  obtain ⟨r, rfl⟩ := p
  rw [List.getElem?_append_left (List.getElem?_eq_some_iff.mp h).1]
  exact h
mutual
theorem Rep.imm (p : μ <+: μ1) (e : Imm H H1) : ∀ (w : D) (v : V), Rep K mg μ H v w → Rep K mg μ1 H1 v w
  | .non, _, h => by
    cases h
    exact .non
  | .bl b, _, h => by
    cases h
    exact .bl b
  | .int i, _, h => by
    cases h
    exact .int i
  | .str s, _, h => by
    cases h
    exact .str s
  | .tup ws, _, h => by
    cases h with
    | tup hs hr => exact .tup (SqT.imm hs e) (Reps.imm p e ws _ hr)
  | .flst ws, _, h => by
    cases h with
    | flst hs hr => exact .flst (FrzL.imm hs e) (Reps.imm p e ws _ hr)
  | .loc n, _, h => by
    cases h with
    | loc hn => exact .loc (pre_get p hn)
  | .fn x, _, h => by
    cases h with
    | fn hx => exact .fn hx
  | .dic ks ws, _, h => by
    cases h with
    | dic hd hr => exact .dic hd (Reps.imm p e ws _ hr)
theorem Reps.imm (p : μ <+: μ1) (e : Imm H H1) : ∀ (ws : List D) (vs : List V), Reps K mg μ H vs ws → Reps K mg μ1 H1 vs ws
  | [], _, h => by
    cases h
    exact .nil
  | w :: ws, _, h => by
    cases h with
    | cons h1 h2 => exact .cons (Rep.imm p e w _ h1) (Reps.imm p e ws _ h2)
end
theorem Rep.go {v : V} {w : D} (h : Rep K mg μ H v w) (e : Ext μ H μ1 H1) (m : Mu μ H) : Rep K mg μ1 H1 v w := Rep.imm e.pre (e.imm m) w v h
theorem Reps.go {v : List V} {w : List D} (h : Reps K mg μ H v w) (e : Ext μ H μ1 H1) (m : Mu μ H) : Reps K mg μ1 H1 v w := Reps.imm e.pre (e.imm m) w v h
theorem Rep.off {v : V} {w : D} (h : Rep K mg μ H v w) (e : Imm H H1) : Rep K mg μ H1 v w := Rep.imm (List.prefix_refl _) e w v h
theorem Reps.off {v : List V} {w : List D} (h : Reps K mg μ H v w) (e : Imm H H1) : Reps K mg μ H1 v w := Reps.imm (List.prefix_refl _) e w v h
theorem Reps.length : ∀ {vs : List V} {ws : List D}, Reps K mg μ H vs ws → vs.length = ws.length
  | _, _, .nil => rfl
  | _, _, .cons _ r => congrArg Nat.succ (Reps.length r)
theorem Reps.append : ∀ {vs us : List V} {ws xs : List D}, Reps K mg μ H vs ws → Reps K mg μ H us xs → Reps K mg μ H (vs ++ us) (ws ++ xs)
  | _, _, _, _, .nil, s => s
  | _, _, _, _, .cons r t, s => .cons r (Reps.append t s)
theorem Reps.drop : ∀ {vs : List V} {ws : List D} (n : Nat), Reps K mg μ H vs ws → Reps K mg μ H (vs.drop n) (ws.drop n)
  | _, _, 0, r => r
  | _, _, _ + 1, .nil => .nil
  | _, _, n + 1, .cons _ t => Reps.drop n t
theorem Reps.take : ∀ {vs : List V} {ws : List D} (n : Nat), Reps K mg μ H vs ws → Reps K mg μ H (vs.take n) (ws.take n)
  | _, _, 0, _ => .nil
  | _, _, _ + 1, .nil => .nil
  | _, _, n + 1, .cons r t => .cons r (Reps.take n t)
theorem Reps.set {v : V} {w : D} (r : Rep K mg μ H v w) : ∀ {vs : List V} {ws : List D} (n : Nat), Reps K mg μ H vs ws → Reps K mg μ H (vs.set n v) (ws.set n w)
  | _, _, _, .nil => .nil
  | _, _, 0, .cons _ t => .cons r t
  | _, _, n + 1, .cons q t => .cons q (Reps.set r n t)
theorem Reps.dropLast {vs : List V} {ws : List D} (r : Reps K mg μ H vs ws) : Reps K mg μ H vs.dropLast ws.dropLast := by
  rw [List.dropLast_eq_take, List.dropLast_eq_take, r.length]
  exact r.take _
theorem Reps.get : ∀ {vs : List V} {ws : List D} {n : Nat} {w : D}, Reps K mg μ H vs ws → ws[n]? = some w → ∃ v, vs[n]? = some v ∧ Rep K mg μ H v w
  | _, _, n, _, .nil, h => by simp at h
  | _, _, 0, _, .cons r _, h => by
    cases h
    exact ⟨_, rfl, r⟩
  | _, _, n + 1, w, .cons _ t, h => Reps.get (n := n) (w := w) t h
theorem Reps.getV : ∀ {vs : List V} {ws : List D} {n : Nat} {v : V}, Reps K mg μ H vs ws → vs[n]? = some v → ∃ w, ws[n]? = some w ∧ Rep K mg μ H v w
  | _, _, n, _, .nil, h => by simp at h
  | _, _, 0, _, .cons r _, h => by
    cases h
    exact ⟨_, rfl, r⟩
  | _, _, n + 1, w, .cons _ t, h => Reps.getV (n := n) (v := w) t h
theorem Reps.atI {vs : List V} {ws : List D} {i : Int} {w : D} (r : Reps K mg μ H vs ws) (h : L2.atI ws i = some w) : ∃ v, L2.atI vs i = some v ∧ Rep K mg μ H v w := by
  unfold L2.atI at h ⊢
  rw [r.length]
  cases q : ixN ws.length i with
  | none =>
    rw [q] at h
    cases h
  | some j =>
    rw [q] at h
    exact r.get h
theorem Reps.empty {vs : List V} {ws : List D} (r : Reps K mg μ H vs ws) : vs.isEmpty = ws.isEmpty := by
  cases r <;> rfl
theorem Reps.strs : ∀ {ss : List (List Nat)} {vs : List V}, Reps K mg μ H vs (ss.map .str) → vs = (ss.map fun s => (⟨s.toArray⟩ : Str)).map V.str
  | [], _, .nil => rfl
  | s :: ss, _, .cons (.str _) t => by
    rw [Reps.strs t]
    all_goals rfl
theorem Reps.bls : ∀ {bs : List Bool} {vs : List V}, Reps K mg μ H vs (bs.map .bl) → vs = bs.map V.bl
  | [], _, .nil => rfl
  | s :: ss, _, .cons (.bl _) t => by
    rw [Reps.bls t]
    all_goals rfl
theorem reps_strs : ∀ (ss : List (List Nat)), Reps K mg μ H ((ss.map fun s => (⟨s.toArray⟩ : Str)).map V.str) (ss.map .str)
  | [] => .nil
  | s :: ss => .cons (.str s) (reps_strs ss)
end

def CellOk (K : PySem.W.Frag) (mg : MW) (μ : List Addr) (H : Hp) (a : Addr) : Cell → Prop
  | .lst ws => ∃ xs, H a = some (.lst xs) ∧ Reps K mg μ H xs ws
structure Abs (K : PySem.W.Frag) (mg : MW) (μ : List Addr) (H : Hp) (st : Sto) : Prop where
  len : μ.length = st.length
  nd : μ.Nodup
  cell : ∀ (n : Nat) (a : Addr) (c : Cell), μ[n]? = some a → st[n]? = some c → CellOk K mg μ H a c
structure EnvOk (K : PySem.W.Frag) (mg : MW) (μ : List Addr) (H : Hp) (σ : L2.St) (env : En) : Prop where
  len : σ.length = env.length
  at_ : ∀ (i : Nat) (w : D), env[i]? = some (some w) → ∃ v, σ[i]? = some (some v) ∧ Rep K mg μ H v w
section
variable {K : PySem.W.Frag} {mg : MW} {μ μ1 μ2 : List Addr} {H H1 H2 : Hp} {st st1 : Sto} {σ : L2.St} {env : En}
theorem Abs.get {n : Nat} {a : Addr} {ws : List D} (A : Abs K mg μ H st) (h : μ[n]? = some a) (hs : st[n]? = some (.lst ws)) : ∃ xs, H a = some (.lst xs) ∧ Reps K mg μ H xs ws := A.cell n a _ h hs
theorem Abs.mu (A : Abs K mg μ H st) : Mu μ H := fun a h => by
  obtain ⟨n, hn, e⟩ := List.mem_iff_getElem.mp h
  have hs : n < st.length := by
    rw [← A.len]
    exact hn
  have z := A.cell n a st[n] (by rw [List.getElem?_eq_getElem hn, e]) (List.getElem?_eq_getElem hs)
  cases q : st[n] with
  | lst ws =>
    rw [q] at z
    obtain ⟨xs, h1, _⟩ := z
    exact ⟨_, h1, rfl⟩
theorem EnvOk.go (N : EnvOk K mg μ H σ env) (e : Ext μ H μ1 H1) (m : Mu μ H) : EnvOk K mg μ1 H1 σ env :=
  ⟨N.len, fun i w h => let ⟨v, h1, h2⟩ := N.at_ i w h; ⟨v, h1, h2.go e m⟩⟩
theorem EnvOk.set {i : Nat} {v : V} {w : D} (N : EnvOk K mg μ H σ env) (r : Rep K mg μ H v w) : EnvOk K mg μ H (σ.set i (some v)) (env.set i (some w)) := by
  refine ⟨by simp [N.len], fun j u h => ?_⟩
  by_cases e : i = j
  · subst e
    by_cases hl : i < env.length
    · rw [List.getElem?_set_self hl] at h
      cases h
      exact ⟨v, by rw [List.getElem?_set_self (by rw [N.len]; exact hl)], r⟩
    · rw [List.getElem?_eq_none (by simpa using hl)] at h
      cases h
  · rw [List.getElem?_set_ne e] at h ⊢
    exact N.at_ j u h
theorem EnvOk.unset {i : Nat} (N : EnvOk K mg μ H σ env) : EnvOk K mg μ H (σ.set i none) (env.set i none) := by
  refine ⟨by simp [N.len], fun j u h => ?_⟩
  by_cases e : i = j
  · subst e
    by_cases hl : i < env.length
    · rw [List.getElem?_set_self hl] at h
      cases h
    · rw [List.getElem?_eq_none (by simpa using hl)] at h
      cases h
  · rw [List.getElem?_set_ne e] at h ⊢
    exact N.at_ j u h
theorem EnvOk.wipe (N : EnvOk K mg μ H σ env) : ∀ vs : List Nat, EnvOk K mg μ H (L2.wipe σ vs) (wipeE env vs)
  | [] => N
  | v :: vs => (EnvOk.wipe N vs).unset
/-- a new tuple -/
theorem ext_new {p : Addr} {o : HO} (h : H p = none) : Ext μ H μ (upd H p o) :=
  ⟨List.prefix_refl _, fun a u e _ => by rw [upd_ne (ne_of_none e h)]; exact e, fun _ h n => absurd h n⟩
theorem Abs.go (A : Abs K mg μ H st) {p : Addr} {o : HO} (h : H p = none) : Abs K mg μ (upd H p o) st := by
  refine ⟨A.len, A.nd, fun n a c h1 h2 => ?_⟩
  have z := A.cell n a c h1 h2
  cases c with
  | lst ws =>
    obtain ⟨xs, e1, e2⟩ := z
    exact ⟨xs, by rw [upd_ne (ne_of_none e1 h)]; exact e1, e2.go (ext_new h) A.mu⟩
/-- a list that is no place of the store is written -/
theorem Abs.off (A : Abs K mg μ H st) {p : Addr} {o : HO} (hp : p ∉ μ) (h : ∀ u, H p = some u → isCell u = true) : Abs K mg μ (upd H p o) st := by
  refine ⟨A.len, A.nd, fun n a c h1 h2 => ?_⟩
  have z := A.cell n a c h1 h2
  have hne : a ≠ p := fun e => hp (e ▸ List.mem_of_getElem? h1)
  cases c with
  | lst ws =>
    obtain ⟨xs, e1, e2⟩ := z
    exact ⟨xs, by rw [upd_ne hne]; exact e1, e2.off (imm_upd h)⟩
/-- a new list -/
theorem ext_loc {p : Addr} {o : HO} (h : H p = none) : Ext μ H (μ ++ [p]) (upd H p o) :=
  ⟨List.prefix_append _ _, fun a u e _ => by rw [upd_ne (ne_of_none e h)]; exact e, fun a m n => by
    rcases List.mem_append.mp m with m | m
    · exact absurd m n
    · rw [List.mem_singleton.mp m]
      exact h⟩
theorem Abs.add (A : Abs K mg μ H st) {p : Addr} {xs : List V} {ws : List D} (h : H p = none) (r : Reps K mg μ H xs ws) : Abs K mg (μ ++ [p]) (upd H p (.lst xs)) (st ++ [.lst ws]) := by
  have m := A.mu
  have hp : p ∉ μ := fun hm => by
    obtain ⟨o, e, _⟩ := m p hm
    rw [h] at e
    cases e
  refine ⟨by simp [A.len], ?_, fun n a c h1 h2 => ?_⟩
  · rw [List.nodup_append]
    refine ⟨A.nd, by simp, fun a ha b hb => ?_⟩
    rw [List.mem_singleton.mp hb]
    exact fun e => hp (e ▸ ha)
  · by_cases hn : n < μ.length
    · rw [List.getElem?_append_left hn] at h1
      rw [List.getElem?_append_left (by rw [← A.len]; exact hn)] at h2
      have z := A.cell n a c h1 h2
      cases c with
      | lst us =>
        obtain ⟨ys, e1, e2⟩ := z
        exact ⟨ys, by rw [upd_ne (ne_of_none e1 h)]; exact e1, e2.go (ext_loc h) m⟩
    · have e : n = μ.length := by
        have := (List.getElem?_eq_some_iff.mp h1).1
        rw [List.length_append, List.length_singleton] at this
        omega
      subst e
      rw [List.getElem?_append_right (Nat.le_refl _), Nat.sub_self] at h1
      cases h1
      rw [A.len, List.getElem?_append_right (Nat.le_refl _), Nat.sub_self] at h2
      cases h2
      exact ⟨xs, upd_same, r.go (ext_loc h) m⟩
theorem loc_new (A : Abs K mg μ H st) {p : Addr} {H' : Hp} : Rep K mg (μ ++ [p]) H' (.ref p) (.loc st.length) :=
  .loc (by rw [← A.len, List.getElem?_append_right (Nat.le_refl _), Nat.sub_self] <;> rfl)
/-- a list is written -/
theorem ext_set {a : Addr} {o : HO} (h : a ∈ μ) : Ext μ H μ (upd H a o) :=
  ⟨List.prefix_refl _, fun b u e n => by rw [upd_ne (show b ≠ a from fun z => n (by rw [z]; exact h))]; exact e, fun _ h n => absurd h n⟩
theorem Abs.set (A : Abs K mg μ H st) {n : Nat} {a : Addr} {xs : List V} {ws : List D} (h : μ[n]? = some a) (r : Reps K mg μ H xs ws) : Abs K mg μ (upd H a (.lst xs)) (st.set n (.lst ws)) := by
  have m := A.mu
  have ha : a ∈ μ := List.mem_of_getElem? h
  refine ⟨by simp [A.len], A.nd, fun k b c h1 h2 => ?_⟩
  by_cases e : n = k
  · subst e
    have eb : b = a := Option.some.inj (h1.symm.trans h)
    subst eb
    have hl : n < st.length := by
      rw [← A.len]
      exact (List.getElem?_eq_some_iff.mp h).1
    rw [List.getElem?_set_self hl] at h2
    cases h2
    exact ⟨xs, upd_same, r.go (ext_set ha) m⟩
  · rw [List.getElem?_set_ne e] at h2
    have hne : b ≠ a := fun z => e (nd_get A.nd h (z ▸ h1))
    have z := A.cell k b c h1 h2
    cases c with
    | lst us =>
      obtain ⟨ys, e1, e2⟩ := z
      exact ⟨ys, by rw [upd_ne hne]; exact e1, e2.go (ext_set ha) m⟩
where
  nd_get {l : List Addr} (hN : l.Nodup) {i j : Nat} {x : Addr} (a : l[i]? = some x) (b : l[j]? = some x) : i = j := by
    obtain ⟨h1, e1⟩ := List.getElem?_eq_some_iff.mp a
    obtain ⟨h2, e2⟩ := List.getElem?_eq_some_iff.mp b
    exact (List.getElem_inj hN).mp (e1.trans e2.symm)
end
end Dq

set_option Elab.async false
set_option linter.all false
set_option maxRecDepth 100000
set_option maxHeartbeats 2000000
/-! Dq2: readings of expressions and what a run of the language wants. -/
namespace Dq
open PySem PySem.Spec PyProof.Rows L2

abbrev WE := En → Sto → DK → Prop
abbrev WT := En → Sto → (Bool → Sto → Prop) → Prop
abbrev WA := En → Sto → (List D → Sto → Prop) → Prop
abbrev WO := En → Sto → (Option Int → Sto → Prop) → Prop
section
variable (K : PySem.W.Frag) (mg : MW)
def OkE (t : TE) (f : WE) : Prop := ∀ μ H st σ env (P : DK) (Q : VK), Abs K mg μ H st → EnvOk K mg μ H σ env → f env st P →
  (∀ v w st' μ' H', P w st' → Abs K mg μ' H' st' → Ext μ H μ' H' → Rep K mg μ' H' v w → Q v H') → t σ H Q
def OkT (t : TT) (f : WT) : Prop := ∀ μ H st σ env (P : Bool → Sto → Prop) (Q : Bool → Hp → Prop), Abs K mg μ H st → EnvOk K mg μ H σ env → f env st P →
  (∀ b st' μ' H', P b st' → Abs K mg μ' H' st' → Ext μ H μ' H' → Q b H') → t σ H Q
def OkA (t : TA) (f : WA) : Prop := ∀ μ H st σ env (P : List D → Sto → Prop) (Q : List V → Hp → Prop), Abs K mg μ H st → EnvOk K mg μ H σ env → f env st P →
  (∀ vs ws st' μ' H', P ws st' → Abs K mg μ' H' st' → Ext μ H μ' H' → Reps K mg μ' H' vs ws → Q vs H') → t σ H Q
def OkO (t : TO) (f : WO) : Prop := ∀ μ H st σ env (P : Option Int → Sto → Prop) (Q : Option Int → Hp → Prop), Abs K mg μ H st → EnvOk K mg μ H σ env → f env st P →
  (∀ i st' μ' H', P i st' → Abs K mg μ' H' st' → Ext μ H μ' H' → Q i H') → t σ H Q
/-- a two-place step by values; a call of a builtin by values; a method by values -/
def Ok2 (r : R2) (f : Sto → D → D → DK → Prop) : Prop := ∀ μ H st vx vy x y (P : DK) (Q : VK), Abs K mg μ H st → Rep K mg μ H vx x → Rep K mg μ H vy y → f st x y P →
  (∀ v w st' μ' H', P w st' → Abs K mg μ' H' st' → Ext μ H μ' H' → Rep K mg μ' H' v w → Q v H') → r vx vy H Q
def OkC (r : List V → Hp → VK → Prop) (f : Sto → List D → DK → Prop) : Prop := ∀ μ H st vs ws (P : DK) (Q : VK), Abs K mg μ H st → Reps K mg μ H vs ws → f st ws P →
  (∀ v w st' μ' H', P w st' → Abs K mg μ' H' st' → Ext μ H μ' H' → Rep K mg μ' H' v w → Q v H') → r vs H Q
end
section
variable {K : PySem.W.Frag} {mg : MW} {ta tb tc : TE} {fa fb fc : WE} {r r' : R2} {f g : Sto → D → D → DK → Prop} {tt tu : TT} {ft fu : WT} {tA : TA} {fA : WA}

/-! ### compositions -/
theorem okE_var (i : Nat) : OkE K mg (tVar i) fun env st Q => ∃ w, env[i]? = some (some w) ∧ Q w st := fun μ H st σ env P Q A N h k => by
  obtain ⟨w, e, p⟩ := h
  obtain ⟨v, e1, rp⟩ := N.at_ i w e
  exact ⟨v, e1, k v w st μ H p A .refl rp⟩
theorem okE_c {v : V} {w : D} (h : ∀ μ H, Rep K mg μ H v w) : OkE K mg (tC v) fun _ st Q => Q w st := fun μ H st σ env P Q A N p k => k v w st μ H p A .refl (h μ H)
theorem okE_op (ha : OkE K mg ta fa) (hb : OkE K mg tb fb) (hr : Ok2 K mg r f) : OkE K mg (tOp r ta tb) fun env st Q => fa env st fun x st1 => fb env st1 fun y st2 => f st2 x y Q := fun μ H st σ env P Q A N h k => by
  refine ha μ H st σ env _ _ A N h fun vx x st1 μ1 H1 h1 A1 e1 r1 => ?_
  refine hb μ1 H1 st1 σ env _ _ A1 (N.go e1 A.mu) h1 fun vy y st2 μ2 H2 h2 A2 e2 r2 => ?_
  exact hr μ2 H2 st2 vx vy x y P Q A2 (r1.go e2 A1.mu) r2 h2 fun v w st3 μ3 H3 p A3 e3 r3 => k v w st3 μ3 H3 p A3 ((e1.trans e2).trans e3) r3
theorem okA_nil : OkA K mg tNil fun _ st Q => Q [] st := fun μ H st σ env P Q A N h k => k [] [] st μ H h A .refl .nil
theorem okA_cons (ha : OkE K mg ta fa) (hb : OkA K mg tA fA) : OkA K mg (tCons ta tA) fun env st Q => fa env st fun x st1 => fA env st1 fun xs st2 => Q (x :: xs) st2 := fun μ H st σ env P Q A N h k => by
  refine ha μ H st σ env _ _ A N h fun vx x st1 μ1 H1 h1 A1 e1 r1 => ?_
  refine hb μ1 H1 st1 σ env _ _ A1 (N.go e1 A.mu) h1 fun vs xs st2 μ2 H2 h2 A2 e2 r2 => ?_
  exact k (vx :: vs) (x :: xs) st2 μ2 H2 h2 A2 (e1.trans e2) (.cons (r1.go e2 A1.mu) r2)
theorem okE_tup (h : OkA K mg tA fA) : OkE K mg (tTup tA) fun env st Q => fA env st fun xs st1 => xs.length ≤ sizeLine ∧ Q (.tup xs) st1 := fun μ H st σ env P Q A N p k => by
  refine h μ H st σ env _ _ A N p fun vs xs st1 μ1 H1 h1 A1 e1 r1 => ⟨by rw [r1.length]; exact h1.1, fun q hq => ?_⟩
  have e2 : Ext μ1 H1 μ1 (upd H1 q (.tup vs)) := ext_new hq
  exact k _ _ st1 μ1 _ h1.2 (A1.go hq) (e1.trans e2) (.tup (SqT.of upd_same) (r1.go e2 A1.mu))
theorem okE_lst (h : OkA K mg tA fA) : OkE K mg (tLst tA) fun env st Q => fA env st fun xs st1 => xs.length ≤ sizeLine ∧ Q (.loc st1.length) (st1 ++ [.lst xs]) := fun μ H st σ env P Q A N p k => by
  refine h μ H st σ env _ _ A N p fun vs xs st1 μ1 H1 h1 A1 e1 r1 => ⟨by rw [r1.length]; exact h1.1, fun q hq => ?_⟩
  exact k _ _ _ _ _ h1.2 (A1.add hq r1) (e1.trans (ext_loc hq)) (loc_new A1)
theorem okE_call {C : List V → Hp → VK → Prop} {c : Sto → List D → DK → Prop} (h : OkA K mg tA fA) (hc : OkC K mg C c) : OkE K mg (tCB C tA) fun env st Q => fA env st fun xs st1 => c st1 xs Q := fun μ H st σ env P Q A N p k => by
  refine h μ H st σ env _ _ A N p fun vs xs st1 μ1 H1 h1 A1 e1 r1 => ?_
  exact hc μ1 H1 st1 vs xs P Q A1 r1 h1 fun v w st2 μ2 H2 p2 A2 e2 r2 => k v w st2 μ2 H2 p2 A2 (e1.trans e2) r2

/-! ### truth -/
theorem truV_ok {μ : List Addr} {H : Hp} {st : Sto} {v : V} {w : D} {Q : Bool → Prop} (A : Abs K mg μ H st) (rp : Rep K mg μ H v w) (h : truW st w Q) : ∃ b, TruV K v H b ∧ Q b := by
  cases rp with
  | non => exact ⟨false, rfl, h⟩
  | bl b => exact ⟨b, rfl, h⟩
  | int i => exact ⟨i != 0, rfl, h⟩
  | str s =>
    refine ⟨!s.isEmpty, ⟨by show s.toArray.size ≤ _; rw [List.size_toArray]; exact h.1, ?_⟩, h.2⟩
    show (!s.isEmpty) = (((s.toArray.size : Nat) : Int) != 0)
    rw [List.size_toArray]
    cases s with
    | nil => rfl
    | cons c s =>
      show true = (((s.length + 1 : Nat) : Int) != 0)
      exact (bne_iff_ne.mpr (by omega)).symm
  | tup hs hr =>
    refine ⟨_, .inr (.inl ⟨_, hs, rfl⟩), ?_⟩
    rw [hr.empty]
    exact h
  | flst hs hr =>
    refine ⟨_, .inl ⟨_, hs.sq, rfl⟩, ?_⟩
    rw [hr.empty]
    exact h
  | loc hn =>
    obtain ⟨ws, e, q⟩ := h
    obtain ⟨xs, e1, r1⟩ := A.get hn e
    refine ⟨_, .inl ⟨_, SqL.of e1, rfl⟩, ?_⟩
    rw [r1.empty]
    exact q
  | fn _ => exact False.elim h
  | dic _ _ => exact False.elim h
theorem okT_tru (ha : OkE K mg ta fa) : OkT K mg (fun σ H Q => ta σ H fun x H' => ∃ k, TruV K x H' k ∧ Q k H') fun env st Q => fa env st fun x st1 => truW st1 x fun r => Q r st1 := fun μ H st σ env P Q A N h k => by
  refine ha μ H st σ env _ _ A N h fun vx x st1 μ1 H1 h1 A1 e1 r1 => ?_
  obtain ⟨b, hb, p⟩ := truV_ok A1 r1 h1
  exact ⟨b, hb, k b st1 μ1 H1 p A1 e1⟩
/-- a value that is a truth -/
theorem okT_test (ha : OkE K mg ta fa) : OkT K mg (tTest ta) fun env st Q => fa env st fun x st1 => ∃ b, x = .bl b ∧ Q b st1 := fun μ H st σ env P Q A N h k => by
  refine ha μ H st σ env _ _ A N h fun vx x st1 μ1 H1 h1 A1 e1 r1 => ?_
  obtain ⟨b, rfl, p⟩ := h1
  cases r1
  exact ⟨b, rfl, k b st1 μ1 H1 p A1 e1⟩
theorem okT_and (h1 : OkT K mg tt ft) (h2 : OkT K mg tu fu) : OkT K mg (tAnd tt tu) fun env st Q => ft env st fun r st1 => if r = true then fu env st1 Q else Q false st1 := fun μ H st σ env P Q A N h k => by
  refine h1 μ H st σ env _ _ A N h fun b st1 μ1 H1 p1 A1 e1 => ?_
  cases b with
  | true => exact h2 μ1 H1 st1 σ env P Q A1 (N.go e1 A.mu) p1 fun b st2 μ2 H2 p2 A2 e2 => k b st2 μ2 H2 p2 A2 (e1.trans e2)
  | false => exact k false st1 μ1 H1 p1 A1 e1
theorem okT_or (h1 : OkT K mg tt ft) (h2 : OkT K mg tu fu) : OkT K mg (tOr tt tu) fun env st Q => ft env st fun r st1 => if r = true then Q true st1 else fu env st1 Q := fun μ H st σ env P Q A N h k => by
  refine h1 μ H st σ env _ _ A N h fun b st1 μ1 H1 p1 A1 e1 => ?_
  cases b with
  | true => exact k true st1 μ1 H1 p1 A1 e1
  | false => exact h2 μ1 H1 st1 σ env P Q A1 (N.go e1 A.mu) p1 fun b st2 μ2 H2 p2 A2 e2 => k b st2 μ2 H2 p2 A2 (e1.trans e2)
theorem okT_not (h1 : OkT K mg tt ft) : OkT K mg (tNot tt) fun env st Q => ft env st fun r st1 => Q (!r) st1 := fun μ H st σ env P Q A N h k =>
  h1 μ H st σ env _ _ A N h fun b st1 μ1 H1 p1 A1 e1 => k (!b) st1 μ1 H1 p1 A1 e1
theorem okE_if (h : OkT K mg tt ft) (ha : OkE K mg ta fa) (hb : OkE K mg tb fb) : OkE K mg (tIf tt ta tb) fun env st Q => ft env st fun r st1 => if r = true then fa env st1 Q else fb env st1 Q := fun μ H st σ env P Q A N p k => by
  refine h μ H st σ env _ _ A N p fun b st1 μ1 H1 p1 A1 e1 => ?_
  cases b with
  | true => exact ha μ1 H1 st1 σ env P Q A1 (N.go e1 A.mu) p1 fun v w st2 μ2 H2 p2 A2 e2 r2 => k v w st2 μ2 H2 p2 A2 (e1.trans e2) r2
  | false => exact hb μ1 H1 st1 σ env P Q A1 (N.go e1 A.mu) p1 fun v w st2 μ2 H2 p2 A2 e2 r2 => k v w st2 μ2 H2 p2 A2 (e1.trans e2) r2
theorem okE_and (ha : OkE K mg ta fa) (hb : OkE K mg tb fb) : OkE K mg (tAndT K ta tb) fun env st Q => fa env st fun x st1 => truW st1 x fun r => if r = true then fb env st1 Q else Q x st1 := fun μ H st σ env P Q A N h k => by
  refine ha μ H st σ env _ _ A N h fun vx x st1 μ1 H1 h1 A1 e1 r1 => ?_
  obtain ⟨b, hb2, p⟩ := truV_ok A1 r1 h1
  refine ⟨b, hb2, ?_⟩
  cases b with
  | true => exact hb μ1 H1 st1 σ env P Q A1 (N.go e1 A.mu) p fun v w st2 μ2 H2 p2 A2 e2 r2 => k v w st2 μ2 H2 p2 A2 (e1.trans e2) r2
  | false => exact k vx x st1 μ1 H1 p A1 e1 r1
theorem okE_or (ha : OkE K mg ta fa) (hb : OkE K mg tb fb) : OkE K mg (tOrT K ta tb) fun env st Q => fa env st fun x st1 => truW st1 x fun r => if r = true then Q x st1 else fb env st1 Q := fun μ H st σ env P Q A N h k => by
  refine ha μ H st σ env _ _ A N h fun vx x st1 μ1 H1 h1 A1 e1 r1 => ?_
  obtain ⟨b, hb2, p⟩ := truV_ok A1 r1 h1
  refine ⟨b, hb2, ?_⟩
  cases b with
  | true => exact k vx x st1 μ1 H1 p A1 e1 r1
  | false => exact hb μ1 H1 st1 σ env P Q A1 (N.go e1 A.mu) p fun v w st2 μ2 H2 p2 A2 e2 r2 => k v w st2 μ2 H2 p2 A2 (e1.trans e2) r2
theorem okE_not (ha : OkE K mg ta fa) : OkE K mg (tNotT K ta) fun env st Q => fa env st fun x st1 => truW st1 x fun r => Q (.bl (!r)) st1 := fun μ H st σ env P Q A N h k => by
  refine ha μ H st σ env _ _ A N h fun vx x st1 μ1 H1 h1 A1 e1 r1 => ?_
  obtain ⟨b, hb2, p⟩ := truV_ok A1 r1 h1
  exact ⟨b, hb2, k _ _ st1 μ1 H1 p A1 e1 (.bl _)⟩
theorem okE_neg (ha : OkE K mg ta fa) : OkE K mg (tUn (rU fun i => .int (-i)) ta) fun env st Q => fa env st fun x st1 => ∃ i, x = .int i ∧ Q (.int (-i)) st1 := fun μ H st σ env P Q A N h k => by
  refine ha μ H st σ env _ _ A N h fun vx x st1 μ1 H1 h1 A1 e1 r1 => ?_
  obtain ⟨i, rfl, p⟩ := h1
  cases r1
  exact ⟨i, rfl, k _ _ st1 μ1 H1 p A1 e1 (.int _)⟩
theorem okO_no : OkO K mg tNoPart fun _ st Q => Q none st := fun μ H st σ env P Q A N h k => k none st μ H h A .refl
theorem okO_yes (ha : OkE K mg ta fa) : OkO K mg (tPart ta) fun env st Q => fa env st fun x st1 => ∃ i, x = .int i ∧ Q (some i) st1 := fun μ H st σ env P Q A N h k => by
  refine ha μ H st σ env _ _ A N h fun vx x st1 μ1 H1 h1 A1 e1 r1 => ?_
  obtain ⟨i, rfl, p⟩ := h1
  cases r1
  exact ⟨i, rfl, k _ st1 μ1 H1 p A1 e1⟩
end
end Dq

set_option Elab.async false
set_option linter.all false
set_option maxRecDepth 100000
set_option maxHeartbeats 2000000
/-! Dq3: the small steps by values: operators, comparisons, subscripts, calls of builtins, methods. -/
namespace Dq
open PySem PySem.Spec PyProof.Rows L2

section
variable {K : PySem.W.Frag} {mg : MW} {μ : List Addr} {H : Hp} {st : Sto}

/-! ### operators -/
theorem never2 {f : Sto → D → D → DK → Prop} (h : ∀ st x y P, ¬ f st x y P) : Ok2 K mg (fun _ _ _ _ => False) f := fun μ H st vx vy x y P Q A rx ry p k => h st x y P p
theorem opNever {X : Cx} {o : Value → Value → Sem Value} : OpR X o fun _ _ _ _ => False := fun _ _ _ _ _ _ _ _ _ _ _ _ h => h.elim
theorem sv_append (a b : List Nat) : ((⟨a.toArray⟩ : Str) ++ (⟨b.toArray⟩ : Str)) = ⟨(a ++ b).toArray⟩ := by
  apply TL.ext_tl
  rw [TL.tl_append]
theorem sv_length (a : List Nat) : (⟨a.toArray⟩ : Str).length = a.length := by
  show a.toArray.size = _
  rw [List.size_toArray]
theorem add_ok : Ok2 K mg (fun x y H Q => rI0 (fun i j => .int (i + j)) x y H Q ∨ (∃ i j, x = .str i ∧ y = .str j ∧ i.length + j.length ≤ sizeLine ∧ Q (.str (i ++ j)) H) ∨ rCat x y H Q ∨ rCatA K x y H Q) fun st x y Q => binW st .Add x y Q := by
  intro μ H st vx vy x y P Q A rx ry h k
  cases rx with
  | int i =>
    cases ry with
    | int j => exact .inl ⟨i, j, rfl, rfl, k _ _ st μ H h A .refl (.int _)⟩
    | _ => exact False.elim h
  | str a =>
    cases ry with
    | str b =>
      refine .inr (.inl ⟨_, _, rfl, rfl, ?_, ?_⟩)
      · rw [sv_length, sv_length]
        exact h.1
      · rw [sv_append]
        exact k _ _ st μ H h.2 A .refl (.str _)
    | _ => exact False.elim h
  | @loc a n ha =>
    cases ry with
    | @loc b m hb =>
      obtain ⟨xs, ys, e1, e2, hz, p⟩ := h
      obtain ⟨us, h1, r1⟩ := A.get ha e1
      obtain ⟨ws, h2, r2⟩ := A.get hb e2
      refine .inr (.inr (.inl ⟨a, b, us, ws, rfl, rfl, h1, h2, by rw [r1.length, r2.length]; exact hz, fun q hq => ?_⟩))
      exact k _ _ _ _ _ p (A.add hq (r1.append r2)) (ext_loc hq) (loc_new A)
    | _ => exact False.elim h
  | @tup a us xs ha hr =>
    cases ry with
    | @tup b ws ys hb hs =>
      obtain ⟨hz, p⟩ := h
      refine .inr (.inr (.inr ⟨a, b, us, ws, rfl, rfl, ha, hb, by rw [hr.length, hs.length]; exact hz, fun e => ?_, fun e0 e => ?_, fun e0 e q hq => ?_⟩))
      · subst e
        cases hr
        exact k _ _ st μ H p A .refl (.tup hb hs)
      · subst e
        cases hs
        rw [List.append_nil] at p
        exact k _ _ st μ H p A .refl (.tup ha hr)
      · have e2 : Ext μ H μ (upd H q (.tup (us ++ ws))) := ext_new hq
        exact k _ _ st μ _ p (A.go hq) e2 (.tup (SqT.of upd_same) ((hr.append hs).go e2 A.mu))
    | _ => exact False.elim h
  | _ => cases ry <;> exact False.elim h
theorem intop_ok {C : Int → Int → Prop} {g : Int → Int → Int} {f : Sto → D → D → DK → Prop} (h1 : ∀ st i j P, f st (.int i) (.int j) P → C i j ∧ P (.int (g i j)) st) (h2 : ∀ st x y P, f st x y P → (∃ i, x = .int i) ∧ ∃ j, y = .int j) :
    Ok2 K mg (rI C fun i j => .int (g i j)) f := by
  intro μ H st vx vy x y P Q A rx ry h k
  obtain ⟨⟨i, rfl⟩, j, rfl⟩ := h2 st x y P h
  obtain ⟨c, p⟩ := h1 st i j P h
  cases rx
  cases ry
  exact ⟨i, j, rfl, rfl, c, k _ _ st μ H p A .refl (.int _)⟩
theorem intop0_ok {g : Int → Int → Int} {f : Sto → D → D → DK → Prop} (h1 : ∀ st i j P, f st (.int i) (.int j) P → P (.int (g i j)) st) (h2 : ∀ st x y P, f st x y P → (∃ i, x = .int i) ∧ ∃ j, y = .int j) :
    Ok2 K mg (rI0 fun i j => .int (g i j)) f := by
  intro μ H st vx vy x y P Q A rx ry h k
  obtain ⟨⟨i, rfl⟩, j, rfl⟩ := h2 st x y P h
  have p := h1 st i j P h
  cases rx
  cases ry
  exact ⟨i, j, rfl, rfl, k _ _ st μ H p A .refl (.int _)⟩
theorem ints_of {o : Operator} {st : Sto} {x y : D} {P : DK} (ho : o ≠ .Add ∧ o ≠ .Mult) (h : binW st o x y P) : (∃ i, x = .int i) ∧ ∃ j, y = .int j := by
  cases o <;> first | exact absurd rfl ho.1 | exact absurd rfl ho.2 | (cases x <;> cases y <;> first | exact ⟨⟨_, rfl⟩, ⟨_, rfl⟩⟩ | exact False.elim h)
def rBin (K : PySem.W.Frag) : Operator → R2
  | .Add => fun x y H Q => rI0 (fun i j => .int (i + j)) x y H Q ∨ (∃ i j, x = .str i ∧ y = .str j ∧ i.length + j.length ≤ sizeLine ∧ Q (.str (i ++ j)) H) ∨ rCat x y H Q ∨ rCatA K x y H Q
  | .Sub => rI0 fun i j => .int (i - j)
  | .Mult => fun x y H Q => rI CMul (fun i j => .int (i * j)) x y H Q ∨ rRepT K x y H Q
  | .Mod => rI (fun _ j => 0 < j) fun i j => .int (i % j)
  | .Pow => rI CPow fun i j => .int (i ^ j.toNat)
  | .LShift => rI CPow fun i j => .int (i * 2 ^ j.toNat)
  | .FloorDiv => rI CDiv fun i j => .int (i / j)
  | _ => fun _ _ _ _ => False
theorem rBin_op (X : Cx) (o : Operator) : OpR X (binaryOp o) (rBin X.K o) := by
  cases o with
  | Add => exact op_add.or (op_add_str.or (op_cat.or op_catA))
  | Sub => exact op_sub
  | Mult => exact op_mul.or op_repT
  | Mod => exact op_mod
  | Pow => exact op_pow
  | LShift => exact op_shl
  | FloorDiv => exact op_fdiv
  | _ => exact opNever
theorem reps_flat {vs : List V} {ws : List D} (r : Reps K mg μ H vs ws) : ∀ n : Nat, Reps K mg μ H (List.replicate n vs).flatten (List.replicate n ws).flatten
  | 0 => .nil
  | n + 1 => by
    rw [List.replicate_succ, List.replicate_succ, List.flatten_cons, List.flatten_cons]
    exact r.append (reps_flat r n)
theorem mul_ok : Ok2 K mg (fun x y H Q => rI CMul (fun i j => .int (i * j)) x y H Q ∨ rRepT K x y H Q) fun st x y Q => binW st .Mult x y Q := by
  intro μ H st vx vy x y P Q A rx ry h k
  cases rx with
  | int i =>
    cases ry with
    | int j => exact .inl ⟨i, j, rfl, rfl, h.1, k _ _ st μ H h.2 A .refl (.int _)⟩
    | _ => exact False.elim h
  | @tup a us xs ha hr =>
    cases ry with
    | int j =>
      obtain ⟨hne, h1, h2, hz, p⟩ := h
      refine .inr ⟨a, j, us, rfl, rfl, ha, ?_, h1, h2, by rw [hr.length]; exact hz, fun q hq => ?_⟩
      · intro e
        rw [e] at hr
        cases hr
        exact hne rfl
      · have e2 : Ext μ H μ (upd H q (.tup (List.replicate j.toNat us).flatten)) := ext_new hq
        exact k _ _ st μ _ p (A.go hq) e2 (.tup (SqT.of upd_same) ((reps_flat hr _).go e2 A.mu))
    | _ => exact False.elim h
  | _ => cases ry <;> exact False.elim h
theorem rBin_ok (o : Operator) : Ok2 K mg (rBin K o) fun st x y Q => binW st o x y Q := by
  cases o with
  | Add => exact add_ok
  | Sub => exact intop0_ok (fun _ _ _ _ h => h) fun _ _ _ _ h => ints_of (by decide) h
  | Mult => exact mul_ok
  | Mod => exact intop_ok (C := fun _ j => 0 < j) (fun _ _ _ _ h => h) fun _ _ _ _ h => ints_of (by decide) h
  | Pow => exact intop_ok (fun _ _ _ _ h => h) fun _ _ _ _ h => ints_of (by decide) h
  | LShift => exact intop_ok (fun _ _ _ _ h => h) fun _ _ _ _ h => ints_of (by decide) h
  | FloorDiv => exact intop_ok (fun _ _ _ _ h => h) fun _ _ _ _ h => ints_of (by decide) h
  | _ => exact never2 fun st x y P h => by cases x <;> cases y <;> exact h

/-! ### == -/
theorem str_dec (a b : List Nat) : decide ((V.str ⟨a.toArray⟩ : V) = .str ⟨b.toArray⟩) = (a == b) := by
  by_cases h : a = b
  · subst h
    rw [decide_eq_true rfl]
    exact (beq_self_eq_true a).symm
  · rw [decide_eq_false fun e => h (congrArg (fun s : Str => s.cps.toList) (V.str.inj e))]
    exact (beq_eq_false_iff_ne.mpr h).symm
theorem scal_ok {vx vy : V} {x y : D} (rx : Rep K mg μ H vx x) (ry : Rep K mg μ H vy y) (h : scalD x y = true) : scal vx vy = true ∧ decide (vx = vy) = eqF x y := by
  cases rx with
  | non => cases ry <;> first | exact absurd h (by decide) | exact ⟨rfl, rfl⟩ | exact ⟨rfl, decide_eq_false (fun e => by cases e)⟩ | (exact absurd h (by simp [scalD, flatD]))
  | bl b =>
    cases ry with
    | bl c => exact ⟨rfl, dec_bl⟩
    | non => exact ⟨rfl, decide_eq_false (fun e => by cases e)⟩
    | str s => exact ⟨rfl, decide_eq_false (fun e => by cases e)⟩
    | int j => exact absurd h (by simp [scalD])
    | _ => exact absurd h (by simp [scalD, flatD])
  | int i =>
    cases ry with
    | int c => exact ⟨rfl, dec_int⟩
    | non => exact ⟨rfl, decide_eq_false (fun e => by cases e)⟩
    | str s => exact ⟨rfl, decide_eq_false (fun e => by cases e)⟩
    | bl j => exact absurd h (by simp [scalD])
    | _ => exact absurd h (by simp [scalD, flatD])
  | str s =>
    cases ry with
    | str c => exact ⟨rfl, str_dec s c⟩
    | non => exact ⟨rfl, decide_eq_false (fun e => by cases e)⟩
    | bl s => exact ⟨rfl, decide_eq_false (fun e => by cases e)⟩
    | int j => exact ⟨rfl, decide_eq_false (fun e => by cases e)⟩
    | _ => exact absurd h (by simp [scalD, flatD])
  | _ => cases ry <;> exact absurd h (by simp [scalD, flatD])
theorem pdAll_ok {f : D → Option PyData} (hf : ∀ v w d, Rep K mg μ H v w → f w = some d → Dp K H v d) : ∀ (ws : List D) (vs : List V) (ds : List PyData), Reps K mg μ H vs ws → pdAll f ws = some ds → DpAll K H vs ds
  | [], _, _, r, h => by
    cases r
    cases h
    exact .nil
  | w :: ws, _, ds, r, h => by
    cases r with
    | cons r1 r2 =>
      unfold pdAll at h
      cases e : f w with
      | none =>
        rw [e] at h
        cases h
      | some d =>
        rw [e] at h
        cases e2 : pdAll f ws with
        | none =>
          rw [e2] at h
          cases h
        | some ds' =>
          rw [e2] at h
          cases h
          exact .cons (hf _ _ _ r1 e) (pdAll_ok hf ws _ _ r2 e2)
theorem pd_ok (A : Abs K mg μ H st) : ∀ (k : Nat) (v : V) (w : D) (d : PyData), Rep K mg μ H v w → pd st k w = some d → Dp K H v d
  | 0, _, _, _, _, h => by cases h
  | k + 1, v, w, d, r, h => by
    cases r with
    | non =>
      cases h
      exact .non
    | bl b =>
      cases h
      exact .bl b
    | int i =>
      cases h
      exact .int i
    | str s =>
      cases h
      exact .str _
    | @tup a xs ws hs hr =>
      have h2 : (pdAll (pd st k) ws).map PyData.tuple = some d := h
      cases e : pdAll (pd st k) ws with
      | none =>
        rw [e] at h2
        cases h2
      | some ds =>
        rw [e] at h2
        cases h2
        exact .tup hs (pdAll_ok (fun v w d => pd_ok A k v w d) ws _ _ hr e)
    | @flst a xs ws hs hr =>
      have h2 : (pdAll (pd st k) ws).map PyData.list = some d := h
      cases e : pdAll (pd st k) ws with
      | none =>
        rw [e] at h2
        cases h2
      | some ds =>
        rw [e] at h2
        cases h2
        exact .lst hs.sq (pdAll_ok (fun v w d => pd_ok A k v w d) ws _ _ hr e)
    | @loc a n hn =>
      have h2 : (match st[n]? with
        | some (.lst ws) => (pdAll (pd st k) ws).map PyData.list
        | none => none) = some d := h
      cases e1 : st[n]? with
      | none =>
        rw [e1] at h2
        cases h2
      | some c =>
        cases c with
        | lst ws =>
          rw [e1] at h2
          have h3 : (pdAll (pd st k) ws).map PyData.list = some d := h2
          obtain ⟨xs, hx, hr⟩ := A.get hn e1
          cases e : pdAll (pd st k) ws with
          | none =>
            rw [e] at h3
            cases h3
          | some ds =>
            rw [e] at h3
            cases h3
            exact .lst (SqL.of hx) (pdAll_ok (fun v w d => pd_ok A k v w d) ws _ _ hr e)
    | fn _ => cases h
    | dic _ _ => cases h
theorem eq_ok {f : Bool → Bool} : Ok2 K mg (fun x y H Q => (scal x y = true ∧ Q (.bl (f (decide (x = y)))) H) ∨ ∃ d e, Dp K H x d ∧ Dp K H y e ∧ SeqAt.shaped d = true ∧ SeqAt.shaped e = true ∧ Q (.bl (f (PyData.eqv d e))) H)
    fun st x y Q => eqW st x y fun b => Q (.bl (f b)) st := by
  intro μ H st vx vy x y P Q A rx ry h k
  rcases h with ⟨hs, p⟩ | ⟨n, d, e, h1, h2, s1, s2, p⟩
  · obtain ⟨e1, e2⟩ := scal_ok rx ry hs
    refine .inl ⟨e1, ?_⟩
    rw [e2]
    exact k _ _ st μ H p A .refl (.bl _)
  · exact .inr ⟨d, e, pd_ok A n _ _ _ rx h1, pd_ok A n _ _ _ ry h2, s1, s2, k _ _ st μ H p A .refl (.bl _)⟩

/-! ### in -/
theorem flat_ok {v : V} {w : D} (r : Rep K mg μ H v w) (h : flatD w = true) : flatV v = true := by
  cases r <;> first | rfl | cases h
theorem eqF_ok {v u : V} {w x : D} (r : Rep K mg μ H v w) (q : Rep K mg μ H u x) (h1 : flatD w = true) (h2 : flatD x = true) : eqV v u = eqF w x := by
  cases r <;> cases q <;> first | rfl | exact absurd h1 (by decide) | exact absurd h2 (by decide) | cases h1 | cases h2 | skip
  rename_i a b
  show ((⟨a.toArray⟩ : Str) == ⟨b.toArray⟩) = (a == b)
  rw [← dec_str]
  exact str_dec a b
theorem flats_ok : ∀ {vs : List V} {ws : List D}, Reps K mg μ H vs ws → ws.all flatD = true → vs.all flatV = true
  | _, _, .nil, _ => rfl
  | _, _, .cons r t, h => by
    rw [List.all_cons, Bool.and_eq_true] at h ⊢
    exact ⟨flat_ok r h.1, flats_ok t h.2⟩
theorem anyF_ok {u : V} {x : D} (q : Rep K mg μ H u x) (hx : flatD x = true) : ∀ {vs : List V} {ws : List D}, Reps K mg μ H vs ws → ws.all flatD = true → inV u vs = ws.any fun y => eqF y x
  | _, _, .nil, _ => rfl
  | _, _, .cons r t, h => by
    rw [List.all_cons, Bool.and_eq_true] at h
    rw [List.any_cons]
    show (eqV _ u || inV u _) = _
    rw [eqF_ok r q h.1 hx, anyF_ok q hx t h.2]
/-- a text in a dict of the module -/
def rInD (K : PySem.W.Frag) (w : World) (f : Bool → Bool) : R2 := fun x y H Q => ∃ (z : Str) (r : Option Value) (d : Addr) (es : Array DictEntry) (n : Nat), KDict K w d es n ∧ x = .str z ∧ y = .ref d ∧ PySem.W.nsIn K d z = some r ∧ Q (.bl (f r.isSome)) H
theorem op_inD {X : Cx} : OpR X (compareOp .In) (rInD X.K X.w id) := fun pins s σ H x y v u Q I rx ry ⟨z, r, d, es, n, kd, e1, e2, e3, q⟩ => op_in_kd kd pins s σ H x y v u Q I rx ry ⟨z, r, e1, e2, e3, q⟩
theorem op_notInD {X : Cx} : OpR X (compareOp .NotIn) (rInD X.K X.w (!·)) := fun pins s σ H x y v u Q I rx ry ⟨z, r, d, es, n, kd, e1, e2, e3, q⟩ => op_notIn_kd kd pins s σ H x y v u Q I rx ry ⟨z, r, e1, e2, e3, q⟩
theorem in_ok {f : Bool → Bool} {neg : Bool} (hf : ∀ b, f b = if neg = true then !b else b) : Ok2 K mg (fun x y H Q => (∃ (c : Nat) (z : Str), x = .str ⟨#[c]⟩ ∧ y = .str z ∧ Q (.bl (f (decide (c ∈ z.cps.toList)))) H) ∨ rIn K neg x y H Q ∨ rInD K mg.w f x y H Q)
    fun st x y Q => inW st x y fun b => Q (.bl (f b)) st := by
  intro μ H st vx vy x y P Q A rx ry h k
  have go : ∀ (p : Addr) (vs : List V) (ws : List D), vy = .ref p → (SqL K H p vs ∨ SqT K H p vs) → Reps K mg μ H vs ws → flatD x = true → ws.all flatD = true → P (.bl (f (ws.any fun y => eqF y x))) st → rIn K neg vx vy H Q := by
    intro p vs ws e hs hr hx hw hp
    refine ⟨p, vs, e, hs, flat_ok rx hx, flats_ok hr hw, ?_⟩
    rw [anyF_ok rx hx hr hw]
    have e2 := hf (ws.any fun y => eqF y x)
    have e3 : (if neg then !(ws.any fun y => eqF y x) else (ws.any fun y => eqF y x)) = f (ws.any fun y => eqF y x) := e2.symm
    rw [e3]
    exact k _ _ st μ H hp A .refl (.bl _)
  cases ry with
  | str s =>
    obtain ⟨c, rfl, p⟩ := h
    cases rx
    exact .inl ⟨c, _, rfl, rfl, k _ _ st μ H p A .refl (.bl _)⟩
  | tup hs hr => exact .inr (.inl (go _ _ _ rfl (.inr hs) hr h.1 h.2.1 h.2.2))
  | flst hs hr => exact .inr (.inl (go _ _ _ rfl (.inl hs.sq) hr h.1 h.2.1 h.2.2))
  | @dic a ks vs ws hd hr =>
    obtain ⟨s, rfl, p⟩ := h
    cases rx
    obtain ⟨⟨es, n, kd⟩, hl, hin, hout⟩ := hd
    by_cases m : s ∈ ks
    · obtain ⟨i, hi, e⟩ := List.mem_iff_getElem.mp m
      obtain ⟨u, hu, _⟩ := hin i s vs[i] (by rw [List.getElem?_eq_getElem hi, e]) (List.getElem?_eq_getElem (by omega))
      rw [decide_eq_true m] at p
      exact .inr (.inr ⟨_, _, _, es, n, kd, rfl, rfl, hu, k _ _ st μ H p A .refl (.bl _)⟩)
    · rw [decide_eq_false m] at p
      exact .inr (.inr ⟨_, _, _, es, n, kd, rfl, rfl, hout s m, k _ _ st μ H p A .refl (.bl _)⟩)
  | loc hn =>
    obtain ⟨ws, e, h1, h2, p⟩ := h
    obtain ⟨xs, hx, hr⟩ := A.get hn e
    exact .inr (.inl (go _ _ _ rfl (.inl (SqL.of hx)) hr h1 h2 p))
  | _ => exact False.elim h
/-! ### order, is -/
theorem ord_ok {g : Int → Int → Bool} {f : Sto → D → D → DK → Prop} (h1 : ∀ st i j P, f st (.int i) (.int j) P → P (.bl (g i j)) st) (h2 : ∀ st x y P, f st x y P → (∃ i, x = .int i) ∧ ∃ j, y = .int j) :
    Ok2 K mg (rI0 fun i j => .bl (g i j)) f := by
  intro μ H st vx vy x y P Q A rx ry h k
  obtain ⟨⟨i, rfl⟩, j, rfl⟩ := h2 st x y P h
  have p := h1 st i j P h
  cases rx
  cases ry
  exact ⟨i, j, rfl, rfl, k _ _ st μ H p A .refl (.bl _)⟩
theorem ordI {o : CmpOp} {st : Sto} {x y : D} {P : Bool → Prop} (ho : o = .LtE ∨ o = .Gt ∨ o = .GtE) (h : cmpW st o x y P) : (∃ i, x = .int i) ∧ ∃ j, y = .int j := by
  rcases ho with rfl | rfl | rfl <;> cases x <;> cases y <;> first | exact ⟨⟨_, rfl⟩, ⟨_, rfl⟩⟩ | exact False.elim h
theorem lt_ok : Ok2 K mg (fun x y H Q => rI0 (fun i j => .bl (decide (i < j))) x y H Q ∨ ∃ i j, x = .str i ∧ y = .str j ∧ Q (.bl (decide (i.cps.toList < j.cps.toList))) H) fun st x y Q => cmpW st .Lt x y fun b => Q (.bl b) st := by
  intro μ H st vx vy x y P Q A rx ry h k
  cases rx with
  | int i =>
    cases ry with
    | int j => exact .inl ⟨i, j, rfl, rfl, k _ _ st μ H h A .refl (.bl _)⟩
    | _ => exact False.elim h
  | str a =>
    cases ry with
    | str b => exact .inr ⟨_, _, rfl, rfl, k _ _ st μ H h A .refl (.bl _)⟩
    | _ => exact False.elim h
  | _ => cases ry <;> exact False.elim h
theorem is_ok {f : Bool → Bool} {g : Sto → D → D → DK → Prop} (h1 : ∀ st x y P, g st x y P → y = .non ∧ P (.bl (f (isNonD x))) st) : Ok2 K mg (fun x y H Q => y = .non ∧ Q (.bl (f (decide (x = .non)))) H) g := by
  intro μ H st vx vy x y P Q A rx ry h k
  obtain ⟨rfl, p⟩ := h1 st x y P h
  cases ry
  refine ⟨rfl, ?_⟩
  have e : decide (vx = .non) = isNonD x := by
    cases rx <;> first | exact decide_eq_true rfl | exact decide_eq_false (fun e => by cases e)
  rw [e]
  exact k _ _ st μ H p A .refl (.bl _)
theorem Ok2.imp {r : R2} {f g : Sto → D → D → DK → Prop} (h : Ok2 K mg r f) (i : ∀ st x y P, g st x y P → f st x y P) : Ok2 K mg r g := fun μ H st vx vy x y P Q A rx ry p k => h μ H st vx vy x y P Q A rx ry (i _ _ _ _ p) k
def rEqs (K : PySem.W.Frag) (f : Bool → Bool) : R2 := fun x y H Q => (scal x y = true ∧ Q (.bl (f (decide (x = y)))) H) ∨ ∃ d e, Dp K H x d ∧ Dp K H y e ∧ SeqAt.shaped d = true ∧ SeqAt.shaped e = true ∧ Q (.bl (f (PyData.eqv d e))) H
def rIns (K : PySem.W.Frag) (w : World) (neg : Bool) (f : Bool → Bool) : R2 := fun x y H Q => (∃ (c : Nat) (z : Str), x = .str ⟨#[c]⟩ ∧ y = .str z ∧ Q (.bl (f (decide (c ∈ z.cps.toList)))) H) ∨ rIn K neg x y H Q ∨ rInD K w f x y H Q
def rCmp (K : PySem.W.Frag) (w : World) : CmpOp → R2
  | .Eq => rEqs K id
  | .NotEq => rEqs K (!·)
  | .Lt => fun x y H Q => rI0 (fun i j => .bl (decide (i < j))) x y H Q ∨ ∃ i j, x = .str i ∧ y = .str j ∧ Q (.bl (decide (i.cps.toList < j.cps.toList))) H
  | .LtE => rI0 fun i j => .bl (decide (i ≤ j))
  | .Gt => rI0 fun i j => .bl (decide (j < i))
  | .GtE => rI0 fun i j => .bl (decide (j ≤ i))
  | .In => rIns K w false id
  | .NotIn => rIns K w true (!·)
  | .Is => fun x y H Q => y = .non ∧ Q (.bl (decide (x = .non))) H
  | .IsNot => fun x y H Q => y = .non ∧ Q (.bl (!decide (x = .non))) H
theorem rCmp_op (X : Cx) (hu : X.A.units + 64 < cLine) (o : CmpOp) : OpR X (compareOp o) (rCmp X.K X.w o) := by
  cases o with
  | Eq => exact op_eq.or (op_eqD hu)
  | NotEq => exact op_ne.or (op_neD hu)
  | Lt => exact op_lt.or op_lt_str
  | LtE => exact op_le
  | Gt => exact op_gt
  | GtE => exact op_ge
  | In => exact op_in_sign.or (op_in_seq.or op_inD)
  | NotIn => exact op_notIn_sign.or (op_notIn_seq.or op_notInD)
  | Is => exact op_isN
  | IsNot => exact op_notN
theorem rCmp_ok (o : CmpOp) : Ok2 K mg (rCmp K mg.w o) fun st x y Q => cmpW st o x y fun b => Q (.bl b) st := by
  cases o with
  | Eq => exact eq_ok (f := id)
  | NotEq => exact eq_ok (f := fun b => !b)
  | Lt => exact lt_ok
  | LtE => exact ord_ok (g := fun i j => decide (i ≤ j)) (fun _ _ _ _ h => h) fun _ _ _ _ h => ordI (.inl rfl) h
  | Gt => exact ord_ok (g := fun i j => decide (j < i)) (fun _ _ _ _ h => h) fun _ _ _ _ h => ordI (.inr (.inl rfl)) h
  | GtE => exact ord_ok (g := fun i j => decide (j ≤ i)) (fun _ _ _ _ h => h) fun _ _ _ _ h => ordI (.inr (.inr rfl)) h
  | In => exact in_ok (f := id) (neg := false) fun b => by simp
  | NotIn => exact in_ok (f := fun b => !b) (neg := true) fun b => by simp
  | Is => exact is_ok (f := fun b => b) fun st x y P h => by cases y <;> first | exact ⟨rfl, h⟩ | (cases x <;> exact False.elim h)
  | IsNot => exact is_ok (f := fun b => !b) fun st x y P h => by cases y <;> first | exact ⟨rfl, h⟩ | (cases x <;> exact False.elim h)
/-! ### subscripts, slices -/
def rIxA (K : PySem.W.Frag) (w : World) : R2 := fun x y H Q => rIx K x y H Q ∨ rIxD K w x y H Q
theorem ix_any {X : Cx} : IxR X (rIxA X.K X.w) := ix_seq.or ix_kdict
theorem dic_get {a : Addr} {w : World} {k : List Nat} {x : D} : ∀ {ks : List (List Nat)} {vs : List V} {ws : List D}, Reps K mg μ H vs ws → ks.length = vs.length → dicL ks ws k = some x → ∃ (i : Nat) (v : V), ks[i]? = some k ∧ vs[i]? = some v ∧ Rep K mg μ H v x
  | [], _, _, _, _, h => by cases h
  | q :: ks, _, _, .nil, hl, _ => by cases hl
  | q :: ks, _, _, .cons (v := v) (vs := vs) (w := y) (ws := ws) r t, hl, h => by
    unfold dicL at h
    rw [List.zip_cons_cons, List.lookup_cons] at h
    by_cases e : k = q
    · subst e
      rw [beq_self_eq_true] at h
      cases h
      exact ⟨0, v, rfl, rfl, r⟩
    · rw [beq_eq_false_iff_ne.mpr e] at h
      obtain ⟨i, u, h1, h2, h3⟩ := dic_get (a := a) (w := w) (ks := ks) t (by simpa using hl) h
      exact ⟨i + 1, u, by simpa using h1, by simpa using h2, h3⟩
theorem dic_none {k : List Nat} : ∀ {ks : List (List Nat)} {ws : List D}, ks.length = ws.length → dicL ks ws k = none → k ∉ ks
  | [], _, _, _ => by simp
  | q :: ks, [], hl, _ => by cases hl
  | q :: ks, w :: ws, hl, h => by
    unfold dicL at h
    rw [List.zip_cons_cons, List.lookup_cons] at h
    by_cases e : k = q
    · subst e
      rw [beq_self_eq_true] at h
      cases h
    · rw [beq_eq_false_iff_ne.mpr e] at h
      have z := dic_none (k := k) (ks := ks) (ws := ws) (by simpa using hl) h
      intro m
      rcases List.mem_cons.mp m with m | m
      · exact e m
      · exact z m
theorem idx_ok : Ok2 K mg (rIxA K mg.w) fun st x y Q => idxW st x y fun z => Q z st := by
  intro μ H st vx vy x y P Q A rx ry h k
  cases rx with
  | str s =>
    cases ry with
    | int i =>
      obtain ⟨hz, c, e, p⟩ := h
      exact .inl (.inr (.inr ⟨_, i, c, rfl, rfl, by rw [sv_length]; exact hz, e, k _ _ st μ H p A .refl (.str [c])⟩))
    | _ => exact False.elim h
  | tup hs hr =>
    cases ry with
    | int i =>
      obtain ⟨w, e, p⟩ := h
      obtain ⟨v, e1, r1⟩ := hr.atI e
      exact .inl (.inr (.inl ⟨_, _, i, v, rfl, rfl, hs, e1, k _ _ st μ H p A .refl r1⟩))
    | _ => exact False.elim h
  | flst hs hr =>
    cases ry with
    | int i =>
      obtain ⟨w, e, p⟩ := h
      obtain ⟨v, e1, r1⟩ := hr.atI e
      exact .inl (.inl ⟨_, _, i, v, rfl, rfl, hs.sq, e1, k _ _ st μ H p A .refl r1⟩)
    | _ => exact False.elim h
  | loc hn =>
    cases ry with
    | int i =>
      obtain ⟨ws, e0, w, e, p⟩ := h
      obtain ⟨xs, hx, hr⟩ := A.get hn e0
      obtain ⟨v, e1, r1⟩ := hr.atI e
      exact .inl (.inl ⟨_, _, i, v, rfl, rfl, SqL.of hx, e1, k _ _ st μ H p A .refl r1⟩)
    | _ => exact False.elim h
  | @dic a ks vs ws hd hr =>
    cases ry with
    | str s =>
      obtain ⟨w, e, p⟩ := h
      obtain ⟨⟨es, n, kd⟩, hl, hin, hout⟩ := hd
      obtain ⟨i, v, h1, h2, rv⟩ := dic_get (a := a) (w := mg.w) hr hl e
      obtain ⟨u, hu, ru⟩ := hin i s v h1 h2
      exact .inr ⟨a, _, v, rfl, rfl, ⟨es, n, u, kd.at_, kd.lit, hu, ru⟩, k _ _ st μ H p A .refl rv⟩
    | _ => exact False.elim h
  | _ => cases ry <;> exact False.elim h
theorem cut_ok {vs : List V} {ws : List D} (r : Reps K mg μ H vs ws) (lo hi : Option Int) : Reps K mg μ H (cutV vs lo hi) (cutL ws lo hi) := by
  unfold cutV cutL
  rw [r.length]
  exact (r.drop _).take _
abbrev rSlice (K : PySem.W.Frag) : V → Option Int → Option Int → Hp → VK → Prop := fun x lo hi H Q => rSlL K x lo hi H Q ∨ rSlT K x lo hi H Q ∨ rSlS x lo hi H Q
def rSliceA (K : PySem.W.Frag) : V → Option Int → Option Int → Hp → VK → Prop := fun v lo hi H Q => rSlice K v lo hi H Q ∨ rSlA K v lo hi H Q
theorem sl_any {X : Cx} : SlR X (rSliceA X.K) := (sl_list.or (sl_tup.or sl_str)).or sl_tupA
theorem cut_whole {α : Type} {xs : List α} {lo hi : Option Int} (h : HT.sIx xs.length 0 lo = 0 ∧ HT.sIx xs.length xs.length hi = xs.length) : cutL xs lo hi = xs := by
  unfold cutL
  rw [h.1, h.2, List.drop_zero, Nat.sub_zero, List.take_length]
theorem slc_ok {v : V} {w : D} {lo hi : Option Int} {P : DK} {Q : VK} (A : Abs K mg μ H st) (r : Rep K mg μ H v w) (h : slcW st w lo hi P)
    (k : ∀ v w st' μ' H', P w st' → Abs K mg μ' H' st' → Ext μ H μ' H' → Rep K mg μ' H' v w → Q v H') : rSliceA K v lo hi H Q := by
  cases r with
  | str s =>
    refine .inl <| .inr (.inr ⟨_, rfl, by rw [sv_length]; exact h.1, ?_⟩)
    have e : cutS ⟨s.toArray⟩ lo hi = ⟨(cutL s lo hi).toArray⟩ := by
      unfold cutS cutL
      rw [sv_length]
    rw [e]
    exact k _ _ st μ H h.2 A .refl (.str _)
  | @tup a xs ws hs hr =>
    refine .inr ⟨_, _, rfl, hs, fun hw => ?_, fun _ p hp => ?_⟩
    · rw [hr.length] at hw
      have h2 : P (.tup (cutL ws lo hi)) st := h
      rw [cut_whole hw] at h2
      exact k _ _ st μ H h2 A .refl (.tup hs hr)
    · have e : Ext μ H μ (upd H p (.tup (cutV xs lo hi))) := ext_new hp
      exact k _ _ st μ _ h (A.go hp) e (.tup (SqT.of upd_same) ((cut_ok hr lo hi).go e A.mu))
  | flst hs hr => exact .inl <| .inl ⟨_, _, rfl, hs.sq, fun p hp => k _ _ _ _ _ h (A.add hp (cut_ok hr lo hi)) (ext_loc hp) (loc_new A)⟩
  | loc hn =>
    obtain ⟨ws, e, p⟩ := h
    obtain ⟨xs, hx, hr⟩ := A.get hn e
    exact .inl <| .inl ⟨_, _, rfl, SqL.of hx, fun q hq => k _ _ _ _ _ p (A.add hq (cut_ok hr lo hi)) (ext_loc hq) (loc_new A)⟩
  | _ => exact False.elim h
theorem okE_slc {ta : TE} {fa : WE} {tl th : TO} {fl fh : WO} (ha : OkE K mg ta fa) (hl : OkO K mg tl fl) (hh : OkO K mg th fh) :
    OkE K mg (tSl (rSliceA K) ta tl th) fun env st Q => fa env st fun x st1 => fl env st1 fun l st2 => fh env st2 fun h st3 => slcW st3 x l h Q := fun μ H st σ env P Q A N h k => by
  refine ha μ H st σ env _ _ A N h fun vx x st1 μ1 H1 h1 A1 e1 r1 => ?_
  refine hl μ1 H1 st1 σ env _ _ A1 (N.go e1 A.mu) h1 fun l st2 μ2 H2 h2 A2 e2 => ?_
  refine hh μ2 H2 st2 σ env _ _ A2 ((N.go e1 A.mu).go e2 A1.mu) h2 fun u st3 μ3 H3 h3 A3 e3 => ?_
  exact slc_ok A3 ((r1.go e2 A1.mu).go e3 A2.mu) h3 fun v w st4 μ4 H4 p A4 e4 r4 => k v w st4 μ4 H4 p A4 (((e1.trans e2).trans e3).trans e4) r4
/-! ### o[i] = v -/
theorem set_ok {vo vi vv : V} {o i w : D} {P : Sto → Prop} {Q : Hp → Prop} (A : Abs K mg μ H st) (ro : Rep K mg μ H vo o) (ri : Rep K mg μ H vi i) (rv : Rep K mg μ H vv w) (h : setW st o i w P)
    (k : ∀ st' μ' H', P st' → Abs K mg μ' H' st' → Ext μ H μ' H' → Q H') : rSetL vo vi vv H Q := by
  cases ro with
  | @loc a n hn =>
    cases ri with
    | int i =>
      obtain ⟨ws, j, e, hj, p⟩ := h
      obtain ⟨xs, hx, hr⟩ := A.get hn e
      exact ⟨a, xs, i, j, rfl, rfl, hx, by rw [hr.length]; exact hj, k _ _ _ p (A.set hn (hr.set rv j)) (ext_set (List.mem_of_getElem? hn))⟩
    | _ => exact False.elim h
  | _ => cases ri <;> exact False.elim h
end
end Dq

set_option Elab.async false
set_option linter.all false
set_option maxRecDepth 100000
set_option maxHeartbeats 2000000
/-! Dq4: the reading of an expression of the language; it gives what the run wants. -/
namespace Dq
open PySem PySem.Spec PyProof.Rows L2

/-! ### builtins and methods by values -/
section
variable (K : PySem.W.Frag)
def rBlt : Bt → List V → Hp → VK → Prop
  | .len => fun xs H Q => ∃ x n, xs = [x] ∧ LenV K x H n ∧ Q (.int n) H
  | .abs => fun xs H Q => ∃ i, xs = [.int i] ∧ Q (.int (if i < 0 then -i else i)) H
  | .max => fun xs H Q => ∃ i j, xs = [.int i, .int j] ∧ Q (.int (if j > i then j else i)) H
  | .min => fun xs H Q => ∃ i j, xs = [.int i, .int j] ∧ Q (.int (if j < i then j else i)) H
  | .int => fun xs H Q => ((∃ i, xs = [.int i] ∧ Q (.int i) H) ∨ ∃ k, xs = [.bl k] ∧ Q (.int (if k then 1 else 0)) H) ∨ ∃ a n, xs = [.str a] ∧ PySem.intText? a = some n ∧ a.length ≤ 640 ∧ Q (.int n) H
  | .str => fun xs H Q => ∃ i, xs = [.int i] ∧ i.natAbs.log2 < 1920 ∧ Q (.str (Str.ofString (toString i))) H
  | .tuple => fun xs H Q => ∃ p ys, xs = [.ref p] ∧ ((SqL K H p ys ∧ ∀ l, H l = none → Q (.ref l) (upd H l (.tup ys))) ∨ (SqT K H p ys ∧ Q (.ref p) H))
  | .list => fun xs H Q => ∃ p ys, xs = [.ref p] ∧ (SqL K H p ys ∨ SqT K H p ys) ∧ ∀ l, H l = none → Q (.ref l) (upd H l (.lst ys))
  | .sorted => rSrt K
  | .all => rAll K
  | .any => rAny K
  | _ => fun _ _ _ => False
def rMth : Mt → V → List V → Hp → VK → Prop
  | .append => rAppend
  | .pop => rPop
  | .extend => rExtend
  | .split => fun x xs H Q => ∃ a b, x = .str a ∧ xs = [.str b] ∧ (b.length == 0) = false ∧ a.length + 2 ≤ sizeLine ∧ rNewStrs (Txt.split a b) H Q
  | .partition => fun x xs H Q => ∃ a b, x = .str a ∧ xs = [.str b] ∧ (b.length == 0) = false ∧ a.length ≤ sizeLine ∧ ∀ p, H p = none → Q (.ref p) (upd H p (.tup [.str (Txt.partition a b).1, .str (Txt.partition a b).2.1, .str (Txt.partition a b).2.2]))
  | .startswith => fun x xs H Q => ∃ a b, x = .str a ∧ xs = [.str b] ∧ Q (.bl (Txt.startswith a b)) H
  | .removeprefix => fun x xs H Q => ∃ a b, x = .str a ∧ xs = [.str b] ∧ a.length ≤ sizeLine ∧ Q (.str (Txt.removeprefix a b)) H
  | .join => fun x xs H Q => ∃ a p, ∃ ys : List Str, x = .str a ∧ xs = [.ref p] ∧ (SqL K H p (ys.map V.str) ∨ SqT K H p (ys.map V.str)) ∧ (ys.map (·.length)).sum + ys.length * a.length ≤ 16777216 ∧ Q (.str (Txt.join a ys)) H
  | _ => fun _ _ _ _ => False
def tyMth : Mt → String
  | .join => "str"
  | .split => "str"
  | .partition => "str"
  | .startswith => "str"
  | .endswith => "str"
  | .upper => "str"
  | .removeprefix => "str"
  | _ => "list"
end
section
variable {K : PySem.W.Frag} {mg : MW} {μ : List Addr} {H : Hp} {st : Sto}
theorem lenV_ok {v : V} {w : D} {P : Nat → Prop} (A : Abs K mg μ H st) (r : Rep K mg μ H v w) (h : lenW st w P) : ∃ n, LenV K v H n ∧ P n := by
  cases r with
  | str s =>
    refine ⟨_, ⟨by rw [sv_length]; exact h.1, rfl⟩, ?_⟩
    rw [sv_length]
    exact h.2
  | tup hs hr => exact ⟨_, .inr ⟨_, hs, rfl⟩, by rw [hr.length]; exact h⟩
  | flst hs hr => exact ⟨_, .inl ⟨_, hs.sq, rfl⟩, by rw [hr.length]; exact h⟩
  | loc hn =>
    obtain ⟨ws, e, p⟩ := h
    obtain ⟨xs, hx, hr⟩ := A.get hn e
    exact ⟨_, .inl ⟨_, SqL.of hx, rfl⟩, by rw [hr.length]; exact p⟩
  | _ => exact False.elim h
theorem Reps.one {vs : List V} {w : D} (r : Reps K mg μ H vs [w]) : ∃ v, vs = [v] ∧ Rep K mg μ H v w := by
  cases r with
  | cons a b =>
    cases b
    exact ⟨_, rfl, a⟩
theorem Reps.two {vs : List V} {w x : D} (r : Reps K mg μ H vs [w, x]) : ∃ v u, vs = [v, u] ∧ Rep K mg μ H v w ∧ Rep K mg μ H u x := by
  cases r with
  | cons a b =>
    obtain ⟨u, rfl, c⟩ := b.one
    exact ⟨_, u, rfl, a, c⟩
def isMM : Bt → Bool
  | .max => true
  | .min => true
  | _ => false
theorem arg1 {ws : List D} {b : Bt} {P : DK} (h : bltW st b ws P) (hb : isMM b = false) : ∃ w, ws = [w] := by
  cases ws with
  | nil => cases b <;> exact False.elim h
  | cons w r =>
    cases r with
    | nil => exact ⟨w, rfl⟩
    | cons x r =>
      cases b <;> first | (exact absurd hb (by decide)) | (cases w <;> exact False.elim h)
theorem rep_sv {μ : List Addr} {H : Hp} (x : Str) : Rep K mg μ H (.str x) (.str x.cps.toList) := by
  have e : (⟨x.cps.toList.toArray⟩ : Str) = x := by
    obtain ⟨a⟩ := x
    show (⟨a.toList.toArray⟩ : Str) = ⟨a⟩
    rw [Array.toArray_toList]
  have z := Rep.str (K := K) (mg := mg) (μ := μ) (H := H) x.cps.toList
  rw [e] at z
  exact z
theorem reps_sv {μ : List Addr} {H : Hp} : ∀ xs : List Str, Reps K mg μ H (xs.map V.str) ((xs.map fun x => x.cps.toList).map D.str)
  | [] => .nil
  | x :: xs => .cons (rep_sv x) (reps_sv xs)
theorem rBlt_ok (b : Bt) : OkC K mg (rBlt K b) fun st ws Q => bltW st b ws Q := by
  intro μ H st vs ws P Q A r h k
  cases b with
  | len =>
    obtain ⟨w, rfl⟩ := arg1 h rfl
    obtain ⟨v, rfl, rv⟩ := r.one
    obtain ⟨n, hn, p⟩ := lenV_ok A rv h
    exact ⟨v, n, rfl, hn, k _ _ st μ H p A .refl (.int _)⟩
  | abs =>
    obtain ⟨w, rfl⟩ := arg1 h rfl
    obtain ⟨v, rfl, rv⟩ := r.one
    cases rv with
    | int i => exact ⟨i, rfl, k _ _ st μ H h A .refl (.int _)⟩
    | _ => exact False.elim h
  | max =>
    match ws, r, h with
    | [.int i, .int j], r, h =>
      obtain ⟨v, u, rfl, r1, r2⟩ := r.two
      cases r1
      cases r2
      exact ⟨i, j, rfl, k _ _ st μ H h A .refl (.int _)⟩
  | min =>
    match ws, r, h with
    | [.int i, .int j], r, h =>
      obtain ⟨v, u, rfl, r1, r2⟩ := r.two
      cases r1
      cases r2
      exact ⟨i, j, rfl, k _ _ st μ H h A .refl (.int _)⟩
  | int =>
    obtain ⟨w, rfl⟩ := arg1 h rfl
    obtain ⟨v, rfl, rv⟩ := r.one
    cases rv with
    | int i => exact .inl (.inl ⟨i, rfl, k _ _ st μ H h A .refl (.int _)⟩)
    | bl i => exact .inl (.inr ⟨i, rfl, k _ _ st μ H h A .refl (.int _)⟩)
    | str s =>
      obtain ⟨n, h1, h2, p⟩ := h
      exact .inr ⟨_, n, rfl, h1, by rw [sv_length]; exact h2, k _ _ st μ H p A .refl (.int _)⟩
    | _ => exact False.elim h
  | str =>
    obtain ⟨w, rfl⟩ := arg1 h rfl
    obtain ⟨v, rfl, rv⟩ := r.one
    cases rv with
    | int i => exact ⟨i, rfl, h.1, k _ _ st μ H h.2 A .refl (rep_sv _)⟩
    | _ => exact False.elim h
  | tuple =>
    obtain ⟨w, rfl⟩ := arg1 h rfl
    obtain ⟨v, rfl, rv⟩ := r.one
    cases rv with
    | @tup a xs ws hs hr => exact ⟨a, xs, rfl, .inr ⟨hs, k _ _ st μ H h A .refl (.tup hs hr)⟩⟩
    | @loc a n hn =>
      obtain ⟨ws, e, p⟩ := h
      obtain ⟨xs, hx, hr⟩ := A.get hn e
      refine ⟨a, xs, rfl, .inl ⟨SqL.of hx, fun l hl => ?_⟩⟩
      have e2 : Ext μ H μ (upd H l (.tup xs)) := ext_new hl
      exact k _ _ st μ _ p (A.go hl) e2 (.tup (SqT.of upd_same) (hr.go e2 A.mu))
    | _ => exact False.elim h
  | list =>
    obtain ⟨w, rfl⟩ := arg1 h rfl
    obtain ⟨v, rfl, rv⟩ := r.one
    cases rv with
    | @tup a xs ws hs hr => exact ⟨a, xs, rfl, .inr hs, fun l hl => k _ _ _ _ _ h (A.add hl hr) (ext_loc hl) (loc_new A)⟩
    | @flst a xs ws hs hr => exact ⟨a, xs, rfl, .inl hs.sq, fun l hl => k _ _ _ _ _ h (A.add hl hr) (ext_loc hl) (loc_new A)⟩
    | @loc a n hn =>
      obtain ⟨ws, e, p⟩ := h
      obtain ⟨xs, hx, hr⟩ := A.get hn e
      exact ⟨a, xs, rfl, .inl (SqL.of hx), fun l hl => k _ _ _ _ _ p (A.add hl hr) (ext_loc hl) (loc_new A)⟩
    | _ => exact False.elim h
  | sorted =>
    obtain ⟨w, rfl⟩ := arg1 h rfl
    obtain ⟨v, rfl, rv⟩ := r.one
    have fwd : ∀ ys : List Str, (ys.map fun x => x.cps.toList).map sv = ys := fun ys => by
      rw [List.map_map]
      exact (List.map_congr_left fun x _ => by cases x; rfl).trans (List.map_id _)
    have fin : ∀ (ss : List (List Nat)) (a : Addr), (∀ ys : List (List Nat), ys.Perm ss → PyProof.Rows.sortedS (ys.map sv) = true → P (.loc st.length) (st ++ [.lst (ys.map .str)])) → ∀ (ys : List Str) (p : Addr), ys.Perm (ss.map sv) → PyProof.Rows.sortedS ys = true → H p = none → Q (.ref p) (upd H p (.lst (ys.map V.str))) := fun ss a q ys p hp hs hn => by
      have hp2 : (ys.map fun x => x.cps.toList).Perm ss := by
        have := hp.map (fun x : Str => x.cps.toList)
        rw [List.map_map] at this
        have e : ss.map ((fun x : Str => x.cps.toList) ∘ sv) = ss := (List.map_congr_left fun x _ => rfl).trans (List.map_id _)
        rw [e] at this
        exact this
      have q2 := q _ hp2 (by rw [fwd]; exact hs)
      exact k _ _ _ _ _ q2 (A.add hn (reps_sv ys)) (ext_loc hn) (loc_new A)
    cases rv with
    | @tup a xs ws hs hr =>
      obtain ⟨ss, rfl, hz, q⟩ := h
      rw [hr.strs] at hs
      exact ⟨a, ss.map sv, rfl, .inr hs, by rw [List.length_map]; exact hz, fin ss a q⟩
    | @loc a n hn =>
      obtain ⟨ss, e, hz, q⟩ := h
      obtain ⟨xs, hx, hr⟩ := A.get hn e
      rw [hr.strs] at hx
      exact ⟨a, ss.map sv, rfl, .inl (SqL.of hx), by rw [List.length_map]; exact hz, fin ss a q⟩
    | _ => exact False.elim h
  | all =>
    obtain ⟨w, rfl⟩ := arg1 h rfl
    obtain ⟨v, rfl, rv⟩ := r.one
    cases rv with
    | @loc a n hn =>
      obtain ⟨bs, e, p⟩ := h
      obtain ⟨xs, hx, hr⟩ := A.get hn e
      rw [hr.bls] at hx
      exact ⟨a, bs, rfl, SqL.of hx, k _ _ st μ H p A .refl (.bl _)⟩
    | _ => exact False.elim h
  | any =>
    obtain ⟨w, rfl⟩ := arg1 h rfl
    obtain ⟨v, rfl, rv⟩ := r.one
    cases rv with
    | @loc a n hn =>
      obtain ⟨bs, e, p⟩ := h
      obtain ⟨xs, hx, hr⟩ := A.get hn e
      rw [hr.bls] at hx
      exact ⟨a, bs, rfl, SqL.of hx, k _ _ st μ H p A .refl (.bl _)⟩
    | _ => exact False.elim h
  | _ =>
    obtain ⟨w, rfl⟩ := arg1 h rfl
    cases w <;> exact False.elim h
theorem sum_len (ss : List (List Nat)) : ((ss.map fun s => (⟨s.toArray⟩ : Str)).map (·.length)).sum = (ss.map (·.length)).sum := by
  rw [List.map_map]
  have e : ((fun x : Str => x.length) ∘ fun s : List Nat => (⟨s.toArray⟩ : Str)) = fun s => s.length := funext fun s => sv_length s
  rw [e]
theorem join_sv (s : List Nat) (ss : List (List Nat)) : Txt.join ⟨s.toArray⟩ (ss.map fun s => (⟨s.toArray⟩ : Str)) = ⟨(TL.joinL s ss).toArray⟩ := by
  rw [TL.join_eq]
  apply TL.ext_tl
  rw [TL.tl_join, List.map_map]
  have e : (TL.tl ∘ fun s : List Nat => (⟨s.toArray⟩ : Str)) = id := funext fun s => rfl
  rw [e, List.map_id]
theorem rMth_ok (m : Mt) {vo : V} {vs : List V} {x : D} {ws : List D} {P : DK} {Q : VK} (A : Abs K mg μ H st) (ro : Rep K mg μ H vo x) (rs : Reps K mg μ H vs ws) (h : mthW st m x ws P)
    (k : ∀ v w st' μ' H', P w st' → Abs K mg μ' H' st' → Ext μ H μ' H' → Rep K mg μ' H' v w → Q v H') : rMth K m vo vs H Q := by
  cases m with
  | append =>
    match x, ws, ro, rs, h with
    | .loc n, [w], ro, rs, h =>
      obtain ⟨us, e, hz, p⟩ := h
      obtain ⟨v, rfl, rv⟩ := rs.one
      cases ro with
      | @loc a n hn =>
        obtain ⟨xs, hx, hr⟩ := A.get hn e
        exact ⟨a, xs, v, rfl, rfl, hx, by rw [hr.length]; exact hz, k _ _ _ _ _ p (A.set hn (hr.append (.cons rv .nil))) (ext_set (List.mem_of_getElem? hn)) .non⟩
  | pop =>
    match x, ws, ro, rs, h with
    | .loc n, [], ro, rs, h =>
      obtain ⟨us, w, e, hw, p⟩ := h
      cases rs
      cases ro with
      | @loc a n hn =>
        obtain ⟨xs, hx, hr⟩ := A.get hn e
        obtain ⟨v, hv, rv⟩ := hr.get hw
        refine ⟨a, xs, v, rfl, rfl, hx, by rw [hr.length]; exact hv, ?_⟩
        have e2 : Ext μ H μ (upd H a (.lst xs.dropLast)) := ext_set (List.mem_of_getElem? hn)
        exact k _ _ _ _ _ p (A.set hn hr.dropLast) e2 (rv.go e2 A.mu)
  | extend =>
    match x, ws, ro, rs, h with
    | .loc n, [.loc m], ro, rs, h =>
      obtain ⟨us, ys, e, e2, hz, p⟩ := h
      obtain ⟨v, rfl, rv⟩ := rs.one
      cases ro with
      | @loc a n hn =>
        cases rv with
        | @loc b m hm =>
          obtain ⟨xs, hx, hr⟩ := A.get hn e
          obtain ⟨zs, hx2, hr2⟩ := A.get hm e2
          exact ⟨a, b, xs, zs, rfl, rfl, hx, hx2, by rw [hr.length, hr2.length]; exact hz, k _ _ _ _ _ p (A.set hn (hr.append hr2)) (ext_set (List.mem_of_getElem? hn)) .non⟩
  | split =>
    match x, ws, ro, rs, h with
    | .str s, [.str t], ro, rs, h =>
      obtain ⟨h1, h2, p⟩ := h
      obtain ⟨v, rfl, rv⟩ := rs.one
      cases ro
      cases rv
      refine ⟨_, _, rfl, rfl, ?_, by rw [sv_length]; exact h2, fun q hq => ?_⟩
      · rw [sv_length]
        exact beq_eq_false_iff_ne.mpr h1
      · exact k _ _ _ _ _ p (A.add hq (reps_sv _)) (ext_loc hq) (loc_new A)
  | partition =>
    match x, ws, ro, rs, h with
    | .str s, [.str t], ro, rs, h =>
      obtain ⟨h1, h2, p⟩ := h
      obtain ⟨v, rfl, rv⟩ := rs.one
      cases ro
      cases rv
      refine ⟨_, _, rfl, rfl, ?_, by rw [sv_length]; exact h2, fun q hq => ?_⟩
      · rw [sv_length]
        exact beq_eq_false_iff_ne.mpr h1
      · exact k _ _ _ _ _ p (A.go hq) (ext_new hq) (.tup (SqT.of upd_same) (.cons (rep_sv _) (.cons (rep_sv _) (.cons (rep_sv _) .nil))))
  | startswith =>
    match x, ws, ro, rs, h with
    | .str s, [.str t], ro, rs, h =>
      obtain ⟨v, rfl, rv⟩ := rs.one
      cases ro
      cases rv
      exact ⟨_, _, rfl, rfl, k _ _ _ _ _ h A .refl (.bl _)⟩
  | removeprefix =>
    match x, ws, ro, rs, h with
    | .str s, [.str t], ro, rs, h =>
      obtain ⟨v, rfl, rv⟩ := rs.one
      cases ro
      cases rv
      exact ⟨_, _, rfl, rfl, by rw [sv_length]; exact h.1, k _ _ _ _ _ h.2 A .refl (rep_sv _)⟩
  | join =>
    match x, ws, ro, rs, h with
    | .str s, [.loc n], ro, rs, h =>
      obtain ⟨ss, e, hz, p⟩ := h
      obtain ⟨v, rfl, rv⟩ := rs.one
      cases ro
      cases rv with
      | @loc a n hn =>
        obtain ⟨xs, hx, hr⟩ := A.get hn e
        rw [hr.strs] at hx
        refine ⟨_, a, _, rfl, rfl, .inl (SqL.of hx), ?_, ?_⟩
        · rw [sum_len, List.length_map, sv_length]
          exact hz
        · rw [join_sv]
          exact k _ _ st μ H p A .refl (.str _)
  | _ =>
    cases x <;> first | exact False.elim h | (cases ws <;> exact False.elim h)
theorem tyMth_ok (m : Mt) {vo : V} {x : D} (A : Abs K mg μ H st) (ro : Rep K mg μ H vo x) (h : mthTy st m x) : tyV K (tyMth m) vo H := by
  have hs : ∀ s, x = .str s → tyV K "str" vo H := fun s e => by
    subst e
    cases ro
    rfl
  have hl : ∀ n ws, x = .loc n → st[n]? = some (.lst ws) → tyV K "list" vo H := fun n ws e e2 => by
    subst e
    cases ro with
    | loc hn =>
      obtain ⟨xs, hx, _⟩ := A.get hn e2
      exact .inl ⟨rfl, xs, SqL.of hx⟩
  cases m <;> first
    | (obtain ⟨s, e⟩ := h; exact hs s e)
    | (obtain ⟨n, ws, e, e2⟩ := h; exact hl n ws e e2)

/-! ### isinstance -/
theorem tyX_of {v : V} {w : D} (r : Rep K mg μ H v w) {t : Ty} {b : Bool} (h : isiB w t = some b) : ∃ ty : String, TyX K H v (.type ty) ∧ kitB ty t.nm = some b := by
  cases r with
  | non =>
    refine ⟨_, .base .non, ?_⟩
    cases h
    cases t <;> decide +kernel
  | bl c =>
    refine ⟨_, .base (.bl c), ?_⟩
    cases h
    cases t <;> decide +kernel
  | int i =>
    refine ⟨_, .base (.int i), ?_⟩
    cases h
    cases t <;> decide +kernel
  | str s =>
    refine ⟨_, .base (.str _), ?_⟩
    cases h
    cases t <;> decide +kernel
  | tup hs hr =>
    have e : kitB "tuple" t.nm = some b := by
      cases h
      cases t <;> decide +kernel
    rcases hs with (hs | ⟨o, hs⟩) | ⟨o, its, n, e1, e2, _⟩
    · exact ⟨_, .base (.tup hs), e⟩
    · exact ⟨_, .fTuple hs, e⟩
    · exact ⟨_, .kTuple e1 e2, e⟩
  | _ => cases h
end
end Dq

set_option Elab.async false
set_option linter.all false
set_option maxRecDepth 100000
set_option maxHeartbeats 2000000
/-! Dq5: the reading of an expression, and that it gives what the run wants. -/
namespace Dq
open PySem PySem.Spec PyProof.Rows L2

/-! ### what is walked -/
def ItOk (K : PySem.W.Frag) (mg : MW) (J : It) (ws : List D) (keep : Option (Nat × List D)) (μ : List Addr) (H : Hp) : Prop :=
  ∀ μ2 H2 st2, Ext μ H μ2 H2 → Abs K mg μ2 H2 st2 → keepW keep st2 → J.stop ws.length H2 ∧ ∀ i w, ws[i]? = some w → J.go i H2 ∧ ∀ x H3, J.yld i H2 x H3 → H3 = H2 ∧ Rep K mg μ2 H2 x w
/-- a list, a tuple, a text -/
def iSeq (K : PySem.W.Frag) (te : TE) : TI := fun σ H R => te σ H fun x H1 =>
  (∃ a, x = .ref a ∧ (∃ xs, SqL K H1 a xs) ∧ R (Itl K a) H1) ∨ (∃ a, x = .ref a ∧ (∃ xs, SqT K H1 a xs) ∧ R (Itt K a) H1) ∨ ∃ z, x = .str z ∧ R (Its z) H1
theorem pi_seq {X : Cx} {tg e : Expr} {te : TE} (he : PE X e te) : PI X tg e (iSeq X.K te) := by
  constructor
  intro pins s σ H R I h
  refine thn (he.run pins s σ H _ I h) fun v s1 ⟨x, H1, I1, r1, q1⟩ => ?_
  rcases q1 with ⟨a, e1, ⟨xs, hq⟩, q⟩ | ⟨a, e1, ⟨xs, hq⟩, q⟩ | ⟨z, e1, q⟩
  · subst e1
    cases r1
    obtain ⟨its, rv, pl, hz⟩ := I1.list hq
    have T0 := turn_list (P := X.prog) (w := X.w) (K := X.K) (tg := tg) a s1.heap.objs.size
    exact wpAny_pyIter_list pl.isList (pi_one (tk := s1.toks) I1 _ T0 ⟨_, Heap.get?_push_size _ rfl, rfl, rfl⟩ q)
  · subst e1
    cases r1
    obtain ⟨its, rv, pl, hz⟩ := I1.tuple hq
    have T0 := turn_tuple (P := X.prog) (w := X.w) (K := X.K) (tg := tg) a s1.heap.objs.size
    exact wpAny_pyIter_tuple (show s1.heap.IsTuple a its.toArray from pl) (pi_one (tk := s1.toks) I1 _ T0 ⟨_, Heap.get?_push_size _ rfl, rfl, rfl⟩ q)
  · subst e1
    obtain ⟨t, rfl⟩ := r1
    cases hA : z.cps.all (· < 128) with
    | false =>
      have T0 := turn_str (P := X.prog) (w := X.w) (K := X.K) (tg := tg) s1.heap.objs.size z t "str_iterator" (.inr rfl)
      exact wpAny_pyIter_wide hA (pi_one (tk := s1.toks) I1 _ T0 ⟨_, Heap.get?_push_size _ rfl, rfl, rfl⟩ q)
    | true =>
      have T0 := turn_str (P := X.prog) (w := X.w) (K := X.K) (tg := tg) s1.heap.objs.size z t "str_ascii_iterator" (.inl rfl)
      exact wpAny_pyIter_ascii hA (pi_one (tk := s1.toks) I1 _ T0 ⟨_, Heap.get?_push_size _ rfl, rfl, rfl⟩ q)
section
variable {K : PySem.W.Frag} {mg : MW} {μ : List Addr} {H : Hp} {st : Sto}
theorem it_fix {a : Addr} {J : It} {vs : List V} {ws : List D} (hr : Reps K mg μ H vs ws) (m : Mu μ H) (h : ∀ H2, Imm H H2 → J.stop vs.length H2 ∧ ∀ i v, vs[i]? = some v → J.go i H2 ∧ ∀ x H3, J.yld i H2 x H3 → H3 = H2 ∧ x = v) : ItOk K mg J ws none μ H := by
  intro μ2 H2 st2 e A2 _
  obtain ⟨h1, h2⟩ := h H2 (e.imm m)
  rw [hr.length] at h1
  refine ⟨h1, fun i w hw => ?_⟩
  obtain ⟨v, hv, rv⟩ := hr.get hw
  obtain ⟨h3, h4⟩ := h2 i v hv
  refine ⟨h3, fun x H3 y => ?_⟩
  obtain ⟨e1, e2⟩ := h4 x H3 y
  subst e2
  exact ⟨e1, rv.go e m⟩
theorem seq_ok {v : V} {w : D} {P : List D → Option (Nat × List D) → Prop} {R : It → Hp → Prop} (A : Abs K mg μ H st) (r : Rep K mg μ H v w) (h : seqW st w P)
    (k : ∀ ws keep J, P ws keep → ItOk K mg J ws keep μ H → R J H) :
    (∃ a, v = .ref a ∧ (∃ xs, SqL K H a xs) ∧ R (Itl K a) H) ∨ (∃ a, v = .ref a ∧ (∃ xs, SqT K H a xs) ∧ R (Itt K a) H) ∨ ∃ z, v = .str z ∧ R (Its z) H := by
  cases r with
  | str s =>
    refine .inr (.inr ⟨_, rfl, k _ _ _ h ?_⟩)
    intro μ2 H2 st2 e A2 _
    refine ⟨by show s.toArray.size ≤ _; rw [List.size_toArray, List.length_map]; exact Nat.le_refl _, fun i w hw => ?_⟩
    rw [List.getElem?_map] at hw
    cases q : s[i]? with
    | none =>
      rw [q] at hw
      cases hw
    | some c =>
      rw [q] at hw
      cases hw
      refine ⟨by show i < s.toArray.size; rw [List.size_toArray]; exact (List.getElem?_eq_some_iff.mp q).1, fun x H3 y => ?_⟩
      obtain ⟨e1, c', hc, e2⟩ := y
      have hc2 : s[i]? = some c' := by simpa using hc
      rw [q] at hc2
      cases hc2
      subst e2
      exact ⟨e1, .str [c]⟩
  | @tup a xs ws hs hr =>
    refine .inr (.inl ⟨a, rfl, ⟨xs, hs⟩, k _ _ _ h (it_fix (a := a) hr A.mu fun H2 i => ⟨⟨xs, SqT.imm hs i, Nat.le_refl _⟩, fun j v hv => ⟨⟨xs, v, SqT.imm hs i, hv⟩, fun x H3 y => ?_⟩⟩)⟩)
    obtain ⟨e1, e2⟩ := y
    exact ⟨e1, Option.some.inj ((e2 xs (SqT.imm hs i)).symm.trans hv)⟩
  | @flst a xs ws hs hr =>
    refine .inl ⟨a, rfl, ⟨xs, hs.sq⟩, k _ _ _ h (it_fix (a := a) hr A.mu fun H2 i => ⟨⟨xs, (FrzL.imm hs i).sq, Nat.le_refl _⟩, fun j v hv => ⟨⟨xs, v, (FrzL.imm hs i).sq, hv⟩, fun x H3 y => ?_⟩⟩)⟩
    obtain ⟨e1, e2⟩ := y
    exact ⟨e1, Option.some.inj ((e2 xs (FrzL.imm hs i).sq).symm.trans hv)⟩
  | @loc a n hn =>
    obtain ⟨ws, e, p⟩ := h
    obtain ⟨xs, hx, hr⟩ := A.get hn e
    refine .inl ⟨a, rfl, ⟨xs, SqL.of hx⟩, k _ _ _ p ?_⟩
    intro μ2 H2 st2 e2 A2 kp
    obtain ⟨ys, hy, hr2⟩ := A2.get (pre_get e2.pre hn) kp
    refine ⟨⟨ys, SqL.of hy, by rw [hr2.length]; exact Nat.le_refl _⟩, fun i w hw => ?_⟩
    obtain ⟨v, hv, rv⟩ := hr2.get hw
    refine ⟨⟨ys, v, SqL.of hy, hv⟩, fun x H3 y => ?_⟩
    obtain ⟨e3, e4⟩ := y
    have e5 := (e4 ys (SqL.of hy)).symm.trans hv
    cases e5
    exact ⟨e3, rv⟩
  | _ => exact False.elim h
theorem range_ok (lo : Int) (n : Nat) : ItOk K mg (Itr lo n) ((List.range n).map fun (k : Nat) => .int (lo + k)) none μ H := by
  intro μ2 H2 st2 e A2 _
  refine ⟨by show n ≤ _; simp, fun i w hw => ?_⟩
  rw [List.getElem?_map] at hw
  cases q : (List.range n)[i]? with
  | none =>
    rw [q] at hw
    cases hw
  | some k =>
    rw [q] at hw
    cases hw
    obtain ⟨h1, h2⟩ := List.getElem?_eq_some_iff.mp q
    rw [List.length_range] at h1
    rw [List.getElem_range] at h2
    subst h2
    refine ⟨h1, fun x H3 y => ?_⟩
    obtain ⟨e1, e2⟩ := y
    subst e2
    exact ⟨e1, .int _⟩
end

/-! ### a def's call by values -/
def spD (K : PySem.W.Frag) (mg : MW) (f : List D → Sto → DK → Prop) : Sp := fun vs H Q _ => ∃ μ st ws P, Abs K mg μ H st ∧ Reps K mg μ H vs ws ∧ f ws st P ∧
  ∀ v w st' μ' H', P w st' → Abs K mg μ' H' st' → Ext μ H μ' H' → Rep K mg μ' H' v w → Q v H'

/-- d.get(key, other), d a dict of the module -/
def tKGet (K : PySem.W.Frag) (w : World) (td ty tx : TE) : TE := fun σ H Q => td σ H fun x H1 => ∃ (a : Addr) (es : Array DictEntry) (n : Nat), x = .ref a ∧ KDict K w a es n ∧ ty σ H1 fun y H2 => tx σ H2 fun z H3 => ∃ (k : Str), y = .str k ∧
  ((∃ u v, PySem.W.nsIn K a k = some (some u) ∧ RelV v u ∧ Q v H3) ∨ (PySem.W.nsIn K a k = some none ∧ Q z H3))
/-! ### readings -/
def vOf : D → V
  | .non => .non
  | .bl b => .bl b
  | .int i => .int i
  | .str s => .str ⟨s.toArray⟩
  | _ => .non
def tImm (w : D) : TE := if immD w = true then tC (vOf w) else fun _ _ _ => False
def trsD : List (List Nat) → List D → List (TE × TE)
  | k :: ks, w :: ws => (tC (.str ⟨k.toArray⟩), tImm w) :: trsD ks ws
  | _, _ => []
section
variable (K : PySem.W.Frag) (mg : MW) (call : Cal) (gv : Nat → V → Prop)
mutual
def rdE : E → TE
  | .var i => tVar i
  | .cst w => if immD w = true then tC (vOf w) else fun _ _ _ => False
  | .glob k => fun _ H Q => ∃ v, gv k v ∧ ∀ v, gv k v → Q v H
  | .bin op a b => tOp (rBin K op) (rdE a) (rdE b)
  | .neg a => tUn (rU fun i => .int (-i)) (rdE a)
  | .cmp op a b => tOp (rCmp K mg.w op) (rdE a) (rdE b)
  | .chain o p a b c => tChain (rCmp K mg.w o) (rCmp K mg.w p) (rdE a) (rdE b) (rdE c)
  | .band a b => tAndT K (rdE a) (rdE b)
  | .bor a b => tOrT K (rdE a) (rdE b)
  | .bnot a => tNotT K (rdE a)
  | .ife c a b => tIf (rdT c) (rdE a) (rdE b)
  | .tup es => tTup (rdEs es)
  | .lst es => tLst (rdEs es)
  | .idx a b => tOp (rIxA K mg.w) (rdE a) (rdE b)
  | .slc a lo hi => tSl (rSliceA K) (rdE a) (rdEo lo) (rdEo hi)
  | .call f es => tCall (spD K mg (call f)) [] (fun _ _ _ => False) (rdEs es)
  | .blt f es => tCB (rBlt K f) (rdEs es)
  | .isi a t => tCB (rIsi K) (tCons (rdE a) (tCons (tC (.ty t.nm)) tNil))
  | .dget o a b => tKGet K mg.w (rdE o) (rdE a) (rdE b)
  | .dsel ks ws e => tDGet (tDisp (trsD ks ws)) (rdE e)
  | .mth m o es => tBM K (tyMth m) (rMth K m) (rdE o) (rdEs es)
  | .comp own elt t it c => if (slT t).all (own.contains ·) = true then tLc (rdI it) (rdG t) (rdTeo c) (rdE elt) own else fun _ _ _ => False
def rdEo : Eo → TO
  | .no => tNoPart
  | .yes e => tPart (rdE e)
def rdEs : Es → TA
  | .nil => tNil
  | .cons e es => tCons (rdE e) (rdEs es)
  | .star e es => StX.tStar K (rdE e) (rdEs es)
def rdT : Te → TT
  | .val e => fun σ H Q => rdE e σ H fun x H' => ∃ k, TruV K x H' k ∧ Q k H'
  | .tst e => tTest (rdE e)
  | .and_ a b => tAnd (rdT a) (rdT b)
  | .or_ a b => tOr (rdT a) (rdT b)
  | .not_ a => tNot (rdT a)
def rdTeo : Teo → TT
  | .no => tYes
  | .yes e => rdT e
def rdG : T → TG
  | .name i => gName i
  | .tup ts => gTup K (lenTs ts) (rdGs ts)
  | .sub o i => gSub (rdE o) (rdE i) rSetL
def rdGs : Ts → TGs
  | .nil => gNil
  | .cons t ts => gCons (rdG t) (rdGs ts)
def rdI : I → TI
  | .exp e => iSeq K (rdE e)
  | .range1 a => iRng1 (tCons (rdE a) tNil)
  | .range2 a b => iRng2 (tCons (rdE a) (tCons (rdE b) tNil))
end
end
theorem wipe_set {σ : L2.St} {i : Nat} {x : Option V} : ∀ {vs : List Nat}, i ∈ vs → wipe (σ.set i x) vs = wipe σ vs := fun {vs} h => by
  have key : ∀ vs : List Nat, wipe (σ.set i x) vs = if i ∈ vs then wipe σ vs else (wipe σ vs).set i x := by
    intro vs
    induction vs with
    | nil => rfl
    | cons v vs ih =>
      show (wipe (σ.set i x) vs).set v none = if i ∈ v :: vs then (wipe σ vs).set v none else ((wipe σ vs).set v none).set i x
      rw [ih]
      by_cases h1 : i ∈ vs
      · rw [if_pos h1, if_pos (List.mem_cons_of_mem _ h1)]
      · rw [if_neg h1]
        by_cases h2 : i = v
        · subst h2
          rw [if_pos List.mem_cons_self, List.set_set]
        · rw [if_neg (by intro m; rcases List.mem_cons.mp m with m | m; exact h2 m; exact h1 m), List.set_comm _ _ h2]
  rw [key, if_pos h]
theorem wipe_wipe {σ : L2.St} {us : List Nat} : ∀ {vs : List Nat}, (∀ i ∈ vs, i ∈ us) → wipe (wipe σ vs) us = wipe σ us
  | [], _ => rfl
  | v :: vs, h => by
    show wipe ((wipe σ vs).set v none) us = wipe σ us
    rw [wipe_set (h v List.mem_cons_self), wipe_wipe fun i hi => h i (List.mem_cons_of_mem _ hi)]
section
variable (K : PySem.W.Frag) (mg : MW)
def OkG (sl : List Nat) (g : TG) (f : D → En → Sto → EK → Prop) : Prop := ∀ μ H st σ env v w (P : EK) (Q : L2.St → Hp → Prop), Abs K mg μ H st → EnvOk K mg μ H σ env → Rep K mg μ H v w → f w env st P →
  (∀ σ' env' st' μ' H', P env' st' → Abs K mg μ' H' st' → Ext μ H μ' H' → EnvOk K mg μ' H' σ' env' → (∀ vs, (∀ i ∈ sl, i ∈ vs) → wipe σ' vs = wipe σ vs) → Q σ' H') → g v σ H Q
def OkGs (sl : List Nat) (g : TGs) (f : List D → En → Sto → EK → Prop) : Prop := ∀ μ H st σ env vs ws (P : EK) (Q : L2.St → Hp → Prop), Abs K mg μ H st → EnvOk K mg μ H σ env → Reps K mg μ H vs ws → f ws env st P →
  (∀ σ' env' st' μ' H', P env' st' → Abs K mg μ' H' st' → Ext μ H μ' H' → EnvOk K mg μ' H' σ' env' → (∀ vs, (∀ i ∈ sl, i ∈ vs) → wipe σ' vs = wipe σ vs) → Q σ' H') → g vs σ H Q
def OkI (wi : TI) (f : En → Sto → (List D → Option (Nat × List D) → Sto → Prop) → Prop) : Prop := ∀ μ H st σ env (P : List D → Option (Nat × List D) → Sto → Prop) (R : It → Hp → Prop), Abs K mg μ H st → EnvOk K mg μ H σ env → f env st P →
  (∀ ws keep st' μ' H' J, P ws keep st' → Abs K mg μ' H' st' → Ext μ H μ' H' → ItOk K mg J ws keep μ' H' → R J H') → wi σ H R
end
/-! ### the list of a comprehension -/
section
variable {K : PySem.W.Frag} {mg : MW} {te : TE} {fe : WE} {tt : TT} {ft : WT} {g : TG} {fg : D → En → Sto → EK → Prop} {wi : TI} {fi : En → Sto → (List D → Option (Nat × List D) → Sto → Prop) → Prop} {own : List Nat} {sl : List Nat}
theorem okE_comp (hi : OkI K mg wi fi) (hg : OkG K mg sl g fg) (hsl : ∀ i ∈ sl, i ∈ own) (ht : OkT K mg tt ft) (he : OkE K mg te fe) :
    OkE K mg (tLc wi g tt te own) fun env st Q => fi env st fun ws keep st1 => compW (keepW keep)
      (fun w st K => fg w (wipeE env own) st fun env2 st2 => ft env2 st2 fun r st3 => if r = true then fe env2 st3 fun x st4 => K (some x) st4 else K none st3) Q ws [] st1 := fun μ H st σ env P Q A N h k => by
  refine hi μ H st σ env _ _ A N h fun ws keep st1 μ1 H1 J h1 A1 e1 hJ L hL => ?_
  have m1 := A1.mu
  have N1 := (N.go e1 A.mu).wipe own
  have iL : Imm H1 (upd H1 L (.lst [])) := imm_upd fun u q => by rw [hL] at q; cases q
  have Lμ : L ∉ μ1 := fun hm => by
    obtain ⟨o, q, _⟩ := m1 L hm
    rw [hL] at q
    cases q
  refine ⟨fun i m H2 => ∃ μ2 st2 acc accw, m = ws.length - i ∧ i ≤ ws.length ∧ Abs K mg μ2 H2 st2 ∧ Ext μ1 H1 μ2 H2 ∧ H2 L = some (.lst acc) ∧ L ∉ μ2 ∧ Reps K mg μ2 H2 acc accw ∧
      compW (keepW keep) (fun w st K => fg w (wipeE env own) st fun env2 st2 => ft env2 st2 fun r st3 => if r = true then fe env2 st3 fun x st4 => K (some x) st4 else K none st3) P (ws.drop i) accw st2,
    ⟨ws.length, μ1, st1, [], [], rfl, Nat.zero_le _, A1.go hL, ext_new hL, upd_same, Lμ, .nil, h1⟩, ?_⟩
  rintro i m H2 ⟨μ2, st2, acc, accw, rfl, hi', A2, e2, hL2, Lμ2, racc, hc⟩
  by_cases hlt : i < ws.length
  · rw [List.drop_eq_getElem_cons hlt] at hc
    obtain ⟨kp, hc⟩ := hc
    obtain ⟨_, hgo⟩ := hJ μ2 H2 st2 e2 A2 kp
    obtain ⟨go, hy⟩ := hgo i ws[i] (List.getElem?_eq_getElem hlt)
    refine .inr ⟨go, fun H' => ∃ μ2 st2 acc accw, Abs K mg μ2 H' st2 ∧ Ext μ1 H1 μ2 H' ∧ H' L = some (.lst acc) ∧ L ∉ μ2 ∧ Reps K mg μ2 H' acc accw ∧
      compW (keepW keep) (fun w st K => fg w (wipeE env own) st fun env2 st2 => ft env2 st2 fun r st3 => if r = true then fe env2 st3 fun x st4 => K (some x) st4 else K none st3) P (ws.drop (i + 1)) accw st2, fun H' hN => ?_, fun x H3 y => ?_⟩
    · obtain ⟨μ3, st3, acc3, accw3, B1, B2, B3, B4, B5, B6⟩ := hN
      exact ⟨ws.length - (i + 1), by omega, μ3, st3, acc3, accw3, rfl, hlt, B1, B2, B3, B4, B5, B6⟩
    · obtain ⟨eH, rx⟩ := hy x H3 y
      subst eH
      refine hg μ2 H3 st2 (wipe σ own) (wipeE env own) x ws[i] _ _ A2 (N1.go e2 m1) rx hc fun σ4 env4 st4 μ4 H4 h4 A4 e4 N4 hw4 => ⟨?_, ?_⟩
      · exact (hw4 own hsl).trans (wipe_wipe fun _ h => h)
      · refine ht μ4 H4 st4 σ4 env4 _ _ A4 N4 h4 fun b st5 μ5 H5 h5 A5 e5 => ?_
        have e45 := e4.trans e5
        have L5 : L ∉ μ5 := fun hm => by
          have z := e45.new L hm Lμ2
          rw [hL2] at z
          cases z
        have hL5 : H5 L = some (.lst acc) := e45.old _ _ hL2 Lμ2
        cases b with
        | true =>
          refine he μ5 H5 st5 σ4 env4 _ _ A5 (N4.go e5 A4.mu) h5 fun vy y st6 μ6 H6 h6 A6 e6 r6 => ?_
          obtain ⟨hz, h6⟩ := h6
          have e26 := e45.trans e6
          have L6 : L ∉ μ6 := fun hm => by
            have z := e26.new L hm Lμ2
            rw [hL2] at z
            cases z
          have hL6 : H6 L = some (.lst acc) := e26.old _ _ hL2 Lμ2
          have cell6 : ∀ u, H6 L = some u → isCell u = true := fun u q => by
            rw [hL6] at q
            cases q
            rfl
          have racc6 := (racc.go e26 A2.mu)
          refine ⟨acc, hL6, by rw [racc.length]; exact hz, μ6, st6, acc ++ [vy], accw ++ [y], A6.off L6 cell6, ?_, upd_same, L6, (racc6.append (.cons r6 .nil)).off (imm_upd cell6), h6⟩
          have e16 := e2.trans e26
          refine ⟨e16.pre, fun a o ha hn => ?_, e16.new⟩
          have hne : a ≠ L := fun z => by
            rw [z, hL] at ha
            cases ha
          rw [upd_ne hne]
          exact e16.old a o ha hn
        | false => exact ⟨μ5, st5, acc, accw, A5, e2.trans e45, hL5, L5, racc.go e45 A2.mu, h5⟩
  · have e : i = ws.length := by omega
    subst e
    rw [List.drop_length] at hc
    obtain ⟨kp, hc⟩ := hc
    obtain ⟨stop, _⟩ := hJ μ2 H2 st2 e2 A2 kp
    refine .inl ⟨stop, ?_⟩
    -- the list becomes a place of the store
    have A3 : Abs K mg (μ2 ++ [L]) H2 (st2 ++ [.lst accw]) := by
      refine ⟨by simp [A2.len], ?_, fun n a c q1 q2 => ?_⟩
      · rw [List.nodup_append]
        refine ⟨A2.nd, by simp, fun a ha b hb => ?_⟩
        rw [List.mem_singleton.mp hb]
        exact fun e => Lμ2 (e ▸ ha)
      · by_cases hn : n < μ2.length
        · rw [List.getElem?_append_left hn] at q1
          rw [List.getElem?_append_left (by rw [← A2.len]; exact hn)] at q2
          have z := A2.cell n a c q1 q2
          cases c with
          | lst us =>
            obtain ⟨ys, z1, z2⟩ := z
            exact ⟨ys, z1, Reps.imm (List.prefix_append _ _) (fun _ _ h _ => h) _ _ z2⟩
        · have en : n = μ2.length := by
            have := (List.getElem?_eq_some_iff.mp q1).1
            rw [List.length_append, List.length_singleton] at this
            omega
          subst en
          rw [List.getElem?_append_right (Nat.le_refl _), Nat.sub_self] at q1
          cases q1
          rw [A2.len, List.getElem?_append_right (Nat.le_refl _), Nat.sub_self] at q2
          cases q2
          exact ⟨acc, hL2, Reps.imm (List.prefix_append _ _) (fun _ _ h _ => h) _ _ racc⟩
    refine k _ _ _ _ _ hc A3 (e1.trans ⟨e2.pre.trans (List.prefix_append _ _), e2.old, fun a ha hn => ?_⟩) (loc_new A2)
    rcases List.mem_append.mp ha with ha | ha
    · exact e2.new a ha hn
    · rw [List.mem_singleton.mp ha]
      exact hL
end
end Dq

set_option Elab.async false
set_option linter.all false
set_option maxRecDepth 100000
set_option maxHeartbeats 2000000
/-! Dq6: every expression's reading gives what its run wants. -/
namespace Dq
open PySem PySem.Spec PyProof.Rows L2
section
variable {K : PySem.W.Frag} {mg : MW} {call : Cal} {cst : List D} {gv : Nat → V → Prop}
theorem okG_name (i : Nat) : OkG K mg [i] (gName i) fun w env st Q => Q (env.set i (some w)) st := fun μ H st σ env v w P Q A N r h k =>
  k _ _ st μ H h A .refl (N.set r) fun vs hv => wipe_set (hv i List.mem_cons_self)
theorem okGs_nil : OkGs K mg [] gNil fun ws env st Q => ws = [] ∧ Q env st := fun μ H st σ env vs ws P Q A N r h k => by
  obtain ⟨e, p⟩ := h
  subst e
  cases r
  exact ⟨rfl, k σ env st μ H p A .refl N fun _ _ => rfl⟩
theorem okGs_cons {s1 s2 : List Nat} {g : TG} {gs : TGs} {f : D → En → Sto → EK → Prop} {fs : List D → En → Sto → EK → Prop} (h1 : OkG K mg s1 g f) (h2 : OkGs K mg s2 gs fs) :
    OkGs K mg (s1 ++ s2) (gCons g gs) fun ws env st Q => ∃ w r, ws = w :: r ∧ f w env st fun env1 st1 => fs r env1 st1 Q := fun μ H st σ env vs ws P Q A N r h k => by
  obtain ⟨w, rr, e, h⟩ := h
  subst e
  cases r with
  | @cons v vr _ _ ra rb =>
    refine ⟨v, vr, rfl, h1 μ H st σ env v w _ _ A N ra h fun σ1 env1 st1 μ1 H1 p1 A1 e1 N1 w1 => ?_⟩
    refine h2 μ1 H1 st1 σ1 env1 vr rr P Q A1 N1 (rb.go e1 A.mu) p1 fun σ2 env2 st2 μ2 H2 p2 A2 e2 N2 w2 => ?_
    exact k σ2 env2 st2 μ2 H2 p2 A2 (e1.trans e2) N2 fun us hu => (w2 us fun i hi => hu i (List.mem_append_right _ hi)).trans (w1 us fun i hi => hu i (List.mem_append_left _ hi))
theorem okG_tup {s : List Nat} {n : Nat} {gs : TGs} {fs : List D → En → Sto → EK → Prop} (h : OkGs K mg s gs fs) :
    OkG K mg s (gTup K n gs) fun w env st Q => ∃ ws, w = .tup ws ∧ ws.length = n ∧ fs ws env st Q := fun μ H st σ env v w P Q A N r p k => by
  obtain ⟨ws, e, hn, p⟩ := p
  subst e
  cases r with
  | @tup a xs ws hs hr => exact ⟨a, xs, rfl, hs, hr.length.trans hn, h μ H st σ env xs ws P Q A N hr p k⟩
theorem okG_sub {to ti : TE} {fo fi : WE} (ho : OkE K mg to fo) (hi : OkE K mg ti fi) : OkG K mg [] (gSub to ti rSetL) fun w env st Q => fo env st fun x st1 => fi env st1 fun y st2 => setW st2 x y w fun st3 => Q env st3 := fun μ H st σ env v w P Q A N r p k => by
  refine ho μ H st σ env _ _ A N p fun vx x st1 μ1 H1 p1 A1 e1 r1 => ?_
  refine hi μ1 H1 st1 σ env _ _ A1 (N.go e1 A.mu) p1 fun vy y st2 μ2 H2 p2 A2 e2 r2 => ?_
  refine set_ok A2 (r1.go e2 A1.mu) r2 ((r.go e1 A.mu).go e2 A1.mu) p2 fun st3 μ3 H3 p3 A3 e3 => ?_
  exact k σ env st3 μ3 H3 p3 A3 ((e1.trans e2).trans e3) (((N.go e1 A.mu).go e2 A1.mu).go e3 A2.mu) fun _ _ => rfl
theorem okI_exp {te : TE} {fe : WE} (he : OkE K mg te fe) : OkI K mg (iSeq K te) fun env st Q => fe env st fun x st1 => seqW st1 x fun ws k => Q ws k st1 := fun μ H st σ env P R A N h k => by
  refine he μ H st σ env _ _ A N h fun vx x st1 μ1 H1 h1 A1 e1 r1 => ?_
  exact seq_ok A1 r1 h1 fun ws keep J p hJ => k ws keep st1 μ1 H1 J p A1 e1 hJ
theorem okI_range1 {te : TE} {fe : WE} (he : OkE K mg te fe) : OkI K mg (iRng1 (tCons te tNil)) fun env st Q => fe env st fun x st1 => ∃ j : Int, x = .int j ∧ -(2 ^ 62) ≤ j ∧ j < 2 ^ 62 ∧ Q ((List.range j.toNat).map fun (k : Nat) => .int k) none st1 := fun μ H st σ env P R A N h k => by
  refine he μ H st σ env _ _ A N h fun vx x st1 μ1 H1 h1 A1 e1 r1 => ?_
  obtain ⟨j, rfl, b1, b2, p⟩ := h1
  cases r1
  refine ⟨j, rfl, b1, b2, k _ _ st1 μ1 H1 _ p A1 e1 ?_⟩
  have z := range_ok (K := K) (mg := mg) (μ := μ1) (H := H1) 0 j.toNat
  simpa using z
theorem okI_range2 {ta tb : TE} {fa fb : WE} (ha : OkE K mg ta fa) (hb : OkE K mg tb fb) : OkI K mg (iRng2 (tCons ta (tCons tb tNil))) fun env st Q => fa env st fun x st1 => fb env st1 fun y st2 => ∃ i j : Int, x = .int i ∧ y = .int j ∧ (-(2 ^ 62) ≤ i ∧ i < 2 ^ 62 ∧ -(2 ^ 62) ≤ j ∧ j < 2 ^ 62) ∧
      Q ((List.range (j - i).toNat).map fun (k : Nat) => .int (i + k)) none st2 := fun μ H st σ env P R A N h k => by
  refine ha μ H st σ env _ _ A N h fun vx x st1 μ1 H1 h1 A1 e1 r1 => ?_
  refine hb μ1 H1 st1 σ env _ _ A1 (N.go e1 A.mu) h1 fun vy y st2 μ2 H2 h2 A2 e2 r2 => ?_
  obtain ⟨i, j, rfl, rfl, b, p⟩ := h2
  cases r1
  cases r2
  exact ⟨i, j, rfl, b, k _ _ st2 μ2 H2 _ p A2 (e1.trans e2) (range_ok i (j - i).toNat)⟩
theorem okE_chain {r r' : R2} {f g : Sto → D → D → (Bool → Prop) → Prop} {ta tb tc : TE} {fa fb fc : WE} (ha : OkE K mg ta fa) (hb : OkE K mg tb fb) (hc : OkE K mg tc fc)
    (hr : Ok2 K mg r fun st x y Q => f st x y fun b => Q (.bl b) st) (hr' : Ok2 K mg r' fun st x y Q => g st x y fun b => Q (.bl b) st) (mono : ∀ st x y (P Q : Bool → Prop), (∀ b, P b → Q b) → f st x y P → f st x y Q) :
    OkE K mg (tChain r r' ta tb tc) fun env st Q => fa env st fun x st1 => fb env st1 fun y st2 => f st2 x y fun b => if b = true then fc env st2 fun z st3 => g st3 y z fun b => Q (.bl b) st3 else Q (.bl false) st2 := fun μ H st σ env P Q A N h k => by
  refine ha μ H st σ env _ _ A N h fun vx x st1 μ1 H1 h1 A1 e1 r1 => ?_
  refine hb μ1 H1 st1 σ env _ _ A1 (N.go e1 A.mu) h1 fun vy y st2 μ2 H2 h2 A2 e2 r2 => ?_
  have N2 := (N.go e1 A.mu).go e2 A1.mu
  refine hr μ2 H2 st2 vx vy x y (fun w st3 => ∃ b, w = .bl b ∧ st3 = st2 ∧ if b = true then fc env st2 fun z st3 => g st3 y z fun b => P (.bl b) st3 else P (.bl false) st2) _ A2 (r1.go e2 A1.mu) r2 (mono _ _ _ _ _ (fun b q => ⟨b, rfl, rfl, q⟩) h2) fun v w st3 μ3 H3 h3 A3 e3 r3 => ?_
  obtain ⟨b, rfl, rfl, q⟩ := h3
  cases r3
  refine ⟨b, rfl, ?_⟩
  cases b with
  | true =>
    refine hc μ3 H3 _ σ env _ _ A3 (N2.go e3 A2.mu) q fun vz z st4 μ4 H4 h4 A4 e4 r4 => ?_
    exact hr' μ4 H4 st4 vy vz y z P Q A4 ((r2.go e3 A2.mu).go e4 A3.mu) r4 h4 fun v w st5 μ5 H5 p5 A5 e5 r5 => k v w st5 μ5 H5 p5 A5 ((((e1.trans e2).trans e3).trans e4).trans e5) r5
  | false => exact k _ _ _ _ _ q A3 ((e1.trans e2).trans e3) (.bl false)
theorem eqW_mono {st : Sto} {x y : D} {P Q : Bool → Prop} (h : ∀ b, P b → Q b) (p : eqW st x y P) : eqW st x y Q := by
  rcases p with ⟨a, p⟩ | ⟨k, d, e, a, b, c, f, p⟩
  · exact .inl ⟨a, h _ p⟩
  · exact .inr ⟨k, d, e, a, b, c, f, h _ p⟩
theorem inW_mono {st : Sto} {x y : D} {P Q : Bool → Prop} (h : ∀ b, P b → Q b) (p : inW st x y P) : inW st x y Q := by
  cases y with
  | str s => exact let ⟨c, a, p⟩ := p; ⟨c, a, h _ p⟩
  | tup ws => exact ⟨p.1, p.2.1, h _ p.2.2⟩
  | flst ws => exact ⟨p.1, p.2.1, h _ p.2.2⟩
  | loc n => exact let ⟨ws, a, b, c, p⟩ := p; ⟨ws, a, b, c, h _ p⟩
  | dic ks ws => exact let ⟨s, a, p⟩ := p; ⟨s, a, h _ p⟩
  | _ => exact p
theorem cmpW_mono (o : CmpOp) (st : Sto) (x y : D) (P Q : Bool → Prop) (h : ∀ b, P b → Q b) (p : cmpW st o x y P) : cmpW st o x y Q := by
  cases o with
  | Eq => exact eqW_mono h p
  | NotEq => exact eqW_mono (fun b => h _) p
  | In => exact inW_mono h p
  | NotIn => exact inW_mono (fun b => h _) p
  | Is => cases y <;> first | exact h _ p | (cases x <;> exact False.elim p)
  | IsNot => cases y <;> first | exact h _ p | (cases x <;> exact False.elim p)
  | _ => cases x <;> cases y <;> first | exact h _ p | exact False.elim p
theorem okE_mth (m : Mt) {to : TE} {fo : WE} {ta : TA} {fa : WA} (ho : OkE K mg to fo) (ha : OkA K mg ta fa) : OkE K mg (tBM K (tyMth m) (rMth K m) to ta) fun env st Q => fo env st fun x st1 => mthTy st1 m x ∧ fa env st1 fun xs st2 => mthW st2 m x xs Q := fun μ H st σ env P Q A N h k => by
  refine ho μ H st σ env _ _ A N h fun vx x st1 μ1 H1 h1 A1 e1 r1 => ⟨tyMth_ok m A1 r1 h1.1, ?_⟩
  refine ha μ1 H1 st1 σ env _ _ A1 (N.go e1 A.mu) h1.2 fun vs xs st2 μ2 H2 h2 A2 e2 r2 => ?_
  exact rMth_ok m A2 (r1.go e2 A1.mu) r2 h2 fun v w st3 μ3 H3 p A3 e3 r3 => k v w st3 μ3 H3 p A3 ((e1.trans e2).trans e3) r3
theorem okE_isi (t : Ty) {te : TE} {fe : WE} (he : OkE K mg te fe) : OkE K mg (tCB (rIsi K) (tCons te (tCons (tC (.ty t.nm)) tNil))) fun env st Q => fe env st fun x st1 => ∃ b, isiB x t = some b ∧ Q (.bl b) st1 := fun μ H st σ env P Q A N h k => by
  refine he μ H st σ env _ _ A N h fun vx x st1 μ1 H1 h1 A1 e1 r1 => ?_
  obtain ⟨b, hb, p⟩ := h1
  obtain ⟨ty, hx, hk⟩ := tyX_of r1 hb
  exact ⟨vx, .ty t.nm, .type ty, .type t.nm, b, rfl, .ty _, hx, kit_ty hk, k _ _ st1 μ1 H1 p A1 e1 (.bl b)⟩
theorem okE_dget {to ta tb : TE} {fo fa fb : WE} (ho : OkE K mg to fo) (ha : OkE K mg ta fa) (hb : OkE K mg tb fb) : OkE K mg (tKGet K mg.w to ta tb) fun env st Q => fo env st fun x st1 => ∃ ks ws, x = .dic ks ws ∧ fa env st1 fun y st2 => fb env st2 fun z st3 => ∃ k, y = .str k ∧ ((∃ w, dicL ks ws k = some w ∧ Q w st3) ∨ (dicL ks ws k = none ∧ Q z st3)) := fun μ H st σ env P Q A N h k => by
  refine ho μ H st σ env _ _ A N h fun vx x st1 μ1 H1 h1 A1 e1 r1 => ?_
  obtain ⟨ks, ws, rfl, h1⟩ := h1
  cases r1 with
  | @dic a _ vs _ hd hr =>
    obtain ⟨⟨es, n, kd⟩, hl, hin, hout⟩ := hd
    refine ⟨a, es, n, rfl, kd, ha μ1 H1 st1 σ env _ _ A1 (N.go e1 A.mu) h1 fun vy y st2 μ2 H2 h2 A2 e2 r2 => ?_⟩
    have N2 := (N.go e1 A.mu).go e2 A1.mu
    refine hb μ2 H2 st2 σ env _ _ A2 N2 h2 fun vz z st3 μ3 H3 h3 A3 e3 r3 => ?_
    obtain ⟨s, rfl, h3⟩ := h3
    cases r2
    have hr3 := (hr.go e2 A1.mu).go e3 A2.mu
    refine ⟨_, rfl, ?_⟩
    rcases h3 with ⟨w, hw, p⟩ | ⟨hw, p⟩
    · obtain ⟨i, v, g1, g2, rv⟩ := dic_get (a := a) (w := mg.w) hr3 hl hw
      obtain ⟨u, hu, ru⟩ := hin i s v g1 g2
      exact .inl ⟨u, v, hu, ru, k v w st3 μ3 H3 p A3 ((e1.trans e2).trans e3) rv⟩
    · exact .inr ⟨hout s (dic_none (by rw [hl]; exact hr.length) hw), k vz z st3 μ3 H3 p A3 ((e1.trans e2).trans e3) r3⟩
theorem imm_rep {w : D} (h : immD w = true) (μ : List Addr) (H : Hp) : Rep K mg μ H (vOf w) w := by
  cases w with
  | non => exact .non
  | bl b => exact .bl b
  | int i => exact .int i
  | str s => exact .str s
  | _ => cases h
def kvsD : List (List Nat) → List D → List (Key × V)
  | k :: ks, w :: ws => (Sum.inr ⟨k.toArray⟩, vOf w) :: kvsD ks ws
  | _, _ => []
theorem kvs_len : ∀ (ks : List (List Nat)) (ws : List D), (kvsD ks ws).length ≤ ks.length
  | [], _ => by simp [kvsD]
  | _ :: _, [] => by simp [kvsD]
  | _ :: ks, _ :: ws => by
    have := kvs_len ks ws
    simp [kvsD]
    omega
theorem pairsD {σ : L2.St} : ∀ (ks : List (List Nat)) (ws : List D) {H : Hp} {Q : List (V × V) → Hp → Prop}, ws.all immD = true → Q ((kvsD ks ws).map fun kv => (kV kv.1, kv.2)) H → tPairs (trsD ks ws) σ H Q
  | [], _, _, _, _, q => by
    simpa [kvsD, trsD, tPairs] using q
  | _ :: _, [], _, _, _, q => by
    simpa [kvsD, trsD, tPairs] using q
  | k :: ks, w :: ws, H, Q, h, q => by
    rw [List.all_cons, Bool.and_eq_true] at h
    unfold trsD
    show tImm w σ H _
    unfold tImm
    rw [if_pos h.1]
    exact pairsD ks ws h.2 q
theorem kv_no {k : List Nat} : ∀ {ks : List (List Nat)} {ws : List D}, k ∉ ks → ∀ p ∈ kvsD ks ws, p.1 ≠ Sum.inr (⟨k.toArray⟩ : Str)
  | [], _, _, p, hp => by simp [kvsD] at hp
  | _ :: _, [], _, p, hp => by simp [kvsD] at hp
  | j :: ks, w :: ws, h, p, hp => by
    unfold kvsD at hp
    rcases List.mem_cons.mp hp with e | hp
    · subst e
      intro e2
      injection e2 with e3
      have e4 : j = k := congrArg (fun x : Str => x.cps.toList) e3
      exact h (by rw [e4]; exact List.mem_cons_self)
    · exact kv_no (fun m => h (List.mem_cons_of_mem _ m)) p hp
theorem putK_new {kvs : List (Key × V)} {k : Key} {v : V} (h : ∀ p ∈ kvs, p.1 ≠ k) : putK kvs k v = kvs ++ [(k, v)] := by
  unfold putK
  rw [if_neg]
  intro e
  rw [List.any_eq_true] at e
  obtain ⟨p, hp, e⟩ := e
  exact h p hp (of_decide_eq_true e)
theorem mergeK_all : ∀ (ks : List (List Nat)) (ws : List D) (kvs : List (Key × V)), ks.Nodup → (∀ k ∈ ks, ∀ p ∈ kvs, p.1 ≠ Sum.inr (⟨k.toArray⟩ : Str)) → mergeK kvs (kvsD ks ws) = kvs ++ kvsD ks ws
  | [], _, kvs, _, _ => by simp [kvsD, mergeK]
  | _ :: _, [], kvs, _, _ => by simp [kvsD, mergeK]
  | k :: ks, w :: ws, kvs, hn, hk => by
    rw [List.nodup_cons] at hn
    unfold kvsD
    show mergeK (putK kvs (Sum.inr ⟨k.toArray⟩) (vOf w)) (kvsD ks ws) = _
    rw [putK_new (hk k List.mem_cons_self), mergeK_all ks ws _ hn.2, List.append_assoc]
    · rfl
    · intro j hj p hp
      rcases List.mem_append.mp hp with hp | hp
      · exact hk j (List.mem_cons_of_mem _ hj) p hp
      · rw [List.mem_singleton.mp hp]
        intro e2
        injection e2 with e3
        have e4 : k = j := congrArg (fun x : Str => x.cps.toList) e3
        exact hn.1 (by rw [e4]; exact hj)
theorem valD {k : List Nat} {w : D} : ∀ {ks : List (List Nat)} {ws : List D}, dicL ks ws k = some w → valV (kvsD ks ws) (Sum.inr (⟨k.toArray⟩ : Str)) = some (vOf w) ∧ w ∈ ws
  | [], _, h => by simp [dicL] at h
  | _ :: _, [], h => by simp [dicL] at h
  | j :: ks, x :: ws, h => by
    unfold dicL at h
    rw [List.zip_cons_cons, List.lookup_cons] at h
    unfold kvsD
    split at h
    · rename_i e
      have e : k = j := eq_of_beq e
      cases h
      subst e
      exact ⟨valV_pos rfl, List.mem_cons_self⟩
    · rename_i e
      have e : ¬ k = j := fun q => by rw [q, beq_self_eq_true] at e; cases e
      obtain ⟨a, b⟩ := valD (ks := ks) (ws := ws) h
      refine ⟨?_, List.mem_cons_of_mem _ b⟩
      rw [valV_neg]
      · exact a
      · intro e2
        injection e2 with e3
        have e4 : j = k := congrArg (fun x : Str => x.cps.toList) e3
        exact e e4.symm
theorem okE_dsel (ks : List (List Nat)) (ws : List D) {te : TE} {fe : WE} (he : OkE K mg te fe) : OkE K mg (tDGet (tDisp (trsD ks ws)) te) fun env st Q => dselOk ks ws = true ∧ fe env st fun x st1 => ∃ k w, x = .str k ∧ dicL ks ws k = some w ∧ Q w st1 := fun μ H st σ env P Q A N h k => by
  obtain ⟨h0, h⟩ := h
  unfold dselOk at h0
  simp only [Bool.and_eq_true, decide_eq_true_eq] at h0
  obtain ⟨h1, h2, h3, h4, h5⟩ := h0
  intro p hp
  refine pairsD ks ws h5 ⟨upd_same, kvsD ks ws, rfl, Nat.le_trans (kvs_len ks ws) h2, ?_⟩
  rw [mergeK_all ks ws [] h4 (by simp), List.nil_append]
  have e1 : Ext μ H μ (upd H p (.dK [])) := ext_new hp
  have e2 : Ext μ H μ (upd (upd H p (.dK [])) p (.dK (kvsD ks ws))) := ⟨List.prefix_refl _, fun a o e n => by
    rw [upd_ne (ne_of_none e hp), upd_ne (ne_of_none e hp)]
    exact e, fun _ h n => absurd h n⟩
  have A2 : Abs K mg μ (upd (upd H p (.dK [])) p (.dK (kvsD ks ws))) st := by
    refine ⟨A.len, A.nd, fun n a c h1 h2 => ?_⟩
    have z := A.cell n a c h1 h2
    cases c with
    | lst ws =>
      obtain ⟨xs, f1, f2⟩ := z
      exact ⟨xs, by rw [upd_ne (ne_of_none f1 hp), upd_ne (ne_of_none f1 hp)]; exact f1, f2.go e2 A.mu⟩
  have np : p ∉ μ := fun hm => by
    obtain ⟨o, e, _⟩ := A.mu p hm
    rw [hp] at e
    cases e
  refine he μ _ st σ env _ _ A2 (N.go e2 A.mu) h fun vy y st1 μ1 H1 h1 A1 e3 r1 => ?_
  obtain ⟨s, w, rfl, hw, q⟩ := h1
  cases r1
  obtain ⟨g1, g2⟩ := valD hw
  refine ⟨p, vOf w, rfl, ?_, k _ w st1 μ1 H1 q A1 (e2.trans e3) (imm_rep (List.all_eq_true.mp h5 w g2) μ1 H1)⟩
  rw [← g1]
  exact DGet.k (k := Sum.inr _) (e3.old p _ upd_same np)
theorem spl_ok {μ : List Addr} {H : Hp} {st : Sto} {v : V} {w : D} {P : List D → Prop} {Q : List V → Prop} (A : Abs K mg μ H st) (r : Rep K mg μ H v w) (h : splW st w P) (k : ∀ vs ws, P ws → Reps K mg μ H vs ws → Q vs) : ∃ p xs, v = V.ref p ∧ (SqT K H p xs ∨ SqL K H p xs) ∧ Q xs := by
  cases r with
  | tup hs hr => exact ⟨_, _, rfl, .inl hs, k _ _ h hr⟩
  | flst hs hr => exact ⟨_, _, rfl, .inr hs.sq, k _ _ h hr⟩
  | loc hn =>
    obtain ⟨ws, e, p⟩ := h
    obtain ⟨xs, hx, hr⟩ := A.get hn e
    exact ⟨_, _, rfl, .inr (SqL.of hx), k _ _ p hr⟩
  | _ => exact False.elim h
theorem okA_star {te : TE} {fe : WE} {ta : TA} {fa : WA} (he : OkE K mg te fe) (ha : OkA K mg ta fa) : OkA K mg (StX.tStar K te ta) fun env st Q => fe env st fun x st1 => splW st1 x fun ys => fa env st1 fun xs st2 => Q (ys ++ xs) st2 := fun μ H st σ env P Q A N h k => by
  refine he μ H st σ env _ _ A N h fun vx x st1 μ1 H1 h1 A1 e1 r1 => ?_
  refine spl_ok A1 r1 h1 fun ys ws p rr => ?_
  refine ha μ1 H1 st1 σ env _ _ A1 (N.go e1 A.mu) p fun vs xs st2 μ2 H2 h2 A2 e2 r2 => ?_
  exact k _ _ st2 μ2 H2 h2 A2 (e1.trans e2) ((rr.go e2 A1.mu).append r2)
theorem okE_calls (f : Nat) {ta : TA} {fa : WA} (ha : OkA K mg ta fa) : OkE K mg (tCall (spD K mg (call f)) [] (fun _ _ _ => False) ta) fun env st Q => fa env st fun xs st1 => call f xs st1 Q := fun μ H st σ env P Q A N h k => by
  refine ha μ H st σ env _ _ A N h fun vs xs st1 μ1 H1 h1 A1 e1 r1 => ?_
  show spD K mg (call f) (vs ++ []) H1 Q _
  rw [List.append_nil]
  exact ⟨μ1, st1, xs, P, A1, r1, h1, fun v w st2 μ2 H2 p A2 e2 r2 => k v w st2 μ2 H2 p A2 (e1.trans e2) r2⟩
theorem okE_never {f : WE} (h : ∀ env st Q, ¬ f env st Q) : OkE K mg (fun _ _ _ => False) f := fun μ H st σ env P Q A N p k => h env st P p
variable (hgv : ∀ k w, cst[k]? = some w → (∃ v, gv k v) ∧ ∀ v, gv k v → ∀ μ H, Rep K mg μ H v w)
include hgv
mutual
theorem okE : ∀ e : E, OkE K mg (rdE K mg call gv e) (wpE call cst e)
  | .var i => okE_var i
  | .cst w => fun μ H st σ env P Q A N p k => by
    show (if immD w = true then tC (vOf w) else fun _ _ _ => False) σ H Q
    rw [if_pos p.1]
    exact k _ w st μ H p.2 A .refl (imm_rep p.1 μ H)
  | .glob j => fun μ H st σ env P Q A N p k => by
    obtain ⟨w, e, p⟩ := p
    obtain ⟨h1, h2⟩ := hgv j w e
    exact ⟨h1.choose, h1.choose_spec, fun v hv => k v w st μ H p A .refl (h2 v hv μ H)⟩
  | .bin op a b => okE_op (okE a) (okE b) (rBin_ok op)
  | .neg a => okE_neg (okE a)
  | .cmp op a b => okE_op (okE a) (okE b) (rCmp_ok op)
  | .chain o p a b c => okE_chain (okE a) (okE b) (okE c) (rCmp_ok o) (rCmp_ok p) (cmpW_mono o)
  | .band a b => okE_and (okE a) (okE b)
  | .bor a b => okE_or (okE a) (okE b)
  | .bnot a => okE_not (okE a)
  | .ife c a b => okE_if (okT c) (okE a) (okE b)
  | .tup es => okE_tup (okEs es)
  | .lst es => okE_lst (okEs es)
  | .idx a b => okE_op (okE a) (okE b) idx_ok
  | .slc a lo hi => okE_slc (okE a) (okEo lo) (okEo hi)
  | .call f es => okE_calls f (okEs es)
  | .blt f es => okE_call (okEs es) (rBlt_ok f)
  | .isi a t => okE_isi t (okE a)
  | .dsel ks ws e => okE_dsel ks ws (okE e)
  | .dget o a b => okE_dget (okE o) (okE a) (okE b)
  | .mth m o es => okE_mth m (okE o) (okEs es)
  | .comp own elt t it c => fun μ H st σ env P Q A N p k => by
    show (if (slT t).all (own.contains ·) = true then tLc (rdI K mg call gv it) (rdG K mg call gv t) (rdTeo K mg call gv c) (rdE K mg call gv elt) own else fun _ _ _ => False) σ H Q
    rw [if_pos p.1]
    exact okE_comp (okI it) (okG t) (fun i hi => by simpa using List.all_eq_true.mp p.1 i hi) (okTeo c) (okE elt) μ H st σ env P Q A N p.2 k
theorem okEo : ∀ e : Eo, OkO K mg (rdEo K mg call gv e) (wpEo call cst e)
  | .no => okO_no
  | .yes e => okO_yes (okE e)
theorem okEs : ∀ e : Es, OkA K mg (rdEs K mg call gv e) (wpEs call cst e)
  | .nil => okA_nil
  | .cons e es => okA_cons (okE e) (okEs es)
  | .star e es => okA_star (okE e) (okEs es)
theorem okT : ∀ e : Te, OkT K mg (rdT K mg call gv e) (wpT call cst e)
  | .val e => okT_tru (okE e)
  | .tst e => okT_test (okE e)
  | .and_ a b => okT_and (okT a) (okT b)
  | .or_ a b => okT_or (okT a) (okT b)
  | .not_ a => okT_not (okT a)
theorem okTeo : ∀ e : Teo, OkT K mg (rdTeo K mg call gv e) (wpTeo call cst e)
  | .no => fun μ H st σ env P Q A N p k => k true st μ H p A .refl
  | .yes e => okT e
theorem okG : ∀ t : T, OkG K mg (slT t) (rdG K mg call gv t) (wpTg call cst t)
  | .name i => okG_name i
  | .tup ts => okG_tup (okGs ts)
  | .sub o i => okG_sub (okE o) (okE i)
theorem okGs : ∀ t : Ts, OkGs K mg (slTs t) (rdGs K mg call gv t) (wpTgs call cst t)
  | .nil => okGs_nil
  | .cons t ts => okGs_cons (okG t) (okGs ts)
theorem okI : ∀ i : I, OkI K mg (rdI K mg call gv i) (wpI call cst i)
  | .exp e => okI_exp (okE e)
  | .range1 a => okI_range1 (okE a)
  | .range2 a b => okI_range2 (okE a) (okE b)
end
end
end Dq

set_option Elab.async false
set_option linter.all false
set_option maxRecDepth 100000
set_option maxHeartbeats 2000000
/-! Dq7: from the program's text to the language, expressions. -/
namespace Dq
open PySem PySem.Spec PyProof.Rows L2

/-! ### names -/
def ixOf : List Str → Str → Option Nat
  | [], _ => none
  | y :: r, x => if x = y then some 0 else (ixOf r x).map (· + 1)
theorem ixOf_ok : ∀ {N : List Str} {x : Str} {i : Nat}, ixOf N x = some i → N[i]? = some x
  | [], _, _, h => by cases h
  | y :: r, x, i, h => by
    unfold ixOf at h
    by_cases e : x = y
    · rw [if_pos e] at h
      cases h
      rw [e] <;> rfl
    · rw [if_neg e] at h
      cases q : ixOf r x with
      | none =>
        rw [q] at h
        cases h
      | some j =>
        rw [q] at h
        cases h
        have z := ixOf_ok q
        exact z
structure Gm where
  fnames : List Str
  cnames : List Str
  free : List Str
structure CC where
  N : List Str
  sc : Scope
  G : Gm
def dbg (x : Str) : Bool := (x == ("__debug__" : Str)) || (x == ("__classdict__" : Str)) || (x == ("__name__" : Str))
theorem dbg_ok {x : Str} (h : dbg x = false) : (x == ("__debug__" : Str)) = false ∧ (x == ("__classdict__" : Str)) = false ∧ x ≠ "__name__" := by
  unfold dbg at h
  rw [Bool.or_eq_false_iff, Bool.or_eq_false_iff] at h
  exact ⟨h.1.1, h.1.2, fun e => by rw [e] at h; simp at h⟩
inductive Nk where
  | own | glo | bad
def kindC (c : CC) (x : Str) : Nk := match c.sc.names.lookup x with
  | some .local => .own
  | some .cell => .own
  | some .free => .own
  | some .globalImplicit => .glo
  | _ => .bad
def bltOf (x : Str) : Option Bt :=
  if x = "len" then some .len else if x = "abs" then some .abs else if x = "max" then some .max else if x = "min" then some .min
  else if x = "int" then some .int else if x = "tuple" then some .tuple else if x = "list" then some .list else if x = "all" then some .all
  else if x = "any" then some .any else if x = "str" then some .str else if x = "sorted" then some .sorted else none
def tyOf (x : Str) : Option Ty := if x = "int" then some .int else if x = "str" then some .str else if x = "bool" then some .bool else if x = "tuple" then some .tuple else none
def mthOf (m : Str) (n : Nat) : Option Mt :=
  if m = "append" ∧ n = 1 then some .append else if m = "pop" ∧ n = 0 then some .pop else if m = "join" ∧ n = 1 then some .join else if m = "extend" ∧ n = 1 then some .extend else if m = "split" ∧ n = 1 then some .split else if m = "partition" ∧ n = 1 then some .partition
  else if m = "startswith" ∧ n = 1 then some .startswith else if m = "removeprefix" ∧ n = 1 then some .removeprefix else none

/-! ### the text's forms -/
def noStar : Expr → Bool
  | .Starred _ _ => false
  | _ => true
def plainIx : Expr → Bool
  | .Slice _ _ _ _ => false
  | _ => true
def noCall : Expr → Bool
  | .Call _ _ _ _ => false
  | _ => true
def noSet : Expr → Bool
  | .Set _ _ _ => false
  | _ => true
def noComp : Expr → Bool
  | .ListComp _ _ _ _ => false
  | .SetComp _ _ _ _ => false
  | .DictComp _ _ _ _ _ => false
  | _ => true
structure Cp where
  e : CC → Expr → Option E
  t : CC → Expr → Option Te
  g : CC → Expr → Option T
def cArgs (f : Expr → Option E) : List Expr → Option Es
  | [] => some .nil
  | a :: es => if noStar a = true then (f a).bind fun a' => (cArgs f es).bind fun es' => some (.cons a' es') else none
def cItems (f : Expr → Option E) : List Expr → Option Es
  | [] => some .nil
  | .Starred a _ :: es => (f a).bind fun a' => (cItems f es).bind fun es' => some (.star a' es')
  | a :: es => if noStar a = true then (f a).bind fun a' => (cItems f es).bind fun es' => some (.cons a' es') else none
def cTs (f : Expr → Option T) : List Expr → Option Ts
  | [] => some .nil
  | a :: es => if noStar a = true then (f a).bind fun a' => (cTs f es).bind fun es' => some (.cons a' es') else none
def cPart (f : Expr → Option E) : Option Expr → Option Eo
  | none => some .no
  | some e => (f e).bind fun e' => some (.yes e')
def isRange (c : CC) (x : Str) : Bool := decide (x = "range") && (match kindC c x with | .glo => true | _ => false) && c.G.free.contains x
def cI (r : Cp) (c : CC) (e : Expr) : Option I := match e with
  | .Call (.Name x _) [a] [] _ => if isRange c x = true then (if noStar a = true then (r.e c a).bind fun a' => some (.range1 a') else none) else (r.e c e).bind fun e' => some (.exp e')
  | .Call (.Name x _) [a, b] [] _ => if isRange c x = true then (if noStar a = true then (if noStar b = true then (r.e c a).bind fun a' => (r.e c b).bind fun b' => some (.range2 a' b') else none) else none) else (r.e c e).bind fun e' => some (.exp e')
  | e => if noSet e = true then (r.e c e).bind fun e' => some (.exp e') else none
def cCond (r : Cp) (c : CC) : List Expr → Option Teo
  | [] => some .no
  | [a] => (r.t c a).bind fun a' => some (.yes a')
  | _ => none
def ownOf (N : List Str) (sl : List Nat) : List (Str × Nat) := sl.map fun i => (N.getD i Str.empty, i)
def cComp (r : Cp) (c : CC) (elt tg iter : Expr) (ifs : List Expr) (scope : Scope) : Option E :=
  (cI r c iter).bind fun it => (r.g { c with sc := scope } tg).bind fun t => (r.e { c with sc := scope } elt).bind fun el => (cCond r { c with sc := scope } ifs).bind fun cd =>
    if blkC c.N c.sc scope (ownOf c.N (slT t)) = true then some (.comp (slT t) el t it cd) else none
def cCall (r : Cp) (c : CC) (x : Str) (args : List Expr) : Option E :=
  if dbg x = true then none else match kindC c x with
    | .glo => (match ixOf c.G.fnames x with
      | some k => (cArgs (r.e c) args).bind fun es => some (.call k es)
      | none => if c.G.free.contains x = true then (match args with
        | [a, .Name y _] => if x = "isinstance" then (if dbg y = true then none else match kindC c y with
            | .glo => if c.G.free.contains y = true then (if noStar a = true then (tyOf y).bind fun t => (r.e c a).bind fun a' => some (.isi a' t) else none) else none
            | _ => none)
          else (bltOf x).bind fun b => (cArgs (r.e c) args).bind fun es => some (.blt b es)
        | [] => none
        | _ => (bltOf x).bind fun b => (cArgs (r.e c) args).bind fun es => some (.blt b es)) else none)
    | _ => none
def cMth (r : Cp) (c : CC) (o : Expr) (m : Str) (apos : Pos) (args : List Expr) (pos : Pos) : Option E :=
  if noCall o = true then (if (apos.endLine == pos.line) = true then (if args.length < 20 then (mthOf m args.length).bind fun mt => (r.e c o).bind fun o' => (cArgs (r.e c) args).bind fun es => some (.mth mt o' es) else none) else none) else none
def dKeys : List (Option Expr) → Option (List (List Nat))
  | [] => some []
  | some (.Constant (.str s) _ _) :: r => (dKeys r).bind fun ks => some (s.cps.toList :: ks)
  | _ => none
def dVals : List Expr → Option (List D)
  | [] => some []
  | .Constant (.str s) _ _ :: r => (dVals r).bind fun ws => some (.str s.cps.toList :: ws)
  | .Constant (.int i) _ _ :: r => (dVals r).bind fun ws => some (.int i :: ws)
  | _ => none
def stE (r : Cp) (c : CC) : Expr → Option E
  | .Name x _ => if dbg x = true then none else match kindC c x with
    | .own => (ixOf c.N x).bind fun i => some (.var i)
    | .glo => (ixOf c.G.cnames x).bind fun k => some (.glob k)
    | .bad => none
  | .Constant (.int i) _ _ => some (.cst (.int i))
  | .Constant (.bool b) _ _ => some (.cst (.bl b))
  | .Constant .none _ _ => some (.cst .non)
  | .Constant (.str s) _ _ => some (.cst (.str s.cps.toList))
  | .BinOp a op b _ => (r.e c a).bind fun a' => (r.e c b).bind fun b' => some (.bin op a' b')
  | .UnaryOp .Not a _ => (r.e c a).bind fun a' => some (.bnot a')
  | .UnaryOp .USub a _ => (r.e c a).bind fun a' => some (.neg a')
  | .BoolOp _ [a] _ => r.e c a
  | .BoolOp .And (a :: b :: rest) pos => (r.e c a).bind fun a' => (r.e c (.BoolOp .And (b :: rest) pos)).bind fun b' => some (.band a' b')
  | .BoolOp .Or (a :: b :: rest) pos => (r.e c a).bind fun a' => (r.e c (.BoolOp .Or (b :: rest) pos)).bind fun b' => some (.bor a' b')
  | .Compare a [op] [b] _ => if noSet b = true then (r.e c a).bind fun a' => (r.e c b).bind fun b' => some (.cmp op a' b') else none
  | .Compare a [o, p] [b, d] _ => if noSet d = true then (r.e c a).bind fun a' => (r.e c b).bind fun b' => (r.e c d).bind fun d' => some (.chain o p a' b' d') else none
  | .IfExp t a b _ => (r.t c t).bind fun t' => (r.e c a).bind fun a' => (r.e c b).bind fun b' => some (.ife t' a' b')
  | .Tuple es _ _ => (cItems (r.e c) es).bind fun es' => some (.tup es')
  | .List es _ => (cItems (r.e c) es).bind fun es' => some (.lst es')
  | .Subscript a (.Slice lo hi none _) _ => (r.e c a).bind fun a' => (cPart (r.e c) lo).bind fun lo' => (cPart (r.e c) hi).bind fun hi' => some (.slc a' lo' hi')
  | .Subscript (.Dict keys vals _) b _ => if plainIx b = true then (dKeys keys).bind fun ks => (dVals vals).bind fun ws => if dselOk ks ws = true then (r.e c b).bind fun b' => some (.dsel ks ws b') else none else none
  | .Subscript a b _ => if plainIx b = true then (r.e c a).bind fun a' => (r.e c b).bind fun b' => some (.idx a' b') else none
  | .Call (.Name x _) args [] _ => cCall r c x args
  | .Call (.Attribute o m apos) [a, b] [] pos => if m = "get" then (if noCall o = true then (if (apos.endLine == pos.line) = true then (if noStar a = true then (if noStar b = true then (r.e c o).bind fun o' => (r.e c a).bind fun a' => (r.e c b).bind fun b' => some (.dget o' a' b') else none) else none) else none) else none) else cMth r c o m apos [a, b] pos
  | .Call (.Attribute o m apos) args [] pos => cMth r c o m apos args pos
  | .ListComp elt [⟨tg, iter, ifs, 0⟩] scope _ => cComp r c elt tg iter ifs scope
  | _ => none
def stT (r : Cp) (c : CC) : Expr → Option Te
  | .BoolOp _ [a] _ => r.t c a
  | .BoolOp .And (a :: b :: rest) pos => (r.t c a).bind fun a' => (r.t c (.BoolOp .And (b :: rest) pos)).bind fun b' => some (.and_ a' b')
  | .BoolOp .Or (a :: b :: rest) pos => (r.t c a).bind fun a' => (r.t c (.BoolOp .Or (b :: rest) pos)).bind fun b' => some (.or_ a' b')
  | .UnaryOp .Not a _ => (r.t c a).bind fun a' => some (.not_ a')
  | .Compare a [op] [b] _ => if noSet b = true then (r.e c a).bind fun a' => (r.e c b).bind fun b' => some (.tst (.cmp op a' b')) else none
  | .Compare a [o, p] [b, d] _ => if noSet d = true then (r.e c a).bind fun a' => (r.e c b).bind fun b' => (r.e c d).bind fun d' => some (.tst (.chain o p a' b' d')) else none
  | .Name x p => (r.e c (.Name x p)).bind fun e' => some (.val e')
  | .Constant k j p => (r.e c (.Constant k j p)).bind fun e' => some (.val e')
  | .Call f a k p => (r.e c (.Call f a k p)).bind fun e' => some (.val e')
  | .Subscript a b p => (r.e c (.Subscript a b p)).bind fun e' => some (.val e')
  | .BinOp a o b p => (r.e c (.BinOp a o b p)).bind fun e' => some (.val e')
  | _ => none
def stG (r : Cp) (c : CC) : Expr → Option T
  | .Name x _ => match c.sc.names.lookup x with
    | some .local => (ixOf c.N x).bind fun i => some (.name i)
    | some .cell => (ixOf c.N x).bind fun i => some (.name i)
    | _ => none
  | .Tuple ts _ _ => (cTs (r.g c) ts).bind fun ts' => some (.tup ts')
  | .Subscript o i _ => if plainIx i = true then (r.e c o).bind fun o' => (r.e c i).bind fun i' => some (.sub o' i') else none
  | _ => none
def cp : Nat → Cp
  | 0 => ⟨fun _ _ => none, fun _ _ => none, fun _ _ => none⟩
  | n + 1 => ⟨stE (cp n), stT (cp n), stG (cp n)⟩

/-! ### the context -/
def mgN (w : World) (G : Gm) (mg : Str → Option Value) : MW := ⟨fun k => (G.fnames[k]?).bind mg, w⟩
def gvN (G : Gm) (mg : Str → Option Value) : Nat → V → Prop := fun k v => ∃ x u, G.cnames[k]? = some x ∧ mg x = some u ∧ RelV v u
structure XG (call : Cal) (n : Nat) (c : CC) (X : Cx) : Prop where
  calm : X.calm = true
  hN : X.N = c.N
  nd : X.N.Nodup
  room : Room n X.A
  xe : X.xe = fun _ _ => False
  own : ∀ x k, c.sc.names.lookup x = some k → k = .local ∨ k = .cell ∨ k = .free → Vis X.env.scope x
  sto : ∀ x, c.sc.names.lookup x = some .local ∨ c.sc.names.lookup x = some .cell → Loc X.env.scope x ∧ (X.fn x = true ∨ X.env.scope.names.lookup x = some .local)
  loc : ∀ x, c.sc.names.lookup x = some .local → X.env.scope.names.lookup x = some .local
  fre : ∀ x, c.sc.names.lookup x = some .cell ∨ c.sc.names.lookup x = some .free → X.env.scope.names.lookup x = some .cell ∨ X.env.scope.names.lookup x = some .free
  glo : ∀ x, c.sc.names.lookup x = some .globalImplicit → Gl X x
  cst : ∀ (k : Nat) (x : Str), c.G.cnames[k]? = some x → ∃ u v, X.mg x = some u ∧ RelV v u
  bfr : ∀ x, c.G.free.contains x = true → X.mg x = none
  fns : ∀ (k : Nat) (f : Str), c.G.fnames[k]? = some f → ∃ a fd ps, X.mg f = some (.ref a) ∧ PySem.W.keepIn X.K (.ref a) = true ∧ Binds X.K fd ps [] ∧ FnOk X.prog X.w X.K X.mg X.base CX0 n a fd ps (spD X.K (mgN X.w c.G X.mg) (call k))
abbrev rE (call : Cal) (c : CC) (X : Cx) : E → TE := rdE X.K (mgN X.w c.G X.mg) call (gvN c.G X.mg)
abbrev rEs (call : Cal) (c : CC) (X : Cx) : Es → TA := rdEs X.K (mgN X.w c.G X.mg) call (gvN c.G X.mg)
abbrev rEo (call : Cal) (c : CC) (X : Cx) : Eo → TO := rdEo X.K (mgN X.w c.G X.mg) call (gvN c.G X.mg)
abbrev rT (call : Cal) (c : CC) (X : Cx) : Te → TT := rdT X.K (mgN X.w c.G X.mg) call (gvN c.G X.mg)
abbrev rTo (call : Cal) (c : CC) (X : Cx) : Teo → TT := rdTeo X.K (mgN X.w c.G X.mg) call (gvN c.G X.mg)
abbrev rG (call : Cal) (c : CC) (X : Cx) : T → TG := rdG X.K (mgN X.w c.G X.mg) call (gvN c.G X.mg)
abbrev rGs (call : Cal) (c : CC) (X : Cx) : Ts → TGs := rdGs X.K (mgN X.w c.G X.mg) call (gvN c.G X.mg)
abbrev rI (call : Cal) (c : CC) (X : Cx) : I → TI := rdI X.K (mgN X.w c.G X.mg) call (gvN c.G X.mg)
/-- the texts' forms keep their promises -/
structure CpOk (r : Cp) : Prop where
  e : ∀ (call : Cal) (n : Nat) (c : CC) (X : Cx) (a : Expr) (i : E), XG call n c X → r.e c a = some i → PE X a (rE call c X i)
  t : ∀ (call : Cal) (n : Nat) (c : CC) (X : Cx) (a : Expr) (i : Te), XG call n c X → r.t c a = some i → PT X a (rT call c X i) ∧ ((∃ o vs p, a = .BoolOp o vs p) → PW X a (rT call c X i))
  g : ∀ (call : Cal) (n : Nat) (c : CC) (X : Cx) (a : Expr) (i : T), XG call n c X → r.g c a = some i → PG X a (rG call c X i)

/-! ### side conditions -/
theorem star_cons {a : Expr} {es : List Expr} {env : Env} (h : noStar a = true) : starEach (a :: es) env = (false, eval a env) :: starEach es env := by
  cases a <;> first | rfl | cases h
theorem bindS {α β : Type} {o : Option α} {f : α → Option β} {b : β} (h : o.bind f = some b) : ∃ a, o = some a ∧ f a = some b := Option.bind_eq_some_iff.mp h
theorem ifS {α : Type} {p : Prop} [Decidable p] {a : Option α} {b : α} (h : (if p then a else none) = some b) : p ∧ a = some b := by
  by_cases q : p
  · rw [if_pos q] at h
    exact ⟨q, h⟩
  · rw [if_neg q] at h
    cases h
theorem back_star {pos : Pos} : ∀ {l : List (Bool × Sem Value)}, (∀ x ∈ l, x.1 = false) → (backTo pos l).any (·.1) = false ∧ (backTo pos l).all (fun x => !x.1) = true
  | [], _ => ⟨rfl, rfl⟩
  | x :: l, h => by
    obtain ⟨h1, h2⟩ := back_star (pos := pos) (l := l) fun y hy => h y (List.mem_cons_of_mem _ hy)
    have hx := h x List.mem_cons_self
    obtain ⟨b, t⟩ := x
    have hb : b = false := hx
    subst hb
    constructor
    · show (false || (backTo pos l).any (·.1)) = false
      rw [h1] <;> rfl
    · show (!false && (backTo pos l).all fun x => !x.1) = true
      rw [h2] <;> rfl
theorem stars_no {env : Env} : ∀ {es : List Expr}, es.all noStar = true → ∀ x ∈ starEach es env, x.1 = false
  | [], _, x, hx => by cases hx
  | a :: es, h, x, hx => by
    rw [List.all_cons, Bool.and_eq_true] at h
    rw [star_cons h.1] at hx
    rcases List.mem_cons.mp hx with e | hx
    · rw [e]
    · exact stars_no h.2 x hx
end Dq

set_option Elab.async false
set_option linter.all false
set_option maxRecDepth 100000
set_option maxHeartbeats 4000000
/-! Dq8: the text's expressions have the readings of the language's. -/
namespace Dq
open PySem PySem.Spec PyProof.Rows L2

section
variable {call : Cal} {n : Nat} {c : CC} {X : Cx} {r : Cp}
theorem PE.weak {X : Cx} {e : Expr} {t t' : TE} (h : PE X e t) (i : ∀ σ H Q, t' σ H Q → t σ H Q) : PE X e t' := ⟨fun pins s σ H Q I q => h.run pins s σ H Q I (i _ _ _ q)⟩
theorem kind_own {c : CC} {x : Str} (h : kindC c x = .own) : ∃ k, c.sc.names.lookup x = some k ∧ (k = .local ∨ k = .cell ∨ k = .free) := by
  unfold kindC at h
  split at h <;> first | exact ⟨_, by assumption, .inl rfl⟩ | exact ⟨_, by assumption, .inr (.inl rfl)⟩ | exact ⟨_, by assumption, .inr (.inr rfl)⟩ | cases h
theorem kind_glo {c : CC} {x : Str} (h : kindC c x = .glo) : c.sc.names.lookup x = some .globalImplicit := by
  unfold kindC at h
  split at h <;> first | assumption | cases h
theorem args_ok (hf : ∀ a i, r.e c a = some i → PE X a (rE call c X i)) : ∀ (es : List Expr) (i : Es), cArgs (r.e c) es = some i → PA X es (rEs call c X i) ∧ es.all noStar = true
  | [], i, h => by
    cases h
    exact ⟨pa_nil, rfl⟩
  | a :: es, i, h => by
    unfold cArgs at h
    obtain ⟨h0, h⟩ := ifS h
    obtain ⟨a', h1, h⟩ := bindS h
    obtain ⟨es', h2, h⟩ := bindS h
    cases h
    obtain ⟨p, q⟩ := args_ok hf es es' h2
    exact ⟨pa_cons (hf a a' h1) p (star_cons h0), by rw [List.all_cons, h0, q] <;> rfl⟩
theorem items_ok (hf : ∀ a i, r.e c a = some i → PE X a (rE call c X i)) : ∀ (es : List Expr) (i : Es), cItems (r.e c) es = some i → PA X es (rEs call c X i)
  | [], i, h => by
    cases h
    exact pa_nil
  | a :: es, i, h => by
    cases hs : noStar a with
    | false =>
      obtain ⟨b, p, rfl⟩ : ∃ b p, a = .Starred b p := by cases a <;> first | exact ⟨_, _, rfl⟩ | cases hs
      have h : ((r.e c b).bind fun a' => (cItems (r.e c) es).bind fun es' => some (Es.star a' es')) = some i := h
      obtain ⟨a', h1, h⟩ := bindS h
      obtain ⟨es', h2, h⟩ := bindS h
      cases h
      exact StX.pa_star (hf _ a' h1) (items_ok hf es es' h2)
    | true =>
      have h : (if noStar a = true then (r.e c a).bind fun a' => (cItems (r.e c) es).bind fun es' => some (Es.cons a' es') else none) = some i := by
        cases a <;> first | exact h | cases hs
      obtain ⟨h0, h⟩ := ifS h
      obtain ⟨a', h1, h⟩ := bindS h
      obtain ⟨es', h2, h⟩ := bindS h
      cases h
      exact pa_cons (hf _ a' h1) (items_ok hf es es' h2) (star_cons h0)
/-- d.get(key, other), d a dict of the module -/
theorem pe_kget {o a b : Expr} {to ta tb : TE} {apos cpos : Pos} (ho : PE X o to) (ha : PE X a ta) (hb : PE X b tb) (ha0 : noStar a = true) (hb0 : noStar b = true) (hbase : attributeBase o "get" X.env (eval o X.env) = eval o X.env) (hline : (apos.endLine == cpos.line) = true) :
    PE X (.Call (.Attribute o "get" apos) [a, b] [] cpos) (tKGet X.K X.w to ta tb) := by
  have hall : ([a, b] : List Expr).all noStar = true := by rw [List.all_cons, List.all_cons, ha0, hb0] <;> rfl
  have hst : starEach [a, b] X.env = (false, eval a X.env) :: starEach [b] X.env := star_cons ha0
  have hpl : (backTo cpos (starEach [b] X.env)).any (·.1) = false := (back_star (stars_no (by rw [List.all_cons, hb0] <;> rfl))).1
  refine ⟨fun pins s σ H Q I h => ?_⟩
  refine wpAny_Call_method hbase ?_ hline PySem.F.plainAttrs_dict PySem.F.slot_dict_get PySem.F.type_dict_get (thn (ho.run pins s σ H _ I h) fun u s1 ⟨x, H1, I1, rx, d, es, n, ex, kd, q1⟩ => ?_)
  · rw [(back_star (stars_no hall)).2]
    rfl
  subst ex
  obtain rfl : u = Value.ref d := rx
  have hm := PySem.W.mapOf_K (prog := X.prog) (w := X.w) I1.kIn kd.at_ kd.lit
  refine ⟨hm.typeIs, fun b' e => ?_, ?_⟩
  · cases e
    exact ⟨_, I1.kIn _ _ kd.at_, rfl⟩
  have hA := (pa_cons ha (pa_cons hb pa_nil (star_cons hb0)) hst).run cpos pins s1 σ H1 (fun vs H3 => match vs with
    | [y, z] => ∃ (k : Str), y = .str k ∧ ((∃ u v, PySem.W.nsIn X.K d k = some (some u) ∧ RelV v u ∧ Q v H3) ∨ (PySem.W.nsIn X.K d k = some none ∧ Q z H3))
    | _ => False) I1 q1
  · rw [hst] at hA ⊢
    refine Calls.callWith_builtin (by show (false || (backTo cpos (starEach [b] X.env)).any (·.1)) = false; rw [hpl] <;> rfl) (Calls.evalArgs_plain ?_)
    refine thn hA fun us s2 ⟨vs, H2, I2, r2, q2⟩ => ?_
    match vs, r2, q2 with
    | [y, z], r2, q2 =>
    obtain ⟨k, ey, q2⟩ := q2
    subst ey
    obtain ⟨u1, u2, rfl, r3, r4⟩ := vals2 r2
    obtain ⟨t, rfl⟩ := r3
    have hm2 := PySem.W.mapOf_K (prog := X.prog) (w := X.w) I2.kIn kd.at_ kd.lit
    rcases q2 with ⟨u, v, hu, rv, q⟩ | ⟨hu, q⟩
    · refine call_meetsIn PySem.F.slot_dict_get hm2.typeIs PySem.F.entry_dict_get (PySem.F.args_dict_get_3 _ _ _) (meets_dict_get_default (PySem.strKind X.prog X.w) d (PySem.strKind_is X.prog X.w k t) kd.low u2) ⟨_, hm2, v, H2, I2.tok _, ?_, q⟩
      rw [PySem.W.find_K kd.at_ hu]
      exact rv
    · refine call_meetsIn PySem.F.slot_dict_get hm2.typeIs PySem.F.entry_dict_get (PySem.F.args_dict_get_3 _ _ _) (meets_dict_get_default (PySem.strKind X.prog X.w) d (PySem.strKind_is X.prog X.w k t) kd.low u2) ⟨_, hm2, z, H2, I2.tok _, ?_, q⟩
      rw [PySem.W.find_K kd.at_ hu]
      exact r4
theorem part_ok (hf : ∀ a i, r.e c a = some i → PE X a (rE call c X i)) (o : Option Expr) (i : Eo) (h : cPart (r.e c) o = some i) : PO X o (rEo call c X i) := by
  cases o with
  | none =>
    cases h
    exact po_none
  | some e =>
    obtain ⟨e', h1, h⟩ := bindS h
    cases h
    exact po_some (hf e e' h1)
theorem behind_no {op : CmpOp} {b : Expr} (h : noSet b = true) : behindInMarks op b = false := by
  cases b <;> first | rfl | cases h
theorem plain_ix {b : Expr} (h : plainIx b = true) : PlainIx b := fun o i => by
  cases b <;> first | rfl | cases h
theorem nosl {b : Expr} (h : plainIx b = true) : NoSl b := fun o i => by
  cases b <;> first | rfl | cases h
theorem base_no {o : Expr} {m : Str} {env : Env} (h : noCall o = true) : attributeBase o m env (eval o env) = eval o env := by
  cases o <;> first | rfl | cases h
theorem fold_no {e : Expr} {env : Env} (h : noSet e = true) (x : Value) : foldedSetIterable e env x = pure x := by
  cases e <;> first | rfl | cases h
theorem tst_name {x : Str} {p : Pos} (w : Sem Value) : isTrue (.Name x p) X.env w = (do let v ← w; standAt (Expr.Name x p).pos; holding [v] (truthy v)) := by rfl

/-! ### calls of builtins -/
theorem blt_pe {x : Str} {b : Bt} {e : Expr} {es : List Expr} {t : TA} {p pos : Pos} (hb : bltOf x = some b) (hg : Gl X x) (hm : X.mg x = none) (hc : X.calm = true) (ha : PA X (e :: es) t) (hs : (e :: es).all noStar = true) (hd : dbg x = false) :
    PE X (.Call (.Name x p) (e :: es) [] pos) (tCB (rBlt X.K b) t) := by
  obtain ⟨d1, d2, d3⟩ := dbg_ok hd
  have h1 : starEach (e :: es) X.env = (false, eval e X.env) :: starEach es X.env := star_cons (by rw [List.all_cons, Bool.and_eq_true] at hs; exact hs.1)
  have h2 : (backTo pos (starEach es X.env)).any (·.1) = false := (back_star (stars_no (by rw [List.all_cons, Bool.and_eq_true] at hs; exact hs.2))).1
  unfold bltOf at hb
  by_cases e1 : x = "len"
  · subst e1
    rw [if_pos rfl] at hb
    cases hb
    exact pe_callB call_len hg hm boot_len ha d3 d1 h1 h2
  rw [if_neg e1] at hb
  by_cases e1 : x = "abs"
  · subst e1
    rw [if_pos rfl] at hb
    cases hb
    exact pe_callB call_abs hg hm (by decide +kernel) ha d3 d1 h1 h2
  rw [if_neg e1] at hb
  by_cases e1 : x = "max"
  · subst e1
    rw [if_pos rfl] at hb
    cases hb
    exact pe_callB (call_max2 hc) hg hm (by decide +kernel) ha d3 d1 h1 h2
  rw [if_neg e1] at hb
  by_cases e1 : x = "min"
  · subst e1
    rw [if_pos rfl] at hb
    cases hb
    exact pe_callB (call_min2 hc) hg hm (by decide +kernel) ha d3 d1 h1 h2
  rw [if_neg e1] at hb
  by_cases e1 : x = "int"
  · subst e1
    rw [if_pos rfl] at hb
    cases hb
    exact pe_callTy (fun pins s σ H xs us Q I r q => q.elim (call_int1 pins s σ H xs us Q I r) (call_int_str pins s σ H xs us Q I r)) hg hm (by decide +kernel) ha d3 d1 h1 h2
  rw [if_neg e1] at hb
  by_cases e1 : x = "tuple"
  · subst e1
    rw [if_pos rfl] at hb
    cases hb
    exact pe_callTy call_tuple_of hg hm (by decide +kernel) ha d3 d1 h1 h2
  rw [if_neg e1] at hb
  by_cases e1 : x = "list"
  · subst e1
    rw [if_pos rfl] at hb
    cases hb
    exact pe_callTy call_list_of hg hm (by decide +kernel) ha d3 d1 h1 h2
  rw [if_neg e1] at hb
  by_cases e1 : x = "all"
  · subst e1
    rw [if_pos rfl] at hb
    cases hb
    exact pe_callB (cr_all hc) hg hm (by decide +kernel) ha d3 d1 h1 h2
  rw [if_neg e1] at hb
  by_cases e1 : x = "any"
  · subst e1
    rw [if_pos rfl] at hb
    cases hb
    exact pe_callB (cr_any hc) hg hm (by decide +kernel) ha d3 d1 h1 h2
  rw [if_neg e1] at hb
  by_cases e1 : x = "str"
  · subst e1
    rw [if_pos rfl] at hb
    cases hb
    exact pe_callTy call_str_int hg hm (by decide +kernel) ha d3 d1 h1 h2
  rw [if_neg e1] at hb
  by_cases e1 : x = "sorted"
  · subst e1
    rw [if_pos rfl] at hb
    cases hb
    exact pe_callB cr_srt hg hm (by decide +kernel) ha d3 d1 h1 h2
  rw [if_neg e1] at hb
  cases hb
theorem ty_pe {y : Str} {t : Ty} {p : Pos} (ht : tyOf y = some t) (hg : Gl X y) (hm : X.mg y = none) (hd : dbg y = false) : PE X (.Name y p) (tC (.ty t.nm)) := by
  obtain ⟨d1, d2, d3⟩ := dbg_ok hd
  unfold tyOf at ht
  by_cases e1 : y = "int"
  · subst e1
    rw [if_pos rfl] at ht
    cases ht
    exact pe_bltn hg hm (by decide +kernel) (show RelV (.ty "int") (.type "int") from rfl) d3 d1
  rw [if_neg e1] at ht
  by_cases e1 : y = "str"
  · subst e1
    rw [if_pos rfl] at ht
    cases ht
    exact pe_bltn hg hm (by decide +kernel) (show RelV (.ty "str") (.type "str") from rfl) d3 d1
  rw [if_neg e1] at ht
  by_cases e1 : y = "bool"
  · subst e1
    rw [if_pos rfl] at ht
    cases ht
    exact pe_bltn hg hm (by decide +kernel) (show RelV (.ty "bool") (.type "bool") from rfl) d3 d1
  rw [if_neg e1] at ht
  by_cases e1 : y = "tuple"
  · subst e1
    rw [if_pos rfl] at ht
    cases ht
    exact pe_bltn hg hm (by decide +kernel) (show RelV (.ty "tuple") (.type "tuple") from rfl) d3 d1
  rw [if_neg e1] at ht
  cases ht
theorem mth_pe {o : Expr} {m : Str} {es : List Expr} {mt : Mt} {to : TE} {ta : TA} {apos pos : Pos} (hm : mthOf m es.length = some mt) (ho : PE X o to) (ha : PA X es ta) (hs : es.all noStar = true) (hc : noCall o = true) (hl : (apos.endLine == pos.line) = true) (hn : es.length < 20)
    (hz : es = [] → ta = tNil) : PE X (.Call (.Attribute o m apos) es [] pos) (tBM X.K (tyMth mt) (rMth X.K mt) to ta) := by
  have hb := base_no (m := m) (env := X.env) hc
  have few : ∀ (e : Expr) (l : List Expr), es = e :: l → ((backTo pos (starEach (e :: l) X.env)).all (fun x => !x.1) && (backToKw pos (keywordEach [] X.env)).all (fun x => x.1.isSome)
      && decide ((e :: l).length + ([] : List Keyword).length + (if ([] : List Keyword).isEmpty then 0 else 1) < 30)) = true := fun e l q => by
    rw [← q, (back_star (stars_no hs)).2]
    show (true && true && decide (es.length + 0 + 0 < 30)) = true
    rw [decide_eq_true (by omega)] <;> rfl
  have st1 : ∀ (e : Expr) (l : List Expr), es = e :: l → starEach (e :: l) X.env = (false, eval e X.env) :: starEach l X.env := fun e l q => star_cons (by rw [q, List.all_cons, Bool.and_eq_true] at hs; exact hs.1)
  have st2 : ∀ (e : Expr) (l : List Expr), es = e :: l → (backTo pos (starEach l X.env)).any (·.1) = false := fun e l q => (back_star (stars_no (by rw [q, List.all_cons, Bool.and_eq_true] at hs; exact hs.2))).1
  unfold mthOf at hm
  by_cases e1 : m = "append" ∧ es.length = 1
  · rw [if_pos e1] at hm
    cases hm
    obtain ⟨rfl, e2⟩ := e1
    match es, e2, ha, few, st1, st2 with
    | e :: l, e2, ha, few, st1, st2 => exact pe_bm PySem.F.plainAttrs_list PySem.F.slot_list_append PySem.F.type_list_append mt_append ho ha hb (few e l rfl) hl (st1 e l rfl) (st2 e l rfl)
  rw [if_neg e1] at hm
  by_cases e1 : m = "pop" ∧ es.length = 0
  · rw [if_pos e1] at hm
    cases hm
    obtain ⟨rfl, e2⟩ := e1
    have e3 : es = [] := List.length_eq_zero_iff.mp e2
    rw [hz e3, e3]
    refine PE.weak (pe_bm0 PySem.F.plainAttrs_list PySem.F.slot_list_pop PySem.F.type_list_pop mt_pop ho hb hl) fun σ H Q q => q
  rw [if_neg e1] at hm
  by_cases e1 : m = "join" ∧ es.length = 1
  · rw [if_pos e1] at hm
    cases hm
    obtain ⟨rfl, e2⟩ := e1
    match es, e2, ha, few, st1, st2 with
    | e :: l, e2, ha, few, st1, st2 => exact pe_bm PySem.F.plainAttrs_str PySem.F.slot_str_join PySem.F.type_str_join mt_join ho ha hb (few e l rfl) hl (st1 e l rfl) (st2 e l rfl)
  rw [if_neg e1] at hm
  by_cases e1 : m = "extend" ∧ es.length = 1
  · rw [if_pos e1] at hm
    cases hm
    obtain ⟨rfl, e2⟩ := e1
    match es, e2, ha, few, st1, st2 with
    | e :: l, e2, ha, few, st1, st2 => exact pe_bm PySem.F.plainAttrs_list PySem.F.slot_list_extend PySem.F.type_list_extend mt_extend ho ha hb (few e l rfl) hl (st1 e l rfl) (st2 e l rfl)
  rw [if_neg e1] at hm
  by_cases e1 : m = "split" ∧ es.length = 1
  · rw [if_pos e1] at hm
    cases hm
    obtain ⟨rfl, e2⟩ := e1
    match es, e2, ha, few, st1, st2 with
    | e :: l, e2, ha, few, st1, st2 => exact pe_bm PySem.F.plainAttrs_str PySem.F.slot_str_split PySem.F.type_str_split mt_split ho ha hb (few e l rfl) hl (st1 e l rfl) (st2 e l rfl)
  rw [if_neg e1] at hm
  by_cases e1 : m = "partition" ∧ es.length = 1
  · rw [if_pos e1] at hm
    cases hm
    obtain ⟨rfl, e2⟩ := e1
    match es, e2, ha, few, st1, st2 with
    | e :: l, e2, ha, few, st1, st2 => exact pe_bm PySem.F.plainAttrs_str PySem.F.slot_str_partition PySem.F.type_str_partition mt_partition ho ha hb (few e l rfl) hl (st1 e l rfl) (st2 e l rfl)
  rw [if_neg e1] at hm
  by_cases e1 : m = "startswith" ∧ es.length = 1
  · rw [if_pos e1] at hm
    cases hm
    obtain ⟨rfl, e2⟩ := e1
    match es, e2, ha, few, st1, st2 with
    | e :: l, e2, ha, few, st1, st2 => exact pe_bm PySem.F.plainAttrs_str PySem.F.slot_str_startswith PySem.F.type_str_startswith mt_startswith ho ha hb (few e l rfl) hl (st1 e l rfl) (st2 e l rfl)
  rw [if_neg e1] at hm
  by_cases e1 : m = "removeprefix" ∧ es.length = 1
  · rw [if_pos e1] at hm
    cases hm
    obtain ⟨rfl, e2⟩ := e1
    match es, e2, ha, few, st1, st2 with
    | e :: l, e2, ha, few, st1, st2 => exact pe_bm PySem.F.plainAttrs_str PySem.F.slot_str_removeprefix PySem.F.type_str_removeprefix mt_removeprefix ho ha hb (few e l rfl) hl (st1 e l rfl) (st2 e l rfl)
  rw [if_neg e1] at hm
  cases hm
end
end Dq

set_option Elab.async false
set_option linter.all false
set_option maxRecDepth 100000
set_option maxHeartbeats 4000000
/-! Dq9: the compiler of expressions is right. -/
namespace Dq
open PySem PySem.Spec PyProof.Rows L2

/-! ### the context within a comprehension -/
theorem relS_free {sc : Scope} : ∀ {names : List (Str × NameKind)} {x : Str}, names.lookup x = some .free →
    (names.map fun (n, k) => if (k == NameKind.free && sc.kind == .function && sc.names.lookup n == some .cell) then (n, NameKind.cell) else (n, k)).lookup x = some .cell ∨
    (names.map fun (n, k) => if (k == NameKind.free && sc.kind == .function && sc.names.lookup n == some .cell) then (n, NameKind.cell) else (n, k)).lookup x = some .free
  | [], _, h => by simp at h
  | (n, k₀) :: r, x, h => by
    have ih := @relS_free sc r x
    show List.lookup x ((if (k₀ == NameKind.free && sc.kind == .function && sc.names.lookup n == some .cell) = true then (n, NameKind.cell) else (n, k₀)) :: (r.map _)) = _ ∨ List.lookup x ((if (k₀ == NameKind.free && sc.kind == .function && sc.names.lookup n == some .cell) = true then (n, NameKind.cell) else (n, k₀)) :: (r.map _)) = _
    cases hx : x == n with
    | true =>
      simp only [List.lookup_cons, hx] at h
      cases h
      by_cases hc : (NameKind.free == NameKind.free && sc.kind == .function && sc.names.lookup n == some .cell) = true
      · rw [if_pos hc]
        refine .inl ?_
        simp only [List.lookup_cons, hx]
      · rw [if_neg hc]
        refine .inr ?_
        simp only [List.lookup_cons, hx]
    | false =>
      simp only [List.lookup_cons, hx] at h
      by_cases hc : (k₀ == NameKind.free && sc.kind == .function && sc.names.lookup n == some .cell) = true
      · rw [if_pos hc]
        simp only [List.lookup_cons, hx]
        exact ih h
      · rw [if_neg hc]
        simp only [List.lookup_cons, hx]
        exact ih h
section
variable {call : Cal} {n : Nat} {c : CC} {X : Cx} {r : Cp}
theorem xg_blk (G : XG call n c X) {scope : Scope} (s : Shared) (H : Hp) (C : Addr) (cl : List (Str × Addr)) (fp : List Addr) : XG call n { c with sc := scope } (X.blk s H scope (compEnvC scope cl C X.env) fp) := by
  refine ⟨G.calm, G.hN, G.nd, G.room, rfl, fun x k h1 h2 => ?_, fun x h => ?_, fun x h => ?_, fun x h => ?_, fun x h => ?_, G.cst, G.bfr, G.fns⟩
  · rcases h2 with e | e | e
    · subst e
      exact .inl (lookup_relS_keep (by decide) h1)
    · subst e
      exact .inr (.inl (lookup_relS_keep (by decide) h1))
    · subst e
      rcases relS_free (sc := X.env.scope) h1 with z | z
      · exact .inr (.inl z)
      · exact .inr (.inr z)
  · rcases h with h | h
    · exact ⟨.inl (lookup_relS_keep (by decide) h), .inr (lookup_relS_keep (by decide) h)⟩
    · refine ⟨.inr (lookup_relS_keep (by decide) h), .inl ?_⟩
      show (scope.names.lookup x == some NameKind.cell) = true
      rw [h] <;> rfl
  · exact lookup_relS_keep (by decide) h
  · rcases h with h | h
    · exact .inl (lookup_relS_keep (by decide) h)
    · exact relS_free h
  · exact lookup_relS_keep (by decide) h
theorem ownOf_snd (N : List Str) : ∀ sl : List Nat, (ownOf N sl).map (·.2) = sl
  | [] => rfl
  | i :: sl => by
    show i :: (ownOf N sl).map (·.2) = i :: sl
    rw [ownOf_snd N sl]
theorem has_self (sl : List Nat) : sl.all (sl.contains ·) = true := List.all_eq_true.mpr fun i hi => by simpa using hi

/-! ### what is walked -/
theorem range_name {x : Str} (h : isRange c x = true) (G : XG call n c X) : x = "range" ∧ Gl X x ∧ X.mg x = none := by
  unfold isRange at h
  rw [Bool.and_eq_true, Bool.and_eq_true, decide_eq_true_eq] at h
  obtain ⟨⟨h1, h2⟩, h3⟩ := h
  have hk : kindC c x = .glo := by
    split at h2
    · assumption
    · cases h2
  exact ⟨h1, G.glo x (kind_glo hk), G.bfr x h3⟩
theorem cI_ok (hf : ∀ a i, r.e c a = some i → PE X a (rE call c X i)) (G : XG call n c X) {tg : Expr} (e : Expr) (i : I) (h : cI r c e = some i) : PI X tg e (rI call c X i) ∧ ∀ x, foldedSetIterable e X.env x = pure x := by
  unfold cI at h
  split at h
  · rename_i x p a pos
    by_cases e1 : isRange c x = true
    · rw [if_pos e1] at h
      obtain ⟨rfl, g1, g2⟩ := range_name e1 G
      obtain ⟨h1, h⟩ := ifS h
      obtain ⟨a', h2, h⟩ := bindS h
      cases h
      exact ⟨pi_range1 g1 g2 (pa_cons (hf a a' h2) pa_nil (star_cons h1)) (star_cons h1), fun _ => rfl⟩
    · rw [if_neg e1] at h
      obtain ⟨e', h2, h⟩ := bindS h
      cases h
      exact ⟨pi_seq (hf _ _ h2), fun _ => rfl⟩
  · rename_i x p a b pos
    by_cases e1 : isRange c x = true
    · rw [if_pos e1] at h
      obtain ⟨rfl, g1, g2⟩ := range_name e1 G
      obtain ⟨h1, h⟩ := ifS h
      obtain ⟨h1', h⟩ := ifS h
      obtain ⟨a', h2, h⟩ := bindS h
      obtain ⟨b', h3, h⟩ := bindS h
      cases h
      refine ⟨pi_range2 g1 g2 (pa_cons (hf a a' h2) (pa_cons (hf b b' h3) pa_nil (star_cons h1')) (star_cons h1)) ?_ ?_, fun _ => rfl⟩
      · rw [star_cons h1, star_cons h1'] <;> rfl
      · exact star_cons h1'
    · rw [if_neg e1] at h
      obtain ⟨e', h2, h⟩ := bindS h
      cases h
      exact ⟨pi_seq (hf _ _ h2), fun _ => rfl⟩
  · obtain ⟨h1, h⟩ := ifS h
    obtain ⟨e', h2, h⟩ := bindS h
    cases h
    exact ⟨pi_seq (hf _ _ h2), fun x => fold_no h1 x⟩
theorem cond_ok (hf : ∀ a i, r.t c a = some i → PT X a (rT call c X i)) (l : List Expr) (i : Teo) (h : cCond r c l = some i) : PTs X l (rTo call c X i) := by
  unfold cCond at h
  split at h
  · cases h
    exact pts_nil
  · obtain ⟨a', h1, h⟩ := bindS h
    cases h
    exact pts_one (hf _ _ h1)
  · cases h
structure LcOk (call : Cal) (c : CC) (X : Cx) (elt tg iter : Expr) (ifs : List Expr) (scope : Scope) (sl : List Nat) (wi : TI) (g : TG) (tt : TT) (te : TE) : Prop where
  hi : PI X tg iter wi
  fold : ∀ x, foldedSetIterable iter X.env x = pure x
  blk : BlkOk X.N X.env.scope scope (ownOf c.N sl)
  hg : ∀ (s : Shared) (H : Hp) (C : Addr) (cl : List (Str × Addr)) (fp : List Addr), PG (X.blk s H scope (compEnvC scope cl C X.env) fp) tg g
  ht : ∀ (s : Shared) (H : Hp) (C : Addr) (cl : List (Str × Addr)) (fp : List Addr), PTs (X.blk s H scope (compEnvC scope cl C X.env) fp) ifs tt
  he : ∀ (s : Shared) (H : Hp) (C : Addr) (cl : List (Str × Addr)) (fp : List Addr), PE (X.blk s H scope (compEnvC scope cl C X.env) fp) elt te
theorem comp_ok (hr : CpOk r) (G : XG call n c X) {elt tg iter : Expr} {ifs : List Expr} {scope : Scope} {i : E} (h : cComp r c elt tg iter ifs scope = some i) :
    ∃ sl wi g tt te, LcOk call c X elt tg iter ifs scope sl wi g tt te ∧ rE call c X i = tLc wi g tt te sl := by
  unfold cComp at h
  obtain ⟨it, h1, h⟩ := bindS h
  obtain ⟨t, h2, h⟩ := bindS h
  obtain ⟨el, h3, h⟩ := bindS h
  obtain ⟨cd, h4, h⟩ := bindS h
  obtain ⟨h5, h⟩ := ifS h
  cases h
  refine ⟨slT t, rI call c X it, rG call c X t, rTo call c X cd, rE call c X el, ⟨?_, ?_, ?_, ?_, ?_, ?_⟩, ?_⟩
  · exact (cI_ok (fun a i => hr.e call n c X a i G) G iter it h1).1
  · exact (cI_ok (fun a i => hr.e call n c X a i G) G (tg := tg) iter it h1).2
  · have z := blkOk_by h5
    rw [G.hN]
    exact ⟨z.kind, z.uniq, z.ix, fun y hy e => G.fre y.1 (z.free y hy e), z.own⟩
  · exact fun s H C cl fp => hr.g call n { c with sc := scope } _ tg t (xg_blk G s H C cl fp) h2
  · exact fun s H C cl fp => cond_ok (fun a i q => (hr.t call n { c with sc := scope } _ a i (xg_blk G s H C cl fp) q).1) ifs cd h4
  · exact fun s H C cl fp => hr.e call n { c with sc := scope } _ elt el (xg_blk G s H C cl fp) h3
  · show (if (slT t).all ((slT t).contains ·) = true then _ else _) = _
    rw [if_pos (has_self _)] <;> rfl

/-! ### calls -/
theorem call_ok (hf : ∀ a i, r.e c a = some i → PE X a (rE call c X i)) (G : XG call n c X) {x : Str} {p pos : Pos} {args : List Expr} {i : E} (h : cCall r c x args = some i) : PE X (.Call (.Name x p) args [] pos) (rE call c X i) := by
  unfold cCall at h
  by_cases hd : dbg x = true
  · rw [if_pos hd] at h
    cases h
  rw [if_neg hd] at h
  have hd : dbg x = false := by simpa using hd
  obtain ⟨d1, d2, d3⟩ := dbg_ok hd
  split at h
  · rename_i hk
    have hg := G.glo x (kind_glo hk)
    split at h
    · rename_i k hx
      obtain ⟨es, h1, h⟩ := bindS h
      cases h
      obtain ⟨a, fd, ps, f1, f2, f3, f4⟩ := G.fns k x (ixOf_ok hx)
      obtain ⟨pa, st⟩ := args_ok hf args es h1
      match args, es, h1, pa, st with
      | [], es, h1, pa, st =>
        cases h1
        exact pe_call0 f4 G.room hg f1 f2 f3 .nil pass0 d1
      | e :: l, es, h1, pa, st =>
        rw [List.all_cons, Bool.and_eq_true] at st
        exact pe_call f4 G.room hg f1 f2 f3 .nil pass0 pa d1 (star_cons st.1) (back_star (stars_no st.2)).1
    · rename_i hx
      obtain ⟨hb, h'⟩ := ifS h
      clear h
      have h := h'
      clear h'
      have hm := G.bfr x hb
      split at h
      · rename_i a y py
        by_cases e1 : x = "isinstance"
        · rw [if_pos e1] at h
          subst e1
          by_cases hy : dbg y = true
          · rw [if_pos hy] at h
            cases h
          rw [if_neg hy] at h
          have hy : dbg y = false := by simpa using hy
          split at h
          · rename_i hky
            obtain ⟨hyb, h⟩ := ifS h
            obtain ⟨hs, h⟩ := ifS h
            obtain ⟨t, h1, h⟩ := bindS h
            obtain ⟨a', h2, h⟩ := bindS h
            cases h
            refine pe_callB call_isi hg hm (by decide +kernel) (pa_cons (hf a a' h2) (pa_cons (ty_pe h1 (G.glo y (kind_glo hky)) (G.bfr y hyb) hy) pa_nil (star_cons (by rfl))) (star_cons hs)) d3 d1 (star_cons hs) ?_
            exact (back_star (stars_no (es := [.Name y py]) (by rfl))).1
          · cases h
        · rw [if_neg e1] at h
          obtain ⟨b, h1, h⟩ := bindS h
          obtain ⟨es, h2, h⟩ := bindS h
          cases h
          obtain ⟨pa, st⟩ := args_ok hf _ es h2
          exact blt_pe h1 hg hm G.calm pa st hd
      · cases h
      · rename_i e1 e2
        obtain ⟨b, h1, h⟩ := bindS h
        obtain ⟨es, h2, h⟩ := bindS h
        cases h
        obtain ⟨pa, st⟩ := args_ok hf _ es h2
        match args, e2, pa, st with
        | [], e2, pa, st => exact absurd rfl e2
        | e :: l, e2, pa, st => exact blt_pe h1 hg hm G.calm pa st hd
  · cases h

/-! ### one step of the compiler -/
theorem hu64 (G : XG call n c X) : X.A.units + 64 < cLine := by
  have := G.room.un
  omega
theorem name_ok (G : XG call n c X) {x : Str} {p : Pos} {i : E} (h : stE r c (.Name x p) = some i) : PE X (.Name x p) (rE call c X i) := by
  unfold stE at h
  by_cases hd : dbg x = true
  · simp only [if_pos hd] at h
    cases h
  simp only [if_neg hd] at h
  have hd : dbg x = false := by simpa using hd
  obtain ⟨d1, d2, d3⟩ := dbg_ok hd
  split at h
  · rename_i hk
    obtain ⟨k, h1, h2⟩ := kind_own hk
    obtain ⟨j, h3, h⟩ := bindS h
    cases h
    exact pe_var (by rw [G.hN]; exact ixOf_ok h3) (G.own x k h1 h2) d1 d2
  · rename_i hk
    obtain ⟨k, h3, h⟩ := bindS h
    cases h
    have hx := ixOf_ok h3
    obtain ⟨u, v, hm, rv⟩ := G.cst k x hx
    refine PE.weak (pe_glob (v := v) (G.glo x (kind_glo hk)) hm rv d1) fun σ H Q q => ?_
    obtain ⟨w, _, q⟩ := q
    exact q v ⟨x, u, hx, hm, rv⟩
  · cases h
theorem last_no {o p : CmpOp} {b d : Expr} (h : noSet d = true) : lastMarks [o, p] [b, d] = false := by
  show lastMarks [p] [d] = false
  show behindInMarks p d = false
  exact behind_no h
theorem cMth_ok (hf : ∀ a i, r.e c a = some i → PE X a (rE call c X i)) {o : Expr} {m : Str} {apos pos : Pos} {args : List Expr} {i : E} (h : cMth r c o m apos args pos = some i) : PE X (.Call (.Attribute o m apos) args [] pos) (rE call c X i) := by
  unfold cMth at h
  obtain ⟨h0, h⟩ := ifS h
  obtain ⟨h1, h⟩ := ifS h
  obtain ⟨h2, h⟩ := ifS h
  obtain ⟨mt, h3, h⟩ := bindS h
  obtain ⟨o', h4, h⟩ := bindS h
  obtain ⟨es, h5, h⟩ := bindS h
  cases h
  obtain ⟨pa, st⟩ := args_ok hf _ _ h5
  refine mth_pe h3 (hf _ _ h4) pa st h0 h1 h2 fun e => ?_
  subst e
  cases h5
  rfl
theorem pps_of {pos : Pos} : ∀ {keys : List (Option Expr)} {vals : List Expr} {ks : List (List Nat)} {ws : List D}, dKeys keys = some ks → dVals vals = some ws → ks.length = ws.length → PPs X pos keys vals (trsD ks ws) ∧ keys.all (·.isSome) = true ∧ keys.length = ks.length ∧ vals.length = ws.length
  | [], [], ks, ws, h1, h2, _ => by
    cases h1
    cases h2
    exact ⟨pps_nil, rfl, rfl, rfl⟩
  | [], v :: vals, ks, ws, h1, h2, hl => by
    cases h1
    exfalso
    unfold dVals at h2
    split at h2
    · cases ‹_ = []›
    · obtain ⟨w, _, h2⟩ := bindS h2
      cases h2
      simp at hl
    · obtain ⟨w, _, h2⟩ := bindS h2
      cases h2
      simp at hl
    · cases h2
  | k :: keys, [], ks, ws, h1, h2, hl => by
    cases h2
    exfalso
    unfold dKeys at h1
    split at h1
    · cases ‹_ = []›
    · obtain ⟨w, _, h1⟩ := bindS h1
      cases h1
      simp at hl
    · cases h1
  | k :: keys, v :: vals, ks, ws, h1, h2, hl => by
    unfold dKeys at h1
    split at h1
    · cases ‹_ = []›
    · rename_i s j p r e
      obtain ⟨ks', g1, h1⟩ := bindS h1
      cases h1
      cases e
      unfold dVals at h2
      split at h2
      · cases ‹_ = []›
      · rename_i s2 j2 p2 r2 e2
        obtain ⟨ws', g2, h2⟩ := bindS h2
        cases h2
        cases e2
        obtain ⟨a1, a2, a3, a4⟩ := pps_of (pos := pos) g1 g2 (by simpa using hl)
        refine ⟨pps_cons pe_str pe_str a1, by rw [List.all_cons, a2]; rfl, by simp [a3], by simp [a4]⟩
      · rename_i s2 j2 p2 r2 e2
        obtain ⟨ws', g2, h2⟩ := bindS h2
        cases h2
        cases e2
        obtain ⟨a1, a2, a3, a4⟩ := pps_of (pos := pos) g1 g2 (by simpa using hl)
        refine ⟨pps_cons pe_str pe_int a1, by rw [List.all_cons, a2]; rfl, by simp [a3], by simp [a4]⟩
      · cases h2
    · cases h1
theorem dsel_pe {keys : List (Option Expr)} {vals : List Expr} {b : Expr} {ks : List (List Nat)} {ws : List D} {b' : E} {dp pos : Pos} (hu : X.A.units + 1 < cLine) (hb : PE X b (rE call c X b')) (h0 : plainIx b = true) (h1 : dKeys keys = some ks) (h2 : dVals vals = some ws) (h3 : dselOk ks ws = true) :
    PE X (.Subscript (.Dict keys vals dp) b pos) (rE call c X (.dsel ks ws b')) := by
  have h4 := h3
  unfold dselOk at h4
  simp only [Bool.and_eq_true, decide_eq_true_eq] at h4
  obtain ⟨a1, a2, a3, a4⟩ := pps_of (X := X) (pos := dp) h1 h2 h4.2.2.1
  refine pe_dget hu (pe_disp a1 a2 (by rw [a3, a4, h4.2.2.1]) (fun e => h4.1 ?_) (by rw [a3]; exact h4.2.1)) hb (nosl h0)
  rw [e] at a3
  exact List.length_eq_zero_iff.mp a3.symm
theorem step_e (hr : CpOk r) (a : Expr) (i : E) (G : XG call n c X) (h : stE r c a = some i) : PE X a (rE call c X i) := by
  have hf := fun a i => hr.e call n c X a i G
  have hft := fun a i q => (hr.t call n c X a i G q).1
  unfold stE at h
  split at h
  · exact name_ok (r := r) G (by unfold stE; exact h)
  · cases h
    exact pe_int
  · cases h
    exact pe_bl
  · cases h
    exact pe_non
  · cases h
    exact pe_str
  · obtain ⟨a', h1, h⟩ := bindS h
    obtain ⟨b', h2, h⟩ := bindS h
    cases h
    exact pe_op (rBin_op X _) (hf _ _ h1) (hf _ _ h2)
  · obtain ⟨a', h1, h⟩ := bindS h
    cases h
    exact pe_notT (hf _ _ h1)
  · obtain ⟨a', h1, h⟩ := bindS h
    cases h
    exact pe_un un_neg (hf _ _ h1)
  · exact pe_one (hf _ _ h)
  · obtain ⟨a', h1, h⟩ := bindS h
    obtain ⟨b', h2, h⟩ := bindS h
    cases h
    exact pe_andT (hf _ _ h1) (hf _ _ h2)
  · obtain ⟨a', h1, h⟩ := bindS h
    obtain ⟨b', h2, h⟩ := bindS h
    cases h
    exact pe_orT (hf _ _ h1) (hf _ _ h2)
  · obtain ⟨h0, h⟩ := ifS h
    obtain ⟨a', h1, h⟩ := bindS h
    obtain ⟨b', h2, h⟩ := bindS h
    cases h
    exact pe_cmpR (rCmp_op X (hu64 G) _) (hf _ _ h1) (hf _ _ h2) (behind_no h0)
  · obtain ⟨h0, h⟩ := ifS h
    obtain ⟨a', h1, h⟩ := bindS h
    obtain ⟨b', h2, h⟩ := bindS h
    obtain ⟨d', h3, h⟩ := bindS h
    cases h
    exact pe_chain (rCmp_op X (hu64 G) _) (rCmp_op X (hu64 G) _) (hf _ _ h1) (hf _ _ h2) (hf _ _ h3) (last_no h0)
  · obtain ⟨a', h1, h⟩ := bindS h
    obtain ⟨b', h2, h⟩ := bindS h
    obtain ⟨d', h3, h⟩ := bindS h
    cases h
    exact pe_ifExp (hft _ _ h1) (hf _ _ h2) (hf _ _ h3)
  · obtain ⟨a', h1, h⟩ := bindS h
    cases h
    exact pe_tup (items_ok hf _ _ h1)
  · obtain ⟨a', h1, h⟩ := bindS h
    cases h
    exact pe_lst (items_ok hf _ _ h1)
  · obtain ⟨a', h1, h⟩ := bindS h
    obtain ⟨b', h2, h⟩ := bindS h
    obtain ⟨d', h3, h⟩ := bindS h
    cases h
    exact pe_slice sl_any (hf _ _ h1) (part_ok hf _ _ h2) (part_ok hf _ _ h3)
  · obtain ⟨h0, h⟩ := ifS h
    obtain ⟨ks, h1, h⟩ := bindS h
    obtain ⟨ws, h2, h⟩ := bindS h
    obtain ⟨h3, h⟩ := ifS h
    obtain ⟨b', h4, h⟩ := bindS h
    cases h
    exact dsel_pe (by have := hu64 G; omega) (hf _ _ h4) h0 h1 h2 h3
  · obtain ⟨h0, h⟩ := ifS h
    obtain ⟨a', h1, h⟩ := bindS h
    obtain ⟨b', h2, h⟩ := bindS h
    cases h
    exact pe_ix ix_any (hf _ _ h1) (hf _ _ h2) (plain_ix h0)
  · exact call_ok hf G h
  · rename_i o m apos a b pos
    by_cases e1 : m = "get"
    · rw [if_pos e1] at h
      subst e1
      obtain ⟨h0, h⟩ := ifS h
      obtain ⟨h1, h⟩ := ifS h
      obtain ⟨h2, h⟩ := ifS h
      obtain ⟨h3, h⟩ := ifS h
      obtain ⟨o', h4, h⟩ := bindS h
      obtain ⟨a', h5, h⟩ := bindS h
      obtain ⟨b', h6, h⟩ := bindS h
      cases h
      exact pe_kget (hf _ _ h4) (hf _ _ h5) (hf _ _ h6) h2 h3 (base_no h0) h1
    · rw [if_neg e1] at h
      exact cMth_ok hf h
  · exact cMth_ok hf h
  · obtain ⟨sl, wi, g, tt, te, L, e⟩ := comp_ok hr G h
    rw [e]
    have z := pe_lc G.calm G.nd L.hi L.blk L.hg L.ht L.he L.fold (pos := by assumption)
    rw [ownOf_snd] at z
    exact z
  · cases h
theorem step_t (hr : CpOk r) (a : Expr) (i : Te) (G : XG call n c X) (h : stT r c a = some i) : PT X a (rT call c X i) ∧ ((∃ o vs p, a = .BoolOp o vs p) → PW X a (rT call c X i)) := by
  have hf := fun a i => hr.e call n c X a i G
  have hft := fun a i => hr.t call n c X a i G
  unfold stT at h
  split at h
  · rename_i o a p
    have z : PW X (.BoolOp o [a] p) (rT call c X i) := by
      cases o with
      | And => exact pw_and1 (hft _ _ h).1
      | Or => exact pw_or1 (hft _ _ h).1
    exact ⟨z.pt, fun _ => z⟩
  · obtain ⟨a', h1, h⟩ := bindS h
    obtain ⟨b', h2, h⟩ := bindS h
    cases h
    have z := pw_and (pos := by assumption) (hft _ _ h1).1 ((hft _ _ h2).2 ⟨_, _, _, rfl⟩)
    exact ⟨z.pt, fun _ => z⟩
  · obtain ⟨a', h1, h⟩ := bindS h
    obtain ⟨b', h2, h⟩ := bindS h
    cases h
    have z := pw_or (pos := by assumption) (hft _ _ h1).1 ((hft _ _ h2).2 ⟨_, _, _, rfl⟩)
    exact ⟨z.pt, fun _ => z⟩
  · obtain ⟨a', h1, h⟩ := bindS h
    cases h
    exact ⟨pt_not (hft _ _ h1).1, fun ⟨_, _, _, e⟩ => by cases e⟩
  · obtain ⟨h0, h⟩ := ifS h
    obtain ⟨a', h1, h⟩ := bindS h
    obtain ⟨b', h2, h⟩ := bindS h
    cases h
    exact ⟨pt_cmpR (rCmp_op X (hu64 G) _) (hf _ _ h1) (hf _ _ h2) (behind_no h0), fun ⟨_, _, _, e⟩ => by cases e⟩
  · obtain ⟨h0, h⟩ := ifS h
    obtain ⟨a', h1, h⟩ := bindS h
    obtain ⟨b', h2, h⟩ := bindS h
    obtain ⟨d', h3, h⟩ := bindS h
    cases h
    exact ⟨pt_chain (rCmp_op X (hu64 G) _) (rCmp_op X (hu64 G) _) (hf _ _ h1) (hf _ _ h2) (hf _ _ h3) (last_no h0), fun ⟨_, _, _, e⟩ => by cases e⟩
  · obtain ⟨a', h1, h⟩ := bindS h
    cases h
    exact ⟨pt_truth (hf _ _ h1) fun _ => rfl, fun ⟨_, _, _, e⟩ => by cases e⟩
  · obtain ⟨a', h1, h⟩ := bindS h
    cases h
    exact ⟨pt_truth (hf _ _ h1) fun _ => rfl, fun ⟨_, _, _, e⟩ => by cases e⟩
  · obtain ⟨a', h1, h⟩ := bindS h
    cases h
    exact ⟨pt_truth (hf _ _ h1) fun _ => rfl, fun ⟨_, _, _, e⟩ => by cases e⟩
  · obtain ⟨a', h1, h⟩ := bindS h
    cases h
    exact ⟨pt_truth (hf _ _ h1) fun _ => rfl, fun ⟨_, _, _, e⟩ => by cases e⟩
  · obtain ⟨a', h1, h⟩ := bindS h
    cases h
    exact ⟨pt_truth (hf _ _ h1) fun _ => rfl, fun ⟨_, _, _, e⟩ => by cases e⟩
  · cases h
theorem asg_cons {a : Expr} {es : List Expr} {env : Env} (h : noStar a = true) : assignEach (a :: es) env = (false, assign a env) :: assignEach es env := by
  cases a <;> first | rfl | cases h
theorem tgs_ok (hf : ∀ a i, r.g c a = some i → PG X a (rG call c X i)) : ∀ (es : List Expr) (i : Ts), cTs (r.g c) es = some i → PGs X es (rGs call c X i) ∧ (assignEach es X.env).length = lenTs i ∧ (assignEach es X.env).findIdx? (·.1) = none
  | [], i, h => by
    cases h
    exact ⟨pgs_nil, rfl, rfl⟩
  | a :: es, i, h => by
    unfold cTs at h
    obtain ⟨h0, h⟩ := ifS h
    obtain ⟨a', h1, h⟩ := bindS h
    obtain ⟨es', h2, h⟩ := bindS h
    cases h
    obtain ⟨p, q, z⟩ := tgs_ok hf es es' h2
    have e := asg_cons (es := es) (env := X.env) h0
    refine ⟨pgs_cons (hf a a' h1) p (by rw [e] <;> rfl), by rw [e]; show _ + 1 = lenTs es' + 1; rw [q], ?_⟩
    rw [e, List.findIdx?_cons]
    simp only [z]
    rfl
theorem step_g (hr : CpOk r) (a : Expr) (i : T) (G : XG call n c X) (h : stG r c a = some i) : PG X a (rG call c X i) := by
  have hf := fun a i => hr.e call n c X a i G
  have hfg := fun a i => hr.g call n c X a i G
  unfold stG at h
  split at h
  · rename_i x p
    split at h
    · rename_i hk
      obtain ⟨j, h1, h⟩ := bindS h
      cases h
      obtain ⟨s1, s2⟩ := G.sto x (.inl hk)
      exact pg_name G.nd (by rw [G.hN]; exact ixOf_ok h1) s1 s2
    · rename_i hk
      obtain ⟨j, h1, h⟩ := bindS h
      cases h
      obtain ⟨s1, s2⟩ := G.sto x (.inr hk)
      exact pg_name G.nd (by rw [G.hN]; exact ixOf_ok h1) s1 s2
    · cases h
  · obtain ⟨ts', h1, h⟩ := bindS h
    cases h
    obtain ⟨p, q, z⟩ := tgs_ok hfg _ _ h1
    exact pg_tup G.calm p q z
  · rename_i o ix p
    obtain ⟨h0, h⟩ := ifS h
    obtain ⟨o', h1, h⟩ := bindS h
    obtain ⟨i', h2, h⟩ := bindS h
    cases h
    refine pg_sub (hf _ _ h1) (hf _ _ h2) set_list fun v => ?_
    cases ix <;> first | rfl | cases h0
  · cases h
end
theorem cpOk : ∀ k : Nat, CpOk (cp k)
  | 0 => ⟨fun _ _ _ _ _ _ _ h => (by cases h), fun _ _ _ _ _ _ _ h => (by cases h), fun _ _ _ _ _ _ _ h => (by cases h)⟩
  | k + 1 => ⟨fun _ _ _ _ a i G h => step_e (cpOk k) a i G h, fun _ _ _ _ a i G h => step_t (cpOk k) a i G h, fun _ _ _ _ a i G h => step_g (cpOk k) a i G h⟩
end Dq

set_option Elab.async false
set_option linter.all false
set_option maxRecDepth 100000
set_option maxHeartbeats 4000000
/-! Dq10: statements: what their readings give, and the compiler of statements. -/
namespace Dq
open PySem PySem.Spec PyProof.Rows L2

/-! ### op= -/
def rAug : Operator → R2
  | .Add => fun x y H Q => rI0 (fun i j => .int (i + j)) x y H Q ∨ ∃ i j, x = .str i ∧ y = .str j ∧ i.length + j.length ≤ sizeLine ∧ Q (.str (i ++ j)) H
  | .Sub => rI0 fun i j => .int (i - j)
  | _ => fun _ _ _ _ => False
theorem rAug_ip (X : Cx) (o : Operator) : PIp X o (rAug o) := by
  cases o with
  | Add => exact iop_add.or iop_add_str
  | Sub => exact iop_sub
  | _ => exact fun _ _ _ _ _ _ _ _ _ _ _ _ h => h.elim
section
variable {K : PySem.W.Frag} {mg : MW} {μ : List Addr} {H : Hp} {st : Sto}
theorem aug_ok (o : Operator) : Ok2 K mg (rAug o) fun st x y Q => augW st o x y Q := by
  cases o with
  | Add =>
    intro μ H st vx vy x y P Q A rx ry h k
    cases rx with
    | int i =>
      cases ry with
      | int j => exact .inl ⟨i, j, rfl, rfl, k _ _ st μ H h A .refl (.int _)⟩
      | _ => exact False.elim h
    | str a =>
      cases ry with
      | str b =>
        refine .inr ⟨_, _, rfl, rfl, ?_, ?_⟩
        · rw [sv_length, sv_length]
          exact h.1
        · rw [sv_append]
          exact k _ _ st μ H h.2 A .refl (.str _)
      | _ => exact False.elim h
    | _ => cases ry <;> exact False.elim h
  | Sub => exact intop0_ok (fun _ _ _ _ h => h) fun st x y P h => by cases x <;> cases y <;> first | exact ⟨⟨_, rfl⟩, ⟨_, rfl⟩⟩ | exact False.elim h
  | _ => exact never2 fun st x y P h => by cases x <;> cases y <;> exact h
theorem idl_ok : Ok2 K mg (rIxL K) fun st x y Q => idlW st x y fun z => Q z st := by
  intro μ H st vx vy x y P Q A rx ry h k
  cases rx with
  | loc hn =>
    cases ry with
    | int i =>
      obtain ⟨ws, e0, w, e, p⟩ := h
      obtain ⟨xs, hx, hr⟩ := A.get hn e0
      obtain ⟨v, e1, r1⟩ := hr.atI e
      exact ⟨_, _, i, v, rfl, rfl, SqL.of hx, e1, k _ _ st μ H p A .refl r1⟩
    | _ => exact False.elim h
  | _ => cases ry <;> exact False.elim h
end
theorem get_list {X : Cx} : PGet X (rIxL X.K) := by
  intro pins s σ H x y v u Q I rx ry h
  obtain ⟨p, xs, i, z, rfl, rfl, hq, he, q⟩ := h
  cases rx
  obtain ⟨t, rfl⟩ := ry
  obtain ⟨its, r, pl, hz⟩ := I.list hq
  obtain ⟨j, h1, h2, h3, h4, h5⟩ := atI_get he
  obtain ⟨w, ew, rw'⟩ := r.get h2
  have hl := r.length
  have hn := line63
  have fin : EP X pins σ Q w s := ⟨z, H, I, rw', q⟩
  by_cases h0 : 0 ≤ i
  · have hj : i.toNat = j := by
      rw [seqIndex_of h0 h5] at h1
      exact Option.some.inj h1
    exact wpAny_getItem_list pl.isList h0 (by omega) (by rw [hj]; simpa using ew) fin
  · have hj : (i + (its.toArray.size : Int)).toNat = j := by
      rw [seqIndex_neg (by omega) h4] at h1
      rw [List.size_toArray, ← hl]
      exact Option.some.inj h1
    exact wpAny_getItem_list_neg pl.isList (by omega) (by rw [List.size_toArray] <;> omega) (by omega) (by rw [hj]; simpa using ew) fin

/-! ### readings of statements -/
section
variable (K : PySem.W.Frag) (mg : MW) (call : Cal) (gv : Nat → V → Prop)
mutual
def rdS : S → TS
  | .expr e => tDrop (rdE K mg call gv e)
  | .asg t e => tAsg (rdE K mg call gv e) (rdG K mg call gv t)
  | .aug i op e => tAug i (rdE K mg call gv e) (rAug op)
  | .augs o i op e => tAugS (rdE K mg call gv o) (rdE K mg call gv i) (rdE K mg call gv e) (rIxL K) (rAug op) rSetL
  | .ret e => tRet (rdE K mg call gv e)
  | .retn => tRetN
  | .ite c a b => tIfS (rdT K mg call gv c) (rdSs a) (rdSs b)
  | .while_ c b => tWhile (rdT K mg call gv c) (rdSs b)
  | .for_ t it b => tFor (rdI K mg call gv it) (rdG K mg call gv t) (rdSs b)
  | .brk => tBreak
  | .cont => tCont
  | .pass => tNext
def rdSs : Ss → TS
  | .nil => tNext
  | .cons s ss => tSeq (rdS s) (rdSs ss)
end
end
section
variable (K : PySem.W.Frag) (mg : MW)
/-- what the ends of the language give the ends of the reading -/
structure KOk (μ : List Addr) (H : Hp) (P : K4) (D : Ends) : Prop where
  nx : ∀ σ' env' st' μ' H', P.nx env' st' → Abs K mg μ' H' st' → Ext μ H μ' H' → EnvOk K mg μ' H' σ' env' → D.nx σ' H'
  rt : ∀ v w st' μ' H', P.rt w st' → Abs K mg μ' H' st' → Ext μ H μ' H' → Rep K mg μ' H' v w → D.rt v H'
  bk : ∀ σ' env' st' μ' H', P.bk env' st' → Abs K mg μ' H' st' → Ext μ H μ' H' → EnvOk K mg μ' H' σ' env' → D.bk σ' H'
  ct : ∀ σ' env' st' μ' H', P.ct env' st' → Abs K mg μ' H' st' → Ext μ H μ' H' → EnvOk K mg μ' H' σ' env' → D.ct σ' H'
theorem KOk.go {μ μ1 : List Addr} {H H1 : Hp} {P : K4} {D : Ends} (k : KOk K mg μ H P D) (e : Ext μ H μ1 H1) : KOk K mg μ1 H1 P D :=
  ⟨fun σ' env' st' μ' H' p A e1 N => k.nx σ' env' st' μ' H' p A (e.trans e1) N, fun v w st' μ' H' p A e1 r => k.rt v w st' μ' H' p A (e.trans e1) r,
   fun σ' env' st' μ' H' p A e1 N => k.bk σ' env' st' μ' H' p A (e.trans e1) N, fun σ' env' st' μ' H' p A e1 N => k.ct σ' env' st' μ' H' p A (e.trans e1) N⟩
def OkS (t : TS) (f : En → Sto → K4 → Prop) : Prop := ∀ μ H st σ env (P : K4) (D : Ends), Abs K mg μ H st → EnvOk K mg μ H σ env → f env st P → KOk K mg μ H P D → t D σ H
end
section
variable {K : PySem.W.Frag} {mg : MW} {t u : TS} {f g : En → Sto → K4 → Prop} {te to ti : TE} {fe fo fi : WE} {tt : TT} {ft : WT} {tg : TG} {fg : D → En → Sto → EK → Prop} {sl : List Nat}
theorem okS_seq (h1 : OkS K mg t f) (h2 : OkS K mg u g) : OkS K mg (tSeq t u) fun env st P => f env st ⟨fun env1 st1 => g env1 st1 P, P.rt, P.bk, P.ct⟩ := fun μ H st σ env P D A N h k =>
  h1 μ H st σ env _ _ A N h ⟨fun σ' env' st' μ' H' p A' e N' => h2 μ' H' st' σ' env' P D A' N' p (k.go _ _ e), k.rt, k.bk, k.ct⟩
theorem okS_drop (he : OkE K mg te fe) : OkS K mg (tDrop te) fun env st P => fe env st fun _ st1 => P.nx env st1 := fun μ H st σ env P D A N h k =>
  he μ H st σ env _ _ A N h fun v w st1 μ1 H1 p A1 e1 _ => k.nx σ env st1 μ1 H1 p A1 e1 (N.go e1 A.mu)
theorem okS_asg (he : OkE K mg te fe) (hg : OkG K mg sl tg fg) : OkS K mg (tAsg te tg) fun env st P => fe env st fun x st1 => fg x env st1 P.nx := fun μ H st σ env P D A N h k =>
  he μ H st σ env _ _ A N h fun v w st1 μ1 H1 p A1 e1 r1 => hg μ1 H1 st1 σ env v w _ _ A1 (N.go e1 A.mu) r1 p fun σ2 env2 st2 μ2 H2 p2 A2 e2 N2 _ => k.nx σ2 env2 st2 μ2 H2 p2 A2 (e1.trans e2) N2
theorem okS_aug (i : Nat) (op : Operator) (he : OkE K mg te fe) : OkS K mg (tAug i te (rAug op)) fun env st P => ∃ x, env[i]? = some (some x) ∧ fe env st fun y st1 => augW st1 op x y fun z st2 => P.nx (env.set i (some z)) st2 := fun μ H st σ env P D A N h k => by
  obtain ⟨x, e0, h⟩ := h
  obtain ⟨v, ev, rv⟩ := N.at_ i x e0
  refine ⟨v, ev, he μ H st σ env _ _ A N h fun vy y st1 μ1 H1 p A1 e1 r1 => ?_⟩
  exact aug_ok op μ1 H1 st1 v vy x y (fun z st2 => P.nx (env.set i (some z)) st2) _ A1 (rv.go e1 A.mu) r1 p fun vz z st2 μ2 H2 p2 A2 e2 r2 => k.nx _ _ st2 μ2 H2 p2 A2 (e1.trans e2) (((N.go e1 A.mu).go e2 A1.mu).set r2)
theorem okS_augs (op : Operator) (ho : OkE K mg to fo) (hi : OkE K mg ti fi) (he : OkE K mg te fe) : OkS K mg (tAugS to ti te (rIxL K) (rAug op) rSetL) fun env st P => fo env st fun x st1 => fi env st1 fun y st2 => idlW st2 x y fun v => fe env st2 fun u st3 => augW st3 op v u fun z st4 => setW st4 x y z fun st5 => P.nx env st5 := fun μ H st σ env P D A N h k => by
  refine ho μ H st σ env _ _ A N h fun vx x st1 μ1 H1 h1 A1 e1 r1 => ?_
  refine hi μ1 H1 st1 σ env _ _ A1 (N.go e1 A.mu) h1 fun vy y st2 μ2 H2 h2 A2 e2 r2 => ?_
  have N2 := (N.go e1 A.mu).go e2 A1.mu
  have rx2 := r1.go e2 A1.mu
  refine idl_ok μ2 H2 st2 vx vy x y (fun v st3 => st3 = st2 ∧ fe env st2 fun u st3 => augW st3 op v u fun z st4 => setW st4 x y z fun st5 => P.nx env st5) _ A2 rx2 r2 ?_ fun vv v st3 μ3 H3 h3 A3 e3 r3 => ?_
  · cases x <;> first | exact False.elim h2 | skip
    cases y <;> first | exact False.elim h2 | skip
    exact let ⟨ws, a, w, b, c⟩ := h2; ⟨ws, a, w, b, rfl, c⟩
  obtain ⟨rfl, h3⟩ := h3
  have N3 := N2.go e3 A2.mu
  have rx3 := rx2.go e3 A2.mu
  have ry3 := r2.go e3 A2.mu
  refine he μ3 H3 _ σ env _ _ A3 N3 h3 fun vu u st4 μ4 H4 h4 A4 e4 r4 => ?_
  refine aug_ok op μ4 H4 st4 vv vu v u (fun z st4 => setW st4 x y z fun st5 => P.nx env st5) _ A4 (r3.go e4 A3.mu) r4 h4 fun vz z st5 μ5 H5 h5 A5 e5 r5 => ?_
  refine set_ok A5 ((rx3.go e4 A3.mu).go e5 A4.mu) ((ry3.go e4 A3.mu).go e5 A4.mu) r5 h5 fun st6 μ6 H6 h6 A6 e6 => ?_
  exact k.nx σ env st6 μ6 H6 h6 A6 (((((e1.trans e2).trans e3).trans e4).trans e5).trans e6) (((N3.go e4 A3.mu).go e5 A4.mu).go e6 A5.mu)
theorem okS_ret (he : OkE K mg te fe) : OkS K mg (tRet te) fun env st P => fe env st P.rt := fun μ H st σ env P D A N h k => he μ H st σ env _ _ A N h k.rt
theorem okS_retN : OkS K mg tRetN fun _ st P => P.rt .non st := fun μ H st σ env P D A N h k => k.rt _ _ st μ H h A .refl .non
theorem okS_if (hc : OkT K mg tt ft) (ha : OkS K mg t f) (hb : OkS K mg u g) : OkS K mg (tIfS tt t u) fun env st P => ft env st fun r st1 => if r = true then f env st1 P else g env st1 P := fun μ H st σ env P D A N h k => by
  refine hc μ H st σ env _ _ A N h fun b st1 μ1 H1 p A1 e1 => ?_
  cases b with
  | true => exact ha μ1 H1 st1 σ env P D A1 (N.go e1 A.mu) p (k.go _ _ e1)
  | false => exact hb μ1 H1 st1 σ env P D A1 (N.go e1 A.mu) p (k.go _ _ e1)
theorem okS_while (hc : OkT K mg tt ft) (hb : OkS K mg t f) : OkS K mg (tWhile tt t) fun env st P => ∃ n, whileW ft (fun env st N => f env st ⟨N, P.rt, P.nx, N⟩) P.nx n env st := fun μ H st σ env P D A N h k => by
  obtain ⟨n, h⟩ := h
  refine ⟨fun m σ2 H2 => ∃ μ2 st2 env2, Abs K mg μ2 H2 st2 ∧ Ext μ H μ2 H2 ∧ EnvOk K mg μ2 H2 σ2 env2 ∧ whileW ft (fun env st N => f env st ⟨N, P.rt, P.nx, N⟩) P.nx m env2 st2, ⟨n, μ, st, env, A, .refl, N, h⟩, ?_⟩
  rintro m σ2 H2 ⟨μ2, st2, env2, A2, e2, N2, h2⟩
  cases m with
  | zero => exact False.elim h2
  | succ m =>
    refine hc μ2 H2 st2 σ2 env2 _ _ A2 N2 h2 fun b st3 μ3 H3 h3 A3 e3 => ?_
    have e23 := e2.trans e3
    cases b with
    | true =>
      rw [if_pos rfl] at h3 ⊢
      refine ⟨fun σ' H' => ∃ μ2 st2 env2, Abs K mg μ2 H' st2 ∧ Ext μ H μ2 H' ∧ EnvOk K mg μ2 H' σ' env2 ∧ whileW ft (fun env st N => f env st ⟨N, P.rt, P.nx, N⟩) P.nx m env2 st2, fun σ' H' q => ⟨m, Nat.lt_succ_self m, q⟩, ?_⟩
      exact hb μ3 H3 st3 σ2 env2 _ _ A3 (N2.go e3 A2.mu) h3 ⟨fun σ4 env4 st4 μ4 H4 p A4 e4 N4 => ⟨μ4, st4, env4, A4, e23.trans e4, N4, p⟩, (k.go _ _ e23).rt, (k.go _ _ e23).nx, fun σ4 env4 st4 μ4 H4 p A4 e4 N4 => ⟨μ4, st4, env4, A4, e23.trans e4, N4, p⟩⟩
    | false =>
      rw [if_neg Bool.false_ne_true] at h3 ⊢
      exact k.nx σ2 env2 st3 μ3 H3 h3 A3 e23 (N2.go e3 A2.mu)
theorem okS_for {wi : TI} {fi : En → Sto → (List D → Option (Nat × List D) → Sto → Prop) → Prop} (hi : OkI K mg wi fi) (hg : OkG K mg sl tg fg) (hb : OkS K mg t f) :
    OkS K mg (tFor wi tg t) fun env st P => fi env st fun ws keep st1 => forW (keepW keep) (fun w env st N => fg w env st fun env2 st2 => f env2 st2 ⟨N, P.rt, P.nx, N⟩) P.nx ws env st1 := fun μ H st σ env P D A N h k => by
  refine hi μ H st σ env _ _ A N h fun ws keep st1 μ1 H1 J h1 A1 e1 hJ => ?_
  refine ⟨fun i m σ2 H2 => ∃ μ2 st2 env2, m = ws.length - i ∧ i ≤ ws.length ∧ Abs K mg μ2 H2 st2 ∧ Ext μ1 H1 μ2 H2 ∧ EnvOk K mg μ2 H2 σ2 env2 ∧
      forW (keepW keep) (fun w env st N => fg w env st fun env2 st2 => f env2 st2 ⟨N, P.rt, P.nx, N⟩) P.nx (ws.drop i) env2 st2, ⟨ws.length, μ1, st1, env, rfl, Nat.zero_le _, A1, .refl, N.go e1 A.mu, h1⟩, ?_⟩
  rintro i m σ2 H2 ⟨μ2, st2, env2, rfl, hi', A2, e2, N2, hc⟩
  have e12 := e1.trans e2
  by_cases hlt : i < ws.length
  · rw [List.drop_eq_getElem_cons hlt] at hc
    obtain ⟨kp, hc⟩ := hc
    obtain ⟨_, hgo⟩ := hJ μ2 H2 st2 e2 A2 kp
    obtain ⟨go, hy⟩ := hgo i ws[i] (List.getElem?_eq_getElem hlt)
    refine .inr ⟨go, fun σ' H' => ∃ μ2 st2 env2, Abs K mg μ2 H' st2 ∧ Ext μ1 H1 μ2 H' ∧ EnvOk K mg μ2 H' σ' env2 ∧
      forW (keepW keep) (fun w env st N => fg w env st fun env2 st2 => f env2 st2 ⟨N, P.rt, P.nx, N⟩) P.nx (ws.drop (i + 1)) env2 st2, fun σ' H' hN => ?_, fun x H3 y => ?_⟩
    · obtain ⟨μ3, st3, env3, B1, B2, B3, B4⟩ := hN
      exact ⟨ws.length - (i + 1), by omega, μ3, st3, env3, rfl, hlt, B1, B2, B3, B4⟩
    · obtain ⟨eH, rx⟩ := hy x H3 y
      subst eH
      refine hg μ2 H3 st2 σ2 env2 x ws[i] _ _ A2 N2 rx hc fun σ4 env4 st4 μ4 H4 h4 A4 e4 N4 _ => ?_
      have e24 := e2.trans e4
      have e14 := e1.trans e24
      exact hb μ4 H4 st4 σ4 env4 _ _ A4 N4 h4 ⟨fun σ5 env5 st5 μ5 H5 p A5 e5 N5 => ⟨μ5, st5, env5, A5, e24.trans e5, N5, p⟩, (k.go _ _ e14).rt, (k.go _ _ e14).nx, fun σ5 env5 st5 μ5 H5 p A5 e5 N5 => ⟨μ5, st5, env5, A5, e24.trans e5, N5, p⟩⟩
  · have e : i = ws.length := by omega
    subst e
    rw [List.drop_length] at hc
    obtain ⟨kp, hc⟩ := hc
    obtain ⟨stop, _⟩ := hJ μ2 H2 st2 e2 A2 kp
    exact .inl ⟨stop, k.nx σ2 env2 st2 μ2 H2 hc A2 e12 N2⟩
end
section
variable {K : PySem.W.Frag} {mg : MW} {call : Cal} {cst : List D} {gv : Nat → V → Prop}
variable (hgv : ∀ k w, cst[k]? = some w → (∃ v, gv k v) ∧ ∀ v, gv k v → ∀ μ H, Rep K mg μ H v w)
include hgv
mutual
theorem okS : ∀ s : S, OkS K mg (rdS K mg call gv s) (wpS call cst s)
  | .expr e => okS_drop (okE hgv e)
  | .asg t e => okS_asg (okE hgv e) (okG hgv t)
  | .aug i op e => okS_aug i op (okE hgv e)
  | .augs o i op e => okS_augs op (okE hgv o) (okE hgv i) (okE hgv e)
  | .ret e => okS_ret (okE hgv e)
  | .retn => okS_retN
  | .ite c a b => okS_if (okT hgv c) (okSs a) (okSs b)
  | .while_ c b => okS_while (okT hgv c) (okSs b)
  | .for_ t it b => okS_for (okI hgv it) (okG hgv t) (okSs b)
  | .brk => fun μ H st σ env P D A N h k => k.bk σ env st μ H h A .refl N
  | .cont => fun μ H st σ env P D A N h k => k.ct σ env st μ H h A .refl N
  | .pass => fun μ H st σ env P D A N h k => k.nx σ env st μ H h A .refl N
theorem okSs : ∀ s : Ss, OkS K mg (rdSs K mg call gv s) (wpSs call cst s)
  | .nil => fun μ H st σ env P D A N h k => k.nx σ env st μ H h A .refl N
  | .cons s ss => fun μ H st σ env P D A N h k => okS_seq (okS s) (okSs ss) μ H st σ env P D A N h k
end
end
end Dq

set_option Elab.async false
set_option linter.all false
set_option maxRecDepth 100000
set_option maxHeartbeats 4000000
/-! Dq11: the compiler of statements; defs by level. -/
namespace Dq
open PySem PySem.Spec PyProof.Rows L2

/-! ### the compiler of statements -/
def isLoc (c : CC) (x : Str) : Bool := match c.sc.names.lookup x with
  | some .local => true
  | _ => false
def isCel (c : CC) (x : Str) : Bool := match c.sc.names.lookup x with
  | some .cell => true
  | _ => false
theorem isLoc_ok {c : CC} {x : Str} (h : isLoc c x = true) : c.sc.names.lookup x = some .local := by
  unfold isLoc at h
  split at h
  · assumption
  · cases h
theorem isCel_ok {c : CC} {x : Str} (h : isCel c x = true) : c.sc.names.lookup x = some .cell := by
  unfold isCel at h
  split at h
  · assumption
  · cases h
def isTupE : Expr → Bool
  | .Tuple _ _ _ => true
  | .List _ _ => true
  | _ => false
def cSs (f : Stmt → Option S) : List Stmt → Option Ss
  | [] => some .nil
  | s :: ss => (f s).bind fun s' => (cSs f ss).bind fun ss' => some (.cons s' ss')
def cAsg0 (r : Cp) (c : CC) (tg e : Expr) : Option S :=
  if noComp e = true then (if (isTupE tg && isTupE e) = false then (if noStar tg = true then (r.e c e).bind fun e' => (r.g c tg).bind fun t' => some (.asg t' e') else none) else none) else none
def cAsg (r : Cp) (c : CC) (tg e : Expr) : Option S := match tg, e with
  | .Name y py, .ListComp elt [⟨t, iter, ifs, 0⟩] scope lpos =>
    if (py.line == lpos.line) = true then (if isLoc c y = true then (if (scope.names.any fun (n, k) => n == y && (k == .local || k == .cell)) = false then
      (ixOf c.N y).bind fun i => (cComp r c elt t iter ifs scope).bind fun e' => some (.asg (.name i) e') else none) else none) else none
  | tg, e => cAsg0 r c tg e
def stS (r : Cp) (fs : List Stmt → Option Ss) (c : CC) : Stmt → Option S
  | .Expr e _ => if noComp e = true then (r.e c e).bind fun e' => some (.expr e') else none
  | .Assign [tg] e _ => cAsg r c tg e
  | .AugAssign (.Name x _) op e _ => if (isLoc c x || isCel c x) = true then (ixOf c.N x).bind fun i => (r.e c e).bind fun e' => some (.aug i op e') else none
  | .AugAssign (.Subscript o i _) op e _ => if plainIx i = true then (r.e c o).bind fun o' => (r.e c i).bind fun i' => (r.e c e).bind fun e' => some (.augs o' i' op e') else none
  | .Return (some e) _ => (r.e c e).bind fun e' => some (.ret e')
  | .Return none _ => some .retn
  | .If t a b _ => (r.t c t).bind fun t' => (fs a).bind fun a' => (fs b).bind fun b' => some (.ite t' a' b')
  | .While t b [] _ => (r.t c t).bind fun t' => (fs b).bind fun b' => some (.while_ t' b')
  | .For tg it b [] _ => (cI r c it).bind fun it' => (r.g c tg).bind fun t' => (fs b).bind fun b' => some (.for_ t' it' b')
  | .Break _ => some .brk
  | .Continue _ => some .cont
  | .Pass _ => some .pass
  | _ => none
def csN (k : Nat) (c : CC) : Nat → Stmt → Option S
  | 0 => fun _ => none
  | n + 1 => stS (cp k) (cSs (csN k c n)) c
abbrev rS (call : Cal) (c : CC) (X : Cx) : S → TS := rdS X.K (mgN X.w c.G X.mg) call (gvN c.G X.mg)
abbrev rSs (call : Cal) (c : CC) (X : Cx) : Ss → TS := rdSs X.K (mgN X.w c.G X.mg) call (gvN c.G X.mg)
section
variable {call : Cal} {n : Nat} {c : CC} {X : Cx} {r : Cp}
theorem cSs_ok {f : Stmt → Option S} (hf : ∀ s i, f s = some i → PS X s (rS call c X i)) : ∀ (ss : List Stmt) (i : Ss), cSs f ss = some i → PSs X ss (rSs call c X i)
  | [], i, h => by
    cases h
    exact pss_nil
  | s :: ss, i, h => by
    unfold cSs at h
    obtain ⟨s', h1, h⟩ := bindS h
    obtain ⟨ss', h2, h⟩ := bindS h
    cases h
    exact pss_cons (hf s s' h1) (cSs_ok hf ss ss' h2)
theorem sw_no {e : Expr} {t : Option Expr} {l : Nat} {env : Env} (h : noComp e = true) : swapsWith e t l env = pure false := by
  cases e <;> first | rfl | cases h
theorem st_no {tg e : Expr} {env : Env} (h : (isTupE tg && isTupE e) = false) : swappedStores [tg] e env = pure none := by
  cases tg <;> first | rfl | (cases e <;> first | rfl | cases h)
theorem asg0_ok (hr : CpOk r) (G : XG call n c X) {tg e : Expr} {pos : Pos} {i : S} (h : cAsg0 r c tg e = some i) : PS X (.Assign [tg] e pos) (rS call c X i) := by
  unfold cAsg0 at h
  obtain ⟨h1, h⟩ := ifS h
  obtain ⟨h2, h⟩ := ifS h
  obtain ⟨h3, h⟩ := ifS h
  obtain ⟨e', h4, h⟩ := bindS h
  obtain ⟨t', h5, h⟩ := bindS h
  cases h
  exact ps_asg (hr.e call n c X e e' G h4) (hr.g call n c X tg t' G h5) (sw_no h1) (st_no h2) (by rw [asg_cons h3] <;> rfl)
theorem asg_ok (hr : CpOk r) (G : XG call n c X) (hk : X.env.scope.kind = .function) {tg e : Expr} {pos : Pos} {i : S} (h : cAsg r c tg e = some i) : PS X (.Assign [tg] e pos) (rS call c X i) := by
  unfold cAsg at h
  split at h
  · rename_i y py elt t iter ifs scope lpos
    obtain ⟨h1, h⟩ := ifS h
    obtain ⟨h2, h⟩ := ifS h
    obtain ⟨h3, h⟩ := ifS h
    obtain ⟨j, h4, h⟩ := bindS h
    obtain ⟨e', h5, h⟩ := bindS h
    cases h
    obtain ⟨sl, wi, g, tt, te, L, e⟩ := comp_ok hr G h5
    show PS X _ (tAsg (rE call c X e') (gName j))
    rw [e]
    have hy := G.loc y (isLoc_ok h2)
    have z := ps_setLc (pos := lpos) (spos := pos) (py := py) G.calm G.nd (show X.N[j]? = some y by rw [G.hN]; exact ixOf_ok h4) hy (sw_true hk hy h1 h3) L.hi L.blk L.hg L.ht L.he L.fold
    rw [ownOf_snd] at z
    exact z
  · exact asg0_ok hr G h
theorem step_s (hr : CpOk r) (G : XG call n c X) (hk : X.env.scope.kind = .function) {fs : List Stmt → Option Ss} (hf : ∀ s i, fs s = some i → PSs X s (rSs call c X i)) (s : Stmt) (i : S) (h : stS r fs c s = some i) : PS X s (rS call c X i) := by
  have hx : PassesOwn (model X.prog X.w) X.A X.env X.xe := by
    rw [G.xe]
    exact PassesOwn.never
  unfold stS at h
  split at h
  · obtain ⟨h1, h⟩ := ifS h
    obtain ⟨e', h2, h⟩ := bindS h
    cases h
    exact ps_expr (hr.e call n c X _ e' G h2) (sw_no h1)
  · exact asg_ok hr G hk h
  · rename_i x p op e pos
    obtain ⟨h1, h⟩ := ifS h
    obtain ⟨j, h2, h⟩ := bindS h
    obtain ⟨e', h3, h⟩ := bindS h
    cases h
    have hl : c.sc.names.lookup x = some .local ∨ c.sc.names.lookup x = some .cell := by
      rw [Bool.or_eq_true] at h1
      exact h1.imp isLoc_ok isCel_ok
    obtain ⟨s1, s2⟩ := G.sto x hl
    exact ps_aug G.nd (by rw [G.hN]; exact ixOf_ok h2) s1 (hr.e call n c X _ e' G h3) (rAug_ip X op) s2
  · rename_i o ix p op e pos
    obtain ⟨h1, h⟩ := ifS h
    obtain ⟨o', h2, h⟩ := bindS h
    obtain ⟨i', h3, h⟩ := bindS h
    obtain ⟨e', h4, h⟩ := bindS h
    cases h
    refine ps_augS (hr.e call n c X _ o' G h2) (hr.e call n c X _ i' G h3) get_list (hr.e call n c X _ e' G h4) (rAug_ip X op) set_list fun ov iv new => ?_
    cases ix <;> first | rfl | cases h1
  · obtain ⟨e', h1, h⟩ := bindS h
    cases h
    exact ps_ret (hr.e call n c X _ e' G h1)
  · cases h
    exact ps_retN
  · obtain ⟨t', h1, h⟩ := bindS h
    obtain ⟨a', h2, h⟩ := bindS h
    obtain ⟨b', h3, h⟩ := bindS h
    cases h
    exact ps_if (hr.t call n c X _ t' G h1).1 (hf _ _ h2) (hf _ _ h3)
  · obtain ⟨t', h1, h⟩ := bindS h
    obtain ⟨b', h3, h⟩ := bindS h
    cases h
    exact ps_while hx (hr.t call n c X _ t' G h1).1 (hf _ _ h3)
  · rename_i tg it b pos
    obtain ⟨it', h1, h⟩ := bindS h
    obtain ⟨t', h2, h⟩ := bindS h
    obtain ⟨b', h3, h⟩ := bindS h
    cases h
    obtain ⟨z1, z2⟩ := cI_ok (fun a i => hr.e call n c X a i G) G (tg := tg) it it' h1
    exact ps_for hx G.calm z1 (hr.g call n c X _ t' G h2) (hf _ _ h3) z2
  · cases h
    exact ps_break
  · cases h
    exact ps_continue
  · cases h
    exact ps_pass
  · cases h
theorem csN_ok (G : XG call n c X) (hk : X.env.scope.kind = .function) (k : Nat) : ∀ (m : Nat) (s : Stmt) (i : S), csN k c m s = some i → PS X s (rS call c X i)
  | 0, s, i, h => by cases h
  | m + 1, s, i, h => step_s (cpOk k) G hk (fun ss i h => cSs_ok (csN_ok G hk k m) ss i h) s i h
end

/-! ### defs -/
structure Df where
  name : Str
  st : Stmt
  N : List Str
  P : List Str
def compD (G : Gm) (d : Df) : Option Ss := cSs (csN 40 ⟨d.N, defScope d.st, G⟩ 40) (defBody d.st)
structure DfOk (G : Gm) (d : Df) (fi : Fi) : Prop where
  sc : FnScope d.N d.P (defScope d.st)
  ps : fi.ps = d.P.length
  sl : fi.sl = d.N.length
  body : compD G d = some fi.body
/-- a def of the program as it stands behind the top -/
structure DfAt (K : PySem.W.Frag) (mg : Str → Option Value) (G : Gm) (d : Df) (fi : Fi) : Prop where
  ok : DfOk G d fi
  at_ : ∃ a fd, mg d.name = some (.ref a) ∧ Fun K d.name d.name d.st a fd ∧ Binds K fd d.P []
/-- a constant of the top -/
def CsAt (K : PySem.W.Frag) (mg : Str → Option Value) (mn : MW) (x : Str) (w : D) : Prop := ∃ u, mg x = some u ∧ (∃ v, RelV v u) ∧ ∀ v, RelV v u → ∀ μ H, Rep K mn μ H v w
structure PgOk (w : World) (K : PySem.W.Frag) (mg : Str → Option Value) (G : Gm) (fns : List Fi) (cst : List D) : Prop where
  fn : ∀ (k : Nat) (x : Str), G.fnames[k]? = some x → ∃ d fi, d.name = x ∧ fns[k]? = some fi ∧ DfAt K mg G d fi
  cs : ∀ (k : Nat) (x : Str), G.cnames[k]? = some x → ∃ y, cst[k]? = some y ∧ CsAt K mg (mgN w G mg) x y
  cl : cst.length ≤ G.cnames.length
  fr : ∀ x, G.free.contains x = true → mg x = none
section
variable {P : Program} {w : World} {K : PySem.W.Frag} {mg : Str → Option Value} {base : Heap} {G : Gm} {fns : List Fi} {cst : List D}
theorem PgOk.gv (R : PgOk w K mg G fns cst) : ∀ k y, cst[k]? = some y → (∃ v, gvN G mg k v) ∧ ∀ v, gvN G mg k v → ∀ μ H, Rep K (mgN w G mg) μ H v y := fun k y e => by
  have hk : k < G.cnames.length := Nat.lt_of_lt_of_le (List.getElem?_eq_some_iff.mp e).1 R.cl
  have hx : G.cnames[k]? = some G.cnames[k] := List.getElem?_eq_getElem hk
  obtain ⟨w', e', u, hu, ⟨v, hv⟩, hr⟩ := R.cs k _ hx
  rw [e] at e'
  cases e'
  refine ⟨⟨v, _, u, hx, hu, hv⟩, fun v' h' μ H => ?_⟩
  obtain ⟨x', u', hx', hu', hv'⟩ := h'
  rw [hx] at hx'
  cases hx'
  rw [hu] at hu'
  cases hu'
  exact hr v' hv' μ H
theorem env_start {μ : List Addr} {H : Hp} {mn : MW} : ∀ {vs : List V} {ws : List D} {N : List Str} {n : Nat}, Reps K mn μ H vs ws → n = N.length → EnvOk K mn μ H (L2.start N vs) (ws.map some ++ List.replicate (n - ws.length) none) := fun {vs ws N n} r hn => by
  subst hn
  unfold L2.start
  rw [r.length]
  refine ⟨by simp [r.length], fun i w h => ?_⟩
  by_cases hi : i < ws.length
  · rw [List.getElem?_append_left (by simpa using hi), List.getElem?_map] at h
    rw [List.getElem?_append_left (by simpa [r.length] using hi), List.getElem?_map]
    cases q : ws[i]? with
    | none =>
      rw [q] at h
      cases h
    | some w' =>
      rw [q] at h
      cases h
      obtain ⟨v, e, rv⟩ := r.get q
      exact ⟨v, by rw [e] <;> rfl, rv⟩
  · rw [List.getElem?_append_right (by simpa using hi), List.getElem?_replicate] at h
    split at h <;> cases h
theorem fn_step (R : PgOk w K mg G fns cst) (n : Nat) (ih : ∀ (k : Nat) (x : Str), G.fnames[k]? = some x → ∃ a fd ps, mg x = some (.ref a) ∧ PySem.W.keepIn K (.ref a) = true ∧ Binds K fd ps [] ∧ FnOk P w K mg base CX0 n a fd ps (spD K (mgN w G mg) (callW fns cst n k)))
    {k : Nat} {d : Df} {fi : Fi} {a : Addr} {fd : FuncData} (ok : DfOk G d fi) (hf : fns[k]? = some fi) (h2 : Fun K d.name d.name d.st a fd) : FnOk P w K mg base CX0 (n + 1) a fd d.P (spD K (mgN w G mg) (callW fns cst (n + 1) k)) := by
  refine h2.ok ok.sc (fun vs H Q E h => ?_) fun cdv A outer s H vs Q E hr h => ?_
  · obtain ⟨μ, st, ws, Pd, A0, r, z, _⟩ := h
    obtain ⟨fi', e', l, _⟩ := z
    rw [hf] at e'
    cases e'
    rw [r.length, l, ok.ps]
  · obtain ⟨μ, st, ws, Pd, A0, r, z, kk⟩ := h
    obtain ⟨fi', e', l, z⟩ := z
    rw [hf] at e'
    cases e'
    have G0 : XG (callW fns cst n) n ⟨d.N, defScope d.st, G⟩ (cxOf CX0 P w K mg base d.N d.name (defScope d.st) a cdv A outer s H E).nox := by
      refine ⟨rfl, rfl, ok.sc.nd, hr, rfl, fun x k h1 h2 => ?_, fun x h => ⟨h, .inl rfl⟩, fun x h => h, fun x h => h, fun x h => h, fun k x h => ?_, R.fr, fun k f h => ih k f h⟩
      · rcases h2 with q | q | q
        · exact .inl (by rw [← q]; exact h1)
        · exact .inr (.inl (by rw [← q]; exact h1))
        · exact .inr (.inr (by rw [← q]; exact h1))
      · obtain ⟨w', _, u, hu, ⟨v, hv⟩, _⟩ := R.cs k x h
        exact ⟨u, v, hu, hv⟩
    refine ⟨_, cSs_ok (csN_ok G0 ok.sc.kind 40 40) (defBody d.st) fi.body ok.body, ?_⟩
    refine okSs R.gv fi.body μ H st (L2.start d.N vs) _ _ _ A0 (env_start r ok.sl) z ⟨fun σ' env' st' μ' H' p A1 e1 N1 => ?_, fun v w st' μ' H' p A1 e1 r1 => kk v w st' μ' H' p A1 e1 r1, fun _ _ _ _ _ p _ _ _ => False.elim p, fun _ _ _ _ _ p _ _ _ => False.elim p⟩
    exact kk .non .non st' μ' H' p A1 e1 .non
theorem fn_zero {k : Nat} {a : Addr} {fd : FuncData} {ps : List Str} : FnOk P w K mg base CX0 0 a fd ps (spD K (mgN w G mg) (callW fns cst 0 k)) := by
  refine ⟨fun vs H Q E h => ?_, fun A outer s H args us vs Q E _ _ _ _ h => ?_⟩
  · obtain ⟨_, _, _, _, _, _, z, _⟩ := h
    exact False.elim z
  · obtain ⟨_, _, _, _, _, _, z, _⟩ := h
    exact False.elim z
theorem fns_ok (R : PgOk w K mg G fns cst) : ∀ (n k : Nat) (x : Str), G.fnames[k]? = some x → ∃ a fd ps, mg x = some (.ref a) ∧ PySem.W.keepIn K (.ref a) = true ∧ Binds K fd ps [] ∧ FnOk P w K mg base CX0 n a fd ps (spD K (mgN w G mg) (callW fns cst n k))
  | 0, k, x, hx => by
    obtain ⟨d, fi, e, hf, hd⟩ := R.fn k x hx
    obtain ⟨a, fd, h1, h2, h3⟩ := hd.at_
    exact ⟨a, fd, d.P, by rw [← e]; exact h1, h2.kp, h3, fn_zero⟩
  | n + 1, k, x, hx => by
    obtain ⟨d, fi, e, hf, hd⟩ := R.fn k x hx
    obtain ⟨a, fd, h1, h2, h3⟩ := hd.at_
    exact ⟨a, fd, d.P, by rw [← e]; exact h1, h2.kp, h3, fn_step R n (fns_ok R n) hd.ok hf h2⟩
theorem fns_okD (R : PgOk w K mg G fns cst) (n : Nat) {k : Nat} {d : Df} {fi : Fi} {a : Addr} {fd : FuncData} (ok : DfOk G d fi) (hf : fns[k]? = some fi) (h2 : Fun K d.name d.name d.st a fd) : FnOk P w K mg base CX0 n a fd d.P (spD K (mgN w G mg) (callW fns cst n k)) := by
  cases n with
  | zero => exact fn_zero
  | succ n => exact fn_step R n (fns_ok R n) ok hf h2
end
end Dq

set_option Elab.async false
set_option linter.all false
set_option maxRecDepth 100000
set_option maxHeartbeats 4000000
/-! Dq12: from the head's facts to the law's end. -/
namespace Dq
open PySem PySem.Spec PyProof.Rows L2

/-- the whole program: its defs, its top's constants, the builtins' names that it uses -/
structure Src where
  defs : List Df
  cs : List (Str × D)
  free : List Str
def Src.G (p : Src) : Gm := ⟨p.defs.map (·.name), p.cs.map (·.1), p.free⟩
mutual
/-- a value of the top is this constant (no dict) -/
def csB (K : PySem.W.Frag) : D → Value → Bool
  | .non, .none => true
  | .bl b, .bool c => b == c
  | .int i, .int j _ => decide (i = j)
  | .str x, .str y _ => decide (sv x = y)
  | .tup ws, .ref a => (match K.lookup a with
    | some ⟨.type c, _, .seq its _, _⟩ => decide (c = "tuple") && (decide (its.size ≤ sizeLine) && csBs K ws its.toList)
    | _ => false)
  | .flst ws, .ref a => (match K.lookup a with
    | some ⟨.type c, none, .seq its _, _⟩ => decide (c = "list") && (decide (its.size ≤ sizeLine) && csBs K ws its.toList)
    | _ => false)
  | _, _ => false
def csBs (K : PySem.W.Frag) : List D → List Value → Bool
  | [], [] => true
  | w :: ws, u :: us => csB K w u && csBs K ws us
  | _, _ => false
end
def csBd (K : PySem.W.Frag) (a : Addr) : List (List Nat) → List D → Bool
  | [], [] => true
  | k :: ks, w :: ws => (match PySem.W.nsIn K a (sv k) with
    | some (some u) => csB K w u
    | _ => false) && csBd K a ks ws
  | _, _ => false
def csTop (K : PySem.W.Frag) : D → Value → Bool
  | .dic ks ws, .ref a => csBd K a ks ws
  | w, u => csB K w u
def csOne (K : PySem.W.Frag) (q : Str × D) : Bool := match PySem.W.nsIn K mainGlobals q.1 with
  | some (some u) => csTop K q.2 u
  | _ => false
def tabOf (q : Str × D) : Option He.Tab := match q.2 with
  | .dic ks _ => some (fun K => He.ga K q.1, ks.map sv)
  | _ => none
def Src.fa (p : Src) : List He.Fa := p.defs.map (fun d => .glo d.name) ++ p.free.map .free
def dOf (d : Df) : He.DefD := ⟨(d.name, none), d.name, d.name, defArgs d.st, defBody d.st, defScope d.st, [], []⟩
def Src.fn (p : Src) : List He.DefD := p.defs.map dOf
def BindH (d : Df) : Prop := ∀ (kV doc pm : Value) (an : Option Addr) (cdv ct : Value) (us : List Value), us.length = d.P.length → bindArgs (PySem.W.fnOf d.name d.name (defArgs d.st) (defBody d.st) (defScope d.st) .none kV doc pm an cdv ct) ⟨us, []⟩ = pure (d.P.zip us)
/-- the texts and the language's bodies belong together -/
structure SrcOk (p : Src) (fns : List Fi) : Prop where
  df : ∀ (k : Nat) (d : Df), p.defs[k]? = some d → ∃ fi, fns[k]? = some fi ∧ DfOk p.G d fi ∧ BindH d
inductive AllD (G : Gm) : List Df → List Fi → Prop where
  | nil : AllD G [] []
  | cons {d : Df} {ds : List Df} {fi : Fi} {fs : List Fi} : DfOk G d fi → BindH d → AllD G ds fs → AllD G (d :: ds) (fi :: fs)
theorem AllD.get {G : Gm} : ∀ {ds : List Df} {fs : List Fi} {k : Nat} {d : Df}, AllD G ds fs → ds[k]? = some d → ∃ fi, fs[k]? = some fi ∧ DfOk G d fi ∧ BindH d
  | _, _, k, _, .nil, h => by simp at h
  | _, _, 0, _, .cons a b _, h => by
    cases h
    exact ⟨_, rfl, a, b⟩
  | _, _, k + 1, d, .cons _ _ t, h => AllD.get (k := k) (d := d) t h
/-! ### what is looked at -/
abbrev AlQ : Type := He.AlD × Bool × List (Option (List (Option (Str × Int))))
def obsQ (p : Src) (K : PySem.W.Frag) : AlQ := (He.obsD p.fa p.fn K, p.cs.all (csOne K), (p.cs.filterMap tabOf).map fun t => He.dicW K (t.1 K))
def valQ (p : Src) (w : World) : AlQ := (He.valD p.fn, true, (p.cs.filterMap tabOf).map fun t => some (He.keysIn w.params t.2))
def SaysQ (p : Src) (w : World) (K : PySem.W.Frag) : Prop := obsQ p K = valQ p w
def obsQG (n : Nat) (p : Src) (g : Addr → Option Obj) : AlQ := obsQ p (He.frG g (He.asD g n))
def hookQ (n : Nat) (p : Src) : PySem.W.Hook where
  α := AlQ
  obs := fun s => obsQG n p s.heap.get?
  val := fun w => valQ p w
  says := fun w h => ∃ K : PySem.W.Frag, K.In h ∧ SaysQ p w K
  of := fun _ _ e => ⟨_, He.frG_in, e⟩
  keeps := fun _ _ _ ⟨K, hK, c⟩ k => ⟨K, PySem.W.Frag.In.keeps hK k, c⟩
theorem obsQG_eq {n : Nat} {p : Src} {g : Addr → Option Obj} {s : Shared} (h : ∀ a, g a = s.heap.get? a) : obsQG n p g = (hookQ n p).obs s := by
  have e : g = s.heap.get? := funext h
  rw [e] <;> rfl
section
variable {p : Src} {w : World} {K : PySem.W.Frag}
theorem SaysQ.d (c : SaysQ p w K) : He.SaysD p.fa p.fn K := congrArg (fun z : AlQ => z.1) c
theorem SaysQ.cs (c : SaysQ p w K) {q : Str × D} (h : q ∈ p.cs) : csOne K q = true := List.all_eq_true.mp (show p.cs.all (csOne K) = true from congrArg (fun z : AlQ => z.2.1) c) q h
theorem SaysQ.tab (c : SaysQ p w K) {x : Str} {ks : List (List Nat)} {ws : List D} (h : (x, .dic ks ws) ∈ p.cs) : He.dicW K (He.ga K x) = some (He.keysIn w.params (ks.map sv)) := by
  have e : (p.cs.filterMap tabOf).map (fun t => He.dicW K (t.1 K)) = (p.cs.filterMap tabOf).map fun t => some (He.keysIn w.params t.2) := congrArg (fun z : AlQ => z.2.2) c
  have m : ((fun K => He.ga K x, ks.map sv) : He.Tab) ∈ p.cs.filterMap tabOf := List.mem_filterMap.mpr ⟨_, h, rfl⟩
  obtain ⟨i, hi, e1⟩ := List.mem_iff_getElem.mp m
  have e2 : ((p.cs.filterMap tabOf).map fun t => He.dicW K (t.1 K))[i]? = ((p.cs.filterMap tabOf).map fun t => some (He.keysIn w.params t.2))[i]? := by rw [e]
  rw [List.getElem?_map, List.getElem?_map, List.getElem?_eq_getElem hi, e1] at e2
  exact Option.some.inj e2
end
theorem keys_no {P : Params} {x : Str} : ∀ {l : List DictEntry} {ks : List Str}, l.map He.keyOf = He.keysIn P ks → x ∉ ks → l.find? (·.key.isStr x) = none ∧ l.any (·.refKey) = false
  | [], _, _, _ => ⟨rfl, rfl⟩
  | e :: r, [], h, _ => by cases h
  | e :: r, k :: ks, h, hx => by
    have h1 : He.keyOf e :: r.map He.keyOf = some (k, PyData.keyHash P k) :: He.keysIn P ks := h
    injection h1 with h2 h3
    obtain ⟨i1, i2⟩ := keys_no h3 fun m => hx (List.mem_cons_of_mem _ m)
    have hk : ∃ t, e.key = .str k t := by
      unfold He.keyOf at h2
      split at h2
      · rename_i y t q
        have h4 := Option.some.inj h2
        obtain ⟨h5, h6⟩ := Prod.mk.inj h4
        exact ⟨t, by rw [← h5]; exact q⟩
      · cases h2
    obtain ⟨t, hk⟩ := hk
    have n1 : e.key.isStr x = false := by
      rw [hk]
      show (k == x) = false
      exact beq_eq_false_iff_ne.mpr fun z => hx (by rw [z]; exact List.mem_cons_self)
    have n2 : e.refKey = false := by
      unfold DictEntry.refKey
      rw [hk]
    exact ⟨by rw [List.find?_cons, n1]; exact i1, by rw [List.any_cons, n2, i2] <;> rfl⟩
theorem dic_out {K : PySem.W.Frag} {P : Params} {a : Addr} {ks : List Str} {x : Str} (h : He.dicW K a = some (He.keysIn P ks)) (hx : x ∉ ks) : PySem.W.nsIn K a x = some none := by
  unfold He.dicW at h
  unfold PySem.W.nsIn
  cases q : K.lookup a with
  | none =>
    rw [q] at h
    cases h
  | some o =>
    obtain ⟨oc, od, dt, osl⟩ := o
    rw [q] at h
    cases oc with
    | type c =>
      cases od with
      | none =>
        cases dt with
        | dict es n =>
          have h1 : (match decide (c = "dict") && (osl.isEmpty && !(a == sysModules)) with
            | true => some (es.toList.map He.keyOf)
            | false => none) = some (He.keysIn P ks) := h
          cases z : decide (c = "dict") && (osl.isEmpty && !(a == sysModules)) with
          | false =>
            rw [z] at h1
            cases h1
          | true =>
            rw [z] at h1
            obtain ⟨n1, n2⟩ := keys_no (Option.some.inj h1) hx
            show (match es.toList.find? (·.key.isStr x) with
              | some e => some (some e.val)
              | none => if es.toList.any (·.refKey) then none else some none) = some none
            rw [n1]
            show (if es.toList.any (·.refKey) = true then none else some none) = some none
            rw [n2] <;> rfl
        | _ => cases h
      | some b => cases dt <;> cases h
    | _ => cases od <;> cases dt <;> cases h
theorem relV_ref {v : V} {a : Addr} (h : RelV v (.ref a)) : v = .ref a := by
  cases v with
  | ref b =>
    have h : Value.ref a = .ref b := h
    cases h
    rfl
  | _ => first | (obtain ⟨_, e⟩ := h; cases e; done) | (cases h; done)
mutual
theorem csB_ok {K : PySem.W.Frag} : ∀ (d : D) (u : Value), csB K d u = true → (∃ v, RelV v u) ∧ ∀ v, RelV v u → ∀ mn μ H, Rep K mn μ H v d
  | .non, u, h => by
    cases u with
    | none => exact ⟨⟨.non, rfl⟩, fun v hv mn μ H => by
        cases v with
        | non => exact .non
        | _ => first | (obtain ⟨_, e⟩ := hv; cases e; done) | (cases hv; done)⟩
    | _ => cases h
  | .bl b, u, h => by
    cases u with
    | bool c =>
      have e : b = c := eq_of_beq h
      subst e
      exact ⟨⟨.bl b, rfl⟩, fun v hv mn μ H => by
        cases v with
        | bl c =>
          have hv : Value.bool b = .bool c := hv
          cases hv
          exact .bl b
        | _ => first | (obtain ⟨_, e⟩ := hv; cases e; done) | (cases hv; done)⟩
    | _ => cases h
  | .int i, u, h => by
    cases u with
    | int j t =>
      have e : i = j := of_decide_eq_true h
      subst e
      exact ⟨⟨.int i, ⟨t, rfl⟩⟩, fun v hv mn μ H => by
        cases v with
        | int c =>
          obtain ⟨t', e'⟩ := hv
          cases e'
          exact .int i
        | _ => first | (obtain ⟨_, e⟩ := hv; cases e; done) | (cases hv; done)⟩
    | _ => cases h
  | .str s, u, h => by
    cases u with
    | str y t =>
      have e : sv s = y := of_decide_eq_true h
      subst e
      exact ⟨⟨.str (sv s), ⟨t, rfl⟩⟩, fun v hv mn μ H => by
        cases v with
        | str c =>
          obtain ⟨t', e'⟩ := hv
          cases e'
          exact .str s
        | _ => first | (obtain ⟨_, e⟩ := hv; cases e; done) | (cases hv; done)⟩
    | _ => cases h
  | .tup ws, u, h => by
    cases u with
    | ref a =>
      unfold csB at h
      cases q : K.lookup a with
      | none =>
        rw [q] at h
        cases h
      | some o =>
        obtain ⟨oc, od, dt, osl⟩ := o
        rw [q] at h
        cases oc with
        | type c =>
          cases dt with
          | seq its n =>
            obtain ⟨h1, h2⟩ := He.ba (show (decide (c = "tuple") && (decide (its.size ≤ sizeLine) && csBs K ws its.toList)) = true from h)
            obtain ⟨h3, h4⟩ := He.ba h2
            obtain ⟨vs, r1, r2⟩ := csBs_ok ws its.toList h4
            refine ⟨⟨.ref a, rfl⟩, fun v hv mn μ H => ?_⟩
            rw [relV_ref hv]
            exact .tup (.inr ⟨_, its, n, q, congrArg Value.type (of_decide_eq_true h1), rfl, of_decide_eq_true h3, r1⟩) (r2 mn μ H)
          | _ => cases h
        | _ => cases dt <;> cases h
    | _ => cases h
  | .flst ws, u, h => by
    cases u with
    | ref a =>
      unfold csB at h
      cases q : K.lookup a with
      | none =>
        rw [q] at h
        cases h
      | some o =>
        obtain ⟨oc, od, dt, osl⟩ := o
        rw [q] at h
        cases oc with
        | type c =>
          cases od with
          | none =>
            cases dt with
            | seq its n =>
              obtain ⟨h1, h2⟩ := He.ba (show (decide (c = "list") && (decide (its.size ≤ sizeLine) && csBs K ws its.toList)) = true from h)
              obtain ⟨h3, h4⟩ := He.ba h2
              obtain ⟨vs, r1, r2⟩ := csBs_ok ws its.toList h4
              refine ⟨⟨.ref a, rfl⟩, fun v hv mn μ H => ?_⟩
              rw [relV_ref hv]
              exact .flst (.inr fun H0 => .inr ⟨_, its, n, q, congrArg Value.type (of_decide_eq_true h1), rfl, rfl, of_decide_eq_true h3, r1⟩) (r2 mn μ H)
            | _ => cases h
          | some b => cases dt <;> cases h
        | _ => cases od <;> cases dt <;> cases h
    | _ => cases h
  | .loc _, u, h => by cases u <;> cases h
  | .fn _, u, h => by cases u <;> cases h
  | .dic _ _, u, h => by cases u <;> cases h
theorem csBs_ok {K : PySem.W.Frag} : ∀ (ws : List D) (us : List Value), csBs K ws us = true → ∃ vs, Vals vs us ∧ ∀ mn μ H, Reps K mn μ H vs ws
  | [], us, h => by
    cases us with
    | nil => exact ⟨[], .nil, fun _ _ _ => .nil⟩
    | cons u us => cases h
  | w :: ws, us, h => by
    cases us with
    | nil => cases h
    | cons u us =>
      obtain ⟨h1, h2⟩ := He.ba (show (csB K w u && csBs K ws us) = true from h)
      obtain ⟨⟨v, r1⟩, r2⟩ := csB_ok w u h1
      obtain ⟨vs, r3, r4⟩ := csBs_ok ws us h2
      exact ⟨v :: vs, .cons r1 r3, fun mn μ H => .cons (r2 v r1 mn μ H) (r4 mn μ H)⟩
end
theorem csBd_ok {K : PySem.W.Frag} {a : Addr} : ∀ (ks : List (List Nat)) (ws : List D), csBd K a ks ws = true → ∃ vs : List V, ks.length = vs.length ∧ (∀ (i : Nat) (k : List Nat) (v : V), ks[i]? = some k → vs[i]? = some v → ∃ u, PySem.W.nsIn K a (sv k) = some (some u) ∧ RelV v u) ∧ ∀ mn μ H, Reps K mn μ H vs ws
  | [], [], _ => ⟨[], rfl, fun i k v h _ => by simp at h, fun _ _ _ => .nil⟩
  | [], _ :: _, h => by cases h
  | _ :: _, [], h => by cases h
  | k :: ks, w :: ws, h => by
    obtain ⟨h1, h2⟩ := He.ba (show ((match PySem.W.nsIn K a (sv k) with
      | some (some u) => csB K w u
      | _ => false) && csBd K a ks ws) = true from h)
    obtain ⟨vs, l, r, rr⟩ := csBd_ok ks ws h2
    cases q : PySem.W.nsIn K a (sv k) with
    | none =>
      rw [q] at h1
      cases h1
    | some o =>
      rw [q] at h1
      cases o with
      | none => cases h1
      | some u =>
        obtain ⟨⟨v, rv⟩, r2⟩ := csB_ok w u h1
        refine ⟨v :: vs, by rw [List.length_cons, List.length_cons, l], fun i k' v' e1 e2 => ?_, fun mn μ H => .cons (r2 v rv mn μ H) (rr mn μ H)⟩
        cases i with
        | zero =>
          cases e1
          cases e2
          exact ⟨u, q, rv⟩
        | succ i => exact r i k' v' (by simpa using e1) (by simpa using e2)
theorem sv_inj {a b : List Nat} (h : sv a = sv b) : a = b := by
  have z := congrArg (fun s : Str => s.cps.toList) h
  exact z
theorem fun_of {K : PySem.W.Frag} {x qual : Str} {st : Stmt} {f : Addr} {fd : FuncData} {kws : List (Str × V)} (F : FunD K x qual (defArgs st) (defBody st) (defScope st) [] kws f fd) : Fun K x qual st f fd := by
  obtain ⟨oc, od, dV, kV, doc, pm, an, cdv, ct, osl, h, lk, c, dfl, _⟩ := F.ex
  rcases dfl with ⟨_, rfl⟩ | ⟨z, _⟩
  · exact ⟨⟨oc, od, kV, doc, pm, an, cdv, ct, osl, h, lk, c⟩, F.kp⟩
  · exact absurd rfl z
section
variable {w : World} {K : PySem.W.Frag} {mg : Str → Option Value} {h : Heap} {p : Src} {fns : List Fi}
theorem def_at (X : K.In h) (N : h.Ns mainGlobals mg) (c : He.SaysD p.fa p.fn K) {k : Nat} {d : Df} (hd : p.defs[k]? = some d) :
    mg d.name = some (.ref (He.ga K d.name)) ∧ ∃ fd, FunD K d.name d.name (defArgs d.st) (defBody d.st) (defScope d.st) [] [] (He.ga K d.name) fd := by
  have hk : k < p.defs.length := (List.getElem?_eq_some_iff.mp hd).1
  refine ⟨He.glo_ok X N (c.fact k ?_), ?_⟩
  · unfold Src.fa
    rw [List.getElem?_append_left (by simpa using hk), List.getElem?_map, hd] <;> rfl
  · have e : p.fn[k]? = some (dOf d) := by
      unfold Src.fn
      rw [List.getElem?_map, hd] <;> rfl
    exact c.def_ k e
theorem cs_at (X : K.In h) (N : h.Ns mainGlobals mg) (ok : SrcOk p fns) (c : SaysQ p w K) {mn : MW} (hw : mn.w = w) {q : Str × D} (hq : q ∈ p.cs) : CsAt K mg mn q.1 q.2 := by
  have h1 := c.cs hq
  unfold csOne at h1
  cases e : PySem.W.nsIn K mainGlobals q.1 with
  | none =>
    rw [e] at h1
    cases h1
  | some o =>
    rw [e] at h1
    cases o with
    | none => cases h1
    | some u =>
      have hm : mg q.1 = some u := PySem.W.mg_of X N e
      have plain : csB K q.2 u = true → CsAt K mg mn q.1 q.2 := fun z => by
        obtain ⟨r1, r2⟩ := csB_ok q.2 u z
        exact ⟨u, hm, r1, fun v hv μ H => r2 v hv mn μ H⟩
      obtain ⟨x, d⟩ := q
      cases d with
      | dic ks ws =>
        cases u with
        | ref a =>
          have hd : csBd K a ks ws = true := h1
          have ea : He.ga K x = a := by
            unfold He.ga
            have e' : PySem.W.nsIn K mainGlobals x = some (some (.ref a)) := e
            rw [e']
          have ht := c.tab hq
          rw [ea] at ht
          obtain ⟨vs, l, r, rr⟩ := csBd_ok ks ws hd
          refine ⟨.ref a, hm, ⟨.ref a, rfl⟩, fun v hv μ H => ?_⟩
          rw [relV_ref hv]
          refine .dic ⟨by rw [hw]; exact He.dicW_ok ht, l, r, fun k hk => dic_out ht fun m => ?_⟩ (rr mn μ H)
          obtain ⟨k', m1, m2⟩ := List.mem_map.mp m
          exact hk (by rw [← sv_inj m2]; exact m1)
        | _ => cases (show false = true from h1)
      | _ => exact plain h1
theorem pg_of (X : K.In h) (N : h.Ns mainGlobals mg) (ok : SrcOk p fns) (c : SaysQ p w K) : PgOk w K mg p.G fns (p.cs.map (·.2)) := by
  refine ⟨fun k x hx => ?_, fun k x hx => ?_, ?_, fun x hx => ?_⟩
  · have hx : (p.defs.map (·.name))[k]? = some x := hx
    rw [List.getElem?_map] at hx
    cases hd : p.defs[k]? with
    | none =>
      rw [hd] at hx
      cases hx
    | some d =>
      rw [hd] at hx
      cases hx
      obtain ⟨fi, e, o, b⟩ := ok.df k d hd
      obtain ⟨h1, fd, F⟩ := def_at X N c.d hd
      exact ⟨d, fi, rfl, e, o, _, fd, h1, fun_of F, F.bindsN b⟩
  · have hx : (p.cs.map (·.1))[k]? = some x := hx
    rw [List.getElem?_map] at hx
    cases hd : p.cs[k]? with
    | none =>
      rw [hd] at hx
      cases hx
    | some q =>
      rw [hd] at hx
      cases hx
      exact ⟨q.2, by rw [List.getElem?_map, hd] <;> rfl, cs_at X N ok c rfl (List.mem_of_getElem? hd)⟩
  · show (p.cs.map (·.2)).length ≤ (p.cs.map (·.1)).length
    simp
  · have hm : x ∈ p.free := by
      have hx : p.free.contains x = true := hx
      simpa using hx
    obtain ⟨k, hk, e⟩ := List.mem_iff_getElem.mp hm
    refine He.free_ok X N (c.d.fact (p.defs.length + k) (f := .free x) ?_)
    unfold Src.fa
    rw [List.getElem?_append_right (by rw [List.length_map]; omega), List.length_map, List.getElem?_map]
    have ek : p.defs.length + k - p.defs.length = k := by omega
    rw [ek, List.getElem?_eq_getElem hk, e] <;> rfl
end

/-! ### the law -/
def spLaw (K : PySem.W.Frag) : Sp := fun vs H Q _ => ∃ (a : Addr) (ns : List Int), vs = [.ref a] ∧ FrzL K H a (ns.map V.int) ∧ ns.length ≤ 63 ∧ ∀ H', Q (.bl true) H'
theorem reps_ints {K : PySem.W.Frag} {mn : MW} {μ : List Addr} {H : Hp} : ∀ ns : List Int, Reps K mn μ H (ns.map V.int) (ns.map D.int)
  | [] => .nil
  | n :: ns => .cons (.int n) (reps_ints ns)
theorem abs_nil {K : PySem.W.Frag} {mn : MW} {H : Hp} : Abs K mn [] H [] := ⟨rfl, List.nodup_nil, fun n a c h _ => by simp at h⟩
/-- what the law's run must give: True, for every list of ints -/
def LawW (fns : List Fi) (cst : List D) (n k : Nat) : Prop := ∀ ns : List Int, ns.length ≤ 63 → callW fns cst n k [.flst (ns.map .int)] [] fun w _ => w = .bl true
theorem frz_of {K : PySem.W.Frag} {H : Hp} {a : Addr} {xs : List V} (o : Only H) (h : SqL K H a xs) : FrzL K H a xs := by
  rcases h with (h | ⟨u, h⟩) | h
  · rcases o a with z | ⟨u, ys, z⟩
    · rw [h] at z
      cases z
    · rw [h] at z
      cases z
  · exact .inl ⟨u, h⟩
  · exact .inr fun _ => .inr h
theorem law_facts {P : Program} {w : World} {K : PySem.W.Frag} {h : Heap} {mg : Str → Option Value} {f : Addr} {p : Src} {fns : List Fi} {n k : Nat} {d : Df} {x : Str} (ok : SrcOk p fns) (hL : LawW fns (p.cs.map (·.2)) n k) (hd : p.defs[k]? = some d) (hP : d.P = [x])
    (X : K.In h) (N : h.Ns mainGlobals mg) (hfa : mg d.name = some (.ref f)) (c : SaysQ p w K) :
    ∃ fd : FuncData, (∀ (s : Shared) (v : Value), BindsTo s fd ⟨[v], []⟩ [(x, v)]) ∧ ∀ base : Heap, K.In base → base.Ns mainGlobals mg → FnOk P w K mg base CX0 n f fd [x] (spLaw K) := by
  obtain ⟨fi, e, o, b⟩ := ok.df k d hd
  obtain ⟨h1, fd, F⟩ := def_at X N c.d hd
  have e1 := hfa.symm.trans h1
  cases e1
  refine ⟨fd, fun s v => ?_, fun base _ _ => ?_⟩
  · have z := F.bindsA b s [v] (by rw [hP] <;> rfl)
    rw [hP] at z
    exact z
  · have R := pg_of X N ok c
    have F0 : FnOk P w K mg base CX0 n (He.ga K d.name) fd d.P (spD K (mgN w p.G mg) (callW fns (p.cs.map (·.2)) n k)) := fns_okD R n o e (fun_of F)
    rw [hP] at F0
    refine F0.imp fun vs H Q E hs => ?_
    obtain ⟨a, ns, rfl, hF, h63, hQ⟩ := hs
    refine ⟨[], [], [.flst (ns.map .int)], fun w _ => w = .bl true, abs_nil, .cons (.flst hF (reps_ints ns)) .nil, hL ns h63, fun v w st' μ' H' pw A1 e1 r => ?_⟩
    subst pw
    cases r
    exact hQ H'
end Dq

set_option Elab.async false
set_option linter.all false
set_option maxRecDepth 100000
set_option maxHeartbeats 4000000
/-! Dq13: weaker wishes, deeper levels. -/
namespace Dq
open PySem L2

section
variable {st : Sto} {x y : D}
theorem truW_mono {P Q : Bool → Prop} (h : ∀ b, P b → Q b) (p : truW st x P) : truW st x Q := by
  cases x <;> first | exact h _ p | exact ⟨p.1, h _ p.2⟩ | exact let ⟨ws, a, q⟩ := p; ⟨ws, a, h _ q⟩ | exact False.elim p
theorem lenW_mono {P Q : Nat → Prop} (h : ∀ b, P b → Q b) (p : lenW st x P) : lenW st x Q := by
  cases x <;> first | exact h _ p | exact ⟨p.1, h _ p.2⟩ | exact let ⟨ws, a, q⟩ := p; ⟨ws, a, h _ q⟩ | exact False.elim p
theorem idxW_mono {P Q : D → Prop} (h : ∀ b, P b → Q b) (p : idxW st x y P) : idxW st x y Q := by
  cases x <;> first
    | exact False.elim p
    | (cases y <;> first
        | exact False.elim p
        | exact let ⟨a, c, b, q⟩ := p; ⟨a, c, b, h _ q⟩
        | exact let ⟨c, b, q⟩ := p; ⟨c, b, h _ q⟩
        | exact let ⟨ws, a, c, b, q⟩ := p; ⟨ws, a, c, b, h _ q⟩)
theorem splW_mono {P Q : List D → Prop} (h : ∀ b, P b → Q b) (p : splW st x P) : splW st x Q := by
  cases x <;> first | exact h _ p | exact let ⟨ws, a, q⟩ := p; ⟨ws, a, h _ q⟩ | exact False.elim p
theorem idlW_mono {P Q : D → Prop} (h : ∀ b, P b → Q b) (p : idlW st x y P) : idlW st x y Q := by
  cases x <;> first
    | exact False.elim p
    | (cases y <;> first
        | exact False.elim p
        | exact let ⟨ws, a, c, b, q⟩ := p; ⟨ws, a, c, b, h _ q⟩)
theorem slcW_mono {l u : Option Int} {P Q : DK} (h : ∀ b s, P b s → Q b s) (p : slcW st x l u P) : slcW st x l u Q := by
  cases x <;> first
    | exact False.elim p
    | exact ⟨p.1, h _ _ p.2⟩
    | exact let ⟨ws, a, q⟩ := p; ⟨ws, a, h _ _ q⟩
    | exact h _ _ p
theorem binW_mono {o : Operator} {P Q : DK} (h : ∀ b s, P b s → Q b s) (p : binW st o x y P) : binW st o x y Q := by
  cases o <;> cases x <;> first
    | exact False.elim p
    | (cases y <;> first
        | exact False.elim p
        | exact h _ _ p
        | exact ⟨p.1, p.2.1, h _ _ p.2.2⟩
        | exact ⟨p.1, p.2.1, p.2.2.1, p.2.2.2.1, h _ _ p.2.2.2.2⟩
        | exact ⟨p.1, h _ _ p.2⟩
        | exact let ⟨xs, ys, a, b, c, q⟩ := p; ⟨xs, ys, a, b, c, h _ _ q⟩)
theorem augW_mono {o : Operator} {P Q : DK} (h : ∀ b s, P b s → Q b s) (p : augW st o x y P) : augW st o x y Q := by
  cases o <;> cases x <;> first
    | exact False.elim p
    | (cases y <;> first
        | exact False.elim p
        | exact h _ _ p
        | exact ⟨p.1, h _ _ p.2⟩)
theorem strsOf_mono {P Q : List (List Nat) → Prop} (h : ∀ b, P b → Q b) (p : strsOf st x P) : strsOf st x Q := by
  cases x with
  | loc n => exact let ⟨ss, e, q⟩ := p; ⟨ss, e, h _ q⟩
  | tup ws => exact let ⟨ss, e, q⟩ := p; ⟨ss, e, h _ q⟩
  | _ => exact p
theorem bltW_mono {f : Bt} {xs : List D} {P Q : DK} (h : ∀ b s, P b s → Q b s) (p : bltW st f xs P) : bltW st f xs Q := by
  unfold bltW at p ⊢
  split at p <;> first
    | exact lenW_mono (fun _ q => h _ _ q) p
    | exact h _ _ p
    | exact ⟨p.1, h _ _ p.2⟩
    | exact let ⟨ws, a, b, q⟩ := p; ⟨ws, a, b, h _ _ q⟩
    | exact let ⟨ws, a, q⟩ := p; ⟨ws, a, h _ _ q⟩
    | exact strsOf_mono (fun _ q => ⟨q.1, fun ys y1 y2 => h _ _ (q.2 ys y1 y2)⟩) p
    | exact False.elim p
theorem mthW_mono {m : Mt} {xs : List D} {P Q : DK} (h : ∀ b s, P b s → Q b s) (p : mthW st m x xs P) : mthW st m x xs Q := by
  unfold mthW at p ⊢
  split at p <;> first
    | exact let ⟨ws, a, b, q⟩ := p; ⟨ws, a, b, h _ _ q⟩
    | exact let ⟨ws, w, a, b, q⟩ := p; ⟨ws, w, a, b, h _ _ q⟩
    | exact let ⟨xs, ys, a, b, c, q⟩ := p; ⟨xs, ys, a, b, c, h _ _ q⟩
    | exact ⟨p.1, p.2.1, h _ _ p.2.2⟩
    | exact ⟨p.1, h _ _ p.2⟩
    | exact h _ _ p
    | exact False.elim p
theorem setW_mono {w : D} {P Q : Sto → Prop} (h : ∀ s, P s → Q s) (p : setW st x y w P) : setW st x y w Q := by
  unfold setW at p ⊢
  split at p <;> first
    | exact let ⟨ws, j, a, b, q⟩ := p; ⟨ws, j, a, b, h _ q⟩
    | exact False.elim p
theorem seqW_mono {P Q : List D → Option (Nat × List D) → Prop} (h : ∀ a b, P a b → Q a b) (p : seqW st x P) : seqW st x Q := by
  cases x <;> first | exact h _ _ p | exact let ⟨ws, a, q⟩ := p; ⟨ws, a, h _ _ q⟩ | exact False.elim p
end
theorem compW_mono {keep : Sto → Prop} {f g : D → Sto → (Option D → Sto → Prop) → Prop} {P Q : DK} (hf : ∀ w st A B, (∀ r s, A r s → B r s) → f w st A → g w st B) (h : ∀ b s, P b s → Q b s) : ∀ (ws acc : List D) (st : Sto), compW keep f P ws acc st → compW keep g Q ws acc st
  | [], acc, st, p => ⟨p.1, h _ _ p.2⟩
  | w :: ws, acc, st, p => ⟨p.1, hf _ _ _ _ (fun r s q => by
      cases r with
      | some x => exact ⟨q.1, compW_mono hf h ws _ s q.2⟩
      | none => exact compW_mono hf h ws _ s q) p.2⟩
theorem forW_mono {keep : Sto → Prop} {f g : D → En → Sto → EK → Prop} {P Q : EK} (hf : ∀ w e st (A B : EK), (∀ r s, A r s → B r s) → f w e st A → g w e st B) (h : ∀ b s, P b s → Q b s) : ∀ (ws : List D) (e : En) (st : Sto), forW keep f P ws e st → forW keep g Q ws e st
  | [], e, st, p => ⟨p.1, h _ _ p.2⟩
  | w :: ws, e, st, p => ⟨p.1, hf _ _ _ _ _ (fun r s q => forW_mono hf h ws r s q) p.2⟩
theorem whileW_mono {c d : En → Sto → (Bool → Sto → Prop) → Prop} {f g : En → Sto → EK → Prop} {P Q : EK} (hc : ∀ e st A B, (∀ r s, A r s → B r s) → c e st A → d e st B) (hf : ∀ e st (A B : EK), (∀ r s, A r s → B r s) → f e st A → g e st B) (h : ∀ b s, P b s → Q b s) :
    ∀ (n : Nat) (e : En) (st : Sto), whileW c f P n e st → whileW d g Q n e st
  | 0, e, st, p => p
  | n + 1, e, st, p => hc _ _ _ _ (fun r s q => by
      cases r with
      | true => exact hf _ _ _ _ (fun r s z => whileW_mono hc hf h n r s z) q
      | false => exact h _ _ q) p
def CalLe (c d : Cal) : Prop := ∀ f ws st (P Q : DK), (∀ b s, P b s → Q b s) → c f ws st P → d f ws st Q
section
variable {c d : Cal} {cst : List D} (hc : CalLe c d)
include hc
mutual
theorem wpE_mono : ∀ (e : E) (env : En) (st : Sto) (P Q : DK), (∀ b s, P b s → Q b s) → wpE c cst e env st P → wpE d cst e env st Q
  | .var i, env, st, P, Q, h, p => let ⟨w, a, q⟩ := p; ⟨w, a, h _ _ q⟩
  | .cst w, env, st, P, Q, h, p => ⟨p.1, h _ _ p.2⟩
  | .glob k, env, st, P, Q, h, p => let ⟨w, a, q⟩ := p; ⟨w, a, h _ _ q⟩
  | .bin op a b, env, st, P, Q, h, p => wpE_mono a env st _ _ (fun x s q => wpE_mono b env s _ _ (fun y s q => binW_mono h q) q) p
  | .neg a, env, st, P, Q, h, p => wpE_mono a env st _ _ (fun x s q => let ⟨i, z, q⟩ := q; ⟨i, z, h _ _ q⟩) p
  | .cmp op a b, env, st, P, Q, h, p => wpE_mono a env st _ _ (fun x s q => wpE_mono b env s _ _ (fun y s q => cmpW_mono op s x y _ _ (fun r q => h _ _ q) q) q) p
  | .chain o o2 a b e, env, st, P, Q, h, p => wpE_mono a env st _ _ (fun x s q => wpE_mono b env s _ _ (fun y s q => cmpW_mono o s x y _ _ (fun r q => by
      cases r with
      | true => exact wpE_mono e env s _ _ (fun z s q => cmpW_mono o2 s y z _ _ (fun r q => h _ _ q) q) q
      | false => exact h _ _ q) q) q) p
  | .band a b, env, st, P, Q, h, p => wpE_mono a env st _ _ (fun x s q => truW_mono (fun r q => by
      cases r with
      | true => exact wpE_mono b env s _ _ h q
      | false => exact h _ _ q) q) p
  | .bor a b, env, st, P, Q, h, p => wpE_mono a env st _ _ (fun x s q => truW_mono (fun r q => by
      cases r with
      | true => exact h _ _ q
      | false => exact wpE_mono b env s _ _ h q) q) p
  | .bnot a, env, st, P, Q, h, p => wpE_mono a env st _ _ (fun x s q => truW_mono (fun r q => h _ _ q) q) p
  | .ife t a b, env, st, P, Q, h, p => wpT_mono t env st _ _ (fun r s q => by
      cases r with
      | true => exact wpE_mono a env s _ _ h q
      | false => exact wpE_mono b env s _ _ h q) p
  | .tup es, env, st, P, Q, h, p => wpEs_mono es env st _ _ (fun xs s q => ⟨q.1, h _ _ q.2⟩) p
  | .lst es, env, st, P, Q, h, p => wpEs_mono es env st _ _ (fun xs s q => ⟨q.1, h _ _ q.2⟩) p
  | .idx a b, env, st, P, Q, h, p => wpE_mono a env st _ _ (fun x s q => wpE_mono b env s _ _ (fun y s q => idxW_mono (fun z q => h _ _ q) q) q) p
  | .slc a lo hi, env, st, P, Q, h, p => wpE_mono a env st _ _ (fun x s q => wpEo_mono lo env s _ _ (fun l s q => wpEo_mono hi env s _ _ (fun u s q => slcW_mono h q) q) q) p
  | .call f es, env, st, P, Q, h, p => wpEs_mono es env st _ _ (fun xs s q => hc _ _ _ _ _ h q) p
  | .blt f es, env, st, P, Q, h, p => wpEs_mono es env st _ _ (fun xs s q => bltW_mono h q) p
  | .isi a t, env, st, P, Q, h, p => wpE_mono a env st _ _ (fun x s q => let ⟨b, z, q⟩ := q; ⟨b, z, h _ _ q⟩) p
  | .dsel ks ws e, env, st, P, Q, h, p => ⟨p.1, wpE_mono e env st _ _ (fun x s q => let ⟨k, w, e1, e2, q⟩ := q; ⟨k, w, e1, e2, h _ _ q⟩) p.2⟩
  | .dget o a b, env, st, P, Q, h, p => wpE_mono o env st _ _ (fun x s q => let ⟨ks, ws, e, q⟩ := q; ⟨ks, ws, e, wpE_mono a env s _ _ (fun y s q => wpE_mono b env s _ _ (fun z s q => let ⟨k, e, q⟩ := q; ⟨k, e, q.elim (fun ⟨w, g, q⟩ => .inl ⟨w, g, h _ _ q⟩) fun ⟨g, q⟩ => .inr ⟨g, h _ _ q⟩⟩) q) q⟩) p
  | .mth m o es, env, st, P, Q, h, p => wpE_mono o env st _ _ (fun x s q => ⟨q.1, wpEs_mono es env s _ _ (fun xs s q => mthW_mono h q) q.2⟩) p
  | .comp own elt t it co, env, st, P, Q, h, p => ⟨p.1, wpI_mono it env st _ _ (fun ws k s q => compW_mono (fun w s A B hAB q => wpTg_mono t w _ s _ _ (fun e s q => wpTeo_mono co e s _ _ (fun r s q => by
      cases r with
      | true => exact wpE_mono elt e s _ _ (fun x s q => hAB _ _ q) q
      | false => exact hAB _ _ q) q) q) h ws [] s q) p.2⟩
theorem wpEo_mono : ∀ (e : Eo) (env : En) (st : Sto) (P Q : Option Int → Sto → Prop), (∀ b s, P b s → Q b s) → wpEo c cst e env st P → wpEo d cst e env st Q
  | .no, env, st, P, Q, h, p => h _ _ p
  | .yes e, env, st, P, Q, h, p => wpE_mono e env st _ _ (fun x s q => let ⟨i, z, q⟩ := q; ⟨i, z, h _ _ q⟩) p
theorem wpEs_mono : ∀ (e : Es) (env : En) (st : Sto) (P Q : List D → Sto → Prop), (∀ b s, P b s → Q b s) → wpEs c cst e env st P → wpEs d cst e env st Q
  | .nil, env, st, P, Q, h, p => h _ _ p
  | .cons e es, env, st, P, Q, h, p => wpE_mono e env st _ _ (fun x s q => wpEs_mono es env s _ _ (fun xs s q => h _ _ q) q) p
  | .star e es, env, st, P, Q, h, p => wpE_mono e env st _ _ (fun x s q => splW_mono (fun ys q => wpEs_mono es env s _ _ (fun xs s q => h _ _ q) q) q) p
theorem wpT_mono : ∀ (e : Te) (env : En) (st : Sto) (P Q : Bool → Sto → Prop), (∀ b s, P b s → Q b s) → wpT c cst e env st P → wpT d cst e env st Q
  | .val e, env, st, P, Q, h, p => wpE_mono e env st _ _ (fun x s q => truW_mono (fun r q => h _ _ q) q) p
  | .tst e, env, st, P, Q, h, p => wpE_mono e env st _ _ (fun x s q => let ⟨b, z, q⟩ := q; ⟨b, z, h _ _ q⟩) p
  | .and_ a b, env, st, P, Q, h, p => wpT_mono a env st _ _ (fun r s q => by
      cases r with
      | true => exact wpT_mono b env s _ _ h q
      | false => exact h _ _ q) p
  | .or_ a b, env, st, P, Q, h, p => wpT_mono a env st _ _ (fun r s q => by
      cases r with
      | true => exact h _ _ q
      | false => exact wpT_mono b env s _ _ h q) p
  | .not_ a, env, st, P, Q, h, p => wpT_mono a env st _ _ (fun r s q => h _ _ q) p
theorem wpTeo_mono : ∀ (e : Teo) (env : En) (st : Sto) (P Q : Bool → Sto → Prop), (∀ b s, P b s → Q b s) → wpTeo c cst e env st P → wpTeo d cst e env st Q
  | .no, env, st, P, Q, h, p => h _ _ p
  | .yes e, env, st, P, Q, h, p => wpT_mono e env st _ _ h p
theorem wpTg_mono : ∀ (t : T) (w : D) (env : En) (st : Sto) (P Q : EK), (∀ b s, P b s → Q b s) → wpTg c cst t w env st P → wpTg d cst t w env st Q
  | .name i, w, env, st, P, Q, h, p => h _ _ p
  | .tup ts, w, env, st, P, Q, h, p => let ⟨ws, a, b, q⟩ := p; ⟨ws, a, b, wpTgs_mono ts ws env st _ _ h q⟩
  | .sub o i, w, env, st, P, Q, h, p => wpE_mono o env st _ _ (fun x s q => wpE_mono i env s _ _ (fun y s q => setW_mono (fun s q => h _ _ q) q) q) p
theorem wpTgs_mono : ∀ (t : Ts) (ws : List D) (env : En) (st : Sto) (P Q : EK), (∀ b s, P b s → Q b s) → wpTgs c cst t ws env st P → wpTgs d cst t ws env st Q
  | .nil, ws, env, st, P, Q, h, p => ⟨p.1, h _ _ p.2⟩
  | .cons t ts, ws, env, st, P, Q, h, p => let ⟨w, r, a, q⟩ := p; ⟨w, r, a, wpTg_mono t w env st _ _ (fun e s q => wpTgs_mono ts r e s _ _ h q) q⟩
theorem wpI_mono : ∀ (i : I) (env : En) (st : Sto) (P Q : List D → Option (Nat × List D) → Sto → Prop), (∀ a b s, P a b s → Q a b s) → wpI c cst i env st P → wpI d cst i env st Q
  | .exp e, env, st, P, Q, h, p => wpE_mono e env st _ _ (fun x s q => seqW_mono (fun a b q => h _ _ _ q) q) p
  | .range1 a, env, st, P, Q, h, p => wpE_mono a env st _ _ (fun x s q => let ⟨j, z, u, v, q⟩ := q; ⟨j, z, u, v, h _ _ _ q⟩) p
  | .range2 a b, env, st, P, Q, h, p => wpE_mono a env st _ _ (fun x s q => wpE_mono b env s _ _ (fun y s q => let ⟨i, j, z, u, v, q⟩ := q; ⟨i, j, z, u, v, h _ _ _ q⟩) q) p
end
structure K4Le (K L : K4) : Prop where
  nx : ∀ e s, K.nx e s → L.nx e s
  rt : ∀ e s, K.rt e s → L.rt e s
  bk : ∀ e s, K.bk e s → L.bk e s
  ct : ∀ e s, K.ct e s → L.ct e s
mutual
theorem wpS_mono : ∀ (s : S) (env : En) (st : Sto) (K L : K4), K4Le K L → wpS c cst s env st K → wpS d cst s env st L
  | .expr e, env, st, K, L, h, p => wpE_mono hc e env st _ _ (fun x s q => h.nx _ _ q) p
  | .asg t e, env, st, K, L, h, p => wpE_mono hc e env st _ _ (fun x s q => wpTg_mono hc t x env s _ _ h.nx q) p
  | .aug i op e, env, st, K, L, h, p => let ⟨x, a, q⟩ := p; ⟨x, a, wpE_mono hc e env st _ _ (fun y s q => augW_mono (fun z s q => h.nx _ _ q) q) q⟩
  | .augs o i op e, env, st, K, L, h, p => wpE_mono hc o env st _ _ (fun x s q => wpE_mono hc i env s _ _ (fun y s q => idlW_mono (fun v q => wpE_mono hc e env s _ _ (fun u s q => augW_mono (fun z s q => setW_mono (fun s q => h.nx _ _ q) q) q) q) q) q) p
  | .ret e, env, st, K, L, h, p => wpE_mono hc e env st _ _ h.rt p
  | .retn, env, st, K, L, h, p => h.rt _ _ p
  | .ite t a b, env, st, K, L, h, p => wpT_mono hc t env st _ _ (fun r s q => by
      cases r with
      | true => exact wpSs_mono a env s _ _ h q
      | false => exact wpSs_mono b env s _ _ h q) p
  | .while_ t b, env, st, K, L, h, p => let ⟨n, q⟩ := p; ⟨n, whileW_mono (fun e s A B hAB q => wpT_mono hc t e s _ _ hAB q) (fun e s A B hAB q => wpSs_mono b e s ⟨A, K.rt, K.nx, A⟩ ⟨B, L.rt, L.nx, B⟩ ⟨hAB, h.rt, h.nx, hAB⟩ q) h.nx n env st q⟩
  | .for_ t i b, env, st, K, L, h, p => wpI_mono hc i env st _ _ (fun ws k s q => forW_mono (fun w e s A B hAB q => wpTg_mono hc t w e s _ _ (fun e s q => wpSs_mono b e s ⟨A, K.rt, K.nx, A⟩ ⟨B, L.rt, L.nx, B⟩ ⟨hAB, h.rt, h.nx, hAB⟩ q) q) h.nx ws env s q) p
  | .brk, env, st, K, L, h, p => h.bk _ _ p
  | .cont, env, st, K, L, h, p => h.ct _ _ p
  | .pass, env, st, K, L, h, p => h.nx _ _ p
theorem wpSs_mono : ∀ (s : Ss) (env : En) (st : Sto) (K L : K4), K4Le K L → wpSs c cst s env st K → wpSs d cst s env st L
  | .nil, env, st, K, L, h, p => h.nx _ _ p
  | .cons s ss, env, st, K, L, h, p => wpS_mono s env st ⟨fun e s => wpSs c cst ss e s K, K.rt, K.bk, K.ct⟩ ⟨fun e s => wpSs d cst ss e s L, L.rt, L.bk, L.ct⟩ ⟨fun e s q => wpSs_mono ss e s _ _ h q, h.rt, h.bk, h.ct⟩ p
end
end
section
variable {fns : List Fi} {cst : List D}
theorem callW_le : ∀ {m n : Nat}, m ≤ n → CalLe (callW fns cst m) (callW fns cst n)
  | 0, _, _, f, ws, st, P, Q, h, p => False.elim p
  | m + 1, 0, l, f, ws, st, P, Q, h, p => absurd l (Nat.not_succ_le_zero m)
  | m + 1, n + 1, l, f, ws, st, P, Q, h, p => let ⟨d, a, b, q⟩ := p
    ⟨d, a, b, wpSs_mono (callW_le (Nat.le_of_succ_le_succ l)) d.body _ _ ⟨fun _ s => P .non s, P, fun _ _ => False, fun _ _ => False⟩ ⟨fun _ s => Q .non s, Q, fun _ _ => False, fun _ _ => False⟩ ⟨fun _ _ q => h _ _ q, h, fun _ _ q => q, fun _ _ q => q⟩ q⟩
theorem call_mono {n f : Nat} {ws : List D} {st : Sto} {P Q : DK} (p : callW fns cst n f ws st P) (h : ∀ b s, P b s → Q b s) : callW fns cst n f ws st Q := callW_le (Nat.le_refl n) f ws st P Q h p
theorem call_up {m n f : Nat} {ws : List D} {st : Sto} {P Q : DK} (p : callW fns cst m f ws st P) (l : m ≤ n) (h : ∀ b s, P b s → Q b s) : callW fns cst n f ws st Q := callW_le l f ws st P Q h p
end
end Dq

set_option Elab.async false
set_option linter.all false
set_option maxRecDepth 100000
set_option maxHeartbeats 4000000
/-! Dq14: rules for whoever reads a program of the language. -/
namespace Dq
open PySem L2

section
variable {call : Cal} {cst : List D}
theorem wp_cons {s : S} {ss : Ss} {env : En} {st : Sto} {K : K4} (h : wpS call cst s env st ⟨fun e s => wpSs call cst ss e s K, K.rt, K.bk, K.ct⟩) : wpSs call cst (.cons s ss) env st K := h
theorem wp_nil {env : En} {st : Sto} {K : K4} (h : K.nx env st) : wpSs call cst .nil env st K := h
theorem wpSs_nil {env : En} {st : Sto} {K : K4} : wpSs call cst .nil env st K = K.nx env st := rfl
/-- a statement's end by a middle -/
theorem wp_cut {s : S} {ss : Ss} {env : En} {st : Sto} {K : K4} (hc : CalLe call call) (M : EK) (h : wpS call cst s env st ⟨M, K.rt, K.bk, K.ct⟩) (h2 : ∀ e s, M e s → wpSs call cst ss e s K) : wpSs call cst (.cons s ss) env st K :=
  wpS_mono hc s env st ⟨M, K.rt, K.bk, K.ct⟩ ⟨fun e s => wpSs call cst ss e s K, K.rt, K.bk, K.ct⟩ ⟨h2, fun _ _ q => q, fun _ _ q => q, fun _ _ q => q⟩ h
theorem wp_ite {c : Te} {a b : Ss} {env : En} {st : Sto} {K : K4} {p : Bool} {st1 : Sto} (hc : CalLe call call) (h : wpT call cst c env st fun r s => r = p ∧ s = st1) (h1 : p = true → wpSs call cst a env st1 K) (h2 : p = false → wpSs call cst b env st1 K) : wpS call cst (.ite c a b) env st K :=
  wpT_mono hc c env st _ _ (fun r s q => by
    obtain ⟨rfl, rfl⟩ := q
    cases r with
    | true => exact h1 rfl
    | false => exact h2 rfl) h
end
theorem whileW_up {c : En → Sto → (Bool → Sto → Prop) → Prop} {f : En → Sto → EK → Prop} {Q : EK} (hc : ∀ e st A B, (∀ r s, A r s → B r s) → c e st A → c e st B) (hf : ∀ e st (A B : EK), (∀ r s, A r s → B r s) → f e st A → f e st B) :
    ∀ {m n : Nat} {e : En} {st : Sto}, m ≤ n → whileW c f Q m e st → whileW c f Q n e st
  | 0, _, e, st, _, p => False.elim p
  | m + 1, 0, e, st, l, p => absurd l (Nat.not_succ_le_zero m)
  | m + 1, n + 1, e, st, l, p => hc _ _ _ _ (fun r s q => by
      cases r with
      | true => exact hf _ _ _ _ (fun r s z => whileW_up hc hf (Nat.le_of_succ_le_succ l) z) q
      | false => exact q) p
section
variable {call : Cal} {cst : List D}
/-- while: by an invariant with a measure -/
theorem wp_while {c : Te} {b : Ss} {env : En} {st : Sto} {K : K4} (hc : CalLe call call) (I : Nat → En → Sto → Prop) {n0 : Nat} (h0 : I n0 env st)
    (hs : ∀ n e s, I n e s → wpT call cst c e s fun r s' => if r = true then wpSs call cst b e s' ⟨fun e' s'' => ∃ m, m < n ∧ I m e' s'', K.rt, K.nx, fun e' s'' => ∃ m, m < n ∧ I m e' s''⟩ else K.nx e s') : wpS call cst (.while_ c b) env st K := by
  have cm : ∀ e st A B, (∀ r s, A r s → B r s) → wpT call cst c e st A → wpT call cst c e st B := fun e st A B h p => wpT_mono hc c e st _ _ h p
  have fm : ∀ e st (A B : EK), (∀ r s, A r s → B r s) → wpSs call cst b e st ⟨A, K.rt, K.nx, A⟩ → wpSs call cst b e st ⟨B, K.rt, K.nx, B⟩ := fun e st A B h p => wpSs_mono hc b e st ⟨A, K.rt, K.nx, A⟩ ⟨B, K.rt, K.nx, B⟩ ⟨h, fun _ _ q => q, fun _ _ q => q, h⟩ p
  have key : ∀ N n e s, n < N → I n e s → whileW (wpT call cst c) (fun env st N => wpSs call cst b env st ⟨N, K.rt, K.nx, N⟩) K.nx (n + 1) e s := by
    intro N
    induction N with
    | zero => exact fun n e s l => absurd l (Nat.not_lt_zero n)
    | succ N ih =>
      intro n e s l i
      refine cm _ _ _ _ (fun r s' q => ?_) (hs n e s i)
      cases r with
      | true =>
        rw [if_pos rfl] at q ⊢
        refine fm _ _ _ _ (fun e' s'' z => ?_) q
        obtain ⟨m, lm, im⟩ := z
        exact whileW_up cm fm (Nat.succ_le_of_lt lm) (ih m e' s'' (by omega) im)
      | false => exact q
  exact ⟨n0 + 1, key (n0 + 1) n0 env st (Nat.lt_succ_self n0) h0⟩
end
/-- for: by an invariant of what has been walked -/
theorem forW_by {keep : Sto → Prop} {f : D → En → Sto → EK → Prop} {Q : EK} (hf : ∀ w e st (A B : EK), (∀ r s, A r s → B r s) → f w e st A → f w e st B) (I : List D → En → Sto → Prop) {ws : List D}
    (hs : ∀ pre w post e s, ws = pre ++ w :: post → I pre e s → keep s ∧ f w e s (I (pre ++ [w]))) (hd : ∀ e s, I ws e s → keep s ∧ Q e s) : ∀ (post pre : List D) (e : En) (s : Sto), ws = pre ++ post → I pre e s → forW keep f Q post e s
  | [], pre, e, s, h, i => by
    rw [List.append_nil] at h
    subst h
    exact hd e s i
  | w :: post, pre, e, s, h, i => by
    obtain ⟨k, q⟩ := hs pre w post e s h i
    refine ⟨k, hf _ _ _ _ _ (fun e' s' z => forW_by hf I hs hd post (pre ++ [w]) e' s' (by rw [h, List.append_assoc] <;> rfl) z) q⟩
/-- a comprehension: by an invariant of what has been walked and what has been gathered -/
theorem compW_by {keep : Sto → Prop} {f : D → Sto → (Option D → Sto → Prop) → Prop} {Q : DK} (hf : ∀ w st (A B : Option D → Sto → Prop), (∀ r s, A r s → B r s) → f w st A → f w st B) (I : List D → List D → Sto → Prop) {ws : List D}
    (hs : ∀ pre w post acc s, ws = pre ++ w :: post → I pre acc s → keep s ∧ f w s fun r s' => match r with
      | some x => acc.length < sizeLine ∧ I (pre ++ [w]) (acc ++ [x]) s'
      | none => I (pre ++ [w]) acc s') (hd : ∀ acc s, I ws acc s → keep s ∧ Q (.loc s.length) (s ++ [.lst acc])) :
    ∀ (post pre acc : List D) (s : Sto), ws = pre ++ post → I pre acc s → compW keep f Q post acc s
  | [], pre, acc, s, h, i => by
    rw [List.append_nil] at h
    subst h
    exact hd acc s i
  | w :: post, pre, acc, s, h, i => by
    obtain ⟨k, q⟩ := hs pre w post acc s h i
    refine ⟨k, hf _ _ _ _ (fun r s' z => ?_) q⟩
    cases r with
    | some x => exact ⟨z.1, compW_by hf I hs hd post (pre ++ [w]) (acc ++ [x]) s' (by rw [h, List.append_assoc] <;> rfl) z.2⟩
    | none => exact compW_by hf I hs hd post (pre ++ [w]) acc s' (by rw [h, List.append_assoc] <;> rfl) z
section
variable {call : Cal} {cst : List D}
theorem wp_for {t : T} {it : I} {b : Ss} {env : En} {st : Sto} {K : K4} (hc : CalLe call call) {ws : List D} {kp : Option (Nat × List D)} {st1 : Sto} (hi : wpI call cst it env st fun xs k s => xs = ws ∧ k = kp ∧ s = st1) (J : List D → En → Sto → Prop) (h0 : J [] env st1)
    (hs : ∀ pre w post e s, ws = pre ++ w :: post → J pre e s → keepW kp s ∧ wpTg call cst t w e s fun e2 s2 => wpSs call cst b e2 s2 ⟨J (pre ++ [w]), K.rt, K.nx, J (pre ++ [w])⟩) (hd : ∀ e s, J ws e s → keepW kp s ∧ K.nx e s) : wpS call cst (.for_ t it b) env st K := by
  refine wpI_mono hc it env st _ _ (fun xs k s q => ?_) hi
  obtain ⟨rfl, rfl, rfl⟩ := q
  exact forW_by (fun w e st A B h p => wpTg_mono hc t w e st _ _ (fun e2 s2 q => wpSs_mono hc b e2 s2 ⟨A, K.rt, K.nx, A⟩ ⟨B, K.rt, K.nx, B⟩ ⟨h, fun _ _ q => q, fun _ _ q => q, h⟩ q) p) J hs hd xs [] env s rfl h0
theorem wp_forJ {t : T} {it : I} {b : Ss} {env : En} {st : Sto} {K : K4} (hc : CalLe call call)
    (hi : wpI call cst it env st fun ws kp st1 => ∃ J : List D → En → Sto → Prop, J [] env st1 ∧ (∀ pre w post e s, ws = pre ++ w :: post → J pre e s → keepW kp s ∧ wpTg call cst t w e s fun e2 s2 => wpSs call cst b e2 s2 ⟨J (pre ++ [w]), K.rt, K.nx, J (pre ++ [w])⟩) ∧ ∀ e s, J ws e s → keepW kp s ∧ K.nx e s) : wpS call cst (.for_ t it b) env st K := by
  refine wpI_mono hc it env st _ _ (fun xs k s q => ?_) hi
  obtain ⟨J, h0, hs, hd⟩ := q
  exact forW_by (fun w e st A B h p => wpTg_mono hc t w e st _ _ (fun e2 s2 q => wpSs_mono hc b e2 s2 ⟨A, K.rt, K.nx, A⟩ ⟨B, K.rt, K.nx, B⟩ ⟨h, fun _ _ q => q, fun _ _ q => q, h⟩ q) p) J hs hd xs [] env s rfl h0
theorem wp_comp {own : List Nat} {el : E} {t : T} {it : I} {co : Teo} {env : En} {st : Sto} {Q : DK} (hc : CalLe call call) (ho : (slT t).all (own.contains ·) = true) {ws : List D} {kp : Option (Nat × List D)} {st1 : Sto} (hi : wpI call cst it env st fun xs k s => xs = ws ∧ k = kp ∧ s = st1)
    (J : List D → List D → Sto → Prop) (h0 : J [] [] st1)
    (hs : ∀ pre w post acc s, ws = pre ++ w :: post → J pre acc s → keepW kp s ∧ wpTg call cst t w (wipeE env own) s fun e2 s2 => wpTeo call cst co e2 s2 fun r s3 => if r = true then wpE call cst el e2 s3 fun x s4 => acc.length < sizeLine ∧ J (pre ++ [w]) (acc ++ [x]) s4 else J (pre ++ [w]) acc s3)
    (hd : ∀ acc s, J ws acc s → keepW kp s ∧ Q (.loc s.length) (s ++ [.lst acc])) : wpE call cst (.comp own el t it co) env st Q := by
  refine ⟨ho, wpI_mono hc it env st _ _ (fun xs k s q => ?_) hi⟩
  obtain ⟨rfl, rfl, rfl⟩ := q
  refine compW_by (fun w st A B h p => wpTg_mono hc t w _ st _ _ (fun e2 s2 q => wpTeo_mono hc co e2 s2 _ _ (fun r s3 q => ?_) q) p) J (fun pre w post acc s e i => ?_) hd xs [] [] s rfl h0
  · cases r with
    | true => exact wpE_mono hc el e2 s3 _ _ (fun x s4 q => h _ _ q) q
    | false => exact h _ _ q
  · obtain ⟨k1, q⟩ := hs pre w post acc s e i
    exact ⟨k1, q⟩
end

theorem compW_all {keep : Sto → Prop} {f : D → Sto → (Option D → Sto → Prop) → Prop} {Q : DK} {ws : List D} {st : Sto} (hf : ∀ w st (A B : Option D → Sto → Prop), (∀ r s, A r s → B r s) → f w st A → f w st B) (I : List D → List D → Sto → Prop) (h0 : I [] [] st)
    (hs : ∀ pre w post acc s, ws = pre ++ w :: post → I pre acc s → keep s ∧ f w s fun r s' => match r with
      | some x => acc.length < sizeLine ∧ I (pre ++ [w]) (acc ++ [x]) s'
      | none => I (pre ++ [w]) acc s') (hd : ∀ acc s, I ws acc s → keep s ∧ Q (.loc s.length) (s ++ [.lst acc])) : compW keep f Q ws [] st := compW_by hf I hs hd ws [] [] st rfl h0
/-! ### the small steps by forms -/
section
variable {st : Sto}
theorem truW_bl {b : Bool} {Q : Bool → Prop} : truW st (.bl b) Q = Q b := rfl
theorem truW_int {b : Int} {Q : Bool → Prop} : truW st (.int b) Q = Q (b != 0) := rfl
theorem truW_str {b : List Nat} {Q : Bool → Prop} : truW st (.str b) Q = (b.length ≤ sizeLine ∧ Q (!b.isEmpty)) := rfl
theorem truW_tup {b : List D} {Q : Bool → Prop} : truW st (.tup b) Q = Q (!b.isEmpty) := rfl
theorem truW_loc {n : Nat} {Q : Bool → Prop} : truW st (.loc n) Q = ∃ ws, st[n]? = some (.lst ws) ∧ Q (!ws.isEmpty) := rfl
theorem idxW_str {s : List Nat} {i : Int} {Q : D → Prop} : idxW st (.str s) (.int i) Q = (s.length ≤ sizeLine ∧ ∃ c, atI s i = some c ∧ Q (.str [c])) := rfl
theorem idxW_tup {s : List D} {i : Int} {Q : D → Prop} : idxW st (.tup s) (.int i) Q = ∃ c, atI s i = some c ∧ Q c := rfl
theorem idxW_flst {s : List D} {i : Int} {Q : D → Prop} : idxW st (.flst s) (.int i) Q = ∃ c, atI s i = some c ∧ Q c := rfl
theorem idxW_loc {n : Nat} {i : Int} {Q : D → Prop} : idxW st (.loc n) (.int i) Q = ∃ ws, st[n]? = some (.lst ws) ∧ ∃ c, atI ws i = some c ∧ Q c := rfl
theorem idlW_loc {n : Nat} {i : Int} {Q : D → Prop} : idlW st (.loc n) (.int i) Q = ∃ ws, st[n]? = some (.lst ws) ∧ ∃ c, atI ws i = some c ∧ Q c := rfl
theorem setW_loc {n : Nat} {i : Int} {w : D} {Q : Sto → Prop} : setW st (.loc n) (.int i) w Q = ∃ ws j, st[n]? = some (.lst ws) ∧ ixN ws.length i = some j ∧ Q (st.set n (.lst (ws.set j w))) := rfl
theorem slcW_str {s : List Nat} {lo hi : Option Int} {Q : DK} : slcW st (.str s) lo hi Q = (s.length ≤ sizeLine ∧ Q (.str (cutL s lo hi)) st) := rfl
theorem slcW_loc {n : Nat} {lo hi : Option Int} {Q : DK} : slcW st (.loc n) lo hi Q = ∃ ws, st[n]? = some (.lst ws) ∧ Q (.loc st.length) (st ++ [.lst (cutL ws lo hi)]) := rfl
theorem binW_add {i j : Int} {Q : DK} : binW st .Add (.int i) (.int j) Q = Q (.int (i + j)) st := rfl
theorem binW_addS {i j : List Nat} {Q : DK} : binW st .Add (.str i) (.str j) Q = (i.length + j.length ≤ sizeLine ∧ Q (.str (i ++ j)) st) := rfl
theorem binW_addL {m n : Nat} {Q : DK} : binW st .Add (.loc m) (.loc n) Q = ∃ xs ys, st[m]? = some (.lst xs) ∧ st[n]? = some (.lst ys) ∧ xs.length + ys.length ≤ sizeLine ∧ Q (.loc st.length) (st ++ [.lst (xs ++ ys)]) := rfl
theorem binW_addT {xs ys : List D} {Q : DK} : binW st .Add (.tup xs) (.tup ys) Q = (xs.length + ys.length ≤ sizeLine ∧ Q (.tup (xs ++ ys)) st) := rfl
theorem binW_mulT {xs : List D} {j : Int} {Q : DK} : binW st .Mult (.tup xs) (.int j) Q = (xs ≠ [] ∧ 2 ≤ j ∧ j ≤ 1000 ∧ xs.length ≤ 1000 ∧ Q (.tup (List.replicate j.toNat xs).flatten) st) := rfl
theorem blt_srtT {ws : List D} {Q : DK} : bltW st .sorted [.tup ws] Q = ∃ ss : List (List Nat), ws = ss.map .str ∧ ss.length ≤ sizeLine ∧ ∀ ys : List (List Nat), ys.Perm ss → PyProof.Rows.sortedS (ys.map sv) = true → Q (.loc st.length) (st ++ [.lst (ys.map .str)]) := rfl
theorem blt_srtL {n : Nat} {Q : DK} : bltW st .sorted [.loc n] Q = ∃ ss : List (List Nat), st[n]? = some (.lst (ss.map .str)) ∧ ss.length ≤ sizeLine ∧ ∀ ys : List (List Nat), ys.Perm ss → PyProof.Rows.sortedS (ys.map sv) = true → Q (.loc st.length) (st ++ [.lst (ys.map .str)]) := rfl
theorem slcW_tup {ws : List D} {lo hi : Option Int} {Q : DK} : slcW st (.tup ws) lo hi Q = Q (.tup (cutL ws lo hi)) st := rfl
theorem blt_lstT {ws : List D} {Q : DK} : bltW st .list [.tup ws] Q = Q (.loc st.length) (st ++ [.lst ws]) := rfl
theorem binW_sub {i j : Int} {Q : DK} : binW st .Sub (.int i) (.int j) Q = Q (.int (i - j)) st := rfl
theorem binW_mul {i j : Int} {Q : DK} : binW st .Mult (.int i) (.int j) Q = (CMul i j ∧ Q (.int (i * j)) st) := rfl
theorem binW_fdiv {i j : Int} {Q : DK} : binW st .FloorDiv (.int i) (.int j) Q = (CDiv i j ∧ Q (.int (i / j)) st) := rfl
theorem binW_mod {i j : Int} {Q : DK} : binW st .Mod (.int i) (.int j) Q = (0 < j ∧ Q (.int (i % j)) st) := rfl
theorem binW_pow {i j : Int} {Q : DK} : binW st .Pow (.int i) (.int j) Q = (CPow i j ∧ Q (.int (i ^ j.toNat)) st) := rfl
theorem binW_shl {i j : Int} {Q : DK} : binW st .LShift (.int i) (.int j) Q = (CPow i j ∧ Q (.int (i * 2 ^ j.toNat)) st) := rfl
theorem augW_add {i j : Int} {Q : DK} : augW st .Add (.int i) (.int j) Q = Q (.int (i + j)) st := rfl
theorem augW_addS {i j : List Nat} {Q : DK} : augW st .Add (.str i) (.str j) Q = (i.length + j.length ≤ sizeLine ∧ Q (.str (i ++ j)) st) := rfl
theorem augW_sub {i j : Int} {Q : DK} : augW st .Sub (.int i) (.int j) Q = Q (.int (i - j)) st := rfl
theorem cmpW_eq {x y : D} {Q : Bool → Prop} : cmpW st .Eq x y Q = eqW st x y Q := rfl
theorem cmpW_ne {x y : D} {Q : Bool → Prop} : cmpW st .NotEq x y Q = eqW st x y fun b => Q (!b) := rfl
theorem cmpW_in {x y : D} {Q : Bool → Prop} : cmpW st .In x y Q = inW st x y Q := rfl
theorem cmpW_ni {x y : D} {Q : Bool → Prop} : cmpW st .NotIn x y Q = inW st x y fun b => Q (!b) := rfl
theorem cmpW_lt {i j : Int} {Q : Bool → Prop} : cmpW st .Lt (.int i) (.int j) Q = Q (decide (i < j)) := rfl
theorem cmpW_le {i j : Int} {Q : Bool → Prop} : cmpW st .LtE (.int i) (.int j) Q = Q (decide (i ≤ j)) := rfl
theorem cmpW_gt {i j : Int} {Q : Bool → Prop} : cmpW st .Gt (.int i) (.int j) Q = Q (decide (j < i)) := rfl
theorem cmpW_ge {i j : Int} {Q : Bool → Prop} : cmpW st .GtE (.int i) (.int j) Q = Q (decide (j ≤ i)) := rfl
theorem cmpW_is {x : D} {Q : Bool → Prop} : cmpW st .Is x .non Q = Q (isNonD x) := by cases x <;> rfl
theorem cmpW_isn {x : D} {Q : Bool → Prop} : cmpW st .IsNot x .non Q = Q (!isNonD x) := by cases x <;> rfl
theorem eqW_int {i j : Int} {Q : Bool → Prop} (h : Q (i == j)) : eqW st (.int i) (.int j) Q := .inl ⟨rfl, h⟩
theorem eqW_str {i j : List Nat} {Q : Bool → Prop} (h : Q (i == j)) : eqW st (.str i) (.str j) Q := .inl ⟨rfl, h⟩
theorem inW_str {c : Nat} {s : List Nat} {Q : Bool → Prop} (h : Q (decide (c ∈ s))) : inW st (.str [c]) (.str s) Q := ⟨c, rfl, h⟩
theorem lenW_loc {n : Nat} {Q : Nat → Prop} : lenW st (.loc n) Q = ∃ ws, st[n]? = some (.lst ws) ∧ Q ws.length := rfl
theorem lenW_str {s : List Nat} {Q : Nat → Prop} : lenW st (.str s) Q = (s.length ≤ sizeLine ∧ Q s.length) := rfl
theorem lenW_tup {s : List D} {Q : Nat → Prop} : lenW st (.tup s) Q = Q s.length := rfl
theorem lenW_flst {s : List D} {Q : Nat → Prop} : lenW st (.flst s) Q = Q s.length := rfl
theorem blt_len {x : D} {Q : DK} : bltW st .len [x] Q = lenW st x fun n => Q (.int n) st := rfl
theorem blt_abs {i : Int} {Q : DK} : bltW st .abs [.int i] Q = Q (.int (if i < 0 then -i else i)) st := rfl
theorem blt_max {i j : Int} {Q : DK} : bltW st .max [.int i, .int j] Q = Q (.int (if j > i then j else i)) st := rfl
theorem blt_min {i j : Int} {Q : DK} : bltW st .min [.int i, .int j] Q = Q (.int (if j < i then j else i)) st := rfl
theorem blt_int {i : Int} {Q : DK} : bltW st .int [.int i] Q = Q (.int i) st := rfl
theorem blt_intB {i : Bool} {Q : DK} : bltW st .int [.bl i] Q = Q (.int (if i then 1 else 0)) st := rfl
theorem blt_tup {n : Nat} {Q : DK} : bltW st .tuple [.loc n] Q = ∃ ws, st[n]? = some (.lst ws) ∧ Q (.tup ws) st := rfl
theorem blt_all {n : Nat} {Q : DK} : bltW st .all [.loc n] Q = ∃ bs : List Bool, st[n]? = some (.lst (bs.map .bl)) ∧ Q (.bl (bs.all id)) st := rfl
theorem blt_any {n : Nat} {Q : DK} : bltW st .any [.loc n] Q = ∃ bs : List Bool, st[n]? = some (.lst (bs.map .bl)) ∧ Q (.bl (bs.any id)) st := rfl
theorem mth_append {n : Nat} {w : D} {Q : DK} : mthW st .append (.loc n) [w] Q = ∃ ws, st[n]? = some (.lst ws) ∧ ws.length < sizeLine ∧ Q .non (st.set n (.lst (ws ++ [w]))) := rfl
theorem mth_join {n : Nat} {s : List Nat} {Q : DK} : mthW st .join (.str s) [.loc n] Q = ∃ ss : List (List Nat), st[n]? = some (.lst (ss.map .str)) ∧ (ss.map (·.length)).sum + ss.length * s.length ≤ 16777216 ∧ Q (.str (TL.joinL s ss)) st := rfl
theorem seqW_str {s : List Nat} {Q : List D → Option (Nat × List D) → Prop} : seqW st (.str s) Q = Q (s.map fun c => .str [c]) none := rfl
theorem seqW_tup {s : List D} {Q : List D → Option (Nat × List D) → Prop} : seqW st (.tup s) Q = Q s none := rfl
theorem seqW_flst {s : List D} {Q : List D → Option (Nat × List D) → Prop} : seqW st (.flst s) Q = Q s none := rfl
theorem seqW_loc {n : Nat} {Q : List D → Option (Nat × List D) → Prop} : seqW st (.loc n) Q = ∃ ws, st[n]? = some (.lst ws) ∧ Q ws (some (n, ws)) := rfl
theorem idxW_dic {ks : List (List Nat)} {ws : List D} {k : List Nat} {Q : D → Prop} : idxW st (.dic ks ws) (.str k) Q = ∃ w, dicL ks ws k = some w ∧ Q w := rfl
theorem inW_dic {x : D} {ks : List (List Nat)} {ws : List D} {Q : Bool → Prop} : inW st x (.dic ks ws) Q = ∃ k, x = .str k ∧ Q (decide (k ∈ ks)) := rfl
theorem splW_tup {ws : List D} {Q : List D → Prop} : splW st (.tup ws) Q = Q ws := rfl
theorem splW_flst {ws : List D} {Q : List D → Prop} : splW st (.flst ws) Q = Q ws := rfl
theorem splW_loc {n : Nat} {Q : List D → Prop} : splW st (.loc n) Q = ∃ ws, st[n]? = some (.lst ws) ∧ Q ws := rfl
theorem blt_str {i : Int} {Q : DK} : bltW st .str [.int i] Q = (i.natAbs.log2 < 1920 ∧ Q (.str (strI i)) st) := rfl
theorem blt_intS {s : List Nat} {Q : DK} : bltW st .int [.str s] Q = ∃ n, PySem.intText? (sv s) = some n ∧ s.length ≤ 640 ∧ Q (.int n) st := rfl
theorem mth_extend {n m : Nat} {Q : DK} : mthW st .extend (.loc n) [.loc m] Q = ∃ xs ys, st[n]? = some (.lst xs) ∧ st[m]? = some (.lst ys) ∧ xs.length + ys.length ≤ sizeLine ∧ Q .non (st.set n (.lst (xs ++ ys))) := rfl
theorem mth_split {s t : List Nat} {Q : DK} : mthW st .split (.str s) [.str t] Q = (t.length ≠ 0 ∧ s.length + 2 ≤ sizeLine ∧ Q (.loc st.length) (st ++ [.lst ((splitL s t).map .str)])) := rfl
theorem mth_partition {s t : List Nat} {Q : DK} : mthW st .partition (.str s) [.str t] Q = (t.length ≠ 0 ∧ s.length ≤ sizeLine ∧ Q (.tup [.str (Txt.partition (sv s) (sv t)).1.cps.toList, .str (Txt.partition (sv s) (sv t)).2.1.cps.toList, .str (Txt.partition (sv s) (sv t)).2.2.cps.toList]) st) := rfl
theorem mth_startswith {s t : List Nat} {Q : DK} : mthW st .startswith (.str s) [.str t] Q = Q (.bl (Txt.startswith (sv s) (sv t))) st := rfl
theorem mth_removeprefix {s t : List Nat} {Q : DK} : mthW st .removeprefix (.str s) [.str t] Q = (s.length ≤ sizeLine ∧ Q (.str (Txt.removeprefix (sv s) (sv t)).cps.toList) st) := rfl
theorem mth_pop {n : Nat} {Q : DK} : mthW st .pop (.loc n) [] Q = ∃ ws w, st[n]? = some (.lst ws) ∧ ws[ws.length - 1]? = some w ∧ Q w (st.set n (.lst ws.dropLast)) := rfl
theorem mthTy_lst {n : Nat} {m : Mt} (hm : m = .append ∨ m = .pop ∨ m = .extend ∨ m = .insert) : mthTy st m (.loc n) = ∃ ws, st[n]? = some (.lst ws) := by
  apply propext
  rcases hm with rfl | rfl | rfl | rfl <;> exact ⟨fun ⟨m, ws, e, h⟩ => by cases e; exact ⟨ws, h⟩, fun ⟨ws, h⟩ => ⟨n, ws, rfl, h⟩⟩
theorem mthTy_pop {n : Nat} : mthTy st .pop (.loc n) = ∃ ws, st[n]? = some (.lst ws) := mthTy_lst (.inr (.inl rfl))
theorem mthTy_ext {n : Nat} : mthTy st .extend (.loc n) = ∃ ws, st[n]? = some (.lst ws) := mthTy_lst (.inr (.inr (.inl rfl)))
theorem mthTy_str {s : List Nat} {m : Mt} (hm : m = .split ∨ m = .partition ∨ m = .startswith ∨ m = .removeprefix) : mthTy st m (.str s) = True := by
  rcases hm with rfl | rfl | rfl | rfl <;> exact eq_true ⟨s, rfl⟩
theorem mthTy_split {s : List Nat} : mthTy st .split (.str s) = True := mthTy_str (.inl rfl)
theorem mthTy_part {s : List Nat} : mthTy st .partition (.str s) = True := mthTy_str (.inr (.inl rfl))
theorem mthTy_starts {s : List Nat} : mthTy st .startswith (.str s) = True := mthTy_str (.inr (.inr (.inl rfl)))
theorem mthTy_rmp {s : List Nat} : mthTy st .removeprefix (.str s) = True := mthTy_str (.inr (.inr (.inr rfl)))
theorem mthTy_loc {n : Nat} {m : Mt} {ws : List D} (h : st[n]? = some (.lst ws)) (hm : m = .append ∨ m = .pop ∨ m = .extend ∨ m = .insert := by decide) : mthTy st m (.loc n) := by
  rcases hm with rfl | rfl | rfl | rfl <;> exact ⟨n, ws, rfl, h⟩
theorem mthTy_join {s : List Nat} : mthTy st .join (.str s) = True := eq_true ⟨s, rfl⟩
theorem mthTy_app {n : Nat} : mthTy st .append (.loc n) = ∃ ws, st[n]? = some (.lst ws) := by
  apply propext
  constructor
  · rintro ⟨m, ws, e, h⟩
    cases e
    exact ⟨ws, h⟩
  · rintro ⟨ws, h⟩
    exact ⟨n, ws, rfl, h⟩
end
theorem atI_ofN {α : Type} (xs : List α) (n : Nat) : atI xs (n : Int) = xs[n]? := by
  unfold atI ixN
  rw [if_pos (Int.natCast_nonneg n)]
  by_cases h : (n : Int) < xs.length
  · rw [if_pos h] <;> rfl
  · rw [if_neg h]
    exact (List.getElem?_eq_none (by omega)).symm
theorem atI_0 {α : Type} (xs : List α) : atI xs 0 = xs[0]? := atI_ofN xs 0
theorem atI_1 {α : Type} (xs : List α) : atI xs 1 = xs[1]? := atI_ofN xs 1
theorem atI_2 {α : Type} (xs : List α) : atI xs 2 = xs[2]? := atI_ofN xs 2
theorem atI_3 {α : Type} (xs : List α) : atI xs 3 = xs[3]? := atI_ofN xs 3
theorem atI_4 {α : Type} (xs : List α) : atI xs 4 = xs[4]? := atI_ofN xs 4
theorem ixN_nat {n k : Nat} (h : k < n) : ixN n (k : Int) = some k := by
  unfold ixN
  rw [if_pos (Int.natCast_nonneg k), if_pos (by omega)] <;> rfl
theorem atI_m1 {α : Type} (xs : List α) : atI xs (-1) = xs.getLast? := by
  unfold atI ixN
  rw [if_neg (by decide)]
  cases xs with
  | nil => rfl
  | cons x xs =>
    rw [if_pos (by simp only [List.length_cons]; omega), List.getLast?_eq_getElem?]
    show (x :: xs)[((-1 : Int) + ((x :: xs).length : Nat)).toNat]? = _
    have e : ((-1 : Int) + ((x :: xs).length : Nat)).toNat = (x :: xs).length - 1 := by simp only [List.length_cons]; omega
    rw [e]
theorem ixN_m1 {n : Nat} (h : 0 < n) : ixN n (-1) = some (n - 1) := by
  unfold ixN
  rw [if_neg (by decide), if_pos (by omega)]
  congr 1
  omega
theorem eqv_str (a b : List Nat) : PyData.eqv (.str ⟨a.toArray⟩) (.str ⟨b.toArray⟩) = (a == b) := by
  rw [← str_dec a b]
  exact dec_str.symm
theorem eqW_strs {st : Sto} {a b : List Nat} {Q : Bool → Prop} : eqW st (.str a) (.str b) Q = Q (a == b) := by
  apply propext
  refine ⟨fun h => ?_, eqW_str⟩
  rcases h with ⟨_, h⟩ | ⟨k, d, e, h1, h2, _, _, h⟩
  · exact h
  · cases k with
    | zero => cases h1
    | succ k =>
      cases h1
      cases h2
      rw [eqv_str] at h
      exact h
theorem eqW_ints {st : Sto} {a b : Int} {Q : Bool → Prop} : eqW st (.int a) (.int b) Q = Q (a == b) := by
  apply propext
  refine ⟨fun h => ?_, eqW_int⟩
  rcases h with ⟨_, h⟩ | ⟨k, d, e, h1, h2, _, _, h⟩
  · exact h
  · cases k with
    | zero => cases h1
    | succ k =>
      cases h1
      cases h2
      exact h
theorem inW_strs {st : Sto} {c : Nat} {s : List Nat} {Q : Bool → Prop} : inW st (.str [c]) (.str s) Q = Q (decide (c ∈ s)) := by
  apply propext
  refine ⟨fun ⟨c', e, h⟩ => ?_, inW_str⟩
  cases e
  exact h
theorem inW_loc {st : Sto} {x : D} {n : Nat} {Q : Bool → Prop} : inW st x (.loc n) Q = ∃ ws, st[n]? = some (.lst ws) ∧ flatD x = true ∧ ws.all flatD = true ∧ Q (ws.any fun y => eqF y x) := rfl
theorem inW_tup {st : Sto} {x : D} {ws : List D} {Q : Bool → Prop} : inW st x (.tup ws) Q = (flatD x = true ∧ ws.all flatD = true ∧ Q (ws.any fun y => eqF y x)) := rfl
theorem pd_strs (st : Sto) (k : Nat) : ∀ a : List (List Nat), pdAll (pd st (k + 1)) (a.map .str) = some (a.map fun s => .str ⟨s.toArray⟩)
  | [] => rfl
  | s :: a => by
    show (pd st (k + 1) (.str s)).bind (fun d => (pdAll (pd st (k + 1)) (a.map .str)).map fun ds => d :: ds) = _
    rw [pd_strs st k a]
    rfl
theorem eqv_strs : ∀ a b : List (List Nat), PyData.eqvAll (a.map fun s => .str ⟨s.toArray⟩) (b.map fun s => .str ⟨s.toArray⟩) = (a == b)
  | [], [] => rfl
  | [], _ :: _ => rfl
  | _ :: _, [] => rfl
  | x :: a, y :: b => by
    show (PyData.eqv (.str ⟨x.toArray⟩) (.str ⟨y.toArray⟩) && PyData.eqvAll (a.map fun s => .str ⟨s.toArray⟩) (b.map fun s => .str ⟨s.toArray⟩)) = _
    rw [eqv_str, eqv_strs a b]
    rfl
/-- frames: one place has this cell, what stood further down stands -/
structure Fr1 (L : Nat) (c : Cell) (st s : Sto) : Prop where
  get : s[L]? = some c
  low : ∀ k, k < L → s[k]? = st[k]?
theorem Fr1.new {st : Sto} {c : Cell} : Fr1 st.length c st (st ++ [c]) := ⟨by simp, fun k h => List.getElem?_append_left h⟩
theorem Fr1.app {L : Nat} {c : Cell} {st s : Sto} (h : Fr1 L c st s) (X : Sto) : Fr1 L c st (s ++ X) := by
  have hl : L < s.length := (List.getElem?_eq_some_iff.mp h.get).1
  exact ⟨by rw [List.getElem?_append_left hl]; exact h.get, fun k hk => by rw [List.getElem?_append_left (Nat.lt_trans hk hl)]; exact h.low k hk⟩
theorem Fr1.put {L : Nat} {c : Cell} {st s : Sto} (h : Fr1 L c st s) (c' : Cell) : Fr1 L c' st (s.set L c') := by
  have hl : L < s.length := (List.getElem?_eq_some_iff.mp h.get).1
  exact ⟨List.getElem?_set_self hl, fun k hk => by rw [List.getElem?_set_ne (Nat.ne_of_gt hk)]; exact h.low k hk⟩
theorem new_get {st : Sto} {c : Cell} : (st ++ [c])[st.length]? = some c := by simp
def cpOkS (s : List Nat) : Prop := ∀ c ∈ s, c < 0x110000
theorem lay_strs : ∀ a : List (List Nat), (∀ s ∈ a, cpOkS s) → PyData.canLayAll0 (a.map fun s => .str ⟨s.toArray⟩) = true
  | [], _ => rfl
  | s :: a, h => by
    have h1 : PyData.canLay0 (.str ⟨s.toArray⟩) = true := by
      show s.toArray.all (· < 0x110000) = true
      simp only [List.all_toArray, List.all_eq_true, decide_eq_true_eq]
      exact h s List.mem_cons_self
    show (PyData.canLay0 (.str ⟨s.toArray⟩) && PyData.canLayAll0 (a.map fun s => .str ⟨s.toArray⟩)) = true
    rw [h1, lay_strs a fun s hs => h s (List.mem_cons_of_mem _ hs)] <;> rfl
theorem deep_strs : ∀ a : List (List Nat), PyData.depthAll (a.map fun s => .str ⟨s.toArray⟩) ≤ 1
  | [] => by simp [PyData.depthAll]
  | s :: a => by
    have h1 : PyData.depth (.str ⟨s.toArray⟩) ≤ 1 := by simp [PyData.depth]
    have h2 := deep_strs a
    simp only [List.map_cons, PyData.depthAll]
    omega
theorem shaped_strs {a : List (List Nat)} (h : ∀ s ∈ a, cpOkS s) : SeqAt.shaped (.tuple (a.map fun s => .str ⟨s.toArray⟩)) = true := by
  unfold SeqAt.shaped
  rw [Bool.and_eq_true]
  refine ⟨lay_strs a h, ?_⟩
  have z := deep_strs a
  refine decide_eq_true ?_
  simp only [PyData.depth]
  omega
theorem eqW_tup_strs {st : Sto} {a b : List (List Nat)} {Q : Bool → Prop} (ha : ∀ s ∈ a, cpOkS s) (hb : ∀ s ∈ b, cpOkS s) (h : Q (a == b)) : eqW st (.tup (a.map .str)) (.tup (b.map .str)) Q := by
  refine .inr ⟨2, .tuple (a.map fun s => .str ⟨s.toArray⟩), .tuple (b.map fun s => .str ⟨s.toArray⟩), ?_, ?_, shaped_strs ha, shaped_strs hb, ?_⟩
  · show (pdAll (pd st 1) (a.map .str)).map PyData.tuple = _
    rw [pd_strs] <;> rfl
  · show (pdAll (pd st 1) (b.map .str)).map PyData.tuple = _
    rw [pd_strs] <;> rfl
  · show Q (PyData.eqvAll _ _)
    rw [eqv_strs]
    exact h
end Dq

set_option Elab.async false
set_option linter.all false
set_option maxRecDepth 100000
set_option maxHeartbeats 4000000
namespace Dq
open PySem L2
local macro_rules | `(tactic| walk_at "wp") => `(tactic| simp only [wpS, wpE, wpEo, wpEs, wpT, wpTeo, wpTg, wpTgs, wpI, immD, truW_bl, truW_int, truW_str, truW_tup, truW_loc, idxW_dic, inW_dic, splW_tup, splW_flst, splW_loc, blt_str, blt_intS, mth_extend, mth_split, mth_partition, mth_startswith, mth_removeprefix, mth_pop, mthTy_pop, mthTy_ext, mthTy_split, mthTy_part, mthTy_starts, mthTy_rmp, idxW_str, idxW_tup, idxW_flst, idxW_loc, idlW_loc, setW_loc, slcW_str, slcW_loc, binW_add, binW_addS, binW_addL, binW_sub, binW_mul, binW_fdiv, binW_mod, binW_pow, binW_shl, augW_add, augW_addS, augW_sub,
  cmpW_eq, cmpW_ne, eqW_strs, eqW_ints, inW_strs, inW_loc, inW_tup, flatD, atI_m1, cmpW_in, cmpW_ni, cmpW_lt, cmpW_le, cmpW_gt, cmpW_ge, cmpW_is, cmpW_isn, lenW_loc, lenW_str, lenW_tup, lenW_flst, blt_len, blt_abs, blt_max, blt_min, blt_int, blt_intB, blt_tup, blt_all, blt_any, mth_append, mth_join, mthTy_join, mthTy_app, seqW_str, seqW_tup, seqW_flst, seqW_loc, lenTs, slT, slTs,
  List.getElem?_cons_zero, List.getElem?_cons_succ, List.set_cons_zero, List.set_cons_succ, Option.some.injEq, exists_eq_left', exists_eq_left, true_and, and_true, D.bl.injEq, D.int.injEq, D.loc.injEq, D.str.injEq, D.tup.injEq, Cell.lst.injEq, atI_0, atI_1, atI_2, atI_3, atI_4, decide_eq_true_eq, List.map, List.length_cons, List.length_nil, List.replicate, List.cons_append, List.nil_append, Nat.reduceAdd, Nat.reduceSub, Nat.zero_add, wipeE, if_true, if_false, Bool.false_eq_true, Bool.not_true, Bool.not_false])
def bDraw : Ss :=
  (.cons (.ite (.tst (.cmp .Gt (.idx (.var 0) (.cst (.int (2)))) (.cst (.int (0))))) 
    (.cons (.asg (.name 3) (.idx (.var 0) (.cst (.int (2))))) 
    (.cons (.asg (.sub (.var 0) (.cst (.int (2)))) (.bin .FloorDiv (.var 3) (.var 1))) 
    (.cons (.ret (.bin .Mod (.blt .int (.cons (.var 3) .nil)) (.var 1))) .nil))) .nil) 
  (.cons (.asg (.name 2) (.cst (.int (0)))) 
  (.cons (.ite (.tst (.cmp .Lt (.idx (.var 0) (.cst (.int (1)))) (.blt .len (.cons (.idx (.var 0) (.cst (.int (0)))) .nil)))) 
    (.cons (.asg (.name 4) (.idx (.idx (.var 0) (.cst (.int (0)))) (.idx (.var 0) (.cst (.int (1)))))) 
    (.cons (.asg (.name 2) (.bin .Add (.bin .Mult (.cst (.int (2))) (.blt .abs (.cons (.var 4) .nil))) (.blt .int (.cons (.cmp .Lt (.var 4) (.cst (.int (0)))) .nil)))) .nil)) .nil) 
  (.cons (.augs (.var 0) (.cst (.int (1))) .Add (.cst (.int (1)))) 
  (.cons (.ite (.tst (.cmp .GtE (.var 2) (.bin .Mult (.cst (.int (2))) (.bin .Pow (.cst (.int (10))) (.cst (.int (18))))))) 
    (.cons (.asg (.name 3) (.bin .Mod (.blt .int (.cons (.bin .FloorDiv (.var 2) (.cst (.int (2)))) .nil)) (.bin .LShift (.cst (.int (1))) (.cst (.int (6000)))))) 
    (.cons (.asg (.sub (.var 0) (.cst (.int (2)))) (.bin .FloorDiv (.var 3) (.var 1))) 
    (.cons (.ret (.bin .Mod (.blt .int (.cons (.var 3) .nil)) (.var 1))) .nil))) .nil) 
  (.cons (.asg (.sub (.var 0) (.cst (.int (3)))) (.bin .Mod (.blt .int (.cons (.bin .Add (.bin .Add (.bin .Add (.bin .Mult (.idx (.var 0) (.cst (.int (3)))) (.cst (.int (48271)))) (.bin .Mult (.bin .Mod (.blt .int (.cons (.var 2) .nil)) (.cst (.int (2147483629)))) (.cst (.int (16807))))) (.bin .Mult (.idx (.var 0) (.cst (.int (1)))) (.cst (.int (69621))))) (.cst (.int (11)))) .nil)) (.cst (.int (2147483647)))))
  (.cons (.ret (.bin .Mod (.blt .int (.cons (.bin .FloorDiv (.idx (.var 0) (.cst (.int (3)))) (.cst (.int (16)))) .nil)) (.var 1))) .nil)))))))
/-- the drawing state at n: the cells at m, a place from 0, a number, a seed -/
def DOk (st : Sto) (n : Nat) : Prop := ∃ (m : Nat) (a b c : Int) (e : D) (ns : List Int), st[n]? = some (.lst [.loc m, .int a, .int b, .int c, e]) ∧ st[m]? = some (.lst (ns.map .int)) ∧ m < n ∧ 0 ≤ a
/-- nothing that stood has changed but the drawing state -/
structure Gr (n : Nat) (st st' : Sto) : Prop where
  ok : DOk st' n
  len : st.length ≤ st'.length
  same : ∀ k, k < st.length → k ≠ n → st'[k]? = st[k]?
theorem Gr.refl {n : Nat} {st : Sto} (h : DOk st n) : Gr n st st := ⟨h, Nat.le_refl _, fun _ _ _ => rfl⟩
theorem Gr.trans {n : Nat} {s t u : Sto} (a : Gr n s t) (b : Gr n t u) : Gr n s u := ⟨b.ok, Nat.le_trans a.len b.len, fun k h1 h2 => (b.same k (Nat.lt_of_lt_of_le h1 a.len) h2).trans (a.same k h1 h2)⟩
theorem get_lt {st : Sto} {n : Nat} {c : Cell} (h : st[n]? = some c) : n < st.length := (List.getElem?_eq_some_iff.mp h).1
theorem set_get {st : Sto} {n : Nat} {c c' : Cell} (h : st[n]? = some c) : (st.set n c')[n]? = some c' := List.getElem?_set_self (get_lt h)
theorem set_ne {st : Sto} {n m : Nat} {c' : Cell} (h : m ≠ n) : (st.set n c')[m]? = st[m]? := List.getElem?_set_ne (Ne.symm h)
theorem Gr.of_set {st : Sto} {n m : Nat} {a b c : Int} {e : D} {x : Cell} {ns : List Int} (h : st[n]? = some x) (hm : st[m]? = some (.lst (ns.map .int))) (hne : m < n) (ha : 0 ≤ a) : Gr n st (st.set n (.lst [.loc m, .int a, .int b, .int c, e])) :=
  ⟨⟨m, a, b, c, e, ns, set_get h, by rw [set_ne (Nat.ne_of_lt hne)]; exact hm, hne, ha⟩, by rw [List.length_set] <;> exact Nat.le_refl _, fun k _ h2 => set_ne h2⟩
theorem draw_spec {fns : List Fi} {cst : List D} {k n : Nat} {st : Sto} {many : Int} (hk : fns[k]? = some ⟨2, 5, bDraw⟩) (h : DOk st n) (h1 : 0 < many) (h2 : many < 1073741824) :
   callW fns cst 1 k [.loc n, .int many] st fun w st' => ∃ r : Int, w = .int r ∧ 0 ≤ r ∧ r < many ∧ Gr n st st' := by
  obtain ⟨m, a, b, c, e, ns, hn, hm, hne, ha⟩ := h
  have hc : CalLe (callW fns cst 0) (callW fns cst 0) := callW_le (Nat.le_refl 0)
  have cd : ∀ i : Int, CDiv i many := fun _ => ⟨h1, h2⟩
  have c2 : ∀ i : Int, CDiv i 2 := fun _ => ⟨by decide, by decide⟩
  have c16 : ∀ i : Int, CDiv i 16 := fun _ => ⟨by decide, by decide⟩
  have x2 : ixN 5 2 = some 2 := ixN_nat (by decide)
  have x1 : ixN 5 1 = some 1 := ixN_nat (by decide)
  have x3 : ixN 5 3 = some 3 := ixN_nat (by decide)
  refine ⟨_, hk, rfl, ?_⟩
  generalize hP : (fun (w : D) (st' : Sto) => ∃ r : Int, w = .int r ∧ 0 ≤ r ∧ r < many ∧ Gr n st st') = P
  have fin : ∀ (r : Int) (s : Sto), Gr n st s → P (.int (r % many)) s := fun r s g => by
    rw [← hP]
    exact ⟨r % many, rfl, Int.emod_nonneg _ (by omega), Int.emod_lt_of_pos _ h1, g⟩
  unfold bDraw
  refine wp_cons ?_
  walk_at "wp"
  simp only [hn]
  walk_at "wp"
  split
  · refine wp_cons ?_
    walk_at "wp"
    simp only [hn]
    walk_at "wp"
    refine wp_cons ?_
    walk_at "wp"
    refine ⟨cd _, _, 2, hn, x2, ?_⟩
    walk_at "wp"
    refine wp_cons ?_
    walk_at "wp"
    refine ⟨h1, fin _ _ (.of_set hn hm hne ha)⟩
  · refine wp_nil ?_
    refine wp_cons ?_
    walk_at "wp"
    refine wp_cut hc (fun en s => ∃ (size : Int) (x4 : Option D), en = [some (.loc n), some (.int many), some (.int size), none, x4] ∧ s = st) ?_ fun en s hM => ?_
    · walk_at "wp"
      simp only [hn]
      walk_at "wp"
      simp only [hm]
      walk_at "wp"
      split
      · rename_i hlt
        simp only [List.length_map] at hlt
        obtain ⟨j, rfl⟩ : ∃ j : Nat, a = (j : Int) := ⟨a.toNat, by omega⟩
        have hi : j < ns.length := by omega
        have eg : atI (List.map D.int ns) (j : Int) = some (.int ns[j]) := by
          rw [atI_ofN, List.getElem?_map, List.getElem?_eq_getElem hi] <;> rfl
        refine wp_cons ?_
        walk_at "wp"
        simp only [hn]
        walk_at "wp"
        simp only [hm]
        walk_at "wp"
        simp only [eg]
        walk_at "wp"
        refine wp_cons ?_
        walk_at "wp"
        refine ⟨.inl ⟨by decide, by decide⟩, ?_⟩
        exact ⟨_, _, rfl, rfl⟩
      · exact ⟨_, _, rfl, rfl⟩
    · obtain ⟨size, x4, rfl, rfl⟩ := hM
      refine wp_cons ?_
      walk_at "wp"
      simp only [hn]
      walk_at "wp"
      refine ⟨_, 1, hn, x1, ?_⟩
      walk_at "wp"
      have g1 : Gr n s (s.set n (.lst [.loc m, .int (a + 1), .int b, .int c, e])) := .of_set hn hm hne (by omega)
      have hn1 := set_get (c' := .lst [.loc m, .int (a + 1), .int b, .int c, e]) hn
      have hm1 := set_ne (st := s) (c' := .lst [.loc m, .int (a + 1), .int b, .int c, e]) (Nat.ne_of_lt hne)
      rw [hm] at hm1
      generalize s.set n (.lst [.loc m, .int (a + 1), .int b, .int c, e]) = s1 at *
      refine wp_cons ?_
      walk_at "wp"
      have pw : CPow 10 18 := ⟨by decide, by decide, by decide⟩
      have ps : CPow 1 6000 := ⟨by decide, by decide, by decide⟩
      refine ⟨pw, .inl ⟨by decide, by decide⟩, ?_⟩
      split
      · refine wp_cons ?_
        walk_at "wp"
        refine ⟨c2 _, ps, ?_, ?_⟩
        · exact Int.mul_pos (by decide) (Int.pow_pos (by decide))
        generalize size / 2 % (1 * 2 ^ Int.toNat 6000) = fo
        refine wp_cons ?_
        walk_at "wp"
        refine ⟨cd _, _, 2, hn1, x2, ?_⟩
        walk_at "wp"
        refine wp_cons ?_
        walk_at "wp"
        exact ⟨h1, fin _ _ (g1.trans (.of_set hn1 hm1 hne (by omega)))⟩
      · refine wp_nil ?_
        refine wp_cons ?_
        walk_at "wp"
        simp only [hn1]
        walk_at "wp"
        refine ⟨.inr ⟨by decide, by decide⟩, by decide, .inr ⟨by decide, by decide⟩, ?_⟩
        simp only [hn1]
        walk_at "wp"
        refine ⟨.inr ⟨by decide, by decide⟩, by decide, _, 3, hn1, x3, ?_⟩
        generalize (c * 48271 + size % 2147483629 * 16807 + (a + 1) * 69621 + 11) % 2147483647 = v
        walk_at "wp"
        have hn2 := set_get (c' := .lst [.loc m, .int (a + 1), .int b, .int v, e]) hn1
        refine wp_cons ?_
        walk_at "wp"
        simp only [hn2]
        walk_at "wp"
        exact ⟨c16 _, h1, fin _ _ (g1.trans (.of_set hn1 hm1 hne (by omega)))⟩
def bPick (j : Nat) : Ss := .cons (.ret (.idx (.var 1) (.call j (.cons (.var 0) (.cons (.blt .len (.cons (.var 1) .nil)) .nil))))) .nil
theorem atI_in {α : Type} {xs : List α} {r : Int} (h0 : 0 ≤ r) (h1 : r < xs.length) : ∃ x, atI xs r = some x ∧ x ∈ xs := by
  obtain ⟨j, rfl⟩ : ∃ j : Nat, r = (j : Int) := ⟨r.toNat, by omega⟩
  have hj : j < xs.length := by omega
  exact ⟨xs[j], by rw [atI_ofN, List.getElem?_eq_getElem hj], List.getElem_mem hj⟩
theorem pick_str {fns : List Fi} {cst : List D} {j k n : Nat} {st : Sto} {s : List Nat} (hj : fns[j]? = some ⟨2, 5, bDraw⟩) (hk : fns[k]? = some ⟨2, 2, bPick j⟩) (h : DOk st n) (h1 : 0 < s.length) (h2 : s.length < 1000000) :
   callW fns cst 2 k [.loc n, .str s] st fun w st' => ∃ c, w = .str [c] ∧ c ∈ s ∧ Gr n st st' := by
  have hs : s.length ≤ sizeLine := by rw [sizeLine_eq]; omega
  refine ⟨_, hk, rfl, ?_⟩
  unfold bPick
  refine wp_cons ?_
  walk_at "wp"
  refine ⟨hs, call_mono (draw_spec hj h (by omega) (by omega)) fun w st' q => ?_⟩
  obtain ⟨r, rfl, q1, q2, g⟩ := q
  obtain ⟨c, e, hc⟩ := atI_in q1 q2
  walk_at "wp"
  exact ⟨hs, c, e, c, rfl, hc, g⟩
theorem pick_loc {fns : List Fi} {cst : List D} {j k n r : Nat} {st : Sto} {ws : List D} (hj : fns[j]? = some ⟨2, 5, bDraw⟩) (hk : fns[k]? = some ⟨2, 2, bPick j⟩) (h : DOk st n) (hr : st[r]? = some (.lst ws)) (hn : r ≠ n) (h1 : 0 < ws.length) (h2 : ws.length < 1000000) :
   callW fns cst 2 k [.loc n, .loc r] st fun w st' => w ∈ ws ∧ Gr n st st' := by
  refine ⟨_, hk, rfl, ?_⟩
  unfold bPick
  refine wp_cons ?_
  walk_at "wp"
  refine ⟨ws, hr, call_mono (draw_spec hj h (by omega) (by omega)) fun w st' q => ?_⟩
  obtain ⟨i, rfl, q1, q2, g⟩ := q
  obtain ⟨c, e, hc⟩ := atI_in q1 q2
  walk_at "wp"
  exact ⟨ws, (g.same r (get_lt hr) hn).trans hr, c, e, hc, g⟩
def bBegin : Ss := .cons (.ret (.lst (.cons (.comp [1] (.blt .int (.cons (.var 1) .nil)) (.name 1) (.exp (.var 0)) .no) (.cons (.cst (.int (0))) (.cons (.cst (.int (0))) (.cons (.cst (.int (7))) (.cons (.cst (.int (3))) .nil))))))) .nil
theorem begin_spec {fns : List Fi} {cst : List D} {k : Nat} {st : Sto} {ns : List Int} (hk : fns[k]? = some ⟨1, 2, bBegin⟩) (h : ns.length ≤ 63) :
   callW fns cst 1 k [.flst (ns.map .int)] st fun w st' => w = .loc (st.length + 1) ∧ ∃ X Y, st' = st ++ [X, Y] ∧ DOk st' (st.length + 1) := by
  have hc : CalLe (callW fns cst 0) (callW fns cst 0) := callW_le (Nat.le_refl 0)
  have hz : (63 : Nat) < sizeLine := by rw [sizeLine_eq]; decide
  refine ⟨_, hk, rfl, ?_⟩
  unfold bBegin
  refine wp_cons ?_
  show wpE _ _ _ _ _ _
  refine wpEs_mono hc _ _ _ (fun xs s => xs = [.loc st.length, .int 0, .int 0, .int 7, .int 3] ∧ s = st ++ [.lst (ns.map .int)]) _ (fun xs s q => ?_) ?_
  · obtain ⟨rfl, rfl⟩ := q
    refine ⟨by show (5 : Nat) ≤ _; omega, by rw [List.length_append] <;> rfl, .lst (ns.map .int), _, by rw [List.append_assoc] <;> rfl, st.length, 0, 0, 7, .int 3, ns, ?_, ?_, by omega, by decide⟩
    · rw [List.getElem?_append_right (by simp)]
      simp
    · rw [List.append_assoc, List.getElem?_append_right (Nat.le_refl _)]
      simp
  · show wpE _ _ _ _ _ _
    refine wp_comp hc (by decide) (ws := ns.map .int) (kp := none) (st1 := st) ?_ (fun pre acc s => acc = pre ∧ s = st) ⟨rfl, rfl⟩ (fun pre w post acc s e i => ?_) fun acc s i => ?_
    · walk_at "wp"
    · obtain ⟨rfl, rfl⟩ := i
      have hw : ∃ v : Int, w = .int v := by
        have m : w ∈ ns.map D.int := by rw [e]; simp
        obtain ⟨v, _, rfl⟩ := List.mem_map.mp m
        exact ⟨v, rfl⟩
      obtain ⟨v, rfl⟩ := hw
      refine ⟨trivial, ?_⟩
      have hl : acc.length < sizeLine := by
        have z := congrArg List.length e
        simp at z
        omega
      walk_at "wp"
      exact hl
    · obtain ⟨rfl, rfl⟩ := i
      refine ⟨trivial, ?_⟩
      walk_at "wp"
theorem DOk.lt {st : Sto} {n : Nat} (h : DOk st n) : n < st.length := let ⟨_, _, _, _, _, _, h, _⟩ := h
  get_lt h
theorem Gr.app {n : Nat} {st : Sto} (h : DOk st n) (X : Sto) : Gr n st (st ++ X) := by
  obtain ⟨m, a, b, c, e, ns, h1, h2, h3, h4⟩ := h
  exact ⟨⟨m, a, b, c, e, ns, by rw [List.getElem?_append_left (get_lt h1)]; exact h1, by rw [List.getElem?_append_left (get_lt h2)]; exact h2, h3, h4⟩, by simp, fun k hk _ => List.getElem?_append_left hk⟩
theorem Gr.to_app {n : Nat} {st s : Sto} (h : Gr n st s) (X : Sto) : Gr n st (s ++ X) := h.trans (.app h.ok X)
theorem joinL_nil : ∀ ss : List (List Nat), TL.joinL [] ss = ss.flatten
  | [] => rfl
  | [p] => by simp [TL.joinL]
  | p :: q :: r => by
    show p ++ ([] ++ TL.joinL [] (q :: r)) = _
    rw [joinL_nil (q :: r)]
    simp
theorem flat_one : ∀ cs : List Nat, (cs.map fun c => [c]).flatten = cs
  | [] => rfl
  | c :: cs => by
    show [c] ++ (cs.map fun c => [c]).flatten = _
    rw [flat_one cs] <;> rfl
theorem Gr.set_hi {n L : Nat} {st s : Sto} (h : Gr n st s) (hn : n < st.length) (hL : st.length ≤ L) (c : Cell) : Gr n st (s.set L c) := by
  obtain ⟨m, a, b, d, e, ns, h1, h2, h3, h4⟩ := h.ok
  refine ⟨⟨m, a, b, d, e, ns, ?_, ?_, h3, h4⟩, by rw [List.length_set]; exact h.len, fun k h1 h2 => ?_⟩
  · rw [List.getElem?_set_ne (by omega)]
    exact h1
  · rw [List.getElem?_set_ne (by omega)]
    exact h2
  · rw [List.getElem?_set_ne (by omega)]
    exact h.same k h1 h2
end Dq

set_option Elab.async false
set_option linter.all false
set_option maxRecDepth 100000
set_option maxHeartbeats 4000000
/-! Dq16: texts, and what the laws' words and readers are made of. -/
namespace Dq
open PySem L2
theorem eqF_str {a b : List Nat} : eqF (.str a) (.str b) = (a == b) := rfl
theorem ite_no {c : Prop} {i : Decidable c} {A B : Prop} (h : ¬ c) (b : B) : @ite Prop c i A B := by rw [if_neg h]; exact b
theorem ite_yes {c : Prop} {i : Decidable c} {A B : Prop} (h : c) (a : A) : @ite Prop c i A B := by rw [if_pos h]; exact a
theorem bnot_t {b : Bool} : ((!b) = true) = (b = false) := by cases b <;> simp
local macro_rules | `(tactic| walk_at "wp") => `(tactic| simp only [wpS, wpE, wpEo, wpEs, wpT, wpTeo, wpTg, wpTgs, wpI, immD, truW_bl, truW_int, truW_str, truW_tup, truW_loc, idxW_dic, inW_dic, splW_tup, splW_flst, splW_loc, blt_str, blt_intS, mth_extend, mth_split, mth_partition, mth_startswith, mth_removeprefix, mth_pop, mthTy_pop, mthTy_ext, mthTy_split, mthTy_part, mthTy_starts, mthTy_rmp, idxW_str, idxW_tup, idxW_flst, idxW_loc, idlW_loc, setW_loc, slcW_str, slcW_loc, binW_add, binW_addS, binW_addL, binW_sub, binW_mul, binW_fdiv, binW_mod, binW_pow, binW_shl, augW_add, augW_addS, augW_sub,
  cmpW_eq, cmpW_ne, eqW_strs, eqW_ints, inW_strs, inW_loc, inW_tup, flatD, atI_m1, cmpW_in, cmpW_ni, cmpW_lt, cmpW_le, cmpW_gt, cmpW_ge, cmpW_is, cmpW_isn, lenW_loc, lenW_str, lenW_tup, lenW_flst, blt_len, blt_abs, blt_max, blt_min, blt_int, blt_intB, blt_tup, blt_all, blt_any, mth_append, mth_join, mthTy_join, mthTy_app, seqW_str, seqW_tup, seqW_flst, seqW_loc, lenTs, slT, slTs,
  List.getElem?_cons_zero, List.getElem?_cons_succ, List.set_cons_zero, List.set_cons_succ, Option.some.injEq, exists_eq_left', exists_eq_left, true_and, and_true, D.bl.injEq, D.int.injEq, D.loc.injEq, D.str.injEq, D.tup.injEq, Cell.lst.injEq, atI_0, atI_1, atI_2, atI_3, atI_4, decide_eq_true_eq, List.map, List.length_cons, List.length_nil, List.replicate, List.cons_append, List.nil_append, Nat.reduceAdd, Nat.reduceSub, Nat.zero_add, wipeE, isiB, eqF_str, List.any_cons, List.any_nil, List.all_cons, List.all_nil, Bool.or_false, Bool.and_true, Bool.and_self, bnot_t, Bool.true_eq_false, decide_eq_false_iff_not, eq_self, not_true_eq_false, not_false_eq_true, if_true, if_false, Bool.false_eq_true, Bool.not_true, Bool.not_false])
local macro_rules | `(tactic| walk_at "nil") => `(tactic| simp only [wpSs_nil])

/-! ### texts -/
theorem sv_S (s : List Nat) : sv s = SX.S s := rfl
theorem splitL_spl {s t : List Nat} (hb : t ≠ []) (hk : t.all (· < 256) = true) : splitL s t = TL.spl t 0 [] s := by
  unfold splitL
  rw [sv_S, sv_S, SX.split_S hb hk]
  exact SX.map_S_tl _
theorem splitL_join {parts : List (List Nat)} (hne : parts ≠ []) (h : ∀ p ∈ parts, 32 ∉ p) : splitL (TL.joinL [32] parts) [32] = parts := by
  rw [splitL_spl (by simp) (by decide)]
  exact SX.spl_join hne h
theorem strI_nat (n : Nat) : strI (n : Int) = TL.numL n := TL.tl_num n
theorem part_some {a p q : List Nat} (h : 46 ∉ p) (e : a = p ++ 46 :: q) : Txt.partition (sv a) (sv [46]) = (sv p, sv [46], sv q) :=
  SX.partition_some (by simp) (by rw [e]; exact SX.par_head q h)
theorem part_none {a : List Nat} (h : 46 ∉ a) : Txt.partition (sv a) (sv [46]) = (sv a, sv [], sv []) := SX.partition_none (by simp) (SX.par_head_none h)
theorem sv_l (a : List Nat) : (sv a).cps.toList = a := rfl
theorem int_digs {s : List Nat} (h : ∀ c ∈ s, c ∈ DIG) (hne : s ≠ []) (hl : s.length ≤ 640) : PySem.intText? (sv s) = some (num s) := by
  have hd : NumText.AllDigits s := fun c hc => by
    have := h c hc
    revert this
    exact (by decide : ∀ c ∈ DIG, 48 ≤ c ∧ c ≤ 57) c
  have e := SX.int_S (a := s) (by
    rw [List.all_eq_true]
    intro c hc
    have := hd c hc
    simp [this.1, this.2]) hne (by omega)
  rw [sv_S, e]
  have f := TL.fold_digits s 0 hd
  unfold num
  unfold NumText.digitsVal
  exact congrArg some f.symm
/-! ### pieces of lists -/
theorem cut_to {α : Type} (s : List α) (j : Nat) : cutL s none (some (j : Int)) = s.take j := by
  unfold cutL
  rw [HT.sIx_nat, HT.sIx_none, Nat.sub_zero, List.drop_zero]
  by_cases h : j ≤ s.length
  · rw [Nat.min_eq_left h]
  · rw [Nat.min_eq_right (by omega), List.take_of_length_le (Nat.le_refl _), List.take_of_length_le (by omega)]
theorem cut_from {α : Type} (s : List α) (j : Nat) : cutL s (some (j : Int)) none = s.drop j := by
  unfold cutL
  rw [HT.sIx_nat, HT.sIx_none]
  by_cases h : j ≤ s.length
  · rw [Nat.min_eq_left h, List.take_of_length_le (by rw [List.length_drop] <;> exact Nat.le_refl _)]
  · rw [Nat.min_eq_right (by omega), List.drop_eq_nil_of_le (Nat.le_refl _), List.drop_eq_nil_of_le (by omega), List.take_nil]
theorem cut_mid {α : Type} (s : List α) (i j : Nat) : cutL s (some (i : Int)) (some (j : Int)) = (s.take j).drop i := by
  unfold cutL
  rw [HT.sIx_nat, HT.sIx_nat, List.drop_take]
  by_cases h : i ≤ s.length
  · rw [Nat.min_eq_left h]
    by_cases g : j ≤ s.length
    · rw [Nat.min_eq_left g]
    · have e : min j s.length = s.length := Nat.min_eq_right (by omega)
      rw [e, List.take_of_length_le (by rw [List.length_drop] <;> exact Nat.le_refl _), List.take_of_length_le (by rw [List.length_drop]; omega)]
  · have e : min i s.length = s.length := Nat.min_eq_right (by omega)
    rw [e, List.drop_eq_nil_of_le (Nat.le_refl _), List.drop_eq_nil_of_le (by omega), List.take_nil, List.take_nil]
theorem cut_last {α : Type} (s : List α) : cutL s none (some (-1)) = s.dropLast := by
  have e : HT.sIx s.length s.length (some (-1)) = s.length - 1 := by
    show (if (-1 : Int) < 0 then ((-1 : Int) + (s.length : Int)).toNat else min (-1 : Int).toNat s.length) = _
    rw [if_pos (by omega)]
    omega
  unfold cutL
  rw [e, HT.sIx_none, Nat.sub_zero, List.drop_zero, List.dropLast_eq_take]
theorem all_flat {a : List (List Nat)} : (a.map D.str).all flatD = true := by simp [flatD]
theorem any_str {a : List (List Nat)} {w : List Nat} : ((a.map D.str).any fun y => eqF y (.str w)) = a.contains w := by
  induction a with
  | nil => rfl
  | cons b a ih =>
    rw [List.map_cons, List.any_cons, ih, List.contains_cons]
    show ((b == w) || _) = _
    rw [Bool.beq_comm]
/-- only more lists stand there -/
def Ex (st s : Sto) : Prop := ∃ X, s = st ++ X
theorem Ex.refl (st : Sto) : Ex st st := ⟨[], by simp⟩
theorem Ex.trans {a b c : Sto} (h : Ex a b) (g : Ex b c) : Ex a c := by
  obtain ⟨X, rfl⟩ := h
  obtain ⟨Y, rfl⟩ := g
  exact ⟨X ++ Y, by simp⟩
theorem Ex.app {a b : Sto} (h : Ex a b) (X : Sto) : Ex a (b ++ X) := h.trans ⟨X, rfl⟩
theorem Ex.get {a b : Sto} (h : Ex a b) {k : Nat} {c : Cell} (e : a[k]? = some c) : b[k]? = some c := by
  obtain ⟨X, rfl⟩ := h
  rw [List.getElem?_append_left (get_lt e)]
  exact e
theorem Ex.len {a b : Sto} (h : Ex a b) : a.length ≤ b.length := by
  obtain ⟨X, rfl⟩ := h
  simp
theorem Ex.gr {a b : Sto} (h : Ex a b) {n : Nat} (d : DOk a n) : Gr n a b := by
  obtain ⟨X, rfl⟩ := h
  exact .app d X
/-! ### words -/
def bRes : Ss :=
  (.cons (.asg (.name 0) (.cst (.str [97, 115, 107, 101, 114, 32, 103, 114, 111, 117, 112, 32, 116, 104, 105, 110, 103, 32, 98, 97, 100, 103, 101, 32, 116, 97, 103, 32, 110, 117, 109, 98, 101, 114, 32, 102, 108, 97, 103, 32, 97, 115, 107, 101, 100, 32, 97, 99, 116, 105, 111, 110, 32, 100, 117, 116, 121, 32, 116, 105, 101, 32, 110, 101, 118, 101, 114, 32, 119, 97, 108, 107, 32, 119, 104, 101, 110, 32, 114, 111, 108, 101, 32, 103, 97, 116, 101, 32, 108, 101, 116, 32, 98, 97, 114, 32, 111, 110, 32, 102, 114, 111, 109, 32, 116, 111, 32]))) 
  (.cons (.ret (.mth .split (.bin .Add (.var 0) (.cst (.str [98, 121, 32, 105, 115, 32, 109, 97, 121, 32, 114, 97, 110, 107, 32, 100, 117, 101, 32, 97, 110, 100, 32, 111, 114, 32, 110, 111, 116, 32, 97, 108, 119, 97, 121, 115, 32, 110, 111, 119, 32, 97, 115, 107, 32, 97, 110, 121, 32, 116, 97, 98, 108, 101, 32, 102, 105, 110, 97, 108, 32, 110, 111, 100, 101, 32, 114, 117, 108, 101]))) (.cons (.cst (.str [32])) .nil))) .nil))
def bWord (j p r : Nat) : Ss :=
  (.cons (.asg (.name 1) (.call j (.cons (.var 0) (.cons (.cst (.int (8))) .nil)))) 
  (.cons (.ite (.tst (.cmp .Eq (.var 1) (.cst (.int (0))))) 
    (.cons (.asg (.name 5) (.cst (.str [116, 104, 101, 110, 32, 115, 116, 97, 114, 32, 112, 108, 117, 115, 32, 109, 97, 121, 98, 101, 32, 117, 112, 116, 111, 32, 115, 116, 101, 112, 32, 110, 97, 109, 101, 100, 32, 97, 116, 109, 111, 115, 116, 32, 111, 102, 32, 97, 108, 108, 32, 110, 111, 110, 101, 32, 122, 32, 97, 32, 98, 48]))) 
    (.cons (.ret (.call p (.cons (.var 0) (.cons (.mth .split (.var 5) (.cons (.cst (.str [32])) .nil)) .nil)))) .nil)) .nil) 
  (.cons (.ite (.tst (.cmp .Eq (.var 1) (.cst (.int (1))))) 
    (.cons (.asg (.name 3) (.call p (.cons (.var 0) (.cons (.call r .nil) .nil)))) 
    (.cons (.ret (.call p (.cons (.var 0) (.cons (.lst (.cons (.slc (.var 3) .no (.yes (.neg (.cst (.int (1)))))) (.cons (.bin .Add (.cst (.str [122])) (.var 3)) (.cons (.bin .Add (.var 3) (.cst (.str [115]))) (.cons (.bin .Add (.var 3) (.cst (.str [55]))) .nil))))) .nil)))) .nil)) .nil) 
  (.cons (.asg (.name 2) (.cst (.str [97, 98, 99, 100, 101, 102, 103, 104, 105, 106, 107, 108, 109, 110, 111, 112, 113, 114, 115, 116, 117, 118, 119, 120, 121, 122, 48, 49, 50, 51, 52, 53, 54, 55, 56, 57]))) 
  (.cons (.asg (.name 3) (.idx (.var 2) (.call j (.cons (.var 0) (.cons (.cst (.int (26))) .nil))))) 
  (.cons (.for_ (.name 4) (.range1 (.ife (.tst (.cmp .Eq (.var 1) (.cst (.int (2))))) (.cst (.int (7))) (.call j (.cons (.var 0) (.cons (.cst (.int (3))) .nil))))) 
    (.cons (.asg (.name 3) (.bin .Add (.var 3) (.idx (.var 2) (.call j (.cons (.var 0) (.cons (.cst (.int (36))) .nil)))))) .nil)) 
  (.cons (.ite (.tst (.cmp .Eq (.slc (.var 3) .no (.yes (.cst (.int (2))))) (.cst (.str [122, 122])))) 
    (.cons (.asg (.name 3) (.bin .Add (.cst (.str [121])) (.slc (.var 3) (.yes (.cst (.int (1)))) .no))) .nil) .nil) 
  (.cons (.ret (.ife (.tst (.cmp .In (.var 3) (.call r .nil))) (.bin .Add (.var 3) (.cst (.str [48]))) (.var 3))) .nil))))))))
def bGood (r : Nat) : Ss :=
  (.cons (.ite (.or_ (.not_ (.val (.isi (.var 0) .str))) (.or_ (.not_ (.tst (.chain .LtE .LtE (.cst (.int (1))) (.blt .len (.cons (.var 0) .nil)) (.cst (.int (8)))))) (.or_ (.tst (.cmp .Eq (.slc (.var 0) .no (.yes (.cst (.int (2))))) (.cst (.str [122, 122])))) (.tst (.cmp .In (.var 0) (.call r .nil)))))) 
    (.cons (.ret (.cst (.bl false))) .nil) .nil) 
  (.cons (.ite (.tst (.cmp .NotIn (.idx (.var 0) (.cst (.int (0)))) (.cst (.str [97, 98, 99, 100, 101, 102, 103, 104, 105, 106, 107, 108, 109, 110, 111, 112, 113, 114, 115, 116, 117, 118, 119, 120, 121, 122])))) 
    (.cons (.ret (.cst (.bl false))) .nil) .nil) 
  (.cons (.ret (.blt .all (.cons (.comp [1] (.cmp .In (.var 1) (.cst (.str [97, 98, 99, 100, 101, 102, 103, 104, 105, 106, 107, 108, 109, 110, 111, 112, 113, 114, 115, 116, 117, 118, 119, 120, 121, 122, 48, 49, 50, 51, 52, 53, 54, 55, 56, 57]))) (.name 1) (.exp (.var 0)) .no) .nil))) .nil)))
def bSee : Ss :=
  (.cons (.ret (.ife (.tst (.cmp .Lt (.idx (.var 0) (.cst (.int (1)))) (.blt .len (.cons (.idx (.var 0) (.cst (.int (0)))) .nil)))) (.idx (.idx (.var 0) (.cst (.int (0)))) (.idx (.var 0) (.cst (.int (1))))) (.cst (.str [])))) .nil)
def bTake (s : Nat) : Ss :=
  (.cons (.ite (.and_ (.not_ (.val (.idx (.var 0) (.cst (.int (2)))))) (.tst (.cmp .Eq (.call s (.cons (.var 0) .nil)) (.var 1)))) 
    (.cons (.asg (.sub (.var 0) (.cst (.int (1)))) (.bin .Add (.idx (.var 0) (.cst (.int (1)))) (.cst (.int (1))))) .nil) 
    (.cons (.asg (.sub (.var 0) (.cst (.int (2)))) (.cst (.bl true))) .nil)) .nil)
def bName (g s : Nat) : Ss :=
  (.cons (.asg (.name 1) (.call s (.cons (.var 0) .nil))) 
  (.cons (.ite (.or_ (.val (.idx (.var 0) (.cst (.int (2))))) (.not_ (.val (.call g (.cons (.var 1) .nil))))) 
    (.cons (.asg (.sub (.var 0) (.cst (.int (2)))) (.cst (.bl true))) 
    (.cons (.ret (.cst (.str []))) .nil)) .nil) 
  (.cons (.asg (.sub (.var 0) (.cst (.int (1)))) (.bin .Add (.idx (.var 0) (.cst (.int (1)))) (.cst (.int (1))))) 
  (.cons (.ret (.var 1)) .nil))))
def bNum (s : Nat) : Ss :=
  (.cons (.asg (.name 3) (.call s (.cons (.var 0) .nil))) 
  (.cons (.asg (.name 4) (.band (.chain .LtE .LtE (.cst (.int (1))) (.blt .len (.cons (.var 3) .nil)) (.cst (.int (4)))) (.band (.blt .all (.cons (.comp [5] (.cmp .In (.var 5) (.cst (.str [48, 49, 50, 51, 52, 53, 54, 55, 56, 57]))) (.name 5) (.exp (.var 3)) .no) .nil)) (.bor (.cmp .Eq (.var 3) (.cst (.str [48]))) (.cmp .NotEq (.idx (.var 3) (.cst (.int (0)))) (.cst (.str [48]))))))) 
  (.cons (.ite (.or_ (.val (.idx (.var 0) (.cst (.int (2))))) (.or_ (.not_ (.val (.var 4))) (.not_ (.tst (.chain .LtE .LtE (.var 1) (.blt .int (.cons (.var 3) .nil)) (.var 2)))))) 
    (.cons (.asg (.sub (.var 0) (.cst (.int (2)))) (.cst (.bl true))) 
    (.cons (.ret (.cst (.int (0)))) .nil)) .nil) 
  (.cons (.asg (.sub (.var 0) (.cst (.int (1)))) (.bin .Add (.idx (.var 0) (.cst (.int (1)))) (.cst (.int (1))))) 
  (.cons (.ret (.blt .int (.cons (.var 3) .nil))) .nil)))))
def bIsInt : Ss :=
  (.cons (.ret (.band (.isi (.var 0) .int) (.bnot (.isi (.var 0) .bool)))) .nil)
def bSame (k i : Nat) : Ss :=
  (.cons (.ite (.val (.isi (.var 1) .tuple)) 
    (.cons (.ite (.or_ (.not_ (.val (.isi (.var 0) .tuple))) (.tst (.cmp .NotEq (.blt .len (.cons (.var 0) .nil)) (.blt .len (.cons (.var 1) .nil))))) 
      (.cons (.ret (.cst (.bl false))) .nil) .nil) 
    (.cons (.ret (.blt .all (.cons (.comp [2] (.call k (.cons (.idx (.var 0) (.var 2)) (.cons (.idx (.var 1) (.var 2)) .nil))) (.name 2) (.range1 (.blt .len (.cons (.var 1) .nil))) .no) .nil))) .nil)) .nil) 
  (.cons (.ite (.tst (.cmp .Is (.var 1) (.cst .non))) 
    (.cons (.ret (.cmp .Is (.var 0) (.cst .non))) .nil) .nil) 
  (.cons (.ite (.val (.isi (.var 1) .bool)) 
    (.cons (.ret (.band (.isi (.var 0) .bool) (.cmp .Eq (.var 0) (.var 1)))) .nil) .nil) 
  (.cons (.ite (.val (.isi (.var 1) .int)) 
    (.cons (.ret (.band (.call i (.cons (.var 0) .nil)) (.cmp .Eq (.var 0) (.var 1)))) .nil) .nil) 
  (.cons (.ret (.band (.isi (.var 0) .str) (.cmp .Eq (.var 0) (.var 1)))) .nil)))))
def bPartner : Ss :=
  (.cons (.asg (.name 2) (.cst (.int (0)))) 
  (.cons (.for_ (.name 3) (.range2 (.var 1) (.blt .len (.cons (.var 0) .nil))) 
    (.cons (.asg (.name 2) (.bin .Sub (.bin .Add (.var 2) (.blt .int (.cons (.cmp .Eq (.idx (.var 0) (.var 3)) (.cst (.str [40]))) .nil))) (.blt .int (.cons (.cmp .Eq (.idx (.var 0) (.var 3)) (.cst (.str [41]))) .nil)))) 
    (.cons (.ite (.tst (.cmp .Eq (.var 2) (.cst (.int (0))))) 
      (.cons (.ret (.var 3)) .nil) .nil) .nil))) 
  (.cons (.ret (.var 1)) .nil)))
def sRes : List Nat := [97, 115, 107, 101, 114, 32, 103, 114, 111, 117, 112, 32, 116, 104, 105, 110, 103, 32, 98, 97, 100, 103, 101, 32, 116, 97, 103, 32, 110, 117, 109, 98, 101, 114, 32, 102, 108, 97, 103, 32, 97, 115, 107, 101, 100, 32, 97, 99, 116, 105, 111, 110, 32, 100, 117, 116, 121, 32, 116, 105, 101, 32, 110, 101, 118, 101, 114, 32, 119, 97, 108, 107, 32, 119, 104, 101, 110, 32, 114, 111, 108, 101, 32, 103, 97, 116, 101, 32, 108, 101, 116, 32, 98, 97, 114, 32, 111, 110, 32, 102, 114, 111, 109, 32, 116, 111, 32, 98, 121, 32, 105, 115, 32, 109, 97, 121, 32, 114, 97, 110, 107, 32, 100, 117, 101, 32, 97, 110, 100, 32, 111, 114, 32, 110, 111, 116, 32, 97, 108, 119, 97, 121, 115, 32, 110, 111, 119, 32, 97, 115, 107, 32, 97, 110, 121, 32, 116, 97, 98, 108, 101, 32, 102, 105, 110, 97, 108, 32, 110, 111, 100, 101, 32, 114, 117, 108, 101]
theorem sRes_split : splitL sRes [32] = RES := by
  have e : sRes = TL.joinL [32] RES := by decide +kernel
  rw [e]
  exact splitL_join (by decide) (by decide)
theorem reserved_spec {fns : List Fi} {cst : List D} {r : Nat} {st : Sto} (hr : fns[r]? = some ⟨0, 1, bRes⟩) : callW fns cst 1 r [] st fun w s => w = .loc st.length ∧ s = st ++ [.lst (RES.map .str)] := by
  refine ⟨_, hr, rfl, ?_⟩
  unfold bRes
  refine wp_cons ?_
  walk_at "wp"
  refine wp_cons ?_
  walk_at "wp"
  have hz := sizeLine_eq
  have e := sRes_split
  unfold sRes at e
  rw [hz, e]
  exact ⟨by decide, by decide, by decide, rfl⟩
def WORDS : List (List Nat) := [[116, 104, 101, 110], [115, 116, 97, 114], [112, 108, 117, 115], [109, 97, 121, 98, 101], [117, 112, 116, 111], [115, 116, 101, 112], [110, 97, 109, 101, 100], [97, 116, 109, 111, 115, 116], [111, 102], [97, 108, 108], [110, 111, 110, 101], [122], [97], [98, 48]]
def sWords : List Nat := [116, 104, 101, 110, 32, 115, 116, 97, 114, 32, 112, 108, 117, 115, 32, 109, 97, 121, 98, 101, 32, 117, 112, 116, 111, 32, 115, 116, 101, 112, 32, 110, 97, 109, 101, 100, 32, 97, 116, 109, 111, 115, 116, 32, 111, 102, 32, 97, 108, 108, 32, 110, 111, 110, 101, 32, 122, 32, 97, 32, 98, 48]
theorem sWords_split : splitL sWords [32] = WORDS := by
  have e : sWords = TL.joinL [32] WORDS := by decide +kernel
  rw [e]
  exact splitL_join (by decide) (by decide)
theorem words_good : ∀ w ∈ WORDS, good w = true := by decide
theorem res_near : ∀ w ∈ RES, (w.length ≤ 8 ∧ good w.dropLast = true) ∧ good (122 :: w) = true ∧ good (w ++ [115]) = true ∧ good (w ++ [55]) = true := by decide
theorem good_of {n : List Nat} (h1 : 1 ≤ n.length) (h2 : n.length ≤ 8) (h3 : n.take 2 ≠ [122, 122]) (h4 : RES.contains n = false) (h5 : ∀ c r, n = c :: r → c ∈ LET) (h6 : ∀ c ∈ n, c ∈ LDG) : good n = true := by
  unfold good
  cases n with
  | nil => cases h1
  | cons c r =>
    have h5 := h5 c r rfl
    simp only [Bool.and_eq_true, decide_eq_true_eq, Bool.not_eq_true', List.all_eq_true, beq_eq_false_iff_ne]
    exact ⟨h1, h2, h3, h4, h5, fun d hd => h6 d hd⟩
theorem res_short : ∀ w ∈ RES, w.length ≤ 6 ∧ RES.contains (w ++ [48]) = false ∧ (w ++ [48]).take 2 ≠ [122, 122] := by decide
theorem let_ldg : ∀ c ∈ LET, c ∈ LDG := by decide
theorem y_take {s : List Nat} : (121 :: s).take 2 ≠ [122, 122] := by
  rw [List.take_succ_cons]
  intro e
  injection e with e1 e2
  cases e1
/-- the last step of a word -/
theorem word_end {t : List Nat} (h1 : 1 ≤ t.length) (h2 : t.length ≤ 8) (h5 : ∀ c r, t = c :: r → c ∈ LET) (h6 : ∀ c ∈ t, c ∈ LDG) :
    good (let u := if t.take 2 = [122, 122] then 121 :: t.drop 1 else t; if RES.contains u = true then u ++ [48] else u) = true := by
  have key : ∀ u : List Nat, 1 ≤ u.length → u.length ≤ 8 → u.take 2 ≠ [122, 122] → (∀ c r, u = c :: r → c ∈ LET) → (∀ c ∈ u, c ∈ LDG) → good (if RES.contains u = true then u ++ [48] else u) = true := by
    intro u a1 a2 a3 a5 a6
    split
    · rename_i hc
      obtain ⟨b1, b2, b3⟩ := res_short u (List.contains_iff_mem.mp hc)
      refine good_of (by simp) (by simp; omega) b3 b2 (fun c r e => ?_) (fun c hm => ?_)
      · cases u with
        | nil => cases a1
        | cons d u =>
          have : d = c := by
            rw [List.cons_append] at e
            injection e
          subst this
          exact a5 d u rfl
      · rcases List.mem_append.mp hm with z | z
        · exact a6 c z
        · rw [List.mem_singleton.mp z]
          decide
    · rename_i hc
      exact good_of a1 a2 a3 (by simpa using hc) a5 a6
  show good (if RES.contains (if t.take 2 = [122, 122] then 121 :: t.drop 1 else t) = true then (if t.take 2 = [122, 122] then 121 :: t.drop 1 else t) ++ [48] else (if t.take 2 = [122, 122] then 121 :: t.drop 1 else t)) = true
  split
  · rename_i h
    exact key _ (by simp) (by simp; omega) y_take (fun c r e => by injection e with e1 e2; rw [← e1]; decide) (fun c hm => by
      rcases List.mem_cons.mp hm with z | z
      · rw [z]
        decide
      · exact h6 c (List.mem_of_mem_drop z))
  · rename_i h
    exact key t h1 h2 h h5 h6
theorem word_spec {fns : List Fi} {cst : List D} {j p r k n : Nat} {st : Sto} (hj : fns[j]? = some ⟨2, 5, bDraw⟩) (hp : fns[p]? = some ⟨2, 2, bPick j⟩) (hr : fns[r]? = some ⟨0, 1, bRes⟩) (hk : fns[k]? = some ⟨1, 6, bWord j p r⟩) (h : DOk st n) :
    callW fns cst 3 k [.loc n] st fun w s => ∃ t, w = .str t ∧ good t = true ∧ Gr n st s := by
  have hc : CalLe (callW fns cst 2) (callW fns cst 2) := callW_le (Nat.le_refl 2)
  have hz := sizeLine_eq
  refine ⟨_, hk, rfl, ?_⟩
  generalize hP : (fun (w : D) (s : Sto) => ∃ t, w = .str t ∧ good t = true ∧ Gr n st s) = P
  have fin : ∀ t s, good t = true → Gr n st s → P (.str t) s := fun t s a b => by
    rw [← hP]
    exact ⟨t, rfl, a, b⟩
  unfold bWord
  refine wp_cons ?_
  walk_at "wp"
  refine call_up (draw_spec hj h (by decide) (by decide)) (by decide) fun w s1 q => ?_
  obtain ⟨way, rfl, w0, w8, g1⟩ := q
  refine wp_cons ?_
  walk_at "wp"
  split
  · refine wp_cons ?_
    walk_at "wp"
    refine wp_cons ?_
    walk_at "wp"
    have e := sWords_split
    unfold sWords at e
    rw [hz, e]
    refine ⟨by decide, by decide, ?_⟩
    have g2 := g1.to_app [.lst (WORDS.map .str)]
    refine call_mono (pick_loc hj hp g2.ok new_get (by have := g1.ok.lt; omega) (by decide) (by decide)) fun w s2 q => ?_
    obtain ⟨q1, g3⟩ := q
    obtain ⟨t, ht, rfl⟩ := List.mem_map.mp q1
    exact fin t s2 (words_good t ht) (g2.trans g3)
  · refine wp_nil ?_
    refine wp_cons ?_
    walk_at "wp"
    split
    · refine wp_cons ?_
      walk_at "wp"
      refine call_up (reserved_spec hr) (by decide) fun w s2 q => ?_
      obtain ⟨rfl, rfl⟩ := q
      have g2 := g1.to_app [.lst (RES.map .str)]
      refine call_mono (pick_loc hj hp g2.ok new_get (by have := g1.ok.lt; omega) (by decide) (by decide)) fun w s2 q => ?_
      obtain ⟨q1, g3⟩ := q
      obtain ⟨t, ht, rfl⟩ := List.mem_map.mp q1
      obtain ⟨⟨t0, t1⟩, t2, t3, t4⟩ := res_near t ht
      have g4 := g2.trans g3
      refine wp_cons ?_
      walk_at "wp"
      refine ⟨by omega, by omega, by omega, by omega, by omega, ?_⟩
      rw [cut_last]
      have g5 := g4.to_app [.lst [.str t.dropLast, .str (122 :: t), .str (t ++ [115]), .str (t ++ [55])]]
      refine call_mono (pick_loc hj hp g5.ok new_get (by have := g4.ok.lt; omega) (by simp) (by simp)) fun w s3 q => ?_
      obtain ⟨q1, g6⟩ := q
      simp only [List.mem_cons, List.not_mem_nil, or_false] at q1
      rcases q1 with rfl | rfl | rfl | rfl
      · exact fin _ _ t1 (g5.trans g6)
      · exact fin _ _ t2 (g5.trans g6)
      · exact fin _ _ t3 (g5.trans g6)
      · exact fin _ _ t4 (g5.trans g6)
    · refine wp_nil ?_
      refine wp_cons ?_
      walk_at "wp"
      refine wp_cons ?_
      walk_at "wp"
      refine call_up (draw_spec hj g1.ok (by decide) (by decide)) (by decide) fun w s2 q => ?_
      obtain ⟨i, rfl, i0, i1, g2⟩ := q
      walk_at "wp"
      have hi : i < (LDG.length : Int) := by
        rw [show LDG.length = 36 from rfl]
        omega
      obtain ⟨c, ec, hcm⟩ := atI_in (xs := LDG) i0 hi
      have hcl : c ∈ LET := by
        obtain ⟨m, rfl⟩ : ∃ m : Nat, i = (m : Int) := ⟨i.toNat, by omega⟩
        rw [atI_ofN] at ec
        have hm : m < 26 := by omega
        exact (by decide : ∀ m, m < 26 → ∀ c, LDG[m]? = some c → c ∈ LET) m hm c ec
      refine ⟨by rw [hz]; decide, c, ec, ?_⟩
      refine wp_cons ?_
      refine wp_cut hc (fun en s => ∃ t x4, en = [some (.loc n), some (.int way), some (.str LDG), some (.str t), x4, none] ∧ 1 ≤ t.length ∧ t.length ≤ 8 ∧ (∀ c r, t = c :: r → c ∈ LET) ∧ (∀ c ∈ t, c ∈ LDG) ∧ Gr n st s) ?_ fun en s hM => ?_
      · refine wp_forJ hc ?_
        have J : ∀ (m : Int) (s0 : Sto), 0 ≤ m → m ≤ 7 → Gr n st s0 → ∃ J : List D → En → Sto → Prop, J [] [some (.loc n), some (.int way), some (.str LDG), some (.str [c]), none, none] s0 ∧ (∀ pre w post e s, (List.map (fun (k : Nat) => D.int (k : Int)) (List.range m.toNat)) = pre ++ w :: post → J pre e s → keepW none s ∧ wpTg (callW fns cst 2) cst (.name 4) w e s fun e2 s2 => wpSs (callW fns cst 2) cst (.cons (.asg (.name 3) (.bin .Add (.var 3) (.idx (.var 2) (.call j (.cons (.var 0) (.cons (.cst (.int (36))) .nil)))))) .nil) e2 s2 ⟨J (pre ++ [w]), P, fun en s => ∃ t x4, en = [some (.loc n), some (.int way), some (.str LDG), some (.str t), x4, none] ∧ 1 ≤ t.length ∧ t.length ≤ 8 ∧ (∀ c r, t = c :: r → c ∈ LET) ∧ (∀ c ∈ t, c ∈ LDG) ∧ Gr n st s, J (pre ++ [w])⟩) ∧ ∀ e s, J (List.map (fun (k : Nat) => D.int (k : Int)) (List.range m.toNat)) e s → keepW none s ∧ ∃ t x4, e = [some (.loc n), some (.int way), some (.str LDG), some (.str t), x4, none] ∧ 1 ≤ t.length ∧ t.length ≤ 8 ∧ (∀ c r, t = c :: r → c ∈ LET) ∧ (∀ c ∈ t, c ∈ LDG) ∧ Gr n st s := fun m s0 m0 m7 gs => by
          refine ⟨fun pre e s => ∃ u x4, e = [some (.loc n), some (.int way), some (.str LDG), some (.str (c :: u)), x4, none] ∧ u.length = pre.length ∧ (∀ d ∈ u, d ∈ LDG) ∧ Gr n st s, ⟨[], none, rfl, rfl, by simp, gs⟩, fun pre w post e s ee hJ => ?_, fun e s hJ => ?_⟩
          · obtain ⟨u, x4, rfl, hu, hd, gs⟩ := hJ
            have hl := congrArg List.length ee
            rw [List.length_map, List.length_range, List.length_append, List.length_cons] at hl
            refine ⟨trivial, ?_⟩
            walk_at "wp"
            refine wp_cons ?_
            walk_at "wp"
            refine call_up (draw_spec hj gs.ok (by decide) (by decide)) (by decide) fun w s3 q => ?_
            obtain ⟨i, rfl, i0, i1, g3⟩ := q
            have hi : i < (LDG.length : Int) := i1
            obtain ⟨d, ed, hdm⟩ := atI_in (xs := LDG) i0 hi
            walk_at "wp"
            refine ⟨by rw [hz]; decide, d, ed, ?_⟩
            refine ⟨by rw [hz, hu]; omega, ?_⟩
            refine wp_nil ?_
            refine ⟨u ++ [d], _, rfl, by simp [hu], fun x hx => ?_, gs.trans g3⟩
            rcases List.mem_append.mp hx with z | z
            · exact hd x z
            · rw [List.mem_singleton.mp z]
              exact hdm
          · obtain ⟨u, x4, rfl, hu, hd, gs⟩ := hJ
            rw [List.length_map, List.length_range] at hu
            refine ⟨trivial, c :: u, x4, rfl, by simp, by simp; omega, fun a r e => by injection e with e1 e2; rw [← e1]; exact hcl, fun a ha => ?_, gs⟩
            rcases List.mem_cons.mp ha with z | z
            · rw [z]
              exact let_ldg c hcl
            · exact hd a z
        walk_at "wp"
        split
        · exact ⟨by decide, by decide, J 7 s2 (by decide) (by decide) (g1.trans g2)⟩
        · refine call_up (draw_spec hj g2.ok (by decide) (by decide)) (by decide) fun w s3 q => ?_
          obtain ⟨m, rfl, m0, m3, g3⟩ := q
          exact ⟨m, rfl, by omega, by omega, J m s3 m0 (by omega) ((g1.trans g2).trans g3)⟩
      · obtain ⟨t, x4, rfl, t1, t8, t5, t6, gs⟩ := hM
        have fin2 := word_end t1 t8 t5 t6
        refine wp_cons ?_
        walk_at "wp"
        rw [show cutL t none (some 2) = t.take 2 from cut_to t 2]
        refine ⟨by omega, ?_⟩
        have tail : ∀ u : List Nat, u.length ≤ 8 → good (if RES.contains u = true then u ++ [48] else u) = true → ∀ s, Gr n st s → ∀ N B T, wpSs (callW fns cst 2) cst (.cons (.ret (.ife (.tst (.cmp .In (.var 3) (.call r .nil))) (.bin .Add (.var 3) (.cst (.str [48]))) (.var 3))) .nil) [some (.loc n), some (.int way), some (.str LDG), some (.str u), x4, none] s ⟨N, P, B, T⟩ := fun u hu hg s gs N B T => by
          refine wp_cons ?_
          walk_at "wp"
          refine call_up (reserved_spec hr) (by decide) fun w s2 q => ?_
          obtain ⟨rfl, rfl⟩ := q
          walk_at "wp"
          refine ⟨_, new_get, all_flat, ?_⟩
          rw [any_str]
          split
          · rename_i hh
            rw [if_pos hh] at hg
            exact ⟨by omega, fin _ _ hg (gs.to_app _)⟩
          · rename_i hh
            rw [if_neg hh] at hg
            exact fin _ _ hg (gs.to_app _)
        split
        · rename_i hh
          rw [if_pos (eq_of_beq hh)] at fin2
          refine wp_cons ?_
          walk_at "wp"
          rw [show cutL t (some 1) none = t.drop 1 from cut_from t 1]
          refine ⟨by omega, by rw [List.length_drop]; omega, ?_⟩
          refine wp_nil ?_
          exact tail (121 :: t.drop 1) (by simp; omega) fin2 s gs _ _ _
        · rename_i hh
          rw [if_neg (show ¬ t.take 2 = [122, 122] from fun q => hh (by rw [q] <;> rfl))] at fin2
          refine wp_nil ?_
          exact tail t t8 fin2 s gs _ _ _
/-- all(x in L for x in s) -/
theorem all_in {call : Cal} {cst : List D} {env : En} {st : Sto} {Q : DK} {s L : List Nat} {o v : Nat} (hc : CalLe call call) (hv : env[v]? = some (some (.str s))) (ho : o < env.length) (hs : s.length ≤ 1000000) (h : Q (.bl (s.all fun c => decide (c ∈ L))) (st ++ [.lst ((s.map fun c => decide (c ∈ L)).map .bl)])) :
    wpE call cst (.blt .all (.cons (.comp [o] (.cmp .In (.var o) (.cst (.str L))) (.name o) (.exp (.var v)) .no) .nil)) env st Q := by
  have hz := sizeLine_eq
  refine wp_comp hc (by simp [slT]) (ws := s.map fun c => .str [c]) (kp := none) (st1 := st) ⟨_, hv, rfl, rfl, rfl⟩ (fun pre acc s' => ∃ p, pre = p.map (fun c => D.str [c]) ∧ acc = (p.map fun c => decide (c ∈ L)).map .bl ∧ s' = st) ⟨[], rfl, rfl, rfl⟩ (fun pre w post acc s' e hJ => ?_) fun acc s' hJ => ?_
  · obtain ⟨p, rfl, rfl, rfl⟩ := hJ
    obtain ⟨a, b, e1, e2, e3⟩ := List.map_eq_append_iff.mp e
    obtain ⟨x, q, e4, e5, e6⟩ := List.map_eq_cons_iff.mp e3
    subst e5
    refine ⟨trivial, ?_⟩
    have hg : ((env.set o none).set o (some (D.str [x])))[o]? = some (some (D.str [x])) := List.getElem?_set_self (by rw [List.length_set]; exact ho)
    simp only [wpTg, wpTeo, wipeE, if_true]
    refine ⟨_, hg, rfl, ?_⟩
    simp only [cmpW_in]
    refine inW_str ?_
    have hl : p.length < 1000000 := by
      have := congrArg List.length e
      simp at this
      omega
    refine ⟨by simp; omega, p ++ [x], by simp, by simp, trivial⟩
  · obtain ⟨p, e, rfl, rfl⟩ := hJ
    have ep : s = p := by
      have inj : ∀ a b : List Nat, a.map (fun c => D.str [c]) = b.map (fun c => D.str [c]) → a = b := by
        intro a
        induction a with
        | nil => intro b h; cases b with
          | nil => rfl
          | cons => simp at h
        | cons x a ih => intro b h; cases b with
          | nil => simp at h
          | cons y b =>
            simp at h
            rw [h.1, ih b (by simpa using h.2)]
      exact inj _ _ e
    subst ep
    refine ⟨trivial, ?_⟩
    refine ⟨_, new_get, ?_⟩
    have e2 : (s.map fun c => decide (c ∈ L)).all id = s.all fun c => decide (c ∈ L) := by rw [List.all_map]; rfl
    rw [e2]
    exact h
theorem good_no {t : List Nat} (h : ¬ 1 ≤ t.length ∨ ¬ t.length ≤ 8 ∨ t.take 2 = [122, 122] ∨ RES.contains t = true ∨ ∃ c r, t = c :: r ∧ c ∉ LET) : good t = false := by
  cases g : good t with
  | false => rfl
  | true =>
    unfold good at g
    simp only [Bool.and_eq_true, decide_eq_true_eq, Bool.not_eq_true', List.all_eq_true, beq_eq_false_iff_ne] at g
    obtain ⟨g1, g2, g3, g4, g5, g6⟩ := g
    rcases h with h | h | h | h | ⟨c, r, rfl, h⟩
    · exact absurd g1 h
    · exact absurd g2 h
    · exact absurd h g3
    · rw [g4] at h
      cases h
    · exact absurd (of_decide_eq_true g5) h
/-- a name by the law's reading -/
theorem good_spec {fns : List Fi} {cst : List D} {r k : Nat} {st : Sto} {t : List Nat} (hr : fns[r]? = some ⟨0, 1, bRes⟩) (hk : fns[k]? = some ⟨1, 2, bGood r⟩) (ht : t.length ≤ 1000000) :
    callW fns cst 2 k [.str t] st fun w s => w = .bl (good t) ∧ Ex st s := by
  have hc : CalLe (callW fns cst 1) (callW fns cst 1) := callW_le (Nat.le_refl 1)
  have hz := sizeLine_eq
  refine ⟨_, hk, rfl, ?_⟩
  generalize hP : (fun (w : D) (s : Sto) => w = .bl (good t) ∧ Ex st s) = P
  have fin : ∀ b s, good t = b → Ex st s → P (.bl b) s := fun b s a e => by
    rw [← hP]
    exact ⟨by rw [a], e⟩
  unfold bGood
  refine wp_cons ?_
  walk_at "wp"
  refine ⟨by omega, ?_⟩
  split
  · split
    · rename_i h1 h2
      refine wp_cons ?_
      walk_at "wp"
      exact fin _ _ (good_no (.inr (.inl (by omega)))) (.refl st)
    · rename_i h1 h2
      refine ⟨by omega, ?_⟩
      rw [show cutL t none (some 2) = t.take 2 from cut_to t 2]
      split
      · rename_i h3
        refine wp_cons ?_
        walk_at "wp"
        exact fin _ _ (good_no (.inr (.inr (.inl (eq_of_beq h3))))) (.refl st)
      · rename_i h3
        have h3 : t.take 2 ≠ [122, 122] := fun q => h3 (by rw [q] <;> rfl)
        refine call_mono (reserved_spec hr) fun w s2 q => ?_
        obtain ⟨rfl, rfl⟩ := q
        walk_at "wp"
        refine ⟨_, new_get, all_flat, ?_⟩
        rw [any_str]
        split
        · rename_i h4
          refine wp_cons ?_
          walk_at "wp"
          exact fin _ _ (good_no (.inr (.inr (.inr (.inl h4))))) ⟨_, rfl⟩
        · rename_i h4
          refine wp_nil ?_
          cases t with
          | nil => exact absurd h1 (by simp)
          | cons c r' =>
            refine wp_cons ?_
            walk_at "wp"
            refine ⟨by simp at ht; omega, ?_⟩
            split
            · rename_i h5
              refine wp_cons ?_
              walk_at "wp"
              exact fin _ _ (good_no (.inr (.inr (.inr (.inr ⟨c, r', rfl, h5⟩))))) ⟨_, rfl⟩
            · rename_i h5
              refine wp_nil ?_
              refine wp_cons ?_
              refine all_in hc rfl (by simp) (by simpa using ht) ?_
              refine fin _ _ ?_ ⟨_, by rw [List.append_assoc]⟩
              have h5 : c ∈ LET := Classical.byContradiction h5
              unfold good
              simp only [decide_eq_true_eq] at *
              rw [decide_eq_true (by simpa using h1), decide_eq_true (by simp at h2 ⊢; omega), (by simpa using h3 : ((c :: r').take 2 == [122, 122]) = false), (by simpa using h4 : RES.contains (c :: r') = false), decide_eq_true h5]
              rfl
  · refine wp_cons ?_
    walk_at "wp"
    exact fin _ _ (good_no (.inl (by omega))) (.refl st)
theorem is_int_spec {fns : List Fi} {cst : List D} {k : Nat} {st : Sto} {x : D} (hk : fns[k]? = some ⟨1, 1, bIsInt⟩) (b : Bool) (hx : isiB x .int = some b) (c : Bool) (hy : isiB x .bool = some c) : callW fns cst 1 k [x] st fun w s => w = .bl (b && !c) ∧ s = st := by
  refine ⟨_, hk, rfl, ?_⟩
  unfold bIsInt
  refine wp_cons ?_
  refine ⟨x, rfl, b, hx, ?_⟩
  cases b with
  | false => exact ⟨rfl, rfl⟩
  | true => exact ⟨_, rfl, c, hy, rfl, rfl⟩
end Dq

set_option Elab.async false
set_option linter.all false
set_option maxRecDepth 100000
set_option maxHeartbeats 4000000
/-! Dq17: readers. -/
namespace Dq
open PySem L2
local macro_rules | `(tactic| walk_at "wp") => `(tactic| simp only [wpS, wpE, wpEo, wpEs, wpT, wpTeo, wpTg, wpTgs, wpI, immD, truW_bl, truW_int, truW_str, truW_tup, truW_loc, idxW_dic, inW_dic, splW_tup, splW_flst, splW_loc, blt_str, blt_intS, mth_extend, mth_split, mth_partition, mth_startswith, mth_removeprefix, mth_pop, mthTy_pop, mthTy_ext, mthTy_split, mthTy_part, mthTy_starts, mthTy_rmp, idxW_str, idxW_tup, idxW_flst, idxW_loc, idlW_loc, setW_loc, slcW_str, slcW_loc, binW_add, binW_addS, binW_addL, binW_sub, binW_mul, binW_fdiv, binW_mod, binW_pow, binW_shl, augW_add, augW_addS, augW_sub,
  cmpW_eq, cmpW_ne, eqW_strs, eqW_ints, inW_strs, inW_loc, inW_tup, flatD, atI_m1, cmpW_in, cmpW_ni, cmpW_lt, cmpW_le, cmpW_gt, cmpW_ge, cmpW_is, cmpW_isn, lenW_loc, lenW_str, lenW_tup, lenW_flst, blt_len, blt_abs, blt_max, blt_min, blt_int, blt_intB, blt_tup, blt_all, blt_any, mth_append, mth_join, mthTy_join, mthTy_app, seqW_str, seqW_tup, seqW_flst, seqW_loc, lenTs, slT, slTs,
  List.getElem?_cons_zero, List.getElem?_cons_succ, List.set_cons_zero, List.set_cons_succ, Option.some.injEq, exists_eq_left', exists_eq_left, true_and, and_true, D.bl.injEq, D.int.injEq, D.loc.injEq, D.str.injEq, D.tup.injEq, Cell.lst.injEq, atI_0, atI_1, atI_2, atI_3, atI_4, decide_eq_true_eq, List.map, List.length_cons, List.length_nil, List.replicate, List.cons_append, List.nil_append, Nat.reduceAdd, Nat.reduceSub, Nat.zero_add, wipeE, isiB, eqF_str, List.any_cons, List.any_nil, List.all_cons, List.all_nil, Bool.or_false, Bool.and_true, Bool.and_self, bnot_t, Bool.true_eq_false, decide_eq_false_iff_not, eq_self, not_true_eq_false, not_false_eq_true, if_true, if_false, Bool.false_eq_true, Bool.not_true, Bool.not_false])
local macro_rules | `(tactic| walk_at "nil") => `(tactic| simp only [wpSs_nil])

def enc (k : Nat) (s : RS) : Cell := .lst [.loc k, .int s.pos, .bl s.bad, .int s.z]
/-- a reading state at n, its words at k -/
structure RSt (n k : Nat) (ws : List (List Nat)) (s : RS) (st : Sto) : Prop where
  at_ : st[n]? = some (enc k s)
  wds : st[k]? = some (.lst (ws.map .str))
  ne : n ≠ k
  lens : ∀ w ∈ ws, w.length ≤ 1000
  len : ws.length ≤ 1000000
  cps : ∀ w ∈ ws, cpOkS w
/-- nothing but n has changed -/
structure Ch (n : Nat) (st st' : Sto) : Prop where
  len : st.length ≤ st'.length
  same : ∀ k, k < st.length → k ≠ n → st'[k]? = st[k]?
theorem Ch.refl (n : Nat) (st : Sto) : Ch n st st := ⟨Nat.le_refl _, fun _ _ _ => rfl⟩
theorem Ch.trans {n : Nat} {s t u : Sto} (a : Ch n s t) (b : Ch n t u) : Ch n s u := ⟨Nat.le_trans a.len b.len, fun k h1 h2 => (b.same k (Nat.lt_of_lt_of_le h1 a.len) h2).trans (a.same k h1 h2)⟩
theorem Ch.of_ex {n : Nat} {s t : Sto} (h : Ex s t) : Ch n s t := by
  obtain ⟨X, rfl⟩ := h
  exact ⟨by simp, fun k hk _ => List.getElem?_append_left hk⟩
theorem Ch.set {n : Nat} {st : Sto} (c : Cell) : Ch n st (st.set n c) := ⟨by simp, fun k _ h => set_ne h⟩
theorem RSt.put {n k : Nat} {ws : List (List Nat)} {s : RS} {st : Sto} (h : RSt n k ws s st) (s' : RS) : RSt n k ws s' (st.set n (enc k s')) :=
  ⟨set_get h.at_, (set_ne (Ne.symm h.ne)).trans h.wds, h.ne, h.lens, h.len, h.cps⟩
theorem RSt.ex {n k : Nat} {ws : List (List Nat)} {s : RS} {st st' : Sto} (h : RSt n k ws s st) (e : Ex st st') : RSt n k ws s st' :=
  ⟨e.get h.at_, e.get h.wds, h.ne, h.lens, h.len, h.cps⟩
theorem RSt.ch {n k m : Nat} {ws : List (List Nat)} {s : RS} {st st' : Sto} (h : RSt n k ws s st) (e : Ch m st st') (h1 : m ≠ n) (h2 : m ≠ k) : RSt n k ws s st' :=
  ⟨(e.same n (get_lt h.at_) (Ne.symm h1)).trans h.at_, (e.same k (get_lt h.wds) (Ne.symm h2)).trans h.wds, h.ne, h.lens, h.len, h.cps⟩
theorem see_len {n k : Nat} {ws : List (List Nat)} {s : RS} {st : Sto} (h : RSt n k ws s st) : (see ws s).length ≤ 1000 := by
  unfold see
  cases e : ws[s.pos]? with
  | none => exact Nat.zero_le _
  | some w => exact h.lens w (List.mem_of_getElem? e)
theorem see_spec {fns : List Fi} {cst : List D} {f n k : Nat} {ws : List (List Nat)} {s : RS} {st : Sto} (hf : fns[f]? = some ⟨1, 1, bSee⟩) (h : RSt n k ws s st) :
    callW fns cst 1 f [.loc n] st fun w st' => w = .str (see ws s) ∧ st' = st := by
  have hz := sizeLine_eq
  refine ⟨_, hf, rfl, ?_⟩
  have h1 : st[n]? = some (.lst [.loc k, .int s.pos, .bl s.bad, .int s.z]) := h.at_
  unfold bSee
  refine wp_cons ?_
  walk_at "wp"
  simp only [h1, h.wds]
  walk_at "wp"
  simp only [h.wds]
  walk_at "wp"
  rw [List.length_map]
  split
  · rename_i hlt
    have hlt : s.pos < ws.length := by omega
    refine ⟨.str ws[s.pos], by rw [atI_ofN, List.getElem?_map, List.getElem?_eq_getElem hlt] <;> rfl, ?_⟩
    unfold see
    rw [List.getElem?_eq_getElem hlt]
    rfl
  · rename_i hlt
    have e : see ws s = [] := by
      unfold see
      rw [List.getElem?_eq_none (by omega)]
      rfl
    rw [e]
theorem x41 : ixN 4 1 = some 1 := ixN_nat (n := 4) (k := 1) (by decide)
theorem x42 : ixN 4 2 = some 2 := ixN_nat (n := 4) (k := 2) (by decide)
theorem x43 : ixN 4 3 = some 3 := ixN_nat (n := 4) (k := 3) (by decide)
theorem take_spec {fns : List Fi} {cst : List D} {f g n k : Nat} {ws : List (List Nat)} {s : RS} {st : Sto} {w : List Nat} (hg : fns[g]? = some ⟨1, 1, bSee⟩) (hf : fns[f]? = some ⟨2, 2, bTake g⟩) (h : RSt n k ws s st) :
    callW fns cst 2 f [.loc n, .str w] st fun _ st' => RSt n k ws (take ws s w) st' ∧ Ch n st st' := by
  have hz := sizeLine_eq
  refine ⟨_, hf, rfl, ?_⟩
  have h1 : st[n]? = some (.lst [.loc k, .int s.pos, .bl s.bad, .int s.z]) := h.at_
  generalize hP : (fun (_ : D) (st' : Sto) => RSt n k ws (take ws s w) st' ∧ Ch n st st') = P
  have fin : ∀ s' x, take ws s w = s' → P x (st.set n (enc k s')) := fun s' x e => by
    rw [← hP, e]
    exact ⟨h.put s', .set _⟩
  unfold bTake
  refine wp_cons ?_
  walk_at "wp"
  simp only [h1]
  walk_at "wp"
  split
  · rename_i hb
    refine call_mono (see_spec hg h) fun w' st' q => ?_
    obtain ⟨rfl, rfl⟩ := q
    walk_at "wp"
    split
    · rename_i he
      refine wp_cons ?_
      walk_at "wp"
      simp only [h1]
      walk_at "wp"
      refine ⟨[.loc k, .int s.pos, .bl s.bad, .int s.z], 1, by first | exact h1 | rfl, x41, ?_⟩
      walk_at "nil"
      exact fin (s.on 1) _ (by unfold take; rw [if_pos ⟨hb, eq_of_beq he⟩])
    · rename_i he
      refine wp_cons ?_
      walk_at "wp"
      simp only [h1]
      refine ⟨[.loc k, .int s.pos, .bl s.bad, .int s.z], 2, by first | exact h1 | rfl, x42, ?_⟩
      walk_at "nil"
      exact fin s.fail _ (by unfold take; rw [if_neg fun q => he (by rw [q.2] <;> exact beq_self_eq_true _)])
  · rename_i hb
    refine wp_cons ?_
    walk_at "wp"
    simp only [h1]
    refine ⟨[.loc k, .int s.pos, .bl s.bad, .int s.z], 2, by first | exact h1 | rfl, x42, ?_⟩
    walk_at "nil"
    exact fin s.fail _ (by unfold take; rw [if_neg fun q => hb q.1])

theorem name_spec {fns : List Fi} {cst : List D} {f g gd r n k : Nat} {ws : List (List Nat)} {s : RS} {st : Sto} (hg : fns[g]? = some ⟨1, 1, bSee⟩) (hr : fns[r]? = some ⟨0, 1, bRes⟩) (hd : fns[gd]? = some ⟨1, 2, bGood r⟩) (hf : fns[f]? = some ⟨1, 2, bName gd g⟩) (h : RSt n k ws s st) :
    callW fns cst 3 f [.loc n] st fun w st' => w = .str (takeName ws s).1 ∧ RSt n k ws (takeName ws s).2 st' ∧ Ch n st st' := by
  have hz := sizeLine_eq
  refine ⟨_, hf, rfl, ?_⟩
  have h1 : st[n]? = some (.lst [.loc k, .int s.pos, .bl s.bad, .int s.z]) := h.at_
  generalize hP : (fun (w : D) (st' : Sto) => w = .str (takeName ws s).1 ∧ RSt n k ws (takeName ws s).2 st' ∧ Ch n st st') = P
  have fin : ∀ x s' st1, takeName ws s = (x, s') → Ex st st1 → P (.str x) (st1.set n (enc k s')) := fun x s' st1 e he => by
    rw [← hP, e]
    exact ⟨rfl, (h.ex he).put s', (Ch.of_ex he).trans (.set _)⟩
  unfold bName
  refine wp_cons ?_
  walk_at "wp"
  refine call_up (see_spec hg h) (by decide) fun w' st' q => ?_
  obtain ⟨rfl, rfl⟩ := q
  refine wp_cons ?_
  walk_at "wp"
  simp only [h1]
  walk_at "wp"
  split
  · rename_i hb
    refine wp_cons ?_
    walk_at "wp"
    simp only [h1]
    refine ⟨[.loc k, .int s.pos, .bl s.bad, .int s.z], 2, by first | exact h1 | rfl, x42, ?_⟩
    refine wp_cons ?_
    walk_at "wp"
    exact fin [] s.fail _ (by unfold takeName; rw [if_pos (.inl hb)]) (.refl _)
  · rename_i hb
    refine call_mono (good_spec hr hd (by have := see_len h; omega)) fun w' st2 q => ?_
    obtain ⟨rfl, he⟩ := q
    walk_at "wp"
    have h2 := he.get h1
    split
    · rename_i hgd
      refine wp_cons ?_
      walk_at "wp"
      refine ⟨[.loc k, .int s.pos, .bl s.bad, .int s.z], 2, by first | exact h2 | rfl, x42, ?_⟩
      refine wp_cons ?_
      walk_at "wp"
      exact fin [] s.fail _ (by unfold takeName; rw [if_pos (.inr hgd)]) he
    · rename_i hgd
      refine wp_nil ?_
      refine wp_cons ?_
      walk_at "wp"
      simp only [h2]
      walk_at "wp"
      refine ⟨[.loc k, .int s.pos, .bl s.bad, .int s.z], 1, by first | exact h2 | rfl, x41, ?_⟩
      refine wp_cons ?_
      walk_at "wp"
      exact fin (see ws s) (s.on 1) _ (by unfold takeName; rw [if_neg (by rintro (a | a); exact hb a; exact hgd a)]) he
theorem num_spec {fns : List Fi} {cst : List D} {f g n k : Nat} {ws : List (List Nat)} {s : RS} {st : Sto} {lo hi : Int} (hg : fns[g]? = some ⟨1, 1, bSee⟩) (hf : fns[f]? = some ⟨3, 6, bNum g⟩) (h : RSt n k ws s st) :
    callW fns cst 2 f [.loc n, .int lo, .int hi] st fun w st' => w = .int (takeNumR ws s lo hi).1 ∧ RSt n k ws (takeNumR ws s lo hi).2 st' ∧ Ch n st st' := by
  have hc : CalLe (callW fns cst 1) (callW fns cst 1) := callW_le (Nat.le_refl 1)
  have hz := sizeLine_eq
  refine ⟨_, hf, rfl, ?_⟩
  have h1 : st[n]? = some (.lst [.loc k, .int s.pos, .bl s.bad, .int s.z]) := h.at_
  generalize hP : (fun (w : D) (st' : Sto) => w = .int (takeNumR ws s lo hi).1 ∧ RSt n k ws (takeNumR ws s lo hi).2 st' ∧ Ch n st st') = P
  have fin : ∀ x s' st1, takeNumR ws s lo hi = (x, s') → Ex st st1 → P (.int x) (st1.set n (enc k s')) := fun x s' st1 e he => by
    rw [← hP, e]
    exact ⟨rfl, (h.ex he).put s', (Ch.of_ex he).trans (.set _)⟩
  have hl := see_len h
  unfold bNum
  refine wp_cons ?_
  walk_at "wp"
  refine call_mono (see_spec hg h) fun w' st' q => ?_
  obtain ⟨rfl, rfl⟩ := q
  refine wp_cons ?_
  refine wp_cut (M := fun en st1 => en = [some (.loc n), some (.int lo), some (.int hi), some (.str (see ws s)), some (.bl (goodN (see ws s))), none] ∧ Ex st' st1) hc ?_ fun en st1 hM => ?_
  · have hall := fun Q => all_in (call := callW fns cst 1) (cst := cst) (env := [some (.loc n), some (.int lo), some (.int hi), some (.str (see ws s)), none, none]) (st := st') (Q := Q) (s := see ws s) (L := [48, 49, 50, 51, 52, 53, 54, 55, 56, 57]) (o := 5) (v := 3) hc rfl (by simp) (by omega)
    generalize hAE : E.blt .all (.cons (.comp [5] (.cmp .In (.var 5) (.cst (.str [48, 49, 50, 51, 52, 53, 54, 55, 56, 57]))) (.name 5) (.exp (.var 3)) .no) .nil) = AE at hall ⊢
    walk_at "wp"
    refine ⟨by omega, ?_⟩
    have key : ∀ b st1, goodN (see ws s) = b → Ex st' st1 → ([some (D.loc n), some (.int lo), some (.int hi), some (.str (see ws s)), some (.bl b), none] : En) = [some (.loc n), some (.int lo), some (.int hi), some (.str (see ws s)), some (.bl (goodN (see ws s))), none] ∧ Ex st' st1 := fun b st1 e x => ⟨by rw [e], x⟩
    have g0 : goodN (see ws s) = ((decide (1 ≤ (see ws s).length) && decide ((see ws s).length ≤ 4)) && (((see ws s).all fun c => decide (c ∈ DIG)) && (decide (see ws s = [48]) || !((see ws s).take 1 == [48])))) := rfl
    split
    · rename_i a1
      split
      · rename_i a2
        rw [decide_eq_true (by omega : 1 ≤ (see ws s).length), decide_eq_true (by omega : (see ws s).length ≤ 4)] at g0
        refine hall _ ?_
        walk_at "wp"
        split
        · rename_i a3
          rw [show ((see ws s).all fun c => decide (c ∈ DIG)) = true from a3] at g0
          split
          · rename_i a4
            refine key _ _ ?_ ⟨_, rfl⟩
            rw [g0, decide_eq_true (eq_of_beq a4), a4]
            rfl
          · rename_i a4
            refine ⟨by omega, ?_⟩
            cases e : see ws s with
            | nil =>
              rw [e] at a1
              simp at a1
            | cons c r =>
              walk_at "wp"
              rw [e] at g0 key
              refine key _ _ ?_ ⟨_, rfl⟩
              rw [g0, decide_eq_false (by rw [e] at a4; exact fun q => a4 (by rw [q] <;> rfl))]
              rfl
        · rename_i a3
          refine key _ _ ?_ ⟨_, rfl⟩
          have a4 := (Bool.not_eq_true _).mp a3
          rw [g0, show ((see ws s).all fun c => decide (c ∈ DIG)) = false from a4, a4]
          rfl
      · rename_i a2
        refine key _ _ ?_ (.refl _)
        rw [g0, decide_eq_false (by omega : ¬ (see ws s).length ≤ 4), Bool.and_false, decide_eq_false a2]
        rfl
    · rename_i a1
      refine key _ _ ?_ (.refl _)
      rw [g0, decide_eq_false (by omega : ¬ 1 ≤ (see ws s).length)]
      rfl
  · obtain ⟨rfl, he⟩ := hM
    have h2 := he.get h1
    have bad : (s.bad = true ∨ goodN (see ws s) = false ∨ ¬ (lo ≤ num (see ws s) ∧ num (see ws s) ≤ hi)) → ∀ x3 x4 x5 N, wpSs (callW fns cst 1) cst (.cons (.asg (.sub (.var 0) (.cst (.int (2)))) (.cst (.bl true))) (.cons (.ret (.cst (.int (0)))) .nil)) [some (.loc n), some (.int lo), some (.int hi), x3, x4, x5] st1 ⟨N, P, fun _ _ => False, fun _ _ => False⟩ := fun hb x3 x4 x5 N => by
      refine wp_cons ?_
      walk_at "wp"
      refine ⟨[.loc k, .int s.pos, .bl s.bad, .int s.z], 2, by first | exact h2 | rfl, x42, ?_⟩
      refine wp_cons ?_
      walk_at "wp"
      exact fin 0 s.fail _ (by unfold takeNumR; rw [if_pos hb]) he
    refine wp_cons ?_
    walk_at "wp"
    simp only [h2]
    walk_at "wp"
    split
    · rename_i a1
      exact bad (.inl a1) _ _ _ _
    · rename_i a1
      split
      · rename_i a2
        exact bad (.inr (.inl a2)) _ _ _ _
      · rename_i a2
        have a2 : goodN (see ws s) = true := by simpa using a2
        have a3 := a2
        unfold goodN at a3
        simp only [Bool.and_eq_true, decide_eq_true_eq, List.all_eq_true] at a3
        have hI : PySem.intText? (sv (see ws s)) = some (num (see ws s)) := int_digs a3.2.1 (by intro q; rw [q] at a3; exact absurd a3.1.1 (by decide)) (by omega)
        refine ⟨_, hI, by omega, ?_⟩
        have good : lo ≤ num (see ws s) ∧ num (see ws s) ≤ hi → ∀ x4 x5 N, wpSs (callW fns cst 1) cst (.cons (.asg (.sub (.var 0) (.cst (.int (1)))) (.bin .Add (.idx (.var 0) (.cst (.int (1)))) (.cst (.int (1))))) (.cons (.ret (.blt .int (.cons (.var 3) .nil))) .nil)) [some (.loc n), some (.int lo), some (.int hi), some (.str (see ws s)), x4, x5] st1 ⟨N, P, fun _ _ => False, fun _ _ => False⟩ := fun hb x4 x5 N => by
          refine wp_cons ?_
          walk_at "wp"
          simp only [h2]
          walk_at "wp"
          refine ⟨[.loc k, .int s.pos, .bl s.bad, .int s.z], 1, by first | exact h2 | rfl, x41, ?_⟩
          refine wp_cons ?_
          walk_at "wp"
          refine ⟨_, hI, by omega, ?_⟩
          exact fin _ (s.on 1) _ (by unfold takeNumR; rw [if_neg (by rintro (b | b | b); exact a1 b; rw [a2] at b; cases b; exact b hb)]) he
        split
        · split
          · rename_i b1 b2
            exact bad (.inr (.inr fun q => b2 q.2)) _ _ _ _
          · rename_i b1 b2
            walk_at "nil"
            exact good ⟨b1, Classical.byContradiction b2⟩ _ _ _
        · rename_i b1
          exact bad (.inr (.inr fun q => b1 q.1)) _ _ _ _
/-! ### the same -/
mutual
def samD : D → D → Bool
  | .tup b, .tup a => samL b a
  | .str b, .str a => a == b
  | .int b, .int a => a == b
  | .bl b, .bl a => a == b
  | .non, .non => true
  | _, _ => false
def samL : List D → List D → Bool
  | [], [] => true
  | b :: bs, a :: as => samD b a && samL bs as
  | _, _ => false
end
mutual
def plD : D → Bool
  | .non => true
  | .bl _ => true
  | .int _ => true
  | .str _ => true
  | .tup ws => plL ws
  | _ => false
def plL : List D → Bool
  | [] => true
  | w :: ws => plD w && plL ws
end
mutual
def hgt : D → Nat
  | .tup ws => hgtL ws + 1
  | _ => 0
def hgtL : List D → Nat
  | [] => 0
  | w :: ws => max (hgt w) (hgtL ws)
end
theorem hgt_mem : ∀ {ws : List D} {w : D}, w ∈ ws → hgt w ≤ hgtL ws
  | [], _, h => by cases h
  | v :: ws, w, h => by
    rw [hgtL]
    rcases List.mem_cons.mp h with rfl | h
    · omega
    · have := hgt_mem h
      omega
theorem plL_mem : ∀ {ws : List D} {w : D}, plL ws = true → w ∈ ws → plD w = true
  | [], _, _, h => by cases h
  | v :: ws, w, p, h => by
    rw [plL, Bool.and_eq_true] at p
    rcases List.mem_cons.mp h with rfl | h
    · exact p.1
    · exact plL_mem p.2 h
theorem samL_len : ∀ {bs as : List D}, bs.length ≠ as.length → samL bs as = false
  | [], [], h => absurd rfl h
  | [], _ :: _, _ => by simp [samL]
  | _ :: _, [], _ => by simp [samL]
  | b :: bs, a :: as, h => by
    rw [samL, samL_len (by simpa using h), Bool.and_false]
theorem samL_zip : ∀ {bs as : List D}, bs.length = as.length → (List.zipWith samD bs as).all id = samL bs as
  | [], [], _ => by simp [samL]
  | [], _ :: _, h => by cases h
  | _ :: _, [], h => by cases h
  | b :: bs, a :: as, h => by
    rw [samL, List.zipWith_cons_cons, List.all_cons, samL_zip (by simpa using h)]
    rfl
def isTupD : D → Bool
  | .tup _ => true
  | _ => false
theorem eqW_bls {st : Sto} {a b : Bool} {Q : Bool → Prop} (h : Q (a == b)) : eqW st (.bl a) (.bl b) Q := .inl ⟨rfl, h⟩
theorem same_leaf {fns : List Fi} {cst : List D} {k i : Nat} (hi : fns[i]? = some ⟨1, 1, bIsInt⟩) (hk : fns[k]? = some ⟨2, 3, bSame k i⟩) (due told : D) (st : Sto) (h0 : isTupD due = false) (pd : plD due = true) (pt : plD told = true) :
    callW fns cst 2 k [told, due] st fun w s => w = .bl (samD due told) ∧ Ex st s := by
  have hz := sizeLine_eq
  refine ⟨_, hk, rfl, ?_⟩
  generalize hP : (fun (w : D) (s : Sto) => w = .bl (samD due told) ∧ Ex st s) = P
  have fin : ∀ b, samD due told = b → P (.bl b) st := fun b a => by
    rw [← hP]
    exact ⟨by rw [a], .refl _⟩
  unfold bSame
  refine wp_cons ?_
  cases due with
  | tup ws => cases h0
  | flst ws => simp [plD] at pd
  | loc ws => simp [plD] at pd
  | fn ws => simp [plD] at pd
  | dic ks ws => simp [plD] at pd
  | non =>
    walk_at "wp"
    walk_at "nil"
    refine wp_cons ?_
    walk_at "wp"
    refine wp_cons ?_
    walk_at "wp"
    exact fin _ (by cases told <;> simp [samD, isNonD])
  | bl b =>
    walk_at "wp"
    walk_at "nil"
    refine wp_cons ?_
    walk_at "wp"
    walk_at "nil"
    refine wp_cons ?_
    walk_at "wp"
    refine wp_cons ?_
    cases told <;> first
      | (simp [plD] at pt; done)
      | (walk_at "wp"; exact fin _ (by simp [samD]))
      | (walk_at "wp"; refine eqW_bls ?_; exact fin _ (by simp [samD]; done))
      | (walk_at "wp"; refine eqW_bls ?_; exact fin _ (by rw [samD]))
  | int b =>
    walk_at "wp"
    walk_at "nil"
    refine wp_cons ?_
    walk_at "wp"
    walk_at "nil"
    refine wp_cons ?_
    walk_at "wp"
    walk_at "nil"
    refine wp_cons ?_
    walk_at "wp"
    refine wp_cons ?_
    walk_at "wp"
    cases told <;> first
      | (simp [plD] at pt; done)
      | (refine call_mono (is_int_spec hi false rfl false rfl) fun w s q => ?_; obtain ⟨rfl, rfl⟩ := q; walk_at "wp"; exact fin _ (by simp [samD]))
      | (refine call_mono (is_int_spec hi false rfl true rfl) fun w s q => ?_; obtain ⟨rfl, rfl⟩ := q; walk_at "wp"; exact fin _ (by simp [samD]))
      | (refine call_mono (is_int_spec hi true rfl true rfl) fun w s q => ?_; obtain ⟨rfl, rfl⟩ := q; walk_at "wp"; exact fin _ (by simp [samD]))
      | (refine call_mono (is_int_spec hi true rfl false rfl) fun w s q => ?_; obtain ⟨rfl, rfl⟩ := q; walk_at "wp"; exact fin _ (by rw [samD]))
  | str b =>
    walk_at "wp"
    walk_at "nil"
    refine wp_cons ?_
    walk_at "wp"
    walk_at "nil"
    refine wp_cons ?_
    walk_at "wp"
    walk_at "nil"
    refine wp_cons ?_
    walk_at "wp"
    walk_at "nil"
    refine wp_cons ?_
    cases told <;> first
      | (simp [plD] at pt; done)
      | (walk_at "wp"; exact fin _ (by simp [samD]))
      | (walk_at "wp"; exact fin _ (by rw [samD]))
theorem same_tup {fns : List Fi} {cst : List D} {k i n : Nat} (hi : fns[i]? = some ⟨1, 1, bIsInt⟩) (hk : fns[k]? = some ⟨2, 3, bSame k i⟩) (bs : List D) (told : D) (st : Sto) (hl : bs.length ≤ 1000000) (pd : plL bs = true) (pt : plD told = true)
    (ih : ∀ b ∈ bs, ∀ a st, plD a = true → callW fns cst n k [a, b] st fun w s => w = .bl (samD b a) ∧ Ex st s) :
    callW fns cst (n + 1) k [told, .tup bs] st fun w s => w = .bl (samD (.tup bs) told) ∧ Ex st s := by
  have hz := sizeLine_eq
  refine ⟨_, hk, rfl, ?_⟩
  generalize hP : (fun (w : D) (s : Sto) => w = .bl (samD (.tup bs) told) ∧ Ex st s) = P
  have fin : ∀ b s, samD (.tup bs) told = b → Ex st s → P (.bl b) s := fun b s a e => by
    rw [← hP]
    exact ⟨by rw [a], e⟩
  unfold bSame
  refine wp_cons ?_
  walk_at "wp"
  refine wp_cons ?_
  cases told with
  | flst ws => simp [plD] at pt
  | loc ws => simp [plD] at pt
  | fn ws => simp [plD] at pt
  | dic ks ws => simp [plD] at pt
  | non =>
    walk_at "wp"
    refine wp_cons ?_
    walk_at "wp"
    exact fin _ _ (by simp [samD]) (.refl _)
  | bl b =>
    walk_at "wp"
    refine wp_cons ?_
    walk_at "wp"
    exact fin _ _ (by simp [samD]) (.refl _)
  | int b =>
    walk_at "wp"
    refine wp_cons ?_
    walk_at "wp"
    exact fin _ _ (by simp [samD]) (.refl _)
  | str b =>
    walk_at "wp"
    refine wp_cons ?_
    walk_at "wp"
    exact fin _ _ (by simp [samD]) (.refl _)
  | tup as =>
    walk_at "wp"
    split
    · rename_i hne
      refine wp_cons ?_
      walk_at "wp"
      refine fin _ _ ?_ (.refl _)
      rw [samD]
      refine samL_len fun e => ?_
      rw [e] at hne
      simp at hne
    · rename_i hne
      have hne : bs.length = as.length := by
        have := (Bool.not_eq_false _).mp hne
        rw [beq_iff_eq] at this
        omega
      walk_at "nil"
      have hc : CalLe (callW fns cst n) (callW fns cst n) := callW_le (Nat.le_refl _)
      refine wp_cons ?_
      refine wp_comp hc (by simp [slT]) (ws := (List.range bs.length).map fun (k : Nat) => .int k) (kp := none) (st1 := st) ?_ (fun pre acc s => acc = ((List.zipWith samD bs as).take pre.length).map .bl ∧ Ex st s) ⟨rfl, .refl _⟩ (fun pre w post acc s e hJ => ?_) fun acc s hJ => ?_
      · walk_at "wp"
        exact ⟨by omega, by omega, by simp⟩
      · obtain ⟨rfl, ex⟩ := hJ
        have hpl := congrArg List.length e
        rw [List.length_map, List.length_range, List.length_append, List.length_cons] at hpl
        have hlt : pre.length < bs.length := by omega
        have ew : w = .int (pre.length : Nat) := by
          have := congrArg (fun l => l[pre.length]?) e
          simp [hlt] at this
          exact this.symm
        subst ew
        refine ⟨trivial, ?_⟩
        walk_at "wp"
        have ha : pre.length < as.length := by omega
        refine ⟨as[pre.length], by rw [atI_ofN, List.getElem?_eq_getElem ha], bs[pre.length], by rw [atI_ofN, List.getElem?_eq_getElem hlt], ?_⟩
        refine call_mono (ih _ (List.getElem_mem hlt) _ _ (plL_mem (by rw [plD] at pt; exact pt) (List.getElem_mem ha))) fun w s2 q => ?_
        obtain ⟨rfl, ex2⟩ := q
        refine ⟨by simp; omega, ?_, ex.trans ex2⟩
        rw [List.length_append, List.length_singleton, List.take_add_one, List.map_append]
        have hz2 : (List.zipWith samD bs as)[pre.length]? = some (samD bs[pre.length] as[pre.length]) := by
          rw [List.getElem?_zipWith, List.getElem?_eq_getElem hlt, List.getElem?_eq_getElem ha]
        rw [hz2]
        rfl
      · obtain ⟨rfl, ex⟩ := hJ
        refine ⟨trivial, ?_⟩
        rw [List.length_map, List.length_range, List.take_of_length_le (by rw [List.length_zipWith]; omega)]
        refine ⟨_, new_get, ?_⟩
        rw [samL_zip hne]
        exact fin _ _ (by rw [samD]) (ex.app _)
mutual
/-- no tuple is too long -/
def wdD : D → Bool
  | .tup ws => decide (ws.length ≤ 1000000) && wdL ws
  | _ => true
def wdL : List D → Bool
  | [] => true
  | w :: ws => wdD w && wdL ws
end
theorem wdL_mem : ∀ {ws : List D} {w : D}, wdL ws = true → w ∈ ws → wdD w = true
  | [], _, _, h => by cases h
  | v :: ws, w, p, h => by
    rw [wdL, Bool.and_eq_true] at p
    rcases List.mem_cons.mp h with rfl | h
    · exact p.1
    · exact wdL_mem p.2 h
theorem same_spec {fns : List Fi} {cst : List D} {k i : Nat} (hi : fns[i]? = some ⟨1, 1, bIsInt⟩) (hk : fns[k]? = some ⟨2, 3, bSame k i⟩) : ∀ (n : Nat) (due told : D) (st : Sto), hgt due ≤ n → plD due = true → wdD due = true → plD told = true →
    callW fns cst (n + 2) k [told, due] st fun w s => w = .bl (samD due told) ∧ Ex st s := by
  intro n
  induction n with
  | zero =>
    intro due told st hn pd wd pt
    refine same_leaf hi hk due told st ?_ pd pt
    cases due <;> first | rfl | (simp [hgt] at hn)
  | succ n ih =>
    intro due told st hn pd wd pt
    cases hd : isTupD due with
    | false => exact call_up (same_leaf hi hk due told st hd pd pt) (by omega) fun _ _ q => q
    | true =>
      cases due with
      | tup bs =>
        rw [hgt] at hn
        rw [plD] at pd
        rw [wdD, Bool.and_eq_true, decide_eq_true_eq] at wd
        refine same_tup hi hk bs told st wd.1 pd pt fun b hb a st pa => ?_
        have := hgt_mem hb
        exact ih b a st (by omega) (plL_mem pd hb) (wdL_mem wd.2 hb) pa
      | _ => cases hd
/-! ### the partner of a parenthesis: anywhere behind it -/
theorem partner_spec {fns : List Fi} {cst : List D} {f n p : Nat} {ws : List (List Nat)} {st : Sto} (hf : fns[f]? = some ⟨2, 4, bPartner⟩) (h : st[n]? = some (.lst (ws.map .str))) (hl : ws.length ≤ 1000000) (hp : p < ws.length) :
    callW fns cst 1 f [.loc n, .int p] st fun w s => (∃ j : Nat, w = .int j ∧ p ≤ j) ∧ s = st := by
  have hz := sizeLine_eq
  have hc : CalLe (callW fns cst 0) (callW fns cst 0) := callW_le (Nat.le_refl _)
  refine ⟨_, hf, rfl, ?_⟩
  generalize hP : (fun (w : D) (s : Sto) => (∃ j : Nat, w = .int j ∧ p ≤ j) ∧ s = st) = P
  have fin : ∀ j : Nat, p ≤ j → P (.int j) st := fun j hj => by
    rw [← hP]
    exact ⟨⟨j, rfl, hj⟩, rfl⟩
  unfold bPartner
  refine wp_cons ?_
  walk_at "wp"
  refine wp_cons ?_
  refine wp_cut (M := fun en s => ∃ x2 x3, en = [some (.loc n), some (.int p), x2, x3] ∧ s = st) hc ?_ fun en s hM => ?_
  · refine wp_forJ hc ?_
    walk_at "wp"
    simp only [h]
    walk_at "wp"
    rw [List.length_map]
    refine ⟨_, _, rfl, rfl, ⟨by omega, by omega, by omega, by omega⟩, fun pre e s => ∃ (d : Int) (x3 : Option D), e = [some (.loc n), some (.int p), some (.int d), x3] ∧ s = st, ⟨0, _, rfl, rfl⟩, fun pre w post e s ee hJ => ?_, fun e s hJ => ?_⟩
    · obtain ⟨d, x3, rfl, rfl⟩ := hJ
      have hpl := congrArg List.length ee
      rw [List.length_map, List.length_range, List.length_append, List.length_cons] at hpl
      have hlt : pre.length < ((ws.length : Int) - (p : Int)).toNat := by omega
      have ew : w = .int ((p : Int) + (pre.length : Nat)) := by
        have := congrArg (fun l => l[pre.length]?) ee
        rw [List.getElem?_append_right (Nat.le_refl _), Nat.sub_self, List.getElem?_cons_zero, List.getElem?_map, List.getElem?_range hlt] at this
        exact (Option.some.inj this).symm
      subst ew
      refine ⟨trivial, ?_⟩
      walk_at "wp"
      have hx : p + pre.length < ws.length := by omega
      have ex : atI (ws.map D.str) ((p : Int) + (pre.length : Nat)) = some (.str ws[p + pre.length]) := by
        rw [show ((p : Int) + (pre.length : Nat)) = ((p + pre.length : Nat) : Int) by omega, atI_ofN, List.getElem?_map, List.getElem?_eq_getElem hx]
        rfl
      refine wp_cons ?_
      walk_at "wp"
      simp only [h]
      walk_at "wp"
      simp only [ex]
      walk_at "wp"
      generalize (d + (if (ws[p + pre.length] == [40]) = true then 1 else 0) - (if (ws[p + pre.length] == [41]) = true then 1 else 0)) = v
      refine wp_cons ?_
      walk_at "wp"
      split
      · refine wp_cons ?_
        walk_at "wp"
        have := fin (p + pre.length) (by omega)
        exact this
      · walk_at "nil"
        exact ⟨_, _, rfl, trivial⟩
    · obtain ⟨d, x3, rfl, rfl⟩ := hJ
      exact ⟨trivial, _, _, rfl, rfl⟩
  · obtain ⟨x2, x3, rfl, rfl⟩ := hM
    refine wp_cons ?_
    walk_at "wp"
    exact fin p (Nat.le_refl _)
/-! ### the steps of a reader -/
theorem wp_on {call : Cal} {cst : List D} {n k : Nat} {ws : List (List Nat)} {s : RS} {st : Sto} {env : En} {K : K4} (j : Nat) (h : RSt n k ws s st) (he : env[0]? = some (some (.loc n))) (hk : ∀ st', RSt n k ws (s.on j) st' → Ch n st st' → K.nx env st') :
    wpS call cst (.asg (.sub (.var 0) (.cst (.int 1))) (.bin .Add (.idx (.var 0) (.cst (.int 1))) (.cst (.int (j : Nat))))) env st K := by
  have h1 : st[n]? = some (.lst [.loc k, .int s.pos, .bl s.bad, .int s.z]) := h.at_
  refine ⟨_, he, rfl, _, h1, .int s.pos, by rw [atI_1] <;> rfl, rfl, ?_⟩
  refine ⟨_, he, rfl, _, 1, h1, x41, ?_⟩
  exact hk _ (h.put (s.on j)) (.set _)
theorem wp_fail {call : Cal} {cst : List D} {n k : Nat} {ws : List (List Nat)} {s : RS} {st : Sto} {env : En} {K : K4} (h : RSt n k ws s st) (he : env[0]? = some (some (.loc n))) (hk : ∀ st', RSt n k ws s.fail st' → Ch n st st' → K.nx env st') :
    wpS call cst (.asg (.sub (.var 0) (.cst (.int 2))) (.cst (.bl true))) env st K := by
  have h1 : st[n]? = some (.lst [.loc k, .int s.pos, .bl s.bad, .int s.z]) := h.at_
  refine ⟨rfl, ?_⟩
  refine ⟨_, he, rfl, _, 2, h1, x42, ?_⟩
  exact hk _ (h.put s.fail) (.set _)
theorem wp_z {call : Cal} {cst : List D} {n k : Nat} {ws : List (List Nat)} {s : RS} {st : Sto} {env : En} {K : K4} (h : RSt n k ws s st) (he : env[0]? = some (some (.loc n))) (hk : ∀ st', RSt n k ws { s with z := s.z + 1 } st' → Ch n st st' → K.nx env st') :
    wpS call cst (.asg (.sub (.var 0) (.cst (.int 3))) (.bin .Add (.idx (.var 0) (.cst (.int 3))) (.cst (.int 1)))) env st K := by
  have h1 : st[n]? = some (.lst [.loc k, .int s.pos, .bl s.bad, .int s.z]) := h.at_
  refine ⟨_, he, rfl, _, h1, .int s.z, by rw [atI_3] <;> rfl, rfl, ?_⟩
  refine ⟨_, he, rfl, _, 3, h1, x43, ?_⟩
  exact hk _ (h.put { s with z := s.z + 1 }) (.set _)
theorem RSt.app {n k : Nat} {ws : List (List Nat)} {s : RS} {st : Sto} (h : RSt n k ws s st) (X : Sto) : RSt n k ws s (st ++ X) := h.ex ⟨X, rfl⟩
theorem Ch.app {n : Nat} (st : Sto) (X : Sto) : Ch n st (st ++ X) := .of_ex ⟨X, rfl⟩
theorem shaped_lst {a : List (List Nat)} (h : ∀ s ∈ a, cpOkS s) : SeqAt.shaped (.list (a.map fun s => .str ⟨s.toArray⟩)) = true := by
  unfold SeqAt.shaped
  rw [Bool.and_eq_true]
  refine ⟨lay_strs a h, ?_⟩
  have z := deep_strs a
  refine decide_eq_true ?_
  simp only [PyData.depth]
  omega
theorem eqW_loc_strs {st : Sto} {m n : Nat} {a b : List (List Nat)} {Q : Bool → Prop} (hm : st[m]? = some (.lst (a.map .str))) (hn : st[n]? = some (.lst (b.map .str))) (ha : ∀ s ∈ a, cpOkS s) (hb : ∀ s ∈ b, cpOkS s) (h : Q (a == b)) : eqW st (.loc m) (.loc n) Q := by
  refine .inr ⟨2, .list (a.map fun s => .str ⟨s.toArray⟩), .list (b.map fun s => .str ⟨s.toArray⟩), ?_, ?_, shaped_lst ha, shaped_lst hb, ?_⟩
  · unfold pd
    rw [hm]
    show (pdAll (pd st 1) (a.map .str)).map PyData.list = _
    rw [pd_strs] <;> rfl
  · unfold pd
    rw [hn]
    show (pdAll (pd st 1) (b.map .str)).map PyData.list = _
    rw [pd_strs] <;> rfl
  · show Q (PyData.eqvAll _ _)
    rw [eqv_strs]
    exact h
theorem one_mid {α : Type} (xs : List α) (i : Nat) : (xs.take (i + 1)).drop i = (xs[i]?).toList := by
  rw [List.take_add_one]
  by_cases h : i ≤ xs.length
  · rw [List.drop_append_of_le_length (by rw [List.length_take]; omega), List.drop_eq_nil_of_le (by rw [List.length_take]; omega)]
    rfl
  · rw [List.getElem?_eq_none (by omega)]
    rw [List.drop_eq_nil_of_le (by simp; omega)]
    rfl
theorem is_mid {ws : List (List Nat)} {i : Nat} {w : List Nat} : (((ws.take (i + 1)).drop i == [w]) = true) ↔ ws[i]? = some w := by
  rw [one_mid, beq_iff_eq]
  cases ws[i]? with
  | none => simp
  | some v => simp
theorem wp_pop {call : Cal} {cst : List D} {i n : Nat} {env : En} {st : Sto} {A : List D} {x : D} {Q : DK} (he : env[i]? = some (some (.loc n))) (h : st[n]? = some (.lst (A ++ [x]))) (hq : Q x (st.set n (.lst A))) : wpE call cst (.mth .pop (.var i) .nil) env st Q := by
  refine ⟨_, he, mthTy_loc h (.inr (.inl rfl)), ?_⟩
  show mthW st .pop (.loc n) [] Q
  rw [mth_pop]
  refine ⟨_, x, h, by simp, ?_⟩
  rw [List.dropLast_concat]
  exact hq
theorem wp_append {call : Cal} {cst : List D} {i n : Nat} {env : En} {st : Sto} {A : List D} {e : E} {Q : DK} (he : env[i]? = some (some (.loc n))) (h : st[n]? = some (.lst A)) (hq : wpE call cst e env st fun x s => ∃ B, s[n]? = some (.lst B) ∧ B.length < sizeLine ∧ Q .non (s.set n (.lst (B ++ [x])))) : wpE call cst (.mth .append (.var i) (.cons e .nil)) env st Q :=
  ⟨_, he, mthTy_loc h (.inl rfl), hq⟩
end Dq

set_option linter.all false
/-! K09m: walks, their tokens, a reader with two stacks. -/
namespace K09
open Dq
abbrev S := List Nat
def kAny : S := [97, 110, 121]
def kAt : S := [64]
def kOpen : S := [40]
def kShut : S := [41]
def kBar : S := [124]
def kLB : S := [91]
def kRB : S := [93]
def kMinus : S := [45]
def kBrace : S := [123]
def kUnbr : S := [125]
def kThen : S := [116, 104, 101, 110]
def kOr : S := [111, 114]
def kNamed : S := [110, 97, 109, 101, 100]
def kStep : S := [115, 116, 101, 112]
def kUpto : S := [117, 112, 116, 111]
inductive Sg where
  | star | plus | maybe
deriving DecidableEq
def Sg.kind : Sg → S
  | .star => [115, 116, 97, 114]
  | .plus => [112, 108, 117, 115]
  | .maybe => [109, 97, 121, 98, 101]
def Sg.sign : Sg → S
  | .star => [42]
  | .plus => [43]
  | .maybe => [63]
inductive W where
  | named (n : S)
  | step (t : S) (ts : List (S × Bool))
  | un (g : Sg) (w : W)
  | upto (w : W) (n : Int)
  | thn (a b : W)
  | or (a b : W)
deriving DecidableEq
def tight : W → Nat
  | .or _ _ => 0
  | .thn _ _ => 1
  | _ => 2
def par : W → Nat
  | .un _ w => par w + (if tight w < 2 then 1 else 0)
  | .upto w _ => par w + (if tight w < 2 then 1 else 0)
  | .thn a b => par a + (if tight a < 1 then 1 else 0) + (par b + (if tight b < 2 then 1 else 0))
  | .or a b => par a + (par b + (if tight b < 1 then 1 else 0))
  | _ => 0
def parp (c : W) (t : Nat) : Nat := par c + (if tight c < t then 1 else 0)
theorem parp_0 (c : W) : parp c 0 = par c := by unfold parp; rw [if_neg (by omega)] <;> rfl
theorem parp_mono (c : W) {s t : Nat} (h : s ≤ t) : parp c s ≤ parp c t := by
  unfold parp
  split <;> split <;> omega
theorem parp_le (c : W) (t : Nat) : parp c t ≤ par c + 1 := by
  unfold parp
  split <;> omega
inductive Fr where
  | opn
  | th (v : W)
  | orr (v : W)
def Fr.word : Fr → S
  | .opn => kOpen
  | .th _ => kThen
  | .orr _ => kOr
def Fr.vals : Fr → List W
  | .th v => [v]
  | .orr v => [v]
  | _ => []
abbrev Fs := List Fr
def fold1 : Fs → W → Fs × W
  | .th v :: F, c => fold1 F (.thn v c)
  | F, c => (F, c)
def fold0 : Fs → W → Fs × W
  | .th v :: F, c => fold0 F (.thn v c)
  | .orr v :: F, c => fold0 F (.or v c)
  | F, c => (F, c)
theorem fold01 : ∀ (F : Fs) (c : W), fold0 (fold1 F c).1 (fold1 F c).2 = fold0 F c
  | [], c => rfl
  | .opn :: F, c => rfl
  | .orr v :: F, c => rfl
  | .th v :: F, c => fold01 F (.thn v c)
def wgt : Fr → Nat
  | .opn => 1
  | .th v => parp v 1
  | .orr v => par v
def wgts : Fs → Nat
  | [] => 0
  | f :: F => wgt f + wgts F
def okO : Fs → Bool
  | [] => true
  | .opn :: _ => true
  | _ => false
def okA : Fs → Bool
  | [] => true
  | .opn :: _ => true
  | .orr _ :: _ => true
  | _ => false
def okF : Fs → Bool
  | [] => true
  | .orr _ :: F => okO F && okF F
  | .th _ :: F => okA F && okF F
  | _ :: F => okF F
theorem fold1_w (F : Fs) (c : W) (n : Nat) (h : okF F = true) (l : wgts F + parp c 2 ≤ n) : okF (fold1 F c).1 = true ∧ (∀ v G, (fold1 F c).1 ≠ .th v :: G) ∧ wgts (fold1 F c).1 + parp (fold1 F c).2 1 ≤ n := by
  have m := parp_mono c (show 1 ≤ 2 by omega)
  cases F with
  | nil => exact ⟨rfl, fun v G => by simp [fold1], Nat.le_trans (Nat.add_le_add_left m _) l⟩
  | cons f F =>
    cases f with
    | opn => exact ⟨h, fun v G => by simp [fold1], Nat.le_trans (Nat.add_le_add_left m _) l⟩
    | orr v => exact ⟨h, fun v G => by simp [fold1], Nat.le_trans (Nat.add_le_add_left m _) l⟩
    | th v =>
      have h' : (okA F && okF F) = true := h
      rw [Bool.and_eq_true] at h'
      have e : parp (.thn v c) 1 = parp v 1 + parp c 2 := by
        unfold parp
        simp only [par, tight, Nat.lt_irrefl, if_false, Nat.add_zero]
        try omega
      have e2 : wgts (.th v :: F) = parp v 1 + wgts F := rfl
      cases F with
      | nil => exact ⟨rfl, fun v G => by simp [fold1], by show wgts [] + parp (.thn v c) 1 ≤ n; omega⟩
      | cons g F =>
        cases g with
        | opn => exact ⟨h'.2, fun v G => by simp [fold1], by show wgts (.opn :: F) + parp (.thn v c) 1 ≤ n; omega⟩
        | orr u => exact ⟨h'.2, fun v G => by simp [fold1], by show wgts (.orr u :: F) + parp (.thn v c) 1 ≤ n; omega⟩
        | th u => cases h'.1
theorem fold0_w (F : Fs) (c : W) (n : Nat) (h : okF F = true) (l : wgts F + parp c 2 ≤ n) : okF (fold0 F c).1 = true ∧ ((fold0 F c).1 = [] ∨ ∃ G, (fold0 F c).1 = .opn :: G) ∧ wgts (fold0 F c).1 + par (fold0 F c).2 ≤ n := by
  obtain ⟨h1, h2, h4⟩ := fold1_w F c n h l
  rw [← fold01]
  generalize (fold1 F c).1 = F1 at *
  generalize (fold1 F c).2 = c1 at *
  have m := parp_mono c1 (show 0 ≤ 1 by omega)
  rw [parp_0] at m
  cases F1 with
  | nil => exact ⟨rfl, .inl rfl, Nat.le_trans (Nat.add_le_add_left m _) h4⟩
  | cons f F =>
    cases f with
    | opn => exact ⟨h1, .inr ⟨F, rfl⟩, Nat.le_trans (Nat.add_le_add_left m _) h4⟩
    | th v => exact absurd rfl (h2 v F)
    | orr v =>
      have h' : (okO F && okF F) = true := h1
      rw [Bool.and_eq_true] at h'
      have e : par (.or v c1) = par v + parp c1 1 := by
        unfold parp
        simp only [par]
      have e2 : wgts (.orr v :: F) = par v + wgts F := rfl
      cases F with
      | nil => exact ⟨rfl, .inl rfl, by show wgts [] + par (.or v c1) ≤ n; omega⟩
      | cons g F =>
        cases g with
        | opn => exact ⟨h'.2, .inr ⟨F, rfl⟩, by show wgts (.opn :: F) + par (.or v c1) ≤ n; omega⟩
        | orr u => cases h'.1
        | th u => cases h'.1
/-! ### the reader -/
def testsL (ws : List S) : Nat → RS → List (S × Bool) → List (S × Bool) × RS
  | 0, s, f => (f, s)
  | n + 1, s, f => if s.bad = true ∨ (1 ≤ f.length ∧ see ws s = kRB) then (f, s)
    else
      let s1 := if see ws s = kMinus then s.on 1 else s
      testsL ws n (takeName ws s1).2 (f ++ [((takeName ws s1).1, decide (see ws s ≠ kMinus))])
def takeTests (ws : List S) (s : RS) : List (S × Bool) × RS :=
  let r := testsL ws (ws.length + 1) (take ws s kLB) []
  (r.1, take ws r.2 kRB)
def headS (ws : List S) (s : RS) : S × RS := if see ws s = kAny then (see ws s, s.on 1) else takeName ws s
def takeStep (ws : List S) (s : RS) : W × RS :=
  if see ws s = kAt then (.named (takeName ws (s.on 1)).1, (takeName ws (s.on 1)).2)
  else if (headS ws s).2.bad = false ∧ see ws (headS ws s).2 = kLB then (.step (headS ws s).1 (takeTests ws (headS ws s).2).1, (takeTests ws (headS ws s).2).2) else (.step (headS ws s).1 [], (headS ws s).2)
def sgOf (w : S) : Sg := if w = [42] then .star else if w = [43] then .plus else .maybe
def takeSign (ws : List S) (s : RS) (c : W) : W × RS :=
  let w := see ws s
  if w ≠ kBrace then (.un (sgOf w) c, s.on 1)
  else
    let n := takeNumR ws (s.on 1) 1 4
    (.upto c n.1, take ws n.2 kUnbr)
def hasOpn (F : Fs) : Bool := F.any fun f => match f with
  | .opn => true
  | _ => false
inductive Out where
  | go (F : Fs) (cur : Option W) (s : RS)
  | brk
  | dead
def isSign (w : S) : Prop := w = [42] ∨ w = [43] ∨ w = [63] ∨ w = kBrace
instance (w : S) : Decidable (isSign w) := inferInstanceAs (Decidable (_ ∨ _))
def isFirst (w : S) : Prop := (w = kOpen ∨ w = kAt ∨ w = kAny) ∨ good w = true
instance (w : S) : Decidable (isFirst w) := inferInstanceAs (Decidable (_ ∨ _))
def pstep (ws : List S) (F : Fs) (cur : Option W) (s : RS) : Out :=
  let w := see ws s
  match cur with
  | none =>
    if w = kOpen then .go (.opn :: F) none (s.on 1)
    else if (takeStep ws s).2.bad = true then .dead else .go F (some (takeStep ws s).1) (takeStep ws s).2
  | some c =>
    if isSign w then (if (takeSign ws s c).2.bad = true then .dead else .go F (some (takeSign ws s c).1) (takeSign ws s c).2)
    else if w = kBar then .go (.orr (fold0 F c).2 :: (fold0 F c).1) none (s.on 1)
    else if isFirst w then .go (.th (fold1 F c).2 :: (fold1 F c).1) none s
    else if w = kShut ∧ hasOpn F = true then
      (match (fold0 F c).1 with
      | .opn :: G => .go G (some (fold0 F c).2) (s.on 1)
      | _ => .dead)
    else .brk
def runC (ws : List S) : Nat → Fs → Option W → RS → Option (Fs × Option W × RS)
  | 0, F, cur, s => some (F, cur, s)
  | n + 1, F, cur, s => match pstep ws F cur s with
    | .go F' cur' s' => runC ws n F' cur' s'
    | .brk => some (F, cur, s)
    | .dead => none
def whole (ws : List S) : Option W := match runC ws (2 * ws.length + 2) [] none ⟨0, false, 0⟩ with
  | some (F, some c, s) => if hasOpn F = true then none else if s.pos < ws.length then none else some (fold0 F c).2
  | _ => none
/-! ### the count -/
def opens (ws : List S) : Nat := ws.count kOpen
theorem opens_take (ws : List S) {i j : Nat} (h : i ≤ j) : opens (ws.take i) ≤ opens (ws.take j) := by
  unfold opens
  refine List.Sublist.count_le _ ?_
  obtain ⟨k, rfl⟩ := Nat.exists_eq_add_of_le h
  rw [List.take_add]
  exact List.sublist_append_left _ _
theorem opens_on {ws : List S} {s : RS} (h : see ws s = kOpen) : opens (ws.take s.pos) + 1 ≤ opens (ws.take (s.pos + 1)) := by
  have e : ws[s.pos]? = some kOpen := by
    unfold see at h
    cases q : ws[s.pos]? with
    | none =>
      rw [q] at h
      cases h
    | some w =>
      rw [q] at h
      rw [show w = kOpen from h]
  unfold opens
  rw [List.take_add_one, e]
  simp
theorem take_pos (ws : List S) (s : RS) (w : S) : s.pos ≤ (take ws s w).pos := by
  unfold take
  split
  · exact Nat.le_succ _
  · exact Nat.le_refl _
theorem name_pos (ws : List S) (s : RS) : s.pos ≤ (takeName ws s).2.pos := by
  unfold takeName
  split
  · exact Nat.le_refl _
  · exact Nat.le_succ _
theorem numR_pos (ws : List S) (s : RS) (a b : Int) : s.pos ≤ (takeNumR ws s a b).2.pos := by
  unfold takeNumR
  split
  · exact Nat.le_refl _
  · exact Nat.le_succ _
theorem on_pos (s : RS) (k : Nat) : s.pos ≤ (s.on k).pos := Nat.le_add_right _ _
theorem testsL_pos (ws : List S) : ∀ (n : Nat) (s : RS) (f : List (S × Bool)), s.pos ≤ (testsL ws n s f).2.pos
  | 0, s, f => Nat.le_refl _
  | n + 1, s, f => by
    unfold testsL
    split
    · exact Nat.le_refl _
    · refine Nat.le_trans (Nat.le_trans ?_ (name_pos ws _)) (testsL_pos ws n _ _)
      split
      · exact on_pos s 1
      · exact Nat.le_refl _
theorem tests_pos (ws : List S) (s : RS) : s.pos ≤ (takeTests ws s).2.pos := Nat.le_trans (take_pos _ _ _) (Nat.le_trans (testsL_pos _ _ _ _) (take_pos _ _ _))
theorem head_pos (ws : List S) (s : RS) : s.pos ≤ (headS ws s).2.pos := by
  unfold headS
  split
  · exact on_pos s 1
  · exact name_pos _ _
theorem step_pos (ws : List S) (s : RS) : s.pos ≤ (takeStep ws s).2.pos := by
  unfold takeStep
  split
  · exact Nat.le_trans (on_pos s 1) (name_pos _ _)
  · split
    · exact Nat.le_trans (head_pos ws s) (tests_pos _ _)
    · exact head_pos ws s
theorem sign_pos (ws : List S) (s : RS) (c : W) : s.pos ≤ (takeSign ws s c).2.pos := by
  unfold takeSign
  simp only
  split
  · exact on_pos s 1
  · exact Nat.le_trans (on_pos s 1) (Nat.le_trans (numR_pos _ _ _ _) (take_pos _ _ _))
theorem step_par (ws : List S) (s : RS) : parp (takeStep ws s).1 2 = 0 := by
  unfold takeStep
  split
  · rfl
  · split <;> rfl
theorem sign_par (ws : List S) (s : RS) (c : W) : parp (takeSign ws s c).1 2 = parp c 2 := by
  unfold takeSign
  simp only
  split
  · unfold parp
    simp only [par, tight, Nat.lt_irrefl, if_false, Nat.add_zero]
  · unfold parp
    simp only [par, tight, Nat.lt_irrefl, if_false, Nat.add_zero]
def cw : Option W → Nat
  | none => 0
  | some c => parp c 2
structure Inv (ws : List S) (F : Fs) (cur : Option W) (s : RS) : Prop where
  ok : okF F = true
  w : wgts F + cw cur ≤ opens (ws.take s.pos)
  good : s.bad = false
theorem inv_step {ws : List S} {F : Fs} {cur : Option W} {s : RS} (h : Inv ws F cur s) {F' : Fs} {cur' : Option W} {s' : RS} (e : pstep ws F cur s = .go F' cur' s') : Inv ws F' cur' s' := by
  obtain ⟨h1, h3, h4⟩ := h
  have up : ∀ {n k}, s.pos ≤ k → n ≤ opens (ws.take s.pos) → n ≤ opens (ws.take k) := fun q l => Nat.le_trans l (opens_take ws q)
  unfold pstep at e
  simp only at e
  cases cur with
  | none =>
    simp only at e
    split at e
    · rename_i hw
      injection e with e1 e2 e3
      subst e1 e2 e3
      refine ⟨h1, ?_, h4⟩
      have := opens_on hw
      show 1 + wgts F + 0 ≤ opens (ws.take (s.pos + 1))
      have h3' : wgts F + 0 ≤ opens (ws.take s.pos) := h3
      omega
    · split at e
      · cases e
      · rename_i hb
        injection e with e1 e2 e3
        subst e1 e2 e3
        refine ⟨h1, ?_, (Bool.not_eq_true _).mp hb⟩
        show wgts F + parp (takeStep ws s).1 2 ≤ _
        rw [step_par]
        exact up (step_pos ws s) h3
  | some c =>
    simp only at e
    split at e
    · split at e
      · cases e
      · rename_i hb
        injection e with e1 e2 e3
        subst e1 e2 e3
        refine ⟨h1, ?_, (Bool.not_eq_true _).mp hb⟩
        show wgts F + parp (takeSign ws s c).1 2 ≤ _
        rw [sign_par]
        exact up (sign_pos ws s c) h3
    · split at e
      · injection e with e1 e2 e3
        subst e1 e2 e3
        obtain ⟨a, b, d⟩ := fold0_w F c _ h1 h3
        refine ⟨?_, ?_, h4⟩
        · show (okO (fold0 F c).1 && okF (fold0 F c).1) = true
          rw [a]
          rcases b with b | ⟨G, b⟩ <;> rw [b] <;> rfl
        · show wgt (.orr (fold0 F c).2) + wgts (fold0 F c).1 + 0 ≤ opens (ws.take (s.pos + 1))
          have := up (k := s.pos + 1) (Nat.le_succ _) d
          simp only [wgt]
          omega
      · split at e
        · injection e with e1 e2 e3
          subst e1 e2 e3
          obtain ⟨a, b, d⟩ := fold1_w F c _ h1 h3
          refine ⟨?_, ?_, h4⟩
          · show (okA (fold1 F c).1 && okF (fold1 F c).1) = true
            rw [a]
            generalize (fold1 F c).1 = G at *
            cases G with
            | nil => rfl
            | cons g G =>
              cases g with
              | opn => rfl
              | orr v => rfl
              | th v => exact absurd rfl (b v G)
          · show wgt (.th (fold1 F c).2) + wgts (fold1 F c).1 + 0 ≤ opens (ws.take s.pos)
            simp only [wgt]
            omega
        · split at e
          · obtain ⟨a, b, d⟩ := fold0_w F c _ h1 h3
            generalize hG : (fold0 F c).1 = G0 at *
            split at e
            · rename_i G1 G
              injection e with e1 e2 e3
              subst e1 e2 e3
              have d2 : 1 + wgts G + par (fold0 F c).2 ≤ opens (ws.take s.pos) := d
              have hp := parp_le (fold0 F c).2 2
              refine ⟨a, ?_, h4⟩
              show wgts G + parp (fold0 F c).2 2 ≤ opens (ws.take (s.pos + 1))
              exact up (Nat.le_succ _) (by omega)
            · cases e
          · cases e
theorem inv_run {ws : List S} : ∀ (n : Nat) {F : Fs} {cur : Option W} {s : RS}, Inv ws F cur s → ∀ {F' : Fs} {cur' : Option W} {s' : RS}, runC ws n F cur s = some (F', cur', s') → Inv ws F' cur' s'
  | 0, F, cur, s, h, F', cur', s', e => by
    cases e
    exact h
  | n + 1, F, cur, s, h, F', cur', s', e => by
    unfold runC at e
    split at e
    · rename_i q
      exact inv_run n (inv_step h q) e
    · cases e
      exact h
    · cases e
theorem count_le {ws : List S} {c : W} (h : whole ws = some c) : par c ≤ opens ws := by
  unfold whole at h
  split at h
  · rename_i F c0 s q
    have I := inv_run _ (show Inv ws [] none ⟨0, false, 0⟩ from ⟨rfl, Nat.zero_le _, rfl⟩) q
    split at h
    · cases h
    · split at h
      · cases h
      · cases h
        obtain ⟨a, b, d⟩ := fold0_w F c0 _ I.ok I.w
        have e : opens (ws.take s.pos) ≤ opens ws := List.Sublist.count_le _ (List.take_sublist _ _)
        omega
  · cases h
end K09

set_option linter.all false
namespace K09
open Dq
/-! ### writing -/
def testB : List (S × Bool) → List S
  | [] => []
  | (m, b) :: ts => (if b = true then [m] else [kMinus, m]) ++ testB ts
def testT (ts : List (S × Bool)) : List S := kLB :: (testB ts ++ [kRB])
def numT (n : Int) : S := [48 + n.toNat]
def walkT : W → List S
  | .named n => [kAt, n]
  | .step t ts => if ts = [] then [t] else t :: testT ts
  | .un g w => (if tight w < 2 then kOpen :: (walkT w ++ [kShut]) else walkT w) ++ [g.sign]
  | .upto w n => (if tight w < 2 then kOpen :: (walkT w ++ [kShut]) else walkT w) ++ [kBrace, numT n, kUnbr]
  | .thn a b => (if tight a < 1 then kOpen :: (walkT a ++ [kShut]) else walkT a) ++ (if tight b < 2 then kOpen :: (walkT b ++ [kShut]) else walkT b)
  | .or a b => (if tight a < 0 then kOpen :: (walkT a ++ [kShut]) else walkT a) ++ kBar :: (if tight b < 1 then kOpen :: (walkT b ++ [kShut]) else walkT b)
def partT (c : W) (t : Nat) : List S := if tight c < t then kOpen :: (walkT c ++ [kShut]) else walkT c
def Ok : W → Prop
  | .named n => good n = true
  | .step t ts => (t = kAny ∨ good t = true) ∧ (∀ p ∈ ts, good p.1 = true) ∧ ts.length ≤ 3
  | .un _ w => Ok w
  | .upto w n => Ok w ∧ 1 ≤ n ∧ n ≤ 4
  | .thn a b => Ok a ∧ Ok b
  | .or a b => Ok a ∧ Ok b
theorem walkT_un (g : Sg) (w : W) : walkT (.un g w) = partT w 2 ++ [g.sign] := by rw [walkT]; rfl
theorem walkT_upto (w : W) (n : Int) : walkT (.upto w n) = partT w 2 ++ [kBrace, numT n, kUnbr] := by rw [walkT]; rfl
theorem walkT_thn (a b : W) : walkT (.thn a b) = partT a 1 ++ partT b 2 := by rw [walkT]; rfl
theorem walkT_or (a b : W) : walkT (.or a b) = partT a 0 ++ kBar :: partT b 1 := by rw [walkT]; rfl
theorem partT_0 (a : W) : partT a 0 = walkT a := by unfold partT; rw [if_neg (by omega)]
theorem see_at {pre rest : List S} {p : Nat} (h : p = pre.length) (b : Bool) (z : Nat) : see (pre ++ rest) ⟨p, b, z⟩ = (rest[0]?).getD [] := by
  subst h
  unfold see
  rw [List.getElem?_append_right (Nat.le_refl _), Nat.sub_self]
theorem take_here {pre rest : List S} {w : S} {p z : Nat} (h : p = pre.length) : take (pre ++ w :: rest) ⟨p, false, z⟩ w = ⟨p + 1, false, z⟩ := by
  unfold take
  rw [if_pos ⟨rfl, see_at h _ _⟩]
  rfl
theorem name_here {pre rest : List S} {w : S} {p z : Nat} (h : p = pre.length) (hw : good w = true) : takeName (pre ++ w :: rest) ⟨p, false, z⟩ = (w, ⟨p + 1, false, z⟩) := by
  have e : see (pre ++ w :: rest) ⟨p, false, z⟩ = w := see_at h _ _
  unfold takeName
  rw [e, if_neg (by rw [hw]; simp)]
  rfl
theorem good_ne1 {n : S} (h : good n = true) : n ≠ kRB ∧ n ≠ kMinus ∧ n ≠ kOpen ∧ n ≠ kAt ∧ n ≠ kAny ∧ n ≠ kBar ∧ n ≠ kLB ∧ ¬ isSign n :=
  ⟨good_ne h (.inr ⟨93, by decide, by decide⟩), good_ne h (.inr ⟨45, by decide, by decide⟩), good_ne h (.inr ⟨40, by decide, by decide⟩), good_ne h (.inr ⟨64, by decide, by decide⟩), good_ne h (.inl (by decide)), good_ne h (.inr ⟨124, by decide, by decide⟩), good_ne h (.inr ⟨91, by decide, by decide⟩),
    fun q => by
      rcases q with q | q | q | q
      · exact good_ne h (.inr ⟨42, by decide, by decide⟩) q
      · exact good_ne h (.inr ⟨43, by decide, by decide⟩) q
      · exact good_ne h (.inr ⟨63, by decide, by decide⟩) q
      · exact good_ne h (.inr ⟨123, by decide, by decide⟩) q⟩
theorem testsL_here {z : Nat} : ∀ (ts : List (S × Bool)) (n : Nat) (pre post : List S) (f : List (S × Bool)) (p : Nat), p = pre.length → (∀ q ∈ ts, good q.1 = true) → (ts = [] → 1 ≤ f.length) → ts.length ≤ n →
    testsL (pre ++ (testB ts ++ kRB :: post)) n ⟨p, false, z⟩ f = (f ++ ts, ⟨p + (testB ts).length, false, z⟩)
  | [], n, pre, post, f, p, hp, hg, hf, hn => by
    have e : see (pre ++ kRB :: post) ⟨p, false, z⟩ = kRB := see_at hp _ _
    rw [List.append_nil]
    show testsL (pre ++ kRB :: post) n ⟨p, false, z⟩ f = (f, ⟨p, false, z⟩)
    cases n with
    | zero => rfl
    | succ n =>
      unfold testsL
      rw [if_pos (.inr ⟨hf rfl, e⟩)]
  | (m, b) :: ts, 0, pre, post, f, p, hp, hg, hf, hn => by simp at hn
  | (m, b) :: ts, n + 1, pre, post, f, p, hp, hg, hf, hn => by
    have hm : good m = true := hg _ List.mem_cons_self
    obtain ⟨m1, m2, _⟩ := good_ne1 hm
    have ht : ∀ q ∈ ts, good q.1 = true := fun q hq => hg q (List.mem_cons_of_mem _ hq)
    cases b with
    | true =>
      have e0 : pre ++ (testB ((m, true) :: ts) ++ kRB :: post) = pre ++ m :: (testB ts ++ kRB :: post) := by simp [testB]
      have e1 : see (pre ++ m :: (testB ts ++ kRB :: post)) ⟨p, false, z⟩ = m := see_at hp _ _
      rw [e0]
      unfold testsL
      rw [if_neg (by rintro (q | q); cases q; rw [e1] at q; exact m1 q.2)]
      simp only [e1, if_neg m2, name_here hp hm]
      have ih := testsL_here (z := z) ts n (pre ++ [m]) post (f ++ [(m, true)]) (p + 1) (by simp [hp]) ht (fun _ => by simp) (by simpa using hn)
      have e2 : (pre ++ [m]) ++ (testB ts ++ kRB :: post) = pre ++ m :: (testB ts ++ kRB :: post) := by simp
      rw [e2] at ih
      rw [show decide (m ≠ kMinus) = true from decide_eq_true m2, ih]
      refine Prod.ext (by simp) ?_
      show RS.mk _ _ _ = RS.mk _ _ _
      congr 1
      simp [testB]
      omega
    | false =>
      have e0 : pre ++ (testB ((m, false) :: ts) ++ kRB :: post) = pre ++ kMinus :: m :: (testB ts ++ kRB :: post) := by simp [testB]
      have e1 : see (pre ++ kMinus :: m :: (testB ts ++ kRB :: post)) ⟨p, false, z⟩ = kMinus := see_at hp _ _
      rw [e0]
      unfold testsL
      rw [if_neg (by rintro (q | q); cases q; rw [e1] at q; exact absurd q.2 (by decide))]
      have e3 : pre ++ kMinus :: m :: (testB ts ++ kRB :: post) = (pre ++ [kMinus]) ++ m :: (testB ts ++ kRB :: post) := by simp
      have e4 : takeName (pre ++ kMinus :: m :: (testB ts ++ kRB :: post)) (RS.on ⟨p, false, z⟩ 1) = (m, ⟨p + 2, false, z⟩) := by
        rw [e3]
        exact name_here (p := p + 1) (by simp [hp]) hm
      simp only [e1, if_true, e4]
      have ih := testsL_here (z := z) ts n (pre ++ [kMinus, m]) post (f ++ [(m, false)]) (p + 2) (by simp [hp]) ht (fun _ => by simp) (by simpa using hn)
      have e2 : (pre ++ [kMinus, m]) ++ (testB ts ++ kRB :: post) = pre ++ kMinus :: m :: (testB ts ++ kRB :: post) := by simp
      rw [e2] at ih
      rw [show decide (kMinus ≠ kMinus) = false from by decide, ih]
      refine Prod.ext (by simp) ?_
      show RS.mk _ _ _ = RS.mk _ _ _
      congr 1
      simp [testB]
      omega
theorem testB_len : ∀ ts : List (S × Bool), ts.length ≤ (testB ts).length ∧ (testB ts).length ≤ 2 * ts.length
  | [] => ⟨Nat.le_refl _, Nat.le_refl _⟩
  | (m, b) :: ts => by
    have := testB_len ts
    cases b <;> simp [testB] <;> omega
theorem tests_here {ts : List (S × Bool)} {pre post : List S} {p z : Nat} (hp : p = pre.length) (hg : ∀ q ∈ ts, good q.1 = true) (hne : ts ≠ []) : takeTests (pre ++ (testT ts ++ post)) ⟨p, false, z⟩ = (ts, ⟨p + (testT ts).length, false, z⟩) := by
  have e0 : pre ++ (testT ts ++ post) = pre ++ kLB :: (testB ts ++ kRB :: post) := by simp [testT]
  have e1 : pre ++ kLB :: (testB ts ++ kRB :: post) = (pre ++ [kLB]) ++ (testB ts ++ kRB :: post) := by simp
  have e2 : pre ++ kLB :: (testB ts ++ kRB :: post) = (pre ++ kLB :: testB ts) ++ kRB :: post := by simp
  rw [e0]
  unfold takeTests
  simp only
  have h1 : take (pre ++ kLB :: (testB ts ++ kRB :: post)) ⟨p, false, z⟩ kLB = ⟨p + 1, false, z⟩ := take_here hp
  rw [h1]
  have h2 := testsL_here (z := z) ts ((pre ++ kLB :: (testB ts ++ kRB :: post)).length + 1) (pre ++ [kLB]) post [] (p + 1) (by simp [hp]) hg (fun e => absurd e hne) (by
    have := (testB_len ts).1
    simp
    omega)
  rw [← e1] at h2
  rw [h2]
  have h3 : take (pre ++ kLB :: (testB ts ++ kRB :: post)) ⟨p + 1 + (testB ts).length, false, z⟩ kRB = ⟨p + 1 + (testB ts).length + 1, false, z⟩ := by
    rw [e2]
    exact take_here (by simp [hp]; omega)
  simp only [h3, List.nil_append]
  refine Prod.ext rfl ?_
  show RS.mk _ _ _ = RS.mk _ _ _
  congr 1
  simp [testT]
  omega
def Post (post : List S) : Prop := post[0]? ≠ some kLB
theorem post_cons {w : S} {post : List S} (h : w ≠ kLB) : Post (w :: post) := fun e => h (Option.some.inj e)
def Go (ws : List S) (k : Nat) (F : Fs) (cur : Option W) (p : Nat) (F' : Fs) (cur' : Option W) (p' : Nat) : Prop := ∀ n, runC ws (n + k) F cur ⟨p, false, 0⟩ = runC ws n F' cur' ⟨p', false, 0⟩
theorem Go.trans {ws : List S} {k m : Nat} {F F' F'' : Fs} {cur cur' cur'' : Option W} {p p' p'' : Nat} (a : Go ws k F cur p F' cur' p') (b : Go ws m F' cur' p' F'' cur'' p'') : Go ws (m + k) F cur p F'' cur'' p'' := fun n => by
  rw [← Nat.add_assoc, a (n + m)]
  exact b n
theorem Go.one {ws : List S} {F F' : Fs} {cur cur' : Option W} {p p' : Nat} (h : pstep ws F cur ⟨p, false, 0⟩ = .go F' cur' ⟨p', false, 0⟩) : Go ws 1 F cur p F' cur' p' := fun n => by
  show runC ws (n + 1) F cur ⟨p, false, 0⟩ = _
  rw [runC, h]
theorem hasOpn_fold0 : ∀ (F : Fs) (c : W), hasOpn (fold0 F c).1 = hasOpn F
  | [], c => rfl
  | .opn :: F, c => rfl
  | .th v :: F, c => hasOpn_fold0 F (.thn v c)
  | .orr v :: F, c => hasOpn_fold0 F (.or v c)
def top1 (F : Fs) : Bool := match F with
  | .th _ :: _ => false
  | _ => true
theorem fold1_no {F : Fs} {c : W} (h : top1 F = true) : fold1 F c = (F, c) := by
  cases F with
  | nil => rfl
  | cons f F => cases f <;> first | rfl | cases h
theorem fold0_no {F : Fs} {c : W} (h : okO F = true) : fold0 F c = (F, c) := by
  cases F with
  | nil => rfl
  | cons f F => cases f <;> first | rfl | cases h
theorem okO_top1 {F : Fs} (h : okO F = true) : top1 F = true := by
  cases F with
  | nil => rfl
  | cons f F => cases f <;> first | rfl | cases h
structure Rd (c : W) : Prop where
  r2 : ∀ (F : Fs) (pre post : List S), Post post → ∃ k, k + 1 ≤ 2 * (partT c 2).length ∧ Go (pre ++ (partT c 2 ++ post)) k F none pre.length F (some c) (pre.length + (partT c 2).length)
  r1 : ∀ (F : Fs) (pre post : List S), top1 F = true → Post post → ∃ k F' c', k + 1 ≤ 2 * (partT c 1).length ∧ Go (pre ++ (partT c 1 ++ post)) k F none pre.length F' (some c') (pre.length + (partT c 1).length) ∧ fold1 F' c' = (F, c)
  r0 : ∀ (F : Fs) (pre post : List S), okO F = true → Post post → ∃ k F' c', k + 1 ≤ 2 * (walkT c).length ∧ Go (pre ++ (walkT c ++ post)) k F none pre.length F' (some c') (pre.length + (walkT c).length) ∧ fold0 F' c' = (F, c)
theorem paren {c : W} (h0 : ∀ (F : Fs) (pre post : List S), okO F = true → Post post → ∃ k F' c', k + 1 ≤ 2 * (walkT c).length ∧ Go (pre ++ (walkT c ++ post)) k F none pre.length F' (some c') (pre.length + (walkT c).length) ∧ fold0 F' c' = (F, c))
    (F : Fs) (pre post : List S) : ∃ k, k + 1 ≤ 2 * (kOpen :: (walkT c ++ [kShut])).length ∧ Go (pre ++ ((kOpen :: (walkT c ++ [kShut])) ++ post)) k F none pre.length F (some c) (pre.length + (kOpen :: (walkT c ++ [kShut])).length) := by
  obtain ⟨k, F', c', hk, g, hf⟩ := h0 (.opn :: F) (pre ++ [kOpen]) (kShut :: post) rfl (post_cons (by decide))
  have e1 : pre ++ ((kOpen :: (walkT c ++ [kShut])) ++ post) = (pre ++ [kOpen]) ++ (walkT c ++ (kShut :: post)) := by simp
  have e2 : pre ++ ((kOpen :: (walkT c ++ [kShut])) ++ post) = (pre ++ kOpen :: walkT c) ++ (kShut :: post) := by simp
  have l1 : (pre ++ [kOpen]).length = pre.length + 1 := by simp
  rw [← e1, l1] at g
  have s1 : Go (pre ++ ((kOpen :: (walkT c ++ [kShut])) ++ post)) 1 F none pre.length (.opn :: F) none (pre.length + 1) := by
    refine .one ?_
    have e3 : see (pre ++ ((kOpen :: (walkT c ++ [kShut])) ++ post)) ⟨pre.length, false, 0⟩ = kOpen := see_at rfl _ _
    unfold pstep
    simp only [e3]
    rw [if_pos trivial]
    rfl
  have s2 : Go (pre ++ ((kOpen :: (walkT c ++ [kShut])) ++ post)) 1 F' (some c') (pre.length + 1 + (walkT c).length) F (some c) (pre.length + (kOpen :: (walkT c ++ [kShut])).length) := by
    refine .one ?_
    have e3 : see (pre ++ ((kOpen :: (walkT c ++ [kShut])) ++ post)) ⟨pre.length + 1 + (walkT c).length, false, 0⟩ = kShut := by
      rw [e2]
      exact see_at (by simp; omega) _ _
    have ho : hasOpn F' = true := by
      rw [← hasOpn_fold0 F' c', hf]
      rfl
    unfold pstep
    simp only [e3, hf]
    rw [if_neg (by decide), if_neg (by decide), if_neg (by decide), if_pos ⟨trivial, ho⟩]
    have el : pre.length + 1 + (walkT c).length + 1 = pre.length + (kOpen :: (walkT c ++ [kShut])).length := by
      simp
      omega
    rw [← el]
    rfl
  refine ⟨1 + (k + 1), ?_, (s1.trans g).trans s2⟩
  simp
  omega
theorem rd_of_r2 {c : W} (ht : tight c = 2) (h : ∀ (F : Fs) (pre post : List S), Post post → ∃ k, k + 1 ≤ 2 * (walkT c).length ∧ Go (pre ++ (walkT c ++ post)) k F none pre.length F (some c) (pre.length + (walkT c).length)) : Rd c := by
  have e2 : partT c 2 = walkT c := by unfold partT; rw [ht, if_neg (by omega)]
  have e1 : partT c 1 = walkT c := by unfold partT; rw [ht, if_neg (by omega)]
  refine ⟨fun F pre post hp => ?_, fun F pre post hF hp => ?_, fun F pre post hF hp => ?_⟩
  · rw [e2]
    exact h F pre post hp
  · rw [e1]
    obtain ⟨k, hk, g⟩ := h F pre post hp
    exact ⟨k, F, c, hk, g, fold1_no hF⟩
  · obtain ⟨k, hk, g⟩ := h F pre post hp
    exact ⟨k, F, c, hk, g, fold0_no hF⟩
theorem see_post {pre post : List S} {p : Nat} (h : p = pre.length) (hp : Post post) : see (pre ++ post) ⟨p, false, 0⟩ ≠ kLB := by
  rw [see_at h]
  cases post with
  | nil => decide
  | cons w r => exact fun e => hp (by rw [show w = kLB from e]; rfl)
theorem rd_named {n : S} (ok : good n = true) : Rd (.named n) := by
  refine rd_of_r2 rfl fun F pre post hp => ?_
  rw [walkT]
  refine ⟨1, by simp, .one ?_⟩
  have e1 : see (pre ++ ([kAt, n] ++ post)) ⟨pre.length, false, 0⟩ = kAt := see_at rfl _ _
  have e2 : takeName (pre ++ ([kAt, n] ++ post)) (RS.on ⟨pre.length, false, 0⟩ 1) = (n, ⟨pre.length + 2, false, 0⟩) := by
    rw [show pre ++ ([kAt, n] ++ post) = (pre ++ [kAt]) ++ n :: post by simp]
    exact name_here (p := pre.length + 1) (by simp) ok
  have e3 : takeStep (pre ++ ([kAt, n] ++ post)) ⟨pre.length, false, 0⟩ = (.named n, ⟨pre.length + 2, false, 0⟩) := by
    unfold takeStep
    rw [if_pos e1, e2]
  unfold pstep
  simp only [e1, e3]
  rw [if_neg (by decide), if_neg (by decide)]
  rfl
theorem head_here {pre rest : List S} {t : S} (ok : t = kAny ∨ good t = true) : headS (pre ++ t :: rest) ⟨pre.length, false, 0⟩ = (t, ⟨pre.length + 1, false, 0⟩) ∧ t ≠ kAt ∧ t ≠ kOpen := by
  have e1 : see (pre ++ t :: rest) ⟨pre.length, false, 0⟩ = t := see_at rfl _ _
  unfold headS
  rw [e1]
  rcases ok with rfl | ok
  · rw [if_pos rfl]
    exact ⟨rfl, by decide, by decide⟩
  · obtain ⟨m1, m2, m3, m4, m5, m6, m7, m8⟩ := good_ne1 ok
    rw [if_neg m5]
    exact ⟨name_here rfl ok, m4, m3⟩
theorem rd_step {t : S} {ts : List (S × Bool)} (ok : Ok (.step t ts)) : Rd (.step t ts) := by
  obtain ⟨o1, o2, o3⟩ := ok
  refine rd_of_r2 rfl fun F pre post hp => ?_
  rw [walkT]
  by_cases hts : ts = []
  · subst hts
    rw [if_pos rfl]
    obtain ⟨a, b, d⟩ := head_here (pre := pre) (rest := post) o1
    refine ⟨1, by simp, .one ?_⟩
    have e0 : pre ++ ([t] ++ post) = pre ++ t :: post := by simp
    rw [e0]
    have e1 : see (pre ++ t :: post) ⟨pre.length, false, 0⟩ = t := see_at rfl _ _
    have e2 : see (pre ++ t :: post) ⟨pre.length + 1, false, 0⟩ ≠ kLB := by
      rw [show pre ++ t :: post = (pre ++ [t]) ++ post by simp]
      exact see_post (by simp) hp
    have e3 : takeStep (pre ++ t :: post) ⟨pre.length, false, 0⟩ = (.step t [], ⟨pre.length + 1, false, 0⟩) := by
      unfold takeStep
      rw [if_neg (by rw [e1]; exact b), a, if_neg (fun q => e2 q.2)]
    unfold pstep
    simp only [e1, e3]
    rw [if_neg d, if_neg (by decide)]
    rfl
  · rw [if_neg hts]
    obtain ⟨a, b, d⟩ := head_here (pre := pre) (rest := testT ts ++ post) o1
    refine ⟨1, by simp; omega, .one ?_⟩
    have e0 : pre ++ ((t :: testT ts) ++ post) = pre ++ t :: (testT ts ++ post) := by simp
    rw [e0]
    have e1 : see (pre ++ t :: (testT ts ++ post)) ⟨pre.length, false, 0⟩ = t := see_at rfl _ _
    have e00 : pre ++ t :: (testT ts ++ post) = (pre ++ [t]) ++ (testT ts ++ post) := by simp
    have e2 : see (pre ++ t :: (testT ts ++ post)) ⟨pre.length + 1, false, 0⟩ = kLB := by
      rw [e00]
      exact see_at (by simp) _ _
    have e4 : takeTests (pre ++ t :: (testT ts ++ post)) ⟨pre.length + 1, false, 0⟩ = (ts, ⟨pre.length + 1 + (testT ts).length, false, 0⟩) := by
      rw [e00]
      exact tests_here (by simp) o2 hts
    have e3 : takeStep (pre ++ t :: (testT ts ++ post)) ⟨pre.length, false, 0⟩ = (.step t ts, ⟨pre.length + 1 + (testT ts).length, false, 0⟩) := by
      unfold takeStep
      rw [if_neg (by rw [e1]; exact b), a, if_pos ⟨rfl, e2⟩, e4]
    unfold pstep
    simp only [e1, e3]
    rw [if_neg d, if_neg (by decide)]
    have el : pre.length + (t :: testT ts).length = pre.length + 1 + (testT ts).length := by simp; omega
    rw [el]
theorem rd_un {g : Sg} {w : W} (rw_ : Rd w) : Rd (.un g w) := by
  refine rd_of_r2 rfl fun F pre post hp => ?_
  rw [walkT_un]
  obtain ⟨k, hk, gg⟩ := rw_.r2 F pre ([g.sign] ++ post) (by cases g <;> exact post_cons (by decide))
  have e1 : pre ++ ((partT w 2 ++ [g.sign]) ++ post) = pre ++ (partT w 2 ++ ([g.sign] ++ post)) := by simp
  have e2 : pre ++ ((partT w 2 ++ [g.sign]) ++ post) = (pre ++ partT w 2) ++ g.sign :: post := by simp
  rw [← e1] at gg
  have s : Go (pre ++ ((partT w 2 ++ [g.sign]) ++ post)) 1 F (some w) (pre.length + (partT w 2).length) F (some (.un g w)) (pre.length + (partT w 2).length + 1) := by
    refine .one ?_
    have e3 : see (pre ++ ((partT w 2 ++ [g.sign]) ++ post)) ⟨pre.length + (partT w 2).length, false, 0⟩ = g.sign := by
      rw [e2]
      exact see_at (by simp) _ _
    have e4 : takeSign (pre ++ ((partT w 2 ++ [g.sign]) ++ post)) ⟨pre.length + (partT w 2).length, false, 0⟩ w = (.un g w, ⟨pre.length + (partT w 2).length + 1, false, 0⟩) := by
      unfold takeSign
      simp only [e3]
      rw [if_pos (by cases g <;> decide), show sgOf g.sign = g by cases g <;> rfl]
      rfl
    unfold pstep
    simp only [e3, e4]
    rw [if_pos (by cases g <;> decide), if_neg (by decide)]
  have el : pre.length + (partT w 2 ++ [g.sign]).length = pre.length + (partT w 2).length + 1 := by simp; omega
  rw [el]
  exact ⟨1 + k, by simp; omega, gg.trans s⟩
theorem num_here {pre rest : List S} {n : Int} {p : Nat} (h : p = pre.length) (h1 : 1 ≤ n) (h4 : n ≤ 4) : takeNumR (pre ++ numT n :: rest) ⟨p, false, 0⟩ 1 4 = (n, ⟨p + 1, false, 0⟩) := by
  have e : see (pre ++ numT n :: rest) ⟨p, false, 0⟩ = numT n := see_at h _ _
  have key : ∀ n : Int, 1 ≤ n → n ≤ 4 → goodN (numT n) = true ∧ num (numT n) = n := fun n h1 h4 => by
    have : n = 1 ∨ n = 2 ∨ n = 3 ∨ n = 4 := by omega
    rcases this with rfl | rfl | rfl | rfl <;> exact ⟨by decide, by decide⟩
  obtain ⟨k1, k2⟩ := key n h1 h4
  unfold takeNumR
  rw [e, k1, k2, if_neg (by rintro (a | a | a); cases a; cases a; exact a ⟨h1, h4⟩)]
  rfl
theorem rd_upto {w : W} {n : Int} (rw_ : Rd w) (h1 : 1 ≤ n) (h4 : n ≤ 4) : Rd (.upto w n) := by
  refine rd_of_r2 rfl fun F pre post hp => ?_
  rw [walkT_upto]
  obtain ⟨k, hk, gg⟩ := rw_.r2 F pre ([kBrace, numT n, kUnbr] ++ post) (post_cons (by decide))
  have e1 : pre ++ ((partT w 2 ++ [kBrace, numT n, kUnbr]) ++ post) = pre ++ (partT w 2 ++ ([kBrace, numT n, kUnbr] ++ post)) := by simp
  have e2 : pre ++ ((partT w 2 ++ [kBrace, numT n, kUnbr]) ++ post) = (pre ++ partT w 2) ++ kBrace :: (numT n :: kUnbr :: post) := by simp
  have e5 : pre ++ ((partT w 2 ++ [kBrace, numT n, kUnbr]) ++ post) = (pre ++ partT w 2 ++ [kBrace]) ++ numT n :: (kUnbr :: post) := by simp
  have e6 : pre ++ ((partT w 2 ++ [kBrace, numT n, kUnbr]) ++ post) = (pre ++ partT w 2 ++ [kBrace, numT n]) ++ kUnbr :: post := by simp
  rw [← e1] at gg
  have s : Go (pre ++ ((partT w 2 ++ [kBrace, numT n, kUnbr]) ++ post)) 1 F (some w) (pre.length + (partT w 2).length) F (some (.upto w n)) (pre.length + (partT w 2).length + 3) := by
    refine .one ?_
    have e3 : see (pre ++ ((partT w 2 ++ [kBrace, numT n, kUnbr]) ++ post)) ⟨pre.length + (partT w 2).length, false, 0⟩ = kBrace := by
      rw [e2]
      exact see_at (by simp) _ _
    have e7 : takeNumR (pre ++ ((partT w 2 ++ [kBrace, numT n, kUnbr]) ++ post)) (RS.on ⟨pre.length + (partT w 2).length, false, 0⟩ 1) 1 4 = (n, ⟨pre.length + (partT w 2).length + 2, false, 0⟩) := by
      rw [e5]
      exact num_here (p := pre.length + (partT w 2).length + 1) (by simp; omega) h1 h4
    have e8 : take (pre ++ ((partT w 2 ++ [kBrace, numT n, kUnbr]) ++ post)) ⟨pre.length + (partT w 2).length + 2, false, 0⟩ kUnbr = ⟨pre.length + (partT w 2).length + 3, false, 0⟩ := by
      rw [e6]
      exact take_here (by simp; omega)
    have e4 : takeSign (pre ++ ((partT w 2 ++ [kBrace, numT n, kUnbr]) ++ post)) ⟨pre.length + (partT w 2).length, false, 0⟩ w = (.upto w n, ⟨pre.length + (partT w 2).length + 3, false, 0⟩) := by
      unfold takeSign
      simp only [e3]
      rw [if_neg (by decide), e7]
      simp only [e8]
    unfold pstep
    simp only [e3, e4]
    rw [if_pos (by decide), if_neg (by decide)]
  have el : pre.length + (partT w 2 ++ [kBrace, numT n, kUnbr]).length = pre.length + (partT w 2).length + 3 := by simp; omega
  rw [el]
  exact ⟨1 + k, by simp; omega, gg.trans s⟩
theorem first_part {c : W} (h : ∃ w rest, walkT c = w :: rest ∧ isFirst w) (t : Nat) : ∃ w rest, partT c t = w :: rest ∧ isFirst w := by
  unfold partT
  split
  · exact ⟨_, _, rfl, .inl (.inl rfl)⟩
  · exact h
theorem first_walk : ∀ c : W, Ok c → ∃ w rest, walkT c = w :: rest ∧ isFirst w
  | .named n, ok => ⟨kAt, _, by rw [walkT], .inl (.inr (.inl rfl))⟩
  | .step t ts, ok => by
    rw [walkT]
    have h : isFirst t := ok.1.elim (fun q => .inl (.inr (.inr q))) .inr
    split
    · exact ⟨t, _, rfl, h⟩
    · exact ⟨t, _, rfl, h⟩
  | .un g w, ok => by
    obtain ⟨v, r, e, h⟩ := first_part (first_walk w ok) 2
    rw [walkT_un, e]
    exact ⟨v, _, rfl, h⟩
  | .upto w n, ok => by
    obtain ⟨v, r, e, h⟩ := first_part (first_walk w ok.1) 2
    rw [walkT_upto, e]
    exact ⟨v, _, rfl, h⟩
  | .thn a b, ok => by
    obtain ⟨v, r, e, h⟩ := first_part (first_walk a ok.1) 1
    rw [walkT_thn, e]
    exact ⟨v, _, rfl, h⟩
  | .or a b, ok => by
    obtain ⟨v, r, e, h⟩ := first_part (first_walk a ok.1) 0
    rw [walkT_or, e]
    exact ⟨v, _, rfl, h⟩
theorem first_ne {w : S} (h : isFirst w) : ¬ isSign w ∧ w ≠ kBar ∧ w ≠ kLB := by
  rcases h with (rfl | rfl | rfl) | h
  · exact ⟨by decide, by decide, by decide⟩
  · exact ⟨by decide, by decide, by decide⟩
  · exact ⟨by decide, by decide, by decide⟩
  · obtain ⟨m1, m2, m3, m4, m5, m6, m7, m8⟩ := good_ne1 h
    exact ⟨m8, m6, m7⟩
theorem rd_of_r0 {c : W} (h0 : ∀ (F : Fs) (pre post : List S), okO F = true → Post post → ∃ k F' c', k + 1 ≤ 2 * (walkT c).length ∧ Go (pre ++ (walkT c ++ post)) k F none pre.length F' (some c') (pre.length + (walkT c).length) ∧ fold0 F' c' = (F, c))
    (t : Nat) (ht : tight c < t) (F : Fs) (pre post : List S) : ∃ k, k + 1 ≤ 2 * (partT c t).length ∧ Go (pre ++ (partT c t ++ post)) k F none pre.length F (some c) (pre.length + (partT c t).length) := by
  have e : partT c t = kOpen :: (walkT c ++ [kShut]) := by unfold partT; rw [if_pos ht]
  rw [e]
  exact paren h0 F pre post
theorem rd_thn {a b : W} (ra : Rd a) (rb : Rd b) (hb : Ok b) : Rd (.thn a b) := by
  have r1 : ∀ (F : Fs) (pre post : List S), top1 F = true → Post post → ∃ k F' c', k + 1 ≤ 2 * (walkT (.thn a b)).length ∧ Go (pre ++ (walkT (.thn a b) ++ post)) k F none pre.length F' (some c') (pre.length + (walkT (.thn a b)).length) ∧ fold1 F' c' = (F, .thn a b) := by
    intro F pre post hF hp
    rw [walkT_thn]
    obtain ⟨v, r, ev, hv⟩ := first_part (first_walk b hb) 2
    obtain ⟨n1, n2, n3⟩ := first_ne hv
    obtain ⟨k1, F1, c1, hk1, g1, hf1⟩ := ra.r1 F pre (partT b 2 ++ post) hF (by rw [ev]; exact post_cons n3)
    obtain ⟨k2, hk2, g2⟩ := rb.r2 (.th a :: F) (pre ++ partT a 1) post hp
    have e1 : pre ++ ((partT a 1 ++ partT b 2) ++ post) = pre ++ (partT a 1 ++ (partT b 2 ++ post)) := by simp
    have e2 : pre ++ ((partT a 1 ++ partT b 2) ++ post) = (pre ++ partT a 1) ++ (partT b 2 ++ post) := by simp
    have l2 : (pre ++ partT a 1).length = pre.length + (partT a 1).length := by simp
    rw [← e1] at g1
    rw [← e2, l2] at g2
    have s : Go (pre ++ ((partT a 1 ++ partT b 2) ++ post)) 1 F1 (some c1) (pre.length + (partT a 1).length) (.th a :: F) none (pre.length + (partT a 1).length) := by
      refine .one ?_
      have e4 : see (pre ++ ((partT a 1 ++ partT b 2) ++ post)) ⟨pre.length + (partT a 1).length, false, 0⟩ = v := by
        rw [e2, ev]
        exact see_at (by simp) _ _
      unfold pstep
      simp only [e4, hf1]
      rw [if_neg n1, if_neg n2, if_pos hv]
    have g := (g1.trans s).trans g2
    refine ⟨k2 + (1 + k1), .th a :: F, b, ?_, ?_, ?_⟩
    · simp
      omega
    · have el : pre.length + (partT a 1 ++ partT b 2).length = pre.length + (partT a 1).length + (partT b 2).length := by simp; omega
      rw [el]
      exact g
    · show fold1 F (.thn a b) = _
      exact fold1_no hF
  have r0 : ∀ (F : Fs) (pre post : List S), okO F = true → Post post → ∃ k F' c', k + 1 ≤ 2 * (walkT (.thn a b)).length ∧ Go (pre ++ (walkT (.thn a b) ++ post)) k F none pre.length F' (some c') (pre.length + (walkT (.thn a b)).length) ∧ fold0 F' c' = (F, .thn a b) := by
    intro F pre post hF hp
    obtain ⟨k, F', c', h1, h2, h3⟩ := r1 F pre post (okO_top1 hF) hp
    refine ⟨k, F', c', h1, h2, ?_⟩
    rw [← fold01, h3]
    exact fold0_no hF
  exact ⟨fun F pre post _ => rd_of_r0 r0 2 (by simp [tight]) F pre post, r1, r0⟩
theorem rd_or {a b : W} (ra : Rd a) (rb : Rd b) : Rd (.or a b) := by
  have r0 : ∀ (F : Fs) (pre post : List S), okO F = true → Post post → ∃ k F' c', k + 1 ≤ 2 * (walkT (.or a b)).length ∧ Go (pre ++ (walkT (.or a b) ++ post)) k F none pre.length F' (some c') (pre.length + (walkT (.or a b)).length) ∧ fold0 F' c' = (F, .or a b) := by
    intro F pre post hF hp
    rw [walkT_or, partT_0]
    obtain ⟨k1, F1, c1, hk1, g1, hf1⟩ := ra.r0 F pre (kBar :: (partT b 1 ++ post)) hF (post_cons (by decide))
    obtain ⟨k2, F2, c2, hk2, g2, hf2⟩ := rb.r1 (.orr a :: F) (pre ++ walkT a ++ [kBar]) post rfl hp
    have e1 : pre ++ ((walkT a ++ kBar :: partT b 1) ++ post) = pre ++ (walkT a ++ (kBar :: (partT b 1 ++ post))) := by simp
    have e2 : pre ++ ((walkT a ++ kBar :: partT b 1) ++ post) = (pre ++ walkT a ++ [kBar]) ++ (partT b 1 ++ post) := by simp
    have e3 : pre ++ ((walkT a ++ kBar :: partT b 1) ++ post) = (pre ++ walkT a) ++ (kBar :: (partT b 1 ++ post)) := by simp
    have l2 : (pre ++ walkT a ++ [kBar]).length = pre.length + (walkT a).length + 1 := by simp; omega
    rw [← e1] at g1
    rw [← e2, l2] at g2
    have s : Go (pre ++ ((walkT a ++ kBar :: partT b 1) ++ post)) 1 F1 (some c1) (pre.length + (walkT a).length) (.orr a :: F) none (pre.length + (walkT a).length + 1) := by
      refine .one ?_
      have e4 : see (pre ++ ((walkT a ++ kBar :: partT b 1) ++ post)) ⟨pre.length + (walkT a).length, false, 0⟩ = kBar := by
        rw [e3]
        exact see_at (by simp) _ _
      unfold pstep
      simp only [e4, hf1]
      rw [if_neg (by decide), if_pos trivial]
      rfl
    have g := (g1.trans s).trans g2
    refine ⟨k2 + (1 + k1), F2, c2, ?_, ?_, ?_⟩
    · simp
      omega
    · have el : pre.length + (walkT a ++ kBar :: partT b 1).length = pre.length + (walkT a).length + 1 + (partT b 1).length := by simp; omega
      rw [el]
      exact g
    · rw [← fold01, hf2]
      show fold0 F (.or a b) = _
      exact fold0_no hF
  refine ⟨fun F pre post _ => rd_of_r0 r0 2 (by simp [tight]) F pre post, fun F pre post hF hp => ?_, r0⟩
  obtain ⟨k, hk, g⟩ := rd_of_r0 r0 1 (by simp [tight]) F pre post
  exact ⟨k, F, _, hk, g, fold1_no hF⟩
theorem rd : ∀ (c : W), Ok c → Rd c
  | .named _, ok => rd_named ok
  | .step _ _, ok => rd_step ok
  | .un _ w, ok => rd_un (rd w ok)
  | .upto w _, ok => rd_upto (rd w ok.1) ok.2.1 ok.2.2
  | .thn a b, ok => rd_thn (rd a ok.1) (rd b ok.2) ok.2
  | .or a b, ok => rd_or (rd a ok.1) (rd b ok.2)
theorem whole_walk {c : W} (ok : Ok c) : whole (walkT c) = some c := by
  obtain ⟨k, F', c', hk, g, hf⟩ := (rd c ok).r0 [] [] [] rfl (by simp [Post])
  simp only [List.nil_append, List.append_nil, List.length_nil, Nat.zero_add] at g
  unfold whole
  have e : 2 * (walkT c).length + 2 = (2 * (walkT c).length + 1 - k) + 1 + k := by omega
  rw [e, g, runC]
  have es : see (walkT c) ⟨(walkT c).length, false, 0⟩ = [] := by
    unfold see
    rw [List.getElem?_eq_none (Nat.le_refl _)]
    rfl
  have ep : pstep (walkT c) F' (some c') ⟨(walkT c).length, false, 0⟩ = .brk := by
    unfold pstep
    simp only [es]
    rw [if_neg (by decide), if_neg (by decide), if_neg (by decide), if_neg (fun q => absurd q.1 (by decide))]
  rw [ep]
  have ho : hasOpn F' = false := by
    rw [← hasOpn_fold0 F' c', hf]
    rfl
  simp only [ho, hf]
  rw [if_neg (by simp), if_neg (by simp)]
end K09

set_option linter.all false
namespace K09
open Dq
theorem good_nopen {n : S} (h : good n = true) : n ≠ kOpen := (good_ne1 h).2.2.1
theorem opens_cons {w : S} {ws : List S} (h : w ≠ kOpen) : opens (w :: ws) = opens ws := by
  unfold opens
  rw [List.count_cons_of_ne h]
theorem opens_app (u v : List S) : opens (u ++ v) = opens u + opens v := List.count_append ..
theorem opens_testB : ∀ ts : List (S × Bool), (∀ q ∈ ts, good q.1 = true) → opens (testB ts) = 0
  | [], _ => rfl
  | (m, b) :: ts, h => by
    have hm : good m = true := h _ List.mem_cons_self
    have ih := opens_testB ts fun q hq => h q (List.mem_cons_of_mem _ hq)
    cases b with
    | true =>
      show opens (m :: testB ts) = 0
      rw [opens_cons (good_nopen hm), ih]
    | false =>
      show opens (kMinus :: m :: testB ts) = 0
      rw [opens_cons (by decide), opens_cons (good_nopen hm), ih]
theorem opens_part {c : W} (h : opens (walkT c) = par c) (t : Nat) : opens (partT c t) = par c + (if tight c < t then 1 else 0) := by
  unfold partT
  split
  · rw [show kOpen :: (walkT c ++ [kShut]) = [kOpen] ++ (walkT c ++ [kShut]) from rfl, opens_app, opens_app, h]
    have e1 : opens [kOpen] = 1 := by decide
    have e2 : opens [kShut] = 0 := by decide
    omega
  · exact h
theorem num_nopen (n : Int) : numT n ≠ kOpen := fun e => by
  have : 48 + n.toNat = 40 := by
    unfold numT kOpen at e
    injection e
  omega
theorem opens_walk : ∀ (c : W), Ok c → opens (walkT c) = par c
  | .named n, ok => by
    rw [walkT, opens_cons (by decide), opens_cons (good_nopen ok)]
    rfl
  | .step t ts, ok => by
    have ht : t ≠ kOpen := by
      rcases ok.1 with rfl | h
      · decide
      · exact good_nopen h
    rw [walkT]
    split
    · rw [opens_cons ht]
      rfl
    · rw [opens_cons ht]
      unfold testT
      rw [opens_cons (by decide), opens_app, opens_testB ts ok.2.1]
      rfl
  | .un g w, ok => by
    rw [walkT_un, opens_app, opens_part (opens_walk w ok), opens_cons (by cases g <;> decide)]
    rw [par]
    rfl
  | .upto w n, ok => by
    rw [walkT_upto, opens_app, opens_part (opens_walk w ok.1), opens_cons (by decide), opens_cons (num_nopen n), opens_cons (by decide)]
    rw [par]
    rfl
  | .thn a b, ok => by
    rw [walkT_thn, opens_app, opens_part (opens_walk a ok.1), opens_part (opens_walk b ok.2)]
    rw [par]
  | .or a b, ok => by
    rw [walkT_or, opens_app, opens_cons (by decide), opens_part (opens_walk a ok.1), opens_part (opens_walk b ok.2)]
    rw [par, if_neg (Nat.not_lt_zero _)]
    omega
theorem opens_less {ws : List S} {k j : Nat} (hk : ws[k]? = some kOpen) (hj : k ≤ j) : opens (ws.take k ++ (ws.take j).drop (k + 1) ++ ws.drop (j + 1)) < opens ws := by
  have hlt : k < ws.length := (List.getElem?_eq_some_iff.mp hk).1
  have e : ws = ws.take k ++ kOpen :: ws.drop (k + 1) := by
    have := (List.getElem?_eq_some_iff.mp hk).2
    rw [← this, List.getElem_cons_drop, List.take_append_drop]
  have h2 : opens ((ws.take j).drop (k + 1) ++ ws.drop (j + 1)) ≤ opens (ws.drop (k + 1)) := by
    unfold opens
    refine List.Sublist.count_le _ ?_
    have : ws.drop (k + 1) = (ws.take j).drop (k + 1) ++ (ws.drop j).drop (k + 1 - (ws.take j).length) := by
      rw [← List.drop_append, List.take_append_drop]
    rw [this]
    refine List.Sublist.append (List.Sublist.refl _) ?_
    rw [List.drop_drop]
    by_cases q : j ≤ ws.length
    · rw [List.length_take, Nat.min_eq_left q]
      have : j + 1 = (j + (k + 1 - j)) + (1 - (k + 1 - j)) := by omega
      rw [this, ← List.drop_drop]
      exact List.drop_sublist _ _
    · rw [List.drop_eq_nil_of_le (by omega)]
      exact List.nil_sublist _
  have h3 : opens ws = opens (ws.take k) + (1 + opens (ws.drop (k + 1))) := by
    conv => lhs; rw [e, opens_app]
    rw [show kOpen :: ws.drop (k + 1) = [kOpen] ++ ws.drop (k + 1) from rfl, opens_app]
    rfl
  rw [List.append_assoc, opens_app]
  omega
theorem no_less {c : W} (ok : Ok c) {k j : Nat} (hk : (walkT c)[k]? = some kOpen) (hj : k ≤ j) : whole ((walkT c).take k ++ ((walkT c).take j).drop (k + 1) ++ (walkT c).drop (j + 1)) ≠ some c := fun h => by
  have h1 := count_le h
  have h2 := opens_less hk hj
  rw [opens_walk c ok] at h2
  omega
/-! ### each step goes on -/
theorem see_end {ws : List S} {s : RS} (h : ws.length ≤ s.pos) : see ws s = [] := by
  unfold see
  rw [List.getElem?_eq_none h]
  rfl
theorem bad_take {ws : List S} {s : RS} {w : S} (h : s.bad = true) : (take ws s w).bad = true := by
  unfold take
  rw [if_neg (by rw [h]; simp)]
  rfl
theorem name_on (ws : List S) (s : RS) : (takeName ws s).2.bad = true ∨ s.pos + 1 ≤ (takeName ws s).2.pos := by
  unfold takeName
  split
  · exact .inl rfl
  · exact .inr (Nat.le_refl _)
theorem testsL_bad (ws : List S) : ∀ (n : Nat) (s : RS) (f : List (S × Bool)), s.bad = true → (testsL ws n s f).2.bad = true
  | 0, s, f, h => h
  | n + 1, s, f, h => by
    unfold testsL
    rw [if_pos (.inl h)]
    exact h
theorem head_on (ws : List S) (s : RS) : (headS ws s).2.bad = true ∨ s.pos + 1 ≤ (headS ws s).2.pos := by
  unfold headS
  split
  · exact .inr (Nat.le_refl _)
  · exact name_on ws s
theorem step_onS (ws : List S) (s : RS) : (takeStep ws s).2.bad = true ∨ s.pos + 1 ≤ (takeStep ws s).2.pos := by
  unfold takeStep
  split
  · exact .inr (Nat.le_trans (Nat.le_refl (s.on 1).pos) (name_pos _ _))
  · split
    · rename_i h
      rcases head_on ws s with q | q
      · rw [h.1] at q
        cases q
      · exact .inr (Nat.le_trans q (tests_pos _ _))
    · exact head_on ws s
theorem step_endS {ws : List S} {s : RS} (h : ws.length ≤ s.pos) : (takeStep ws s).2.bad = true := by
  have e := see_end h
  have e1 : (headS ws s).2.bad = true := by
    unfold headS takeName
    rw [e, if_neg (by decide), if_pos (.inr (by decide))]
    rfl
  unfold takeStep
  rw [if_neg (by rw [e]; decide), if_neg (by rw [e1]; simp)]
  exact e1
theorem sign_on (ws : List S) (s : RS) (c : W) : s.pos + 1 ≤ (takeSign ws s c).2.pos := by
  unfold takeSign
  simp only
  split
  · exact Nat.le_refl _
  · exact Nat.le_trans (Nat.le_refl (s.on 1).pos) (Nat.le_trans (numR_pos _ _ _ _) (take_pos _ _ _))
/-- how far a state is -/
def far (cur : Option W) (s : RS) : Nat := 2 * s.pos + (if cur.isSome then 0 else 1)
theorem step_on {ws : List S} {F : Fs} {cur : Option W} {s : RS} {F' : Fs} {cur' : Option W} {s' : RS} (e : pstep ws F cur s = .go F' cur' s') : far cur s + 1 ≤ far cur' s' ∧ F'.length ≤ F.length + 1 := by
  have l0 : ∀ (F : Fs) (c : W), (fold0 F c).1.length ≤ F.length := fun F => by
    induction F with
    | nil => intro c; exact Nat.le_refl _
    | cons f G ih =>
      intro c
      cases f with
      | opn => exact Nat.le_refl _
      | th v => exact Nat.le_trans (ih _) (Nat.le_succ _)
      | orr v => exact Nat.le_trans (ih _) (Nat.le_succ _)
  have l1 : ∀ (F : Fs) (c : W), (fold1 F c).1.length ≤ F.length := fun F => by
    induction F with
    | nil => intro c; exact Nat.le_refl _
    | cons f G ih =>
      intro c
      cases f with
      | opn => exact Nat.le_refl _
      | orr v => exact Nat.le_refl _
      | th v => exact Nat.le_trans (ih _) (Nat.le_succ _)
  unfold pstep at e
  simp only at e
  cases cur with
  | none =>
    simp only at e
    split at e
    · injection e with e1 e2 e3
      subst e1 e2 e3
      refine ⟨?_, Nat.le_refl _⟩
      show 2 * s.pos + 1 + 1 ≤ 2 * (s.pos + 1) + 1
      omega
    · split at e
      · cases e
      · rename_i hb
        injection e with e1 e2 e3
        subst e1 e2 e3
        refine ⟨?_, Nat.le_succ _⟩
        have := (step_onS ws s).resolve_left hb
        show 2 * s.pos + 1 + 1 ≤ 2 * (takeStep ws s).2.pos + 0
        omega
  | some c =>
    simp only at e
    split at e
    · split at e
      · cases e
      · injection e with e1 e2 e3
        subst e1 e2 e3
        refine ⟨?_, Nat.le_succ _⟩
        have := sign_on ws s c
        show 2 * s.pos + 0 + 1 ≤ 2 * (takeSign ws s c).2.pos + 0
        omega
    · split at e
      · injection e with e1 e2 e3
        subst e1 e2 e3
        refine ⟨?_, Nat.succ_le_succ (l0 F c)⟩
        show 2 * s.pos + 0 + 1 ≤ 2 * (s.pos + 1) + 1
        omega
      · split at e
        · injection e with e1 e2 e3
          subst e1 e2 e3
          refine ⟨?_, Nat.succ_le_succ (l1 F c)⟩
          show 2 * s.pos + 0 + 1 ≤ 2 * s.pos + 1
          omega
        · split at e
          · have hl := l0 F c
            split at e
            · rename_i G eG
              injection e with e1 e2 e3
              subst e1 e2 e3
              rw [eG] at hl
              refine ⟨?_, by simp at hl; omega⟩
              show 2 * s.pos + 0 + 1 ≤ 2 * (s.pos + 1) + 0
              omega
            · cases e
          · cases e
theorem step_end {ws : List S} {F : Fs} {cur : Option W} {s : RS} {F' : Fs} {cur' : Option W} {s' : RS} (h : ws.length ≤ s.pos) : pstep ws F cur s ≠ .go F' cur' s' := by
  intro e
  have he := see_end h
  unfold pstep at e
  cases cur with
  | none =>
    simp only [he] at e
    rw [if_neg (by decide), if_pos (step_endS h)] at e
    cases e
  | some c =>
    simp only [he] at e
    rw [if_neg (by decide), if_neg (by decide), if_neg (by decide), if_neg (fun q => absurd q.1 (by decide))] at e
    cases e
end K09

set_option Elab.async false
set_option linter.all false
set_option maxRecDepth 100000
set_option maxHeartbeats 4000000
namespace K09
open PySem Dq L2
local macro_rules | `(tactic| walk_at "wp") => `(tactic| simp only [wpS, wpE, wpEo, wpEs, wpT, wpTeo, wpTg, wpTgs, wpI, immD, truW_bl, truW_int, truW_str, truW_tup, truW_loc, idxW_dic, inW_dic, splW_tup, splW_flst, splW_loc, blt_str, blt_intS, mth_extend, mth_split, mth_partition, mth_startswith, mth_removeprefix, mth_pop, mthTy_pop, mthTy_ext, mthTy_split, mthTy_part, mthTy_starts, mthTy_rmp, idxW_str, idxW_tup, idxW_flst, idxW_loc, idlW_loc, setW_loc, slcW_str, slcW_loc, binW_add, binW_addS, binW_addL, binW_addT, binW_mulT, blt_srtT, blt_srtL, slcW_tup, blt_lstT, binW_sub, binW_mul, binW_fdiv, binW_mod, binW_pow, binW_shl, augW_add, augW_addS, augW_sub,
  cmpW_eq, cmpW_ne, eqW_strs, eqW_ints, inW_strs, inW_loc, inW_tup, flatD, atI_m1, cmpW_in, cmpW_ni, cmpW_lt, cmpW_le, cmpW_gt, cmpW_ge, cmpW_is, cmpW_isn, lenW_loc, lenW_str, lenW_tup, lenW_flst, blt_len, blt_abs, blt_max, blt_min, blt_int, blt_intB, blt_tup, blt_all, blt_any, mth_append, mth_join, mthTy_join, mthTy_app, seqW_str, seqW_tup, seqW_flst, seqW_loc, lenTs, slT, slTs,
  List.getElem?_cons_zero, List.getElem?_cons_succ, List.set_cons_zero, List.set_cons_succ, Option.some.injEq, exists_eq_left', exists_eq_left, true_and, and_true, D.bl.injEq, D.int.injEq, D.loc.injEq, D.str.injEq, D.tup.injEq, Cell.lst.injEq, atI_0, atI_1, atI_2, atI_3, atI_4, decide_eq_true_eq, List.map, List.length_cons, List.length_nil, List.replicate, List.cons_append, List.nil_append, Nat.reduceAdd, Nat.reduceSub, Nat.zero_add, wipeE, isiB, eqF_str, List.any_cons, List.any_nil, List.all_cons, List.all_nil, Bool.or_false, Bool.and_true, Bool.and_self, bnot_t, Bool.true_eq_false, decide_eq_false_iff_not, eq_self, not_true_eq_false, not_false_eq_true, if_true, if_false, Bool.false_eq_true, Bool.not_true, Bool.not_false])
local macro_rules | `(tactic| walk_at "nil") => `(tactic| simp only [wpSs_nil])

local macro_rules | `(tactic| walk_at "st") => `(tactic| (refine wp_cons ?_; walk_at "wp"))
local macro_rules | `(tactic| walk_at "no") => `(tactic| (refine wp_cons ?_; walk_at "wp"; refine ite_no (by decide) ?_; walk_at "nil"))
local macro_rules | `(tactic| walk_at "yes") => `(tactic| (refine wp_cons ?_; walk_at "wp"; refine ite_yes (by decide) ?_))

def b0 : Ss :=
  (.cons (.ret (.mth .join (.cst (.str [])) (.cons (.comp [1] (.bin .Add (.call 2 (.cons (.lst (.star (.call 3 (.cons (.var 1) .nil)) (.cons (.cst (.str [59])) .nil))) .nil)) (.cst (.str [10]))) (.name 1) (.exp (.var 0)) .no) .nil))) .nil)
def b1 : Ss :=
  (.cons (.ret (.call 2 (.cons (.call 8 (.cons (.var 0) .nil)) .nil))) .nil)
def b2 : Ss :=
  (.cons (.ret (.mth .join (.cst (.str [32])) (.cons (.var 0) .nil))) .nil)
def b3 : Ss :=
  (.cons (.asg (.name 1) (.idx (.var 0) (.cst (.int (0))))) 
  (.cons (.ite (.tst (.cmp .In (.var 1) (.tup (.cons (.cst (.str [108, 101, 116])) (.cons (.cst (.str [98, 97, 114])) .nil))))) 
    (.cons (.ret (.call 4 (.cons (.var 0) .nil))) .nil) .nil) 
  (.cons (.ite (.tst (.cmp .In (.var 1) (.tup (.cons (.cst (.str [116, 97, 103])) (.cons (.cst (.str [110, 117, 109, 98, 101, 114])) .nil))))) 
    (.cons (.ret (.lst (.cons (.var 1) (.cons (.idx (.var 0) (.cst (.int (1)))) (.cons (.cst (.str [111, 110])) (.star (.idx (.var 0) (.cst (.int (2)))) .nil)))))) .nil) .nil) 
  (.cons (.ite (.tst (.cmp .Eq (.var 1) (.cst (.str [116, 105, 101])))) 
    (.cons (.ret (.lst (.cons (.var 1) (.cons (.idx (.var 0) (.cst (.int (1)))) (.cons (.cst (.str [102, 114, 111, 109])) (.star (.idx (.var 0) (.cst (.int (2)))) (.cons (.cst (.str [116, 111])) (.star (.idx (.var 0) (.cst (.int (3)))) .nil)))))))) .nil) .nil) 
  (.cons (.ite (.tst (.cmp .Eq (.var 1) (.cst (.str [110, 101, 118, 101, 114])))) 
    (.cons (.ret (.lst (.cons (.var 1) (.cons (.idx (.var 0) (.cst (.int (1)))) (.star (.call 5 (.cons (.idx (.var 0) (.cst (.int (2)))) .nil)) (.cons (.cst (.str [116, 111])) (.star (.call 5 (.cons (.idx (.var 0) (.cst (.int (3)))) .nil)) .nil))))))) .nil) .nil) 
  (.cons (.ite (.tst (.cmp .Eq (.var 1) (.cst (.str [119, 97, 108, 107])))) 
    (.cons (.ret (.lst (.cons (.var 1) (.cons (.idx (.var 0) (.cst (.int (1)))) (.cons (.cst (.str [61])) (.star (.call 8 (.cons (.idx (.var 0) (.cst (.int (2)))) .nil)) .nil)))))) .nil) .nil) 
  (.cons (.ite (.tst (.cmp .Eq (.var 1) (.cst (.str [119, 104, 101, 110])))) 
    (.cons (.ret (.lst (.cons (.var 1) (.cons (.idx (.var 0) (.cst (.int (1)))) (.cons (.cst (.str [61])) (.star (.call 11 (.cons (.idx (.var 0) (.cst (.int (2)))) .nil)) .nil)))))) .nil) .nil) 
  (.cons (.ite (.tst (.cmp .Eq (.var 1) (.cst (.str [114, 111, 108, 101])))) 
    (.cons (.ret (.lst (.cons (.var 1) (.cons (.idx (.var 0) (.cst (.int (1)))) (.cons (.cst (.str [61])) (.star (.idx (.var 0) (.cst (.int (2)))) .nil)))))) .nil) .nil) 
  (.cons (.ite (.tst (.cmp .Eq (.var 1) (.cst (.str [103, 97, 116, 101])))) 
    (.cons (.ret (.lst (.cons (.var 1) (.cons (.idx (.var 0) (.cst (.int (1)))) (.cons (.cst (.str [98, 121])) (.cons (.idx (.var 0) (.cst (.int (2)))) (.cons (.cst (.str [111, 110])) (.cons (.idx (.var 0) (.cst (.int (3)))) .nil)))))))) .nil) .nil) 
  (.cons (.ret (.lst (.cons (.var 1) (.star (.idx (.var 0) (.cst (.int (1)))) .nil)))) .nil))))))))))
def b4 : Ss :=
  (.cons (.asg (.tup (.cons (.name 3) (.cons (.name 4) (.cons (.name 5) (.cons (.name 6) (.cons (.name 7) (.cons (.name 8) (.cons (.name 9) (.cons (.name 10) .nil))))))))) (.var 0)) 
  (.cons (.asg (.name 1) (.lst (.cons (.var 3) (.cons (.var 4) (.cons (.cst (.str [114, 97, 110, 107])) (.cons (.blt .str (.cons (.var 5) .nil)) (.star (.var 6) (.cons (.cst (.str [109, 97, 121])) .nil)))))))) 
  (.cons (.for_ (.name 2) (.exp (.var 7)) 
    (.cons (.ite (.val (.mth .startswith (.var 2) (.cons (.cst (.str [64])) .nil))) 
      (.cons (.expr (.mth .append (.var 1) (.cons (.cst (.str [64])) .nil))) .nil) .nil) 
    (.cons (.expr (.mth .append (.var 1) (.cons (.mth .removeprefix (.var 2) (.cons (.cst (.str [64])) .nil)) .nil))) .nil))) 
  (.cons (.expr (.mth .extend (.var 1) (.cons (.lst (.cons (.cst (.str [111, 110])) (.star (.var 8) (.cons (.cst (.str [119, 104, 101, 110])) (.star (.call 11 (.cons (.var 9) .nil)) .nil))))) .nil))) 
  (.cons (.ite (.val (.var 10)) 
    (.cons (.expr (.mth .extend (.var 1) (.cons (.lst (.cons (.cst (.str [100, 117, 101])) (.star (.var 10) .nil))) .nil))) .nil) .nil) 
  (.cons (.ret (.var 1)) .nil))))))
def b5 : Ss :=
  (.cons (.asg (.name 1) (.lst (.cons (.cst (.str [91])) .nil))) 
  (.cons (.for_ (.tup (.cons (.name 2) (.cons (.name 3) .nil))) (.exp (.var 0)) 
    (.cons (.ite (.not_ (.val (.var 3))) 
      (.cons (.expr (.mth .append (.var 1) (.cons (.cst (.str [45])) .nil))) .nil) .nil) 
    (.cons (.expr (.mth .append (.var 1) (.cons (.var 2) .nil))) .nil))) 
  (.cons (.ret (.lst (.star (.var 1) (.cons (.cst (.str [93])) .nil)))) .nil)))
def b6 : Ss :=
  (.cons (.ite (.tst (.cmp .Lt (.dget (.glob 0) (.var 1) (.glob 1)) (.var 2))) 
    (.cons (.ret (.lst (.cons (.cst (.str [40])) (.star (.var 0) (.cons (.cst (.str [41])) .nil))))) .nil) .nil) 
  (.cons (.ret (.var 0)) .nil))
def b7 : Ss :=
  (.cons (.ret (.call 6 (.cons (.call 8 (.cons (.var 0) .nil)) (.cons (.idx (.var 0) (.cst (.int (0)))) (.cons (.var 1) .nil))))) .nil)
def b8 : Ss :=
  (.cons (.asg (.name 1) (.idx (.var 0) (.cst (.int (0))))) 
  (.cons (.ite (.tst (.cmp .Eq (.var 1) (.cst (.str [116, 97, 98, 108, 101])))) 
    (.cons (.ret (.call 9 (.cons (.var 0) .nil))) .nil) .nil) 
  (.cons (.ite (.tst (.cmp .Eq (.var 1) (.cst (.str [110, 97, 109, 101, 100])))) 
    (.cons (.ret (.lst (.cons (.cst (.str [64])) (.cons (.idx (.var 0) (.cst (.int (1)))) .nil)))) .nil) .nil) 
  (.cons (.ite (.tst (.cmp .Eq (.var 1) (.cst (.str [115, 116, 101, 112])))) 
    (.cons (.ret (.ife (.val (.idx (.var 0) (.cst (.int (2))))) (.lst (.cons (.idx (.var 0) (.cst (.int (1)))) (.star (.call 5 (.cons (.idx (.var 0) (.cst (.int (2)))) .nil)) .nil))) (.lst (.cons (.idx (.var 0) (.cst (.int (1)))) .nil)))) .nil) .nil) 
  (.cons (.ite (.tst (.cmp .Eq (.var 1) (.cst (.str [111, 114])))) 
    (.cons (.ret (.lst (.star (.call 7 (.cons (.idx (.var 0) (.cst (.int (1)))) (.cons (.cst (.int (0))) .nil))) (.cons (.cst (.str [124])) (.star (.call 7 (.cons (.idx (.var 0) (.cst (.int (2)))) (.cons (.cst (.int (1))) .nil))) .nil))))) .nil) .nil) 
  (.cons (.ite (.tst (.cmp .Eq (.var 1) (.cst (.str [116, 104, 101, 110])))) 
    (.cons (.ret (.lst (.star (.call 7 (.cons (.idx (.var 0) (.cst (.int (1)))) (.cons (.cst (.int (1))) .nil))) (.star (.call 7 (.cons (.idx (.var 0) (.cst (.int (2)))) (.cons (.cst (.int (2))) .nil))) .nil)))) .nil) .nil) 
  (.cons (.ite (.tst (.cmp .Eq (.var 1) (.cst (.str [117, 112, 116, 111])))) 
    (.cons (.ret (.lst (.star (.call 7 (.cons (.idx (.var 0) (.cst (.int (1)))) (.cons (.cst (.int (2))) .nil))) (.cons (.cst (.str [123])) (.cons (.blt .str (.cons (.idx (.var 0) (.cst (.int (2)))) .nil)) (.cons (.cst (.str [125])) .nil)))))) .nil) .nil) 
  (.cons (.ret (.lst (.star (.call 7 (.cons (.idx (.var 0) (.cst (.int (1)))) (.cons (.cst (.int (2))) .nil))) (.cons (.idx (.glob 2) (.var 1)) .nil)))) .nil))))))))
def b9 : Ss :=
  (.cons (.asg (.name 1) (.lst (.cons (.cst (.str [116, 97, 98, 108, 101])) .nil))) 
  (.cons (.for_ (.tup (.cons (.name 2) (.cons (.name 3) (.cons (.name 4) .nil)))) (.exp (.idx (.var 0) (.cst (.int (1))))) 
    (.cons (.ite (.tst (.cmp .Gt (.blt .len (.cons (.var 1) .nil)) (.cst (.int (1))))) 
      (.cons (.expr (.mth .append (.var 1) (.cons (.cst (.str [124])) .nil))) .nil) .nil) 
    (.cons (.asg (.tup (.cons (.name 5) (.cons (.name 6) (.cons (.name 7) .nil)))) (.var 3)) 
    (.cons (.expr (.mth .extend (.var 1) (.cons (.lst (.cons (.blt .str (.cons (.var 2) .nil)) (.cons (.var 5) (.cons (.var 6) (.cons (.cst (.str [91])) (.star (.var 7) (.cons (.cst (.str [93])) (.cons (.blt .str (.cons (.var 4) .nil)) .nil)))))))) .nil))) .nil)))) 
  (.cons (.ret (.lst (.star (.var 1) (.cons (.cst (.str [102, 105, 110, 97, 108])) (.cons (.ife (.tst (.cmp .Is (.idx (.var 0) (.cst (.int (2)))) (.cst .non))) (.cst (.str [45])) (.blt .str (.cons (.idx (.var 0) (.cst (.int (2)))) .nil))) .nil))))) .nil)))
def b10 : Ss :=
  (.cons (.ret (.call 6 (.cons (.call 11 (.cons (.var 0) .nil)) (.cons (.idx (.var 0) (.cst (.int (0)))) (.cons (.var 1) .nil))))) .nil)
def b11 : Ss :=
  (.cons (.asg (.name 1) (.idx (.var 0) (.cst (.int (0))))) 
  (.cons (.ite (.tst (.cmp .Eq (.var 1) (.cst (.str [111, 114])))) 
    (.cons (.ret (.lst (.star (.call 10 (.cons (.idx (.var 0) (.cst (.int (1)))) (.cons (.cst (.int (0))) .nil))) (.cons (.cst (.str [111, 114])) (.star (.call 10 (.cons (.idx (.var 0) (.cst (.int (2)))) (.cons (.cst (.int (1))) .nil))) .nil))))) .nil) .nil) 
  (.cons (.ite (.tst (.cmp .Eq (.var 1) (.cst (.str [97, 110, 100])))) 
    (.cons (.ret (.lst (.star (.call 10 (.cons (.idx (.var 0) (.cst (.int (1)))) (.cons (.cst (.int (1))) .nil))) (.cons (.cst (.str [97, 110, 100])) (.star (.call 10 (.cons (.idx (.var 0) (.cst (.int (2)))) (.cons (.cst (.int (2))) .nil))) .nil))))) .nil) .nil) 
  (.cons (.ite (.tst (.cmp .Eq (.var 1) (.cst (.str [110, 111, 116])))) 
    (.cons (.ret (.lst (.cons (.cst (.str [110, 111, 116])) (.star (.call 10 (.cons (.idx (.var 0) (.cst (.int (1)))) (.cons (.cst (.int (2))) .nil))) .nil)))) .nil) .nil) 
  (.cons (.ite (.tst (.cmp .Eq (.var 1) (.cst (.str [97, 108, 119, 97, 121, 115])))) 
    (.cons (.ret (.lst (.cons (.cst (.str [97, 108, 119, 97, 121, 115])) .nil))) .nil) .nil) 
  (.cons (.ite (.tst (.cmp .Eq (.var 1) (.cst (.str [110, 97, 109, 101, 100])))) 
    (.cons (.ret (.lst (.cons (.cst (.str [64])) (.cons (.idx (.var 0) (.cst (.int (1)))) .nil)))) .nil) .nil) 
  (.cons (.ite (.tst (.cmp .Eq (.var 1) (.cst (.str [102, 108, 97, 103])))) 
    (.cons (.ret (.lst (.cons (.cst (.str [97, 115, 107])) (.cons (.cst (.str [105, 115])) (.cons (.idx (.var 0) (.cst (.int (1)))) .nil))))) .nil) .nil) 
  (.cons (.ite (.tst (.cmp .Eq (.var 1) (.cst (.str [116, 97, 103])))) 
    (.cons (.ret (.lst (.cons (.idx (.var 0) (.cst (.int (1)))) (.cons (.cst (.str [105, 115])) (.cons (.idx (.var 0) (.cst (.int (2)))) .nil))))) .nil) .nil) 
  (.cons (.ite (.tst (.cmp .Eq (.var 1) (.cst (.str [119, 97, 108, 107])))) 
    (.cons (.ret (.lst (.cons (.cst (.str [98, 121])) (.cons (.idx (.var 0) (.cst (.int (1)))) (.cons (.cst (.str [116, 111])) (.cons (.idx (.var 0) (.cst (.int (2)))) .nil)))))) .nil) .nil) 
  (.cons (.ret (.lst (.star (.call 12 (.cons (.idx (.var 0) (.cst (.int (1)))) .nil)) (.cons (.cst (.str [60, 61])) (.star (.call 12 (.cons (.idx (.var 0) (.cst (.int (2)))) .nil)) (.star (.call 13 (.cons (.idx (.var 0) (.cst (.int (3)))) .nil)) .nil)))))) .nil))))))))))
def b12 : Ss :=
  (.cons (.asg (.tup (.cons (.name 1) (.cons (.name 2) (.cons (.name 3) .nil)))) (.mth .partition (.var 0) (.cons (.cst (.str [46])) .nil))) 
  (.cons (.ret (.ife (.val (.var 2)) (.lst (.cons (.var 1) (.cons (.var 2) (.cons (.var 3) .nil)))) (.lst (.cons (.var 1) .nil)))) .nil))
def b13 : Ss :=
  (.cons (.ite (.tst (.cmp .Eq (.var 0) (.cst (.int (0))))) 
    (.cons (.ret (.lst .nil)) .nil) .nil) 
  (.cons (.ret (.ife (.tst (.cmp .Gt (.var 0) (.cst (.int (0))))) (.lst (.cons (.cst (.str [43])) (.cons (.blt .str (.cons (.var 0) .nil)) .nil))) (.lst (.cons (.cst (.str [45])) (.cons (.blt .str (.cons (.neg (.var 0)) .nil)) .nil))))) .nil))
def b14 : Ss :=
  (.cons (.ret (.lst (.cons (.comp [1] (.blt .int (.cons (.var 1) .nil)) (.name 1) (.exp (.var 0)) .no) (.cons (.cst (.int (0))) (.cons (.cst (.int (0))) (.cons (.cst (.int (7))) (.cons (.cst (.int (3))) .nil))))))) .nil)
def b15 : Ss :=
  (.cons (.ite (.tst (.cmp .Gt (.idx (.var 0) (.cst (.int (2)))) (.cst (.int (0))))) 
    (.cons (.asg (.name 3) (.idx (.var 0) (.cst (.int (2))))) 
    (.cons (.asg (.sub (.var 0) (.cst (.int (2)))) (.bin .FloorDiv (.var 3) (.var 1))) 
    (.cons (.ret (.bin .Mod (.blt .int (.cons (.var 3) .nil)) (.var 1))) .nil))) .nil) 
  (.cons (.asg (.name 2) (.cst (.int (0)))) 
  (.cons (.ite (.tst (.cmp .Lt (.idx (.var 0) (.cst (.int (1)))) (.blt .len (.cons (.idx (.var 0) (.cst (.int (0)))) .nil)))) 
    (.cons (.asg (.name 4) (.idx (.idx (.var 0) (.cst (.int (0)))) (.idx (.var 0) (.cst (.int (1)))))) 
    (.cons (.asg (.name 2) (.bin .Add (.bin .Mult (.cst (.int (2))) (.blt .abs (.cons (.var 4) .nil))) (.blt .int (.cons (.cmp .Lt (.var 4) (.cst (.int (0)))) .nil)))) .nil)) .nil) 
  (.cons (.augs (.var 0) (.cst (.int (1))) .Add (.cst (.int (1)))) 
  (.cons (.ite (.tst (.cmp .GtE (.var 2) (.bin .Mult (.cst (.int (2))) (.bin .Pow (.cst (.int (10))) (.cst (.int (18))))))) 
    (.cons (.asg (.name 3) (.bin .Mod (.blt .int (.cons (.bin .FloorDiv (.var 2) (.cst (.int (2)))) .nil)) (.bin .LShift (.cst (.int (1))) (.cst (.int (6000)))))) 
    (.cons (.asg (.sub (.var 0) (.cst (.int (2)))) (.bin .FloorDiv (.var 3) (.var 1))) 
    (.cons (.ret (.bin .Mod (.blt .int (.cons (.var 3) .nil)) (.var 1))) .nil))) .nil) 
  (.cons (.asg (.sub (.var 0) (.cst (.int (3)))) (.bin .Mod (.blt .int (.cons (.bin .Add (.bin .Add (.bin .Add (.bin .Mult (.idx (.var 0) (.cst (.int (3)))) (.cst (.int (48271)))) (.bin .Mult (.bin .Mod (.blt .int (.cons (.var 2) .nil)) (.cst (.int (2147483629)))) (.cst (.int (16807))))) (.bin .Mult (.idx (.var 0) (.cst (.int (1)))) (.cst (.int (69621))))) (.cst (.int (11)))) .nil)) (.cst (.int (2147483647))))) 
  (.cons (.ret (.bin .Mod (.blt .int (.cons (.bin .FloorDiv (.idx (.var 0) (.cst (.int (3)))) (.cst (.int (16)))) .nil)) (.var 1))) .nil)))))))
def b16 : Ss :=
  (.cons (.ret (.idx (.var 1) (.call 15 (.cons (.var 0) (.cons (.blt .len (.cons (.var 1) .nil)) .nil))))) .nil)
def b17 : Ss :=
  (.cons (.ret (.cmp .Eq (.call 15 (.cons (.var 0) (.cons (.var 1) .nil))) (.bin .FloorDiv (.var 1) (.cst (.int (2)))))) .nil)
def b18 : Ss :=
  (.cons (.ret (.band (.isi (.var 0) .int) (.bnot (.isi (.var 0) .bool)))) .nil)
def b19 : Ss :=
  (.cons (.asg (.name 0) (.cst (.str [97, 115, 107, 101, 114, 32, 103, 114, 111, 117, 112, 32, 116, 104, 105, 110, 103, 32, 98, 97, 100, 103, 101, 32, 116, 97, 103, 32, 110, 117, 109, 98, 101, 114, 32, 102, 108, 97, 103, 32, 97, 115, 107, 101, 100, 32, 97, 99, 116, 105, 111, 110, 32, 100, 117, 116, 121, 32, 116, 105, 101, 32, 110, 101, 118, 101, 114, 32, 119, 97, 108, 107, 32, 119, 104, 101, 110, 32, 114, 111, 108, 101, 32, 103, 97, 116, 101, 32, 108, 101, 116, 32, 98, 97, 114, 32, 111, 110, 32, 102, 114, 111, 109, 32, 116, 111, 32]))) 
  (.cons (.ret (.mth .split (.bin .Add (.var 0) (.cst (.str [98, 121, 32, 105, 115, 32, 109, 97, 121, 32, 114, 97, 110, 107, 32, 100, 117, 101, 32, 97, 110, 100, 32, 111, 114, 32, 110, 111, 116, 32, 97, 108, 119, 97, 121, 115, 32, 110, 111, 119, 32, 97, 115, 107, 32, 97, 110, 121, 32, 116, 97, 98, 108, 101, 32, 102, 105, 110, 97, 108, 32, 110, 111, 100, 101, 32, 114, 117, 108, 101]))) (.cons (.cst (.str [32])) .nil))) .nil))
def b20 : Ss :=
  (.cons (.asg (.name 1) (.call 15 (.cons (.var 0) (.cons (.cst (.int (8))) .nil)))) 
  (.cons (.ite (.tst (.cmp .Eq (.var 1) (.cst (.int (0))))) 
    (.cons (.asg (.name 5) (.cst (.str [116, 104, 101, 110, 32, 115, 116, 97, 114, 32, 112, 108, 117, 115, 32, 109, 97, 121, 98, 101, 32, 117, 112, 116, 111, 32, 115, 116, 101, 112, 32, 110, 97, 109, 101, 100, 32, 97, 116, 109, 111, 115, 116, 32, 111, 102, 32, 97, 108, 108, 32, 110, 111, 110, 101, 32, 122, 32, 97, 32, 98, 48]))) 
    (.cons (.ret (.call 16 (.cons (.var 0) (.cons (.mth .split (.var 5) (.cons (.cst (.str [32])) .nil)) .nil)))) .nil)) .nil) 
  (.cons (.ite (.tst (.cmp .Eq (.var 1) (.cst (.int (1))))) 
    (.cons (.asg (.name 3) (.call 16 (.cons (.var 0) (.cons (.call 19 .nil) .nil)))) 
    (.cons (.ret (.call 16 (.cons (.var 0) (.cons (.lst (.cons (.slc (.var 3) .no (.yes (.neg (.cst (.int (1)))))) (.cons (.bin .Add (.cst (.str [122])) (.var 3)) (.cons (.bin .Add (.var 3) (.cst (.str [115]))) (.cons (.bin .Add (.var 3) (.cst (.str [55]))) .nil))))) .nil)))) .nil)) .nil) 
  (.cons (.asg (.name 2) (.cst (.str [97, 98, 99, 100, 101, 102, 103, 104, 105, 106, 107, 108, 109, 110, 111, 112, 113, 114, 115, 116, 117, 118, 119, 120, 121, 122, 48, 49, 50, 51, 52, 53, 54, 55, 56, 57]))) 
  (.cons (.asg (.name 3) (.idx (.var 2) (.call 15 (.cons (.var 0) (.cons (.cst (.int (26))) .nil))))) 
  (.cons (.for_ (.name 4) (.range1 (.ife (.tst (.cmp .Eq (.var 1) (.cst (.int (2))))) (.cst (.int (7))) (.call 15 (.cons (.var 0) (.cons (.cst (.int (3))) .nil))))) 
    (.cons (.asg (.name 3) (.bin .Add (.var 3) (.idx (.var 2) (.call 15 (.cons (.var 0) (.cons (.cst (.int (36))) .nil)))))) .nil)) 
  (.cons (.ite (.tst (.cmp .Eq (.slc (.var 3) .no (.yes (.cst (.int (2))))) (.cst (.str [122, 122])))) 
    (.cons (.asg (.name 3) (.bin .Add (.cst (.str [121])) (.slc (.var 3) (.yes (.cst (.int (1)))) .no))) .nil) .nil) 
  (.cons (.ret (.ife (.tst (.cmp .In (.var 3) (.call 19 .nil))) (.bin .Add (.var 3) (.cst (.str [48]))) (.var 3))) .nil))))))))
def b21 : Ss :=
  (.cons (.asg (.name 3) (.lst .nil)) 
  (.cons (.for_ (.name 4) (.range1 (.ife (.tst (.cmp .Eq (.call 15 (.cons (.var 0) (.cons (.cst (.int (6))) .nil))) (.cst (.int (0))))) (.var 2) (.bin .Add (.var 1) (.call 15 (.cons (.var 0) (.cons (.cst (.int (3))) .nil)))))) 
    (.cons (.asg (.name 5) (.call 20 (.cons (.var 0) .nil))) 
    (.cons (.ite (.tst (.cmp .NotIn (.var 5) (.var 3))) 
      (.cons (.expr (.mth .append (.var 3) (.cons (.var 5) .nil))) .nil) .nil) .nil))) 
  (.cons (.ret (.blt .tuple (.cons (.var 3) .nil))) .nil)))
def b22 : Ss :=
  (.cons (.ret (.blt .tuple (.cons (.comp [2] (.tup (.cons (.var 2) (.cons (.cmp .Eq (.call 15 (.cons (.var 0) (.cons (.cst (.int (2))) .nil))) (.cst (.int (0)))) .nil))) (.name 2) (.exp (.call 21 (.cons (.var 0) (.cons (.var 1) (.cons (.cst (.int (3))) .nil))))) .no) .nil))) .nil)
def b23 : Ss :=
  (.cons (.asg (.name 1) (.call 15 (.cons (.var 0) (.cons (.cst (.int (6))) .nil)))) 
  (.cons (.ite (.tst (.cmp .Eq (.var 1) (.cst (.int (0))))) 
    (.cons (.ret (.tup (.cons (.cst (.str [110, 97, 109, 101, 100])) (.cons (.call 20 (.cons (.var 0) .nil)) .nil)))) .nil) .nil) 
  (.cons (.asg (.name 2) (.ife (.tst (.cmp .Eq (.var 1) (.cst (.int (1))))) (.cst (.str [97, 110, 121])) (.call 20 (.cons (.var 0) .nil)))) 
  (.cons (.ret (.tup (.cons (.cst (.str [115, 116, 101, 112])) (.cons (.var 2) (.cons (.ife (.tst (.cmp .Eq (.call 15 (.cons (.var 0) (.cons (.cst (.int (2))) .nil))) (.cst (.int (0))))) (.tup .nil) (.call 22 (.cons (.var 0) (.cons (.cst (.int (1))) .nil)))) .nil))))) .nil))))
def b24 : Ss :=
  (.cons (.asg (.sub (.var 2) (.cst (.int (0)))) (.bin .Sub (.idx (.var 2) (.cst (.int (0)))) (.cst (.int (1))))) 
  (.cons (.asg (.name 4) (.call 15 (.cons (.var 0) (.cons (.cst (.int (8))) .nil)))) 
  (.cons (.ite (.or_ (.tst (.cmp .Eq (.var 1) (.cst (.int (1))))) (.and_ (.not_ (.val (.var 3))) (.or_ (.tst (.cmp .Lt (.var 4) (.cst (.int (2))))) (.tst (.cmp .Lt (.idx (.var 2) (.cst (.int (0)))) (.cst (.int (1)))))))) 
    (.cons (.ret (.call 23 (.cons (.var 0) .nil))) .nil) .nil) 
  (.cons (.ite (.tst (.cmp .Lt (.var 4) (.cst (.int (5))))) 
    (.cons (.asg (.name 8) (.call 24 (.cons (.var 0) (.cons (.bin .Sub (.var 1) (.cst (.int (1)))) (.cons (.var 2) (.cons (.var 3) .nil)))))) 
    (.cons (.ite (.tst (.cmp .Eq (.var 4) (.cst (.int (4))))) 
      (.cons (.ret (.tup (.cons (.cst (.str [117, 112, 116, 111])) (.cons (.var 8) (.cons (.bin .Add (.cst (.int (1))) (.call 15 (.cons (.var 0) (.cons (.cst (.int (4))) .nil)))) .nil))))) .nil) .nil) 
    (.cons (.ret (.tup (.cons (.idx (.lst (.cons (.cst (.str [115, 116, 97, 114])) (.cons (.cst (.str [112, 108, 117, 115])) (.cons (.cst (.str [109, 97, 121, 98, 101])) .nil)))) (.call 15 (.cons (.var 0) (.cons (.cst (.int (3))) .nil)))) (.cons (.var 8) .nil)))) .nil))) .nil) 
  (.cons (.asg (.name 5) (.call 24 (.cons (.var 0) (.cons (.bin .Sub (.var 1) (.cst (.int (1)))) (.cons (.var 2) (.cons (.var 3) .nil)))))) 
  (.cons (.asg (.name 6) (.call 24 (.cons (.var 0) (.cons (.bin .Sub (.var 1) (.cst (.int (1)))) (.cons (.var 2) (.cons (.cst (.bl false)) .nil)))))) 
  (.cons (.asg (.name 7) (.ife (.tst (.cmp .Eq (.call 15 (.cons (.var 0) (.cons (.cst (.int (2))) .nil))) (.cst (.int (0))))) (.cst (.str [116, 104, 101, 110])) (.cst (.str [111, 114])))) 
  (.cons (.ret (.ife (.tst (.cmp .Eq (.call 15 (.cons (.var 0) (.cons (.cst (.int (2))) .nil))) (.cst (.int (0))))) (.tup (.cons (.var 7) (.cons (.var 5) (.cons (.var 6) .nil)))) (.tup (.cons (.var 7) (.cons (.var 6) (.cons (.var 5) .nil)))))) .nil))))))))
def b25 : Ss :=
  (.cons (.ret (.call 16 (.cons (.var 0) (.cons (.lst (.cons (.cst (.int (0))) (.cons (.cst (.int (1))) (.cons (.cst (.int (2))) (.cons (.bin .Sub (.var 1) (.cst (.int (1)))) (.cons (.var 1) (.cons (.call 15 (.cons (.var 0) (.cons (.bin .Add (.var 1) (.cst (.int (1)))) .nil))) .nil))))))) .nil)))) .nil)
def b26 : Ss :=
  (.cons (.asg (.name 1) (.blt .tuple (.cons (.blt .sorted (.cons (.call 21 (.cons (.var 0) (.cons (.cst (.int (0))) (.cons (.cst (.int (3))) .nil)))) .nil)) .nil))) 
  (.cons (.ret (.tup (.cons (.call 25 (.cons (.var 0) (.cons (.cst (.int (39))) .nil))) (.cons (.tup (.cons (.call 20 (.cons (.var 0) .nil)) (.cons (.call 20 (.cons (.var 0) .nil)) (.cons (.var 1) .nil)))) (.cons (.call 25 (.cons (.var 0) (.cons (.cst (.int (39))) .nil))) .nil))))) .nil))
def b27 : Ss :=
  (.cons (.asg (.name 2) (.blt .tuple (.cons (.comp [3] (.call 26 (.cons (.var 0) .nil)) (.name 3) (.range1 (.call 15 (.cons (.var 0) (.cons (.cst (.int (4))) .nil)))) .no) .nil))) 
  (.cons (.ite (.and_ (.tst (.cmp .Gt (.var 1) (.cst (.int (0))))) (.val (.call 17 (.cons (.var 0) (.cons (.cst (.int (16))) .nil))))) 
    (.cons (.asg (.name 2) (.slc (.bin .Mult (.bin .Add (.var 2) (.tup (.cons (.call 26 (.cons (.var 0) .nil)) .nil))) (.cst (.int (201)))) .no (.yes (.bin .Sub (.var 1) (.call 15 (.cons (.var 0) (.cons (.cst (.int (2))) .nil))))))) .nil) .nil) 
  (.cons (.ret (.tup (.cons (.cst (.str [116, 97, 98, 108, 101])) (.cons (.var 2) (.cons (.ife (.tst (.cmp .Eq (.call 15 (.cons (.var 0) (.cons (.cst (.int (4))) .nil))) (.cst (.int (0))))) (.cst .non) (.call 25 (.cons (.var 0) (.cons (.cst (.int (39))) .nil)))) .nil))))) .nil)))
def b28 : Ss :=
  (.cons (.asg (.name 3) (.call 15 (.cons (.var 0) (.cons (.cst (.int (6))) .nil)))) 
  (.cons (.ite (.tst (.cmp .Eq (.var 3) (.cst (.int (0))))) 
    (.cons (.ret (.call 27 (.cons (.var 0) (.cons (.var 1) .nil)))) .nil) .nil) 
  (.cons (.ite (.and_ (.tst (.cmp .Eq (.var 3) (.cst (.int (1))))) (.tst (.cmp .Gt (.var 2) (.cst (.int (5)))))) 
    (.cons (.ret (.call 24 (.cons (.var 0) (.cons (.cst (.int (12))) (.cons (.lst (.cons (.cst (.int (3))) .nil)) (.cons (.cst (.bl true)) .nil)))))) .nil) .nil) 
  (.cons (.ret (.call 24 (.cons (.var 0) (.cons (.cst (.int (12))) (.cons (.lst (.cons (.bin .Add (.cst (.int (1))) (.call 15 (.cons (.var 0) (.cons (.var 2) .nil)))) .nil)) (.cons (.cst (.bl false)) .nil)))))) .nil))))
def b29 : Ss :=
  (.cons (.ite (.or_ (.not_ (.val (.isi (.var 0) .str))) (.or_ (.not_ (.tst (.chain .LtE .LtE (.cst (.int (1))) (.blt .len (.cons (.var 0) .nil)) (.cst (.int (8)))))) (.or_ (.tst (.cmp .Eq (.slc (.var 0) .no (.yes (.cst (.int (2))))) (.cst (.str [122, 122])))) (.tst (.cmp .In (.var 0) (.call 19 .nil)))))) 
    (.cons (.ret (.cst (.bl false))) .nil) .nil) 
  (.cons (.ite (.tst (.cmp .NotIn (.idx (.var 0) (.cst (.int (0)))) (.cst (.str [97, 98, 99, 100, 101, 102, 103, 104, 105, 106, 107, 108, 109, 110, 111, 112, 113, 114, 115, 116, 117, 118, 119, 120, 121, 122])))) 
    (.cons (.ret (.cst (.bl false))) .nil) .nil) 
  (.cons (.ret (.blt .all (.cons (.comp [1] (.cmp .In (.var 1) (.cst (.str [97, 98, 99, 100, 101, 102, 103, 104, 105, 106, 107, 108, 109, 110, 111, 112, 113, 114, 115, 116, 117, 118, 119, 120, 121, 122, 48, 49, 50, 51, 52, 53, 54, 55, 56, 57]))) (.name 1) (.exp (.var 0)) .no) .nil))) .nil)))
def b30 : Ss :=
  (.cons (.ret (.ife (.tst (.cmp .Lt (.idx (.var 0) (.cst (.int (1)))) (.blt .len (.cons (.idx (.var 0) (.cst (.int (0)))) .nil)))) (.idx (.idx (.var 0) (.cst (.int (0)))) (.idx (.var 0) (.cst (.int (1))))) (.cst (.str [])))) .nil)
def b31 : Ss :=
  (.cons (.ite (.and_ (.not_ (.val (.idx (.var 0) (.cst (.int (2)))))) (.tst (.cmp .Eq (.call 30 (.cons (.var 0) .nil)) (.var 1)))) 
    (.cons (.asg (.sub (.var 0) (.cst (.int (1)))) (.bin .Add (.idx (.var 0) (.cst (.int (1)))) (.cst (.int (1))))) .nil) 
    (.cons (.asg (.sub (.var 0) (.cst (.int (2)))) (.cst (.bl true))) .nil)) .nil)
def b32 : Ss :=
  (.cons (.asg (.name 1) (.call 30 (.cons (.var 0) .nil))) 
  (.cons (.ite (.or_ (.val (.idx (.var 0) (.cst (.int (2))))) (.not_ (.val (.call 29 (.cons (.var 1) .nil))))) 
    (.cons (.asg (.sub (.var 0) (.cst (.int (2)))) (.cst (.bl true))) 
    (.cons (.ret (.cst (.str []))) .nil)) .nil) 
  (.cons (.asg (.sub (.var 0) (.cst (.int (1)))) (.bin .Add (.idx (.var 0) (.cst (.int (1)))) (.cst (.int (1))))) 
  (.cons (.ret (.var 1)) .nil))))
def b33 : Ss :=
  (.cons (.asg (.name 3) (.call 30 (.cons (.var 0) .nil))) 
  (.cons (.asg (.name 4) (.band (.chain .LtE .LtE (.cst (.int (1))) (.blt .len (.cons (.var 3) .nil)) (.cst (.int (4)))) (.band (.blt .all (.cons (.comp [5] (.cmp .In (.var 5) (.cst (.str [48, 49, 50, 51, 52, 53, 54, 55, 56, 57]))) (.name 5) (.exp (.var 3)) .no) .nil)) (.bor (.cmp .Eq (.var 3) (.cst (.str [48]))) (.cmp .NotEq (.idx (.var 3) (.cst (.int (0)))) (.cst (.str [48]))))))) 
  (.cons (.ite (.or_ (.val (.idx (.var 0) (.cst (.int (2))))) (.or_ (.not_ (.val (.var 4))) (.not_ (.tst (.chain .LtE .LtE (.var 1) (.blt .int (.cons (.var 3) .nil)) (.var 2)))))) 
    (.cons (.asg (.sub (.var 0) (.cst (.int (2)))) (.cst (.bl true))) 
    (.cons (.ret (.cst (.int (0)))) .nil)) .nil) 
  (.cons (.asg (.sub (.var 0) (.cst (.int (1)))) (.bin .Add (.idx (.var 0) (.cst (.int (1)))) (.cst (.int (1))))) 
  (.cons (.ret (.blt .int (.cons (.var 3) .nil))) .nil)))))
def b34 : Ss :=
  (.cons (.for_ (.name 3) (.range1 (.blt .len (.cons (.var 1) .nil))) 
    (.cons (.ite (.or_ (.tst (.cmp .Eq (.blt .len (.cons (.var 1) .nil)) (.cst (.int (0))))) (.tst (.cmp .NotIn (.idx (.var 1) (.neg (.cst (.int (1))))) (.var 2)))) 
      (.cons .retn .nil) .nil) 
    (.cons (.asg (.name 4) (.mth .pop (.var 0) .nil)) 
    (.cons (.asg (.name 5) (.mth .pop (.var 0) .nil)) 
    (.cons (.expr (.mth .append (.var 0) (.cons (.tup (.cons (.mth .pop (.var 1) .nil) (.cons (.var 5) (.cons (.var 4) .nil)))) .nil))) .nil))))) .nil)
def b35 : Ss :=
  (.cons (.expr (.call 31 (.cons (.var 0) (.cons (.cst (.str [91])) .nil)))) 
  (.cons (.asg (.name 2) (.lst .nil)) 
  (.cons (.for_ (.name 3) (.range1 (.bin .Add (.blt .len (.cons (.idx (.var 0) (.cst (.int (0)))) .nil)) (.cst (.int (1))))) 
    (.cons (.ite (.or_ (.val (.idx (.var 0) (.cst (.int (2))))) (.and_ (.tst (.cmp .GtE (.blt .len (.cons (.var 2) .nil)) (.var 1))) (.tst (.cmp .Eq (.call 30 (.cons (.var 0) .nil)) (.cst (.str [93])))))) 
      (.cons .brk .nil) .nil) 
    (.cons (.asg (.name 4) (.cmp .NotEq (.call 30 (.cons (.var 0) .nil)) (.cst (.str [45])))) 
    (.cons (.ite (.not_ (.val (.var 4))) 
      (.cons (.asg (.sub (.var 0) (.cst (.int (1)))) (.bin .Add (.idx (.var 0) (.cst (.int (1)))) (.cst (.int (1))))) .nil) .nil) 
    (.cons (.expr (.mth .append (.var 2) (.cons (.tup (.cons (.call 32 (.cons (.var 0) .nil)) (.cons (.var 4) .nil))) .nil))) .nil))))) 
  (.cons (.expr (.call 31 (.cons (.var 0) (.cons (.cst (.str [93])) .nil)))) 
  (.cons (.ret (.blt .tuple (.cons (.var 2) .nil))) .nil)))))
def b36 : Ss :=
  (.cons (.asg (.name 1) (.call 30 (.cons (.var 0) .nil))) 
  (.cons (.ite (.tst (.cmp .Eq (.var 1) (.cst (.str [64])))) 
    (.cons (.asg (.sub (.var 0) (.cst (.int (1)))) (.bin .Add (.idx (.var 0) (.cst (.int (1)))) (.cst (.int (1))))) 
    (.cons (.ret (.tup (.cons (.cst (.str [110, 97, 109, 101, 100])) (.cons (.call 32 (.cons (.var 0) .nil)) .nil)))) .nil)) .nil) 
  (.cons (.ite (.tst (.cmp .Eq (.var 1) (.cst (.str [97, 110, 121])))) 
    (.cons (.asg (.sub (.var 0) (.cst (.int (1)))) (.bin .Add (.idx (.var 0) (.cst (.int (1)))) (.cst (.int (1))))) .nil) 
    (.cons (.asg (.name 1) (.call 32 (.cons (.var 0) .nil))) .nil)) 
  (.cons (.ret (.tup (.cons (.cst (.str [115, 116, 101, 112])) (.cons (.var 1) (.cons (.ife (.and_ (.not_ (.val (.idx (.var 0) (.cst (.int (2)))))) (.tst (.cmp .Eq (.call 30 (.cons (.var 0) .nil)) (.cst (.str [91]))))) (.call 35 (.cons (.var 0) (.cons (.cst (.int (1))) .nil))) (.tup .nil)) .nil))))) .nil))))
def b37 : Ss :=
  (.cons (.asg (.name 2) (.call 30 (.cons (.var 0) .nil))) 
  (.cons (.asg (.sub (.var 0) (.cst (.int (1)))) (.bin .Add (.idx (.var 0) (.cst (.int (1)))) (.cst (.int (1))))) 
  (.cons (.ite (.tst (.cmp .NotEq (.var 2) (.cst (.str [123])))) 
    (.cons (.ret (.tup (.cons (.dsel [[42], [43], [63]] [(.str [115, 116, 97, 114]), (.str [112, 108, 117, 115]), (.str [109, 97, 121, 98, 101])] (.var 2)) (.cons (.var 1) .nil)))) .nil) .nil) 
  (.cons (.asg (.name 3) (.call 33 (.cons (.var 0) (.cons (.cst (.int (1))) (.cons (.cst (.int (4))) .nil))))) 
  (.cons (.expr (.call 31 (.cons (.var 0) (.cons (.cst (.str [125])) .nil)))) 
  (.cons (.ret (.tup (.cons (.cst (.str [117, 112, 116, 111])) (.cons (.var 1) (.cons (.var 3) .nil))))) .nil))))))
def b38 : Ss :=
  (.cons (.asg (.name 1) (.lst .nil)) 
  (.cons (.asg (.name 2) (.lst .nil)) 
  (.cons (.asg (.name 3) (.cst (.bl false))) 
  (.cons (.for_ (.name 4) (.range1 (.bin .Add (.bin .Mult (.cst (.int (2))) (.blt .len (.cons (.idx (.var 0) (.cst (.int (0)))) .nil))) (.cst (.int (2))))) 
    (.cons (.asg (.name 5) (.call 30 (.cons (.var 0) .nil))) 
    (.cons (.ite (.and_ (.not_ (.val (.var 3))) (.tst (.cmp .Eq (.var 5) (.cst (.str [40]))))) 
      (.cons (.expr (.mth .append (.var 2) (.cons (.var 5) .nil))) 
      (.cons (.asg (.sub (.var 0) (.cst (.int (1)))) (.bin .Add (.idx (.var 0) (.cst (.int (1)))) (.cst (.int (1))))) .nil)) 
      (.cons (.ite (.not_ (.val (.var 3))) 
        (.cons (.expr (.mth .append (.var 1) (.cons (.call 36 (.cons (.var 0) .nil)) .nil))) 
        (.cons (.asg (.name 3) (.cst (.bl true))) .nil)) 
        (.cons (.ite (.tst (.cmp .In (.var 5) (.lst (.cons (.cst (.str [42])) (.cons (.cst (.str [43])) (.cons (.cst (.str [63])) (.cons (.cst (.str [123])) .nil))))))) 
          (.cons (.expr (.mth .append (.var 1) (.cons (.call 37 (.cons (.var 0) (.cons (.mth .pop (.var 1) .nil) .nil))) .nil))) .nil) 
          (.cons (.ite (.tst (.cmp .Eq (.var 5) (.cst (.str [124])))) 
            (.cons (.expr (.call 34 (.cons (.var 1) (.cons (.var 2) (.cons (.lst (.cons (.cst (.str [116, 104, 101, 110])) (.cons (.cst (.str [111, 114])) .nil))) .nil))))) 
            (.cons (.expr (.mth .append (.var 2) (.cons (.cst (.str [111, 114])) .nil))) 
            (.cons (.asg (.sub (.var 0) (.cst (.int (1)))) (.bin .Add (.idx (.var 0) (.cst (.int (1)))) (.cst (.int (1))))) 
            (.cons (.asg (.name 3) (.cst (.bl false))) .nil)))) 
            (.cons (.ite (.or_ (.tst (.cmp .In (.var 5) (.lst (.cons (.cst (.str [40])) (.cons (.cst (.str [64])) (.cons (.cst (.str [97, 110, 121])) .nil)))))) (.val (.call 29 (.cons (.var 5) .nil)))) 
              (.cons (.expr (.call 34 (.cons (.var 1) (.cons (.var 2) (.cons (.lst (.cons (.cst (.str [116, 104, 101, 110])) .nil)) .nil))))) 
              (.cons (.expr (.mth .append (.var 2) (.cons (.cst (.str [116, 104, 101, 110])) .nil))) 
              (.cons (.asg (.name 3) (.cst (.bl false))) .nil))) 
              (.cons (.ite (.and_ (.tst (.cmp .Eq (.var 5) (.cst (.str [41])))) (.tst (.cmp .In (.cst (.str [40])) (.var 2)))) 
                (.cons (.expr (.call 34 (.cons (.var 1) (.cons (.var 2) (.cons (.lst (.cons (.cst (.str [116, 104, 101, 110])) (.cons (.cst (.str [111, 114])) .nil))) .nil))))) 
                (.cons (.expr (.mth .pop (.var 2) .nil)) 
                (.cons (.asg (.sub (.var 0) (.cst (.int (1)))) (.bin .Add (.idx (.var 0) (.cst (.int (1)))) (.cst (.int (1))))) .nil))) 
                (.cons .brk .nil)) .nil)) .nil)) .nil)) .nil)) .nil)) 
    (.cons (.ite (.val (.idx (.var 0) (.cst (.int (2))))) 
      (.cons (.ret (.tup .nil)) .nil) .nil) .nil)))) 
  (.cons (.ite (.tst (.cmp .In (.cst (.str [40])) (.var 2))) 
    (.cons (.asg (.sub (.var 0) (.cst (.int (2)))) (.cst (.bl true))) 
    (.cons (.ret (.tup .nil)) .nil)) .nil) 
  (.cons (.expr (.call 34 (.cons (.var 1) (.cons (.var 2) (.cons (.lst (.cons (.cst (.str [116, 104, 101, 110])) (.cons (.cst (.str [111, 114])) .nil))) .nil))))) 
  (.cons (.ret (.idx (.var 1) (.cst (.int (0))))) .nil)))))))
def b39 : Ss :=
  (.cons (.asg (.name 1) (.lst (.cons (.cst (.str [116, 97, 98, 108, 101])) .nil))) 
  (.cons (.for_ (.tup (.cons (.name 2) (.cons (.name 3) (.cons (.name 4) .nil)))) (.exp (.idx (.var 0) (.cst (.int (1))))) 
    (.cons (.ite (.tst (.cmp .Gt (.blt .len (.cons (.var 1) .nil)) (.cst (.int (1))))) 
      (.cons (.expr (.mth .append (.var 1) (.cons (.cst (.str [124])) .nil))) .nil) .nil) 
    (.cons (.asg (.name 1) (.bin .Add (.bin .Add (.bin .Add (.var 1) (.lst (.cons (.blt .str (.cons (.var 2) .nil)) (.cons (.idx (.var 3) (.cst (.int (0)))) (.cons (.idx (.var 3) (.cst (.int (1)))) (.cons (.cst (.str [91])) .nil)))))) (.blt .list (.cons (.idx (.var 3) (.cst (.int (2)))) .nil))) (.lst (.cons (.cst (.str [93])) (.cons (.blt .str (.cons (.var 4) .nil)) .nil))))) .nil))) 
  (.cons (.ret (.bin .Add (.var 1) (.lst (.cons (.cst (.str [102, 105, 110, 97, 108])) (.cons (.ife (.tst (.cmp .Is (.idx (.var 0) (.cst (.int (2)))) (.cst .non))) (.cst (.str [45])) (.blt .str (.cons (.idx (.var 0) (.cst (.int (2)))) .nil))) .nil))))) .nil)))
def b40 : Ss :=
  (.cons (.ite (.val (.isi (.var 1) .tuple)) 
    (.cons (.ite (.or_ (.not_ (.val (.isi (.var 0) .tuple))) (.tst (.cmp .NotEq (.blt .len (.cons (.var 0) .nil)) (.blt .len (.cons (.var 1) .nil))))) 
      (.cons (.ret (.cst (.bl false))) .nil) .nil) 
    (.cons (.ret (.blt .all (.cons (.comp [2] (.call 40 (.cons (.idx (.var 0) (.var 2)) (.cons (.idx (.var 1) (.var 2)) .nil))) (.name 2) (.range1 (.blt .len (.cons (.var 1) .nil))) .no) .nil))) .nil)) .nil) 
  (.cons (.ite (.tst (.cmp .Is (.var 1) (.cst .non))) 
    (.cons (.ret (.cmp .Is (.var 0) (.cst .non))) .nil) .nil) 
  (.cons (.ite (.val (.isi (.var 1) .bool)) 
    (.cons (.ret (.band (.isi (.var 0) .bool) (.cmp .Eq (.var 0) (.var 1)))) .nil) .nil) 
  (.cons (.ite (.val (.isi (.var 1) .int)) 
    (.cons (.ret (.band (.call 18 (.cons (.var 0) .nil)) (.cmp .Eq (.var 0) (.var 1)))) .nil) .nil) 
  (.cons (.ret (.band (.isi (.var 0) .str) (.cmp .Eq (.var 0) (.var 1)))) .nil)))))
def b41 : Ss :=
  (.cons (.asg (.name 2) (.cst (.int (0)))) 
  (.cons (.for_ (.name 3) (.range2 (.var 1) (.blt .len (.cons (.var 0) .nil))) 
    (.cons (.asg (.name 2) (.bin .Sub (.bin .Add (.var 2) (.blt .int (.cons (.cmp .Eq (.idx (.var 0) (.var 3)) (.cst (.str [40]))) .nil))) (.blt .int (.cons (.cmp .Eq (.idx (.var 0) (.var 3)) (.cst (.str [41]))) .nil)))) 
    (.cons (.ite (.tst (.cmp .Eq (.var 2) (.cst (.int (0))))) 
      (.cons (.ret (.var 3)) .nil) .nil) .nil))) 
  (.cons (.ret (.var 1)) .nil)))
def b42 : Ss :=
  (.cons (.asg (.name 1) (.lst (.cons (.var 0) (.cons (.cst (.int (0))) (.cons (.cst (.bl false)) (.cons (.cst (.int (0))) .nil)))))) 
  (.cons (.asg (.name 2) (.call 38 (.cons (.var 1) .nil))) 
  (.cons (.ret (.ife (.or_ (.val (.idx (.var 1) (.cst (.int (2))))) (.tst (.cmp .Lt (.idx (.var 1) (.cst (.int (1)))) (.blt .len (.cons (.var 0) .nil))))) (.cst .non) (.var 2))) .nil)))
def b43 : Ss :=
  (.cons (.ite (.tst (.cmp .Eq (.idx (.var 0) (.cst (.int (0)))) (.cst (.str [116, 97, 98, 108, 101])))) 
    (.cons (.ret (.cmp .Eq (.var 1) (.call 39 (.cons (.var 0) .nil)))) .nil) .nil) 
  (.cons (.ite (.not_ (.val (.call 40 (.cons (.call 42 (.cons (.var 1) .nil)) (.cons (.var 0) .nil))))) 
    (.cons (.ret (.cst (.bl false))) .nil) .nil) 
  (.cons (.for_ (.name 2) (.range1 (.blt .len (.cons (.var 1) .nil))) 
    (.cons (.ite (.tst (.cmp .Eq (.idx (.var 1) (.var 2)) (.cst (.str [40])))) 
      (.cons (.asg (.name 3) (.call 41 (.cons (.var 1) (.cons (.var 2) .nil)))) 
      (.cons (.ite (.val (.call 40 (.cons (.call 42 (.cons (.bin .Add (.bin .Add (.slc (.var 1) .no (.yes (.var 2))) (.slc (.var 1) (.yes (.bin .Add (.var 2) (.cst (.int (1))))) (.yes (.var 3)))) (.slc (.var 1) (.yes (.bin .Add (.var 3) (.cst (.int (1))))) .no)) .nil)) (.cons (.var 0) .nil)))) 
        (.cons (.ret (.cst (.bl false))) .nil) .nil) .nil)) .nil) .nil)) 
  (.cons (.ret (.cst (.bl true))) .nil))))
def b44 : Ss :=
  (.cons (.asg (.name 1) (.call 14 (.cons (.var 0) .nil))) 
  (.cons (.asg (.name 2) (.call 28 (.cons (.var 1) (.cons (.cst (.int (200))) (.cons (.cst (.int (24))) .nil))))) 
  (.cons (.asg (.name 3) (.call 28 (.cons (.var 1) (.cons (.cst (.int (0))) (.cons (.cst (.int (6))) .nil))))) 
  (.cons (.for_ (.name 4) (.exp (.lst (.cons (.var 2) (.cons (.var 3) (.cons (.var 2) .nil))))) 
    (.cons (.asg (.name 5) (.call 1 (.cons (.var 4) .nil))) 
    (.cons (.ite (.or_ (.not_ (.val (.isi (.var 5) .str))) (.not_ (.val (.call 43 (.cons (.var 4) (.cons (.mth .split (.var 5) (.cons (.cst (.str [32])) .nil)) .nil)))))) 
      (.cons (.ret (.cst (.bl false))) .nil) .nil) 
    (.cons (.asg (.name 6) (.call 20 (.cons (.var 1) .nil))) 
    (.cons (.ite (.tst (.cmp .NotEq (.call 0 (.cons (.tup (.cons (.tup (.cons (.cst (.str [119, 97, 108, 107])) (.cons (.var 6) (.cons (.var 4) .nil)))) .nil)) .nil)) (.bin .Add (.bin .Add (.bin .Add (.bin .Add (.cst (.str [119, 97, 108, 107, 32])) (.var 6)) (.cst (.str [32, 61, 32]))) (.var 5)) (.cst (.str [32, 59, 10]))))) 
      (.cons (.ret (.cst (.bl false))) .nil) .nil) .nil))))) 
  (.cons (.ret (.cst (.bl true))) .nil)))))

def fns : List Fi := [⟨1, 2, b0⟩, ⟨1, 1, b1⟩, ⟨1, 1, b2⟩, ⟨1, 2, b3⟩, ⟨1, 11, b4⟩, ⟨1, 4, b5⟩, ⟨3, 3, b6⟩, ⟨2, 2, b7⟩, ⟨1, 2, b8⟩, ⟨1, 8, b9⟩, ⟨2, 2, b10⟩, ⟨1, 2, b11⟩, ⟨1, 4, b12⟩, ⟨1, 1, b13⟩, ⟨1, 2, b14⟩, ⟨2, 5, b15⟩, ⟨2, 2, b16⟩, ⟨2, 2, b17⟩, ⟨1, 1, b18⟩, ⟨0, 1, b19⟩, ⟨1, 6, b20⟩, ⟨3, 6, b21⟩, ⟨2, 3, b22⟩, ⟨1, 3, b23⟩, ⟨4, 9, b24⟩, ⟨2, 2, b25⟩, ⟨1, 2, b26⟩, ⟨2, 4, b27⟩, ⟨3, 4, b28⟩, ⟨1, 2, b29⟩, ⟨1, 1, b30⟩, ⟨2, 2, b31⟩, ⟨1, 2, b32⟩, ⟨3, 6, b33⟩, ⟨3, 6, b34⟩, ⟨2, 5, b35⟩, ⟨1, 2, b36⟩, ⟨2, 4, b37⟩, ⟨1, 6, b38⟩, ⟨1, 5, b39⟩, ⟨2, 3, b40⟩, ⟨2, 4, b41⟩, ⟨1, 3, b42⟩, ⟨2, 4, b43⟩, ⟨1, 7, b44⟩]
def cst : List D := [.dic [[111, 114], [116, 104, 101, 110], [97, 110, 100]] [.int (0), .int (1), .int (1)], .int (2), .dic [[115, 116, 97, 114], [112, 108, 117, 115], [109, 97, 121, 98, 101]] [.str [42], .str [43], .str [63]]]
end K09

set_option Elab.async false
set_option linter.all false
set_option maxRecDepth 100000
set_option maxHeartbeats 4000000
namespace K09
open PySem Dq L2
local macro_rules | `(tactic| walk_at "wp") => `(tactic| simp only [wpS, wpE, wpEo, wpEs, wpT, wpTeo, wpTg, wpTgs, wpI, immD, truW_bl, truW_int, truW_str, truW_tup, truW_loc, idxW_dic, inW_dic, splW_tup, splW_flst, splW_loc, blt_str, blt_intS, mth_extend, mth_split, mth_partition, mth_startswith, mth_removeprefix, mth_pop, mthTy_pop, mthTy_ext, mthTy_split, mthTy_part, mthTy_starts, mthTy_rmp, idxW_str, idxW_tup, idxW_flst, idxW_loc, idlW_loc, setW_loc, slcW_str, slcW_loc, binW_add, binW_addS, binW_addL, binW_addT, binW_mulT, blt_srtT, blt_srtL, slcW_tup, blt_lstT, binW_sub, binW_mul, binW_fdiv, binW_mod, binW_pow, binW_shl, augW_add, augW_addS, augW_sub,
  cmpW_eq, cmpW_ne, eqW_strs, eqW_ints, inW_strs, inW_loc, inW_tup, flatD, atI_m1, cmpW_in, cmpW_ni, cmpW_lt, cmpW_le, cmpW_gt, cmpW_ge, cmpW_is, cmpW_isn, lenW_loc, lenW_str, lenW_tup, lenW_flst, blt_len, blt_abs, blt_max, blt_min, blt_int, blt_intB, blt_tup, blt_all, blt_any, mth_append, mth_join, mthTy_join, mthTy_app, seqW_str, seqW_tup, seqW_flst, seqW_loc, lenTs, slT, slTs,
  List.getElem?_cons_zero, List.getElem?_cons_succ, List.set_cons_zero, List.set_cons_succ, Option.some.injEq, exists_eq_left', exists_eq_left, true_and, and_true, D.bl.injEq, D.int.injEq, D.loc.injEq, D.str.injEq, D.tup.injEq, Cell.lst.injEq, atI_0, atI_1, atI_2, atI_3, atI_4, decide_eq_true_eq, List.map, List.length_cons, List.length_nil, List.replicate, List.cons_append, List.nil_append, Nat.reduceAdd, Nat.reduceSub, Nat.zero_add, wipeE, isiB, eqF_str, List.any_cons, List.any_nil, List.all_cons, List.all_nil, Bool.or_false, Bool.and_true, Bool.and_self, bnot_t, Bool.true_eq_false, decide_eq_false_iff_not, eq_self, not_true_eq_false, not_false_eq_true, if_true, if_false, Bool.false_eq_true, Bool.not_true, Bool.not_false])
local macro_rules | `(tactic| walk_at "nil") => `(tactic| simp only [wpSs_nil])

local macro_rules | `(tactic| walk_at "st") => `(tactic| (refine wp_cons ?_; walk_at "wp"))
local macro_rules | `(tactic| walk_at "no") => `(tactic| (refine wp_cons ?_; walk_at "wp"; refine ite_no (by decide) ?_; walk_at "nil"))
local macro_rules | `(tactic| walk_at "yes") => `(tactic| (refine wp_cons ?_; walk_at "wp"; refine ite_yes (by decide) ?_))
/-! ### walks as the program has them -/
def testsD (ts : List (S × Bool)) : D := .tup (ts.map fun p => .tup [.str p.1, .bl p.2])
def toD : W → D
  | .named n => .tup [.str kNamed, .str n]
  | .step t ts => .tup [.str kStep, .str t, testsD ts]
  | .un g w => .tup [.str g.kind, toD w]
  | .upto w n => .tup [.str kUpto, toD w, .int n]
  | .thn a b => .tup [.str kThen, toD a, toD b]
  | .or a b => .tup [.str kOr, toD a, toD b]
def dp : W → Nat
  | .un _ w => dp w + 1
  | .upto w _ => dp w + 1
  | .thn a b => max (dp a) (dp b) + 1
  | .or a b => max (dp a) (dp b) + 1
  | _ => 0
theorem part_len (c : W) (t : Nat) : (partT c t).length ≤ (walkT c).length + 2 := by
  unfold partT
  split <;> simp <;> omega
theorem test_len {ts : List (S × Bool)} (h : ts.length ≤ 3) : (testT ts).length ≤ 8 := by
  have := (testB_len ts).2
  simp [testT]
  omega
theorem walk_len : ∀ c : W, Ok c → (walkT c).length + 6 ≤ 16 * 2 ^ dp c
  | .named _, _ => by rw [walkT]; simp [dp]
  | .step t ts, ok => by
    have := test_len ok.2.2
    rw [walkT]
    split
    · simp [dp]
    · simp [dp]
      omega
  | .un g w, ok => by
    have h := walk_len w ok
    have := part_len w 2
    rw [walkT_un, dp, Nat.pow_succ]
    simp
    omega
  | .upto w n, ok => by
    have h := walk_len w ok.1
    have := part_len w 2
    rw [walkT_upto, dp, Nat.pow_succ]
    simp
    omega
  | .thn a b, ok => by
    have h := walk_len a ok.1
    have h2 := walk_len b ok.2
    have := part_len a 1
    have := part_len b 2
    have e1 : 2 ^ dp a ≤ 2 ^ max (dp a) (dp b) := Nat.pow_le_pow_right (by decide) (Nat.le_max_left _ _)
    have e2 : 2 ^ dp b ≤ 2 ^ max (dp a) (dp b) := Nat.pow_le_pow_right (by decide) (Nat.le_max_right _ _)
    rw [walkT_thn, dp, Nat.pow_succ]
    simp
    omega
  | .or a b, ok => by
    have h := walk_len a ok.1
    have h2 := walk_len b ok.2
    have := part_len a 0
    have := part_len b 1
    have e1 : 2 ^ dp a ≤ 2 ^ max (dp a) (dp b) := Nat.pow_le_pow_right (by decide) (Nat.le_max_left _ _)
    have e2 : 2 ^ dp b ≤ 2 ^ max (dp a) (dp b) := Nat.pow_le_pow_right (by decide) (Nat.le_max_right _ _)
    rw [walkT_or, dp, Nat.pow_succ]
    simp
    omega
theorem walk_len' {c : W} (ok : Ok c) (h : dp c ≤ 12) : (walkT c).length ≤ 65536 := by
  have := walk_len c ok
  have e1 : 2 ^ dp c ≤ 2 ^ 12 := Nat.pow_le_pow_right (by decide) h
  omega
def Gives (ws : List S) (st : Sto) (w : D) (s : Sto) : Prop := ∃ m, w = .loc m ∧ s[m]? = some (.lst (ws.map .str)) ∧ Ex st s
theorem gives_new {ws : List S} {st s : Sto} (h : Ex st s) : Gives ws st (.loc s.length) (s ++ [.lst (ws.map .str)]) := ⟨_, rfl, new_get, h.app _⟩
theorem app_set {st : Sto} {c c' : Cell} : (st ++ [c]).set st.length c' = st ++ [c'] := by simp
theorem fr_ex {L : Nat} {c : Cell} {st s : Sto} (h : Fr1 L c st s) (hL : L = st.length) : Ex st s := by
  subst hL
  refine ⟨s.drop st.length, ?_⟩
  have hl := get_lt h.get
  refine List.ext_getElem? fun i => ?_
  by_cases hi : i < st.length
  · rw [List.getElem?_append_left hi]
    exact h.low i hi
  · rw [List.getElem?_append_right (by omega), List.getElem?_drop, Nat.add_sub_cancel' (by omega)]
theorem tests_spec (ts : List (S × Bool)) (hl : ts.length ≤ 1000) (st : Sto) : callW fns cst 1 5 [testsD ts] st (Gives (testT ts) st) := by
  have hz := sizeLine_eq
  have hc : CalLe (callW fns cst 0) (callW fns cst 0) := callW_le (Nat.le_refl _)
  refine ⟨_, rfl, rfl, ?_⟩
  generalize hP : Gives (testT ts) st = P
  unfold b5 testsD
  walk_at "st"
  refine ⟨by omega, ?_⟩
  refine wp_cons ?_
  refine wp_cut hc (fun en s => ∃ x2 x3, en = [some (.tup (ts.map fun p => .tup [.str p.1, .bl p.2])), some (.loc st.length), x2, x3] ∧ s = st ++ [.lst ((kLB :: testB ts).map .str)]) ?_ fun en s hM => ?_
  · refine wp_forJ hc ?_
    walk_at "wp"
    refine ⟨fun pre e s => ∃ (us : List (S × Bool)) (x2 x3 : Option D), pre = us.map (fun p => D.tup [.str p.1, .bl p.2]) ∧ e = [some (.tup (ts.map fun p => .tup [.str p.1, .bl p.2])), some (.loc st.length), x2, x3] ∧ s = st ++ [.lst ((kLB :: testB us).map .str)], ⟨[], _, _, rfl, rfl, rfl⟩, fun pre w post e s ee hJ => ?_, fun e s hJ => ?_⟩
    · obtain ⟨us, x2, x3, rfl, rfl, rfl⟩ := hJ
      obtain ⟨u1, u2, e1, e2, e3⟩ := List.map_eq_append_iff.mp ee
      obtain ⟨⟨m, b⟩, u3, e4, e5, e6⟩ := List.map_eq_cons_iff.mp e3
      have inj : ∀ a b : List (S × Bool), a.map (fun p => D.tup [.str p.1, .bl p.2]) = b.map (fun p => D.tup [.str p.1, .bl p.2]) → a = b := by
        intro a
        induction a with
        | nil => intro b h; cases b with
          | nil => rfl
          | cons => simp at h
        | cons x a ih => intro b h; cases b with
          | nil => simp at h
          | cons y b =>
            simp at h
            obtain ⟨⟨h1, h2⟩, h3⟩ := h
            rw [ih b (by simpa using h3)]
            exact congrArg (· :: b) (Prod.ext h1 h2)
      have hu : u1 = us := inj _ _ e2
      subst hu
      subst e5
      have hul : u1.length + 1 ≤ ts.length := by
        rw [e1, e4]
        simp
      have hbl := (testB_len u1).2
      refine ⟨trivial, ?_⟩
      walk_at "wp"
      refine ⟨_, _, rfl, _, _, rfl, rfl, ?_⟩
      refine wp_cons ?_
      have tB : testB (u1 ++ [(m, b)]) = testB u1 ++ (if b = true then [m] else [kMinus, m]) := by
        clear e1 e2 hul hbl ee inj
        induction u1 with
        | nil => cases b <;> rfl
        | cons x u ih =>
          obtain ⟨n, c⟩ := x
          show (if c = true then [n] else [kMinus, n]) ++ testB (u ++ [(m, b)]) = _
          rw [ih, ← List.append_assoc]
          rfl
      cases b with
      | true =>
        walk_at "wp"
        walk_at "nil"
        walk_at "st"
        refine ⟨⟨_, new_get⟩, _, new_get, by simp; omega, ?_⟩
        walk_at "nil"
        refine ⟨u1 ++ [(m, true)], _, _, by simp, rfl, ?_⟩
        rw [app_set, tB]
        simp
      | false =>
        walk_at "wp"
        walk_at "st"
        refine ⟨⟨_, new_get⟩, _, new_get, by simp; omega, ?_⟩
        walk_at "nil"
        rw [app_set]
        walk_at "st"
        refine ⟨⟨_, new_get⟩, _, new_get, by simp; omega, ?_⟩
        walk_at "nil"
        refine ⟨u1 ++ [(m, false)], _, _, by simp, rfl, ?_⟩
        rw [app_set, tB]
        simp [kMinus]
    · obtain ⟨us, x2, x3, e1, rfl, rfl⟩ := hJ
      have inj : ∀ a b : List (S × Bool), a.map (fun p => D.tup [.str p.1, .bl p.2]) = b.map (fun p => D.tup [.str p.1, .bl p.2]) → a = b := by
        intro a
        induction a with
        | nil => intro b h; cases b with
          | nil => rfl
          | cons => simp at h
        | cons x a ih => intro b h; cases b with
          | nil => simp at h
          | cons y b =>
            simp at h
            obtain ⟨⟨h1, h2⟩, h3⟩ := h
            rw [ih b (by simpa using h3)]
            exact congrArg (· :: b) (Prod.ext h1 h2)
      have := inj _ _ e1
      subst this
      exact ⟨trivial, _, _, rfl, rfl⟩
  · obtain ⟨x2, x3, rfl, rfl⟩ := hM
    walk_at "st"
    have hbl := (testB_len ts).2
    refine ⟨_, new_get, by simp; omega, ?_⟩
    rw [← hP]
    have e : D.str kLB :: ((testB ts).map D.str) ++ [D.str [93]] = (testT ts).map D.str := by simp [testT, kRB]
    rw [e]
    exact gives_new (ws := testT ts) ⟨_, rfl⟩

/-! ### guarded -/
def kind : W → S
  | .named _ => kNamed
  | .step _ _ => kStep
  | .un g _ => g.kind
  | .upto _ _ => kUpto
  | .thn _ _ => kThen
  | .or _ _ => kOr
theorem toD_0 (c : W) : ∃ ws, toD c = .tup (.str (kind c) :: ws) := by cases c <;> exact ⟨_, rfl⟩
theorem kind_tight (c : W) : (dicL [[111, 114], [116, 104, 101, 110], [97, 110, 100]] [.int (0), .int (1), .int (1)] (kind c) = some (.int (tight c : Nat))) ∨ (dicL [[111, 114], [116, 104, 101, 110], [97, 110, 100]] [.int (0), .int (1), .int (1)] (kind c) = none ∧ tight c = 2) := by
  cases c with
  | or _ _ => exact .inl rfl
  | thn _ _ => exact .inl rfl
  | un g _ => cases g <;> exact .inr ⟨rfl, rfl⟩
  | _ => exact .inr ⟨rfl, rfl⟩
theorem guarded_spec {ws : List S} {st : Sto} {c : W} {t m : Nat} (h : st[m]? = some (.lst (ws.map .str))) (hl : ws.length ≤ 1000000) : callW fns cst 1 6 [.loc m, .str (kind c), .int t] st (Gives (if tight c < t then kOpen :: (ws ++ [kShut]) else ws) st) := by
  have hz := sizeLine_eq
  refine ⟨_, rfl, rfl, ?_⟩
  generalize hP : Gives (if tight c < t then kOpen :: (ws ++ [kShut]) else ws) st = P
  have yes : tight c < t → P (.loc st.length) (st ++ [.lst (D.str [40] :: (ws.map D.str ++ [D.str [41]]))]) := fun hlt => by
    rw [if_pos hlt] at hP
    rw [← hP]
    have e2 : D.str [40] :: (ws.map D.str ++ [D.str [41]]) = (kOpen :: (ws ++ [kShut])).map D.str := by simp [kOpen, kShut]
    rw [e2]
    exact gives_new (.refl _)
  have no : ¬ tight c < t → P (.loc m) st := fun hlt => by
    rw [if_neg hlt] at hP
    rw [← hP]
    exact ⟨m, rfl, h, .refl _⟩
  unfold b6
  refine wp_cons ?_
  walk_at "wp"
  refine ⟨_, rfl, _, _, rfl, _, rfl, ?_⟩
  rcases kind_tight c with e | ⟨e, h2⟩
  · refine .inl ⟨_, e, ?_⟩
    walk_at "wp"
    split
    · walk_at "st"
      simp only [h]
      walk_at "wp"
      exact ⟨by simp; omega, yes (by omega)⟩
    · walk_at "nil"
      walk_at "st"
      exact no (by omega)
  · refine .inr ⟨e, ?_⟩
    walk_at "wp"
    split
    · walk_at "st"
      simp only [h]
      walk_at "wp"
      exact ⟨by simp; omega, yes (by omega)⟩
    · walk_at "nil"
      walk_at "st"
      exact no (by omega)
/-! ### walks written -/
theorem part_spec {c : W} {n t : Nat} (ok : Ok c) (hd : dp c ≤ 12) (ih : ∀ st, callW fns cst n 8 [toD c] st (Gives (walkT c) st)) (hn : 1 ≤ n) (st : Sto) : callW fns cst (n + 1) 7 [toD c, .int t] st (Gives (partT c t) st) := by
  refine ⟨_, rfl, rfl, ?_⟩
  generalize hP : Gives (partT c t) st = P
  obtain ⟨ws, e⟩ := toD_0 c
  unfold b7
  refine wp_cons ?_
  walk_at "wp"
  refine call_mono (ih st) fun w s q => ?_
  obtain ⟨m, rfl, hm, ex⟩ := q
  rw [e]
  walk_at "wp"
  refine call_up (guarded_spec hm (by have := walk_len' ok hd; omega)) hn fun w s2 q => ?_
  obtain ⟨m2, rfl, hm2, ex2⟩ := q
  rw [← hP]
  exact ⟨m2, rfl, hm2, ex.trans ex2⟩
theorem strI_num {n : Int} (h1 : 1 ≤ n) (h4 : n ≤ 4) : strI n = numT n := by
  obtain ⟨m, rfl⟩ : ∃ m : Nat, n = m := ⟨n.toNat, by omega⟩
  rw [strI_nat, TL.numL_lt (by omega)]
  unfold numT
  rw [Int.toNat_natCast]
theorem log_small {g : Int} (h1 : 0 ≤ g) (h2 : g ≤ 9999) : g.natAbs.log2 < 1920 := by
  by_cases z : g.natAbs = 0
  · rw [z]
    decide
  · have h : g.natAbs < 2 ^ 14 := by omega
    have := (Nat.log2_lt z).mpr h
    omega
theorem walk_spec : ∀ (c : W), Ok c → dp c ≤ 12 → ∀ st, callW fns cst (2 * dp c + 2) 8 [toD c] st (Gives (walkT c) st)
  | .named n, ok, hd, st => by
    have hz := sizeLine_eq
    refine ⟨_, rfl, rfl, ?_⟩
    generalize hP : Gives (walkT (.named n)) st = P
    unfold b8 toD
    walk_at "st"
    walk_at "no"
    walk_at "yes"
    walk_at "st"
    refine ⟨by omega, ?_⟩
    rw [← hP, walkT]
    exact gives_new (.refl _)
  | .step t ts, ok, hd, st => by
    have hz := sizeLine_eq
    refine ⟨_, rfl, rfl, ?_⟩
    generalize hP : Gives (walkT (.step t ts)) st = P
    unfold b8 toD
    walk_at "st"
    walk_at "no"
    walk_at "no"
    walk_at "yes"
    refine wp_cons ?_
    unfold testsD
    walk_at "wp"
    rw [walkT] at hP
    cases ts with
    | nil =>
      refine ite_no (by simp) ?_
      refine ⟨by omega, ?_⟩
      rw [← hP]
      exact gives_new (.refl _)
    | cons p ts =>
      refine ite_yes (by simp) ?_
      have ht := tests_spec (p :: ts) (by have := ok.2.2; omega) st
      unfold testsD at ht
      refine call_up ht (by omega) fun w s1 q => ?_
      obtain ⟨m1, rfl, h1, x1⟩ := q
      walk_at "wp"
      simp only [h1]
      walk_at "wp"
      have := test_len ok.2.2
      refine ⟨by simp; omega, ?_⟩
      rw [if_neg (by simp)] at hP
      rw [← hP]
      have e : D.str t :: ((testT (p :: ts)).map D.str ++ []) = (t :: testT (p :: ts)).map D.str := by simp
      rw [e]
      exact gives_new x1
  | .un g a, ok, hd, st => by
    have hz := sizeLine_eq
    have hda : dp a ≤ 12 := by rw [dp] at hd; omega
    have hla := walk_len' (c := .un g a) ok hd
    refine ⟨_, rfl, rfl, ?_⟩
    rw [show 2 * dp (.un g a) + 1 = (2 * dp a + 2) + 1 by rw [dp]; omega]
    rw [walkT_un] at *
    generalize hP : Gives (partT a 2 ++ [g.sign]) st = P
    have ia := walk_spec a ok hda
    have sg : dicL [[115, 116, 97, 114], [112, 108, 117, 115], [109, 97, 121, 98, 101]] [D.str [42], D.str [43], D.str [63]] g.kind = some (.str g.sign) := by cases g <;> rfl
    have nk : ∀ k ∈ [[116, 97, 98, 108, 101], [110, 97, 109, 101, 100], [115, 116, 101, 112], [111, 114], [116, 104, 101, 110], [117, 112, 116, 111]], ¬ (g.kind == k) = true := by cases g <;> decide
    unfold b8 toD
    walk_at "st"
    walk_at "st"
    refine ite_no (nk _ (by decide)) ?_
    walk_at "nil"
    walk_at "st"
    refine ite_no (nk _ (by decide)) ?_
    walk_at "nil"
    walk_at "st"
    refine ite_no (nk _ (by decide)) ?_
    walk_at "nil"
    walk_at "st"
    refine ite_no (nk _ (by decide)) ?_
    walk_at "nil"
    walk_at "st"
    refine ite_no (nk _ (by decide)) ?_
    walk_at "nil"
    walk_at "st"
    refine ite_no (nk _ (by decide)) ?_
    walk_at "nil"
    walk_at "st"
    refine call_mono (part_spec (c := a) (t := 2) ok hda ia (by omega) _) fun w s1 q => ?_
    obtain ⟨m1, rfl, h1, x1⟩ := q
    walk_at "wp"
    simp only [h1]
    walk_at "wp"
    refine ⟨_, rfl, ?_⟩
    walk_at "wp"
    refine ⟨_, sg, by simp at hla ⊢; omega, ?_⟩
    rw [← hP]
    have e : (partT a 2).map D.str ++ [D.str g.sign] = (partT a 2 ++ [g.sign]).map D.str := by simp
    rw [e]
    exact gives_new x1
  | .upto a n, ok, hd, st => by
    have hz := sizeLine_eq
    have hda : dp a ≤ 12 := by rw [dp] at hd; omega
    have hla := walk_len' (c := .upto a n) ok hd
    refine ⟨_, rfl, rfl, ?_⟩
    rw [show 2 * dp (.upto a n) + 1 = (2 * dp a + 2) + 1 by rw [dp]; omega]
    rw [walkT_upto] at *
    generalize hP : Gives (partT a 2 ++ [kBrace, numT n, kUnbr]) st = P
    have ia := walk_spec a ok.1 hda
    unfold b8 toD
    walk_at "st"
    walk_at "no"
    walk_at "no"
    walk_at "no"
    walk_at "no"
    walk_at "no"
    walk_at "yes"
    walk_at "st"
    refine call_mono (part_spec (t := 2) ok.1 hda ia (by omega) _) fun w s1 q => ?_
    obtain ⟨m1, rfl, h1, x1⟩ := q
    walk_at "wp"
    simp only [h1]
    walk_at "wp"
    refine ⟨log_small (by have := ok.2.1; omega) (by have := ok.2.2; omega), by simp at hla ⊢; omega, ?_⟩
    rw [← hP, strI_num ok.2.1 ok.2.2]
    have e : (partT a 2).map D.str ++ [D.str [123], D.str (numT n), D.str [125]] = (partT a 2 ++ [kBrace, numT n, kUnbr]).map D.str := by simp [kBrace, kUnbr]
    rw [e]
    exact gives_new x1
  | .thn a b, ok, hd, st => by
    have hz := sizeLine_eq
    have hda : dp a ≤ 12 := by rw [dp] at hd; omega
    have hdb : dp b ≤ 12 := by rw [dp] at hd; omega
    have hla := walk_len' (c := .thn a b) ok hd
    refine ⟨_, rfl, rfl, ?_⟩
    have ia : ∀ st, callW fns cst (2 * max (dp a) (dp b) + 2) 8 [toD a] st (Gives (walkT a) st) := fun st => call_up (walk_spec a ok.1 hda st) (by omega) fun _ _ q => q
    have ib : ∀ st, callW fns cst (2 * max (dp a) (dp b) + 2) 8 [toD b] st (Gives (walkT b) st) := fun st => call_up (walk_spec b ok.2 hdb st) (by omega) fun _ _ q => q
    rw [show 2 * dp (.thn a b) + 1 = (2 * max (dp a) (dp b) + 2) + 1 by rw [dp]; omega]
    rw [walkT_thn] at *
    generalize hP : Gives (partT a 1 ++ partT b 2) st = P
    unfold b8 toD
    walk_at "st"
    walk_at "no"
    walk_at "no"
    walk_at "no"
    walk_at "no"
    walk_at "yes"
    walk_at "st"
    refine call_mono (part_spec (t := 1) ok.1 hda ia (by omega) _) fun w s1 q => ?_
    obtain ⟨m1, rfl, h1, x1⟩ := q
    walk_at "wp"
    simp only [h1]
    walk_at "wp"
    refine call_mono (part_spec (t := 2) ok.2 hdb ib (by omega) _) fun w s2 q => ?_
    obtain ⟨m2, rfl, h2, x2⟩ := q
    walk_at "wp"
    simp only [h2]
    walk_at "wp"
    refine ⟨by simp at hla ⊢; omega, ?_⟩
    rw [← hP]
    have e : (partT a 1).map D.str ++ ((partT b 2).map D.str ++ []) = (partT a 1 ++ partT b 2).map D.str := by simp
    rw [e]
    exact gives_new (x1.trans x2)
  | .or a b, ok, hd, st => by
    have hz := sizeLine_eq
    have hda : dp a ≤ 12 := by rw [dp] at hd; omega
    have hdb : dp b ≤ 12 := by rw [dp] at hd; omega
    have hla := walk_len' (c := .or a b) ok hd
    refine ⟨_, rfl, rfl, ?_⟩
    have ia : ∀ st, callW fns cst (2 * max (dp a) (dp b) + 2) 8 [toD a] st (Gives (walkT a) st) := fun st => call_up (walk_spec a ok.1 hda st) (by omega) fun _ _ q => q
    have ib : ∀ st, callW fns cst (2 * max (dp a) (dp b) + 2) 8 [toD b] st (Gives (walkT b) st) := fun st => call_up (walk_spec b ok.2 hdb st) (by omega) fun _ _ q => q
    rw [show 2 * dp (.or a b) + 1 = (2 * max (dp a) (dp b) + 2) + 1 by rw [dp]; omega]
    rw [walkT_or] at *
    generalize hP : Gives (partT a 0 ++ kBar :: partT b 1) st = P
    unfold b8 toD
    walk_at "st"
    walk_at "no"
    walk_at "no"
    walk_at "no"
    walk_at "yes"
    walk_at "st"
    refine call_mono (part_spec (t := 0) ok.1 hda ia (by omega) _) fun w s1 q => ?_
    obtain ⟨m1, rfl, h1, x1⟩ := q
    walk_at "wp"
    simp only [h1]
    walk_at "wp"
    refine call_mono (part_spec (t := 1) ok.2 hdb ib (by omega) _) fun w s2 q => ?_
    obtain ⟨m2, rfl, h2, x2⟩ := q
    walk_at "wp"
    simp only [h2]
    walk_at "wp"
    refine ⟨by simp at hla ⊢; omega, ?_⟩
    rw [← hP]
    have e : (partT a 0).map D.str ++ (D.str [124] :: ((partT b 1).map D.str ++ [])) = (partT a 0 ++ kBar :: partT b 1).map D.str := by simp [kBar]
    rw [e]
    exact gives_new (x1.trans x2)
end K09

set_option Elab.async false
set_option linter.all false
set_option maxRecDepth 100000
set_option maxHeartbeats 4000000
namespace K09
open PySem Dq L2
local macro_rules | `(tactic| walk_at "wp") => `(tactic| simp only [wpS, wpE, wpEo, wpEs, wpT, wpTeo, wpTg, wpTgs, wpI, immD, truW_bl, truW_int, truW_str, truW_tup, truW_loc, idxW_dic, inW_dic, splW_tup, splW_flst, splW_loc, blt_str, blt_intS, mth_extend, mth_split, mth_partition, mth_startswith, mth_removeprefix, mth_pop, mthTy_pop, mthTy_ext, mthTy_split, mthTy_part, mthTy_starts, mthTy_rmp, idxW_str, idxW_tup, idxW_flst, idxW_loc, idlW_loc, setW_loc, slcW_str, slcW_loc, binW_add, binW_addS, binW_addL, binW_addT, binW_mulT, blt_srtT, blt_srtL, slcW_tup, blt_lstT, binW_sub, binW_mul, binW_fdiv, binW_mod, binW_pow, binW_shl, augW_add, augW_addS, augW_sub,
  cmpW_eq, cmpW_ne, eqW_strs, eqW_ints, inW_strs, inW_loc, inW_tup, flatD, atI_m1, cmpW_in, cmpW_ni, cmpW_lt, cmpW_le, cmpW_gt, cmpW_ge, cmpW_is, cmpW_isn, lenW_loc, lenW_str, lenW_tup, lenW_flst, blt_len, blt_abs, blt_max, blt_min, blt_int, blt_intB, blt_tup, blt_all, blt_any, mth_append, mth_join, mthTy_join, mthTy_app, seqW_str, seqW_tup, seqW_flst, seqW_loc, lenTs, slT, slTs,
  List.getElem?_cons_zero, List.getElem?_cons_succ, List.set_cons_zero, List.set_cons_succ, Option.some.injEq, exists_eq_left', exists_eq_left, true_and, and_true, D.bl.injEq, D.int.injEq, D.loc.injEq, D.str.injEq, D.tup.injEq, Cell.lst.injEq, atI_0, atI_1, atI_2, atI_3, atI_4, decide_eq_true_eq, List.map, List.length_cons, List.length_nil, List.replicate, List.cons_append, List.nil_append, Nat.reduceAdd, Nat.reduceSub, Nat.zero_add, wipeE, isiB, eqF_str, List.any_cons, List.any_nil, List.all_cons, List.all_nil, Bool.or_false, Bool.and_true, Bool.and_self, bnot_t, Bool.true_eq_false, decide_eq_false_iff_not, eq_self, not_true_eq_false, not_false_eq_true, if_true, if_false, Bool.false_eq_true, Bool.not_true, Bool.not_false])
local macro_rules | `(tactic| walk_at "nil") => `(tactic| simp only [wpSs_nil])

local macro_rules | `(tactic| walk_at "st") => `(tactic| (refine wp_cons ?_; walk_at "wp"))
local macro_rules | `(tactic| walk_at "no") => `(tactic| (refine wp_cons ?_; walk_at "wp"; refine ite_no (by decide) ?_; walk_at "nil"))
local macro_rules | `(tactic| walk_at "yes") => `(tactic| (refine wp_cons ?_; walk_at "wp"; refine ite_yes (by decide) ?_))
/-! ### the text -/
def sumL (ws : List S) : Nat := (ws.map (·.length)).sum
theorem joinL_len : ∀ ws : List S, (TL.joinL [32] ws).length ≤ sumL ws + ws.length
  | [] => Nat.zero_le _
  | [a] => by simp [TL.joinL, sumL]
  | a :: b :: r => by
    have := joinL_len (b :: r)
    rw [TL.joinL]
    simp [sumL] at this ⊢
    omega
theorem joinL_cons (a : S) {ws : List S} (h : ws ≠ []) : TL.joinL [32] (a :: ws) = a ++ (32 :: TL.joinL [32] ws) := by
  cases ws with
  | nil => exact absurd rfl h
  | cons b r => rfl
theorem joinL_snoc (z : S) : ∀ {ws : List S}, ws ≠ [] → TL.joinL [32] (ws ++ [z]) = TL.joinL [32] ws ++ (32 :: z)
  | [], h => absurd rfl h
  | [a], _ => rfl
  | a :: b :: r, _ => by
    have := joinL_snoc z (ws := b :: r) (by simp)
    rw [List.cons_append, joinL_cons a (by simp), this, joinL_cons a (by simp)]
    simp
theorem sumL_le {k : Nat} : ∀ {ws : List S}, (∀ w ∈ ws, w.length ≤ k) → sumL ws ≤ ws.length * k
  | [], _ => Nat.zero_le _
  | a :: ws, h => by
    have h1 := h a List.mem_cons_self
    have h2 := sumL_le fun w hw => h w (List.mem_cons_of_mem _ hw)
    have e : sumL (a :: ws) = a.length + sumL ws := rfl
    rw [e, List.length_cons, Nat.succ_mul]
    omega
/-- a word of a text -/
def Tk (w : S) : Prop := 1 ≤ w.length ∧ w.length ≤ 8 ∧ ∀ c ∈ w, c ≠ 32 ∧ c < 128
theorem tk_good {n : S} (h : good n = true) : Tk n := by
  have := good_len h
  exact ⟨this.1, this.2, fun c hc => ⟨(ldg_no c (good_in h c hc)).2.2.1, (ldg_no c (good_in h c hc)).2.2.2⟩⟩

theorem tk_any : Tk kAny := ⟨by decide, by decide, by decide⟩
theorem tk_testB : ∀ ts : List (S × Bool), (∀ q ∈ ts, good q.1 = true) → ∀ w ∈ testB ts, Tk w
  | [], _, w, hw => by cases hw
  | (m, b) :: ts, h, w, hw => by
    have hm : good m = true := h _ List.mem_cons_self
    rcases List.mem_append.mp hw with hw | hw
    · cases b with
      | true =>
        rw [List.mem_singleton.mp hw]
        exact tk_good hm
      | false =>
        simp only [Bool.false_eq_true, if_false, List.mem_cons, List.not_mem_nil, or_false] at hw
        rcases hw with rfl | rfl
        · exact ⟨by decide, by decide, by decide⟩
        · exact tk_good hm
    · exact tk_testB ts (fun q hq => h q (List.mem_cons_of_mem _ hq)) w hw
theorem tk_part {c : W} (h : ∀ w ∈ walkT c, Tk w) (t : Nat) : ∀ w ∈ partT c t, Tk w := by
  intro w hw
  unfold partT at hw
  split at hw
  · rcases List.mem_cons.mp hw with rfl | hw
    · exact ⟨by decide, by decide, by decide⟩
    · rcases List.mem_append.mp hw with hw | hw
      · exact h w hw
      · rw [List.mem_singleton.mp hw]
        exact ⟨by decide, by decide, by decide⟩
  · exact h w hw
theorem tk_num {n : Int} (h1 : 1 ≤ n) (h4 : n ≤ 4) : Tk (numT n) := by
  have : n = 1 ∨ n = 2 ∨ n = 3 ∨ n = 4 := by omega
  rcases this with rfl | rfl | rfl | rfl <;> exact ⟨by decide, by decide, by decide⟩
theorem tk_walk : ∀ (c : W), Ok c → ∀ w ∈ walkT c, Tk w
  | .named n, ok => by
    rw [walkT]
    intro w hw
    simp only [List.mem_cons, List.not_mem_nil, or_false] at hw
    rcases hw with rfl | rfl
    · exact ⟨by decide, by decide, by decide⟩
    · exact tk_good ok
  | .step t ts, ok => by
    have ht : Tk t := by
      rcases ok.1 with rfl | h
      · exact tk_any
      · exact tk_good h
    rw [walkT]
    intro w hw
    split at hw
    · rw [List.mem_singleton.mp hw]
      exact ht
    · rcases List.mem_cons.mp hw with rfl | hw
      · exact ht
      · unfold testT at hw
        rcases List.mem_cons.mp hw with rfl | hw
        · exact ⟨by decide, by decide, by decide⟩
        · rcases List.mem_append.mp hw with hw | hw
          · exact tk_testB ts ok.2.1 w hw
          · rw [List.mem_singleton.mp hw]
            exact ⟨by decide, by decide, by decide⟩
  | .un g a, ok => by
    rw [walkT_un]
    intro w hw
    rcases List.mem_append.mp hw with hw | hw
    · exact tk_part (tk_walk a ok) 2 w hw
    · rw [List.mem_singleton.mp hw]
      cases g <;> exact ⟨by decide, by decide, by decide⟩
  | .upto a n, ok => by
    rw [walkT_upto]
    intro w hw
    rcases List.mem_append.mp hw with hw | hw
    · exact tk_part (tk_walk a ok.1) 2 w hw
    · simp only [List.mem_cons, List.not_mem_nil, or_false] at hw
      rcases hw with rfl | rfl | rfl
      · exact ⟨by decide, by decide, by decide⟩
      · exact tk_num ok.2.1 ok.2.2
      · exact ⟨by decide, by decide, by decide⟩
  | .thn a b, ok => by
    rw [walkT_thn]
    intro w hw
    rcases List.mem_append.mp hw with hw | hw
    · exact tk_part (tk_walk a ok.1) 1 w hw
    · exact tk_part (tk_walk b ok.2) 2 w hw
  | .or a b, ok => by
    rw [walkT_or]
    intro w hw
    rcases List.mem_append.mp hw with hw | hw
    · exact tk_part (tk_walk a ok.1) 0 w hw
    · rcases List.mem_cons.mp hw with rfl | hw
      · exact ⟨by decide, by decide, by decide⟩
      · exact tk_part (tk_walk b ok.2) 1 w hw
theorem walk_ne {c : W} (ok : Ok c) : walkT c ≠ [] := by
  obtain ⟨w, r, e, _⟩ := first_walk c ok
  rw [e]
  simp
/-! ### tables -/
structure Mv where
  p : Nat
  t : S
  e : S
  ms : List S
  q : Nat
def Mv.D (m : Mv) : Dq.D := .tup [.int m.p, .tup [.str m.t, .str m.e, .tup (m.ms.map .str)], .int m.q]
def Mv.T (m : Mv) : List S := [TL.numL m.p, m.t, m.e, kLB] ++ m.ms ++ [kRB, TL.numL m.q]
def Mv.Ok (m : Mv) : Prop := m.p ≤ 39 ∧ m.q ≤ 39 ∧ good m.t = true ∧ good m.e = true ∧ (∀ x ∈ m.ms, good x = true) ∧ m.ms.length ≤ 3
def kTable : S := [116, 97, 98, 108, 101]
def kFinal : S := [102, 105, 110, 97, 108]
def tabF (acc : List S) : List Mv → List S
  | [] => acc
  | m :: ms => tabF ((if 1 < acc.length then acc ++ [kBar] else acc) ++ m.T) ms
theorem tabF_snoc : ∀ (ms : List Mv) (acc : List S) (m : Mv), tabF acc (ms ++ [m]) = (if 1 < (tabF acc ms).length then tabF acc ms ++ [kBar] else tabF acc ms) ++ m.T
  | [], acc, m => rfl
  | x :: ms, acc, m => tabF_snoc ms _ m
theorem mvT_len {m : Mv} (h : m.ms.length ≤ 3) : m.T.length ≤ 9 := by
  unfold Mv.T
  simp
  omega
theorem tabF_len : ∀ (ms : List Mv) (acc : List S), (∀ m ∈ ms, m.ms.length ≤ 3) → (tabF acc ms).length ≤ acc.length + 10 * ms.length
  | [], acc, _ => Nat.le_refl _
  | m :: ms, acc, h => by
    have h1 := tabF_len ms ((if 1 < acc.length then acc ++ [kBar] else acc) ++ m.T) fun x hx => h x (List.mem_cons_of_mem _ hx)
    have h2 := mvT_len (h m List.mem_cons_self)
    have h3 : (if 1 < acc.length then acc ++ [kBar] else acc).length ≤ acc.length + 1 := by split <;> simp
    rw [List.length_append] at h1
    show (tabF _ ms).length ≤ _
    rw [List.length_cons]
    omega
def finT : Option Nat → S
  | none => kMinus
  | some n => TL.numL n
def finD : Option Nat → Dq.D
  | none => .non
  | some n => .int n
def tabT (ms : List Mv) (f : Option Nat) : List S := tabF [kTable] ms ++ [kFinal, finT f]
def tabD (ms : List Mv) (f : Option Nat) : Dq.D := .tup [.str kTable, .tup (ms.map Mv.D), finD f]
theorem tk_numL {n : Nat} (h : n ≤ 39) : Tk (TL.numL n) := by
  have hl := TL.numL_len (k := 2) (n := n) (by decide) (by omega)
  have hne := TL.numL_ne n
  refine ⟨?_, by omega, fun c hc => ?_⟩
  · cases q : TL.numL n with
    | nil => exact absurd q hne
    | cons _ _ => simp
  · have := TL.numL_digits n c hc
    omega
theorem tk_mv {m : Mv} (h : m.Ok) : ∀ w ∈ m.T, Tk w := by
  obtain ⟨h1, h2, h3, h4, h5, h6⟩ := h
  intro w hw
  unfold Mv.T at hw
  rcases List.mem_append.mp hw with hw | hw
  · rcases List.mem_append.mp hw with hw | hw
    · simp only [List.mem_cons, List.not_mem_nil, or_false] at hw
      rcases hw with rfl | rfl | rfl | rfl
      · exact tk_numL h1
      · exact tk_good h3
      · exact tk_good h4
      · exact ⟨by decide, by decide, by decide⟩
    · exact tk_good (h5 w hw)
  · simp only [List.mem_cons, List.not_mem_nil, or_false] at hw
    rcases hw with rfl | rfl
    · exact ⟨by decide, by decide, by decide⟩
    · exact tk_numL h2
theorem tk_tabF : ∀ (ms : List Mv) (acc : List S), (∀ m ∈ ms, m.Ok) → (∀ w ∈ acc, Tk w) → ∀ w ∈ tabF acc ms, Tk w
  | [], acc, _, h => h
  | m :: ms, acc, hm, h => tk_tabF ms _ (fun x hx => hm x (List.mem_cons_of_mem _ hx)) fun w hw => by
    rcases List.mem_append.mp hw with hw | hw
    · split at hw
      · rcases List.mem_append.mp hw with hw | hw
        · exact h w hw
        · rw [List.mem_singleton.mp hw]
          exact ⟨by decide, by decide, by decide⟩
      · exact h w hw
    · exact tk_mv (hm m List.mem_cons_self) w hw
theorem tk_tab {ms : List Mv} {f : Option Nat} (hm : ∀ m ∈ ms, m.Ok) (hf : ∀ n, f = some n → n ≤ 39) : ∀ w ∈ tabT ms f, Tk w := by
  intro w hw
  unfold tabT at hw
  rcases List.mem_append.mp hw with hw | hw
  · exact tk_tabF ms _ hm (fun w hw => by rw [List.mem_singleton.mp hw]; exact ⟨by decide, by decide, by decide⟩) w hw
  · simp only [List.mem_cons, List.not_mem_nil, or_false] at hw
    rcases hw with rfl | rfl
    · exact ⟨by decide, by decide, by decide⟩
    · cases f with
      | none => exact ⟨by decide, by decide, by decide⟩
      | some n => exact tk_numL (hf n rfl)
theorem mv_inj : ∀ a b : List Mv, a.map Mv.D = b.map Mv.D → (a.map Mv.T = b.map Mv.T ∧ a.length = b.length) := by
  intro a
  induction a with
  | nil => intro b h; cases b with
    | nil => exact ⟨rfl, rfl⟩
    | cons => simp at h
  | cons x a ih => intro b h; cases b with
    | nil => simp at h
    | cons y b =>
      rw [List.map_cons, List.map_cons] at h
      injection h with h1 h2
      obtain ⟨i1, i2⟩ := ih b h2
      refine ⟨?_, by simp [i2]⟩
      rw [List.map_cons, List.map_cons, i1]
      refine congrArg (· :: b.map Mv.T) ?_
      cases x
      cases y
      simp only [Mv.D, D.tup.injEq, List.cons.injEq, D.int.injEq, D.str.injEq, and_true] at h1
      obtain ⟨h1, ⟨h2, h3, h4⟩, h5⟩ := h1
      have h4' := (List.map_inj_right (fun a b e => by injection e)).mp h4
      simp only [Mv.T]
      rw [show _ = _ from Int.ofNat.inj h1, show _ = _ from Int.ofNat.inj h5, h2, h3, h4']
end K09

set_option Elab.async false
set_option linter.all false
set_option maxRecDepth 100000
set_option maxHeartbeats 4000000
namespace K09
open PySem Dq L2
local macro_rules | `(tactic| walk_at "wp") => `(tactic| simp only [wpS, wpE, wpEo, wpEs, wpT, wpTeo, wpTg, wpTgs, wpI, immD, truW_bl, truW_int, truW_str, truW_tup, truW_loc, idxW_dic, inW_dic, splW_tup, splW_flst, splW_loc, blt_str, blt_intS, mth_extend, mth_split, mth_partition, mth_startswith, mth_removeprefix, mth_pop, mthTy_pop, mthTy_ext, mthTy_split, mthTy_part, mthTy_starts, mthTy_rmp, idxW_str, idxW_tup, idxW_flst, idxW_loc, idlW_loc, setW_loc, slcW_str, slcW_loc, binW_add, binW_addS, binW_addL, binW_addT, binW_mulT, blt_srtT, blt_srtL, slcW_tup, blt_lstT, binW_sub, binW_mul, binW_fdiv, binW_mod, binW_pow, binW_shl, augW_add, augW_addS, augW_sub,
  cmpW_eq, cmpW_ne, eqW_strs, eqW_ints, inW_strs, inW_loc, inW_tup, flatD, atI_m1, cmpW_in, cmpW_ni, cmpW_lt, cmpW_le, cmpW_gt, cmpW_ge, cmpW_is, cmpW_isn, lenW_loc, lenW_str, lenW_tup, lenW_flst, blt_len, blt_abs, blt_max, blt_min, blt_int, blt_intB, blt_tup, blt_all, blt_any, mth_append, mth_join, mthTy_join, mthTy_app, seqW_str, seqW_tup, seqW_flst, seqW_loc, lenTs, slT, slTs,
  List.getElem?_cons_zero, List.getElem?_cons_succ, List.set_cons_zero, List.set_cons_succ, Option.some.injEq, exists_eq_left', exists_eq_left, true_and, and_true, D.bl.injEq, D.int.injEq, D.loc.injEq, D.str.injEq, D.tup.injEq, Cell.lst.injEq, atI_0, atI_1, atI_2, atI_3, atI_4, decide_eq_true_eq, List.map, List.length_cons, List.length_nil, List.replicate, List.cons_append, List.nil_append, Nat.reduceAdd, Nat.reduceSub, Nat.zero_add, wipeE, isiB, eqF_str, List.any_cons, List.any_nil, List.all_cons, List.all_nil, Bool.or_false, Bool.and_true, Bool.and_self, bnot_t, Bool.true_eq_false, decide_eq_false_iff_not, eq_self, not_true_eq_false, not_false_eq_true, if_true, if_false, Bool.false_eq_true, Bool.not_true, Bool.not_false])
local macro_rules | `(tactic| walk_at "nil") => `(tactic| simp only [wpSs_nil])

local macro_rules | `(tactic| walk_at "st") => `(tactic| (refine wp_cons ?_; walk_at "wp"))
local macro_rules | `(tactic| walk_at "no") => `(tactic| (refine wp_cons ?_; walk_at "wp"; refine ite_no (by decide) ?_; walk_at "nil"))
local macro_rules | `(tactic| walk_at "yes") => `(tactic| (refine wp_cons ?_; walk_at "wp"; refine ite_yes (by decide) ?_))
theorem pre_at {α : Type} {f : α → D} {ms : List α} {pre post : List D} {w : D} (e : ms.map f = pre ++ w :: post) : ∃ m, ms[pre.length]? = some m ∧ m ∈ ms ∧ w = f m ∧ ms.take (pre.length + 1) = ms.take pre.length ++ [m] ∧ pre.length < ms.length := by
  have hl := congrArg List.length e
  rw [List.length_map, List.length_append, List.length_cons] at hl
  have hlt : pre.length < ms.length := by omega
  refine ⟨ms[pre.length], List.getElem?_eq_getElem hlt, List.getElem_mem hlt, ?_, ?_, hlt⟩
  · have := congrArg (fun l => l[pre.length]?) e
    rw [List.getElem?_append_right (Nat.le_refl _), Nat.sub_self, List.getElem?_cons_zero, List.getElem?_map, List.getElem?_eq_getElem hlt] at this
    exact (Option.some.inj this).symm
  · rw [List.take_add_one, List.getElem?_eq_getElem hlt]
    rfl
theorem fr_put {L : Nat} {c c' : Cell} {st s : Sto} (h : Fr1 L c st s) : Fr1 L c' st (s.set L c') := h.put c'
theorem table_spec {ms : List Mv} {f : Option Nat} (hm : ∀ m ∈ ms, m.Ok) (hf : ∀ n, f = some n → n ≤ 39) (hl : ms.length ≤ 1000) (st : Sto) : callW fns cst 1 9 [tabD ms f] st (Gives (tabT ms f) st) := by
  have hz := sizeLine_eq
  have hc : CalLe (callW fns cst 0) (callW fns cst 0) := callW_le (Nat.le_refl _)
  have tl : ∀ us : List Mv, (∀ m ∈ us, m ∈ ms) → us.length ≤ ms.length → (tabF [kTable] us).length ≤ 10001 := fun us h1 h2 => by
    have := tabF_len us [kTable] fun m hx => (hm m (h1 m hx)).2.2.2.2.2
    rw [List.length_singleton] at this
    omega
  refine ⟨_, rfl, rfl, ?_⟩
  generalize hP : Gives (tabT ms f) st = P
  unfold b9 tabD
  walk_at "st"
  refine ⟨by omega, ?_⟩
  refine wp_cons ?_
  refine wp_cut hc (fun en s => ∃ x2 x3 x4 x5 x6 x7, en = [some (.tup [.str kTable, .tup (ms.map Mv.D), finD f]), some (.loc st.length), x2, x3, x4, x5, x6, x7] ∧ Fr1 st.length (.lst ((tabF [kTable] ms).map .str)) st s) ?_ fun en s hM => ?_
  · refine wp_forJ hc ?_
    walk_at "wp"
    refine ⟨fun pre e s => ∃ x2 x3 x4 x5 x6 x7, e = [some (.tup [.str kTable, .tup (ms.map Mv.D), finD f]), some (.loc st.length), x2, x3, x4, x5, x6, x7] ∧ Fr1 st.length (.lst ((tabF [kTable] (ms.take pre.length)).map .str)) st s, ⟨_, _, _, _, _, _, rfl, .new⟩, fun pre w post e s ee hJ => ?_, fun e s hJ => ?_⟩
    · obtain ⟨x2, x3, x4, x5, x6, x7, rfl, F⟩ := hJ
      obtain ⟨m, hmg, hmm, rfl, htk, hlt⟩ := pre_at ee
      obtain ⟨m1, m2, m3, m4, m5, m6⟩ := hm m hmm
      have hacc := tl (ms.take pre.length) (fun x hx => List.mem_of_mem_take hx) (by rw [List.length_take]; omega)
      have hnext : tabF [kTable] (ms.take (pre.length + 1)) = (if 1 < (tabF [kTable] (ms.take pre.length)).length then tabF [kTable] (ms.take pre.length) ++ [kBar] else tabF [kTable] (ms.take pre.length)) ++ m.T := by rw [htk, tabF_snoc]
      generalize tabF [kTable] (ms.take pre.length) = acc at *
      refine ⟨trivial, ?_⟩
      unfold Mv.D
      walk_at "wp"
      refine ⟨_, _, rfl, _, _, rfl, _, _, rfl, rfl, ?_⟩
      have tail : ∀ (g : List S) (s : Sto), Fr1 st.length (.lst (g.map .str)) st s → g.length ≤ 10002 → g ++ m.T = tabF [kTable] (ms.take (pre.length + 1)) → ∀ R B, wpSs (callW fns cst 0) cst (.cons (.asg (.tup (.cons (.name 5) (.cons (.name 6) (.cons (.name 7) .nil)))) (.var 3)) 
    (.cons (.expr (.mth .extend (.var 1) (.cons (.lst (.cons (.blt .str (.cons (.var 2) .nil)) (.cons (.var 5) (.cons (.var 6) (.cons (.cst (.str [91])) (.star (.var 7) (.cons (.cst (.str [93])) (.cons (.blt .str (.cons (.var 4) .nil)) .nil)))))))) .nil))) .nil)) [some (.tup [.str kTable, .tup (ms.map Mv.D), finD f]), some (.loc st.length), some (.int m.p), some (.tup [.str m.t, .str m.e, .tup (m.ms.map .str)]), some (.int m.q), x5, x6, x7] s
          ⟨fun e s => ∃ x2 x3 x4 x5 x6 x7, e = [some (.tup [.str kTable, .tup (ms.map Mv.D), finD f]), some (.loc st.length), x2, x3, x4, x5, x6, x7] ∧ Fr1 st.length (.lst ((tabF [kTable] (ms.take (pre.length + 1))).map .str)) st s, P, R, B⟩ := fun g s F hg eg R B => by
        walk_at "st"
        refine ⟨_, _, rfl, _, _, rfl, _, _, rfl, rfl, ?_⟩
        refine wp_cons ?_
        walk_at "wp"
        refine ⟨⟨_, F.get⟩, log_small (by omega) (by omega), log_small (by omega) (by omega), by simp; omega, ?_⟩
        have F2 := F.app [.lst (D.str (strI m.p) :: D.str m.t :: D.str m.e :: D.str [91] :: (m.ms.map D.str ++ [D.str [93], D.str (strI m.q)]))]
        refine ⟨_, _, F2.get, new_get, by simp; omega, ?_⟩
        walk_at "nil"
        refine ⟨_, _, _, _, _, _, rfl, ?_⟩
        have ec : g.map D.str ++ (D.str (strI m.p) :: D.str m.t :: D.str m.e :: D.str [91] :: (m.ms.map D.str ++ [D.str [93], D.str (strI m.q)])) = (tabF [kTable] (ms.take (pre.length + 1))).map D.str := by
          rw [← eg, strI_nat, strI_nat]
          simp [Mv.T, kLB, kRB]
        rw [ec]
        exact F2.put _
      have ppl : (pre ++ [D.tup [D.int ↑m.p, D.tup [D.str m.t, D.str m.e, D.tup (List.map D.str m.ms)], D.int ↑m.q]]).length = pre.length + 1 := by simp
      rw [ppl]
      walk_at "st"
      simp only [F.get]
      walk_at "wp"
      rw [List.length_map]
      split
      · rename_i h1
        rw [if_pos (by omega)] at hnext
        walk_at "st"
        refine ⟨⟨_, F.get⟩, _, F.get, by simp; omega, ?_⟩
        walk_at "nil"
        have ec : acc.map D.str ++ [D.str [124]] = (acc ++ [kBar]).map D.str := by simp [kBar]
        rw [ec]
        exact tail (acc ++ [kBar]) _ (F.put _) (by simp; omega) hnext.symm _ _
      · rename_i h1
        rw [if_neg (by omega)] at hnext
        walk_at "nil"
        exact tail acc _ F (by omega) hnext.symm _ _
    · obtain ⟨x2, x3, x4, x5, x6, x7, rfl, F⟩ := hJ
      rw [List.length_map, List.take_of_length_le (Nat.le_refl _)] at F
      exact ⟨trivial, _, _, _, _, _, _, rfl, F⟩
  · obtain ⟨x2, x3, x4, x5, x6, x7, rfl, F⟩ := hM
    have hacc := tl ms (fun x hx => hx) (Nat.le_refl _)
    walk_at "st"
    simp only [F.get]
    walk_at "wp"
    have fin : ∀ x : S, x = finT f → P (.loc s.length) (s ++ [.lst ((tabF [kTable] ms).map D.str ++ [D.str [102, 105, 110, 97, 108], D.str x])]) := fun x e => by
      rw [← hP, e]
      have ec : (tabF [kTable] ms).map D.str ++ [D.str [102, 105, 110, 97, 108], D.str (finT f)] = (tabT ms f).map D.str := by simp [tabT, kFinal]
      rw [ec]
      exact gives_new (fr_ex F rfl)
    cases f with
    | none =>
      refine ⟨by simp; omega, fin [45] rfl⟩
    | some n =>
      have := hf n rfl
      refine ⟨log_small (by omega) (by omega), ?_⟩
      refine ⟨by simp; omega, fin _ (by rw [strI_nat]; rfl)⟩
end K09

set_option Elab.async false
set_option linter.all false
set_option maxRecDepth 100000
set_option maxHeartbeats 4000000
namespace K09
open PySem Dq L2
local macro_rules | `(tactic| walk_at "wp") => `(tactic| simp only [wpS, wpE, wpEo, wpEs, wpT, wpTeo, wpTg, wpTgs, wpI, immD, truW_bl, truW_int, truW_str, truW_tup, truW_loc, idxW_dic, inW_dic, splW_tup, splW_flst, splW_loc, blt_str, blt_intS, mth_extend, mth_split, mth_partition, mth_startswith, mth_removeprefix, mth_pop, mthTy_pop, mthTy_ext, mthTy_split, mthTy_part, mthTy_starts, mthTy_rmp, idxW_str, idxW_tup, idxW_flst, idxW_loc, idlW_loc, setW_loc, slcW_str, slcW_loc, binW_add, binW_addS, binW_addL, binW_addT, binW_mulT, blt_srtT, blt_srtL, slcW_tup, blt_lstT, binW_sub, binW_mul, binW_fdiv, binW_mod, binW_pow, binW_shl, augW_add, augW_addS, augW_sub,
  cmpW_eq, cmpW_ne, eqW_strs, eqW_ints, inW_strs, inW_loc, inW_tup, flatD, atI_m1, cmpW_in, cmpW_ni, cmpW_lt, cmpW_le, cmpW_gt, cmpW_ge, cmpW_is, cmpW_isn, lenW_loc, lenW_str, lenW_tup, lenW_flst, blt_len, blt_abs, blt_max, blt_min, blt_int, blt_intB, blt_tup, blt_all, blt_any, mth_append, mth_join, mthTy_join, mthTy_app, seqW_str, seqW_tup, seqW_flst, seqW_loc, lenTs, slT, slTs,
  List.getElem?_cons_zero, List.getElem?_cons_succ, List.set_cons_zero, List.set_cons_succ, Option.some.injEq, exists_eq_left', exists_eq_left, true_and, and_true, D.bl.injEq, D.int.injEq, D.loc.injEq, D.str.injEq, D.tup.injEq, Cell.lst.injEq, atI_0, atI_1, atI_2, atI_3, atI_4, decide_eq_true_eq, List.map, List.length_cons, List.length_nil, List.replicate, List.cons_append, List.nil_append, Nat.reduceAdd, Nat.reduceSub, Nat.zero_add, wipeE, isiB, eqF_str, List.any_cons, List.any_nil, List.all_cons, List.all_nil, Bool.or_false, Bool.and_true, Bool.and_self, bnot_t, Bool.true_eq_false, decide_eq_false_iff_not, eq_self, not_true_eq_false, not_false_eq_true, if_true, if_false, Bool.false_eq_true, Bool.not_true, Bool.not_false])
local macro_rules | `(tactic| walk_at "nil") => `(tactic| simp only [wpSs_nil])

local macro_rules | `(tactic| walk_at "st") => `(tactic| (refine wp_cons ?_; walk_at "wp"))
local macro_rules | `(tactic| walk_at "no") => `(tactic| (refine wp_cons ?_; walk_at "wp"; refine ite_no (by decide) ?_; walk_at "nil"))
local macro_rules | `(tactic| walk_at "yes") => `(tactic| (refine wp_cons ?_; walk_at "wp"; refine ite_yes (by decide) ?_))
/-! ### whole walks, and the text -/
inductive Wk where
  | ex (w : W)
  | tab (ms : List Mv) (f : Option Nat)
def Wk.D : Wk → Dq.D
  | .ex w => toD w
  | .tab ms f => tabD ms f
def Wk.T : Wk → List S
  | .ex w => walkT w
  | .tab ms f => tabT ms f
def Wk.Ok : Wk → Prop
  | .ex w => K09.Ok w ∧ dp w ≤ 11
  | .tab ms f => (∀ m ∈ ms, m.Ok) ∧ (∀ n, f = some n → n ≤ 39) ∧ ms.length ≤ 1000
theorem wk_tk {k : Wk} (ok : k.Ok) : ∀ w ∈ k.T, Tk w := by
  cases k with
  | ex w => exact tk_walk w ok.1
  | tab ms f => exact tk_tab ok.1 ok.2.1
theorem wk_len {k : Wk} (ok : k.Ok) : k.T.length ≤ 65536 := by
  cases k with
  | ex w => exact walk_len' ok.1 (by have := ok.2; omega)
  | tab ms f =>
    have := tabF_len ms [kTable] fun m hx => (ok.1 m hx).2.2.2.2.2
    have := ok.2.2
    show (tabT ms f).length ≤ _
    unfold tabT
    simp at *
    omega
theorem wk_ne {k : Wk} (ok : k.Ok) : k.T ≠ [] := by
  cases k with
  | ex w => exact walk_ne ok.1
  | tab ms f =>
    show tabT ms f ≠ []
    unfold tabT
    simp
theorem wk_spec {k : Wk} (ok : k.Ok) (st : Sto) : callW fns cst 26 8 [k.D] st (Gives k.T st) := by
  cases k with
  | ex w => exact call_up (walk_spec w ok.1 (by have := ok.2; omega) st) (by have := ok.2; omega) fun _ _ q => q
  | tab ms f =>
    refine ⟨_, rfl, rfl, ?_⟩
    have ht := fun st => table_spec (ms := ms) (f := f) ok.1 ok.2.1 ok.2.2 st
    generalize hP : Gives (Wk.tab ms f).T st = P
    show wpSs (callW fns cst 25) cst b8 ([some (tabD ms f)] ++ [none]) st _
    unfold b8
    have e : ∃ a b, tabD ms f = .tup [.str kTable, a, b] := ⟨_, _, rfl⟩
    obtain ⟨a, b, e⟩ := e
    rw [e] at ht ⊢
    walk_at "st"
    walk_at "yes"
    walk_at "st"
    refine call_up (ht st) (by decide) fun w s q => ?_
    rw [← hP]
    exact q
theorem joined_spec {ws : List S} {st : Sto} {m : Nat} (h : st[m]? = some (.lst (ws.map .str))) (hl : sumL ws + ws.length ≤ 1000000) : callW fns cst 1 2 [.loc m] st fun w s => w = .str (TL.joinL [32] ws) ∧ s = st := by
  refine ⟨_, rfl, rfl, ?_⟩
  unfold b2
  walk_at "st"
  refine ⟨ws, h, ?_, by first | rfl | exact ⟨rfl, rfl⟩⟩
  have e : (ws.map fun x => x.length).sum = sumL ws := rfl
  simp only [e]
  simp
  omega
def textK (k : Wk) : S := TL.joinL [32] k.T
theorem split_text {k : Wk} (ok : k.Ok) : splitL (textK k) [32] = k.T := splitL_join (wk_ne ok) fun p hp h => ((wk_tk ok p hp).2.2 32 h).1 rfl
theorem text_len {k : Wk} (ok : k.Ok) : (textK k).length ≤ 600000 := by
  have h1 := joinL_len k.T
  have h2 := sumL_le fun w hw => (wk_tk ok w hw).2.1
  have h3 := wk_len ok
  show (TL.joinL [32] k.T).length ≤ _
  omega
theorem write_walk_spec {k : Wk} (ok : k.Ok) (st : Sto) : callW fns cst 27 1 [k.D] st fun w s => w = .str (textK k) ∧ Ex st s := by
  refine ⟨_, rfl, rfl, ?_⟩
  unfold b1
  walk_at "st"
  refine call_mono (wk_spec ok st) fun w s q => ?_
  obtain ⟨m, rfl, hm, ex⟩ := q
  have h2 := sumL_le fun w hw => (wk_tk ok w hw).2.1
  have h3 := wk_len ok
  refine call_up (joined_spec hm (by omega)) (by decide) fun w s2 q => ?_
  obtain ⟨rfl, rfl⟩ := q
  exact ⟨rfl, ex⟩
def kWalk : S := [119, 97, 108, 107]
def lineT (n : S) (k : Wk) : List S := kWalk :: n :: [61] :: k.T
theorem line_spec {n : S} {k : Wk} (ok : k.Ok) (st : Sto) : callW fns cst 27 3 [.tup [.str kWalk, .str n, k.D]] st (Gives (lineT n k) st) := by
  have hz := sizeLine_eq
  refine ⟨_, rfl, rfl, ?_⟩
  generalize hP : Gives (lineT n k) st = P
  unfold b3
  walk_at "st"
  walk_at "st"
  refine ⟨by omega, ?_⟩
  refine ite_no (by decide) ?_
  walk_at "nil"
  walk_at "st"
  refine ⟨by omega, ?_⟩
  refine ite_no (by decide) ?_
  walk_at "nil"
  walk_at "no"
  walk_at "no"
  walk_at "yes"
  walk_at "st"
  refine call_mono (wk_spec ok st) fun w s q => ?_
  obtain ⟨m, rfl, hm, ex⟩ := q
  walk_at "wp"
  simp only [hm]
  have h3 := wk_len ok
  refine ⟨_, rfl, by simp; omega, ?_⟩
  rw [← hP]
  have e : D.str kWalk :: D.str n :: D.str [61] :: (k.T.map D.str ++ []) = (lineT n k).map D.str := by simp [kWalk, lineT]
  rw [e]
  exact gives_new ex
def textL (n : S) (k : Wk) : S := kWalk ++ 32 :: (n ++ 32 :: ([61] ++ 32 :: (textK k ++ [32, 59, 10])))
theorem line_text {n : S} {k : Wk} (ok : k.Ok) : TL.joinL [32] (lineT n k ++ [[59]]) ++ [10] = textL n k := by
  rw [joinL_snoc [59] (by simp [lineT])]
  unfold lineT
  rw [joinL_cons _ (by simp), joinL_cons _ (by simp), joinL_cons _ (wk_ne ok)]
  simp [textL, textK, kWalk]
theorem write_spec {n : S} {k : Wk} (ok : k.Ok) (hg : good n = true) (st : Sto) : callW fns cst 28 0 [.tup [.tup [.str kWalk, .str n, k.D]]] st fun w s => w = .str (textL n k) ∧ Ex st s := by
  have hz := sizeLine_eq
  refine ⟨_, rfl, rfl, ?_⟩
  generalize hP : (fun (w : D) (s : Sto) => w = .str (textL n k) ∧ Ex st s) = P
  unfold b0
  walk_at "st"
  refine ⟨by decide, trivial, ?_⟩
  refine call_mono (line_spec ok st) fun w s q => ?_
  obtain ⟨m, rfl, hm, ex⟩ := q
  walk_at "wp"
  simp only [hm]
  have h2 := sumL_le fun w hw => (wk_tk ok w hw).2.1
  have h3 := wk_len ok
  have hgl := good_len hg
  refine ⟨_, rfl, by simp [lineT]; omega, ?_⟩
  have e : (lineT n k).map D.str ++ [D.str [59]] = (lineT n k ++ [[59]]).map D.str := by simp
  rw [e]
  refine call_up (joined_spec new_get ?_) (by decide) fun w s2 q => ?_
  · simp [sumL, lineT, kWalk] at h2 ⊢
    omega
  obtain ⟨rfl, rfl⟩ := q
  have hj := joinL_len (lineT n k ++ [[59]])
  have hs : sumL (lineT n k ++ [[59]]) ≤ 4 + 8 + 1 + sumL k.T + 1 := by
    simp [sumL, lineT, kWalk]
    omega
  have hl : (lineT n k ++ [[59]]).length = k.T.length + 4 := by simp [lineT]
  refine ⟨by simp only [List.length_cons, List.length_nil]; omega, by omega, trivial, ?_⟩
  refine ⟨[textL n k], ?_, ?_, ?_⟩
  · rw [line_text ok]
    exact new_get
  · have := congrArg List.length (line_text (n := n) ok)
    simp at this hj hl ⊢
    omega
  · rw [← hP]
    exact ⟨rfl, (ex.app _).app _⟩
/-! ### the law draws walks -/
theorem f14 : fns[14]? = some ⟨1, 2, bBegin⟩ := rfl
theorem f15 : fns[15]? = some ⟨2, 5, bDraw⟩ := rfl
theorem f16 : fns[16]? = some ⟨2, 2, bPick 15⟩ := rfl
theorem f18 : fns[18]? = some ⟨1, 1, bIsInt⟩ := rfl
theorem f19 : fns[19]? = some ⟨0, 1, bRes⟩ := rfl
theorem f20 : fns[20]? = some ⟨1, 6, bWord 15 16 19⟩ := rfl
theorem f29 : fns[29]? = some ⟨1, 2, bGood 19⟩ := rfl
theorem f30 : fns[30]? = some ⟨1, 1, bSee⟩ := rfl
theorem f31 : fns[31]? = some ⟨2, 2, bTake 30⟩ := rfl
theorem f32 : fns[32]? = some ⟨1, 2, bName 29 30⟩ := rfl
theorem f33 : fns[33]? = some ⟨3, 6, bNum 30⟩ := rfl
theorem f40 : fns[40]? = some ⟨2, 3, bSame 40 18⟩ := rfl
theorem f41 : fns[41]? = some ⟨2, 4, bPartner⟩ := rfl
theorem word {n : Nat} {st : Sto} (h : DOk st n) : callW fns cst 3 20 [.loc n] st fun w s => ∃ t, w = .str t ∧ good t = true ∧ Gr n st s := word_spec f15 f16 f19 f20 h
theorem rare_spec {n : Nat} {st : Sto} {many : Int} (h : DOk st n) (h1 : 0 < many) (h2 : many < 1000000) : callW fns cst 2 17 [.loc n, .int many] st fun w s => ∃ b, w = .bl b ∧ Gr n st s := by
  refine ⟨_, rfl, rfl, ?_⟩
  unfold b17
  walk_at "st"
  refine call_mono (draw_spec f15 h (by omega) (by omega)) fun w s1 q => ?_
  obtain ⟨r, rfl, r0, r1, g1⟩ := q
  walk_at "wp"
  refine ⟨⟨by decide, by decide⟩, ?_⟩
  first
    | exact g1
    | exact ⟨_, rfl, g1⟩
theorem words_spec {n : Nat} {st : Sto} {low : Int} (h : DOk st n) (h0 : 0 ≤ low) (h1 : low ≤ 1) : callW fns cst 4 21 [.loc n, .int low, .int 3] st fun w s => ∃ us : List S, w = .tup (us.map .str) ∧ (∀ u ∈ us, good u = true) ∧ us.length ≤ 3 ∧ (1 ≤ low → us ≠ []) ∧ Gr n st s := by
  have hz := sizeLine_eq
  have hc : CalLe (callW fns cst 3) (callW fns cst 3) := callW_le (Nat.le_refl _)
  refine ⟨_, rfl, rfl, ?_⟩
  generalize hP : (fun (w : D) (s : Sto) => ∃ us : List S, w = .tup (us.map .str) ∧ (∀ u ∈ us, good u = true) ∧ us.length ≤ 3 ∧ (1 ≤ low → us ≠ []) ∧ Gr n st s) = P
  unfold b21
  walk_at "st"
  refine ⟨by omega, ?_⟩
  have D1 : DOk (st ++ [Cell.lst []]) n := (Gr.app h _).ok
  have nlt := h.lt
  refine wp_cons ?_
  refine wp_cut hc (fun en s => ∃ (us : List S) (x4 x5 : Option D), en = [some (.loc n), some (.int low), some (.int 3), some (.loc st.length), x4, x5] ∧ s[st.length]? = some (.lst (us.map .str)) ∧ (∀ u ∈ us, good u = true) ∧ us.length ≤ 3 ∧ (1 ≤ low → us ≠ []) ∧ Gr n st s) ?_ fun en s hM => ?_
  · refine wp_forJ hc ?_
    have J : ∀ (m : Int) (s0 : Sto), 0 ≤ m → m ≤ 3 → (1 ≤ low → 1 ≤ m) → Gr n (st ++ [Cell.lst []]) s0 → s0[st.length]? = some (.lst []) → ∃ J : List D → En → Sto → Prop, J [] [some (.loc n), some (.int low), some (.int 3), some (.loc st.length), none, none] s0 ∧ (∀ pre w post e s, (List.map (fun (k : Nat) => D.int (k : Int)) (List.range m.toNat)) = pre ++ w :: post → J pre e s → keepW none s ∧ wpTg (callW fns cst 3) cst (.name 4) w e s fun e2 s2 => wpSs (callW fns cst 3) cst (.cons (.asg (.name 5) (.call 20 (.cons (.var 0) .nil))) 
    (.cons (.ite (.tst (.cmp .NotIn (.var 5) (.var 3))) 
      (.cons (.expr (.mth .append (.var 3) (.cons (.var 5) .nil))) .nil) .nil) .nil)) e2 s2 ⟨J (pre ++ [w]), P, fun en s => ∃ (us : List S) (x4 x5 : Option D), en = [some (.loc n), some (.int low), some (.int 3), some (.loc st.length), x4, x5] ∧ s[st.length]? = some (.lst (us.map .str)) ∧ (∀ u ∈ us, good u = true) ∧ us.length ≤ 3 ∧ (1 ≤ low → us ≠ []) ∧ Gr n st s, J (pre ++ [w])⟩) ∧ ∀ e s, J (List.map (fun (k : Nat) => D.int (k : Int)) (List.range m.toNat)) e s → keepW none s ∧ ∃ (us : List S) (x4 x5 : Option D), e = [some (.loc n), some (.int low), some (.int 3), some (.loc st.length), x4, x5] ∧ s[st.length]? = some (.lst (us.map .str)) ∧ (∀ u ∈ us, good u = true) ∧ us.length ≤ 3 ∧ (1 ≤ low → us ≠ []) ∧ Gr n st s := fun m s0 m0 m3 ml g0 c0 => by
      refine ⟨fun pre e s => ∃ (us : List S) (x4 x5 : Option D), e = [some (.loc n), some (.int low), some (.int 3), some (.loc st.length), x4, x5] ∧ s[st.length]? = some (.lst (us.map .str)) ∧ (∀ u ∈ us, good u = true) ∧ us.length ≤ pre.length ∧ (1 ≤ pre.length → us ≠ []) ∧ Gr n st s,
        ⟨[], none, none, rfl, c0, by simp, Nat.le_refl _, fun q => by simp at q, (Gr.app h _).trans g0⟩, fun pre w post e s ee hJ => ?_, fun e s hJ => ?_⟩
      · obtain ⟨us, x4, x5, rfl, hus, hg, hlen, hne, gs⟩ := hJ
        have hl := congrArg List.length ee
        rw [List.length_map, List.length_range, List.length_append, List.length_cons] at hl
        refine ⟨trivial, ?_⟩
        walk_at "wp"
        walk_at "st"
        refine call_mono (word gs.ok) fun w s2 q => ?_
        obtain ⟨t, rfl, ht, g2⟩ := q
        have hus2 : s2[st.length]? = some (.lst (us.map .str)) := (g2.same _ (get_lt hus) (by omega)).trans hus
        have g3 := gs.trans g2
        walk_at "st"
        refine ⟨_, hus2, all_flat, ?_⟩
        rw [any_str]
        split
        · walk_at "st"
          refine ⟨⟨_, hus2⟩, _, hus2, by simp; omega, ?_⟩
          walk_at "nil"
          refine ⟨us ++ [t], _, _, rfl, ?_, fun u hu => ?_, by simp; omega, fun _ => by simp, g3.set_hi (by omega) (Nat.le_refl _) _⟩
          · rw [List.map_append]
            exact set_get hus2
          · rcases List.mem_append.mp hu with z | z
            · exact hg u z
            · rw [List.mem_singleton.mp z]
              exact ht
        · rename_i hin
          walk_at "nil"
          refine ⟨us, _, _, rfl, hus2, hg, by simp; omega, fun _ e => ?_, g3⟩
          subst e
          exact hin rfl
      · obtain ⟨us, x4, x5, rfl, hus, hg, hlen, hne, gs⟩ := hJ
        rw [List.length_map, List.length_range] at hlen hne
        exact ⟨trivial, us, _, _, rfl, hus, hg, by omega, fun q => hne (by have := ml q; omega), gs⟩
    walk_at "wp"
    refine call_up (draw_spec f15 D1 (by decide) (by decide)) (by decide) fun w s1 q => ?_
    obtain ⟨r, rfl, r0, r1, g1⟩ := q
    have c1 : s1[st.length]? = some (.lst []) := (g1.same _ (by simp) (by omega)).trans new_get
    walk_at "wp"
    split
    · exact ⟨by decide, by decide, J 3 s1 (by decide) (by decide) (fun _ => by decide) g1 c1⟩
    · refine call_up (draw_spec f15 g1.ok (by decide) (by decide)) (by decide) fun w s2 q => ?_
      obtain ⟨i, rfl, i0, i1, g2⟩ := q
      walk_at "wp"
      have c2 : s2[st.length]? = some (.lst []) := (g2.same _ (get_lt c1) (by omega)).trans c1
      exact ⟨by omega, by omega, J (low + i) s2 (by omega) (by omega) (fun q => by omega) (g1.trans g2) c2⟩
  · obtain ⟨us, x4, x5, rfl, hus, hg, hlen, hne, gs⟩ := hM
    walk_at "st"
    refine ⟨_, hus, ?_⟩
    rw [← hP]
    exact ⟨us, rfl, hg, hlen, hne, gs⟩

theorem some_tests_spec {n : Nat} {st : Sto} (h : DOk st n) : callW fns cst 5 22 [.loc n, .int 1] st fun w s => ∃ ts : List (S × Bool), w = testsD ts ∧ (∀ p ∈ ts, good p.1 = true) ∧ ts.length ≤ 3 ∧ Gr n st s := by
  have hz := sizeLine_eq
  have hc : CalLe (callW fns cst 4) (callW fns cst 4) := callW_le (Nat.le_refl _)
  refine ⟨_, rfl, rfl, ?_⟩
  generalize hP : (fun (w : D) (s : Sto) => ∃ ts : List (S × Bool), w = testsD ts ∧ (∀ p ∈ ts, good p.1 = true) ∧ ts.length ≤ 3 ∧ Gr n st s) = P
  unfold b22
  walk_at "st"
  refine ⟨by decide, ?_⟩
  refine call_mono (words_spec h (by decide) (by decide)) fun w s1 q => ?_
  obtain ⟨us, rfl, hg, hl, hne, g1⟩ := q
  walk_at "wp"
  refine compW_all (f := fun w st K => callW fns cst 4 15 [D.loc n, D.int 2] st fun x st1 => _) ?_ (fun pre acc s2 => ∃ ts : List (S × Bool), acc = ts.map (fun p => D.tup [.str p.1, .bl p.2]) ∧ ts.length = pre.length ∧ (∀ p ∈ ts, good p.1 = true) ∧ Gr n st s2) ⟨[], rfl, rfl, by simp, g1⟩ (fun pre w post acc s2 e hI => ?_) (fun acc s2 hI => ?_)
  · intro w st A B hAB p
    exact call_mono p fun _ _ q => eqW_mono (fun r q => ⟨q.1, hAB _ _ q.2⟩) q
  · obtain ⟨ts, rfl, htl, htg, gs⟩ := hI
    obtain ⟨u, hug, hum, rfl, _, hlt⟩ := pre_at e
    refine ⟨trivial, ?_⟩
    refine call_up (draw_spec f15 gs.ok (by decide) (by decide)) (by decide) fun w s3 q => ?_
    obtain ⟨r, rfl, r0, r1, g3⟩ := q
    walk_at "wp"
    refine ⟨by omega, by simp; omega, ts ++ [(u, r == 0)], by simp, by simp [htl], fun p hp => ?_, gs.trans g3⟩
    rcases List.mem_append.mp hp with z | z
    · exact htg p z
    · rw [List.mem_singleton.mp z]
      exact hg u hum
  · obtain ⟨ts, rfl, htl, htg, gs⟩ := hI
    rw [List.length_map] at htl
    refine ⟨trivial, ?_⟩
    walk_at "wp"
    refine ⟨_, new_get, ?_⟩
    rw [← hP]
    exact ⟨ts, rfl, htg, by omega, gs.to_app _⟩
theorem leaf_spec {n : Nat} {st : Sto} (h : DOk st n) : callW fns cst 6 23 [.loc n] st fun w s => ∃ c, w = toD c ∧ Ok c ∧ dp c = 0 ∧ Gr n st s := by
  have hz := sizeLine_eq
  refine ⟨_, rfl, rfl, ?_⟩
  generalize hP : (fun (w : D) (s : Sto) => ∃ c, w = toD c ∧ Ok c ∧ dp c = 0 ∧ Gr n st s) = P
  have fin : ∀ c x s, toD c = x → Ok c → dp c = 0 → Gr n st s → P x s := fun c x s e a b d => by
    rw [← hP]
    exact ⟨c, e.symm, a, b, d⟩
  unfold b23
  walk_at "st"
  refine call_up (draw_spec f15 h (by decide) (by decide)) (by decide) fun w s1 q => ?_
  obtain ⟨r, rfl, r0, r1, g1⟩ := q
  walk_at "st"
  split
  · walk_at "st"
    refine call_up (word g1.ok) (by decide) fun w s2 q => ?_
    obtain ⟨t, rfl, ht, g2⟩ := q
    exact ⟨by omega, fin (.named t) _ _ rfl ht rfl (g1.trans g2)⟩
  · walk_at "nil"
    have tail : ∀ (t : S) (s2 : Sto), (t = kAny ∨ good t = true) → Gr n st s2 → ∀ N, wpSs (callW fns cst 5) cst (.cons (.ret (.tup (.cons (.cst (.str [115, 116, 101, 112])) (.cons (.var 2) (.cons (.ife (.tst (.cmp .Eq (.call 15 (.cons (.var 0) (.cons (.cst (.int (2))) .nil))) (.cst (.int (0))))) (.tup .nil) (.call 22 (.cons (.var 0) (.cons (.cst (.int (1))) .nil)))) .nil))))) .nil) [some (.loc n), some (.int r), some (.str t)] s2 ⟨N, P, fun _ _ => False, fun _ _ => False⟩ := fun t s2 ht g2 N => by
      walk_at "st"
      refine call_up (draw_spec f15 g2.ok (by decide) (by decide)) (by decide) fun w s3 q => ?_
      obtain ⟨i, rfl, i0, i1, g3⟩ := q
      walk_at "wp"
      split
      · exact ⟨by omega, by omega, fin (.step t []) _ _ rfl ⟨ht, by simp, by simp⟩ rfl (g2.trans g3)⟩
      · refine call_mono (some_tests_spec g3.ok) fun w s4 q => ?_
        obtain ⟨ts, rfl, hg, hl, g4⟩ := q
        exact ⟨by omega, fin (.step t ts) _ _ rfl ⟨ht, hg, hl⟩ rfl ((g2.trans g3).trans g4)⟩
    walk_at "st"
    split
    · exact tail kAny s1 (.inl rfl) g1 _
    · refine call_up (word g1.ok) (by decide) fun w s2 q => ?_
      obtain ⟨t, rfl, ht, g2⟩ := q
      exact tail t s2 (.inr ht) (g1.trans g2) _
/-- nothing that stood has changed but the drawing state and the room -/
structure Gr2 (n r : Nat) (st s : Sto) : Prop where
  ok : DOk s n
  room : ∃ x : Int, s[r]? = some (.lst [.int x])
  len : st.length ≤ s.length
  same : ∀ k, k < st.length → k ≠ n → k ≠ r → s[k]? = st[k]?
theorem Gr2.of {n r : Nat} {st s : Sto} {x : Int} (g : Gr n st s) (h : st[r]? = some (.lst [.int x])) (hn : r ≠ n) : Gr2 n r st s :=
  ⟨g.ok, ⟨x, (g.same r (get_lt h) hn).trans h⟩, g.len, fun k h1 h2 _ => g.same k h1 h2⟩
theorem Gr2.trans {n r : Nat} {a b c : Sto} (g : Gr2 n r a b) (h : Gr2 n r b c) : Gr2 n r a c :=
  ⟨h.ok, h.room, Nat.le_trans g.len h.len, fun k h1 h2 h3 => (h.same k (Nat.lt_of_lt_of_le h1 g.len) h2 h3).trans (g.same k h1 h2 h3)⟩
theorem Gr2.step {n r : Nat} {a b c : Sto} (g : Gr2 n r a b) (h : Gr n b c) (hn : r ≠ n) : Gr2 n r a c := by
  obtain ⟨x, hx⟩ := g.room
  exact g.trans (.of h hx hn)
theorem DOk_set {n r : Nat} {st : Sto} {x y : Int} (h : DOk st n) (hr : st[r]? = some (.lst [.int x])) : DOk (st.set r (.lst [.int y])) n := by
  obtain ⟨m, a, b, d, e, ns, h1, h2, h3, h4⟩ := h
  have n1 : n ≠ r := by
    rintro rfl
    rw [hr] at h1
    cases h1
  by_cases q : m = r
  · subst q
    exact ⟨m, a, b, d, e, [y], by rw [set_ne n1]; exact h1, set_get hr, h3, h4⟩
  · exact ⟨m, a, b, d, e, ns, by rw [set_ne n1]; exact h1, by rw [set_ne q]; exact h2, h3, h4⟩
theorem DOk_ne {n r : Nat} {st : Sto} {x : Int} (h : DOk st n) (hr : st[r]? = some (.lst [.int x])) : r ≠ n := by
  obtain ⟨m, a, b, d, e, ns, h1, h2, h3, h4⟩ := h
  rintro rfl
  rw [hr] at h1
  cases h1
theorem expr_spec : ∀ (deep : Nat) (n r : Nat) (st : Sto) (x : Int) (tall : Bool), DOk st n → st[r]? = some (.lst [.int x]) → callW fns cst (deep + 7) 24 [.loc n, .int (deep + 1 : Nat), .loc r, .bl tall] st fun w s => ∃ c, w = toD c ∧ Ok c ∧ dp c ≤ deep ∧ Gr2 n r st s := by
  intro deep
  induction deep with
  | zero =>
    intro n r st x tall h hr
    have hz := sizeLine_eq
    have hn := DOk_ne h hr
    refine ⟨_, rfl, rfl, ?_⟩
    generalize hP : (fun (w : D) (s : Sto) => ∃ c, w = toD c ∧ Ok c ∧ dp c ≤ 0 ∧ Gr2 n r st s) = P
    unfold b24
    walk_at "st"
    simp only [hr]
    walk_at "wp"
    refine ⟨[.int x], 0, by first | exact hr | rfl, ixN_nat (n := 1) (k := 0) (by decide), ?_⟩
    walk_at "st"
    have h2 : DOk (st.set r (.lst [.int (x - 1)])) n := DOk_set h hr
    have g0 : Gr2 n r st (st.set r (.lst [.int (x - 1)])) := ⟨h2, ⟨_, set_get hr⟩, by simp, fun k _ _ h3 => set_ne h3⟩
    refine call_up (draw_spec f15 h2 (by decide) (by decide)) (by decide) fun w s1 q => ?_
    obtain ⟨i, rfl, i0, i1, g1⟩ := q
    walk_at "st"
    refine ite_yes (by decide) ?_
    walk_at "st"
    refine call_mono (leaf_spec g1.ok) fun w s2 q => ?_
    obtain ⟨c, rfl, ok, hd, g2⟩ := q
    rw [← hP]
    exact ⟨c, rfl, ok, by omega, (g0.step g1 hn).step g2 hn⟩
  | succ deep ih =>
    intro n r st x tall h hr
    have hz := sizeLine_eq
    have hn := DOk_ne h hr
    refine ⟨_, rfl, rfl, ?_⟩
    generalize hP : (fun (w : D) (s : Sto) => ∃ c, w = toD c ∧ Ok c ∧ dp c ≤ deep + 1 ∧ Gr2 n r st s) = P
    have fin : ∀ c x s, toD c = x → Ok c → dp c ≤ deep + 1 → Gr2 n r st s → P x s := fun c x s e a b d => by
      rw [← hP]
      exact ⟨c, e.symm, a, b, d⟩
    unfold b24
    walk_at "st"
    simp only [hr]
    walk_at "wp"
    refine ⟨[.int x], 0, by first | exact hr | rfl, ixN_nat (n := 1) (k := 0) (by decide), ?_⟩
    walk_at "st"
    have h2 : DOk (st.set r (.lst [.int (x - 1)])) n := DOk_set h hr
    have g0 : Gr2 n r st (st.set r (.lst [.int (x - 1)])) := ⟨h2, ⟨_, set_get hr⟩, by simp, fun k _ _ h3 => set_ne h3⟩
    refine call_up (draw_spec f15 h2 (by decide) (by decide)) (by omega) fun w s1 q => ?_
    obtain ⟨i, rfl, i0, i1, g1⟩ := q
    have g1' := g0.step g1 hn
    obtain ⟨y, hy⟩ := g1'.room
    have hc : CalLe (callW fns cst (deep + 7)) (callW fns cst (deep + 7)) := callW_le (Nat.le_refl _)
    refine wp_cons ?_
    refine wp_ite hc (p := (!tall && (decide (i < 2) || decide (y < 1)))) (st1 := s1) ?_ (fun hp => ?_) fun hp => ?_
    · walk_at "wp"
      refine ite_no (by rw [beq_iff_eq]; omega) ?_
      cases tall with
      | true => first | rfl | exact ⟨rfl, rfl⟩
      | false =>
        walk_at "wp"
        split
        · rename_i hi
          rw [decide_eq_true hi]
          first | rfl | exact ⟨rfl, rfl⟩
        · rename_i hi
          rw [decide_eq_false hi]
          refine ⟨_, hy, _, rfl, ?_⟩
          walk_at "wp"
          first | rfl | exact ⟨rfl, rfl⟩
    · walk_at "st"
      refine call_up (leaf_spec g1.ok) (by omega) fun w s2 q => ?_
      obtain ⟨c, rfl, ok, hd, g2⟩ := q
      exact fin c _ _ rfl ok (by omega) (g1'.step g2 hn)
    · walk_at "nil"
      walk_at "st"
      have ed : ((deep + 1 + 1 : Nat) : Int) - 1 = ((deep + 1 : Nat) : Int) := by omega
      split
      · walk_at "st"
        rw [ed]
        refine call_mono (ih n r s1 y tall g1'.ok hy) fun w s2 q => ?_
        obtain ⟨c, rfl, ok, hd, g2⟩ := q
        have g2' := g1'.trans g2
        walk_at "st"
        split
        · walk_at "st"
          refine call_up (draw_spec f15 g2.ok (by decide) (by decide)) (by omega) fun w s3 q => ?_
          obtain ⟨k, rfl, k0, k1, g3⟩ := q
          walk_at "wp"
          exact ⟨by omega, fin (.upto c (1 + k)) _ _ rfl ⟨ok, by omega, by omega⟩ (by rw [dp]; omega) (g2'.step g3 hn)⟩
        · walk_at "nil"
          walk_at "st"
          refine ⟨by omega, ?_⟩
          have g3 := g2'.step (Gr.app g2.ok [.lst [.str [115, 116, 97, 114], .str [112, 108, 117, 115], .str [109, 97, 121, 98, 101]]]) hn
          refine call_up (draw_spec f15 g3.ok (by decide) (by decide)) (by omega) fun w s4 q => ?_
          obtain ⟨k, rfl, k0, k1, g4⟩ := q
          walk_at "wp"
          have hm : s4[s2.length]? = some (.lst [.str [115, 116, 97, 114], .str [112, 108, 117, 115], .str [109, 97, 121, 98, 101]]) := (g4.same s2.length (by simp) (by have := g2.ok.lt; omega)).trans new_get
          refine ⟨_, hm, ?_⟩
          have g5 := g3.step g4 hn
          have hk : k = (0 : Nat) ∨ k = (1 : Nat) ∨ k = (2 : Nat) := by omega
          rcases hk with rfl | rfl | rfl
          · exact ⟨.str Sg.star.kind, by rw [atI_ofN] <;> rfl, by omega, fin (.un .star c) _ _ rfl ok (by rw [dp]; omega) g5⟩
          · exact ⟨.str Sg.plus.kind, by rw [atI_ofN] <;> rfl, by omega, fin (.un .plus c) _ _ rfl ok (by rw [dp]; omega) g5⟩
          · exact ⟨.str Sg.maybe.kind, by rw [atI_ofN] <;> rfl, by omega, fin (.un .maybe c) _ _ rfl ok (by rw [dp]; omega) g5⟩
      · walk_at "nil"
        walk_at "st"
        rw [ed]
        refine call_mono (ih n r s1 y tall g1'.ok hy) fun w s2 q => ?_
        obtain ⟨a, rfl, oka, hda, g2⟩ := q
        have g2' := g1'.trans g2
        obtain ⟨y2, hy2⟩ := g2.room
        walk_at "st"
        rw [ed]
        refine call_mono (ih n r s2 y2 false g2.ok hy2) fun w s3 q => ?_
        obtain ⟨b, rfl, okb, hdb, g3⟩ := q
        have g3' := g2'.trans g3
        obtain ⟨y3, hy3⟩ := g3.room
        walk_at "st"
        refine call_up (draw_spec f15 g3.ok (by decide) (by decide)) (by omega) fun w s4 q => ?_
        obtain ⟨k, rfl, k0, k1, g4⟩ := q
        have g4' := g3'.step g4 hn
        have tail : ∀ w : S, (∀ u v, Ok u → Ok v → dp u ≤ deep → dp v ≤ deep → ∃ c, toD c = .tup [.str w, toD u, toD v] ∧ Ok c ∧ dp c ≤ deep + 1) → ∀ N B T x8, wpSs (callW fns cst (deep + 7)) cst (.cons (.ret (.ife (.tst (.cmp .Eq (.call 15 (.cons (.var 0) (.cons (.cst (.int (2))) .nil))) (.cst (.int (0))))) (.tup (.cons (.var 7) (.cons (.var 5) (.cons (.var 6) .nil)))) (.tup (.cons (.var 7) (.cons (.var 6) (.cons (.var 5) .nil)))))) .nil)
            [some (.loc n), some (.int (deep + 1 + 1 : Nat)), some (.loc r), some (.bl tall), some (.int i), some (toD a), some (toD b), some (.str w), x8] s4 ⟨N, P, B, T⟩ := fun w hw N B T x8 => by
          walk_at "st"
          refine call_up (draw_spec f15 g4.ok (by decide) (by decide)) (by omega) fun w s5 q => ?_
          obtain ⟨l, rfl, l0, l1, g5⟩ := q
          walk_at "wp"
          split
          · obtain ⟨c, e1, e2, e3⟩ := hw a b oka okb hda hdb
            exact ⟨by omega, fin c _ _ e1 e2 e3 (g4'.step g5 hn)⟩
          · obtain ⟨c, e1, e2, e3⟩ := hw b a okb oka hdb hda
            exact ⟨by omega, fin c _ _ e1 e2 e3 (g4'.step g5 hn)⟩
        walk_at "wp"
        split
        · exact tail kThen (fun u v a b c d => ⟨.thn u v, rfl, ⟨a, b⟩, by rw [dp]; omega⟩) _ _ _ _
        · exact tail kOr (fun u v a b c d => ⟨.or u v, rfl, ⟨a, b⟩, by rw [dp]; omega⟩) _ _ _ _
theorem number_spec {n : Nat} {st : Sto} (h : DOk st n) : callW fns cst 3 25 [.loc n, .int 39] st fun w s => ∃ k : Nat, w = .int k ∧ k ≤ 39 ∧ Gr n st s := by
  have hz := sizeLine_eq
  refine ⟨_, rfl, rfl, ?_⟩
  unfold b25
  walk_at "st"
  refine call_up (draw_spec f15 h (by decide) (by decide)) (by decide) fun w s1 q => ?_
  obtain ⟨r, rfl, r0, r1, g1⟩ := q
  refine ⟨by omega, ?_⟩
  have g2 := g1.to_app [.lst [.int 0, .int 1, .int 2, .int (39 - 1), .int 39, .int r]]
  refine call_mono (pick_loc f15 f16 g2.ok new_get (by have := g1.ok.lt; omega) (by simp) (by simp)) fun w s2 q => ?_
  obtain ⟨q1, g3⟩ := q
  have g4 := g2.trans g3
  simp only [List.mem_cons, List.not_mem_nil, or_false] at q1
  rcases q1 with rfl | rfl | rfl | rfl | rfl | rfl
  · exact ⟨0, rfl, by decide, g4⟩
  · exact ⟨1, rfl, by decide, g4⟩
  · exact ⟨2, rfl, by decide, g4⟩
  · exact ⟨38, rfl, by decide, g4⟩
  · exact ⟨39, rfl, by decide, g4⟩
  · exact ⟨r.toNat, by rw [Int.toNat_of_nonneg r0], by omega, g4⟩
theorem move_spec {n : Nat} {st : Sto} (h : DOk st n) : callW fns cst 5 26 [.loc n] st fun w s => ∃ m : Mv, w = m.D ∧ m.Ok ∧ Gr n st s := by
  have hz := sizeLine_eq
  refine ⟨_, rfl, rfl, ?_⟩
  generalize hP : (fun (w : D) (s : Sto) => ∃ m : Mv, w = m.D ∧ m.Ok ∧ Gr n st s) = P
  unfold b26
  walk_at "st"
  refine call_mono (words_spec h (by decide) (by decide)) fun w s1 q => ?_
  obtain ⟨us, rfl, hg, hl, hne, g1⟩ := q
  walk_at "wp"
  refine ⟨us, rfl, by omega, fun ys hp hs => ?_⟩
  refine ⟨_, new_get, ?_⟩
  have g2 := g1.to_app [.lst (ys.map .str)]
  walk_at "st"
  refine call_up (number_spec g2.ok) (by decide) fun w s3 q => ?_
  obtain ⟨p, rfl, hp39, g3⟩ := q
  refine call_up (word g3.ok) (by decide) fun w s4 q => ?_
  obtain ⟨t, rfl, ht, g4⟩ := q
  refine call_up (word g4.ok) (by decide) fun w s5 q => ?_
  obtain ⟨e, rfl, he, g5⟩ := q
  refine ⟨by omega, ?_⟩
  refine call_up (number_spec g5.ok) (by decide) fun w s6 q => ?_
  obtain ⟨q, rfl, hq39, g6⟩ := q
  refine ⟨by omega, ?_⟩
  rw [← hP]
  exact ⟨⟨p, t, e, ys, q⟩, rfl, ⟨hp39, hq39, ht, he, fun x hx => hg x (hp.mem_iff.mp hx), by have := hp.length_eq; show ys.length ≤ 3; omega⟩, (((g2.trans g3).trans g4).trans g5).trans g6⟩
end K09

set_option Elab.async false
set_option linter.all false
set_option maxRecDepth 100000
set_option maxHeartbeats 4000000
namespace K09
open PySem Dq L2
local macro_rules | `(tactic| walk_at "wp") => `(tactic| simp only [wpS, wpE, wpEo, wpEs, wpT, wpTeo, wpTg, wpTgs, wpI, immD, truW_bl, truW_int, truW_str, truW_tup, truW_loc, idxW_dic, inW_dic, splW_tup, splW_flst, splW_loc, blt_str, blt_intS, mth_extend, mth_split, mth_partition, mth_startswith, mth_removeprefix, mth_pop, mthTy_pop, mthTy_ext, mthTy_split, mthTy_part, mthTy_starts, mthTy_rmp, idxW_str, idxW_tup, idxW_flst, idxW_loc, idlW_loc, setW_loc, slcW_str, slcW_loc, binW_add, binW_addS, binW_addL, binW_addT, binW_mulT, blt_srtT, blt_srtL, slcW_tup, blt_lstT, binW_sub, binW_mul, binW_fdiv, binW_mod, binW_pow, binW_shl, augW_add, augW_addS, augW_sub,
  cmpW_eq, cmpW_ne, eqW_strs, eqW_ints, inW_strs, inW_loc, inW_tup, flatD, atI_m1, cmpW_in, cmpW_ni, cmpW_lt, cmpW_le, cmpW_gt, cmpW_ge, cmpW_is, cmpW_isn, lenW_loc, lenW_str, lenW_tup, lenW_flst, blt_len, blt_abs, blt_max, blt_min, blt_int, blt_intB, blt_tup, blt_all, blt_any, mth_append, mth_join, mthTy_join, mthTy_app, seqW_str, seqW_tup, seqW_flst, seqW_loc, lenTs, slT, slTs,
  List.getElem?_cons_zero, List.getElem?_cons_succ, List.set_cons_zero, List.set_cons_succ, Option.some.injEq, exists_eq_left', exists_eq_left, true_and, and_true, D.bl.injEq, D.int.injEq, D.loc.injEq, D.str.injEq, D.tup.injEq, Cell.lst.injEq, atI_0, atI_1, atI_2, atI_3, atI_4, decide_eq_true_eq, List.map, List.length_cons, List.length_nil, List.replicate, List.cons_append, List.nil_append, Nat.reduceAdd, Nat.reduceSub, Nat.zero_add, wipeE, isiB, eqF_str, List.any_cons, List.any_nil, List.all_cons, List.all_nil, Bool.or_false, Bool.and_true, Bool.and_self, bnot_t, Bool.true_eq_false, decide_eq_false_iff_not, eq_self, not_true_eq_false, not_false_eq_true, if_true, if_false, Bool.false_eq_true, Bool.not_true, Bool.not_false])
local macro_rules | `(tactic| walk_at "nil") => `(tactic| simp only [wpSs_nil])

local macro_rules | `(tactic| walk_at "st") => `(tactic| (refine wp_cons ?_; walk_at "wp"))
local macro_rules | `(tactic| walk_at "no") => `(tactic| (refine wp_cons ?_; walk_at "wp"; refine ite_no (by decide) ?_; walk_at "nil"))
local macro_rules | `(tactic| walk_at "yes") => `(tactic| (refine wp_cons ?_; walk_at "wp"; refine ite_yes (by decide) ?_))
theorem flat_mem {α : Type} {x : α} {L : List α} : ∀ {n : Nat}, x ∈ (List.replicate n L).flatten → x ∈ L
  | 0, h => by simp at h
  | n + 1, h => by
    rw [List.replicate_succ, List.flatten_cons] at h
    rcases List.mem_append.mp h with h | h
    · exact h
    · exact flat_mem h
theorem flat_len {α : Type} {L : List α} : ∀ {n : Nat}, (List.replicate n L).flatten.length = n * L.length
  | 0 => by simp
  | n + 1 => by
    rw [List.replicate_succ, List.flatten_cons, List.length_append, flat_len, Nat.succ_mul, Nat.add_comm]
theorem flat_map' {α β : Type} {f : α → β} {L : List α} (n : Nat) : (List.replicate n (L.map f)).flatten = ((List.replicate n L).flatten).map f := by
  rw [List.map_flatten, List.map_replicate]
theorem moves_spec {n : Nat} {st : Sto} {most : Int} (h : DOk st n) (hm : most = 200 ∨ most = 0) : callW fns cst 6 27 [.loc n, .int most] st fun w s => ∃ k : Wk, w = k.D ∧ k.Ok ∧ Gr n st s := by
  have hz := sizeLine_eq
  have hc : CalLe (callW fns cst 5) (callW fns cst 5) := callW_le (Nat.le_refl _)
  refine ⟨_, rfl, rfl, ?_⟩
  generalize hP : (fun (w : D) (s : Sto) => ∃ k : Wk, w = k.D ∧ k.Ok ∧ Gr n st s) = P
  unfold b27
  refine wp_cons ?_
  refine wp_cut hc (fun en s => ∃ ms : List Mv, en = [some (.loc n), some (.int most), some (.tup (ms.map Mv.D)), none] ∧ (∀ m ∈ ms, m.Ok) ∧ ms.length ≤ 3 ∧ Gr n st s) ?_ fun en s hM => ?_
  · walk_at "wp"
    refine ⟨by decide, ?_⟩
    refine call_up (draw_spec f15 h (by decide) (by decide)) (by decide) fun w s1 q => ?_
    obtain ⟨r, rfl, r0, r1, g1⟩ := q
    refine ⟨r, rfl, by omega, by omega, ?_⟩
    have hmany : (List.map (fun (k : Nat) => D.int (k : Int)) (List.range r.toNat)).length = r.toNat := by simp
    refine compW_all (f := fun w st K => callW fns cst 5 26 [D.loc n] st fun x st4 => K (some x) st4) (fun w st A B h p => call_mono p fun _ _ q => h _ _ q) (fun pre acc s2 => ∃ ms : List Mv, acc = ms.map Mv.D ∧ ms.length = pre.length ∧ (∀ m ∈ ms, m.Ok) ∧ Gr n st s2) ⟨[], rfl, rfl, by simp, g1⟩ (fun pre w post acc s2 e hI => ?_) (fun acc s2 hI => ?_)
    · obtain ⟨ms, rfl, hl, hok, gs⟩ := hI
      have hpl := congrArg List.length e
      rw [hmany, List.length_append, List.length_cons] at hpl
      refine ⟨trivial, call_mono (move_spec gs.ok) fun w s3 q => ?_⟩
      obtain ⟨m, rfl, mok, g3⟩ := q
      refine ⟨by simp; omega, ms ++ [m], by simp, by simp [hl], fun x hx => ?_, gs.trans g3⟩
      rcases List.mem_append.mp hx with z | z
      · exact hok x z
      · rw [List.mem_singleton.mp z]
        exact mok
    · obtain ⟨ms, rfl, hl, hok, gs⟩ := hI
      rw [hmany] at hl
      refine ⟨trivial, ?_⟩
      walk_at "wp"
      refine ⟨_, new_get, ms, rfl, hok, by omega, gs.to_app _⟩
  · obtain ⟨ms, rfl, hok, hl, g⟩ := hM
    refine wp_cons ?_
    refine wp_cut hc (fun en s => ∃ ms : List Mv, en = [some (.loc n), some (.int most), some (.tup (ms.map Mv.D)), none] ∧ (∀ m ∈ ms, m.Ok) ∧ ms.length ≤ 1000 ∧ Gr n st s) ?_ fun en s2 hM => ?_
    · walk_at "wp"
      split
      · rename_i h0
        have hm200 : most = 200 := by omega
        refine call_up (rare_spec g.ok (by decide) (by decide)) (by decide) fun w s2 q => ?_
        obtain ⟨b, rfl, g2⟩ := q
        have g3 := g.trans g2
        walk_at "wp"
        split
        · walk_at "st"
          refine call_mono (move_spec g3.ok) fun w s4 q => ?_
          obtain ⟨m, rfl, mok, g4⟩ := q
          have g5 := g3.trans g4
          rw [hm200]
          have e1 : (ms.map Mv.D) ++ [m.D] = (ms ++ [m]).map Mv.D := by simp
          have hX := flat_map' (f := Mv.D) (L := ms ++ [m]) 201
          have hXl := flat_len (L := ms ++ [m]) (n := 201)
          have hXm : ∀ x ∈ (List.replicate 201 (ms ++ [m])).flatten, x.Ok := fun x hx => by
            rcases List.mem_append.mp (flat_mem hx) with z | z
            · exact hok x z
            · rw [List.mem_singleton.mp z]
              exact mok
          refine ⟨by omega, by rw [List.length_map]; omega, by simp, by decide, by decide, by simp; omega, ?_⟩
          refine call_up (draw_spec f15 g5.ok (by decide) (by decide)) (by decide) fun w s6 q => ?_
          obtain ⟨r, rfl, r0, r1, g6⟩ := q
          walk_at "wp"
          rw [e1, show (201 : Int).toNat = 201 from rfl, hX]
          have e2 : (200 : Int) - r = ((200 - r.toNat : Nat) : Int) := by omega
          rw [e2, cut_to, ← List.map_take]
          walk_at "nil"
          refine ⟨((List.replicate 201 (ms ++ [m])).flatten).take (200 - r.toNat), rfl, fun x hx => hXm x (List.mem_of_mem_take hx), by simp; omega, g5.trans g6⟩
        · walk_at "nil"
          exact ⟨ms, rfl, hok, by omega, g3⟩
      · walk_at "nil"
        exact ⟨ms, rfl, hok, by omega, g⟩
    · obtain ⟨ms, rfl, hok, hl, g⟩ := hM
      walk_at "st"
      refine call_up (draw_spec f15 g.ok (by decide) (by decide)) (by decide) fun w s3 q => ?_
      obtain ⟨r, rfl, r0, r1, g3⟩ := q
      walk_at "wp"
      split
      · refine ⟨by omega, ?_⟩
        rw [← hP]
        exact ⟨.tab ms none, rfl, ⟨hok, by simp, hl⟩, g.trans g3⟩
      · refine call_up (number_spec (g.trans g3).ok) (by decide) fun w s4 q => ?_
        obtain ⟨f, rfl, hf, g4⟩ := q
        refine ⟨by omega, ?_⟩
        rw [← hP]
        exact ⟨.tab ms (some f), rfl, ⟨hok, fun n e => by injection e with e; omega, hl⟩, (g.trans g3).trans g4⟩
theorem any_spec {n : Nat} {st : Sto} {most size : Int} (h : DOk st n) (hm : most = 200 ∨ most = 0) (s1_pos : 0 < size) (s2_lt : size < 1000) : callW fns cst 19 28 [.loc n, .int most, .int size] st fun w s => ∃ k : Wk, w = k.D ∧ k.Ok ∧ Gr n st s := by
  have hz := sizeLine_eq
  refine ⟨_, rfl, rfl, ?_⟩
  generalize hP : (fun (w : D) (s : Sto) => ∃ k : Wk, w = k.D ∧ k.Ok ∧ Gr n st s) = P
  have go : ∀ (x : Int) (tall : Bool) s, Gr n st s → callW fns cst 18 24 [.loc n, .int 12, .loc s.length, .bl tall] (s ++ [.lst [.int x]]) P := fun x tall s g => by
    refine call_mono (expr_spec 11 n s.length (s ++ [.lst [.int x]]) x tall (g.to_app _).ok new_get) fun w s2 q => ?_
    obtain ⟨c, rfl, ok, hd, g2⟩ := q
    rw [← hP]
    refine ⟨.ex c, rfl, ⟨ok, hd⟩, g2.ok, ?_, fun k h1 h2 => ?_⟩
    · have := g2.len
      have := g.len
      simp at *
      omega
    · have := g.len
      rw [g2.same k (by simp; omega) h2 (by omega), List.getElem?_append_left (by omega)]
      exact g.same k h1 h2
  unfold b28
  walk_at "st"
  refine call_up (draw_spec f15 h (by decide) (by decide)) (by decide) fun w s1 q => ?_
  obtain ⟨r, rfl, r0, r1, g1⟩ := q
  have last : ∀ N, wpSs (callW fns cst 18) cst (.cons (.ret (.call 24 (.cons (.var 0) (.cons (.cst (.int (12))) (.cons (.lst (.cons (.bin .Add (.cst (.int (1))) (.call 15 (.cons (.var 0) (.cons (.var 2) .nil)))) .nil)) (.cons (.cst (.bl false)) .nil)))))) .nil) [some (.loc n), some (.int most), some (.int size), some (.int r)] s1 ⟨N, P, fun _ _ => False, fun _ _ => False⟩ := fun N => by
    walk_at "st"
    refine call_up (draw_spec f15 g1.ok s1_pos (by omega)) (by decide) fun w s2 q => ?_
    obtain ⟨k, rfl, k0, k1, g2⟩ := q
    walk_at "wp"
    exact ⟨by omega, go _ _ _ (g1.trans g2)⟩
  walk_at "st"
  split
  · walk_at "st"
    refine call_up (moves_spec g1.ok hm) (by decide) fun w s2 q => ?_
    obtain ⟨k, rfl, ok, g2⟩ := q
    rw [← hP]
    exact ⟨k, rfl, ok, g1.trans g2⟩
  · walk_at "nil"
    walk_at "st"
    split
    · split
      · walk_at "st"
        exact ⟨by omega, go _ _ _ g1⟩
      · walk_at "nil"
        exact last _
    · walk_at "nil"
      exact last _
end K09

set_option Elab.async false
set_option linter.all false
set_option maxRecDepth 100000
set_option maxHeartbeats 4000000
namespace K09
open PySem Dq L2
local macro_rules | `(tactic| walk_at "wp") => `(tactic| simp only [wpS, wpE, wpEo, wpEs, wpT, wpTeo, wpTg, wpTgs, wpI, immD, truW_bl, truW_int, truW_str, truW_tup, truW_loc, idxW_dic, inW_dic, splW_tup, splW_flst, splW_loc, blt_str, blt_intS, mth_extend, mth_split, mth_partition, mth_startswith, mth_removeprefix, mth_pop, mthTy_pop, mthTy_ext, mthTy_split, mthTy_part, mthTy_starts, mthTy_rmp, idxW_str, idxW_tup, idxW_flst, idxW_loc, idlW_loc, setW_loc, slcW_str, slcW_loc, binW_add, binW_addS, binW_addL, binW_addT, binW_mulT, blt_srtT, blt_srtL, slcW_tup, blt_lstT, binW_sub, binW_mul, binW_fdiv, binW_mod, binW_pow, binW_shl, augW_add, augW_addS, augW_sub,
  cmpW_eq, cmpW_ne, eqW_strs, eqW_ints, inW_strs, inW_loc, inW_tup, flatD, atI_m1, cmpW_in, cmpW_ni, cmpW_lt, cmpW_le, cmpW_gt, cmpW_ge, cmpW_is, cmpW_isn, lenW_loc, lenW_str, lenW_tup, lenW_flst, blt_len, blt_abs, blt_max, blt_min, blt_int, blt_intB, blt_tup, blt_all, blt_any, mth_append, mth_join, mthTy_join, mthTy_app, seqW_str, seqW_tup, seqW_flst, seqW_loc, lenTs, slT, slTs,
  List.getElem?_cons_zero, List.getElem?_cons_succ, List.set_cons_zero, List.set_cons_succ, Option.some.injEq, exists_eq_left', exists_eq_left, true_and, and_true, D.bl.injEq, D.int.injEq, D.loc.injEq, D.str.injEq, D.tup.injEq, Cell.lst.injEq, atI_0, atI_1, atI_2, atI_3, atI_4, decide_eq_true_eq, List.map, List.length_cons, List.length_nil, List.replicate, List.cons_append, List.nil_append, Nat.reduceAdd, Nat.reduceSub, Nat.zero_add, wipeE, isiB, eqF_str, List.any_cons, List.any_nil, List.all_cons, List.all_nil, Bool.or_false, Bool.and_true, Bool.and_self, bnot_t, Bool.true_eq_false, decide_eq_false_iff_not, eq_self, not_true_eq_false, not_false_eq_true, if_true, if_false, Bool.false_eq_true, Bool.not_true, Bool.not_false])
local macro_rules | `(tactic| walk_at "nil") => `(tactic| simp only [wpSs_nil])

local macro_rules | `(tactic| walk_at "st") => `(tactic| (refine wp_cons ?_; walk_at "wp"))
local macro_rules | `(tactic| walk_at "no") => `(tactic| (refine wp_cons ?_; walk_at "wp"; refine ite_no (by decide) ?_; walk_at "nil"))
local macro_rules | `(tactic| walk_at "yes") => `(tactic| (refine wp_cons ?_; walk_at "wp"; refine ite_yes (by decide) ?_))
/-! ### the law reads -/
theorem name_len {n k : Nat} {ws : List S} {s : RS} {st : Sto} (h : RSt n k ws s st) : (takeName ws s).1.length ≤ 1000 := by
  unfold takeName
  split
  · exact Nat.zero_le _
  · exact see_len h
theorem read_name {n k : Nat} {ws : List S} {s : RS} {st : Sto} (h : RSt n k ws s st) : callW fns cst 3 32 [.loc n] st fun w st' => w = .str (takeName ws s).1 ∧ RSt n k ws (takeName ws s).2 st' ∧ Ch n st st' := name_spec f30 f19 f29 f32 h
theorem read_take {n k : Nat} {ws : List S} {s : RS} {st : Sto} {w : S} (h : RSt n k ws s st) : callW fns cst 2 31 [.loc n, .str w] st fun _ st' => RSt n k ws (take ws s w) st' ∧ Ch n st st' := take_spec f30 f31 h
theorem read_see {n k : Nat} {ws : List S} {s : RS} {st : Sto} (h : RSt n k ws s st) : callW fns cst 1 30 [.loc n] st fun w st' => w = .str (see ws s) ∧ st' = st := see_spec f30 h
theorem at_eq {n k : Nat} {ws : List S} {s : RS} {st : Sto} (h : RSt n k ws s st) : st[n]? = some (.lst [.loc k, .int s.pos, .bl s.bad, .int s.z]) := h.at_
theorem or2 {a b w : S} : ((a == w || b == w) = true) ↔ (w = a ∨ w = b) := by
  rw [Bool.or_eq_true, beq_iff_eq, beq_iff_eq]
  exact ⟨fun h => h.imp Eq.symm Eq.symm, fun h => h.imp Eq.symm Eq.symm⟩
theorem or3 {a b c w : S} : ((a == w || (b == w || c == w)) = true) ↔ (w = a ∨ w = b ∨ w = c) := by
  rw [Bool.or_eq_true, Bool.or_eq_true, beq_iff_eq, beq_iff_eq, beq_iff_eq]
  exact ⟨fun h => h.imp Eq.symm fun h => h.imp Eq.symm Eq.symm, fun h => h.imp Eq.symm fun h => h.imp Eq.symm Eq.symm⟩
theorem tf {b : Bool} (h : b = true) (g : b = false) : False := by rw [h] at g; cases g
/-! ### the stacks -/
def stW : Fs → List D
  | [] => []
  | f :: F => stW F ++ [.str f.word]
def stV : Fs → List D
  | [] => []
  | f :: F => stV F ++ f.vals.map toD
theorem stW_len : ∀ F : Fs, (stW F).length = F.length
  | [] => rfl
  | f :: F => by rw [stW, List.length_append, stW_len F]; rfl
theorem stV_len : ∀ F : Fs, (stV F).length ≤ F.length
  | [] => Nat.le_refl _
  | f :: F => by
    have := stV_len F
    rw [stV, List.length_append, List.length_map, List.length_cons]
    have : f.vals.length ≤ 1 := by cases f <;> simp [Fr.vals]
    omega
theorem stW_flat : ∀ F : Fs, (stW F).all flatD = true
  | [] => rfl
  | f :: F => by rw [stW, List.all_append, stW_flat F]; rfl
theorem stW_in (w : S) : ∀ F : Fs, ((stW F).any fun y => eqF y (.str w)) = F.any fun f => f.word == w
  | [] => rfl
  | f :: F => by
    rw [stW, List.any_append, stW_in w F, List.any_cons, Bool.or_comm]
    simp [eqF]
theorem open_in : ∀ F : Fs, (F.any fun f => f.word == kOpen) = hasOpn F
  | [] => rfl
  | f :: F => by
    rw [List.any_cons, open_in F]
    cases f <;> rfl
structure SS (a b : Nat) (F : Fs) (cur : Option W) (st : Sto) : Prop where
  va : st[a]? = some (.lst (stV F ++ cur.toList.map toD))
  wa : st[b]? = some (.lst (stW F))
  ne : a ≠ b
structure Ch2 (a b : Nat) (st st' : Sto) : Prop where
  len : st.length ≤ st'.length
  same : ∀ k, k < st.length → k ≠ a → k ≠ b → st'[k]? = st[k]?
theorem Ch2.refl (a b : Nat) (st : Sto) : Ch2 a b st st := ⟨Nat.le_refl _, fun _ _ _ _ => rfl⟩
theorem Ch2.trans {a b : Nat} {s t u : Sto} (x : Ch2 a b s t) (y : Ch2 a b t u) : Ch2 a b s u := ⟨Nat.le_trans x.len y.len, fun k h1 h2 h3 => (y.same k (Nat.lt_of_lt_of_le h1 x.len) h2 h3).trans (x.same k h1 h2 h3)⟩
theorem Ch2.seta {a b : Nat} (st : Sto) (c : Cell) : Ch2 a b st (st.set a c) := ⟨by simp, fun k _ h _ => set_ne h⟩
theorem Ch2.setb {a b : Nat} (st : Sto) (c : Cell) : Ch2 a b st (st.set b c) := ⟨by simp, fun k _ _ h => set_ne h⟩
theorem Ch2.app {a b : Nat} (st : Sto) (X : Sto) : Ch2 a b st (st ++ X) := ⟨by simp, fun k hk _ _ => List.getElem?_append_left hk⟩
theorem SS.app {a b : Nat} {F : Fs} {cur : Option W} {st : Sto} (h : SS a b F cur st) (X : Sto) : SS a b F cur (st ++ X) :=
  ⟨by rw [List.getElem?_append_left (get_lt h.va)]; exact h.va, by rw [List.getElem?_append_left (get_lt h.wa)]; exact h.wa, h.ne⟩
theorem SS.ch {a b n : Nat} {F : Fs} {cur : Option W} {st st' : Sto} (h : SS a b F cur st) (c : Ch n st st') (h1 : n ≠ a) (h2 : n ≠ b) : SS a b F cur st' :=
  ⟨(c.same a (get_lt h.va) (Ne.symm h1)).trans h.va, (c.same b (get_lt h.wa) (Ne.symm h2)).trans h.wa, h.ne⟩
def foldL (L : List S) : Fs → W → Fs × W
  | .th v :: F, c => if L.contains kThen = true then foldL L F (.thn v c) else (.th v :: F, c)
  | .orr v :: F, c => if L.contains kOr = true then foldL L F (.or v c) else (.orr v :: F, c)
  | F, c => (F, c)
theorem foldL_1 : ∀ (F : Fs) (c : W), foldL [kThen] F c = fold1 F c
  | [], c => rfl
  | .opn :: F, c => rfl
  | .orr v :: F, c => by rw [foldL, if_neg (by decide)]; rfl
  | .th v :: F, c => by rw [foldL, if_pos (by decide), fold1]; exact foldL_1 F _
theorem foldL_0 : ∀ (F : Fs) (c : W), foldL [kThen, kOr] F c = fold0 F c
  | [], c => rfl
  | .opn :: F, c => rfl
  | .orr v :: F, c => by rw [foldL, if_pos (by decide), fold0]; exact foldL_0 F _
  | .th v :: F, c => by rw [foldL, if_pos (by decide), fold0]; exact foldL_0 F _
theorem last_snoc {α : Type} (A : List α) (x : α) : (A ++ [x])[(A ++ [x]).length - 1]? = some x := by simp
theorem fold_spec {a b m : Nat} {F : Fs} {c : W} {L : List S} {st : Sto} (h : SS a b F (some c) st) (hm : st[m]? = some (.lst (L.map .str))) (ha : m ≠ a) (hb : m ≠ b) (hF : F.length ≤ 1000000) (ho : L.contains kOpen = false) :
    callW fns cst 1 34 [.loc a, .loc b, .loc m] st fun _ s => SS a b (foldL L F c).1 (some (foldL L F c).2) s ∧ Ch2 a b st s := by
  have hz := sizeLine_eq
  have hc : CalLe (callW fns cst 0) (callW fns cst 0) := callW_le (Nat.le_refl _)
  refine ⟨_, rfl, rfl, ?_⟩
  generalize hP : (fun (_ : D) (s : Sto) => SS a b (foldL L F c).1 (some (foldL L F c).2) s ∧ Ch2 a b st s) = P
  have fin : ∀ F' c' s, foldL L F' c' = foldL L F c → foldL L F' c' = (F', c') → SS a b F' (some c') s → Ch2 a b st s → P .non s := fun F' c' s e1 e2 x y => by
    rw [← hP, ← e1, e2]
    exact ⟨x, y⟩
  unfold b34
  refine wp_cons ?_
  refine wp_forJ hc ?_
  walk_at "wp"
  simp only [h.wa]
  walk_at "wp"
  rw [stW_len]
  refine ⟨by omega, by omega, fun pre e s => ∃ F' c' x3 x4 x5, e = [some (.loc a), some (.loc b), some (.loc m), x3, x4, x5] ∧ SS a b F' (some c') s ∧ foldL L F' c' = foldL L F c ∧ F'.length + pre.length = F.length ∧ Ch2 a b st s, ⟨F, c, _, _, _, rfl, h, rfl, rfl, .refl _ _ _⟩, fun pre w post e s ee hJ => ?_, fun e s hJ => ?_⟩
  · obtain ⟨F', c', x3, x4, x5, rfl, h1, h2, h3, h4⟩ := hJ
    have hpl := congrArg List.length ee
    rw [List.length_map, List.length_range, List.length_append, List.length_cons] at hpl
    have hm2 : s[m]? = some (.lst (L.map .str)) := (h4.same m (get_lt hm) ha hb).trans hm
    refine ⟨trivial, ?_⟩
    walk_at "wp"
    cases F' with
    | nil =>
      simp at h3
      omega
    | cons f G =>
      walk_at "st"
      simp only [h1.wa]
      walk_at "wp"
      refine ite_no (by rw [stW]; simp; omega) ?_
      have el : (stW (f :: G)).getLast? = some (.str f.word) := by
        rw [stW]
        simp
      refine ⟨_, el, _, hm2, rfl, all_flat, ?_⟩
      rw [any_str]
      have hc' : stV (f :: G) ++ (some c').toList.map toD = stV (f :: G) ++ [toD c'] := rfl
      have stop : L.contains f.word = false → foldL L (f :: G) c' = (f :: G, c') := fun q => by
        cases f with
        | opn => rfl
        | th v => rw [foldL, if_neg (by rw [show kThen = Fr.word (.th v) from rfl, q]; decide)]
        | orr v => rw [foldL, if_neg (by rw [show kOr = Fr.word (.orr v) from rfl, q]; decide)]
      split
      · rename_i hl
        walk_at "st"
        exact fin _ _ _ h2 (stop (by simpa using hl)) h1 h4
      · rename_i hl
        have hl : L.contains f.word = true := by simpa using hl
        walk_at "nil"
        -- one step
        have step : ∀ (v : W) (u : W), f.vals = [v] → toD u = .tup [.str f.word, toD v, toD c'] → foldL L (f :: G) c' = foldL L G u → ∀ x3 x4 x5, wpSs (callW fns cst 0) cst (.cons (.asg (.name 4) (.mth .pop (.var 0) .nil)) 
    (.cons (.asg (.name 5) (.mth .pop (.var 0) .nil)) 
    (.cons (.expr (.mth .append (.var 0) (.cons (.tup (.cons (.mth .pop (.var 1) .nil) (.cons (.var 5) (.cons (.var 4) .nil)))) .nil))) .nil))) [some (.loc a), some (.loc b), some (.loc m), x3, x4, x5] s
            ⟨fun e s => ∃ F' c' x3 x4 x5, e = [some (.loc a), some (.loc b), some (.loc m), x3, x4, x5] ∧ SS a b F' (some c') s ∧ foldL L F' c' = foldL L F c ∧ F'.length + (pre ++ [w]).length = F.length ∧ Ch2 a b st s, P, fun e s => P .non s, fun e s => ∃ F' c' x3 x4 x5, e = [some (.loc a), some (.loc b), some (.loc m), x3, x4, x5] ∧ SS a b F' (some c') s ∧ foldL L F' c' = foldL L F c ∧ F'.length + (pre ++ [w]).length = F.length ∧ Ch2 a b st s⟩ := fun v u hv hu hf x3 x4 x5 => by
          have va : s[a]? = some (.lst ((stV G ++ [toD v]) ++ [toD c'])) := by
            have := h1.va
            rw [stV, hv] at this
            exact this
          have wa : s[b]? = some (.lst (stW G ++ [.str f.word])) := h1.wa
          have hab : b ≠ a := fun q => h1.ne q.symm
          have lG := stV_len G
          have lF : G.length + 1 + pre.length = F.length := h3
          refine wp_cons ?_
          refine wp_pop (x := toD c') rfl va ?_
          walk_at "wp"
          refine wp_cons ?_
          refine wp_pop (x := toD v) rfl (set_get va) ?_
          walk_at "wp"
          rw [List.set_set]
          refine wp_cons ?_
          refine wp_append rfl (set_get va) ?_
          have wb : (s.set a (.lst (stV G)))[b]? = some (.lst (stW G ++ [.str f.word])) := by rw [set_ne hab]; exact wa
          have hpop : ∀ (env : En) (Q : List D → Sto → Prop), env[1]? = some (some (.loc b)) → env[5]? = some (some (toD v)) → env[4]? = some (some (toD c')) → Q [.str f.word, toD v, toD c'] ((s.set a (.lst (stV G))).set b (.lst (stW G))) → wpEs (callW fns cst 0) cst (.cons (.mth .pop (.var 1) .nil) (.cons (.var 5) (.cons (.var 4) .nil))) env (s.set a (.lst (stV G))) Q := fun env Q e1 e5 e4 hq => by
            refine wp_pop (x := .str f.word) e1 wb ?_
            exact ⟨_, e5, _, e4, hq⟩
          refine hpop _ _ rfl rfl rfl ⟨by simp; omega, ?_⟩
          refine ⟨stV G, by rw [set_ne h1.ne]; exact set_get va, by omega, ?_⟩
          walk_at "nil"
          refine ⟨G, u, _, _, _, rfl, ⟨?_, ?_, h1.ne⟩, hf.symm.trans h2, by simp; omega, ?_⟩
          · rw [← hu]
            exact set_get (c := .lst (stV G)) (by rw [set_ne h1.ne]; exact set_get va)
          · rw [set_ne hab]
            exact set_get wb
          · exact h4.trans (((Ch2.seta _ _).trans (.setb _ _)).trans (.seta _ _))
        cases f with
        | opn =>
          rw [show Fr.word .opn = kOpen from rfl, ho] at hl
          cases hl
        | th v => exact step v (.thn v c') rfl rfl (by rw [foldL, if_pos (show L.contains kThen = true from hl)]) _ _ _
        | orr v => exact step v (.or v c') rfl rfl (by rw [foldL, if_pos (show L.contains kOr = true from hl)]) _ _ _
  · obtain ⟨F', c', x3, x4, x5, rfl, h1, h2, h3, h4⟩ := hJ
    rw [List.length_map, List.length_range] at h3
    have e : F' = [] := List.length_eq_zero_iff.mp (by omega)
    subst e
    exact ⟨trivial, fin [] c' s h2 rfl h1 h4⟩
end K09

set_option Elab.async false
set_option linter.all false
set_option maxRecDepth 100000
set_option maxHeartbeats 4000000
namespace K09
open PySem Dq L2
local macro_rules | `(tactic| walk_at "wp") => `(tactic| simp only [wpS, wpE, wpEo, wpEs, wpT, wpTeo, wpTg, wpTgs, wpI, immD, truW_bl, truW_int, truW_str, truW_tup, truW_loc, idxW_dic, inW_dic, splW_tup, splW_flst, splW_loc, blt_str, blt_intS, mth_extend, mth_split, mth_partition, mth_startswith, mth_removeprefix, mth_pop, mthTy_pop, mthTy_ext, mthTy_split, mthTy_part, mthTy_starts, mthTy_rmp, idxW_str, idxW_tup, idxW_flst, idxW_loc, idlW_loc, setW_loc, slcW_str, slcW_loc, binW_add, binW_addS, binW_addL, binW_addT, binW_mulT, blt_srtT, blt_srtL, slcW_tup, blt_lstT, binW_sub, binW_mul, binW_fdiv, binW_mod, binW_pow, binW_shl, augW_add, augW_addS, augW_sub,
  cmpW_eq, cmpW_ne, eqW_strs, eqW_ints, inW_strs, inW_loc, inW_tup, flatD, atI_m1, cmpW_in, cmpW_ni, cmpW_lt, cmpW_le, cmpW_gt, cmpW_ge, cmpW_is, cmpW_isn, lenW_loc, lenW_str, lenW_tup, lenW_flst, blt_len, blt_abs, blt_max, blt_min, blt_int, blt_intB, blt_tup, blt_all, blt_any, mth_append, mth_join, mthTy_join, mthTy_app, seqW_str, seqW_tup, seqW_flst, seqW_loc, lenTs, slT, slTs,
  List.getElem?_cons_zero, List.getElem?_cons_succ, List.set_cons_zero, List.set_cons_succ, Option.some.injEq, exists_eq_left', exists_eq_left, true_and, and_true, D.bl.injEq, D.int.injEq, D.loc.injEq, D.str.injEq, D.tup.injEq, Cell.lst.injEq, atI_0, atI_1, atI_2, atI_3, atI_4, decide_eq_true_eq, List.map, List.length_cons, List.length_nil, List.replicate, List.cons_append, List.nil_append, Nat.reduceAdd, Nat.reduceSub, Nat.zero_add, wipeE, isiB, eqF_str, List.any_cons, List.any_nil, List.all_cons, List.all_nil, Bool.or_false, Bool.and_true, Bool.and_self, bnot_t, Bool.true_eq_false, decide_eq_false_iff_not, eq_self, not_true_eq_false, not_false_eq_true, if_true, if_false, Bool.false_eq_true, Bool.not_true, Bool.not_false])
local macro_rules | `(tactic| walk_at "nil") => `(tactic| simp only [wpSs_nil])

local macro_rules | `(tactic| walk_at "st") => `(tactic| (refine wp_cons ?_; walk_at "wp"))
local macro_rules | `(tactic| walk_at "no") => `(tactic| (refine wp_cons ?_; walk_at "wp"; refine ite_no (by decide) ?_; walk_at "nil"))
local macro_rules | `(tactic| walk_at "yes") => `(tactic| (refine wp_cons ?_; walk_at "wp"; refine ite_yes (by decide) ?_))
theorem RSt.set_hi {n k a : Nat} {ws : List S} {s : RS} {st : Sto} {c : Cell} (h : RSt n k ws s st) (h1 : a ≠ n) (h2 : a ≠ k) : RSt n k ws s (st.set a c) :=
  ⟨(set_ne (Ne.symm h1)).trans h.at_, (set_ne (Ne.symm h2)).trans h.wds, h.ne, h.lens, h.len, h.cps⟩
theorem Ch.set_hi {n a : Nat} {st s : Sto} {c : Cell} (h : Ch n st s) (ha : st.length ≤ a) : Ch n st (s.set a c) :=
  ⟨by rw [List.length_set]; exact h.len, fun k hk hn => (set_ne (by omega)).trans (h.same k hk hn)⟩
def pD (p : S × Bool) : D := .tup [.str p.1, .bl p.2]
theorem read_tests {n k : Nat} {ws : List S} {s : RS} {st : Sto} (h : RSt n k ws s st) : callW fns cst 4 35 [.loc n, .int 1] st fun w st' => w = testsD (takeTests ws s).1 ∧ RSt n k ws (takeTests ws s).2 st' ∧ Ch n st st' := by
  have hz := sizeLine_eq
  have hc : CalLe (callW fns cst 3) (callW fns cst 3) := callW_le (Nat.le_refl _)
  have hw := h.len
  refine ⟨_, rfl, rfl, ?_⟩
  generalize hP : (fun (w : D) (st' : Sto) => w = testsD (takeTests ws s).1 ∧ RSt n k ws (takeTests ws s).2 st' ∧ Ch n st st') = P
  unfold b35
  walk_at "st"
  refine call_up (read_take (w := kLB) h) (by decide) fun w s1 q => ?_
  obtain ⟨h1, c1⟩ := q
  have n1 := get_lt h1.at_
  have k1 := get_lt h1.wds
  walk_at "st"
  refine ⟨by omega, ?_⟩
  have l1 := c1.len
  refine wp_cons ?_
  refine wp_cut hc (fun en s2 => ∃ x3 x4, en = [some (.loc n), some (.int 1), some (.loc s1.length), x3, x4] ∧ s2[s1.length]? = some (.lst ((testsL ws (ws.length + 1) (take ws s kLB) []).1.map pD)) ∧ RSt n k ws (testsL ws (ws.length + 1) (take ws s kLB) []).2 s2 ∧ Ch n st s2) ?_ fun en s2 hM => ?_
  · refine wp_forJ hc ?_
    have h2 := h1.app [.lst []]
    walk_at "wp"
    simp only [at_eq h2]
    walk_at "wp"
    simp only [h2.wds]
    walk_at "wp"
    rw [List.length_map]
    have hlen : ((ws.length : Int) + 1).toNat = ws.length + 1 := by omega
    refine ⟨by omega, by omega, fun pre e s2 => ∃ f rs x3 x4, e = [some (.loc n), some (.int 1), some (.loc s1.length), x3, x4] ∧ s2[s1.length]? = some (.lst (f.map pD)) ∧ RSt n k ws rs s2 ∧ Ch n st s2 ∧ testsL ws (ws.length + 1 - pre.length) rs f = testsL ws (ws.length + 1) (take ws s kLB) [] ∧ f.length ≤ pre.length,
      ⟨[], _, _, _, rfl, new_get, h2, c1.trans (.app _ _), rfl, Nat.le_refl _⟩, fun pre w post e s2 ee hJ => ?_, fun e s2 hJ => ?_⟩
    · obtain ⟨f, rs, x3, x4, rfl, ha, hr, hch, ht, hfl⟩ := hJ
      have hpl := congrArg List.length ee
      rw [List.length_map, List.length_range, hlen, List.length_append, List.length_cons] at hpl
      have em : ws.length + 1 - pre.length = (ws.length - pre.length) + 1 := by omega
      rw [em] at ht
      have ht2 := ht
      rw [testsL] at ht
      refine ⟨trivial, ?_⟩
      walk_at "wp"
      have stop : (rs.bad = true ∨ (1 ≤ f.length ∧ see ws rs = kRB)) → ∀ x4, ∃ y3 y4, ([some (.loc n), some (.int 1), some (.loc s1.length), some w, x4] : En) = [some (.loc n), some (.int 1), some (.loc s1.length), y3, y4] ∧ s2[s1.length]? = some (.lst ((testsL ws (ws.length + 1) (take ws s kLB) []).1.map pD)) ∧ RSt n k ws (testsL ws (ws.length + 1) (take ws s kLB) []).2 s2 ∧ Ch n st s2 := fun q x4 => by
        rw [if_pos q] at ht
        rw [← ht]
        exact ⟨_, _, rfl, ha, hr, hch⟩
      have more : ¬ (rs.bad = true ∨ (1 ≤ f.length ∧ see ws rs = kRB)) → ∀ N B, wpSs (callW fns cst 3) cst (.cons (.asg (.name 4) (.cmp .NotEq (.call 30 (.cons (.var 0) .nil)) (.cst (.str [45])))) 
    (.cons (.ite (.not_ (.val (.var 4))) 
      (.cons (.asg (.sub (.var 0) (.cst (.int (1)))) (.bin .Add (.idx (.var 0) (.cst (.int (1)))) (.cst (.int (1))))) .nil) .nil) 
    (.cons (.expr (.mth .append (.var 2) (.cons (.tup (.cons (.call 32 (.cons (.var 0) .nil)) (.cons (.var 4) .nil))) .nil))) .nil))) [some (.loc n), some (.int 1), some (.loc s1.length), some w, x4] s2
          ⟨fun e s2 => ∃ f rs x3 x4, e = [some (.loc n), some (.int 1), some (.loc s1.length), x3, x4] ∧ s2[s1.length]? = some (.lst (f.map pD)) ∧ RSt n k ws rs s2 ∧ Ch n st s2 ∧ testsL ws (ws.length + 1 - (pre ++ [w]).length) rs f = testsL ws (ws.length + 1) (take ws s kLB) [] ∧ f.length ≤ (pre ++ [w]).length, P, N, B⟩ := fun q N B => by
        rw [if_neg q] at ht
        have last : ∀ (rs1 : RS) (s3 : Sto) (b : Bool), RSt n k ws rs1 s3 → Ch n s2 s3 → rs1 = (if see ws rs = kMinus then rs.on 1 else rs) → b = decide (see ws rs ≠ kMinus) → wpSs (callW fns cst 3) cst (.cons (.expr (.mth .append (.var 2) (.cons (.tup (.cons (.call 32 (.cons (.var 0) .nil)) (.cons (.var 4) .nil))) .nil))) .nil) [some (.loc n), some (.int 1), some (.loc s1.length), some w, some (.bl b)] s3
          ⟨fun e s2 => ∃ f rs x3 x4, e = [some (.loc n), some (.int 1), some (.loc s1.length), x3, x4] ∧ s2[s1.length]? = some (.lst (f.map pD)) ∧ RSt n k ws rs s2 ∧ Ch n st s2 ∧ testsL ws (ws.length + 1 - (pre ++ [w]).length) rs f = testsL ws (ws.length + 1) (take ws s kLB) [] ∧ f.length ≤ (pre ++ [w]).length, P, N, B⟩ := fun rs1 s3 b h3 c3 e1 e2 => by
          have ha3 := (c3.same _ (get_lt ha) (by omega)).trans ha
          refine wp_cons ?_
          refine wp_append rfl ha3 ?_
          walk_at "wp"
          refine call_mono (read_name h3) fun w2 s4 q => ?_
          obtain ⟨rfl, h4, c4⟩ := q
          have ha4 := (c4.same _ (get_lt ha3) (by omega)).trans ha3
          refine ⟨by omega, _, ha4, by simp; omega, ?_⟩
          walk_at "nil"
          refine ⟨f ++ [((takeName ws rs1).1, b)], (takeName ws rs1).2, _, _, rfl, ?_, RSt.set_hi h4 (by omega) (by omega), Ch.set_hi ((hch.trans c3).trans c4) (by omega), ?_, by simp; omega⟩
          · rw [List.map_append]
            exact set_get ha4
          · rw [← ht, e1, e2]
            exact congrArg (fun m => testsL ws m _ _) (by rw [List.length_append, List.length_singleton]; omega)
        walk_at "st"
        refine call_up (read_see hr) (by decide) fun w2 s3 q => ?_
        obtain ⟨rfl, rfl⟩ := q
        walk_at "wp"
        by_cases hm : see ws rs = kMinus
        · have e1 : (see ws rs == [45]) = true := by rw [hm]; rfl
          walk_at "st"
          refine ite_yes (by rw [e1]; rfl) ?_
          refine wp_cons (wp_on 1 hr rfl fun s4 h4 c4 => ?_)
          walk_at "nil"
          exact last _ s4 _ h4 c4 (by rw [if_pos hm]) (by rw [e1, hm]; decide)
        · have e1 : (see ws rs == [45]) = false := beq_eq_false_iff_ne.mpr hm
          walk_at "st"
          refine ite_no (by rw [e1]; simp) ?_
          walk_at "nil"
          exact last _ _ _ hr (.refl _ _) (by rw [if_neg hm]) (by rw [e1]; exact (decide_eq_true hm).symm)
      walk_at "st"
      simp only [at_eq hr]
      walk_at "wp"
      split
      · rename_i hb
        walk_at "st"
        exact stop (.inl hb) _
      · rename_i hb
        simp only [ha]
        walk_at "wp"
        rw [List.length_map]
        split
        · rename_i h1f
          refine call_up (read_see hr) (by decide) fun w2 s3 q => ?_
          obtain ⟨rfl, rfl⟩ := q
          walk_at "wp"
          split
          · rename_i hrb
            walk_at "st"
            exact stop (.inr ⟨by omega, eq_of_beq hrb⟩) _
          · rename_i hrb
            walk_at "nil"
            exact more (by rintro (q | q); exact hb q; exact hrb (by rw [q.2] <;> rfl)) _ _
        · rename_i h1f
          walk_at "nil"
          exact more (by rintro (q | q); exact hb q; omega) _ _
    · obtain ⟨f, rs, x3, x4, rfl, ha, hr, hch, ht, hfl⟩ := hJ
      rw [List.length_map, List.length_range, hlen, Nat.sub_self] at ht
      rw [← ht]
      exact ⟨trivial, _, _, rfl, ha, hr, hch⟩
  · obtain ⟨x3, x4, rfl, ha, hr, hch⟩ := hM
    walk_at "st"
    refine call_up (read_take (w := kRB) hr) (by decide) fun w s3 q => ?_
    obtain ⟨h3, c3⟩ := q
    walk_at "st"
    have ha3 := (c3.same _ (get_lt ha) (by omega)).trans ha
    refine ⟨_, ha3, ?_⟩
    rw [← hP]
    exact ⟨rfl, h3, hch.trans c3⟩

theorem read_step {n k : Nat} {ws : List S} {s : RS} {st : Sto} (h : RSt n k ws s st) : callW fns cst 5 36 [.loc n] st fun w st' => w = toD (takeStep ws s).1 ∧ RSt n k ws (takeStep ws s).2 st' ∧ Ch n st st' := by
  have hz := sizeLine_eq
  refine ⟨_, rfl, rfl, ?_⟩
  generalize hP : (fun (w : D) (st' : Sto) => w = toD (takeStep ws s).1 ∧ RSt n k ws (takeStep ws s).2 st' ∧ Ch n st st') = P
  have fin : ∀ x y s' st', takeStep ws s = (x, s') → toD x = y → RSt n k ws s' st' → Ch n st st' → P y st' := fun x y s' st' e e2 a b => by
    rw [← hP, e, ← e2]
    exact ⟨rfl, a, b⟩
  unfold takeStep at fin
  unfold b36
  walk_at "st"
  refine call_up (read_see h) (by decide) fun w s1 q => ?_
  obtain ⟨rfl, rfl⟩ := q
  walk_at "st"
  split
  · rename_i ha
    rw [if_pos (show see ws s = kAt from eq_of_beq ha)] at fin
    refine wp_cons (wp_on 1 h rfl fun s2 h2 c2 => ?_)
    walk_at "st"
    refine call_up (read_name h2) (by decide) fun w s3 q => ?_
    obtain ⟨rfl, h3, c3⟩ := q
    exact ⟨by omega, fin _ _ _ _ rfl rfl h3 (c2.trans c3)⟩
  · rename_i ha
    rw [if_neg (show ¬ see ws s = kAt from fun q => ha (by rw [q] <;> rfl))] at fin
    walk_at "nil"
    have last : ∀ s2 v, RSt n k ws (headS ws s).2 s2 → Ch n s1 s2 → v = (headS ws s).1 → ∀ N, wpSs (callW fns cst 4) cst (.cons (.ret (.tup (.cons (.cst (.str [115, 116, 101, 112])) (.cons (.var 1) (.cons (.ife (.and_ (.not_ (.val (.idx (.var 0) (.cst (.int (2)))))) (.tst (.cmp .Eq (.call 30 (.cons (.var 0) .nil)) (.cst (.str [91]))))) (.call 35 (.cons (.var 0) (.cons (.cst (.int (1))) .nil))) (.tup .nil)) .nil))))) .nil) [some (.loc n), some (.str v)] s2 ⟨N, P, fun _ _ => False, fun _ _ => False⟩ := fun s2 v h2 c2 ev N => by
      subst ev
      generalize headS ws s = H at *
      have no : ¬ (H.2.bad = false ∧ see ws H.2 = kLB) → P (.tup [.str [115, 116, 101, 112], .str H.1, .tup []]) s2 := fun q => by
        rw [if_neg q] at fin
        exact fin _ _ _ _ rfl rfl h2 c2
      walk_at "st"
      simp only [at_eq h2]
      walk_at "wp"
      split
      · rename_i hb
        refine call_up (read_see h2) (by decide) fun w s3 q => ?_
        obtain ⟨rfl, rfl⟩ := q
        walk_at "wp"
        split
        · rename_i hl
          rw [if_pos ⟨hb, eq_of_beq hl⟩] at fin
          refine call_mono (read_tests h2) fun w s4 q => ?_
          obtain ⟨rfl, h4, c4⟩ := q
          exact ⟨by omega, fin _ _ _ _ rfl rfl h4 (c2.trans c4)⟩
        · rename_i hl
          exact ⟨by omega, by omega, no fun q => hl (by rw [q.2] <;> rfl)⟩
      · rename_i hb
        exact ⟨by omega, by omega, no fun q => hb q.1⟩
    walk_at "st"
    split
    · rename_i hy
      have hy : see ws s = kAny := eq_of_beq hy
      have e : headS ws s = (see ws s, s.on 1) := by
        unfold headS
        rw [if_pos hy]
      refine wp_cons (wp_on 1 h rfl fun s2 h2 c2 => ?_)
      walk_at "nil"
      exact last s2 _ (by rw [e]; exact h2) c2 (by rw [e]) _
    · rename_i hy
      have hy : ¬ see ws s = kAny := fun q => hy (by rw [q] <;> rfl)
      have e : headS ws s = takeName ws s := by
        unfold headS
        rw [if_neg hy]
      walk_at "st"
      refine call_up (read_name h) (by decide) fun w s2 q => ?_
      obtain ⟨rfl, h2, c2⟩ := q
      walk_at "nil"
      exact last s2 _ (by rw [e]; exact h2) c2 (by rw [e]) _
theorem read_sign {n k : Nat} {ws : List S} {s : RS} {st : Sto} {c : W} (h : RSt n k ws s st) (hs : isSign (see ws s)) : callW fns cst 3 37 [.loc n, toD c] st fun w st' => w = toD (takeSign ws s c).1 ∧ RSt n k ws (takeSign ws s c).2 st' ∧ Ch n st st' := by
  have hz := sizeLine_eq
  refine ⟨_, rfl, rfl, ?_⟩
  generalize hP : (fun (w : D) (st' : Sto) => w = toD (takeSign ws s c).1 ∧ RSt n k ws (takeSign ws s c).2 st' ∧ Ch n st st') = P
  have fin : ∀ x y s' st', takeSign ws s c = (x, s') → toD x = y → RSt n k ws s' st' → Ch n st st' → P y st' := fun x y s' st' e e2 a b => by
    rw [← hP, e, ← e2]
    exact ⟨rfl, a, b⟩
  unfold takeSign at fin
  simp only at fin
  unfold b37
  walk_at "st"
  refine call_up (read_see h) (by decide) fun w s1 q => ?_
  obtain ⟨rfl, rfl⟩ := q
  refine wp_cons (wp_on 1 h rfl fun s2 h2 c2 => ?_)
  walk_at "st"
  by_cases hb : see ws s = kBrace
  · rw [if_neg (by rw [hb]; simp)] at fin
    refine ite_no (by rw [hb]; decide) ?_
    walk_at "nil"
    walk_at "st"
    refine call_mono (num_spec f30 f33 h2) fun w s3 q => ?_
    obtain ⟨rfl, h3, c3⟩ := q
    walk_at "st"
    refine call_mono (read_take (w := kUnbr) h3) fun w s4 q => ?_
    obtain ⟨h4, c4⟩ := q
    walk_at "st"
    exact ⟨by omega, fin _ _ _ _ rfl rfl h4 ((c2.trans c3).trans c4)⟩
  · rw [if_pos hb] at fin
    have e1 : (see ws s == [123]) = false := beq_eq_false_iff_ne.mpr hb
    refine ite_yes (by simp [e1]) ?_
    refine wp_cons ?_
    have hd : dicL [[42], [43], [63]] [(.str [115, 116, 97, 114]), (.str [112, 108, 117, 115]), (.str [109, 97, 121, 98, 101])] (see ws s) = some (.str (sgOf (see ws s)).kind) := by
      rcases hs with e | e | e | e
      · rw [e]; rfl
      · rw [e]; rfl
      · rw [e]; rfl
      · exact absurd e hb
    walk_at "wp"
    refine ⟨by decide, ?_⟩
    exact ⟨_, _, rfl, hd, by omega, fin (.un (sgOf (see ws s)) c) _ _ _ rfl rfl h2 c2⟩

/-- where the reader stands -/
structure TS (n k a b : Nat) (ws : List S) (st : Sto) (F : Fs) (cur : Option W) (rs : RS) (s : Sto) : Prop where
  ss : SS a b F cur s
  rst : RSt n k ws rs s
  ch : Ch n st s
theorem TS.ch2 {n k a b : Nat} {ws : List S} {st : Sto} {F F' : Fs} {cur cur' : Option W} {rs : RS} {s s' : Sto} (h : TS n k a b ws st F cur rs s) (na : n ≠ a) (nb : n ≠ b) (ka : k ≠ a) (kb : k ≠ b) (la : st.length ≤ a) (lb : st.length ≤ b) (c : Ch2 a b s s') (x : SS a b F' cur' s') : TS n k a b ws st F' cur' rs s' :=
  ⟨x, ⟨(c.same n (get_lt h.rst.at_) na nb).trans h.rst.at_, (c.same k (get_lt h.rst.wds) ka kb).trans h.rst.wds, h.rst.ne, h.rst.lens, h.rst.len, h.rst.cps⟩,
    ⟨Nat.le_trans h.ch.len c.len, fun j hj hn => (c.same j (Nat.lt_of_lt_of_le hj h.ch.len) (by omega) (by omega)).trans (h.ch.same j hj hn)⟩⟩
theorem TS.rs {n k a b : Nat} {ws : List S} {st : Sto} {F : Fs} {cur : Option W} {rs rs' : RS} {s s' : Sto} (h : TS n k a b ws st F cur rs s) (na : n ≠ a) (nb : n ≠ b) (c : Ch n s s') (x : RSt n k ws rs' s') : TS n k a b ws st F cur rs' s' :=
  ⟨h.ss.ch c na nb, x, h.ch.trans c⟩
theorem TS.app {n k a b : Nat} {ws : List S} {st : Sto} {F : Fs} {cur : Option W} {rs : RS} {s : Sto} (h : TS n k a b ws st F cur rs s) (X : Sto) : TS n k a b ws st F cur rs (s ++ X) :=
  ⟨h.ss.app X, h.rst.app X, h.ch.trans (.app _ X)⟩
def bTake38 : Ss :=
 (.cons (.asg (.name 5) (.call 30 (.cons (.var 0) .nil))) 
    (.cons (.ite (.and_ (.not_ (.val (.var 3))) (.tst (.cmp .Eq (.var 5) (.cst (.str [40]))))) 
      (.cons (.expr (.mth .append (.var 2) (.cons (.var 5) .nil))) 
      (.cons (.asg (.sub (.var 0) (.cst (.int (1)))) (.bin .Add (.idx (.var 0) (.cst (.int (1)))) (.cst (.int (1))))) .nil)) 
      (.cons (.ite (.not_ (.val (.var 3))) 
        (.cons (.expr (.mth .append (.var 1) (.cons (.call 36 (.cons (.var 0) .nil)) .nil))) 
        (.cons (.asg (.name 3) (.cst (.bl true))) .nil)) 
        (.cons (.ite (.tst (.cmp .In (.var 5) (.lst (.cons (.cst (.str [42])) (.cons (.cst (.str [43])) (.cons (.cst (.str [63])) (.cons (.cst (.str [123])) .nil))))))) 
          (.cons (.expr (.mth .append (.var 1) (.cons (.call 37 (.cons (.var 0) (.cons (.mth .pop (.var 1) .nil) .nil))) .nil))) .nil) 
          (.cons (.ite (.tst (.cmp .Eq (.var 5) (.cst (.str [124])))) 
            (.cons (.expr (.call 34 (.cons (.var 1) (.cons (.var 2) (.cons (.lst (.cons (.cst (.str [116, 104, 101, 110])) (.cons (.cst (.str [111, 114])) .nil))) .nil))))) 
            (.cons (.expr (.mth .append (.var 2) (.cons (.cst (.str [111, 114])) .nil))) 
            (.cons (.asg (.sub (.var 0) (.cst (.int (1)))) (.bin .Add (.idx (.var 0) (.cst (.int (1)))) (.cst (.int (1))))) 
            (.cons (.asg (.name 3) (.cst (.bl false))) .nil)))) 
            (.cons (.ite (.or_ (.tst (.cmp .In (.var 5) (.lst (.cons (.cst (.str [40])) (.cons (.cst (.str [64])) (.cons (.cst (.str [97, 110, 121])) .nil)))))) (.val (.call 29 (.cons (.var 5) .nil)))) 
              (.cons (.expr (.call 34 (.cons (.var 1) (.cons (.var 2) (.cons (.lst (.cons (.cst (.str [116, 104, 101, 110])) .nil)) .nil))))) 
              (.cons (.expr (.mth .append (.var 2) (.cons (.cst (.str [116, 104, 101, 110])) .nil))) 
              (.cons (.asg (.name 3) (.cst (.bl false))) .nil))) 
              (.cons (.ite (.and_ (.tst (.cmp .Eq (.var 5) (.cst (.str [41])))) (.tst (.cmp .In (.cst (.str [40])) (.var 2)))) 
                (.cons (.expr (.call 34 (.cons (.var 1) (.cons (.var 2) (.cons (.lst (.cons (.cst (.str [116, 104, 101, 110])) (.cons (.cst (.str [111, 114])) .nil))) .nil))))) 
                (.cons (.expr (.mth .pop (.var 2) .nil)) 
                (.cons (.asg (.sub (.var 0) (.cst (.int (1)))) (.bin .Add (.idx (.var 0) (.cst (.int (1)))) (.cst (.int (1))))) .nil))) 
                (.cons .brk .nil)) .nil)) .nil)) .nil)) .nil)) .nil)) 
    (.cons (.ite (.val (.idx (.var 0) (.cst (.int (2))))) 
      (.cons (.ret (.tup .nil)) .nil) .nil) .nil)))
theorem b38_eq : b38 = (.cons (.asg (.name 1) (.lst .nil)) 
  (.cons (.asg (.name 2) (.lst .nil)) 
  (.cons (.asg (.name 3) (.cst (.bl false))) 
  (.cons (.for_ (.name 4) (.range1 (.bin .Add (.bin .Mult (.cst (.int (2))) (.blt .len (.cons (.idx (.var 0) (.cst (.int (0)))) .nil))) (.cst (.int (2))))) bTake38)
  (.cons (.ite (.tst (.cmp .In (.cst (.str [40])) (.var 2))) 
    (.cons (.asg (.sub (.var 0) (.cst (.int (2)))) (.cst (.bl true))) 
    (.cons (.ret (.tup .nil)) .nil)) .nil) 
  (.cons (.expr (.call 34 (.cons (.var 1) (.cons (.var 2) (.cons (.lst (.cons (.cst (.str [116, 104, 101, 110])) (.cons (.cst (.str [111, 114])) .nil))) .nil))))) 
  (.cons (.ret (.idx (.var 1) (.cst (.int (0))))) .nil))))))) := rfl
end K09

set_option Elab.async false
set_option linter.all false
set_option maxRecDepth 100000
set_option maxHeartbeats 4000000
namespace K09
open PySem Dq L2
local macro_rules | `(tactic| walk_at "wp") => `(tactic| simp only [wpS, wpE, wpEo, wpEs, wpT, wpTeo, wpTg, wpTgs, wpI, immD, truW_bl, truW_int, truW_str, truW_tup, truW_loc, idxW_dic, inW_dic, splW_tup, splW_flst, splW_loc, blt_str, blt_intS, mth_extend, mth_split, mth_partition, mth_startswith, mth_removeprefix, mth_pop, mthTy_pop, mthTy_ext, mthTy_split, mthTy_part, mthTy_starts, mthTy_rmp, idxW_str, idxW_tup, idxW_flst, idxW_loc, idlW_loc, setW_loc, slcW_str, slcW_loc, binW_add, binW_addS, binW_addL, binW_addT, binW_mulT, blt_srtT, blt_srtL, slcW_tup, blt_lstT, binW_sub, binW_mul, binW_fdiv, binW_mod, binW_pow, binW_shl, augW_add, augW_addS, augW_sub,
  cmpW_eq, cmpW_ne, eqW_strs, eqW_ints, inW_strs, inW_loc, inW_tup, flatD, atI_m1, cmpW_in, cmpW_ni, cmpW_lt, cmpW_le, cmpW_gt, cmpW_ge, cmpW_is, cmpW_isn, lenW_loc, lenW_str, lenW_tup, lenW_flst, blt_len, blt_abs, blt_max, blt_min, blt_int, blt_intB, blt_tup, blt_all, blt_any, mth_append, mth_join, mthTy_join, mthTy_app, seqW_str, seqW_tup, seqW_flst, seqW_loc, lenTs, slT, slTs,
  List.getElem?_cons_zero, List.getElem?_cons_succ, List.set_cons_zero, List.set_cons_succ, Option.some.injEq, exists_eq_left', exists_eq_left, true_and, and_true, D.bl.injEq, D.int.injEq, D.loc.injEq, D.str.injEq, D.tup.injEq, Cell.lst.injEq, atI_0, atI_1, atI_2, atI_3, atI_4, decide_eq_true_eq, List.map, List.length_cons, List.length_nil, List.replicate, List.cons_append, List.nil_append, Nat.reduceAdd, Nat.reduceSub, Nat.zero_add, wipeE, isiB, eqF_str, List.any_cons, List.any_nil, List.all_cons, List.all_nil, Bool.or_false, Bool.and_true, Bool.and_self, bnot_t, Bool.true_eq_false, decide_eq_false_iff_not, eq_self, not_true_eq_false, not_false_eq_true, if_true, if_false, Bool.false_eq_true, Bool.not_true, Bool.not_false])
local macro_rules | `(tactic| walk_at "nil") => `(tactic| simp only [wpSs_nil])

local macro_rules | `(tactic| walk_at "st") => `(tactic| (refine wp_cons ?_; walk_at "wp"))
local macro_rules | `(tactic| walk_at "no") => `(tactic| (refine wp_cons ?_; walk_at "wp"; refine ite_no (by decide) ?_; walk_at "nil"))
local macro_rules | `(tactic| walk_at "yes") => `(tactic| (refine wp_cons ?_; walk_at "wp"; refine ite_yes (by decide) ?_))
theorem or4 {a b c d w : S} : ((a == w || (b == w || (c == w || d == w))) = true) ↔ (w = a ∨ w = b ∨ w = c ∨ w = d) := by
  rw [Bool.or_eq_true, Bool.or_eq_true, Bool.or_eq_true, beq_iff_eq, beq_iff_eq, beq_iff_eq, beq_iff_eq]
  exact ⟨fun h => h.imp Eq.symm fun h => h.imp Eq.symm fun h => h.imp Eq.symm Eq.symm, fun h => h.imp Eq.symm fun h => h.imp Eq.symm fun h => h.imp Eq.symm Eq.symm⟩
theorem fold1_len : ∀ (F : Fs) (c : W), (fold1 F c).1.length ≤ F.length
  | [], c => Nat.le_refl _
  | .opn :: F, c => Nat.le_refl _
  | .orr v :: F, c => Nat.le_refl _
  | .th v :: F, c => Nat.le_trans (fold1_len F (.thn v c)) (Nat.le_succ _)
theorem fold0_len : ∀ (F : Fs) (c : W), (fold0 F c).1.length ≤ F.length
  | [], c => Nat.le_refl _
  | .opn :: F, c => Nat.le_refl _
  | .th v :: F, c => Nat.le_trans (fold0_len F (.thn v c)) (Nat.le_succ _)
  | .orr v :: F, c => Nat.le_trans (fold0_len F (.or v c)) (Nat.le_succ _)
theorem body_spec {n k a b : Nat} {ws : List S} {st : Sto} {F : Fs} {cur : Option W} {rs : RS} {s : Sto} {x4 x5 : Option D} {K : K4} (na : n ≠ a) (nb : n ≠ b) (ka : k ≠ a) (kb : k ≠ b) (la : st.length ≤ a) (lb : st.length ≤ b) (hF : F.length ≤ 1000000)
    (h : TS n k a b ws st F cur rs s) (I : Inv ws F cur rs)
    (hgo : ∀ F' cur' rs' s' y5, pstep ws F cur rs = .go F' cur' rs' → TS n k a b ws st F' cur' rs' s' → K.nx [some (.loc n), some (.loc a), some (.loc b), some (.bl cur'.isSome), x4, y5] s')
    (hbrk : ∀ c s' y5, cur = some c → pstep ws F cur rs = .brk → TS n k a b ws st F cur rs s' → K.bk [some (.loc n), some (.loc a), some (.loc b), some (.bl true), x4, y5] s')
    (hdead : ∀ rs' s', pstep ws F cur rs = .dead → rs'.bad = true → RSt n k ws rs' s' → Ch n st s' → K.rt (.tup []) s') :
    wpSs (callW fns cst 6) cst bTake38 [some (.loc n), some (.loc a), some (.loc b), some (.bl cur.isSome), x4, x5] s K := by
  have hz := sizeLine_eq
  have hc : CalLe (callW fns cst 6) (callW fns cst 6) := callW_le (Nat.le_refl _)
  unfold bTake38
  walk_at "st"
  refine call_up (read_see h.rst) (by decide) fun w s1 q => ?_
  obtain ⟨rfl, rfl⟩ := q
  refine wp_cons ?_
  have tail : ∀ F1 cur1 rs1 s2, TS n k a b ws st F1 cur1 rs1 s2 → (rs1.bad = false → pstep ws F cur rs = .go F1 cur1 rs1) → (rs1.bad = true → pstep ws F cur rs = .dead) → wpSs (callW fns cst 6) cst (.cons (.ite (.val (.idx (.var 0) (.cst (.int (2))))) (.cons (.ret (.tup .nil)) .nil) .nil) .nil) [some (.loc n), some (.loc a), some (.loc b), some (.bl cur1.isSome), x4, some (.str (see ws rs))] s2 K := fun F1 cur1 rs1 s2 h2 hp hd => by
    walk_at "st"
    simp only [at_eq h2.rst]
    walk_at "wp"
    split
    · rename_i hb
      walk_at "st"
      exact ⟨by omega, hdead rs1 s2 (hd hb) hb h2.rst h2.ch⟩
    · rename_i hb
      walk_at "nil"
      exact hgo _ _ _ _ _ (hp ((Bool.not_eq_true _).mp hb)) h2
  have good : ∀ {F1 cur1 rs1 s2}, TS n k a b ws st F1 cur1 rs1 s2 → rs1.bad = false → pstep ws F cur rs = .go F1 cur1 rs1 → wpSs (callW fns cst 6) cst (.cons (.ite (.val (.idx (.var 0) (.cst (.int (2))))) (.cons (.ret (.tup .nil)) .nil) .nil) .nil) [some (.loc n), some (.loc a), some (.loc b), some (.bl cur1.isSome), x4, some (.str (see ws rs))] s2 K := fun h2 hb hp => tail _ _ _ _ h2 (fun _ => hp) fun q => by
    rw [hb] at q
    cases q
  have hab : b ≠ a := fun q => h.ss.ne q.symm
  have ala := get_lt h.ss.va
  have alb := get_lt h.ss.wa
  cases cur with
  | none =>
    have hp : pstep ws F none rs = (if see ws rs = kOpen then .go (.opn :: F) none (rs.on 1) else if (takeStep ws rs).2.bad = true then .dead else .go F (some (takeStep ws rs).1) (takeStep ws rs).2) := rfl
    walk_at "wp"
    refine ite_yes rfl ?_
    split
    · rename_i hw
      have hw : see ws rs = kOpen := eq_of_beq hw
      rw [if_pos hw] at hp
      refine wp_cons ?_
      refine wp_append rfl h.ss.wa ?_
      refine ⟨_, rfl, _, h.ss.wa, by rw [stW_len]; omega, ?_⟩
      have h3 : TS n k a b ws st (.opn :: F) none rs (s1.set b (.lst (stW F ++ [.str (see ws rs)]))) := by
        refine h.ch2 na nb ka kb la lb (.setb _ _) ⟨?_, ?_, h.ss.ne⟩
        · rw [set_ne h.ss.ne, stV]
          simpa [Fr.vals] using h.ss.va
        · rw [hw]
          exact set_get h.ss.wa
      refine wp_cons (wp_on 1 h3.rst rfl fun s4 h4 c4 => ?_)
      walk_at "nil"
      exact good (h3.rs na nb c4 h4) I.good hp
    · rename_i hw
      have hw : ¬ see ws rs = kOpen := fun q => hw (by rw [q] <;> rfl)
      rw [if_neg hw] at hp
      walk_at "st"
      refine ite_yes rfl ?_
      refine wp_cons ?_
      refine wp_append rfl h.ss.va ?_
      walk_at "wp"
      refine call_up (read_step h.rst) (by decide) fun w s3 q => ?_
      obtain ⟨rfl, h3, c3⟩ := q
      have h4 := h.rs na nb c3 h3
      have va : s3[a]? = some (.lst (stV F)) := by simpa using h4.ss.va
      refine ⟨_, va, by have := stV_len F; omega, ?_⟩
      have h5 : TS n k a b ws st F (some (takeStep ws rs).1) (takeStep ws rs).2 (s3.set a (.lst (stV F ++ [toD (takeStep ws rs).1]))) := by
        refine h4.ch2 na nb ka kb la lb (.seta _ _) ⟨set_get va, ?_, h.ss.ne⟩
        rw [set_ne hab]
        exact h4.ss.wa
      walk_at "st"
      walk_at "nil"
      exact tail F (some (takeStep ws rs).1) _ _ h5 (fun q => by rw [hp, if_neg (by rw [q]; simp)]) (fun q => by rw [hp, if_pos q])
  | some c =>
    have hp : pstep ws F (some c) rs = (if isSign (see ws rs) then (if (takeSign ws rs c).2.bad = true then .dead else .go F (some (takeSign ws rs c).1) (takeSign ws rs c).2)
      else if see ws rs = kBar then .go (.orr (fold0 F c).2 :: (fold0 F c).1) none (rs.on 1)
      else if isFirst (see ws rs) then .go (.th (fold1 F c).2 :: (fold1 F c).1) none rs
      else if see ws rs = kShut ∧ hasOpn F = true then
      (match (fold0 F c).1 with
      | .opn :: G => .go G (some (fold0 F c).2) (rs.on 1)
      | _ => .dead)
      else .brk) := rfl
    have dofold : ∀ (L : List S) (s2 : Sto) (m : Nat), TS n k a b ws st F (some c) rs s2 → s2[m]? = some (.lst (L.map .str)) → m ≠ a → m ≠ b → L.contains kOpen = false → callW fns cst 6 34 [.loc a, .loc b, .loc m] s2 fun _ s3 => TS n k a b ws st (foldL L F c).1 (some (foldL L F c).2) rs s3 := fun L s2 m h2 hm m1 m2 l1 =>
      call_up (fold_spec h2.ss hm m1 m2 hF l1) (by decide) fun _ s3 q => h2.ch2 na nb ka kb la lb q.2 q.1
    have pushed : ∀ (f : Fr) (G : Fs) (d : W) (s2 : Sto), TS n k a b ws st G (some d) rs s2 → f.vals = [d] → TS n k a b ws st (f :: G) none rs (s2.set b (.lst (stW G ++ [.str f.word]))) := fun f G d s2 h2 hv => by
      refine h2.ch2 na nb ka kb la lb (.setb _ _) ⟨?_, set_get h2.ss.wa, h.ss.ne⟩
      rw [set_ne h.ss.ne, stV, hv]
      simpa using h2.ss.va
    walk_at "wp"
    refine ite_no (by simp) ?_
    walk_at "st"
    refine ite_no (by simp) ?_
    walk_at "st"
    refine ⟨by omega, _, new_get, ?_⟩
    walk_at "wp"
    have h2 := h.app [Cell.lst [D.str [42], D.str [43], D.str [63], D.str [123]]]
    generalize s1 ++ [Cell.lst [D.str [42], D.str [43], D.str [63], D.str [123]]] = s2 at *
    split
    · rename_i hw
      have hw : isSign (see ws rs) := or4.mp hw
      rw [if_pos hw] at hp
      have va : s2[a]? = some (.lst (stV F ++ [toD c])) := h2.ss.va
      refine wp_cons ?_
      refine wp_append rfl va ?_
      have hcall : ∀ Q : DK, callW fns cst 6 37 [.loc n, toD c] (s2.set a (.lst (stV F))) Q → wpE (callW fns cst 6) cst (.call 37 (.cons (.var 0) (.cons (.mth .pop (.var 1) .nil) .nil))) [some (.loc n), some (.loc a), some (.loc b), some (.bl (some c).isSome), x4, some (.str (see ws rs))] s2 Q := fun Q q => by
        refine ⟨_, rfl, ?_⟩
        exact wp_pop (x := toD c) rfl va q
      refine hcall _ ?_
      have h3 : TS n k a b ws st F none rs (s2.set a (.lst (stV F))) := by
        refine h2.ch2 na nb ka kb la lb (.seta _ _) ⟨?_, ?_, h.ss.ne⟩
        · rw [show stV F ++ (none : Option W).toList.map toD = stV F by simp]
          exact set_get va
        · rw [set_ne hab]
          exact h2.ss.wa
      refine call_up (read_sign h3.rst hw) (by decide) fun w s4 q => ?_
      obtain ⟨rfl, h4, c4⟩ := q
      have h5 := h3.rs na nb c4 h4
      have va5 : s4[a]? = some (.lst (stV F)) := by simpa using h5.ss.va
      refine ⟨_, va5, by have := stV_len F; omega, ?_⟩
      have h6 : TS n k a b ws st F (some (takeSign ws rs c).1) (takeSign ws rs c).2 (s4.set a (.lst (stV F ++ [toD (takeSign ws rs c).1]))) := by
        refine h5.ch2 na nb ka kb la lb (.seta _ _) ⟨set_get va5, ?_, h.ss.ne⟩
        rw [set_ne hab]
        exact h5.ss.wa
      walk_at "nil"
      exact tail F (some (takeSign ws rs c).1) _ _ h6 (fun q => by rw [hp, if_neg (by rw [q]; simp)]) (fun q => by rw [hp, if_pos q])
    · rename_i hw
      have hw : ¬ isSign (see ws rs) := fun q => hw (or4.mpr q)
      rw [if_neg hw] at hp
      have ala2 := get_lt h2.ss.va
      have alb2 := get_lt h2.ss.wa
      walk_at "st"
      split
      · rename_i hbar
        have hbar : see ws rs = kBar := eq_of_beq hbar
        rw [if_pos hbar] at hp
        walk_at "st"
        refine ⟨by omega, ?_⟩
        refine call_mono (dofold [kThen, kOr] _ _ (h2.app [Cell.lst [D.str [116, 104, 101, 110], D.str [111, 114]]]) new_get (by omega) (by omega) (by decide)) fun _ s3 h3 => ?_
        rw [foldL_0] at h3
        have lf := fold0_len F c
        generalize (fold0 F c).2 = d at *
        generalize (fold0 F c).1 = G at *
        refine wp_cons ?_
        refine wp_append rfl h3.ss.wa ?_
        refine ⟨rfl, ?_⟩
        refine ⟨_, h3.ss.wa, by rw [stW_len]; omega, ?_⟩
        have h4 := pushed (.orr d) G d s3 h3 rfl
        refine wp_cons (wp_on 1 h4.rst rfl fun s5 h5 c5 => ?_)
        walk_at "st"
        walk_at "nil"
        exact good (h4.rs na nb c5 h5) I.good hp
      · rename_i hbar
        have hbar : ¬ see ws rs = kBar := fun q => hbar (by rw [q] <;> rfl)
        rw [if_neg hbar] at hp
        have yes : ∀ s3, TS n k a b ws st F (some c) rs s3 → isFirst (see ws rs) → wpSs (callW fns cst 6) cst (.cons (.expr (.call 34 (.cons (.var 1) (.cons (.var 2) (.cons (.lst (.cons (.cst (.str [116, 104, 101, 110])) .nil)) .nil))))) 
              (.cons (.expr (.mth .append (.var 2) (.cons (.cst (.str [116, 104, 101, 110])) .nil))) 
              (.cons (.asg (.name 3) (.cst (.bl false))) .nil))) [some (.loc n), some (.loc a), some (.loc b), some (.bl true), x4, some (.str (see ws rs))] s3 ⟨fun e s => wpSs (callW fns cst 6) cst (.cons (.ite (.val (.idx (.var 0) (.cst (.int (2))))) (.cons (.ret (.tup .nil)) .nil) .nil) .nil) e s K, K.rt, K.bk, K.ct⟩ := fun s3 h3 hf => by
          rw [if_pos hf] at hp
          have ala3 := get_lt h3.ss.va
          have alb3 := get_lt h3.ss.wa
          walk_at "st"
          refine ⟨by omega, ?_⟩
          refine call_mono (dofold [kThen] _ _ (h3.app [Cell.lst [D.str [116, 104, 101, 110]]]) new_get (by omega) (by omega) (by decide)) fun _ s4 h4 => ?_
          rw [foldL_1] at h4
          have lf := fold1_len F c
          generalize (fold1 F c).2 = d at *
          generalize (fold1 F c).1 = G at *
          refine wp_cons ?_
          refine wp_append rfl h4.ss.wa ?_
          refine ⟨rfl, ?_⟩
          refine ⟨_, h4.ss.wa, by rw [stW_len]; omega, ?_⟩
          have h5 := pushed (.th d) G d s4 h4 rfl
          walk_at "st"
          walk_at "nil"
          exact good h5 I.good hp
        have no : ∀ s3, TS n k a b ws st F (some c) rs s3 → ¬ isFirst (see ws rs) → wpSs (callW fns cst 6) cst (.cons (.ite (.and_ (.tst (.cmp .Eq (.var 5) (.cst (.str [41])))) (.tst (.cmp .In (.cst (.str [40])) (.var 2)))) 
                (.cons (.expr (.call 34 (.cons (.var 1) (.cons (.var 2) (.cons (.lst (.cons (.cst (.str [116, 104, 101, 110])) (.cons (.cst (.str [111, 114])) .nil))) .nil))))) 
                (.cons (.expr (.mth .pop (.var 2) .nil)) 
                (.cons (.asg (.sub (.var 0) (.cst (.int (1)))) (.bin .Add (.idx (.var 0) (.cst (.int (1)))) (.cst (.int (1))))) .nil))) 
                (.cons .brk .nil)) .nil) [some (.loc n), some (.loc a), some (.loc b), some (.bl true), x4, some (.str (see ws rs))] s3 ⟨fun e s => wpSs (callW fns cst 6) cst (.cons (.ite (.val (.idx (.var 0) (.cst (.int (2))))) (.cons (.ret (.tup .nil)) .nil) .nil) .nil) e s K, K.rt, K.bk, K.ct⟩ := fun s3 h3 hf => by
          rw [if_neg hf] at hp
          have ala3 := get_lt h3.ss.va
          have alb3 := get_lt h3.ss.wa
          walk_at "st"
          split
          · rename_i hs
            have hs : see ws rs = kShut := eq_of_beq hs
            refine ⟨_, h3.ss.wa, stW_flat _, ?_⟩
            rw [show ((stW F).any fun y => eqF y (.str [40])) = hasOpn F from (stW_in kOpen F).trans (open_in F)]
            split
            · rename_i ho
              rw [if_pos ⟨hs, ho⟩] at hp
              obtain ⟨w1, w2, w3⟩ := fold0_w F c _ I.ok I.w
              have hg : ∃ G, (fold0 F c).1 = .opn :: G := by
                rcases w2 with w2 | w2
                · have := hasOpn_fold0 F c
                  rw [w2, ho] at this
                  cases this
                · exact w2
              obtain ⟨G, eG⟩ := hg
              rw [eG] at hp
              walk_at "st"
              refine ⟨by omega, ?_⟩
              refine call_mono (dofold [kThen, kOr] _ _ (h3.app [Cell.lst [D.str [116, 104, 101, 110], D.str [111, 114]]]) new_get (by omega) (by omega) (by decide)) fun _ s4 h4 => ?_
              rw [foldL_0, eG] at h4
              generalize (fold0 F c).2 = d at *
              refine wp_cons ?_
              refine wp_pop (x := .str kOpen) rfl h4.ss.wa ?_
              walk_at "wp"
              have h5 : TS n k a b ws st G (some d) rs (s4.set b (.lst (stW G))) := by
                refine h4.ch2 na nb ka kb la lb (.setb _ _) ⟨?_, set_get h4.ss.wa, h.ss.ne⟩
                rw [set_ne h.ss.ne]
                have := h4.ss.va
                rw [stV] at this
                simpa [Fr.vals] using this
              refine wp_cons (wp_on 1 h5.rst rfl fun s6 h6 c6 => ?_)
              walk_at "nil"
              exact good (h5.rs na nb c6 h6) I.good hp
            · rename_i ho
              rw [if_neg (fun q => ho q.2)] at hp
              walk_at "st"
              exact hbrk c _ _ rfl hp h3
          · rename_i hs
            rw [if_neg (fun q => hs (by rw [q.1] <;> rfl))] at hp
            walk_at "st"
            exact hbrk c _ _ rfl hp h3
        walk_at "st"
        refine ⟨by omega, _, new_get, ?_⟩
        walk_at "wp"
        have h3 := h2.app [Cell.lst [D.str [40], D.str [64], D.str [97, 110, 121]]]
        generalize s2 ++ [Cell.lst [D.str [40], D.str [64], D.str [97, 110, 121]]] = s3 at *
        split
        · rename_i hw3
          exact yes _ h3 (.inl (or3.mp hw3))
        · rename_i hw3
          refine call_up (good_spec f19 f29 (by have := see_len h3.rst; omega)) (by decide) fun w s4 q => ?_
          obtain ⟨rfl, X, rfl⟩ := q
          have h4 := h3.app X
          walk_at "wp"
          split
          · rename_i hg
            exact yes _ h4 (.inr hg)
          · rename_i hg
            exact no _ h4 (by rintro (q | q); exact hw3 (or3.mpr q); exact hg q)
end K09

set_option Elab.async false
set_option linter.all false
set_option maxRecDepth 100000
set_option maxHeartbeats 4000000
namespace K09
open PySem Dq L2
local macro_rules | `(tactic| walk_at "wp") => `(tactic| simp only [wpS, wpE, wpEo, wpEs, wpT, wpTeo, wpTg, wpTgs, wpI, immD, truW_bl, truW_int, truW_str, truW_tup, truW_loc, idxW_dic, inW_dic, splW_tup, splW_flst, splW_loc, blt_str, blt_intS, mth_extend, mth_split, mth_partition, mth_startswith, mth_removeprefix, mth_pop, mthTy_pop, mthTy_ext, mthTy_split, mthTy_part, mthTy_starts, mthTy_rmp, idxW_str, idxW_tup, idxW_flst, idxW_loc, idlW_loc, setW_loc, slcW_str, slcW_loc, binW_add, binW_addS, binW_addL, binW_addT, binW_mulT, blt_srtT, blt_srtL, slcW_tup, blt_lstT, binW_sub, binW_mul, binW_fdiv, binW_mod, binW_pow, binW_shl, augW_add, augW_addS, augW_sub,
  cmpW_eq, cmpW_ne, eqW_strs, eqW_ints, inW_strs, inW_loc, inW_tup, flatD, atI_m1, cmpW_in, cmpW_ni, cmpW_lt, cmpW_le, cmpW_gt, cmpW_ge, cmpW_is, cmpW_isn, lenW_loc, lenW_str, lenW_tup, lenW_flst, blt_len, blt_abs, blt_max, blt_min, blt_int, blt_intB, blt_tup, blt_all, blt_any, mth_append, mth_join, mthTy_join, mthTy_app, seqW_str, seqW_tup, seqW_flst, seqW_loc, lenTs, slT, slTs,
  List.getElem?_cons_zero, List.getElem?_cons_succ, List.set_cons_zero, List.set_cons_succ, Option.some.injEq, exists_eq_left', exists_eq_left, true_and, and_true, D.bl.injEq, D.int.injEq, D.loc.injEq, D.str.injEq, D.tup.injEq, Cell.lst.injEq, atI_0, atI_1, atI_2, atI_3, atI_4, decide_eq_true_eq, List.map, List.length_cons, List.length_nil, List.replicate, List.cons_append, List.nil_append, Nat.reduceAdd, Nat.reduceSub, Nat.zero_add, wipeE, isiB, eqF_str, List.any_cons, List.any_nil, List.all_cons, List.all_nil, Bool.or_false, Bool.and_true, Bool.and_self, bnot_t, Bool.true_eq_false, decide_eq_false_iff_not, eq_self, not_true_eq_false, not_false_eq_true, if_true, if_false, Bool.false_eq_true, Bool.not_true, Bool.not_false])
local macro_rules | `(tactic| walk_at "nil") => `(tactic| simp only [wpSs_nil])

local macro_rules | `(tactic| walk_at "st") => `(tactic| (refine wp_cons ?_; walk_at "wp"))
local macro_rules | `(tactic| walk_at "no") => `(tactic| (refine wp_cons ?_; walk_at "wp"; refine ite_no (by decide) ?_; walk_at "nil"))
local macro_rules | `(tactic| walk_at "yes") => `(tactic| (refine wp_cons ?_; walk_at "wp"; refine ite_yes (by decide) ?_))
theorem take_alt_spec {n k : Nat} {ws : List S} {st : Sto} (h : RSt n k ws ⟨0, false, 0⟩ st) (hw : ws.length ≤ 400000) :
    callW fns cst 7 38 [.loc n] st fun w s => ∃ rs, RSt n k ws rs s ∧ Ch n st s ∧ ((rs.bad = true ∧ whole ws = none) ∨ (rs.bad = false ∧ ∃ c, w = toD c ∧ whole ws = if rs.pos < ws.length then none else some c)) := by
  have hz := sizeLine_eq
  have hc : CalLe (callW fns cst 6) (callW fns cst 6) := callW_le (Nat.le_refl _)
  refine ⟨_, rfl, rfl, ?_⟩
  generalize hP : (fun (w : D) (s : Sto) => ∃ rs, RSt n k ws rs s ∧ Ch n st s ∧ ((rs.bad = true ∧ whole ws = none) ∨ (rs.bad = false ∧ ∃ c, w = toD c ∧ whole ws = if rs.pos < ws.length then none else some c))) = P
  have n1 := get_lt h.at_
  have k1 := get_lt h.wds
  rw [b38_eq]
  walk_at "st"
  refine ⟨by omega, ?_⟩
  walk_at "st"
  refine ⟨by omega, ?_⟩
  walk_at "st"
  have e2 : (st ++ [Cell.lst []]).length = st.length + 1 := by simp
  rw [e2]
  generalize hs0 : st ++ [Cell.lst []] ++ [Cell.lst []] = s0
  have h0 : TS n k st.length (st.length + 1) ws st [] none ⟨0, false, 0⟩ s0 := by
    subst hs0
    refine ⟨⟨?_, ?_, by omega⟩, (h.app _).app _, (Ch.app _ _).trans (.app _ _)⟩
    · rw [List.getElem?_append_left (by simp)]
      exact new_get
    · rw [← e2]
      exact new_get
  refine wp_cons ?_
  refine wp_cut hc (fun en s => ∃ F c rs x4 x5, en = [some (.loc n), some (.loc st.length), some (.loc (st.length + 1)), some (.bl true), x4, x5] ∧ TS n k st.length (st.length + 1) ws st F (some c) rs s ∧ Inv ws F (some c) rs ∧ F.length ≤ 900000 ∧ runC ws (2 * ws.length + 2) [] none ⟨0, false, 0⟩ = some (F, some c, rs)) ?_ fun en s hM => ?_
  · refine wp_forJ hc ?_
    walk_at "wp"
    simp only [at_eq h0.rst]
    walk_at "wp"
    simp only [h0.rst.wds]
    walk_at "wp"
    rw [List.length_map]
    have hlen : (2 * (ws.length : Int) + 2).toNat = 2 * ws.length + 2 := by omega
    refine ⟨.inl ⟨by decide, by decide⟩, by omega, by omega, fun pre e s => ∃ F cur rs x4 x5, e = [some (.loc n), some (.loc st.length), some (.loc (st.length + 1)), some (.bl cur.isSome), x4, x5] ∧ TS n k st.length (st.length + 1) ws st F cur rs s ∧ Inv ws F cur rs ∧ runC ws (2 * ws.length + 2 - pre.length) F cur rs = runC ws (2 * ws.length + 2) [] none ⟨0, false, 0⟩ ∧ 1 + pre.length ≤ far cur rs ∧ pre.length ≤ 2 * ws.length ∧ F.length ≤ pre.length,
      ⟨[], none, _, _, _, rfl, h0, ⟨rfl, Nat.zero_le _, rfl⟩, rfl, Nat.le_refl _, Nat.zero_le _, Nat.le_refl _⟩, fun pre w post e s ee hJ => ?_, fun e s hJ => ?_⟩
    · obtain ⟨F, cur, rs, x4, x5, rfl, t1, t2, t3, t4, t5, t6⟩ := hJ
      refine ⟨trivial, ?_⟩
      walk_at "wp"
      have em : 2 * ws.length + 2 - pre.length = (2 * ws.length + 1 - pre.length) + 1 := by omega
      rw [em, runC] at t3
      refine body_spec (by omega) (by omega) (by omega) (by omega) (Nat.le_refl _) (Nat.le_succ _) (by omega) t1 t2 (fun F' cur' rs' s' y5 hp h2 => ?_) (fun c s' y5 hc hp h2 => ?_) fun rs' s' hp hb h2 c2 => ?_
      · have hlt : rs.pos < ws.length := by
          by_cases q : rs.pos < ws.length
          · exact q
          · exact absurd hp (step_end (by omega))
        obtain ⟨on, ln⟩ := step_on hp
        have hfar : far cur rs ≤ 2 * ws.length - 1 := by
          unfold far
          split <;> omega
        rw [hp] at t3
        refine ⟨F', cur', rs', _, _, rfl, h2, inv_step t2 hp, ?_, by simp; omega, by simp; omega, by simp; omega⟩
        rw [← t3, List.length_append, List.length_singleton]
        exact congrArg (fun m => runC ws m F' cur' rs') (by omega)
      · subst hc
        rw [hp] at t3
        exact ⟨F, c, rs, _, _, rfl, h2, t2, by omega, t3.symm⟩
      · rw [hp] at t3
        rw [← hP]
        refine ⟨rs', h2, c2, .inl ⟨hb, ?_⟩⟩
        unfold whole
        rw [← t3]
    · obtain ⟨F, cur, rs, x4, x5, rfl, t1, t2, t3, t4, t5, t6⟩ := hJ
      rw [List.length_map, List.length_range, hlen] at t5
      omega
  · obtain ⟨F, c, rs, x4, x5, rfl, t1, t2, t3, t4⟩ := hM
    have hwh : whole ws = if hasOpn F = true then none else if rs.pos < ws.length then none else some (fold0 F c).2 := by
      unfold whole
      rw [t4]
    walk_at "st"
    refine ⟨_, t1.ss.wa, stW_flat _, ?_⟩
    rw [show ((stW F).any fun y => eqF y (.str [40])) = hasOpn F from (stW_in kOpen F).trans (open_in F)]
    split
    · rename_i ho
      rw [if_pos ho] at hwh
      refine wp_cons (wp_fail t1.rst rfl fun s2 h2 c2 => ?_)
      walk_at "st"
      refine ⟨by omega, ?_⟩
      rw [← hP]
      exact ⟨_, h2, t1.ch.trans c2, .inl ⟨rfl, hwh⟩⟩
    · rename_i ho
      rw [if_neg ho] at hwh
      walk_at "nil"
      walk_at "st"
      refine ⟨by omega, ?_⟩
      obtain ⟨w1, w2, w3⟩ := fold0_w F c _ t2.ok t2.w
      have hg : (fold0 F c).1 = [] := by
        rcases w2 with w2 | ⟨G, w2⟩
        · exact w2
        · have := hasOpn_fold0 F c
          rw [w2] at this
          exact absurd this.symm ho
      have ala := get_lt t1.ss.va
      have alb := get_lt t1.ss.wa
      have t5 := t1.app [Cell.lst [D.str [116, 104, 101, 110], D.str [111, 114]]]
      refine call_up (fold_spec (L := [kThen, kOr]) t5.ss new_get (by omega) (by omega) (by omega) (by decide)) (by decide) fun _ s2 q => ?_
      obtain ⟨q1, q2⟩ := q
      have t6 := t5.ch2 (by omega) (by omega) (by omega) (by omega) (Nat.le_refl _) (Nat.le_succ _) q2 q1
      rw [foldL_0, hg] at t6
      walk_at "st"
      refine ⟨_, t6.ss.va, _, rfl, ?_⟩
      rw [← hP]
      exact ⟨rs, t6.rst, t6.ch, .inr ⟨t2.good, _, rfl, hwh⟩⟩
def Keeps (st s : Sto) : Prop := ∀ (i : Nat) (c : Cell), st[i]? = some c → s[i]? = some c
theorem Keeps.trans {a b c : Sto} (x : Keeps a b) (y : Keeps b c) : Keeps a c := fun i d e => y i d (x i d e)
theorem Keeps.of_ex {a b : Sto} (x : Ex a b) : Keeps a b := fun i d e => x.get e
def wholeD (ws : List S) : D := match whole ws with
  | some c => toD c
  | none => .non
theorem whole_spec {k : Nat} {ws : List S} {st : Sto} (h : st[k]? = some (.lst (ws.map .str))) (hl : ∀ w ∈ ws, w.length ≤ 1000) (hw : ws.length ≤ 400000) (hcp : ∀ w ∈ ws, cpOkS w) :
    callW fns cst 8 42 [.loc k] st fun w s => w = wholeD ws ∧ Keeps st s := by
  have hz := sizeLine_eq
  have hc : CalLe (callW fns cst 7) (callW fns cst 7) := callW_le (Nat.le_refl _)
  refine ⟨_, rfl, rfl, ?_⟩
  generalize hP : (fun (w : D) (s : Sto) => w = wholeD ws ∧ Keeps st s) = P
  have k1 := get_lt h
  unfold b42
  walk_at "st"
  refine ⟨by omega, ?_⟩
  have h0 : RSt st.length k ws ⟨0, false, 0⟩ (st ++ [Cell.lst [.loc k, .int 0, .bl false, .int 0]]) :=
    ⟨new_get, by rw [List.getElem?_append_left k1]; exact h, by omega, hl, by omega, hcp⟩
  walk_at "st"
  refine call_mono (take_alt_spec h0 hw) fun w s q => ?_
  obtain ⟨rs, r1, r2, r3⟩ := q
  have keep : Keeps st s := fun i c e => by
    have li := get_lt e
    rw [r2.same i (by simp; omega) (by omega), List.getElem?_append_left li]
    exact e
  have fin : ∀ w, w = wholeD ws → P w s := fun w e => by
    rw [← hP]
    exact ⟨e, keep⟩
  walk_at "st"
  simp only [at_eq r1]
  walk_at "wp"
  rcases r3 with ⟨hb, hwn⟩ | ⟨hb, c, rfl, hwc⟩
  · refine ite_yes hb ?_
    refine fin _ ?_
    unfold wholeD
    rw [hwn]
  · refine ite_no (by rw [hb]; decide) ?_
    simp only [r1.wds]
    walk_at "wp"
    rw [List.length_map]
    split
    · rename_i a1
      refine fin _ ?_
      unfold wholeD
      rw [hwc, if_pos (by omega)]
    · rename_i a1
      refine fin _ ?_
      unfold wholeD
      rw [hwc, if_neg (by omega)]
/-! ### the same -/
theorem sam_hd (x y : S) (xs ys : List D) : samD (.tup (.str x :: xs)) (.tup (.str y :: ys)) = ((y == x) && samL xs ys) := by rw [samD, samL, samD]
theorem sam_s (x y : S) (xs ys : List D) : samL (.str x :: xs) (.str y :: ys) = ((y == x) && samL xs ys) := by rw [samL, samD]
theorem sam_i (x y : Int) (xs ys : List D) : samL (.int x :: xs) (.int y :: ys) = ((y == x) && samL xs ys) := by rw [samL, samD]
theorem sam_b (x y : Bool) (xs ys : List D) : samL (.bl x :: xs) (.bl y :: ys) = ((y == x) && samL xs ys) := by rw [samL, samD]
theorem sam_d (x y : D) (xs ys : List D) : samL (x :: xs) (y :: ys) = (samD x y && samL xs ys) := by rw [samL]
theorem sam_n : samL [] [] = true := by rw [samL]
theorem sam_p (p q : S × Bool) : samD (.tup [.str p.1, .bl p.2]) (.tup [.str q.1, .bl q.2]) = ((q.1 == p.1) && ((q.2 == p.2) && true)) := by rw [sam_hd, sam_b, sam_n]
theorem sam_tests : ∀ ts us : List (S × Bool), samL (ts.map fun p => .tup [.str p.1, .bl p.2]) (us.map fun p => .tup [.str p.1, .bl p.2]) = decide (ts = us)
  | [], [] => by simp [samL]
  | [], _ :: _ => by simp [samL]
  | _ :: _, [] => by simp [samL]
  | p :: ts, q :: us => by
    rw [List.map_cons, List.map_cons, sam_d, sam_p, sam_tests ts us, Bool.and_true]
    by_cases h1 : q.1 = p.1
    · by_cases h2 : q.2 = p.2
      · have : p = q := Prod.ext h1.symm h2.symm
        subst this
        simp
      · rw [beq_eq_false_iff_ne.mpr h2]
        simp
        intro e
        exact absurd (by rw [e]) h2
    · rw [beq_eq_false_iff_ne.mpr h1]
      simp
      intro e
      exact absurd (by rw [e]) h1
theorem sam_t (ts us : List (S × Bool)) (xs ys : List D) : samL (testsD ts :: xs) (testsD us :: ys) = (decide (ts = us) && samL xs ys) := by
  rw [sam_d]
  unfold testsD
  rw [samD, sam_tests]
theorem sam_refl : ∀ c : W, samD (toD c) (toD c) = true
  | .named _ => by simp [toD, sam_hd, sam_s, sam_n]
  | .step _ _ => by simp [toD, sam_hd, sam_s, sam_t, sam_n]
  | .un _ a => by simp [toD, sam_hd, sam_d, sam_n, sam_refl a]
  | .upto a _ => by simp [toD, sam_hd, sam_d, sam_n, samD, sam_refl a]
  | .thn a b => by simp [toD, sam_hd, sam_d, sam_n, sam_refl a, sam_refl b]
  | .or a b => by simp [toD, sam_hd, sam_d, sam_n, sam_refl a, sam_refl b]
theorem kind_no (a b : W) (h : kind a ≠ kind b) : samD (toD a) (toD b) = false := by
  obtain ⟨xs, e1⟩ := toD_0 a
  obtain ⟨ys, e2⟩ := toD_0 b
  rw [e1, e2, sam_hd, beq_eq_false_iff_ne.mpr (Ne.symm h)]
  rfl
theorem sg_inj {g h : Sg} (e : g.kind = h.kind) : g = h := by cases g <;> cases h <;> first | rfl | exact absurd e (by decide)
theorem kind_sg (g : Sg) : ∀ k ∈ [kNamed, kStep, kUpto, kThen, kOr], g.kind ≠ k := by cases g <;> decide
theorem sam_inj (a : W) : ∀ b : W, samD (toD a) (toD b) = true → a = b := by
  induction a with
  | named n =>
    intro c h
    by_cases hk : kind (.named n) = kind c
    · cases c with
      | named m =>
        simp only [toD, sam_hd, sam_s, sam_n, Bool.and_true, Bool.and_eq_true, beq_iff_eq] at h
        rw [h.2]
      | un g w => exact absurd hk.symm (kind_sg g _ (by simp [kind]))
      | _ => exact absurd hk (by simp only [kind]; decide)
    · rw [kind_no _ _ hk] at h
      cases h
  | step t ts =>
    intro c h
    by_cases hk : kind (.step t ts) = kind c
    · cases c with
      | step u us =>
        simp only [toD, sam_hd, sam_s, sam_t, sam_n, Bool.and_true, Bool.and_eq_true, beq_iff_eq, decide_eq_true_eq] at h
        rw [h.2.1, h.2.2]
      | un g w => exact absurd hk.symm (kind_sg g _ (by simp [kind]))
      | _ => exact absurd hk (by simp only [kind]; decide)
    · rw [kind_no _ _ hk] at h
      cases h
  | un g w ih =>
    intro c h
    by_cases hk : kind (.un g w) = kind c
    · cases c with
      | un g2 w2 =>
        simp only [toD, sam_hd, sam_d, sam_n, Bool.and_true, Bool.and_eq_true] at h
        rw [sg_inj hk, ih _ h.2]
      | _ => exact absurd hk (kind_sg g _ (by simp only [kind]; decide))
    · rw [kind_no _ _ hk] at h
      cases h
  | upto w n ih =>
    intro c h
    by_cases hk : kind (.upto w n) = kind c
    · cases c with
      | upto w2 n2 =>
        simp only [toD, sam_hd, sam_d, sam_n, samD, Bool.and_true, Bool.and_eq_true, beq_iff_eq] at h
        rw [ih _ h.2.1, h.2.2]
      | un g w => exact absurd hk.symm (kind_sg g _ (by simp [kind]))
      | _ => exact absurd hk (by simp only [kind]; decide)
    · rw [kind_no _ _ hk] at h
      cases h
  | thn a b iha ihb =>
    intro c h
    by_cases hk : kind (.thn a b) = kind c
    · cases c with
      | thn a2 b2 =>
        simp only [toD, sam_hd, sam_d, sam_n, Bool.and_true, Bool.and_eq_true] at h
        rw [iha _ h.2.1, ihb _ h.2.2]
      | un g w => exact absurd hk.symm (kind_sg g _ (by simp [kind]))
      | _ => exact absurd hk (by simp only [kind]; decide)
    · rw [kind_no _ _ hk] at h
      cases h
  | or a b iha ihb =>
    intro c h
    by_cases hk : kind (.or a b) = kind c
    · cases c with
      | or a2 b2 =>
        simp only [toD, sam_hd, sam_d, sam_n, Bool.and_true, Bool.and_eq_true] at h
        rw [iha _ h.2.1, ihb _ h.2.2]
      | un g w => exact absurd hk.symm (kind_sg g _ (by simp [kind]))
      | _ => exact absurd hk (by simp only [kind]; decide)
    · rw [kind_no _ _ hk] at h
      cases h
theorem pl_tests : ∀ ts : List (S × Bool), plL (ts.map fun p => .tup [.str p.1, .bl p.2]) = true
  | [] => rfl
  | p :: ts => by simp [plL, plD, pl_tests ts]
theorem wd_tests : ∀ ts : List (S × Bool), wdL (ts.map fun p => .tup [.str p.1, .bl p.2]) = true
  | [] => rfl
  | p :: ts => by simp [wdL, wdD, wd_tests ts]
theorem hgt_tests : ∀ ts : List (S × Bool), hgtL (ts.map fun p => .tup [.str p.1, .bl p.2]) ≤ 1
  | [] => by simp [hgtL]
  | p :: ts => by
    have := hgt_tests ts
    simp [hgtL, hgt]
    omega
theorem pl_c : ∀ c : W, plD (toD c) = true
  | .named _ => by simp [toD, plD, plL]
  | .step _ ts => by simp [toD, plD, plL, testsD, pl_tests ts]
  | .un _ a => by simp [toD, plD, plL, pl_c a]
  | .upto a _ => by simp [toD, plD, plL, pl_c a]
  | .thn a b => by simp [toD, plD, plL, pl_c a, pl_c b]
  | .or a b => by simp [toD, plD, plL, pl_c a, pl_c b]
theorem wd_c : ∀ c : W, Ok c → wdD (toD c) = true
  | .named _, _ => by simp [toD, wdD, wdL]
  | .step _ ts, ok => by
    have := ok.2.2
    simp [toD, wdD, wdL, testsD, wd_tests ts]
    omega
  | .un _ a, ok => by simp [toD, wdD, wdL, wd_c a ok]
  | .upto a _, ok => by simp [toD, wdD, wdL, wd_c a ok.1]
  | .thn a b, ok => by simp [toD, wdD, wdL, wd_c a ok.1, wd_c b ok.2]
  | .or a b, ok => by simp [toD, wdD, wdL, wd_c a ok.1, wd_c b ok.2]
theorem hgt_c : ∀ c : W, hgt (toD c) ≤ dp c + 3
  | .named _ => by simp [toD, hgt, hgtL]
  | .step _ ts => by
    have := hgt_tests ts
    simp [toD, hgt, hgtL, testsD, dp]
    omega
  | .un _ a => by
    have := hgt_c a
    simp [toD, hgt, hgtL, dp]
    omega
  | .upto a _ => by
    have := hgt_c a
    simp [toD, hgt, hgtL, dp]
    omega
  | .thn a b => by
    have := hgt_c a
    have := hgt_c b
    simp [toD, hgt, hgtL, dp]
    omega
  | .or a b => by
    have := hgt_c a
    have := hgt_c b
    simp [toD, hgt, hgtL, dp]
    omega
theorem pl_whole (ws : List S) : plD (wholeD ws) = true := by
  unfold wholeD
  split
  · exact pl_c _
  · rfl
theorem sam_whole {ws : List S} {c : W} (h : whole ws ≠ some c) : samD (toD c) (wholeD ws) = false := by
  unfold wholeD
  split
  · rename_i d e
    cases q : samD (toD c) (toD d) with
    | false => rfl
    | true =>
      have := sam_inj c d q
      subst this
      exact absurd e h
  · cases c <;> simp [toD, samD]
theorem same_at {c : W} {ws : List S} {st : Sto} (ok : Ok c) (hd : dp c ≤ 12) : callW fns cst 17 40 [wholeD ws, toD c] st fun w s => w = .bl (samD (toD c) (wholeD ws)) ∧ Ex st s :=
  same_spec f18 f40 15 (toD c) (wholeD ws) st (by have := hgt_c c; omega) (pl_c c) (wd_c c ok) (pl_whole ws)

/-! ### the table's words -/
theorem ex_set_hi {a : Nat} {st s : Sto} {c : Cell} (h : Ex st s) (ha : st.length ≤ a) : Ex st (s.set a c) := by
  obtain ⟨X, rfl⟩ := h
  refine ⟨X.set (a - st.length) c, ?_⟩
  rw [List.set_append_right _ _ ha]
theorem up_get {X Y : Sto} {i : Nat} {c : Cell} (q : X[i]? = some c) : (X ++ Y)[i]? = some c := by
  rw [List.getElem?_append_left (get_lt q)]
  exact q
theorem table_words_spec {ms : List Mv} {f : Option Nat} (hm : ∀ m ∈ ms, m.Ok) (hf : ∀ n, f = some n → n ≤ 39) (hl : ms.length ≤ 1000) (st : Sto) : callW fns cst 1 39 [tabD ms f] st (Gives (tabT ms f) st) := by
  have hz := sizeLine_eq
  have hc : CalLe (callW fns cst 0) (callW fns cst 0) := callW_le (Nat.le_refl _)
  have tl : ∀ us : List Mv, (∀ m ∈ us, m ∈ ms) → us.length ≤ ms.length → (tabF [kTable] us).length ≤ 10001 := fun us h1 h2 => by
    have := tabF_len us [kTable] fun m hx => (hm m (h1 m hx)).2.2.2.2.2
    rw [List.length_singleton] at this
    omega
  refine ⟨_, rfl, rfl, ?_⟩
  generalize hP : Gives (tabT ms f) st = P
  unfold b39 tabD
  walk_at "st"
  refine ⟨by omega, ?_⟩
  refine wp_cons ?_
  refine wp_cut hc (fun en s => ∃ a x2 x3 x4, en = [some (.tup [.str kTable, .tup (ms.map Mv.D), finD f]), some (.loc a), x2, x3, x4] ∧ s[a]? = some (.lst ((tabF [kTable] ms).map .str)) ∧ Ex st s) ?_ fun en s hM => ?_
  · refine wp_forJ hc ?_
    walk_at "wp"
    refine ⟨fun pre e s => ∃ a x2 x3 x4, e = [some (.tup [.str kTable, .tup (ms.map Mv.D), finD f]), some (.loc a), x2, x3, x4] ∧ s[a]? = some (.lst ((tabF [kTable] (ms.take pre.length)).map .str)) ∧ Ex st s ∧ st.length ≤ a, ⟨_, _, _, _, rfl, new_get, ⟨_, rfl⟩, Nat.le_refl _⟩, fun pre w post e s ee hJ => ?_, fun e s hJ => ?_⟩
    · obtain ⟨a, x2, x3, x4, rfl, ha, ex, la⟩ := hJ
      obtain ⟨m, hmg, hmm, rfl, htk, hlt⟩ := pre_at ee
      obtain ⟨m1, m2, m3, m4, m5, m6⟩ := hm m hmm
      have hacc := tl (ms.take pre.length) (fun x hx => List.mem_of_mem_take hx) (by rw [List.length_take]; omega)
      have hnext : tabF [kTable] (ms.take (pre.length + 1)) = (if 1 < (tabF [kTable] (ms.take pre.length)).length then tabF [kTable] (ms.take pre.length) ++ [kBar] else tabF [kTable] (ms.take pre.length)) ++ m.T := by rw [htk, tabF_snoc]
      generalize tabF [kTable] (ms.take pre.length) = acc at *
      refine ⟨trivial, ?_⟩
      unfold Mv.D
      walk_at "wp"
      refine ⟨_, _, rfl, _, _, rfl, _, _, rfl, rfl, ?_⟩
      have ppl : (pre ++ [D.tup [D.int ↑m.p, D.tup [D.str m.t, D.str m.e, D.tup (List.map D.str m.ms)], D.int ↑m.q]]).length = pre.length + 1 := by simp
      rw [ppl]
      walk_at "st"
      simp only [ha]
      walk_at "wp"
      rw [List.length_map]
      have tail : ∀ (g : List S) (s : Sto), s[a]? = some (.lst (g.map .str)) → Ex st s → g.length ≤ 10002 → g ++ m.T = tabF [kTable] (ms.take (pre.length + 1)) → ∀ R B, wpSs (callW fns cst 0) cst (.cons (.asg (.name 1) (.bin .Add (.bin .Add (.bin .Add (.var 1) (.lst (.cons (.blt .str (.cons (.var 2) .nil)) (.cons (.idx (.var 3) (.cst (.int (0)))) (.cons (.idx (.var 3) (.cst (.int (1)))) (.cons (.cst (.str [91])) .nil)))))) (.blt .list (.cons (.idx (.var 3) (.cst (.int (2)))) .nil))) (.lst (.cons (.cst (.str [93])) (.cons (.blt .str (.cons (.var 4) .nil)) .nil))))) .nil) [some (.tup [.str kTable, .tup (ms.map Mv.D), finD f]), some (.loc a), some (.int m.p), some (.tup [.str m.t, .str m.e, .tup (m.ms.map .str)]), some (.int m.q)] s
          ⟨fun e s => ∃ a x2 x3 x4, e = [some (.tup [.str kTable, .tup (ms.map Mv.D), finD f]), some (.loc a), x2, x3, x4] ∧ s[a]? = some (.lst ((tabF [kTable] (ms.take (pre.length + 1))).map .str)) ∧ Ex st s ∧ st.length ≤ a, P, R, B⟩ := fun g s hg ex hgl eg R B => by
        refine wp_cons ?_
        walk_at "wp"
        refine ⟨log_small (by omega) (by omega), by omega, _, _, up_get hg, new_get, by simp; omega, ?_⟩
        refine ⟨_, _, up_get new_get, new_get, by simp; omega, ?_⟩
        refine ⟨log_small (by omega) (by omega), by omega, ?_⟩
        refine ⟨_, _, up_get new_get, new_get, by simp; omega, ?_⟩
        walk_at "nil"
        have ec : g.map D.str ++ [D.str (strI m.p), D.str m.t, D.str m.e, D.str [91]] ++ m.ms.map D.str ++ [D.str [93], D.str (strI m.q)] = (tabF [kTable] (ms.take (pre.length + 1))).map D.str := by
          rw [← eg, strI_nat, strI_nat]
          simp [Mv.T, kLB, kRB]
        have hl := ex.len
        refine ⟨_, _, _, _, rfl, ?_, ((((((ex.app _).app _).app _).app _).app _).app _), by simp; omega⟩
        rw [← ec]
        exact new_get
      split
      · rename_i h1
        rw [if_pos (by omega)] at hnext
        walk_at "st"
        refine ⟨⟨_, ha⟩, _, ha, by simp; omega, ?_⟩
        walk_at "nil"
        have ec : acc.map D.str ++ [D.str [124]] = (acc ++ [kBar]).map D.str := by simp [kBar]
        rw [ec]
        exact tail (acc ++ [kBar]) _ (set_get ha) (ex_set_hi ex la) (by simp; omega) hnext.symm _ _
      · rename_i h1
        rw [if_neg (by omega)] at hnext
        walk_at "nil"
        exact tail acc _ ha ex (by omega) hnext.symm _ _
    · obtain ⟨a, x2, x3, x4, rfl, ha, ex, la⟩ := hJ
      rw [List.length_map, List.take_of_length_le (Nat.le_refl _)] at ha
      exact ⟨trivial, _, _, _, _, rfl, ha, ex⟩
  · obtain ⟨a, x2, x3, x4, rfl, ha, ex⟩ := hM
    have hacc := tl ms (fun x hx => hx) (Nat.le_refl _)
    walk_at "st"
    have fin : ∀ x : S, x = finT f → P (.loc (s ++ [Cell.lst [D.str [102, 105, 110, 97, 108], D.str x]]).length) (s ++ [Cell.lst [D.str [102, 105, 110, 97, 108], D.str x]] ++ [Cell.lst ((tabF [kTable] ms).map D.str ++ [D.str [102, 105, 110, 97, 108], D.str x])]) := fun x e => by
      rw [← hP, e]
      have ec : (tabF [kTable] ms).map D.str ++ [D.str [102, 105, 110, 97, 108], D.str (finT f)] = (tabT ms f).map D.str := by simp [tabT, kFinal]
      rw [ec]
      exact gives_new (ex.app _)
    cases f with
    | none =>
      refine ite_yes rfl ?_
      refine ⟨by omega, _, _, up_get ha, new_get, by simp; omega, fin [45] rfl⟩
    | some n =>
      have := hf n rfl
      refine ite_no (by simp [finD, isNonD]) ?_
      simp only [finD]
      walk_at "wp"
      refine ⟨log_small (by omega) (by omega), by omega, _, _, up_get ha, new_get, by simp; omega, fin _ (by rw [strI_nat]; rfl)⟩

theorem is_text_ex {c : W} {m : Nat} {st : Sto} (ok : Ok c) (hd : dp c ≤ 12) (h : st[m]? = some (.lst ((walkT c).map .str))) :
    callW fns cst 18 43 [toD c, .loc m] st fun w s => w = .bl true ∧ Keeps st s := by
  have hz := sizeLine_eq
  have hc : CalLe (callW fns cst 17) (callW fns cst 17) := callW_le (Nat.le_refl _)
  have tk := tk_walk c ok
  have hcl := walk_len' ok hd
  refine ⟨_, rfl, rfl, ?_⟩
  generalize hP : (fun (w : D) (s : Sto) => w = .bl true ∧ Keeps st s) = P
  have hk0 : ¬ (kind c == [116, 97, 98, 108, 101]) = true := by
    cases c with
    | un g w => cases g <;> simp [kind, Sg.kind]
    | _ => simp only [kind]; decide
  have hself : wholeD (walkT c) = toD c := by
    unfold wholeD
    rw [whole_walk ok]
  have hsam := sam_refl c
  have hno : ∀ (rm : List S) (st : Sto), whole rm ≠ some c → callW fns cst 17 40 [wholeD rm, toD c] st fun w s => w = .bl false ∧ Ex st s := fun rm st q => by
    refine call_mono (same_at ok hd) fun w s q2 => ?_
    rw [sam_whole q] at q2
    exact q2
  have hyes : ∀ (st : Sto), callW fns cst 17 40 [wholeD (walkT c), toD c] st fun w s => w = .bl true ∧ Ex st s := fun st => by
    refine call_mono (same_at ok hd) fun w s q2 => ?_
    rw [hself, hsam] at q2
    exact q2
  obtain ⟨xs, e0⟩ := toD_0 c
  rw [e0] at hno hyes ⊢
  unfold b43
  walk_at "st"
  refine ite_no hk0 ?_
  walk_at "nil"
  walk_at "st"
  refine call_up (whole_spec h (fun w hw => by have := (tk w hw).2.1; omega) (by omega) fun w hw x hx => by have := ((tk w hw).2.2 x hx).2; omega) (by decide) fun w s1 q => ?_
  obtain ⟨rfl, k1⟩ := q
  refine call_mono (hyes s1) fun w s2 q => ?_
  obtain ⟨rfl, x2⟩ := q
  walk_at "wp"
  walk_at "nil"
  refine wp_cons ?_
  refine wp_cut hc (fun en s => Keeps st s) ?_ fun en s hM => ?_
  · refine wp_forJ hc ?_
    have hm2 : s2[m]? = some (.lst ((walkT c).map .str)) := x2.get (k1 m _ h)
    walk_at "wp"
    simp only [hm2]
    walk_at "wp"
    rw [List.length_map]
    refine ⟨by omega, by omega, fun pre e s => ∃ x2 x3, e = [some (.tup (.str (kind c) :: xs)), some (.loc m), x2, x3] ∧ Keeps st s, ⟨_, _, rfl, k1.trans (.of_ex x2)⟩, fun pre w post e s ee hJ => ?_, fun e s hJ => ?_⟩
    · obtain ⟨y2, y3, rfl, hk⟩ := hJ
      have hpl := congrArg List.length ee
      rw [List.length_map, List.length_range, List.length_append, List.length_cons] at hpl
      have hlt : pre.length < (walkT c).length := by omega
      have ew : w = .int (pre.length : Nat) := by
        have := congrArg (fun l => l[pre.length]?) ee
        rw [List.getElem?_append_right (Nat.le_refl _), Nat.sub_self, List.getElem?_cons_zero, List.getElem?_map, List.getElem?_range (by omega)] at this
        exact (Option.some.inj this).symm
      subst ew
      have hm := hk m _ h
      refine ⟨trivial, ?_⟩
      walk_at "wp"
      walk_at "st"
      simp only [hm]
      walk_at "wp"
      refine ⟨.str (walkT c)[pre.length], by rw [atI_ofN, List.getElem?_map, List.getElem?_eq_getElem hlt] <;> rfl, ?_⟩
      walk_at "wp"
      split
      · rename_i hop
        have hop : (walkT c)[pre.length]? = some kOpen := by
          rw [List.getElem?_eq_getElem hlt, eq_of_beq hop]
          rfl
        walk_at "st"
        refine call_up (partner_spec f41 hm (by omega) hlt) (by decide) fun w s3 q => ?_
        obtain ⟨⟨j, rfl, hj⟩, rfl⟩ := q
        walk_at "st"
        have e1 : ((pre.length : Int) + 1) = ((pre.length + 1 : Nat) : Int) := by omega
        have e2 : ((j : Int) + 1) = ((j + 1 : Nat) : Int) := by omega
        simp only [e1, e2]
        have c1 : cutL ((walkT c).map D.str) none (some (pre.length : Int)) = ((walkT c).take pre.length).map .str := by rw [cut_to, List.map_take]
        have c2 : cutL ((walkT c).map D.str) (some ((pre.length + 1 : Nat) : Int)) (some (j : Int)) = (((walkT c).take j).drop (pre.length + 1)).map .str := by rw [cut_mid, List.map_drop, List.map_take]
        have c3 : cutL ((walkT c).map D.str) (some ((j + 1 : Nat) : Int)) none = ((walkT c).drop (j + 1)).map .str := by rw [cut_from, List.map_drop]
        refine ⟨_, hm, _, up_get hm, _, _, up_get new_get, new_get, ?_, _, up_get (up_get (up_get hm)), _, _, up_get new_get, new_get, ?_, ?_⟩
        · rw [c1, c2]
          simp
          omega
        · rw [c1, c2, c3]
          simp
          omega
        rw [c1, c2, c3, ← List.map_append, ← List.map_append]
        have hnl := no_less ok hop hj
        generalize hrm : (walkT c).take pre.length ++ ((walkT c).take j).drop (pre.length + 1) ++ (walkT c).drop (j + 1) = rm at *
        have hsub : ∀ v ∈ rm, v ∈ walkT c := fun v hv => by
          rw [← hrm] at hv
          rcases List.mem_append.mp hv with hv | hv
          · rcases List.mem_append.mp hv with hv | hv
            · exact List.mem_of_mem_take hv
            · exact List.mem_of_mem_take (List.mem_of_mem_drop hv)
          · exact List.mem_of_mem_drop hv
        have hrl : rm.length ≤ 400000 := by
          rw [← hrm]
          simp
          omega
        refine call_up (whole_spec new_get (fun v hv => by have := (tk v (hsub v hv)).2.1; omega) hrl fun v hv x hx => by have := ((tk v (hsub v hv)).2.2 x hx).2; omega) (by decide) fun w s4 q => ?_
        obtain ⟨rfl, k4⟩ := q
        refine call_mono (hno rm s4 hnl) fun w s5 q => ?_
        obtain ⟨rfl, x5⟩ := q
        walk_at "wp"
        walk_at "nil"
        refine ⟨_, _, rfl, ?_⟩
        refine Keeps.trans ?_ (k4.trans (.of_ex x5))
        refine hk.trans (.of_ex ?_)
        exact ((((Ex.refl s3).app _).app _).app _ |>.app _).app _
      · walk_at "nil"
        exact ⟨_, _, rfl, hk⟩
    · obtain ⟨y2, y3, rfl, hk⟩ := hJ
      exact ⟨trivial, hk⟩
  · walk_at "st"
    rw [← hP]
    exact ⟨rfl, hM⟩
theorem is_text_spec {k : Wk} {m : Nat} {st : Sto} (ok : k.Ok) (h : st[m]? = some (.lst (k.T.map .str))) :
    callW fns cst 18 43 [k.D, .loc m] st fun w s => w = .bl true ∧ Keeps st s := by
  cases k with
  | ex c => exact is_text_ex ok.1 (by have := ok.2; omega) h
  | tab ms f =>
    refine ⟨_, rfl, rfl, ?_⟩
    have ht := fun st => table_words_spec (ms := ms) (f := f) ok.1 ok.2.1 ok.2.2 st
    generalize hP : (fun (w : D) (s : Sto) => w = .bl true ∧ Keeps st s) = P
    have tk := wk_tk ok
    show wpSs (callW fns cst 17) cst b43 ([some (tabD ms f), some (.loc m)] ++ [none, none]) st _
    unfold b43
    have e : ∃ a b, tabD ms f = .tup [.str kTable, a, b] := ⟨_, _, rfl⟩
    obtain ⟨a, b, e⟩ := e
    rw [e] at ht ⊢
    walk_at "st"
    refine ite_yes (by decide) ?_
    walk_at "st"
    refine call_up (ht st) (by decide) fun w s q => ?_
    obtain ⟨m2, rfl, h2, x2⟩ := q
    have hcp : ∀ s ∈ tabT ms f, cpOkS s := fun w hw x hx => by have := ((tk w hw).2.2 x hx).2; omega
    refine eqW_loc_strs (a := tabT ms f) (b := tabT ms f) (x2.get h) h2 hcp hcp ?_
    rw [← hP]
    exact ⟨by rw [beq_self_eq_true], .of_ex x2⟩
theorem keeps_gr {n : Nat} {a b : Sto} (h : Keeps a b) (hl : a.length ≤ b.length) (d : DOk a n) : Gr n a b := by
  obtain ⟨m, x, y, z, e, ns, h1, h2, h3, h4⟩ := d
  exact ⟨⟨m, x, y, z, e, ns, h _ _ h1, h _ _ h2, h3, h4⟩, hl, fun k hk _ => by
    rw [List.getElem?_eq_getElem hk]
    exact h k _ (List.getElem?_eq_getElem hk)⟩
theorem Keeps.len {a b : Sto} (h : Keeps a b) : a.length ≤ b.length := by
  cases q : a.length with
  | zero => exact Nat.zero_le _
  | succ l =>
    have hl : l < a.length := by omega
    exact get_lt (h l _ (List.getElem?_eq_getElem hl))
theorem law_spec : LawW fns cst 30 44 := by
  intro ns hns
  have hz := sizeLine_eq
  have hc : CalLe (callW fns cst 29) (callW fns cst 29) := callW_le (Nat.le_refl _)
  refine ⟨_, rfl, rfl, ?_⟩
  generalize hP : (fun (w : D) (_ : Sto) => w = .bl true) = P
  have fin : ∀ s, P (.bl true) s := fun s => by
    rw [← hP]
  unfold b44
  walk_at "st"
  refine call_up (begin_spec f14 hns) (by decide) fun w st1 q => ?_
  obtain ⟨rfl, X, Y, rfl, D0⟩ := q
  generalize ([] : Sto) ++ [X, Y] = st1 at *
  have D0 : DOk st1 1 := D0
  walk_at "st"
  refine call_up (any_spec D0 (.inl rfl) (by decide) (by decide)) (by decide) fun w s1 q => ?_
  obtain ⟨c1, rfl, ok1, G1⟩ := q
  walk_at "st"
  refine call_up (any_spec G1.ok (.inr rfl) (by decide) (by decide)) (by decide) fun w s2 q => ?_
  obtain ⟨c2, rfl, ok2, G2⟩ := q
  refine wp_cons ?_
  refine wp_cut hc (fun en s => True) ?_ fun en s _ => ?_
  · refine wp_forJ hc ?_
    walk_at "wp"
    refine ⟨by omega, _, new_get, ?_⟩
    have n2 := G2.ok.lt
    refine ⟨fun pre en s => ∃ x4 x5 x6, en = [some _, some (.loc 1), some c1.D, some c2.D, x4, x5, x6] ∧ Gr 1 (s2 ++ [.lst [c1.D, c2.D, c1.D]]) s, ⟨_, _, _, rfl, .refl (G2.to_app _).ok⟩, fun pre w post en s e hJ => ?_, fun en s hJ => ?_⟩
    · obtain ⟨x4, x5, x6, rfl, GJ⟩ := hJ
      have hk : keepW (some (s2.length, [c1.D, c2.D, c1.D])) s := (GJ.same s2.length (by simp) (by omega)).trans new_get
      refine ⟨hk, ?_⟩
      have hw : ∃ c : Wk, w = c.D ∧ c.Ok := by
        have hm : w ∈ [c1.D, c2.D, c1.D] := by
          rw [e]
          simp
        simp only [List.mem_cons, List.not_mem_nil, or_false] at hm
        rcases hm with rfl | rfl | rfl
        · exact ⟨c1, rfl, ok1⟩
        · exact ⟨c2, rfl, ok2⟩
        · exact ⟨c1, rfl, ok1⟩
      obtain ⟨c, rfl, ok⟩ := hw
      walk_at "wp"
      walk_at "st"
      refine call_up (write_walk_spec ok s) (by decide) fun w s3 q => ?_
      obtain ⟨rfl, x3⟩ := q
      have g3 := GJ.trans (x3.gr GJ.ok)
      walk_at "st"
      have tl := text_len ok
      refine ⟨by decide, by omega, ?_⟩
      rw [split_text ok]
      refine call_up (is_text_spec ok new_get) (by decide) fun w s4 q => ?_
      obtain ⟨rfl, k4⟩ := q
      have g4 := (g3.to_app [.lst (c.T.map .str)]).trans (keeps_gr k4 k4.len (g3.to_app _).ok)
      walk_at "wp"
      walk_at "nil"
      walk_at "st"
      refine call_up (word g4.ok) (by decide) fun w s5 q => ?_
      obtain ⟨t, rfl, ht, g5⟩ := q
      have g5 := g4.trans g5
      walk_at "st"
      have hgt := good_len ht
      refine ⟨by omega, by omega, ?_⟩
      refine call_up (write_spec (n := t) ok ht s5) (by decide) fun w s6 q => ?_
      obtain ⟨rfl, x6⟩ := q
      have g6 := g5.trans (x6.gr g5.ok)
      walk_at "wp"
      refine ⟨by omega, by omega, by simp only [List.length_append, List.length_cons, List.length_nil]; omega, by simp only [List.length_append, List.length_cons, List.length_nil]; omega, ?_⟩
      have et : textL t c = [119, 97, 108, 107, 32] ++ t ++ [32, 61, 32] ++ textK c ++ [32, 59, 10] := by simp [textL, kWalk]
      refine ite_no (by rw [et]; simp) ?_
      walk_at "nil"
      exact ⟨_, _, _, rfl, g6⟩
    · obtain ⟨x4, x5, x6, rfl, GJ⟩ := hJ
      have := (GJ.same s2.length (by simp) (by omega)).trans new_get
      first
        | exact ⟨this, trivial⟩
        | exact this
  · walk_at "st"
    exact fin _
end K09

set_option Elab.async false
set_option linter.all false
set_option maxRecDepth 100000
set_option maxHeartbeats 4000000
namespace K09
open PySem PySem.Spec PyProof.Rows Dq L2
def top (i : Nat) : Stmt := PySem.Challenge.pw_leaveledger_k09_walks_written.main.body.getD i (.Pass ⟨0, 0, 0, 0⟩)
def d0 : Df := ⟨"write", top 4, ["tree", "line"], ["tree"]⟩
def d1 : Df := ⟨"write_walk", top 5, ["walk"], ["walk"]⟩
def d2 : Df := ⟨"joined", top 6, ["tokens"], ["tokens"]⟩
def d3 : Df := ⟨"line_tokens", top 7, ["line", "word"], ["line"]⟩
def d4 : Df := ⟨"policy_tokens", top 8, ["line", "found", "action", "word", "name", "rank", "askers", "actions", "things", "cond", "duties"], ["line"]⟩
def d5 : Df := ⟨"tests_tokens", top 9, ["tests", "found", "tag", "truth"], ["tests"]⟩
def d6 : Df := ⟨"guarded", top 10, ["tokens", "word", "tightness"], ["tokens", "word", "tightness"]⟩
def d7 : Df := ⟨"walk_part", top 11, ["walk", "tightness"], ["walk", "tightness"]⟩
def d8 : Df := ⟨"walk_tokens", top 12, ["walk", "word"], ["walk"]⟩
def d9 : Df := ⟨"table_tokens", top 13, ["walk", "found", "place", "letter", "after", "tie", "end", "marks"], ["walk"]⟩
def d10 : Df := ⟨"cond_part", top 14, ["cond", "tightness"], ["cond", "tightness"]⟩
def d11 : Df := ⟨"cond_tokens", top 15, ["cond", "word"], ["cond"]⟩
def d12 : Df := ⟨"term_tokens", top 16, ["term", "owner", "dot", "name"], ["term"]⟩
def d13 : Df := ⟨"gap_tokens", top 17, ["gap"], ["gap"]⟩
def d14 : Df := ⟨"_law_begin", top 19, ["_law_script", "_law_cell"], ["_law_script"]⟩
def d15 : Df := ⟨"_law_draw", top 20, ["_law_d", "_law_many", "_law_size", "_law_found", "_law_cell"], ["_law_d", "_law_many"]⟩
def d16 : Df := ⟨"_law_pick", top 21, ["_law_d", "_law_row"], ["_law_d", "_law_row"]⟩
def d17 : Df := ⟨"_law_rare", top 22, ["_law_d", "_law_many"], ["_law_d", "_law_many"]⟩
def d18 : Df := ⟨"_law_is_int", top 23, ["_law_thing"], ["_law_thing"]⟩
def d19 : Df := ⟨"_law_reserved", top 24, ["_law_text"], []⟩
def d20 : Df := ⟨"_law_word", top 25, ["_law_d", "_law_way", "_law_signs", "_law_word_here", "_law_k", "_law_words_here"], ["_law_d"]⟩
def d21 : Df := ⟨"_law_words", top 26, ["_law_d", "_law_low", "_law_high", "_law_found", "_law_k", "_law_word_here"], ["_law_d", "_law_low", "_law_high"]⟩
def d22 : Df := ⟨"_law_some_tests", top 27, ["_law_d", "_law_low", "_law_word_here"], ["_law_d", "_law_low"]⟩
def d23 : Df := ⟨"_law_leaf", top 28, ["_law_d", "_law_way", "_law_tie"], ["_law_d"]⟩
def d24 : Df := ⟨"_law_expr", top 29, ["_law_d", "_law_deep", "_law_room", "_law_tall", "_law_way", "_law_first", "_law_second", "_law_word_here", "_law_inner"], ["_law_d", "_law_deep", "_law_room", "_law_tall"]⟩
def d25 : Df := ⟨"_law_number_to", top 30, ["_law_d", "_law_most"], ["_law_d", "_law_most"]⟩
def d26 : Df := ⟨"_law_move", top 31, ["_law_d", "_law_marks"], ["_law_d"]⟩
def d27 : Df := ⟨"_law_moves", top 32, ["_law_d", "_law_most", "_law_moves_here", "_law_k"], ["_law_d", "_law_most"]⟩
def d28 : Df := ⟨"_law_any_walk", top 33, ["_law_d", "_law_most", "_law_size", "_law_way"], ["_law_d", "_law_most", "_law_size"]⟩
def d29 : Df := ⟨"_law_good_name", top 34, ["_law_thing", "_law_sign"], ["_law_thing"]⟩
def d30 : Df := ⟨"_law_see", top 35, ["_law_c"], ["_law_c"]⟩
def d31 : Df := ⟨"_law_take", top 36, ["_law_c", "_law_word_here"], ["_law_c", "_law_word_here"]⟩
def d32 : Df := ⟨"_law_take_name", top 37, ["_law_c", "_law_word_here"], ["_law_c"]⟩
def d33 : Df := ⟨"_law_take_number", top 38, ["_law_c", "_law_low", "_law_high", "_law_word_here", "_law_good", "_law_sign"], ["_law_c", "_law_low", "_law_high"]⟩
def d34 : Df := ⟨"_law_fold", top 39, ["_law_values", "_law_waits", "_law_words_here", "_law_k", "_law_second", "_law_first"], ["_law_values", "_law_waits", "_law_words_here"]⟩
def d35 : Df := ⟨"_law_take_tests", top 40, ["_law_c", "_law_least", "_law_found", "_law_k", "_law_truth"], ["_law_c", "_law_least"]⟩
def d36 : Df := ⟨"_law_take_step", top 41, ["_law_c", "_law_word_here"], ["_law_c"]⟩
def d37 : Df := ⟨"_law_take_sign", top 42, ["_law_c", "_law_value", "_law_word_here", "_law_many"], ["_law_c", "_law_value"]⟩
def d38 : Df := ⟨"_law_take_alt", top 43, ["_law_c", "_law_values", "_law_waits", "_law_ready", "_law_k", "_law_word_here"], ["_law_c"]⟩
def d39 : Df := ⟨"_law_table_words", top 44, ["_law_walk", "_law_found", "_law_start", "_law_letter", "_law_goal"], ["_law_walk"]⟩
def d40 : Df := ⟨"_law_same", top 45, ["_law_told", "_law_due", "_law_k"], ["_law_told", "_law_due"]⟩
def d41 : Df := ⟨"_law_partner", top 46, ["_law_words_here", "_law_start", "_law_deep", "_law_k"], ["_law_words_here", "_law_start"]⟩
def d42 : Df := ⟨"_law_whole", top 47, ["_law_words_here", "_law_c", "_law_walk"], ["_law_words_here"]⟩
def d43 : Df := ⟨"_law_is_text", top 48, ["_law_walk", "_law_words_here", "_law_k", "_law_other"], ["_law_walk", "_law_words_here"]⟩
def d44 : Df := ⟨"law", top 49, ["_law_script", "_law_d", "_law_first", "_law_second", "_law_walk", "_law_text", "_law_name"], ["_law_script"]⟩
def src : Src := ⟨[d0, d1, d2, d3, d4, d5, d6, d7, d8, d9, d10, d11, d12, d13, d14, d15, d16, d17, d18, d19, d20, d21, d22, d23, d24, d25, d26, d27, d28, d29, d30, d31, d32, d33, d34, d35, d36, d37, d38, d39, d40, d41, d42, d43, d44], [("TIGHTNESS", .dic [[111, 114], [116, 104, 101, 110], [97, 110, 100]] [.int (0), .int (1), .int (1)]), ("TIGHTEST", .int (2)), ("SIGNS", .dic [[115, 116, 97, 114], [112, 108, 117, 115], [109, 97, 121, 98, 101]] [.str [42], .str [43], .str [63]])], ["abs", "all", "bool", "int", "isinstance", "len", "list", "range", "sorted", "str", "tuple"]⟩
theorem ok0 : DfOk src.G d0 ⟨1, 2, b0⟩ := ⟨⟨rfl, rfl, rfl, by decide +kernel, rfl, by decide +kernel, by decide +kernel⟩, rfl, rfl, by kernel_rfl⟩
theorem bi0 : BindH d0 := fun _ _ _ _ _ _ us hl => match us, hl with | [_], _ => rfl
theorem ok1 : DfOk src.G d1 ⟨1, 1, b1⟩ := ⟨⟨rfl, rfl, rfl, by decide +kernel, rfl, by decide +kernel, by decide +kernel⟩, rfl, rfl, by kernel_rfl⟩
theorem bi1 : BindH d1 := fun _ _ _ _ _ _ us hl => match us, hl with | [_], _ => rfl
theorem ok2 : DfOk src.G d2 ⟨1, 1, b2⟩ := ⟨⟨rfl, rfl, rfl, by decide +kernel, rfl, by decide +kernel, by decide +kernel⟩, rfl, rfl, by kernel_rfl⟩
theorem bi2 : BindH d2 := fun _ _ _ _ _ _ us hl => match us, hl with | [_], _ => rfl
theorem ok3 : DfOk src.G d3 ⟨1, 2, b3⟩ := ⟨⟨rfl, rfl, rfl, by decide +kernel, rfl, by decide +kernel, by decide +kernel⟩, rfl, rfl, by kernel_rfl⟩
theorem bi3 : BindH d3 := fun _ _ _ _ _ _ us hl => match us, hl with | [_], _ => rfl
theorem ok4 : DfOk src.G d4 ⟨1, 11, b4⟩ := ⟨⟨rfl, rfl, rfl, by decide +kernel, rfl, by decide +kernel, by decide +kernel⟩, rfl, rfl, by kernel_rfl⟩
theorem bi4 : BindH d4 := fun _ _ _ _ _ _ us hl => match us, hl with | [_], _ => rfl
theorem ok5 : DfOk src.G d5 ⟨1, 4, b5⟩ := ⟨⟨rfl, rfl, rfl, by decide +kernel, rfl, by decide +kernel, by decide +kernel⟩, rfl, rfl, by kernel_rfl⟩
theorem bi5 : BindH d5 := fun _ _ _ _ _ _ us hl => match us, hl with | [_], _ => rfl
theorem ok6 : DfOk src.G d6 ⟨3, 3, b6⟩ := ⟨⟨rfl, rfl, rfl, by decide +kernel, rfl, by decide +kernel, by decide +kernel⟩, rfl, rfl, by kernel_rfl⟩
theorem bi6 : BindH d6 := fun _ _ _ _ _ _ us hl => match us, hl with | [_, _, _], _ => rfl
theorem ok7 : DfOk src.G d7 ⟨2, 2, b7⟩ := ⟨⟨rfl, rfl, rfl, by decide +kernel, rfl, by decide +kernel, by decide +kernel⟩, rfl, rfl, by kernel_rfl⟩
theorem bi7 : BindH d7 := fun _ _ _ _ _ _ us hl => match us, hl with | [_, _], _ => rfl
theorem ok8 : DfOk src.G d8 ⟨1, 2, b8⟩ := ⟨⟨rfl, rfl, rfl, by decide +kernel, rfl, by decide +kernel, by decide +kernel⟩, rfl, rfl, by kernel_rfl⟩
theorem bi8 : BindH d8 := fun _ _ _ _ _ _ us hl => match us, hl with | [_], _ => rfl
theorem ok9 : DfOk src.G d9 ⟨1, 8, b9⟩ := ⟨⟨rfl, rfl, rfl, by decide +kernel, rfl, by decide +kernel, by decide +kernel⟩, rfl, rfl, by kernel_rfl⟩
theorem bi9 : BindH d9 := fun _ _ _ _ _ _ us hl => match us, hl with | [_], _ => rfl
theorem ok10 : DfOk src.G d10 ⟨2, 2, b10⟩ := ⟨⟨rfl, rfl, rfl, by decide +kernel, rfl, by decide +kernel, by decide +kernel⟩, rfl, rfl, by kernel_rfl⟩
theorem bi10 : BindH d10 := fun _ _ _ _ _ _ us hl => match us, hl with | [_, _], _ => rfl
theorem ok11 : DfOk src.G d11 ⟨1, 2, b11⟩ := ⟨⟨rfl, rfl, rfl, by decide +kernel, rfl, by decide +kernel, by decide +kernel⟩, rfl, rfl, by kernel_rfl⟩
theorem bi11 : BindH d11 := fun _ _ _ _ _ _ us hl => match us, hl with | [_], _ => rfl
theorem ok12 : DfOk src.G d12 ⟨1, 4, b12⟩ := ⟨⟨rfl, rfl, rfl, by decide +kernel, rfl, by decide +kernel, by decide +kernel⟩, rfl, rfl, by kernel_rfl⟩
theorem bi12 : BindH d12 := fun _ _ _ _ _ _ us hl => match us, hl with | [_], _ => rfl
theorem ok13 : DfOk src.G d13 ⟨1, 1, b13⟩ := ⟨⟨rfl, rfl, rfl, by decide +kernel, rfl, by decide +kernel, by decide +kernel⟩, rfl, rfl, by kernel_rfl⟩
theorem bi13 : BindH d13 := fun _ _ _ _ _ _ us hl => match us, hl with | [_], _ => rfl
theorem ok14 : DfOk src.G d14 ⟨1, 2, b14⟩ := ⟨⟨rfl, rfl, rfl, by decide +kernel, rfl, by decide +kernel, by decide +kernel⟩, rfl, rfl, by kernel_rfl⟩
theorem bi14 : BindH d14 := fun _ _ _ _ _ _ us hl => match us, hl with | [_], _ => rfl
theorem ok15 : DfOk src.G d15 ⟨2, 5, b15⟩ := ⟨⟨rfl, rfl, rfl, by decide +kernel, rfl, by decide +kernel, by decide +kernel⟩, rfl, rfl, by kernel_rfl⟩
theorem bi15 : BindH d15 := fun _ _ _ _ _ _ us hl => match us, hl with | [_, _], _ => rfl
theorem ok16 : DfOk src.G d16 ⟨2, 2, b16⟩ := ⟨⟨rfl, rfl, rfl, by decide +kernel, rfl, by decide +kernel, by decide +kernel⟩, rfl, rfl, by kernel_rfl⟩
theorem bi16 : BindH d16 := fun _ _ _ _ _ _ us hl => match us, hl with | [_, _], _ => rfl
theorem ok17 : DfOk src.G d17 ⟨2, 2, b17⟩ := ⟨⟨rfl, rfl, rfl, by decide +kernel, rfl, by decide +kernel, by decide +kernel⟩, rfl, rfl, by kernel_rfl⟩
theorem bi17 : BindH d17 := fun _ _ _ _ _ _ us hl => match us, hl with | [_, _], _ => rfl
theorem ok18 : DfOk src.G d18 ⟨1, 1, b18⟩ := ⟨⟨rfl, rfl, rfl, by decide +kernel, rfl, by decide +kernel, by decide +kernel⟩, rfl, rfl, by kernel_rfl⟩
theorem bi18 : BindH d18 := fun _ _ _ _ _ _ us hl => match us, hl with | [_], _ => rfl
theorem ok19 : DfOk src.G d19 ⟨0, 1, b19⟩ := ⟨⟨rfl, rfl, rfl, by decide +kernel, rfl, by decide +kernel, by decide +kernel⟩, rfl, rfl, by kernel_rfl⟩
theorem bi19 : BindH d19 := fun _ _ _ _ _ _ us hl => match us, hl with | [], _ => rfl
theorem ok20 : DfOk src.G d20 ⟨1, 6, b20⟩ := ⟨⟨rfl, rfl, rfl, by decide +kernel, rfl, by decide +kernel, by decide +kernel⟩, rfl, rfl, by kernel_rfl⟩
theorem bi20 : BindH d20 := fun _ _ _ _ _ _ us hl => match us, hl with | [_], _ => rfl
theorem ok21 : DfOk src.G d21 ⟨3, 6, b21⟩ := ⟨⟨rfl, rfl, rfl, by decide +kernel, rfl, by decide +kernel, by decide +kernel⟩, rfl, rfl, by kernel_rfl⟩
theorem bi21 : BindH d21 := fun _ _ _ _ _ _ us hl => match us, hl with | [_, _, _], _ => rfl
theorem ok22 : DfOk src.G d22 ⟨2, 3, b22⟩ := ⟨⟨rfl, rfl, rfl, by decide +kernel, rfl, by decide +kernel, by decide +kernel⟩, rfl, rfl, by kernel_rfl⟩
theorem bi22 : BindH d22 := fun _ _ _ _ _ _ us hl => match us, hl with | [_, _], _ => rfl
theorem ok23 : DfOk src.G d23 ⟨1, 3, b23⟩ := ⟨⟨rfl, rfl, rfl, by decide +kernel, rfl, by decide +kernel, by decide +kernel⟩, rfl, rfl, by kernel_rfl⟩
theorem bi23 : BindH d23 := fun _ _ _ _ _ _ us hl => match us, hl with | [_], _ => rfl
theorem ok24 : DfOk src.G d24 ⟨4, 9, b24⟩ := ⟨⟨rfl, rfl, rfl, by decide +kernel, rfl, by decide +kernel, by decide +kernel⟩, rfl, rfl, by kernel_rfl⟩
theorem bi24 : BindH d24 := fun _ _ _ _ _ _ us hl => match us, hl with | [_, _, _, _], _ => rfl
theorem ok25 : DfOk src.G d25 ⟨2, 2, b25⟩ := ⟨⟨rfl, rfl, rfl, by decide +kernel, rfl, by decide +kernel, by decide +kernel⟩, rfl, rfl, by kernel_rfl⟩
theorem bi25 : BindH d25 := fun _ _ _ _ _ _ us hl => match us, hl with | [_, _], _ => rfl
theorem ok26 : DfOk src.G d26 ⟨1, 2, b26⟩ := ⟨⟨rfl, rfl, rfl, by decide +kernel, rfl, by decide +kernel, by decide +kernel⟩, rfl, rfl, by kernel_rfl⟩
theorem bi26 : BindH d26 := fun _ _ _ _ _ _ us hl => match us, hl with | [_], _ => rfl
theorem ok27 : DfOk src.G d27 ⟨2, 4, b27⟩ := ⟨⟨rfl, rfl, rfl, by decide +kernel, rfl, by decide +kernel, by decide +kernel⟩, rfl, rfl, by kernel_rfl⟩
theorem bi27 : BindH d27 := fun _ _ _ _ _ _ us hl => match us, hl with | [_, _], _ => rfl
theorem ok28 : DfOk src.G d28 ⟨3, 4, b28⟩ := ⟨⟨rfl, rfl, rfl, by decide +kernel, rfl, by decide +kernel, by decide +kernel⟩, rfl, rfl, by kernel_rfl⟩
theorem bi28 : BindH d28 := fun _ _ _ _ _ _ us hl => match us, hl with | [_, _, _], _ => rfl
theorem ok29 : DfOk src.G d29 ⟨1, 2, b29⟩ := ⟨⟨rfl, rfl, rfl, by decide +kernel, rfl, by decide +kernel, by decide +kernel⟩, rfl, rfl, by kernel_rfl⟩
theorem bi29 : BindH d29 := fun _ _ _ _ _ _ us hl => match us, hl with | [_], _ => rfl
theorem ok30 : DfOk src.G d30 ⟨1, 1, b30⟩ := ⟨⟨rfl, rfl, rfl, by decide +kernel, rfl, by decide +kernel, by decide +kernel⟩, rfl, rfl, by kernel_rfl⟩
theorem bi30 : BindH d30 := fun _ _ _ _ _ _ us hl => match us, hl with | [_], _ => rfl
theorem ok31 : DfOk src.G d31 ⟨2, 2, b31⟩ := ⟨⟨rfl, rfl, rfl, by decide +kernel, rfl, by decide +kernel, by decide +kernel⟩, rfl, rfl, by kernel_rfl⟩
theorem bi31 : BindH d31 := fun _ _ _ _ _ _ us hl => match us, hl with | [_, _], _ => rfl
theorem ok32 : DfOk src.G d32 ⟨1, 2, b32⟩ := ⟨⟨rfl, rfl, rfl, by decide +kernel, rfl, by decide +kernel, by decide +kernel⟩, rfl, rfl, by kernel_rfl⟩
theorem bi32 : BindH d32 := fun _ _ _ _ _ _ us hl => match us, hl with | [_], _ => rfl
theorem ok33 : DfOk src.G d33 ⟨3, 6, b33⟩ := ⟨⟨rfl, rfl, rfl, by decide +kernel, rfl, by decide +kernel, by decide +kernel⟩, rfl, rfl, by kernel_rfl⟩
theorem bi33 : BindH d33 := fun _ _ _ _ _ _ us hl => match us, hl with | [_, _, _], _ => rfl
theorem ok34 : DfOk src.G d34 ⟨3, 6, b34⟩ := ⟨⟨rfl, rfl, rfl, by decide +kernel, rfl, by decide +kernel, by decide +kernel⟩, rfl, rfl, by kernel_rfl⟩
theorem bi34 : BindH d34 := fun _ _ _ _ _ _ us hl => match us, hl with | [_, _, _], _ => rfl
theorem ok35 : DfOk src.G d35 ⟨2, 5, b35⟩ := ⟨⟨rfl, rfl, rfl, by decide +kernel, rfl, by decide +kernel, by decide +kernel⟩, rfl, rfl, by kernel_rfl⟩
theorem bi35 : BindH d35 := fun _ _ _ _ _ _ us hl => match us, hl with | [_, _], _ => rfl
theorem ok36 : DfOk src.G d36 ⟨1, 2, b36⟩ := ⟨⟨rfl, rfl, rfl, by decide +kernel, rfl, by decide +kernel, by decide +kernel⟩, rfl, rfl, by kernel_rfl⟩
theorem bi36 : BindH d36 := fun _ _ _ _ _ _ us hl => match us, hl with | [_], _ => rfl
theorem ok37 : DfOk src.G d37 ⟨2, 4, b37⟩ := ⟨⟨rfl, rfl, rfl, by decide +kernel, rfl, by decide +kernel, by decide +kernel⟩, rfl, rfl, by kernel_rfl⟩
theorem bi37 : BindH d37 := fun _ _ _ _ _ _ us hl => match us, hl with | [_, _], _ => rfl
theorem ok38 : DfOk src.G d38 ⟨1, 6, b38⟩ := ⟨⟨rfl, rfl, rfl, by decide +kernel, rfl, by decide +kernel, by decide +kernel⟩, rfl, rfl, by kernel_rfl⟩
theorem bi38 : BindH d38 := fun _ _ _ _ _ _ us hl => match us, hl with | [_], _ => rfl
theorem ok39 : DfOk src.G d39 ⟨1, 5, b39⟩ := ⟨⟨rfl, rfl, rfl, by decide +kernel, rfl, by decide +kernel, by decide +kernel⟩, rfl, rfl, by kernel_rfl⟩
theorem bi39 : BindH d39 := fun _ _ _ _ _ _ us hl => match us, hl with | [_], _ => rfl
theorem ok40 : DfOk src.G d40 ⟨2, 3, b40⟩ := ⟨⟨rfl, rfl, rfl, by decide +kernel, rfl, by decide +kernel, by decide +kernel⟩, rfl, rfl, by kernel_rfl⟩
theorem bi40 : BindH d40 := fun _ _ _ _ _ _ us hl => match us, hl with | [_, _], _ => rfl
theorem ok41 : DfOk src.G d41 ⟨2, 4, b41⟩ := ⟨⟨rfl, rfl, rfl, by decide +kernel, rfl, by decide +kernel, by decide +kernel⟩, rfl, rfl, by kernel_rfl⟩
theorem bi41 : BindH d41 := fun _ _ _ _ _ _ us hl => match us, hl with | [_, _], _ => rfl
theorem ok42 : DfOk src.G d42 ⟨1, 3, b42⟩ := ⟨⟨rfl, rfl, rfl, by decide +kernel, rfl, by decide +kernel, by decide +kernel⟩, rfl, rfl, by kernel_rfl⟩
theorem bi42 : BindH d42 := fun _ _ _ _ _ _ us hl => match us, hl with | [_], _ => rfl
theorem ok43 : DfOk src.G d43 ⟨2, 4, b43⟩ := ⟨⟨rfl, rfl, rfl, by decide +kernel, rfl, by decide +kernel, by decide +kernel⟩, rfl, rfl, by kernel_rfl⟩
theorem bi43 : BindH d43 := fun _ _ _ _ _ _ us hl => match us, hl with | [_, _], _ => rfl
theorem ok44 : DfOk src.G d44 ⟨1, 7, b44⟩ := ⟨⟨rfl, rfl, rfl, by decide +kernel, rfl, by decide +kernel, by decide +kernel⟩, rfl, rfl, by kernel_rfl⟩
theorem bi44 : BindH d44 := fun _ _ _ _ _ _ us hl => match us, hl with | [_], _ => rfl
theorem all_ok : AllD src.G src.defs fns := .cons ok0 bi0 (.cons ok1 bi1 (.cons ok2 bi2 (.cons ok3 bi3 (.cons ok4 bi4 (.cons ok5 bi5 (.cons ok6 bi6 (.cons ok7 bi7 (.cons ok8 bi8 (.cons ok9 bi9 (.cons ok10 bi10 (.cons ok11 bi11 (.cons ok12 bi12 (.cons ok13 bi13 (.cons ok14 bi14 (.cons ok15 bi15 (.cons ok16 bi16 (.cons ok17 bi17 (.cons ok18 bi18 (.cons ok19 bi19 (.cons ok20 bi20 (.cons ok21 bi21 (.cons ok22 bi22 (.cons ok23 bi23 (.cons ok24 bi24 (.cons ok25 bi25 (.cons ok26 bi26 (.cons ok27 bi27 (.cons ok28 bi28 (.cons ok29 bi29 (.cons ok30 bi30 (.cons ok31 bi31 (.cons ok32 bi32 (.cons ok33 bi33 (.cons ok34 bi34 (.cons ok35 bi35 (.cons ok36 bi36 (.cons ok37 bi37 (.cons ok38 bi38 (.cons ok39 bi39 (.cons ok40 bi40 (.cons ok41 bi41 (.cons ok42 bi42 (.cons ok43 bi43 (.cons ok44 bi44 (.nil)))))))))))))))))))))))))))))))))))))))))))))
theorem src_ok : SrcOk src fns := ⟨fun k d h => all_ok.get h⟩
abbrev R : PySem.W.OpenRow := PySem.W.OpenLaw.row PySem.Challenge.rw_leaveledger_k09_walks_written
abbrev hk : PySem.W.Hook := Dq.hookQ 4 src
def ob (s : PySem.W.SharedT) : Dq.AlQ := Dq.obsQG 4 src (HandSHeadRun.getT s)
theorem ob_eq (s : PySem.W.SharedT) : ob s = hk.obs s.abs := Dq.obsQG_eq (HandSHeadRun.getT_eq s)
def names : List Str := "TIGHTNESS" :: "TIGHTEST" :: "SIGNS" :: "write" :: "write_walk" :: "joined" :: "line_tokens" :: "policy_tokens" :: "tests_tokens" :: "guarded" :: "walk_part" :: "walk_tokens" :: "table_tokens" :: "cond_part" :: "cond_tokens" :: "term_tokens" :: "gap_tokens" :: "_law_begin" :: "_law_draw" :: "_law_pick" :: "_law_rare" :: "_law_is_int" :: "_law_reserved" :: "_law_word" :: "_law_words" :: "_law_some_tests" :: "_law_leaf" :: "_law_expr" :: "_law_number_to" :: "_law_move" :: "_law_moves" :: "_law_any_walk" :: "_law_good_name" :: "_law_see" :: "_law_take" :: "_law_take_name" :: "_law_take_number" :: "_law_fold" :: "_law_take_tests" :: "_law_take_step" :: "_law_take_sign" :: "_law_take_alt" :: "_law_table_words" :: "_law_same" :: "_law_partner" :: "_law_whole" :: "_law_is_text" :: []
theorem runEq (w : World) : HandSHeadRun.RunEq R (PySem.W.view R.prog [49]) hk ob 4000 names w := by
  refine PySem.W.byRow2 "special-get-raises" (P := fun w => HandSHeadRun.RunEq R (PySem.W.view R.prog [49]) hk ob 4000 names w) ?_ ?_ w
  · intro w os
    kernel_rfl
  · intro w os
    kernel_rfl
end K09
open PySem PySem.W PySem.Calls PyProof.Rows
set_option maxHeartbeats 0 in
theorem PySem.Challenge.cw_leaveledger_k09_walks_written_holds : PySem.Challenge.rw_leaveledger_k09_walks_written.Holds := by
  w_on; o_law
  refine HandSHeadRun.head_any (r := OpenLaw.row PySem.Challenge.rw_leaveledger_k09_walks_written) (q := view (OpenLaw.row PySem.Challenge.rw_leaveledger_k09_walks_written).prog [49]) (H := K09.hk) (ob := K09.ob) (M := 4000) (loose := K09.names) (d := HandSHeadRun.topDef (OpenLaw.row PySem.Challenge.rw_leaveledger_k09_walks_written).prog 49) (kwd := []) K09.ob_eq
    (by kernel_rfl) (fun s => by kernel_rfl) K09.runEq (by kernel_rfl) (by kernel_rfl) (by kernel_rfl) (by rfl) (by first | assumption | decide +kernel) (by decide +kernel) ⟨rfl, rfl, rfl, rfl, rfl, by decide +kernel⟩ ?hw ?hc
  case hw => w_witness2
  case hc =>
    refine L2.walk_ofE (l := PySem.Challenge.rw_leaveledger_k09_walks_written) (n := 63) (k := 30) (x := "_law_script") (CX := L2.CX0) rfl (by decide) (by kernel_rfl) ⟨rfl, by decide, by decide⟩ ?F (fun _ _ _ _ z => z)
    intro w mg fa h Y G hmg0
    obtain ⟨K, KX, c⟩ := Y
    have hmg : mg K09.d44.name = some (.ref fa) := by
      have e : (HandSHeadRun.topDef (OpenLaw.row PySem.Challenge.rw_leaveledger_k09_walks_written).prog 49).name = K09.d44.name := by kernel_rfl
      rw [← e]
      exact hmg0
    obtain ⟨fd, hb, hF⟩ := Dq.law_facts (P := (PySem.Challenge.rw_leaveledger_k09_walks_written).prog) (w := w) K09.src_ok K09.law_spec (show K09.src.defs[44]? = some K09.d44 from rfl) rfl KX G hmg c
    exact ⟨K, fd, Dq.spLaw K, KX, hb, fun H a ns hl ho hS => ⟨a, ns, rfl, Dq.frz_of ho hS, hl, fun _ => rfl⟩, hF⟩

