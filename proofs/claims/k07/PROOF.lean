import PyProof.Rows.All
import Wide.All
import OpenK.AllK
import Wide.FinOn
import HandS.Base
import HandS.Call
import HandS.List
import HandS.Comp
import HandS.Iter
import HandS.Text
import HandS.Flow
import HandS.IsInst
import HandS.Words
import HandS.Exc
import HandS.Defaults
import HandS.Head0
import HandS.Head1
import HandS.Head2
import HandS.HeadEnd
import HandS.HeadHook1
import HandS.HeadHook2
import HandS.More
import HandS.WordsExc
import PySem.Challenge.RW_leaveledger_k07_tokens
set_option Elab.async false
set_option linter.all false
set_option maxRecDepth 100000
set_option maxHeartbeats 2000000
/-! Dq0: data, stores, a small language and what its runs want. -/
namespace Dq
open PySem PySem.Spec PyProof.Rows L2

/-! ### data: tuples by value, lists that change by their place in a store -/
inductive D where
  | non
  | bl (b : Bool)
  | int (i : Int)
  | str (s : List Nat)
  | tup (ws : List D)
  | flst (ws : List D)
  | loc (n : Nat)
  | fn (k : Nat)

inductive Cell where
  | lst (ws : List D)

abbrev Sto := List Cell
abbrev En := List (Option D)
abbrev DK := D → Sto → Prop
abbrev EK := En → Sto → Prop

/-! ### the language -/
inductive Bt where
  | len | abs | max | min | int | str | tuple | list | all | any | sorted | set | sum | bool
inductive Mt where
  | join | split | partition | startswith | endswith | upper | removeprefix
  | append | pop | extend | insert
inductive Ty where
  | int | str | bool | tuple
mutual
inductive E where
  | var (i : Nat)
  | cst (w : D)
  | glob (k : Nat)
  | bin (op : Operator) (a b : E)
  | neg (a : E)
  | cmp (op : CmpOp) (a b : E)
  | chain (o p : CmpOp) (a b c : E)
  | band (a b : E)
  | bor (a b : E)
  | bnot (a : E)
  | ife (c : Te) (a b : E)
  | tup (es : Es)
  | lst (es : Es)
  | idx (a b : E)
  | slc (a : E) (lo hi : Eo)
  | call (f : Nat) (es : Es)
  | blt (f : Bt) (es : Es)
  | isi (a : E) (t : Ty)
  | mth (m : Mt) (o : E) (es : Es)
  | comp (own : List Nat) (elt : E) (t : T) (it : I) (c : Teo)
inductive Eo where
  | no
  | yes (e : E)
inductive Es where
  | nil
  | cons (e : E) (es : Es)
inductive Te where
  | val (e : E)
  | tst (e : E)
  | and_ (a b : Te)
  | or_ (a b : Te)
  | not_ (a : Te)
inductive Teo where
  | no
  | yes (e : Te)
inductive T where
  | name (i : Nat)
  | tup (ts : Ts)
  | sub (o i : E)
inductive Ts where
  | nil
  | cons (t : T) (ts : Ts)
inductive I where
  | exp (e : E)
  | range1 (a : E)
  | range2 (a b : E)
end
mutual
inductive S where
  | expr (e : E)
  | asg (t : T) (e : E)
  | aug (i : Nat) (op : Operator) (e : E)
  | augs (o i : E) (op : Operator) (e : E)
  | ret (e : E)
  | retn
  | ite (c : Te) (a b : Ss)
  | while_ (c : Te) (b : Ss)
  | for_ (t : T) (it : I) (b : Ss)
  | brk
  | cont
  | pass
inductive Ss where
  | nil
  | cons (s : S) (ss : Ss)
end

/-- plain data -/
def immD : D → Bool
  | .non => true
  | .bl _ => true
  | .int _ => true
  | .str _ => true
  | _ => false
mutual
/-- the slots that a target stores to -/
def slT : T → List Nat
  | .name i => [i]
  | .tup ts => slTs ts
  | .sub _ _ => []
def slTs : Ts → List Nat
  | .nil => []
  | .cons t ts => slT t ++ slTs ts
end
def lenTs : Ts → Nat
  | .nil => 0
  | .cons _ ts => lenTs ts + 1
/-! ### what the small steps want -/
def truW (st : Sto) : D → (Bool → Prop) → Prop
  | .non, Q => Q false
  | .bl b, Q => Q b
  | .int i, Q => Q (i != 0)
  | .str s, Q => s.length ≤ sizeLine ∧ Q (!s.isEmpty)
  | .tup ws, Q => Q (!ws.isEmpty)
  | .flst ws, Q => Q (!ws.isEmpty)
  | .loc n, Q => ∃ ws, st[n]? = some (.lst ws) ∧ Q (!ws.isEmpty)
  | .fn _, _ => False
def lenW (st : Sto) : D → (Nat → Prop) → Prop
  | .str s, Q => s.length ≤ sizeLine ∧ Q s.length
  | .tup ws, Q => Q ws.length
  | .flst ws, Q => Q ws.length
  | .loc n, Q => ∃ ws, st[n]? = some (.lst ws) ∧ Q ws.length
  | _, _ => False
def idxW (st : Sto) : D → D → (D → Prop) → Prop
  | .str s, .int i, Q => s.length ≤ sizeLine ∧ ∃ c, atI s i = some c ∧ Q (.str [c])
  | .tup ws, .int i, Q => ∃ w, atI ws i = some w ∧ Q w
  | .flst ws, .int i, Q => ∃ w, atI ws i = some w ∧ Q w
  | .loc n, .int i, Q => ∃ ws, st[n]? = some (.lst ws) ∧ ∃ w, atI ws i = some w ∧ Q w
  | _, _, _ => False
def cutL {α : Type} (xs : List α) (lo hi : Option Int) : List α := (xs.drop (HT.sIx xs.length 0 lo)).take (HT.sIx xs.length xs.length hi - HT.sIx xs.length 0 lo)
def slcW (st : Sto) : D → Option Int → Option Int → DK → Prop
  | .str s, lo, hi, Q => s.length ≤ sizeLine ∧ Q (.str (cutL s lo hi)) st
  | .loc n, lo, hi, Q => ∃ ws, st[n]? = some (.lst ws) ∧ Q (.loc st.length) (st ++ [.lst (cutL ws lo hi)])
  | .flst ws, lo, hi, Q => Q (.loc st.length) (st ++ [.lst (cutL ws lo hi)])
  | .tup ws, lo, hi, Q => ¬ (HT.sIx ws.length 0 lo = 0 ∧ HT.sIx ws.length ws.length hi = ws.length) ∧ Q (.tup (cutL ws lo hi)) st
  | _, _, _, _ => False
def binW (st : Sto) : Operator → D → D → DK → Prop
  | .Add, .int i, .int j, Q => Q (.int (i + j)) st
  | .Add, .str a, .str b, Q => a.length + b.length ≤ sizeLine ∧ Q (.str (a ++ b)) st
  | .Add, .loc m, .loc n, Q => ∃ xs ys, st[m]? = some (.lst xs) ∧ st[n]? = some (.lst ys) ∧ xs.length + ys.length ≤ sizeLine ∧ Q (.loc st.length) (st ++ [.lst (xs ++ ys)])
  | .Sub, .int i, .int j, Q => Q (.int (i - j)) st
  | .Mult, .int i, .int j, Q => CMul i j ∧ Q (.int (i * j)) st
  | .FloorDiv, .int i, .int j, Q => CDiv i j ∧ Q (.int (i / j)) st
  | .Mod, .int i, .int j, Q => 0 < j ∧ Q (.int (i % j)) st
  | .Pow, .int i, .int j, Q => CPow i j ∧ Q (.int (i ^ j.toNat)) st
  | .LShift, .int i, .int j, Q => CPow i j ∧ Q (.int (i * 2 ^ j.toNat)) st
  | _, _, _, _ => False
/-- flat: no part of its own -/
def flatD : D → Bool
  | .non => true
  | .bl _ => true
  | .int _ => true
  | .str _ => true
  | _ => false
def eqF : D → D → Bool
  | .non, .non => true
  | .bl a, .bl b => a == b
  | .bl a, .int b => (if a then 1 else 0) == b
  | .int a, .bl b => a == (if b then 1 else 0)
  | .int a, .int b => a == b
  | .str a, .str b => a == b
  | _, _ => false
/-- the pairs of flat data that the plain rule of == takes -/
def scalD : D → D → Bool
  | .bl _, .int _ => false
  | .int _, .bl _ => false
  | x, y => flatD x && flatD y
/-- data as the library has it, lists looked up -/
def pdAll (f : D → Option PyData) : List D → Option (List PyData)
  | [] => some []
  | w :: ws => (f w).bind fun d => (pdAll f ws).map fun ds => d :: ds
def pd (st : Sto) : Nat → D → Option PyData
  | 0, _ => none
  | _ + 1, .non => some .none
  | _ + 1, .bl b => some (.bool b)
  | _ + 1, .int i => some (.int i)
  | _ + 1, .str s => some (.str ⟨s.toArray⟩)
  | k + 1, .tup ws => (pdAll (pd st k) ws).map .tuple
  | k + 1, .flst ws => (pdAll (pd st k) ws).map .list
  | k + 1, .loc n => match st[n]? with
    | some (.lst ws) => (pdAll (pd st k) ws).map .list
    | none => none
  | _ + 1, .fn _ => none
def eqW (st : Sto) (x y : D) (Q : Bool → Prop) : Prop :=
  (scalD x y = true ∧ Q (eqF x y)) ∨ ∃ k d e, pd st k x = some d ∧ pd st k y = some e ∧ SeqAt.shaped d = true ∧ SeqAt.shaped e = true ∧ Q (PyData.eqv d e)
def inW (st : Sto) (x : D) : D → (Bool → Prop) → Prop
  | .str s, Q => ∃ c, x = .str [c] ∧ Q (decide (c ∈ s))
  | .tup ws, Q => flatD x = true ∧ ws.all flatD = true ∧ Q (ws.any fun y => eqF y x)
  | .flst ws, Q => flatD x = true ∧ ws.all flatD = true ∧ Q (ws.any fun y => eqF y x)
  | .loc n, Q => ∃ ws, st[n]? = some (.lst ws) ∧ flatD x = true ∧ ws.all flatD = true ∧ Q (ws.any fun y => eqF y x)
  | _, _ => False
def isNonD : D → Bool
  | .non => true
  | _ => false
/-- op= of a name or a place of a list: what changes no list -/
def augW (st : Sto) : Operator → D → D → DK → Prop
  | .Add, .int i, .int j, Q => Q (.int (i + j)) st
  | .Add, .str a, .str b, Q => a.length + b.length ≤ sizeLine ∧ Q (.str (a ++ b)) st
  | .Sub, .int i, .int j, Q => Q (.int (i - j)) st
  | _, _, _, _ => False
def idlW (st : Sto) : D → D → (D → Prop) → Prop
  | .loc n, .int i, Q => ∃ ws, st[n]? = some (.lst ws) ∧ ∃ w, atI ws i = some w ∧ Q w
  | _, _, _ => False
def cmpW (st : Sto) : CmpOp → D → D → (Bool → Prop) → Prop
  | .Eq, x, y, Q => eqW st x y Q
  | .NotEq, x, y, Q => eqW st x y fun b => Q (!b)
  | .Lt, .int i, .int j, Q => Q (decide (i < j))
  | .LtE, .int i, .int j, Q => Q (decide (i ≤ j))
  | .Gt, .int i, .int j, Q => Q (decide (j < i))
  | .GtE, .int i, .int j, Q => Q (decide (j ≤ i))
  | .Lt, .str i, .str j, Q => Q (decide (i < j))
  | .In, x, y, Q => inW st x y Q
  | .NotIn, x, y, Q => inW st x y fun b => Q (!b)
  | .Is, x, .non, Q => Q (isNonD x)
  | .IsNot, x, .non, Q => Q (!isNonD x)
  | _, _, _, _ => False
/-- isinstance -/
def Ty.nm : Ty → String
  | .int => "int"
  | .str => "str"
  | .bool => "bool"
  | .tuple => "tuple"
def isiB : D → Ty → Option Bool
  | .bl _, t => some (match t with | .bool => true | .int => true | _ => false)
  | .int _, t => some (match t with | .int => true | _ => false)
  | .str _, t => some (match t with | .str => true | _ => false)
  | .tup _, t => some (match t with | .tuple => true | _ => false)
  | .non, _ => some false
  | _, _ => none
def bltW (st : Sto) : Bt → List D → DK → Prop
  | .len, [x], Q => lenW st x fun n => Q (.int n) st
  | .abs, [.int i], Q => Q (.int (if i < 0 then -i else i)) st
  | .max, [.int i, .int j], Q => Q (.int (if j > i then j else i)) st
  | .min, [.int i, .int j], Q => Q (.int (if j < i then j else i)) st
  | .int, [.int i], Q => Q (.int i) st
  | .int, [.bl k], Q => Q (.int (if k then 1 else 0)) st
  | .tuple, [.loc n], Q => ∃ ws, st[n]? = some (.lst ws) ∧ Q (.tup ws) st
  | .tuple, [.tup ws], Q => Q (.tup ws) st
  | .list, [.tup ws], Q => Q (.loc st.length) (st ++ [.lst ws])
  | .list, [.flst ws], Q => Q (.loc st.length) (st ++ [.lst ws])
  | .list, [.loc n], Q => ∃ ws, st[n]? = some (.lst ws) ∧ Q (.loc st.length) (st ++ [.lst ws])
  | .all, [.loc n], Q => ∃ bs : List Bool, st[n]? = some (.lst (bs.map .bl)) ∧ Q (.bl (bs.all id)) st
  | .any, [.loc n], Q => ∃ bs : List Bool, st[n]? = some (.lst (bs.map .bl)) ∧ Q (.bl (bs.any id)) st
  | _, _, _ => False
/-- what the receiver of a method is -/
def mthTy (st : Sto) : Mt → D → Prop
  | .join, x => ∃ s, x = .str s
  | .split, x => ∃ s, x = .str s
  | .partition, x => ∃ s, x = .str s
  | .startswith, x => ∃ s, x = .str s
  | .endswith, x => ∃ s, x = .str s
  | .upper, x => ∃ s, x = .str s
  | .removeprefix, x => ∃ s, x = .str s
  | _, x => ∃ n ws, x = .loc n ∧ st[n]? = some (.lst ws)
def mthW (st : Sto) : Mt → D → List D → DK → Prop
  | .append, .loc n, [w], Q => ∃ ws, st[n]? = some (.lst ws) ∧ ws.length < sizeLine ∧ Q .non (st.set n (.lst (ws ++ [w])))
  | .pop, .loc n, [], Q => ∃ ws w, st[n]? = some (.lst ws) ∧ ws[ws.length - 1]? = some w ∧ Q w (st.set n (.lst ws.dropLast))
  | .join, .str s, [.loc n], Q => ∃ ss : List (List Nat), st[n]? = some (.lst (ss.map .str)) ∧ (ss.map (·.length)).sum + ss.length * s.length ≤ 16777216 ∧ Q (.str (TL.joinL s ss)) st
  | _, _, _, _ => False
def setW (st : Sto) : D → D → D → (Sto → Prop) → Prop
  | .loc n, .int i, w, Q => ∃ ws j, st[n]? = some (.lst ws) ∧ ixN ws.length i = some j ∧ Q (st.set n (.lst (ws.set j w)))
  | _, _, _, _ => False
def wipeE (env : En) : List Nat → En
  | [] => env
  | v :: vs => (wipeE env vs).set v none
/-- a walked list that stands in the store stays as it is -/
def keepW (k : Option (Nat × List D)) (st : Sto) : Prop := match k with
  | none => True
  | some (n, ws) => st[n]? = some (.lst ws)
def seqW (st : Sto) : D → (List D → Option (Nat × List D) → Prop) → Prop
  | .str s, Q => Q (s.map fun c => .str [c]) none
  | .tup ws, Q => Q ws none
  | .flst ws, Q => Q ws none
  | .loc n, Q => ∃ ws, st[n]? = some (.lst ws) ∧ Q ws (some (n, ws))
  | _, _ => False
def compW (keep : Sto → Prop) (step : D → Sto → (Option D → Sto → Prop) → Prop) (Q : DK) : List D → List D → Sto → Prop
  | [], acc, st => keep st ∧ Q (.loc st.length) (st ++ [.lst acc])
  | w :: ws, acc, st => keep st ∧ step w st fun r st' => match r with
    | some x => acc.length < sizeLine ∧ compW keep step Q ws (acc ++ [x]) st'
    | none => compW keep step Q ws acc st'
def forW (keep : Sto → Prop) (step : D → En → Sto → EK → Prop) (Q : EK) : List D → EK
  | [], env, st => keep st ∧ Q env st
  | w :: ws, env, st => keep st ∧ step w env st (forW keep step Q ws)
def whileW (c : En → Sto → (Bool → Sto → Prop) → Prop) (step : En → Sto → EK → Prop) (Q : EK) : Nat → EK
  | 0, _, _ => False
  | n + 1, env, st => c env st fun b st' => if b = true then step env st' (whileW c step Q n) else Q env st'

abbrev Cal := Nat → List D → Sto → DK → Prop
section
variable (call : Cal) (cst : List D)
mutual
def wpE : E → En → Sto → DK → Prop
  | .var i, env, st, Q => ∃ w, env[i]? = some (some w) ∧ Q w st
  | .cst w, _, st, Q => immD w = true ∧ Q w st
  | .glob k, _, st, Q => ∃ w, cst[k]? = some w ∧ Q w st
  | .bin op a b, env, st, Q => wpE a env st fun x st1 => wpE b env st1 fun y st2 => binW st2 op x y Q
  | .neg a, env, st, Q => wpE a env st fun x st1 => ∃ i, x = .int i ∧ Q (.int (-i)) st1
  | .cmp op a b, env, st, Q => wpE a env st fun x st1 => wpE b env st1 fun y st2 => cmpW st2 op x y fun r => Q (.bl r) st2
  | .chain o p a b c, env, st, Q => wpE a env st fun x st1 => wpE b env st1 fun y st2 => cmpW st2 o x y fun r =>
      if r = true then wpE c env st2 fun z st3 => cmpW st3 p y z fun r => Q (.bl r) st3 else Q (.bl false) st2
  | .band a b, env, st, Q => wpE a env st fun x st1 => truW st1 x fun r => if r = true then wpE b env st1 Q else Q x st1
  | .bor a b, env, st, Q => wpE a env st fun x st1 => truW st1 x fun r => if r = true then Q x st1 else wpE b env st1 Q
  | .bnot a, env, st, Q => wpE a env st fun x st1 => truW st1 x fun r => Q (.bl (!r)) st1
  | .ife c a b, env, st, Q => wpT c env st fun r st1 => if r = true then wpE a env st1 Q else wpE b env st1 Q
  | .tup es, env, st, Q => wpEs es env st fun xs st1 => xs.length ≤ sizeLine ∧ Q (.tup xs) st1
  | .lst es, env, st, Q => wpEs es env st fun xs st1 => xs.length ≤ sizeLine ∧ Q (.loc st1.length) (st1 ++ [.lst xs])
  | .idx a b, env, st, Q => wpE a env st fun x st1 => wpE b env st1 fun y st2 => idxW st2 x y fun z => Q z st2
  | .slc a lo hi, env, st, Q => wpE a env st fun x st1 => wpEo lo env st1 fun l st2 => wpEo hi env st2 fun h st3 => slcW st3 x l h Q
  | .call f es, env, st, Q => wpEs es env st fun xs st1 => call f xs st1 Q
  | .blt f es, env, st, Q => wpEs es env st fun xs st1 => bltW st1 f xs Q
  | .isi a t, env, st, Q => wpE a env st fun x st1 => ∃ b, isiB x t = some b ∧ Q (.bl b) st1
  | .mth m o es, env, st, Q => wpE o env st fun x st1 => mthTy st1 m x ∧ wpEs es env st1 fun xs st2 => mthW st2 m x xs Q
  | .comp own elt t it c, env, st, Q => (slT t).all (own.contains ·) = true ∧ wpI it env st fun ws keep st1 => compW (keepW keep)
      (fun w st K => wpTg t w (wipeE env own) st fun env2 st2 => wpTeo c env2 st2 fun r st3 => if r = true then wpE elt env2 st3 fun x st4 => K (some x) st4 else K none st3) Q ws [] st1
def wpEo : Eo → En → Sto → (Option Int → Sto → Prop) → Prop
  | .no, _, st, Q => Q none st
  | .yes e, env, st, Q => wpE e env st fun x st1 => ∃ i, x = .int i ∧ Q (some i) st1
def wpEs : Es → En → Sto → (List D → Sto → Prop) → Prop
  | .nil, _, st, Q => Q [] st
  | .cons e es, env, st, Q => wpE e env st fun x st1 => wpEs es env st1 fun xs st2 => Q (x :: xs) st2
def wpT : Te → En → Sto → (Bool → Sto → Prop) → Prop
  | .val e, env, st, Q => wpE e env st fun x st1 => truW st1 x fun r => Q r st1
  | .tst e, env, st, Q => wpE e env st fun x st1 => ∃ b, x = .bl b ∧ Q b st1
  | .and_ a b, env, st, Q => wpT a env st fun r st1 => if r = true then wpT b env st1 Q else Q false st1
  | .or_ a b, env, st, Q => wpT a env st fun r st1 => if r = true then Q true st1 else wpT b env st1 Q
  | .not_ a, env, st, Q => wpT a env st fun r st1 => Q (!r) st1
def wpTeo : Teo → En → Sto → (Bool → Sto → Prop) → Prop
  | .no, _, st, Q => Q true st
  | .yes e, env, st, Q => wpT e env st Q
def wpTg : T → D → En → Sto → EK → Prop
  | .name i, w, env, st, Q => Q (env.set i (some w)) st
  | .tup ts, w, env, st, Q => ∃ ws, w = .tup ws ∧ ws.length = lenTs ts ∧ wpTgs ts ws env st Q
  | .sub o i, w, env, st, Q => wpE o env st fun x st1 => wpE i env st1 fun y st2 => setW st2 x y w fun st3 => Q env st3
def wpTgs : Ts → List D → En → Sto → EK → Prop
  | .nil, ws, env, st, Q => ws = [] ∧ Q env st
  | .cons t ts, ws, env, st, Q => ∃ w r, ws = w :: r ∧ wpTg t w env st fun env1 st1 => wpTgs ts r env1 st1 Q
def wpI : I → En → Sto → (List D → Option (Nat × List D) → Sto → Prop) → Prop
  | .exp e, env, st, Q => wpE e env st fun x st1 => seqW st1 x fun ws k => Q ws k st1
  | .range1 a, env, st, Q => wpE a env st fun x st1 => ∃ j : Int, x = .int j ∧ -(2 ^ 62) ≤ j ∧ j < 2 ^ 62 ∧ Q ((List.range j.toNat).map fun (k : Nat) => .int k) none st1
  | .range2 a b, env, st, Q => wpE a env st fun x st1 => wpE b env st1 fun y st2 => ∃ i j : Int, x = .int i ∧ y = .int j ∧ (-(2 ^ 62) ≤ i ∧ i < 2 ^ 62 ∧ -(2 ^ 62) ≤ j ∧ j < 2 ^ 62) ∧
      Q ((List.range (j - i).toNat).map fun (k : Nat) => .int (i + k)) none st2
end
structure K4 where
  nx : EK
  rt : DK
  bk : EK
  ct : EK
mutual
def wpS : S → En → Sto → K4 → Prop
  | .expr e, env, st, K => wpE call cst e env st fun _ st1 => K.nx env st1
  | .asg t e, env, st, K => wpE call cst e env st fun x st1 => wpTg call cst t x env st1 K.nx
  | .aug i op e, env, st, K => ∃ x, env[i]? = some (some x) ∧ wpE call cst e env st fun y st1 => augW st1 op x y fun z st2 => K.nx (env.set i (some z)) st2
  | .augs o i op e, env, st, K => wpE call cst o env st fun x st1 => wpE call cst i env st1 fun y st2 => idlW st2 x y fun v => wpE call cst e env st2 fun u st3 => augW st3 op v u fun z st4 => setW st4 x y z fun st5 => K.nx env st5
  | .ret e, env, st, K => wpE call cst e env st K.rt
  | .retn, _, st, K => K.rt .non st
  | .ite c a b, env, st, K => wpT call cst c env st fun r st1 => if r = true then wpSs a env st1 K else wpSs b env st1 K
  | .while_ c b, env, st, K => ∃ n, whileW (wpT call cst c) (fun env st N => wpSs b env st ⟨N, K.rt, K.nx, N⟩) K.nx n env st
  | .for_ t it b, env, st, K => wpI call cst it env st fun ws keep st1 => forW (keepW keep) (fun w env st N => wpTg call cst t w env st fun env2 st2 => wpSs b env2 st2 ⟨N, K.rt, K.nx, N⟩) K.nx ws env st1
  | .brk, env, st, K => K.bk env st
  | .cont, env, st, K => K.ct env st
  | .pass, env, st, K => K.nx env st
def wpSs : Ss → En → Sto → K4 → Prop
  | .nil, env, st, K => K.nx env st
  | .cons s ss, env, st, K => wpS s env st ⟨fun env1 st1 => wpSs ss env1 st1 K, K.rt, K.bk, K.ct⟩
end
end

/-- a def: its parameters' number, its slots' number, its body -/
structure Fi where
  ps : Nat
  sl : Nat
  body : Ss
/-- a call of a def of the program, n levels deep -/
def callW (fns : List Fi) (cst : List D) : Nat → Cal
  | 0, _, _, _, _ => False
  | n + 1, f, ws, st, Q => ∃ d, fns[f]? = some d ∧ ws.length = d.ps ∧
      wpSs (callW fns cst n) cst d.body (ws.map some ++ List.replicate (d.sl - ws.length) none) st ⟨fun _ st1 => Q .non st1, Q, fun _ _ => False, fun _ _ => False⟩
end Dq

set_option Elab.async false
set_option linter.all false
set_option maxRecDepth 100000
set_option maxHeartbeats 2000000
/-! Dq1: how data and stores stand in the heap; the small steps. -/
namespace Dq
open PySem PySem.Spec PyProof.Rows L2

/-- a list that never changes -/
def FrzL (K : PySem.W.Frag) (H : Hp) (a : Addr) (xs : List V) : Prop := (∃ o, H a = some (.frz o (.lst xs))) ∨ ∀ H0, SqL K H0 a xs
mutual
inductive Rep (K : PySem.W.Frag) (mg : Nat → Option Value) (μ : List Addr) (H : Hp) : V → D → Prop where
  | non : Rep K mg μ H .non .non
  | bl (b : Bool) : Rep K mg μ H (.bl b) (.bl b)
  | int (i : Int) : Rep K mg μ H (.int i) (.int i)
  | str (s : List Nat) : Rep K mg μ H (.str ⟨s.toArray⟩) (.str s)
  | tup {a : Addr} {xs : List V} {ws : List D} : SqT K H a xs → Reps K mg μ H xs ws → Rep K mg μ H (.ref a) (.tup ws)
  | flst {a : Addr} {xs : List V} {ws : List D} : FrzL K H a xs → Reps K mg μ H xs ws → Rep K mg μ H (.ref a) (.flst ws)
  | loc {a : Addr} {n : Nat} : μ[n]? = some a → Rep K mg μ H (.ref a) (.loc n)
  | fn {a : Addr} {x : Nat} : mg x = some (.ref a) → Rep K mg μ H (.ref a) (.fn x)
inductive Reps (K : PySem.W.Frag) (mg : Nat → Option Value) (μ : List Addr) (H : Hp) : List V → List D → Prop where
  | nil : Reps K mg μ H [] []
  | cons {v : V} {vs : List V} {w : D} {ws : List D} : Rep K mg μ H v w → Reps K mg μ H vs ws → Reps K mg μ H (v :: vs) (w :: ws)
end

/-- what the places of a store hold may change; nothing else does -/
def isCell : HO → Bool
  | .lst _ => true
  | .dK _ => true
  | .dT _ => true
  | .set _ _ => true
  | .ins _ _ _ => true
  | _ => false
structure Ext (μ : List Addr) (H : Hp) (μ' : List Addr) (H' : Hp) : Prop where
  pre : μ <+: μ'
  old : ∀ a o, H a = some o → a ∉ μ → H' a = some o
  new : ∀ a, a ∈ μ' → a ∉ μ → H a = none
def Mu (μ : List Addr) (H : Hp) : Prop := ∀ a, a ∈ μ → ∃ o, H a = some o ∧ isCell o = true
section
variable {K : PySem.W.Frag} {mg : Nat → Option Value} {μ μ1 μ2 : List Addr} {H H1 H2 : Hp}
theorem Ext.refl : Ext μ H μ H := ⟨List.prefix_refl _, fun _ _ h _ => h, fun _ h n => absurd h n⟩
theorem Ext.trans (e1 : Ext μ H μ1 H1) (e2 : Ext μ1 H1 μ2 H2) : Ext μ H μ2 H2 := by
  refine ⟨e1.pre.trans e2.pre, fun a o h n => ?_, fun a h n => ?_⟩
  · refine e2.old a o (e1.old a o h n) fun m => ?_
    have z := e1.new a m n
    rw [h] at z
    cases z
  · by_cases m : a ∈ μ1
    · exact e1.new a m n
    · have z := e2.new a h m
      cases q : H a with
      | none => rfl
      | some o =>
        rw [e1.old a o q n] at z
        cases z
/-- what never changes stays -/
def Imm (H H' : Hp) : Prop := ∀ a o, H a = some o → isCell o = false → H' a = some o
theorem Imm.trans (a : Imm H H1) (b : Imm H1 H2) : Imm H H2 := fun x o h c => b x o (a x o h c) c
theorem Ext.imm (e : Ext μ H μ1 H1) (m : Mu μ H) : Imm H H1 := fun a o h c => e.old a o h fun hm => by
  obtain ⟨u, e1, e2⟩ := m a hm
  rw [h] at e1
  cases e1
  rw [c] at e2
  cases e2
theorem imm_upd {p : Addr} {o : HO} (h : ∀ u, H p = some u → isCell u = true) : Imm H (upd H p o) := fun a u e c => by
  rw [upd_ne fun z => ?_]
  · exact e
  · rw [z] at e
    rw [h u e] at c
    cases c
theorem SqT.imm {a : Addr} {xs : List V} (h : SqT K H a xs) (i : Imm H H1) : SqT K H1 a xs := by
  rcases h with (h | ⟨u, h⟩) | h
  · exact .inl (.inl (i _ _ h rfl))
  · exact .inl (.inr ⟨u, i _ _ h rfl⟩)
  · exact .inr h
theorem FrzL.imm {a : Addr} {xs : List V} (h : FrzL K H a xs) (i : Imm H H1) : FrzL K H1 a xs := by
  rcases h with ⟨u, h⟩ | h
  · exact .inl ⟨u, i _ _ h rfl⟩
  · exact .inr h
theorem FrzL.sq {a : Addr} {xs : List V} (h : FrzL K H a xs) : SqL K H a xs := by
  rcases h with ⟨u, h⟩ | h
  · exact .inl (.inr ⟨u, h⟩)
  · exact h H
theorem pre_get {n : Nat} {a : Addr} (p : μ <+: μ1) (h : μ[n]? = some a) : μ1[n]? = some a := by
  obtain ⟨r, rfl⟩ := p
  rw [List.getElem?_append_left (List.getElem?_eq_some_iff.mp h).1]
  exact h
mutual
theorem Rep.imm (p : μ <+: μ1) (e : Imm H H1) : ∀ (w : D) (v : V), Rep K mg μ H v w → Rep K mg μ1 H1 v w
  | .non, _, h => by
    cases h
    exact .non
  | .bl b, _, h => by
    cases h
    exact .bl b
  | .int i, _, h => by
    cases h
    exact .int i
  | .str s, _, h => by
    cases h
    exact .str s
  | .tup ws, _, h => by
    cases h with
    | tup hs hr => exact .tup (SqT.imm hs e) (Reps.imm p e ws _ hr)
  | .flst ws, _, h => by
    cases h with
    | flst hs hr => exact .flst (FrzL.imm hs e) (Reps.imm p e ws _ hr)
  | .loc n, _, h => by
    cases h with
    | loc hn => exact .loc (pre_get p hn)
  | .fn x, _, h => by
    cases h with
    | fn hx => exact .fn hx
theorem Reps.imm (p : μ <+: μ1) (e : Imm H H1) : ∀ (ws : List D) (vs : List V), Reps K mg μ H vs ws → Reps K mg μ1 H1 vs ws
  | [], _, h => by
    cases h
    exact .nil
  | w :: ws, _, h => by
    cases h with
    | cons h1 h2 => exact .cons (Rep.imm p e w _ h1) (Reps.imm p e ws _ h2)
end
theorem Rep.go {v : V} {w : D} (h : Rep K mg μ H v w) (e : Ext μ H μ1 H1) (m : Mu μ H) : Rep K mg μ1 H1 v w := Rep.imm e.pre (e.imm m) w v h
theorem Reps.go {v : List V} {w : List D} (h : Reps K mg μ H v w) (e : Ext μ H μ1 H1) (m : Mu μ H) : Reps K mg μ1 H1 v w := Reps.imm e.pre (e.imm m) w v h
theorem Rep.off {v : V} {w : D} (h : Rep K mg μ H v w) (e : Imm H H1) : Rep K mg μ H1 v w := Rep.imm (List.prefix_refl _) e w v h
theorem Reps.off {v : List V} {w : List D} (h : Reps K mg μ H v w) (e : Imm H H1) : Reps K mg μ H1 v w := Reps.imm (List.prefix_refl _) e w v h
theorem Reps.length : ∀ {vs : List V} {ws : List D}, Reps K mg μ H vs ws → vs.length = ws.length
  | _, _, .nil => rfl
  | _, _, .cons _ r => congrArg Nat.succ (Reps.length r)
theorem Reps.append : ∀ {vs us : List V} {ws xs : List D}, Reps K mg μ H vs ws → Reps K mg μ H us xs → Reps K mg μ H (vs ++ us) (ws ++ xs)
  | _, _, _, _, .nil, s => s
  | _, _, _, _, .cons r t, s => .cons r (Reps.append t s)
theorem Reps.drop : ∀ {vs : List V} {ws : List D} (n : Nat), Reps K mg μ H vs ws → Reps K mg μ H (vs.drop n) (ws.drop n)
  | _, _, 0, r => r
  | _, _, _ + 1, .nil => .nil
  | _, _, n + 1, .cons _ t => Reps.drop n t
theorem Reps.take : ∀ {vs : List V} {ws : List D} (n : Nat), Reps K mg μ H vs ws → Reps K mg μ H (vs.take n) (ws.take n)
  | _, _, 0, _ => .nil
  | _, _, _ + 1, .nil => .nil
  | _, _, n + 1, .cons r t => .cons r (Reps.take n t)
theorem Reps.set {v : V} {w : D} (r : Rep K mg μ H v w) : ∀ {vs : List V} {ws : List D} (n : Nat), Reps K mg μ H vs ws → Reps K mg μ H (vs.set n v) (ws.set n w)
  | _, _, _, .nil => .nil
  | _, _, 0, .cons _ t => .cons r t
  | _, _, n + 1, .cons q t => .cons q (Reps.set r n t)
theorem Reps.dropLast {vs : List V} {ws : List D} (r : Reps K mg μ H vs ws) : Reps K mg μ H vs.dropLast ws.dropLast := by
  rw [List.dropLast_eq_take, List.dropLast_eq_take, r.length]
  exact r.take _
theorem Reps.get : ∀ {vs : List V} {ws : List D} {n : Nat} {w : D}, Reps K mg μ H vs ws → ws[n]? = some w → ∃ v, vs[n]? = some v ∧ Rep K mg μ H v w
  | _, _, n, _, .nil, h => by simp at h
  | _, _, 0, _, .cons r _, h => by
    cases h
    exact ⟨_, rfl, r⟩
  | _, _, n + 1, w, .cons _ t, h => Reps.get (n := n) (w := w) t h
theorem Reps.getV : ∀ {vs : List V} {ws : List D} {n : Nat} {v : V}, Reps K mg μ H vs ws → vs[n]? = some v → ∃ w, ws[n]? = some w ∧ Rep K mg μ H v w
  | _, _, n, _, .nil, h => by simp at h
  | _, _, 0, _, .cons r _, h => by
    cases h
    exact ⟨_, rfl, r⟩
  | _, _, n + 1, w, .cons _ t, h => Reps.getV (n := n) (v := w) t h
theorem Reps.atI {vs : List V} {ws : List D} {i : Int} {w : D} (r : Reps K mg μ H vs ws) (h : L2.atI ws i = some w) : ∃ v, L2.atI vs i = some v ∧ Rep K mg μ H v w := by
  unfold L2.atI at h ⊢
  rw [r.length]
  cases q : ixN ws.length i with
  | none =>
    rw [q] at h
    cases h
  | some j =>
    rw [q] at h
    exact r.get h
theorem Reps.empty {vs : List V} {ws : List D} (r : Reps K mg μ H vs ws) : vs.isEmpty = ws.isEmpty := by
  cases r <;> rfl
theorem Reps.strs : ∀ {ss : List (List Nat)} {vs : List V}, Reps K mg μ H vs (ss.map .str) → vs = (ss.map fun s => (⟨s.toArray⟩ : Str)).map V.str
  | [], _, .nil => rfl
  | s :: ss, _, .cons (.str _) t => by
    rw [Reps.strs t]
    all_goals rfl
theorem Reps.bls : ∀ {bs : List Bool} {vs : List V}, Reps K mg μ H vs (bs.map .bl) → vs = bs.map V.bl
  | [], _, .nil => rfl
  | s :: ss, _, .cons (.bl _) t => by
    rw [Reps.bls t]
    all_goals rfl
theorem reps_strs : ∀ (ss : List (List Nat)), Reps K mg μ H ((ss.map fun s => (⟨s.toArray⟩ : Str)).map V.str) (ss.map .str)
  | [] => .nil
  | s :: ss => .cons (.str s) (reps_strs ss)
end

def CellOk (K : PySem.W.Frag) (mg : Nat → Option Value) (μ : List Addr) (H : Hp) (a : Addr) : Cell → Prop
  | .lst ws => ∃ xs, H a = some (.lst xs) ∧ Reps K mg μ H xs ws
structure Abs (K : PySem.W.Frag) (mg : Nat → Option Value) (μ : List Addr) (H : Hp) (st : Sto) : Prop where
  len : μ.length = st.length
  nd : μ.Nodup
  cell : ∀ (n : Nat) (a : Addr) (c : Cell), μ[n]? = some a → st[n]? = some c → CellOk K mg μ H a c
structure EnvOk (K : PySem.W.Frag) (mg : Nat → Option Value) (μ : List Addr) (H : Hp) (σ : L2.St) (env : En) : Prop where
  len : σ.length = env.length
  at_ : ∀ (i : Nat) (w : D), env[i]? = some (some w) → ∃ v, σ[i]? = some (some v) ∧ Rep K mg μ H v w
section
variable {K : PySem.W.Frag} {mg : Nat → Option Value} {μ μ1 μ2 : List Addr} {H H1 H2 : Hp} {st st1 : Sto} {σ : L2.St} {env : En}
theorem Abs.get {n : Nat} {a : Addr} {ws : List D} (A : Abs K mg μ H st) (h : μ[n]? = some a) (hs : st[n]? = some (.lst ws)) : ∃ xs, H a = some (.lst xs) ∧ Reps K mg μ H xs ws := A.cell n a _ h hs
theorem Abs.mu (A : Abs K mg μ H st) : Mu μ H := fun a h => by
  obtain ⟨n, hn, e⟩ := List.mem_iff_getElem.mp h
  have hs : n < st.length := by
    rw [← A.len]
    exact hn
  have z := A.cell n a st[n] (by rw [List.getElem?_eq_getElem hn, e]) (List.getElem?_eq_getElem hs)
  cases q : st[n] with
  | lst ws =>
    rw [q] at z
    obtain ⟨xs, h1, _⟩ := z
    exact ⟨_, h1, rfl⟩
theorem EnvOk.go (N : EnvOk K mg μ H σ env) (e : Ext μ H μ1 H1) (m : Mu μ H) : EnvOk K mg μ1 H1 σ env :=
  ⟨N.len, fun i w h => let ⟨v, h1, h2⟩ := N.at_ i w h; ⟨v, h1, h2.go e m⟩⟩
theorem EnvOk.set {i : Nat} {v : V} {w : D} (N : EnvOk K mg μ H σ env) (r : Rep K mg μ H v w) : EnvOk K mg μ H (σ.set i (some v)) (env.set i (some w)) := by
  refine ⟨by simp [N.len], fun j u h => ?_⟩
  by_cases e : i = j
  · subst e
    by_cases hl : i < env.length
    · rw [List.getElem?_set_self hl] at h
      cases h
      exact ⟨v, by rw [List.getElem?_set_self (by rw [N.len]; exact hl)], r⟩
    · rw [List.getElem?_eq_none (by simpa using hl)] at h
      cases h
  · rw [List.getElem?_set_ne e] at h ⊢
    exact N.at_ j u h
theorem EnvOk.unset {i : Nat} (N : EnvOk K mg μ H σ env) : EnvOk K mg μ H (σ.set i none) (env.set i none) := by
  refine ⟨by simp [N.len], fun j u h => ?_⟩
  by_cases e : i = j
  · subst e
    by_cases hl : i < env.length
    · rw [List.getElem?_set_self hl] at h
      cases h
    · rw [List.getElem?_eq_none (by simpa using hl)] at h
      cases h
  · rw [List.getElem?_set_ne e] at h ⊢
    exact N.at_ j u h
theorem EnvOk.wipe (N : EnvOk K mg μ H σ env) : ∀ vs : List Nat, EnvOk K mg μ H (L2.wipe σ vs) (wipeE env vs)
  | [] => N
  | v :: vs => (EnvOk.wipe N vs).unset
/-- a new tuple -/
theorem ext_new {p : Addr} {o : HO} (h : H p = none) : Ext μ H μ (upd H p o) :=
  ⟨List.prefix_refl _, fun a u e _ => by rw [upd_ne (ne_of_none e h)]; exact e, fun _ h n => absurd h n⟩
theorem Abs.go (A : Abs K mg μ H st) {p : Addr} {o : HO} (h : H p = none) : Abs K mg μ (upd H p o) st := by
  refine ⟨A.len, A.nd, fun n a c h1 h2 => ?_⟩
  have z := A.cell n a c h1 h2
  cases c with
  | lst ws =>
    obtain ⟨xs, e1, e2⟩ := z
    exact ⟨xs, by rw [upd_ne (ne_of_none e1 h)]; exact e1, e2.go (ext_new h) A.mu⟩
/-- a list that is no place of the store is written -/
theorem Abs.off (A : Abs K mg μ H st) {p : Addr} {o : HO} (hp : p ∉ μ) (h : ∀ u, H p = some u → isCell u = true) : Abs K mg μ (upd H p o) st := by
  refine ⟨A.len, A.nd, fun n a c h1 h2 => ?_⟩
  have z := A.cell n a c h1 h2
  have hne : a ≠ p := fun e => hp (e ▸ List.mem_of_getElem? h1)
  cases c with
  | lst ws =>
    obtain ⟨xs, e1, e2⟩ := z
    exact ⟨xs, by rw [upd_ne hne]; exact e1, e2.off (imm_upd h)⟩
/-- a new list -/
theorem ext_loc {p : Addr} {o : HO} (h : H p = none) : Ext μ H (μ ++ [p]) (upd H p o) :=
  ⟨List.prefix_append _ _, fun a u e _ => by rw [upd_ne (ne_of_none e h)]; exact e, fun a m n => by
    rcases List.mem_append.mp m with m | m
    · exact absurd m n
    · rw [List.mem_singleton.mp m]
      exact h⟩
theorem Abs.add (A : Abs K mg μ H st) {p : Addr} {xs : List V} {ws : List D} (h : H p = none) (r : Reps K mg μ H xs ws) : Abs K mg (μ ++ [p]) (upd H p (.lst xs)) (st ++ [.lst ws]) := by
  have m := A.mu
  have hp : p ∉ μ := fun hm => by
    obtain ⟨o, e, _⟩ := m p hm
    rw [h] at e
    cases e
  refine ⟨by simp [A.len], ?_, fun n a c h1 h2 => ?_⟩
  · rw [List.nodup_append]
    refine ⟨A.nd, by simp, fun a ha b hb => ?_⟩
    rw [List.mem_singleton.mp hb]
    exact fun e => hp (e ▸ ha)
  · by_cases hn : n < μ.length
    · rw [List.getElem?_append_left hn] at h1
      rw [List.getElem?_append_left (by rw [← A.len]; exact hn)] at h2
      have z := A.cell n a c h1 h2
      cases c with
      | lst us =>
        obtain ⟨ys, e1, e2⟩ := z
        exact ⟨ys, by rw [upd_ne (ne_of_none e1 h)]; exact e1, e2.go (ext_loc h) m⟩
    · have e : n = μ.length := by
        have := (List.getElem?_eq_some_iff.mp h1).1
        rw [List.length_append, List.length_singleton] at this
        omega
      subst e
      rw [List.getElem?_append_right (Nat.le_refl _), Nat.sub_self] at h1
      cases h1
      rw [A.len, List.getElem?_append_right (Nat.le_refl _), Nat.sub_self] at h2
      cases h2
      exact ⟨xs, upd_same, r.go (ext_loc h) m⟩
theorem loc_new (A : Abs K mg μ H st) {p : Addr} {H' : Hp} : Rep K mg (μ ++ [p]) H' (.ref p) (.loc st.length) :=
  .loc (by rw [← A.len, List.getElem?_append_right (Nat.le_refl _), Nat.sub_self] <;> rfl)
/-- a list is written -/
theorem ext_set {a : Addr} {o : HO} (h : a ∈ μ) : Ext μ H μ (upd H a o) :=
  ⟨List.prefix_refl _, fun b u e n => by rw [upd_ne (show b ≠ a from fun z => n (by rw [z]; exact h))]; exact e, fun _ h n => absurd h n⟩
theorem Abs.set (A : Abs K mg μ H st) {n : Nat} {a : Addr} {xs : List V} {ws : List D} (h : μ[n]? = some a) (r : Reps K mg μ H xs ws) : Abs K mg μ (upd H a (.lst xs)) (st.set n (.lst ws)) := by
  have m := A.mu
  have ha : a ∈ μ := List.mem_of_getElem? h
  refine ⟨by simp [A.len], A.nd, fun k b c h1 h2 => ?_⟩
  by_cases e : n = k
  · subst e
    have eb : b = a := Option.some.inj (h1.symm.trans h)
    subst eb
    have hl : n < st.length := by
      rw [← A.len]
      exact (List.getElem?_eq_some_iff.mp h).1
    rw [List.getElem?_set_self hl] at h2
    cases h2
    exact ⟨xs, upd_same, r.go (ext_set ha) m⟩
  · rw [List.getElem?_set_ne e] at h2
    have hne : b ≠ a := fun z => e (nd_get A.nd h (z ▸ h1))
    have z := A.cell k b c h1 h2
    cases c with
    | lst us =>
      obtain ⟨ys, e1, e2⟩ := z
      exact ⟨ys, by rw [upd_ne hne]; exact e1, e2.go (ext_set ha) m⟩
where
  nd_get {l : List Addr} (hN : l.Nodup) {i j : Nat} {x : Addr} (a : l[i]? = some x) (b : l[j]? = some x) : i = j := by
    obtain ⟨h1, e1⟩ := List.getElem?_eq_some_iff.mp a
    obtain ⟨h2, e2⟩ := List.getElem?_eq_some_iff.mp b
    exact (List.getElem_inj hN).mp (e1.trans e2.symm)
end
end Dq

set_option Elab.async false
set_option linter.all false
set_option maxRecDepth 100000
set_option maxHeartbeats 2000000
/-! Dq2: readings of expressions and what a run of the language wants. -/
namespace Dq
open PySem PySem.Spec PyProof.Rows L2

abbrev WE := En → Sto → DK → Prop
abbrev WT := En → Sto → (Bool → Sto → Prop) → Prop
abbrev WA := En → Sto → (List D → Sto → Prop) → Prop
abbrev WO := En → Sto → (Option Int → Sto → Prop) → Prop
section
variable (K : PySem.W.Frag) (mg : Nat → Option Value)
def OkE (t : TE) (f : WE) : Prop := ∀ μ H st σ env (P : DK) (Q : VK), Abs K mg μ H st → EnvOk K mg μ H σ env → f env st P →
  (∀ v w st' μ' H', P w st' → Abs K mg μ' H' st' → Ext μ H μ' H' → Rep K mg μ' H' v w → Q v H') → t σ H Q
def OkT (t : TT) (f : WT) : Prop := ∀ μ H st σ env (P : Bool → Sto → Prop) (Q : Bool → Hp → Prop), Abs K mg μ H st → EnvOk K mg μ H σ env → f env st P →
  (∀ b st' μ' H', P b st' → Abs K mg μ' H' st' → Ext μ H μ' H' → Q b H') → t σ H Q
def OkA (t : TA) (f : WA) : Prop := ∀ μ H st σ env (P : List D → Sto → Prop) (Q : List V → Hp → Prop), Abs K mg μ H st → EnvOk K mg μ H σ env → f env st P →
  (∀ vs ws st' μ' H', P ws st' → Abs K mg μ' H' st' → Ext μ H μ' H' → Reps K mg μ' H' vs ws → Q vs H') → t σ H Q
def OkO (t : TO) (f : WO) : Prop := ∀ μ H st σ env (P : Option Int → Sto → Prop) (Q : Option Int → Hp → Prop), Abs K mg μ H st → EnvOk K mg μ H σ env → f env st P →
  (∀ i st' μ' H', P i st' → Abs K mg μ' H' st' → Ext μ H μ' H' → Q i H') → t σ H Q
/-- a two-place step by values; a call of a builtin by values; a method by values -/
def Ok2 (r : R2) (f : Sto → D → D → DK → Prop) : Prop := ∀ μ H st vx vy x y (P : DK) (Q : VK), Abs K mg μ H st → Rep K mg μ H vx x → Rep K mg μ H vy y → f st x y P →
  (∀ v w st' μ' H', P w st' → Abs K mg μ' H' st' → Ext μ H μ' H' → Rep K mg μ' H' v w → Q v H') → r vx vy H Q
def OkC (r : List V → Hp → VK → Prop) (f : Sto → List D → DK → Prop) : Prop := ∀ μ H st vs ws (P : DK) (Q : VK), Abs K mg μ H st → Reps K mg μ H vs ws → f st ws P →
  (∀ v w st' μ' H', P w st' → Abs K mg μ' H' st' → Ext μ H μ' H' → Rep K mg μ' H' v w → Q v H') → r vs H Q
end
section
variable {K : PySem.W.Frag} {mg : Nat → Option Value} {ta tb tc : TE} {fa fb fc : WE} {r r' : R2} {f g : Sto → D → D → DK → Prop} {tt tu : TT} {ft fu : WT} {tA : TA} {fA : WA}

/-! ### compositions -/
theorem okE_var (i : Nat) : OkE K mg (tVar i) fun env st Q => ∃ w, env[i]? = some (some w) ∧ Q w st := fun μ H st σ env P Q A N h k => by
  obtain ⟨w, e, p⟩ := h
  obtain ⟨v, e1, rp⟩ := N.at_ i w e
  exact ⟨v, e1, k v w st μ H p A .refl rp⟩
theorem okE_c {v : V} {w : D} (h : ∀ μ H, Rep K mg μ H v w) : OkE K mg (tC v) fun _ st Q => Q w st := fun μ H st σ env P Q A N p k => k v w st μ H p A .refl (h μ H)
theorem okE_op (ha : OkE K mg ta fa) (hb : OkE K mg tb fb) (hr : Ok2 K mg r f) : OkE K mg (tOp r ta tb) fun env st Q => fa env st fun x st1 => fb env st1 fun y st2 => f st2 x y Q := fun μ H st σ env P Q A N h k => by
  refine ha μ H st σ env _ _ A N h fun vx x st1 μ1 H1 h1 A1 e1 r1 => ?_
  refine hb μ1 H1 st1 σ env _ _ A1 (N.go e1 A.mu) h1 fun vy y st2 μ2 H2 h2 A2 e2 r2 => ?_
  exact hr μ2 H2 st2 vx vy x y P Q A2 (r1.go e2 A1.mu) r2 h2 fun v w st3 μ3 H3 p A3 e3 r3 => k v w st3 μ3 H3 p A3 ((e1.trans e2).trans e3) r3
theorem okA_nil : OkA K mg tNil fun _ st Q => Q [] st := fun μ H st σ env P Q A N h k => k [] [] st μ H h A .refl .nil
theorem okA_cons (ha : OkE K mg ta fa) (hb : OkA K mg tA fA) : OkA K mg (tCons ta tA) fun env st Q => fa env st fun x st1 => fA env st1 fun xs st2 => Q (x :: xs) st2 := fun μ H st σ env P Q A N h k => by
  refine ha μ H st σ env _ _ A N h fun vx x st1 μ1 H1 h1 A1 e1 r1 => ?_
  refine hb μ1 H1 st1 σ env _ _ A1 (N.go e1 A.mu) h1 fun vs xs st2 μ2 H2 h2 A2 e2 r2 => ?_
  exact k (vx :: vs) (x :: xs) st2 μ2 H2 h2 A2 (e1.trans e2) (.cons (r1.go e2 A1.mu) r2)
theorem okE_tup (h : OkA K mg tA fA) : OkE K mg (tTup tA) fun env st Q => fA env st fun xs st1 => xs.length ≤ sizeLine ∧ Q (.tup xs) st1 := fun μ H st σ env P Q A N p k => by
  refine h μ H st σ env _ _ A N p fun vs xs st1 μ1 H1 h1 A1 e1 r1 => ⟨by rw [r1.length]; exact h1.1, fun q hq => ?_⟩
  have e2 : Ext μ1 H1 μ1 (upd H1 q (.tup vs)) := ext_new hq
  exact k _ _ st1 μ1 _ h1.2 (A1.go hq) (e1.trans e2) (.tup (SqT.of upd_same) (r1.go e2 A1.mu))
theorem okE_lst (h : OkA K mg tA fA) : OkE K mg (tLst tA) fun env st Q => fA env st fun xs st1 => xs.length ≤ sizeLine ∧ Q (.loc st1.length) (st1 ++ [.lst xs]) := fun μ H st σ env P Q A N p k => by
  refine h μ H st σ env _ _ A N p fun vs xs st1 μ1 H1 h1 A1 e1 r1 => ⟨by rw [r1.length]; exact h1.1, fun q hq => ?_⟩
  exact k _ _ _ _ _ h1.2 (A1.add hq r1) (e1.trans (ext_loc hq)) (loc_new A1)
theorem okE_call {C : List V → Hp → VK → Prop} {c : Sto → List D → DK → Prop} (h : OkA K mg tA fA) (hc : OkC K mg C c) : OkE K mg (tCB C tA) fun env st Q => fA env st fun xs st1 => c st1 xs Q := fun μ H st σ env P Q A N p k => by
  refine h μ H st σ env _ _ A N p fun vs xs st1 μ1 H1 h1 A1 e1 r1 => ?_
  exact hc μ1 H1 st1 vs xs P Q A1 r1 h1 fun v w st2 μ2 H2 p2 A2 e2 r2 => k v w st2 μ2 H2 p2 A2 (e1.trans e2) r2

/-! ### truth -/
theorem truV_ok {μ : List Addr} {H : Hp} {st : Sto} {v : V} {w : D} {Q : Bool → Prop} (A : Abs K mg μ H st) (rp : Rep K mg μ H v w) (h : truW st w Q) : ∃ b, TruV K v H b ∧ Q b := by
  cases rp with
  | non => exact ⟨false, rfl, h⟩
  | bl b => exact ⟨b, rfl, h⟩
  | int i => exact ⟨i != 0, rfl, h⟩
  | str s =>
    refine ⟨!s.isEmpty, ⟨by show s.toArray.size ≤ _; rw [List.size_toArray]; exact h.1, ?_⟩, h.2⟩
    show (!s.isEmpty) = (((s.toArray.size : Nat) : Int) != 0)
    rw [List.size_toArray]
    cases s with
    | nil => rfl
    | cons c s =>
      show true = (((s.length + 1 : Nat) : Int) != 0)
      exact (bne_iff_ne.mpr (by omega)).symm
  | tup hs hr =>
    refine ⟨_, .inr (.inl ⟨_, hs, rfl⟩), ?_⟩
    rw [hr.empty]
    exact h
  | flst hs hr =>
    refine ⟨_, .inl ⟨_, hs.sq, rfl⟩, ?_⟩
    rw [hr.empty]
    exact h
  | loc hn =>
    obtain ⟨ws, e, q⟩ := h
    obtain ⟨xs, e1, r1⟩ := A.get hn e
    refine ⟨_, .inl ⟨_, SqL.of e1, rfl⟩, ?_⟩
    rw [r1.empty]
    exact q
  | fn _ => exact False.elim h
theorem okT_tru (ha : OkE K mg ta fa) : OkT K mg (fun σ H Q => ta σ H fun x H' => ∃ k, TruV K x H' k ∧ Q k H') fun env st Q => fa env st fun x st1 => truW st1 x fun r => Q r st1 := fun μ H st σ env P Q A N h k => by
  refine ha μ H st σ env _ _ A N h fun vx x st1 μ1 H1 h1 A1 e1 r1 => ?_
  obtain ⟨b, hb, p⟩ := truV_ok A1 r1 h1
  exact ⟨b, hb, k b st1 μ1 H1 p A1 e1⟩
/-- a value that is a truth -/
theorem okT_test (ha : OkE K mg ta fa) : OkT K mg (tTest ta) fun env st Q => fa env st fun x st1 => ∃ b, x = .bl b ∧ Q b st1 := fun μ H st σ env P Q A N h k => by
  refine ha μ H st σ env _ _ A N h fun vx x st1 μ1 H1 h1 A1 e1 r1 => ?_
  obtain ⟨b, rfl, p⟩ := h1
  cases r1
  exact ⟨b, rfl, k b st1 μ1 H1 p A1 e1⟩
theorem okT_and (h1 : OkT K mg tt ft) (h2 : OkT K mg tu fu) : OkT K mg (tAnd tt tu) fun env st Q => ft env st fun r st1 => if r = true then fu env st1 Q else Q false st1 := fun μ H st σ env P Q A N h k => by
  refine h1 μ H st σ env _ _ A N h fun b st1 μ1 H1 p1 A1 e1 => ?_
  cases b with
  | true => exact h2 μ1 H1 st1 σ env P Q A1 (N.go e1 A.mu) p1 fun b st2 μ2 H2 p2 A2 e2 => k b st2 μ2 H2 p2 A2 (e1.trans e2)
  | false => exact k false st1 μ1 H1 p1 A1 e1
theorem okT_or (h1 : OkT K mg tt ft) (h2 : OkT K mg tu fu) : OkT K mg (tOr tt tu) fun env st Q => ft env st fun r st1 => if r = true then Q true st1 else fu env st1 Q := fun μ H st σ env P Q A N h k => by
  refine h1 μ H st σ env _ _ A N h fun b st1 μ1 H1 p1 A1 e1 => ?_
  cases b with
  | true => exact k true st1 μ1 H1 p1 A1 e1
  | false => exact h2 μ1 H1 st1 σ env P Q A1 (N.go e1 A.mu) p1 fun b st2 μ2 H2 p2 A2 e2 => k b st2 μ2 H2 p2 A2 (e1.trans e2)
theorem okT_not (h1 : OkT K mg tt ft) : OkT K mg (tNot tt) fun env st Q => ft env st fun r st1 => Q (!r) st1 := fun μ H st σ env P Q A N h k =>
  h1 μ H st σ env _ _ A N h fun b st1 μ1 H1 p1 A1 e1 => k (!b) st1 μ1 H1 p1 A1 e1
theorem okE_if (h : OkT K mg tt ft) (ha : OkE K mg ta fa) (hb : OkE K mg tb fb) : OkE K mg (tIf tt ta tb) fun env st Q => ft env st fun r st1 => if r = true then fa env st1 Q else fb env st1 Q := fun μ H st σ env P Q A N p k => by
  refine h μ H st σ env _ _ A N p fun b st1 μ1 H1 p1 A1 e1 => ?_
  cases b with
  | true => exact ha μ1 H1 st1 σ env P Q A1 (N.go e1 A.mu) p1 fun v w st2 μ2 H2 p2 A2 e2 r2 => k v w st2 μ2 H2 p2 A2 (e1.trans e2) r2
  | false => exact hb μ1 H1 st1 σ env P Q A1 (N.go e1 A.mu) p1 fun v w st2 μ2 H2 p2 A2 e2 r2 => k v w st2 μ2 H2 p2 A2 (e1.trans e2) r2
theorem okE_and (ha : OkE K mg ta fa) (hb : OkE K mg tb fb) : OkE K mg (tAndT K ta tb) fun env st Q => fa env st fun x st1 => truW st1 x fun r => if r = true then fb env st1 Q else Q x st1 := fun μ H st σ env P Q A N h k => by
  refine ha μ H st σ env _ _ A N h fun vx x st1 μ1 H1 h1 A1 e1 r1 => ?_
  obtain ⟨b, hb2, p⟩ := truV_ok A1 r1 h1
  refine ⟨b, hb2, ?_⟩
  cases b with
  | true => exact hb μ1 H1 st1 σ env P Q A1 (N.go e1 A.mu) p fun v w st2 μ2 H2 p2 A2 e2 r2 => k v w st2 μ2 H2 p2 A2 (e1.trans e2) r2
  | false => exact k vx x st1 μ1 H1 p A1 e1 r1
theorem okE_or (ha : OkE K mg ta fa) (hb : OkE K mg tb fb) : OkE K mg (tOrT K ta tb) fun env st Q => fa env st fun x st1 => truW st1 x fun r => if r = true then Q x st1 else fb env st1 Q := fun μ H st σ env P Q A N h k => by
  refine ha μ H st σ env _ _ A N h fun vx x st1 μ1 H1 h1 A1 e1 r1 => ?_
  obtain ⟨b, hb2, p⟩ := truV_ok A1 r1 h1
  refine ⟨b, hb2, ?_⟩
  cases b with
  | true => exact k vx x st1 μ1 H1 p A1 e1 r1
  | false => exact hb μ1 H1 st1 σ env P Q A1 (N.go e1 A.mu) p fun v w st2 μ2 H2 p2 A2 e2 r2 => k v w st2 μ2 H2 p2 A2 (e1.trans e2) r2
theorem okE_not (ha : OkE K mg ta fa) : OkE K mg (tNotT K ta) fun env st Q => fa env st fun x st1 => truW st1 x fun r => Q (.bl (!r)) st1 := fun μ H st σ env P Q A N h k => by
  refine ha μ H st σ env _ _ A N h fun vx x st1 μ1 H1 h1 A1 e1 r1 => ?_
  obtain ⟨b, hb2, p⟩ := truV_ok A1 r1 h1
  exact ⟨b, hb2, k _ _ st1 μ1 H1 p A1 e1 (.bl _)⟩
theorem okE_neg (ha : OkE K mg ta fa) : OkE K mg (tUn (rU fun i => .int (-i)) ta) fun env st Q => fa env st fun x st1 => ∃ i, x = .int i ∧ Q (.int (-i)) st1 := fun μ H st σ env P Q A N h k => by
  refine ha μ H st σ env _ _ A N h fun vx x st1 μ1 H1 h1 A1 e1 r1 => ?_
  obtain ⟨i, rfl, p⟩ := h1
  cases r1
  exact ⟨i, rfl, k _ _ st1 μ1 H1 p A1 e1 (.int _)⟩
theorem okO_no : OkO K mg tNoPart fun _ st Q => Q none st := fun μ H st σ env P Q A N h k => k none st μ H h A .refl
theorem okO_yes (ha : OkE K mg ta fa) : OkO K mg (tPart ta) fun env st Q => fa env st fun x st1 => ∃ i, x = .int i ∧ Q (some i) st1 := fun μ H st σ env P Q A N h k => by
  refine ha μ H st σ env _ _ A N h fun vx x st1 μ1 H1 h1 A1 e1 r1 => ?_
  obtain ⟨i, rfl, p⟩ := h1
  cases r1
  exact ⟨i, rfl, k _ st1 μ1 H1 p A1 e1⟩
end
end Dq

set_option Elab.async false
set_option linter.all false
set_option maxRecDepth 100000
set_option maxHeartbeats 2000000
/-! Dq3: the small steps by values: operators, comparisons, subscripts, calls of builtins, methods. -/
namespace Dq
open PySem PySem.Spec PyProof.Rows L2

section
variable {K : PySem.W.Frag} {mg : Nat → Option Value} {μ : List Addr} {H : Hp} {st : Sto}

/-! ### operators -/
theorem never2 {f : Sto → D → D → DK → Prop} (h : ∀ st x y P, ¬ f st x y P) : Ok2 K mg (fun _ _ _ _ => False) f := fun μ H st vx vy x y P Q A rx ry p k => h st x y P p
theorem opNever {X : Cx} {o : Value → Value → Sem Value} : OpR X o fun _ _ _ _ => False := fun _ _ _ _ _ _ _ _ _ _ _ _ h => h.elim
theorem sv_append (a b : List Nat) : ((⟨a.toArray⟩ : Str) ++ (⟨b.toArray⟩ : Str)) = ⟨(a ++ b).toArray⟩ := by
  apply TL.ext_tl
  rw [TL.tl_append]
theorem sv_length (a : List Nat) : (⟨a.toArray⟩ : Str).length = a.length := by
  show a.toArray.size = _
  rw [List.size_toArray]
theorem add_ok : Ok2 K mg (fun x y H Q => rI0 (fun i j => .int (i + j)) x y H Q ∨ (∃ i j, x = .str i ∧ y = .str j ∧ i.length + j.length ≤ sizeLine ∧ Q (.str (i ++ j)) H) ∨ rCat x y H Q) fun st x y Q => binW st .Add x y Q := by
  intro μ H st vx vy x y P Q A rx ry h k
  cases rx with
  | int i =>
    cases ry with
    | int j => exact .inl ⟨i, j, rfl, rfl, k _ _ st μ H h A .refl (.int _)⟩
    | _ => exact False.elim h
  | str a =>
    cases ry with
    | str b =>
      refine .inr (.inl ⟨_, _, rfl, rfl, ?_, ?_⟩)
      · rw [sv_length, sv_length]
        exact h.1
      · rw [sv_append]
        exact k _ _ st μ H h.2 A .refl (.str _)
    | _ => exact False.elim h
  | @loc a n ha =>
    cases ry with
    | @loc b m hb =>
      obtain ⟨xs, ys, e1, e2, hz, p⟩ := h
      obtain ⟨us, h1, r1⟩ := A.get ha e1
      obtain ⟨ws, h2, r2⟩ := A.get hb e2
      refine .inr (.inr ⟨a, b, us, ws, rfl, rfl, h1, h2, by rw [r1.length, r2.length]; exact hz, fun q hq => ?_⟩)
      exact k _ _ _ _ _ p (A.add hq (r1.append r2)) (ext_loc hq) (loc_new A)
    | _ => exact False.elim h
  | _ => cases ry <;> exact False.elim h
theorem intop_ok {C : Int → Int → Prop} {g : Int → Int → Int} {f : Sto → D → D → DK → Prop} (h1 : ∀ st i j P, f st (.int i) (.int j) P → C i j ∧ P (.int (g i j)) st) (h2 : ∀ st x y P, f st x y P → (∃ i, x = .int i) ∧ ∃ j, y = .int j) :
    Ok2 K mg (rI C fun i j => .int (g i j)) f := by
  intro μ H st vx vy x y P Q A rx ry h k
  obtain ⟨⟨i, rfl⟩, j, rfl⟩ := h2 st x y P h
  obtain ⟨c, p⟩ := h1 st i j P h
  cases rx
  cases ry
  exact ⟨i, j, rfl, rfl, c, k _ _ st μ H p A .refl (.int _)⟩
theorem intop0_ok {g : Int → Int → Int} {f : Sto → D → D → DK → Prop} (h1 : ∀ st i j P, f st (.int i) (.int j) P → P (.int (g i j)) st) (h2 : ∀ st x y P, f st x y P → (∃ i, x = .int i) ∧ ∃ j, y = .int j) :
    Ok2 K mg (rI0 fun i j => .int (g i j)) f := by
  intro μ H st vx vy x y P Q A rx ry h k
  obtain ⟨⟨i, rfl⟩, j, rfl⟩ := h2 st x y P h
  have p := h1 st i j P h
  cases rx
  cases ry
  exact ⟨i, j, rfl, rfl, k _ _ st μ H p A .refl (.int _)⟩
theorem ints_of {o : Operator} {st : Sto} {x y : D} {P : DK} (ho : o ≠ .Add) (h : binW st o x y P) : (∃ i, x = .int i) ∧ ∃ j, y = .int j := by
  cases o <;> first | exact absurd rfl ho | (cases x <;> cases y <;> first | exact ⟨⟨_, rfl⟩, ⟨_, rfl⟩⟩ | exact False.elim h)
def rBin : Operator → R2
  | .Add => fun x y H Q => rI0 (fun i j => .int (i + j)) x y H Q ∨ (∃ i j, x = .str i ∧ y = .str j ∧ i.length + j.length ≤ sizeLine ∧ Q (.str (i ++ j)) H) ∨ rCat x y H Q
  | .Sub => rI0 fun i j => .int (i - j)
  | .Mult => rI CMul fun i j => .int (i * j)
  | .Mod => rI (fun _ j => 0 < j) fun i j => .int (i % j)
  | .Pow => rI CPow fun i j => .int (i ^ j.toNat)
  | .LShift => rI CPow fun i j => .int (i * 2 ^ j.toNat)
  | .FloorDiv => rI CDiv fun i j => .int (i / j)
  | _ => fun _ _ _ _ => False
theorem rBin_op (X : Cx) (o : Operator) : OpR X (binaryOp o) (rBin o) := by
  cases o with
  | Add => exact op_add.or (op_add_str.or op_cat)
  | Sub => exact op_sub
  | Mult => exact op_mul
  | Mod => exact op_mod
  | Pow => exact op_pow
  | LShift => exact op_shl
  | FloorDiv => exact op_fdiv
  | _ => exact opNever
theorem rBin_ok (o : Operator) : Ok2 K mg (rBin o) fun st x y Q => binW st o x y Q := by
  cases o with
  | Add => exact add_ok
  | Sub => exact intop0_ok (fun _ _ _ _ h => h) fun _ _ _ _ h => ints_of (by decide) h
  | Mult => exact intop_ok (fun _ _ _ _ h => h) fun _ _ _ _ h => ints_of (by decide) h
  | Mod => exact intop_ok (C := fun _ j => 0 < j) (fun _ _ _ _ h => h) fun _ _ _ _ h => ints_of (by decide) h
  | Pow => exact intop_ok (fun _ _ _ _ h => h) fun _ _ _ _ h => ints_of (by decide) h
  | LShift => exact intop_ok (fun _ _ _ _ h => h) fun _ _ _ _ h => ints_of (by decide) h
  | FloorDiv => exact intop_ok (fun _ _ _ _ h => h) fun _ _ _ _ h => ints_of (by decide) h
  | _ => exact never2 fun st x y P h => by cases x <;> cases y <;> exact h

/-! ### == -/
theorem str_dec (a b : List Nat) : decide ((V.str ⟨a.toArray⟩ : V) = .str ⟨b.toArray⟩) = (a == b) := by
  by_cases h : a = b
  · subst h
    rw [decide_eq_true rfl]
    exact (beq_self_eq_true a).symm
  · rw [decide_eq_false fun e => h (congrArg (fun s : Str => s.cps.toList) (V.str.inj e))]
    exact (beq_eq_false_iff_ne.mpr h).symm
theorem scal_ok {vx vy : V} {x y : D} (rx : Rep K mg μ H vx x) (ry : Rep K mg μ H vy y) (h : scalD x y = true) : scal vx vy = true ∧ decide (vx = vy) = eqF x y := by
  cases rx with
  | non => cases ry <;> first | exact absurd h (by decide) | exact ⟨rfl, rfl⟩ | exact ⟨rfl, decide_eq_false (fun e => by cases e)⟩ | (exact absurd h (by simp [scalD, flatD]))
  | bl b =>
    cases ry with
    | bl c => exact ⟨rfl, dec_bl⟩
    | non => exact ⟨rfl, decide_eq_false (fun e => by cases e)⟩
    | str s => exact ⟨rfl, decide_eq_false (fun e => by cases e)⟩
    | int j => exact absurd h (by simp [scalD])
    | _ => exact absurd h (by simp [scalD, flatD])
  | int i =>
    cases ry with
    | int c => exact ⟨rfl, dec_int⟩
    | non => exact ⟨rfl, decide_eq_false (fun e => by cases e)⟩
    | str s => exact ⟨rfl, decide_eq_false (fun e => by cases e)⟩
    | bl j => exact absurd h (by simp [scalD])
    | _ => exact absurd h (by simp [scalD, flatD])
  | str s =>
    cases ry with
    | str c => exact ⟨rfl, str_dec s c⟩
    | non => exact ⟨rfl, decide_eq_false (fun e => by cases e)⟩
    | bl s => exact ⟨rfl, decide_eq_false (fun e => by cases e)⟩
    | int j => exact ⟨rfl, decide_eq_false (fun e => by cases e)⟩
    | _ => exact absurd h (by simp [scalD, flatD])
  | _ => cases ry <;> exact absurd h (by simp [scalD, flatD])
theorem pdAll_ok {f : D → Option PyData} (hf : ∀ v w d, Rep K mg μ H v w → f w = some d → Dp K H v d) : ∀ (ws : List D) (vs : List V) (ds : List PyData), Reps K mg μ H vs ws → pdAll f ws = some ds → DpAll K H vs ds
  | [], _, _, r, h => by
    cases r
    cases h
    exact .nil
  | w :: ws, _, ds, r, h => by
    cases r with
    | cons r1 r2 =>
      unfold pdAll at h
      cases e : f w with
      | none =>
        rw [e] at h
        cases h
      | some d =>
        rw [e] at h
        cases e2 : pdAll f ws with
        | none =>
          rw [e2] at h
          cases h
        | some ds' =>
          rw [e2] at h
          cases h
          exact .cons (hf _ _ _ r1 e) (pdAll_ok hf ws _ _ r2 e2)
theorem pd_ok (A : Abs K mg μ H st) : ∀ (k : Nat) (v : V) (w : D) (d : PyData), Rep K mg μ H v w → pd st k w = some d → Dp K H v d
  | 0, _, _, _, _, h => by cases h
  | k + 1, v, w, d, r, h => by
    cases r with
    | non =>
      cases h
      exact .non
    | bl b =>
      cases h
      exact .bl b
    | int i =>
      cases h
      exact .int i
    | str s =>
      cases h
      exact .str _
    | @tup a xs ws hs hr =>
      have h2 : (pdAll (pd st k) ws).map PyData.tuple = some d := h
      cases e : pdAll (pd st k) ws with
      | none =>
        rw [e] at h2
        cases h2
      | some ds =>
        rw [e] at h2
        cases h2
        exact .tup hs (pdAll_ok (fun v w d => pd_ok A k v w d) ws _ _ hr e)
    | @flst a xs ws hs hr =>
      have h2 : (pdAll (pd st k) ws).map PyData.list = some d := h
      cases e : pdAll (pd st k) ws with
      | none =>
        rw [e] at h2
        cases h2
      | some ds =>
        rw [e] at h2
        cases h2
        exact .lst hs.sq (pdAll_ok (fun v w d => pd_ok A k v w d) ws _ _ hr e)
    | @loc a n hn =>
      have h2 : (match st[n]? with
        | some (.lst ws) => (pdAll (pd st k) ws).map PyData.list
        | none => none) = some d := h
      cases e1 : st[n]? with
      | none =>
        rw [e1] at h2
        cases h2
      | some c =>
        cases c with
        | lst ws =>
          rw [e1] at h2
          have h3 : (pdAll (pd st k) ws).map PyData.list = some d := h2
          obtain ⟨xs, hx, hr⟩ := A.get hn e1
          cases e : pdAll (pd st k) ws with
          | none =>
            rw [e] at h3
            cases h3
          | some ds =>
            rw [e] at h3
            cases h3
            exact .lst (SqL.of hx) (pdAll_ok (fun v w d => pd_ok A k v w d) ws _ _ hr e)
    | fn _ => cases h
theorem eq_ok {f : Bool → Bool} : Ok2 K mg (fun x y H Q => (scal x y = true ∧ Q (.bl (f (decide (x = y)))) H) ∨ ∃ d e, Dp K H x d ∧ Dp K H y e ∧ SeqAt.shaped d = true ∧ SeqAt.shaped e = true ∧ Q (.bl (f (PyData.eqv d e))) H)
    fun st x y Q => eqW st x y fun b => Q (.bl (f b)) st := by
  intro μ H st vx vy x y P Q A rx ry h k
  rcases h with ⟨hs, p⟩ | ⟨n, d, e, h1, h2, s1, s2, p⟩
  · obtain ⟨e1, e2⟩ := scal_ok rx ry hs
    refine .inl ⟨e1, ?_⟩
    rw [e2]
    exact k _ _ st μ H p A .refl (.bl _)
  · exact .inr ⟨d, e, pd_ok A n _ _ _ rx h1, pd_ok A n _ _ _ ry h2, s1, s2, k _ _ st μ H p A .refl (.bl _)⟩

/-! ### in -/
theorem flat_ok {v : V} {w : D} (r : Rep K mg μ H v w) (h : flatD w = true) : flatV v = true := by
  cases r <;> first | rfl | cases h
theorem eqF_ok {v u : V} {w x : D} (r : Rep K mg μ H v w) (q : Rep K mg μ H u x) (h1 : flatD w = true) (h2 : flatD x = true) : eqV v u = eqF w x := by
  cases r <;> cases q <;> first | rfl | exact absurd h1 (by decide) | exact absurd h2 (by decide) | cases h1 | cases h2 | skip
  rename_i a b
  show ((⟨a.toArray⟩ : Str) == ⟨b.toArray⟩) = (a == b)
  rw [← dec_str]
  exact str_dec a b
theorem flats_ok : ∀ {vs : List V} {ws : List D}, Reps K mg μ H vs ws → ws.all flatD = true → vs.all flatV = true
  | _, _, .nil, _ => rfl
  | _, _, .cons r t, h => by
    rw [List.all_cons, Bool.and_eq_true] at h ⊢
    exact ⟨flat_ok r h.1, flats_ok t h.2⟩
theorem anyF_ok {u : V} {x : D} (q : Rep K mg μ H u x) (hx : flatD x = true) : ∀ {vs : List V} {ws : List D}, Reps K mg μ H vs ws → ws.all flatD = true → inV u vs = ws.any fun y => eqF y x
  | _, _, .nil, _ => rfl
  | _, _, .cons r t, h => by
    rw [List.all_cons, Bool.and_eq_true] at h
    rw [List.any_cons]
    show (eqV _ u || inV u _) = _
    rw [eqF_ok r q h.1 hx, anyF_ok q hx t h.2]
theorem in_ok {f : Bool → Bool} {neg : Bool} (hf : ∀ b, f b = if neg = true then !b else b) : Ok2 K mg (fun x y H Q => (∃ (c : Nat) (z : Str), x = .str ⟨#[c]⟩ ∧ y = .str z ∧ Q (.bl (f (decide (c ∈ z.cps.toList)))) H) ∨ rIn K neg x y H Q)
    fun st x y Q => inW st x y fun b => Q (.bl (f b)) st := by
  intro μ H st vx vy x y P Q A rx ry h k
  have go : ∀ (p : Addr) (vs : List V) (ws : List D), vy = .ref p → (SqL K H p vs ∨ SqT K H p vs) → Reps K mg μ H vs ws → flatD x = true → ws.all flatD = true → P (.bl (f (ws.any fun y => eqF y x))) st → rIn K neg vx vy H Q := by
    intro p vs ws e hs hr hx hw hp
    refine ⟨p, vs, e, hs, flat_ok rx hx, flats_ok hr hw, ?_⟩
    rw [anyF_ok rx hx hr hw]
    have e2 := hf (ws.any fun y => eqF y x)
    have e3 : (if neg then !(ws.any fun y => eqF y x) else (ws.any fun y => eqF y x)) = f (ws.any fun y => eqF y x) := e2.symm
    rw [e3]
    exact k _ _ st μ H hp A .refl (.bl _)
  cases ry with
  | str s =>
    obtain ⟨c, rfl, p⟩ := h
    cases rx
    exact .inl ⟨c, _, rfl, rfl, k _ _ st μ H p A .refl (.bl _)⟩
  | tup hs hr => exact .inr (go _ _ _ rfl (.inr hs) hr h.1 h.2.1 h.2.2)
  | flst hs hr => exact .inr (go _ _ _ rfl (.inl hs.sq) hr h.1 h.2.1 h.2.2)
  | loc hn =>
    obtain ⟨ws, e, h1, h2, p⟩ := h
    obtain ⟨xs, hx, hr⟩ := A.get hn e
    exact .inr (go _ _ _ rfl (.inl (SqL.of hx)) hr h1 h2 p)
  | _ => exact False.elim h
/-! ### order, is -/
theorem ord_ok {g : Int → Int → Bool} {f : Sto → D → D → DK → Prop} (h1 : ∀ st i j P, f st (.int i) (.int j) P → P (.bl (g i j)) st) (h2 : ∀ st x y P, f st x y P → (∃ i, x = .int i) ∧ ∃ j, y = .int j) :
    Ok2 K mg (rI0 fun i j => .bl (g i j)) f := by
  intro μ H st vx vy x y P Q A rx ry h k
  obtain ⟨⟨i, rfl⟩, j, rfl⟩ := h2 st x y P h
  have p := h1 st i j P h
  cases rx
  cases ry
  exact ⟨i, j, rfl, rfl, k _ _ st μ H p A .refl (.bl _)⟩
theorem ordI {o : CmpOp} {st : Sto} {x y : D} {P : Bool → Prop} (ho : o = .LtE ∨ o = .Gt ∨ o = .GtE) (h : cmpW st o x y P) : (∃ i, x = .int i) ∧ ∃ j, y = .int j := by
  rcases ho with rfl | rfl | rfl <;> cases x <;> cases y <;> first | exact ⟨⟨_, rfl⟩, ⟨_, rfl⟩⟩ | exact False.elim h
theorem lt_ok : Ok2 K mg (fun x y H Q => rI0 (fun i j => .bl (decide (i < j))) x y H Q ∨ ∃ i j, x = .str i ∧ y = .str j ∧ Q (.bl (decide (i.cps.toList < j.cps.toList))) H) fun st x y Q => cmpW st .Lt x y fun b => Q (.bl b) st := by
  intro μ H st vx vy x y P Q A rx ry h k
  cases rx with
  | int i =>
    cases ry with
    | int j => exact .inl ⟨i, j, rfl, rfl, k _ _ st μ H h A .refl (.bl _)⟩
    | _ => exact False.elim h
  | str a =>
    cases ry with
    | str b => exact .inr ⟨_, _, rfl, rfl, k _ _ st μ H h A .refl (.bl _)⟩
    | _ => exact False.elim h
  | _ => cases ry <;> exact False.elim h
theorem is_ok {f : Bool → Bool} {g : Sto → D → D → DK → Prop} (h1 : ∀ st x y P, g st x y P → y = .non ∧ P (.bl (f (isNonD x))) st) : Ok2 K mg (fun x y H Q => y = .non ∧ Q (.bl (f (decide (x = .non)))) H) g := by
  intro μ H st vx vy x y P Q A rx ry h k
  obtain ⟨rfl, p⟩ := h1 st x y P h
  cases ry
  refine ⟨rfl, ?_⟩
  have e : decide (vx = .non) = isNonD x := by
    cases rx <;> first | exact decide_eq_true rfl | exact decide_eq_false (fun e => by cases e)
  rw [e]
  exact k _ _ st μ H p A .refl (.bl _)
theorem Ok2.imp {r : R2} {f g : Sto → D → D → DK → Prop} (h : Ok2 K mg r f) (i : ∀ st x y P, g st x y P → f st x y P) : Ok2 K mg r g := fun μ H st vx vy x y P Q A rx ry p k => h μ H st vx vy x y P Q A rx ry (i _ _ _ _ p) k
def rEqs (K : PySem.W.Frag) (f : Bool → Bool) : R2 := fun x y H Q => (scal x y = true ∧ Q (.bl (f (decide (x = y)))) H) ∨ ∃ d e, Dp K H x d ∧ Dp K H y e ∧ SeqAt.shaped d = true ∧ SeqAt.shaped e = true ∧ Q (.bl (f (PyData.eqv d e))) H
def rIns (K : PySem.W.Frag) (neg : Bool) (f : Bool → Bool) : R2 := fun x y H Q => (∃ (c : Nat) (z : Str), x = .str ⟨#[c]⟩ ∧ y = .str z ∧ Q (.bl (f (decide (c ∈ z.cps.toList)))) H) ∨ rIn K neg x y H Q
def rCmp (K : PySem.W.Frag) : CmpOp → R2
  | .Eq => rEqs K id
  | .NotEq => rEqs K (!·)
  | .Lt => fun x y H Q => rI0 (fun i j => .bl (decide (i < j))) x y H Q ∨ ∃ i j, x = .str i ∧ y = .str j ∧ Q (.bl (decide (i.cps.toList < j.cps.toList))) H
  | .LtE => rI0 fun i j => .bl (decide (i ≤ j))
  | .Gt => rI0 fun i j => .bl (decide (j < i))
  | .GtE => rI0 fun i j => .bl (decide (j ≤ i))
  | .In => rIns K false id
  | .NotIn => rIns K true (!·)
  | .Is => fun x y H Q => y = .non ∧ Q (.bl (decide (x = .non))) H
  | .IsNot => fun x y H Q => y = .non ∧ Q (.bl (!decide (x = .non))) H
theorem rCmp_op (X : Cx) (hu : X.A.units + 64 < cLine) (o : CmpOp) : OpR X (compareOp o) (rCmp X.K o) := by
  cases o with
  | Eq => exact op_eq.or (op_eqD hu)
  | NotEq => exact op_ne.or (op_neD hu)
  | Lt => exact op_lt.or op_lt_str
  | LtE => exact op_le
  | Gt => exact op_gt
  | GtE => exact op_ge
  | In => exact op_in_sign.or op_in_seq
  | NotIn => exact op_notIn_sign.or op_notIn_seq
  | Is => exact op_isN
  | IsNot => exact op_notN
theorem rCmp_ok (o : CmpOp) : Ok2 K mg (rCmp K o) fun st x y Q => cmpW st o x y fun b => Q (.bl b) st := by
  cases o with
  | Eq => exact eq_ok (f := id)
  | NotEq => exact eq_ok (f := fun b => !b)
  | Lt => exact lt_ok
  | LtE => exact ord_ok (g := fun i j => decide (i ≤ j)) (fun _ _ _ _ h => h) fun _ _ _ _ h => ordI (.inl rfl) h
  | Gt => exact ord_ok (g := fun i j => decide (j < i)) (fun _ _ _ _ h => h) fun _ _ _ _ h => ordI (.inr (.inl rfl)) h
  | GtE => exact ord_ok (g := fun i j => decide (j ≤ i)) (fun _ _ _ _ h => h) fun _ _ _ _ h => ordI (.inr (.inr rfl)) h
  | In => exact in_ok (f := id) (neg := false) fun b => by simp
  | NotIn => exact in_ok (f := fun b => !b) (neg := true) fun b => by simp
  | Is => exact is_ok (f := fun b => b) fun st x y P h => by cases y <;> first | exact ⟨rfl, h⟩ | (cases x <;> exact False.elim h)
  | IsNot => exact is_ok (f := fun b => !b) fun st x y P h => by cases y <;> first | exact ⟨rfl, h⟩ | (cases x <;> exact False.elim h)
/-! ### subscripts, slices -/
theorem idx_ok : Ok2 K mg (rIx K) fun st x y Q => idxW st x y fun z => Q z st := by
  intro μ H st vx vy x y P Q A rx ry h k
  cases rx with
  | str s =>
    cases ry with
    | int i =>
      obtain ⟨hz, c, e, p⟩ := h
      exact .inr (.inr ⟨_, i, c, rfl, rfl, by rw [sv_length]; exact hz, e, k _ _ st μ H p A .refl (.str [c])⟩)
    | _ => exact False.elim h
  | tup hs hr =>
    cases ry with
    | int i =>
      obtain ⟨w, e, p⟩ := h
      obtain ⟨v, e1, r1⟩ := hr.atI e
      exact .inr (.inl ⟨_, _, i, v, rfl, rfl, hs, e1, k _ _ st μ H p A .refl r1⟩)
    | _ => exact False.elim h
  | flst hs hr =>
    cases ry with
    | int i =>
      obtain ⟨w, e, p⟩ := h
      obtain ⟨v, e1, r1⟩ := hr.atI e
      exact .inl ⟨_, _, i, v, rfl, rfl, hs.sq, e1, k _ _ st μ H p A .refl r1⟩
    | _ => exact False.elim h
  | loc hn =>
    cases ry with
    | int i =>
      obtain ⟨ws, e0, w, e, p⟩ := h
      obtain ⟨xs, hx, hr⟩ := A.get hn e0
      obtain ⟨v, e1, r1⟩ := hr.atI e
      exact .inl ⟨_, _, i, v, rfl, rfl, SqL.of hx, e1, k _ _ st μ H p A .refl r1⟩
    | _ => exact False.elim h
  | _ => cases ry <;> exact False.elim h
theorem cut_ok {vs : List V} {ws : List D} (r : Reps K mg μ H vs ws) (lo hi : Option Int) : Reps K mg μ H (cutV vs lo hi) (cutL ws lo hi) := by
  unfold cutV cutL
  rw [r.length]
  exact (r.drop _).take _
abbrev rSlice (K : PySem.W.Frag) : V → Option Int → Option Int → Hp → VK → Prop := fun x lo hi H Q => rSlL K x lo hi H Q ∨ rSlT K x lo hi H Q ∨ rSlS x lo hi H Q
theorem sl_any {X : Cx} : SlR X (rSlice X.K) := sl_list.or (sl_tup.or sl_str)
theorem slc_ok {v : V} {w : D} {lo hi : Option Int} {P : DK} {Q : VK} (A : Abs K mg μ H st) (r : Rep K mg μ H v w) (h : slcW st w lo hi P)
    (k : ∀ v w st' μ' H', P w st' → Abs K mg μ' H' st' → Ext μ H μ' H' → Rep K mg μ' H' v w → Q v H') : rSlice K v lo hi H Q := by
  cases r with
  | str s =>
    refine .inr (.inr ⟨_, rfl, by rw [sv_length]; exact h.1, ?_⟩)
    have e : cutS ⟨s.toArray⟩ lo hi = ⟨(cutL s lo hi).toArray⟩ := by
      unfold cutS cutL
      rw [sv_length]
    rw [e]
    exact k _ _ st μ H h.2 A .refl (.str _)
  | @tup a xs ws hs hr =>
    refine .inr (.inl ⟨_, _, rfl, hs, by rw [hr.length]; exact h.1, fun p hp => ?_⟩)
    have e : Ext μ H μ (upd H p (.tup (cutV xs lo hi))) := ext_new hp
    exact k _ _ st μ _ h.2 (A.go hp) e (.tup (SqT.of upd_same) ((cut_ok hr lo hi).go e A.mu))
  | flst hs hr => exact .inl ⟨_, _, rfl, hs.sq, fun p hp => k _ _ _ _ _ h (A.add hp (cut_ok hr lo hi)) (ext_loc hp) (loc_new A)⟩
  | loc hn =>
    obtain ⟨ws, e, p⟩ := h
    obtain ⟨xs, hx, hr⟩ := A.get hn e
    exact .inl ⟨_, _, rfl, SqL.of hx, fun q hq => k _ _ _ _ _ p (A.add hq (cut_ok hr lo hi)) (ext_loc hq) (loc_new A)⟩
  | _ => exact False.elim h
theorem okE_slc {ta : TE} {fa : WE} {tl th : TO} {fl fh : WO} (ha : OkE K mg ta fa) (hl : OkO K mg tl fl) (hh : OkO K mg th fh) :
    OkE K mg (tSl (rSlice K) ta tl th) fun env st Q => fa env st fun x st1 => fl env st1 fun l st2 => fh env st2 fun h st3 => slcW st3 x l h Q := fun μ H st σ env P Q A N h k => by
  refine ha μ H st σ env _ _ A N h fun vx x st1 μ1 H1 h1 A1 e1 r1 => ?_
  refine hl μ1 H1 st1 σ env _ _ A1 (N.go e1 A.mu) h1 fun l st2 μ2 H2 h2 A2 e2 => ?_
  refine hh μ2 H2 st2 σ env _ _ A2 ((N.go e1 A.mu).go e2 A1.mu) h2 fun u st3 μ3 H3 h3 A3 e3 => ?_
  exact slc_ok A3 ((r1.go e2 A1.mu).go e3 A2.mu) h3 fun v w st4 μ4 H4 p A4 e4 r4 => k v w st4 μ4 H4 p A4 (((e1.trans e2).trans e3).trans e4) r4
/-! ### o[i] = v -/
theorem set_ok {vo vi vv : V} {o i w : D} {P : Sto → Prop} {Q : Hp → Prop} (A : Abs K mg μ H st) (ro : Rep K mg μ H vo o) (ri : Rep K mg μ H vi i) (rv : Rep K mg μ H vv w) (h : setW st o i w P)
    (k : ∀ st' μ' H', P st' → Abs K mg μ' H' st' → Ext μ H μ' H' → Q H') : rSetL vo vi vv H Q := by
  cases ro with
  | @loc a n hn =>
    cases ri with
    | int i =>
      obtain ⟨ws, j, e, hj, p⟩ := h
      obtain ⟨xs, hx, hr⟩ := A.get hn e
      exact ⟨a, xs, i, j, rfl, rfl, hx, by rw [hr.length]; exact hj, k _ _ _ p (A.set hn (hr.set rv j)) (ext_set (List.mem_of_getElem? hn))⟩
    | _ => exact False.elim h
  | _ => cases ri <;> exact False.elim h
end
end Dq

set_option Elab.async false
set_option linter.all false
set_option maxRecDepth 100000
set_option maxHeartbeats 2000000
/-! Dq4: the reading of an expression of the language; it gives what the run wants. -/
namespace Dq
open PySem PySem.Spec PyProof.Rows L2

/-! ### builtins and methods by values -/
section
variable (K : PySem.W.Frag)
def rBlt : Bt → List V → Hp → VK → Prop
  | .len => fun xs H Q => ∃ x n, xs = [x] ∧ LenV K x H n ∧ Q (.int n) H
  | .abs => fun xs H Q => ∃ i, xs = [.int i] ∧ Q (.int (if i < 0 then -i else i)) H
  | .max => fun xs H Q => ∃ i j, xs = [.int i, .int j] ∧ Q (.int (if j > i then j else i)) H
  | .min => fun xs H Q => ∃ i j, xs = [.int i, .int j] ∧ Q (.int (if j < i then j else i)) H
  | .int => fun xs H Q => (∃ i, xs = [.int i] ∧ Q (.int i) H) ∨ ∃ k, xs = [.bl k] ∧ Q (.int (if k then 1 else 0)) H
  | .tuple => fun xs H Q => ∃ p ys, xs = [.ref p] ∧ ((SqL K H p ys ∧ ∀ l, H l = none → Q (.ref l) (upd H l (.tup ys))) ∨ (SqT K H p ys ∧ Q (.ref p) H))
  | .list => fun xs H Q => ∃ p ys, xs = [.ref p] ∧ (SqL K H p ys ∨ SqT K H p ys) ∧ ∀ l, H l = none → Q (.ref l) (upd H l (.lst ys))
  | .all => rAll K
  | .any => rAny K
  | _ => fun _ _ _ => False
def rMth : Mt → V → List V → Hp → VK → Prop
  | .append => rAppend
  | .pop => rPop
  | .join => fun x xs H Q => ∃ a p, ∃ ys : List Str, x = .str a ∧ xs = [.ref p] ∧ (SqL K H p (ys.map V.str) ∨ SqT K H p (ys.map V.str)) ∧ (ys.map (·.length)).sum + ys.length * a.length ≤ 16777216 ∧ Q (.str (Txt.join a ys)) H
  | _ => fun _ _ _ _ => False
def tyMth : Mt → String
  | .join => "str"
  | .split => "str"
  | .partition => "str"
  | .startswith => "str"
  | .endswith => "str"
  | .upper => "str"
  | .removeprefix => "str"
  | _ => "list"
end
section
variable {K : PySem.W.Frag} {mg : Nat → Option Value} {μ : List Addr} {H : Hp} {st : Sto}
theorem lenV_ok {v : V} {w : D} {P : Nat → Prop} (A : Abs K mg μ H st) (r : Rep K mg μ H v w) (h : lenW st w P) : ∃ n, LenV K v H n ∧ P n := by
  cases r with
  | str s =>
    refine ⟨_, ⟨by rw [sv_length]; exact h.1, rfl⟩, ?_⟩
    rw [sv_length]
    exact h.2
  | tup hs hr => exact ⟨_, .inr ⟨_, hs, rfl⟩, by rw [hr.length]; exact h⟩
  | flst hs hr => exact ⟨_, .inl ⟨_, hs.sq, rfl⟩, by rw [hr.length]; exact h⟩
  | loc hn =>
    obtain ⟨ws, e, p⟩ := h
    obtain ⟨xs, hx, hr⟩ := A.get hn e
    exact ⟨_, .inl ⟨_, SqL.of hx, rfl⟩, by rw [hr.length]; exact p⟩
  | _ => exact False.elim h
theorem Reps.one {vs : List V} {w : D} (r : Reps K mg μ H vs [w]) : ∃ v, vs = [v] ∧ Rep K mg μ H v w := by
  cases r with
  | cons a b =>
    cases b
    exact ⟨_, rfl, a⟩
theorem Reps.two {vs : List V} {w x : D} (r : Reps K mg μ H vs [w, x]) : ∃ v u, vs = [v, u] ∧ Rep K mg μ H v w ∧ Rep K mg μ H u x := by
  cases r with
  | cons a b =>
    obtain ⟨u, rfl, c⟩ := b.one
    exact ⟨_, u, rfl, a, c⟩
def isMM : Bt → Bool
  | .max => true
  | .min => true
  | _ => false
theorem arg1 {ws : List D} {b : Bt} {P : DK} (h : bltW st b ws P) (hb : isMM b = false) : ∃ w, ws = [w] := by
  cases ws with
  | nil => cases b <;> exact False.elim h
  | cons w r =>
    cases r with
    | nil => exact ⟨w, rfl⟩
    | cons x r =>
      cases b <;> first | (exact absurd hb (by decide)) | (cases w <;> exact False.elim h)
theorem rBlt_ok (b : Bt) : OkC K mg (rBlt K b) fun st ws Q => bltW st b ws Q := by
  intro μ H st vs ws P Q A r h k
  cases b with
  | len =>
    obtain ⟨w, rfl⟩ := arg1 h rfl
    obtain ⟨v, rfl, rv⟩ := r.one
    obtain ⟨n, hn, p⟩ := lenV_ok A rv h
    exact ⟨v, n, rfl, hn, k _ _ st μ H p A .refl (.int _)⟩
  | abs =>
    obtain ⟨w, rfl⟩ := arg1 h rfl
    obtain ⟨v, rfl, rv⟩ := r.one
    cases rv with
    | int i => exact ⟨i, rfl, k _ _ st μ H h A .refl (.int _)⟩
    | _ => exact False.elim h
  | max =>
    match ws, r, h with
    | [.int i, .int j], r, h =>
      obtain ⟨v, u, rfl, r1, r2⟩ := r.two
      cases r1
      cases r2
      exact ⟨i, j, rfl, k _ _ st μ H h A .refl (.int _)⟩
  | min =>
    match ws, r, h with
    | [.int i, .int j], r, h =>
      obtain ⟨v, u, rfl, r1, r2⟩ := r.two
      cases r1
      cases r2
      exact ⟨i, j, rfl, k _ _ st μ H h A .refl (.int _)⟩
  | int =>
    obtain ⟨w, rfl⟩ := arg1 h rfl
    obtain ⟨v, rfl, rv⟩ := r.one
    cases rv with
    | int i => exact .inl ⟨i, rfl, k _ _ st μ H h A .refl (.int _)⟩
    | bl i => exact .inr ⟨i, rfl, k _ _ st μ H h A .refl (.int _)⟩
    | _ => exact False.elim h
  | tuple =>
    obtain ⟨w, rfl⟩ := arg1 h rfl
    obtain ⟨v, rfl, rv⟩ := r.one
    cases rv with
    | @tup a xs ws hs hr => exact ⟨a, xs, rfl, .inr ⟨hs, k _ _ st μ H h A .refl (.tup hs hr)⟩⟩
    | @loc a n hn =>
      obtain ⟨ws, e, p⟩ := h
      obtain ⟨xs, hx, hr⟩ := A.get hn e
      refine ⟨a, xs, rfl, .inl ⟨SqL.of hx, fun l hl => ?_⟩⟩
      have e2 : Ext μ H μ (upd H l (.tup xs)) := ext_new hl
      exact k _ _ st μ _ p (A.go hl) e2 (.tup (SqT.of upd_same) (hr.go e2 A.mu))
    | _ => exact False.elim h
  | list =>
    obtain ⟨w, rfl⟩ := arg1 h rfl
    obtain ⟨v, rfl, rv⟩ := r.one
    cases rv with
    | @tup a xs ws hs hr => exact ⟨a, xs, rfl, .inr hs, fun l hl => k _ _ _ _ _ h (A.add hl hr) (ext_loc hl) (loc_new A)⟩
    | @flst a xs ws hs hr => exact ⟨a, xs, rfl, .inl hs.sq, fun l hl => k _ _ _ _ _ h (A.add hl hr) (ext_loc hl) (loc_new A)⟩
    | @loc a n hn =>
      obtain ⟨ws, e, p⟩ := h
      obtain ⟨xs, hx, hr⟩ := A.get hn e
      exact ⟨a, xs, rfl, .inl (SqL.of hx), fun l hl => k _ _ _ _ _ p (A.add hl hr) (ext_loc hl) (loc_new A)⟩
    | _ => exact False.elim h
  | all =>
    obtain ⟨w, rfl⟩ := arg1 h rfl
    obtain ⟨v, rfl, rv⟩ := r.one
    cases rv with
    | @loc a n hn =>
      obtain ⟨bs, e, p⟩ := h
      obtain ⟨xs, hx, hr⟩ := A.get hn e
      rw [hr.bls] at hx
      exact ⟨a, bs, rfl, SqL.of hx, k _ _ st μ H p A .refl (.bl _)⟩
    | _ => exact False.elim h
  | any =>
    obtain ⟨w, rfl⟩ := arg1 h rfl
    obtain ⟨v, rfl, rv⟩ := r.one
    cases rv with
    | @loc a n hn =>
      obtain ⟨bs, e, p⟩ := h
      obtain ⟨xs, hx, hr⟩ := A.get hn e
      rw [hr.bls] at hx
      exact ⟨a, bs, rfl, SqL.of hx, k _ _ st μ H p A .refl (.bl _)⟩
    | _ => exact False.elim h
  | _ =>
    obtain ⟨w, rfl⟩ := arg1 h rfl
    cases w <;> exact False.elim h
theorem sum_len (ss : List (List Nat)) : ((ss.map fun s => (⟨s.toArray⟩ : Str)).map (·.length)).sum = (ss.map (·.length)).sum := by
  rw [List.map_map]
  have e : ((fun x : Str => x.length) ∘ fun s : List Nat => (⟨s.toArray⟩ : Str)) = fun s => s.length := funext fun s => sv_length s
  rw [e]
theorem join_sv (s : List Nat) (ss : List (List Nat)) : Txt.join ⟨s.toArray⟩ (ss.map fun s => (⟨s.toArray⟩ : Str)) = ⟨(TL.joinL s ss).toArray⟩ := by
  rw [TL.join_eq]
  apply TL.ext_tl
  rw [TL.tl_join, List.map_map]
  have e : (TL.tl ∘ fun s : List Nat => (⟨s.toArray⟩ : Str)) = id := funext fun s => rfl
  rw [e, List.map_id]
theorem rMth_ok (m : Mt) {vo : V} {vs : List V} {x : D} {ws : List D} {P : DK} {Q : VK} (A : Abs K mg μ H st) (ro : Rep K mg μ H vo x) (rs : Reps K mg μ H vs ws) (h : mthW st m x ws P)
    (k : ∀ v w st' μ' H', P w st' → Abs K mg μ' H' st' → Ext μ H μ' H' → Rep K mg μ' H' v w → Q v H') : rMth K m vo vs H Q := by
  cases m with
  | append =>
    match x, ws, ro, rs, h with
    | .loc n, [w], ro, rs, h =>
      obtain ⟨us, e, hz, p⟩ := h
      obtain ⟨v, rfl, rv⟩ := rs.one
      cases ro with
      | @loc a n hn =>
        obtain ⟨xs, hx, hr⟩ := A.get hn e
        exact ⟨a, xs, v, rfl, rfl, hx, by rw [hr.length]; exact hz, k _ _ _ _ _ p (A.set hn (hr.append (.cons rv .nil))) (ext_set (List.mem_of_getElem? hn)) .non⟩
  | pop =>
    match x, ws, ro, rs, h with
    | .loc n, [], ro, rs, h =>
      obtain ⟨us, w, e, hw, p⟩ := h
      cases rs
      cases ro with
      | @loc a n hn =>
        obtain ⟨xs, hx, hr⟩ := A.get hn e
        obtain ⟨v, hv, rv⟩ := hr.get hw
        refine ⟨a, xs, v, rfl, rfl, hx, by rw [hr.length]; exact hv, ?_⟩
        have e2 : Ext μ H μ (upd H a (.lst xs.dropLast)) := ext_set (List.mem_of_getElem? hn)
        exact k _ _ _ _ _ p (A.set hn hr.dropLast) e2 (rv.go e2 A.mu)
  | join =>
    match x, ws, ro, rs, h with
    | .str s, [.loc n], ro, rs, h =>
      obtain ⟨ss, e, hz, p⟩ := h
      obtain ⟨v, rfl, rv⟩ := rs.one
      cases ro
      cases rv with
      | @loc a n hn =>
        obtain ⟨xs, hx, hr⟩ := A.get hn e
        rw [hr.strs] at hx
        refine ⟨_, a, _, rfl, rfl, .inl (SqL.of hx), ?_, ?_⟩
        · rw [sum_len, List.length_map, sv_length]
          exact hz
        · rw [join_sv]
          exact k _ _ st μ H p A .refl (.str _)
  | _ =>
    cases x <;> first | exact False.elim h | (cases ws <;> exact False.elim h)
theorem tyMth_ok (m : Mt) {vo : V} {x : D} (A : Abs K mg μ H st) (ro : Rep K mg μ H vo x) (h : mthTy st m x) : tyV K (tyMth m) vo H := by
  have hs : ∀ s, x = .str s → tyV K "str" vo H := fun s e => by
    subst e
    cases ro
    rfl
  have hl : ∀ n ws, x = .loc n → st[n]? = some (.lst ws) → tyV K "list" vo H := fun n ws e e2 => by
    subst e
    cases ro with
    | loc hn =>
      obtain ⟨xs, hx, _⟩ := A.get hn e2
      exact .inl ⟨rfl, xs, SqL.of hx⟩
  cases m <;> first
    | (obtain ⟨s, e⟩ := h; exact hs s e)
    | (obtain ⟨n, ws, e, e2⟩ := h; exact hl n ws e e2)

/-! ### isinstance -/
theorem tyX_of {v : V} {w : D} (r : Rep K mg μ H v w) {t : Ty} {b : Bool} (h : isiB w t = some b) : ∃ ty : String, TyX K H v (.type ty) ∧ kitB ty t.nm = some b := by
  cases r with
  | non =>
    refine ⟨_, .base .non, ?_⟩
    cases h
    cases t <;> decide +kernel
  | bl c =>
    refine ⟨_, .base (.bl c), ?_⟩
    cases h
    cases t <;> decide +kernel
  | int i =>
    refine ⟨_, .base (.int i), ?_⟩
    cases h
    cases t <;> decide +kernel
  | str s =>
    refine ⟨_, .base (.str _), ?_⟩
    cases h
    cases t <;> decide +kernel
  | tup hs hr =>
    have e : kitB "tuple" t.nm = some b := by
      cases h
      cases t <;> decide +kernel
    rcases hs with (hs | ⟨o, hs⟩) | ⟨o, its, n, e1, e2, _⟩
    · exact ⟨_, .base (.tup hs), e⟩
    · exact ⟨_, .fTuple hs, e⟩
    · exact ⟨_, .kTuple e1 e2, e⟩
  | _ => cases h
end
end Dq

set_option Elab.async false
set_option linter.all false
set_option maxRecDepth 100000
set_option maxHeartbeats 2000000
/-! Dq5: the reading of an expression, and that it gives what the run wants. -/
namespace Dq
open PySem PySem.Spec PyProof.Rows L2

/-! ### what is walked -/
def ItOk (K : PySem.W.Frag) (mg : Nat → Option Value) (J : It) (ws : List D) (keep : Option (Nat × List D)) (μ : List Addr) (H : Hp) : Prop :=
  ∀ μ2 H2 st2, Ext μ H μ2 H2 → Abs K mg μ2 H2 st2 → keepW keep st2 → J.stop ws.length H2 ∧ ∀ i w, ws[i]? = some w → J.go i H2 ∧ ∀ x H3, J.yld i H2 x H3 → H3 = H2 ∧ Rep K mg μ2 H2 x w
/-- a list, a tuple, a text -/
def iSeq (K : PySem.W.Frag) (te : TE) : TI := fun σ H R => te σ H fun x H1 =>
  (∃ a, x = .ref a ∧ (∃ xs, SqL K H1 a xs) ∧ R (Itl K a) H1) ∨ (∃ a, x = .ref a ∧ (∃ xs, SqT K H1 a xs) ∧ R (Itt K a) H1) ∨ ∃ z, x = .str z ∧ R (Its z) H1
theorem pi_seq {X : Cx} {tg e : Expr} {te : TE} (he : PE X e te) : PI X tg e (iSeq X.K te) := by
  constructor
  intro pins s σ H R I h
  refine thn (he.run pins s σ H _ I h) fun v s1 ⟨x, H1, I1, r1, q1⟩ => ?_
  rcases q1 with ⟨a, e1, ⟨xs, hq⟩, q⟩ | ⟨a, e1, ⟨xs, hq⟩, q⟩ | ⟨z, e1, q⟩
  · subst e1
    cases r1
    obtain ⟨its, rv, pl, hz⟩ := I1.list hq
    have T0 := turn_list (P := X.prog) (w := X.w) (K := X.K) (tg := tg) a s1.heap.objs.size
    exact wpAny_pyIter_list pl.isList (pi_one (tk := s1.toks) I1 _ T0 ⟨_, Heap.get?_push_size _ rfl, rfl, rfl⟩ q)
  · subst e1
    cases r1
    obtain ⟨its, rv, pl, hz⟩ := I1.tuple hq
    have T0 := turn_tuple (P := X.prog) (w := X.w) (K := X.K) (tg := tg) a s1.heap.objs.size
    exact wpAny_pyIter_tuple (show s1.heap.IsTuple a its.toArray from pl) (pi_one (tk := s1.toks) I1 _ T0 ⟨_, Heap.get?_push_size _ rfl, rfl, rfl⟩ q)
  · subst e1
    obtain ⟨t, rfl⟩ := r1
    cases hA : z.cps.all (· < 128) with
    | false =>
      have T0 := turn_str (P := X.prog) (w := X.w) (K := X.K) (tg := tg) s1.heap.objs.size z t "str_iterator" (.inr rfl)
      exact wpAny_pyIter_wide hA (pi_one (tk := s1.toks) I1 _ T0 ⟨_, Heap.get?_push_size _ rfl, rfl, rfl⟩ q)
    | true =>
      have T0 := turn_str (P := X.prog) (w := X.w) (K := X.K) (tg := tg) s1.heap.objs.size z t "str_ascii_iterator" (.inl rfl)
      exact wpAny_pyIter_ascii hA (pi_one (tk := s1.toks) I1 _ T0 ⟨_, Heap.get?_push_size _ rfl, rfl, rfl⟩ q)
section
variable {K : PySem.W.Frag} {mg : Nat → Option Value} {μ : List Addr} {H : Hp} {st : Sto}
theorem it_fix {a : Addr} {J : It} {vs : List V} {ws : List D} (hr : Reps K mg μ H vs ws) (m : Mu μ H) (h : ∀ H2, Imm H H2 → J.stop vs.length H2 ∧ ∀ i v, vs[i]? = some v → J.go i H2 ∧ ∀ x H3, J.yld i H2 x H3 → H3 = H2 ∧ x = v) : ItOk K mg J ws none μ H := by
  intro μ2 H2 st2 e A2 _
  obtain ⟨h1, h2⟩ := h H2 (e.imm m)
  rw [hr.length] at h1
  refine ⟨h1, fun i w hw => ?_⟩
  obtain ⟨v, hv, rv⟩ := hr.get hw
  obtain ⟨h3, h4⟩ := h2 i v hv
  refine ⟨h3, fun x H3 y => ?_⟩
  obtain ⟨e1, e2⟩ := h4 x H3 y
  subst e2
  exact ⟨e1, rv.go e m⟩
theorem seq_ok {v : V} {w : D} {P : List D → Option (Nat × List D) → Prop} {R : It → Hp → Prop} (A : Abs K mg μ H st) (r : Rep K mg μ H v w) (h : seqW st w P)
    (k : ∀ ws keep J, P ws keep → ItOk K mg J ws keep μ H → R J H) :
    (∃ a, v = .ref a ∧ (∃ xs, SqL K H a xs) ∧ R (Itl K a) H) ∨ (∃ a, v = .ref a ∧ (∃ xs, SqT K H a xs) ∧ R (Itt K a) H) ∨ ∃ z, v = .str z ∧ R (Its z) H := by
  cases r with
  | str s =>
    refine .inr (.inr ⟨_, rfl, k _ _ _ h ?_⟩)
    intro μ2 H2 st2 e A2 _
    refine ⟨by show s.toArray.size ≤ _; rw [List.size_toArray, List.length_map]; exact Nat.le_refl _, fun i w hw => ?_⟩
    rw [List.getElem?_map] at hw
    cases q : s[i]? with
    | none =>
      rw [q] at hw
      cases hw
    | some c =>
      rw [q] at hw
      cases hw
      refine ⟨by show i < s.toArray.size; rw [List.size_toArray]; exact (List.getElem?_eq_some_iff.mp q).1, fun x H3 y => ?_⟩
      obtain ⟨e1, c', hc, e2⟩ := y
      have hc2 : s[i]? = some c' := by simpa using hc
      rw [q] at hc2
      cases hc2
      subst e2
      exact ⟨e1, .str [c]⟩
  | @tup a xs ws hs hr =>
    refine .inr (.inl ⟨a, rfl, ⟨xs, hs⟩, k _ _ _ h (it_fix (a := a) hr A.mu fun H2 i => ⟨⟨xs, SqT.imm hs i, Nat.le_refl _⟩, fun j v hv => ⟨⟨xs, v, SqT.imm hs i, hv⟩, fun x H3 y => ?_⟩⟩)⟩)
    obtain ⟨e1, e2⟩ := y
    exact ⟨e1, Option.some.inj ((e2 xs (SqT.imm hs i)).symm.trans hv)⟩
  | @flst a xs ws hs hr =>
    refine .inl ⟨a, rfl, ⟨xs, hs.sq⟩, k _ _ _ h (it_fix (a := a) hr A.mu fun H2 i => ⟨⟨xs, (FrzL.imm hs i).sq, Nat.le_refl _⟩, fun j v hv => ⟨⟨xs, v, (FrzL.imm hs i).sq, hv⟩, fun x H3 y => ?_⟩⟩)⟩
    obtain ⟨e1, e2⟩ := y
    exact ⟨e1, Option.some.inj ((e2 xs (FrzL.imm hs i).sq).symm.trans hv)⟩
  | @loc a n hn =>
    obtain ⟨ws, e, p⟩ := h
    obtain ⟨xs, hx, hr⟩ := A.get hn e
    refine .inl ⟨a, rfl, ⟨xs, SqL.of hx⟩, k _ _ _ p ?_⟩
    intro μ2 H2 st2 e2 A2 kp
    obtain ⟨ys, hy, hr2⟩ := A2.get (pre_get e2.pre hn) kp
    refine ⟨⟨ys, SqL.of hy, by rw [hr2.length]; exact Nat.le_refl _⟩, fun i w hw => ?_⟩
    obtain ⟨v, hv, rv⟩ := hr2.get hw
    refine ⟨⟨ys, v, SqL.of hy, hv⟩, fun x H3 y => ?_⟩
    obtain ⟨e3, e4⟩ := y
    have e5 := (e4 ys (SqL.of hy)).symm.trans hv
    cases e5
    exact ⟨e3, rv⟩
  | _ => exact False.elim h
theorem range_ok (lo : Int) (n : Nat) : ItOk K mg (Itr lo n) ((List.range n).map fun (k : Nat) => .int (lo + k)) none μ H := by
  intro μ2 H2 st2 e A2 _
  refine ⟨by show n ≤ _; simp, fun i w hw => ?_⟩
  rw [List.getElem?_map] at hw
  cases q : (List.range n)[i]? with
  | none =>
    rw [q] at hw
    cases hw
  | some k =>
    rw [q] at hw
    cases hw
    obtain ⟨h1, h2⟩ := List.getElem?_eq_some_iff.mp q
    rw [List.length_range] at h1
    rw [List.getElem_range] at h2
    subst h2
    refine ⟨h1, fun x H3 y => ?_⟩
    obtain ⟨e1, e2⟩ := y
    subst e2
    exact ⟨e1, .int _⟩
end

/-! ### a def's call by values -/
def spD (K : PySem.W.Frag) (mg : Nat → Option Value) (f : List D → Sto → DK → Prop) : Sp := fun vs H Q _ => ∃ μ st ws P, Abs K mg μ H st ∧ Reps K mg μ H vs ws ∧ f ws st P ∧
  ∀ v w st' μ' H', P w st' → Abs K mg μ' H' st' → Ext μ H μ' H' → Rep K mg μ' H' v w → Q v H'

/-! ### readings -/
def vOf : D → V
  | .non => .non
  | .bl b => .bl b
  | .int i => .int i
  | .str s => .str ⟨s.toArray⟩
  | _ => .non
section
variable (K : PySem.W.Frag) (mg : Nat → Option Value) (call : Cal) (gv : Nat → V → Prop)
mutual
def rdE : E → TE
  | .var i => tVar i
  | .cst w => if immD w = true then tC (vOf w) else fun _ _ _ => False
  | .glob k => fun _ H Q => ∃ v, gv k v ∧ ∀ v, gv k v → Q v H
  | .bin op a b => tOp (rBin op) (rdE a) (rdE b)
  | .neg a => tUn (rU fun i => .int (-i)) (rdE a)
  | .cmp op a b => tOp (rCmp K op) (rdE a) (rdE b)
  | .chain o p a b c => tChain (rCmp K o) (rCmp K p) (rdE a) (rdE b) (rdE c)
  | .band a b => tAndT K (rdE a) (rdE b)
  | .bor a b => tOrT K (rdE a) (rdE b)
  | .bnot a => tNotT K (rdE a)
  | .ife c a b => tIf (rdT c) (rdE a) (rdE b)
  | .tup es => tTup (rdEs es)
  | .lst es => tLst (rdEs es)
  | .idx a b => tOp (rIx K) (rdE a) (rdE b)
  | .slc a lo hi => tSl (rSlice K) (rdE a) (rdEo lo) (rdEo hi)
  | .call f es => tCall (spD K mg (call f)) [] (fun _ _ _ => False) (rdEs es)
  | .blt f es => tCB (rBlt K f) (rdEs es)
  | .isi a t => tCB (rIsi K) (tCons (rdE a) (tCons (tC (.ty t.nm)) tNil))
  | .mth m o es => tBM K (tyMth m) (rMth K m) (rdE o) (rdEs es)
  | .comp own elt t it c => if (slT t).all (own.contains ·) = true then tLc (rdI it) (rdG t) (rdTeo c) (rdE elt) own else fun _ _ _ => False
def rdEo : Eo → TO
  | .no => tNoPart
  | .yes e => tPart (rdE e)
def rdEs : Es → TA
  | .nil => tNil
  | .cons e es => tCons (rdE e) (rdEs es)
def rdT : Te → TT
  | .val e => fun σ H Q => rdE e σ H fun x H' => ∃ k, TruV K x H' k ∧ Q k H'
  | .tst e => tTest (rdE e)
  | .and_ a b => tAnd (rdT a) (rdT b)
  | .or_ a b => tOr (rdT a) (rdT b)
  | .not_ a => tNot (rdT a)
def rdTeo : Teo → TT
  | .no => tYes
  | .yes e => rdT e
def rdG : T → TG
  | .name i => gName i
  | .tup ts => gTup K (lenTs ts) (rdGs ts)
  | .sub o i => gSub (rdE o) (rdE i) rSetL
def rdGs : Ts → TGs
  | .nil => gNil
  | .cons t ts => gCons (rdG t) (rdGs ts)
def rdI : I → TI
  | .exp e => iSeq K (rdE e)
  | .range1 a => iRng1 (tCons (rdE a) tNil)
  | .range2 a b => iRng2 (tCons (rdE a) (tCons (rdE b) tNil))
end
end
theorem wipe_set {σ : L2.St} {i : Nat} {x : Option V} : ∀ {vs : List Nat}, i ∈ vs → wipe (σ.set i x) vs = wipe σ vs := fun {vs} h => by
  have key : ∀ vs : List Nat, wipe (σ.set i x) vs = if i ∈ vs then wipe σ vs else (wipe σ vs).set i x := by
    intro vs
    induction vs with
    | nil => rfl
    | cons v vs ih =>
      show (wipe (σ.set i x) vs).set v none = if i ∈ v :: vs then (wipe σ vs).set v none else ((wipe σ vs).set v none).set i x
      rw [ih]
      by_cases h1 : i ∈ vs
      · rw [if_pos h1, if_pos (List.mem_cons_of_mem _ h1)]
      · rw [if_neg h1]
        by_cases h2 : i = v
        · subst h2
          rw [if_pos List.mem_cons_self, List.set_set]
        · rw [if_neg (by intro m; rcases List.mem_cons.mp m with m | m; exact h2 m; exact h1 m), List.set_comm _ _ h2]
  rw [key, if_pos h]
theorem wipe_wipe {σ : L2.St} {us : List Nat} : ∀ {vs : List Nat}, (∀ i ∈ vs, i ∈ us) → wipe (wipe σ vs) us = wipe σ us
  | [], _ => rfl
  | v :: vs, h => by
    show wipe ((wipe σ vs).set v none) us = wipe σ us
    rw [wipe_set (h v List.mem_cons_self), wipe_wipe fun i hi => h i (List.mem_cons_of_mem _ hi)]
section
variable (K : PySem.W.Frag) (mg : Nat → Option Value)
def OkG (sl : List Nat) (g : TG) (f : D → En → Sto → EK → Prop) : Prop := ∀ μ H st σ env v w (P : EK) (Q : L2.St → Hp → Prop), Abs K mg μ H st → EnvOk K mg μ H σ env → Rep K mg μ H v w → f w env st P →
  (∀ σ' env' st' μ' H', P env' st' → Abs K mg μ' H' st' → Ext μ H μ' H' → EnvOk K mg μ' H' σ' env' → (∀ vs, (∀ i ∈ sl, i ∈ vs) → wipe σ' vs = wipe σ vs) → Q σ' H') → g v σ H Q
def OkGs (sl : List Nat) (g : TGs) (f : List D → En → Sto → EK → Prop) : Prop := ∀ μ H st σ env vs ws (P : EK) (Q : L2.St → Hp → Prop), Abs K mg μ H st → EnvOk K mg μ H σ env → Reps K mg μ H vs ws → f ws env st P →
  (∀ σ' env' st' μ' H', P env' st' → Abs K mg μ' H' st' → Ext μ H μ' H' → EnvOk K mg μ' H' σ' env' → (∀ vs, (∀ i ∈ sl, i ∈ vs) → wipe σ' vs = wipe σ vs) → Q σ' H') → g vs σ H Q
def OkI (wi : TI) (f : En → Sto → (List D → Option (Nat × List D) → Sto → Prop) → Prop) : Prop := ∀ μ H st σ env (P : List D → Option (Nat × List D) → Sto → Prop) (R : It → Hp → Prop), Abs K mg μ H st → EnvOk K mg μ H σ env → f env st P →
  (∀ ws keep st' μ' H' J, P ws keep st' → Abs K mg μ' H' st' → Ext μ H μ' H' → ItOk K mg J ws keep μ' H' → R J H') → wi σ H R
end
/-! ### the list of a comprehension -/
section
variable {K : PySem.W.Frag} {mg : Nat → Option Value} {te : TE} {fe : WE} {tt : TT} {ft : WT} {g : TG} {fg : D → En → Sto → EK → Prop} {wi : TI} {fi : En → Sto → (List D → Option (Nat × List D) → Sto → Prop) → Prop} {own : List Nat} {sl : List Nat}
theorem okE_comp (hi : OkI K mg wi fi) (hg : OkG K mg sl g fg) (hsl : ∀ i ∈ sl, i ∈ own) (ht : OkT K mg tt ft) (he : OkE K mg te fe) :
    OkE K mg (tLc wi g tt te own) fun env st Q => fi env st fun ws keep st1 => compW (keepW keep)
      (fun w st K => fg w (wipeE env own) st fun env2 st2 => ft env2 st2 fun r st3 => if r = true then fe env2 st3 fun x st4 => K (some x) st4 else K none st3) Q ws [] st1 := fun μ H st σ env P Q A N h k => by
  refine hi μ H st σ env _ _ A N h fun ws keep st1 μ1 H1 J h1 A1 e1 hJ L hL => ?_
  have m1 := A1.mu
  have N1 := (N.go e1 A.mu).wipe own
  have iL : Imm H1 (upd H1 L (.lst [])) := imm_upd fun u q => by rw [hL] at q; cases q
  have Lμ : L ∉ μ1 := fun hm => by
    obtain ⟨o, q, _⟩ := m1 L hm
    rw [hL] at q
    cases q
  refine ⟨fun i m H2 => ∃ μ2 st2 acc accw, m = ws.length - i ∧ i ≤ ws.length ∧ Abs K mg μ2 H2 st2 ∧ Ext μ1 H1 μ2 H2 ∧ H2 L = some (.lst acc) ∧ L ∉ μ2 ∧ Reps K mg μ2 H2 acc accw ∧
      compW (keepW keep) (fun w st K => fg w (wipeE env own) st fun env2 st2 => ft env2 st2 fun r st3 => if r = true then fe env2 st3 fun x st4 => K (some x) st4 else K none st3) P (ws.drop i) accw st2,
    ⟨ws.length, μ1, st1, [], [], rfl, Nat.zero_le _, A1.go hL, ext_new hL, upd_same, Lμ, .nil, h1⟩, ?_⟩
  rintro i m H2 ⟨μ2, st2, acc, accw, rfl, hi', A2, e2, hL2, Lμ2, racc, hc⟩
  by_cases hlt : i < ws.length
  · rw [List.drop_eq_getElem_cons hlt] at hc
    obtain ⟨kp, hc⟩ := hc
    obtain ⟨_, hgo⟩ := hJ μ2 H2 st2 e2 A2 kp
    obtain ⟨go, hy⟩ := hgo i ws[i] (List.getElem?_eq_getElem hlt)
    refine .inr ⟨go, fun H' => ∃ μ2 st2 acc accw, Abs K mg μ2 H' st2 ∧ Ext μ1 H1 μ2 H' ∧ H' L = some (.lst acc) ∧ L ∉ μ2 ∧ Reps K mg μ2 H' acc accw ∧
      compW (keepW keep) (fun w st K => fg w (wipeE env own) st fun env2 st2 => ft env2 st2 fun r st3 => if r = true then fe env2 st3 fun x st4 => K (some x) st4 else K none st3) P (ws.drop (i + 1)) accw st2, fun H' hN => ?_, fun x H3 y => ?_⟩
    · obtain ⟨μ3, st3, acc3, accw3, B1, B2, B3, B4, B5, B6⟩ := hN
      exact ⟨ws.length - (i + 1), by omega, μ3, st3, acc3, accw3, rfl, hlt, B1, B2, B3, B4, B5, B6⟩
    · obtain ⟨eH, rx⟩ := hy x H3 y
      subst eH
      refine hg μ2 H3 st2 (wipe σ own) (wipeE env own) x ws[i] _ _ A2 (N1.go e2 m1) rx hc fun σ4 env4 st4 μ4 H4 h4 A4 e4 N4 hw4 => ⟨?_, ?_⟩
      · exact (hw4 own hsl).trans (wipe_wipe fun _ h => h)
      · refine ht μ4 H4 st4 σ4 env4 _ _ A4 N4 h4 fun b st5 μ5 H5 h5 A5 e5 => ?_
        have e45 := e4.trans e5
        have L5 : L ∉ μ5 := fun hm => by
          have z := e45.new L hm Lμ2
          rw [hL2] at z
          cases z
        have hL5 : H5 L = some (.lst acc) := e45.old _ _ hL2 Lμ2
        cases b with
        | true =>
          refine he μ5 H5 st5 σ4 env4 _ _ A5 (N4.go e5 A4.mu) h5 fun vy y st6 μ6 H6 h6 A6 e6 r6 => ?_
          obtain ⟨hz, h6⟩ := h6
          have e26 := e45.trans e6
          have L6 : L ∉ μ6 := fun hm => by
            have z := e26.new L hm Lμ2
            rw [hL2] at z
            cases z
          have hL6 : H6 L = some (.lst acc) := e26.old _ _ hL2 Lμ2
          have cell6 : ∀ u, H6 L = some u → isCell u = true := fun u q => by
            rw [hL6] at q
            cases q
            rfl
          have racc6 := (racc.go e26 A2.mu)
          refine ⟨acc, hL6, by rw [racc.length]; exact hz, μ6, st6, acc ++ [vy], accw ++ [y], A6.off L6 cell6, ?_, upd_same, L6, (racc6.append (.cons r6 .nil)).off (imm_upd cell6), h6⟩
          have e16 := e2.trans e26
          refine ⟨e16.pre, fun a o ha hn => ?_, e16.new⟩
          have hne : a ≠ L := fun z => by
            rw [z, hL] at ha
            cases ha
          rw [upd_ne hne]
          exact e16.old a o ha hn
        | false => exact ⟨μ5, st5, acc, accw, A5, e2.trans e45, hL5, L5, racc.go e45 A2.mu, h5⟩
  · have e : i = ws.length := by omega
    subst e
    rw [List.drop_length] at hc
    obtain ⟨kp, hc⟩ := hc
    obtain ⟨stop, _⟩ := hJ μ2 H2 st2 e2 A2 kp
    refine .inl ⟨stop, ?_⟩
    -- the list becomes a place of the store
    have A3 : Abs K mg (μ2 ++ [L]) H2 (st2 ++ [.lst accw]) := by
      refine ⟨by simp [A2.len], ?_, fun n a c q1 q2 => ?_⟩
      · rw [List.nodup_append]
        refine ⟨A2.nd, by simp, fun a ha b hb => ?_⟩
        rw [List.mem_singleton.mp hb]
        exact fun e => Lμ2 (e ▸ ha)
      · by_cases hn : n < μ2.length
        · rw [List.getElem?_append_left hn] at q1
          rw [List.getElem?_append_left (by rw [← A2.len]; exact hn)] at q2
          have z := A2.cell n a c q1 q2
          cases c with
          | lst us =>
            obtain ⟨ys, z1, z2⟩ := z
            exact ⟨ys, z1, Reps.imm (List.prefix_append _ _) (fun _ _ h _ => h) _ _ z2⟩
        · have en : n = μ2.length := by
            have := (List.getElem?_eq_some_iff.mp q1).1
            rw [List.length_append, List.length_singleton] at this
            omega
          subst en
          rw [List.getElem?_append_right (Nat.le_refl _), Nat.sub_self] at q1
          cases q1
          rw [A2.len, List.getElem?_append_right (Nat.le_refl _), Nat.sub_self] at q2
          cases q2
          exact ⟨acc, hL2, Reps.imm (List.prefix_append _ _) (fun _ _ h _ => h) _ _ racc⟩
    refine k _ _ _ _ _ hc A3 (e1.trans ⟨e2.pre.trans (List.prefix_append _ _), e2.old, fun a ha hn => ?_⟩) (loc_new A2)
    rcases List.mem_append.mp ha with ha | ha
    · exact e2.new a ha hn
    · rw [List.mem_singleton.mp ha]
      exact hL
end
end Dq

set_option Elab.async false
set_option linter.all false
set_option maxRecDepth 100000
set_option maxHeartbeats 2000000
/-! Dq6: every expression's reading gives what its run wants. -/
namespace Dq
open PySem PySem.Spec PyProof.Rows L2
section
variable {K : PySem.W.Frag} {mg : Nat → Option Value} {call : Cal} {cst : List D} {gv : Nat → V → Prop}
theorem okG_name (i : Nat) : OkG K mg [i] (gName i) fun w env st Q => Q (env.set i (some w)) st := fun μ H st σ env v w P Q A N r h k =>
  k _ _ st μ H h A .refl (N.set r) fun vs hv => wipe_set (hv i List.mem_cons_self)
theorem okGs_nil : OkGs K mg [] gNil fun ws env st Q => ws = [] ∧ Q env st := fun μ H st σ env vs ws P Q A N r h k => by
  obtain ⟨e, p⟩ := h
  subst e
  cases r
  exact ⟨rfl, k σ env st μ H p A .refl N fun _ _ => rfl⟩
theorem okGs_cons {s1 s2 : List Nat} {g : TG} {gs : TGs} {f : D → En → Sto → EK → Prop} {fs : List D → En → Sto → EK → Prop} (h1 : OkG K mg s1 g f) (h2 : OkGs K mg s2 gs fs) :
    OkGs K mg (s1 ++ s2) (gCons g gs) fun ws env st Q => ∃ w r, ws = w :: r ∧ f w env st fun env1 st1 => fs r env1 st1 Q := fun μ H st σ env vs ws P Q A N r h k => by
  obtain ⟨w, rr, e, h⟩ := h
  subst e
  cases r with
  | @cons v vr _ _ ra rb =>
    refine ⟨v, vr, rfl, h1 μ H st σ env v w _ _ A N ra h fun σ1 env1 st1 μ1 H1 p1 A1 e1 N1 w1 => ?_⟩
    refine h2 μ1 H1 st1 σ1 env1 vr rr P Q A1 N1 (rb.go e1 A.mu) p1 fun σ2 env2 st2 μ2 H2 p2 A2 e2 N2 w2 => ?_
    exact k σ2 env2 st2 μ2 H2 p2 A2 (e1.trans e2) N2 fun us hu => (w2 us fun i hi => hu i (List.mem_append_right _ hi)).trans (w1 us fun i hi => hu i (List.mem_append_left _ hi))
theorem okG_tup {s : List Nat} {n : Nat} {gs : TGs} {fs : List D → En → Sto → EK → Prop} (h : OkGs K mg s gs fs) :
    OkG K mg s (gTup K n gs) fun w env st Q => ∃ ws, w = .tup ws ∧ ws.length = n ∧ fs ws env st Q := fun μ H st σ env v w P Q A N r p k => by
  obtain ⟨ws, e, hn, p⟩ := p
  subst e
  cases r with
  | @tup a xs ws hs hr => exact ⟨a, xs, rfl, hs, hr.length.trans hn, h μ H st σ env xs ws P Q A N hr p k⟩
theorem okG_sub {to ti : TE} {fo fi : WE} (ho : OkE K mg to fo) (hi : OkE K mg ti fi) : OkG K mg [] (gSub to ti rSetL) fun w env st Q => fo env st fun x st1 => fi env st1 fun y st2 => setW st2 x y w fun st3 => Q env st3 := fun μ H st σ env v w P Q A N r p k => by
  refine ho μ H st σ env _ _ A N p fun vx x st1 μ1 H1 p1 A1 e1 r1 => ?_
  refine hi μ1 H1 st1 σ env _ _ A1 (N.go e1 A.mu) p1 fun vy y st2 μ2 H2 p2 A2 e2 r2 => ?_
  refine set_ok A2 (r1.go e2 A1.mu) r2 ((r.go e1 A.mu).go e2 A1.mu) p2 fun st3 μ3 H3 p3 A3 e3 => ?_
  exact k σ env st3 μ3 H3 p3 A3 ((e1.trans e2).trans e3) (((N.go e1 A.mu).go e2 A1.mu).go e3 A2.mu) fun _ _ => rfl
theorem okI_exp {te : TE} {fe : WE} (he : OkE K mg te fe) : OkI K mg (iSeq K te) fun env st Q => fe env st fun x st1 => seqW st1 x fun ws k => Q ws k st1 := fun μ H st σ env P R A N h k => by
  refine he μ H st σ env _ _ A N h fun vx x st1 μ1 H1 h1 A1 e1 r1 => ?_
  exact seq_ok A1 r1 h1 fun ws keep J p hJ => k ws keep st1 μ1 H1 J p A1 e1 hJ
theorem okI_range1 {te : TE} {fe : WE} (he : OkE K mg te fe) : OkI K mg (iRng1 (tCons te tNil)) fun env st Q => fe env st fun x st1 => ∃ j : Int, x = .int j ∧ -(2 ^ 62) ≤ j ∧ j < 2 ^ 62 ∧ Q ((List.range j.toNat).map fun (k : Nat) => .int k) none st1 := fun μ H st σ env P R A N h k => by
  refine he μ H st σ env _ _ A N h fun vx x st1 μ1 H1 h1 A1 e1 r1 => ?_
  obtain ⟨j, rfl, b1, b2, p⟩ := h1
  cases r1
  refine ⟨j, rfl, b1, b2, k _ _ st1 μ1 H1 _ p A1 e1 ?_⟩
  have z := range_ok (K := K) (mg := mg) (μ := μ1) (H := H1) 0 j.toNat
  simpa using z
theorem okI_range2 {ta tb : TE} {fa fb : WE} (ha : OkE K mg ta fa) (hb : OkE K mg tb fb) : OkI K mg (iRng2 (tCons ta (tCons tb tNil))) fun env st Q => fa env st fun x st1 => fb env st1 fun y st2 => ∃ i j : Int, x = .int i ∧ y = .int j ∧ (-(2 ^ 62) ≤ i ∧ i < 2 ^ 62 ∧ -(2 ^ 62) ≤ j ∧ j < 2 ^ 62) ∧
      Q ((List.range (j - i).toNat).map fun (k : Nat) => .int (i + k)) none st2 := fun μ H st σ env P R A N h k => by
  refine ha μ H st σ env _ _ A N h fun vx x st1 μ1 H1 h1 A1 e1 r1 => ?_
  refine hb μ1 H1 st1 σ env _ _ A1 (N.go e1 A.mu) h1 fun vy y st2 μ2 H2 h2 A2 e2 r2 => ?_
  obtain ⟨i, j, rfl, rfl, b, p⟩ := h2
  cases r1
  cases r2
  exact ⟨i, j, rfl, b, k _ _ st2 μ2 H2 _ p A2 (e1.trans e2) (range_ok i (j - i).toNat)⟩
theorem okE_chain {r r' : R2} {f g : Sto → D → D → (Bool → Prop) → Prop} {ta tb tc : TE} {fa fb fc : WE} (ha : OkE K mg ta fa) (hb : OkE K mg tb fb) (hc : OkE K mg tc fc)
    (hr : Ok2 K mg r fun st x y Q => f st x y fun b => Q (.bl b) st) (hr' : Ok2 K mg r' fun st x y Q => g st x y fun b => Q (.bl b) st) (mono : ∀ st x y (P Q : Bool → Prop), (∀ b, P b → Q b) → f st x y P → f st x y Q) :
    OkE K mg (tChain r r' ta tb tc) fun env st Q => fa env st fun x st1 => fb env st1 fun y st2 => f st2 x y fun b => if b = true then fc env st2 fun z st3 => g st3 y z fun b => Q (.bl b) st3 else Q (.bl false) st2 := fun μ H st σ env P Q A N h k => by
  refine ha μ H st σ env _ _ A N h fun vx x st1 μ1 H1 h1 A1 e1 r1 => ?_
  refine hb μ1 H1 st1 σ env _ _ A1 (N.go e1 A.mu) h1 fun vy y st2 μ2 H2 h2 A2 e2 r2 => ?_
  have N2 := (N.go e1 A.mu).go e2 A1.mu
  refine hr μ2 H2 st2 vx vy x y (fun w st3 => ∃ b, w = .bl b ∧ st3 = st2 ∧ if b = true then fc env st2 fun z st3 => g st3 y z fun b => P (.bl b) st3 else P (.bl false) st2) _ A2 (r1.go e2 A1.mu) r2 (mono _ _ _ _ _ (fun b q => ⟨b, rfl, rfl, q⟩) h2) fun v w st3 μ3 H3 h3 A3 e3 r3 => ?_
  obtain ⟨b, rfl, rfl, q⟩ := h3
  cases r3
  refine ⟨b, rfl, ?_⟩
  cases b with
  | true =>
    refine hc μ3 H3 _ σ env _ _ A3 (N2.go e3 A2.mu) q fun vz z st4 μ4 H4 h4 A4 e4 r4 => ?_
    exact hr' μ4 H4 st4 vy vz y z P Q A4 ((r2.go e3 A2.mu).go e4 A3.mu) r4 h4 fun v w st5 μ5 H5 p5 A5 e5 r5 => k v w st5 μ5 H5 p5 A5 ((((e1.trans e2).trans e3).trans e4).trans e5) r5
  | false => exact k _ _ _ _ _ q A3 ((e1.trans e2).trans e3) (.bl false)
theorem eqW_mono {st : Sto} {x y : D} {P Q : Bool → Prop} (h : ∀ b, P b → Q b) (p : eqW st x y P) : eqW st x y Q := by
  rcases p with ⟨a, p⟩ | ⟨k, d, e, a, b, c, f, p⟩
  · exact .inl ⟨a, h _ p⟩
  · exact .inr ⟨k, d, e, a, b, c, f, h _ p⟩
theorem inW_mono {st : Sto} {x y : D} {P Q : Bool → Prop} (h : ∀ b, P b → Q b) (p : inW st x y P) : inW st x y Q := by
  cases y with
  | str s => exact let ⟨c, a, p⟩ := p; ⟨c, a, h _ p⟩
  | tup ws => exact ⟨p.1, p.2.1, h _ p.2.2⟩
  | flst ws => exact ⟨p.1, p.2.1, h _ p.2.2⟩
  | loc n => exact let ⟨ws, a, b, c, p⟩ := p; ⟨ws, a, b, c, h _ p⟩
  | _ => exact p
theorem cmpW_mono (o : CmpOp) (st : Sto) (x y : D) (P Q : Bool → Prop) (h : ∀ b, P b → Q b) (p : cmpW st o x y P) : cmpW st o x y Q := by
  cases o with
  | Eq => exact eqW_mono h p
  | NotEq => exact eqW_mono (fun b => h _) p
  | In => exact inW_mono h p
  | NotIn => exact inW_mono (fun b => h _) p
  | Is => cases y <;> first | exact h _ p | (cases x <;> exact False.elim p)
  | IsNot => cases y <;> first | exact h _ p | (cases x <;> exact False.elim p)
  | _ => cases x <;> cases y <;> first | exact h _ p | exact False.elim p
theorem okE_mth (m : Mt) {to : TE} {fo : WE} {ta : TA} {fa : WA} (ho : OkE K mg to fo) (ha : OkA K mg ta fa) : OkE K mg (tBM K (tyMth m) (rMth K m) to ta) fun env st Q => fo env st fun x st1 => mthTy st1 m x ∧ fa env st1 fun xs st2 => mthW st2 m x xs Q := fun μ H st σ env P Q A N h k => by
  refine ho μ H st σ env _ _ A N h fun vx x st1 μ1 H1 h1 A1 e1 r1 => ⟨tyMth_ok m A1 r1 h1.1, ?_⟩
  refine ha μ1 H1 st1 σ env _ _ A1 (N.go e1 A.mu) h1.2 fun vs xs st2 μ2 H2 h2 A2 e2 r2 => ?_
  exact rMth_ok m A2 (r1.go e2 A1.mu) r2 h2 fun v w st3 μ3 H3 p A3 e3 r3 => k v w st3 μ3 H3 p A3 ((e1.trans e2).trans e3) r3
theorem okE_isi (t : Ty) {te : TE} {fe : WE} (he : OkE K mg te fe) : OkE K mg (tCB (rIsi K) (tCons te (tCons (tC (.ty t.nm)) tNil))) fun env st Q => fe env st fun x st1 => ∃ b, isiB x t = some b ∧ Q (.bl b) st1 := fun μ H st σ env P Q A N h k => by
  refine he μ H st σ env _ _ A N h fun vx x st1 μ1 H1 h1 A1 e1 r1 => ?_
  obtain ⟨b, hb, p⟩ := h1
  obtain ⟨ty, hx, hk⟩ := tyX_of r1 hb
  exact ⟨vx, .ty t.nm, .type ty, .type t.nm, b, rfl, .ty _, hx, kit_ty hk, k _ _ st1 μ1 H1 p A1 e1 (.bl b)⟩
theorem okE_calls (f : Nat) {ta : TA} {fa : WA} (ha : OkA K mg ta fa) : OkE K mg (tCall (spD K mg (call f)) [] (fun _ _ _ => False) ta) fun env st Q => fa env st fun xs st1 => call f xs st1 Q := fun μ H st σ env P Q A N h k => by
  refine ha μ H st σ env _ _ A N h fun vs xs st1 μ1 H1 h1 A1 e1 r1 => ?_
  show spD K mg (call f) (vs ++ []) H1 Q _
  rw [List.append_nil]
  exact ⟨μ1, st1, xs, P, A1, r1, h1, fun v w st2 μ2 H2 p A2 e2 r2 => k v w st2 μ2 H2 p A2 (e1.trans e2) r2⟩
theorem imm_rep {w : D} (h : immD w = true) (μ : List Addr) (H : Hp) : Rep K mg μ H (vOf w) w := by
  cases w with
  | non => exact .non
  | bl b => exact .bl b
  | int i => exact .int i
  | str s => exact .str s
  | _ => cases h
theorem okE_never {f : WE} (h : ∀ env st Q, ¬ f env st Q) : OkE K mg (fun _ _ _ => False) f := fun μ H st σ env P Q A N p k => h env st P p
variable (hgv : ∀ k w, cst[k]? = some w → (∃ v, gv k v) ∧ ∀ v, gv k v → ∀ μ H, Rep K mg μ H v w)
include hgv
mutual
theorem okE : ∀ e : E, OkE K mg (rdE K mg call gv e) (wpE call cst e)
  | .var i => okE_var i
  | .cst w => fun μ H st σ env P Q A N p k => by
    show (if immD w = true then tC (vOf w) else fun _ _ _ => False) σ H Q
    rw [if_pos p.1]
    exact k _ w st μ H p.2 A .refl (imm_rep p.1 μ H)
  | .glob j => fun μ H st σ env P Q A N p k => by
    obtain ⟨w, e, p⟩ := p
    obtain ⟨h1, h2⟩ := hgv j w e
    exact ⟨h1.choose, h1.choose_spec, fun v hv => k v w st μ H p A .refl (h2 v hv μ H)⟩
  | .bin op a b => okE_op (okE a) (okE b) (rBin_ok op)
  | .neg a => okE_neg (okE a)
  | .cmp op a b => okE_op (okE a) (okE b) (rCmp_ok op)
  | .chain o p a b c => okE_chain (okE a) (okE b) (okE c) (rCmp_ok o) (rCmp_ok p) (cmpW_mono o)
  | .band a b => okE_and (okE a) (okE b)
  | .bor a b => okE_or (okE a) (okE b)
  | .bnot a => okE_not (okE a)
  | .ife c a b => okE_if (okT c) (okE a) (okE b)
  | .tup es => okE_tup (okEs es)
  | .lst es => okE_lst (okEs es)
  | .idx a b => okE_op (okE a) (okE b) idx_ok
  | .slc a lo hi => okE_slc (okE a) (okEo lo) (okEo hi)
  | .call f es => okE_calls f (okEs es)
  | .blt f es => okE_call (okEs es) (rBlt_ok f)
  | .isi a t => okE_isi t (okE a)
  | .mth m o es => okE_mth m (okE o) (okEs es)
  | .comp own elt t it c => fun μ H st σ env P Q A N p k => by
    show (if (slT t).all (own.contains ·) = true then tLc (rdI K mg call gv it) (rdG K mg call gv t) (rdTeo K mg call gv c) (rdE K mg call gv elt) own else fun _ _ _ => False) σ H Q
    rw [if_pos p.1]
    exact okE_comp (okI it) (okG t) (fun i hi => by simpa using List.all_eq_true.mp p.1 i hi) (okTeo c) (okE elt) μ H st σ env P Q A N p.2 k
theorem okEo : ∀ e : Eo, OkO K mg (rdEo K mg call gv e) (wpEo call cst e)
  | .no => okO_no
  | .yes e => okO_yes (okE e)
theorem okEs : ∀ e : Es, OkA K mg (rdEs K mg call gv e) (wpEs call cst e)
  | .nil => okA_nil
  | .cons e es => okA_cons (okE e) (okEs es)
theorem okT : ∀ e : Te, OkT K mg (rdT K mg call gv e) (wpT call cst e)
  | .val e => okT_tru (okE e)
  | .tst e => okT_test (okE e)
  | .and_ a b => okT_and (okT a) (okT b)
  | .or_ a b => okT_or (okT a) (okT b)
  | .not_ a => okT_not (okT a)
theorem okTeo : ∀ e : Teo, OkT K mg (rdTeo K mg call gv e) (wpTeo call cst e)
  | .no => fun μ H st σ env P Q A N p k => k true st μ H p A .refl
  | .yes e => okT e
theorem okG : ∀ t : T, OkG K mg (slT t) (rdG K mg call gv t) (wpTg call cst t)
  | .name i => okG_name i
  | .tup ts => okG_tup (okGs ts)
  | .sub o i => okG_sub (okE o) (okE i)
theorem okGs : ∀ t : Ts, OkGs K mg (slTs t) (rdGs K mg call gv t) (wpTgs call cst t)
  | .nil => okGs_nil
  | .cons t ts => okGs_cons (okG t) (okGs ts)
theorem okI : ∀ i : I, OkI K mg (rdI K mg call gv i) (wpI call cst i)
  | .exp e => okI_exp (okE e)
  | .range1 a => okI_range1 (okE a)
  | .range2 a b => okI_range2 (okE a) (okE b)
end
end
end Dq

set_option Elab.async false
set_option linter.all false
set_option maxRecDepth 100000
set_option maxHeartbeats 2000000
/-! Dq7: from the program's text to the language, expressions. -/
namespace Dq
open PySem PySem.Spec PyProof.Rows L2

/-! ### names -/
def ixOf : List Str → Str → Option Nat
  | [], _ => none
  | y :: r, x => if x = y then some 0 else (ixOf r x).map (· + 1)
theorem ixOf_ok : ∀ {N : List Str} {x : Str} {i : Nat}, ixOf N x = some i → N[i]? = some x
  | [], _, _, h => by cases h
  | y :: r, x, i, h => by
    unfold ixOf at h
    by_cases e : x = y
    · rw [if_pos e] at h
      cases h
      rw [e] <;> rfl
    · rw [if_neg e] at h
      cases q : ixOf r x with
      | none =>
        rw [q] at h
        cases h
      | some j =>
        rw [q] at h
        cases h
        have z := ixOf_ok q
        exact z
structure Gm where
  fnames : List Str
  cnames : List Str
  free : List Str
structure CC where
  N : List Str
  sc : Scope
  G : Gm
def dbg (x : Str) : Bool := (x == ("__debug__" : Str)) || (x == ("__classdict__" : Str)) || (x == ("__name__" : Str))
theorem dbg_ok {x : Str} (h : dbg x = false) : (x == ("__debug__" : Str)) = false ∧ (x == ("__classdict__" : Str)) = false ∧ x ≠ "__name__" := by
  unfold dbg at h
  rw [Bool.or_eq_false_iff, Bool.or_eq_false_iff] at h
  exact ⟨h.1.1, h.1.2, fun e => by rw [e] at h; simp at h⟩
inductive Nk where
  | own | glo | bad
def kindC (c : CC) (x : Str) : Nk := match c.sc.names.lookup x with
  | some .local => .own
  | some .cell => .own
  | some .free => .own
  | some .globalImplicit => .glo
  | _ => .bad
def bltOf (x : Str) : Option Bt :=
  if x = "len" then some .len else if x = "abs" then some .abs else if x = "max" then some .max else if x = "min" then some .min
  else if x = "int" then some .int else if x = "tuple" then some .tuple else if x = "list" then some .list else if x = "all" then some .all
  else if x = "any" then some .any else none
def tyOf (x : Str) : Option Ty := if x = "int" then some .int else if x = "str" then some .str else if x = "bool" then some .bool else if x = "tuple" then some .tuple else none
def mthOf (m : Str) (n : Nat) : Option Mt :=
  if m = "append" ∧ n = 1 then some .append else if m = "pop" ∧ n = 0 then some .pop else if m = "join" ∧ n = 1 then some .join else none

/-! ### the text's forms -/
def noStar : Expr → Bool
  | .Starred _ _ => false
  | _ => true
def plainIx : Expr → Bool
  | .Slice _ _ _ _ => false
  | _ => true
def noCall : Expr → Bool
  | .Call _ _ _ _ => false
  | _ => true
def noSet : Expr → Bool
  | .Set _ _ _ => false
  | _ => true
def noComp : Expr → Bool
  | .ListComp _ _ _ _ => false
  | .SetComp _ _ _ _ => false
  | .DictComp _ _ _ _ _ => false
  | _ => true
structure Cp where
  e : CC → Expr → Option E
  t : CC → Expr → Option Te
  g : CC → Expr → Option T
def cArgs (f : Expr → Option E) : List Expr → Option Es
  | [] => some .nil
  | a :: es => if noStar a = true then (f a).bind fun a' => (cArgs f es).bind fun es' => some (.cons a' es') else none
def cTs (f : Expr → Option T) : List Expr → Option Ts
  | [] => some .nil
  | a :: es => if noStar a = true then (f a).bind fun a' => (cTs f es).bind fun es' => some (.cons a' es') else none
def cPart (f : Expr → Option E) : Option Expr → Option Eo
  | none => some .no
  | some e => (f e).bind fun e' => some (.yes e')
def isRange (c : CC) (x : Str) : Bool := decide (x = "range") && (match kindC c x with | .glo => true | _ => false) && c.G.free.contains x
def cI (r : Cp) (c : CC) (e : Expr) : Option I := match e with
  | .Call (.Name x _) [a] [] _ => if isRange c x = true then (if noStar a = true then (r.e c a).bind fun a' => some (.range1 a') else none) else (r.e c e).bind fun e' => some (.exp e')
  | .Call (.Name x _) [a, b] [] _ => if isRange c x = true then (if noStar a = true then (if noStar b = true then (r.e c a).bind fun a' => (r.e c b).bind fun b' => some (.range2 a' b') else none) else none) else (r.e c e).bind fun e' => some (.exp e')
  | e => if noSet e = true then (r.e c e).bind fun e' => some (.exp e') else none
def cCond (r : Cp) (c : CC) : List Expr → Option Teo
  | [] => some .no
  | [a] => (r.t c a).bind fun a' => some (.yes a')
  | _ => none
def ownOf (N : List Str) (sl : List Nat) : List (Str × Nat) := sl.map fun i => (N.getD i Str.empty, i)
def cComp (r : Cp) (c : CC) (elt tg iter : Expr) (ifs : List Expr) (scope : Scope) : Option E :=
  (cI r c iter).bind fun it => (r.g { c with sc := scope } tg).bind fun t => (r.e { c with sc := scope } elt).bind fun el => (cCond r { c with sc := scope } ifs).bind fun cd =>
    if blkC c.N c.sc scope (ownOf c.N (slT t)) = true then some (.comp (slT t) el t it cd) else none
def cCall (r : Cp) (c : CC) (x : Str) (args : List Expr) : Option E :=
  if dbg x = true then none else match kindC c x with
    | .glo => (match ixOf c.G.fnames x with
      | some k => (cArgs (r.e c) args).bind fun es => some (.call k es)
      | none => if c.G.free.contains x = true then (match args with
        | [a, .Name y _] => if x = "isinstance" then (if dbg y = true then none else match kindC c y with
            | .glo => if c.G.free.contains y = true then (if noStar a = true then (tyOf y).bind fun t => (r.e c a).bind fun a' => some (.isi a' t) else none) else none
            | _ => none)
          else (bltOf x).bind fun b => (cArgs (r.e c) args).bind fun es => some (.blt b es)
        | [] => none
        | _ => (bltOf x).bind fun b => (cArgs (r.e c) args).bind fun es => some (.blt b es)) else none)
    | _ => none
def stE (r : Cp) (c : CC) : Expr → Option E
  | .Name x _ => if dbg x = true then none else match kindC c x with
    | .own => (ixOf c.N x).bind fun i => some (.var i)
    | .glo => (ixOf c.G.cnames x).bind fun k => some (.glob k)
    | .bad => none
  | .Constant (.int i) _ _ => some (.cst (.int i))
  | .Constant (.bool b) _ _ => some (.cst (.bl b))
  | .Constant .none _ _ => some (.cst .non)
  | .Constant (.str s) _ _ => some (.cst (.str s.cps.toList))
  | .BinOp a op b _ => (r.e c a).bind fun a' => (r.e c b).bind fun b' => some (.bin op a' b')
  | .UnaryOp .Not a _ => (r.e c a).bind fun a' => some (.bnot a')
  | .UnaryOp .USub a _ => (r.e c a).bind fun a' => some (.neg a')
  | .BoolOp _ [a] _ => r.e c a
  | .BoolOp .And (a :: b :: rest) pos => (r.e c a).bind fun a' => (r.e c (.BoolOp .And (b :: rest) pos)).bind fun b' => some (.band a' b')
  | .BoolOp .Or (a :: b :: rest) pos => (r.e c a).bind fun a' => (r.e c (.BoolOp .Or (b :: rest) pos)).bind fun b' => some (.bor a' b')
  | .Compare a [op] [b] _ => if noSet b = true then (r.e c a).bind fun a' => (r.e c b).bind fun b' => some (.cmp op a' b') else none
  | .Compare a [o, p] [b, d] _ => if noSet d = true then (r.e c a).bind fun a' => (r.e c b).bind fun b' => (r.e c d).bind fun d' => some (.chain o p a' b' d') else none
  | .IfExp t a b _ => (r.t c t).bind fun t' => (r.e c a).bind fun a' => (r.e c b).bind fun b' => some (.ife t' a' b')
  | .Tuple es _ _ => (cArgs (r.e c) es).bind fun es' => some (.tup es')
  | .List es _ => (cArgs (r.e c) es).bind fun es' => some (.lst es')
  | .Subscript a (.Slice lo hi none _) _ => (r.e c a).bind fun a' => (cPart (r.e c) lo).bind fun lo' => (cPart (r.e c) hi).bind fun hi' => some (.slc a' lo' hi')
  | .Subscript a b _ => if plainIx b = true then (r.e c a).bind fun a' => (r.e c b).bind fun b' => some (.idx a' b') else none
  | .Call (.Name x _) args [] _ => cCall r c x args
  | .Call (.Attribute o m apos) args [] pos => if noCall o = true then (if (apos.endLine == pos.line) = true then (if args.length < 20 then (mthOf m args.length).bind fun mt => (r.e c o).bind fun o' => (cArgs (r.e c) args).bind fun es => some (.mth mt o' es) else none) else none) else none
  | .ListComp elt [⟨tg, iter, ifs, 0⟩] scope _ => cComp r c elt tg iter ifs scope
  | _ => none
def stT (r : Cp) (c : CC) : Expr → Option Te
  | .BoolOp _ [a] _ => r.t c a
  | .BoolOp .And (a :: b :: rest) pos => (r.t c a).bind fun a' => (r.t c (.BoolOp .And (b :: rest) pos)).bind fun b' => some (.and_ a' b')
  | .BoolOp .Or (a :: b :: rest) pos => (r.t c a).bind fun a' => (r.t c (.BoolOp .Or (b :: rest) pos)).bind fun b' => some (.or_ a' b')
  | .UnaryOp .Not a _ => (r.t c a).bind fun a' => some (.not_ a')
  | .Compare a [op] [b] _ => if noSet b = true then (r.e c a).bind fun a' => (r.e c b).bind fun b' => some (.tst (.cmp op a' b')) else none
  | .Compare a [o, p] [b, d] _ => if noSet d = true then (r.e c a).bind fun a' => (r.e c b).bind fun b' => (r.e c d).bind fun d' => some (.tst (.chain o p a' b' d')) else none
  | .Name x p => (r.e c (.Name x p)).bind fun e' => some (.val e')
  | .Constant k j p => (r.e c (.Constant k j p)).bind fun e' => some (.val e')
  | .Call f a k p => (r.e c (.Call f a k p)).bind fun e' => some (.val e')
  | .Subscript a b p => (r.e c (.Subscript a b p)).bind fun e' => some (.val e')
  | .BinOp a o b p => (r.e c (.BinOp a o b p)).bind fun e' => some (.val e')
  | _ => none
def stG (r : Cp) (c : CC) : Expr → Option T
  | .Name x _ => match c.sc.names.lookup x with
    | some .local => (ixOf c.N x).bind fun i => some (.name i)
    | some .cell => (ixOf c.N x).bind fun i => some (.name i)
    | _ => none
  | .Tuple ts _ _ => (cTs (r.g c) ts).bind fun ts' => some (.tup ts')
  | .Subscript o i _ => if plainIx i = true then (r.e c o).bind fun o' => (r.e c i).bind fun i' => some (.sub o' i') else none
  | _ => none
def cp : Nat → Cp
  | 0 => ⟨fun _ _ => none, fun _ _ => none, fun _ _ => none⟩
  | n + 1 => ⟨stE (cp n), stT (cp n), stG (cp n)⟩

/-! ### the context -/
def mgN (G : Gm) (mg : Str → Option Value) : Nat → Option Value := fun k => (G.fnames[k]?).bind mg
def gvN (G : Gm) (mg : Str → Option Value) : Nat → V → Prop := fun k v => ∃ x u, G.cnames[k]? = some x ∧ mg x = some u ∧ RelV v u
structure XG (call : Cal) (n : Nat) (c : CC) (X : Cx) : Prop where
  calm : X.calm = true
  hN : X.N = c.N
  nd : X.N.Nodup
  room : Room n X.A
  xe : X.xe = fun _ _ => False
  own : ∀ x k, c.sc.names.lookup x = some k → k = .local ∨ k = .cell ∨ k = .free → Vis X.env.scope x
  sto : ∀ x, c.sc.names.lookup x = some .local ∨ c.sc.names.lookup x = some .cell → Loc X.env.scope x ∧ (X.fn x = true ∨ X.env.scope.names.lookup x = some .local)
  loc : ∀ x, c.sc.names.lookup x = some .local → X.env.scope.names.lookup x = some .local
  fre : ∀ x, c.sc.names.lookup x = some .cell ∨ c.sc.names.lookup x = some .free → X.env.scope.names.lookup x = some .cell ∨ X.env.scope.names.lookup x = some .free
  glo : ∀ x, c.sc.names.lookup x = some .globalImplicit → Gl X x
  cst : ∀ (k : Nat) (x : Str), c.G.cnames[k]? = some x → ∃ u v, X.mg x = some u ∧ RelV v u
  bfr : ∀ x, c.G.free.contains x = true → X.mg x = none
  fns : ∀ (k : Nat) (f : Str), c.G.fnames[k]? = some f → ∃ a fd ps, X.mg f = some (.ref a) ∧ PySem.W.keepIn X.K (.ref a) = true ∧ Binds X.K fd ps [] ∧ FnOk X.prog X.w X.K X.mg X.base CX0 n a fd ps (spD X.K (mgN c.G X.mg) (call k))
abbrev rE (call : Cal) (c : CC) (X : Cx) : E → TE := rdE X.K (mgN c.G X.mg) call (gvN c.G X.mg)
abbrev rEs (call : Cal) (c : CC) (X : Cx) : Es → TA := rdEs X.K (mgN c.G X.mg) call (gvN c.G X.mg)
abbrev rEo (call : Cal) (c : CC) (X : Cx) : Eo → TO := rdEo X.K (mgN c.G X.mg) call (gvN c.G X.mg)
abbrev rT (call : Cal) (c : CC) (X : Cx) : Te → TT := rdT X.K (mgN c.G X.mg) call (gvN c.G X.mg)
abbrev rTo (call : Cal) (c : CC) (X : Cx) : Teo → TT := rdTeo X.K (mgN c.G X.mg) call (gvN c.G X.mg)
abbrev rG (call : Cal) (c : CC) (X : Cx) : T → TG := rdG X.K (mgN c.G X.mg) call (gvN c.G X.mg)
abbrev rGs (call : Cal) (c : CC) (X : Cx) : Ts → TGs := rdGs X.K (mgN c.G X.mg) call (gvN c.G X.mg)
abbrev rI (call : Cal) (c : CC) (X : Cx) : I → TI := rdI X.K (mgN c.G X.mg) call (gvN c.G X.mg)
/-- the texts' forms keep their promises -/
structure CpOk (r : Cp) : Prop where
  e : ∀ (call : Cal) (n : Nat) (c : CC) (X : Cx) (a : Expr) (i : E), XG call n c X → r.e c a = some i → PE X a (rE call c X i)
  t : ∀ (call : Cal) (n : Nat) (c : CC) (X : Cx) (a : Expr) (i : Te), XG call n c X → r.t c a = some i → PT X a (rT call c X i) ∧ ((∃ o vs p, a = .BoolOp o vs p) → PW X a (rT call c X i))
  g : ∀ (call : Cal) (n : Nat) (c : CC) (X : Cx) (a : Expr) (i : T), XG call n c X → r.g c a = some i → PG X a (rG call c X i)

/-! ### side conditions -/
theorem star_cons {a : Expr} {es : List Expr} {env : Env} (h : noStar a = true) : starEach (a :: es) env = (false, eval a env) :: starEach es env := by
  cases a <;> first | rfl | cases h
theorem bindS {α β : Type} {o : Option α} {f : α → Option β} {b : β} (h : o.bind f = some b) : ∃ a, o = some a ∧ f a = some b := Option.bind_eq_some_iff.mp h
theorem ifS {α : Type} {p : Prop} [Decidable p] {a : Option α} {b : α} (h : (if p then a else none) = some b) : p ∧ a = some b := by
  by_cases q : p
  · rw [if_pos q] at h
    exact ⟨q, h⟩
  · rw [if_neg q] at h
    cases h
theorem back_star {pos : Pos} : ∀ {l : List (Bool × Sem Value)}, (∀ x ∈ l, x.1 = false) → (backTo pos l).any (·.1) = false ∧ (backTo pos l).all (fun x => !x.1) = true
  | [], _ => ⟨rfl, rfl⟩
  | x :: l, h => by
    obtain ⟨h1, h2⟩ := back_star (pos := pos) (l := l) fun y hy => h y (List.mem_cons_of_mem _ hy)
    have hx := h x List.mem_cons_self
    obtain ⟨b, t⟩ := x
    have hb : b = false := hx
    subst hb
    constructor
    · show (false || (backTo pos l).any (·.1)) = false
      rw [h1] <;> rfl
    · show (!false && (backTo pos l).all fun x => !x.1) = true
      rw [h2] <;> rfl
theorem stars_no {env : Env} : ∀ {es : List Expr}, es.all noStar = true → ∀ x ∈ starEach es env, x.1 = false
  | [], _, x, hx => by cases hx
  | a :: es, h, x, hx => by
    rw [List.all_cons, Bool.and_eq_true] at h
    rw [star_cons h.1] at hx
    rcases List.mem_cons.mp hx with e | hx
    · rw [e]
    · exact stars_no h.2 x hx
end Dq

set_option Elab.async false
set_option linter.all false
set_option maxRecDepth 100000
set_option maxHeartbeats 4000000
/-! Dq8: the text's expressions have the readings of the language's. -/
namespace Dq
open PySem PySem.Spec PyProof.Rows L2

section
variable {call : Cal} {n : Nat} {c : CC} {X : Cx} {r : Cp}
theorem PE.weak {X : Cx} {e : Expr} {t t' : TE} (h : PE X e t) (i : ∀ σ H Q, t' σ H Q → t σ H Q) : PE X e t' := ⟨fun pins s σ H Q I q => h.run pins s σ H Q I (i _ _ _ q)⟩
theorem kind_own {c : CC} {x : Str} (h : kindC c x = .own) : ∃ k, c.sc.names.lookup x = some k ∧ (k = .local ∨ k = .cell ∨ k = .free) := by
  unfold kindC at h
  split at h <;> first | exact ⟨_, by assumption, .inl rfl⟩ | exact ⟨_, by assumption, .inr (.inl rfl)⟩ | exact ⟨_, by assumption, .inr (.inr rfl)⟩ | cases h
theorem kind_glo {c : CC} {x : Str} (h : kindC c x = .glo) : c.sc.names.lookup x = some .globalImplicit := by
  unfold kindC at h
  split at h <;> first | assumption | cases h
theorem args_ok (hf : ∀ a i, r.e c a = some i → PE X a (rE call c X i)) : ∀ (es : List Expr) (i : Es), cArgs (r.e c) es = some i → PA X es (rEs call c X i) ∧ es.all noStar = true
  | [], i, h => by
    cases h
    exact ⟨pa_nil, rfl⟩
  | a :: es, i, h => by
    unfold cArgs at h
    obtain ⟨h0, h⟩ := ifS h
    obtain ⟨a', h1, h⟩ := bindS h
    obtain ⟨es', h2, h⟩ := bindS h
    cases h
    obtain ⟨p, q⟩ := args_ok hf es es' h2
    exact ⟨pa_cons (hf a a' h1) p (star_cons h0), by rw [List.all_cons, h0, q] <;> rfl⟩
theorem part_ok (hf : ∀ a i, r.e c a = some i → PE X a (rE call c X i)) (o : Option Expr) (i : Eo) (h : cPart (r.e c) o = some i) : PO X o (rEo call c X i) := by
  cases o with
  | none =>
    cases h
    exact po_none
  | some e =>
    obtain ⟨e', h1, h⟩ := bindS h
    cases h
    exact po_some (hf e e' h1)
theorem behind_no {op : CmpOp} {b : Expr} (h : noSet b = true) : behindInMarks op b = false := by
  cases b <;> first | rfl | cases h
theorem plain_ix {b : Expr} (h : plainIx b = true) : PlainIx b := fun o i => by
  cases b <;> first | rfl | cases h
theorem base_no {o : Expr} {m : Str} {env : Env} (h : noCall o = true) : attributeBase o m env (eval o env) = eval o env := by
  cases o <;> first | rfl | cases h
theorem fold_no {e : Expr} {env : Env} (h : noSet e = true) (x : Value) : foldedSetIterable e env x = pure x := by
  cases e <;> first | rfl | cases h
theorem tst_name {x : Str} {p : Pos} (w : Sem Value) : isTrue (.Name x p) X.env w = (do let v ← w; standAt (Expr.Name x p).pos; holding [v] (truthy v)) := by rfl

/-! ### calls of builtins -/
theorem blt_pe {x : Str} {b : Bt} {e : Expr} {es : List Expr} {t : TA} {p pos : Pos} (hb : bltOf x = some b) (hg : Gl X x) (hm : X.mg x = none) (hc : X.calm = true) (ha : PA X (e :: es) t) (hs : (e :: es).all noStar = true) (hd : dbg x = false) :
    PE X (.Call (.Name x p) (e :: es) [] pos) (tCB (rBlt X.K b) t) := by
  obtain ⟨d1, d2, d3⟩ := dbg_ok hd
  have h1 : starEach (e :: es) X.env = (false, eval e X.env) :: starEach es X.env := star_cons (by rw [List.all_cons, Bool.and_eq_true] at hs; exact hs.1)
  have h2 : (backTo pos (starEach es X.env)).any (·.1) = false := (back_star (stars_no (by rw [List.all_cons, Bool.and_eq_true] at hs; exact hs.2))).1
  unfold bltOf at hb
  by_cases e1 : x = "len"
  · subst e1
    rw [if_pos rfl] at hb
    cases hb
    exact pe_callB call_len hg hm boot_len ha d3 d1 h1 h2
  rw [if_neg e1] at hb
  by_cases e1 : x = "abs"
  · subst e1
    rw [if_pos rfl] at hb
    cases hb
    exact pe_callB call_abs hg hm (by decide +kernel) ha d3 d1 h1 h2
  rw [if_neg e1] at hb
  by_cases e1 : x = "max"
  · subst e1
    rw [if_pos rfl] at hb
    cases hb
    exact pe_callB (call_max2 hc) hg hm (by decide +kernel) ha d3 d1 h1 h2
  rw [if_neg e1] at hb
  by_cases e1 : x = "min"
  · subst e1
    rw [if_pos rfl] at hb
    cases hb
    exact pe_callB (call_min2 hc) hg hm (by decide +kernel) ha d3 d1 h1 h2
  rw [if_neg e1] at hb
  by_cases e1 : x = "int"
  · subst e1
    rw [if_pos rfl] at hb
    cases hb
    exact pe_callTy call_int1 hg hm (by decide +kernel) ha d3 d1 h1 h2
  rw [if_neg e1] at hb
  by_cases e1 : x = "tuple"
  · subst e1
    rw [if_pos rfl] at hb
    cases hb
    exact pe_callTy call_tuple_of hg hm (by decide +kernel) ha d3 d1 h1 h2
  rw [if_neg e1] at hb
  by_cases e1 : x = "list"
  · subst e1
    rw [if_pos rfl] at hb
    cases hb
    exact pe_callTy call_list_of hg hm (by decide +kernel) ha d3 d1 h1 h2
  rw [if_neg e1] at hb
  by_cases e1 : x = "all"
  · subst e1
    rw [if_pos rfl] at hb
    cases hb
    exact pe_callB (cr_all hc) hg hm (by decide +kernel) ha d3 d1 h1 h2
  rw [if_neg e1] at hb
  by_cases e1 : x = "any"
  · subst e1
    rw [if_pos rfl] at hb
    cases hb
    exact pe_callB (cr_any hc) hg hm (by decide +kernel) ha d3 d1 h1 h2
  rw [if_neg e1] at hb
  cases hb
theorem ty_pe {y : Str} {t : Ty} {p : Pos} (ht : tyOf y = some t) (hg : Gl X y) (hm : X.mg y = none) (hd : dbg y = false) : PE X (.Name y p) (tC (.ty t.nm)) := by
  obtain ⟨d1, d2, d3⟩ := dbg_ok hd
  unfold tyOf at ht
  by_cases e1 : y = "int"
  · subst e1
    rw [if_pos rfl] at ht
    cases ht
    exact pe_bltn hg hm (by decide +kernel) (show RelV (.ty "int") (.type "int") from rfl) d3 d1
  rw [if_neg e1] at ht
  by_cases e1 : y = "str"
  · subst e1
    rw [if_pos rfl] at ht
    cases ht
    exact pe_bltn hg hm (by decide +kernel) (show RelV (.ty "str") (.type "str") from rfl) d3 d1
  rw [if_neg e1] at ht
  by_cases e1 : y = "bool"
  · subst e1
    rw [if_pos rfl] at ht
    cases ht
    exact pe_bltn hg hm (by decide +kernel) (show RelV (.ty "bool") (.type "bool") from rfl) d3 d1
  rw [if_neg e1] at ht
  by_cases e1 : y = "tuple"
  · subst e1
    rw [if_pos rfl] at ht
    cases ht
    exact pe_bltn hg hm (by decide +kernel) (show RelV (.ty "tuple") (.type "tuple") from rfl) d3 d1
  rw [if_neg e1] at ht
  cases ht
theorem mth_pe {o : Expr} {m : Str} {es : List Expr} {mt : Mt} {to : TE} {ta : TA} {apos pos : Pos} (hm : mthOf m es.length = some mt) (ho : PE X o to) (ha : PA X es ta) (hs : es.all noStar = true) (hc : noCall o = true) (hl : (apos.endLine == pos.line) = true) (hn : es.length < 20)
    (hz : es = [] → ta = tNil) : PE X (.Call (.Attribute o m apos) es [] pos) (tBM X.K (tyMth mt) (rMth X.K mt) to ta) := by
  have hb := base_no (m := m) (env := X.env) hc
  have few : ∀ (e : Expr) (l : List Expr), es = e :: l → ((backTo pos (starEach (e :: l) X.env)).all (fun x => !x.1) && (backToKw pos (keywordEach [] X.env)).all (fun x => x.1.isSome)
      && decide ((e :: l).length + ([] : List Keyword).length + (if ([] : List Keyword).isEmpty then 0 else 1) < 30)) = true := fun e l q => by
    rw [← q, (back_star (stars_no hs)).2]
    show (true && true && decide (es.length + 0 + 0 < 30)) = true
    rw [decide_eq_true (by omega)] <;> rfl
  have st1 : ∀ (e : Expr) (l : List Expr), es = e :: l → starEach (e :: l) X.env = (false, eval e X.env) :: starEach l X.env := fun e l q => star_cons (by rw [q, List.all_cons, Bool.and_eq_true] at hs; exact hs.1)
  have st2 : ∀ (e : Expr) (l : List Expr), es = e :: l → (backTo pos (starEach l X.env)).any (·.1) = false := fun e l q => (back_star (stars_no (by rw [q, List.all_cons, Bool.and_eq_true] at hs; exact hs.2))).1
  unfold mthOf at hm
  by_cases e1 : m = "append" ∧ es.length = 1
  · rw [if_pos e1] at hm
    cases hm
    obtain ⟨rfl, e2⟩ := e1
    match es, e2, ha, few, st1, st2 with
    | e :: l, e2, ha, few, st1, st2 => exact pe_bm PySem.F.plainAttrs_list PySem.F.slot_list_append PySem.F.type_list_append mt_append ho ha hb (few e l rfl) hl (st1 e l rfl) (st2 e l rfl)
  rw [if_neg e1] at hm
  by_cases e1 : m = "pop" ∧ es.length = 0
  · rw [if_pos e1] at hm
    cases hm
    obtain ⟨rfl, e2⟩ := e1
    have e3 : es = [] := List.length_eq_zero_iff.mp e2
    rw [hz e3, e3]
    refine PE.weak (pe_bm0 PySem.F.plainAttrs_list PySem.F.slot_list_pop PySem.F.type_list_pop mt_pop ho hb hl) fun σ H Q q => q
  rw [if_neg e1] at hm
  by_cases e1 : m = "join" ∧ es.length = 1
  · rw [if_pos e1] at hm
    cases hm
    obtain ⟨rfl, e2⟩ := e1
    match es, e2, ha, few, st1, st2 with
    | e :: l, e2, ha, few, st1, st2 => exact pe_bm PySem.F.plainAttrs_str PySem.F.slot_str_join PySem.F.type_str_join mt_join ho ha hb (few e l rfl) hl (st1 e l rfl) (st2 e l rfl)
  rw [if_neg e1] at hm
  cases hm
end
end Dq

set_option Elab.async false
set_option linter.all false
set_option maxRecDepth 100000
set_option maxHeartbeats 4000000
/-! Dq9: the compiler of expressions is right. -/
namespace Dq
open PySem PySem.Spec PyProof.Rows L2

/-! ### the context within a comprehension -/
theorem relS_free {sc : Scope} : ∀ {names : List (Str × NameKind)} {x : Str}, names.lookup x = some .free →
    (names.map fun (n, k) => if (k == NameKind.free && sc.kind == .function && sc.names.lookup n == some .cell) then (n, NameKind.cell) else (n, k)).lookup x = some .cell ∨
    (names.map fun (n, k) => if (k == NameKind.free && sc.kind == .function && sc.names.lookup n == some .cell) then (n, NameKind.cell) else (n, k)).lookup x = some .free
  | [], _, h => by simp at h
  | (n, k₀) :: r, x, h => by
    have ih := @relS_free sc r x
    show List.lookup x ((if (k₀ == NameKind.free && sc.kind == .function && sc.names.lookup n == some .cell) = true then (n, NameKind.cell) else (n, k₀)) :: (r.map _)) = _ ∨ List.lookup x ((if (k₀ == NameKind.free && sc.kind == .function && sc.names.lookup n == some .cell) = true then (n, NameKind.cell) else (n, k₀)) :: (r.map _)) = _
    cases hx : x == n with
    | true =>
      simp only [List.lookup_cons, hx] at h
      cases h
      by_cases hc : (NameKind.free == NameKind.free && sc.kind == .function && sc.names.lookup n == some .cell) = true
      · rw [if_pos hc]
        refine .inl ?_
        simp only [List.lookup_cons, hx]
      · rw [if_neg hc]
        refine .inr ?_
        simp only [List.lookup_cons, hx]
    | false =>
      simp only [List.lookup_cons, hx] at h
      by_cases hc : (k₀ == NameKind.free && sc.kind == .function && sc.names.lookup n == some .cell) = true
      · rw [if_pos hc]
        simp only [List.lookup_cons, hx]
        exact ih h
      · rw [if_neg hc]
        simp only [List.lookup_cons, hx]
        exact ih h
section
variable {call : Cal} {n : Nat} {c : CC} {X : Cx} {r : Cp}
theorem xg_blk (G : XG call n c X) {scope : Scope} (s : Shared) (H : Hp) (C : Addr) (cl : List (Str × Addr)) (fp : List Addr) : XG call n { c with sc := scope } (X.blk s H scope (compEnvC scope cl C X.env) fp) := by
  refine ⟨G.calm, G.hN, G.nd, G.room, rfl, fun x k h1 h2 => ?_, fun x h => ?_, fun x h => ?_, fun x h => ?_, fun x h => ?_, G.cst, G.bfr, G.fns⟩
  · rcases h2 with e | e | e
    · subst e
      exact .inl (lookup_relS_keep (by decide) h1)
    · subst e
      exact .inr (.inl (lookup_relS_keep (by decide) h1))
    · subst e
      rcases relS_free (sc := X.env.scope) h1 with z | z
      · exact .inr (.inl z)
      · exact .inr (.inr z)
  · rcases h with h | h
    · exact ⟨.inl (lookup_relS_keep (by decide) h), .inr (lookup_relS_keep (by decide) h)⟩
    · refine ⟨.inr (lookup_relS_keep (by decide) h), .inl ?_⟩
      show (scope.names.lookup x == some NameKind.cell) = true
      rw [h] <;> rfl
  · exact lookup_relS_keep (by decide) h
  · rcases h with h | h
    · exact .inl (lookup_relS_keep (by decide) h)
    · exact relS_free h
  · exact lookup_relS_keep (by decide) h
theorem ownOf_snd (N : List Str) : ∀ sl : List Nat, (ownOf N sl).map (·.2) = sl
  | [] => rfl
  | i :: sl => by
    show i :: (ownOf N sl).map (·.2) = i :: sl
    rw [ownOf_snd N sl]
theorem has_self (sl : List Nat) : sl.all (sl.contains ·) = true := List.all_eq_true.mpr fun i hi => by simpa using hi

/-! ### what is walked -/
theorem range_name {x : Str} (h : isRange c x = true) (G : XG call n c X) : x = "range" ∧ Gl X x ∧ X.mg x = none := by
  unfold isRange at h
  rw [Bool.and_eq_true, Bool.and_eq_true, decide_eq_true_eq] at h
  obtain ⟨⟨h1, h2⟩, h3⟩ := h
  have hk : kindC c x = .glo := by
    split at h2
    · assumption
    · cases h2
  exact ⟨h1, G.glo x (kind_glo hk), G.bfr x h3⟩
theorem cI_ok (hf : ∀ a i, r.e c a = some i → PE X a (rE call c X i)) (G : XG call n c X) {tg : Expr} (e : Expr) (i : I) (h : cI r c e = some i) : PI X tg e (rI call c X i) ∧ ∀ x, foldedSetIterable e X.env x = pure x := by
  unfold cI at h
  split at h
  · rename_i x p a pos
    by_cases e1 : isRange c x = true
    · rw [if_pos e1] at h
      obtain ⟨rfl, g1, g2⟩ := range_name e1 G
      obtain ⟨h1, h⟩ := ifS h
      obtain ⟨a', h2, h⟩ := bindS h
      cases h
      exact ⟨pi_range1 g1 g2 (pa_cons (hf a a' h2) pa_nil (star_cons h1)) (star_cons h1), fun _ => rfl⟩
    · rw [if_neg e1] at h
      obtain ⟨e', h2, h⟩ := bindS h
      cases h
      exact ⟨pi_seq (hf _ _ h2), fun _ => rfl⟩
  · rename_i x p a b pos
    by_cases e1 : isRange c x = true
    · rw [if_pos e1] at h
      obtain ⟨rfl, g1, g2⟩ := range_name e1 G
      obtain ⟨h1, h⟩ := ifS h
      obtain ⟨h1', h⟩ := ifS h
      obtain ⟨a', h2, h⟩ := bindS h
      obtain ⟨b', h3, h⟩ := bindS h
      cases h
      refine ⟨pi_range2 g1 g2 (pa_cons (hf a a' h2) (pa_cons (hf b b' h3) pa_nil (star_cons h1')) (star_cons h1)) ?_ ?_, fun _ => rfl⟩
      · rw [star_cons h1, star_cons h1'] <;> rfl
      · exact star_cons h1'
    · rw [if_neg e1] at h
      obtain ⟨e', h2, h⟩ := bindS h
      cases h
      exact ⟨pi_seq (hf _ _ h2), fun _ => rfl⟩
  · obtain ⟨h1, h⟩ := ifS h
    obtain ⟨e', h2, h⟩ := bindS h
    cases h
    exact ⟨pi_seq (hf _ _ h2), fun x => fold_no h1 x⟩
theorem cond_ok (hf : ∀ a i, r.t c a = some i → PT X a (rT call c X i)) (l : List Expr) (i : Teo) (h : cCond r c l = some i) : PTs X l (rTo call c X i) := by
  unfold cCond at h
  split at h
  · cases h
    exact pts_nil
  · obtain ⟨a', h1, h⟩ := bindS h
    cases h
    exact pts_one (hf _ _ h1)
  · cases h
structure LcOk (call : Cal) (c : CC) (X : Cx) (elt tg iter : Expr) (ifs : List Expr) (scope : Scope) (sl : List Nat) (wi : TI) (g : TG) (tt : TT) (te : TE) : Prop where
  hi : PI X tg iter wi
  fold : ∀ x, foldedSetIterable iter X.env x = pure x
  blk : BlkOk X.N X.env.scope scope (ownOf c.N sl)
  hg : ∀ (s : Shared) (H : Hp) (C : Addr) (cl : List (Str × Addr)) (fp : List Addr), PG (X.blk s H scope (compEnvC scope cl C X.env) fp) tg g
  ht : ∀ (s : Shared) (H : Hp) (C : Addr) (cl : List (Str × Addr)) (fp : List Addr), PTs (X.blk s H scope (compEnvC scope cl C X.env) fp) ifs tt
  he : ∀ (s : Shared) (H : Hp) (C : Addr) (cl : List (Str × Addr)) (fp : List Addr), PE (X.blk s H scope (compEnvC scope cl C X.env) fp) elt te
theorem comp_ok (hr : CpOk r) (G : XG call n c X) {elt tg iter : Expr} {ifs : List Expr} {scope : Scope} {i : E} (h : cComp r c elt tg iter ifs scope = some i) :
    ∃ sl wi g tt te, LcOk call c X elt tg iter ifs scope sl wi g tt te ∧ rE call c X i = tLc wi g tt te sl := by
  unfold cComp at h
  obtain ⟨it, h1, h⟩ := bindS h
  obtain ⟨t, h2, h⟩ := bindS h
  obtain ⟨el, h3, h⟩ := bindS h
  obtain ⟨cd, h4, h⟩ := bindS h
  obtain ⟨h5, h⟩ := ifS h
  cases h
  refine ⟨slT t, rI call c X it, rG call c X t, rTo call c X cd, rE call c X el, ⟨?_, ?_, ?_, ?_, ?_, ?_⟩, ?_⟩
  · exact (cI_ok (fun a i => hr.e call n c X a i G) G iter it h1).1
  · exact (cI_ok (fun a i => hr.e call n c X a i G) G (tg := tg) iter it h1).2
  · have z := blkOk_by h5
    rw [G.hN]
    exact ⟨z.kind, z.uniq, z.ix, fun y hy e => G.fre y.1 (z.free y hy e), z.own⟩
  · exact fun s H C cl fp => hr.g call n { c with sc := scope } _ tg t (xg_blk G s H C cl fp) h2
  · exact fun s H C cl fp => cond_ok (fun a i q => (hr.t call n { c with sc := scope } _ a i (xg_blk G s H C cl fp) q).1) ifs cd h4
  · exact fun s H C cl fp => hr.e call n { c with sc := scope } _ elt el (xg_blk G s H C cl fp) h3
  · show (if (slT t).all ((slT t).contains ·) = true then _ else _) = _
    rw [if_pos (has_self _)] <;> rfl

/-! ### calls -/
theorem call_ok (hf : ∀ a i, r.e c a = some i → PE X a (rE call c X i)) (G : XG call n c X) {x : Str} {p pos : Pos} {args : List Expr} {i : E} (h : cCall r c x args = some i) : PE X (.Call (.Name x p) args [] pos) (rE call c X i) := by
  unfold cCall at h
  by_cases hd : dbg x = true
  · rw [if_pos hd] at h
    cases h
  rw [if_neg hd] at h
  have hd : dbg x = false := by simpa using hd
  obtain ⟨d1, d2, d3⟩ := dbg_ok hd
  split at h
  · rename_i hk
    have hg := G.glo x (kind_glo hk)
    split at h
    · rename_i k hx
      obtain ⟨es, h1, h⟩ := bindS h
      cases h
      obtain ⟨a, fd, ps, f1, f2, f3, f4⟩ := G.fns k x (ixOf_ok hx)
      obtain ⟨pa, st⟩ := args_ok hf args es h1
      match args, es, h1, pa, st with
      | [], es, h1, pa, st =>
        cases h1
        exact pe_call0 f4 G.room hg f1 f2 f3 .nil pass0 d1
      | e :: l, es, h1, pa, st =>
        rw [List.all_cons, Bool.and_eq_true] at st
        exact pe_call f4 G.room hg f1 f2 f3 .nil pass0 pa d1 (star_cons st.1) (back_star (stars_no st.2)).1
    · rename_i hx
      obtain ⟨hb, h'⟩ := ifS h
      clear h
      have h := h'
      clear h'
      have hm := G.bfr x hb
      split at h
      · rename_i a y py
        by_cases e1 : x = "isinstance"
        · rw [if_pos e1] at h
          subst e1
          by_cases hy : dbg y = true
          · rw [if_pos hy] at h
            cases h
          rw [if_neg hy] at h
          have hy : dbg y = false := by simpa using hy
          split at h
          · rename_i hky
            obtain ⟨hyb, h⟩ := ifS h
            obtain ⟨hs, h⟩ := ifS h
            obtain ⟨t, h1, h⟩ := bindS h
            obtain ⟨a', h2, h⟩ := bindS h
            cases h
            refine pe_callB call_isi hg hm (by decide +kernel) (pa_cons (hf a a' h2) (pa_cons (ty_pe h1 (G.glo y (kind_glo hky)) (G.bfr y hyb) hy) pa_nil (star_cons (by rfl))) (star_cons hs)) d3 d1 (star_cons hs) ?_
            exact (back_star (stars_no (es := [.Name y py]) (by rfl))).1
          · cases h
        · rw [if_neg e1] at h
          obtain ⟨b, h1, h⟩ := bindS h
          obtain ⟨es, h2, h⟩ := bindS h
          cases h
          obtain ⟨pa, st⟩ := args_ok hf _ es h2
          exact blt_pe h1 hg hm G.calm pa st hd
      · cases h
      · rename_i e1 e2
        obtain ⟨b, h1, h⟩ := bindS h
        obtain ⟨es, h2, h⟩ := bindS h
        cases h
        obtain ⟨pa, st⟩ := args_ok hf _ es h2
        match args, e2, pa, st with
        | [], e2, pa, st => exact absurd rfl e2
        | e :: l, e2, pa, st => exact blt_pe h1 hg hm G.calm pa st hd
  · cases h

/-! ### one step of the compiler -/
theorem hu64 (G : XG call n c X) : X.A.units + 64 < cLine := by
  have := G.room.un
  omega
theorem name_ok (G : XG call n c X) {x : Str} {p : Pos} {i : E} (h : stE r c (.Name x p) = some i) : PE X (.Name x p) (rE call c X i) := by
  unfold stE at h
  by_cases hd : dbg x = true
  · simp only [if_pos hd] at h
    cases h
  simp only [if_neg hd] at h
  have hd : dbg x = false := by simpa using hd
  obtain ⟨d1, d2, d3⟩ := dbg_ok hd
  split at h
  · rename_i hk
    obtain ⟨k, h1, h2⟩ := kind_own hk
    obtain ⟨j, h3, h⟩ := bindS h
    cases h
    exact pe_var (by rw [G.hN]; exact ixOf_ok h3) (G.own x k h1 h2) d1 d2
  · rename_i hk
    obtain ⟨k, h3, h⟩ := bindS h
    cases h
    have hx := ixOf_ok h3
    obtain ⟨u, v, hm, rv⟩ := G.cst k x hx
    refine PE.weak (pe_glob (v := v) (G.glo x (kind_glo hk)) hm rv d1) fun σ H Q q => ?_
    obtain ⟨w, _, q⟩ := q
    exact q v ⟨x, u, hx, hm, rv⟩
  · cases h
theorem last_no {o p : CmpOp} {b d : Expr} (h : noSet d = true) : lastMarks [o, p] [b, d] = false := by
  show lastMarks [p] [d] = false
  show behindInMarks p d = false
  exact behind_no h
theorem step_e (hr : CpOk r) (a : Expr) (i : E) (G : XG call n c X) (h : stE r c a = some i) : PE X a (rE call c X i) := by
  have hf := fun a i => hr.e call n c X a i G
  have hft := fun a i q => (hr.t call n c X a i G q).1
  unfold stE at h
  split at h
  · exact name_ok (r := r) G (by unfold stE; exact h)
  · cases h
    exact pe_int
  · cases h
    exact pe_bl
  · cases h
    exact pe_non
  · cases h
    exact pe_str
  · obtain ⟨a', h1, h⟩ := bindS h
    obtain ⟨b', h2, h⟩ := bindS h
    cases h
    exact pe_op (rBin_op X _) (hf _ _ h1) (hf _ _ h2)
  · obtain ⟨a', h1, h⟩ := bindS h
    cases h
    exact pe_notT (hf _ _ h1)
  · obtain ⟨a', h1, h⟩ := bindS h
    cases h
    exact pe_un un_neg (hf _ _ h1)
  · exact pe_one (hf _ _ h)
  · obtain ⟨a', h1, h⟩ := bindS h
    obtain ⟨b', h2, h⟩ := bindS h
    cases h
    exact pe_andT (hf _ _ h1) (hf _ _ h2)
  · obtain ⟨a', h1, h⟩ := bindS h
    obtain ⟨b', h2, h⟩ := bindS h
    cases h
    exact pe_orT (hf _ _ h1) (hf _ _ h2)
  · obtain ⟨h0, h⟩ := ifS h
    obtain ⟨a', h1, h⟩ := bindS h
    obtain ⟨b', h2, h⟩ := bindS h
    cases h
    exact pe_cmpR (rCmp_op X (hu64 G) _) (hf _ _ h1) (hf _ _ h2) (behind_no h0)
  · obtain ⟨h0, h⟩ := ifS h
    obtain ⟨a', h1, h⟩ := bindS h
    obtain ⟨b', h2, h⟩ := bindS h
    obtain ⟨d', h3, h⟩ := bindS h
    cases h
    exact pe_chain (rCmp_op X (hu64 G) _) (rCmp_op X (hu64 G) _) (hf _ _ h1) (hf _ _ h2) (hf _ _ h3) (last_no h0)
  · obtain ⟨a', h1, h⟩ := bindS h
    obtain ⟨b', h2, h⟩ := bindS h
    obtain ⟨d', h3, h⟩ := bindS h
    cases h
    exact pe_ifExp (hft _ _ h1) (hf _ _ h2) (hf _ _ h3)
  · obtain ⟨a', h1, h⟩ := bindS h
    cases h
    exact pe_tup (args_ok hf _ _ h1).1
  · obtain ⟨a', h1, h⟩ := bindS h
    cases h
    exact pe_lst (args_ok hf _ _ h1).1
  · obtain ⟨a', h1, h⟩ := bindS h
    obtain ⟨b', h2, h⟩ := bindS h
    obtain ⟨d', h3, h⟩ := bindS h
    cases h
    exact pe_slice sl_any (hf _ _ h1) (part_ok hf _ _ h2) (part_ok hf _ _ h3)
  · obtain ⟨h0, h⟩ := ifS h
    obtain ⟨a', h1, h⟩ := bindS h
    obtain ⟨b', h2, h⟩ := bindS h
    cases h
    exact pe_ix ix_seq (hf _ _ h1) (hf _ _ h2) (plain_ix h0)
  · exact call_ok hf G h
  · obtain ⟨h0, h⟩ := ifS h
    obtain ⟨h1, h⟩ := ifS h
    obtain ⟨h2, h⟩ := ifS h
    obtain ⟨mt, h3, h⟩ := bindS h
    obtain ⟨o', h4, h⟩ := bindS h
    obtain ⟨es, h5, h⟩ := bindS h
    cases h
    obtain ⟨pa, st⟩ := args_ok hf _ _ h5
    refine mth_pe h3 (hf _ _ h4) pa st h0 h1 h2 fun e => ?_
    subst e
    cases h5
    rfl
  · obtain ⟨sl, wi, g, tt, te, L, e⟩ := comp_ok hr G h
    rw [e]
    have z := pe_lc G.calm G.nd L.hi L.blk L.hg L.ht L.he L.fold (pos := by assumption)
    rw [ownOf_snd] at z
    exact z
  · cases h
theorem step_t (hr : CpOk r) (a : Expr) (i : Te) (G : XG call n c X) (h : stT r c a = some i) : PT X a (rT call c X i) ∧ ((∃ o vs p, a = .BoolOp o vs p) → PW X a (rT call c X i)) := by
  have hf := fun a i => hr.e call n c X a i G
  have hft := fun a i => hr.t call n c X a i G
  unfold stT at h
  split at h
  · rename_i o a p
    have z : PW X (.BoolOp o [a] p) (rT call c X i) := by
      cases o with
      | And => exact pw_and1 (hft _ _ h).1
      | Or => exact pw_or1 (hft _ _ h).1
    exact ⟨z.pt, fun _ => z⟩
  · obtain ⟨a', h1, h⟩ := bindS h
    obtain ⟨b', h2, h⟩ := bindS h
    cases h
    have z := pw_and (pos := by assumption) (hft _ _ h1).1 ((hft _ _ h2).2 ⟨_, _, _, rfl⟩)
    exact ⟨z.pt, fun _ => z⟩
  · obtain ⟨a', h1, h⟩ := bindS h
    obtain ⟨b', h2, h⟩ := bindS h
    cases h
    have z := pw_or (pos := by assumption) (hft _ _ h1).1 ((hft _ _ h2).2 ⟨_, _, _, rfl⟩)
    exact ⟨z.pt, fun _ => z⟩
  · obtain ⟨a', h1, h⟩ := bindS h
    cases h
    exact ⟨pt_not (hft _ _ h1).1, fun ⟨_, _, _, e⟩ => by cases e⟩
  · obtain ⟨h0, h⟩ := ifS h
    obtain ⟨a', h1, h⟩ := bindS h
    obtain ⟨b', h2, h⟩ := bindS h
    cases h
    exact ⟨pt_cmpR (rCmp_op X (hu64 G) _) (hf _ _ h1) (hf _ _ h2) (behind_no h0), fun ⟨_, _, _, e⟩ => by cases e⟩
  · obtain ⟨h0, h⟩ := ifS h
    obtain ⟨a', h1, h⟩ := bindS h
    obtain ⟨b', h2, h⟩ := bindS h
    obtain ⟨d', h3, h⟩ := bindS h
    cases h
    exact ⟨pt_chain (rCmp_op X (hu64 G) _) (rCmp_op X (hu64 G) _) (hf _ _ h1) (hf _ _ h2) (hf _ _ h3) (last_no h0), fun ⟨_, _, _, e⟩ => by cases e⟩
  · obtain ⟨a', h1, h⟩ := bindS h
    cases h
    exact ⟨pt_truth (hf _ _ h1) fun _ => rfl, fun ⟨_, _, _, e⟩ => by cases e⟩
  · obtain ⟨a', h1, h⟩ := bindS h
    cases h
    exact ⟨pt_truth (hf _ _ h1) fun _ => rfl, fun ⟨_, _, _, e⟩ => by cases e⟩
  · obtain ⟨a', h1, h⟩ := bindS h
    cases h
    exact ⟨pt_truth (hf _ _ h1) fun _ => rfl, fun ⟨_, _, _, e⟩ => by cases e⟩
  · obtain ⟨a', h1, h⟩ := bindS h
    cases h
    exact ⟨pt_truth (hf _ _ h1) fun _ => rfl, fun ⟨_, _, _, e⟩ => by cases e⟩
  · obtain ⟨a', h1, h⟩ := bindS h
    cases h
    exact ⟨pt_truth (hf _ _ h1) fun _ => rfl, fun ⟨_, _, _, e⟩ => by cases e⟩
  · cases h
theorem asg_cons {a : Expr} {es : List Expr} {env : Env} (h : noStar a = true) : assignEach (a :: es) env = (false, assign a env) :: assignEach es env := by
  cases a <;> first | rfl | cases h
theorem tgs_ok (hf : ∀ a i, r.g c a = some i → PG X a (rG call c X i)) : ∀ (es : List Expr) (i : Ts), cTs (r.g c) es = some i → PGs X es (rGs call c X i) ∧ (assignEach es X.env).length = lenTs i ∧ (assignEach es X.env).findIdx? (·.1) = none
  | [], i, h => by
    cases h
    exact ⟨pgs_nil, rfl, rfl⟩
  | a :: es, i, h => by
    unfold cTs at h
    obtain ⟨h0, h⟩ := ifS h
    obtain ⟨a', h1, h⟩ := bindS h
    obtain ⟨es', h2, h⟩ := bindS h
    cases h
    obtain ⟨p, q, z⟩ := tgs_ok hf es es' h2
    have e := asg_cons (es := es) (env := X.env) h0
    refine ⟨pgs_cons (hf a a' h1) p (by rw [e] <;> rfl), by rw [e]; show _ + 1 = lenTs es' + 1; rw [q], ?_⟩
    rw [e, List.findIdx?_cons]
    simp only [z]
    rfl
theorem step_g (hr : CpOk r) (a : Expr) (i : T) (G : XG call n c X) (h : stG r c a = some i) : PG X a (rG call c X i) := by
  have hf := fun a i => hr.e call n c X a i G
  have hfg := fun a i => hr.g call n c X a i G
  unfold stG at h
  split at h
  · rename_i x p
    split at h
    · rename_i hk
      obtain ⟨j, h1, h⟩ := bindS h
      cases h
      obtain ⟨s1, s2⟩ := G.sto x (.inl hk)
      exact pg_name G.nd (by rw [G.hN]; exact ixOf_ok h1) s1 s2
    · rename_i hk
      obtain ⟨j, h1, h⟩ := bindS h
      cases h
      obtain ⟨s1, s2⟩ := G.sto x (.inr hk)
      exact pg_name G.nd (by rw [G.hN]; exact ixOf_ok h1) s1 s2
    · cases h
  · obtain ⟨ts', h1, h⟩ := bindS h
    cases h
    obtain ⟨p, q, z⟩ := tgs_ok hfg _ _ h1
    exact pg_tup G.calm p q z
  · rename_i o ix p
    obtain ⟨h0, h⟩ := ifS h
    obtain ⟨o', h1, h⟩ := bindS h
    obtain ⟨i', h2, h⟩ := bindS h
    cases h
    refine pg_sub (hf _ _ h1) (hf _ _ h2) set_list fun v => ?_
    cases ix <;> first | rfl | cases h0
  · cases h
end
theorem cpOk : ∀ k : Nat, CpOk (cp k)
  | 0 => ⟨fun _ _ _ _ _ _ _ h => (by cases h), fun _ _ _ _ _ _ _ h => (by cases h), fun _ _ _ _ _ _ _ h => (by cases h)⟩
  | k + 1 => ⟨fun _ _ _ _ a i G h => step_e (cpOk k) a i G h, fun _ _ _ _ a i G h => step_t (cpOk k) a i G h, fun _ _ _ _ a i G h => step_g (cpOk k) a i G h⟩
end Dq

set_option Elab.async false
set_option linter.all false
set_option maxRecDepth 100000
set_option maxHeartbeats 4000000
/-! Dq10: statements: what their readings give, and the compiler of statements. -/
namespace Dq
open PySem PySem.Spec PyProof.Rows L2

/-! ### op= -/
def rAug : Operator → R2
  | .Add => fun x y H Q => rI0 (fun i j => .int (i + j)) x y H Q ∨ ∃ i j, x = .str i ∧ y = .str j ∧ i.length + j.length ≤ sizeLine ∧ Q (.str (i ++ j)) H
  | .Sub => rI0 fun i j => .int (i - j)
  | _ => fun _ _ _ _ => False
theorem rAug_ip (X : Cx) (o : Operator) : PIp X o (rAug o) := by
  cases o with
  | Add => exact iop_add.or iop_add_str
  | Sub => exact iop_sub
  | _ => exact fun _ _ _ _ _ _ _ _ _ _ _ _ h => h.elim
section
variable {K : PySem.W.Frag} {mg : Nat → Option Value} {μ : List Addr} {H : Hp} {st : Sto}
theorem aug_ok (o : Operator) : Ok2 K mg (rAug o) fun st x y Q => augW st o x y Q := by
  cases o with
  | Add =>
    intro μ H st vx vy x y P Q A rx ry h k
    cases rx with
    | int i =>
      cases ry with
      | int j => exact .inl ⟨i, j, rfl, rfl, k _ _ st μ H h A .refl (.int _)⟩
      | _ => exact False.elim h
    | str a =>
      cases ry with
      | str b =>
        refine .inr ⟨_, _, rfl, rfl, ?_, ?_⟩
        · rw [sv_length, sv_length]
          exact h.1
        · rw [sv_append]
          exact k _ _ st μ H h.2 A .refl (.str _)
      | _ => exact False.elim h
    | _ => cases ry <;> exact False.elim h
  | Sub => exact intop0_ok (fun _ _ _ _ h => h) fun st x y P h => by cases x <;> cases y <;> first | exact ⟨⟨_, rfl⟩, ⟨_, rfl⟩⟩ | exact False.elim h
  | _ => exact never2 fun st x y P h => by cases x <;> cases y <;> exact h
theorem idl_ok : Ok2 K mg (rIxL K) fun st x y Q => idlW st x y fun z => Q z st := by
  intro μ H st vx vy x y P Q A rx ry h k
  cases rx with
  | loc hn =>
    cases ry with
    | int i =>
      obtain ⟨ws, e0, w, e, p⟩ := h
      obtain ⟨xs, hx, hr⟩ := A.get hn e0
      obtain ⟨v, e1, r1⟩ := hr.atI e
      exact ⟨_, _, i, v, rfl, rfl, SqL.of hx, e1, k _ _ st μ H p A .refl r1⟩
    | _ => exact False.elim h
  | _ => cases ry <;> exact False.elim h
end
theorem get_list {X : Cx} : PGet X (rIxL X.K) := by
  intro pins s σ H x y v u Q I rx ry h
  obtain ⟨p, xs, i, z, rfl, rfl, hq, he, q⟩ := h
  cases rx
  obtain ⟨t, rfl⟩ := ry
  obtain ⟨its, r, pl, hz⟩ := I.list hq
  obtain ⟨j, h1, h2, h3, h4, h5⟩ := atI_get he
  obtain ⟨w, ew, rw'⟩ := r.get h2
  have hl := r.length
  have hn := line63
  have fin : EP X pins σ Q w s := ⟨z, H, I, rw', q⟩
  by_cases h0 : 0 ≤ i
  · have hj : i.toNat = j := by
      rw [seqIndex_of h0 h5] at h1
      exact Option.some.inj h1
    exact wpAny_getItem_list pl.isList h0 (by omega) (by rw [hj]; simpa using ew) fin
  · have hj : (i + (its.toArray.size : Int)).toNat = j := by
      rw [seqIndex_neg (by omega) h4] at h1
      rw [List.size_toArray, ← hl]
      exact Option.some.inj h1
    exact wpAny_getItem_list_neg pl.isList (by omega) (by rw [List.size_toArray] <;> omega) (by omega) (by rw [hj]; simpa using ew) fin

/-! ### readings of statements -/
section
variable (K : PySem.W.Frag) (mg : Nat → Option Value) (call : Cal) (gv : Nat → V → Prop)
mutual
def rdS : S → TS
  | .expr e => tDrop (rdE K mg call gv e)
  | .asg t e => tAsg (rdE K mg call gv e) (rdG K mg call gv t)
  | .aug i op e => tAug i (rdE K mg call gv e) (rAug op)
  | .augs o i op e => tAugS (rdE K mg call gv o) (rdE K mg call gv i) (rdE K mg call gv e) (rIxL K) (rAug op) rSetL
  | .ret e => tRet (rdE K mg call gv e)
  | .retn => tRetN
  | .ite c a b => tIfS (rdT K mg call gv c) (rdSs a) (rdSs b)
  | .while_ c b => tWhile (rdT K mg call gv c) (rdSs b)
  | .for_ t it b => tFor (rdI K mg call gv it) (rdG K mg call gv t) (rdSs b)
  | .brk => tBreak
  | .cont => tCont
  | .pass => tNext
def rdSs : Ss → TS
  | .nil => tNext
  | .cons s ss => tSeq (rdS s) (rdSs ss)
end
end
section
variable (K : PySem.W.Frag) (mg : Nat → Option Value)
/-- what the ends of the language give the ends of the reading -/
structure KOk (μ : List Addr) (H : Hp) (P : K4) (D : Ends) : Prop where
  nx : ∀ σ' env' st' μ' H', P.nx env' st' → Abs K mg μ' H' st' → Ext μ H μ' H' → EnvOk K mg μ' H' σ' env' → D.nx σ' H'
  rt : ∀ v w st' μ' H', P.rt w st' → Abs K mg μ' H' st' → Ext μ H μ' H' → Rep K mg μ' H' v w → D.rt v H'
  bk : ∀ σ' env' st' μ' H', P.bk env' st' → Abs K mg μ' H' st' → Ext μ H μ' H' → EnvOk K mg μ' H' σ' env' → D.bk σ' H'
  ct : ∀ σ' env' st' μ' H', P.ct env' st' → Abs K mg μ' H' st' → Ext μ H μ' H' → EnvOk K mg μ' H' σ' env' → D.ct σ' H'
theorem KOk.go {μ μ1 : List Addr} {H H1 : Hp} {P : K4} {D : Ends} (k : KOk K mg μ H P D) (e : Ext μ H μ1 H1) : KOk K mg μ1 H1 P D :=
  ⟨fun σ' env' st' μ' H' p A e1 N => k.nx σ' env' st' μ' H' p A (e.trans e1) N, fun v w st' μ' H' p A e1 r => k.rt v w st' μ' H' p A (e.trans e1) r,
   fun σ' env' st' μ' H' p A e1 N => k.bk σ' env' st' μ' H' p A (e.trans e1) N, fun σ' env' st' μ' H' p A e1 N => k.ct σ' env' st' μ' H' p A (e.trans e1) N⟩
def OkS (t : TS) (f : En → Sto → K4 → Prop) : Prop := ∀ μ H st σ env (P : K4) (D : Ends), Abs K mg μ H st → EnvOk K mg μ H σ env → f env st P → KOk K mg μ H P D → t D σ H
end
section
variable {K : PySem.W.Frag} {mg : Nat → Option Value} {t u : TS} {f g : En → Sto → K4 → Prop} {te to ti : TE} {fe fo fi : WE} {tt : TT} {ft : WT} {tg : TG} {fg : D → En → Sto → EK → Prop} {sl : List Nat}
theorem okS_seq (h1 : OkS K mg t f) (h2 : OkS K mg u g) : OkS K mg (tSeq t u) fun env st P => f env st ⟨fun env1 st1 => g env1 st1 P, P.rt, P.bk, P.ct⟩ := fun μ H st σ env P D A N h k =>
  h1 μ H st σ env _ _ A N h ⟨fun σ' env' st' μ' H' p A' e N' => h2 μ' H' st' σ' env' P D A' N' p (k.go _ _ e), k.rt, k.bk, k.ct⟩
theorem okS_drop (he : OkE K mg te fe) : OkS K mg (tDrop te) fun env st P => fe env st fun _ st1 => P.nx env st1 := fun μ H st σ env P D A N h k =>
  he μ H st σ env _ _ A N h fun v w st1 μ1 H1 p A1 e1 _ => k.nx σ env st1 μ1 H1 p A1 e1 (N.go e1 A.mu)
theorem okS_asg (he : OkE K mg te fe) (hg : OkG K mg sl tg fg) : OkS K mg (tAsg te tg) fun env st P => fe env st fun x st1 => fg x env st1 P.nx := fun μ H st σ env P D A N h k =>
  he μ H st σ env _ _ A N h fun v w st1 μ1 H1 p A1 e1 r1 => hg μ1 H1 st1 σ env v w _ _ A1 (N.go e1 A.mu) r1 p fun σ2 env2 st2 μ2 H2 p2 A2 e2 N2 _ => k.nx σ2 env2 st2 μ2 H2 p2 A2 (e1.trans e2) N2
theorem okS_aug (i : Nat) (op : Operator) (he : OkE K mg te fe) : OkS K mg (tAug i te (rAug op)) fun env st P => ∃ x, env[i]? = some (some x) ∧ fe env st fun y st1 => augW st1 op x y fun z st2 => P.nx (env.set i (some z)) st2 := fun μ H st σ env P D A N h k => by
  obtain ⟨x, e0, h⟩ := h
  obtain ⟨v, ev, rv⟩ := N.at_ i x e0
  refine ⟨v, ev, he μ H st σ env _ _ A N h fun vy y st1 μ1 H1 p A1 e1 r1 => ?_⟩
  exact aug_ok op μ1 H1 st1 v vy x y (fun z st2 => P.nx (env.set i (some z)) st2) _ A1 (rv.go e1 A.mu) r1 p fun vz z st2 μ2 H2 p2 A2 e2 r2 => k.nx _ _ st2 μ2 H2 p2 A2 (e1.trans e2) (((N.go e1 A.mu).go e2 A1.mu).set r2)
theorem okS_augs (op : Operator) (ho : OkE K mg to fo) (hi : OkE K mg ti fi) (he : OkE K mg te fe) : OkS K mg (tAugS to ti te (rIxL K) (rAug op) rSetL) fun env st P => fo env st fun x st1 => fi env st1 fun y st2 => idlW st2 x y fun v => fe env st2 fun u st3 => augW st3 op v u fun z st4 => setW st4 x y z fun st5 => P.nx env st5 := fun μ H st σ env P D A N h k => by
  refine ho μ H st σ env _ _ A N h fun vx x st1 μ1 H1 h1 A1 e1 r1 => ?_
  refine hi μ1 H1 st1 σ env _ _ A1 (N.go e1 A.mu) h1 fun vy y st2 μ2 H2 h2 A2 e2 r2 => ?_
  have N2 := (N.go e1 A.mu).go e2 A1.mu
  have rx2 := r1.go e2 A1.mu
  refine idl_ok μ2 H2 st2 vx vy x y (fun v st3 => st3 = st2 ∧ fe env st2 fun u st3 => augW st3 op v u fun z st4 => setW st4 x y z fun st5 => P.nx env st5) _ A2 rx2 r2 ?_ fun vv v st3 μ3 H3 h3 A3 e3 r3 => ?_
  · cases x <;> first | exact False.elim h2 | skip
    cases y <;> first | exact False.elim h2 | skip
    exact let ⟨ws, a, w, b, c⟩ := h2; ⟨ws, a, w, b, rfl, c⟩
  obtain ⟨rfl, h3⟩ := h3
  have N3 := N2.go e3 A2.mu
  have rx3 := rx2.go e3 A2.mu
  have ry3 := r2.go e3 A2.mu
  refine he μ3 H3 _ σ env _ _ A3 N3 h3 fun vu u st4 μ4 H4 h4 A4 e4 r4 => ?_
  refine aug_ok op μ4 H4 st4 vv vu v u (fun z st4 => setW st4 x y z fun st5 => P.nx env st5) _ A4 (r3.go e4 A3.mu) r4 h4 fun vz z st5 μ5 H5 h5 A5 e5 r5 => ?_
  refine set_ok A5 ((rx3.go e4 A3.mu).go e5 A4.mu) ((ry3.go e4 A3.mu).go e5 A4.mu) r5 h5 fun st6 μ6 H6 h6 A6 e6 => ?_
  exact k.nx σ env st6 μ6 H6 h6 A6 (((((e1.trans e2).trans e3).trans e4).trans e5).trans e6) (((N3.go e4 A3.mu).go e5 A4.mu).go e6 A5.mu)
theorem okS_ret (he : OkE K mg te fe) : OkS K mg (tRet te) fun env st P => fe env st P.rt := fun μ H st σ env P D A N h k => he μ H st σ env _ _ A N h k.rt
theorem okS_retN : OkS K mg tRetN fun _ st P => P.rt .non st := fun μ H st σ env P D A N h k => k.rt _ _ st μ H h A .refl .non
theorem okS_if (hc : OkT K mg tt ft) (ha : OkS K mg t f) (hb : OkS K mg u g) : OkS K mg (tIfS tt t u) fun env st P => ft env st fun r st1 => if r = true then f env st1 P else g env st1 P := fun μ H st σ env P D A N h k => by
  refine hc μ H st σ env _ _ A N h fun b st1 μ1 H1 p A1 e1 => ?_
  cases b with
  | true => exact ha μ1 H1 st1 σ env P D A1 (N.go e1 A.mu) p (k.go _ _ e1)
  | false => exact hb μ1 H1 st1 σ env P D A1 (N.go e1 A.mu) p (k.go _ _ e1)
theorem okS_while (hc : OkT K mg tt ft) (hb : OkS K mg t f) : OkS K mg (tWhile tt t) fun env st P => ∃ n, whileW ft (fun env st N => f env st ⟨N, P.rt, P.nx, N⟩) P.nx n env st := fun μ H st σ env P D A N h k => by
  obtain ⟨n, h⟩ := h
  refine ⟨fun m σ2 H2 => ∃ μ2 st2 env2, Abs K mg μ2 H2 st2 ∧ Ext μ H μ2 H2 ∧ EnvOk K mg μ2 H2 σ2 env2 ∧ whileW ft (fun env st N => f env st ⟨N, P.rt, P.nx, N⟩) P.nx m env2 st2, ⟨n, μ, st, env, A, .refl, N, h⟩, ?_⟩
  rintro m σ2 H2 ⟨μ2, st2, env2, A2, e2, N2, h2⟩
  cases m with
  | zero => exact False.elim h2
  | succ m =>
    refine hc μ2 H2 st2 σ2 env2 _ _ A2 N2 h2 fun b st3 μ3 H3 h3 A3 e3 => ?_
    have e23 := e2.trans e3
    cases b with
    | true =>
      rw [if_pos rfl] at h3 ⊢
      refine ⟨fun σ' H' => ∃ μ2 st2 env2, Abs K mg μ2 H' st2 ∧ Ext μ H μ2 H' ∧ EnvOk K mg μ2 H' σ' env2 ∧ whileW ft (fun env st N => f env st ⟨N, P.rt, P.nx, N⟩) P.nx m env2 st2, fun σ' H' q => ⟨m, Nat.lt_succ_self m, q⟩, ?_⟩
      exact hb μ3 H3 st3 σ2 env2 _ _ A3 (N2.go e3 A2.mu) h3 ⟨fun σ4 env4 st4 μ4 H4 p A4 e4 N4 => ⟨μ4, st4, env4, A4, e23.trans e4, N4, p⟩, (k.go _ _ e23).rt, (k.go _ _ e23).nx, fun σ4 env4 st4 μ4 H4 p A4 e4 N4 => ⟨μ4, st4, env4, A4, e23.trans e4, N4, p⟩⟩
    | false =>
      rw [if_neg Bool.false_ne_true] at h3 ⊢
      exact k.nx σ2 env2 st3 μ3 H3 h3 A3 e23 (N2.go e3 A2.mu)
theorem okS_for {wi : TI} {fi : En → Sto → (List D → Option (Nat × List D) → Sto → Prop) → Prop} (hi : OkI K mg wi fi) (hg : OkG K mg sl tg fg) (hb : OkS K mg t f) :
    OkS K mg (tFor wi tg t) fun env st P => fi env st fun ws keep st1 => forW (keepW keep) (fun w env st N => fg w env st fun env2 st2 => f env2 st2 ⟨N, P.rt, P.nx, N⟩) P.nx ws env st1 := fun μ H st σ env P D A N h k => by
  refine hi μ H st σ env _ _ A N h fun ws keep st1 μ1 H1 J h1 A1 e1 hJ => ?_
  refine ⟨fun i m σ2 H2 => ∃ μ2 st2 env2, m = ws.length - i ∧ i ≤ ws.length ∧ Abs K mg μ2 H2 st2 ∧ Ext μ1 H1 μ2 H2 ∧ EnvOk K mg μ2 H2 σ2 env2 ∧
      forW (keepW keep) (fun w env st N => fg w env st fun env2 st2 => f env2 st2 ⟨N, P.rt, P.nx, N⟩) P.nx (ws.drop i) env2 st2, ⟨ws.length, μ1, st1, env, rfl, Nat.zero_le _, A1, .refl, N.go e1 A.mu, h1⟩, ?_⟩
  rintro i m σ2 H2 ⟨μ2, st2, env2, rfl, hi', A2, e2, N2, hc⟩
  have e12 := e1.trans e2
  by_cases hlt : i < ws.length
  · rw [List.drop_eq_getElem_cons hlt] at hc
    obtain ⟨kp, hc⟩ := hc
    obtain ⟨_, hgo⟩ := hJ μ2 H2 st2 e2 A2 kp
    obtain ⟨go, hy⟩ := hgo i ws[i] (List.getElem?_eq_getElem hlt)
    refine .inr ⟨go, fun σ' H' => ∃ μ2 st2 env2, Abs K mg μ2 H' st2 ∧ Ext μ1 H1 μ2 H' ∧ EnvOk K mg μ2 H' σ' env2 ∧
      forW (keepW keep) (fun w env st N => fg w env st fun env2 st2 => f env2 st2 ⟨N, P.rt, P.nx, N⟩) P.nx (ws.drop (i + 1)) env2 st2, fun σ' H' hN => ?_, fun x H3 y => ?_⟩
    · obtain ⟨μ3, st3, env3, B1, B2, B3, B4⟩ := hN
      exact ⟨ws.length - (i + 1), by omega, μ3, st3, env3, rfl, hlt, B1, B2, B3, B4⟩
    · obtain ⟨eH, rx⟩ := hy x H3 y
      subst eH
      refine hg μ2 H3 st2 σ2 env2 x ws[i] _ _ A2 N2 rx hc fun σ4 env4 st4 μ4 H4 h4 A4 e4 N4 _ => ?_
      have e24 := e2.trans e4
      have e14 := e1.trans e24
      exact hb μ4 H4 st4 σ4 env4 _ _ A4 N4 h4 ⟨fun σ5 env5 st5 μ5 H5 p A5 e5 N5 => ⟨μ5, st5, env5, A5, e24.trans e5, N5, p⟩, (k.go _ _ e14).rt, (k.go _ _ e14).nx, fun σ5 env5 st5 μ5 H5 p A5 e5 N5 => ⟨μ5, st5, env5, A5, e24.trans e5, N5, p⟩⟩
  · have e : i = ws.length := by omega
    subst e
    rw [List.drop_length] at hc
    obtain ⟨kp, hc⟩ := hc
    obtain ⟨stop, _⟩ := hJ μ2 H2 st2 e2 A2 kp
    exact .inl ⟨stop, k.nx σ2 env2 st2 μ2 H2 hc A2 e12 N2⟩
end
section
variable {K : PySem.W.Frag} {mg : Nat → Option Value} {call : Cal} {cst : List D} {gv : Nat → V → Prop}
variable (hgv : ∀ k w, cst[k]? = some w → (∃ v, gv k v) ∧ ∀ v, gv k v → ∀ μ H, Rep K mg μ H v w)
include hgv
mutual
theorem okS : ∀ s : S, OkS K mg (rdS K mg call gv s) (wpS call cst s)
  | .expr e => okS_drop (okE hgv e)
  | .asg t e => okS_asg (okE hgv e) (okG hgv t)
  | .aug i op e => okS_aug i op (okE hgv e)
  | .augs o i op e => okS_augs op (okE hgv o) (okE hgv i) (okE hgv e)
  | .ret e => okS_ret (okE hgv e)
  | .retn => okS_retN
  | .ite c a b => okS_if (okT hgv c) (okSs a) (okSs b)
  | .while_ c b => okS_while (okT hgv c) (okSs b)
  | .for_ t it b => okS_for (okI hgv it) (okG hgv t) (okSs b)
  | .brk => fun μ H st σ env P D A N h k => k.bk σ env st μ H h A .refl N
  | .cont => fun μ H st σ env P D A N h k => k.ct σ env st μ H h A .refl N
  | .pass => fun μ H st σ env P D A N h k => k.nx σ env st μ H h A .refl N
theorem okSs : ∀ s : Ss, OkS K mg (rdSs K mg call gv s) (wpSs call cst s)
  | .nil => fun μ H st σ env P D A N h k => k.nx σ env st μ H h A .refl N
  | .cons s ss => fun μ H st σ env P D A N h k => okS_seq (okS s) (okSs ss) μ H st σ env P D A N h k
end
end
end Dq

set_option Elab.async false
set_option linter.all false
set_option maxRecDepth 100000
set_option maxHeartbeats 4000000
/-! Dq11: the compiler of statements; defs by level. -/
namespace Dq
open PySem PySem.Spec PyProof.Rows L2

/-! ### the compiler of statements -/
def isLoc (c : CC) (x : Str) : Bool := match c.sc.names.lookup x with
  | some .local => true
  | _ => false
def isCel (c : CC) (x : Str) : Bool := match c.sc.names.lookup x with
  | some .cell => true
  | _ => false
theorem isLoc_ok {c : CC} {x : Str} (h : isLoc c x = true) : c.sc.names.lookup x = some .local := by
  unfold isLoc at h
  split at h
  · assumption
  · cases h
theorem isCel_ok {c : CC} {x : Str} (h : isCel c x = true) : c.sc.names.lookup x = some .cell := by
  unfold isCel at h
  split at h
  · assumption
  · cases h
def isTupE : Expr → Bool
  | .Tuple _ _ _ => true
  | .List _ _ => true
  | _ => false
def cSs (f : Stmt → Option S) : List Stmt → Option Ss
  | [] => some .nil
  | s :: ss => (f s).bind fun s' => (cSs f ss).bind fun ss' => some (.cons s' ss')
def cAsg0 (r : Cp) (c : CC) (tg e : Expr) : Option S :=
  if noComp e = true then (if (isTupE tg && isTupE e) = false then (if noStar tg = true then (r.e c e).bind fun e' => (r.g c tg).bind fun t' => some (.asg t' e') else none) else none) else none
def cAsg (r : Cp) (c : CC) (tg e : Expr) : Option S := match tg, e with
  | .Name y py, .ListComp elt [⟨t, iter, ifs, 0⟩] scope lpos =>
    if (py.line == lpos.line) = true then (if isLoc c y = true then (if (scope.names.any fun (n, k) => n == y && (k == .local || k == .cell)) = false then
      (ixOf c.N y).bind fun i => (cComp r c elt t iter ifs scope).bind fun e' => some (.asg (.name i) e') else none) else none) else none
  | tg, e => cAsg0 r c tg e
def stS (r : Cp) (fs : List Stmt → Option Ss) (c : CC) : Stmt → Option S
  | .Expr e _ => if noComp e = true then (r.e c e).bind fun e' => some (.expr e') else none
  | .Assign [tg] e _ => cAsg r c tg e
  | .AugAssign (.Name x _) op e _ => if (isLoc c x || isCel c x) = true then (ixOf c.N x).bind fun i => (r.e c e).bind fun e' => some (.aug i op e') else none
  | .AugAssign (.Subscript o i _) op e _ => if plainIx i = true then (r.e c o).bind fun o' => (r.e c i).bind fun i' => (r.e c e).bind fun e' => some (.augs o' i' op e') else none
  | .Return (some e) _ => (r.e c e).bind fun e' => some (.ret e')
  | .Return none _ => some .retn
  | .If t a b _ => (r.t c t).bind fun t' => (fs a).bind fun a' => (fs b).bind fun b' => some (.ite t' a' b')
  | .While t b [] _ => (r.t c t).bind fun t' => (fs b).bind fun b' => some (.while_ t' b')
  | .For tg it b [] _ => (cI r c it).bind fun it' => (r.g c tg).bind fun t' => (fs b).bind fun b' => some (.for_ t' it' b')
  | .Break _ => some .brk
  | .Continue _ => some .cont
  | .Pass _ => some .pass
  | _ => none
def csN (k : Nat) (c : CC) : Nat → Stmt → Option S
  | 0 => fun _ => none
  | n + 1 => stS (cp k) (cSs (csN k c n)) c
abbrev rS (call : Cal) (c : CC) (X : Cx) : S → TS := rdS X.K (mgN c.G X.mg) call (gvN c.G X.mg)
abbrev rSs (call : Cal) (c : CC) (X : Cx) : Ss → TS := rdSs X.K (mgN c.G X.mg) call (gvN c.G X.mg)
section
variable {call : Cal} {n : Nat} {c : CC} {X : Cx} {r : Cp}
theorem cSs_ok {f : Stmt → Option S} (hf : ∀ s i, f s = some i → PS X s (rS call c X i)) : ∀ (ss : List Stmt) (i : Ss), cSs f ss = some i → PSs X ss (rSs call c X i)
  | [], i, h => by
    cases h
    exact pss_nil
  | s :: ss, i, h => by
    unfold cSs at h
    obtain ⟨s', h1, h⟩ := bindS h
    obtain ⟨ss', h2, h⟩ := bindS h
    cases h
    exact pss_cons (hf s s' h1) (cSs_ok hf ss ss' h2)
theorem sw_no {e : Expr} {t : Option Expr} {l : Nat} {env : Env} (h : noComp e = true) : swapsWith e t l env = pure false := by
  cases e <;> first | rfl | cases h
theorem st_no {tg e : Expr} {env : Env} (h : (isTupE tg && isTupE e) = false) : swappedStores [tg] e env = pure none := by
  cases tg <;> first | rfl | (cases e <;> first | rfl | cases h)
theorem asg0_ok (hr : CpOk r) (G : XG call n c X) {tg e : Expr} {pos : Pos} {i : S} (h : cAsg0 r c tg e = some i) : PS X (.Assign [tg] e pos) (rS call c X i) := by
  unfold cAsg0 at h
  obtain ⟨h1, h⟩ := ifS h
  obtain ⟨h2, h⟩ := ifS h
  obtain ⟨h3, h⟩ := ifS h
  obtain ⟨e', h4, h⟩ := bindS h
  obtain ⟨t', h5, h⟩ := bindS h
  cases h
  exact ps_asg (hr.e call n c X e e' G h4) (hr.g call n c X tg t' G h5) (sw_no h1) (st_no h2) (by rw [asg_cons h3] <;> rfl)
theorem asg_ok (hr : CpOk r) (G : XG call n c X) (hk : X.env.scope.kind = .function) {tg e : Expr} {pos : Pos} {i : S} (h : cAsg r c tg e = some i) : PS X (.Assign [tg] e pos) (rS call c X i) := by
  unfold cAsg at h
  split at h
  · rename_i y py elt t iter ifs scope lpos
    obtain ⟨h1, h⟩ := ifS h
    obtain ⟨h2, h⟩ := ifS h
    obtain ⟨h3, h⟩ := ifS h
    obtain ⟨j, h4, h⟩ := bindS h
    obtain ⟨e', h5, h⟩ := bindS h
    cases h
    obtain ⟨sl, wi, g, tt, te, L, e⟩ := comp_ok hr G h5
    show PS X _ (tAsg (rE call c X e') (gName j))
    rw [e]
    have hy := G.loc y (isLoc_ok h2)
    have z := ps_setLc (pos := lpos) (spos := pos) (py := py) G.calm G.nd (show X.N[j]? = some y by rw [G.hN]; exact ixOf_ok h4) hy (sw_true hk hy h1 h3) L.hi L.blk L.hg L.ht L.he L.fold
    rw [ownOf_snd] at z
    exact z
  · exact asg0_ok hr G h
theorem step_s (hr : CpOk r) (G : XG call n c X) (hk : X.env.scope.kind = .function) {fs : List Stmt → Option Ss} (hf : ∀ s i, fs s = some i → PSs X s (rSs call c X i)) (s : Stmt) (i : S) (h : stS r fs c s = some i) : PS X s (rS call c X i) := by
  have hx : PassesOwn (model X.prog X.w) X.A X.env X.xe := by
    rw [G.xe]
    exact PassesOwn.never
  unfold stS at h
  split at h
  · obtain ⟨h1, h⟩ := ifS h
    obtain ⟨e', h2, h⟩ := bindS h
    cases h
    exact ps_expr (hr.e call n c X _ e' G h2) (sw_no h1)
  · exact asg_ok hr G hk h
  · rename_i x p op e pos
    obtain ⟨h1, h⟩ := ifS h
    obtain ⟨j, h2, h⟩ := bindS h
    obtain ⟨e', h3, h⟩ := bindS h
    cases h
    have hl : c.sc.names.lookup x = some .local ∨ c.sc.names.lookup x = some .cell := by
      rw [Bool.or_eq_true] at h1
      exact h1.imp isLoc_ok isCel_ok
    obtain ⟨s1, s2⟩ := G.sto x hl
    exact ps_aug G.nd (by rw [G.hN]; exact ixOf_ok h2) s1 (hr.e call n c X _ e' G h3) (rAug_ip X op) s2
  · rename_i o ix p op e pos
    obtain ⟨h1, h⟩ := ifS h
    obtain ⟨o', h2, h⟩ := bindS h
    obtain ⟨i', h3, h⟩ := bindS h
    obtain ⟨e', h4, h⟩ := bindS h
    cases h
    refine ps_augS (hr.e call n c X _ o' G h2) (hr.e call n c X _ i' G h3) get_list (hr.e call n c X _ e' G h4) (rAug_ip X op) set_list fun ov iv new => ?_
    cases ix <;> first | rfl | cases h1
  · obtain ⟨e', h1, h⟩ := bindS h
    cases h
    exact ps_ret (hr.e call n c X _ e' G h1)
  · cases h
    exact ps_retN
  · obtain ⟨t', h1, h⟩ := bindS h
    obtain ⟨a', h2, h⟩ := bindS h
    obtain ⟨b', h3, h⟩ := bindS h
    cases h
    exact ps_if (hr.t call n c X _ t' G h1).1 (hf _ _ h2) (hf _ _ h3)
  · obtain ⟨t', h1, h⟩ := bindS h
    obtain ⟨b', h3, h⟩ := bindS h
    cases h
    exact ps_while hx (hr.t call n c X _ t' G h1).1 (hf _ _ h3)
  · rename_i tg it b pos
    obtain ⟨it', h1, h⟩ := bindS h
    obtain ⟨t', h2, h⟩ := bindS h
    obtain ⟨b', h3, h⟩ := bindS h
    cases h
    obtain ⟨z1, z2⟩ := cI_ok (fun a i => hr.e call n c X a i G) G (tg := tg) it it' h1
    exact ps_for hx G.calm z1 (hr.g call n c X _ t' G h2) (hf _ _ h3) z2
  · cases h
    exact ps_break
  · cases h
    exact ps_continue
  · cases h
    exact ps_pass
  · cases h
theorem csN_ok (G : XG call n c X) (hk : X.env.scope.kind = .function) (k : Nat) : ∀ (m : Nat) (s : Stmt) (i : S), csN k c m s = some i → PS X s (rS call c X i)
  | 0, s, i, h => by cases h
  | m + 1, s, i, h => step_s (cpOk k) G hk (fun ss i h => cSs_ok (csN_ok G hk k m) ss i h) s i h
end

/-! ### defs -/
structure Df where
  name : Str
  st : Stmt
  N : List Str
  P : List Str
def compD (G : Gm) (d : Df) : Option Ss := cSs (csN 40 ⟨d.N, defScope d.st, G⟩ 40) (defBody d.st)
structure DfOk (G : Gm) (d : Df) (fi : Fi) : Prop where
  sc : FnScope d.N d.P (defScope d.st)
  ps : fi.ps = d.P.length
  sl : fi.sl = d.N.length
  body : compD G d = some fi.body
/-- a def of the program as it stands behind the top -/
structure DfAt (K : PySem.W.Frag) (mg : Str → Option Value) (G : Gm) (d : Df) (fi : Fi) : Prop where
  ok : DfOk G d fi
  at_ : ∃ a fd, mg d.name = some (.ref a) ∧ Fun K d.name d.name d.st a fd ∧ Binds K fd d.P []
/-- a constant of the top -/
def CsAt (K : PySem.W.Frag) (mg : Str → Option Value) (mn : Nat → Option Value) (x : Str) (w : D) : Prop := ∃ u, mg x = some u ∧ (∃ v, RelV v u) ∧ ∀ v, RelV v u → ∀ μ H, Rep K mn μ H v w
structure PgOk (K : PySem.W.Frag) (mg : Str → Option Value) (G : Gm) (fns : List Fi) (cst : List D) : Prop where
  fn : ∀ (k : Nat) (x : Str), G.fnames[k]? = some x → ∃ d fi, d.name = x ∧ fns[k]? = some fi ∧ DfAt K mg G d fi
  cs : ∀ (k : Nat) (x : Str), G.cnames[k]? = some x → ∃ w, cst[k]? = some w ∧ CsAt K mg (mgN G mg) x w
  cl : cst.length ≤ G.cnames.length
  fr : ∀ x, G.free.contains x = true → mg x = none
section
variable {P : Program} {w : World} {K : PySem.W.Frag} {mg : Str → Option Value} {base : Heap} {G : Gm} {fns : List Fi} {cst : List D}
theorem PgOk.gv (R : PgOk K mg G fns cst) : ∀ k w, cst[k]? = some w → (∃ v, gvN G mg k v) ∧ ∀ v, gvN G mg k v → ∀ μ H, Rep K (mgN G mg) μ H v w := fun k w e => by
  have hk : k < G.cnames.length := Nat.lt_of_lt_of_le (List.getElem?_eq_some_iff.mp e).1 R.cl
  have hx : G.cnames[k]? = some G.cnames[k] := List.getElem?_eq_getElem hk
  obtain ⟨w', e', u, hu, ⟨v, hv⟩, hr⟩ := R.cs k _ hx
  rw [e] at e'
  cases e'
  refine ⟨⟨v, _, u, hx, hu, hv⟩, fun v' h' μ H => ?_⟩
  obtain ⟨x', u', hx', hu', hv'⟩ := h'
  rw [hx] at hx'
  cases hx'
  rw [hu] at hu'
  cases hu'
  exact hr v' hv' μ H
theorem env_start {μ : List Addr} {H : Hp} {mn : Nat → Option Value} : ∀ {vs : List V} {ws : List D} {N : List Str} {n : Nat}, Reps K mn μ H vs ws → n = N.length → EnvOk K mn μ H (L2.start N vs) (ws.map some ++ List.replicate (n - ws.length) none) := fun {vs ws N n} r hn => by
  subst hn
  unfold L2.start
  rw [r.length]
  refine ⟨by simp [r.length], fun i w h => ?_⟩
  by_cases hi : i < ws.length
  · rw [List.getElem?_append_left (by simpa using hi), List.getElem?_map] at h
    rw [List.getElem?_append_left (by simpa [r.length] using hi), List.getElem?_map]
    cases q : ws[i]? with
    | none =>
      rw [q] at h
      cases h
    | some w' =>
      rw [q] at h
      cases h
      obtain ⟨v, e, rv⟩ := r.get q
      exact ⟨v, by rw [e] <;> rfl, rv⟩
  · rw [List.getElem?_append_right (by simpa using hi), List.getElem?_replicate] at h
    split at h <;> cases h
theorem fn_step (R : PgOk K mg G fns cst) (n : Nat) (ih : ∀ (k : Nat) (x : Str), G.fnames[k]? = some x → ∃ a fd ps, mg x = some (.ref a) ∧ PySem.W.keepIn K (.ref a) = true ∧ Binds K fd ps [] ∧ FnOk P w K mg base CX0 n a fd ps (spD K (mgN G mg) (callW fns cst n k)))
    {k : Nat} {d : Df} {fi : Fi} {a : Addr} {fd : FuncData} (ok : DfOk G d fi) (hf : fns[k]? = some fi) (h2 : Fun K d.name d.name d.st a fd) : FnOk P w K mg base CX0 (n + 1) a fd d.P (spD K (mgN G mg) (callW fns cst (n + 1) k)) := by
  refine h2.ok ok.sc (fun vs H Q E h => ?_) fun cdv A outer s H vs Q E hr h => ?_
  · obtain ⟨μ, st, ws, Pd, A0, r, z, _⟩ := h
    obtain ⟨fi', e', l, _⟩ := z
    rw [hf] at e'
    cases e'
    rw [r.length, l, ok.ps]
  · obtain ⟨μ, st, ws, Pd, A0, r, z, kk⟩ := h
    obtain ⟨fi', e', l, z⟩ := z
    rw [hf] at e'
    cases e'
    have G0 : XG (callW fns cst n) n ⟨d.N, defScope d.st, G⟩ (cxOf CX0 P w K mg base d.N d.name (defScope d.st) a cdv A outer s H E).nox := by
      refine ⟨rfl, rfl, ok.sc.nd, hr, rfl, fun x k h1 h2 => ?_, fun x h => ⟨h, .inl rfl⟩, fun x h => h, fun x h => h, fun x h => h, fun k x h => ?_, R.fr, fun k f h => ih k f h⟩
      · rcases h2 with q | q | q
        · exact .inl (by rw [← q]; exact h1)
        · exact .inr (.inl (by rw [← q]; exact h1))
        · exact .inr (.inr (by rw [← q]; exact h1))
      · obtain ⟨w', _, u, hu, ⟨v, hv⟩, _⟩ := R.cs k x h
        exact ⟨u, v, hu, hv⟩
    refine ⟨_, cSs_ok (csN_ok G0 ok.sc.kind 40 40) (defBody d.st) fi.body ok.body, ?_⟩
    refine okSs R.gv fi.body μ H st (L2.start d.N vs) _ _ _ A0 (env_start r ok.sl) z ⟨fun σ' env' st' μ' H' p A1 e1 N1 => ?_, fun v w st' μ' H' p A1 e1 r1 => kk v w st' μ' H' p A1 e1 r1, fun _ _ _ _ _ p _ _ _ => False.elim p, fun _ _ _ _ _ p _ _ _ => False.elim p⟩
    exact kk .non .non st' μ' H' p A1 e1 .non
theorem fn_zero {k : Nat} {a : Addr} {fd : FuncData} {ps : List Str} : FnOk P w K mg base CX0 0 a fd ps (spD K (mgN G mg) (callW fns cst 0 k)) := by
  refine ⟨fun vs H Q E h => ?_, fun A outer s H args us vs Q E _ _ _ _ h => ?_⟩
  · obtain ⟨_, _, _, _, _, _, z, _⟩ := h
    exact False.elim z
  · obtain ⟨_, _, _, _, _, _, z, _⟩ := h
    exact False.elim z
theorem fns_ok (R : PgOk K mg G fns cst) : ∀ (n k : Nat) (x : Str), G.fnames[k]? = some x → ∃ a fd ps, mg x = some (.ref a) ∧ PySem.W.keepIn K (.ref a) = true ∧ Binds K fd ps [] ∧ FnOk P w K mg base CX0 n a fd ps (spD K (mgN G mg) (callW fns cst n k))
  | 0, k, x, hx => by
    obtain ⟨d, fi, e, hf, hd⟩ := R.fn k x hx
    obtain ⟨a, fd, h1, h2, h3⟩ := hd.at_
    exact ⟨a, fd, d.P, by rw [← e]; exact h1, h2.kp, h3, fn_zero⟩
  | n + 1, k, x, hx => by
    obtain ⟨d, fi, e, hf, hd⟩ := R.fn k x hx
    obtain ⟨a, fd, h1, h2, h3⟩ := hd.at_
    exact ⟨a, fd, d.P, by rw [← e]; exact h1, h2.kp, h3, fn_step R n (fns_ok R n) hd.ok hf h2⟩
theorem fns_okD (R : PgOk K mg G fns cst) (n : Nat) {k : Nat} {d : Df} {fi : Fi} {a : Addr} {fd : FuncData} (ok : DfOk G d fi) (hf : fns[k]? = some fi) (h2 : Fun K d.name d.name d.st a fd) : FnOk P w K mg base CX0 n a fd d.P (spD K (mgN G mg) (callW fns cst n k)) := by
  cases n with
  | zero => exact fn_zero
  | succ n => exact fn_step R n (fns_ok R n) ok hf h2
end
end Dq

set_option Elab.async false
set_option linter.all false
set_option maxRecDepth 100000
set_option maxHeartbeats 4000000
/-! Dq12: from the head's facts to the law's end. -/
namespace Dq
open PySem PySem.Spec PyProof.Rows L2

/-- the whole program: its defs, its top's constants, the builtins' names that it uses -/
structure Src where
  defs : List Df
  cs : List (Str × D)
  free : List Str
def Src.G (p : Src) : Gm := ⟨p.defs.map (·.name), p.cs.map (·.1), p.free⟩
def csFa : Str × D → He.Fa
  | (x, .str s) => .str x ⟨s.toArray⟩
  | (x, .int i) => .int x i
  | (x, _) => .free x
def isCs : Str × D → Bool
  | (_, .str _) => true
  | (_, .int _) => true
  | _ => false
def Src.fa (p : Src) : List He.Fa := p.defs.map (fun d => .glo d.name) ++ (p.cs.map csFa ++ p.free.map .free)
def dOf (d : Df) : He.DefD := ⟨(d.name, none), d.name, d.name, defArgs d.st, defBody d.st, defScope d.st, [], []⟩
def Src.fn (p : Src) : List He.DefD := p.defs.map dOf
def BindH (d : Df) : Prop := ∀ (kV doc pm : Value) (an : Option Addr) (cdv ct : Value) (us : List Value), us.length = d.P.length → bindArgs (PySem.W.fnOf d.name d.name (defArgs d.st) (defBody d.st) (defScope d.st) .none kV doc pm an cdv ct) ⟨us, []⟩ = pure (d.P.zip us)
/-- the texts and the language's bodies belong together -/
structure SrcOk (p : Src) (fns : List Fi) : Prop where
  df : ∀ (k : Nat) (d : Df), p.defs[k]? = some d → ∃ fi, fns[k]? = some fi ∧ DfOk p.G d fi ∧ BindH d
  cs : p.cs.all isCs = true
inductive AllD (G : Gm) : List Df → List Fi → Prop where
  | nil : AllD G [] []
  | cons {d : Df} {ds : List Df} {fi : Fi} {fs : List Fi} : DfOk G d fi → BindH d → AllD G ds fs → AllD G (d :: ds) (fi :: fs)
theorem AllD.get {G : Gm} : ∀ {ds : List Df} {fs : List Fi} {k : Nat} {d : Df}, AllD G ds fs → ds[k]? = some d → ∃ fi, fs[k]? = some fi ∧ DfOk G d fi ∧ BindH d
  | _, _, k, _, .nil, h => by simp at h
  | _, _, 0, _, .cons a b _, h => by
    cases h
    exact ⟨_, rfl, a, b⟩
  | _, _, k + 1, d, .cons _ _ t, h => AllD.get (k := k) (d := d) t h
theorem fun_of {K : PySem.W.Frag} {x qual : Str} {st : Stmt} {f : Addr} {fd : FuncData} {kws : List (Str × V)} (F : FunD K x qual (defArgs st) (defBody st) (defScope st) [] kws f fd) : Fun K x qual st f fd := by
  obtain ⟨oc, od, dV, kV, doc, pm, an, cdv, ct, osl, h, lk, c, dfl, _⟩ := F.ex
  rcases dfl with ⟨_, rfl⟩ | ⟨z, _⟩
  · exact ⟨⟨oc, od, kV, doc, pm, an, cdv, ct, osl, h, lk, c⟩, F.kp⟩
  · exact absurd rfl z
section
variable {K : PySem.W.Frag} {mg : Str → Option Value} {h : Heap} {p : Src} {fns : List Fi}
theorem def_at (X : K.In h) (N : h.Ns mainGlobals mg) (c : He.SaysD p.fa p.fn K) {k : Nat} {d : Df} (hd : p.defs[k]? = some d) :
    mg d.name = some (.ref (He.ga K d.name)) ∧ ∃ fd, FunD K d.name d.name (defArgs d.st) (defBody d.st) (defScope d.st) [] [] (He.ga K d.name) fd := by
  have hk : k < p.defs.length := (List.getElem?_eq_some_iff.mp hd).1
  refine ⟨He.glo_ok X N (c.fact k ?_), ?_⟩
  · unfold Src.fa
    rw [List.getElem?_append_left (by simpa using hk), List.getElem?_map, hd] <;> rfl
  · have e : p.fn[k]? = some (dOf d) := by
      unfold Src.fn
      rw [List.getElem?_map, hd] <;> rfl
    exact c.def_ k e
theorem cs_at (X : K.In h) (N : h.Ns mainGlobals mg) (c : He.SaysD p.fa p.fn K) {mn : Nat → Option Value} {k : Nat} {q : Str × D} (hq : p.cs[k]? = some q) (hc : isCs q = true) : CsAt K mg mn q.1 q.2 := by
  have hk : k < p.cs.length := (List.getElem?_eq_some_iff.mp hq).1
  have f := c.fact (p.defs.length + k) (f := csFa q) (by
    unfold Src.fa
    rw [List.getElem?_append_right (by simp), List.length_map, Nat.add_sub_cancel_left, List.getElem?_append_left (by simpa using hk), List.getElem?_map, hq] <;> rfl)
  obtain ⟨x, w⟩ := q
  cases w with
  | str s =>
    obtain ⟨t, e⟩ := He.str_ok X N f
    refine ⟨_, e, ⟨.str ⟨s.toArray⟩, ⟨t, rfl⟩⟩, fun v hv μ H => ?_⟩
    cases v with
    | str z =>
      obtain ⟨t', e'⟩ := hv
      cases e'
      exact .str s
    | _ => first | (obtain ⟨_, e'⟩ := hv; cases e'; done) | (cases hv; done)
  | int i =>
    obtain ⟨t, e⟩ := He.int_ok X N f
    refine ⟨_, e, ⟨.int i, ⟨t, rfl⟩⟩, fun v hv μ H => ?_⟩
    cases v with
    | int z =>
      obtain ⟨t', e'⟩ := hv
      cases e'
      exact .int i
    | _ => first | (obtain ⟨_, e'⟩ := hv; cases e'; done) | (cases hv; done)
  | _ => cases hc
theorem pg_of (X : K.In h) (N : h.Ns mainGlobals mg) (ok : SrcOk p fns) (c : He.SaysD p.fa p.fn K) : PgOk K mg p.G fns (p.cs.map (·.2)) := by
  refine ⟨fun k x hx => ?_, fun k x hx => ?_, ?_, fun x hx => ?_⟩
  · have hx : (p.defs.map (·.name))[k]? = some x := hx
    rw [List.getElem?_map] at hx
    cases hd : p.defs[k]? with
    | none =>
      rw [hd] at hx
      cases hx
    | some d =>
      rw [hd] at hx
      cases hx
      obtain ⟨fi, e, o, b⟩ := ok.df k d hd
      obtain ⟨h1, fd, F⟩ := def_at X N c hd
      exact ⟨d, fi, rfl, e, o, _, fd, h1, fun_of F, F.bindsN b⟩
  · have hx : (p.cs.map (·.1))[k]? = some x := hx
    rw [List.getElem?_map] at hx
    cases hd : p.cs[k]? with
    | none =>
      rw [hd] at hx
      cases hx
    | some q =>
      rw [hd] at hx
      cases hx
      exact ⟨q.2, by rw [List.getElem?_map, hd] <;> rfl, cs_at X N c hd (List.all_eq_true.mp ok.cs q (List.mem_of_getElem? hd))⟩
  · show (p.cs.map (·.2)).length ≤ (p.cs.map (·.1)).length
    simp
  · have hm : x ∈ p.free := by
      have hx : p.free.contains x = true := hx
      simpa using hx
    obtain ⟨k, hk, e⟩ := List.mem_iff_getElem.mp hm
    refine He.free_ok X N (c.fact (p.defs.length + p.cs.length + k) (f := .free x) ?_)
    unfold Src.fa
    rw [List.getElem?_append_right (by rw [List.length_map]; omega), List.length_map, List.getElem?_append_right (by rw [List.length_map]; omega), List.length_map, List.getElem?_map]
    have ek : p.defs.length + p.cs.length + k - p.defs.length - p.cs.length = k := by omega
    rw [ek, List.getElem?_eq_getElem hk, e] <;> rfl
end

/-! ### the law -/
def spLaw (K : PySem.W.Frag) : Sp := fun vs H Q _ => ∃ (a : Addr) (ns : List Int), vs = [.ref a] ∧ FrzL K H a (ns.map V.int) ∧ ns.length ≤ 63 ∧ ∀ H', Q (.bl true) H'
theorem reps_ints {K : PySem.W.Frag} {mn : Nat → Option Value} {μ : List Addr} {H : Hp} : ∀ ns : List Int, Reps K mn μ H (ns.map V.int) (ns.map D.int)
  | [] => .nil
  | n :: ns => .cons (.int n) (reps_ints ns)
theorem abs_nil {K : PySem.W.Frag} {mn : Nat → Option Value} {H : Hp} : Abs K mn [] H [] := ⟨rfl, List.nodup_nil, fun n a c h _ => by simp at h⟩
/-- what the law's run must give: True, for every list of ints -/
def LawW (fns : List Fi) (cst : List D) (n k : Nat) : Prop := ∀ ns : List Int, ns.length ≤ 63 → callW fns cst n k [.flst (ns.map .int)] [] fun w _ => w = .bl true
theorem frz_of {K : PySem.W.Frag} {H : Hp} {a : Addr} {xs : List V} (o : Only H) (h : SqL K H a xs) : FrzL K H a xs := by
  rcases h with (h | ⟨u, h⟩) | h
  · rcases o a with z | ⟨u, ys, z⟩
    · rw [h] at z
      cases z
    · rw [h] at z
      cases z
  · exact .inl ⟨u, h⟩
  · exact .inr fun _ => .inr h
theorem law_facts {P : Program} {w : World} {K : PySem.W.Frag} {h : Heap} {mg : Str → Option Value} {f : Addr} {p : Src} {fns : List Fi} {n k : Nat} {d : Df} {x : Str} (ok : SrcOk p fns) (hL : LawW fns (p.cs.map (·.2)) n k) (hd : p.defs[k]? = some d) (hP : d.P = [x])
    (X : K.In h) (N : h.Ns mainGlobals mg) (hfa : mg d.name = some (.ref f)) (c : He.SaysD p.fa p.fn K) :
    ∃ fd : FuncData, (∀ (s : Shared) (v : Value), BindsTo s fd ⟨[v], []⟩ [(x, v)]) ∧ ∀ base : Heap, K.In base → base.Ns mainGlobals mg → FnOk P w K mg base CX0 n f fd [x] (spLaw K) := by
  obtain ⟨fi, e, o, b⟩ := ok.df k d hd
  obtain ⟨h1, fd, F⟩ := def_at X N c hd
  have e1 := hfa.symm.trans h1
  cases e1
  refine ⟨fd, fun s v => ?_, fun base _ _ => ?_⟩
  · have z := F.bindsA b s [v] (by rw [hP] <;> rfl)
    rw [hP] at z
    exact z
  · have R := pg_of X N ok c
    have F0 : FnOk P w K mg base CX0 n (He.ga K d.name) fd d.P (spD K (mgN p.G mg) (callW fns (p.cs.map (·.2)) n k)) := fns_okD R n o e (fun_of F)
    rw [hP] at F0
    refine F0.imp fun vs H Q E hs => ?_
    obtain ⟨a, ns, rfl, hF, h63, hQ⟩ := hs
    refine ⟨[], [], [.flst (ns.map .int)], fun w _ => w = .bl true, abs_nil, .cons (.flst hF (reps_ints ns)) .nil, hL ns h63, fun v w st' μ' H' pw A1 e1 r => ?_⟩
    subst pw
    cases r
    exact hQ H'
end Dq

set_option Elab.async false
set_option linter.all false
set_option maxRecDepth 100000
set_option maxHeartbeats 4000000
/-! Dq13: weaker wishes, deeper levels. -/
namespace Dq
open PySem L2

section
variable {st : Sto} {x y : D}
theorem truW_mono {P Q : Bool → Prop} (h : ∀ b, P b → Q b) (p : truW st x P) : truW st x Q := by
  cases x <;> first | exact h _ p | exact ⟨p.1, h _ p.2⟩ | exact let ⟨ws, a, q⟩ := p; ⟨ws, a, h _ q⟩ | exact False.elim p
theorem lenW_mono {P Q : Nat → Prop} (h : ∀ b, P b → Q b) (p : lenW st x P) : lenW st x Q := by
  cases x <;> first | exact h _ p | exact ⟨p.1, h _ p.2⟩ | exact let ⟨ws, a, q⟩ := p; ⟨ws, a, h _ q⟩ | exact False.elim p
theorem idxW_mono {P Q : D → Prop} (h : ∀ b, P b → Q b) (p : idxW st x y P) : idxW st x y Q := by
  cases x <;> first
    | exact False.elim p
    | (cases y <;> first
        | exact False.elim p
        | exact let ⟨a, c, b, q⟩ := p; ⟨a, c, b, h _ q⟩
        | exact let ⟨c, b, q⟩ := p; ⟨c, b, h _ q⟩
        | exact let ⟨ws, a, c, b, q⟩ := p; ⟨ws, a, c, b, h _ q⟩)
theorem idlW_mono {P Q : D → Prop} (h : ∀ b, P b → Q b) (p : idlW st x y P) : idlW st x y Q := by
  cases x <;> first
    | exact False.elim p
    | (cases y <;> first
        | exact False.elim p
        | exact let ⟨ws, a, c, b, q⟩ := p; ⟨ws, a, c, b, h _ q⟩)
theorem slcW_mono {l u : Option Int} {P Q : DK} (h : ∀ b s, P b s → Q b s) (p : slcW st x l u P) : slcW st x l u Q := by
  cases x <;> first
    | exact False.elim p
    | exact ⟨p.1, h _ _ p.2⟩
    | exact let ⟨ws, a, q⟩ := p; ⟨ws, a, h _ _ q⟩
    | exact h _ _ p
theorem binW_mono {o : Operator} {P Q : DK} (h : ∀ b s, P b s → Q b s) (p : binW st o x y P) : binW st o x y Q := by
  cases o <;> cases x <;> first
    | exact False.elim p
    | (cases y <;> first
        | exact False.elim p
        | exact h _ _ p
        | exact ⟨p.1, h _ _ p.2⟩
        | exact let ⟨xs, ys, a, b, c, q⟩ := p; ⟨xs, ys, a, b, c, h _ _ q⟩)
theorem augW_mono {o : Operator} {P Q : DK} (h : ∀ b s, P b s → Q b s) (p : augW st o x y P) : augW st o x y Q := by
  cases o <;> cases x <;> first
    | exact False.elim p
    | (cases y <;> first
        | exact False.elim p
        | exact h _ _ p
        | exact ⟨p.1, h _ _ p.2⟩)
theorem bltW_mono {f : Bt} {xs : List D} {P Q : DK} (h : ∀ b s, P b s → Q b s) (p : bltW st f xs P) : bltW st f xs Q := by
  unfold bltW at p ⊢
  split at p <;> first
    | exact lenW_mono (fun _ q => h _ _ q) p
    | exact h _ _ p
    | exact let ⟨ws, a, q⟩ := p; ⟨ws, a, h _ _ q⟩
    | exact False.elim p
theorem mthW_mono {m : Mt} {xs : List D} {P Q : DK} (h : ∀ b s, P b s → Q b s) (p : mthW st m x xs P) : mthW st m x xs Q := by
  unfold mthW at p ⊢
  split at p <;> first
    | exact let ⟨ws, a, b, q⟩ := p; ⟨ws, a, b, h _ _ q⟩
    | exact let ⟨ws, w, a, b, q⟩ := p; ⟨ws, w, a, b, h _ _ q⟩
    | exact False.elim p
theorem setW_mono {w : D} {P Q : Sto → Prop} (h : ∀ s, P s → Q s) (p : setW st x y w P) : setW st x y w Q := by
  unfold setW at p ⊢
  split at p <;> first
    | exact let ⟨ws, j, a, b, q⟩ := p; ⟨ws, j, a, b, h _ q⟩
    | exact False.elim p
theorem seqW_mono {P Q : List D → Option (Nat × List D) → Prop} (h : ∀ a b, P a b → Q a b) (p : seqW st x P) : seqW st x Q := by
  cases x <;> first | exact h _ _ p | exact let ⟨ws, a, q⟩ := p; ⟨ws, a, h _ _ q⟩ | exact False.elim p
end
theorem compW_mono {keep : Sto → Prop} {f g : D → Sto → (Option D → Sto → Prop) → Prop} {P Q : DK} (hf : ∀ w st A B, (∀ r s, A r s → B r s) → f w st A → g w st B) (h : ∀ b s, P b s → Q b s) : ∀ (ws acc : List D) (st : Sto), compW keep f P ws acc st → compW keep g Q ws acc st
  | [], acc, st, p => ⟨p.1, h _ _ p.2⟩
  | w :: ws, acc, st, p => ⟨p.1, hf _ _ _ _ (fun r s q => by
      cases r with
      | some x => exact ⟨q.1, compW_mono hf h ws _ s q.2⟩
      | none => exact compW_mono hf h ws _ s q) p.2⟩
theorem forW_mono {keep : Sto → Prop} {f g : D → En → Sto → EK → Prop} {P Q : EK} (hf : ∀ w e st (A B : EK), (∀ r s, A r s → B r s) → f w e st A → g w e st B) (h : ∀ b s, P b s → Q b s) : ∀ (ws : List D) (e : En) (st : Sto), forW keep f P ws e st → forW keep g Q ws e st
  | [], e, st, p => ⟨p.1, h _ _ p.2⟩
  | w :: ws, e, st, p => ⟨p.1, hf _ _ _ _ _ (fun r s q => forW_mono hf h ws r s q) p.2⟩
theorem whileW_mono {c d : En → Sto → (Bool → Sto → Prop) → Prop} {f g : En → Sto → EK → Prop} {P Q : EK} (hc : ∀ e st A B, (∀ r s, A r s → B r s) → c e st A → d e st B) (hf : ∀ e st (A B : EK), (∀ r s, A r s → B r s) → f e st A → g e st B) (h : ∀ b s, P b s → Q b s) :
    ∀ (n : Nat) (e : En) (st : Sto), whileW c f P n e st → whileW d g Q n e st
  | 0, e, st, p => p
  | n + 1, e, st, p => hc _ _ _ _ (fun r s q => by
      cases r with
      | true => exact hf _ _ _ _ (fun r s z => whileW_mono hc hf h n r s z) q
      | false => exact h _ _ q) p
def CalLe (c d : Cal) : Prop := ∀ f ws st (P Q : DK), (∀ b s, P b s → Q b s) → c f ws st P → d f ws st Q
section
variable {c d : Cal} {cst : List D} (hc : CalLe c d)
include hc
mutual
theorem wpE_mono : ∀ (e : E) (env : En) (st : Sto) (P Q : DK), (∀ b s, P b s → Q b s) → wpE c cst e env st P → wpE d cst e env st Q
  | .var i, env, st, P, Q, h, p => let ⟨w, a, q⟩ := p; ⟨w, a, h _ _ q⟩
  | .cst w, env, st, P, Q, h, p => ⟨p.1, h _ _ p.2⟩
  | .glob k, env, st, P, Q, h, p => let ⟨w, a, q⟩ := p; ⟨w, a, h _ _ q⟩
  | .bin op a b, env, st, P, Q, h, p => wpE_mono a env st _ _ (fun x s q => wpE_mono b env s _ _ (fun y s q => binW_mono h q) q) p
  | .neg a, env, st, P, Q, h, p => wpE_mono a env st _ _ (fun x s q => let ⟨i, z, q⟩ := q; ⟨i, z, h _ _ q⟩) p
  | .cmp op a b, env, st, P, Q, h, p => wpE_mono a env st _ _ (fun x s q => wpE_mono b env s _ _ (fun y s q => cmpW_mono op s x y _ _ (fun r q => h _ _ q) q) q) p
  | .chain o o2 a b e, env, st, P, Q, h, p => wpE_mono a env st _ _ (fun x s q => wpE_mono b env s _ _ (fun y s q => cmpW_mono o s x y _ _ (fun r q => by
      cases r with
      | true => exact wpE_mono e env s _ _ (fun z s q => cmpW_mono o2 s y z _ _ (fun r q => h _ _ q) q) q
      | false => exact h _ _ q) q) q) p
  | .band a b, env, st, P, Q, h, p => wpE_mono a env st _ _ (fun x s q => truW_mono (fun r q => by
      cases r with
      | true => exact wpE_mono b env s _ _ h q
      | false => exact h _ _ q) q) p
  | .bor a b, env, st, P, Q, h, p => wpE_mono a env st _ _ (fun x s q => truW_mono (fun r q => by
      cases r with
      | true => exact h _ _ q
      | false => exact wpE_mono b env s _ _ h q) q) p
  | .bnot a, env, st, P, Q, h, p => wpE_mono a env st _ _ (fun x s q => truW_mono (fun r q => h _ _ q) q) p
  | .ife t a b, env, st, P, Q, h, p => wpT_mono t env st _ _ (fun r s q => by
      cases r with
      | true => exact wpE_mono a env s _ _ h q
      | false => exact wpE_mono b env s _ _ h q) p
  | .tup es, env, st, P, Q, h, p => wpEs_mono es env st _ _ (fun xs s q => ⟨q.1, h _ _ q.2⟩) p
  | .lst es, env, st, P, Q, h, p => wpEs_mono es env st _ _ (fun xs s q => ⟨q.1, h _ _ q.2⟩) p
  | .idx a b, env, st, P, Q, h, p => wpE_mono a env st _ _ (fun x s q => wpE_mono b env s _ _ (fun y s q => idxW_mono (fun z q => h _ _ q) q) q) p
  | .slc a lo hi, env, st, P, Q, h, p => wpE_mono a env st _ _ (fun x s q => wpEo_mono lo env s _ _ (fun l s q => wpEo_mono hi env s _ _ (fun u s q => slcW_mono h q) q) q) p
  | .call f es, env, st, P, Q, h, p => wpEs_mono es env st _ _ (fun xs s q => hc _ _ _ _ _ h q) p
  | .blt f es, env, st, P, Q, h, p => wpEs_mono es env st _ _ (fun xs s q => bltW_mono h q) p
  | .isi a t, env, st, P, Q, h, p => wpE_mono a env st _ _ (fun x s q => let ⟨b, z, q⟩ := q; ⟨b, z, h _ _ q⟩) p
  | .mth m o es, env, st, P, Q, h, p => wpE_mono o env st _ _ (fun x s q => ⟨q.1, wpEs_mono es env s _ _ (fun xs s q => mthW_mono h q) q.2⟩) p
  | .comp own elt t it co, env, st, P, Q, h, p => ⟨p.1, wpI_mono it env st _ _ (fun ws k s q => compW_mono (fun w s A B hAB q => wpTg_mono t w _ s _ _ (fun e s q => wpTeo_mono co e s _ _ (fun r s q => by
      cases r with
      | true => exact wpE_mono elt e s _ _ (fun x s q => hAB _ _ q) q
      | false => exact hAB _ _ q) q) q) h ws [] s q) p.2⟩
theorem wpEo_mono : ∀ (e : Eo) (env : En) (st : Sto) (P Q : Option Int → Sto → Prop), (∀ b s, P b s → Q b s) → wpEo c cst e env st P → wpEo d cst e env st Q
  | .no, env, st, P, Q, h, p => h _ _ p
  | .yes e, env, st, P, Q, h, p => wpE_mono e env st _ _ (fun x s q => let ⟨i, z, q⟩ := q; ⟨i, z, h _ _ q⟩) p
theorem wpEs_mono : ∀ (e : Es) (env : En) (st : Sto) (P Q : List D → Sto → Prop), (∀ b s, P b s → Q b s) → wpEs c cst e env st P → wpEs d cst e env st Q
  | .nil, env, st, P, Q, h, p => h _ _ p
  | .cons e es, env, st, P, Q, h, p => wpE_mono e env st _ _ (fun x s q => wpEs_mono es env s _ _ (fun xs s q => h _ _ q) q) p
theorem wpT_mono : ∀ (e : Te) (env : En) (st : Sto) (P Q : Bool → Sto → Prop), (∀ b s, P b s → Q b s) → wpT c cst e env st P → wpT d cst e env st Q
  | .val e, env, st, P, Q, h, p => wpE_mono e env st _ _ (fun x s q => truW_mono (fun r q => h _ _ q) q) p
  | .tst e, env, st, P, Q, h, p => wpE_mono e env st _ _ (fun x s q => let ⟨b, z, q⟩ := q; ⟨b, z, h _ _ q⟩) p
  | .and_ a b, env, st, P, Q, h, p => wpT_mono a env st _ _ (fun r s q => by
      cases r with
      | true => exact wpT_mono b env s _ _ h q
      | false => exact h _ _ q) p
  | .or_ a b, env, st, P, Q, h, p => wpT_mono a env st _ _ (fun r s q => by
      cases r with
      | true => exact h _ _ q
      | false => exact wpT_mono b env s _ _ h q) p
  | .not_ a, env, st, P, Q, h, p => wpT_mono a env st _ _ (fun r s q => h _ _ q) p
theorem wpTeo_mono : ∀ (e : Teo) (env : En) (st : Sto) (P Q : Bool → Sto → Prop), (∀ b s, P b s → Q b s) → wpTeo c cst e env st P → wpTeo d cst e env st Q
  | .no, env, st, P, Q, h, p => h _ _ p
  | .yes e, env, st, P, Q, h, p => wpT_mono e env st _ _ h p
theorem wpTg_mono : ∀ (t : T) (w : D) (env : En) (st : Sto) (P Q : EK), (∀ b s, P b s → Q b s) → wpTg c cst t w env st P → wpTg d cst t w env st Q
  | .name i, w, env, st, P, Q, h, p => h _ _ p
  | .tup ts, w, env, st, P, Q, h, p => let ⟨ws, a, b, q⟩ := p; ⟨ws, a, b, wpTgs_mono ts ws env st _ _ h q⟩
  | .sub o i, w, env, st, P, Q, h, p => wpE_mono o env st _ _ (fun x s q => wpE_mono i env s _ _ (fun y s q => setW_mono (fun s q => h _ _ q) q) q) p
theorem wpTgs_mono : ∀ (t : Ts) (ws : List D) (env : En) (st : Sto) (P Q : EK), (∀ b s, P b s → Q b s) → wpTgs c cst t ws env st P → wpTgs d cst t ws env st Q
  | .nil, ws, env, st, P, Q, h, p => ⟨p.1, h _ _ p.2⟩
  | .cons t ts, ws, env, st, P, Q, h, p => let ⟨w, r, a, q⟩ := p; ⟨w, r, a, wpTg_mono t w env st _ _ (fun e s q => wpTgs_mono ts r e s _ _ h q) q⟩
theorem wpI_mono : ∀ (i : I) (env : En) (st : Sto) (P Q : List D → Option (Nat × List D) → Sto → Prop), (∀ a b s, P a b s → Q a b s) → wpI c cst i env st P → wpI d cst i env st Q
  | .exp e, env, st, P, Q, h, p => wpE_mono e env st _ _ (fun x s q => seqW_mono (fun a b q => h _ _ _ q) q) p
  | .range1 a, env, st, P, Q, h, p => wpE_mono a env st _ _ (fun x s q => let ⟨j, z, u, v, q⟩ := q; ⟨j, z, u, v, h _ _ _ q⟩) p
  | .range2 a b, env, st, P, Q, h, p => wpE_mono a env st _ _ (fun x s q => wpE_mono b env s _ _ (fun y s q => let ⟨i, j, z, u, v, q⟩ := q; ⟨i, j, z, u, v, h _ _ _ q⟩) q) p
end
structure K4Le (K L : K4) : Prop where
  nx : ∀ e s, K.nx e s → L.nx e s
  rt : ∀ e s, K.rt e s → L.rt e s
  bk : ∀ e s, K.bk e s → L.bk e s
  ct : ∀ e s, K.ct e s → L.ct e s
mutual
theorem wpS_mono : ∀ (s : S) (env : En) (st : Sto) (K L : K4), K4Le K L → wpS c cst s env st K → wpS d cst s env st L
  | .expr e, env, st, K, L, h, p => wpE_mono hc e env st _ _ (fun x s q => h.nx _ _ q) p
  | .asg t e, env, st, K, L, h, p => wpE_mono hc e env st _ _ (fun x s q => wpTg_mono hc t x env s _ _ h.nx q) p
  | .aug i op e, env, st, K, L, h, p => let ⟨x, a, q⟩ := p; ⟨x, a, wpE_mono hc e env st _ _ (fun y s q => augW_mono (fun z s q => h.nx _ _ q) q) q⟩
  | .augs o i op e, env, st, K, L, h, p => wpE_mono hc o env st _ _ (fun x s q => wpE_mono hc i env s _ _ (fun y s q => idlW_mono (fun v q => wpE_mono hc e env s _ _ (fun u s q => augW_mono (fun z s q => setW_mono (fun s q => h.nx _ _ q) q) q) q) q) q) p
  | .ret e, env, st, K, L, h, p => wpE_mono hc e env st _ _ h.rt p
  | .retn, env, st, K, L, h, p => h.rt _ _ p
  | .ite t a b, env, st, K, L, h, p => wpT_mono hc t env st _ _ (fun r s q => by
      cases r with
      | true => exact wpSs_mono a env s _ _ h q
      | false => exact wpSs_mono b env s _ _ h q) p
  | .while_ t b, env, st, K, L, h, p => let ⟨n, q⟩ := p; ⟨n, whileW_mono (fun e s A B hAB q => wpT_mono hc t e s _ _ hAB q) (fun e s A B hAB q => wpSs_mono b e s ⟨A, K.rt, K.nx, A⟩ ⟨B, L.rt, L.nx, B⟩ ⟨hAB, h.rt, h.nx, hAB⟩ q) h.nx n env st q⟩
  | .for_ t i b, env, st, K, L, h, p => wpI_mono hc i env st _ _ (fun ws k s q => forW_mono (fun w e s A B hAB q => wpTg_mono hc t w e s _ _ (fun e s q => wpSs_mono b e s ⟨A, K.rt, K.nx, A⟩ ⟨B, L.rt, L.nx, B⟩ ⟨hAB, h.rt, h.nx, hAB⟩ q) q) h.nx ws env s q) p
  | .brk, env, st, K, L, h, p => h.bk _ _ p
  | .cont, env, st, K, L, h, p => h.ct _ _ p
  | .pass, env, st, K, L, h, p => h.nx _ _ p
theorem wpSs_mono : ∀ (s : Ss) (env : En) (st : Sto) (K L : K4), K4Le K L → wpSs c cst s env st K → wpSs d cst s env st L
  | .nil, env, st, K, L, h, p => h.nx _ _ p
  | .cons s ss, env, st, K, L, h, p => wpS_mono s env st ⟨fun e s => wpSs c cst ss e s K, K.rt, K.bk, K.ct⟩ ⟨fun e s => wpSs d cst ss e s L, L.rt, L.bk, L.ct⟩ ⟨fun e s q => wpSs_mono ss e s _ _ h q, h.rt, h.bk, h.ct⟩ p
end
end
section
variable {fns : List Fi} {cst : List D}
theorem callW_le : ∀ {m n : Nat}, m ≤ n → CalLe (callW fns cst m) (callW fns cst n)
  | 0, _, _, f, ws, st, P, Q, h, p => False.elim p
  | m + 1, 0, l, f, ws, st, P, Q, h, p => absurd l (Nat.not_succ_le_zero m)
  | m + 1, n + 1, l, f, ws, st, P, Q, h, p => let ⟨d, a, b, q⟩ := p
    ⟨d, a, b, wpSs_mono (callW_le (Nat.le_of_succ_le_succ l)) d.body _ _ ⟨fun _ s => P .non s, P, fun _ _ => False, fun _ _ => False⟩ ⟨fun _ s => Q .non s, Q, fun _ _ => False, fun _ _ => False⟩ ⟨fun _ _ q => h _ _ q, h, fun _ _ q => q, fun _ _ q => q⟩ q⟩
theorem call_mono {n f : Nat} {ws : List D} {st : Sto} {P Q : DK} (p : callW fns cst n f ws st P) (h : ∀ b s, P b s → Q b s) : callW fns cst n f ws st Q := callW_le (Nat.le_refl n) f ws st P Q h p
theorem call_up {m n f : Nat} {ws : List D} {st : Sto} {P Q : DK} (p : callW fns cst m f ws st P) (l : m ≤ n) (h : ∀ b s, P b s → Q b s) : callW fns cst n f ws st Q := callW_le l f ws st P Q h p
end
end Dq

set_option Elab.async false
set_option linter.all false
set_option maxRecDepth 100000
set_option maxHeartbeats 4000000
/-! Dq14: rules for whoever reads a program of the language. -/
namespace Dq
open PySem L2

section
variable {call : Cal} {cst : List D}
theorem wp_cons {s : S} {ss : Ss} {env : En} {st : Sto} {K : K4} (h : wpS call cst s env st ⟨fun e s => wpSs call cst ss e s K, K.rt, K.bk, K.ct⟩) : wpSs call cst (.cons s ss) env st K := h
theorem wp_nil {env : En} {st : Sto} {K : K4} (h : K.nx env st) : wpSs call cst .nil env st K := h
theorem wpSs_nil {env : En} {st : Sto} {K : K4} : wpSs call cst .nil env st K = K.nx env st := rfl
/-- a statement's end by a middle -/
theorem wp_cut {s : S} {ss : Ss} {env : En} {st : Sto} {K : K4} (hc : CalLe call call) (M : EK) (h : wpS call cst s env st ⟨M, K.rt, K.bk, K.ct⟩) (h2 : ∀ e s, M e s → wpSs call cst ss e s K) : wpSs call cst (.cons s ss) env st K :=
  wpS_mono hc s env st ⟨M, K.rt, K.bk, K.ct⟩ ⟨fun e s => wpSs call cst ss e s K, K.rt, K.bk, K.ct⟩ ⟨h2, fun _ _ q => q, fun _ _ q => q, fun _ _ q => q⟩ h
theorem wp_ite {c : Te} {a b : Ss} {env : En} {st : Sto} {K : K4} {p : Bool} {st1 : Sto} (hc : CalLe call call) (h : wpT call cst c env st fun r s => r = p ∧ s = st1) (h1 : p = true → wpSs call cst a env st1 K) (h2 : p = false → wpSs call cst b env st1 K) : wpS call cst (.ite c a b) env st K :=
  wpT_mono hc c env st _ _ (fun r s q => by
    obtain ⟨rfl, rfl⟩ := q
    cases r with
    | true => exact h1 rfl
    | false => exact h2 rfl) h
end
theorem whileW_up {c : En → Sto → (Bool → Sto → Prop) → Prop} {f : En → Sto → EK → Prop} {Q : EK} (hc : ∀ e st A B, (∀ r s, A r s → B r s) → c e st A → c e st B) (hf : ∀ e st (A B : EK), (∀ r s, A r s → B r s) → f e st A → f e st B) :
    ∀ {m n : Nat} {e : En} {st : Sto}, m ≤ n → whileW c f Q m e st → whileW c f Q n e st
  | 0, _, e, st, _, p => False.elim p
  | m + 1, 0, e, st, l, p => absurd l (Nat.not_succ_le_zero m)
  | m + 1, n + 1, e, st, l, p => hc _ _ _ _ (fun r s q => by
      cases r with
      | true => exact hf _ _ _ _ (fun r s z => whileW_up hc hf (Nat.le_of_succ_le_succ l) z) q
      | false => exact q) p
section
variable {call : Cal} {cst : List D}
/-- while: by an invariant with a measure -/
theorem wp_while {c : Te} {b : Ss} {env : En} {st : Sto} {K : K4} (hc : CalLe call call) (I : Nat → En → Sto → Prop) {n0 : Nat} (h0 : I n0 env st)
    (hs : ∀ n e s, I n e s → wpT call cst c e s fun r s' => if r = true then wpSs call cst b e s' ⟨fun e' s'' => ∃ m, m < n ∧ I m e' s'', K.rt, K.nx, fun e' s'' => ∃ m, m < n ∧ I m e' s''⟩ else K.nx e s') : wpS call cst (.while_ c b) env st K := by
  have cm : ∀ e st A B, (∀ r s, A r s → B r s) → wpT call cst c e st A → wpT call cst c e st B := fun e st A B h p => wpT_mono hc c e st _ _ h p
  have fm : ∀ e st (A B : EK), (∀ r s, A r s → B r s) → wpSs call cst b e st ⟨A, K.rt, K.nx, A⟩ → wpSs call cst b e st ⟨B, K.rt, K.nx, B⟩ := fun e st A B h p => wpSs_mono hc b e st ⟨A, K.rt, K.nx, A⟩ ⟨B, K.rt, K.nx, B⟩ ⟨h, fun _ _ q => q, fun _ _ q => q, h⟩ p
  have key : ∀ N n e s, n < N → I n e s → whileW (wpT call cst c) (fun env st N => wpSs call cst b env st ⟨N, K.rt, K.nx, N⟩) K.nx (n + 1) e s := by
    intro N
    induction N with
    | zero => exact fun n e s l => absurd l (Nat.not_lt_zero n)
    | succ N ih =>
      intro n e s l i
      refine cm _ _ _ _ (fun r s' q => ?_) (hs n e s i)
      cases r with
      | true =>
        rw [if_pos rfl] at q ⊢
        refine fm _ _ _ _ (fun e' s'' z => ?_) q
        obtain ⟨m, lm, im⟩ := z
        exact whileW_up cm fm (Nat.succ_le_of_lt lm) (ih m e' s'' (by omega) im)
      | false => exact q
  exact ⟨n0 + 1, key (n0 + 1) n0 env st (Nat.lt_succ_self n0) h0⟩
end
/-- for: by an invariant of what has been walked -/
theorem forW_by {keep : Sto → Prop} {f : D → En → Sto → EK → Prop} {Q : EK} (hf : ∀ w e st (A B : EK), (∀ r s, A r s → B r s) → f w e st A → f w e st B) (I : List D → En → Sto → Prop) {ws : List D}
    (hs : ∀ pre w post e s, ws = pre ++ w :: post → I pre e s → keep s ∧ f w e s (I (pre ++ [w]))) (hd : ∀ e s, I ws e s → keep s ∧ Q e s) : ∀ (post pre : List D) (e : En) (s : Sto), ws = pre ++ post → I pre e s → forW keep f Q post e s
  | [], pre, e, s, h, i => by
    rw [List.append_nil] at h
    subst h
    exact hd e s i
  | w :: post, pre, e, s, h, i => by
    obtain ⟨k, q⟩ := hs pre w post e s h i
    refine ⟨k, hf _ _ _ _ _ (fun e' s' z => forW_by hf I hs hd post (pre ++ [w]) e' s' (by rw [h, List.append_assoc] <;> rfl) z) q⟩
/-- a comprehension: by an invariant of what has been walked and what has been gathered -/
theorem compW_by {keep : Sto → Prop} {f : D → Sto → (Option D → Sto → Prop) → Prop} {Q : DK} (hf : ∀ w st (A B : Option D → Sto → Prop), (∀ r s, A r s → B r s) → f w st A → f w st B) (I : List D → List D → Sto → Prop) {ws : List D}
    (hs : ∀ pre w post acc s, ws = pre ++ w :: post → I pre acc s → keep s ∧ f w s fun r s' => match r with
      | some x => acc.length < sizeLine ∧ I (pre ++ [w]) (acc ++ [x]) s'
      | none => I (pre ++ [w]) acc s') (hd : ∀ acc s, I ws acc s → keep s ∧ Q (.loc s.length) (s ++ [.lst acc])) :
    ∀ (post pre acc : List D) (s : Sto), ws = pre ++ post → I pre acc s → compW keep f Q post acc s
  | [], pre, acc, s, h, i => by
    rw [List.append_nil] at h
    subst h
    exact hd acc s i
  | w :: post, pre, acc, s, h, i => by
    obtain ⟨k, q⟩ := hs pre w post acc s h i
    refine ⟨k, hf _ _ _ _ (fun r s' z => ?_) q⟩
    cases r with
    | some x => exact ⟨z.1, compW_by hf I hs hd post (pre ++ [w]) (acc ++ [x]) s' (by rw [h, List.append_assoc] <;> rfl) z.2⟩
    | none => exact compW_by hf I hs hd post (pre ++ [w]) acc s' (by rw [h, List.append_assoc] <;> rfl) z
section
variable {call : Cal} {cst : List D}
theorem wp_for {t : T} {it : I} {b : Ss} {env : En} {st : Sto} {K : K4} (hc : CalLe call call) {ws : List D} {kp : Option (Nat × List D)} {st1 : Sto} (hi : wpI call cst it env st fun xs k s => xs = ws ∧ k = kp ∧ s = st1) (J : List D → En → Sto → Prop) (h0 : J [] env st1)
    (hs : ∀ pre w post e s, ws = pre ++ w :: post → J pre e s → keepW kp s ∧ wpTg call cst t w e s fun e2 s2 => wpSs call cst b e2 s2 ⟨J (pre ++ [w]), K.rt, K.nx, J (pre ++ [w])⟩) (hd : ∀ e s, J ws e s → keepW kp s ∧ K.nx e s) : wpS call cst (.for_ t it b) env st K := by
  refine wpI_mono hc it env st _ _ (fun xs k s q => ?_) hi
  obtain ⟨rfl, rfl, rfl⟩ := q
  exact forW_by (fun w e st A B h p => wpTg_mono hc t w e st _ _ (fun e2 s2 q => wpSs_mono hc b e2 s2 ⟨A, K.rt, K.nx, A⟩ ⟨B, K.rt, K.nx, B⟩ ⟨h, fun _ _ q => q, fun _ _ q => q, h⟩ q) p) J hs hd xs [] env s rfl h0
theorem wp_forJ {t : T} {it : I} {b : Ss} {env : En} {st : Sto} {K : K4} (hc : CalLe call call)
    (hi : wpI call cst it env st fun ws kp st1 => ∃ J : List D → En → Sto → Prop, J [] env st1 ∧ (∀ pre w post e s, ws = pre ++ w :: post → J pre e s → keepW kp s ∧ wpTg call cst t w e s fun e2 s2 => wpSs call cst b e2 s2 ⟨J (pre ++ [w]), K.rt, K.nx, J (pre ++ [w])⟩) ∧ ∀ e s, J ws e s → keepW kp s ∧ K.nx e s) : wpS call cst (.for_ t it b) env st K := by
  refine wpI_mono hc it env st _ _ (fun xs k s q => ?_) hi
  obtain ⟨J, h0, hs, hd⟩ := q
  exact forW_by (fun w e st A B h p => wpTg_mono hc t w e st _ _ (fun e2 s2 q => wpSs_mono hc b e2 s2 ⟨A, K.rt, K.nx, A⟩ ⟨B, K.rt, K.nx, B⟩ ⟨h, fun _ _ q => q, fun _ _ q => q, h⟩ q) p) J hs hd xs [] env s rfl h0
theorem wp_comp {own : List Nat} {el : E} {t : T} {it : I} {co : Teo} {env : En} {st : Sto} {Q : DK} (hc : CalLe call call) (ho : (slT t).all (own.contains ·) = true) {ws : List D} {kp : Option (Nat × List D)} {st1 : Sto} (hi : wpI call cst it env st fun xs k s => xs = ws ∧ k = kp ∧ s = st1)
    (J : List D → List D → Sto → Prop) (h0 : J [] [] st1)
    (hs : ∀ pre w post acc s, ws = pre ++ w :: post → J pre acc s → keepW kp s ∧ wpTg call cst t w (wipeE env own) s fun e2 s2 => wpTeo call cst co e2 s2 fun r s3 => if r = true then wpE call cst el e2 s3 fun x s4 => acc.length < sizeLine ∧ J (pre ++ [w]) (acc ++ [x]) s4 else J (pre ++ [w]) acc s3)
    (hd : ∀ acc s, J ws acc s → keepW kp s ∧ Q (.loc s.length) (s ++ [.lst acc])) : wpE call cst (.comp own el t it co) env st Q := by
  refine ⟨ho, wpI_mono hc it env st _ _ (fun xs k s q => ?_) hi⟩
  obtain ⟨rfl, rfl, rfl⟩ := q
  refine compW_by (fun w st A B h p => wpTg_mono hc t w _ st _ _ (fun e2 s2 q => wpTeo_mono hc co e2 s2 _ _ (fun r s3 q => ?_) q) p) J (fun pre w post acc s e i => ?_) hd xs [] [] s rfl h0
  · cases r with
    | true => exact wpE_mono hc el e2 s3 _ _ (fun x s4 q => h _ _ q) q
    | false => exact h _ _ q
  · obtain ⟨k1, q⟩ := hs pre w post acc s e i
    exact ⟨k1, q⟩
end

theorem compW_all {keep : Sto → Prop} {f : D → Sto → (Option D → Sto → Prop) → Prop} {Q : DK} {ws : List D} {st : Sto} (hf : ∀ w st (A B : Option D → Sto → Prop), (∀ r s, A r s → B r s) → f w st A → f w st B) (I : List D → List D → Sto → Prop) (h0 : I [] [] st)
    (hs : ∀ pre w post acc s, ws = pre ++ w :: post → I pre acc s → keep s ∧ f w s fun r s' => match r with
      | some x => acc.length < sizeLine ∧ I (pre ++ [w]) (acc ++ [x]) s'
      | none => I (pre ++ [w]) acc s') (hd : ∀ acc s, I ws acc s → keep s ∧ Q (.loc s.length) (s ++ [.lst acc])) : compW keep f Q ws [] st := compW_by hf I hs hd ws [] [] st rfl h0
/-! ### the small steps by forms -/
section
variable {st : Sto}
theorem truW_bl {b : Bool} {Q : Bool → Prop} : truW st (.bl b) Q = Q b := rfl
theorem truW_int {b : Int} {Q : Bool → Prop} : truW st (.int b) Q = Q (b != 0) := rfl
theorem truW_str {b : List Nat} {Q : Bool → Prop} : truW st (.str b) Q = (b.length ≤ sizeLine ∧ Q (!b.isEmpty)) := rfl
theorem truW_tup {b : List D} {Q : Bool → Prop} : truW st (.tup b) Q = Q (!b.isEmpty) := rfl
theorem truW_loc {n : Nat} {Q : Bool → Prop} : truW st (.loc n) Q = ∃ ws, st[n]? = some (.lst ws) ∧ Q (!ws.isEmpty) := rfl
theorem idxW_str {s : List Nat} {i : Int} {Q : D → Prop} : idxW st (.str s) (.int i) Q = (s.length ≤ sizeLine ∧ ∃ c, atI s i = some c ∧ Q (.str [c])) := rfl
theorem idxW_tup {s : List D} {i : Int} {Q : D → Prop} : idxW st (.tup s) (.int i) Q = ∃ c, atI s i = some c ∧ Q c := rfl
theorem idxW_flst {s : List D} {i : Int} {Q : D → Prop} : idxW st (.flst s) (.int i) Q = ∃ c, atI s i = some c ∧ Q c := rfl
theorem idxW_loc {n : Nat} {i : Int} {Q : D → Prop} : idxW st (.loc n) (.int i) Q = ∃ ws, st[n]? = some (.lst ws) ∧ ∃ c, atI ws i = some c ∧ Q c := rfl
theorem idlW_loc {n : Nat} {i : Int} {Q : D → Prop} : idlW st (.loc n) (.int i) Q = ∃ ws, st[n]? = some (.lst ws) ∧ ∃ c, atI ws i = some c ∧ Q c := rfl
theorem setW_loc {n : Nat} {i : Int} {w : D} {Q : Sto → Prop} : setW st (.loc n) (.int i) w Q = ∃ ws j, st[n]? = some (.lst ws) ∧ ixN ws.length i = some j ∧ Q (st.set n (.lst (ws.set j w))) := rfl
theorem slcW_str {s : List Nat} {lo hi : Option Int} {Q : DK} : slcW st (.str s) lo hi Q = (s.length ≤ sizeLine ∧ Q (.str (cutL s lo hi)) st) := rfl
theorem slcW_loc {n : Nat} {lo hi : Option Int} {Q : DK} : slcW st (.loc n) lo hi Q = ∃ ws, st[n]? = some (.lst ws) ∧ Q (.loc st.length) (st ++ [.lst (cutL ws lo hi)]) := rfl
theorem binW_add {i j : Int} {Q : DK} : binW st .Add (.int i) (.int j) Q = Q (.int (i + j)) st := rfl
theorem binW_addS {i j : List Nat} {Q : DK} : binW st .Add (.str i) (.str j) Q = (i.length + j.length ≤ sizeLine ∧ Q (.str (i ++ j)) st) := rfl
theorem binW_addL {m n : Nat} {Q : DK} : binW st .Add (.loc m) (.loc n) Q = ∃ xs ys, st[m]? = some (.lst xs) ∧ st[n]? = some (.lst ys) ∧ xs.length + ys.length ≤ sizeLine ∧ Q (.loc st.length) (st ++ [.lst (xs ++ ys)]) := rfl
theorem binW_sub {i j : Int} {Q : DK} : binW st .Sub (.int i) (.int j) Q = Q (.int (i - j)) st := rfl
theorem binW_mul {i j : Int} {Q : DK} : binW st .Mult (.int i) (.int j) Q = (CMul i j ∧ Q (.int (i * j)) st) := rfl
theorem binW_fdiv {i j : Int} {Q : DK} : binW st .FloorDiv (.int i) (.int j) Q = (CDiv i j ∧ Q (.int (i / j)) st) := rfl
theorem binW_mod {i j : Int} {Q : DK} : binW st .Mod (.int i) (.int j) Q = (0 < j ∧ Q (.int (i % j)) st) := rfl
theorem binW_pow {i j : Int} {Q : DK} : binW st .Pow (.int i) (.int j) Q = (CPow i j ∧ Q (.int (i ^ j.toNat)) st) := rfl
theorem binW_shl {i j : Int} {Q : DK} : binW st .LShift (.int i) (.int j) Q = (CPow i j ∧ Q (.int (i * 2 ^ j.toNat)) st) := rfl
theorem augW_add {i j : Int} {Q : DK} : augW st .Add (.int i) (.int j) Q = Q (.int (i + j)) st := rfl
theorem augW_addS {i j : List Nat} {Q : DK} : augW st .Add (.str i) (.str j) Q = (i.length + j.length ≤ sizeLine ∧ Q (.str (i ++ j)) st) := rfl
theorem augW_sub {i j : Int} {Q : DK} : augW st .Sub (.int i) (.int j) Q = Q (.int (i - j)) st := rfl
theorem cmpW_eq {x y : D} {Q : Bool → Prop} : cmpW st .Eq x y Q = eqW st x y Q := rfl
theorem cmpW_ne {x y : D} {Q : Bool → Prop} : cmpW st .NotEq x y Q = eqW st x y fun b => Q (!b) := rfl
theorem cmpW_in {x y : D} {Q : Bool → Prop} : cmpW st .In x y Q = inW st x y Q := rfl
theorem cmpW_ni {x y : D} {Q : Bool → Prop} : cmpW st .NotIn x y Q = inW st x y fun b => Q (!b) := rfl
theorem cmpW_lt {i j : Int} {Q : Bool → Prop} : cmpW st .Lt (.int i) (.int j) Q = Q (decide (i < j)) := rfl
theorem cmpW_le {i j : Int} {Q : Bool → Prop} : cmpW st .LtE (.int i) (.int j) Q = Q (decide (i ≤ j)) := rfl
theorem cmpW_gt {i j : Int} {Q : Bool → Prop} : cmpW st .Gt (.int i) (.int j) Q = Q (decide (j < i)) := rfl
theorem cmpW_ge {i j : Int} {Q : Bool → Prop} : cmpW st .GtE (.int i) (.int j) Q = Q (decide (j ≤ i)) := rfl
theorem cmpW_is {x : D} {Q : Bool → Prop} : cmpW st .Is x .non Q = Q (isNonD x) := by cases x <;> rfl
theorem cmpW_isn {x : D} {Q : Bool → Prop} : cmpW st .IsNot x .non Q = Q (!isNonD x) := by cases x <;> rfl
theorem eqW_int {i j : Int} {Q : Bool → Prop} (h : Q (i == j)) : eqW st (.int i) (.int j) Q := .inl ⟨rfl, h⟩
theorem eqW_str {i j : List Nat} {Q : Bool → Prop} (h : Q (i == j)) : eqW st (.str i) (.str j) Q := .inl ⟨rfl, h⟩
theorem inW_str {c : Nat} {s : List Nat} {Q : Bool → Prop} (h : Q (decide (c ∈ s))) : inW st (.str [c]) (.str s) Q := ⟨c, rfl, h⟩
theorem lenW_loc {n : Nat} {Q : Nat → Prop} : lenW st (.loc n) Q = ∃ ws, st[n]? = some (.lst ws) ∧ Q ws.length := rfl
theorem lenW_str {s : List Nat} {Q : Nat → Prop} : lenW st (.str s) Q = (s.length ≤ sizeLine ∧ Q s.length) := rfl
theorem lenW_tup {s : List D} {Q : Nat → Prop} : lenW st (.tup s) Q = Q s.length := rfl
theorem lenW_flst {s : List D} {Q : Nat → Prop} : lenW st (.flst s) Q = Q s.length := rfl
theorem blt_len {x : D} {Q : DK} : bltW st .len [x] Q = lenW st x fun n => Q (.int n) st := rfl
theorem blt_abs {i : Int} {Q : DK} : bltW st .abs [.int i] Q = Q (.int (if i < 0 then -i else i)) st := rfl
theorem blt_max {i j : Int} {Q : DK} : bltW st .max [.int i, .int j] Q = Q (.int (if j > i then j else i)) st := rfl
theorem blt_min {i j : Int} {Q : DK} : bltW st .min [.int i, .int j] Q = Q (.int (if j < i then j else i)) st := rfl
theorem blt_int {i : Int} {Q : DK} : bltW st .int [.int i] Q = Q (.int i) st := rfl
theorem blt_intB {i : Bool} {Q : DK} : bltW st .int [.bl i] Q = Q (.int (if i then 1 else 0)) st := rfl
theorem blt_tup {n : Nat} {Q : DK} : bltW st .tuple [.loc n] Q = ∃ ws, st[n]? = some (.lst ws) ∧ Q (.tup ws) st := rfl
theorem blt_all {n : Nat} {Q : DK} : bltW st .all [.loc n] Q = ∃ bs : List Bool, st[n]? = some (.lst (bs.map .bl)) ∧ Q (.bl (bs.all id)) st := rfl
theorem blt_any {n : Nat} {Q : DK} : bltW st .any [.loc n] Q = ∃ bs : List Bool, st[n]? = some (.lst (bs.map .bl)) ∧ Q (.bl (bs.any id)) st := rfl
theorem mth_append {n : Nat} {w : D} {Q : DK} : mthW st .append (.loc n) [w] Q = ∃ ws, st[n]? = some (.lst ws) ∧ ws.length < sizeLine ∧ Q .non (st.set n (.lst (ws ++ [w]))) := rfl
theorem mth_join {n : Nat} {s : List Nat} {Q : DK} : mthW st .join (.str s) [.loc n] Q = ∃ ss : List (List Nat), st[n]? = some (.lst (ss.map .str)) ∧ (ss.map (·.length)).sum + ss.length * s.length ≤ 16777216 ∧ Q (.str (TL.joinL s ss)) st := rfl
theorem seqW_str {s : List Nat} {Q : List D → Option (Nat × List D) → Prop} : seqW st (.str s) Q = Q (s.map fun c => .str [c]) none := rfl
theorem seqW_tup {s : List D} {Q : List D → Option (Nat × List D) → Prop} : seqW st (.tup s) Q = Q s none := rfl
theorem seqW_flst {s : List D} {Q : List D → Option (Nat × List D) → Prop} : seqW st (.flst s) Q = Q s none := rfl
theorem seqW_loc {n : Nat} {Q : List D → Option (Nat × List D) → Prop} : seqW st (.loc n) Q = ∃ ws, st[n]? = some (.lst ws) ∧ Q ws (some (n, ws)) := rfl
theorem mthTy_loc {n : Nat} {m : Mt} {ws : List D} (h : st[n]? = some (.lst ws)) (hm : m = .append ∨ m = .pop ∨ m = .extend ∨ m = .insert := by decide) : mthTy st m (.loc n) := by
  rcases hm with rfl | rfl | rfl | rfl <;> exact ⟨n, ws, rfl, h⟩
theorem mthTy_join {s : List Nat} : mthTy st .join (.str s) = True := eq_true ⟨s, rfl⟩
theorem mthTy_app {n : Nat} : mthTy st .append (.loc n) = ∃ ws, st[n]? = some (.lst ws) := by
  apply propext
  constructor
  · rintro ⟨m, ws, e, h⟩
    cases e
    exact ⟨ws, h⟩
  · rintro ⟨ws, h⟩
    exact ⟨n, ws, rfl, h⟩
end
theorem atI_ofN {α : Type} (xs : List α) (n : Nat) : atI xs (n : Int) = xs[n]? := by
  unfold atI ixN
  rw [if_pos (Int.natCast_nonneg n)]
  by_cases h : (n : Int) < xs.length
  · rw [if_pos h] <;> rfl
  · rw [if_neg h]
    exact (List.getElem?_eq_none (by omega)).symm
theorem atI_0 {α : Type} (xs : List α) : atI xs 0 = xs[0]? := atI_ofN xs 0
theorem atI_1 {α : Type} (xs : List α) : atI xs 1 = xs[1]? := atI_ofN xs 1
theorem atI_2 {α : Type} (xs : List α) : atI xs 2 = xs[2]? := atI_ofN xs 2
theorem atI_3 {α : Type} (xs : List α) : atI xs 3 = xs[3]? := atI_ofN xs 3
theorem atI_4 {α : Type} (xs : List α) : atI xs 4 = xs[4]? := atI_ofN xs 4
theorem ixN_nat {n k : Nat} (h : k < n) : ixN n (k : Int) = some k := by
  unfold ixN
  rw [if_pos (Int.natCast_nonneg k), if_pos (by omega)] <;> rfl
theorem atI_m1 {α : Type} (xs : List α) : atI xs (-1) = xs.getLast? := by
  unfold atI ixN
  rw [if_neg (by decide)]
  cases xs with
  | nil => rfl
  | cons x xs =>
    rw [if_pos (by simp only [List.length_cons]; omega), List.getLast?_eq_getElem?]
    show (x :: xs)[((-1 : Int) + ((x :: xs).length : Nat)).toNat]? = _
    have e : ((-1 : Int) + ((x :: xs).length : Nat)).toNat = (x :: xs).length - 1 := by simp only [List.length_cons]; omega
    rw [e]
theorem ixN_m1 {n : Nat} (h : 0 < n) : ixN n (-1) = some (n - 1) := by
  unfold ixN
  rw [if_neg (by decide), if_pos (by omega)]
  congr 1
  omega
theorem eqv_str (a b : List Nat) : PyData.eqv (.str ⟨a.toArray⟩) (.str ⟨b.toArray⟩) = (a == b) := by
  rw [← str_dec a b]
  exact dec_str.symm
theorem eqW_strs {st : Sto} {a b : List Nat} {Q : Bool → Prop} : eqW st (.str a) (.str b) Q = Q (a == b) := by
  apply propext
  refine ⟨fun h => ?_, eqW_str⟩
  rcases h with ⟨_, h⟩ | ⟨k, d, e, h1, h2, _, _, h⟩
  · exact h
  · cases k with
    | zero => cases h1
    | succ k =>
      cases h1
      cases h2
      rw [eqv_str] at h
      exact h
theorem eqW_ints {st : Sto} {a b : Int} {Q : Bool → Prop} : eqW st (.int a) (.int b) Q = Q (a == b) := by
  apply propext
  refine ⟨fun h => ?_, eqW_int⟩
  rcases h with ⟨_, h⟩ | ⟨k, d, e, h1, h2, _, _, h⟩
  · exact h
  · cases k with
    | zero => cases h1
    | succ k =>
      cases h1
      cases h2
      exact h
theorem inW_strs {st : Sto} {c : Nat} {s : List Nat} {Q : Bool → Prop} : inW st (.str [c]) (.str s) Q = Q (decide (c ∈ s)) := by
  apply propext
  refine ⟨fun ⟨c', e, h⟩ => ?_, inW_str⟩
  cases e
  exact h
theorem inW_loc {st : Sto} {x : D} {n : Nat} {Q : Bool → Prop} : inW st x (.loc n) Q = ∃ ws, st[n]? = some (.lst ws) ∧ flatD x = true ∧ ws.all flatD = true ∧ Q (ws.any fun y => eqF y x) := rfl
theorem inW_tup {st : Sto} {x : D} {ws : List D} {Q : Bool → Prop} : inW st x (.tup ws) Q = (flatD x = true ∧ ws.all flatD = true ∧ Q (ws.any fun y => eqF y x)) := rfl
theorem pd_strs (st : Sto) (k : Nat) : ∀ a : List (List Nat), pdAll (pd st (k + 1)) (a.map .str) = some (a.map fun s => .str ⟨s.toArray⟩)
  | [] => rfl
  | s :: a => by
    show (pd st (k + 1) (.str s)).bind (fun d => (pdAll (pd st (k + 1)) (a.map .str)).map fun ds => d :: ds) = _
    rw [pd_strs st k a]
    rfl
theorem eqv_strs : ∀ a b : List (List Nat), PyData.eqvAll (a.map fun s => .str ⟨s.toArray⟩) (b.map fun s => .str ⟨s.toArray⟩) = (a == b)
  | [], [] => rfl
  | [], _ :: _ => rfl
  | _ :: _, [] => rfl
  | x :: a, y :: b => by
    show (PyData.eqv (.str ⟨x.toArray⟩) (.str ⟨y.toArray⟩) && PyData.eqvAll (a.map fun s => .str ⟨s.toArray⟩) (b.map fun s => .str ⟨s.toArray⟩)) = _
    rw [eqv_str, eqv_strs a b]
    rfl
/-- frames: one place has this cell, what stood further down stands -/
structure Fr1 (L : Nat) (c : Cell) (st s : Sto) : Prop where
  get : s[L]? = some c
  low : ∀ k, k < L → s[k]? = st[k]?
theorem Fr1.new {st : Sto} {c : Cell} : Fr1 st.length c st (st ++ [c]) := ⟨by simp, fun k h => List.getElem?_append_left h⟩
theorem Fr1.app {L : Nat} {c : Cell} {st s : Sto} (h : Fr1 L c st s) (X : Sto) : Fr1 L c st (s ++ X) := by
  have hl : L < s.length := (List.getElem?_eq_some_iff.mp h.get).1
  exact ⟨by rw [List.getElem?_append_left hl]; exact h.get, fun k hk => by rw [List.getElem?_append_left (Nat.lt_trans hk hl)]; exact h.low k hk⟩
theorem Fr1.put {L : Nat} {c : Cell} {st s : Sto} (h : Fr1 L c st s) (c' : Cell) : Fr1 L c' st (s.set L c') := by
  have hl : L < s.length := (List.getElem?_eq_some_iff.mp h.get).1
  exact ⟨List.getElem?_set_self hl, fun k hk => by rw [List.getElem?_set_ne (Nat.ne_of_gt hk)]; exact h.low k hk⟩
theorem new_get {st : Sto} {c : Cell} : (st ++ [c])[st.length]? = some c := by simp
def cpOkS (s : List Nat) : Prop := ∀ c ∈ s, c < 0x110000
theorem lay_strs : ∀ a : List (List Nat), (∀ s ∈ a, cpOkS s) → PyData.canLayAll0 (a.map fun s => .str ⟨s.toArray⟩) = true
  | [], _ => rfl
  | s :: a, h => by
    have h1 : PyData.canLay0 (.str ⟨s.toArray⟩) = true := by
      show s.toArray.all (· < 0x110000) = true
      simp only [List.all_toArray, List.all_eq_true, decide_eq_true_eq]
      exact h s List.mem_cons_self
    show (PyData.canLay0 (.str ⟨s.toArray⟩) && PyData.canLayAll0 (a.map fun s => .str ⟨s.toArray⟩)) = true
    rw [h1, lay_strs a fun s hs => h s (List.mem_cons_of_mem _ hs)] <;> rfl
theorem deep_strs : ∀ a : List (List Nat), PyData.depthAll (a.map fun s => .str ⟨s.toArray⟩) ≤ 1
  | [] => by simp [PyData.depthAll]
  | s :: a => by
    have h1 : PyData.depth (.str ⟨s.toArray⟩) ≤ 1 := by simp [PyData.depth]
    have h2 := deep_strs a
    simp only [List.map_cons, PyData.depthAll]
    omega
theorem shaped_strs {a : List (List Nat)} (h : ∀ s ∈ a, cpOkS s) : SeqAt.shaped (.tuple (a.map fun s => .str ⟨s.toArray⟩)) = true := by
  unfold SeqAt.shaped
  rw [Bool.and_eq_true]
  refine ⟨lay_strs a h, ?_⟩
  have z := deep_strs a
  refine decide_eq_true ?_
  simp only [PyData.depth]
  omega
theorem eqW_tup_strs {st : Sto} {a b : List (List Nat)} {Q : Bool → Prop} (ha : ∀ s ∈ a, cpOkS s) (hb : ∀ s ∈ b, cpOkS s) (h : Q (a == b)) : eqW st (.tup (a.map .str)) (.tup (b.map .str)) Q := by
  refine .inr ⟨2, .tuple (a.map fun s => .str ⟨s.toArray⟩), .tuple (b.map fun s => .str ⟨s.toArray⟩), ?_, ?_, shaped_strs ha, shaped_strs hb, ?_⟩
  · show (pdAll (pd st 1) (a.map .str)).map PyData.tuple = _
    rw [pd_strs] <;> rfl
  · show (pdAll (pd st 1) (b.map .str)).map PyData.tuple = _
    rw [pd_strs] <;> rfl
  · show Q (PyData.eqvAll _ _)
    rw [eqv_strs]
    exact h
end Dq

set_option Elab.async false
set_option linter.all false
set_option maxRecDepth 100000
set_option maxHeartbeats 4000000
namespace Dq
open PySem L2
local macro_rules | `(tactic| walk_at "wp") => `(tactic| simp only [wpS, wpE, wpEo, wpEs, wpT, wpTeo, wpTg, wpTgs, wpI, immD, truW_bl, truW_int, truW_str, truW_tup, truW_loc, idxW_str, idxW_tup, idxW_flst, idxW_loc, idlW_loc, setW_loc, slcW_str, slcW_loc, binW_add, binW_addS, binW_addL, binW_sub, binW_mul, binW_fdiv, binW_mod, binW_pow, binW_shl, augW_add, augW_addS, augW_sub,
  cmpW_eq, cmpW_ne, eqW_strs, eqW_ints, inW_strs, inW_loc, inW_tup, flatD, atI_m1, cmpW_in, cmpW_ni, cmpW_lt, cmpW_le, cmpW_gt, cmpW_ge, cmpW_is, cmpW_isn, lenW_loc, lenW_str, lenW_tup, lenW_flst, blt_len, blt_abs, blt_max, blt_min, blt_int, blt_intB, blt_tup, blt_all, blt_any, mth_append, mth_join, mthTy_join, mthTy_app, seqW_str, seqW_tup, seqW_flst, seqW_loc, lenTs, slT, slTs,
  List.getElem?_cons_zero, List.getElem?_cons_succ, List.set_cons_zero, List.set_cons_succ, Option.some.injEq, exists_eq_left', exists_eq_left, true_and, and_true, D.bl.injEq, D.int.injEq, D.loc.injEq, D.str.injEq, D.tup.injEq, Cell.lst.injEq, atI_0, atI_1, atI_2, atI_3, atI_4, decide_eq_true_eq, List.map, List.length_cons, List.length_nil, List.replicate, List.cons_append, List.nil_append, Nat.reduceAdd, Nat.reduceSub, Nat.zero_add, wipeE, if_true, if_false, Bool.false_eq_true, Bool.not_true, Bool.not_false])
def bDraw : Ss :=
  (.cons (.ite (.tst (.cmp .Gt (.idx (.var 0) (.cst (.int (2)))) (.cst (.int (0))))) 
    (.cons (.asg (.name 3) (.idx (.var 0) (.cst (.int (2))))) 
    (.cons (.asg (.sub (.var 0) (.cst (.int (2)))) (.bin .FloorDiv (.var 3) (.var 1))) 
    (.cons (.ret (.bin .Mod (.blt .int (.cons (.var 3) .nil)) (.var 1))) .nil))) .nil) 
  (.cons (.asg (.name 2) (.cst (.int (0)))) 
  (.cons (.ite (.tst (.cmp .Lt (.idx (.var 0) (.cst (.int (1)))) (.blt .len (.cons (.idx (.var 0) (.cst (.int (0)))) .nil)))) 
    (.cons (.asg (.name 4) (.idx (.idx (.var 0) (.cst (.int (0)))) (.idx (.var 0) (.cst (.int (1)))))) 
    (.cons (.asg (.name 2) (.bin .Add (.bin .Mult (.cst (.int (2))) (.blt .abs (.cons (.var 4) .nil))) (.blt .int (.cons (.cmp .Lt (.var 4) (.cst (.int (0)))) .nil)))) .nil)) .nil) 
  (.cons (.augs (.var 0) (.cst (.int (1))) .Add (.cst (.int (1)))) 
  (.cons (.ite (.tst (.cmp .GtE (.var 2) (.bin .Mult (.cst (.int (2))) (.bin .Pow (.cst (.int (10))) (.cst (.int (18))))))) 
    (.cons (.asg (.name 3) (.bin .Mod (.blt .int (.cons (.bin .FloorDiv (.var 2) (.cst (.int (2)))) .nil)) (.bin .LShift (.cst (.int (1))) (.cst (.int (6000)))))) 
    (.cons (.asg (.sub (.var 0) (.cst (.int (2)))) (.bin .FloorDiv (.var 3) (.var 1))) 
    (.cons (.ret (.bin .Mod (.blt .int (.cons (.var 3) .nil)) (.var 1))) .nil))) .nil) 
  (.cons (.asg (.sub (.var 0) (.cst (.int (3)))) (.bin .Mod (.blt .int (.cons (.bin .Add (.bin .Add (.bin .Add (.bin .Mult (.idx (.var 0) (.cst (.int (3)))) (.cst (.int (48271)))) (.bin .Mult (.bin .Mod (.blt .int (.cons (.var 2) .nil)) (.cst (.int (2147483629)))) (.cst (.int (16807))))) (.bin .Mult (.idx (.var 0) (.cst (.int (1)))) (.cst (.int (69621))))) (.cst (.int (11)))) .nil)) (.cst (.int (2147483647)))))
  (.cons (.ret (.bin .Mod (.blt .int (.cons (.bin .FloorDiv (.idx (.var 0) (.cst (.int (3)))) (.cst (.int (16)))) .nil)) (.var 1))) .nil)))))))
/-- the drawing state at n: the cells at m, a place from 0, a number, a seed -/
def DOk (st : Sto) (n : Nat) : Prop := ∃ (m : Nat) (a b c : Int) (e : D) (ns : List Int), st[n]? = some (.lst [.loc m, .int a, .int b, .int c, e]) ∧ st[m]? = some (.lst (ns.map .int)) ∧ m < n ∧ 0 ≤ a
/-- nothing that stood has changed but the drawing state -/
structure Gr (n : Nat) (st st' : Sto) : Prop where
  ok : DOk st' n
  len : st.length ≤ st'.length
  same : ∀ k, k < st.length → k ≠ n → st'[k]? = st[k]?
theorem Gr.refl {n : Nat} {st : Sto} (h : DOk st n) : Gr n st st := ⟨h, Nat.le_refl _, fun _ _ _ => rfl⟩
theorem Gr.trans {n : Nat} {s t u : Sto} (a : Gr n s t) (b : Gr n t u) : Gr n s u := ⟨b.ok, Nat.le_trans a.len b.len, fun k h1 h2 => (b.same k (Nat.lt_of_lt_of_le h1 a.len) h2).trans (a.same k h1 h2)⟩
theorem get_lt {st : Sto} {n : Nat} {c : Cell} (h : st[n]? = some c) : n < st.length := (List.getElem?_eq_some_iff.mp h).1
theorem set_get {st : Sto} {n : Nat} {c c' : Cell} (h : st[n]? = some c) : (st.set n c')[n]? = some c' := List.getElem?_set_self (get_lt h)
theorem set_ne {st : Sto} {n m : Nat} {c' : Cell} (h : m ≠ n) : (st.set n c')[m]? = st[m]? := List.getElem?_set_ne (Ne.symm h)
theorem Gr.of_set {st : Sto} {n m : Nat} {a b c : Int} {e : D} {x : Cell} {ns : List Int} (h : st[n]? = some x) (hm : st[m]? = some (.lst (ns.map .int))) (hne : m < n) (ha : 0 ≤ a) : Gr n st (st.set n (.lst [.loc m, .int a, .int b, .int c, e])) :=
  ⟨⟨m, a, b, c, e, ns, set_get h, by rw [set_ne (Nat.ne_of_lt hne)]; exact hm, hne, ha⟩, by rw [List.length_set] <;> exact Nat.le_refl _, fun k _ h2 => set_ne h2⟩
theorem draw_spec {fns : List Fi} {cst : List D} {k n : Nat} {st : Sto} {many : Int} (hk : fns[k]? = some ⟨2, 5, bDraw⟩) (h : DOk st n) (h1 : 0 < many) (h2 : many < 1073741824) :
   callW fns cst 1 k [.loc n, .int many] st fun w st' => ∃ r : Int, w = .int r ∧ 0 ≤ r ∧ r < many ∧ Gr n st st' := by
  obtain ⟨m, a, b, c, e, ns, hn, hm, hne, ha⟩ := h
  have hc : CalLe (callW fns cst 0) (callW fns cst 0) := callW_le (Nat.le_refl 0)
  have cd : ∀ i : Int, CDiv i many := fun _ => ⟨h1, h2⟩
  have c2 : ∀ i : Int, CDiv i 2 := fun _ => ⟨by decide, by decide⟩
  have c16 : ∀ i : Int, CDiv i 16 := fun _ => ⟨by decide, by decide⟩
  have x2 : ixN 5 2 = some 2 := ixN_nat (by decide)
  have x1 : ixN 5 1 = some 1 := ixN_nat (by decide)
  have x3 : ixN 5 3 = some 3 := ixN_nat (by decide)
  refine ⟨_, hk, rfl, ?_⟩
  generalize hP : (fun (w : D) (st' : Sto) => ∃ r : Int, w = .int r ∧ 0 ≤ r ∧ r < many ∧ Gr n st st') = P
  have fin : ∀ (r : Int) (s : Sto), Gr n st s → P (.int (r % many)) s := fun r s g => by
    rw [← hP]
    exact ⟨r % many, rfl, Int.emod_nonneg _ (by omega), Int.emod_lt_of_pos _ h1, g⟩
  unfold bDraw
  refine wp_cons ?_
  walk_at "wp"
  simp only [hn]
  walk_at "wp"
  split
  · refine wp_cons ?_
    walk_at "wp"
    simp only [hn]
    walk_at "wp"
    refine wp_cons ?_
    walk_at "wp"
    refine ⟨cd _, _, 2, hn, x2, ?_⟩
    walk_at "wp"
    refine wp_cons ?_
    walk_at "wp"
    refine ⟨h1, fin _ _ (.of_set hn hm hne ha)⟩
  · refine wp_nil ?_
    refine wp_cons ?_
    walk_at "wp"
    refine wp_cut hc (fun en s => ∃ (size : Int) (x4 : Option D), en = [some (.loc n), some (.int many), some (.int size), none, x4] ∧ s = st) ?_ fun en s hM => ?_
    · walk_at "wp"
      simp only [hn]
      walk_at "wp"
      simp only [hm]
      walk_at "wp"
      split
      · rename_i hlt
        simp only [List.length_map] at hlt
        obtain ⟨j, rfl⟩ : ∃ j : Nat, a = (j : Int) := ⟨a.toNat, by omega⟩
        have hi : j < ns.length := by omega
        have eg : atI (List.map D.int ns) (j : Int) = some (.int ns[j]) := by
          rw [atI_ofN, List.getElem?_map, List.getElem?_eq_getElem hi] <;> rfl
        refine wp_cons ?_
        walk_at "wp"
        simp only [hn]
        walk_at "wp"
        simp only [hm]
        walk_at "wp"
        simp only [eg]
        walk_at "wp"
        refine wp_cons ?_
        walk_at "wp"
        refine ⟨.inl ⟨by decide, by decide⟩, ?_⟩
        exact ⟨_, _, rfl, rfl⟩
      · exact ⟨_, _, rfl, rfl⟩
    · obtain ⟨size, x4, rfl, rfl⟩ := hM
      refine wp_cons ?_
      walk_at "wp"
      simp only [hn]
      walk_at "wp"
      refine ⟨_, 1, hn, x1, ?_⟩
      walk_at "wp"
      have g1 : Gr n s (s.set n (.lst [.loc m, .int (a + 1), .int b, .int c, e])) := .of_set hn hm hne (by omega)
      have hn1 := set_get (c' := .lst [.loc m, .int (a + 1), .int b, .int c, e]) hn
      have hm1 := set_ne (st := s) (c' := .lst [.loc m, .int (a + 1), .int b, .int c, e]) (Nat.ne_of_lt hne)
      rw [hm] at hm1
      generalize s.set n (.lst [.loc m, .int (a + 1), .int b, .int c, e]) = s1 at *
      refine wp_cons ?_
      walk_at "wp"
      have pw : CPow 10 18 := ⟨by decide, by decide, by decide⟩
      have ps : CPow 1 6000 := ⟨by decide, by decide, by decide⟩
      refine ⟨pw, .inl ⟨by decide, by decide⟩, ?_⟩
      split
      · refine wp_cons ?_
        walk_at "wp"
        refine ⟨c2 _, ps, ?_, ?_⟩
        · exact Int.mul_pos (by decide) (Int.pow_pos (by decide))
        generalize size / 2 % (1 * 2 ^ Int.toNat 6000) = fo
        refine wp_cons ?_
        walk_at "wp"
        refine ⟨cd _, _, 2, hn1, x2, ?_⟩
        walk_at "wp"
        refine wp_cons ?_
        walk_at "wp"
        exact ⟨h1, fin _ _ (g1.trans (.of_set hn1 hm1 hne (by omega)))⟩
      · refine wp_nil ?_
        refine wp_cons ?_
        walk_at "wp"
        simp only [hn1]
        walk_at "wp"
        refine ⟨.inr ⟨by decide, by decide⟩, by decide, .inr ⟨by decide, by decide⟩, ?_⟩
        simp only [hn1]
        walk_at "wp"
        refine ⟨.inr ⟨by decide, by decide⟩, by decide, _, 3, hn1, x3, ?_⟩
        generalize (c * 48271 + size % 2147483629 * 16807 + (a + 1) * 69621 + 11) % 2147483647 = v
        walk_at "wp"
        have hn2 := set_get (c' := .lst [.loc m, .int (a + 1), .int b, .int v, e]) hn1
        refine wp_cons ?_
        walk_at "wp"
        simp only [hn2]
        walk_at "wp"
        exact ⟨c16 _, h1, fin _ _ (g1.trans (.of_set hn1 hm1 hne (by omega)))⟩
def bPick (j : Nat) : Ss := .cons (.ret (.idx (.var 1) (.call j (.cons (.var 0) (.cons (.blt .len (.cons (.var 1) .nil)) .nil))))) .nil
theorem atI_in {α : Type} {xs : List α} {r : Int} (h0 : 0 ≤ r) (h1 : r < xs.length) : ∃ x, atI xs r = some x ∧ x ∈ xs := by
  obtain ⟨j, rfl⟩ : ∃ j : Nat, r = (j : Int) := ⟨r.toNat, by omega⟩
  have hj : j < xs.length := by omega
  exact ⟨xs[j], by rw [atI_ofN, List.getElem?_eq_getElem hj], List.getElem_mem hj⟩
theorem pick_str {fns : List Fi} {cst : List D} {j k n : Nat} {st : Sto} {s : List Nat} (hj : fns[j]? = some ⟨2, 5, bDraw⟩) (hk : fns[k]? = some ⟨2, 2, bPick j⟩) (h : DOk st n) (h1 : 0 < s.length) (h2 : s.length < 1000000) :
   callW fns cst 2 k [.loc n, .str s] st fun w st' => ∃ c, w = .str [c] ∧ c ∈ s ∧ Gr n st st' := by
  have hs : s.length ≤ sizeLine := by rw [sizeLine_eq]; omega
  refine ⟨_, hk, rfl, ?_⟩
  unfold bPick
  refine wp_cons ?_
  walk_at "wp"
  refine ⟨hs, call_mono (draw_spec hj h (by omega) (by omega)) fun w st' q => ?_⟩
  obtain ⟨r, rfl, q1, q2, g⟩ := q
  obtain ⟨c, e, hc⟩ := atI_in q1 q2
  walk_at "wp"
  exact ⟨hs, c, e, c, rfl, hc, g⟩
theorem pick_loc {fns : List Fi} {cst : List D} {j k n r : Nat} {st : Sto} {ws : List D} (hj : fns[j]? = some ⟨2, 5, bDraw⟩) (hk : fns[k]? = some ⟨2, 2, bPick j⟩) (h : DOk st n) (hr : st[r]? = some (.lst ws)) (hn : r ≠ n) (h1 : 0 < ws.length) (h2 : ws.length < 1000000) :
   callW fns cst 2 k [.loc n, .loc r] st fun w st' => w ∈ ws ∧ Gr n st st' := by
  refine ⟨_, hk, rfl, ?_⟩
  unfold bPick
  refine wp_cons ?_
  walk_at "wp"
  refine ⟨ws, hr, call_mono (draw_spec hj h (by omega) (by omega)) fun w st' q => ?_⟩
  obtain ⟨i, rfl, q1, q2, g⟩ := q
  obtain ⟨c, e, hc⟩ := atI_in q1 q2
  walk_at "wp"
  exact ⟨ws, (g.same r (get_lt hr) hn).trans hr, c, e, hc, g⟩
def bBegin : Ss := .cons (.ret (.lst (.cons (.comp [1] (.blt .int (.cons (.var 1) .nil)) (.name 1) (.exp (.var 0)) .no) (.cons (.cst (.int (0))) (.cons (.cst (.int (0))) (.cons (.cst (.int (7))) (.cons (.cst (.int (3))) .nil))))))) .nil
theorem begin_spec {fns : List Fi} {cst : List D} {k : Nat} {st : Sto} {ns : List Int} (hk : fns[k]? = some ⟨1, 2, bBegin⟩) (h : ns.length ≤ 63) :
   callW fns cst 1 k [.flst (ns.map .int)] st fun w st' => w = .loc (st.length + 1) ∧ ∃ X Y, st' = st ++ [X, Y] ∧ DOk st' (st.length + 1) := by
  have hc : CalLe (callW fns cst 0) (callW fns cst 0) := callW_le (Nat.le_refl 0)
  have hz : (63 : Nat) < sizeLine := by rw [sizeLine_eq]; decide
  refine ⟨_, hk, rfl, ?_⟩
  unfold bBegin
  refine wp_cons ?_
  show wpE _ _ _ _ _ _
  refine wpEs_mono hc _ _ _ (fun xs s => xs = [.loc st.length, .int 0, .int 0, .int 7, .int 3] ∧ s = st ++ [.lst (ns.map .int)]) _ (fun xs s q => ?_) ?_
  · obtain ⟨rfl, rfl⟩ := q
    refine ⟨by show (5 : Nat) ≤ _; omega, by rw [List.length_append] <;> rfl, .lst (ns.map .int), _, by rw [List.append_assoc] <;> rfl, st.length, 0, 0, 7, .int 3, ns, ?_, ?_, by omega, by decide⟩
    · rw [List.getElem?_append_right (by simp)]
      simp
    · rw [List.append_assoc, List.getElem?_append_right (Nat.le_refl _)]
      simp
  · show wpE _ _ _ _ _ _
    refine wp_comp hc (by decide) (ws := ns.map .int) (kp := none) (st1 := st) ?_ (fun pre acc s => acc = pre ∧ s = st) ⟨rfl, rfl⟩ (fun pre w post acc s e i => ?_) fun acc s i => ?_
    · walk_at "wp"
    · obtain ⟨rfl, rfl⟩ := i
      have hw : ∃ v : Int, w = .int v := by
        have m : w ∈ ns.map D.int := by rw [e]; simp
        obtain ⟨v, _, rfl⟩ := List.mem_map.mp m
        exact ⟨v, rfl⟩
      obtain ⟨v, rfl⟩ := hw
      refine ⟨trivial, ?_⟩
      have hl : acc.length < sizeLine := by
        have z := congrArg List.length e
        simp at z
        omega
      walk_at "wp"
      exact hl
    · obtain ⟨rfl, rfl⟩ := i
      refine ⟨trivial, ?_⟩
      walk_at "wp"
theorem DOk.lt {st : Sto} {n : Nat} (h : DOk st n) : n < st.length := let ⟨_, _, _, _, _, _, h, _⟩ := h
  get_lt h
theorem Gr.app {n : Nat} {st : Sto} (h : DOk st n) (X : Sto) : Gr n st (st ++ X) := by
  obtain ⟨m, a, b, c, e, ns, h1, h2, h3, h4⟩ := h
  exact ⟨⟨m, a, b, c, e, ns, by rw [List.getElem?_append_left (get_lt h1)]; exact h1, by rw [List.getElem?_append_left (get_lt h2)]; exact h2, h3, h4⟩, by simp, fun k hk _ => List.getElem?_append_left hk⟩
theorem Gr.to_app {n : Nat} {st s : Sto} (h : Gr n st s) (X : Sto) : Gr n st (s ++ X) := h.trans (.app h.ok X)
theorem joinL_nil : ∀ ss : List (List Nat), TL.joinL [] ss = ss.flatten
  | [] => rfl
  | [p] => by simp [TL.joinL]
  | p :: q :: r => by
    show p ++ ([] ++ TL.joinL [] (q :: r)) = _
    rw [joinL_nil (q :: r)]
    simp
theorem flat_one : ∀ cs : List Nat, (cs.map fun c => [c]).flatten = cs
  | [] => rfl
  | c :: cs => by
    show [c] ++ (cs.map fun c => [c]).flatten = _
    rw [flat_one cs] <;> rfl
theorem Gr.set_hi {n L : Nat} {st s : Sto} (h : Gr n st s) (hn : n < st.length) (hL : st.length ≤ L) (c : Cell) : Gr n st (s.set L c) := by
  obtain ⟨m, a, b, d, e, ns, h1, h2, h3, h4⟩ := h.ok
  refine ⟨⟨m, a, b, d, e, ns, ?_, ?_, h3, h4⟩, by rw [List.length_set]; exact h.len, fun k h1 h2 => ?_⟩
  · rw [List.getElem?_set_ne (by omega)]
    exact h1
  · rw [List.getElem?_set_ne (by omega)]
    exact h2
  · rw [List.getElem?_set_ne (by omega)]
    exact h.same k h1 h2
end Dq

set_option linter.all false
/-! K07m: tokens, as plain lists of codes. -/
namespace K07
def RUNS : List Nat := [97, 98, 99, 100, 101, 102, 103, 104, 105, 106, 107, 108, 109, 110, 111, 112, 113, 114, 115, 116, 117, 118, 119, 120, 121, 122, 65, 66, 67, 68, 69, 70, 71, 72, 73, 74, 75, 76, 77, 78, 79, 80, 81, 82, 83, 84, 85, 86, 87, 88, 89, 90, 48, 49, 50, 51, 52, 53, 54, 55, 56, 57]
def run (c : Nat) : Bool := decide (c ∈ RUNS)
def blank (c : Nat) : Bool := decide (c ∈ [32, 10])
theorem run60 : run 60 = false := by decide
theorem run61 : run 61 = false := by decide
theorem blank60 : blank 60 = false := by decide
theorem blank_run {c : Nat} (h : blank c = true) : run c = false ∧ c ≠ 60 ∧ c ≠ 61 := by
  unfold blank at h
  rw [decide_eq_true_eq] at h
  simp only [List.mem_cons, List.not_mem_nil, or_false] at h
  rcases h with rfl | rfl <;> decide
theorem run_nb {c : Nat} (h : run c = true) : blank c = false := by
  cases q : blank c with
  | false => rfl
  | true =>
    rw [(blank_run q).1] at h
    cases h
theorem run_ne60 {c : Nat} (h : run c = true) : c ≠ 60 := fun e => by
  rw [e, run60] at h
  cases h
theorem run_ne61 {c : Nat} (h : run c = true) : c ≠ 61 := fun e => by
  rw [e, run61] at h
  cases h
def glue (l x : Nat) : Bool := (run x && run l) || (decide (x = 61) && decide (l = 60))
abbrev CS := List (List Nat) × Nat
def step (a : CS) (x : Nat) : CS :=
  if run x = true ∧ run a.2 = true then (a.1.dropLast ++ [(a.1.getLast?.getD []) ++ [x]], x)
  else if x = 61 ∧ a.2 = 60 then (a.1.dropLast ++ [[60, 61]], x)
  else if blank x = false then (a.1 ++ [[x]], x)
  else (a.1, x)
def cutS (s : List Nat) : CS := s.foldl step ([], 32)
def cut (s : List Nat) : List (List Nat) := (cutS s).1
def IsTok (t : List Nat) : Prop := t = [60, 61] ∨ (t ≠ [] ∧ ∀ c ∈ t, run c = true) ∨ ∃ x, t = [x] ∧ blank x = false
theorem IsTok.ne {t : List Nat} (h : IsTok t) : t ≠ [] := by
  rcases h with rfl | ⟨h, _⟩ | ⟨x, rfl, _⟩
  · decide
  · exact h
  · simp
def lastC (t : List Nat) (d : Nat) : Nat := t.getLast?.getD d
theorem step_new {f : List (List Nat)} {l x : Nat} (h : glue l x = false) (hb : blank x = false) : step (f, l) x = (f ++ [[x]], x) := by
  unfold glue at h
  simp only [Bool.or_eq_false_iff, Bool.and_eq_false_iff, decide_eq_false_iff_not] at h
  unfold step
  rw [if_neg (by intro ⟨a, b⟩; rcases h.1 with z | z <;> simp_all), if_neg (by intro ⟨a, b⟩; rcases h.2 with z | z <;> simp_all), if_pos hb]
theorem step_blank {f : List (List Nat)} {l x : Nat} (hb : blank x = true) : step (f, l) x = (f, x) := by
  obtain ⟨h1, h2, h3⟩ := blank_run hb
  unfold step
  rw [if_neg (by intro ⟨a, b⟩; rw [h1] at a; cases a), if_neg (fun q => h3 q.1), if_neg (by rw [hb]; decide)]
theorem step_run {f : List (List Nat)} {u : List Nat} {l x : Nat} (h1 : run x = true) (h2 : run l = true) : step (f ++ [u], l) x = (f ++ [u ++ [x]], x) := by
  unfold step
  rw [if_pos ⟨h1, h2⟩]
  simp
theorem runs_add {f : List (List Nat)} : ∀ (t u : List Nat) (l : Nat), run l = true → (∀ c ∈ t, run c = true) → t.foldl step (f ++ [u], l) = (f ++ [u ++ t], lastC t l)
  | [], u, l, _, _ => by simp [lastC]
  | x :: t, u, l, h, ht => by
    rw [List.foldl_cons, step_run (ht x List.mem_cons_self) h, runs_add t (u ++ [x]) x (ht x List.mem_cons_self) fun c hc => ht c (List.mem_cons_of_mem _ hc)]
    rw [List.append_assoc]
    congr 1
    unfold lastC
    cases t with
    | nil => rfl
    | cons y t => simp [List.getLast?_cons]
theorem tok_add {f : List (List Nat)} {l t0 : Nat} {tr : List Nat} (h : IsTok (t0 :: tr)) (hg : glue l t0 = false) : (t0 :: tr).foldl step (f, l) = (f ++ [t0 :: tr], lastC (t0 :: tr) l) := by
  rcases h with e | ⟨_, h⟩ | ⟨x, e, hb⟩
  · cases e
    rw [List.foldl_cons, step_new hg blank60]
    show step (f ++ [[60]], 60) 61 = _
    unfold step
    rw [if_neg (by intro q; rw [run61] at q; exact absurd q.1 (by decide)), if_pos ⟨rfl, rfl⟩]
    simp [lastC]
  · have h0 := h t0 List.mem_cons_self
    rw [List.foldl_cons, step_new hg (run_nb h0), runs_add tr [t0] t0 h0 fun c hc => h c (List.mem_cons_of_mem _ hc)]
    congr 1
    unfold lastC
    cases tr with
    | nil => rfl
    | cons y t => simp [List.getLast?_cons]
  · cases e
    rw [List.foldl_cons, step_new hg hb]
    rfl
/-- how many signs the token at the front has -/
def tokN (r : List Nat) : Nat := if r.take 2 = [60, 61] then 2 else max 1 (r.takeWhile run).length
theorem tw_all : ∀ (r : List Nat), ∀ c ∈ r.take (r.takeWhile run).length, run c = true
  | [], c, h => by simp at h
  | x :: r, c, h => by
    cases q : run x with
    | false =>
      rw [List.takeWhile_cons, q] at h
      simp at h
    | true =>
      rw [List.takeWhile_cons, q] at h
      simp only [if_true, List.length_cons, List.take_succ_cons] at h
      rcases List.mem_cons.mp h with e | h
      · rw [e]; exact q
      · exact tw_all r c h
theorem tw_next : ∀ (r : List Nat) (y : Nat), r[(r.takeWhile run).length]? = some y → run y = false
  | [], y, h => by simp at h
  | x :: r, y, h => by
    cases q : run x with
    | false =>
      rw [List.takeWhile_cons, q] at h
      simp at h
      rw [← h]
      exact q
    | true =>
      rw [List.takeWhile_cons, q] at h
      simp only [if_true, List.length_cons, List.getElem?_cons_succ] at h
      exact tw_next r y h
theorem tw_le : ∀ (r : List Nat), (r.takeWhile run).length ≤ r.length
  | [] => by simp
  | x :: r => by
    rw [List.takeWhile_cons]
    split
    · exact Nat.succ_le_succ (tw_le r)
    · simp
theorem tokN_pos (r : List Nat) : 0 < tokN r := by
  unfold tokN
  split <;> omega
theorem tokN_le {x : Nat} {r : List Nat} : tokN (x :: r) ≤ (x :: r).length := by
  unfold tokN
  split
  · rename_i h
    have z := congrArg List.length h
    simp at z
    simp
    omega
  · have := tw_le (x :: r)
    simp at this ⊢
    omega
theorem glue_run {l x : Nat} (h : run l = true) (hx : run x = false) : glue l x = false := by
  unfold glue
  rw [hx, decide_eq_false (run_ne60 h)]
  simp
theorem glue_no {l x : Nat} (h : run l = false) (h2 : l ≠ 60) : glue l x = false := by
  unfold glue
  rw [h, decide_eq_false h2]
  simp
/-- one token more, from a place where none goes on -/
theorem tok_step {f : List (List Nat)} {l x : Nat} {r : List Nat} (hg : glue l x = false) :
    ((blank x = true ∧ tokN (x :: r) = 1 ∧ step (f, l) x = (f, x)) ∨ (blank x = false ∧ ((x :: r).take (tokN (x :: r))).foldl step (f, l) = (f ++ [(x :: r).take (tokN (x :: r))], lastC ((x :: r).take (tokN (x :: r))) l))) ∧
    ∀ y, (x :: r)[tokN (x :: r)]? = some y → glue (if blank x = true then x else lastC ((x :: r).take (tokN (x :: r))) l) y = false := by
  cases hb : blank x with
  | true =>
    obtain ⟨h1, h2, h3⟩ := blank_run hb
    refine ⟨.inl ⟨rfl, ?_, step_blank hb⟩, fun y _ => ?_⟩
    · unfold tokN
      rw [if_neg, List.takeWhile_cons, h1]
      · rfl
      · intro e
        cases r <;> simp at e
        exact h2 e.1
    · rw [if_pos rfl]
      exact glue_no h1 h2
  | false =>
    simp only [Bool.false_eq_true, false_and, true_and, false_or, if_false]
    by_cases h2 : (x :: r).take 2 = [60, 61]
    · have e : tokN (x :: r) = 2 := by unfold tokN; rw [if_pos h2]
      rw [e, h2]
      have hx : x = 60 := by
        have := congrArg List.head? h2
        simpa using this
      subst hx
      refine ⟨tok_add (.inl rfl) hg, fun y _ => ?_⟩
      exact glue_no (l := 61) (by decide) (by decide)
    · have e : tokN (x :: r) = max 1 ((x :: r).takeWhile run).length := by unfold tokN; rw [if_neg h2]
      cases hr : run x with
      | true =>
        have e2 : ((x :: r).takeWhile run).length = (r.takeWhile run).length + 1 := by rw [List.takeWhile_cons, hr] <;> rfl
        have e3 : tokN (x :: r) = ((x :: r).takeWhile run).length := by rw [e]; omega
        have all := tw_all (x :: r)
        have nx := tw_next (x :: r)
        rw [e3]
        rw [e2] at all nx ⊢
        rw [List.take_succ_cons] at all ⊢
        refine ⟨tok_add (.inr (.inl ⟨by simp, all⟩)) hg, fun y hy => ?_⟩
        refine glue_run (all _ ?_) (nx y hy)
        unfold lastC
        cases q : (x :: List.take (r.takeWhile run).length r).getLast? with
        | none => simp at q
        | some z => exact List.mem_of_getLast? q
      | false =>
        have e2 : ((x :: r).takeWhile run).length = 0 := by rw [List.takeWhile_cons, hr] <;> rfl
        have e3 : tokN (x :: r) = 1 := by rw [e, e2] <;> rfl
        rw [e3]
        refine ⟨tok_add (tr := []) (.inr (.inr ⟨x, rfl, hb⟩)) hg, fun y hy => ?_⟩
        show glue x y = false
        unfold glue
        rw [hr]
        simp only [Bool.and_false, Bool.false_or, Bool.and_eq_false_iff, decide_eq_false_iff_not]
        by_cases hx : x = 60
        · left
          intro hy2
          apply h2
          subst hx hy2
          cases r with
          | nil => simp at hy
          | cons z r =>
            simp at hy
            rw [hy] <;> rfl
        · exact .inr hx
/-- the cut of what is put together -/
theorem cut_append (p t : List Nat) : cutS (p ++ t) = t.foldl step (cutS p) := by
  unfold cutS
  rw [List.foldl_append]
theorem blanks_add {f : List (List Nat)} : ∀ (b : List Nat) (l : Nat), (∀ c ∈ b, blank c = true) → b.foldl step (f, l) = (f, lastC b l)
  | [], l, _ => rfl
  | x :: b, l, h => by
    rw [List.foldl_cons, step_blank (h x List.mem_cons_self), blanks_add b x fun c hc => h c (List.mem_cons_of_mem _ hc)]
    congr 1
    unfold lastC
    cases b with
    | nil => rfl
    | cons y t => simp [List.getLast?_cons]
/-- a gap and a token -/
theorem piece_add {f : List (List Nat)} {l : Nat} {b t : List Nat} (hb : ∀ c ∈ b, blank c = true) (ht : IsTok t) (hg : b = [] → ∀ x, t.head? = some x → glue l x = false) : (b ++ t).foldl step (f, l) = (f ++ [t], lastC t 0) := by
  rw [List.foldl_append, blanks_add b l hb]
  cases t with
  | nil => exact absurd rfl ht.ne
  | cons t0 tr =>
    rw [tok_add ht]
    · unfold lastC
      rw [List.getLast?_cons] <;> rfl
    · cases b with
      | nil => exact hg rfl t0 rfl
      | cons c b =>
        have z : blank (lastC (c :: b) l) = true := by
          apply hb
          unfold lastC
          cases q : (c :: b).getLast? with
          | none => simp at q
          | some z => exact List.mem_of_getLast? q
        obtain ⟨h1, h2, _⟩ := blank_run z
        exact glue_no h1 h2
end K07
namespace K07
theorem step_le {f : List (List Nat)} {u : List Nat} : step (f ++ [u], 60) 61 = (f ++ [[60, 61]], 61) := by
  unfold step
  rw [if_neg (by intro q; rw [run61] at q; exact absurd q.1 (by decide)), if_pos ⟨rfl, rfl⟩]
  simp
theorem blank_any (x : Nat) : ((32 == x) || ((10 == x) || false)) = blank x := by
  unfold blank
  rw [Bool.eq_iff_iff]
  simp only [Bool.or_false, Bool.or_eq_true, beq_iff_eq, decide_eq_true_eq, List.mem_cons, List.not_mem_nil, or_false]
  constructor <;> (rintro (h | h) <;> simp [h])
/-- what has been cut so far: a sign that is no blank stands behind a token -/
structure Cutting (p : List Nat) (f : List (List Nat)) (l : Nat) : Prop where
  eq : cutS p = (f, l)
  ne : blank l = false → f ≠ []
  len : f.length ≤ p.length
  each : ∀ t ∈ f, t.length ≤ p.length
theorem Cutting.nil : Cutting [] [] 32 := ⟨rfl, fun h => by revert h; decide, Nat.le_refl _, fun t h => by simp at h⟩
theorem step_snd (a : CS) (x : Nat) : (step a x).2 = x := by
  unfold step
  split
  · rfl
  · split
    · rfl
    · split <;> rfl
theorem Cutting.next {p : List Nat} {f g : List (List Nat)} {l x : Nat} (h : Cutting p f l) (hs : step (f, l) x = (g, x)) (hne : blank x = false → g ≠ []) (hl : g.length ≤ f.length + 1) (he : ∀ t ∈ g, t ∈ f ∨ t.length ≤ p.length + 1) : Cutting (p ++ [x]) g x := by
  refine ⟨?_, hne, ?_, fun t ht => ?_⟩
  · rw [cut_append, h.eq]
    exact hs
  · have := h.len
    rw [List.length_append, List.length_singleton]
    omega
  · rw [List.length_append, List.length_singleton]
    rcases he t ht with q | q
    · have := h.each t q
      omega
    · exact q
end K07
namespace K07
theorem step_asc {f : List (List Nat)} {l x : Nat} (hx : x < 128) (h : ∀ u ∈ f, ∀ c ∈ u, c < 128) : ∀ u ∈ (step (f, l) x).1, ∀ c ∈ u, c < 128 := by
  have hd : ∀ u ∈ f.dropLast, ∀ c ∈ u, c < 128 := fun u hu => h u (List.dropLast_subset f hu)
  unfold step
  split
  · intro u hu c hc
    rcases List.mem_append.mp hu with z | z
    · exact hd u z c hc
    · rw [List.mem_singleton.mp z] at hc
      rcases List.mem_append.mp hc with z | z
      · cases q : f.getLast? with
        | none =>
          rw [q] at z
          simp at z
        | some w =>
          rw [q] at z
          exact h w (List.mem_of_getLast? q) c z
      · rw [List.mem_singleton.mp z]
        exact hx
  · split
    · intro u hu c hc
      rcases List.mem_append.mp hu with z | z
      · exact hd u z c hc
      · rw [List.mem_singleton.mp z] at hc
        simp at hc
        omega
    · split
      · intro u hu c hc
        rcases List.mem_append.mp hu with z | z
        · exact h u z c hc
        · rw [List.mem_singleton.mp z] at hc
          rw [List.mem_singleton.mp hc]
          exact hx
      · exact h
theorem fold_asc : ∀ (s : List Nat) (f : List (List Nat)) (l : Nat), (∀ c ∈ s, c < 128) → (∀ u ∈ f, ∀ c ∈ u, c < 128) → ∀ u ∈ (s.foldl step (f, l)).1, ∀ c ∈ u, c < 128
  | [], f, l, _, h => h
  | x :: s, f, l, hs, h => by
    rw [List.foldl_cons]
    have z := step_asc (l := l) (hs x List.mem_cons_self) h
    exact fold_asc s (step (f, l) x).1 (step (f, l) x).2 (fun c hc => hs c (List.mem_cons_of_mem _ hc)) z
theorem cut_asc {s : List Nat} (h : ∀ c ∈ s, c < 128) : ∀ u ∈ cut s, ∀ c ∈ u, c < 128 := fold_asc s [] 32 h fun u hu => by simp at hu
end K07
namespace K07
structure Cutting' (s : List Nat) : Prop where
  len : (cut s).length ≤ s.length
theorem fold_len : ∀ (s : List Nat) (a : CS), (s.foldl step a).1.length ≤ a.1.length + s.length + (if s = [] then 0 else 0)
  | [], a => by simp
  | x :: s, a => by
    rw [List.foldl_cons]
    have h1 := fold_len s (step a x)
    have h2 : (step a x).1.length ≤ a.1.length + 1 := by
      unfold step
      split
      · simp <;> omega
      · split
        · simp <;> omega
        · split
          · simp
          · simp
    simp only [ite_self, List.length_cons] at h1 ⊢
    omega
theorem cutting (s : List Nat) : Cutting' s := ⟨by
  have z := fold_len s ([], 32)
  simp only [ite_self, List.length_nil, Nat.zero_add, Nat.add_zero] at z
  exact z⟩
end K07

set_option Elab.async false
set_option linter.all false
set_option maxRecDepth 100000
set_option maxHeartbeats 4000000
namespace K07
open PySem Dq L2
local macro_rules | `(tactic| walk_at "wp") => `(tactic| simp only [wpS, wpE, wpEo, wpEs, wpT, wpTeo, wpTg, wpTgs, wpI, immD, truW_bl, truW_int, truW_str, truW_tup, truW_loc, idxW_str, idxW_tup, idxW_flst, idxW_loc, idlW_loc, setW_loc, slcW_str, slcW_loc, binW_add, binW_addS, binW_addL, binW_sub, binW_mul, binW_fdiv, binW_mod, binW_pow, binW_shl, augW_add, augW_addS, augW_sub,
  cmpW_eq, cmpW_ne, eqW_strs, eqW_ints, inW_strs, inW_loc, inW_tup, flatD, atI_m1, cmpW_in, cmpW_ni, cmpW_lt, cmpW_le, cmpW_gt, cmpW_ge, cmpW_is, cmpW_isn, lenW_loc, lenW_str, lenW_tup, lenW_flst, blt_len, blt_abs, blt_max, blt_min, blt_int, blt_intB, blt_tup, blt_all, blt_any, mth_append, mth_join, mthTy_join, mthTy_app, seqW_str, seqW_tup, seqW_flst, seqW_loc, lenTs, slT, slTs,
  List.getElem?_cons_zero, List.getElem?_cons_succ, List.set_cons_zero, List.set_cons_succ, Option.some.injEq, exists_eq_left', exists_eq_left, true_and, and_true, D.bl.injEq, D.int.injEq, D.loc.injEq, D.str.injEq, D.tup.injEq, Cell.lst.injEq, atI_0, atI_1, atI_2, atI_3, atI_4, decide_eq_true_eq, List.map, List.length_cons, List.length_nil, List.replicate, List.cons_append, List.nil_append, Nat.reduceAdd, Nat.reduceSub, Nat.zero_add, wipeE, if_true, if_false, Bool.false_eq_true, Bool.not_true, Bool.not_false])
local macro_rules | `(tactic| walk_at "nil") => `(tactic| simp only [wpSs_nil])
def b0 : Ss :=
  (.cons (.asg (.name 1) (.lst .nil)) 
  (.cons (.asg (.name 2) (.cst (.int (0)))) 
  (.cons (.while_ (.tst (.cmp .Lt (.var 2) (.blt .len (.cons (.var 0) .nil)))) 
    (.cons (.asg (.name 3) (.call 1 (.cons (.var 0) (.cons (.var 2) .nil)))) 
    (.cons (.ite (.tst (.cmp .NotIn (.idx (.var 0) (.var 2)) (.cst (.str [32, 10])))) 
      (.cons (.expr (.mth .append (.var 1) (.cons (.slc (.var 0) (.yes (.var 2)) (.yes (.var 3))) .nil))) .nil) .nil) 
    (.cons (.asg (.name 2) (.var 3)) .nil)))) 
  (.cons (.ret (.blt .tuple (.cons (.var 1) .nil))) .nil))))
def b1 : Ss :=
  (.cons (.ite (.tst (.cmp .Eq (.slc (.var 0) (.yes (.var 1)) (.yes (.bin .Add (.var 1) (.cst (.int (2)))))) (.cst (.str [60, 61])))) 
    (.cons (.ret (.bin .Add (.var 1) (.cst (.int (2))))) .nil) .nil) 
  (.cons (.asg (.name 2) (.var 1)) 
  (.cons (.while_ (.and_ (.tst (.cmp .Lt (.var 2) (.blt .len (.cons (.var 0) .nil)))) (.tst (.cmp .In (.idx (.var 0) (.var 2)) (.glob 0)))) 
    (.cons (.aug 2 .Add (.cst (.int (1)))) .nil)) 
  (.cons (.ret (.blt .max (.cons (.var 2) (.cons (.bin .Add (.var 1) (.cst (.int (1)))) .nil)))) .nil))))
def b2 : Ss :=
  (.cons (.ret (.lst (.cons (.comp [1] (.blt .int (.cons (.var 1) .nil)) (.name 1) (.exp (.var 0)) .no) (.cons (.cst (.int (0))) (.cons (.cst (.int (0))) (.cons (.cst (.int (7))) (.cons (.cst (.int (3))) .nil))))))) .nil)
def b3 : Ss :=
  (.cons (.ite (.tst (.cmp .Gt (.idx (.var 0) (.cst (.int (2)))) (.cst (.int (0))))) 
    (.cons (.asg (.name 3) (.idx (.var 0) (.cst (.int (2))))) 
    (.cons (.asg (.sub (.var 0) (.cst (.int (2)))) (.bin .FloorDiv (.var 3) (.var 1))) 
    (.cons (.ret (.bin .Mod (.blt .int (.cons (.var 3) .nil)) (.var 1))) .nil))) .nil) 
  (.cons (.asg (.name 2) (.cst (.int (0)))) 
  (.cons (.ite (.tst (.cmp .Lt (.idx (.var 0) (.cst (.int (1)))) (.blt .len (.cons (.idx (.var 0) (.cst (.int (0)))) .nil)))) 
    (.cons (.asg (.name 4) (.idx (.idx (.var 0) (.cst (.int (0)))) (.idx (.var 0) (.cst (.int (1)))))) 
    (.cons (.asg (.name 2) (.bin .Add (.bin .Mult (.cst (.int (2))) (.blt .abs (.cons (.var 4) .nil))) (.blt .int (.cons (.cmp .Lt (.var 4) (.cst (.int (0)))) .nil)))) .nil)) .nil) 
  (.cons (.augs (.var 0) (.cst (.int (1))) .Add (.cst (.int (1)))) 
  (.cons (.ite (.tst (.cmp .GtE (.var 2) (.bin .Mult (.cst (.int (2))) (.bin .Pow (.cst (.int (10))) (.cst (.int (18))))))) 
    (.cons (.asg (.name 3) (.bin .Mod (.blt .int (.cons (.bin .FloorDiv (.var 2) (.cst (.int (2)))) .nil)) (.bin .LShift (.cst (.int (1))) (.cst (.int (6000)))))) 
    (.cons (.asg (.sub (.var 0) (.cst (.int (2)))) (.bin .FloorDiv (.var 3) (.var 1))) 
    (.cons (.ret (.bin .Mod (.blt .int (.cons (.var 3) .nil)) (.var 1))) .nil))) .nil) 
  (.cons (.asg (.sub (.var 0) (.cst (.int (3)))) (.bin .Mod (.blt .int (.cons (.bin .Add (.bin .Add (.bin .Add (.bin .Mult (.idx (.var 0) (.cst (.int (3)))) (.cst (.int (48271)))) (.bin .Mult (.bin .Mod (.blt .int (.cons (.var 2) .nil)) (.cst (.int (2147483629)))) (.cst (.int (16807))))) (.bin .Mult (.idx (.var 0) (.cst (.int (1)))) (.cst (.int (69621))))) (.cst (.int (11)))) .nil)) (.cst (.int (2147483647))))) 
  (.cons (.ret (.bin .Mod (.blt .int (.cons (.bin .FloorDiv (.idx (.var 0) (.cst (.int (3)))) (.cst (.int (16)))) .nil)) (.var 1))) .nil)))))))
def b4 : Ss :=
  (.cons (.ret (.idx (.var 1) (.call 3 (.cons (.var 0) (.cons (.blt .len (.cons (.var 1) .nil)) .nil))))) .nil)
def b5 : Ss :=
  (.cons (.asg (.name 1) (.cst (.str RUNS))) 
  (.cons (.asg (.name 2) (.lst .nil)) 
  (.cons (.asg (.name 3) (.cst (.str [32]))) 
  (.cons (.for_ (.name 4) (.exp (.var 0)) 
    (.cons (.ite (.and_ (.tst (.cmp .In (.var 4) (.var 1))) (.tst (.cmp .In (.var 3) (.var 1)))) 
      (.cons (.asg (.sub (.var 2) (.neg (.cst (.int (1))))) (.bin .Add (.idx (.var 2) (.neg (.cst (.int (1))))) (.var 4))) .nil) 
      (.cons (.ite (.and_ (.tst (.cmp .Eq (.var 4) (.cst (.str [61])))) (.tst (.cmp .Eq (.var 3) (.cst (.str [60]))))) 
        (.cons (.asg (.sub (.var 2) (.neg (.cst (.int (1))))) (.cst (.str [60, 61]))) .nil) 
        (.cons (.ite (.tst (.cmp .NotIn (.var 4) (.lst (.cons (.cst (.str [32])) (.cons (.cst (.str [10])) .nil))))) 
          (.cons (.expr (.mth .append (.var 2) (.cons (.var 4) .nil))) .nil) .nil) .nil)) .nil)) 
    (.cons (.asg (.name 3) (.var 4)) .nil))) 
  (.cons (.ret (.var 2)) .nil)))))
def b6 : Ss :=
  (.cons (.asg (.name 2) (.cst (.str RUNS))) 
  (.cons (.asg (.name 3) (.lst (.cons (.call 4 (.cons (.var 0) (.cons (.lst (.cons (.cst (.str [])) (.cons (.cst (.str [])) (.cons (.cst (.str [32])) (.cons (.cst (.str [10])) .nil))))) .nil))) .nil))) 
  (.cons (.asg (.name 4) (.cst (.str [32]))) 
  (.cons (.for_ (.name 5) (.exp (.var 1)) 
    (.cons (.asg (.name 6) (.call 4 (.cons (.var 0) (.cons (.lst (.cons (.cst (.str [])) (.cons (.cst (.str [])) (.cons (.cst (.str [32])) (.cons (.cst (.str [10])) (.cons (.cst (.str [32, 32])) (.cons (.cst (.str [32, 10, 10])) .nil))))))) .nil)))) 
    (.cons (.ite (.and_ (.tst (.cmp .Eq (.var 6) (.cst (.str [])))) (.or_ (.and_ (.tst (.cmp .In (.var 4) (.var 2))) (.tst (.cmp .In (.idx (.var 5) (.cst (.int (0)))) (.var 2)))) (.and_ (.tst (.cmp .Eq (.var 4) (.cst (.str [60])))) (.tst (.cmp .Eq (.idx (.var 5) (.cst (.int (0)))) (.cst (.str [61]))))))) 
      (.cons (.asg (.name 6) (.cst (.str [32]))) .nil) .nil) 
    (.cons (.expr (.mth .append (.var 3) (.cons (.bin .Add (.var 6) (.var 5)) .nil))) 
    (.cons (.asg (.name 4) (.idx (.var 5) (.neg (.cst (.int (1)))))) .nil))))) 
  (.cons (.ret (.bin .Add (.mth .join (.cst (.str [])) (.cons (.var 3) .nil)) (.call 4 (.cons (.var 0) (.cons (.lst (.cons (.cst (.str [])) (.cons (.cst (.str [32])) (.cons (.cst (.str [10])) .nil)))) .nil))))) .nil)))))
def b7 : Ss :=
  (.cons (.asg (.name 1) (.call 3 (.cons (.var 0) (.cons (.cst (.int (6))) .nil)))) 
  (.cons (.ite (.tst (.cmp .Eq (.var 1) (.cst (.int (0))))) 
    (.cons (.ret (.cst (.str [60, 61]))) .nil) .nil) 
  (.cons (.ite (.tst (.cmp .Lt (.var 1) (.cst (.int (3))))) 
    (.cons (.ret (.call 4 (.cons (.var 0) (.cons (.cst (.str [33, 34, 35, 36, 38, 39, 40, 41, 42, 43, 44, 45, 46, 47, 58, 59, 60, 61, 62, 63, 64, 91, 92, 93, 94, 95, 96, 123, 124, 125, 126, 9, 60, 61, 62])) .nil)))) .nil) .nil) 
  (.cons (.asg (.name 2) (.cst (.str RUNS))) 
  (.cons (.asg (.name 3) (.ife (.tst (.cmp .Gt (.call 3 (.cons (.var 0) (.cons (.cst (.int (4))) .nil))) (.cst (.int (0))))) (.bin .Add (.cst (.int (1))) (.call 3 (.cons (.var 0) (.cons (.cst (.int (3))) .nil)))) (.call 4 (.cons (.var 0) (.cons (.lst (.cons (.cst (.int (8))) (.cons (.cst (.int (9))) (.cons (.cst (.int (30))) .nil)))) .nil))))) 
  (.cons (.ret (.mth .join (.cst (.str [])) (.cons (.comp [4] (.call 4 (.cons (.var 0) (.cons (.var 2) .nil))) (.name 4) (.range1 (.var 3)) .no) .nil))) .nil))))))
def b8 : Ss :=
  (.cons (.asg (.name 1) (.call 2 (.cons (.var 0) .nil))) 
  (.cons (.asg (.name 2) (.comp [8] (.call 7 (.cons (.var 1) .nil)) (.name 8) (.range1 (.ife (.tst (.cmp .Eq (.call 3 (.cons (.var 1) (.cons (.cst (.int (12))) .nil))) (.cst (.int (0))))) (.cst (.int (60))) (.call 3 (.cons (.var 1) (.cons (.cst (.int (8))) .nil))))) .no)) 
  (.cons (.asg (.name 3) (.call 6 (.cons (.var 1) (.cons (.var 2) .nil)))) 
  (.cons (.asg (.name 4) (.mth .join (.cst (.str [])) (.cons (.comp [8] (.call 4 (.cons (.var 1) (.cons (.cst (.str [97, 113, 90, 57, 48, 60, 61, 62, 60, 61, 62, 59, 45, 32, 10, 32, 10, 9, 91, 46])) .nil))) (.name 8) (.range1 (.call 3 (.cons (.var 1) (.cons (.cst (.int (41))) .nil)))) .no) .nil))) 
  (.cons (.for_ (.tup (.cons (.name 5) (.cons (.name 6) .nil))) (.exp (.lst (.cons (.tup (.cons (.var 3) (.cons (.var 2) .nil))) (.cons (.tup (.cons (.var 4) (.cons (.call 5 (.cons (.var 4) .nil)) .nil))) (.cons (.tup (.cons (.var 3) (.cons (.var 2) .nil))) .nil))))) 
    (.cons (.asg (.name 7) (.call 0 (.cons (.var 5) .nil))) 
    (.cons (.ite (.or_ (.not_ (.val (.isi (.var 7) .tuple))) (.not_ (.val (.blt .all (.cons (.comp [9] (.isi (.var 9) .str) (.name 9) (.exp (.var 7)) .no) .nil))))) 
      (.cons (.ret (.cst (.bl false))) .nil) .nil) 
    (.cons (.ite (.tst (.cmp .NotEq (.var 7) (.blt .tuple (.cons (.var 6) .nil)))) 
      (.cons (.ret (.cst (.bl false))) .nil) .nil) .nil)))) 
  (.cons (.ret (.cst (.bl true))) .nil))))))
def fns : List Fi := [⟨1, 4, b0⟩, ⟨2, 3, b1⟩, ⟨1, 2, b2⟩, ⟨2, 5, b3⟩, ⟨2, 2, b4⟩, ⟨1, 5, b5⟩, ⟨2, 7, b6⟩, ⟨1, 5, b7⟩, ⟨1, 10, b8⟩]
def cst : List D := [.str RUNS]
theorem f2 : fns[2]? = some ⟨1, 2, bBegin⟩ := rfl
theorem f3 : fns[3]? = some ⟨2, 5, bDraw⟩ := rfl
theorem f4 : fns[4]? = some ⟨2, 2, bPick 3⟩ := rfl
theorem line_of {n : Nat} (h : n ≤ 1000000) : n ≤ sizeLine := by rw [sizeLine_eq]; omega
theorem cut_nat {α : Type} {s : List α} {i j : Nat} (h : i ≤ s.length) (hj : i ≤ j) : cutL s (some (i : Int)) (some (j : Int)) = (s.drop i).take (j - i) := by
  unfold cutL
  rw [HT.sIx_nat, HT.sIx_nat, Nat.min_eq_left h]
  by_cases q : j ≤ s.length
  · rw [Nat.min_eq_left q]
  · rw [Nat.min_eq_right (by omega), List.take_of_length_le (by rw [List.length_drop]; omega), List.take_of_length_le (by rw [List.length_drop]; omega)]
theorem end_spec {s r : List Nat} {i x : Nat} (hd : s.drop i = x :: r) (hl : s.length ≤ 1000000) (st : Sto) : callW fns cst 1 1 [.str s, .int i] st fun w st' => w = .int ((i + tokN (x :: r) : Nat) : Int) ∧ st' = st := by
  have hc : CalLe (callW fns cst 0) (callW fns cst 0) := callW_le (Nat.le_refl 0)
  have hs := line_of hl
  have hi : i < s.length := by
    have z := congrArg List.length hd
    simp at z
    omega
  refine ⟨_, rfl, rfl, ?_⟩
  generalize hP : (fun (w : D) (st' : Sto) => w = .int ((i + tokN (x :: r) : Nat) : Int) ∧ st' = st) = P
  have fin : P (.int ((i + tokN (x :: r) : Nat) : Int)) st := by
    rw [← hP]
    exact ⟨rfl, rfl⟩
  unfold b1
  refine wp_cons ?_
  walk_at "wp"
  refine ⟨hs, ?_⟩
  have e2 : (i : Int) + 2 = ((i + 2 : Nat) : Int) := by omega
  rw [e2, cut_nat (Nat.le_of_lt hi) (by omega), hd, Nat.add_sub_cancel_left]
  split
  · rename_i h
    refine wp_cons ?_
    walk_at "wp"
    have e : tokN (x :: r) = 2 := by
      unfold tokN
      rw [if_pos (eq_of_beq h)]
    rw [e] at fin
    exact fin
  · rename_i h
    refine wp_nil ?_
    refine wp_cons ?_
    walk_at "wp"
    have e : tokN (x :: r) = max 1 ((x :: r).takeWhile run).length := by
      unfold tokN
      rw [if_neg fun q => h (by rw [q] <;> rfl)]
    rw [e] at fin
    have hle := tw_le (x :: r)
    have hall := tw_all (x :: r)
    have hnx := tw_next (x :: r)
    have hlen : s.length = i + (x :: r).length := by
      rw [← hd, List.length_drop]
      omega
    have hget : ∀ k, s[i + k]? = (x :: r)[k]? := fun k => by rw [← hd, List.getElem?_drop]
    generalize ((x :: r).takeWhile run).length = tw at *
    generalize x :: r = xs at *
    refine wp_cut hc (fun en s' => en = [some (.str s), some (.int i), some (.int ((i + tw : Nat) : Int))] ∧ s' = st) ?_ fun en s' hM => ?_
    · refine wp_while hc (fun n en s' => ∃ k, k ≤ tw ∧ n = tw - k ∧ en = [some (.str s), some (.int i), some (.int ((i + k : Nat) : Int))] ∧ s' = st) (n0 := tw) ⟨0, Nat.zero_le _, rfl, rfl, rfl⟩ fun n en s' hI => ?_
      obtain ⟨k, hk, rfl, rfl, rfl⟩ := hI
      walk_at "wp"
      refine ⟨hs, ?_⟩
      split
      · rename_i hlt
        have hk2 : k < xs.length := by omega
        have eg : atI s ((i + k : Nat) : Int) = some xs[k] := by rw [atI_ofN, hget, List.getElem?_eq_getElem hk2]
        refine ⟨hs, xs[k], eg, .str RUNS, rfl, inW_str ?_⟩
        walk_at "wp"
        split
        · rename_i hr
          have hk3 : k < tw := by
            by_cases q : k < tw
            · exact q
            · have e3 : k = tw := by omega
              subst e3
              have := hnx xs[k] (List.getElem?_eq_getElem hk2)
              unfold run at this
              rw [decide_eq_true hr] at this
              cases this
          refine wp_cons ?_
          walk_at "wp"
          refine wp_nil ?_
          exact ⟨tw - (k + 1), by omega, k + 1, by omega, rfl, by rw [show ((i + (k + 1) : Nat) : Int) = ((i + k : Nat) : Int) + 1 by omega], rfl⟩
        · rename_i hr
          have hk3 : k = tw := by
            by_cases q : k < tw
            · exfalso
              apply hr
              have m : xs[k] ∈ xs.take tw := by
                rw [List.mem_take_iff_getElem]
                exact ⟨k, by omega, rfl⟩
              have := hall _ m
              unfold run at this
              exact of_decide_eq_true this
            · omega
          subst hk3
          rfl
      · rename_i hlt
        have hk3 : k = tw := by omega
        subst hk3
        rfl
    · obtain ⟨rfl, rfl⟩ := hM
      refine wp_cons ?_
      walk_at "wp"
      have em : (if ((i : Int) + 1) > ((i + tw : Nat) : Int) then ((i : Int) + 1) else ((i + tw : Nat) : Int)) = ((i + max 1 tw : Nat) : Int) := by
        split <;> omega
      rw [em]
      exact fin
theorem app_get {st : Sto} {c : Cell} : (st ++ [c])[st.length]? = some c := by simp
theorem app_set {st : Sto} {c c' : Cell} : (st ++ [c]).set st.length c' = st ++ [c'] := by simp
theorem take_more {α : Type} (s : List α) (i k : Nat) : s.take (i + k) = s.take i ++ (s.drop i).take k := by rw [List.take_add]
theorem tokens_spec {s : List Nat} (hl : s.length ≤ 1000000) (st : Sto) : callW fns cst 2 0 [.str s] st fun w st' => w = .tup ((cut s).map .str) ∧ ∃ X, st' = st ++ [X] := by
  have hc : CalLe (callW fns cst 1) (callW fns cst 1) := callW_le (Nat.le_refl 1)
  have hs := line_of hl
  refine ⟨_, rfl, rfl, ?_⟩
  generalize hP : (fun (w : D) (st' : Sto) => w = .tup ((cut s).map .str) ∧ ∃ X, st' = st ++ [X]) = P
  unfold b0
  refine wp_cons ?_
  walk_at "wp"
  refine ⟨Nat.zero_le _, ?_⟩
  refine wp_cons ?_
  walk_at "wp"
  refine wp_cut hc (fun en s' => ∃ (x2 x3 : Option D), en = [some (.str s), some (.loc st.length), x2, x3] ∧ s' = st ++ [.lst ((cut s).map .str)]) ?_ fun en s' hM => ?_
  · refine wp_while hc (fun n en s' => ∃ (i : Nat) (f : List (List Nat)) (l : Nat) (x3 : Option D), i ≤ s.length ∧ n = s.length - i ∧ en = [some (.str s), some (.loc st.length), some (.int (i : Int)), x3] ∧ s' = st ++ [.lst (f.map .str)] ∧ cutS (s.take i) = (f, l) ∧ (∀ y, s[i]? = some y → glue l y = false) ∧ f.length ≤ i)
      (n0 := s.length) ⟨0, [], 32, none, Nat.zero_le _, rfl, rfl, rfl, rfl, fun y _ => glue_no (by decide) (by decide), Nat.le_refl _⟩ fun n en s' hI => ?_
    obtain ⟨i, f, l, x3, hi, rfl, rfl, rfl, hcut, hgl, hfl⟩ := hI
    walk_at "wp"
    refine ⟨hs, ?_⟩
    split
    · rename_i hlt
      have hlt : i < s.length := by omega
      have hd := List.drop_eq_getElem_cons hlt
      have hx : s[i]? = some s[i] := List.getElem?_eq_getElem hlt
      have hgx := hgl _ hx
      have hnext : ∀ k, s[i + k]? = (s.drop i)[k]? := fun k => by rw [List.getElem?_drop]
      have hmore := fun k => take_more s i k
      have hN : tokN (s.drop i) ≤ (s.drop i).length := by rw [hd]; exact tokN_le
      have hNp := tokN_pos (s.drop i)
      rw [List.length_drop] at hN
      rw [hd] at hnext hmore hN hNp
      generalize s[i] = x at *
      generalize s.drop (i + 1) = r at *
      obtain ⟨hst, hgn⟩ := tok_step (f := f) (l := l) (x := x) (r := r) hgx
      refine wp_cons ?_
      walk_at "wp"
      refine call_mono (end_spec hd hl _) fun w s' q => ?_
      obtain ⟨rfl, rfl⟩ := q
      refine wp_cons ?_
      walk_at "wp"
      refine ⟨hs, x, by rw [atI_ofN]; exact hx, ?_⟩
      rcases hst with ⟨hb, hn1, hstep⟩ | ⟨hb, hstep⟩
      · have hb' : decide (x ∈ [32, 10]) = true := hb
        rw [hb']
        walk_at "wp"
        refine wp_nil ?_
        refine wp_cons ?_
        walk_at "wp"
        refine wp_nil ?_
        rw [hn1] at hgn
        rw [if_pos hb] at hgn
        refine ⟨s.length - (i + tokN (x :: r)), by omega, i + tokN (x :: r), f, x, _, by omega, rfl, rfl, rfl, ?_, ?_, by omega⟩
        · rw [hn1, hmore]
          show cutS (s.take i ++ [x]) = _
          rw [cut_append, hcut]
          exact hstep
        · rw [hn1]
          intro y hy
          rw [hnext] at hy
          exact hgn y hy
      · have hb' : decide (x ∈ [32, 10]) = false := hb
        rw [hb']
        walk_at "wp"
        refine wp_cons ?_
        walk_at "wp"
        refine ⟨⟨_, app_get⟩, hs, _, app_get, ?_, ?_⟩
        · rw [List.length_map]
          have := sizeLine_eq
          omega
        rw [app_set, cut_nat hi (by omega), Nat.add_sub_cancel_left, hd]
        refine wp_nil ?_
        refine wp_cons ?_
        walk_at "wp"
        refine wp_nil ?_
        rw [if_neg (by rw [hb]; decide)] at hgn
        refine ⟨s.length - (i + tokN (x :: r)), by omega, i + tokN (x :: r), f ++ [(x :: r).take (tokN (x :: r))], lastC ((x :: r).take (tokN (x :: r))) l, some (.int ((i + tokN (x :: r) : Nat) : Int)), by omega, rfl, rfl, by simp, ?_, ?_, by simp; omega⟩
        · rw [hmore, cut_append, hcut]
          exact hstep
        · intro y hy
          rw [hnext] at hy
          exact hgn y hy
    · rename_i hlt
      have e : i = s.length := by omega
      subst e
      rw [List.take_length] at hcut
      have e2 : cut s = f := by unfold cut; rw [hcut]
      rw [e2]
      exact ⟨_, _, rfl, rfl⟩
  · obtain ⟨x2, x3, rfl, rfl⟩ := hM
    refine wp_cons ?_
    walk_at "wp"
    refine ⟨_, app_get, ?_⟩
    rw [← hP]
    exact ⟨rfl, _, rfl⟩
theorem map_set_last {g : List (List Nat)} {u v : List Nat} : ((g ++ [u]).map D.str).set ((g ++ [u]).length - 1) (.str v) = (g ++ [v]).map D.str := by
  simp [List.set_append_right]
theorem and_if {c d A B : Prop} [Decidable c] [Decidable d] (h1 : c → d → A) (h2 : ¬ (c ∧ d) → B) : if c then (if d then A else B) else B := by
  by_cases hc : c
  · rw [if_pos hc]
    by_cases hd : d
    · rw [if_pos hd]
      exact h1 hc hd
    · rw [if_neg hd]
      exact h2 fun q => hd q.2
  · rw [if_neg hc]
    exact h2 fun q => hc q.1
theorem split_last {α : Type} {f : List α} (h : f ≠ []) : ∃ g u, f = g ++ [u] := ⟨f.dropLast, f.getLast h, (List.dropLast_concat_getLast h).symm⟩
theorem last_get {g : List (List Nat)} {u : List Nat} : ((g ++ [u]).map D.str).getLast? = some (.str u) := by simp
theorem blank_any' (x : Nat) : (List.any [D.str [32], D.str [10]] fun y => eqF y (D.str [x])) = blank x := by
  rw [← blank_any x]
  show (([32] == [x]) || ((([10] : List Nat) == [x]) || false)) = _
  simp
theorem lcut_spec {s : List Nat} (hl : s.length ≤ 1000000) (st : Sto) : callW fns cst 1 5 [.str s] st fun w st' => w = .loc st.length ∧ Fr1 st.length (.lst ((cut s).map .str)) st st' := by
  have hc : CalLe (callW fns cst 0) (callW fns cst 0) := callW_le (Nat.le_refl 0)
  have hz := sizeLine_eq
  refine ⟨_, rfl, rfl, ?_⟩
  generalize hP : (fun (w : D) (st' : Sto) => w = .loc st.length ∧ Fr1 st.length (.lst ((cut s).map .str)) st st') = P
  unfold b5
  refine wp_cons ?_
  walk_at "wp"
  refine wp_cons ?_
  walk_at "wp"
  refine ⟨Nat.zero_le _, ?_⟩
  refine wp_cons ?_
  walk_at "wp"
  refine wp_cons ?_
  refine wp_for hc (ws := s.map fun c => .str [c]) (kp := none) (st1 := st ++ [.lst []]) ?_
    (fun pre en s' => ∃ (p : List Nat) (f : List (List Nat)) (l : Nat) (x4 : Option D), pre = p.map (fun c => .str [c]) ∧ en = [some (.str s), some (.str RUNS), some (.loc st.length), some (.str [l]), x4] ∧ Fr1 st.length (.lst (f.map .str)) st s' ∧ Cutting p f l)
    ⟨[], [], 32, none, rfl, rfl, .new, .nil⟩ (fun pre w post en s' e hJ => ?_) fun en s' hJ => ?_
  · walk_at "wp"
  · obtain ⟨p, f, l, x4, rfl, rfl, F, C⟩ := hJ
    have hw : ∃ x q, s = p ++ x :: q ∧ w = .str [x] := by
      obtain ⟨a, b, e1, e2, e3⟩ := List.map_eq_append_iff.mp e
      have ep : a = p := by
        have inj : ∀ a b : List Nat, a.map (fun c => D.str [c]) = b.map (fun c => D.str [c]) → a = b := by
          intro a
          induction a with
          | nil => intro b h; cases b with
            | nil => rfl
            | cons => simp at h
          | cons x a ih => intro b h; cases b with
            | nil => simp at h
            | cons y b =>
              simp at h
              rw [h.1, ih b (by simpa using h.2)]
        exact inj _ _ e2
      subst ep
      obtain ⟨x, q, e4, e5, e6⟩ := List.map_eq_cons_iff.mp e3
      exact ⟨x, q, by rw [e1, e4], e5.symm⟩
    obtain ⟨x, q, es, rfl⟩ := hw
    have hpl : p.length < 1000000 := by
      have := congrArg List.length es
      simp at this
      omega
    have hfl := C.len
    refine ⟨trivial, ?_⟩
    walk_at "wp"
    have nx : ∀ {g : List (List Nat)} {s2 : Sto} {x4 : Option D}, Fr1 st.length (.lst (g.map .str)) st s2 → Cutting (p ++ [x]) g x → ∃ (p' : List Nat) (f : List (List Nat)) (l : Nat) (y4 : Option D), p.map (fun c => D.str [c]) ++ [D.str [x]] = p'.map (fun c => .str [c]) ∧ [some (.str s), some (.str RUNS), some (.loc st.length), some (.str [x]), x4] = [some (.str s), some (.str RUNS), some (.loc st.length), some (.str [l]), y4] ∧ Fr1 st.length (.lst (f.map .str)) st s2 ∧ Cutting p' f l :=
      fun {g s2 x4} F2 C2 => ⟨p ++ [x], g, x, x4, by simp, rfl, F2, C2⟩
    refine wp_cut hc (fun en s2 => ∃ g, en = [some (.str s), some (.str RUNS), some (.loc st.length), some (.str [l]), some (.str [x])] ∧ Fr1 st.length (.lst (g.map .str)) st s2 ∧ Cutting (p ++ [x]) g x) ?_ fun en s2 hM => ?_
    · -- the sign joins, or is new
      walk_at "wp"
      refine and_if (fun h1 h2 => ?_) fun h1 => ?_
      · have r1 : run x = true := decide_eq_true h1
        have r2 : run l = true := decide_eq_true h2
        obtain ⟨g, u, rfl⟩ := split_last (C.ne (run_nb r2))
        have hu := C.each u (by simp)
        refine wp_cons ?_
        walk_at "wp"
        simp only [F.get]
        walk_at "wp"
        refine ⟨.str u, last_get, ?_⟩
        walk_at "wp"
        refine ⟨by omega, _, _, F.get, ixN_m1 (by simp), ?_⟩
        refine wp_nil ?_
        refine ⟨g ++ [u ++ [x]], rfl, ?_, C.next (step_run r1 r2) (fun _ => by simp) (by simp) fun t ht => ?_⟩
        · rw [List.length_map, map_set_last]
          exact F.put _
        · rcases List.mem_append.mp ht with z | z
          · exact .inl (List.mem_append_left _ z)
          · rw [List.mem_singleton.mp z, List.length_append, List.length_singleton]
            exact .inr (by omega)
      · refine wp_cons ?_
        walk_at "wp"
        refine and_if (fun h2 h3 => ?_) fun h2 => ?_
        · have e1 : x = 61 := by simpa using h2
          have e2 : l = 60 := by simpa using h3
          subst e1 e2
          obtain ⟨g, u, rfl⟩ := split_last (C.ne blank60)
          refine wp_cons ?_
          walk_at "wp"
          simp only [F.get]
          walk_at "wp"
          refine ⟨_, _, rfl, ixN_m1 (by simp), ?_⟩
          walk_at "nil"
          refine ⟨g ++ [[60, 61]], trivial, ?_, C.next step_le (fun _ => by simp) (by simp) fun t ht => ?_⟩
          · rw [List.length_map, map_set_last]
            exact F.put _
          · rcases List.mem_append.mp ht with z | z
            · exact .inl (List.mem_append_left _ z)
            · rw [List.mem_singleton.mp z]
              have : p.length ≠ 0 := fun z => by
                have e := List.length_eq_zero_iff.mp z
                subst e
                have := C.eq
                simp [cutS] at this
              exact .inr (by simp; omega)
        · have hg : glue l x = false := by
            unfold glue run
            rw [Bool.or_eq_false_iff]
            constructor
            · rw [Bool.and_eq_false_iff, decide_eq_false_iff_not, decide_eq_false_iff_not]
              by_cases z : x ∈ RUNS
              · exact .inr fun z2 => h1 ⟨z, z2⟩
              · exact .inl z
            · rw [Bool.and_eq_false_iff, decide_eq_false_iff_not, decide_eq_false_iff_not]
              by_cases z : x = 61
              · exact .inr fun z2 => h2 ⟨by simp [z], by simp [z2]⟩
              · exact .inl z
          refine wp_cons ?_
          walk_at "wp"
          refine ⟨by omega, _, new_get, rfl, ?_⟩
          have ea : (List.any [D.str [32], D.str [10]] fun y => eqF y (D.str [x])) = blank x := blank_any' x
          rw [ea]
          cases hb : blank x with
          | false =>
            walk_at "wp"
            refine wp_cons ?_
            walk_at "wp"
            have F2 := F.app [.lst [.str [32], .str [10]]]
            refine ⟨⟨_, F2.get⟩, _, F2.get, by rw [List.length_map]; omega, ?_⟩
            walk_at "nil"
            refine ⟨f ++ [[x]], trivial, ?_, C.next (step_new hg hb) (fun _ => by simp) (by simp) fun t ht => ?_⟩
            · have F3 := F2.put (.lst ((f ++ [[x]]).map .str))
              rw [List.map_append] at F3 ⊢
              exact F3
            · rcases List.mem_append.mp ht with z | z
              · exact .inl z
              · rw [List.mem_singleton.mp z]
                exact .inr (by simp)
          | true =>
            walk_at "wp"
            walk_at "nil"
            exact ⟨f, trivial, F.app _, C.next (step_blank hb) (fun z => by rw [hb] at z; cases z) (by omega) fun t ht => .inl ht⟩
    · obtain ⟨g, rfl, F2, C2⟩ := hM
      refine wp_cons ?_
      walk_at "wp"
      refine wp_nil ?_
      exact nx F2 C2
  · obtain ⟨p, f, l, x4, e, rfl, F, C⟩ := hJ
    refine ⟨trivial, ?_⟩
    have ep : p = s := by
      have inj : ∀ a b : List Nat, a.map (fun c => D.str [c]) = b.map (fun c => D.str [c]) → a = b := by
        intro a
        induction a with
        | nil => intro b h; cases b with
          | nil => rfl
          | cons => simp at h
        | cons x a ih => intro b h; cases b with
          | nil => simp at h
          | cons y b =>
            simp at h
            rw [h.1, ih b (by simpa using h.2)]
      exact (inj _ _ e).symm
    subst ep
    refine wp_cons ?_
    walk_at "wp"
    rw [← hP]
    refine ⟨rfl, ?_⟩
    have e2 : cut p = f := by unfold cut; rw [C.eq]
    rw [e2]
    exact F
def SIGNS : List Nat := [33, 34, 35, 36, 38, 39, 40, 41, 42, 43, 44, 45, 46, 47, 58, 59, 60, 61, 62, 63, 64, 91, 92, 93, 94, 95, 96, 123, 124, 125, 126, 9, 60, 61, 62]
theorem signs_ok : ∀ c ∈ SIGNS, blank c = false ∧ c < 128 := by decide
theorem runs_lt : ∀ c ∈ RUNS, c < 128 := by decide
def TokOk (t : List Nat) : Prop := IsTok t ∧ t.length ≤ 30 ∧ ∀ c ∈ t, c < 128
theorem token_spec {n : Nat} {st : Sto} (h : DOk st n) : callW fns cst 3 7 [.loc n] st fun w st' => ∃ t, w = .str t ∧ TokOk t ∧ Gr n st st' := by
  have hc : CalLe (callW fns cst 2) (callW fns cst 2) := callW_le (Nat.le_refl 2)
  have hz := sizeLine_eq
  refine ⟨_, rfl, rfl, ?_⟩
  generalize hP : (fun (w : D) (st' : Sto) => ∃ t, w = .str t ∧ TokOk t ∧ Gr n st st') = P
  have fin : ∀ t s, TokOk t → Gr n st s → P (.str t) s := fun t s h1 h2 => by
    rw [← hP]
    exact ⟨t, rfl, h1, h2⟩
  unfold b7
  refine wp_cons ?_
  walk_at "wp"
  refine call_up (draw_spec f3 h (by decide) (by decide)) (by decide) fun w s1 q => ?_
  obtain ⟨way, rfl, _, _, g1⟩ := q
  refine wp_cons ?_
  walk_at "wp"
  split
  · refine wp_cons ?_
    walk_at "wp"
    exact fin _ _ ⟨.inl rfl, by decide, by decide⟩ g1
  refine wp_nil ?_
  refine wp_cons ?_
  walk_at "wp"
  split
  · refine wp_cons ?_
    walk_at "wp"
    refine call_mono (pick_str (s := SIGNS) f3 f4 g1.ok (by decide) (by decide)) fun w s2 q => ?_
    obtain ⟨c, rfl, hcs, g2⟩ := q
    obtain ⟨h1, h2⟩ := signs_ok c hcs
    exact fin _ _ ⟨.inr (.inr ⟨c, rfl, h1⟩), by simp, fun x hx => by rw [List.mem_singleton.mp hx]; exact h2⟩ (g1.trans g2)
  refine wp_nil ?_
  refine wp_cons ?_
  walk_at "wp"
  refine wp_cut hc (fun en s => ∃ (x1 : Option D) (many : Nat), en = [some (.loc n), x1, some (.str RUNS), some (.int many), none] ∧ 0 < many ∧ many ≤ 30 ∧ Gr n st s) ?_ fun en s hM => ?_
  · walk_at "wp"
    refine call_up (draw_spec f3 g1.ok (by decide) (by decide)) (by decide) fun w s2 q => ?_
    obtain ⟨r, rfl, _, _, g2⟩ := q
    have g12 := g1.trans g2
    walk_at "wp"
    split
    · refine call_up (draw_spec f3 g2.ok (by decide) (by decide)) (by decide) fun w s3 q => ?_
      obtain ⟨r2, rfl, h1, h2, g3⟩ := q
      walk_at "wp"
      have e : 1 + r2 = (((1 + r2).toNat : Nat) : Int) := by omega
      refine ⟨_, (1 + r2).toNat, by rw [← e], by omega, by omega, g12.trans g3⟩
    · refine ⟨by show (3 : Nat) ≤ _; omega, ?_⟩
      have g3 := Gr.app g2.ok [.lst [.int 8, .int 9, .int 30]]
      refine call_mono (pick_loc f3 f4 g3.ok new_get (Nat.ne_of_gt g2.ok.lt) (by decide) (by decide)) fun w s3 q => ?_
      obtain ⟨hw, g4⟩ := q
      have g14 := (g12.trans g3).trans g4
      simp only [List.mem_cons, List.not_mem_nil, or_false] at hw
      rcases hw with rfl | rfl | rfl
      · exact ⟨_, 8, rfl, by decide, by decide, g14⟩
      · exact ⟨_, 9, rfl, by decide, by decide, g14⟩
      · exact ⟨_, 30, rfl, by decide, by decide, g14⟩
  · obtain ⟨x1, many, rfl, hm0, hm1, g⟩ := hM
    refine wp_cons ?_
    walk_at "wp"
    refine ⟨by decide, by omega, by omega, ?_⟩
    have hmany : (List.map (fun (k : Nat) => D.int (k : Int)) (List.range ((many : Int)).toNat)).length = many := by simp
    refine compW_all (f := fun w st K => callW fns cst 2 4 [D.loc n, D.str RUNS] st fun x st4 => K (some x) st4) (fun w st A B h p => call_mono p fun _ _ q => h _ _ q) (fun pre acc s2 => ∃ cs : List Nat, acc = (cs.map fun c => [c]).map .str ∧ cs.length = pre.length ∧ (∀ c ∈ cs, c ∈ RUNS) ∧ Gr n st s2) ⟨[], rfl, rfl, by simp, g⟩ (fun pre w post acc s2 e hI => ?_) (fun acc s2 hI => ?_)
    · obtain ⟨cs, rfl, h1, h2, g2⟩ := hI
      have hl := congrArg List.length e
      rw [hmany, List.length_append, List.length_cons] at hl
      refine ⟨trivial, call_mono (pick_str (s := RUNS) f3 f4 g2.ok (by decide) (by decide)) fun w s3 q => ?_⟩
      obtain ⟨c, rfl, hcs, g3⟩ := q
      refine ⟨by rw [List.length_map, List.length_map]; omega, cs ++ [c], by simp, by simp [h1], fun x hx => ?_, g2.trans g3⟩
      rcases List.mem_append.mp hx with z | z
      · exact h2 x z
      · rw [List.mem_singleton.mp z]
        exact hcs
    · obtain ⟨cs, rfl, h1, h2, g2⟩ := hI
      rw [hmany] at h1
      refine ⟨trivial, ?_⟩
      walk_at "wp"
      refine ⟨_, new_get, ?_, ?_⟩
      · have e : (List.map (fun x => x.length) (List.map (fun c => [c]) cs)).sum = cs.length := by
          rw [List.map_map]
          show (cs.map fun c => 1).sum = _
          rw [List.map_const', List.sum_replicate_nat, Nat.mul_one]
        rw [e]
        simp
        omega
      · rw [joinL_nil, flat_one]
        refine fin _ _ ⟨.inr (.inl ⟨fun z => ?_, fun c hc => decide_eq_true (h2 c hc)⟩), by omega, fun c hc => runs_lt c (h2 c hc)⟩ (g2.to_app _)
        rw [z] at h1
        simp at h1
        omega
theorem last_lastC {p : List Nat} (h : p ≠ []) : p.getLast? = some (lastC p 0) := by
  unfold lastC
  cases q : p.getLast? with
  | none => exact absurd (List.getLast?_eq_none_iff.mp q) h
  | some z => rfl
theorem glued_spec {n r : Nat} {st : Sto} {ps : List (List Nat)} (h : DOk st n) (hr : st[r]? = some (.lst (ps.map .str))) (hrn : r ≠ n) (hlen : ps.length ≤ 60) (hok : ∀ p ∈ ps, TokOk p) :
    callW fns cst 3 6 [.loc n, .loc r] st fun w st' => ∃ g, w = .str g ∧ cut g = ps ∧ g.length ≤ 3000 ∧ (∀ c ∈ g, c < 128) ∧ Gr n st st' := by
  have hc : CalLe (callW fns cst 2) (callW fns cst 2) := callW_le (Nat.le_refl 2)
  have hz := sizeLine_eq
  have hn := h.lt
  have hrl := get_lt hr
  refine ⟨_, rfl, rfl, ?_⟩
  generalize hP : (fun (w : D) (st' : Sto) => ∃ g, w = .str g ∧ cut g = ps ∧ g.length ≤ 3000 ∧ (∀ c ∈ g, c < 128) ∧ Gr n st st') = P
  unfold b6
  refine wp_cons ?_
  walk_at "wp"
  refine wp_cons ?_
  walk_at "wp"
  refine ⟨by show (4 : Nat) ≤ _; omega, ?_⟩
  have g1 := Gr.app h [.lst [.str [], .str [], .str [32], .str [10]]]
  refine call_mono (pick_loc f3 f4 g1.ok new_get (Nat.ne_of_gt hn) (by decide) (by decide)) fun w s1 q => ?_
  obtain ⟨hw, g2⟩ := q
  have g12 := g1.trans g2
  have hw : ∃ b0, w = .str b0 ∧ (∀ c ∈ b0, blank c = true) ∧ b0.length ≤ 1 := by
    simp only [List.mem_cons, List.not_mem_nil, or_false] at hw
    rcases hw with rfl | rfl | rfl | rfl
    · exact ⟨_, rfl, by decide, by decide⟩
    · exact ⟨_, rfl, by decide, by decide⟩
    · exact ⟨_, rfl, by decide, by decide⟩
    · exact ⟨_, rfl, by decide, by decide⟩
  obtain ⟨b0, rfl, hb0, hb1⟩ := hw
  refine ⟨by show (1 : Nat) ≤ _; omega, ?_⟩
  have hL : st.length ≤ s1.length := g12.len
  have g3 := g12.to_app [.lst [.str b0]]
  have hget : (s1 ++ [Cell.lst [.str b0]])[s1.length]? = some (.lst [.str b0]) := new_get
  generalize s1.length = L at *
  generalize s1 ++ [Cell.lst [.str b0]] = s2 at *
  refine wp_cons ?_
  walk_at "wp"
  have keep : ∀ {s : Sto}, Gr n st s → s[r]? = some (.lst (ps.map .str)) := fun g => (g.same r hrl hrn).trans hr
  have blank32 : blank 32 = true := by decide
  refine wp_cons ?_
  refine wp_for hc (ws := ps.map .str) (kp := some (r, ps.map .str)) (st1 := s2) ?_
    (fun pre en s => ∃ (done fs : List (List Nat)) (l l' : Nat) (x5 x6 : Option D), pre = done.map .str ∧ en = [some (.loc n), some (.loc r), some (.str RUNS), some (.loc L), some (.str [l]), x5, x6] ∧ Gr n st s ∧ s[L]? = some (.lst (fs.map .str)) ∧ cutS fs.flatten = (done, l') ∧
      (l' = l ∨ (blank l = true ∧ blank l' = true)) ∧ fs.length = done.length + 1 ∧ fs.flatten.length ≤ 1 + done.length * 33 ∧ ∀ c ∈ fs.flatten, c < 128)
    ⟨[], [b0], 32, lastC b0 32, none, none, rfl, rfl, g3, hget, ?_, ?_, rfl, by simp; omega, ?_⟩ (fun pre w post en s e hJ => ?_) fun en s hJ => ?_
  · walk_at "wp"
    exact ⟨_, keep g3, rfl, rfl⟩
  · have e : ([b0] : List (List Nat)).flatten = b0 := by simp
    rw [e]
    exact blanks_add b0 32 hb0
  · right
    refine ⟨blank32, ?_⟩
    unfold lastC
    cases q : b0.getLast? with
    | none => exact blank32
    | some z => exact hb0 z (List.mem_of_getLast? q)
  · intro c hcm
    have hcm : c ∈ b0 := by simpa using hcm
    have := hb0 c hcm
    unfold blank at this
    simp at this
    omega
  · obtain ⟨done, fs, l, l', x5, x6, rfl, rfl, G, F, hcut, hll, hfl, hlen2, hasc⟩ := hJ
    have hp : ∃ p q, ps = done ++ p :: q ∧ w = .str p := by
      obtain ⟨a, b, e1, e2, e3⟩ := List.map_eq_append_iff.mp e
      have ea : a = done := by
        have inj : ∀ a b : List (List Nat), a.map D.str = b.map D.str → a = b := by
          intro a
          induction a with
          | nil => intro b h; cases b with
            | nil => rfl
            | cons => simp at h
          | cons x a ih => intro b h; cases b with
            | nil => simp at h
            | cons y b =>
              simp at h
              rw [h.1, ih b (by simpa using h.2)]
        exact inj _ _ e2
      subst ea
      obtain ⟨x, q, e4, e5, e6⟩ := List.map_eq_cons_iff.mp e3
      exact ⟨x, q, by rw [e1, e4], e5.symm⟩
    obtain ⟨p, q, eps, rfl⟩ := hp
    obtain ⟨htok, hp30, hpasc⟩ := hok p (by rw [eps]; simp)
    have hdl : done.length < 60 := by
      have := congrArg List.length eps
      simp at this
      omega
    refine ⟨keep G, ?_⟩
    walk_at "wp"
    refine wp_cons ?_
    walk_at "wp"
    refine ⟨by show (6 : Nat) ≤ _; omega, ?_⟩
    have G1 := Gr.app G.ok [.lst [.str [], .str [], .str [32], .str [10], .str [32, 32], .str [32, 10, 10]]]
    refine call_mono (pick_loc f3 f4 G1.ok new_get (Nat.ne_of_gt G.ok.lt) (by decide) (by decide)) fun w s3 q => ?_
    obtain ⟨hw, G2⟩ := q
    have G02 := (G.trans G1).trans G2
    have F2 : s3[L]? = some (.lst (fs.map .str)) := by
      have hl := get_lt F
      have hln : L ≠ n := by omega
      rw [G2.same L (by rw [List.length_append]; omega) hln, List.getElem?_append_left hl]
      exact F
    have hw : ∃ b, w = .str b ∧ (∀ c ∈ b, blank c = true) ∧ b.length ≤ 3 := by
      simp only [List.mem_cons, List.not_mem_nil, or_false] at hw
      rcases hw with rfl | rfl | rfl | rfl | rfl | rfl
      · exact ⟨_, rfl, by decide, by decide⟩
      · exact ⟨_, rfl, by decide, by decide⟩
      · exact ⟨_, rfl, by decide, by decide⟩
      · exact ⟨_, rfl, by decide, by decide⟩
      · exact ⟨_, rfl, by decide, by decide⟩
      · exact ⟨_, rfl, by decide, by decide⟩
    obtain ⟨b, rfl, hb, hb3⟩ := hw
    obtain ⟨p0, pr, rfl⟩ : ∃ p0 pr, p = p0 :: pr := by
      cases p with
      | nil => exact absurd rfl htok.ne
      | cons a b => exact ⟨a, b, rfl⟩
    have hpz : (p0 :: pr).length ≤ sizeLine := by omega
    have hp30' : pr.length + 1 ≤ 30 := hp30
    have hpz' : pr.length + 1 ≤ sizeLine := hpz
    refine wp_cut hc (fun en s => ∃ b', en = [some (.loc n), some (.loc r), some (.str RUNS), some (.loc L), some (.str [l]), some (.str (p0 :: pr)), some (.str b')] ∧ s = s3 ∧ (∀ c ∈ b', blank c = true) ∧ b'.length ≤ 3 ∧ (b' = [] → glue l p0 = false)) ?_ fun en s hM => ?_
    · walk_at "wp"
      have noG : ¬ (l ∈ RUNS ∧ p0 ∈ RUNS) → ¬ (([l] == [60]) = true ∧ ([p0] == [61]) = true) → glue l p0 = false := fun h1 h2 => by
        rw [Bool.eq_false_iff]
        intro hg
        unfold glue run at hg
        simp only [Bool.or_eq_true, Bool.and_eq_true, decide_eq_true_eq] at hg
        rcases hg with ⟨a, c⟩ | ⟨a, c⟩
        · exact h1 ⟨c, a⟩
        · exact h2 ⟨by simp [c], by simp [a]⟩
      repeat' (first | split | with_reducible refine And.intro hpz' ?_ | fail)
      all_goals first
        | (refine wp_cons ?_
           walk_at "wp"
           refine wp_nil ?_
           exact ⟨[32], rfl, rfl, by decide, by decide, fun z => by cases z⟩)
        | (refine wp_nil ?_
           exact ⟨b, rfl, rfl, hb, hb3, fun z => noG (fun q => by simp_all) (fun q => by simp_all)⟩)
        | (refine wp_nil ?_
           refine ⟨b, rfl, rfl, hb, hb3, fun z => ?_⟩
           rename_i hbn
           exact absurd (by rw [z] <;> rfl) hbn)
    · obtain ⟨b', rfl, rfl, hb', hb3', hgl⟩ := hM
      have hgl' : b' = [] → glue l' p0 = false := fun z => by
        rcases hll with rfl | ⟨_, h2⟩
        · exact hgl z
        · obtain ⟨h3, h4, _⟩ := blank_run h2
          exact glue_no h3 h4
      refine wp_cons ?_
      walk_at "wp"
      refine ⟨⟨_, F2⟩, by omega, _, F2, by rw [List.length_map]; omega, ?_⟩
      refine wp_cons ?_
      walk_at "wp"
      refine ⟨hpz, _, last_lastC (by simp), ?_⟩
      refine wp_nil ?_
      have hadd := piece_add (f := done) (l := l') (b := b') (t := p0 :: pr) hb' htok fun z x hx => by
        cases hx
        exact hgl' z
      refine ⟨done ++ [p0 :: pr], fs ++ [b' ++ p0 :: pr], lastC (p0 :: pr) 0, lastC (p0 :: pr) 0, _, _, by simp, rfl, G02.set_hi hn hL _, ?_, ?_, .inl rfl, by simp; omega, ?_, ?_⟩
      · rw [set_get F2]
        simp
      · rw [List.flatten_append, cut_append, hcut]
        simpa using hadd
      · rw [List.flatten_append, List.length_append, List.length_append]
        simp only [List.flatten_cons, List.flatten_nil, List.append_nil, List.length_append, List.length_cons, List.length_nil] at hp30 ⊢
        omega
      · intro c hcm
        rw [List.flatten_append] at hcm
        rcases List.mem_append.mp hcm with z | z
        · exact hasc c z
        · have z : c ∈ b' ++ p0 :: pr := by simpa using z
          rcases List.mem_append.mp z with z | z
          · have := hb' c z
            unfold blank at this
            simp at this
            omega
          · exact hpasc c z
  · obtain ⟨done, fs, l, l', x5, x6, e, rfl, G, F, hcut, hll, hfl, hlen2, hasc⟩ := hJ
    refine ⟨keep G, ?_⟩
    have ed : done = ps := by
      have inj : ∀ a b : List (List Nat), a.map D.str = b.map D.str → a = b := by
        intro a
        induction a with
        | nil => intro b h; cases b with
          | nil => rfl
          | cons => simp at h
        | cons x a ih => intro b h; cases b with
          | nil => simp at h
          | cons y b =>
            simp at h
            rw [h.1, ih b (by simpa using h.2)]
      exact (inj _ _ e).symm
    subst ed
    refine wp_cons ?_
    walk_at "wp"
    have esum : (List.map (fun x => x.length) fs).sum = fs.flatten.length := by rw [List.length_flatten]
    refine ⟨fs, F, by rw [esum, Nat.mul_zero]; omega, by show (3 : Nat) ≤ _; omega, ?_⟩
    have G1 := Gr.app G.ok [.lst [.str [], .str [32], .str [10]]]
    refine call_mono (pick_loc f3 f4 G1.ok new_get (Nat.ne_of_gt G.ok.lt) (by decide) (by decide)) fun w s3 q => ?_
    obtain ⟨hw, G2⟩ := q
    have hw : ∃ b, w = .str b ∧ (∀ c ∈ b, blank c = true) ∧ b.length ≤ 1 := by
      simp only [List.mem_cons, List.not_mem_nil, or_false] at hw
      rcases hw with rfl | rfl | rfl
      · exact ⟨_, rfl, by decide, by decide⟩
      · exact ⟨_, rfl, by decide, by decide⟩
      · exact ⟨_, rfl, by decide, by decide⟩
    obtain ⟨b, rfl, hb, hb1⟩ := hw
    walk_at "wp"
    rw [joinL_nil]
    refine ⟨by omega, ?_⟩
    rw [← hP]
    refine ⟨_, rfl, ?_, by rw [List.length_append]; omega, fun c hcm => ?_, (G.trans G1).trans G2⟩
    · unfold cut
      rw [cut_append, hcut, blanks_add b l' hb]
    · rcases List.mem_append.mp hcm with z | z
      · exact hasc c z
      · have := hb c z
        unfold blank at this
        simp at this
        omega
end K07

set_option Elab.async false
set_option linter.all false
set_option maxRecDepth 100000
set_option maxHeartbeats 4000000
namespace K07
open PySem Dq L2
local macro_rules | `(tactic| walk_at "wp") => `(tactic| simp only [wpS, wpE, wpEo, wpEs, wpT, wpTeo, wpTg, wpTgs, wpI, immD, truW_bl, truW_int, truW_str, truW_tup, truW_loc, idxW_str, idxW_tup, idxW_flst, idxW_loc, idlW_loc, setW_loc, slcW_str, slcW_loc, binW_add, binW_addS, binW_addL, binW_sub, binW_mul, binW_fdiv, binW_mod, binW_pow, binW_shl, augW_add, augW_addS, augW_sub,
  cmpW_eq, cmpW_ne, eqW_strs, eqW_ints, inW_strs, inW_loc, inW_tup, flatD, atI_m1, cmpW_in, cmpW_ni, cmpW_lt, cmpW_le, cmpW_gt, cmpW_ge, cmpW_is, cmpW_isn, lenW_loc, lenW_str, lenW_tup, lenW_flst, blt_len, blt_abs, blt_max, blt_min, blt_int, blt_intB, blt_tup, blt_all, blt_any, mth_append, mth_join, mthTy_join, mthTy_app, seqW_str, seqW_tup, seqW_flst, seqW_loc, lenTs, slT, slTs,
  List.getElem?_cons_zero, List.getElem?_cons_succ, List.set_cons_zero, List.set_cons_succ, Option.some.injEq, exists_eq_left', exists_eq_left, true_and, and_true, D.bl.injEq, D.int.injEq, D.loc.injEq, D.str.injEq, D.tup.injEq, Cell.lst.injEq, atI_0, atI_1, atI_2, atI_3, atI_4, decide_eq_true_eq, List.map, List.length_cons, List.length_nil, List.replicate, List.cons_append, List.nil_append, Nat.reduceAdd, Nat.reduceSub, Nat.zero_add, wipeE, if_true, if_false, Bool.false_eq_true, Bool.not_true, Bool.not_false])
local macro_rules | `(tactic| walk_at "nil") => `(tactic| simp only [wpSs_nil])
def S20 : List Nat := [97, 113, 90, 57, 48, 60, 61, 62, 60, 61, 62, 59, 45, 32, 10, 32, 10, 9, 91, 46]
theorem s20_lt : ∀ c ∈ S20, c < 128 := by decide
def ePieces : E := (.comp [8] (.call 7 (.cons (.var 1) .nil)) (.name 8) (.range1 (.ife (.tst (.cmp .Eq (.call 3 (.cons (.var 1) (.cons (.cst (.int (12))) .nil))) (.cst (.int (0))))) (.cst (.int (60))) (.call 3 (.cons (.var 1) (.cons (.cst (.int (8))) .nil))))) .no)
def eSecond : E := (.mth .join (.cst (.str [])) (.cons (.comp [8] (.call 4 (.cons (.var 1) (.cons (.cst (.str S20)) .nil))) (.name 8) (.range1 (.call 3 (.cons (.var 1) (.cons (.cst (.int (41))) .nil)))) .no) .nil))
theorem pieces_spec {n : Nat} {st : Sto} {x0 : Option D} {rest : En} (h : DOk st n) : wpE (callW fns cst 3) cst ePieces (x0 :: some (.loc n) :: rest) st fun w s => ∃ (r : Nat) (ts : List (List Nat)), w = .loc r ∧ st.length ≤ r ∧ s[r]? = some (.lst (ts.map .str)) ∧ ts.length ≤ 60 ∧ (∀ t ∈ ts, TokOk t) ∧ Gr n st s := by
  have hz := sizeLine_eq
  have key : ∀ (j : Int) (s : Sto), 0 ≤ j → j ≤ 60 → Gr n st s → compW (keepW none) (fun w st K => callW fns cst 3 7 [D.loc n] st fun x st4 => K (some x) st4)
      (fun w s => ∃ (r : Nat) (ts : List (List Nat)), w = .loc r ∧ st.length ≤ r ∧ s[r]? = some (.lst (ts.map .str)) ∧ ts.length ≤ 60 ∧ (∀ t ∈ ts, TokOk t) ∧ Gr n st s) (List.map (fun (k : Nat) => D.int (k : Int)) (List.range j.toNat)) [] s := fun j s h0 h1 g => by
    have hmany : (List.map (fun (k : Nat) => D.int (k : Int)) (List.range j.toNat)).length = j.toNat := by simp
    refine compW_all (fun w st A B h p => call_mono p fun _ _ q => h _ _ q) (fun pre acc s2 => ∃ ts : List (List Nat), acc = ts.map .str ∧ ts.length = pre.length ∧ (∀ t ∈ ts, TokOk t) ∧ Gr n st s2) ⟨[], rfl, rfl, by simp, g⟩ (fun pre w post acc s2 e hI => ?_) (fun acc s2 hI => ?_)
    · obtain ⟨ts, rfl, h2, h3, g2⟩ := hI
      have hl := congrArg List.length e
      rw [hmany, List.length_append, List.length_cons] at hl
      refine ⟨trivial, call_mono (token_spec g2.ok) fun w s3 q => ?_⟩
      obtain ⟨t, rfl, ht, g3⟩ := q
      refine ⟨by rw [List.length_map]; omega, ts ++ [t], by simp, by simp [h2], fun x hx => ?_, g2.trans g3⟩
      rcases List.mem_append.mp hx with z | z
      · exact h3 x z
      · rw [List.mem_singleton.mp z]
        exact ht
    · obtain ⟨ts, rfl, h2, h3, g2⟩ := hI
      rw [hmany] at h2
      exact ⟨trivial, s2.length, ts, rfl, g2.len, new_get, by omega, h3, g2.to_app _⟩
  unfold ePieces
  walk_at "wp"
  refine ⟨by decide, ?_⟩
  refine call_up (draw_spec f3 h (by decide) (by decide)) (by decide) fun w s1 q => ?_
  obtain ⟨r0, rfl, _, _, g1⟩ := q
  walk_at "wp"
  split
  · exact ⟨by decide, by decide, key 60 s1 (by decide) (by decide) g1⟩
  · refine call_up (draw_spec f3 g1.ok (by decide) (by decide)) (by decide) fun w s2 q => ?_
    obtain ⟨r1, rfl, a, b, g2⟩ := q
    exact ⟨_, rfl, by omega, by omega, key r1 s2 a (by omega) (g1.trans g2)⟩
theorem second_spec {n : Nat} {st : Sto} {x0 : Option D} {rest : En} (h : DOk st n) : wpE (callW fns cst 3) cst eSecond (x0 :: some (.loc n) :: rest) st fun w s => ∃ t, w = .str t ∧ t.length ≤ 40 ∧ (∀ c ∈ t, c < 128) ∧ Gr n st s := by
  have hz := sizeLine_eq
  unfold eSecond
  walk_at "wp"
  refine ⟨by decide, ?_⟩
  refine call_up (draw_spec f3 h (by decide) (by decide)) (by decide) fun w s1 q => ?_
  obtain ⟨j, rfl, a, b, g⟩ := q
  refine ⟨_, rfl, by omega, by omega, ?_⟩
  have hmany : (List.map (fun (k : Nat) => D.int (k : Int)) (List.range j.toNat)).length = j.toNat := by simp
  refine compW_all (f := fun w st K => callW fns cst 3 4 [D.loc n, D.str S20] st fun x st4 => K (some x) st4) (fun w st A B h p => call_mono p fun _ _ q => h _ _ q) (fun pre acc s2 => ∃ cs : List Nat, acc = (cs.map fun c => [c]).map .str ∧ cs.length = pre.length ∧ (∀ c ∈ cs, c ∈ S20) ∧ Gr n st s2) ⟨[], rfl, rfl, by simp, g⟩ (fun pre w post acc s2 e hI => ?_) (fun acc s2 hI => ?_)
  · obtain ⟨cs, rfl, h1, h2, g2⟩ := hI
    have hl := congrArg List.length e
    rw [hmany, List.length_append, List.length_cons] at hl
    refine ⟨trivial, call_up (pick_str (s := S20) f3 f4 g2.ok (by decide) (by decide)) (by decide) fun w s3 q => ?_⟩
    obtain ⟨c, rfl, hcs, g3⟩ := q
    refine ⟨by rw [List.length_map, List.length_map]; omega, cs ++ [c], by simp, by simp [h1], fun x hx => ?_, g2.trans g3⟩
    rcases List.mem_append.mp hx with z | z
    · exact h2 x z
    · rw [List.mem_singleton.mp z]
      exact hcs
  · obtain ⟨cs, rfl, h1, h2, g2⟩ := hI
    rw [hmany] at h1
    refine ⟨trivial, ?_⟩
    walk_at "wp"
    refine ⟨_, new_get, ?_, ?_⟩
    · have e : (List.map (fun x => x.length) (List.map (fun c => [c]) cs)).sum = cs.length := by
        rw [List.map_map]
        show (cs.map fun c => 1).sum = _
        rw [List.map_const', List.sum_replicate_nat, Nat.mul_one]
      rw [e]
      simp
      omega
    · rw [joinL_nil, flat_one]
      exact ⟨by omega, fun c hc => s20_lt c (h2 c hc), g2.to_app _⟩
theorem plain_app {n : Nat} {st s : Sto} {L : Nat} {c : Cell} (h : Fr1 L c st s) (hL : st.length ≤ L) (D0 : DOk st n) : Gr n st s := by
  obtain ⟨m, a, b, d, e, ns, h1, h2, h3, h4⟩ := D0
  have l1 := get_lt h1
  have l2 := get_lt h2
  refine ⟨⟨m, a, b, d, e, ns, by rw [h.low n (by omega)]; exact h1, by rw [h.low m (by omega)]; exact h2, h3, h4⟩, ?_, fun k hk _ => h.low k (by omega)⟩
  have := get_lt h.get
  omega
/-- one text is asked -/
def Asked (s : Sto) (w : D) : Prop := ∃ (t : List Nat) (k : Nat), w = .tup [.str t, .loc k] ∧ s[k]? = some (.lst ((cut t).map .str)) ∧ t.length ≤ 1000000 ∧ ∀ c ∈ t, c < 128
theorem law_spec : LawW fns cst 4 8 := by
  intro ns hns
  have hc : CalLe (callW fns cst 3) (callW fns cst 3) := callW_le (Nat.le_refl 3)
  have hz := sizeLine_eq
  refine ⟨_, rfl, rfl, ?_⟩
  generalize hP : (fun (w : D) (_ : Sto) => w = .bl true) = P
  have fin : ∀ s, P (.bl true) s := fun s => by
    rw [← hP]
  unfold b8
  refine wp_cons ?_
  walk_at "wp"
  refine call_up (begin_spec f2 hns) (by decide) fun w st1 q => ?_
  obtain ⟨rfl, X, Y, rfl, D0⟩ := q
  generalize ([] : Sto) ++ [X, Y] = st1 at *
  have D0 : DOk st1 1 := D0
  have h1lt := D0.lt
  refine wp_cons ?_
  refine wpE_mono hc ePieces [some _, some (.loc 1), none, none, none, none, none, none, none, none] st1 _ _ (fun w s1 q => ?_) (pieces_spec D0)
  obtain ⟨r, ts, rfl, hr1, hr2, hts, htok, G1⟩ := q
  refine wp_cons ?_
  walk_at "wp"
  refine call_mono (glued_spec G1.ok hr2 (by omega) hts htok) fun w s2 q => ?_
  obtain ⟨g, rfl, hg1, hg2, hg3, G2⟩ := q
  refine wp_cons ?_
  refine wpE_mono hc eSecond [some _, some (.loc 1), some (.loc r), some (.str g), none, none, none, none, none, none] s2 _ _ (fun w s3 q => ?_) (second_spec G2.ok)
  obtain ⟨t, rfl, ht1, ht2, G3⟩ := q
  have hr3 : s3[r]? = some (.lst ((cut g).map .str)) := by
    have l1 := get_lt hr2
    rw [G3.same r (Nat.lt_of_lt_of_le l1 G2.len) (by omega), G2.same r l1 (by omega), hr2, hg1]
  have h2len : s1.length ≤ s2.length := G2.len
  have h3len : s2.length ≤ s3.length := G3.len
  refine wp_cut hc (fun en s => True) ?_ fun en s _ => ?_
  · refine wp_forJ hc ?_
    walk_at "wp"
    refine ⟨by omega, ?_⟩
    refine call_up (lcut_spec (by omega) _) (by decide) fun w s4 q => ?_
    obtain ⟨rfl, F4⟩ := q
    refine ⟨by omega, by omega, by omega, _, new_get, ?_⟩
    have A1 : ∀ Z : Sto, Asked (s4 ++ Z) (.tup [.str g, .loc r]) := fun Z => ⟨g, r, rfl, by
      have l3 := get_lt hr3
      have l4 := get_lt F4.get
      rw [List.getElem?_append_left (by omega), F4.low r (by omega)]
      exact hr3, by omega, hg3⟩
    have A2 : ∀ Z : Sto, Asked (s4 ++ Z) (.tup [.str t, .loc s3.length]) := fun Z => ⟨t, s3.length, rfl, by
      rw [List.getElem?_append_left (get_lt F4.get)]
      exact F4.get, by omega, ht2⟩
    generalize hW : [D.tup [.str g, .loc r], .tup [.str t, .loc s3.length], .tup [.str g, .loc r]] = W
    have AW : ∀ w ∈ W, ∀ Z, Asked (s4 ++ Z) w := by
      subst hW
      intro w hw Z
      simp only [List.mem_cons, List.not_mem_nil, or_false] at hw
      rcases hw with rfl | rfl | rfl
      · exact A1 Z
      · exact A2 Z
      · exact A1 Z
    have hkeep : ∀ Z : Sto, (s4 ++ [Cell.lst W] ++ Z)[s4.length]? = some (.lst W) := fun Z => by
      rw [List.append_assoc, List.getElem?_append_right (Nat.le_refl _)]
      simp
    refine ⟨fun pre en s => ∃ (v0 v1 v2 v3 v4 v5 v6 v7 v8 v9 : Option D) (Z : Sto), en = [v0, v1, v2, v3, v4, v5, v6, v7, v8, v9] ∧ s = s4 ++ [.lst W] ++ Z, ⟨_, _, _, _, _, _, _, _, _, _, [], rfl, by simp⟩, fun pre w post en s e hJ => ?_, fun en s hJ => ?_⟩
    · obtain ⟨v0, v1, v2, v3, v4, v5, v6, v7, v8, v9, Z, rfl, rfl⟩ := hJ
      refine ⟨hkeep Z, ?_⟩
      have hw : w ∈ W := by rw [e]; simp
      have hA := fun Z' => AW w hw ([Cell.lst W] ++ Z')
      obtain ⟨tx, k, rfl, -, hl, hasc⟩ := hA []
      have hk : ∀ Z' : Sto, (s4 ++ [Cell.lst W] ++ Z')[k]? = some (.lst ((cut tx).map .str)) := fun Z' => by
        obtain ⟨tx', k', e1, e2, _⟩ := hA Z'
        cases e1
        rw [List.append_assoc]
        exact e2
      generalize s4 ++ [Cell.lst W] = s5 at *
      walk_at "wp"
      refine ⟨_, _, rfl, _, _, rfl, rfl, ?_⟩
      refine wp_cons ?_
      walk_at "wp"
      refine call_up (tokens_spec hl _) (by decide) fun w s6 q => ?_
      obtain ⟨rfl, X6, rfl⟩ := q
      refine wp_cons ?_
      walk_at "wp"
      refine ⟨true, rfl, ?_⟩
      walk_at "wp"
      refine ⟨by decide, ?_⟩
      have hcl : (cut tx).length < 1000001 := by
        have : Cutting' tx := cutting tx
        exact Nat.lt_succ_of_le (Nat.le_trans this.len hl)
      refine compW_all (fun w st A B h p => let ⟨b, e, q⟩ := p; ⟨b, e, h _ _ q⟩) (fun pre acc s2 => acc = (pre.map fun _ => true).map .bl ∧ s2 = s5 ++ Z ++ [X6]) ⟨rfl, rfl⟩ (fun pre w post acc s2 e hI => ?_) (fun acc s2 hI => ?_)
      · obtain ⟨rfl, rfl⟩ := hI
        have hw : ∃ u, w = .str u := by
          have m : w ∈ (cut tx).map D.str := by rw [e]; simp
          obtain ⟨u, _, rfl⟩ := List.mem_map.mp m
          exact ⟨u, rfl⟩
        obtain ⟨u, rfl⟩ := hw
        have hl2 := congrArg List.length e
        rw [List.length_map, List.length_append, List.length_cons] at hl2
        exact ⟨trivial, true, rfl, by rw [List.length_map, List.length_map]; omega, by simp, rfl⟩
      · obtain ⟨rfl, rfl⟩ := hI
        refine ⟨trivial, ?_⟩
        walk_at "wp"
        refine ⟨_, new_get, ?_⟩
        have eall : ((List.map D.str (cut tx)).map fun _ => true).all id = true := by simp
        rw [eall]
        walk_at "wp"
        refine wp_nil ?_
        refine wp_cons ?_
        walk_at "wp"
        rw [List.append_assoc, List.append_assoc]
        refine ⟨_, hk _, ?_⟩
        refine eqW_tup_strs (fun u hu c hc => Nat.lt_trans (cut_asc hasc u hu c hc) (by decide)) (fun u hu c hc => Nat.lt_trans (cut_asc hasc u hu c hc) (by decide)) ?_
        have eb : (cut tx == cut tx) = true := beq_self_eq_true _
        rw [eb]
        walk_at "wp"
        refine wp_nil (call := callW fns cst 3) (cst := cst) ?_
        refine wp_nil (call := callW fns cst 3) (cst := cst) ?_
        exact ⟨_, _, _, _, _, _, _, _, _, _, Z ++ ([X6] ++ _), rfl, rfl⟩
    · obtain ⟨v0, v1, v2, v3, v4, v5, v6, v7, v8, v9, Z, rfl, rfl⟩ := hJ
      exact hkeep Z
  · refine wp_cons ?_
    walk_at "wp"
    exact fin _
end K07

set_option Elab.async false
set_option linter.all false
set_option maxRecDepth 100000
set_option maxHeartbeats 4000000
namespace K07
open PySem PySem.Spec PyProof.Rows Dq L2
def top (i : Nat) : Stmt := PySem.Challenge.pw_leaveledger_k07_tokens.main.body.getD i (.Pass ⟨0, 0, 0, 0⟩)
def d0 : Df := ⟨"tokens_of", top 2, ["text", "found", "at", "end"], ["text"]⟩
def d1 : Df := ⟨"token_end", top 3, ["text", "at", "end"], ["text", "at"]⟩
def d2 : Df := ⟨"_law_begin", top 5, ["_law_script", "_law_cell"], ["_law_script"]⟩
def d3 : Df := ⟨"_law_draw", top 6, ["_law_d", "_law_many", "_law_size", "_law_found", "_law_cell"], ["_law_d", "_law_many"]⟩
def d4 : Df := ⟨"_law_pick", top 7, ["_law_d", "_law_row"], ["_law_d", "_law_row"]⟩
def d5 : Df := ⟨"_law_cut", top 8, ["_law_text", "_law_runs", "_law_found", "_law_last", "_law_sign"], ["_law_text"]⟩
def d6 : Df := ⟨"_law_glued", top 9, ["_law_d", "_law_pieces", "_law_runs", "_law_found", "_law_last", "_law_piece", "_law_gap"], ["_law_d", "_law_pieces"]⟩
def d7 : Df := ⟨"_law_token", top 10, ["_law_d", "_law_way", "_law_runs", "_law_many", "_law_k"], ["_law_d"]⟩
def d8 : Df := ⟨"law", top 11, ["_law_script", "_law_d", "_law_pieces", "_law_first", "_law_second", "_law_text", "_law_due", "_law_told", "_law_k", "_law_token_here"], ["_law_script"]⟩
def src : Src := ⟨[d0, d1, d2, d3, d4, d5, d6, d7, d8], [("RUN_SIGNS", .str [97, 98, 99, 100, 101, 102, 103, 104, 105, 106, 107, 108, 109, 110, 111, 112, 113, 114, 115, 116, 117, 118, 119, 120, 121, 122, 65, 66, 67, 68, 69, 70, 71, 72, 73, 74, 75, 76, 77, 78, 79, 80, 81, 82, 83, 84, 85, 86, 87, 88, 89, 90, 48, 49, 50, 51, 52, 53, 54, 55, 56, 57])], ["abs", "all", "int", "isinstance", "len", "max", "range", "str", "tuple"]⟩
theorem ok0 : DfOk src.G d0 ⟨1, 4, b0⟩ := ⟨⟨rfl, rfl, rfl, by decide +kernel, rfl, by decide +kernel, by decide +kernel⟩, rfl, rfl, by kernel_rfl⟩
theorem bi0 : BindH d0 := fun _ _ _ _ _ _ us hl => match us, hl with | [_], _ => rfl
theorem ok1 : DfOk src.G d1 ⟨2, 3, b1⟩ := ⟨⟨rfl, rfl, rfl, by decide +kernel, rfl, by decide +kernel, by decide +kernel⟩, rfl, rfl, by kernel_rfl⟩
theorem bi1 : BindH d1 := fun _ _ _ _ _ _ us hl => match us, hl with | [_, _], _ => rfl
theorem ok2 : DfOk src.G d2 ⟨1, 2, b2⟩ := ⟨⟨rfl, rfl, rfl, by decide +kernel, rfl, by decide +kernel, by decide +kernel⟩, rfl, rfl, by kernel_rfl⟩
theorem bi2 : BindH d2 := fun _ _ _ _ _ _ us hl => match us, hl with | [_], _ => rfl
theorem ok3 : DfOk src.G d3 ⟨2, 5, b3⟩ := ⟨⟨rfl, rfl, rfl, by decide +kernel, rfl, by decide +kernel, by decide +kernel⟩, rfl, rfl, by kernel_rfl⟩
theorem bi3 : BindH d3 := fun _ _ _ _ _ _ us hl => match us, hl with | [_, _], _ => rfl
theorem ok4 : DfOk src.G d4 ⟨2, 2, b4⟩ := ⟨⟨rfl, rfl, rfl, by decide +kernel, rfl, by decide +kernel, by decide +kernel⟩, rfl, rfl, by kernel_rfl⟩
theorem bi4 : BindH d4 := fun _ _ _ _ _ _ us hl => match us, hl with | [_, _], _ => rfl
theorem ok5 : DfOk src.G d5 ⟨1, 5, b5⟩ := ⟨⟨rfl, rfl, rfl, by decide +kernel, rfl, by decide +kernel, by decide +kernel⟩, rfl, rfl, by kernel_rfl⟩
theorem bi5 : BindH d5 := fun _ _ _ _ _ _ us hl => match us, hl with | [_], _ => rfl
theorem ok6 : DfOk src.G d6 ⟨2, 7, b6⟩ := ⟨⟨rfl, rfl, rfl, by decide +kernel, rfl, by decide +kernel, by decide +kernel⟩, rfl, rfl, by kernel_rfl⟩
theorem bi6 : BindH d6 := fun _ _ _ _ _ _ us hl => match us, hl with | [_, _], _ => rfl
theorem ok7 : DfOk src.G d7 ⟨1, 5, b7⟩ := ⟨⟨rfl, rfl, rfl, by decide +kernel, rfl, by decide +kernel, by decide +kernel⟩, rfl, rfl, by kernel_rfl⟩
theorem bi7 : BindH d7 := fun _ _ _ _ _ _ us hl => match us, hl with | [_], _ => rfl
theorem ok8 : DfOk src.G d8 ⟨1, 10, b8⟩ := ⟨⟨rfl, rfl, rfl, by decide +kernel, rfl, by decide +kernel, by decide +kernel⟩, rfl, rfl, by kernel_rfl⟩
theorem bi8 : BindH d8 := fun _ _ _ _ _ _ us hl => match us, hl with | [_], _ => rfl
theorem all_ok : AllD src.G src.defs fns := .cons ok0 bi0 (.cons ok1 bi1 (.cons ok2 bi2 (.cons ok3 bi3 (.cons ok4 bi4 (.cons ok5 bi5 (.cons ok6 bi6 (.cons ok7 bi7 (.cons ok8 bi8 (.nil)))))))))
theorem src_ok : SrcOk src fns := ⟨fun k d h => all_ok.get h, by decide⟩
abbrev R : PySem.W.OpenRow := PySem.W.OpenLaw.row PySem.Challenge.rw_leaveledger_k07_tokens
abbrev hk : PySem.W.Hook := He.hookD 4 src.fa src.fn
def ob (s : PySem.W.SharedT) : He.AlD := He.obsDG 4 src.fa src.fn (HandSHeadRun.getT s)
theorem ob_eq (s : PySem.W.SharedT) : ob s = hk.obs s.abs := He.obsDG_eq (HandSHeadRun.getT_eq s)
def names : List Str := ["RUN_SIGNS", "tokens_of", "token_end", "_law_begin", "_law_draw", "_law_pick", "_law_cut", "_law_glued", "_law_token"]
theorem runEq (w : World) : HandSHeadRun.RunEq R (PySem.W.view R.prog [11]) hk ob 600 names w := by
  intro os
  kernel_rfl
end K07
open PySem PySem.W PySem.Calls PyProof.Rows
set_option maxHeartbeats 0 in
theorem PySem.Challenge.cw_leaveledger_k07_tokens_holds : PySem.Challenge.rw_leaveledger_k07_tokens.Holds := by
  w_on; o_law
  refine HandSHeadRun.head_any (r := OpenLaw.row PySem.Challenge.rw_leaveledger_k07_tokens) (q := view (OpenLaw.row PySem.Challenge.rw_leaveledger_k07_tokens).prog [11]) (H := K07.hk) (ob := K07.ob) (M := 600) (loose := K07.names) (d := HandSHeadRun.topDef (OpenLaw.row PySem.Challenge.rw_leaveledger_k07_tokens).prog 11) (kwd := []) K07.ob_eq
    (by kernel_rfl) (fun s => by kernel_rfl) K07.runEq (by kernel_rfl) (by kernel_rfl) (by kernel_rfl) (by rfl) (by first | assumption | decide +kernel) (by decide +kernel) ⟨rfl, rfl, rfl, rfl, rfl, by decide +kernel⟩ ?hw ?hc
  case hw => w_witness2
  case hc =>
    refine L2.walk_ofE (l := PySem.Challenge.rw_leaveledger_k07_tokens) (n := 63) (k := 4) (x := "_law_script") (CX := L2.CX0) rfl (by decide) (by kernel_rfl) ⟨rfl, by decide, by decide⟩ ?F (fun _ _ _ _ z => z)
    intro w mg fa h Y G hmg0
    obtain ⟨K, KX, c⟩ := Y
    have hmg : mg K07.d8.name = some (.ref fa) := by
      have e : (HandSHeadRun.topDef (OpenLaw.row PySem.Challenge.rw_leaveledger_k07_tokens).prog 11).name = K07.d8.name := by kernel_rfl
      rw [← e]
      exact hmg0
    obtain ⟨fd, hb, hF⟩ := Dq.law_facts (P := (PySem.Challenge.rw_leaveledger_k07_tokens).prog) (w := w) K07.src_ok K07.law_spec (show K07.src.defs[8]? = some K07.d8 from rfl) rfl KX G hmg c
    exact ⟨K, fd, Dq.spLaw K, KX, hb, fun H a ns hl ho hS => ⟨a, ns, rfl, Dq.frz_of ho hS, hl, fun _ => rfl⟩, hF⟩

