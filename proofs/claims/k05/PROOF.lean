import PyProof.Rows.All
import Wide.All
import OpenK.AllK
import Wide.FinOn
import HandS.ForMost
import HandS.OwnEq
import HandS.IsInst
import HandS.Codes
import HandS.Wide
import HandS.Replace
import HandS.NoneIn
import HandS.Flow
import HandS.Style
import KE.GoesZip
import KE.GoesMore
import KE.GoesEnum
import HandS.Walk
import KE.KDictZip
import HandS.DictComp
import HandS.Strs
import HandS.CallLocal
import HandS.NestedK
import HandS.StrMore
import HandS.FStr
import KE.KExcInit
import HandS.ExcInit
import HandS.ExcIs
import HandS.ExcField
import HandS.MakeKw
import PyProof.ExcBaseAll.LookupError
import HandS.RaiseMore
import HandS.TryMany
import HandS.CallSlots
import HandS.ClsMeth
import HandS.Set
import HandS.SetFor
import HandS.More
import PyProof.EqKinds
import HandS.Deep
import HandS.DeepEq
import HandS.Property
import HandS.Star
import KE.KCallOwn
import HandS.Call
import HandS.Text
import HandS.TupLe
import KE.DataMinKey
import HandS.SortKw
import HandS.RevRange
import OpenK.KOps
import PyProof.NeKinds
import KE.KExcLine
import PySem.Challenge.RW_allrows_k05_origins_of_rows
set_option Elab.async false
set_option linter.all false
set_option maxRecDepth 100000
namespace LX
open PySem PySem.Spec PyProof.Rows L2 C8 SX
section
variable {X : Cx}
theorem call_list_str (hc : X.calm = true) : CallR X (.type "list") (fun (xs : List V) (H : Hp) (Q : VK) => ∃ l : List Nat, xs = [V.str (S l)] ∧ l.length ≤ sizeLine ∧ ∀ p, H p = none → Q (.ref p) (upd H p (.lst (l.map fun c => V.str (S [c]))))) := by
  intro pins s σ H xs us Q I r h
  obtain ⟨l, rfl, hl, q⟩ := h
  obtain ⟨u, rfl, ru⟩ := vals1 r
  obtain ⟨t, rfl⟩ := ru
  refine PySem.call_list_str (I.ok.hd hc) (S l) t (fun h' tk acc' c' hk hS hacc => ?_) (by simpa [S] using hl)
  have hv : Vals (l.map fun c => V.str (S [c])) acc'.toList := by
    obtain ⟨hsz, hit⟩ := hacc
    have hsz' : acc'.toList.length = l.length := by simpa using hsz
    have gen : ∀ (m : List Nat) (as : List Value), as.length = m.length → (∀ (j : Nat) (v : Value), as[j]? = some v → ∃ (c : Nat) (u : Tok), m[j]? = some c ∧ v = Value.str ⟨#[c]⟩ u) → Vals (m.map fun c => V.str (S [c])) as := by
      intro m
      induction m with
      | nil => intro as ha _; cases as with
        | nil => exact .nil
        | cons a as => cases ha
      | cons c m ih => intro as ha hh; cases as with
        | nil => cases ha
        | cons a as =>
          obtain ⟨c', u, e1, e2⟩ := hh 0 a rfl
          have : c = c' := Option.some.inj e1
          subst this
          exact .cons ⟨u, e2⟩ (ih as (Nat.succ.inj ha) fun j v e => hh (j + 1) v e)
    refine gen l acc'.toList hsz' fun j v e => ?_
    obtain ⟨c, u, e1, e2⟩ := hit j v (by simpa using e)
    exact ⟨c, u, by simpa [S] using e1, e2⟩
  refine ⟨.ref _, _, I.laid (t' := tk) (o := .lst (l.map fun c => V.str (S [c]))) hk (Nat.le_refl _) ⟨by simpa using hl, acc'.toList, c', hv, by simpa using hS⟩, rfl, q _ (I.hok.fresh (Nat.le_refl _))⟩
theorem op_mul_si : OpR X (binaryOp .Mult) (fun x y H Q => ∃ (z : Str) (k : Int), x = .str z ∧ y = .int k ∧ (k = 0 ∨ k = 1) ∧ Q (.str (if k = 0 then S [] else z)) H) := by
  intro pins s σ H x y v u Q I rx ry h
  obtain ⟨z, k, rfl, rfl, hk, q⟩ := h
  obtain ⟨t, rfl⟩ := rx
  obtain ⟨t', rfl⟩ := ry
  rcases hk with rfl | rfl
  · exact PySem.P.mul_str_none (by decide) (by decide) ⟨.str (S []), H, I.tok _, ⟨_, rfl⟩, q⟩
  · refine PySem.P.mul_str (by decide) (fun _ h => by simp at h) (fun _ h => by simp at h) ?_
    rw [if_neg (by decide), if_pos (by simp)]
    exact ⟨.str z, H, I, ⟨t, rfl⟩, q⟩
def tRevS (te ts : TE) : TE := fun σ H Q => te σ H fun x H1 => ts σ H1 fun y H2 => ∃ i, y = .int i ∧ (some i = some (-1) ∧ ∃ l : List Nat, x = .str (S l) ∧ l.length ≤ sizeLine ∧ Q (.str (S l.reverse)) H2)
theorem rev_indices (z : Str) : (Builtin.Str.strSliceIndices none none (-1) z.length).filterMap (z.cps[·]?) = z.cps.toList.reverse := by
  have e : Builtin.Str.strSliceIndices none none (-1) z.length = (List.range z.length).reverse := by
    show sliceRange ((z.length : Int) - 1) (-1) (-1) = _
    rw [PySem.W.krv_sliceRange]
    exact PySem.W.krv_range _
  rw [e, List.filterMap_reverse]
  exact congrArg List.reverse (PySem.W.krv_all z.cps)
theorem pe_revS {e st : Expr} {te ts : TE} {p3 pos : Pos} (he : PE X e te) (hs : PE X st ts) : PE X (.Subscript e (.Slice none none (some st) p3) pos) (tRevS te ts) := by
  refine ⟨fun pins s σ H Q I h => ?_⟩
  refine Subscript_ (thn (he.run pins s σ H _ I h) fun v s1 ⟨x, H1, I1, r1, q1⟩ => ?_)
  have hst : PO X (some st) (tPart ts) := po_some hs
  refine wpAny_Slice (thn (po_none.run pins s1 σ H1 (fun o H2 => o = none ∧ H2 = H1) I1 ⟨rfl, rfl⟩) fun vl s2 ⟨l, H2, I2, pl, el, e2⟩ => ?_)
  subst el e2
  refine thn (po_none.run pins s2 σ H2 (fun o H3 => o = none ∧ H3 = H2) I2 ⟨rfl, rfl⟩) fun vu s3 ⟨u, H3, I3, pu, eu, e3⟩ => ?_
  subst eu e3
  refine thn (hst.run pins s3 σ H3 (fun o H4 => o = some (-1) ∧ ∃ l : List Nat, x = .str (S l) ∧ l.length ≤ sizeLine ∧ Q (.str (S l.reverse)) H4) I3 q1) fun vs s4 ⟨o, H4, I4, ps, eo, l, ex, hl, q⟩ => ?_
  subst eo ex
  obtain ⟨t, rfl⟩ := r1
  have I5 : Inv X pins σ H4 { s4 with heap := s4.heap.push { cls := .type "slice", data := .fields #[vl, vu, vs] } } := I4.kept (t' := s4.toks) fun b ob q => Heap.get?_push_of_some _ q
  show wpAny (model X.prog X.w) X.A (subscriptTail e (.Slice none none (some st) p3) (.str (S l) t) (.ref s4.heap.objs.size)) (EP X pins σ Q) X.xe { s4 with heap := s4.heap.push { cls := .type "slice", data := .fields #[vl, vu, vs] } }
  obtain ⟨l', el, el2⟩ := IsPart.raw pl
  obtain ⟨u', eu, eu2⟩ := IsPart.raw pu
  obtain ⟨s', es, es2⟩ := IsPart.raw ps
  refine tail_any (ops := [.ref s4.heap.objs.size, .str (S l) t]) (typeIs_str _ _ _) F.slot_str_getitem.lookup ?_ (by with_unfolding_all rfl)
  refine wpAny_getItem_str_slice (l := l') (u := u') (st := s') ?_ (by rw [es2]; rfl) ?_
  · rw [el, eu, es]
    exact Heap.IsSliceOf.new ..
  · unfold sliceMade slicePicked
    rw [el2, eu2, es2]
    show Made.post (if ((-1 : Int) == 1 && (Builtin.Str.strSliceIndices none none (-1) (S l).length).length == (S l).length) = true then Made.val (.str (S l) t)
      else Made.str ⟨((Builtin.Str.strSliceIndices none none (-1) (S l).length).filterMap ((S l).cps[·]?)).toArray⟩) (EP X pins σ Q) _
    rw [if_neg (by simp), rev_indices]
    exact ⟨by simpa [Str.length] using hl, .str _, H4, I5.tok _, ⟨_, rfl⟩, q⟩
end
end LX
namespace LX
open PySem PySem.Spec PyProof.Rows L2 C8 SX
inductive Sr where
  | txt (x : Str) | lst (a : Addr) | tup (a : Addr)
def Sr.fp : Sr → List Addr
  | .txt _ => [] | .lst a => [a] | .tup a => [a]
def Sr.has (K : PySem.W.Frag) : Sr → Nat → Hp → Prop
  | .txt x, i, _ => i < x.cps.size
  | .lst a, i, H => ∃ xs, SqL K H a xs ∧ i < xs.length
  | .tup a, i, H => ∃ xs, SqT K H a xs ∧ i < xs.length
def Sr.val (K : PySem.W.Frag) : Sr → Nat → Hp → V → Prop
  | .txt x, i, _, v => ∃ c, x.cps[i]? = some c ∧ v = .str ⟨#[c]⟩
  | .lst a, i, H, v => ∀ xs, SqL K H a xs → xs[i]? = some v
  | .tup a, i, H, v => ∀ xs, SqT K H a xs → xs[i]? = some v
def Sr.upto (K : PySem.W.Frag) : Sr → Nat → Hp → Prop
  | .txt x, i, _ => i ≤ x.cps.size
  | .lst a, i, H => ∃ xs, SqL K H a xs ∧ i ≤ xs.length
  | .tup a, i, H => ∃ xs, SqT K H a xs ∧ i ≤ xs.length
def Sr.ends (K : PySem.W.Frag) : Sr → Nat → Hp → Prop
  | .txt x, i, _ => i = x.cps.size
  | .lst a, i, H => ∃ xs, SqL K H a xs ∧ i = xs.length
  | .tup a, i, H => ∃ xs, SqT K H a xs ∧ i = xs.length
def Sr.tn : Sr → Addr → Nat → Heap → Prop
  | .txt x, it, i, h => ∃ t, h.IsStrIter it (strIterType x) x t i
  | .lst a, it, i, h => h.IsListIter it a i
  | .tup a, it, i, h => h.IsTupleIter it a i
theorem Sr.tn_obj : ∀ {S : Sr} {it : Addr} {i : Nat} {h : Heap}, S.tn it i h → ∃ o, h.get? it = some o ∧ ∀ v, o.data ≠ .cell v
  | .txt _, _, _, _, ⟨_, o, e, _, d⟩ => ⟨o, e, fun v q => by rw [d] at q; cases q⟩
  | .lst _, _, _, _, h => let ⟨o, e, _, d⟩ := h; ⟨o, e, fun v q => by rw [d] at q; cases q⟩
  | .tup _, _, _, _, ⟨o, e, _, d⟩ => ⟨o, e, fun v q => by rw [d] at q; cases q⟩
theorem Sr.tn_keep : ∀ {S : Sr} {it : Addr} {i : Nat} {h h' : Heap}, S.tn it i h → (∀ o, h.get? it = some o → h'.get? it = some o) → S.tn it i h'
  | .txt _, _, _, _, _, ⟨t, o, e, r⟩, k => ⟨t, o, k o e, r⟩
  | .lst _, _, _, _, _, h, k => h.at k
  | .tup _, _, _, _, _, h, k => h.at k
section
variable {X : Cx} {pins : List (Addr × Obj)} {σ : L2.St} {H : Hp} {s : Shared}
structure DrawsAt (X : Cx) (S : Sr) (H : Hp) (s : Shared) (it : Addr) (i : Nat) (n : Nat) : Prop where
  ex : ∃ (Pp : Nat → Value → Prop) (St : Nat → Heap → Prop), (∀ A : Around, A.handled = none → Draws X.prog X.w A it (it :: S.fp) n Pp St) ∧ St i s.heap ∧
    (∀ u, Pp i u → ∃ v, S.val X.K i H v ∧ RelV v u) ∧ ∀ j h', St j h' → S.tn it j h'
theorem Sr.draws (S : Sr) {it : Addr} {i : Nat} (I : Inv X pins σ H s) (hit : ∀ a ∈ S.fp, a ≠ it) (st : S.tn it i s.heap) (hu : S.upto X.K i H) : ∃ n, DrawsAt X S H s it i n ∧ i ≤ n ∧ (S.has X.K i H → i < n) ∧ (S.ends X.K i H → i = n) := by
  cases S with
  | txt x =>
    obtain ⟨t, st⟩ := st
    refine ⟨x.cps.size, ⟨_, _, fun A hh => Draws.text hh it x t, st, fun u ⟨c, u', e, eu⟩ => ?_, fun j h' q => ⟨t, q⟩⟩, hu, fun h => h, fun h => h⟩
    exact ⟨.str ⟨#[c]⟩, ⟨c, e, rfl⟩, ⟨u', eu⟩⟩
  | lst a =>
    obtain ⟨xs, hx, hu⟩ := hu
    obtain ⟨its, rv, p, _⟩ := I.list hx
    have hl := rv.length
    refine ⟨its.toArray.size, ⟨_, _, fun A hh => Draws.list hh it a (hit a (List.mem_singleton.mpr rfl)) its.toArray, ⟨st, p.isList⟩, fun u hq => ?_, fun j h' q => q.1⟩, by simp; omega, fun ⟨ys, hy, h⟩ => ?_, fun ⟨ys, hy, h⟩ => ?_⟩
    · have hq' : its[i]? = some u := by simpa using hq
      have hlt : i < xs.length := by rw [hl]; exact (List.getElem?_eq_some_iff.mp hq').1
      obtain ⟨u', e, r⟩ := rv.get (List.getElem?_eq_getElem hlt)
      rw [hq'] at e
      rw [Option.some.inj e]
      exact ⟨xs[i], fun zs hz => by rw [I.list_inj hz hx]; exact List.getElem?_eq_getElem hlt, r⟩
    · rw [I.list_inj hy hx] at h; simp; omega
    · rw [I.list_inj hy hx] at h; simp; omega
  | tup a =>
    obtain ⟨xs, hx, hu⟩ := hu
    obtain ⟨its, rv, p, _⟩ := I.tuple hx
    have hl := rv.length
    refine ⟨its.toArray.size, ⟨_, _, fun A hh => Draws.tuple hh it a (hit a (List.mem_singleton.mpr rfl)) its.toArray, ⟨st, p⟩, fun u hq => ?_, fun j h' q => q.1⟩, by simp; omega, fun ⟨ys, hy, h⟩ => ?_, fun ⟨ys, hy, h⟩ => ?_⟩
    · have hq' : its[i]? = some u := by simpa using hq
      have hlt : i < xs.length := by rw [hl]; exact (List.getElem?_eq_some_iff.mp hq').1
      obtain ⟨u', e, r⟩ := rv.get (List.getElem?_eq_getElem hlt)
      rw [hq'] at e
      rw [Option.some.inj e]
      exact ⟨xs[i], fun zs hz => by rw [I.tuple_inj hz hx]; exact List.getElem?_eq_getElem hlt, r⟩
    · rw [I.tuple_inj hy hx] at h; simp; omega
    · rw [I.tuple_inj hy hx] at h; simp; omega
end
def ItzX (K : PySem.W.Frag) (S1 S2 : Sr) : It :=
  ⟨fun i H => S1.has K i H ∧ S2.has K i H,
    fun i H v H' => ∃ T x y, v = .ref T ∧ H T = none ∧ H' = upd H T (.tup [x, y]) ∧ S1.val K i H x ∧ S2.val K i H y,
    fun i H => S1.upto K i H ∧ S2.upto K i H ∧ (S1.ends K i H ∨ S2.ends K i H)⟩
theorem Sr.has_upto {K : PySem.W.Frag} : ∀ {S : Sr} {i : Nat} {H : Hp}, S.has K i H → S.upto K i H
  | .txt _, _, _, h => Nat.le_of_lt h
  | .lst _, _, _, ⟨xs, hx, h⟩ => ⟨xs, hx, Nat.le_of_lt h⟩
  | .tup _, _, _, ⟨xs, hx, h⟩ => ⟨xs, hx, Nat.le_of_lt h⟩
theorem turn_zipX {P : Program} {w : World} {K : PySem.W.Frag} {elts : List Expr} {kk : Nat} {tpos : Pos} {z TI TO i1 i2 : Addr} (S1 S2 : Sr) (D : ZipSep2 z TI TO i1 i2 (i1 :: S1.fp) (i2 :: S2.fp)) (n1 : ∀ a ∈ S1.fp, a ≠ i1) (n2 : ∀ a ∈ S2.fp, a ≠ i2) :
    Turn P w K (.Tuple elts kk tpos) (ItzX K S1 S2) [z, TI, TO, i1, i2] z (fun i h => IsZip h z TI TO .none ∧ IsTupOf2 h TI (.ref i1) (.ref i2) ∧ (∃ x y, IsTupOf2 h TO x y) ∧ S1.tn i1 i h ∧ S2.tn i2 i h) where
  mem := by simp
  obj := fun i h st c hc => by
    obtain ⟨hz, hTI, ⟨x, y, hTO⟩, h1, h2⟩ := st
    have e' : c = z ∨ c = TI ∨ c = TO ∨ c = i1 ∨ c = i2 := by simpa using hc
    rcases e' with q | q | q | q | q
    · rw [q]; exact ⟨_, hz, fun v q => nomatch q⟩
    · rw [q]; exact ⟨_, hTI, fun v q => nomatch q⟩
    · rw [q]; exact ⟨_, hTO, fun v q => nomatch q⟩
    · rw [q]; exact Sr.tn_obj h1
    · rw [q]; exact Sr.tn_obj h2
  keep := fun i h h' st k => by
    obtain ⟨hz, hTI, ⟨x, y, hTO⟩, h1, h2⟩ := st
    exact ⟨k z (by simp) _ hz, k TI (by simp) _ hTI, ⟨x, y, k TO (by simp) _ hTO⟩, Sr.tn_keep h1 fun o q => k i1 (by simp) o q, Sr.tn_keep h2 fun o q => k i2 (by simp) o q⟩
  item := by
    intro X hP hw hK hc i pins s σ H E I hf st hg
    subst hP hw hK
    obtain ⟨hz, hTI, ⟨x0, y0, hTO⟩, h1, h2⟩ := st
    obtain ⟨g1, g2⟩ := hg
    obtain ⟨m1, ⟨P1, St1, D1, st1, v1, t1⟩, _, lt1, _⟩ := S1.draws I n1 h1 (Sr.has_upto g1)
    obtain ⟨m2, ⟨P2, St2, D2, st2, v2, t2⟩, _, lt2, _⟩ := S2.draws I n2 h2 (Sr.has_upto g2)
    have hzl : z < s.heap.objs.size := Heap.lt_size hz
    refine wpAny_pyNext_zipD2_item D (D1 _ (I.ok.hd hc)) (D2 _ (I.ok.hd hc)) hz hTI hTO st1 st2 (lt1 g1) (lt2 g2) fun u1 u2 h' tk p1 p2 z' TO' st1' st2' hT hsz hk => ?_
    obtain ⟨x, hx, rx⟩ := v1 u1 p1
    obtain ⟨y, hy, ry⟩ := v2 u2 p2
    refine ⟨_, rfl, wpAny_letOwnedTupleGo_zip (s := { s with heap := h', toks := tk }) z' fun h'' z'' sb => ?_⟩
    have hT2 : h''.get? s.heap.objs.size = some { cls := .type "tuple", data := .seq #[u1, u2] } := (sb.2 _ (Nat.ne_of_gt hzl)).trans hT
    have new : ObjOk X.prog X.w (upd H s.heap.objs.size (.tup [x, y])) h'' s.heap.objs.size (.tup [x, y]) :=
      ⟨by show 2 ≤ sizeLine; decide, [u1, u2], .cons rx (.cons ry .nil), ⟨_, hT2, rfl, _, rfl⟩⟩
    have I1 : Inv X pins σ (upd H s.heap.objs.size (.tup [x, y])) { s with heap := h'', toks := tk } :=
      I.turnedNew (t' := tk) (ch := [z, TI, TO, i1, i2]) (fun c o hb q => (sb.2 c (fun q' => hb (by simp [q']))).trans (hk c o (fun q' => hb (by simp [q'])) (fun q' => hb (by simp [q'])) (fun q' => hb (by simp [q'])) (fun q' => hb (by simp [q'])) q)) hf (Nat.le_refl _) new
    refine ⟨.ref s.heap.objs.size, _, I1, rfl, ⟨_, x, y, rfl, I.hok.fresh (Nat.le_refl _), rfl, hx, hy⟩, ⟨z'', ?_, ⟨u1, u2, ?_⟩, ?_, ?_⟩, fun c hcm => ?_⟩
    · exact (sb.2 _ D.TIz).trans (hk _ _ D.TIz D.TITO D.TIi1 D.TIi2 hTI)
    · exact (sb.2 _ D.TOz).trans TO'
    · exact Sr.tn_keep (t1 _ _ st1') fun o q => (sb.2 _ D.zi1.symm).trans q
    · exact Sr.tn_keep (t2 _ _ st2') fun o q => (sb.2 _ D.zi2.symm).trans q
    · have hlt : c < s.heap.objs.size := by
        have e' : c = z ∨ c = TI ∨ c = TO ∨ c = i1 ∨ c = i2 := by simpa using hcm
        rcases e' with q | q | q | q | q
        · rw [q]; exact hzl
        · rw [q]; exact Heap.lt_size hTI
        · rw [q]; exact Heap.lt_size hTO
        · rw [q]; obtain ⟨_, e1, _⟩ := Sr.tn_obj h1; exact Heap.lt_size e1
        · rw [q]; obtain ⟨_, e2, _⟩ := Sr.tn_obj h2; exact Heap.lt_size e2
      rw [upd_ne (Nat.ne_of_lt hlt)]
      exact (hf c hcm).1
  done := by
    intro X hP hw hK hc i pins s σ H E I hf st hg
    subst hP hw hK
    obtain ⟨hz, hTI, ⟨x0, y0, hTO⟩, h1, h2⟩ := st
    obtain ⟨g1, g2, ge⟩ := hg
    obtain ⟨m1, ⟨P1, St1, D1, st1, v1, t1⟩, le1, _, eq1⟩ := S1.draws I n1 h1 g1
    obtain ⟨m2, ⟨P2, St2, D2, st2, v2, t2⟩, le2, _, eq2⟩ := S2.draws I n2 h2 g2
    exact wpAny_pyNext_zipD2_end D (D1 _ (I.ok.hd hc)) (D2 _ (I.ok.hd hc)) hz hTI hTO st1 st2 le1 le2 (ge.elim (fun q => .inl (eq1 q)) fun q => .inr (eq2 q)) fun h' tk hk => ⟨rfl, I.turnedL (t' := tk) (ch := [z, TI, TO, i1, i2]) (fun c o hb q =>
      hk c o (fun q' => hb (by simp [q'])) (fun q' => hb (by simp [q'])) (fun q' => hb (by simp [q'])) (fun q' => hb (by simp [q'])) q) hf⟩
  self := fun A i s Q E st h => wpAny_pyIter_zip st.1 h
def Sr.of : V → Sr → Prop
  | .str x, .txt y => x = y
  | .ref a, .lst b => a = b
  | .ref a, .tup b => a = b
  | _, _ => False
def Sr.there (K : PySem.W.Frag) (H : Hp) : Sr → Prop
  | .txt _ => True
  | .lst a => ∃ xs, SqL K H a xs
  | .tup a => ∃ xs, SqT K H a xs
theorem Sr.begins {X : Cx} {pins : List (Addr × Obj)} {σ : L2.St} {H : Hp} {s : Shared} (I : Inv X pins σ H s) {v : V} {u : Value} (r : RelV v u) : ∀ {S : Sr}, S.of v → S.there X.K H → ∃ (o : Obj) (HH : Heap → Prop), Begins u o HH ∧ HH s.heap ∧ (∀ a ∈ S.fp, a < s.heap.objs.size) ∧ ∀ (h : Heap) (it : Addr), h.get? it = some o → S.tn it 0 h
  | .txt y, e, _ => by
    cases v with
    | str x =>
      have e' : x = y := e
      subst e'
      obtain ⟨t, rfl⟩ := r
      exact ⟨_, _, begins_text x t, trivial, (fun _ h => nomatch h), fun h it q => ⟨t, _, q, rfl, rfl⟩⟩
    | _ => exact e.elim
  | .lst b, e, ⟨xs, hx⟩ => by
    cases v with
    | ref a =>
      have e' : a = b := e
      subst e'
      cases r
      obtain ⟨its, rv, p, _⟩ := I.list hx
      refine ⟨_, _, begins_list a its.toArray, p.isList, fun c h => ?_, fun h it q => ⟨_, q, rfl, rfl⟩⟩
      rw [List.mem_singleton.mp h]; exact p.lt
    | _ => exact e.elim
  | .tup b, e, ⟨xs, hx⟩ => by
    cases v with
    | ref a =>
      have e' : a = b := e
      subst e'
      cases r
      obtain ⟨its, rv, p, _⟩ := I.tuple hx
      refine ⟨_, _, begins_tuple a its.toArray, p, fun c h => ?_, fun h it q => ⟨_, q, rfl, rfl⟩⟩
      rw [List.mem_singleton.mp h]; exact p.lt
    | _ => exact e.elim
def iZipX (K : PySem.W.Frag) (ta : TA) : TI := fun σ H R => ta σ H fun vs H1 => ∃ (x y : V) (S1 S2 : Sr), vs = [x, y] ∧ S1.of x ∧ S2.of y ∧ S1.there K H1 ∧ S2.there K H1 ∧ R (ItzX K S1 S2) H1
theorem pi_zipX {X : Cx} {e e2 : Expr} {ta : TA} {p pos tpos : Pos} {elts : List Expr} {kk : Nat} (hg : Gl X "zip") (hm : X.mg "zip" = none) (ha : PA X [e, e2] ta)
    (hs : starEach [e, e2] X.env = (false, eval e X.env) :: starEach [e2] X.env := by rfl) (hpl : (backTo pos (starEach [e2] X.env)).any (·.1) = false := by rfl) :
    PI X (.Tuple elts kk tpos) (.Call (.Name "zip" p) [e, e2] [] pos) (iZipX X.K ta) := by
  refine ⟨fun pins s σ H R I h => ?_⟩
  refine Call_ (ld_blt I hg hm PyProof.Rows.boot_zip (PyProof.Rows.callWith_type1 (thn (ha.run pos pins s σ H _ I h) fun us s1 ⟨vs, H1, I1, r1, q1⟩ => ?_) hs hpl))
  obtain ⟨x, y, S1, S2, ex, e1, e2, th1, th2, q⟩ := q1
  subst ex
  obtain ⟨u, u', rfl, r, r'⟩ := vals2 r1
  obtain ⟨o1, HH1, B1, b1, f1, t1⟩ := Sr.begins I1 r e1 th1
  obtain ⟨o2, HH2, B2, b2, f2, t2⟩ := Sr.begins I1 r' e2 th2
  have fresh5 : ∀ c, c ∈ [s1.heap.objs.size + 4, s1.heap.objs.size + 2, s1.heap.objs.size + 3, s1.heap.objs.size, s1.heap.objs.size + 1] → FpOk X pins H1 c := fun c hcm => by
    have e' : c = s1.heap.objs.size + 4 ∨ c = s1.heap.objs.size + 2 ∨ c = s1.heap.objs.size + 3 ∨ c = s1.heap.objs.size ∨ c = s1.heap.objs.size + 1 := by simpa using hcm
    have hle : s1.heap.objs.size ≤ c := by
      rcases e' with z | z | z | z | z
      · rw [z]; exact Nat.le_add_right _ _
      · rw [z]; exact Nat.le_add_right _ _
      · rw [z]; exact Nat.le_add_right _ _
      · rw [z]; exact Nat.le_refl _
      · rw [z]; exact Nat.le_add_right _ _
    exact I1.fpOk hle (I1.hok.fresh hle)
  refine zip_begins2 B1 B2 b1 b2 fun h' hz hTI hTO h1 h2 hsz hk => wpAny_pyIter_zip hz ?_
  have I2 : Inv X pins σ H1 { s1 with heap := h' } := I1.kept (t' := s1.toks) hk
  exact ⟨s1.heap.objs.size + 4, [s1.heap.objs.size + 4, s1.heap.objs.size + 2, s1.heap.objs.size + 3, s1.heap.objs.size, s1.heap.objs.size + 1], _, _, H1, rfl, I2,
    turn_zipX S1 S2 (PySem.zip_sep2 f1 f2) (fun a ha => Nat.ne_of_lt (f1 a ha)) (fun a ha => Nat.ne_of_lt (Nat.lt_succ_of_lt (f2 a ha))), ⟨hz, hTI, ⟨_, _, hTO⟩, t1 _ _ h1, t2 _ _ h2⟩, fresh5, q⟩
end LX
namespace LX
open PySem PySem.Spec PyProof.Rows L2 C8 SX
section
variable {prog : Program} {w : World} {A : Around} {E : Value → Shared → Prop} {s : Shared} {K : PySem.W.Frag} {x y C L f : Addr} {h₀ : Heap} {m : Str → Option Value} {ox : Obj} {od : Option Obj}
theorem objNe_own (X : K.In s.heap) (I : PySem.W.InstAt s.heap x ox C od) (hs : PySem.W.findIn K (.ref C) "__eq__" = some (some (.ref f))) (hf : PySem.W.isFn K (.ref f) = true) (hu : A.units < cLine) {Q : Fin → Shared → Prop}
    (hcall : wpAny (model prog w) A (call (.ref f) [.ref x, .ref y]) (fun v s' => ∃ b, v = .bool b ∧ Q (.done (.ret (.bool (!b)))) s') E s) :
    wpAny (model prog w) A (Builtin.«object.__ne__» ⟨[.ref x, .ref y], []⟩) Q E s := by
  unfold Builtin.«object.__ne__»
  repeat (first
    | with_reducible refine wpAny_cRoomFor hu ?_
    | (refine wpAny_bind (m := callSpecialIfBound? (.ref x) (Str.ofString "__eq__") [.ref y])
        (PySem.W.ifBound_K X I hs hf (wpAny_mono hcall (fun r s' hr => by
          obtain ⟨b, rfl, hq⟩ := hr
          repeat (first | exact hq | exact wpAny_pure hq | exact wpAny_truthy_bool hq | (refine wpAny_bind (m := truthy (.bool _)) (wpAny_truthy_bool ?_)) | wp_step)) fun _ _ e => e)))
    | wp_step)
theorem ifBound_ne {M : Model} {args : List Value} {Q : Option Value → Shared → Prop} (X : K.In s.heap) (I : PySem.W.InstAt s.heap x ox C od) (hs : PySem.W.findIn K (.ref C) "__ne__" = some (some (.builtin "object.__ne__")))
    (h : wpAny M A (call (.builtin "object.__ne__") (.ref x :: args)) (fun v => Q (some v)) E s) : wpAny M A (callSpecialIfBound? (.ref x) "__ne__" args) Q E s := by
  simp only [callSpecialIfBound?, bindSpecialIfBound?]
  refine wpAny_holding (wpAny_bind (wpAny_bind (wpAny_bind (I.type.here ((PySem.W.looks_findIn X hs).here ?_)))))
  simp only [F.cmp_object.ne.bind]
  refine wpAny_bind (wpAny_askSetting (wpAny_ite ?_))
  have fin : wpAny M A (call (.builtin "object.__ne__") ([.ref x] ++ args) >>= fun v => pure (some v)) Q E s := wpAny_bind (wpAny_mono h (fun v s' h' => wpAny_pure h') fun _ _ h' => h')
  split
  · exact wpAny_bind (wpAny_pure (wpAny_pure fin))
  · exact wpAny_tryCatch (wpAny_bind (wpAny_pure (wpAny_pure fin)))
theorem check_ne {M : Model} {Q : Unit → Shared → Prop} (X : K.In s.heap) (I : PySem.W.InstAt s.heap x ox C od) (hm : PySem.W.mroIn K C (.type "object") = some true) (hq : Q () s) :
    wpAny M A (checkBuiltinCall "object.__ne__" ⟨[.ref x, .ref y], []⟩) Q E s := by
  have L0 := I.type (M := M)
  have L1 := PySem.W.looks_mroIn (M := M) X hm
  simp only [checkBuiltinCall, F.cmpKind_ne, F.cmpSplit_ne]
  have ha := F.cmpArgs_ne (.ref x) (.ref y)
  refine wpAny_bind ?_
  unfold isInstance
  repeat lk
  exact hq
theorem rcNe_own (hu : A.units + 1 < cLine) (FF : Fr h₀ L s.heap m) (X₀ : K.In h₀) (I : PySem.W.InstAt s.heap x ox C od) (hb : PySem.W.Looks (model prog w) s.heap (typeOf (.ref y)) (.ref C))
    (hs : PySem.W.findIn K (.ref C) "__eq__" = some (some (.ref f))) (hf : PySem.W.isFn K (.ref f) = true) (hn : PySem.W.findIn K (.ref C) "__ne__" = some (some (.builtin "object.__ne__"))) (hm : PySem.W.mroIn K C (.type "object") = some true)
    {Q : Value → Shared → Prop} (hcall : wpAny (model prog w) A.in1 (call (.ref f) [.ref x, .ref y]) (fun v s' => ∃ b, v = .bool b ∧ Q (.bool (!b)) s') E s) :
    wpAny (model prog w) A (richCompare .NotEq (.ref x) (.ref y)) Q E s := by
  have X := X₀.keeps FF.keep
  have one : wpAny (model prog w) A (tryCompare (.ref x) (cmpInfo .NotEq).2.1 (.ref y)) (fun r s' => ∃ v, r = some v ∧ Q v s') E s := by
    show wpAny (model prog w) A (tryCompare (.ref x) "__ne__" (.ref y)) (fun r s' => ∃ v, r = some v ∧ Q v s') E s
    unfold tryCompare
    refine wpAny_bind (ifBound_ne X I hn (wpAny_call (codeAny_call_builtin F.cmp_object.ne.plain F.cmpEntry_ne (check_ne X I hm (objNe_own (A := A.in1) X I hs hf (by show A.units + 1 < cLine; exact hu) (wpAny_mono hcall (fun v s' hv => ?_) fun _ _ e => e))))))
    obtain ⟨b, rfl, hq⟩ := hv
    first | exact ⟨b, rfl, wpAny_pure ⟨_, rfl, hq⟩⟩ | exact ⟨b, rfl, wpAny_pure (wpAny_pure ⟨_, rfl, hq⟩)⟩ | exact ⟨b, rfl, ⟨_, rfl, hq⟩⟩
  unfold richCompare
  simp only [oneThing_ref]
  refine wpAny_holding (wpAny_bind (wpAny_cRoomFor (by omega) ?_))
  refine wpAny_bind (I.type.here (wpAny_bind (hb.here ?_)))
  rw [show (Value.ref C != Value.ref C) = false from by simp]
  simp only [Bool.false_eq_true, if_false]
  refine wpAny_bind (wpAny_pure ?_)
  simp only [Bool.false_eq_true, if_false]
  refine wpAny_bind (wpAny_mono one (fun r s' z => ?_) fun _ _ e => e)
  obtain ⟨v, rfl, hq⟩ := z
  first | exact wpAny_pure hq | exact hq
end
section
variable {X : Cx} {k j : Nat} {C : Addr} {sp : Sp}
theorem met_run {mth : Str} {pins : List (Addr × Obj)} {σ : L2.St} {H : Hp} {s : Shared} {A : Around} {a b : Addr} {Q : Value → Shared → Prop} (c : Met X.prog X.w X.K X.mg X.base k C mth sp []) (hr : Room k A) (hfr : A.frames = X.A.frames) (I : Inv X pins σ H s)
    {R : VK} (hsp : sp [.ref a, .ref b] H R C8.E0) (hQ : ∀ v z H' s', Inv X pins σ H' s' → RelV z v → R z H' → Q v s') :
    ∃ f, PySem.W.findIn X.K (.ref C) mth = some (some (.ref f)) ∧ PySem.W.isFn X.K (.ref f) = true ∧ wpAny (model X.prog X.w) A (call (.ref f) [.ref a, .ref b]) Q X.xe s := by
  obtain ⟨f, fd, ps, ds, hc, hm, F, hb, hd⟩ := c.ex
  refine ⟨f, hm.at_, hm.fn, ?_⟩
  have e0 : Env0 X.prog X.w X.K X.mg X.base A X.stack s H := by
    have e := I.env0
    exact ⟨by rw [hfr]; exact e.frames, e.mod, e.bs, e.bsz, e.funs, e.frf, e.hok, e.bare⟩
  have hds : ds = [] := by cases hd; rfl
  subst hds
  have hl := F.len _ _ _ _ hsp
  have r2 : Vals [V.ref a, V.ref b] [Value.ref a, Value.ref b] := .cons rfl (.cons rfl .nil)
  refine wpAny_call (codeAny_mono (F.run A X.stack s H ⟨[.ref a, .ref b], []⟩ [.ref a, .ref b] [.ref a, .ref b] _ C8.E0 hr e0 (by
    have := hb s [.ref a, .ref b] I.kIn (by simpa using hl)
    simpa using this) r2 hsp) fun r s' hq => ?_)
  cases r with
  | error e => exact C8.pass0 (E := C8.E0) pins σ H s e s' I hq
  | ok fl =>
    cases fl with
    | ret w =>
      obtain ⟨z, H', I', rz, q⟩ := I.after hq
      exact hQ w z H' s' I' rz q
    | next => exact False.elim hq
    | brk => exact False.elim hq
    | cont => exact False.elim hq
structure NeC (K : PySem.W.Frag) (C : Addr) : Prop where
  ne : PySem.W.findIn K (.ref C) "__ne__" = some (some (.builtin "object.__ne__"))
  ob : PySem.W.mroIn K C (.type "object") = some true
  sf : PySem.W.selfFirst K C = true
def rEqI (C : Addr) (sp : Sp) : R2 := fun x y H Q => ∃ a b dx dy fs gs, x = .ref a ∧ y = .ref b ∧ H a = some (.ins C dx fs) ∧ H b = some (.ins C dy gs) ∧ sp [.ref a, .ref b] H (fun v H' => ∃ r, v = .bl r ∧ Q (.bl r) H') C8.E0
def rNeI (C : Addr) (sp : Sp) : R2 := fun x y H Q => ∃ a b dx dy fs gs, x = .ref a ∧ y = .ref b ∧ H a = some (.ins C dx fs) ∧ H b = some (.ins C dy gs) ∧ sp [.ref a, .ref b] H (fun v H' => ∃ r, v = .bl r ∧ Q (.bl (!r)) H') C8.E0
def rOpI (C : Addr) (sp : Sp) : R2 := fun x y H Q => ∃ a b dx dy fs gs, x = .ref a ∧ y = .ref b ∧ H a = some (.ins C dx fs) ∧ H b = some (.ins C dy gs) ∧ sp [.ref a, .ref b] H (fun v H' => ∃ p, v = .ref p ∧ Q (.ref p) H') C8.E0
theorem op_eqI (c : Met X.prog X.w X.K X.mg X.base k C "__eq__" sp []) (hr : Room j X.A) (hk : k ≤ j) : OpR X (compareOp .Eq) (rEqI C sp) := by
  intro pins s σ H x y v u Q I rx ry h
  obtain ⟨a, b, dx, dy, fs, gs, rfl, rfl, ha, hb, hsp⟩ := h
  cases rx
  cases ry
  obtain ⟨mA, J, _⟩ := ins_get I.hok ha
  obtain ⟨mB, J', _⟩ := ins_get I.hok hb
  obtain ⟨od, J, _⟩ := J.look
  obtain ⟨od', J', _⟩ := J'.look
  obtain ⟨m, hF⟩ := I.fr
  obtain ⟨f, hs, hf, hw⟩ := met_run (Q := PySem.W.CmpBack (EP X pins σ Q)) c (hr.mono hk) rfl I hsp (fun v z H' s' I' rz q => by
    obtain ⟨r, rfl, q⟩ := q
    cases rz
    exact ⟨.bl r, H', I', rfl, q⟩)
  exact PySem.W.cmp_K (op := .Eq) (tb := .ref C) hr.units0 hF I.ok.mod.kin J J'.type (by simp [PySem.W.notFirst]) hs hf hw
theorem op_neI (n : NeC X.K C) (c : Met X.prog X.w X.K X.mg X.base k C "__eq__" sp []) (hr : Room j X.A) (hk : k + 1 ≤ j) : OpR X (compareOp .NotEq) (rNeI C sp) := by
  intro pins s σ H x y v u Q I rx ry h
  obtain ⟨a, b, dx, dy, fs, gs, rfl, rfl, ha, hb, hsp⟩ := h
  cases rx
  cases ry
  obtain ⟨mA, J, _⟩ := ins_get I.hok ha
  obtain ⟨mB, J', _⟩ := ins_get I.hok hb
  obtain ⟨od, J, _⟩ := J.look
  obtain ⟨od', J', _⟩ := J'.look
  obtain ⟨m, hF⟩ := I.fr
  obtain ⟨f, hs, hf, hw⟩ := met_run (Q := fun v s' => ∃ b, v = .bool b ∧ EP X pins σ Q (.bool (!b)) s') c (hr.mono hk).in1 rfl I hsp (fun v z H' s' I' rz q => by
    obtain ⟨r, rfl, q⟩ := q
    cases rz
    exact ⟨r, rfl, .bl (!r), H', I', rfl, q⟩)
  exact rcNe_own (hu_of hr) hF I.ok.mod.kin J J'.type hs hf n.ne n.ob hw
theorem op_mulI (n : NeC X.K C) (c : Met X.prog X.w X.K X.mg X.base k C "__mul__" sp []) (hr : Room j X.A) (hk : k ≤ j) : OpR X (binaryOp .Mult) (rOpI C sp) := by
  intro pins s σ H x y v u Q I rx ry h
  obtain ⟨a, b, dx, dy, fs, gs, rfl, rfl, ha, hb, hsp⟩ := h
  cases rx
  cases ry
  obtain ⟨mA, J, _⟩ := ins_get I.hok ha
  obtain ⟨mB, J', _⟩ := ins_get I.hok hb
  obtain ⟨od, J, _⟩ := J.look
  obtain ⟨od', J', _⟩ := J'.look
  obtain ⟨m, hF⟩ := I.fr
  obtain ⟨f, hs, hf, hw⟩ := met_run (Q := PySem.W.CmpBack (EP X pins σ Q)) c (hr.mono hk) rfl I hsp (fun v z H' s' I' rz q => by
    obtain ⟨p, rfl, q⟩ := q
    cases rz
    exact ⟨.ref p, H', I', rfl, q⟩)
  exact PySem.W.binop_K (op := .Mult) hF I.ok.mod.kin J J'.type n.sf hs hf hw
theorem op_addI (n : NeC X.K C) (c : Met X.prog X.w X.K X.mg X.base k C "__add__" sp []) (hr : Room j X.A) (hk : k ≤ j) : OpR X (binaryOp .Add) (rOpI C sp) := by
  intro pins s σ H x y v u Q I rx ry h
  obtain ⟨a, b, dx, dy, fs, gs, rfl, rfl, ha, hb, hsp⟩ := h
  cases rx
  cases ry
  obtain ⟨mA, J, _⟩ := ins_get I.hok ha
  obtain ⟨mB, J', _⟩ := ins_get I.hok hb
  obtain ⟨od, J, _⟩ := J.look
  obtain ⟨od', J', _⟩ := J'.look
  obtain ⟨m, hF⟩ := I.fr
  obtain ⟨f, hs, hf, hw⟩ := met_run (Q := PySem.W.CmpBack (EP X pins σ Q)) c (hr.mono hk) rfl I hsp (fun v z H' s' I' rz q => by
    obtain ⟨p, rfl, q⟩ := q
    cases rz
    exact ⟨.ref p, H', I', rfl, q⟩)
  exact PySem.W.binop_K (op := .Add) hF I.ok.mod.kin J J'.type n.sf hs hf hw
end
end LX
namespace LX
open PySem PySem.Spec PyProof.Rows L2 C8 SX
section
variable {X : Cx} {K : PySem.W.Frag} {H : Hp}
def txs (xs : List (List Nat)) : List V := xs.map fun l => V.str (S l)
theorem txs_len (xs : List (List Nat)) : (txs xs).length = xs.length := List.length_map ..
theorem dp_strs : ∀ xs : List (List Nat), DpAll K H (txs xs) (xs.map fun l => PyData.str (S l))
  | [] => .nil
  | x :: xs => .cons (.str _) (dp_strs xs)
theorem eqv_strs : ∀ xs ys : List (List Nat), PyData.eqvAll (xs.map fun l => PyData.str (S l)) (ys.map fun l => PyData.str (S l)) = decide (xs = ys)
  | [], [] => rfl
  | [], _ :: _ => rfl
  | _ :: _, [] => rfl
  | x :: xs, y :: ys => by
    show (S x == S y && PyData.eqvAll (xs.map fun l => PyData.str (S l)) (ys.map fun l => PyData.str (S l))) = _
    rw [S_beq_eq, eqv_strs xs ys, ← Bool.decide_and]
    exact decide_eq_decide.mpr (by rw [List.cons.injEq])
def Small (xs : List (List Nat)) : Prop := ∀ l ∈ xs, ∀ c ∈ l, c < 1114112
theorem lay_strs : ∀ {xs : List (List Nat)}, Small xs → PyData.canLayAll0 (xs.map fun l => PyData.str (S l)) = true ∧ PyData.depthAll (xs.map fun l => PyData.str (S l)) ≤ 1
  | [], _ => ⟨rfl, Nat.zero_le _⟩
  | x :: xs, h => by
    obtain ⟨h1, h2⟩ := lay_strs (xs := xs) fun l hl => h l (List.mem_cons_of_mem _ hl)
    refine ⟨?_, ?_⟩
    · show (PyData.canLay0 (.str (S x)) && PyData.canLayAll0 (xs.map fun l => PyData.str (S l))) = true
      rw [h1, Bool.and_true]
      show (S x).cps.all (· < 0x110000) = true
      rw [← Array.all_toList, List.all_eq_true]
      exact fun c hc => decide_eq_true (h x List.mem_cons_self c hc)
    · show max (PyData.depth (.str (S x))) (PyData.depthAll (xs.map fun l => PyData.str (S l))) ≤ 1
      have e : PyData.depth (.str (S x)) ≤ 1 := Nat.zero_le _
      omega
theorem shaped_lst {xs : List (List Nat)} (h : Small xs) : SeqAt.shaped (.list (xs.map fun l => PyData.str (S l))) = true := by
  obtain ⟨h1, h2⟩ := lay_strs h
  show (PyData.canLayAll0 _ && decide (PyData.depthAll _ + 1 ≤ 64)) = true
  rw [h1, Bool.true_and, decide_eq_true_eq]; omega
theorem shaped_tup {xs : List (List Nat)} (h : Small xs) : SeqAt.shaped (.tuple (xs.map fun l => PyData.str (S l))) = true := by
  obtain ⟨h1, h2⟩ := lay_strs h
  show (PyData.canLayAll0 _ && decide (PyData.depthAll _ + 1 ≤ 64)) = true
  rw [h1, Bool.true_and, decide_eq_true_eq]; omega
def rSs (K : PySem.W.Frag) (f : Bool → Bool) : R2 := fun x y H Q => ∃ (a b : Addr) (xs ys : List (List Nat)), x = .ref a ∧ y = .ref b ∧ ((SqL K H a (txs xs) ∧ SqL K H b (txs ys)) ∨ (SqT K H a (txs xs) ∧ SqT K H b (txs ys))) ∧ Small xs ∧ Small ys ∧ Q (.bl (f (decide (xs = ys)))) H
theorem op_eqSs {k : Nat} (hr : Room k X.A) : OpR X (compareOp .Eq) (rSs X.K fun b => b) := by
  intro pins s σ H x y v u Q I rx ry h
  obtain ⟨a, b, xs, ys, rfl, rfl, hh, hx, hy, q⟩ := h
  rcases hh with ⟨h1, h2⟩ | ⟨h1, h2⟩
  · exact op_eqD hr.units pins s σ H _ _ v u Q I rx ry ⟨_, _, .lst h1 (dp_strs xs), .lst h2 (dp_strs ys), shaped_lst hx, shaped_lst hy, by rw [show PyData.eqv (.list (xs.map fun l => PyData.str (S l))) (.list (ys.map fun l => PyData.str (S l))) = _ from eqv_strs xs ys]; exact q⟩
  · exact op_eqD hr.units pins s σ H _ _ v u Q I rx ry ⟨_, _, .tup h1 (dp_strs xs), .tup h2 (dp_strs ys), shaped_tup hx, shaped_tup hy, by rw [show PyData.eqv (.tuple (xs.map fun l => PyData.str (S l))) (.tuple (ys.map fun l => PyData.str (S l))) = _ from eqv_strs xs ys]; exact q⟩
theorem op_neSs {k : Nat} (hr : Room k X.A) : OpR X (compareOp .NotEq) (rSs X.K fun b => !b) := by
  intro pins s σ H x y v u Q I rx ry h
  obtain ⟨a, b, xs, ys, rfl, rfl, hh, hx, hy, q⟩ := h
  rcases hh with ⟨h1, h2⟩ | ⟨h1, h2⟩
  · exact op_neD hr.units pins s σ H _ _ v u Q I rx ry ⟨_, _, .lst h1 (dp_strs xs), .lst h2 (dp_strs ys), shaped_lst hx, shaped_lst hy, by rw [show PyData.eqv (.list (xs.map fun l => PyData.str (S l))) (.list (ys.map fun l => PyData.str (S l))) = _ from eqv_strs xs ys]; exact q⟩
  · exact op_neD hr.units pins s σ H _ _ v u Q I rx ry ⟨_, _, .tup h1 (dp_strs xs), .tup h2 (dp_strs ys), shaped_tup hx, shaped_tup hy, by rw [show PyData.eqv (.tuple (xs.map fun l => PyData.str (S l))) (.tuple (ys.map fun l => PyData.str (S l))) = _ from eqv_strs xs ys]; exact q⟩
end
theorem occ_idx {l : List Nat} {c : Nat} (h : c ∈ l) : ∃ r, Builtin.Str.occurrences (S l) (S [c]) 0 (S l).length 1 = l.idxOf c :: r := by
  have hlt := List.idxOf_lt_length_of_mem h
  have hat : StrLaws.At (S l) (S [c]) (S l).length (l.idxOf c) := (StrLaws.subAt_one (S l) c _).mpr (by show l[l.idxOf c]? = some c; rw [List.getElem?_eq_getElem hlt, List.getElem_idxOf hlt])
  rcases StrLaws.occ_head (S l) (S [c]) 1 (Nat.le_refl _) with ⟨_, hn⟩ | ⟨i, r, e, ha, hn⟩
  · exact absurd hat (hn _)
  · refine ⟨r, ?_⟩
    have hi : l[i]? = some c := (StrLaws.subAt_one (S l) c i).mp ha
    have h1 : ¬ l.idxOf c < i := fun z => hn _ z hat
    have h2 : ¬ i < l.idxOf c := fun z => by
      obtain ⟨hl, e⟩ := List.getElem?_eq_some_iff.mp hi
      have q := List.not_of_lt_findIdx (p := (· == c)) (xs := l) z
      simp [e] at q
    have : i = l.idxOf c := by omega
    rw [e, this]
structure Keep (Rel : Hp → Hp → Prop) (H1 : Hp) : Prop where
  refl : Rel H1 H1
  trans : ∀ H H', Rel H1 H → Rel H H' → Rel H1 H'
  put : ∀ H D o, Rel H1 H → H1 D = none → Rel H1 (upd H D o)
  get : ∀ H H' D o, Rel H H' → H1 D = none → Rel H1 H → H D = some o → H' D = some o
theorem keep_same {H1 : Hp} : Keep Same H1 where
  refl := Same.refl _
  trans := fun _ _ a b => a.trans b
  put := fun H D o s hD b u e => by rw [upd_ne (ne_of_none e hD)]; exact s b u e
  get := fun H H' D o s _ _ e => s _ _ e
def Bk (Pb : HO → Prop) (b : Addr) (H H' : Hp) : Prop := (∀ a o, a ≠ b → H a = some o → H' a = some o) ∧ ∃ o, H' b = some o ∧ Pb o
theorem keep_bk {Pb : HO → Prop} {b : Addr} {H1 : Hp} (h : ∃ o, H1 b = some o ∧ Pb o) : Keep (Bk Pb b) H1 where
  refl := ⟨fun _ _ _ e => e, h⟩
  trans := fun _ _ p q => ⟨fun a o n e => q.1 a o n (p.1 a o n e), q.2⟩
  put := fun H D o s hD => by
    obtain ⟨o1, e1, _⟩ := h
    refine ⟨fun a u n e => by rw [upd_ne (ne_of_none e hD)]; exact s.1 a u n e, ?_⟩
    rw [upd_ne (ne_of_none e1 hD)]
    exact s.2
  get := fun H H' D o s hD _ e => by
    obtain ⟨o1, e1, _⟩ := h
    exact s.1 D o (ne_of_none e1 hD).symm e
theorem bk_same {Pb : HO → Prop} {b : Addr} {H H' : Hp} (s : Same H H') (h : ∃ o, H b = some o ∧ Pb o) : Bk Pb b H H' := ⟨fun a o _ e => s a o e, let ⟨o, e, p⟩ := h; ⟨o, s b o e, p⟩⟩
theorem sm_put {H H' : Hp} {p : Addr} {o : HO} (s : Same H H') (h : H p = none) : Same H (upd H' p o) := fun b u e => by rw [upd_ne (ne_of_none e h)]; exact s b u e
theorem sm_put' {H H' : Hp} {p : Addr} {o : HO} (s : Same H H') (h : H' p = none) : Same H (upd H' p o) := sm_put s (s.free h)
theorem sm_new {H : Hp} {p : Addr} {o : HO} (h : H p = none) : Same H (upd H p o) := sm_put (Same.refl H) h
theorem sm_seqT {K : PySem.W.Frag} {H H' : Hp} {a : Addr} {xs : List V} (e : Same H H') (h : SqT K H a xs) : SqT K H' a xs :=
  h.elim (fun h => .inl (h.elim (fun h => .inl (e _ _ h)) fun ⟨o, h⟩ => .inr ⟨o, e _ _ h⟩)) fun h => .inr h
theorem bk_seq {Pb : HO → Prop} {K : PySem.W.Frag} {b : Addr} {H H' : Hp} {a : Addr} {xs : List V} (e : Bk Pb b H H') (n : a ≠ b) (h : SqL K H a xs) : SqL K H' a xs := by
  rcases h with (h | ⟨o, h⟩) | h
  · exact .inl (.inl (e.1 _ _ n h))
  · exact .inl (.inr ⟨o, e.1 _ _ n h⟩)
  · exact .inr h
theorem lc_keep {Rel : Hp → Hp → Prop} {J : It} {n : Nat} {G : Hp → Prop} {Y : Nat → Hp → V → Hp → Prop} {H1 : Hp} (kp : Keep Rel H1) (w : Walk J n G Y) {g : TG} {te : TE} {vs : List Nat} {σ : L2.St} {D : Addr} {Qd : Hp → Prop} (hD : H1 D = none) (hn : n < sizeLine)
    (Good : Nat → V → Prop) (hG : ∀ H, Rel H1 H → G H)
    (hs : ∀ i x H H' (R : V → Hp → Prop), i < n → Rel H1 H → Y i H x H' → (∀ y H4, Rel H H4 → Good i y → R y H4) → g x (wipe σ vs) H' fun σ2 H2 => wipe σ2 vs = wipe σ vs ∧ te σ2 H2 R)
    (hd : ∀ ys H, ys.length = n → (∀ (j : Nat) y, ys[j]? = some y → Good j y) → Rel H1 H → H D = some (.lst ys) → Qd H) :
    ∃ W : Nat → Nat → Hp → Prop, (∃ m, W 0 m (upd H1 D (.lst []))) ∧ ∀ i m H, W i m H →
      (J.stop i H ∧ Qd H) ∨ (J.go i H ∧ ∃ Nx : Hp → Prop, (∀ H', Nx H' → ∃ m', m' < m ∧ W (i + 1) m' H') ∧ ∀ x H', J.yld i H x H' → g x (wipe σ vs) H' fun σ2 H2 => wipe σ2 vs = wipe σ vs ∧ tYes σ2 H2 fun b H3 =>
        if b = true then te σ2 H3 fun y H4 => ∃ acc, H4 D = some (.lst acc) ∧ acc.length < sizeLine ∧ Nx (upd H4 D (.lst (acc ++ [y]))) else Nx H3) := by
  refine lc_it w (fun i H => ∃ acc, acc.length = i ∧ H D = some (.lst acc) ∧ Rel H1 H ∧ ∀ (j : Nat) y, acc[j]? = some y → Good j y) ⟨[], rfl, upd_same, kp.put _ _ _ kp.refl hD, fun j y e => by simp at e⟩ (fun i H _ ⟨_, _, _, r, _⟩ => hG H r) (fun i x H H' hi ⟨acc, hl, hDa, r, hg⟩ hy => ?_) (fun H ⟨acc, hl, hDa, r, hg⟩ => hd acc H hl hg r hDa)
  refine hs i x H H' _ hi r hy fun y H4 r4 gy => ?_
  refine ⟨acc, kp.get _ _ _ _ r4 hD r hDa, by omega, acc ++ [y], by simp [hl], upd_same, kp.put _ _ _ (kp.trans _ _ r r4) hD, fun j z e => ?_⟩
  rcases Nat.lt_or_ge j acc.length with h | h
  · rw [List.getElem?_append_left h] at e
    exact hg j z e
  · rw [List.getElem?_append_right h] at e
    have hj : j - acc.length = 0 := by
      rcases Nat.lt_or_ge (j - acc.length) 1 with z | z
      · omega
      · rw [List.getElem?_eq_none (by simpa using z)] at e; cases e
    rw [hj] at e
    have : y = z := Option.some.inj e
    subst this
    have : j = i := by omega
    subst this
    exact gy
theorem list_of {α : Type} {ys : List α} {n : Nat} {f : Nat → α} (hl : ys.length = n) (h : ∀ (j : Nat) y, ys[j]? = some y → y = f j) : ys = (List.range n).map f := by
  apply List.ext_getElem
  · simp [hl]
  · intro i h1 h2
    rw [List.getElem_map, List.getElem_range]
    exact h i _ (List.getElem?_eq_getElem h1)
theorem list_map {α β : Type} {ys : List β} {xs : List α} {f : α → β} (hl : ys.length = xs.length) (h : ∀ (j : Nat) y x, ys[j]? = some y → xs[j]? = some x → y = f x) : ys = xs.map f := by
  apply List.ext_getElem
  · simp [hl]
  · intro i h1 h2
    rw [List.getElem_map]
    exact h i _ _ (List.getElem?_eq_getElem h1) (List.getElem?_eq_getElem (by omega))
end LX
namespace LX
open PySem PySem.Spec PyProof.Rows L2 C8 SX
section
variable {X : Cx}
theorem ixl (K : PySem.W.Frag) (h : X.K = K := by rfl) : IxR X (rIxL K) := by subst h; exact ix_list
theorem ixt (K : PySem.W.Frag) (h : X.K = K := by rfl) : IxR X (rIxT K) := by subst h; exact ix_tup
theorem lenK (K : PySem.W.Frag) (h : X.K = K := by rfl) : CallR X (.builtin "len") (fun xs H Q => ∃ p ys, xs = [.ref p] ∧ (SqL K H p ys ∨ SqT K H p ys) ∧ Q (.int ys.length) H) := by subst h; exact call_len_seq
theorem listK (K : PySem.W.Frag) (h : X.K = K := by rfl) : CallR X (.type "list") (fun xs H Q => ∃ p ys, xs = [.ref p] ∧ (SqL K H p ys ∨ SqT K H p ys) ∧ ∀ l, H l = none → Q (.ref l) (upd H l (.lst ys))) := by subst h; exact call_list_of
theorem tupleK (K : PySem.W.Frag) (h : X.K = K := by rfl) : CallR X (.type "tuple") (fun xs H Q => ∃ p ys, xs = [.ref p] ∧ ((SqL K H p ys ∧ ∀ l, H l = none → Q (.ref l) (upd H l (.tup ys))) ∨ (SqT K H p ys ∧ Q (.ref p) H))) := by subst h; exact call_tuple_of
theorem isiK (K : PySem.W.Frag) (h : X.K = K := by rfl) : CallR X (.builtin "isinstance") (rIsi K) := by subst h; exact call_isi
theorem isiTK (K : PySem.W.Frag) (h : X.K = K := by rfl) : CallR X (.builtin "isinstance") (rIsiT K) := by subst h; exact call_isiT
theorem fldK (K : PySem.W.Frag) {o : Expr} {f : Str} {pos : Pos} {ta : TE} (ha : PE X o ta) (hb : attributeBase o f X.env (eval o X.env) = eval o X.env) (h : X.K = K := by rfl) : PE X (.Attribute o f pos) (tFld K ta f) := by subst h; exact pe_fld ha hb
theorem tupK (K : PySem.W.Frag) {es : List Expr} {k : Nat} {pos : Pos} {t : TGs} (n : Nat) (h : PGs X es t) (hc : X.calm = true := by rfl)
    (hn : (assignEach es X.env).length = n := by rfl) (hst : (assignEach es X.env).findIdx? (·.1) = none := by rfl) (hK : X.K = K := by rfl) : PG X (.Tuple es k pos) (gTup K n t) := by subst hK; exact pg_tup hc h hn hst
theorem unlK (K : PySem.W.Frag) {es : List Expr} {k : Nat} {pos : Pos} {t : TGs} (n : Nat) (h : PGs X es t) (hc : X.calm = true := by rfl)
    (hn : (assignEach es X.env).length = n := by rfl) (hst : (assignEach es X.env).findIdx? (·.1) = none := by rfl) (hK : X.K = K := by rfl) : PG X (.Tuple es k pos) (gUnl K n t) := by subst hK; exact pg_unl hc h hn hst
end
def Sr.is (K : PySem.W.Frag) (H : Hp) (xs : List V) : Sr → Prop
  | .txt x => xs = x.cps.toList.map fun c => V.str ⟨#[c]⟩
  | .lst a => SqL K H a xs
  | .tup a => SqT K H a xs
theorem Sr.is_there {K : PySem.W.Frag} {H : Hp} {xs : List V} : ∀ {S : Sr}, S.is K H xs → S.there K H
  | .txt _, _ => trivial
  | .lst _, h => ⟨xs, h⟩
  | .tup _, h => ⟨xs, h⟩
theorem Sr.is_has {K : PySem.W.Frag} {H : Hp} {xs : List V} {i : Nat} (hi : i < xs.length) : ∀ {S : Sr}, S.is K H xs → S.has K i H
  | .txt x, h => by
    have h' : xs = x.cps.toList.map fun c => V.str ⟨#[c]⟩ := h
    rw [h', List.length_map] at hi
    show i < x.cps.size; simpa using hi
  | .lst _, h => ⟨xs, h, hi⟩
  | .tup _, h => ⟨xs, h, hi⟩
theorem Sr.is_upto {K : PySem.W.Frag} {H : Hp} {xs : List V} {i : Nat} (hi : i ≤ xs.length) : ∀ {S : Sr}, S.is K H xs → S.upto K i H
  | .txt x, h => by
    have h' : xs = x.cps.toList.map fun c => V.str ⟨#[c]⟩ := h
    rw [h', List.length_map] at hi
    show i ≤ x.cps.size; simpa using hi
  | .lst _, h => ⟨xs, h, hi⟩
  | .tup _, h => ⟨xs, h, hi⟩
theorem Sr.is_ends {K : PySem.W.Frag} {H : Hp} {xs : List V} {i : Nat} (hi : i = xs.length) : ∀ {S : Sr}, S.is K H xs → S.ends K i H
  | .txt x, h => by
    have h' : xs = x.cps.toList.map fun c => V.str ⟨#[c]⟩ := h
    rw [h', List.length_map] at hi
    show i = x.cps.size; simpa using hi
  | .lst _, h => ⟨xs, h, hi⟩
  | .tup _, h => ⟨xs, h, hi⟩
theorem Sr.is_val {K : PySem.W.Frag} {H : Hp} {xs : List V} {i : Nat} {v : V} : ∀ {S : Sr}, S.is K H xs → S.val K i H v → xs[i]? = some v
  | .txt x, h, ⟨c, e, ev⟩ => by
    have h' : xs = x.cps.toList.map fun c => V.str ⟨#[c]⟩ := h
    have e' : x.cps.toList[i]? = some c := by simpa using e
    rw [h', List.getElem?_map, e', ev]; rfl
  | .lst _, h, e => e xs h
  | .tup _, h, e => e xs h
theorem walk_zipX {K : PySem.W.Frag} {S1 S2 : Sr} {xs ys : List V} : Walk (ItzX K S1 S2) (min xs.length ys.length) (fun H => S1.is K H xs ∧ S2.is K H ys) (YPair (fun i => xs[i]?) (fun i => ys[i]?)) := by
  refine ⟨fun i _ hi q => ⟨Sr.is_has (by omega) q.1, Sr.is_has (by omega) q.2⟩, fun _ q => ⟨Sr.is_upto (by omega) q.1, Sr.is_upto (by omega) q.2, ?_⟩, fun i H v H' _ q y => ?_⟩
  · rcases Nat.le_total xs.length ys.length with h | h
    · exact .inl (Sr.is_ends (by omega) q.1)
    · exact .inr (Sr.is_ends (by omega) q.2)
  · obtain ⟨T, x, z, h1, h2, h3, h4, h5⟩ := y
    exact ⟨T, x, z, h1, h2, h3, Sr.is_val q.1 h4, Sr.is_val q.2 h5⟩
end LX
namespace LX
open PySem PySem.Spec PyProof.Rows L2 C8 SX
theorem lc_keepH {Rel : Hp → Hp → Prop} {J : It} {n : Nat} {G : Hp → Prop} {Y : Nat → Hp → V → Hp → Prop} {H1 : Hp} (kp : Keep Rel H1) (w : Walk J n G Y) {g : TG} {te : TE} {vs : List Nat} {σ : L2.St} {D : Addr} {Qd : Hp → Prop} (hD : H1 D = none) (hn : n < sizeLine)
    (Good : Nat → V → Hp → Prop) (hG : ∀ H, Rel H1 H → G H)
    (st : ∀ i y H H', Rel H1 H → Rel H H' → Good i y H → Good i y H') (pt : ∀ i y H acc o, Rel H1 H → H D = some (.lst acc) → Good i y H → Good i y (upd H D o))
    (hs : ∀ i x H H' acc (R : V → Hp → Prop), i < n → Rel H1 H → H D = some (.lst acc) → Y i H x H' → (∀ y H4, Rel H H4 → Good i y H4 → R y H4) → g x (wipe σ vs) H' fun σ2 H2 => wipe σ2 vs = wipe σ vs ∧ te σ2 H2 R)
    (hd : ∀ ys H, ys.length = n → (∀ (j : Nat) y, ys[j]? = some y → Good j y H) → Rel H1 H → H D = some (.lst ys) → Qd H) :
    ∃ W : Nat → Nat → Hp → Prop, (∃ m, W 0 m (upd H1 D (.lst []))) ∧ ∀ i m H, W i m H →
      (J.stop i H ∧ Qd H) ∨ (J.go i H ∧ ∃ Nx : Hp → Prop, (∀ H', Nx H' → ∃ m', m' < m ∧ W (i + 1) m' H') ∧ ∀ x H', J.yld i H x H' → g x (wipe σ vs) H' fun σ2 H2 => wipe σ2 vs = wipe σ vs ∧ tYes σ2 H2 fun b H3 =>
        if b = true then te σ2 H3 fun y H4 => ∃ acc, H4 D = some (.lst acc) ∧ acc.length < sizeLine ∧ Nx (upd H4 D (.lst (acc ++ [y]))) else Nx H3) := by
  refine lc_it w (fun i H => ∃ acc, acc.length = i ∧ H D = some (.lst acc) ∧ Rel H1 H ∧ ∀ (j : Nat) y, acc[j]? = some y → Good j y H) ⟨[], rfl, upd_same, kp.put _ _ _ kp.refl hD, fun j y e => by simp at e⟩ (fun i H _ ⟨_, _, _, r, _⟩ => hG H r) (fun i x H H' hi ⟨acc, hl, hDa, r, hg⟩ hy => ?_) (fun H ⟨acc, hl, hDa, r, hg⟩ => hd acc H hl hg r hDa)
  refine hs i x H H' acc _ hi r hDa hy fun y H4 r4 gy => ?_
  have hD4 := kp.get _ _ _ _ r4 hD r hDa
  have r5 := kp.trans _ _ r r4
  refine ⟨acc, hD4, by omega, acc ++ [y], by simp [hl], upd_same, kp.put _ _ _ r5 hD, fun j z e => ?_⟩
  rcases Nat.lt_or_ge j acc.length with h | h
  · rw [List.getElem?_append_left h] at e
    exact pt _ _ _ _ _ r5 hD4 (st _ _ _ _ r r4 (hg j z e))
  · rw [List.getElem?_append_right h] at e
    have hj : j - acc.length = 0 := by
      rcases Nat.lt_or_ge (j - acc.length) 1 with z | z
      · omega
      · rw [List.getElem?_eq_none (by simpa using z)] at e; cases e
    rw [hj] at e
    have : y = z := Option.some.inj e
    subst this
    have : j = i := by omega
    subst this
    exact pt _ _ _ _ _ r5 hD4 gy
end LX
namespace LX
open PySem PySem.Spec PyProof.Rows L2 C8 SX
def bx (x y z : Int) : HO := .lst [.int x, .int y, .int z]
def isBx (o : HO) : Prop := ∃ x y z : Int, o = bx x y z
def BoxAt (b : Addr) (H : Hp) : Prop := ∃ o, H b = some o ∧ isBx o
abbrev Bx (b : Addr) : Hp → Hp → Prop := Bk isBx b
theorem Bx.box {b : Addr} {H H' : Hp} (h : Bx b H H') : BoxAt b H' := h.2
theorem BoxAt.of {b : Addr} {H : Hp} {x y z : Int} (h : H b = some (bx x y z)) : BoxAt b H := ⟨_, h, _, _, _, rfl⟩
theorem Bx.mk {b : Addr} {H : Hp} (x y z : Int) : Bx b H (upd H b (bx x y z)) := ⟨fun a o n e => by rw [upd_ne n]; exact e, _, upd_same, _, _, _, rfl⟩
theorem Bx.trans {b : Addr} {H H1 H2 : Hp} (p : Bx b H H1) (q : Bx b H1 H2) : Bx b H H2 := ⟨fun a o n e => q.1 a o n (p.1 a o n e), q.2⟩
theorem box_ne {b p : Addr} {H : Hp} (h : BoxAt b H) (n : H p = none) : p ≠ b := by
  obtain ⟨o, e, _⟩ := h
  exact (ne_of_none e n).symm
theorem Bx.put {b p : Addr} {H H1 : Hp} {o : HO} (s : Bx b H H1) (h : BoxAt b H) (n : H p = none) : Bx b H (upd H1 p o) := (keep_bk h).put _ _ _ s n
theorem Bx.free {b p : Addr} {H H1 : Hp} (s : Bx b H H1) (n : H1 p = none) : H p = none := by
  cases q : H p with
  | none => rfl
  | some o =>
    by_cases e : p = b
    · subst e; obtain ⟨u, z, _⟩ := s.2; rw [n] at z; cases z
    · rw [s.1 p o e q] at n; cases n
theorem nil1 {σ : L2.St} {H : Hp} {R : List V → Hp → Prop} (h : R [] H) : tNil σ H R := h
theorem consc {v : V} {σ : L2.St} {H : Hp} {R : List V → Hp → Prop} (h : R [v] H) : tCons (tC v) tNil σ H R := h
theorem tc1 {v : V} {σ : L2.St} {H : Hp} {Q : VK} (h : Q v H) : tC v σ H Q := h
theorem ne_str {l r : Str} {H : Hp} {R : VK} (e : l = r) (h : R (.bl false) H) : rNe (.str l) (.str r) H R := ⟨rfl, by rw [decide_eq_true (by rw [e])]; exact h⟩
theorem bl_f {p : Bool → Prop} (h : p false) : ∃ k, V.bl false = V.bl k ∧ p k := ⟨false, rfl, h⟩
theorem if_f {p q : Prop} (h : q) : if false = true then p else q := h
theorem iteB {c : Bool} {A B : Prop} (hc : c = true) (h : A) : if c = true then A else B := by rw [if_pos hc]; exact h
theorem iteN {c : Bool} {A B : Prop} (hc : c = false) (h : B) : if c = true then A else B := by rw [hc]; exact iteF h
theorem perm_at {α : Type} : ∀ {xs : List α} {i : Nat} (h : i < xs.length), (xs[i] :: xs.eraseIdx i).Perm xs
  | x :: xs, 0, _ => List.Perm.refl _
  | x :: xs, i + 1, h => (List.Perm.swap x _ _).trans ((perm_at (xs := xs) (i := i) (Nat.lt_of_succ_lt_succ h)).cons x)
theorem eraseIdx_map' {α β : Type} (f : α → β) : ∀ (xs : List α) (i : Nat), (xs.map f).eraseIdx i = (xs.eraseIdx i).map f
  | [], i => by cases i <;> rfl
  | x :: xs, 0 => rfl
  | x :: xs, i + 1 => congrArg (f x :: ·) (eraseIdx_map' f xs i)
theorem perm_map_inv {α β : Type} {f : α → β} {g : β → α} (hg : ∀ a, g (f a) = a) {ys : List β} {xs : List α} (h : ys.Perm (xs.map f)) : ∃ zs : List α, ys = zs.map f ∧ zs.Perm xs := by
  refine ⟨ys.map g, ?_, ?_⟩
  · rw [List.map_map]
    have : ys.map (f ∘ g) = ys.map id := List.map_congr_left fun y hy => by
      obtain ⟨a, _, rfl⟩ := List.mem_map.mp (h.subset hy)
      show f (g (f a)) = f a
      rw [hg]
    rw [this, List.map_id]
  · have e := h.map g
    rw [List.map_map] at e
    have : xs.map (g ∘ f) = xs.map id := List.map_congr_left fun a _ => hg a
    rw [this, List.map_id] at e
    exact e
theorem sums_singles : ∀ l : List Nat, ((l.map fun c => S [c]).map (·.length)).sum = l.length
  | [] => rfl
  | c :: l => by simp only [List.map_cons, List.sum_cons, sums_singles l, List.length_cons]; rw [S_len]; simp; omega
theorem join_nil : ∀ ys : List (List Nat), TL.joinL [] ys = ys.flatten
  | [] => rfl
  | [y] => by simp [TL.joinL]
  | y :: z :: ys => by
    have ih := join_nil (z :: ys)
    simp [TL.joinL] at ih ⊢
    exact ih
theorem join_txs (ys : List (List Nat)) : Txt.join (S []) (ys.map S) = S ys.flatten := by rw [join_S, join_nil]
theorem flat_singles : ∀ l : List Nat, (l.map fun c => [c]).flatten = l
  | [] => rfl
  | c :: l => by rw [List.map_cons, List.flatten_cons, flat_singles l]; rfl
theorem join_singles (l : List Nat) : Txt.join (S []) (l.map fun c => S [c]) = S l := by
  have e1 : (l.map fun c => S [c]) = (l.map fun c => [c]).map S := by rw [List.map_map]; rfl
  rw [e1, join_txs, flat_singles]
theorem rising_singles : ∀ (ds : List Nat) (c : Nat), risingS (S [c]) (ds.map fun d => S [d]) = true → (∀ d ∈ ds, c ≤ d) ∧ ds.Pairwise (· ≤ ·)
  | [], _, _ => ⟨fun _ h => (nomatch h), .nil⟩
  | d :: ds, c, h => by
    have h' : (!ltCps [d] [c] && risingS (S [d]) (ds.map fun d => S [d])) = true := h
    rw [Bool.and_eq_true, Bool.not_eq_true'] at h'
    obtain ⟨h1, h2⟩ := h'
    obtain ⟨i1, i2⟩ := rising_singles ds d h2
    have hcd : c ≤ d := by
      rcases Nat.lt_or_ge d c with q | q
      · simp [ltCps, q] at h1
      · exact q
    refine ⟨fun e he => ?_, List.pairwise_cons.mpr ⟨i1, i2⟩⟩
    rcases List.mem_cons.mp he with rfl | he
    · exact hcd
    · exact Nat.le_trans hcd (i1 e he)
theorem sorted_singles {ds : List Nat} (h : sortedS (ds.map fun d => S [d]) = true) : ds.Pairwise (· ≤ ·) := by
  cases ds with
  | nil => exact .nil
  | cons d ds =>
    obtain ⟨i1, i2⟩ := rising_singles ds d h
    exact List.pairwise_cons.mpr ⟨i1, i2⟩
theorem strict_of {ds : List Nat} (h : ds.Pairwise (· ≤ ·)) (n : ds.Nodup) : ds.Pairwise (· < ·) :=
  (h.and n).imp fun ⟨a, b⟩ => Nat.lt_of_le_of_ne a b
open Classical in
theorem fun_of {α γ : Type} [DecidableEq α] [Inhabited γ] {sg : List α} (n : sg.Nodup) {P : Nat → α → γ → Prop} (h : ∀ j c, sg[j]? = some c → ∃ v, P j c v) : ∃ g : α → γ, ∀ j c, sg[j]? = some c → P j c (g c) := by
  refine ⟨fun c => if q : ∃ v, P (sg.idxOf c) c v then q.choose else default, fun j c e => ?_⟩
  have hj : j = sg.idxOf c := by
    obtain ⟨hl, e2⟩ := List.getElem?_eq_some_iff.mp e
    subst e2
    exact (n.idxOf_getElem j hl).symm
  have q : ∃ v, P (sg.idxOf c) c v := hj ▸ h j c e
  show P j c (dite _ _ _)
  rw [dif_pos q, hj]
  exact q.choose_spec
theorem paired_map {α β γ : Type} {R : α → β → Prop} {f : γ → α} {g : γ → β} : ∀ {l : List γ}, (∀ c ∈ l, R (f c) (g c)) → Paired R (l.map f) (l.map g)
  | [], _ => .nil
  | c :: l, h => .cons (h c List.mem_cons_self) (paired_map fun d hd => h d (List.mem_cons_of_mem _ hd))
abbrev tk (l : List Nat) : Key := Sum.inr (S l)
theorem tk_inj {l r : List Nat} (h : tk l = tk r) : l = r := by
  have e : S l = S r := Sum.inr.inj h
  have : (S l).cps.toList = (S r).cps.toList := by rw [e]
  simpa [S] using this
theorem valV_none {kvs : List (Key × V)} {k : Key} (h : ∀ p ∈ kvs, p.1 ≠ k) : valV kvs k = none := by
  unfold valV
  rw [List.find?_eq_none.mpr fun p hp => by simpa using h p hp]
  rfl
theorem valV_map' {α : Type} [DecidableEq α] {key : α → Key} (inj : ∀ a b, key a = key b → a = b) {f : α → V} : ∀ {l : List α} {c : α}, c ∈ l → valV (l.map fun a => (key a, f a)) (key c) = some (f c)
  | a :: l, c, h => by
    by_cases e : a = c
    · subst e; exact valV_pos rfl
    · rw [List.map_cons, valV_neg (fun q => e (inj _ _ q))]
      refine valV_map' inj ?_
      rcases List.mem_cons.mp h with q | q
      · exact absurd q.symm e
      · exact q
theorem merge_new : ∀ {more kvs : List (Key × V)}, (∀ p ∈ more, ∀ q ∈ kvs, q.1 ≠ p.1) → (more.map (·.1)).Nodup → mergeK kvs more = kvs ++ more
  | [], kvs, _, _ => by rw [List.append_nil]; rfl
  | p :: more, kvs, h, n => by
    have e : putK kvs p.1 p.2 = kvs ++ [p] := putK_new _ (valV_none fun q hq => h p List.mem_cons_self q hq)
    show mergeK (putK kvs p.1 p.2) more = _
    rw [List.map_cons, List.nodup_cons] at n
    rw [e, merge_new (fun r hr q hq => ?_) n.2, List.append_assoc]
    · rfl
    · rcases List.mem_append.mp hq with hq | hq
      · exact h r (List.mem_cons_of_mem _ hr) q hq
      · rw [List.mem_singleton] at hq
        subst hq
        exact fun e => n.1 (e ▸ List.mem_map_of_mem hr)
theorem merge_nil {more : List (Key × V)} (n : (more.map (·.1)).Nodup) : mergeK [] more = more := by
  rw [merge_new (fun _ _ q h => absurd h List.not_mem_nil) n]; rfl
theorem nodup_keys {α : Type} {key : α → Key} (inj : ∀ a b, key a = key b → a = b) {f : α → V} {l : List α} (n : l.Nodup) : ((l.map fun a => (key a, f a)).map (·.1)).Nodup := by
  rw [List.map_map]
  exact List.pairwise_map.mpr (n.imp fun h e => h (inj _ _ e))
theorem cut_to (ys : List (List Nat)) (k : Nat) : cutV (txs ys) none (some (k : Int)) = txs (ys.take k) := by
  unfold cutV
  rw [HT.sIx_none, HT.sIx_nat, List.drop_zero, Nat.sub_zero, txs_len]
  unfold txs
  rw [← List.map_take]
  rcases Nat.le_total k ys.length with h | h
  · rw [Nat.min_eq_left h]
  · rw [Nat.min_eq_right h, List.take_length, List.take_of_length_le h]
theorem tup_ne_box {H : Hp} {t b : Addr} {xs : List V} (hb : BoxAt b H) (ht : H t = some (.tup xs)) : t ≠ b := by
  obtain ⟨o, e, x, y, z, rfl⟩ := hb
  exact ne_of ht e (by intro h; cases h)
theorem dict_ne_box {H : Hp} {t b : Addr} {xs : List (Key × V)} (hb : BoxAt b H) (ht : H t = some (.dK xs)) : t ≠ b := by
  obtain ⟨o, e, x, y, z, rfl⟩ := hb
  exact ne_of ht e (by intro h; cases h)
theorem not_in_take {α : Type} [DecidableEq α] {ms : List α} {i : Nat} {m : α} (n : ms.Nodup) (h : ms[i]? = some m) : m ∉ ms.take i := fun hm => by
  obtain ⟨j, hj⟩ := List.getElem?_of_mem hm
  have hji : j < i := by
    have := (List.getElem?_eq_some_iff.mp hj).1
    rw [List.length_take] at this; omega
  rw [List.getElem?_take_of_lt hji] at hj
  have h1 := (List.getElem?_eq_some_iff.mp h)
  have h2 := (List.getElem?_eq_some_iff.mp hj)
  obtain ⟨a1, a2⟩ := h1
  obtain ⟨b1, b2⟩ := h2
  have e1 : ms.idxOf m = i := by subst a2; exact n.idxOf_getElem i a1
  have e2 : ms.idxOf m = j := by subst b2; exact n.idxOf_getElem j b1
  omega
theorem take_more {α : Type} {ms : List α} {i : Nat} {m : α} (h : ms[i]? = some m) : ms.take (i + 1) = ms.take i ++ [m] := by
  rw [List.take_succ, h]; rfl
theorem sz {n m : Nat} (h : n ≤ m) (hm : m ≤ 1000) : n ≤ sizeLine := Nat.le_trans (Nat.le_trans h hm) (show 1000 ≤ sizeLine by decide)
end LX
set_option maxHeartbeats 2000000
namespace LX
open PySem PySem.Spec PyProof.Rows L2 C8 SX
structure FnG (P : Program) (w : World) (K : PySem.W.Frag) (mg : Str → Option Value) (base : Heap) (k : Nat) (f : Addr) (fd : FuncData) (ps : List Str) (sp : Sp) : Prop where
  many : ∀ vs H Q E, sp vs H Q E → vs.length = ps.length
  goes : ∀ (A : Around) (ou : List Env) (t : Shared) (H : Hp) (gs : Args) (us : List Value) (vs : List V) (Q : VK) (E : XK), A.guards = some [] → Room k A → Env0 P w K mg base A ou t H → BindsTo t fd gs (ps.zip us) → Vals vs us →
    sp vs H Q E → codeAny (model P w) A (.call (.ref f) gs) (CR C8.CX0 ou P w H t Q E) t
theorem FnG.of {P : Program} {w : World} {K : PySem.W.Frag} {mg : Str → Option Value} {base : Heap} {k : Nat} {f : Addr} {fd : FuncData} {ps : List Str} {sp : Sp} (F : FnOk P w K mg base C8.CX0 k f fd ps sp) : FnG P w K mg base k f fd ps sp :=
  ⟨F.len, fun A ou t H gs us vs Q E _ => F.run A ou t H gs us vs Q E⟩
theorem fnG0 {P : Program} {w : World} {K : PySem.W.Frag} {mg : Str → Option Value} {base : Heap} {x ql : Str} {st : Stmt} {f : Addr} {fd : FuncData} {N ps : List Str} {k : Nat} {sp : Sp} (F : C8.Fun K x ql st f fd) (Sc : FnScope N ps (C8.fnScope st))
    (many : ∀ vs H Q E, sp vs H Q E → vs.length = ps.length)
    (h : ∀ (cd : Value) (A : Around) (ou : List Env) (t : Shared) (H : Hp) (vs : List V) (Q : VK) (E : XK), A.guards = some [] → Room k (A.deeper (envOfC ql (C8.fnScope st) t.heap.objs.size f cd)) → sp vs H Q E →
      ∃ r, PSs (cxOf C8.CX0 P w K mg base N ql (C8.fnScope st) f cd A ou t H E).nox (C8.fnBody st) r ∧ r { nx := fun _ H' => Q .non H', rt := Q } (L2.start N vs) H) : FnG P w K mg base (k + 1) f fd ps sp := by
  obtain ⟨oc, od, dV, kV, doc, pm, an, cd, ct, osl, rfl, at_, code⟩ := F.ex
  constructor
  · exact many
  intro A ou t H gs us vs Q E gd room e0 bound rel want
  have count := many _ _ _ _ want
  have old : ∀ (b : Addr) (o : Obj), base.get? b = some o → t.heap.get? b = some o := fun b o e => (e0.bs b o e).1
  have KT : K.In t.heap := e0.mod.kin.keeps old
  have kinds : ∀ y ∈ ps.zip us, (C8.fnScope st).names.lookup y.1 = some .local ∨ ((C8.fnScope st).names.lookup y.1 = some .cell ∧ ((cellsFrom (t.heap.objs.size + 1) (C8.fnScope st).names []).lookup y.1).isSome = true) := by
    intro y hy
    obtain ⟨n, v⟩ := y
    exact (Sc.par n (List.of_mem_zip hy).1).elim .inl fun q => .inr ⟨q, PySem.W.cellsFrom_some _ _ _ (.inl q)⟩
  refine codeAny_call_function room.depth (KT _ _ at_) rfl Sc.co Sc.gen rfl (PySem.W.codeRec_of KT code) (bound _ _ _ _ ?_)
  refine wpAny_newFunctionEnv_cells Sc.kind kinds fun en en_is t1 inside => ?_
  subst en_is
  refine ⟨(e0.mod.nolimit.keeps old).keeps inside.toInCall.keep, codeAny_func ?_⟩
  obtain ⟨r, body, read⟩ := h cd A ou t H vs Q E gd (room.deeper _) want
  have I0 := inv_start (CX := C8.CX0) (E := E) Sc room.hd e0 count rel inside
  refine wpAny_mono (body.nox.run [] t1 (L2.start N vs) H _ I0 read) (fun fl t' got => ?_) fun _ _ got => got
  cases fl with
  | ret u => exact let ⟨v, _, H', J, rv, q⟩ := got; ⟨v, H', J.os, J.bare, J.base, J.hok, rv, q⟩
  | next => exact let ⟨_, H', J, q⟩ := got; ⟨.non, H', J.os, J.bare, J.base, J.hok, rfl, q⟩
  | brk => exact let ⟨_, _, _, q⟩ := got; False.elim q
  | cont => exact let ⟨_, _, _, q⟩ := got; False.elim q
structure CalG (P : Program) (w : World) (K : PySem.W.Frag) (mg : Str → Option Value) (base : Heap) (k : Nat) (x : Str) (sp : Sp) : Prop where
  ex : ∃ (f : Addr) (fd : FuncData) (ps : List Str), FnG P w K mg base k f fd ps sp ∧ mg x = some (.ref f) ∧ PySem.W.keepIn K (.ref f) = true ∧ Binds K fd ps []
structure MetG (P : Program) (w : World) (K : PySem.W.Frag) (mg : Str → Option Value) (base : Heap) (k : Nat) (C : Addr) (m : Str) (sp : Sp) : Prop where
  ex : ∃ (f : Addr) (fd : FuncData) (ps : List Str), Cls K C ∧ Meth K C m f ∧ FnG P w K mg base k f fd ps sp ∧ Binds K fd ps []
section
variable {X : Cx} {k j : Nat} {f C : Addr} {fd : FuncData} {ps : List Str} {sp : Sp} {x m : Str} {p pos apos : Pos} {e o : Expr} {es : List Expr} {ta : TE} {t : TA}
theorem goesG {pins : List (Addr × Obj)} {σ : L2.St} {H : Hp} {s : Shared} {Q : VK} {us : List Value} {vs : List V} (F : FnG X.prog X.w X.K X.mg X.base k f fd ps sp) (gd : X.A.guards = some []) (room : Room k X.A) (bd : Binds X.K fd ps [])
    (I : Inv X pins σ H s) (rel : Vals vs us) (want : sp (vs ++ []) H Q C8.E0) : wpAny (model X.prog X.w) X.A (call (.ref f) us) (EP X pins σ Q) X.xe s := by
  rw [List.append_nil] at want
  have count : (us ++ []).length = ps.length := by rw [List.append_nil, ← rel.length]; exact F.many _ _ _ _ want
  have bs := bd s us I.kIn count
  rw [List.append_nil] at bs
  refine wpAny_call (codeAny_mono (F.goes X.A X.stack s H ⟨us, []⟩ us vs Q C8.E0 gd room I.env0 bs rel want) fun r t' got => ?_)
  match r, got with
  | .ok (.ret u), got => exact I.after got
theorem pe_cG (c : CalG X.prog X.w X.K X.mg X.base k x sp) (gd : X.A.guards = some []) (room : Room j X.A) (hk : k ≤ j) (hg : Gl X x) (ha : PA X (e :: es) t) (hdb : (x == ("__debug__" : Str)) = false := by decide)
    (he : starEach (e :: es) X.env = (false, eval e X.env) :: starEach es X.env := by rfl) (hpl : (backTo pos (starEach es X.env)).any (·.1) = false := by rfl) : PE X (.Call (.Name x p) (e :: es) [] pos) (tCall sp [] C8.E0 t) := by
  obtain ⟨f, fd, ps, F, named, kept, bd⟩ := c.ex
  constructor
  intro pins s σ H Q I want
  refine wpAny_Call_Name_kw (ld_glob I hg named ?_ hdb)
  refine PySem.W.callWith_K (h₀ := X.base) I.ok.mod.kin kept (thn (ha.run pos pins s σ H _ I want) ?_) he hpl
  rintro us s1 ⟨vs, H1, I1, rel, q⟩
  exact ⟨I1.kIn, goesG F gd (room.mono hk) bd I1 rel q⟩
theorem call_reprG (gd : X.A.guards = some []) (room : Room j X.A) : CallR X (.builtin "repr") (fun xs H Q => ∃ (a : Addr) (d : PyData), xs = [.ref a] ∧ Dp X.K H (.ref a) d ∧ d.showable = true ∧ d.hasDict = false ∧ d.depth ≤ 60 ∧ d.shown.length ≤ sizeLine ∧ Q (.str d.shown) H) := by
  intro pins s σ H xs us Q I rel want
  obtain ⟨a, d, rfl, hd, sh, nd, dep, sz, q⟩ := want
  obtain ⟨u, rfl, ru⟩ := vals1 rel
  obtain rfl : u = Value.ref a := ru
  obtain ⟨as, rd⟩ := Dp.reads I d (.ref a) (.ref a) hd rfl
  have un := room.un
  refine repr_of_reads' rd sh (PyData.noDict_hsm nd) gd (by omega) (fun _ _ z => z) (fun h' u tk kept => ?_) sz
  exact ⟨.str d.shown, H, I.kept kept, ⟨_, rfl⟩, q⟩
end
abbrev Done (s s' : Shared) (r : Result) : Prop := r = .ok (.ret (.bool true)) ∧ OldK s.heap s'.heap ∧ s'.os = s.os ∧ AllBare s'.gens
section
variable {P : Program} {w : World} {K : PySem.W.Frag} {mg mb : Str → Option Value} {k : Nat} {fa a : Addr} {fd : FuncData} {x : Str} {sp : Sp} {s : Shared} {vs : List Value} {ns : List Int}
theorem lawG_at {H : Hp} (KX : K.In s.heap) (hns : s.heap.Ns mainGlobals mg) (hb : s.heap.Ns builtinsNs mb) (hbb : ∀ x : Str, x ≠ "__name__" → mb x = bootBuiltins x) (lim : s.heap.NoLimit) (gens : s.gens = #[])
    (ha : s.heap.get? a = some { cls := .type "list", data := .seq vs.toArray }) (room : Room k callerA) (F : ∀ base : Heap, K.In base → base.Ns mainGlobals mg → FnG P w K mg base k fa fd [x] sp)
    (bd : ∀ (s : Shared) (u : Value), BindsTo s fd ⟨[u], []⟩ [(x, u)]) (only : Only H) (want : sp [.ref a] H (fun v _ => v = .bl true) C8.E0) (ok : HOk P w H s.heap) (at_a : ∀ b, H b ≠ none → b = a) (not_K : H a ≠ none → K.lookup a = none) :
    codeAny (model P w) callerA (.call (.ref fa) ⟨[.ref a], []⟩) (fun r s' => Done s s' r) s := by
  have free : ∀ {b : Addr}, b ≠ a → H b = none := fun {b} hn => by
    cases q : H b with
    | none => rfl
    | some u => exact absurd (at_a b (by rw [q]; simp)) hn
  have dict_free : ∀ {b : Addr} {o : Obj} {es : Array DictEntry} {ep : Nat}, s.heap.get? b = some o → o.data = .dict es ep → H b = none := fun {b o es ep} e d => free fun eq => by
    rw [eq, ha] at e
    cases e
    have d2 : Data.seq vs.toArray _ = Data.dict es ep := d
    cases d2
  have names : ∀ {b : Addr} {m : Str → Option Value}, s.heap.Ns b m → (hidT s.heap H).Ns b m := fun {b m} ⟨o, es, ep, e, d, r⟩ => ⟨o, es, ep, hidT_get e (dict_free e d), d, r⟩
  have hK : K.In (hidT s.heap H) := fun b o e => hidT_get (KX b o e) (by
    by_cases eq : b = a
    · subst eq
      cases q : H b with
      | none => rfl
      | some u => rw [not_K (by rw [q]; simp)] at e; cases e
    · exact free eq)
  have md : Mod K mg (hidT s.heap H) := by
    obtain ⟨mc, c1, c2⟩ := lim
    exact ⟨hK, names hns, ⟨mb, names hb, hbb⟩, mc, names c1, c2⟩
  have e0 : Env0 P w K mg (hidT s.heap H) callerA [] s H := ⟨rfl, md, fun _ _ e => of_hidT e, Nat.le_of_eq (hidT_size _ _), trivial, fun _ hm => absurd hm (List.not_mem_nil), ok, .of_eq gens⟩
  refine codeAny_mono ((F _ hK (names hns)).goes callerA [] s H ⟨[.ref a], []⟩ [.ref a] [.ref a] _ _ rfl room e0 (bd s (.ref a)) (.cons rfl .nil) want) fun r t got => ?_
  match r, got with
  | .ok (.ret u), got =>
    obtain ⟨v, H2, os, bare, un, ok2, rel, is_true⟩ := got
    obtain rfl : v = V.bl true := is_true
    obtain rfl : u = Value.bool true := rel
    refine ⟨rfl, OldK.of_keep fun b o e => ?_, os, bare⟩
    rcases only b with none_ | ⟨ob, xs, frozen⟩
    · exact un.keep b o e none_ (fun z => absurd z List.not_mem_nil) (by simp)
    · obtain ⟨e1, _⟩ := ok b _ frozen
      obtain ⟨e2, _⟩ := ok2 b _ (un.frzs b ob _ frozen)
      rw [e] at e1
      cases e1
      exact e2
theorem lawG_call (KX : K.In s.heap) (hns : s.heap.Ns mainGlobals mg) (hb : s.heap.Ns builtinsNs mb) (hbb : ∀ x : Str, x ≠ "__name__" → mb x = bootBuiltins x) (lim : s.heap.NoLimit) (gens : s.gens = #[])
    (ha : s.heap.get? a = some { cls := .type "list", data := .seq vs.toArray }) (hi : IntsAre vs ns) (hl : ns.length ≤ sizeLine) (room : Room k callerA) (F : ∀ base : Heap, K.In base → base.Ns mainGlobals mg → FnG P w K mg base k fa fd [x] sp)
    (bd : ∀ (s : Shared) (u : Value), BindsTo s fd ⟨[u], []⟩ [(x, u)]) (want : ∀ H : Hp, Only H → SqL K H a (ns.map V.int) → sp [.ref a] H (fun v _ => v = .bl true) C8.E0) :
    codeAny (model P w) callerA (.call (.ref fa) ⟨[.ref a], []⟩) (fun r s' => Done s s' r) s := by
  have rel := vals_ints hi
  cases own : K.lookup a with
  | some o =>
    have e := KX a o own
    rw [ha] at e
    cases e
    have only : Only (fun _ => none : Hp) := fun _ => .inl rfl
    have sq : SqL K (fun _ => none) a (ns.map V.int) := .inr ⟨_, vs.toArray, _, own, rfl, rfl, rfl, by rw [List.size_toArray, hi.length]; exact hl, by simpa using rel⟩
    refine lawG_at KX hns hb hbb lim gens ha room F bd only (want _ only sq) ?_ (fun b z => absurd rfl z) fun z => absurd rfl z
    intro b u z
    have z2 : (none : Option HO) = some u := z
    cases z2
  | none =>
    let one : HO := .frz { cls := .type "list", data := .seq vs.toArray } (.lst (ns.map V.int))
    let H : Hp := fun b => if b = a then some one else none
    have here : H a = some one := if_pos rfl
    have else_ : ∀ {b : Addr}, b ≠ a → H b = none := fun hn => if_neg hn
    have only : Only H := fun b => by
      by_cases e : b = a
      · exact .inr ⟨_, _, by rw [e]; exact here⟩
      · exact .inl (else_ e)
    refine lawG_at KX hns hb hbb lim gens ha room F bd only (want H only (.inl (.inr ⟨_, here⟩))) (fun b u z => ?_) (fun b z => ?_) fun _ => own
    · by_cases e : b = a
      · subst e
        rw [here] at z
        cases z
        exact ⟨ha, by rw [List.length_map]; exact hl, vs, _, rel, ha⟩
      · rw [else_ e] at z
        cases z
    · by_cases e : b = a
      · exact e
      · exact absurd (else_ e) z
end
theorem walkG {l : PySem.W.OpenLaw} {n k : Nat} {q : Program} {loose : List Str} {XP : (Str → Option Value) → Heap → Prop} {YP : World → Heap → Prop} {d : DefRec} {K : Params → PySem.W.Frag} {sp : PySem.W.Frag → Sp} {x : Str} (hn : l.most = some n) (hn2 : n ≤ sizeLine)
    (hdf : d.params.defaults = []) (room : Room k callerA) (hY : ∀ (w : World) (h : Heap), YP w h → (K w.params).In h)
    (F : ∀ (w : World) (mg : Str → Option Value) (fa : Addr) (h : Heap), (K w.params).In h → h.Ns mainGlobals mg → mg d.name = some (.ref fa) →
      ∃ fd : FuncData, (∀ (s : Shared) (u : Value), BindsTo s fd ⟨[u], []⟩ [(x, u)]) ∧ ∀ base : Heap, (K w.params).In base → base.Ns mainGlobals mg → FnG l.prog w (K w.params) mg base k fa fd [x] (sp (K w.params)))
    (want : ∀ (K : PySem.W.Frag) (H : Hp) (a : Addr) (ns : List Int), ns.length ≤ n → Only H → SqL K H a (ns.map V.int) → sp K [.ref a] H (fun v _ => v = .bl true) C8.E0) : PySem.W.WalkO q loose XP YP l.row.toRowW d [] (fun f vs => PySem.call f vs) := by
  refine Att.attach_call hn hdf ?_
  intro w s0 s1 mg mb fa o pm cd doc a vs ns G Y _ _ _ named list_ nums few gens
  have KX := hY w _ Y
  obtain ⟨fd, bd, F1⟩ := F w mg fa _ KX G.T.g named
  exact lawG_call KX G.T.g G.T.b G.T.builtins G.T.nolimit gens list_ nums (Nat.le_trans few hn2) room F1 bd fun H only sq => want _ H a ns few only sq
end LX
set_option maxHeartbeats 2000000
namespace LX
open PySem PySem.Spec PyProof.Rows L2 C8 SX
section
variable {prog : Program} {w : World} {A : Around} {E : Value → Shared → Prop} {s : Shared} {z TI TO i1 i2 : Addr} {fp1 fp2 : List Addr} {n1 n2 i : Nat} {P1 P2 : Nat → Value → Prop} {St1 St2 : Nat → Heap → Prop}
theorem zipD2_item_held {T : Addr} {f : Bool} {oT : Obj} {Q : Value → Shared → Prop} (S : ZipSep2 z TI TO i1 i2 fp1 fp2) (D1 : Draws prog w A i1 fp1 n1 P1 St1) (D2 : Draws prog w A i2 fp2 n2 P2 St2)
    (hz : IsZipHeld s.heap z TI TO T f) (hT : s.heap.get? T = some oT) (hTI : IsTupOf2 s.heap TI (.ref i1) (.ref i2)) (st1 : St1 i s.heap) (st2 : St2 i s.heap) (hlt1 : i < n1) (hlt2 : i < n2)
    (hQ : ∀ x1 x2 h' tk, P1 i x1 → P2 i x2 → IsZipHeld h' z TI TO T true → St1 (i + 1) h' → St2 (i + 1) h' → IsTupOf2 h' s.heap.objs.size x1 x2 → h'.objs.size = s.heap.objs.size + 1 →
      (∀ c o, c ≠ z → c ≠ i1 → c ≠ i2 → s.heap.get? c = some o → h'.get? c = some o) → Q (.ref s.heap.objs.size) { s with heap := h', toks := tk }) :
    wpAny (model prog w) A (Builtin.«zip.__next__» ⟨[.ref z], []⟩) (fun fin s' => ∃ v, fin = .done (.ret v) ∧ Q v s') E s := by
  show wpAny _ _ (field (.ref z) 2 >>= _) _ _ _
  refine wpAny_bind (wpAny_field hz rfl (x := .bool false) rfl ?_)
  show wpAny _ _ (field (.ref z) 3 >>= _) _ _ _
  refine wpAny_bind (wpAny_field hz rfl (x := .ref TI) rfl ?_)
  refine wpAny_bind (wpAny_seqItems hTI rfl ?_)
  show wpAny _ _ (Builtin.SmallTypes.ownedTupleIsFree (.ref z) >>= _) _ _ _
  refine wpAny_bind (wpAny_tupleHeld_zip hz hT fun h₁ hz₁ hs₁ => ?_)
  simp only [Bool.false_eq_true, if_false]
  refine wpAny_bind ?_
  rw [← Array.forIn_toList]
  simp only [List.forIn_cons, List.forIn_nil]
  refine wpAny_bind (wpAny_bind (wpAny_holding ?_))
  show wpAny _ _ (Builtin.SmallTypes.nextOf (.ref i1) >>= _) _ _ _
  refine wpAny_bind (D1.item i _ _ _ hlt1 (D1.over st1 hs₁ S.zf1) fun x1 h₂ tk₁ p1 h1₂ hs₂ => wpAny_pure ?_)
  refine wpAny_pure ?_
  refine wpAny_bind (wpAny_bind (wpAny_holding ?_))
  show wpAny _ _ (Builtin.SmallTypes.nextOf (.ref i2) >>= _) _ _ _
  refine wpAny_bind (D2.item i _ _ _ hlt2 (D2.over (D2.over st2 hs₁ S.zf2) hs₂ S.sep1_2) fun x2 h₃ tk₂ p2 h2₃ hs₃ => wpAny_pure ?_)
  refine wpAny_pure (wpAny_pure ?_)
  show wpAny _ _ (newTuple [x1, x2] >>= _) _ _ _
  refine wpAny_bind (wpAny_newTuple ?_)
  have hsz : h₃.objs.size = s.heap.objs.size := by rw [hs₃.1, hs₂.1, hs₁.1]
  have hz₃ : IsZipHeld h₃ z TI TO T true := hs₃.extBut _ _ S.zi2 (hs₂.extBut _ _ S.zi1 hz₁)
  have hk : ∀ c o, c ≠ z → c ≠ i1 → c ≠ i2 → s.heap.get? c = some o → h₃.get? c = some o := fun c o c1 c2 c3 e => hs₃.extBut _ _ c3 (hs₂.extBut _ _ c2 (hs₁.extBut _ _ c1 e))
  have h1₃ : St1 (i + 1) h₃ := D1.over h1₂ hs₃ S.sep2_1
  refine wpAny_pure ⟨_, rfl, ?_⟩
  show Q (.ref h₃.objs.size) _
  have hp : IsTupOf2 (h₃.push { cls := .type "tuple", data := .seq #[x1, x2] }) h₃.objs.size x1 x2 := Heap.get?_push_size _ rfl
  have hz4 : (h₃.push { cls := .type "tuple", data := .seq #[x1, x2] }).objs.size = h₃.objs.size + 1 := Heap.size_push ..
  rw [hsz] at hp hz4 ⊢
  exact hQ x1 x2 _ tk₂ p1 p2 (Heap.get?_push_of_some _ hz₃) (D1.frame _ _ _ h1₃ fun b _ o e => Heap.get?_push_of_some _ e) (D2.frame _ _ _ h2₃ fun b _ o e => Heap.get?_push_of_some _ e) hp hz4 fun c o c1 c2 c3 e => Heap.get?_push_of_some _ (hk c o c1 c2 c3 e)
theorem zipD2_end_held {T : Addr} {f : Bool} {oT : Obj} {Q : Fin → Shared → Prop} (S : ZipSep2 z TI TO i1 i2 fp1 fp2) (D1 : Draws prog w A i1 fp1 n1 P1 St1) (D2 : Draws prog w A i2 fp2 n1 P2 St2)
    (hz : IsZipHeld s.heap z TI TO T f) (hT : s.heap.get? T = some oT) (hTI : IsTupOf2 s.heap TI (.ref i1) (.ref i2)) (st1 : St1 n1 s.heap)
    (hE : ∀ h' e, (∀ c o, c ≠ z → c ≠ i1 → c ≠ i2 → s.heap.get? c = some o → h'.get? c = some o) → (∃ o, h'.get? e = some o ∧ o.cls = .type "StopIteration") → E (.ref e) { s with heap := h' }) :
    wpAny (model prog w) A (Builtin.«zip.__next__» ⟨[.ref z], []⟩) Q E s := by
  show wpAny _ _ (field (.ref z) 2 >>= _) _ _ _
  refine wpAny_bind (wpAny_field hz rfl (x := .bool false) rfl ?_)
  show wpAny _ _ (field (.ref z) 3 >>= _) _ _ _
  refine wpAny_bind (wpAny_field hz rfl (x := .ref TI) rfl ?_)
  refine wpAny_bind (wpAny_seqItems hTI rfl ?_)
  show wpAny _ _ (Builtin.SmallTypes.ownedTupleIsFree (.ref z) >>= _) _ _ _
  refine wpAny_bind (wpAny_tupleHeld_zip hz hT fun h₁ hz₁ hs₁ => ?_)
  simp only [Bool.false_eq_true, if_false]
  refine wpAny_bind ?_
  rw [← Array.forIn_toList]
  simp only [List.forIn_cons, List.forIn_nil]
  refine wpAny_bind (wpAny_bind (wpAny_holding ?_))
  show wpAny _ _ (Builtin.SmallTypes.nextOf (.ref i1) >>= _) _ _ _
  refine wpAny_bind (D1.done _ _ _ (D1.over st1 hs₁ S.zf1) fun h₂ e hs₂ he => ?_)
  exact hE h₂ e (fun c o c1 c2 _ x => hs₂ _ _ c2 (hs₁.extBut _ _ c1 x)) he
theorem pyNext_zipD2_item_held {T : Addr} {f : Bool} {oT : Obj} {Q : Option Value → Shared → Prop} (S : ZipSep2 z TI TO i1 i2 fp1 fp2) (D1 : Draws prog w A.in1 i1 fp1 n1 P1 St1) (D2 : Draws prog w A.in1 i2 fp2 n2 P2 St2)
    (hz : IsZipHeld s.heap z TI TO T f) (hT : s.heap.get? T = some oT) (hTI : IsTupOf2 s.heap TI (.ref i1) (.ref i2)) (st1 : St1 i s.heap) (st2 : St2 i s.heap) (hlt1 : i < n1) (hlt2 : i < n2)
    (hQ : ∀ x1 x2 h' tk, P1 i x1 → P2 i x2 → IsZipHeld h' z TI TO T true → St1 (i + 1) h' → St2 (i + 1) h' → IsTupOf2 h' s.heap.objs.size x1 x2 → h'.objs.size = s.heap.objs.size + 1 →
      (∀ c o, c ≠ z → c ≠ i1 → c ≠ i2 → s.heap.get? c = some o → h'.get? c = some o) → Q (some (.ref s.heap.objs.size)) { s with heap := h', toks := tk }) :
    wpAny (model prog w) A (pyNext (.ref z)) Q E s := by
  have hTy : s.TypeIs (.ref z) "zip" := ⟨_, hz, rfl⟩
  unfold pyNext
  exact wpAny_bind (wpAny_attempt (wpAny_callSpecial?_slot (name := Str.ofString "__next__") hTy F.slot_zip_next
    (wpAny_call_entry F.slot_zip_next hTy F.entry_zip_next
      (zipD2_item_held S D1 D2 hz hT hTI st1 st2 hlt1 hlt2 fun x1 x2 h' tk y1 y2 a1 a3 a4 a5 a6 a7 => wpAny_pure (hQ x1 x2 h' tk y1 y2 a1 a3 a4 a5 a6 a7)) (F.args_zip_next_1 _))))
theorem pyNext_zipD2_end_held {T : Addr} {f : Bool} {oT : Obj} {Q : Option Value → Shared → Prop} (S : ZipSep2 z TI TO i1 i2 fp1 fp2) (D1 : Draws prog w A.in1 i1 fp1 n1 P1 St1) (D2 : Draws prog w A.in1 i2 fp2 n1 P2 St2)
    (hz : IsZipHeld s.heap z TI TO T f) (hT : s.heap.get? T = some oT) (hTI : IsTupOf2 s.heap TI (.ref i1) (.ref i2)) (st1 : St1 n1 s.heap)
    (hQ : ∀ h', (∀ c o, c ≠ z → c ≠ i1 → c ≠ i2 → s.heap.get? c = some o → h'.get? c = some o) → Q none { s with heap := h' }) : wpAny (model prog w) A (pyNext (.ref z)) Q E s := by
  have hTy : s.TypeIs (.ref z) "zip" := ⟨_, hz, rfl⟩
  unfold pyNext
  refine wpAny_bind (wpAny_attempt (wpAny_callSpecial?_slot (name := Str.ofString "__next__") hTy F.slot_zip_next
    (wpAny_call_entry F.slot_zip_next hTy F.entry_zip_next (zipD2_end_held S D1 D2 hz hT hTI st1 fun h' e hk he => ?_) (F.args_zip_next_1 _))))
  obtain ⟨o, ho, hc⟩ := he
  refine wpAny_bind (wpAny_isInstance (T := "StopIteration") (b := true) ⟨o, ho, hc⟩ isSubtype_stop ?_)
  exact wpAny_pure (hQ _ hk)
theorem pairArg_zipD2 (S : ZipSep2 z TI TO i1 i2 fp1 fp2) (D1 : ∀ A : Around, A.handled = none → Draws prog w A i1 fp1 n1 P1 St1) (D2 : ∀ A : Around, A.handled = none → Draws prog w A i2 fp2 n1 P2 St2) :
    PairArg prog w "zip" z (z :: TI :: TO :: (fp1 ++ fp2)) [z, TO, i1, i2] n1 (fun i k v => P1 i k ∧ P2 i v)
      (fun h => IsZip h z TI TO .none ∧ IsTupOf2 h TI (.ref i1) (.ref i2) ∧ (∃ a b, IsTupOf2 h TO a b) ∧ St1 0 h ∧ St2 0 h ∧ ∀ b ∈ fp1 ++ fp2, ∃ o, h.get? b = some o) where
  type := fun s ok => ⟨_, ok.1, rfl⟩
  notDict := by decide
  keep := fun h h' ok hk => by
    obtain ⟨hz, hTI, ⟨a, b, hTO⟩, h1, h2, ex⟩ := ok
    exact ⟨hk _ _ hz, hk _ _ hTI, ⟨a, b, hk _ _ hTO⟩, (D1 callerA rfl).frame _ _ _ h1 fun b _ o e => hk b o e, (D2 callerA rfl).frame _ _ _ h2 fun b _ o e => hk b o e, fun b hb => let ⟨o, e⟩ := ex b hb; ⟨o, hk _ _ e⟩⟩
  there := fun h ok b hb => by
    obtain ⟨hz, hTI, ⟨a, c, hTO⟩, _, _, ex⟩ := ok
    rcases List.mem_cons.mp hb with rfl | hb
    · exact ⟨_, hz⟩
    rcases List.mem_cons.mp hb with rfl | hb
    · exact ⟨_, hTI⟩
    rcases List.mem_cons.mp hb with rfl | hb
    · exact ⟨_, hTO⟩
    exact ex b hb
  sub := fun b hb => by
    have e : b = z ∨ b = TO ∨ b = i1 ∨ b = i2 := by simpa using hb
    rcases e with rfl | rfl | rfl | rfl
    · simp
    · simp
    · have := S.mem1; simp [this]
    · have := S.mem2; simp [this]
  noKeys := fun A s Q E hA ok h => getAttrOr_miss_zip ok.1 rfl rfl rfl zip_no_keys (by decide +kernel) hA h
  iter := fun A s d Q E hA ok hd hdf h => by
    obtain ⟨hz, hTI, ⟨a, b, hTO⟩, h1, h2, _⟩ := ok
    have dz : d ≠ z := fun e => hdf (by simp [e])
    have dTI : d ≠ TI := fun e => hdf (by simp [e])
    have dTO : d ≠ TO := fun e => hdf (by simp [e])
    have df1 : ∀ b ∈ fp1, b ≠ d := fun b hb e => hdf (by subst e; simp [hb])
    have df2 : ∀ b ∈ fp2, b ≠ d := fun b hb e => hdf (by subst e; simp [hb])
    have dI1 := (df1 _ S.mem1).symm
    have dI2 := (df2 _ S.mem2).symm
    refine wpAny_pyIter_zip hz (h z [z, TO, i1, i2] (fun i h => IsTupOf2 h TI (.ref i1) (.ref i2) ∧ St1 i h ∧ St2 i h ∧
      ((IsZip h z TI TO .none ∧ ∃ a b, IsTupOf2 h TO a b) ∨ ∃ T f oT, IsZipHeld h z TI TO T f ∧ h.get? T = some oT ∧ T ≠ z ∧ T ≠ i1 ∧ T ≠ i2 ∧ T ≠ d)) s.heap s.toks ?_
      ⟨hTI, h1, h2, .inl ⟨hz, a, b, hTO⟩⟩ (fun _ _ e => e) fun b hb => .inl hb)
    exact {
      off := fun hm => by
        have e : d = z ∨ d = TO ∨ d = i1 ∨ d = i2 := by simpa using hm
        rcases e with e | e | e | e
        · exact dz e
        · exact dTO e
        · exact dI1 e
        · exact dI2 e
      frame := fun i h₁ h₂ st hk => by
        obtain ⟨hTI, h1, h2, hz⟩ := st
        refine ⟨hk _ _ (Ne.symm dTI) hTI, (D1 A hA).frame _ _ _ h1 fun b hb o e => hk b o (df1 b hb) e, (D2 A hA).frame _ _ _ h2 fun b hb o e => hk b o (df2 b hb) e, ?_⟩
        rcases hz with ⟨hz, a, b, hTO⟩ | ⟨T, f, oT, hz, hT, r1, r2, r3, r4⟩
        · exact .inl ⟨hk _ _ (Ne.symm dz) hz, a, b, hk _ _ (Ne.symm dTO) hTO⟩
        · exact .inr ⟨T, f, oT, hk _ _ (Ne.symm dz) hz, hk _ _ r4 hT, r1, r2, r3, r4⟩
      item := fun i s₁ Q₁ E₁ hi st hds hQ => by
        obtain ⟨hTI, h1, h2, hz⟩ := st
        have lt : ∀ {c o}, s₁.heap.get? c = some o → s₁.heap.objs.size ≠ c := fun e => Nat.ne_of_gt (Heap.lt_size e)
        have n1' : s₁.heap.objs.size ≠ i1 := let ⟨_, e⟩ := (D1 A hA).live _ _ h1; lt e
        have n2' : s₁.heap.objs.size ≠ i2 := let ⟨_, e⟩ := (D2 A hA).live _ _ h2; lt e
        rcases hz with ⟨hz, a, b, hTO⟩ | ⟨T, f, oT, hz, hT, r1, r2, r3, r4⟩
        · refine wpAny_pyNext_zipD2_item S (D1 A.in1 hA) (D2 A.in1 hA) hz hTI hTO h1 h2 hi hi fun x1 x2 h' tk p1 p2 a1 a2 a3 a4 a5 a6 hk => ?_
          exact hQ s₁.heap.objs.size _ _ h' tk ⟨p1, p2⟩ (.inl ⟨_, a5, rfl, _, rfl⟩)
            ⟨hk _ _ S.TIz S.TITO S.TIi1 S.TIi2 hTI, a3, a4, .inr ⟨s₁.heap.objs.size, false, _, a1, a5, lt hz, n1', n2', Nat.ne_of_gt hds⟩⟩
            fun c o hc e => hk c o (fun x => hc (by simp [x])) (fun x => hc (by simp [x])) (fun x => hc (by simp [x])) (fun x => hc (by simp [x])) e
        · refine pyNext_zipD2_item_held S (D1 A.in1 hA) (D2 A.in1 hA) hz hT hTI h1 h2 hi hi fun x1 x2 h' tk p1 p2 a1 a3 a4 a5 a6 hk => ?_
          exact hQ s₁.heap.objs.size _ _ h' tk ⟨p1, p2⟩ (.inl ⟨_, a5, rfl, _, rfl⟩)
            ⟨hk _ _ S.TIz S.TIi1 S.TIi2 hTI, a3, a4, .inr ⟨T, true, oT, a1, hk _ _ r1 r2 r3 hT, r1, r2, r3, r4⟩⟩
            fun c o hc e => hk c o (fun x => hc (by simp [x])) (fun x => hc (by simp [x])) (fun x => hc (by simp [x])) e
      done := fun s₁ Q₁ E₁ st hQ => by
        obtain ⟨hTI, h1, h2, hz⟩ := st
        rcases hz with ⟨hz, a, b, hTO⟩ | ⟨T, f, oT, hz, hT, r1, r2, r3, r4⟩
        · exact wpAny_pyNext_zipD2_end S (D1 A.in1 hA) (D2 A.in1 hA) hz hTI hTO h1 h2 (Nat.le_refl _) (Nat.le_refl _) (.inl rfl) fun h' tk hk => hQ h' tk
            fun c o hc e => hk c o (fun x => hc (by simp [x])) (fun x => hc (by simp [x])) (fun x => hc (by simp [x])) (fun x => hc (by simp [x])) e
        · exact pyNext_zipD2_end_held S (D1 A.in1 hA) (D2 A.in1 hA) hz hT hTI h1 fun h' hk => hQ h' s₁.toks
            fun c o hc e => hk c o (fun x => hc (by simp [x])) (fun x => hc (by simp [x])) (fun x => hc (by simp [x])) e }
end
theorem zip_map_get {α β γ : Type} (f : α → β → γ) : ∀ (l : List α) (m : List β) (i : Nat), ((l.zip m).map fun p => f p.1 p.2)[i]? = (l[i]?.bind fun a => m[i]?.map fun b => f a b)
  | [], _, i => by simp
  | a :: l, [], i => by cases h : (a :: l)[i]? <;> simp
  | a :: l, b :: m, 0 => rfl
  | a :: l, b :: m, i + 1 => by simpa using zip_map_get f l m i
theorem paired_zip {l : List Nat} : ∀ {ys : List V} {its : List Value}, Vals ys its → KV ((l.zip ys).map fun p => (tk [p.1], p.2)) ((l.zip its).map fun p => (tk [p.1], p.2)) := by
  induction l with
  | nil => intro ys its _; exact .nil
  | cons c l ih =>
    intro ys its r
    cases r with
    | nil => exact .nil
    | cons h t => exact .cons ⟨rfl, h⟩ (ih t)
def tDictZip (K : PySem.W.Frag) (ta : TA) : TE := fun σ H Q => ta σ H fun vs H1 => ∃ (l : List Nat) (b : Addr) (ys : List V), vs = [.str (S l), .ref b] ∧ SqT K H1 b ys ∧ ys.length = l.length ∧ l.length ≤ 1000 ∧
  ∀ p, H1 p = none → Q (.ref p) (upd H1 p (.dK (mergeK [] ((l.zip ys).map fun p => (tk [p.1], p.2)))))
theorem pe_dictZip {X : Cx} {e e2 : Expr} {ta : TA} {p p2 pos pos2 : Pos} (hc : X.calm = true) (hgd : Gl X "dict") (hmd : X.mg "dict" = none) (hg : Gl X "zip") (hm : X.mg "zip" = none) (ha : PA X [e, e2] ta)
    (hs : starEach [e, e2] X.env = (false, eval e X.env) :: starEach [e2] X.env := by rfl) (hpl : (backTo pos2 (starEach [e2] X.env)).any (·.1) = false := by rfl)
    (hs' : starEach [.Call (.Name "zip" p2) [e, e2] [] pos2] X.env = (false, eval (.Call (.Name "zip" p2) [e, e2] [] pos2) X.env) :: starEach [] X.env := by rfl) (hpl' : (backTo pos (starEach [] X.env)).any (·.1) = false := by rfl) :
    PE X (.Call (.Name "dict" p) [.Call (.Name "zip" p2) [e, e2] [] pos2] [] pos) (tDictZip X.K ta) := by
  refine ⟨fun pins s σ H Q I h => ?_⟩
  refine Call_ (ld_blt I hgd hmd PyProof.Rows.boot_dict (PyProof.Rows.callWith_type1 (Q := EP X pins σ Q) ?_ hs' hpl'))
  rw [hs']
  refine PySem.Calls.spliced_cons ?_
  refine Call_ (ld_blt I hg hm PyProof.Rows.boot_zip (PyProof.Rows.callWith_type1 (thn (ha.run pos2 pins s σ H _ I h) fun us s1 ⟨vs, H1, I1, r1, q1⟩ => ?_) hs hpl))
  obtain ⟨l, b, ys, ex, hb, hl, hz, q⟩ := q1
  subst ex
  obtain ⟨u, u', rfl, r, r'⟩ := vals2 r1
  obtain ⟨t, rfl⟩ := (show ∃ t, u = Value.str (S l) t from r)
  obtain rfl : u' = Value.ref b := r'
  obtain ⟨its, rv, ht, _⟩ := I1.tuple hb
  have hlen : its.toArray.size = (S l).cps.size := by rw [List.size_toArray, ← rv.length, hl]; simp [S]
  have hbl : b < s1.heap.objs.size := ht.lt
  refine zip_begins2 (begins_text (S l) t) (begins_tuple b its.toArray) trivial ht fun h' hz' hTI hTO h1 h2 hsz hk => ?_
  refine PySem.Calls.spliced_nil ?_
  have I2 : Inv X pins σ H1 { s1 with heap := h' } := I1.kept (t' := s1.toks) hk
  have f2 : ∀ a ∈ [b], a < s1.heap.objs.size := fun a h => by rw [List.mem_singleton.mp h]; exact hbl
  have S2 := PySem.zip_sep2 (N := s1.heap.objs.size) (fp1 := []) (fp2 := [b]) (fun _ h => nomatch h) f2
  have P := pairArg_zipD2 (prog := X.prog) (w := X.w) S2 (fun A hh => Draws.text hh s1.heap.objs.size (S l) t)
    (fun A hh => hlen ▸ Draws.tuple hh (s1.heap.objs.size + 1) b (Nat.ne_of_lt (Nat.lt_succ_of_lt hbl)) its.toArray)
  have ht2 : h'.IsTuple b its.toArray := (show s1.heap.IsTuple b its.toArray from ht).at fun o e => hk _ _ e
  have hn : H1 h'.objs.size = none := I2.hok.fresh (Nat.le_refl _)
  have hl2 : its.length = l.length := by rw [← rv.length, hl]
  refine PySem.call_dict_pairs (knd := mixKind X.prog X.w) (kvs := (l.zip its).map fun p => (tk [p.1], p.2)) P (I1.ok.hd hc) ?_ ⟨?_, ?_⟩ ?_ fun h3 tk3 hd3 hk3 => ?_
  · refine ⟨hz', hTI, ⟨_, _, hTO⟩, ⟨_, h1, rfl, rfl⟩, ⟨⟨_, h2, rfl, rfl⟩, ht2⟩, fun a ha => ?_⟩
    have e : a = s1.heap.objs.size ∨ a = s1.heap.objs.size + 1 ∨ a = b := by simpa using ha
    rcases e with rfl | rfl | rfl
    · exact ⟨_, h1⟩
    · exact ⟨_, h2⟩
    · obtain ⟨o, e, _⟩ := ht2; exact ⟨o, e⟩
  · rw [List.length_map, List.length_zip, hl2, Nat.min_self]; simp [S]
  · rintro i key v ⟨⟨c, u, hc', rfl⟩, hv⟩
    have hc2 : l[i]? = some c := by simpa [S] using hc'
    have hv2 : its[i]? = some v := by simpa using hv
    refine ⟨tk [c], ?_, kV_is (P := X.prog) (w := X.w) (k := tk [c]) ⟨u, rfl⟩⟩
    rw [zip_map_get (fun a b => (tk [a], b)), hc2, hv2]; rfl
  · simp [S]; exact Nat.le_trans hz (by decide)
  · have kvr : KV ((l.zip ys).map fun p => (tk [p.1], p.2)) ((l.zip its).map fun p => (tk [p.1], p.2)) := paired_zip rv
    have hm' : (h'.objs.size == sysModules) = false := beq_eq_false_iff_ne.mpr (Nat.ne_of_gt I2.big)
    have hlen2 : (mergeK [] ((l.zip ys).map fun p => (tk [p.1], p.2))).length ≤ sizeLine := by
      refine Nat.le_trans (length_mergeK _ []) ?_
      rw [List.length_nil, Nat.zero_add, List.length_map, List.length_zip, hl, Nat.min_self]
      exact Nat.le_trans hz (by decide)
    have keep3 : ∀ c o, s1.heap.get? c = some o → h3.get? c = some o := fun c o e => hk3 c o (fun hm => by
      have hlt : c < s1.heap.objs.size := Heap.lt_size e
      have e' : c = s1.heap.objs.size + 4 ∨ c = s1.heap.objs.size + 3 ∨ c = s1.heap.objs.size ∨ c = s1.heap.objs.size + 1 := by simpa using hm
      have hle : s1.heap.objs.size ≤ c := by
        rcases e' with z | z | z | z
        · rw [z]; exact Nat.le_add_right _ _
        · rw [z]; exact Nat.le_add_right _ _
        · rw [z]; exact Nat.le_refl _
        · rw [z]; exact Nat.le_add_right _ _
      exact Nat.lt_irrefl _ (Nat.lt_of_lt_of_le hlt hle)) (hk _ _ e)
    have hsz5 : s1.heap.objs.size ≤ h'.objs.size := by rw [hsz]; omega
    exact ⟨.ref h'.objs.size, upd H1 h'.objs.size (.dK (mergeK [] ((l.zip ys).map fun p => (tk [p.1], p.2)))), I1.laid (t' := tk3) keep3 hsz5 (show ObjOk X.prog X.w _ _ _ (.dK _) from ⟨hlen2, hm', merged [] _, KV.merge kvr .nil, hd3⟩), rfl, q _ hn⟩
end LX
set_option maxHeartbeats 2000000
namespace LX
open PySem PySem.Spec PyProof.Rows L2 C8 SX
theorem meets_enum1 {v : Value} {o : Obj} {H : Heap → Prop} (B : Begins v o H) :
    Meets (Builtin.«enumerate.__new__» ⟨[.type "enumerate", v], []⟩) (fun _ R s => H s.heap ∧
      R (.ok (.ret (.ref (s.heap.push o).objs.size))) { s with heap := (s.heap.push o).push { cls := .type "enumerate", data := .fields #[.none, .bool false, .ref s.heap.objs.size, rawInt 0, .none, .none] } }) :=
  .of_wp fun prog w A R s h => by
    obtain ⟨hp, g, d, tk, os⟩ := s; obtain ⟨h1, h⟩ := h
    have hsub := sub_enumerate
    have q1 : ∀ {A' : Around} {E : Value → Shared → Prop} {Q : Value → Shared → Prop}, Q (.ref hp.objs.size) ⟨hp.push o, g, d, tk, os⟩ → wpAny (model prog w) A' (pyIter v) Q E ⟨hp, g, d, tk, os⟩ :=
      fun q => B.iter prog w _ _ ⟨hp, g, d, tk, os⟩ _ h1 q
    wp_walk using q1
    refine wpAny_stack_any fun st => wpAny_pure ?_
    split
    · rename_i c _ _ _ _ _
      cases (c == Value.type "enumerate")
      · wp_walk using q1
        exact ⟨_, rfl, h⟩
      · wp_walk using q1
        exact ⟨_, rfl, h⟩
    · wp_walk using q1
      exact ⟨_, rfl, h⟩
theorem enum1_begins {prog : Program} {w : World} {A : Around} {E : Value → Shared → Prop} {s : Shared} {v : Value} {o : Obj} {H : Heap → Prop} {Q : Value → Shared → Prop} (B : Begins v o H) (h1 : H s.heap)
    (h : ∀ h', IsEnum h' (s.heap.objs.size + 1) s.heap.objs.size 0 .none → h'.get? s.heap.objs.size = some o → h'.objs.size = s.heap.objs.size + 2 →
      (∀ b o, s.heap.get? b = some o → h'.get? b = some o) → Q (.ref (s.heap.objs.size + 1)) { s with heap := h' }) :
    wpAny (model prog w) A (call (.type "enumerate") [v]) Q E s := by
  refine callType_new F.called_enumerate (by decide) (F.typeCall_enumerate_1 _) (F.newCall_enumerate_1 _) (fun obj => F.args_object_init_2 obj _) F.entry_enumerate_new
    (meets_enum1 B) ⟨h1, ?_⟩
  have hz : (s.heap.push o).objs.size = s.heap.objs.size + 1 := Heap.size_push ..
  show _ ∧ _
  rw [hz]
  have he : IsEnum ((s.heap.push o).push { cls := .type "enumerate", data := .fields #[.none, .bool false, .ref s.heap.objs.size, rawInt 0, .none, .none] }) (s.heap.objs.size + 1) s.heap.objs.size 0 .none := by
    have := Heap.get?_push_size (s.heap.push o) (o := { cls := .type "enumerate", data := .fields #[.none, .bool false, .ref s.heap.objs.size, rawInt 0, .none, .none] }) rfl
    rw [hz] at this; exact this
  refine ⟨⟨_, he, rfl⟩, h _ he (Heap.get?_push_of_some _ (Heap.get?_push_size _ B.free)) (by rw [Heap.size_push, hz]) fun b o x => Heap.get?_push_of_some _ (Heap.get?_push_of_some _ x)⟩
def IteX (K : PySem.W.Frag) (S : Sr) : It :=
  ⟨fun i H => S.has K i H, fun i H v H' => ∃ T x, v = .ref T ∧ H T = none ∧ H' = upd H T (.tup [.int (i : Nat), x]) ∧ S.val K i H x, fun i H => S.upto K i H ∧ S.ends K i H⟩
theorem turn_enumX {P : Program} {w : World} {K : PySem.W.Frag} {elts : List Expr} {kk : Nat} {tpos : Pos} {e it : Addr} (S : Sr) (n1 : ∀ a ∈ S.fp, a ≠ it) (ne : e ≠ it) (nf : e ∉ S.fp) :
    Turn P w K (.Tuple elts kk tpos) (IteX K S) [e, it] e (fun i h => (∃ old, IsEnum h e it ((i : Nat) : Int) old) ∧ S.tn it i h) where
  mem := by simp
  obj := fun i h st b hb => by
    obtain ⟨⟨old, he⟩, h1⟩ := st
    have e' : b = e ∨ b = it := by simpa using hb
    rcases e' with z | z
    · rw [z]; exact ⟨_, he, fun v q => nomatch q⟩
    · rw [z]; exact Sr.tn_obj h1
  keep := fun i h h' st k => let ⟨⟨old, he⟩, h1⟩ := st; ⟨⟨old, k e (by simp) _ he⟩, Sr.tn_keep h1 fun o q => k it (by simp) o q⟩
  item := by
    intro X hP hw hK hc i pins s σ H E I hf st hg
    subst hP hw hK
    obtain ⟨⟨old, he⟩, h1⟩ := st
    obtain ⟨m1, ⟨P1, St1, D1, st1, v1, t1⟩, _, lt1, _⟩ := S.draws I n1 h1 (Sr.has_upto hg)
    have hel : e < s.heap.objs.size := Heap.lt_size he
    have hil : it < s.heap.objs.size := by obtain ⟨_, q, _⟩ := Sr.tn_obj h1; exact Heap.lt_size q
    refine wpAny_pyNext_enum_itemD (D1 _ (I.ok.hd hc)) he st1 (lt1 hg) ne (by simp [ne, nf]) fun u h' tk p1 ho st1' hT hsz hk => ?_
    obtain ⟨x, hx, rx⟩ := v1 u p1
    refine ⟨_, rfl, wpAny_letOwnedTupleGo_enum (s := { s with heap := h', toks := tk + 1 }) ho fun h'' he' sb => ?_⟩
    have hT2 : h''.get? s.heap.objs.size = some { cls := .type "tuple", data := .seq #[.int i tk, u] } := (sb.2 _ (Nat.ne_of_gt hel)).trans hT
    have new : ObjOk X.prog X.w (upd H s.heap.objs.size (.tup [.int (i : Nat), x])) h'' s.heap.objs.size (.tup [.int (i : Nat), x]) :=
      ⟨by show 2 ≤ sizeLine; decide, [.int i tk, u], .cons ⟨_, rfl⟩ (.cons rx .nil), ⟨_, hT2, rfl, _, rfl⟩⟩
    have I1 : Inv X pins σ (upd H s.heap.objs.size (.tup [.int (i : Nat), x])) { s with heap := h'', toks := tk + 1 } :=
      I.turnedNew (ch := [e, it]) (fun b ob hb q => (sb.2 b (fun z => hb (by simp [z]))).trans (hk b ob (fun z => hb (by simp [z])) (fun z => hb (by simp [z])) q)) hf (Nat.le_refl _) new
    refine ⟨.ref s.heap.objs.size, _, I1, rfl, ⟨_, x, rfl, I.hok.fresh (Nat.le_refl _), rfl, hx⟩, ⟨⟨u, ?_⟩, Sr.tn_keep (t1 _ _ st1') fun o q => (sb.2 it (Ne.symm ne)).trans q⟩, fun b hb => ?_⟩
    · have e1 : ((i + 1 : Nat) : Int) = (i : Int) + 1 := by omega
      rw [e1]; exact he'
    · have hb' : b < s.heap.objs.size := by
        have e' : b = e ∨ b = it := by simpa using hb
        rcases e' with z | z
        · rw [z]; exact hel
        · rw [z]; exact hil
      rw [upd_ne (Nat.ne_of_lt hb')]
      exact (hf b hb).1
  done := by
    intro X hP hw hK hc i pins s σ H E I hf st hg
    subst hP hw hK
    obtain ⟨⟨old, he⟩, h1⟩ := st
    obtain ⟨g1, ge⟩ := hg
    obtain ⟨m1, ⟨P1, St1, D1, st1, v1, t1⟩, _, _, eq1⟩ := S.draws I n1 h1 g1
    obtain ⟨f0, f1, f2, f3, f4, f5⟩ := hf it (by simp)
    have e1 := eq1 ge
    subst e1
    exact wpAny_pyNext_enum_endD (D1 _ (I.ok.hd hc)) he st1 fun h' eb => ⟨rfl, I.turned (t' := s.toks) (fun b o hb q => eb b o hb q) f0 f1 f3 f4 f5⟩
  self := fun A i s Q E st h => let ⟨⟨_, he⟩, _⟩ := st; wpAny_pyIter_enum he h
def iEnumX (K : PySem.W.Frag) (ta : TA) : TI := fun σ H R => ta σ H fun vs H1 => ∃ (x : V) (S : Sr), vs = [x] ∧ S.of x ∧ S.there K H1 ∧ R (IteX K S) H1
theorem pi_enumX {X : Cx} {e : Expr} {ta : TA} {p pos tpos : Pos} {elts : List Expr} {kk : Nat} (hg : Gl X "enumerate") (hm : X.mg "enumerate" = none) (ha : PA X [e] ta) (hs : starEach [e] X.env = [(false, eval e X.env)] := by rfl) :
    PI X (.Tuple elts kk tpos) (.Call (.Name "enumerate" p) [e] [] pos) (iEnumX X.K ta) := by
  refine ⟨fun pins s σ H R I h => ?_⟩
  refine Call_ (ld_blt I hg hm PyProof.Rows.boot_enumerate (PyProof.Rows.callWith_type1 (thn (ha.run pos pins s σ H _ I h) fun us s1 ⟨vs, H1, I1, r1, q1⟩ => ?_) hs rfl))
  obtain ⟨x, S, ex, e1, th1, q⟩ := q1
  subst ex
  obtain ⟨u, rfl, r⟩ := vals1 r1
  obtain ⟨o1, HH1, B1, b1, f1, t1⟩ := Sr.begins I1 r e1 th1
  refine enum1_begins B1 b1 fun h' he hit hsz hk => wpAny_pyIter_enum he ?_
  have I2 : Inv X pins σ H1 { s1 with heap := h' } := I1.kept (t' := s1.toks) hk
  refine ⟨s1.heap.objs.size + 1, [s1.heap.objs.size + 1, s1.heap.objs.size], _, _, H1, rfl, I2, turn_enumX S (fun a ha => Nat.ne_of_lt (f1 a ha)) (Nat.succ_ne_self _) (fun hm => Nat.not_lt.mpr (Nat.le_add_right _ _) (f1 _ hm)), ⟨⟨.none, he⟩, t1 _ _ hit⟩, fun b hb => ?_, q⟩
  have e' : b = s1.heap.objs.size + 1 ∨ b = s1.heap.objs.size := by simpa using hb
  have hle : s1.heap.objs.size ≤ b := by
    rcases e' with z | z
    · rw [z]; exact Nat.le_add_right _ _
    · rw [z]; exact Nat.le_refl _
  exact I1.fpOk hle (I1.hok.fresh hle)
theorem walk_enumX {K : PySem.W.Frag} {S : Sr} {xs : List V} : Walk (IteX K S) xs.length (fun H => S.is K H xs) (YPair (fun i => some (.int (i : Nat))) (fun i => xs[i]?)) := by
  refine ⟨fun i H hi q => Sr.is_has hi q, fun H q => ⟨Sr.is_upto (Nat.le_refl _) q, Sr.is_ends rfl q⟩, fun i H v H' _ q y => ?_⟩
  obtain ⟨T, x, h1, h2, h3, h4⟩ := y
  exact ⟨T, .int (i : Nat), x, h1, h2, h3, rfl, Sr.is_val q h4⟩
theorem dc_keep {Rel : Hp → Hp → Prop} {J : It} {n : Nat} {G : Hp → Prop} {Y : Nat → Hp → V → Hp → Prop} {H1 : Hp} (kp : Keep Rel H1) (w : Walk J n G Y) {g : TG} {ka te : TE} {vs : List Nat} {σ : L2.St} {D : Addr} {Qd : Hp → Prop} (hD : H1 D = none) (hn : n < sizeLine)
    (key : Nat → Key) (Good : Nat → V → Hp → Prop) (hG : ∀ H, Rel H1 H → G H) (inj : ∀ i j, i < n → j < i → key j ≠ key i)
    (st : ∀ i y H H', Rel H1 H → Rel H H' → Good i y H → Good i y H') (pt : ∀ i y H acc o, Rel H1 H → H D = some (.dK acc) → Good i y H → Good i y (upd H D o))
    (hs : ∀ i x H H' acc (R : V → V → Hp → Prop), i < n → Rel H1 H → H D = some (.dK acc) → Y i H x H' → (∀ y H4, Rel H H4 → Good i y H4 → R (kV (key i)) y H4) → g x (wipe σ vs) H' fun σ2 H2 => wipe σ2 vs = wipe σ vs ∧ ka σ2 H2 fun k H3 => te σ2 H3 fun z H4 => R k z H4)
    (hd : ∀ ys H, ys.length = n → (∀ (j : Nat) y, ys[j]? = some y → Good j y H) → Rel H1 H → H D = some (.dK ((List.range n).zip ys |>.map fun p => (key p.1, p.2))) → Qd H) :
    ∃ W : Nat → Nat → Hp → Prop, (∃ m, W 0 m (upd H1 D (.dK []))) ∧ ∀ i m H, W i m H →
      (J.stop i H ∧ Qd H) ∨ (J.go i H ∧ ∃ Nx : Hp → Prop, (∀ H', Nx H' → ∃ m', m' < m ∧ W (i + 1) m' H') ∧ ∀ x H', J.yld i H x H' → g x (wipe σ vs) H' fun σ2 H2 => wipe σ2 vs = wipe σ vs ∧ tYes σ2 H2 fun b H3 =>
        if b = true then ka σ2 H3 fun y H4 => te σ2 H4 fun z H5 => ∃ kvs k, y = kV k ∧ H5 D = some (.dK kvs) ∧ kvs.length < sizeLine ∧ Nx (upd H5 D (.dK (putK kvs k z))) else Nx H3) := by
  refine ⟨fun i m H => m = n - i ∧ i ≤ n ∧ ∃ ys : List V, ys.length = i ∧ H D = some (.dK ((List.range i).zip ys |>.map fun p => (key p.1, p.2))) ∧ Rel H1 H ∧ ∀ (j : Nat) y, ys[j]? = some y → Good j y H, ⟨n, by omega, Nat.zero_le _, [], rfl, upd_same, kp.put _ _ _ kp.refl hD, fun j y e => by simp at e⟩, ?_⟩
  rintro i m H ⟨rfl, hi, ys, hl, hDa, r, hg⟩
  rcases Nat.lt_or_ge i n with h | h
  · refine .inr ⟨w.goes i H h (hG H r), fun H' => ∃ ys : List V, ys.length = i + 1 ∧ H' D = some (.dK ((List.range (i + 1)).zip ys |>.map fun p => (key p.1, p.2))) ∧ Rel H1 H' ∧ ∀ (j : Nat) y, ys[j]? = some y → Good j y H', fun H' h' => ⟨n - (i + 1), by omega, rfl, h, h'⟩, fun x H' hy => ?_⟩
    have key2 : ∀ (z : V) H5, Rel H H5 → Good i z H5 → ∃ kvs k, kV (key i) = kV k ∧ H5 D = some (.dK kvs) ∧ kvs.length < sizeLine ∧ ∃ ys : List V, ys.length = i + 1 ∧ (upd H5 D (.dK (putK kvs k z))) D = some (.dK ((List.range (i + 1)).zip ys |>.map fun p => (key p.1, p.2))) ∧ Rel H1 (upd H5 D (.dK (putK kvs k z))) ∧ ∀ (j : Nat) y, ys[j]? = some y → Good j y (upd H5 D (.dK (putK kvs k z))) := fun z H5 r5 gz => by
      have hD5 := kp.get _ _ _ _ r5 hD r hDa
      have r6 := kp.trans _ _ r r5
      refine ⟨_, key i, rfl, hD5, by rw [List.length_map, List.length_zip, List.length_range, hl]; omega, ys ++ [z], by simp [hl], ?_, kp.put _ _ _ r6 hD, fun j y e => ?_⟩
      · rw [upd_same]
        congr 2
        rw [putK_new _ (valV_none fun p hp => ?_), List.range_succ, List.zip_append (by rw [List.length_range, hl])]
        · simp
        · obtain ⟨q, hq, rfl⟩ := List.mem_map.mp hp
          have : q.1 < i := List.mem_range.mp (List.of_mem_zip hq).1
          exact inj i q.1 h this
      · rcases Nat.lt_or_ge j ys.length with h | h
        · rw [List.getElem?_append_left h] at e
          exact pt _ _ _ _ _ r6 hD5 (st _ _ _ _ r r5 (hg j y e))
        · rw [List.getElem?_append_right h] at e
          have hj : j - ys.length = 0 := by
            rcases Nat.lt_or_ge (j - ys.length) 1 with z | z
            · omega
            · rw [List.getElem?_eq_none (by simpa using z)] at e; cases e
          rw [hj] at e
          have : z = y := Option.some.inj e
          subst this
          have : j = i := by omega
          subst this
          exact pt _ _ _ _ _ r6 hD5 gz
    exact hs i x H H' _ (fun k z H5 => ∃ kvs k', k = kV k' ∧ H5 D = some (.dK kvs) ∧ kvs.length < sizeLine ∧ ∃ ys : List V, ys.length = i + 1 ∧ (upd H5 D (.dK (putK kvs k' z))) D = some (.dK ((List.range (i + 1)).zip ys |>.map fun p => (key p.1, p.2))) ∧ Rel H1 (upd H5 D (.dK (putK kvs k' z))) ∧ ∀ (j : Nat) y, ys[j]? = some y → Good j y (upd H5 D (.dK (putK kvs k' z)))) h r hDa (w.yields i H x H' h (hG H r) hy) fun y H4 r4 gy => key2 y H4 r4 gy
  · have : i = n := by omega
    subst this
    exact .inl ⟨w.stops H (hG H r), hd ys H hl hg r hDa⟩
end LX
set_option maxHeartbeats 4000000
namespace LX
open PySem PySem.Spec PyProof.Rows L2 C8 SX
theorem inK {X : Cx} (K : PySem.W.Frag) (h : X.K = K := by rfl) : OpR X (compareOp .In) (rIn K false) := by subst h; exact op_in_seq
theorem notInK {X : Cx} (K : PySem.W.Frag) (h : X.K = K := by rfl) : OpR X (compareOp .NotIn) (rIn K true) := by subst h; exact op_notIn_seq
section
variable {prog : Program} {w : World} {A : Around} {R : Result → Shared → Prop} {I S : Addr} {fp wr : List Addr} {G : Array GenState → Array GenState → Prop} {n : Nat} {P : Nat → Value → Prop} {St : Nat → Shared → Prop}
abbrev setO (led : Bool) : Obj := { cls := .type "set", dict := none, data := .set #[] 0 (.fresh 0 0 led) }
abbrev Elem (prog : Program) (w : World) (xs : List Str) (i : Nat) (S : Addr) (h : Heap) : Prop := h.SetOf (PySem.strKind prog w) S (fun k => decide (k ∈ xs.take i)) i
theorem Elem.stay {xs : List Str} {i : Nat} {h h' : Heap} (e : Elem prog w xs i S h) (k : ∀ o, h.get? S = some o → h'.get? S = some o) : Elem prog w xs i S h' :=
  let ⟨o, es, ep, tb, ho, rest⟩ := e; ⟨o, es, ep, tb, k o ho, rest⟩
theorem set_loopT (W : WalksS prog w A.in1 I fp wr G n P St) (off : S ∉ fp) {xs : List Str} (hl : xs.length = n) (nd : xs.Nodup) (room : n < scanBound) (val : ∀ i v, P i v → ∃ x t, xs[i]? = some x ∧ v = .str x t) :
    ∀ (k i : Nat) (s : Shared), i + k = n → St i s → Elem prog w xs i S s.heap → (∀ s', Moved (S :: wr) G s s' → Elem prog w xs n S s'.heap → R (.ok (.ret .none)) s') →
      codeAny (model prog w) A (.builtin "set.update.loop" ⟨[.ref S, .ref I], []⟩) R s
  | 0, i, s, hk, hst, he, hR => by
    obtain rfl : i = n := hk
    refine codeAny_builtin PyProof.Rows.F.entry_set_update_loop ?_
    rw [Around.under_plainId PyProof.Rows.F.plain_set_update_loop _]
    refine wpAny_bind (W.done s _ _ hst fun s' hm => wpAny_pure (hR s' (hm.mono fun b hb => List.mem_cons_of_mem _ hb) (he.stay fun o e => hm.heap S o (fun h => off (W.sub _ h)) e)))
  | k + 1, i, s, hk, hst, he, hR => by
    refine codeAny_builtin PyProof.Rows.F.entry_set_update_loop ?_
    rw [Around.under_plainId PyProof.Rows.F.plain_set_update_loop _]
    refine wpAny_bind (W.item i s _ _ (by omega) hst fun v s' hP hst' hm => ?_)
    obtain ⟨x, t, hx, rfl⟩ := val i v hP
    have he' : Elem prog w xs i S s'.heap := he.stay fun o e => hm.heap S o (fun h => off (W.sub _ h)) e
    show wpAny _ A.in1 (holding [Value.str x t] (setAdd S (.str x t)) >>= _) _ _ s'
    refine wpAny_bind (wpAny_holding ?_)
    unfold setAdd
    refine wpAny_holding (wpAny_bind ((PySem.strKind prog w).pyHash (k := x) (strKind_is _ _ _ _) ?_))
    refine wpAny_setAddHashed_of (knd := PySem.strKind prog w) (s := { s' with toks := s'.toks + 1 }) (strKind_is _ _ _ _) rfl he' (by omega) fun h' hsb hS2 => ?_
    have hni : x ∉ xs.take i := not_in_take nd hx
    have he2 : Elem prog w xs (i + 1) S h' := SetOf_congr hS2 (fun y => by rw [take_more hx]; by_cases e : y ∈ xs.take i <;> by_cases e2 : y = x <;> simp [e, e2]) (by rw [if_neg (by simpa using hni)])
    refine wpAny_pure ⟨plainId_quiet PyProof.Rows.F.plain_set_update_loop _, set_loopT W off hl nd room val k (i + 1) _ (by omega) (W.frame _ s' _ _ hst' (Nat.le_succ _) fun b hb o e => ?_) he2 fun s2 hm2 he3 => ?_⟩
    · rw [hsb.2 b (fun h => off (h ▸ hb))]; exact e
    · refine hR s2 (Moved.trans W.gtrans ((hm.mono fun b hb => List.mem_cons_of_mem _ hb).then_heap (Nat.le_succ _) fun b o hb e => ?_) hm2) he3
      rw [hsb.2 b (fun h => hb (by rw [h]; exact List.mem_cons_self))]; exact e
end
section
variable {prog : Program} {w : World} {A : Around} {E : Value → Shared → Prop} {s : Shared}
theorem set_of_list {l : Addr} {items : Array Value} {xs : List Str} {Q : Value → Shared → Prop} (hh : A.handled = none) (hl : s.heap.IsList l items) (hi : PyProof.Rows.StrsAre items.toList xs) (nd : xs.Nodup) (room : xs.length < scanBound)
    (h : ∀ (h' : Heap) (tk : Nat), Elem prog w xs xs.length s.heap.objs.size h' → (∀ b o, s.heap.get? b = some o → h'.get? b = some o) → Q (.ref s.heap.objs.size) { s with heap := h', toks := tk }) :
    wpAny (model prog w) A (call (.type "set") [.ref l]) Q E s := by
  obtain ⟨c, tl, hmro⟩ := PySem.F.called_set.mro
  have hmade := PySem.F.called_set.made
  have hsub := PySem.F.called_set.sub
  refine wpAny_call (codeAny_of_tree ?_)
  refine wpAny_pure ⟨Code.quiet_builtin _ (by decide +kernel), codeAny_builtin PySem.F.entry_type_call ?_⟩
  rw [Around.under_plain (weight_type_call_type "set" [.ref l] []) rfl]
  have nt := PySem.F.called_set.notType
  have cc := PySem.F.called_set.canCreate
  have ct := PySem.F.typeCall_set_1 (.ref l)
  repeat (any_goals (first | assumption | wp_step))
  refine codeAny_mono (code_set_new_1 (.ref l) (E := E) (Q₁ := fun obj s1 => ∃ led : Bool, obj = .ref s.heap.objs.size ∧ s1 = { s with heap := s.heap.push { cls := .type "set", dict := none, data := .set #[] 0 (.fresh 0 0 led) } }) fun led => ⟨led, rfl, rfl⟩) fun r s1 hr => ?_
  match r, hr with
  | .ok (.ret obj), hr =>
    obtain ⟨led, rfl, rfl⟩ := hr
    have hS : (s.heap.push (setO led)).get? s.heap.objs.size = some (setO led) := Heap.get?_push_size _ rfl
    have hTy : Shared.TypeIs { s with heap := s.heap.push (setO led) } (.ref s.heap.objs.size) "set" := ⟨_, hS, rfl⟩
    have li := PySem.F.called_set.init.lookup
    have bi := PySem.F.called_set.init.bind (.ref s.heap.objs.size)
    repeat (any_goals (first | assumption | wp_step))
    refine codeAny_mono (codeAny_call_builtin (R := wants (fun r s2 => r = .none ∧ ∃ h' tk, s2 = { s with heap := h', toks := tk } ∧ Elem prog w xs xs.length s.heap.objs.size h' ∧ (∀ b o, s.heap.get? b = some o → h'.get? b = some o)) E)
      PySem.F.called_set.init.plain PySem.F.entry_set_init (check_set_init_1 hTy ?_)) fun r2 s2 hr2 => ?_
    · obtain ⟨⟨oc, od, odt, osl⟩, hol, hcl, nl, hdl⟩ := hl
      dsimp only at hcl hdl
      subst hcl hdl
      have hol' : (s.heap.push (setO led)).get? l = some { cls := .type "list", dict := od, data := .seq items nl, slots := osl } := Heap.get?_push_of_some _ hol
      have ss := PySem.F.sub_list_set
      have sf := PySem.F.sub_list_frozenset
      have ne : (Value.type "list" == Value.type "dict") = false := by decide
      have hl1 : (s.heap.push (setO led)).IsList l items := ⟨_, hol', rfl, nl, rfl⟩
      unfold Builtin.«set.__init__» noKeywords Builtin.Frozenset.updateFrom
      generalize hPI : pyIter = PI
      wp_walk
      subst hPI
      refine wpAny_pyIter_list hl1 ?_
      refine wpAny_bind (wpAny_runValue ?_)
      have hlS : l < s.heap.objs.size := Heap.lt_size hol
      have hz : (s.heap.push (setO led)).objs.size = s.heap.objs.size + 1 := Heap.size_push ..
      have neI : l ≠ (s.heap.push (setO led)).objs.size := by rw [hz]; exact Nat.ne_of_lt (Nat.lt_succ_of_lt hlS)
      have off : s.heap.objs.size ∉ [(s.heap.push (setO led)).objs.size, l] := by
        rw [hz]; simp only [List.mem_cons, List.not_mem_nil, or_false, not_or]
        exact ⟨Nat.ne_of_lt (Nat.lt_succ_self _), Nat.ne_of_gt hlS⟩
      have hsz : xs.length = items.size := by rw [← StrsAre.len_eq hi, Array.length_toList]
      refine set_loopT (xs := xs) ((Walks.list (A := A.in1.in1.in1) (by simp [hh]) _ l neI items).toS) off hsz nd (by rw [← hsz]; exact room) (fun i v hv => ?_) items.size 0 _ (Nat.zero_add _) ⟨⟨_, Heap.get?_push_size _ rfl, rfl, rfl⟩, hl1.push _⟩ ?_ fun s' hm hS' => ?_
      · obtain ⟨t, e⟩ := SS.strs_at hi i v (by rw [Array.getElem?_toList]; exact hv)
        have hlt : i < xs.length := by rw [hsz]; exact (Array.getElem?_eq_some_iff.mp hv).1
        exact ⟨xs[i], t, List.getElem?_eq_getElem hlt, by rw [e, List.getD_eq_getElem?_getD, List.getElem?_eq_getElem hlt]; rfl⟩
      · exact PyProof.Rows.SetOf_congr ((PyProof.Rows.setObjOf_fresh (knd := PySem.strKind prog w) led).setOf (Heap.get?_push_of_some _ hS) (by unfold scanBound; omega)) (fun _ => by simp) rfl
      · obtain ⟨h', g', d', tk', os'⟩ := s'
        obtain rfl : g' = s.gens := hm.gens
        obtain rfl : d' = s.drawn := hm.drawn
        obtain rfl : os' = s.os := hm.os
        refine wpAny_pure (wpAny_pure ⟨rfl, h', tk', rfl, by rw [hsz]; exact hS', fun b o e => ?_⟩)
        have hb : b < s.heap.objs.size := Heap.lt_size e
        refine hm.heap b o (fun hmem => ?_) (Heap.get?_push_of_some _ (Heap.get?_push_of_some _ e))
        have e' : b = s.heap.objs.size ∨ b = (s.heap.push (setO led)).objs.size := by simpa using hmem
        rcases e' with e' | e'
        · exact Nat.ne_of_lt hb e'
        · rw [hz] at e'; exact Nat.ne_of_lt (Nat.lt_succ_of_lt hb) e'
    · match r2, hr2 with
      | .ok (.ret r), hr2 =>
        obtain ⟨rfl, h', tk, rfl, hS', hk'⟩ := hr2
        repeat (any_goals (first | assumption | wp_step))
        exact h _ _ hS' hk'
      | .error e, hr2 => exact hr2
  | .error e, hr => exact hr
end
section
variable {prog : Program} {w : World} {A : Around} {E : Value → Shared → Prop} {s : Shared}
theorem set_of_tuple {l : Addr} {items : Array Value} {xs : List Str} {Q : Value → Shared → Prop} (hh : A.handled = none) (hl : s.heap.IsTuple l items) (hi : PyProof.Rows.StrsAre items.toList xs) (nd : xs.Nodup) (room : xs.length < scanBound)
    (h : ∀ (h' : Heap) (tk : Nat), Elem prog w xs xs.length s.heap.objs.size h' → (∀ b o, s.heap.get? b = some o → h'.get? b = some o) → Q (.ref s.heap.objs.size) { s with heap := h', toks := tk }) :
    wpAny (model prog w) A (call (.type "set") [.ref l]) Q E s := by
  obtain ⟨c, tl, hmro⟩ := PySem.F.called_set.mro
  have hmade := PySem.F.called_set.made
  have hsub := PySem.F.called_set.sub
  refine wpAny_call (codeAny_of_tree ?_)
  refine wpAny_pure ⟨Code.quiet_builtin _ (by decide +kernel), codeAny_builtin PySem.F.entry_type_call ?_⟩
  rw [Around.under_plain (weight_type_call_type "set" [.ref l] []) rfl]
  have nt := PySem.F.called_set.notType
  have cc := PySem.F.called_set.canCreate
  have ct := PySem.F.typeCall_set_1 (.ref l)
  repeat (any_goals (first | assumption | wp_step))
  refine codeAny_mono (code_set_new_1 (.ref l) (E := E) (Q₁ := fun obj s1 => ∃ led : Bool, obj = .ref s.heap.objs.size ∧ s1 = { s with heap := s.heap.push { cls := .type "set", dict := none, data := .set #[] 0 (.fresh 0 0 led) } }) fun led => ⟨led, rfl, rfl⟩) fun r s1 hr => ?_
  match r, hr with
  | .ok (.ret obj), hr =>
    obtain ⟨led, rfl, rfl⟩ := hr
    have hS : (s.heap.push (setO led)).get? s.heap.objs.size = some (setO led) := Heap.get?_push_size _ rfl
    have hTy : Shared.TypeIs { s with heap := s.heap.push (setO led) } (.ref s.heap.objs.size) "set" := ⟨_, hS, rfl⟩
    have li := PySem.F.called_set.init.lookup
    have bi := PySem.F.called_set.init.bind (.ref s.heap.objs.size)
    repeat (any_goals (first | assumption | wp_step))
    refine codeAny_mono (codeAny_call_builtin (R := wants (fun r s2 => r = .none ∧ ∃ h' tk, s2 = { s with heap := h', toks := tk } ∧ Elem prog w xs xs.length s.heap.objs.size h' ∧ (∀ b o, s.heap.get? b = some o → h'.get? b = some o)) E)
      PySem.F.called_set.init.plain PySem.F.entry_set_init (check_set_init_1 hTy ?_)) fun r2 s2 hr2 => ?_
    · obtain ⟨⟨oc, od, odt, osl⟩, hol, hcl, nl, hdl⟩ := hl
      dsimp only at hcl hdl
      subst hcl hdl
      have hol' : (s.heap.push (setO led)).get? l = some { cls := .type "tuple", dict := od, data := .seq items nl, slots := osl } := Heap.get?_push_of_some _ hol
      have ss := PySem.F.sub_tuple_set
      have sf := PySem.F.sub_tuple_frozenset
      have ne : (Value.type "tuple" == Value.type "dict") = false := by decide
      have hl1 : (s.heap.push (setO led)).IsTuple l items := ⟨_, hol', rfl, nl, rfl⟩
      unfold Builtin.«set.__init__» noKeywords Builtin.Frozenset.updateFrom
      generalize hPI : pyIter = PI
      wp_walk
      subst hPI
      refine wpAny_pyIter_tuple hl1 ?_
      refine wpAny_bind (wpAny_runValue ?_)
      have hlS : l < s.heap.objs.size := Heap.lt_size hol
      have hz : (s.heap.push (setO led)).objs.size = s.heap.objs.size + 1 := Heap.size_push ..
      have neI : l ≠ (s.heap.push (setO led)).objs.size := by rw [hz]; exact Nat.ne_of_lt (Nat.lt_succ_of_lt hlS)
      have off : s.heap.objs.size ∉ [(s.heap.push (setO led)).objs.size, l] := by
        rw [hz]; simp only [List.mem_cons, List.not_mem_nil, or_false, not_or]
        exact ⟨Nat.ne_of_lt (Nat.lt_succ_self _), Nat.ne_of_gt hlS⟩
      have hsz : xs.length = items.size := by rw [← StrsAre.len_eq hi, Array.length_toList]
      refine set_loopT (xs := xs) ((Walks.tuple (A := A.in1.in1.in1) (by simp [hh]) _ l neI items).toS) off hsz nd (by rw [← hsz]; exact room) (fun i v hv => ?_) items.size 0 _ (Nat.zero_add _) ⟨⟨_, Heap.get?_push_size _ rfl, rfl, rfl⟩, hl1.push _⟩ ?_ fun s' hm hS' => ?_
      · obtain ⟨t, e⟩ := SS.strs_at hi i v (by rw [Array.getElem?_toList]; exact hv)
        have hlt : i < xs.length := by rw [hsz]; exact (Array.getElem?_eq_some_iff.mp hv).1
        exact ⟨xs[i], t, List.getElem?_eq_getElem hlt, by rw [e, List.getD_eq_getElem?_getD, List.getElem?_eq_getElem hlt]; rfl⟩
      · exact PyProof.Rows.SetOf_congr ((PyProof.Rows.setObjOf_fresh (knd := PySem.strKind prog w) led).setOf (Heap.get?_push_of_some _ hS) (by unfold scanBound; omega)) (fun _ => by simp) rfl
      · obtain ⟨h', g', d', tk', os'⟩ := s'
        obtain rfl : g' = s.gens := hm.gens
        obtain rfl : d' = s.drawn := hm.drawn
        obtain rfl : os' = s.os := hm.os
        refine wpAny_pure (wpAny_pure ⟨rfl, h', tk', rfl, by rw [hsz]; exact hS', fun b o e => ?_⟩)
        have hb : b < s.heap.objs.size := Heap.lt_size e
        refine hm.heap b o (fun hmem => ?_) (Heap.get?_push_of_some _ (Heap.get?_push_of_some _ e))
        have e' : b = s.heap.objs.size ∨ b = (s.heap.push (setO led)).objs.size := by simpa using hmem
        rcases e' with e' | e'
        · exact Nat.ne_of_lt hb e'
        · rw [hz] at e'; exact Nat.ne_of_lt (Nat.lt_succ_of_lt hb) e'
    · match r2, hr2 with
      | .ok (.ret r), hr2 =>
        obtain ⟨rfl, h', tk, rfl, hS', hk'⟩ := hr2
        repeat (any_goals (first | assumption | wp_step))
        exact h _ _ hS' hk'
      | .error e, hr2 => exact hr2
  | .error e, hr => exact hr
end
section
variable {X : Cx}
def tLenSetT (K : PySem.W.Frag) (ta : TE) : TE := fun σ H Q => ta σ H fun x H1 => ∃ (l : Addr) (xs : List (List Nat)), x = V.ref l ∧ (SqL K H1 l (txs xs) ∨ SqT K H1 l (txs xs)) ∧ xs.length < 60 ∧ xs.Nodup ∧ Q (.int xs.length) H1
theorem nodup_S {xs : List (List Nat)} (h : xs.Nodup) : (xs.map S).Nodup := List.pairwise_map.mpr (h.imp fun n e => n (by have : (S _).cps.toList = (S _).cps.toList := congrArg (fun z : Str => z.cps.toList) e; simpa [S] using this))
theorem pe_lenSetT {a : Expr} {ta : TE} {p p2 q pos : Pos} (hc : X.calm = true) (hg : Gl X "len") (hm : X.mg "len" = none) (hg2 : Gl X "set") (hm2 : X.mg "set" = none) (ha : PE X a ta)
    (na : starEach [a] X.env = (false, eval a X.env) :: starEach [] X.env := by rfl) : PE X (.Call (.Name "len" p) [.Call (.Name "set" p2) [a] [] q] [] pos) (tLenSetT X.K ta) := by
  refine ⟨fun pins s σ H Q I h => ?_⟩
  refine Call_ (ld_blt I hg hm PySem.boot_len (PyProof.Rows.callWith_builtin1 (PyProof.Rows.args_cons ?_ rfl) rfl rfl))
  refine Call_ (ld_blt I hg2 hm2 PyProof.Rows.boot_set (PyProof.Rows.callWith_type1 (PyProof.Rows.args_cons (thn (ha.run pins s σ H _ I h) fun v s1 ⟨x, H1, I1, r1, q1⟩ => PyProof.Rows.args_nil ?_) na) na rfl))
  obtain ⟨l, xs, rfl, hq, h1, hnd, q1⟩ := q1
  cases r1
  have e0 : txs xs = (xs.map S).map V.str := by unfold txs; rw [List.map_map]; rfl
  have room : (xs.map S).length < scanBound := by rw [List.length_map]; unfold scanBound; omega
  have fin : ∀ (h' : Heap) (tk : Nat), Elem X.prog X.w (xs.map S) (xs.map S).length s1.heap.objs.size h' → (∀ b o, s1.heap.get? b = some o → h'.get? b = some o) →
      wpAny (model X.prog X.w) X.A (spliced (backTo pos (starEach [] X.env))) (fun vs s₂ => wpAny (model X.prog X.w) X.A (call (.builtin "len") (Value.ref s1.heap.objs.size :: vs)) (EP X pins σ Q) X.xe s₂) X.xe { s1 with heap := h', toks := tk } := fun h' tk hS hk => by
    refine PyProof.Rows.args_nil ?_
    obtain ⟨o, es, ep, t, ho, hex, hd, _, _, _, hf, hn⟩ := hS
    have I2 : Inv X pins σ H1 { s1 with heap := h', toks := tk } := I1.kept hk
    rw [List.length_map] at hn
    exact call_len_set ho hex hd hf (by rw [hn]; omega) ⟨.int xs.length, H1, I2.tok _, ⟨_, by rw [hn]⟩, q1⟩
  rcases hq with hq | hq
  · rw [e0] at hq
    obtain ⟨its, r, pl, hz⟩ := I1.list hq
    exact set_of_list (I1.ok.hd hc) pl.isList (by simpa using strsAre_of r) (nodup_S hnd) room fun h' tk hS hk => fin h' tk hS hk
  · rw [e0] at hq
    obtain ⟨its, r, pl, hz⟩ := I1.tuple hq
    exact set_of_tuple (I1.ok.hd hc) pl (by simpa using strsAre_of r) (nodup_S hnd) room fun h' tk hS hk => fin h' tk hS hk
end
end LX
set_option maxHeartbeats 2000000
namespace LX
open PySem PySem.Spec PyProof.Rows L2 C8 SX
def SqB (K : PySem.W.Frag) (b : Bool) (H : Hp) (a : Addr) (xs : List V) : Prop := if b = true then SqL K H a xs else SqT K H a xs
def ItA (K : PySem.W.Frag) (b : Bool) (a : Addr) : It := if b = true then Itl K a else Itt K a
theorem SqB.or {K : PySem.W.Frag} {b : Bool} {H : Hp} {a : Addr} {xs : List V} (h : SqB K b H a xs) : SqL K H a xs ∨ SqT K H a xs := by
  cases b
  · exact .inr h
  · exact .inl h
theorem SqB.same {K : PySem.W.Frag} {b : Bool} {H H' : Hp} {a : Addr} {xs : List V} (h : SqB K b H a xs) (s : Same H H') : SqB K b H' a xs := by
  cases b
  · exact sm_seqT s h
  · exact s.seq h
theorem SqB.lst {K : PySem.W.Frag} {H : Hp} {a : Addr} {xs : List V} (h : H a = some (.lst xs)) : SqB K true H a xs := SqL.of h
theorem SqB.tup {K : PySem.W.Frag} {H : Hp} {a : Addr} {xs : List V} (h : H a = some (.tup xs)) : SqB K false H a xs := SqT.of h
def seqB (b : Bool) (xs : List V) : HO := if b = true then .lst xs else .tup xs
theorem SqB.of {K : PySem.W.Frag} {b : Bool} {H : Hp} {a : Addr} {xs : List V} (h : H a = some (seqB b xs)) : SqB K b H a xs := by
  cases b
  · exact SqB.tup h
  · exact SqB.lst h
theorem walk_seq {K : PySem.W.Frag} {b : Bool} {a : Addr} {xs : List V} : Walk (ItA K b a) xs.length (fun H => SqB K b H a xs) (YAt xs) := by
  cases b
  · exact walk_tup
  · exact walk_list
def iSeq (K : PySem.W.Frag) (tl : TE) : TI := fun σ H R => tl σ H fun x H1 => ∃ a b xs, x = .ref a ∧ SqB K b H1 a xs ∧ R (ItA K b a) H1
theorem pi_seq {X : Cx} {tg l : Expr} {tl : TE} (hl : PE X l tl) : PI X tg l (iSeq X.K tl) := by
  refine ⟨fun pins s σ H R I h => thn (hl.run pins s σ H _ I h) fun v s1 ⟨x, H1, I1, r1, a, b, xs, e, hq, q⟩ => ?_⟩
  subst e
  cases r1
  have new : ∀ c ∈ [s1.heap.objs.size], FpOk X pins H1 c := fun c hc => by
    rw [List.mem_singleton.mp hc]
    exact I1.fpOk (Nat.le_refl _) (I1.hok.fresh (Nat.le_refl _))
  cases b with
  | true =>
    obtain ⟨its, rv, p, hz⟩ := I1.list hq
    exact wpAny_pyIter_list p.isList ⟨s1.heap.objs.size, _, _, _, H1, rfl, I1.kept (t' := s1.toks) fun b o e => Heap.get?_push_of_some _ e, turn_list a _, ⟨_, Heap.get?_push_size _ rfl, rfl, rfl⟩, new, q⟩
  | false =>
    obtain ⟨its, rv, p, hz⟩ := I1.tuple hq
    exact wpAny_pyIter_tuple (show s1.heap.IsTuple a its.toArray from p) ⟨s1.heap.objs.size, _, _, _, H1, rfl, I1.kept (t' := s1.toks) fun b o e => Heap.get?_push_of_some _ e, turn_tuple a _, ⟨_, Heap.get?_push_size _ rfl, rfl, rfl⟩, new, q⟩
theorem pi_listK {X : Cx} {tg l : Expr} {tl : TE} (K : PySem.W.Frag) (hl : PE X l tl) (h : X.K = K := by rfl) : PI X tg l (iList K tl) := by subst h; exact pi_list hl
theorem pi_tupK {X : Cx} {tg l : Expr} {tl : TE} (K : PySem.W.Frag) (hl : PE X l tl) (h : X.K = K := by rfl) : PI X tg l (iTup K tl) := by subst h; exact pi_tup hl
theorem pi_seqK {X : Cx} {tg l : Expr} {tl : TE} (K : PySem.W.Frag) (hl : PE X l tl) (h : X.K = K := by rfl) : PI X tg l (iSeq K tl) := by subst h; exact pi_seq hl
def inS : Expr → Scope
  | .ListComp (.ListComp _ _ s _) _ _ _ => s
  | _ => { kind := .function, names := [], isGenerator := false, isCoroutine := false }
def outS : Expr → Scope
  | .ListComp _ _ s _ => s
  | _ => { kind := .function, names := [], isGenerator := false, isCoroutine := false }
def ofRet : Stmt → Expr
  | .Return (some e) _ => e
  | .Assign _ e _ => e
  | _ => .Constant .none 0 ⟨0, 0, 0, 0⟩
theorem tuple_of {K : PySem.W.Frag} {b : Bool} {H : Hp} {a : Addr} {xs : List V} {Q : VK} (h : SqB K b H a xs) (q1 : ∀ l, H l = none → Q (.ref l) (upd H l (.tup xs))) (q2 : b = false → Q (.ref a) H) :
    (SqL K H a xs ∧ ∀ l, H l = none → Q (.ref l) (upd H l (.tup xs))) ∨ (SqT K H a xs ∧ Q (.ref a) H) := by
  cases b
  · exact .inr ⟨h, q2 rfl⟩
  · exact .inl ⟨h, q1⟩
theorem tupA {K : PySem.W.Frag} {b : Bool} {H : Hp} {a : Addr} {xs : List V} {Q : VK} (h : H a = some (seqB b xs)) (k : ∀ l H', Same H H' → H' l = some (.tup xs) → (b = false → l = a) → (b = true → H l = none) → Q (.ref l) H') :
    (SqL K H a xs ∧ ∀ l, H l = none → Q (.ref l) (upd H l (.tup xs))) ∨ (SqT K H a xs ∧ Q (.ref a) H) := by
  cases b
  · exact .inr ⟨SqT.of h, k a H (Same.refl H) h (fun _ => rfl) (fun h => nomatch h)⟩
  · exact .inl ⟨SqL.of h, fun l hl => k l _ (sm_new hl) upd_same (fun h => nomatch h) (fun _ => hl)⟩
theorem tCB_tup {K : PySem.W.Frag} {b : Bool} {i : Nat} {σ : L2.St} {H : Hp} {a : Addr} {xs : List V} {Q : VK} (hv : σ[i]? = some (some (.ref a))) (h : H a = some (seqB b xs)) (k : ∀ l H', Same H H' → H' l = some (.tup xs) → (b = false → l = a) → (b = true → H l = none) → Q (.ref l) H') :
    tCB (fun xs H Q => ∃ p ys, xs = [.ref p] ∧ ((SqL K H p ys ∧ ∀ l, H l = none → Q (.ref l) (upd H l (.tup ys))) ∨ (SqT K H p ys ∧ Q (.ref p) H))) (tCons (tVar i) tNil) σ H Q :=
  ⟨_, hv, a, xs, rfl, tupA (Q := Q) h k⟩
theorem eqV_S {x y : List Nat} : eqV (.str (S x)) (.str (S y)) = decide (x = y) := by
  show (S x == S y) = _
  by_cases e : x = y
  · subst e; simp
  · have : S x ≠ S y := fun h => e (by have : (S x).cps.toList = (S y).cps.toList := congrArg (fun z : Str => z.cps.toList) h; simpa [S] using this)
    rw [decide_eq_false e]; simpa using this
theorem flat_txs (xs : List (List Nat)) : (txs xs).all flatV = true := by
  unfold txs; rw [List.all_map]; exact List.all_eq_true.mpr fun _ _ => rfl
theorem inV_txs {x : List Nat} {xs : List (List Nat)} : inV (.str (S x)) (txs xs) = decide (x ∈ xs) := by
  unfold inV txs
  induction xs with
  | nil => rfl
  | cons y ys ih =>
    rw [List.map_cons, List.any_cons, ih]
    show (eqV (.str (S y)) (.str (S x)) || _) = _
    rw [eqV_S]
    by_cases e : y = x <;> by_cases e2 : x ∈ ys <;> simp [e, e2]
    · intro h; exact absurd h.symm e
theorem dictZipK {X : Cx} (K : PySem.W.Frag) {e e2 : Expr} {ta : TA} {p p2 pos pos2 : Pos} (hc : X.calm = true) (hgd : Gl X "dict") (hmd : X.mg "dict" = none) (hg : Gl X "zip") (hm : X.mg "zip" = none) (ha : PA X [e, e2] ta) (h : X.K = K := by rfl)
    (hs : starEach [e, e2] X.env = (false, eval e X.env) :: starEach [e2] X.env := by rfl) (hpl : (backTo pos2 (starEach [e2] X.env)).any (·.1) = false := by rfl)
    (hs' : starEach [.Call (.Name "zip" p2) [e, e2] [] pos2] X.env = (false, eval (.Call (.Name "zip" p2) [e, e2] [] pos2) X.env) :: starEach [] X.env := by rfl) (hpl' : (backTo pos (starEach [] X.env)).any (·.1) = false := by rfl) :
    PE X (.Call (.Name "dict" p) [.Call (.Name "zip" p2) [e, e2] [] pos2] [] pos) (tDictZip K ta) := by subst h; exact pe_dictZip hc hgd hmd hg hm ha hs hpl hs' hpl'
end LX
set_option maxHeartbeats 2000000
namespace LX
open PySem PySem.Spec PyProof.Rows L2 C8 SX NdefX
noncomputable def upB (h base : Heap) (cs : List Addr) : Heap := hidT h fun b => if (base.get? b).isSome = true ∨ b ∈ cs then none else some (.lst [])
theorem upB_get {h base : Heap} {cs : List Addr} {b : Addr} {o : Obj} (e : h.get? b = some o) (n : (base.get? b).isSome = true ∨ b ∈ cs) : (upB h base cs).get? b = some o := hidT_get e (if_pos n)
theorem of_upB {h base : Heap} {cs : List Addr} {b : Addr} {o : Obj} (e : (upB h base cs).get? b = some o) : h.get? b = some o ∧ ((base.get? b).isSome = true ∨ b ∈ cs) := by
  obtain ⟨e1, e2⟩ := of_hidT e
  refine ⟨e1, ?_⟩
  by_cases n : (base.get? b).isSome = true ∨ b ∈ cs
  · exact n
  · have e2 : (if (base.get? b).isSome = true ∨ b ∈ cs then none else some (HO.lst [])) = none := e2
    rw [if_neg n] at e2; cases e2
structure BCells (cl : List (Str × Addr)) (fr : List Str) (ws : List (Option V)) (base : Heap) : Prop where
  len : ws.length = fr.length
  all : ∀ y c, cl.lookup y = some c → ∃ v, base.IsCell c v
  inj : ∀ x y c, cl.lookup x = some c → cl.lookup y = some c → x = y
  has : ∀ (i : Nat) (y : Str), fr[i]? = some y → ∃ c, cl.lookup y = some c ∧ ∀ v, ws[i]? = some (some v) → ∃ u, RelV v u ∧ base.IsCell c (some u)
theorem BCells.at_ {cl : List (Str × Addr)} {fr : List Str} {ws : List (Option V)} {base : Heap} (b : BCells cl fr ws base) {h : Heap} {H : Hp} (bs : ∀ b o, base.get? b = some o → h.get? b = some o ∧ H b = none) : CellsAt cl fr ws h H :=
  ⟨b.len, fun y c e => let ⟨v, o, e1, e2⟩ := b.all y c e; ⟨(bs _ _ e1).2, v, o, (bs _ _ e1).1, e2⟩, b.inj, fun i y e => let ⟨c, e1, f⟩ := b.has i y e; ⟨c, e1, fun v hv => let ⟨u, r, o, e2, e3⟩ := f v hv; ⟨u, r, o, (bs _ _ e2).1, e3⟩⟩⟩
section
variable {X : Cx} {pins : List (Addr × Obj)} {σ : L2.St} {H : Hp} {s : Shared}
theorem funs_up {h base : Heap} {cs : List Addr} : ∀ {l : List Env}, h.FunFrames base l → (∀ b ∈ frs l, b ∉ cs) → h.FunFrames (upB h base cs) l
  | [], _, _ => trivial
  | env :: rest, ⟨a, ⟨L, o, e1, e2, e3, e4⟩, r⟩, n => by
    have hm : L ∈ frs (env :: rest) := by unfold frs; rw [List.filterMap_cons, e1]; exact List.mem_cons_self
    refine ⟨a, ⟨L, o, e1, ?_, e3, e4⟩, funs_up r fun b hb => n b ?_⟩
    · cases q : (upB h base cs).get? L with
      | none => rfl
      | some o' =>
        rcases (of_upB q).2 with z | z
        · rw [e2] at z; cases z
        · exact absurd z (n L hm)
    · unfold frs at hb ⊢; rw [List.filterMap_cons, e1]; exact List.mem_cons_of_mem _ hb
theorem env_up (I : Inv X pins σ H s) {cs : List Addr} (hc : ∀ c ∈ cs, ∃ x, X.env.cells.lookup x = some c ∧ X.fn x = true) : Env0 X.prog X.w X.K X.mg (upB s.heap X.base cs) X.A X.stack s H := by
  have e0 := I.env0
  have k : ∀ b o, X.base.get? b = some o → (upB s.heap X.base cs).get? b = some o := fun b o e => upB_get (e0.bs b o e).1 (.inl (by rw [e]; rfl))
  obtain ⟨mb, b1, b2⟩ := e0.mod.blt
  refine ⟨e0.frames, ⟨fun b o e => k b o (e0.mod.kin b o e), e0.mod.glob.keeps k, ⟨mb, b1.keeps k, b2⟩, e0.mod.nolimit.keeps k⟩, fun b o e => ?_, Nat.le_of_eq (hidT_size _ _), funs_up e0.funs fun L hL hm => ?_, e0.frf, e0.hok, e0.bare⟩
  · obtain ⟨e1, n⟩ := of_upB e
    refine ⟨e1, ?_⟩
    rcases n with n | n
    · obtain ⟨o', q⟩ := Option.isSome_iff_exists.mp n
      exact (e0.bs b o' q).2
    · obtain ⟨x, hx, _⟩ := hc b n
      exact I.freeC x b hx
  · obtain ⟨x, hx, hf⟩ := hc L hm
    have above := I.ok.cab x L hf hx
    have out : ∀ l : List Env, X.s_0.heap.FunFrames X.base l → L ∈ frs l → False := fun l => by
      induction l with
      | nil => intro _ h; simp [frs] at h
      | cons env rest ih =>
        rintro ⟨_, ⟨M, o, e1, _, e3, _⟩, r⟩ h
        unfold frs at h; rw [List.filterMap_cons, e1] at h
        rcases List.mem_cons.mp h with z | z
        · have := Heap.lt_size e3
          rw [← z] at this
          exact Nat.lt_irrefl _ (Nat.lt_of_lt_of_le this above)
        · exact ih r z
    rcases I.ok.stk with e | ⟨e, ef⟩
    · rw [e] at hL; exact out _ I.ok.funs hL
    · rw [e] at hL
      unfold frs at hL; rw [List.filterMap_cons, ef] at hL
      rcases List.mem_cons.mp hL with z | z
      · obtain ⟨m, ⟨o, es, ep, e1, e2, _⟩, _⟩ := I.loc
        obtain ⟨v, o', q1, q2⟩ := I.cell x L hx
        rw [z, e1] at q1
        cases q1
        rw [e2] at q2; cases q2
      · exact out _ I.ok.funs z
theorem cells_up (I : Inv X pins σ H s) {cl : List (Str × Addr)} {fr : List Str} {js : List Nat} (c : Caps X cl fr js) : BCells cl fr (js.map (slotAt σ)) (upB s.heap X.base (cl.map (·.2))) := by
  have C := cells_of I c
  have mem : ∀ {y : Str} {a : Addr}, cl.lookup y = some a → a ∈ cl.map (·.2) := fun {y a} h => by
    obtain ⟨l1, l2, e, _⟩ := List.lookup_eq_some_iff.mp h
    rw [e]; simp
  refine ⟨C.len, fun y a e => ?_, C.inj, fun i y e => ?_⟩
  · obtain ⟨_, v, o, e1, e2⟩ := C.all y a e
    exact ⟨v, o, upB_get e1 (.inr (mem e)), e2⟩
  · obtain ⟨a, e1, f⟩ := C.has i y e
    exact ⟨a, e1, fun v hv => let ⟨u, r, o, e2, e3⟩ := f v hv; ⟨u, r, o, upB_get e2 (.inr (mem e1)), e3⟩⟩
def tUp (S : List (Option V) → Sp → Prop) (js : List Nat) (t : TA) : TE := fun σ H Q => t σ H fun vs H1 => ∃ sp, S (js.map (slotAt σ)) sp ∧ sp vs H1 Q C8.E0
theorem pe_cUp {k j : Nat} {g : Addr} {x : Str} {p pos : Pos} {e : Expr} {es : List Expr} {t : TA} {cl : List (Str × Addr)} {fr : List Str} {js : List Nat} {S : List (Option V) → Sp → Prop} (named : X.mg x = some (.ref g)) (kept : PySem.W.keepIn X.K (.ref g) = true)
    (cp : X.Ok → Caps X cl fr js) (hfn : ∀ y c, cl.lookup y = some c → X.fn y = true)
    (hS : ∀ ws sp (base' : Heap), S ws sp → X.K.In base' → base'.Ns mainGlobals X.mg → BCells cl fr ws base' → Cal X.prog X.w X.K X.mg base' k x sp []) (room : Room j X.A) (hk : k ≤ j) (hg : Gl X x) (ha : PA X (e :: es) t) (nd : cl.map (·.1) |>.Nodup) (hdb : (x == ("__debug__" : Str)) = false := by decide)
    (he : starEach (e :: es) X.env = (false, eval e X.env) :: starEach es X.env := by rfl) (hpl : (backTo pos (starEach es X.env)).any (·.1) = false := by rfl) : PE X (.Call (.Name x p) (e :: es) [] pos) (tUp S js t) := by
  constructor
  intro pins s σ H Q I want
  refine wpAny_Call_Name_kw (ld_glob I hg named ?_ hdb)
  refine PySem.W.callWith_K (h₀ := X.base) I.ok.mod.kin kept (thn (ha.run pos pins s σ H _ I want) ?_) he hpl
  rintro us s1 ⟨vs, H1, I1, rel, sp, s0, q⟩
  refine ⟨I1.kIn, ?_⟩
  have C := cp I1.ok
  have hcs : ∀ c ∈ cl.map (·.2), ∃ x, X.env.cells.lookup x = some c ∧ X.fn x = true := fun c hc => by
    obtain ⟨⟨y, c'⟩, hm, rfl⟩ := List.mem_map.mp hc
    have hl : cl.lookup y = some c' := by
      clear C hfn hS cp
      induction cl with
      | nil => cases hm
      | cons a r ih =>
        obtain ⟨z, d⟩ := a
        rw [List.map_cons, List.nodup_cons] at nd
        rcases List.mem_cons.mp hm with h | h
        · cases h; exact List.lookup_cons_self ..
        · have hne : (y == z) = false := by
            refine beq_eq_false_iff_ne.mpr fun e => nd.1 ?_
            rw [← e]; exact List.mem_map_of_mem (f := (·.1)) h
          rw [List.lookup_cons, hne]
          exact ih nd.2 h (List.mem_map_of_mem (f := (·.2)) h)
    exact ⟨y, C.sub y c' hl, hfn y c' hl⟩
  have E1 := env_up I1 hcs
  obtain ⟨f, fd, ps, ds, F, named', _, bd, dv⟩ := (hS _ sp _ s0 E1.mod.kin E1.mod.glob (cells_up I1 C)).ex
  rw [named] at named'
  cases named'
  cases dv
  have count : (us ++ []).length = ps.length := by rw [List.append_nil, ← rel.length]; exact F.len _ _ _ _ q
  have bs := bd s1 us I1.kIn count
  rw [List.append_nil] at bs
  refine wpAny_call (codeAny_mono (F.run X.A X.stack s1 H1 ⟨us, []⟩ us vs Q C8.E0 (room.mono hk) E1 bs rel q) fun r t' got => ?_)
  match r, got with
  | .ok (.ret u), got => exact I1.after got
end
def CV (P : Program) (w : World) (K : PySem.W.Frag) (mg : Str → Option Value) (base : Heap) (k : Nat) (g : Addr) (tr : Hp → Prop) (sp : Sp) : Prop :=
  Held P w K mg base k g sp ∨
    ∃ (F : NF) (ps fr : List Str) (ws : List (Option V)) (nsp : List (Option V) → Sp), NOk P w K mg base C8.CX0 k g F ps fr nsp ∧ (∀ vs H Q, tr H → sp vs H Q C8.E0 → nsp ws vs H Q C8.E0) ∧ BCells F.cl fr ws base ∧ ∀ H, tr H → H g = some (FnO g F) ∧ H F.c = some (LamX.CodeO F.c F.qual)
def tCallV (i : Nat) (g : Addr) (tr : Hp → Prop) (sp : Sp) (t : TA) : TE := fun σ H Q => σ[i]? = some (some (.ref g)) ∧ tr H ∧ t σ H fun vs H1 => tr H1 ∧ sp vs H1 Q C8.E0
theorem pe_callV {X : Cx} {k j i : Nat} {g : Addr} {tr : Hp → Prop} {sp : Sp} {x : Str} {p pos : Pos} {e : Expr} {es : List Expr} {t : TA} (c : CV X.prog X.w X.K X.mg X.base k g tr sp) (room : Room j X.A) (hk : k ≤ j) (hN : X.N[i]? = some x) (hv : Vis X.env.scope x) (ha : PA X (e :: es) t)
    (hd : (x == ("__debug__" : Str)) = false := by decide) (hcd : (x == ("__classdict__" : Str)) = false := by decide)
    (he : starEach (e :: es) X.env = (false, eval e X.env) :: starEach es X.env := by rfl) (hpl : (backTo pos (starEach es X.env)).any (·.1) = false := by rfl) : PE X (.Call (.Name x p) (e :: es) [] pos) (tCallV i g tr sp t) := by
  constructor
  rintro pins s σ H Q I ⟨hs, ht, want⟩
  rcases c with ⟨fd, ps, F, kept, bd⟩ | ⟨F, ps, fr, ws, nsp, N, hsp, B, htr⟩
  · have F' : FnOk X.prog X.w X.K X.mg X.base (fun _ _ _ _ _ _ => False) k g fd ps (fun vs H Q E => tr H ∧ sp vs H Q E) := F.imp fun _ _ _ _ q => q.2
    refine (pe_callL (i := i) (dvs := []) (E := fun _ _ _ => False) F' (room.mono hk) hN hv kept bd .nil (fun _ _ _ _ _ _ _ z => z.elim) ha hd hcd he hpl).run pins s σ H Q I ⟨hs, ?_⟩
    have e0 : (fun (vs : List V) (H1 : Hp) => tr H1 ∧ sp (vs ++ []) H1 Q fun _ _ _ => False) = fun vs H1 => tr H1 ∧ sp vs H1 Q C8.E0 := by funext vs H1; rw [List.append_nil]; rfl
    show t σ H fun vs H1 => tr H1 ∧ sp (vs ++ []) H1 Q fun _ _ _ => False
    rw [e0]; exact want
  · refine wpAny_Call_Name_kw (thn ((pe_var (pos := p) hN hv hd hcd).run pins s σ H (fun v H1 => v = .ref g ∧ H1 = H) I ⟨.ref g, hs, rfl, rfl⟩) fun u s1 ⟨v, H1, I1, r1, ev, eH⟩ => ?_)
    subst ev
    rw [eH] at I1
    obtain rfl : u = Value.ref g := r1
    refine PySem.W.callWith_F (first := []) (fnAt_of I1 (htr H ht).1) (thn (ha.run pos pins s1 σ H _ I1 want) fun us s2 ⟨vs, H2, I2, r, h1, q⟩ => ⟨fnAt_of I2 (htr H2 h1).1, ?_⟩) he hpl
    refine wpAny_call (codeAny_mono (N.run X.A X.stack s2 H2 us vs ws Q C8.E0 (room.mono hk) I2.env0 (htr H2 h1).1 (htr H2 h1).2 (B.at_ I2.env0.bs) r (hsp vs H2 Q h1 q)) fun r t' got => ?_)
    match r, got with
    | .ok (.ret u), got => exact I2.after got
theorem calC {P : Program} {w : World} {K : PySem.W.Frag} {mg : Str → Option Value} {base : Heap} {x : Str} {st : Stmt} {f : Addr} {fd : FuncData} {N ps : List Str} {ds : List Value} {dvs : List V} {k : Nat} {sp : Sp} {cdv : Value} (F : C8.Def K mg x st f fd) (hc : fd.code = cdv) (b : Binds K fd ps ds) (d : Vals dvs ds) (S : FnScope N ps (C8.fnScope st)) (len : ∀ vs H Q E, sp vs H Q E → vs.length = ps.length)
    (hbody : ∀ (A : Around) (outer : List Env) (s : Shared) (H : Hp) (vs : List V) (Q : VK) (E : XK), Room k (A.deeper (envOfC x (C8.fnScope st) s.heap.objs.size f cdv)) → sp vs H Q E →
      ∃ t, PSs (cxOf C8.CX0 P w K mg base N x (C8.fnScope st) f cdv A outer s H E).nox (C8.fnBody st) t ∧ t { nx := fun _ H' => Q .non H', rt := Q } (start N vs) H) : C8.Cal P w K mg base (k + 1) x sp dvs := by
  refine ⟨f, fd, ps, ds, ?_, F.mgf, F.kp, b, d⟩
  obtain ⟨oc, od, dV, kV, doc, pm, an, cdv', ct, osl, rfl, lk, hcd⟩ := F.fn.ex
  obtain rfl : cdv' = cdv := hc
  refine fn_of lk hcd S len fun A outer s H vs Q E hr hsp => ?_
  obtain ⟨t, h, q⟩ := hbody A outer s H vs Q E hr hsp
  exact ⟨t, h.nox, q⟩
end LX
set_option maxHeartbeats 2000000
namespace LX
open PySem PySem.Spec PyProof.Rows L2 C8 SX NdefX
def takenN (ok : Nat → Bool) (n : Nat) : List Nat := (List.range n).filter ok
theorem takenN_yes {ok : Nat → Bool} {n : Nat} (h : ok n = true) : takenN ok (n + 1) = takenN ok n ++ [n] := by
  unfold takenN; rw [List.range_succ, List.filter_append, List.filter_cons_of_pos h]; rfl
theorem takenN_no {ok : Nat → Bool} {n : Nat} (h : ok n = false) : takenN ok (n + 1) = takenN ok n := by
  unfold takenN; rw [List.range_succ, List.filter_append, List.filter_cons_of_neg (by rw [h]; exact Bool.false_ne_true)]; exact List.append_nil _
theorem takenN_le {ok : Nat → Bool} {n : Nat} : (takenN ok n).length ≤ n := by
  unfold takenN
  exact Nat.le_trans (List.length_filter_le _ _) (by rw [List.length_range]; exact Nat.le_refl _)
theorem lc_keepF {Rel : Hp → Hp → Prop} {J : It} {n : Nat} {G : Hp → Prop} {Y : Nat → Hp → V → Hp → Prop} {H1 : Hp} (kp : Keep Rel H1) (w : Walk J n G Y) {g : TG} {tt : TT} {te : TE} {vs : List Nat} {σ : L2.St} {D : Addr} {Qd : Hp → Prop} (hD : H1 D = none) (hn : n < sizeLine)
    (ok : Nat → Bool) (Good : Nat → V → Hp → Prop) (hG : ∀ H, Rel H1 H → G H)
    (st : ∀ i y H H', Rel H1 H → Rel H H' → Good i y H → Good i y H') (pt : ∀ i y H acc o, Rel H1 H → H D = some (.lst acc) → Good i y H → Good i y (upd H D o))
    (hs : ∀ i x H H' acc (N : Hp → Prop) (R : V → Hp → Prop), i < n → Rel H1 H → H D = some (.lst acc) → Y i H x H' → (ok i = true → ∀ y H4, Rel H H4 → Good i y H4 → R y H4) → (ok i = false → ∀ H4, Rel H H4 → N H4) →
      g x (wipe σ vs) H' fun σ2 H2 => wipe σ2 vs = wipe σ vs ∧ tt σ2 H2 fun b H3 => if b = true then te σ2 H3 R else N H3)
    (hd : ∀ ys H, ys.length = (takenN ok n).length → (∀ (j k : Nat) y, (takenN ok n)[j]? = some k → ys[j]? = some y → Good k y H) → Rel H1 H → H D = some (.lst ys) → Qd H) :
    ∃ W : Nat → Nat → Hp → Prop, (∃ m, W 0 m (upd H1 D (.lst []))) ∧ ∀ i m H, W i m H →
      (J.stop i H ∧ Qd H) ∨ (J.go i H ∧ ∃ Nx : Hp → Prop, (∀ H', Nx H' → ∃ m', m' < m ∧ W (i + 1) m' H') ∧ ∀ x H', J.yld i H x H' → g x (wipe σ vs) H' fun σ2 H2 => wipe σ2 vs = wipe σ vs ∧ tt σ2 H2 fun b H3 =>
        if b = true then te σ2 H3 fun y H4 => ∃ acc, H4 D = some (.lst acc) ∧ acc.length < sizeLine ∧ Nx (upd H4 D (.lst (acc ++ [y]))) else Nx H3) := by
  refine lc_it w (fun i H => ∃ acc, acc.length = (takenN ok i).length ∧ H D = some (.lst acc) ∧ Rel H1 H ∧ ∀ (j k : Nat) y, (takenN ok i)[j]? = some k → acc[j]? = some y → Good k y H) ⟨[], rfl, upd_same, kp.put _ _ _ kp.refl hD, fun j k y _ e => by simp at e⟩
    (fun i H _ ⟨_, _, _, r, _⟩ => hG H r) (fun i x H H' hi ⟨acc, hl, hDa, r, hg⟩ hy => ?_) (fun H ⟨acc, hl, hDa, r, hg⟩ => hd acc H hl hg r hDa)
  have hle := takenN_le (ok := ok) (n := i)
  refine hs i x H H' acc _ _ hi r hDa hy (fun ho y H4 r4 gy => ?_) (fun ho H4 r4 => ?_)
  · have hD4 := kp.get _ _ _ _ r4 hD r hDa
    have r5 := kp.trans _ _ r r4
    refine ⟨acc, hD4, by omega, acc ++ [y], by rw [takenN_yes ho]; simp [hl], upd_same, kp.put _ _ _ r5 hD, fun j k z ek e => ?_⟩
    rw [takenN_yes ho] at ek
    rcases Nat.lt_or_ge j acc.length with h | h
    · rw [List.getElem?_append_left h] at e
      rw [List.getElem?_append_left (by omega)] at ek
      exact pt _ _ _ _ _ r5 hD4 (st _ _ _ _ r r4 (hg j k z ek e))
    · rw [List.getElem?_append_right h] at e
      rw [List.getElem?_append_right (by omega)] at ek
      have hj : j - acc.length = 0 := by
        rcases Nat.lt_or_ge (j - acc.length) 1 with z | z
        · omega
        · rw [List.getElem?_eq_none (by simpa using z)] at e; cases e
      have hj2 : j - (takenN ok i).length = 0 := by omega
      rw [hj] at e; rw [hj2] at ek
      obtain rfl : y = z := Option.some.inj e
      obtain rfl : i = k := Option.some.inj ek
      exact pt _ _ _ _ _ r5 hD4 gy
  · have hD4 := kp.get _ _ _ _ r4 hD r hDa
    exact ⟨acc, by rw [takenN_no ho]; exact hl, hD4, kp.trans _ _ r r4, fun j k y ek e => by rw [takenN_no ho] at ek; exact st _ _ _ _ r r4 (hg j k y ek e)⟩
end LX
set_option maxHeartbeats 2000000
namespace LX
open PySem PySem.Spec PyProof.Rows L2 C8 SX
theorem S_contains (sg : List Nat) (c : Nat) : (S sg).cps.contains c = decide (c ∈ sg) := by
  rw [Bool.eq_iff_iff, decide_eq_true_eq, ← Array.contains_toList]
  simp [S]
theorem S_empty {l : List Nat} : S l = S [] ↔ l = [] := by
  constructor
  · intro h
    have : (S l).cps.toList = (S []).cps.toList := congrArg (fun z : Str => z.cps.toList) h
    simpa [S] using this
  · rintro rfl; rfl
theorem takeWhile_all {p : Nat → Bool} : ∀ {l : List Nat}, (∀ c ∈ l, p c = true) → l.takeWhile p = l
  | [], _ => rfl
  | c :: l, h => by rw [List.takeWhile_cons, if_pos (h c List.mem_cons_self), takeWhile_all fun d hd => h d (List.mem_cons_of_mem _ hd)]
theorem takeWhile_short {p : Nat → Bool} : ∀ {l : List Nat}, ¬ (∀ c ∈ l, p c = true) → (l.takeWhile p).length < l.length ∧ ∃ d r, l.drop (l.takeWhile p).length = d :: r ∧ p d = false
  | [], h => absurd (fun _ h => nomatch h) h
  | c :: l, h => by
    by_cases hc : p c = true
    · have h' : ¬ ∀ c ∈ l, p c = true := fun q => h fun d hd => by
        rcases List.mem_cons.mp hd with rfl | z
        · exact hc
        · exact q d z
      obtain ⟨i1, d, r, i2, i3⟩ := takeWhile_short h'
      rw [List.takeWhile_cons, if_pos hc]
      exact ⟨Nat.succ_lt_succ i1, d, r, i2, i3⟩
    · rw [List.takeWhile_cons, if_neg hc]
      exact ⟨Nat.succ_pos _, c, l, rfl, by simpa using hc⟩
theorem strip_nil {l sg : List Nat} : Txt.stripChars (S l) (S sg) = S [] ↔ ∀ c ∈ l, c ∈ sg := by
  unfold Txt.stripChars Txt.stripBy stripSame stripped stripLo stripHi
  have eg : (S sg).cps.contains = fun c => decide (c ∈ sg) := funext fun c => S_contains sg c
  have el : (S l).cps.toList = l := rfl
  have en : (S l).length = l.length := S_len l
  rw [eg, if_pos rfl, if_pos rfl, el, en]
  generalize hp : (fun c => decide (c ∈ sg)) = p
  have hpc : ∀ c, p c = true ↔ c ∈ sg := fun c => by rw [← hp]; exact decide_eq_true_iff
  by_cases h : ∀ c ∈ l, p c = true
  · refine ⟨fun _ c hc => (hpc c).mp (h c hc), fun _ => ?_⟩
    rw [takeWhile_all h, List.drop_length, List.reverse_nil, List.takeWhile_nil, List.length_nil, Nat.sub_zero]
    by_cases e : l = []
    · subst e; rfl
    · have : l.length ≠ 0 := fun z => e (List.length_eq_zero_iff.mp z)
      rw [if_neg (by simpa using this)]
      show (⟨(S l).cps.extract l.length l.length⟩ : Str) = S []
      simp [S]
  · obtain ⟨i1, d, r, i2, i3⟩ := takeWhile_short h
    refine ⟨fun e => absurd e ?_, fun q => absurd (fun c hc => (hpc c).mpr (q c hc)) h⟩
    rw [i2]
    have hr : ¬ ∀ c ∈ (d :: r).reverse, p c = true := fun q => by have := q d (by simp); rw [i3] at this; cases this
    have j1 := (takeWhile_short hr).1
    have hlen : (d :: r).length = l.length - (l.takeWhile p).length := by rw [← i2, List.length_drop]
    rw [List.length_reverse] at j1
    by_cases same : ((l.takeWhile p).length == 0 && l.length - ((d :: r).reverse.takeWhile p).length == l.length) = true
    · rw [if_pos same]
      intro e
      have := S_empty.mp e
      subst this
      exact absurd i1 (by simp)
    · rw [if_neg same]
      intro e
      have e2 : ((S l).cps.extract (l.takeWhile p).length (l.length - ((d :: r).reverse.takeWhile p).length)).size = 0 := by
        have : (Builtin.Str.strSub (S l) (l.takeWhile p).length (l.length - ((d :: r).reverse.takeWhile p).length)).cps = (S []).cps := by rw [e]
        rw [show (S l).cps.extract (l.takeWhile p).length (l.length - ((d :: r).reverse.takeWhile p).length) = (S []).cps from this]; rfl
      rw [Array.size_extract] at e2
      have e3 : (S l).cps.size = l.length := by simp [S]
      rw [e3] at e2
      omega
theorem strip_eq {l sg : List Nat} : decide (Txt.stripChars (S l) (S sg) = S []) = decide (∀ c ∈ l, c ∈ sg) := decide_eq_decide.mpr strip_nil
def az : List Nat := (List.range 26).map (· + 97)
theorem az_mem {c : Nat} : c ∈ az ↔ 97 ≤ c ∧ c ≤ 122 := by
  unfold az
  rw [List.mem_map]
  constructor
  · rintro ⟨i, hi, rfl⟩
    have := List.mem_range.mp hi
    omega
  · rintro ⟨h1, h2⟩
    exact ⟨c - 97, List.mem_range.mpr (by omega), by omega⟩
theorem s_az : (Str.ofString "abcdefghijklmnopqrstuvwxyz") = S az := by decide +kernel
end LX
set_option maxHeartbeats 2000000
namespace LX
open PySem PySem.Spec PyProof.Rows L2 C8 SX
def outD : Expr → Scope
  | .DictComp _ _ _ s _ => s
  | _ => { kind := .function, names := [], isGenerator := false, isCoroutine := false }
end LX
set_option maxHeartbeats 2000000
namespace LX
open PySem PySem.Spec PyProof.Rows L2 C8 SX
structure Fit (k n : Nat) (d : PyData) : Prop where
  lay : d.canLay0 = true
  int : d.intsShort 13 = true
  sho : d.showable = true
  dep : d.depth ≤ k
  wei : d.weight ≤ n
theorem Fit.mono {k n k' n' : Nat} {d : PyData} (f : Fit k n d) (hk : k ≤ k') (hn : n ≤ n') : Fit k' n' d := ⟨f.lay, f.int, f.sho, Nat.le_trans f.dep hk, Nat.le_trans f.wei hn⟩
theorem Fit.text {k n : Nat} {l : List Nat} (h : ∀ c ∈ l, c < 1114112) (hn : l.length ≤ n) : Fit k n (.str (S l)) := by
  refine ⟨?_, rfl, rfl, Nat.zero_le _, by simpa [PyData.weight, S] using hn⟩
  show (S l).cps.all (· < 0x110000) = true
  rw [← Array.all_toList, List.all_eq_true]
  exact fun c hc => decide_eq_true (h c hc)
theorem Fit.non {k n : Nat} : Fit k n .none := ⟨rfl, rfl, rfl, Nat.zero_le _, Nat.zero_le _⟩
theorem Fit.bl {k n : Nat} {b : Bool} : Fit k n (.bool b) := ⟨rfl, rfl, rfl, Nat.zero_le _, Nat.zero_le _⟩
theorem Fit.all {k n : Nat} : ∀ {ds : List PyData}, (∀ d ∈ ds, Fit k n d) → PyData.canLayAll0 ds = true ∧ PyData.intsShortAll 13 ds = true ∧ PyData.showableAll ds = true ∧ PyData.depthAll ds ≤ k + 1 ∧ PyData.weightAll ds ≤ ds.length * (n + 1)
  | [], _ => ⟨rfl, rfl, rfl, Nat.zero_le _, Nat.zero_le _⟩
  | d :: ds, h => by
    obtain ⟨h1, h2, h3, h4, h5⟩ := Fit.all (ds := ds) fun x hx => h x (List.mem_cons_of_mem _ hx)
    have f := h d List.mem_cons_self
    refine ⟨?_, ?_, ?_, ?_, ?_⟩
    · show (d.canLay0 && PyData.canLayAll0 ds) = true; rw [f.lay, h1]; rfl
    · show (d.intsShort 13 && PyData.intsShortAll 13 ds) = true; rw [f.int, h2]; rfl
    · show (d.showable && PyData.showableAll ds) = true; rw [f.sho, h3]; rfl
    · have e : PyData.depthAll (d :: ds) = max d.depth (PyData.depthAll ds) ∨ PyData.depthAll (d :: ds) ≤ max (d.depth + 1) (PyData.depthAll ds) := by
        first | exact .inl rfl | exact .inr (by unfold PyData.depthAll; omega)
      have := f.dep
      rcases e with e | e
      · rw [e]; omega
      · omega
    · show d.weight + 1 + PyData.weightAll ds ≤ _
      have := f.wei
      rw [List.length_cons, Nat.add_mul]
      omega
theorem Fit.tup {k n m : Nat} {ds : List PyData} (h : ∀ d ∈ ds, Fit k n d) (hm : ds.length ≤ m) : Fit (k + 2) (m * (n + 1)) (.tuple ds) := by
  obtain ⟨h1, h2, h3, h4, h5⟩ := Fit.all h
  refine ⟨h1, h2, h3, ?_, Nat.le_trans h5 (Nat.mul_le_mul_right _ hm)⟩
  show PyData.depthAll ds + 1 ≤ _
  omega
theorem Fit.lst {k n m : Nat} {ds : List PyData} (h : ∀ d ∈ ds, Fit k n d) (hm : ds.length ≤ m) : Fit (k + 2) (m * (n + 1)) (.list ds) := by
  obtain ⟨h1, h2, h3, h4, h5⟩ := Fit.all h
  refine ⟨h1, h2, h3, ?_, Nat.le_trans h5 (Nat.mul_le_mul_right _ hm)⟩
  show PyData.depthAll ds + 1 ≤ _
  omega
theorem Fit.size {k n : Nat} {d : PyData} (f : Fit k n d) (hn : n ≤ 1000000) : d.shown.length ≤ sizeLine := by
  have h := PyData.shown_le 13 (by decide) d (PyData.leavesShort_of_canLay0 13 d f.lay f.int)
  have := f.wei
  have e : sizeLine = 16777216 := rfl
  omega
theorem Fit.shaped {k n : Nat} {d : PyData} (f : Fit k n d) (hk : k ≤ 60) (h : (∃ ds, d = .tuple ds) ∨ ∃ ds, d = .list ds) : SeqAt.shaped d = true := by
  rcases h with ⟨ds, rfl⟩ | ⟨ds, rfl⟩
  · show (PyData.canLayAll0 ds && decide (PyData.depthAll ds + 1 ≤ 64)) = true
    have h1 : PyData.canLayAll0 ds = true := f.lay
    have h2 : PyData.depthAll ds + 1 ≤ k := f.dep
    rw [h1, Bool.true_and, decide_eq_true_eq]; omega
  · show (PyData.canLayAll0 ds && decide (PyData.depthAll ds + 1 ≤ 64)) = true
    have h1 : PyData.canLayAll0 ds = true := f.lay
    have h2 : PyData.depthAll ds + 1 ≤ k := f.dep
    rw [h1, Bool.true_and, decide_eq_true_eq]; omega
section
variable {X : Cx} {j : Nat}
theorem call_reprF (gd : X.A.guards = some []) (room : Room j X.A) (K : PySem.W.Frag) (hK : X.K = K := by rfl) : CallR X (.builtin "repr") (fun xs H Q => ∃ (a : Addr) (d : PyData) (k n : Nat), xs = [.ref a] ∧ Dp K H (.ref a) d ∧ Fit k n d ∧ k ≤ 60 ∧ n ≤ 1000000 ∧ Q (.str d.shown) H) := by
  subst hK
  intro pins s σ H xs us Q I rel want
  obtain ⟨a, d, k, n, rfl, hd, f, hk, hn, q⟩ := want
  exact call_reprG gd room pins s σ H _ us Q I rel ⟨a, d, rfl, hd, f.sho, PyData.hasDict_of_canLay d f.lay, Nat.le_trans f.dep hk, f.size hn, q⟩
end
mutual
theorem Dp.same {K : PySem.W.Frag} {H H' : Hp} (s : Same H H') : ∀ {d : PyData} {v : V}, Dp K H v d → Dp K H' v d
  | .none, _, h => by cases h; exact .non
  | .bool _, _, h => by cases h; exact .bl _
  | .int _, _, h => by cases h; exact .int _
  | .str _, _, h => by cases h; exact .str _
  | .list _, _, h => by cases h with | lst q r => exact .lst (s.seq q) (DpAll.same s r)
  | .tuple _, _, h => by cases h with | tup q r => exact .tup (sm_seqT s q) (DpAll.same s r)
  | .dict _, _, h => by cases h
theorem DpAll.same {K : PySem.W.Frag} {H H' : Hp} (s : Same H H') : ∀ {ds : List PyData} {vs : List V}, DpAll K H vs ds → DpAll K H' vs ds
  | [], _, h => by cases h; exact .nil
  | _ :: _, _, h => by cases h with | cons q r => exact .cons (Dp.same s q) (DpAll.same s r)
end
theorem dpAll_get {K : PySem.W.Frag} {H : Hp} {α : Type} {f : α → V} {g : α → PyData} : ∀ {xs : List α}, (∀ x ∈ xs, Dp K H (f x) (g x)) → DpAll K H (xs.map f) (xs.map g)
  | [], _ => .nil
  | x :: xs, h => .cons (h x List.mem_cons_self) (dpAll_get fun y hy => h y (List.mem_cons_of_mem _ hy))
end LX
set_option maxHeartbeats 2000000
namespace LX
open PySem PySem.Spec PyProof.Rows L2 C8 SX
section
variable {X : Cx}
theorem pe_joinK (K : PySem.W.Frag) {o e : Expr} {to te : TE} {apos pos : Pos} (ho : PE X o to) (he : PE X e te) (hK : X.K = K := by rfl) (hs : starEach [e] X.env = [(false, eval e X.env)] := by rfl) (hbase : attributeBase o "join" X.env (eval o X.env) = eval o X.env := by rfl) (hline : (apos.endLine == pos.line) = true := by rfl) :
    PE X (.Call (.Attribute o "join" apos) [e] [] pos) (tM1 (fun x xs H Q => ∃ a p, ∃ ys : List Str, x = .str a ∧ xs = [.ref p] ∧ (SqL K H p (ys.map V.str) ∨ SqT K H p (ys.map V.str)) ∧
      (ys.map (·.length)).sum + ys.length * a.length ≤ 16777216 ∧ Q (.str (Txt.join a ys)) H) to te) := by subst hK; exact pe_join ho he hs hbase hline
end
def tJd (ts : List TE) : TE := fun σ H Q => tJs ts Str.empty σ H fun out H1 => Q (.str out) H1
theorem pe_joinedD {X : Cx} {v1 v2 : Expr} {rest : List Expr} {ts : List TE} {pos : Pos} (h : PJ X (v1 :: v2 :: rest) ts) : PE X (.JoinedStr (v1 :: v2 :: rest) pos) (tJd ts) := pe_joined h
theorem joinL_len {sep : List Nat} {m : Nat} : ∀ {ys : List (List Nat)}, (∀ y ∈ ys, y.length ≤ m) → (TL.joinL sep ys).length ≤ ys.length * (m + sep.length)
  | [], _ => by simp [TL.joinL]
  | [y], h => by
    have := h y List.mem_cons_self
    simp [TL.joinL]
    omega
  | y :: z :: ys, h => by
    have ih := joinL_len (sep := sep) (ys := z :: ys) fun x hx => h x (List.mem_cons_of_mem _ hx)
    have h1 := h y List.mem_cons_self
    have e : TL.joinL sep (y :: z :: ys) = y ++ sep ++ TL.joinL sep (z :: ys) := by simp [TL.joinL]
    rw [e, List.length_append, List.length_append, List.length_cons, Nat.add_mul]
    omega
theorem sum_lens {m : Nat} : ∀ {ys : List (List Nat)}, (∀ l ∈ ys, l.length ≤ m) → ((ys.map S).map (·.length)).sum ≤ ys.length * m
  | [], _ => by simp
  | y :: ys, h => by
    have ih := sum_lens (m := m) (ys := ys) fun l hl => h l (List.mem_cons_of_mem _ hl)
    have h0 := h y List.mem_cons_self
    simp only [List.map_cons, List.sum_cons, List.length_cons]
    rw [S_len, Nat.add_mul]
    omega
theorem joinS_ok {m n : Nat} {sep : List Nat} {ys : List (List Nat)} (h : ∀ l ∈ ys, l.length ≤ m) (hn : ys.length ≤ n) (hm : n * (m + sep.length) ≤ 16000000) : ((ys.map S).map (·.length)).sum + (ys.map S).length * (S sep).length ≤ 16777216 := by
  rw [S_len, List.length_map]
  have := sum_lens h
  have h2 : ys.length * (m + sep.length) ≤ n * (m + sep.length) := Nat.mul_le_mul_right _ hn
  rw [Nat.mul_add] at h2
  omega
end LX
set_option maxHeartbeats 2000000
namespace LX
open PySem PySem.Spec PyProof.Rows L2 C8 SX
section
variable {X : Cx} {k j : Nat} {C : Addr} {sp : Sp}
theorem met_runV {mth : Str} {pins : List (Addr × Obj)} {σ : L2.St} {H : Hp} {s : Shared} {A : Around} {a : Addr} {y : V} {u : Value} {Q : Value → Shared → Prop} (c : Met X.prog X.w X.K X.mg X.base k C mth sp []) (hr : Room k A) (hfr : A.frames = X.A.frames) (I : Inv X pins σ H s) (ry : RelV y u)
    {R : VK} (hsp : sp [.ref a, y] H R C8.E0) (hQ : ∀ v z H' s', Inv X pins σ H' s' → RelV z v → R z H' → Q v s') :
    ∃ f, PySem.W.findIn X.K (.ref C) mth = some (some (.ref f)) ∧ PySem.W.isFn X.K (.ref f) = true ∧ wpAny (model X.prog X.w) A (call (.ref f) [.ref a, u]) Q X.xe s := by
  obtain ⟨f, fd, ps, ds, hc, hm, F, hb, hd⟩ := c.ex
  refine ⟨f, hm.at_, hm.fn, ?_⟩
  have e0 : Env0 X.prog X.w X.K X.mg X.base A X.stack s H := by
    have e := I.env0
    exact ⟨by rw [hfr]; exact e.frames, e.mod, e.bs, e.bsz, e.funs, e.frf, e.hok, e.bare⟩
  have hds : ds = [] := by cases hd; rfl
  subst hds
  have hl := F.len _ _ _ _ hsp
  have r2 : Vals [V.ref a, y] [Value.ref a, u] := .cons rfl (.cons ry .nil)
  refine wpAny_call (codeAny_mono (F.run A X.stack s H ⟨[.ref a, u], []⟩ [.ref a, u] [.ref a, y] _ C8.E0 hr e0 (by
    have := hb s [.ref a, u] I.kIn (by simpa using hl)
    simpa using this) r2 hsp) fun r s' hq => ?_)
  cases r with
  | error e => exact C8.pass0 (E := C8.E0) pins σ H s e s' I hq
  | ok fl =>
    cases fl with
    | ret w =>
      obtain ⟨z, H', I', rz, q⟩ := I.after hq
      exact hQ w z H' s' I' rz q
    | next => exact False.elim hq
    | brk => exact False.elim hq
    | cont => exact False.elim hq
def rEqIV (K : PySem.W.Frag) (C : Addr) (sp : Sp) : R2 := fun x y H Q => ∃ a dx fs t, x = .ref a ∧ H a = some (.ins C dx fs) ∧ TyX K H y t ∧ PySem.W.notFirst K C t = true ∧ sp [.ref a, y] H (fun v H' => ∃ r, v = .bl r ∧ Q (.bl r) H') C8.E0
theorem op_eqIV (c : Met X.prog X.w X.K X.mg X.base k C "__eq__" sp []) (hr : Room j X.A) (hk : k ≤ j) : OpR X (compareOp .Eq) (rEqIV X.K C sp) := by
  intro pins s σ H x y v u Q I rx ry h
  obtain ⟨a, dx, fs, t, rfl, ha, hty, hnf, hsp⟩ := h
  cases rx
  obtain ⟨mA, J, _⟩ := ins_get I.hok ha
  obtain ⟨od, J, _⟩ := J.look
  obtain ⟨m, hF⟩ := I.fr
  obtain ⟨P, kx, hP, _⟩ := kit_of I ry hty
  obtain ⟨f, hs, hf, hw⟩ := met_runV (Q := PySem.W.CmpBack (EP X pins σ Q)) c (hr.mono hk) rfl I ry hsp (fun v z H' s' I' rz q => by
    obtain ⟨r, rfl, q⟩ := q
    cases rz
    exact ⟨.bl r, H', I', rfl, q⟩)
  exact PySem.W.cmp_K (op := .Eq) (tb := t) hr.units0 hF I.ok.mod.kin J (kx.ty _ _ I.kIn hP) hnf hs hf hw
theorem op_eqDK (K : PySem.W.Frag) (hr : Room j X.A) (h : X.K = K := by rfl) : OpR X (compareOp .Eq) (rEqD K) := by subst h; exact op_eqD hr.units
theorem op_neDK (K : PySem.W.Frag) (hr : Room j X.A) (h : X.K = K := by rfl) : OpR X (compareOp .NotEq) (rNeD K) := by subst h; exact op_neD hr.units
end
def tD (xs : List (List Nat)) : PyData := .tuple (xs.map fun l => .str (S l))
def ttD (xss : List (List (List Nat))) : PyData := .tuple (xss.map tD)
theorem dp_t {K : PySem.W.Frag} {H : Hp} {a : Addr} {xs : List (List Nat)} (h : SqT K H a (txs xs)) : Dp K H (.ref a) (tD xs) := .tup h (dp_strs xs)
theorem eqv_t (xs ys : List (List Nat)) : PyData.eqv (tD xs) (tD ys) = decide (xs = ys) := eqv_strs xs ys
theorem eqv_tts : ∀ xss yss : List (List (List Nat)), PyData.eqvAll (xss.map tD) (yss.map tD) = decide (xss = yss)
  | [], [] => rfl
  | [], _ :: _ => rfl
  | _ :: _, [] => rfl
  | x :: xs, y :: ys => by
    show (PyData.eqv (tD x) (tD y) && PyData.eqvAll (xs.map tD) (ys.map tD)) = _
    rw [eqv_t, eqv_tts xs ys, ← Bool.decide_and]
    exact decide_eq_decide.mpr (by rw [List.cons.injEq])
theorem eqv_tt (xss yss : List (List (List Nat))) : PyData.eqv (ttD xss) (ttD yss) = decide (xss = yss) := eqv_tts xss yss
theorem fit_t {m n : Nat} {xs : List (List Nat)} (hs : Small xs) (hl : ∀ l ∈ xs, l.length ≤ n) (hm : xs.length ≤ m) : Fit 2 (m * (n + 1)) (tD xs) :=
  Fit.tup (k := 0) (n := n) (fun d hd => by obtain ⟨l, hl', rfl⟩ := List.mem_map.mp hd; exact Fit.text (hs l hl') (hl l hl')) (by rw [List.length_map]; exact hm)
theorem fit_tt {m n p : Nat} {xss : List (List (List Nat))} (h : ∀ xs ∈ xss, Small xs ∧ (∀ l ∈ xs, l.length ≤ n) ∧ xs.length ≤ m) (hp : xss.length ≤ p) : Fit 4 (p * (m * (n + 1) + 1)) (ttD xss) :=
  Fit.tup (k := 2) (fun d hd => by obtain ⟨xs, hx, rfl⟩ := List.mem_map.mp hd; obtain ⟨h1, h2, h3⟩ := h xs hx; exact fit_t h1 h2 h3) (by rw [List.length_map]; exact hp)
end LX
set_option maxHeartbeats 1000000
namespace LX
open PySem PySem.Spec PyProof.Rows L2 C8 SX
section
variable {X : Cx} {K : PySem.W.Frag} {H : Hp}
def inz (xs : List Int) : List V := xs.map V.int
theorem inz_len (xs : List Int) : (inz xs).length = xs.length := List.length_map ..
theorem dp_inz : ∀ xs : List Int, DpAll K H (inz xs) (xs.map PyData.int)
  | [] => .nil
  | x :: xs => .cons (.int _) (dp_inz xs)
theorem lay_inz : ∀ xs : List Int, PyData.canLayAll0 (xs.map PyData.int) = true ∧ PyData.depthAll (xs.map PyData.int) ≤ 1
  | [] => ⟨rfl, Nat.zero_le _⟩
  | x :: xs => by
    obtain ⟨h1, h2⟩ := lay_inz xs
    refine ⟨?_, ?_⟩
    · show (PyData.canLay0 (.int x) && PyData.canLayAll0 (xs.map PyData.int)) = true
      rw [h1, Bool.and_true]; rfl
    · show max (PyData.depth (.int x)) (PyData.depthAll (xs.map PyData.int)) ≤ 1
      have e : PyData.depth (.int x) ≤ 1 := Nat.zero_le _
      omega
theorem shaped_inz (xs : List Int) : SeqAt.shaped (.list (xs.map PyData.int)) = true := by
  obtain ⟨h1, h2⟩ := lay_inz xs
  show (PyData.canLayAll0 _ && decide (PyData.depthAll _ + 1 ≤ 64)) = true
  rw [h1, Bool.true_and, decide_eq_true_eq]; omega
def rNeE : R2 := fun x y H Q => ∃ (a b : Addr) (xs : List Int), x = .ref a ∧ y = .ref b ∧ H a = some (.lst (inz xs)) ∧ H b = some (.lst []) ∧ Q (.bl (!xs.isEmpty)) H
theorem op_neE {k : Nat} (hr : Room k X.A) : OpR X (compareOp .NotEq) rNeE := by
  intro pins s σ H x y v u Q I rx ry h
  obtain ⟨a, b, xs, rfl, rfl, ha, hb, q⟩ := h
  refine op_neD hr.units pins s σ H _ _ v u Q I rx ry ⟨_, _, .lst (SqL.of ha) (dp_inz xs), .lst (SqL.of hb) .nil, shaped_inz xs, shaped_inz [], ?_⟩
  cases xs with
  | nil => exact q
  | cons x xs => exact q
theorem at_last {xs : List V} {v : V} (h : 0 < xs.length) (e : xs[xs.length - 1]? = some v) : atI xs (-1) = some v := by
  have : ixN xs.length (-1) = some (xs.length - 1) := by
    unfold ixN
    rw [if_neg (by decide), if_pos (by omega)]
    congr 1; omega
  unfold atI
  rw [this]; exact e
def SeqV (K : PySem.W.Frag) (H : Hp) (x : V) (ys : List V) : Prop :=
  (∃ p, x = .ref p ∧ (SqL K H p ys ∨ SqT K H p ys)) ∨ ∃ l : List Nat, x = .str (S l) ∧ l.length ≤ sizeLine ∧ ys = l.map fun c => V.str (S [c])
def rLenA (K : PySem.W.Frag) : List V → Hp → VK → Prop := fun xs H Q => ∃ x ys, xs = [x] ∧ SeqV K H x ys ∧ Q (.int ys.length) H
theorem lenA (K : PySem.W.Frag) (h : X.K = K := by rfl) : CallR X (.builtin "len") (rLenA K) := by
  subst h
  intro pins s σ H xs us Q I r q
  obtain ⟨x, ys, rfl, hh, q⟩ := q
  rcases hh with ⟨p, rfl, hp⟩ | ⟨l, rfl, hl, rfl⟩
  · exact lenK X.K rfl pins s σ H _ us Q I r ⟨p, ys, rfl, hp, q⟩
  · refine call_len_str pins s σ H _ us Q I r ⟨S l, rfl, by rw [S_len]; exact hl, ?_⟩
    rw [S_len]
    rw [List.length_map] at q
    exact q
def rIxA (K : PySem.W.Frag) : R2 := fun x y H Q => ∃ ys i v, y = .int i ∧ SeqV K H x ys ∧ atI ys i = some v ∧ Q v H
theorem ixA (K : PySem.W.Frag) (h : X.K = K := by rfl) : IxR X (rIxA K) := by
  subst h
  intro value slice pins s σ H x y v u Q I rx ry q hs
  obtain ⟨ys, i, w, rfl, hh, ha, q⟩ := q
  refine ix_seq value slice pins s σ H x (.int i) v u Q I rx ry ?_ hs
  rcases hh with ⟨p, rfl, hp | hp⟩ | ⟨l, rfl, hl, rfl⟩
  · exact .inl ⟨p, ys, i, w, rfl, rfl, hp, ha, q⟩
  · exact .inr (.inl ⟨p, ys, i, w, rfl, rfl, hp, ha, q⟩)
  · have e : ∀ j, (l.map fun c => V.str (S [c]))[j]? = (l[j]?).map fun c => V.str (S [c]) := fun j => List.getElem?_map ..
    have e2 : atI l i = none ∧ w = w ∨ ∃ c, atI l i = some c ∧ w = .str (S [c]) := by
      unfold atI at ha ⊢
      rw [List.length_map] at ha
      cases hx : ixN l.length i with
      | none => rw [hx] at ha; cases ha
      | some j =>
        rw [hx] at ha
        have ha : (l.map fun c => V.str (S [c]))[j]? = some w := ha
        rw [e] at ha
        cases hc : l[j]? with
        | none => rw [hc] at ha; cases ha
        | some c => rw [hc] at ha; exact .inr ⟨c, hc, (Option.some.inj ha).symm⟩
    rcases e2 with ⟨e3, _⟩ | ⟨c, e3, rfl⟩
    · exfalso
      unfold atI at ha e3
      rw [List.length_map] at ha
      cases hx : ixN l.length i with
      | none => rw [hx] at ha; cases ha
      | some j =>
        rw [hx] at ha e3
        have ha : (l.map fun c => V.str (S [c]))[j]? = some w := ha
        have e3 : l[j]? = none := e3
        rw [e, e3] at ha; cases ha
    · exact .inr (.inr ⟨S l, i, c, rfl, rfl, by rw [S_len]; exact hl, e3, q⟩)
theorem le1000 {n : Nat} (h : n ≤ 1000) : n ≤ sizeLine := Nat.le_trans h (by decide)
theorem inz_get {cs : List Int} {i : Nat} {x : V} (h : (inz cs)[i]? = some x) : ∃ z, cs[i]? = some z ∧ x = .int z := by
  unfold inz at h
  rw [List.getElem?_map] at h
  cases q : cs[i]? with
  | none => rw [q] at h; cases h
  | some l => rw [q] at h; exact ⟨l, rfl, (Option.some.inj h).symm⟩
theorem inz_of : ∀ {ys : List V}, (∀ (j : Nat) y, ys[j]? = some y → ∃ z : Int, y = .int z) → ∃ cs : List Int, ys = inz cs
  | [], _ => ⟨[], rfl⟩
  | y :: ys, h => by
    obtain ⟨z, rfl⟩ := h 0 y rfl
    obtain ⟨cs, rfl⟩ := inz_of (ys := ys) fun j z q => h (j + 1) z q
    exact ⟨z :: cs, rfl⟩
theorem nxt {D : Ends} {σ : L2.St} {H : Hp} (h : D.nx σ H) : tNext D σ H := h
end
end LX
set_option maxHeartbeats 4000000
namespace EV
open PySem PySem.HandSPX
open Builtin Builtin.ObjectAttr
section
variable {M : Model} {A : Around} {E : Value → Shared → Prop} {h : Heap} {g : Array GenState} {d : Drawn} {t : Nat} {os : OsState}
variable {nm q : Str} {C N : Addr} {bs bm bmB : List Value} {hdct : Bool} {sn : List Str} {sub : List Value} {ab : Bool} {col : Option Bool} {dd : Option Addr} {k0 k1 k2 k3 k5 : Option Value} {B newId initId : String}
theorem check_new_kw (F : ExcBaseFacts B newId initId bmB) (hB : bm.contains (.type B) = true) {rest : List Value} {kw : List (Str × Value)} {Q : Unit → Shared → Prop}
    (hC : h.get? C = some (excClassObj nm q C N bs bm hdct sn sub ab col dd k0 k1 k2 k3 k5 newId)) (hq : Q () ⟨h, g, d, t, os⟩) : wpAny M A (checkBuiltinCall newId ⟨.ref C :: rest, kw⟩) Q E ⟨h, g, d, t, os⟩ := by
  have hcont : (Value.ref C :: bm).contains (.type B) = true := by rw [List.contains_cons, hB, Bool.or_true]
  have hstar := F.noStar
  simp only [checkBuiltinCall, F.newKind, F.newSplit, F.newRow]
  repeat (first | refine wpAny_loadPart_at hC ?_ | (refine wpAny_isSubtype_exc hC ?_; rw [hcont]) | refine wpAny_staticBase_exc hC ?_ | refine wpAny_madeBy_exc hC ?_ | simp only [bne_self_eq_false, Bool.false_eq_true, if_false] | wp_step)
  exact hq
end
section
variable {prog : Program} {w : World} {A : Around} {E : Value → Shared → Prop} {R : Result → Shared → Prop} {h : Heap} {g : Array GenState} {d : Drawn} {t : Nat} {os : OsState}
variable {nm q : Str} {C N : Addr} {bs bm bmB : List Value} {hdct : Bool} {sn : List Str} {sub : List Value} {ab : Bool} {col : Option Bool} {dd : Option Addr} {k0 k1 k2 k3 k5 : Option Value} {B newId initId : String}
theorem new_kw (F : ExcBaseFacts B newId initId bmB) (hB : bm.contains (.type B) = true) (hA : bm.contains (.type "AttributeError") = false) (hN : bm.contains (.type "NameError") = false) {rest : List Value} {kw : List (Str × Value)}
    (hC : h.get? C = some (excClassObj nm q C N bs bm hdct sn sub ab col dd k0 k1 k2 k3 k5 newId))
    (hq : R (.ok (.ret (.ref (h.objs.size + 1)))) ⟨(h.push { cls := .type "tuple", data := .seq rest.toArray }).push
      { cls := .ref C, data := .fields #[.ref h.objs.size, .none, .none, .none, .bool false, .none] }, g, d, t, os⟩) (hrest : rest.length ≤ sizeLine) :
    codeAny (model prog w) A (.builtin newId ⟨.ref C :: rest, kw⟩) R ⟨h, g, d, t, os⟩ := by
  have hends := F.ends
  have hcB : (Value.ref C :: bm).contains (.type B) = true := by rw [List.contains_cons, hB, Bool.or_true]
  have hcA : (Value.ref C :: bm).contains (.type "AttributeError") = false := by rw [List.contains_cons, hA]; rfl
  have hcN : (Value.ref C :: bm).contains (.type "NameError") = false := by rw [List.contains_cons, hN]; rfl
  refine codeAny_builtinAt F.entry ?_
  unfold Builtin.«BaseException.__new__»
  refine wpAt_bind ?_
  show wpAt _ _ _ (stack >>= _) _ _ _
  refine wpAt_bind (wpAt_stack fun p below => wpAt_of_wpAny ?_)
  wp_walk
  refine wpAt_of_wpAny ?_
  rw [F.owner]
  repeat (first | with_reducible refine wpAny_madeHere_exc F.canon hC ?_ | with_reducible refine wpAny_loadPart_at hC ?_ | (with_reducible refine wpAny_isSubtype_exc hC ?_; first | rw [hcB] | rw [hcA] | rw [hcN]) | wp_step)
  show R _ _
  rw [Heap.size_push]
  exact hq
theorem type_call_kw (F : ExcBaseFacts B newId initId bmB) (hB : bm.contains (.type B) = true) (hA : bm.contains (.type "AttributeError") = false) (hN : bm.contains (.type "NameError") = false) {rest : List Value} {kw : List (Str × Value)} {fI : Addr} {Q : Fin → Shared → Prop}
    (hC : h.get? C = some (excClassObj nm q C N bs bm hdct sn sub ab col dd k0 k1 k2 k3 k5 newId))
    (hi : W.Looks (model prog w) h (typeLookup (.ref C) "__init__") (some (.ref fI))) (hb : ∀ self, W.Looks (model prog w) h (bindSpecial (.ref fI) self) (.ref fI, [self])) (hrest : rest.length ≤ sizeLine)
    (hq : codeAny (model prog w) A (.call (.ref fI) ⟨.ref (h.objs.size + 1) :: rest, kw⟩)
      (fun r s' => match r with | .ok (.ret v) => v = .none ∧ Q (.done (.ret (.ref (h.objs.size + 1)))) s' | .ok _ => False | .error e => E e s')
      ⟨(h.push (W.kdv_tup rest)).push (excO C h.objs.size), g, d, t, os⟩) :
    wpAny (model prog w) A (Builtin.«type.__call__» ⟨.ref C :: rest, kw⟩) Q E ⟨h, g, d, t, os⟩ := by
  repeat (first | with_reducible refine wpAny_loadPart_at hC ?_ | with_reducible refine wpAny_madeBy_exc hC ?_ | wp_step)
  refine codeAny_call_builtin_code (Code.quiet_builtin _ F.quiet) (check_new_kw F hB hC ?_)
  refine new_kw F hB hA hN hC ?_ hrest
  show wpAny _ _ _ _ _ _
  have k : ∀ b o, h.get? b = some o → ((h.push (W.kdv_tup rest)).push (excO C h.objs.size)).get? b = some o := fun b o e => Heap.get?_push_of_some _ (Heap.get?_push_of_some _ e)
  have hC₁ := k _ _ hC
  have hget : ((h.push (W.kdv_tup rest)).push (excO C h.objs.size)).get? (h.objs.size + 1) = some (excO C h.objs.size) := by heap_get
  have hcC : (Value.ref C :: bm).contains (.ref C) = true := by simp
  have i1 := hi.keeps k
  have b1 := (hb (.ref (h.objs.size + 1))).keeps k
  unfold isInstance
  repeat (first | with_reducible refine wpAny_loadPart_at hget ?_ | (with_reducible refine wpAny_isSubtype_exc hC₁ ?_; rw [hcC]) | wp_step)
  show wpAny _ _ (typeLookup (.ref C) _) _ _ _
  refine i1.at ?_
  refine wpAny_holding (wpAny_bind (b1.at ?_))
  refine wpAny_bind (wpAny_call (codeAny_mono hq fun r s' z => ?_))
  rcases r with e | (v | _ | _ | _) <;> first | exact z | exact z.elim | skip
  obtain ⟨rfl, z⟩ := z
  first
    | exact wpAny_pure (wpAny_pure z)
    | (wp_walk; exact z)
theorem call_kw (F : ExcBaseFacts B newId initId bmB) (hB : bm.contains (.type B) = true) (hA : bm.contains (.type "AttributeError") = false) (hN : bm.contains (.type "NameError") = false) {rest : List Value} {kw : List (Str × Value)} {fI : Addr}
    (hC : h.get? C = some (excClassObj nm q C N bs bm hdct sn sub ab col dd k0 k1 k2 k3 k5 newId))
    (hi : W.Looks (model prog w) h (typeLookup (.ref C) "__init__") (some (.ref fI))) (hb : ∀ self, W.Looks (model prog w) h (bindSpecial (.ref fI) self) (.ref fI, [self])) (hrest : rest.length ≤ sizeLine)
    (hq : codeAny (model prog w) (A.under (.builtin "type.__call__" ⟨.ref C :: rest, kw⟩)) (.call (.ref fI) ⟨.ref (h.objs.size + 1) :: rest, kw⟩) (W.InitBack (h.objs.size + 1) R)
      ⟨(h.push (W.kdv_tup rest)).push (excO C h.objs.size), g, d, t, os⟩) :
    codeAny (model prog w) A (.call (.ref C) ⟨rest, kw⟩) R ⟨h, g, d, t, os⟩ := by
  have f1 := tc_lookup
  have f2 := tc_bind (.ref C)
  have hTy : (⟨h, g, d, t, os⟩ : Shared).TypeIs (.ref C) "type" := ⟨_, hC, rfl⟩
  refine codeAny_of_tree ?_
  show wpAny _ _ (callAny (.ref C) _) _ _ _
  repeat (any_goals (first | assumption | with_reducible refine wpAny_loadPart_at hC ?_ | wp_step))
  refine ⟨rfl, ?_⟩
  refine codeAny_call_builtin_at (Code.quiet_builtin _ (by decide +kernel)) entry_typeCall (wpAny_check_type_call_sub hC (type_call_kw F hB hA hN hC hi hb hrest ?_))
  refine codeAny_mono hq fun r s' z => ?_
  rcases r with e | (v | _ | _ | _) <;> exact z
end
section
variable {prog : Program} {w : World} {A : Around} {E : Value → Shared → Prop} {R : Result → Shared → Prop} {hp : Heap} {g : Array GenState} {d : Drawn} {t : Nat} {os : OsState}
theorem exc_osaG {K : W.Frag} {name : Str} {tk : Tok} {v : Value} {x C : Addr} {fv : Array Value} {cd : ClassData}
    (X : K.In hp) (hx : hp.get? x = some { cls := .ref C, data := .fields fv }) (hcd : W.clsIn K C = some cd) (hm : ∀ self, refuseLoop self "__setattr__" cd.mro = pure ()) (ne : cd.mro.isEmpty = false) (hob : cd.mro.contains (.type "object") = true) (hh : cd.hasDict = true) (ha : W.findIn K (.ref C) name = some none)
    (hq : ∀ h' tk' dx, (∀ b o, b ≠ x → hp.get? b = some o → h'.get? b = some o) → hp.objs.size ≤ dx → dx ≠ x → h'.get? x = some { cls := .ref C, dict := some dx, data := .fields fv } →
      h'.Ns1 dx (fun y => if y = name then some v else none) → R (.ok (.ret .none)) ⟨h', g, d, tk', os⟩) :
    codeAny (model prog w) A (.call (.builtin "object.__setattr__") ⟨[.ref x, .str name tk, v], []⟩) R ⟨hp, g, d, t, os⟩ := by
  have I : W.InstAt hp x { cls := .ref C, data := .fields fv } C none := ⟨hx, rfl, rfl, trivial⟩
  have SF := F.store_object
  have hxs : x ≠ hp.objs.size := Nat.ne_of_lt (Heap.lt_size hx)
  have sub : W.Looks (model prog w) hp (isInstance (.ref x) (.type "object")) true := I.type.andThen (W.looks_mroIn X (by unfold W.mroIn; rw [hcd, Option.bind_some, if_neg (by rw [ne]; decide), hob]))
  refine codeAny_call_builtin SF.slot.plain SF.entry (@W.check_slot (model prog w) _ _ ⟨hp, g, d, t, os⟩ "object.__setattr__" "object" "__setattr__" (.ref x) [.str name tk, v] [] _ SF.kind SF.split sub (SF.args (.ref x) (.str name tk) v) ?_)
  have hmr : W.Looks (model prog w) hp (mroOf (.ref C)) cd.mro := (W.looks_clsIn X hcd).andThen .now
  have L3 : W.Looks (model prog w) hp (storeTaker? none) none := .now
  have hcls : W.Looks (model prog w) hp (classData C) cd := W.looks_clsIn X hcd
  rw [W.osa_eq, refuse_eq]
  refine wpAny_bind (wpAny_bind (I.type.at (wpAny_bind (hmr.at ?_))))
  rw [hm]
  refine wpAny_pure (wpAny_bind (I.type.at (wpAny_bind ((W.looks_findIn X ha).at (wpAny_bind (L3.at ?_))))))
  show wpAny _ _ (storeInOwnDict (.ref x) (.ref C) (.str name tk) name v false) _ _ _
  obtain ⟨nm, bs, mro, ns, qn, hd, sn, sb, ab, col, del⟩ := cd
  dsimp only at hh
  subst hh
  unfold storeInOwnDict ownDictForStores
  repeat (first | with_reducible refine store_in_new ?_ ?_ | with_reducible refine wpAny_loadPart_at hx ?_ | with_reducible refine hcls.at ?_ | wp_step)
  · exact ⟨_, #[], _, (Heap.get?_update_ne _ _ _ _ hxs.symm).trans (Heap.get?_push_at rfl rfl), rfl, fun e he => absurd he (by simp), fun _ => rfl⟩
  · intro h' tk' hn' hs
    have hx₁ : (hp.push { cls := .type "dict", data := .dict #[] }).get? x = some { cls := .ref C, data := .fields fv } := Heap.get?_push_of_some _ hx
    refine hq h' tk' hp.objs.size (fun b o hb ho => ?_) (Nat.le_refl _) hxs.symm ?_ hn'
    · exact (hs.2 b (Nat.ne_of_lt (Heap.lt_size ho))).trans ((Heap.get?_update_ne _ _ _ _ hb).trans (Heap.get?_push_of_some _ ho))
    · exact (hs.2 x hxs).trans (Heap.get?_update_self _ hx₁ rfl)
end
end EV
namespace EV
open PySem PySem.W PySem.Calls PyProof.Rows PySem.HandSPX
section
variable {prog : Program} {w : World} {A : Around} {E : Value → Shared → Prop} {s : Shared} {K : Frag} {x D : Addr} {ox : Obj} {od : Option Obj}
theorem findObj_dataD {C : Addr} {name : Str} {a g : Value} (hc : (clsIn K C).isSome = true) (ha : findIn K (.ref C) name = some (some a)) (hg : specialIn K a "__get__" = some (some g)) (ht : takesIn K a = some true) : findObj K C od name = some (.bind g a) := by
  obtain ⟨cd, hc⟩ := Option.isSome_iff_exists.mp hc
  unfold findObj
  rw [hc, Option.bind_some, ha, Option.bind_some]
  cases od <;> simp [hg, ht]
theorem kin_classD {Q : Option Value → Shared → Prop} (hga : findIn K (.ref D) "__getattribute__" = some (some (.builtin "BaseException.__getattribute__"))) (hgt : findIn K (.ref D) "__getattr__" = some none) (hsub : subIn K (.ref D) (.type "BaseException") = some true)
    (hdct : hasDictIn K D = true) (ha : findIn K (.ref D) "__class__" = some (some (.builtin "object.__class__")))
    (hn : specialIn K (.builtin "object.__class__") "__get__" = some (some (.builtin "getset_descriptor.__get__"))) (htk : takesIn K (.builtin "object.__class__") = some true) (hm : mroIn K D (.type "object") = some true)
    (X : K.In s.heap) (I : InstAt s.heap x ox D od) (h : Q (some (.ref D)) { s with toks := s.toks + 1 }) : wpAny (model prog w) A (getAttr? (.ref x) "__class__") Q E s := by
  have hf : findObj K D od "__class__" = some (.bind (.builtin "getset_descriptor.__get__") (.builtin "object.__class__")) := findObj_dataD (by obtain ⟨cd, hc, _⟩ := any_some hdct; rw [hc]; rfl) ha hn htk
  obtain ⟨hp, g, d, t, os⟩ := s
  have L0 := I.type (M := model prog w)
  have L1 := looks_findIn (M := model prog w) X hga
  have L2 := looks_findIn (M := model prog w) X hgt
  have L3 := looks_find (M := model prog w) X I hf
  have sub : Looks (model prog w) hp (isInstance (.ref x) (.type "BaseException")) true := L0.andThen (looks_subIn X hsub)
  have hx0 : (false && onTheHeap (Value.builtin "BaseException.__getattribute__")) = false := rfl
  have hx2 : (Value.builtin "BaseException.__getattribute__" == Value.builtin "object.__getattribute__") = false := by decide +kernel
  have hx1 : (onTheHeap (Value.ref D) && Value.builtin "BaseException.__getattribute__" == Value.builtin "object.__getattribute__") = false := by rw [hx2]; rfl
  unfold getAttr? getAttrBy? getAttrBy
  refine wpAny_bind (wpAny_mkText (wpAny_bind (wpAny_attempt (wpAny_holding (wpAny_bind (L0.at (wpAny_bind (L1.at ?_))))))))
  show wpAny _ _ (if (onTheHeap (Value.ref D) && Value.builtin "BaseException.__getattribute__" == Value.builtin "object.__getattribute__") = true then _ else _) _ _ _
  rw [hx1, if_neg Bool.false_ne_true]
  unfold getAttrByItsOwn hookBefore
  refine wpAny_bind ?_
  rw [if_pos (show onTheHeap (Value.ref D) = true from rfl)]
  refine L2.at ?_
  refine wpAny_bind (wpAny_attempt (wpAny_holding ?_))
  unfold callGetattribute
  rw [hx0, if_neg Bool.false_ne_true]
  unfold boundAndCalled
  rw [PySem.F.excAttr_ValueError.ga.bind (.ref x)]
  refine wpAny_bind (wpAny_pure ?_)
  show wpAny _ _ (call (.builtin "BaseException.__getattribute__") [.ref x, .str "__class__" t]) _ _ _
  refine wpAny_call (codeAny_call_builtin PySem.F.excAttr_ValueError.ga.plain PySem.F.entry_bexc_ga ?_)
  refine @check_slot (model prog w) _ _ ⟨hp, g, d, t + 1, os⟩ "BaseException.__getattribute__" "BaseException" "__getattribute__" (.ref x) [.str "__class__" t] [] _ (by decide +kernel) (by decide +kernel) sub (PySem.F.args_bexc_ga (.ref x) (.str "__class__" t)) ?_
  unfold Builtin.«object.__getattribute__»
  refine wpAny_bind (wpAny_of_eq (a := ((Value.ref x : Value), [Value.str "__class__" t])) (by first | rfl | (simp only [slotArgs]; rfl)) ?_)
  refine wpAny_bind (wpAny_pure (wpAny_bind (L0.at (wpAny_bind (L3.at ?_)))))
  show wpAny _ _ (holding [Value.builtin "object.__class__"] (call (.builtin "getset_descriptor.__get__") [.builtin "object.__class__", .ref x, .ref D]) >>= ret) _ _ _
  refine wpAny_bind (wpAny_holding (wpAny_call (class_get (s := ⟨hp, g, d, t + 1, os⟩) (ox := ox) (od := od) X I hm ?_)))
  refine wpAny_pure ?_
  show wpAny _ _ (handedOut (.ref D)) _ _ _
  rw [handedOut_of (v := .ref D) rfl]
  first
    | exact wpAny_pure (wpAny_pure h)
    | exact wpAny_pure h
    | exact wpAny_pure (wpAny_bind (wpAny_pure (wpAny_pure h)))
theorem kitx_excD (hga : findIn K (.ref D) "__getattribute__" = some (some (.builtin "BaseException.__getattribute__"))) (hgt : findIn K (.ref D) "__getattr__" = some none) (hsub : subIn K (.ref D) (.type "BaseException") = some true) (hdct : hasDictIn K D = true) (ha : findIn K (.ref D) "__class__" = some (some (.builtin "object.__class__")))
    (hn : specialIn K (.builtin "object.__class__") "__get__" = some (some (.builtin "getset_descriptor.__get__"))) (htk : takesIn K (.builtin "object.__class__") = some true) (hm : mroIn K D (.type "object") = some true) :
    KitX K (.ref x) (.ref D) (fun h => InstAt h x ox D od) where
  ty := fun _ _ _ I => I.type
  it := fun _ _ X _ => by
    obtain ⟨cdD, hcD, _⟩ := any_some hdct
    unfold clsIn at hcD
    split at hcD
    · rename_i c' d' cd' sl' ho
      intro A' Q' E' s' k q
      unfold isType loadHead
      exact wpAny_bind (wpAny_loadPart (k _ _ (X _ _ ho)) (wpAny_pure q))
    · cases hcD
  ne := fun h tp dd its n sl X htp => by
    obtain ⟨cdD, hcD, _⟩ := any_some hdct
    refine Bool.eq_false_iff.mpr fun q => ?_
    have e : D = tp := Value.ref.inj (beq_iff_eq.mp q)
    subst e
    unfold clsIn at hcD
    split at hcD
    · rename_i c' d' cd' sl' ho
      have z := (X _ _ ho).symm.trans htp
      cases z
    · cases hcD
  ca := fun X I k => kin_classD hga hgt hsub hdct ha hn htk hm X I k
end
end EV
set_option maxHeartbeats 4000000
namespace LX
open PySem PySem.Spec PyProof.Rows L2 C8 SX
structure XC (K : PySem.W.Frag) (C : Addr) : Prop where
  obj : ∃ (tail bmF : List Value) (B newId initId : String), ExcBaseFacts B newId initId bmF ∧ PySem.W.excInitIn K C tail newId = true ∧ tail.contains (.type B) = true ∧ tail.contains (.type "AttributeError") = false ∧ tail.contains (.type "NameError") = false ∧
    tail.contains (.type "object") = true ∧ ∀ self, PySem.refuseLoop self "__setattr__" tail = pure ()
  hd : PySem.W.hasDictIn K C = true
  sa : PySem.W.findIn K (.ref C) "__setattr__" = some (some (.builtin "object.__setattr__"))
  ga : PySem.W.findIn K (.ref C) "__getattribute__" = some (some (.builtin "BaseException.__getattribute__"))
  gg : PySem.W.findIn K (.ref C) "__getattr__" = some none
  exC : PySem.W.subIn K (.ref C) (.type "BaseException") = some true
  tyC : PySem.W.typeIn K (.ref C) = some (.type "type")
  kC : PySem.W.keepIn K (.ref C) = true
  ha : PySem.W.findIn K (.ref C) "__class__" = some (some (.builtin "object.__class__"))
  hn : PySem.W.specialIn K (.builtin "object.__class__") "__get__" = some (some (.builtin "getset_descriptor.__get__"))
  ht : PySem.W.takesIn K (.builtin "object.__class__") = some true
  hm : PySem.W.mroIn K C (.type "object") = some true
def veT : List Value := [.type "ValueError", .type "Exception", .type "BaseException", .type "object"]
def keT : List Value := [.type "KeyError", .type "LookupError", .type "Exception", .type "BaseException", .type "object"]
theorem veT_pass (self : Value) : PySem.refuseLoop self "__setattr__" veT = pure () := HandSPX.refsVE_pass self veT (by decide +kernel)
theorem keT_pass (self : Value) : PySem.refuseLoop self "__setattr__" keT = pure () := by kernel_rfl
theorem XC.ve {K : PySem.W.Frag} {C : Addr} (q : PySem.W.excInitIn K C veT "ValueError.__new__" = true) (hd : PySem.W.hasDictIn K C = true) (sa : PySem.W.findIn K (.ref C) "__setattr__" = some (some (.builtin "object.__setattr__")))
    (ga : PySem.W.findIn K (.ref C) "__getattribute__" = some (some (.builtin "BaseException.__getattribute__"))) (gg : PySem.W.findIn K (.ref C) "__getattr__" = some none) (exC : PySem.W.subIn K (.ref C) (.type "BaseException") = some true) (tyC : PySem.W.typeIn K (.ref C) = some (.type "type"))
    (kC : PySem.W.keepIn K (.ref C) = true) (ha : PySem.W.findIn K (.ref C) "__class__" = some (some (.builtin "object.__class__"))) (hn : PySem.W.specialIn K (.builtin "object.__class__") "__get__" = some (some (.builtin "getset_descriptor.__get__"))) (ht : PySem.W.takesIn K (.builtin "object.__class__") = some true)
    (hm : PySem.W.mroIn K C (.type "object") = some true) : XC K C :=
  ⟨⟨veT, _, _, _, _, PySem.F.excBase_ValueError, q, by decide +kernel, by decide +kernel, by decide +kernel, by decide +kernel, veT_pass⟩, hd, sa, ga, gg, exC, tyC, kC, ha, hn, ht, hm⟩
theorem XC.ke {K : PySem.W.Frag} {C : Addr} (q : PySem.W.excInitIn K C keT "LookupError.__new__" = true) (hd : PySem.W.hasDictIn K C = true) (sa : PySem.W.findIn K (.ref C) "__setattr__" = some (some (.builtin "object.__setattr__")))
    (ga : PySem.W.findIn K (.ref C) "__getattribute__" = some (some (.builtin "BaseException.__getattribute__"))) (gg : PySem.W.findIn K (.ref C) "__getattr__" = some none) (exC : PySem.W.subIn K (.ref C) (.type "BaseException") = some true) (tyC : PySem.W.typeIn K (.ref C) = some (.type "type"))
    (kC : PySem.W.keepIn K (.ref C) = true) (ha : PySem.W.findIn K (.ref C) "__class__" = some (some (.builtin "object.__class__"))) (hn : PySem.W.specialIn K (.builtin "object.__class__") "__get__" = some (some (.builtin "getset_descriptor.__get__"))) (ht : PySem.W.takesIn K (.builtin "object.__class__") = some true)
    (hm : PySem.W.mroIn K C (.type "object") = some true) : XC K C :=
  ⟨⟨keT, _, _, _, _, PySem.F.excBase_LookupError, q, by decide +kernel, by decide +kernel, by decide +kernel, by decide +kernel, keT_pass⟩, hd, sa, ga, gg, exC, tyC, kC, ha, hn, ht, hm⟩
theorem XC.data {K : PySem.W.Frag} {C : Addr} (T : XC K C) : ∃ (nm q : Str) (N : Addr) (bs bm : List Value) (sn : List Str) (sub : List Value) (ab : Bool) (col : Option Bool) (dd : Option Addr) (k0 k1 k2 k3 k5 : Option Value) (B newId initId : String) (bmF : List Value),
    ExcBaseFacts B newId initId bmF ∧ K.lookup C = some (excClassObj nm q C N bs bm true sn sub ab col dd k0 k1 k2 k3 k5 newId) ∧ bm.contains (.type B) = true ∧ bm.contains (.type "AttributeError") = false ∧ bm.contains (.type "NameError") = false ∧
    (∀ self, PySem.refuseLoop self "__setattr__" (.ref C :: bm) = pure ()) ∧ (Value.ref C :: bm).contains (.type "object") = true := by
  obtain ⟨tail, bmF, B, newId, initId, F, q, hB, hA, hN, hO, hp⟩ := T.obj
  have hdct := T.hd
  unfold PySem.W.excInitIn at q
  unfold PySem.W.hasDictIn PySem.W.clsIn at hdct
  split at q
  · rename_i dd cd sl ho
    rw [ho] at hdct
    split at q
    · rename_i C' bm k0 k1 k2 k3 n k5 hm hs
      simp only [Bool.and_eq_true, beq_iff_eq, Bool.not_eq_true'] at q
      obtain ⟨⟨⟨rfl, rfl⟩, hdel⟩, ht⟩ := q
      obtain ⟨nm, bs, mro, ns, qn, hd, sn, sub, ab, col, del⟩ := cd
      have hdct : hd = true := hdct
      dsimp only at hm hdel
      subst hm hdel hdct
      have hsl : sl = #[k0, k1, k2, k3, some (.builtin n), k5] := by
        obtain ⟨l⟩ := sl
        simp only at hs
        rw [hs]
      subst hsl
      have hT : ∀ X : String, bm.contains (.type X) = tail.contains (.type X) := fun X => PySem.W.excTail_contains X _ ht
      refine ⟨nm, qn, ns, bs, bm, sn, sub, ab, col, dd, k0, k1, k2, k3, k5, B, n, initId, bmF, F, ho, (hT _).trans hB, (hT _).trans hA, (hT _).trans hN, fun self => ?_, ?_⟩
      · exact PySem.W.excTail_pass self (hp self) _ ht
      · rw [List.contains_cons, hT, hO, Bool.or_true]
    · cases q
  · cases q
section
variable {X : Cx} {pins : List (Addr × Obj)} {σ : L2.St} {H : Hp} {s : Shared} {a C dx : Addr} {f : Str} {y : V} {u : Value} {Q : Unit → Shared → Prop} {E : Value → Shared → Prop} {A : Around}
theorem ost_newG (T : XC X.K C) (I : Inv X pins σ H s) (e : H a = some (exo a C none)) (hno : PySem.W.findIn X.K (.ref C) f = some none) (ry : RelV y u)
    (h : ∀ dx s', H dx = none → dx ≠ a → Inv X pins σ (upd (upd H dx (exd dx [(f, y)])) a (exo a C (some dx))) s' → Q () s') : wpAny (model X.prog X.w) A (setAttr (.ref a) f u) Q E s := by
  obtain ⟨nm, q, N, bs, bm, sn, sub, ab, col, dd, k0, k1, k2, k3, k5, B, newId, initId, bmF, F, hC, hB, hA, hN, hp0, hob⟩ := T.data
  have hcl : PySem.W.clsIn X.K C = some { name := nm, bases := bs, mro := .ref C :: bm, ns := N, qualname := q, hasDict := true, slotNames := sn, subclasses := sub, abstract := ab, collection := col, hasDel := false } := by unfold PySem.W.clsIn; rw [hC] <;> rfl
  obtain ⟨t1, ho⟩ := exo_at I.hok e
  obtain ⟨hp, g, d, t, os⟩ := s
  refine PySem.W.set_plain I.kIn (ox := { cls := .ref C, dict := none, data := .fields #[.ref t1, .none, .none, .none, .bool false, .none] }) (od := none) ⟨ho, rfl, rfl, trivial⟩ T.sa ?_
  refine EV.exc_osaG I.kIn ho hcl hp0 rfl hob rfl hno (fun h' tk' dx k dn dne hx hn => ?_)
  have hnd : H dx = none := I.hok.fresh dn
  have nd : ∀ {b : Addr} {o : Obj}, hp.get? b = some o → b ≠ dx := fun {b o} q => Nat.ne_of_lt (Nat.lt_of_lt_of_le (Heap.lt_size q) dn)
  have na : ∀ {b : Addr}, H b = none → b ≠ a := fun {b} n z => by
    rw [z, e] at n
    cases n
  have Un1 : Un X.fs [] H (upd (upd H dx (exd dx [(f, y)])) a (exo a C (some dx))) hp h' := {
    keep := fun b o q n _ _ => k b o (na n) q
    slot := fun b o q n _ _ => ⟨o.slots, k b o (na n) q⟩
    free := fun b o q n _ => by rw [upd_ne (na n), upd_ne (nd q)]; exact n
    there := fun b o q _ => by
      by_cases hb : b = a
      · exact ⟨_, by rw [hb]; exact hx⟩
      · exact ⟨o, k b o hb q⟩
    tups := fun b xs q => by rw [upd_ne (at_ne e q exo_tup), upd_ne (ne_of_none q hnd)]; exact q
    frzs := fun b o v q => by rw [upd_ne (at_ne e q exo_frz), upd_ne (ne_of_none q hnd)]; exact q
    tbls := fun b ps q => ⟨#[], by rw [upd_ne (at_ne e q exo_tbl), upd_ne (ne_of_none q hnd), q]; simp⟩ }
  refine h dx _ hnd dne (I.un (t' := tk') Un1 fun b o q => ?_)
  by_cases hb : b = a
  · subst hb
    rw [upd_same] at q
    cases q
    exact exo_ok hx
  · rw [upd_ne hb] at q
    by_cases hd : b = dx
    · subst hd
      rw [upd_same] at q
      cases q
      exact exd_ok hn (relO_put (fs := []) ry fun g => True.intro)
    · rw [upd_ne hd] at q
      exact (I.hok b o q).stay (fun c v hc z => k c v (by
          rcases hc with hc | hc
          · rw [hc]
            exact hb
          · exact at_ne e hc exo_own) z)
        (fun c hc => by rw [upd_ne (at_ne e hc exo_own), upd_ne (ne_of_none hc hnd)]; exact hc) (fun c xs hc => by rw [upd_ne (at_ne e hc exo_tup), upd_ne (ne_of_none hc hnd)]; exact hc)
end
def tOstG (K : PySem.W.Frag) (f : Str) (to te : TE) : TS := fun D σ H => te σ H fun y H1 => to σ H1 fun x H2 => ∃ a C : Addr, x = .ref a ∧ XC K C ∧ PySem.W.findIn K (.ref C) f = some none ∧
  H2 a = some (exo a C none) ∧ ∀ dx, H2 dx = none → dx ≠ a → D.nx σ (upd (upd H2 dx (exd dx [(f, y)])) a (exo a C (some dx)))
section
variable {X : Cx} {o e : Expr} {es : List Expr} {to te : TE} {ta : TA} {f : Str} {p p' p1 p2 pos : Pos}
theorem ps_ostG (ho : PE X o to) (he : PE X e te) (hs : swapsWith e (some (.Attribute o f p')) pos.line X.env = pure false := by rfl) : PS X (.Assign [.Attribute o f p'] e pos) (tOstG X.K f to te) := by
  refine ⟨fun pins s σ H D I h => ?_⟩
  refine plainObj_wpAny_Assign_Attribute (thn (he.run pins s σ H _ I h) fun v s1 ⟨y, H1, I1, r1, q1⟩ => thn (ho.run pins s1 σ H1 _ I1 q1) fun u s2 ⟨x, H2, I2, r2, a, C, ex, T, hno, ea, q⟩ => ?_) hs
  subst ex
  obtain rfl : u = Value.ref a := r2
  exact ost_newG T I2 ea hno r1 fun dx s' n ne J => ⟨σ, _, J, q dx n ne⟩
theorem pmk_xc {CX : CXT} {x : Str} {C fI : Addr} {k : Nat} {fd : FuncData} {ps : List Str} {sp : Sp} {ds : List Value} {dvs : List V} (T : XC X.K C) (iC : PySem.W.findIn X.K (.ref C) "__init__" = some (some (.ref fI))) (tI : PySem.W.typeIn X.K (.ref fI) = some (.type "function"))
    (F1 : FnOk X.prog X.w X.K X.mg X.base CX k fI fd ps sp) (hr : Room (k + 1) X.A) (hb : Binds X.K fd ps ds) (hd : Vals dvs ds) (hx : Passes CX X (fun _ _ _ => False)) (hg : Gl X x) (hm : X.mg x = some (.ref C)) (ha : PA X (e :: es) ta)
    (hdb : (x == ("__debug__" : Str)) = false := by decide) (he : starEach (e :: es) X.env = (false, eval e X.env) :: starEach es X.env := by rfl) (hpl : (backTo pos (starEach es X.env)).any (·.1) = false := by rfl) :
    PMk X (.Call (.Name x p) (e :: es) [] pos) (tMkO C sp dvs ta) := by
  intro pins s σ H Q I h
  obtain ⟨nm, q, N, bs, bm, sn, sub, ab, col, dd, k0, k1, k2, k3, k5, B, newId, initId, bmF, F, hC, hB, hA, hN, hp0, hob⟩ := T.data
  refine wpAny_Call_Name_kw (ld_glob I hg hm ?_ hdb)
  refine PySem.W.callWith_K (h₀ := X.base) I.ok.mod.kin T.kC (thn (ha.run pos pins s σ H _ I h) fun us s1 ⟨vs, H1, I1, r1, hz, q1⟩ => ⟨I1.kIn, ?_⟩) he hpl
  show wpAny _ _ (call (.ref C) us) _ _ _
  obtain ⟨hp, g, dr, tk, os⟩ := s1
  have hsz : hp.objs.size ≤ hp.objs.size + 1 := Nat.le_succ _
  have hn : H1 (hp.objs.size + 1) = none := I1.hok.fresh hsz
  have hq := q1 (hp.objs.size + 1) hn
  have kk : ∀ b o, hp.get? b = some o → ((hp.push (PySem.W.kdv_tup us)).push (PySem.HandSPX.excO C hp.objs.size)).get? b = some o := fun b o e => Heap.get?_push_of_some _ (Heap.get?_push_of_some _ e)
  have hget : ((hp.push (PySem.W.kdv_tup us)).push (PySem.HandSPX.excO C hp.objs.size)).get? (hp.objs.size + 1) = some (PySem.HandSPX.excO C hp.objs.size) := by heap_get
  have I2 : Inv X pins σ (upd H1 (hp.objs.size + 1) (exo (hp.objs.size + 1) C none)) ⟨(hp.push (PySem.W.kdv_tup us)).push (PySem.HandSPX.excO C hp.objs.size), g, dr, tk, os⟩ :=
    I1.laid (t' := tk) (a := hp.objs.size + 1) (o := exo (hp.objs.size + 1) C none) (h' := (hp.push (PySem.W.kdv_tup us)).push (PySem.HandSPX.excO C hp.objs.size)) kk hsz (exo_ok hget)
  have r2 : Vals (V.ref (hp.objs.size + 1) :: (vs ++ dvs)) (Value.ref (hp.objs.size + 1) :: (us ++ ds)) := .cons rfl (r1.append hd)
  have hl : (Value.ref (hp.objs.size + 1) :: us ++ ds).length = ps.length := by
    have e := r2.length
    rw [F1.len _ _ _ _ hq] at e
    exact e.symm
  have hus : us.length ≤ sizeLine := by
    rw [← Paired.length r1, sizeLine_eq]
    omega
  refine wpAny_call (EV.call_kw (kw := []) F hB hA hN (I1.kIn _ _ hC) (PySem.W.looks_findIn I1.kIn iC) (fun self => PySem.W.bind_fn I1.kIn self tI) hus
    (codeAny_mono (F1.run _ X.stack _ _ ⟨Value.ref (hp.objs.size + 1) :: us, []⟩ (Value.ref (hp.objs.size + 1) :: (us ++ ds)) _ _ (fun _ _ _ => False) (hr.make C us []) (I2.env0.make C us []) (hb _ (Value.ref (hp.objs.size + 1) :: us) I2.kIn hl) r2 hq) fun r s' hq' => ?_))
  cases r with
  | error er => exact hx pins σ _ _ er s' I2 hq'
  | ok fl =>
    cases fl with
    | ret u =>
      obtain ⟨v, H2, os2, bare2, un2, hok2, rv, ev, d, fs, ea, ed, hd1, q2⟩ := hq'
      subst ev
      obtain ⟨h2, g2, d2, t2, os'⟩ := s'
      exact ⟨rv, mk_end (raises_own T.exC T.tyC) I1 hsz kk un2 hok2 os2 bare2 ea ed hd1 q2⟩
    | next => exact False.elim hq'
    | brk => exact False.elim hq'
    | cont => exact False.elim hq'
theorem pmk_own0 {C : Addr} {bmB : List Value} {B newId initId : String} {x : Str} {p pos : Pos} (F : ExcBaseFacts B newId initId bmB) (q : PySem.W.excIn X.K C bmB newId = true) (gC : X.mg x = some (.ref C)) (kC : PySem.W.keepIn X.K (.ref C) = true) (r : Raises X (.ref C)) (hg : Gl X x)
    (hdb : (x == ("__debug__" : Str)) = false := by decide) : PMk X (.Call (.Name x p) [] [] pos) (fun σ H Q => Q (.ref C) none H) := by
  intro pins s σ H Q I h
  refine wpAny_Call_Name_kw (ld_glob I hg gC ?_ hdb)
  refine PySem.W.callWith_K0 I.kIn kC ?_
  show wpAny _ _ (call (.ref C) []) _ _ _
  obtain ⟨bm, N, nm, qn, bs, hdct, sn, sub, ab, col, dd, k0, k1, k2, k3, k5, mN, hC, hN, hni, T⟩ := exc_obj I.kIn q
  refine wpAny_call_exc_subT F T hC hN hni (fun h' e hm => ?_) (by show 0 ≤ sizeLine; exact Nat.zero_le _)
  exact mk_of I hm r h (I.hok.gone hm.new)
end
def rIsX (K : PySem.W.Frag) (a : Addr) (cls : Value) (d : Option Addr) : List V → Hp → VK → Prop := fun xs H Q => ∃ (D : Addr) (c : V) (cv : Value) (b : Bool), cls = .ref D ∧ ExcC K D ∧ xs = [.ref a, c] ∧ (∀ u, RelV c u → u = cv) ∧ PySem.W.kitOne K (.ref D) cv = some b ∧
  (d = none ∨ ∃ dd fs, d = some dd ∧ H dd = some (.xd fs)) ∧ Q (.bl b) H
theorem call_isX {X : Cx} {a : Addr} {cls : Value} {d : Option Addr} {oe : Obj} {pn : List (Addr × Obj)} (hz : Zc cls d oe) (hf : ∃ vs, oe.data = .fields vs) : CallR (X.suite a ((a, oe) :: pn)) (.builtin "isinstance") (rIsX X.K a cls d) := by
  intro pins s σ H xs us Q I r h
  obtain ⟨D, c, cv, b, ecls, C, rfl, hcv, e, hd, q⟩ := h
  subst ecls
  cases r with
  | cons rx rr =>
    cases rr with
    | cons rt rr =>
      cases rr
      cases rx
      have ec := hcv _ rt
      subst ec
      obtain ⟨hget, _⟩ := I.pin (a, oe) (List.mem_append.mpr (.inl List.mem_cons_self))
      obtain ⟨vs, hv⟩ := hf
      have J : ∃ od : Option Obj, PySem.W.InstAt s.heap a oe D od := by
        obtain ⟨oc, od, oda, osl⟩ := oe
        obtain ⟨h1, h2⟩ := hz
        dsimp only at h1 h2 hv
        subst h1 h2 hv
        rcases hd with rfl | ⟨dd, fs, rfl, hdd⟩
        · exact ⟨none, hget, rfl, rfl, trivial⟩
        · have hx : ObjOk X.prog X.w H s.heap dd (.xd fs) := I.hok dd _ hdd
          obtain ⟨mA, hns, _⟩ := hx
          obtain ⟨o, _, _, ho, _⟩ := hns
          exact ⟨some o, hget, rfl, rfl, ho⟩
      obtain ⟨od, J⟩ := J
      exact PySem.W.kia_one (EV.kitx_excD (od := od) C.hg C.hk C.hs C.hd C.ha C.hn C.ht C.hm) I.kIn J e (fun z => nomatch z) fun tk => ⟨.bl b, H, I.kept (t' := tk) fun _ _ z => z, rfl, q⟩
theorem XC.exc {K : PySem.W.Frag} {C : Addr} (T : XC K C) : ExcC K C := ⟨T.ga, T.gg, T.exC, T.hd, T.ha, T.hn, T.ht, T.hm⟩
theorem XC.xf {K : PySem.W.Frag} {C : Addr} (T : XC K C) : XfC K C := ⟨T.ga, T.gg, T.exC, T.hd⟩
theorem XC.raises {X : Cx} {C : Addr} (T : XC X.K C) : Raises X (.ref C) := raises_own T.exC T.tyC
theorem XC.exm {K : PySem.W.Frag} {C : Addr} {cls : Value} {b : Bool} (T : XC K C) (h : PySem.W.subIn K cls (.ref C) = some b) : PySem.W.exmOne K cls (.ref C) = some b := PySem.W.exm_ref T.exC T.hd T.tyC h
end LX
set_option maxHeartbeats 4000000
namespace LX
open PySem PySem.Spec PyProof.Rows L2 C8 SX
section
variable {P : Program} {w : World} {K : PySem.W.Frag} {mg : Str → Option Value} {base : Heap}
theorem fnX {x qual : Str} {st : Stmt} {f : Addr} {fd : FuncData} {N ps : List Str} {k : Nat} {sp : Sp} (F : C8.Fun K x qual st f fd) (S : FnScope N ps (C8.fnScope st)) (len : ∀ vs H Q E, sp vs H Q E → vs.length = ps.length)
    (hbody : ∀ (cdv : Value) (A : Around) (outer : List Env) (s : Shared) (H : Hp) (vs : List V) (Q : VK) (E : XK), Room k (A.deeper (envOfC qual (C8.fnScope st) s.heap.objs.size f cdv)) → sp vs H Q E →
      ∃ t, PSs (cxOf (L2.CX P w) P w K mg base N qual (C8.fnScope st) f cdv A outer s H E) (C8.fnBody st) t ∧ t { nx := fun _ H' => Q .non H', rt := Q } (L2.start N vs) H) : FnOk P w K mg base (L2.CX P w) (k + 1) f fd ps sp := by
  obtain ⟨oc, od, dV, kV, doc, pm, an, cdv, ct, osl, rfl, lk, hcd⟩ := F.ex
  exact fn_of lk hcd S len fun A outer s H vs Q E hr hsp => hbody cdv A outer s H vs Q E hr hsp
structure CalX (P : Program) (w : World) (K : PySem.W.Frag) (mg : Str → Option Value) (base : Heap) (k : Nat) (x : Str) (sp : Sp) : Prop where
  ex : ∃ (f : Addr) (fd : FuncData) (ps : List Str), FnOk P w K mg base (L2.CX P w) k f fd ps sp ∧ mg x = some (.ref f) ∧ PySem.W.keepIn K (.ref f) = true ∧ Binds K fd ps []
structure MetX (P : Program) (w : World) (K : PySem.W.Frag) (mg : Str → Option Value) (base : Heap) (k : Nat) (C : Addr) (m : Str) (sp : Sp) : Prop where
  ex : ∃ (f : Addr) (fd : FuncData) (ps : List Str), Cls K C ∧ Meth K C m f ∧ FnOk P w K mg base (L2.CX P w) k f fd ps sp ∧ Binds K fd ps []
structure MakX (P : Program) (w : World) (K : PySem.W.Frag) (mg : Str → Option Value) (base : Heap) (k : Nat) (x : Str) (C : Addr) (sp : Sp) : Prop where
  ex : ∃ (f : Addr) (fd : FuncData) (ps : List Str), Mk K C f ∧ FnOk P w K mg base (L2.CX P w) k f fd ps sp ∧ mg x = some (.ref C) ∧ Binds K fd ps []
structure RaiX (P : Program) (w : World) (K : PySem.W.Frag) (mg : Str → Option Value) (base : Heap) (k : Nat) (x : Str) (C : Addr) (sp : Sp) : Prop where
  ex : ∃ (f : Addr) (fd : FuncData) (ps : List Str), XC K C ∧ PySem.W.findIn K (.ref C) "__init__" = some (some (.ref f)) ∧ PySem.W.typeIn K (.ref f) = some (.type "function") ∧ FnOk P w K mg base C8.CX0 k f fd ps sp ∧ mg x = some (.ref C) ∧ Binds K fd ps []
theorem calX {x : Str} {st : Stmt} {f : Addr} {fd : FuncData} {N ps : List Str} {k : Nat} {sp : Sp} (F : Def K mg x st f fd) (b : Binds K fd ps []) (S : FnScope N ps (C8.fnScope st)) (len : ∀ vs H Q E, sp vs H Q E → vs.length = ps.length)
    (hbody : ∀ (cdv : Value) (A : Around) (outer : List Env) (s : Shared) (H : Hp) (vs : List V) (Q : VK) (E : XK), Room k (A.deeper (envOfC x (C8.fnScope st) s.heap.objs.size f cdv)) → sp vs H Q E →
      ∃ t, PSs (cxOf (L2.CX P w) P w K mg base N x (C8.fnScope st) f cdv A outer s H E) (C8.fnBody st) t ∧ t { nx := fun _ H' => Q .non H', rt := Q } (L2.start N vs) H) : CalX P w K mg base (k + 1) x sp :=
  ⟨f, fd, ps, fnX F.fn S len hbody, F.mgf, F.kp, b⟩
theorem metX {m qual : Str} {C : Addr} {st : Stmt} {f : Addr} {fd : FuncData} {N ps : List Str} {k : Nat} {sp : Sp} (c : Cls K C) (me : Meth K C m f) (F : C8.Fun K m qual st f fd) (b : Binds K fd ps []) (S : FnScope N ps (C8.fnScope st)) (len : ∀ vs H Q E, sp vs H Q E → vs.length = ps.length)
    (hbody : ∀ (cdv : Value) (A : Around) (outer : List Env) (s : Shared) (H : Hp) (vs : List V) (Q : VK) (E : XK), Room k (A.deeper (envOfC qual (C8.fnScope st) s.heap.objs.size f cdv)) → sp vs H Q E →
      ∃ t, PSs (cxOf (L2.CX P w) P w K mg base N qual (C8.fnScope st) f cdv A outer s H E) (C8.fnBody st) t ∧ t { nx := fun _ H' => Q .non H', rt := Q } (L2.start N vs) H) : MetX P w K mg base (k + 1) C m sp :=
  ⟨f, fd, ps, c, me, fnX F S len hbody, b⟩
theorem makX {x qual : Str} {C : Addr} {st : Stmt} {f : Addr} {fd : FuncData} {N ps : List Str} {k : Nat} {sp : Sp} (M : Mk K C f) (hm : mg x = some (.ref C)) (F : C8.Fun K "__init__" qual st f fd) (b : Binds K fd ps []) (S : FnScope N ps (C8.fnScope st)) (len : ∀ vs H Q E, sp vs H Q E → vs.length = ps.length)
    (hbody : ∀ (cdv : Value) (A : Around) (outer : List Env) (s : Shared) (H : Hp) (vs : List V) (Q : VK) (E : XK), Room k (A.deeper (envOfC qual (C8.fnScope st) s.heap.objs.size f cdv)) → sp vs H Q E →
      ∃ t, PSs (cxOf (L2.CX P w) P w K mg base N qual (C8.fnScope st) f cdv A outer s H E) (C8.fnBody st) t ∧ t { nx := fun _ H' => Q .non H', rt := Q } (L2.start N vs) H) : MakX P w K mg base (k + 1) x C sp :=
  ⟨f, fd, ps, M, fnX F S len hbody, hm, b⟩
theorem raiX {x qual : Str} {C : Addr} {st : Stmt} {f : Addr} {fd : FuncData} {N ps : List Str} {k : Nat} {sp : Sp} (T : XC K C) (iC : PySem.W.findIn K (.ref C) "__init__" = some (some (.ref f))) (tI : PySem.W.typeIn K (.ref f) = some (.type "function")) (hm : mg x = some (.ref C)) (F : C8.Fun K "__init__" qual st f fd) (b : Binds K fd ps []) (S : FnScope N ps (C8.fnScope st)) (len : ∀ vs H Q E, sp vs H Q E → vs.length = ps.length)
    (hbody : ∀ (cdv : Value) (A : Around) (outer : List Env) (s : Shared) (H : Hp) (vs : List V) (Q : VK) (E : XK), Room k (A.deeper (envOfC qual (C8.fnScope st) s.heap.objs.size f cdv)) → sp vs H Q E →
      ∃ t, PSs (cxOf C8.CX0 P w K mg base N qual (C8.fnScope st) f cdv A outer s H E).nox (C8.fnBody st) t ∧ t { nx := fun _ H' => Q .non H', rt := Q } (L2.start N vs) H) : RaiX P w K mg base (k + 1) x C sp :=
  ⟨f, fd, ps, T, iC, tI, fn0 F S len hbody, hm, b⟩
end
def tMethS (C : Addr) (m : Str) (sp : Sp) (E : L2.St → XK) (ta : TE) (t : TA) : TE := fun σ H Q => ta σ H fun x H1 => ∃ a dx fs, x = .ref a ∧ H1 a = some (.ins C dx fs) ∧ fs.lookup m = none ∧ t σ H1 fun vs H2 => sp (x :: vs) H2 Q (E σ)
def tMakeS (C : Addr) (sp : Sp) (E : L2.St → XK) (t : TA) : TE := fun σ H Q => t σ H fun vs H1 => ∀ x dx, H1 x = none → H1 dx = none → dx ≠ x → sp (.ref x :: vs) (upd (upd H1 dx (.own x)) x (.ins C dx [])) (fun v H2 => v = .non ∧ Q (.ref x) H2) (E σ)
section
variable {X : Cx} {k j : Nat} {f C : Addr} {sp : Sp} {W : WX} {x m : Str} {p pos apos : Pos} {e o : Expr} {es : List Expr} {ta : TE} {t : TA}
theorem pe_cX (c : CalX X.prog X.w X.K X.mg X.base k x sp) (tk : Takes X W) (hr : Room j X.A) (hk : k ≤ j) (hg : Gl X x) (ha : PA X (e :: es) t) (hdb : (x == ("__debug__" : Str)) = false := by decide)
    (he : starEach (e :: es) X.env = (false, eval e X.env) :: starEach es X.env := by rfl) (hpl : (backTo pos (starEach es X.env)).any (·.1) = false := by rfl) : PE X (.Call (.Name x p) (e :: es) [] pos) (tCallS sp (WE W) t) := by
  obtain ⟨f, fd, ps, F, hm, kp, b⟩ := c.ex
  exact pe_callS F (hr.mono hk) hg hm kp b (fun σ => passAt tk σ) ha hdb he hpl
theorem pe_mtX {pl : Sem Bool} (c : MetX X.prog X.w X.K X.mg X.base k C m sp) (tk : Takes X W) (hr : Room j X.A) (hk : k ≤ j) (he : PE X o ta) (ha : PA X (e :: es) t)
    (hst : starEach (e :: es) X.env = (false, eval e X.env) :: starEach es X.env := by rfl) (hpl : (backTo pos (starEach es X.env)).any (·.1) = false := by rfl)
    (ht : eval (.Call (.Attribute o m apos) (e :: es) [] pos) X.env = (do
      let ov ← eval o X.env
      standAt apos.atName
      let (f, first) ← holding [ov] (getMethod ov m pl)
      callWith pos f first (backTo pos (starEach (e :: es) X.env)) (backToKw pos (keywordEach [] X.env))) := by rfl) :
    PE X (.Call (.Attribute o m apos) (e :: es) [] pos) (tMethS C m sp (WE W) ta t) := by
  obtain ⟨f, fd, ps, cl, hm, F, hb⟩ := c.ex
  refine ⟨fun pins s σ H Q I h => ?_⟩
  refine PySem.W.methodCall_KW (pl := pl) (thn (he.run pins s σ H _ I h) fun u s1 ⟨x, H1, I1, rx, a, dx, fs, ex, ea, l, q⟩ => ?_) ht
  subst ex
  obtain rfl : u = Value.ref a := rx
  refine getmeth_ok I1 ea cl hm l ?_
  refine PySem.W.callWith_K (first := [.ref a]) (h₀ := X.base) I.ok.mod.kin hm.kp (thn (ha.run pos pins s1 σ H1 _ I1 q) fun us s2 ⟨vs, H2, I2, r, q2⟩ => ⟨I2.kIn, ?_⟩) hst hpl
  exact run_fnS (us := .ref a :: us) (vs := .ref a :: vs) F (hr.mono hk) hb (passAt tk σ) I2 (.cons rfl r) q2
theorem pe_mkX (c : MakX X.prog X.w X.K X.mg X.base k x C sp) (tk : Takes X W) (hr : Room j X.A) (hk : k + 1 ≤ j) (hg : Gl X x) (ha : PA X (e :: es) t) (hdb : (x == ("__debug__" : Str)) = false := by decide)
    (he : starEach (e :: es) X.env = (false, eval e X.env) :: starEach es X.env := by rfl) (hpl : (backTo pos (starEach es X.env)).any (·.1) = false := by rfl) : PE X (.Call (.Name x p) (e :: es) [] pos) (tMakeS C sp (WE W) t) := by
  obtain ⟨f, fd, ps, M, F, hm, hb⟩ := c.ex
  refine ⟨fun pins s σ H Q I h => ?_⟩
  refine wpAny_Call_Name_kw (ld_glob I hg hm ?_ hdb)
  refine PySem.W.callWith_K (h₀ := X.base) I.ok.mod.kin M.kp (thn (ha.run pos pins s σ H _ I h) fun us s1 ⟨vs, H1, I1, r, q⟩ => ⟨I1.kIn, ?_⟩) he hpl
  have hq := q (s1.heap.objs.size + 1) s1.heap.objs.size (I1.hok.fresh (Nat.le_succ _)) (I1.hok.fresh (Nat.le_refl _)) (Nat.ne_of_lt (Nat.lt_succ_self _))
  have I2 := Inv.made (C := C) I1
  have r2 : Vals (V.ref (s1.heap.objs.size + 1) :: vs) (Value.ref (s1.heap.objs.size + 1) :: us) := .cons rfl r
  have hl : (Value.ref (s1.heap.objs.size + 1) :: us ++ []).length = ps.length := by
    have e := r2.length
    rw [F.len _ _ _ _ hq] at e
    rw [List.append_nil]
    exact e.symm
  have hb2 := hb _ (Value.ref (s1.heap.objs.size + 1) :: us) I2.kIn hl
  rw [List.append_nil] at hb2
  refine wpAny_call (make_map (f := f) I1.kIn M.makes M.init (beq_iff_eq.mp M.fn) (codeAny_mono (F.run _ X.stack _ _ ⟨Value.ref (s1.heap.objs.size + 1) :: us, []⟩ (Value.ref (s1.heap.objs.size + 1) :: us) _ _ (WE W σ) ((hr.mono hk).make C us [])
    (I2.env0.make C us []) hb2 r2 hq) fun r s' hq' => ?_))
  cases r with
  | error e => exact passAt tk σ pins _ _ e s' I2 hq'
  | ok fl =>
    cases fl with
    | ret u =>
      obtain ⟨v, H', I3, rv, ev, q3⟩ := I2.after hq'
      subst ev
      exact ⟨rv, ⟨V.ref (s1.heap.objs.size + 1), H', I3, rfl, q3⟩⟩
    | next => exact False.elim hq'
    | brk => exact False.elim hq'
    | cont => exact False.elim hq'
theorem pmk_rai (c : RaiX X.prog X.w X.K X.mg X.base k x C sp) (hr : Room j X.A) (hk : k + 1 ≤ j) (hg : Gl X x) (ha : PA X (e :: es) t) (hdb : (x == ("__debug__" : Str)) = false := by decide)
    (he : starEach (e :: es) X.env = (false, eval e X.env) :: starEach es X.env := by rfl) (hpl : (backTo pos (starEach es X.env)).any (·.1) = false := by rfl) : PMk X (.Call (.Name x p) (e :: es) [] pos) (tMkO C sp [] t) := by
  obtain ⟨f, fd, ps, T, iC, tI, F, hm, b⟩ := c.ex
  exact pmk_xc T iC tI F (hr.mono hk) b .nil C8.pass0 hg hm ha hdb he hpl
end
def wManyA (K : PySem.W.Frag) (Wout : WX) (D : Ends) : List (Value × Option Nat × (Addr → Value → Option Addr → TS)) → WX
  | [] => Wout
  | (c, none, ts) :: r => fun cls d σ H => ∃ b, PySem.W.exmOne K cls c = some b ∧ (b = true → ∀ a, H a = none → ts a cls d D σ H) ∧ (b = false → wManyA K Wout D r cls d σ H)
  | (c, some i, ts) :: r => fun cls d σ H => ∃ b, PySem.W.exmOne K cls c = some b ∧ (b = true → ∀ a, H a = none → ts a cls d { nx := fun σ' H' => D.nx (σ'.set i none) H', rt := D.rt, bk := fun σ' H' => D.bk (σ'.set i none) H', ct := fun σ' H' => D.ct (σ'.set i none) H' } (σ.set i (some (.ref a))) H) ∧
      (b = false → wManyA K Wout D r cls d σ H)
inductive HdsA (X : Cx) : List ExceptHandler → List (Value × Option Nat × (Addr → Value → Option Addr → TS)) → Prop
  | nil : HdsA X [] []
  | cons {x : Str} {c : Value} {ts : Addr → Value → Option Addr → TS} {b₀ : Stmt} {suite : List Stmt} {np pos' : Pos} {hds : List ExceptHandler} {l : List (Value × Option Nat × (Addr → Value → Option Addr → TS))} (hc : Names X x c)
      (hsu : ∀ (a : Addr) (oe : Obj) (cls : Value) (d : Option Addr) (pn : List (Addr × Obj)), Zc cls d oe → (∃ vs, oe.data = .fields vs) → PSs (X.suite a ((a, oe) :: pn)) (b₀ :: suite) (ts a cls d)) (r : HdsA X hds l) :
      HdsA X (.ExceptHandler (some (.Name x np)) none (b₀ :: suite) pos' :: hds) ((c, none, ts) :: l)
  | consA {x n : Str} {i : Nat} {c : Value} {ts : Addr → Value → Option Addr → TS} {b₀ : Stmt} {suite : List Stmt} {np pos' : Pos} {hds : List ExceptHandler} {l : List (Value × Option Nat × (Addr → Value → Option Addr → TS))} (hi : X.N[i]? = some n) (hln : X.env.kindOf n = some .local) (hc : Names X x c)
      (hsu : ∀ (a : Addr) (oe : Obj) (cls : Value) (d : Option Addr) (pn : List (Addr × Obj)), Zc cls d oe → (∃ vs, oe.data = .fields vs) → PSs (X.suite a ((a, oe) :: pn)) (b₀ :: suite) (ts a cls d)) (r : HdsA X hds l) :
      HdsA X (.ExceptHandler (some (.Name x np)) (some n) (b₀ :: suite) pos' :: hds) ((c, some i, ts) :: l)
section
variable {X : Cx} {body : List Stmt} {h₀ : ExceptHandler} {hds : List ExceptHandler} {l : List (Value × Option Nat × (Addr → Value → Option Addr → TS))} {pos : Pos} {tb : WX → TS} {Wout : WX}
theorem ps_try_manyA (hs : X.stack = X.env :: X.outer) (hf : X.env.frame = some X.env.locals) (hN : X.N.Nodup) (tk : Takes X Wout)
    (hb : ∀ (W : WX) (pn : List (Addr × Obj)) (xe : Value → Shared → Prop), Takes (X.tr pn xe) W → PassesOwn (model X.prog X.w) X.A X.env xe → PSs (X.tr pn xe) body (tb W))
    (hh : HdsA X (h₀ :: hds) l) : PS X (.Try body (h₀ :: hds) [] [] pos) (fun D σ H => tb (wManyA X.K Wout D l) D σ H) := by
  refine ⟨fun pins s σ H D I h => ?_⟩
  have ok := I.ok
  have hfr : X.A.frames = some (X.env :: X.outer) := by rw [ok.frames, hs]
  refine wpAny_Try_except ?_
  refine wpAny_mono ((hb (wManyA X.K Wout D l) (X.pn ++ pins) (fun e s₁ => wpAny (model X.prog X.w) X.A (noteFrame e X.env) (fun _ s₂ => wpAny (model X.prog X.w) X.A (setFlight e none) (fun _ s₃ =>
    wpAny (model X.prog X.w) X.A (handleBy e X.env (h₀ :: hds)) (SP X pins D) X.xe s₃) X.xe s₂) X.xe s₁) (fun u s' xx => ?_) PassesOwn.looking).run [] s σ H D (I.toTry _) h) (fun f s1 hsp => ?_) (fun e s1 he => he)
  · obtain ⟨a, B, sI, pins', σ', H', cls, d, rfl, J', nb, up, sky, na, os, ag, w⟩ := xx
    have J : Inv X pins σ' H' sI := J'.ofTry ok
    have sky' : Sky B (X.env :: X.outer) a (Zc cls d) X.env.locals s'.heap := by rw [← hs]; exact sky
    show wpAny (model X.prog X.w) X.A (noteFrame (.ref a) X.env) _ _ _
    refine Sky.land Zc.steady hfr hf sky' fun h3 fl3 up3 => ?_
    have J3 : Inv X pins σ' H' { s' with heap := h3 } := J.landed nb fl3.1 (up.trans up3) os ag
    obtain ⟨oe3, vs3, he3, hz3, hd3⟩ := fl3.there
    have notFr : ∀ {h : Heap} {o : Obj} {vs : Array Value}, h.FunFrames B (X.env :: X.outer) → h.get? a = some o → o.data = .fields vs → a ∉ frs (X.env :: X.outer) := fun {h o vs} ff e dd hm => by
      obtain ⟨_, o', e', hnf⟩ := ff.mem hm
      rw [e] at e'; cases e'
      exact hnf _ dd
    have nfr := notFr fl3.2.2.1 he3 hd3
    have nL : a ≠ X.env.locals := fun z => nfr (List.mem_filterMap.mpr ⟨X.env, List.mem_cons_self, by rw [hf, z]⟩)
    have nF : a ∉ X.fs := fun hm => by
      obtain ⟨e, he, q⟩ := List.mem_filterMap.mp hm
      exact nfr (List.mem_filterMap.mpr ⟨e, List.mem_cons_of_mem _ he, q⟩)
    have S3 := J3.suite he3 hd3 na nL nF
    have LT : PySem.W.Looks (model X.prog X.w) h3 (typeOf (.ref a)) cls := fun A Q E s k q => wpAny_typeOf_ref (k _ _ he3) (by rw [hz3.1]; exact q)
    have test : ∀ {x : Str} {c : Value} {np : Pos} (hc : Names X x c) {Q : Value → Shared → Prop} {E : Value → Shared → Prop}, Q c { s' with heap := h3 } → wpAny (model X.prog X.w) (X.A.mark (some (.ref a))) (eval (.Name x np) X.env) Q E { s' with heap := h3 } := fun {x c np} hc {Q E} q => by
      obtain ⟨hg, hdbg, hm | ⟨hm, hv, hnn⟩⟩ := hc
      · exact ld_glob (X := X.suite a ((a, oe3) :: (X.pn ++ pins))) S3 hg hm q hdbg
      · exact ld_blt (X := X.suite a ((a, oe3) :: (X.pn ++ pins))) S3 hg hm hv q hnn hdbg
    have go : ∀ {hds' : List ExceptHandler} {l' : List (Value × Option Nat × (Addr → Value → Option Addr → TS))}, HdsA X hds' l' → wManyA X.K Wout D l' cls d σ' H' →
        wpAny (model X.prog X.w) X.A (handleBy (.ref a) X.env hds') (SP X pins D) X.xe { s' with heap := h3 } := by
      intro hds' l' hk
      induction hk with
      | nil =>
        intro w
        refine wpAny_handleBy_nil ?_
        obtain ⟨k1, k2, k3, oe, vs, T, oT, ts', he, hz, hd, h1, hr⟩ := id fl3
        unfold PySem.passOn
        refine wpAny_bind (wpAny_field he hd h1 ?_)
        rw [if_neg (show ¬ ((Value.ref T == Value.none) = true) from by simp)]
        have fin : wpAny (model X.prog X.w) X.A (setFlight (.ref a) X.env.frame) (fun _ s4 => wpAny (model X.prog X.w) X.A (throw (.ref a) : Sem Flow) (SP X pins D) X.xe s4) X.xe { s' with heap := h3 } := by
          rw [hf]
          refine HandSPX.setFlight_upZ fl3 fun h4 hh4 up4 => wpAny_throw (tk _ _ ?_)
          exact ⟨a, B, sI, pins, σ', H', cls, d, rfl, J, nb, (up.trans up3).trans up4, .inr (.inr (by rw [hs]; exact hh4)), na, os, ag, w⟩
        first
          | exact wpAny_bind (wpAny_pure (wpAny_bind fin))
          | exact wpAny_bind fin
      | @cons x c ts b₀ suite np pos' hds2 l2 hc hsu r ih =>
        intro w
        obtain ⟨b, hb1, hyes, hno⟩ := w
        refine wpAny_handleBy_cons (codeAny_handlers_test ?_) (by intro q; cases q)
        have LM := PySem.W.exm_one (M := model X.prog X.w) (J3.kIn) LT hb1
        refine test hc (LM.here ?_)
        cases b with
        | true =>
          refine codeAny_handlers_suite ?_
          refine HandSPX.lands_againZ fl3 fun h4 fl4 up4 => ?_
          have J4 : Inv X pins σ' H' { s' with heap := h4 } := J.landed nb fl4.1 ((up.trans up3).trans up4) os ag
          obtain ⟨oe4, vs4, he4, hz4, hd4⟩ := fl4.there
          have S4 := J4.suite he4 hd4 na nL nF
          refine wpAny_mono ((hsu a oe4 cls d (X.pn ++ pins) hz4 ⟨_, hd4⟩).run [] _ _ H' _ S4 (hyes rfl a na)) (fun f s6 hsp => ?_) (fun _ _ z => False.elim z)
          cases f with
          | next =>
            obtain ⟨σ6, H6, S6, q6⟩ := hsp
            exact ⟨_, _, S6.unsuite ok, q6⟩
          | brk =>
            obtain ⟨σ6, H6, S6, q6⟩ := hsp
            exact ⟨_, _, S6.unsuite ok, q6⟩
          | cont =>
            obtain ⟨σ6, H6, S6, q6⟩ := hsp
            exact ⟨_, _, S6.unsuite ok, q6⟩
          | ret u =>
            obtain ⟨v6, σ6, H6, S6, r6, q6⟩ := hsp
            exact ⟨_, _, _, S6.unsuite ok, r6, q6⟩
        | false =>
          show wpAny _ X.A (handleBy (.ref a) X.env hds2) _ _ _
          exact ih (hno rfl)
      | @consA x n i c ts b₀ suite np pos' hds2 l2 hi hln hc hsu r ih =>
        intro w
        obtain ⟨b, hb1, hyes, hno⟩ := w
        refine wpAny_handleBy_cons (codeAny_handlers_test ?_) (by intro q; cases q)
        have LM := PySem.W.exm_one (M := model X.prog X.w) (J3.kIn) LT hb1
        refine test hc (LM.here ?_)
        cases b with
        | true =>
          refine codeAny_handlers_suite_as ?_
          refine HandSPX.lands_againZ fl3 fun h4 fl4 up4 => ?_
          have J4 : Inv X pins σ' H' { s' with heap := h4 } := J.landed nb fl4.1 ((up.trans up3).trans up4) os ag
          obtain ⟨oe4, vs4, he4, hz4, hd4⟩ := fl4.there
          have S4 := J4.suite he4 hd4 na nL nF
          refine store_ok (X := X.suite a ((a, oe4) :: (X.pn ++ pins))) (v := .ref a) S4 hN hi (.inl hln) rfl (fun s5 S5 => ?_) (.inr hln)
          refine wpAny_mono ((hsu a oe4 cls d (X.pn ++ pins) hz4 ⟨_, hd4⟩).run [] s5 _ H' _ S5 (hyes rfl a na)) (fun f s6 hsp => ?_) (fun _ _ z => False.elim z)
          have end_ : ∀ {σ6 : L2.St} {H6 : Hp} {Q : Shared → Prop}, Inv (X.suite a ((a, oe4) :: (X.pn ++ pins))) [] σ6 H6 s6 → (∀ s7, Inv X pins (σ6.set i none) H6 s7 → Q s7) →
              wpAny (model X.prog X.w) X.A (do bindName X.env n .none; unbindBehindTheSuite X.env n pos') (fun _ s7 => Q s7) X.xe s6 := fun {σ6 H6 Q} S6 hq => gone_ok (S6.unsuite ok) hN hi hln hq
          cases f with
          | next =>
            obtain ⟨σ6, H6, S6, q6⟩ := hsp
            exact end_ S6 fun s7 J7 => ⟨_, _, J7, q6⟩
          | brk =>
            obtain ⟨σ6, H6, S6, q6⟩ := hsp
            exact end_ S6 fun s7 J7 => ⟨_, _, J7, q6⟩
          | cont =>
            obtain ⟨σ6, H6, S6, q6⟩ := hsp
            exact end_ S6 fun s7 J7 => ⟨_, _, J7, q6⟩
          | ret u =>
            obtain ⟨v6, σ6, H6, S6, r6, q6⟩ := hsp
            exact end_ S6 fun s7 J7 => ⟨_, _, _, J7, r6, q6⟩
        | false =>
          show wpAny _ X.A (handleBy (.ref a) X.env hds2) _ _ _
          exact ih (hno rfl)
    exact go hh w
  · cases f with
    | next =>
      obtain ⟨σ', H', J', q⟩ := hsp
      exact wpAny_execs_nil ⟨σ', H', J'.ofTry ok, q⟩
    | brk =>
      obtain ⟨σ', H', J', q⟩ := hsp
      exact ⟨σ', H', J'.ofTry ok, q⟩
    | cont =>
      obtain ⟨σ', H', J', q⟩ := hsp
      exact ⟨σ', H', J'.ofTry ok, q⟩
    | ret u =>
      obtain ⟨v, σ', H', J', r, q⟩ := hsp
      exact ⟨v, σ', H', J'.ofTry ok, r, q⟩
end
end LX
set_option maxHeartbeats 2000000
namespace LX
open PySem PySem.Spec PyProof.Rows L2 C8 SX
mutual
theorem dp_same {K : PySem.W.Frag} {H H' : Hp} (s : Same H H') : ∀ (d : PyData) (v : V), Dp K H v d → Dp K H' v d
  | .none, _, h => by cases h; exact .non
  | .bool b, _, h => by cases h; exact .bl b
  | .int i, _, h => by cases h; exact .int i
  | .str x, _, h => by cases h; exact .str x
  | .list ds, _, h => by
    cases h with
    | lst hs ha => exact .lst (s.seq hs) (dpa_same s ds _ ha)
  | .tuple ds, _, h => by
    cases h with
    | tup hs ha => exact .tup (sm_seqT s hs) (dpa_same s ds _ ha)
  | .dict _, _, h => by cases h
theorem dpa_same {K : PySem.W.Frag} {H H' : Hp} (s : Same H H') : ∀ (ds : List PyData) (vs : List V), DpAll K H vs ds → DpAll K H' vs ds
  | [], _, h => by cases h; exact .nil
  | d :: ds, _, h => by
    cases h with
    | cons h1 h2 => exact .cons (dp_same s d _ h1) (dpa_same s ds _ h2)
end
theorem dpa_len {K : PySem.W.Frag} {H : Hp} : ∀ {vs : List V} {ds : List PyData}, DpAll K H vs ds → vs.length = ds.length
  | _, _, .nil => rfl
  | _, _, .cons _ h => by rw [List.length_cons, List.length_cons, dpa_len h]
theorem dpa_at {K : PySem.W.Frag} {H : Hp} : ∀ {vs : List V} {ds : List PyData}, DpAll K H vs ds → ∀ (i : Nat) (v : V), vs[i]? = some v → ∃ d, ds[i]? = some d ∧ Dp K H v d
  | _, _, .nil, i, v, h => by simp at h
  | _, _, .cons h _, 0, v, e => by cases e; exact ⟨_, rfl, h⟩
  | _, _, .cons _ h, i + 1, v, e => dpa_at h i v e
def wo (B : List Addr) (H : Hp) : Hp := fun a => if a ∈ B then none else H a
def Liv (B : List Addr) (H : Hp) : Prop := ∀ b ∈ B, H b ≠ none
section
variable {B : List Addr} {H H' : Hp} {a : Addr} {o : HO}
theorem wo_in (h : a ∈ B) : wo B H a = none := if_pos h
theorem wo_out (h : a ∉ B) : wo B H a = H a := if_neg h
theorem wo_get (h : H a = some o) (n : a ∉ B) : wo B H a = some o := (wo_out n).trans h
theorem of_wo (h : wo B H a = some o) : H a = some o ∧ a ∉ B := by
  by_cases n : a ∈ B
  · rw [wo_in n] at h; cases h
  · exact ⟨(wo_out n).symm.trans h, n⟩
theorem wo_same (s : Same H H') : Same (wo B H) (wo B H') := fun a o h => let ⟨e, n⟩ := of_wo h; wo_get (s _ _ e) n
theorem wo_sub : Same (wo B H) H := fun _ _ h => (of_wo h).1
theorem wo_cons {b : Addr} : Same (wo (b :: B) H) (wo B H) := fun a o h => let ⟨e, n⟩ := of_wo h; wo_get e fun m => n (List.mem_cons_of_mem _ m)
theorem wo_upd_in (h : a ∈ B) : wo B (upd H a o) = wo B H := by
  funext c
  by_cases n : c ∈ B
  · rw [wo_in n, wo_in n]
  · rw [wo_out n, wo_out n, upd_ne (fun e => n (by rw [e]; exact h))]
theorem Liv.same (l : Liv B H) (s : Same H H') : Liv B H' := fun b hb e => by
  cases q : H b with
  | none => exact l b hb q
  | some o => rw [s _ _ q] at e; cases e
theorem Liv.new (l : Liv B H) (h : H a = none) : a ∉ B := fun m => l a m h
theorem Liv.cons {b : Addr} (l : Liv B H) (h : H b = some o) : Liv (b :: B) H := fun c hc e => by
  rcases List.mem_cons.mp hc with rfl | m
  · rw [h] at e; cases e
  · exact l c m e
theorem same_new {p : Addr} (s : Same H H') (h : H' p = none) : H p = none := by
  cases e : H p with
  | none => rfl
  | some o => rw [s _ _ e] at h; cases h
end
def RD (K : PySem.W.Frag) (B : List Addr) (t : TE) (d : PyData) (σ : L2.St) (H : Hp) : Prop := Liv B H → ∀ Q : VK, (∀ v H', Same H H' → Dp K (wo B H') v d → Q v H') → t σ H Q
def RDs (K : PySem.W.Frag) (B : List Addr) (t : TA) (ds : List PyData) (σ : L2.St) (H : Hp) : Prop := Liv B H → ∀ Q : List V → Hp → Prop, (∀ vs H', Same H H' → DpAll K (wo B H') vs ds → Q vs H') → t σ H Q
theorem dpa_of {K : PySem.W.Frag} {H : Hp} : ∀ {ys : List V} {n : Nat} {dd : Nat → PyData}, ys.length = n → (∀ (j : Nat) y, ys[j]? = some y → Dp K H y (dd j)) → DpAll K H ys ((List.range n).map dd)
  | [], _, _, hl, _ => by subst hl; exact .nil
  | y :: ys, _, dd, hl, h => by
    subst hl
    rw [List.length_cons, List.range_succ_eq_map, List.map_cons, List.map_map]
    exact .cons (h 0 y rfl) (dpa_of (dd := dd ∘ Nat.succ) rfl fun j z e => h (j + 1) z e)
section
variable {K : PySem.W.Frag} {B : List Addr} {σ : L2.St} {H : Hp} {t : TE} {ta : TA} {d : PyData} {ds : List PyData}
theorem rd_non : RD K B (tC .non) .none σ H := fun _ _ q => q _ H (Same.refl H) .non
theorem rd_int {i : Int} : RD K B (tC (.int i)) (.int i) σ H := fun _ _ q => q _ H (Same.refl H) (.int i)
theorem rd_bl {b : Bool} : RD K B (tC (.bl b)) (.bool b) σ H := fun _ _ q => q _ H (Same.refl H) (.bl b)
theorem rd_str {x : Str} : RD K B (tC (.str x)) (.str x) σ H := fun _ _ q => q _ H (Same.refl H) (.str x)
theorem rd_var {i : Nat} {v : V} (e : σ[i]? = some (some v)) (h : Dp K (wo B H) v d) : RD K B (tVar i) d σ H := fun _ _ q => ⟨v, e, q _ H (Same.refl H) h⟩
theorem rd_nil : RDs K B tNil [] σ H := fun _ _ q => q _ H (Same.refl H) .nil
theorem rd_cons (h1 : RD K B t d σ H) (h2 : ∀ H', Same H H' → Liv B H' → RDs K B ta ds σ H') : RDs K B (tCons t ta) (d :: ds) σ H := fun l _ q =>
  h1 l _ fun v H1 s1 hv => h2 H1 s1 (l.same s1) (l.same s1) _ fun vs H2 s2 hvs => q _ H2 (s1.trans s2) (.cons (dp_same (wo_same s2) _ _ hv) hvs)
theorem rd_lst (h : RDs K B ta ds σ H) (hl : ds.length ≤ sizeLine := by decide) : RD K B (tLst ta) (.list ds) σ H := fun l _ q =>
  h l _ fun vs H1 s1 hvs => ⟨by rw [dpa_len hvs]; exact hl, fun p hp => q _ _ (s1.trans (sm_new hp)) (.lst (SqL.of (wo_get upd_same ((l.same s1).new hp))) (dpa_same (wo_same (sm_new hp)) _ _ hvs))⟩
theorem rd_tup (h : RDs K B ta ds σ H) (hl : ds.length ≤ sizeLine := by decide) : RD K B (tTup ta) (.tuple ds) σ H := fun l _ q =>
  h l _ fun vs H1 s1 hvs => ⟨by rw [dpa_len hvs]; exact hl, fun p hp => q _ _ (s1.trans (sm_new hp)) (.tup (SqT.of (wo_get upd_same ((l.same s1).new hp))) (dpa_same (wo_same (sm_new hp)) _ _ hvs))⟩
theorem rd_lstA {Q : VK} (l : Liv B H) (h : RDs K B ta ds σ H) (hl : ds.length ≤ sizeLine) (q : ∀ p xs H', Same H H' → H p = none → H' p = some (.lst xs) → DpAll K (wo B H') xs ds → Q (.ref p) H') : tLst ta σ H Q :=
  h l _ fun vs H1 s1 hvs => ⟨by rw [dpa_len hvs]; exact hl, fun p hp => q p vs _ (s1.trans (sm_new hp)) (same_new s1 hp) upd_same (dpa_same (wo_same (sm_new hp)) _ _ hvs)⟩
theorem gn1 {i : Nat} {v : V} {Q : L2.St → Hp → Prop} (h : Q (σ.set i (some v)) H) : gName i v σ H Q := h
theorem pr1 {k : V} {tv : TE} {Q : List (V × V) → Hp → Prop} (h : tv σ H fun y H2 => Q [(k, y)] H2) : tPairs [(tC k, tv)] σ H Q := h
theorem lc_rd {J : It} {n : Nat} {G : Hp → Prop} {Y : Nat → Hp → V → Hp → Prop} {H1 : Hp} (w : Walk J n G Y) {g : TG} {te : TE} {vs : List Nat} {D : Addr} {Qd : Hp → Prop} (hB : Liv B H1) (hD : H1 D = none) (hn : n < sizeLine) (dd : Nat → PyData) (hG : ∀ H, Same H1 H → G H)
    (hs : ∀ i x H H' (R : V → Hp → Prop), i < n → Same H1 H → Liv (D :: B) H → Y i H x H' → (∀ y H4, Same H H4 → Dp K (wo (D :: B) H4) y (dd i) → R y H4) → g x (wipe σ vs) H' fun σ2 H2 => wipe σ2 vs = wipe σ vs ∧ te σ2 H2 R)
    (hd : ∀ ys H, Same H1 H → H D = some (.lst ys) → DpAll K (wo B H) ys ((List.range n).map dd) → Dp K (wo B H) (.ref D) (.list ((List.range n).map dd)) → Qd H) :
    ∃ W : Nat → Nat → Hp → Prop, (∃ m, W 0 m (upd H1 D (.lst []))) ∧ ∀ i m H, W i m H →
      (J.stop i H ∧ Qd H) ∨ (J.go i H ∧ ∃ Nx : Hp → Prop, (∀ H', Nx H' → ∃ m', m' < m ∧ W (i + 1) m' H') ∧ ∀ x H', J.yld i H x H' → g x (wipe σ vs) H' fun σ2 H2 => wipe σ2 vs = wipe σ vs ∧ tYes σ2 H2 fun b H3 =>
        if b = true then te σ2 H3 fun y H4 => ∃ acc, H4 D = some (.lst acc) ∧ acc.length < sizeLine ∧ Nx (upd H4 D (.lst (acc ++ [y]))) else Nx H3) := by
  refine lc_keepH keep_same w hD hn (fun i y H => Dp K (wo (D :: B) H) y (dd i)) hG (fun i y H H' _ r h => dp_same (wo_same r) _ _ h) (fun i y H acc o _ _ h => by rw [wo_upd_in List.mem_cons_self]; exact h) (fun i x H H' acc R hi r hDa hy hR => hs i x H H' R hi r ((hB.same r).cons hDa) hy hR) (fun ys H hl hg r hDs => ?_)
  have ha := dpa_of hl fun j y e => dp_same wo_cons _ _ (hg j y e)
  exact hd ys H r hDs ha (.lst (SqL.of (wo_get hDs (hB.new hD))) ha)
end
end LX
set_option maxHeartbeats 4000000
namespace LX
open PySem PySem.Spec PyProof.Rows L2 C8 SX ClX
structure CMX (P : Program) (w : World) (K : PySem.W.Frag) (mg : Str → Option Value) (base : Heap) (k : Nat) (C : Addr) (m : Str) (sp : Sp) : Prop where
  ex : ∃ (p g : Addr) (fd : FuncData) (ps : List Str) (mc : Value), CRead K C mc ∧ CMet K C mc m p g ∧ FnOk P w K mg base (L2.CX P w) k g fd ps sp ∧ Binds K fd ps []
def tCMX (C : Addr) (sp : Sp) (E : L2.St → XK) (ta : TE) (t : TA) : TE := fun σ H Q => ta σ H fun x H1 => x = .ref C ∧ t σ H1 fun vs H2 => sp (.ref C :: vs) H2 Q (E σ)
section
variable {X : Cx} {k j : Nat} {C : Addr} {m : Str} {sp : Sp} {W : WX} {o e : Expr} {es : List Expr} {pos apos : Pos} {ta : TE} {t : TA} {pl : Sem Bool}
theorem run_codeS {f : Addr} {fd : FuncData} {ps : List Str} {σ : L2.St} {pins : List (Addr × Obj)} {H : Hp} {s : Shared} {Q : VK} {us : List Value} {vs : List V} (F : FnOk X.prog X.w X.K X.mg X.base (L2.CX X.prog X.w) k f fd ps sp) (hr : Room k X.A) (hb : Binds X.K fd ps []) (hx : PassesAt (L2.CX X.prog X.w) X σ (WE W σ))
    (I : Inv X pins σ H s) (r : Vals vs us) (h : sp vs H Q (WE W σ)) : codeAny (model X.prog X.w) X.A (.call (.ref f) ⟨us, []⟩) (fun r s' => match r with | .ok (.ret v) => EP X pins σ Q v s' | .ok _ => False | .error e => X.xe e s') s := by
  have hl : us.length = ps.length := by rw [← r.length]; exact F.len _ _ _ _ h
  have b := hb s us I.kIn (by rw [List.append_nil]; exact hl)
  rw [List.append_nil] at b
  refine codeAny_mono (F.run X.A X.stack s H ⟨us, []⟩ us vs Q (WE W σ) hr I.env0 b r h) fun r s' hq => ?_
  cases r with
  | error e => exact hx pins H s e s' I hq
  | ok fl =>
    cases fl with
    | ret u => exact I.after hq
    | next => exact False.elim hq
    | brk => exact False.elim hq
    | cont => exact False.elim hq
theorem pe_cmX (c : CMX X.prog X.w X.K X.mg X.base k C m sp) (tk : Takes X W) (hr : Room j X.A) (hk : k ≤ j) (he : PE X o ta) (ha : PA X (e :: es) t)
    (hst : starEach (e :: es) X.env = (false, eval e X.env) :: starEach es X.env := by rfl) (hpl : (backTo pos (starEach es X.env)).any (·.1) = false := by rfl)
    (ht : eval (.Call (.Attribute o m apos) (e :: es) [] pos) X.env = (do
      let ov ← eval o X.env
      standAt apos.atName
      let (f, first) ← holding [ov] (getMethod ov m pl)
      callWith pos f first (backTo pos (starEach (e :: es) X.env)) (backToKw pos (keywordEach [] X.env))) := by rfl) :
    PE X (.Call (.Attribute o m apos) (e :: es) [] pos) (tCMX C sp (WE W) ta t) := by
  obtain ⟨p, g, fd, ps, mc, r, cm, F, hb⟩ := c.ex
  refine ⟨fun pins s σ H Q I h => ?_⟩
  refine PySem.W.methodCall_KW (pl := pl) (thn (he.run pins s σ H _ I h) fun u s1 ⟨x, H1, I1, rx, ex, q⟩ => ?_) ht
  subst ex
  obtain rfl : u = Value.ref C := rx
  refine getmethcm_ok I1 r cm fun s2 I2 => ?_
  refine callwith_cm I2 (base_none I1 (Nat.le_refl _)) cm.fi (thn (ha.run pos _ s2 σ H1 _ I2 q) fun us s3 ⟨vs, H2, I3, rv, q2⟩ => ⟨⟨pin_at I3, I3.kIn⟩, ?_⟩) hst hpl
  have z : wpAny (model X.prog X.w) X.A (call (.ref s1.heap.objs.size) us) (EP X ((s1.heap.objs.size, PySem.W.methodObj (.ref g) (.ref C)) :: pins) σ Q) X.xe s3 :=
    wpAny_call (PySem.W.method_call (pin_at I3) (run_codeS (us := .ref C :: us) (vs := .ref C :: vs) F (hr.mono hk) hb (passAt tk σ) I3 (.cons rfl rv) q2))
  exact thn z fun _ _ y => unpinE y
theorem pe_c0 {x : Str} {p : Pos} {sp : Sp} {dvs : List V} (c : C8.Cal X.prog X.w X.K X.mg X.base k x sp dvs) (hr : Room j X.A) (hk : k ≤ j) (hg : Gl X x) (hdb : (x == ("__debug__" : Str)) = false := by decide) : PE X (.Call (.Name x p) [] [] pos) (tCall sp dvs C8.E0 tNil) := by
  obtain ⟨f, fd, ps, ds, F, hm, kp, b, d⟩ := c.ex
  exact pe_call0 F (hr.mono hk) hg hm kp b d C8.pass0 hdb
end
end LX
set_option maxHeartbeats 4000000
namespace LX
open PySem PySem.Spec PyProof.Rows L2 C8 SX
section
variable {prog : Program} {w : World} {A : Around} {R : Result → Shared → Prop} {I S : Addr} {fp wr : List Addr} {G : Array GenState → Array GenState → Prop} {n : Nat} {P : Nat → Value → Prop} {St : Nat → Shared → Prop}
def cntT (xs : List Str) : Nat → Nat
  | 0 => 0
  | i + 1 => if (xs.take i).contains (xs.getD i default) then cntT xs i else cntT xs i + 1
theorem cntT_succ {xs : List Str} {i : Nat} {x : Str} (h : xs[i]? = some x) : (if decide (x ∈ xs.take i) = true then cntT xs i else cntT xs i + 1) = cntT xs (i + 1) := by
  have e : xs.getD i default = x := by rw [List.getD_eq_getElem?_getD, h]; rfl
  show _ = if (xs.take i).contains (xs.getD i default) then cntT xs i else cntT xs i + 1
  rw [e]
  by_cases q : x ∈ xs.take i <;> simp [q]
theorem cntT_le (xs : List Str) : ∀ i, cntT xs i ≤ i
  | 0 => Nat.le_refl _
  | i + 1 => by
    have := cntT_le xs i
    unfold cntT
    split <;> omega
abbrev ElemG (prog : Program) (w : World) (xs : List Str) (i : Nat) (S : Addr) (h : Heap) : Prop := h.SetOf (PySem.strKind prog w) S (fun k => decide (k ∈ xs.take i)) (cntT xs i)
theorem ElemG.stay {xs : List Str} {i : Nat} {h h' : Heap} (e : ElemG prog w xs i S h) (k : ∀ o, h.get? S = some o → h'.get? S = some o) : ElemG prog w xs i S h' :=
  let ⟨o, es, ep, tb, ho, rest⟩ := e; ⟨o, es, ep, tb, k o ho, rest⟩
theorem set_loopG (W : WalksS prog w A.in1 I fp wr G n P St) (off : S ∉ fp) {xs : List Str} (hl : xs.length = n) (room : n < scanBound) (val : ∀ i v, P i v → ∃ x t, xs[i]? = some x ∧ v = .str x t) :
    ∀ (k i : Nat) (s : Shared), i + k = n → St i s → ElemG prog w xs i S s.heap → (∀ s', Moved (S :: wr) G s s' → ElemG prog w xs n S s'.heap → R (.ok (.ret .none)) s') →
      codeAny (model prog w) A (.builtin "set.update.loop" ⟨[.ref S, .ref I], []⟩) R s
  | 0, i, s, hk, hst, he, hR => by
    obtain rfl : i = n := hk
    refine codeAny_builtin PyProof.Rows.F.entry_set_update_loop ?_
    rw [Around.under_plainId PyProof.Rows.F.plain_set_update_loop _]
    refine wpAny_bind (W.done s _ _ hst fun s' hm => wpAny_pure (hR s' (hm.mono fun b hb => List.mem_cons_of_mem _ hb) (he.stay fun o e => hm.heap S o (fun h => off (W.sub _ h)) e)))
  | k + 1, i, s, hk, hst, he, hR => by
    refine codeAny_builtin PyProof.Rows.F.entry_set_update_loop ?_
    rw [Around.under_plainId PyProof.Rows.F.plain_set_update_loop _]
    refine wpAny_bind (W.item i s _ _ (by omega) hst fun v s' hP hst' hm => ?_)
    obtain ⟨x, t, hx, rfl⟩ := val i v hP
    have he' : ElemG prog w xs i S s'.heap := he.stay fun o e => hm.heap S o (fun h => off (W.sub _ h)) e
    show wpAny _ A.in1 (holding [Value.str x t] (setAdd S (.str x t)) >>= _) _ _ s'
    refine wpAny_bind (wpAny_holding ?_)
    unfold setAdd
    refine wpAny_holding (wpAny_bind ((PySem.strKind prog w).pyHash (k := x) (strKind_is _ _ _ _) ?_))
    refine wpAny_setAddHashed_of (knd := PySem.strKind prog w) (s := { s' with toks := s'.toks + 1 }) (strKind_is _ _ _ _) rfl he' (by have := cntT_le xs i; omega) fun h' hsb hS2 => ?_
    have he2 : ElemG prog w xs (i + 1) S h' := SetOf_congr hS2 (fun y => by rw [take_more hx]; by_cases e : y ∈ xs.take i <;> by_cases e2 : y = x <;> simp [e, e2]) (cntT_succ hx)
    refine wpAny_pure ⟨plainId_quiet PyProof.Rows.F.plain_set_update_loop _, set_loopG W off hl room val k (i + 1) _ (by omega) (W.frame _ s' _ _ hst' (Nat.le_succ _) fun b hb o e => ?_) he2 fun s2 hm2 he3 => ?_⟩
    · rw [hsb.2 b (fun h => off (h ▸ hb))]; exact e
    · refine hR s2 (Moved.trans W.gtrans ((hm.mono fun b hb => List.mem_cons_of_mem _ hb).then_heap (Nat.le_succ _) fun b o hb e => ?_) hm2) he3
      rw [hsb.2 b (fun h => hb (by rw [h]; exact List.mem_cons_self))]; exact e
end
section
variable {prog : Program} {w : World} {A : Around} {E : Value → Shared → Prop} {s : Shared}
theorem set_of_listG {l : Addr} {items : Array Value} {xs : List Str} {Q : Value → Shared → Prop} (hh : A.handled = none) (hl : s.heap.IsList l items) (hi : PyProof.Rows.StrsAre items.toList xs) (room : xs.length < scanBound)
    (h : ∀ (h' : Heap) (tk : Nat), ElemG prog w xs xs.length s.heap.objs.size h' → (∀ b o, s.heap.get? b = some o → h'.get? b = some o) → Q (.ref s.heap.objs.size) { s with heap := h', toks := tk }) :
    wpAny (model prog w) A (call (.type "set") [.ref l]) Q E s := by
  obtain ⟨c, tl, hmro⟩ := PySem.F.called_set.mro
  have hmade := PySem.F.called_set.made
  have hsub := PySem.F.called_set.sub
  refine wpAny_call (codeAny_of_tree ?_)
  refine wpAny_pure ⟨Code.quiet_builtin _ (by decide +kernel), codeAny_builtin PySem.F.entry_type_call ?_⟩
  rw [Around.under_plain (weight_type_call_type "set" [.ref l] []) rfl]
  have nt := PySem.F.called_set.notType
  have cc := PySem.F.called_set.canCreate
  have ct := PySem.F.typeCall_set_1 (.ref l)
  repeat (any_goals (first | assumption | wp_step))
  refine codeAny_mono (code_set_new_1 (.ref l) (E := E) (Q₁ := fun obj s1 => ∃ led : Bool, obj = .ref s.heap.objs.size ∧ s1 = { s with heap := s.heap.push { cls := .type "set", dict := none, data := .set #[] 0 (.fresh 0 0 led) } }) fun led => ⟨led, rfl, rfl⟩) fun r s1 hr => ?_
  match r, hr with
  | .ok (.ret obj), hr =>
    obtain ⟨led, rfl, rfl⟩ := hr
    have hS : (s.heap.push (setO led)).get? s.heap.objs.size = some (setO led) := Heap.get?_push_size _ rfl
    have hTy : Shared.TypeIs { s with heap := s.heap.push (setO led) } (.ref s.heap.objs.size) "set" := ⟨_, hS, rfl⟩
    have li := PySem.F.called_set.init.lookup
    have bi := PySem.F.called_set.init.bind (.ref s.heap.objs.size)
    repeat (any_goals (first | assumption | wp_step))
    refine codeAny_mono (codeAny_call_builtin (R := wants (fun r s2 => r = .none ∧ ∃ h' tk, s2 = { s with heap := h', toks := tk } ∧ ElemG prog w xs xs.length s.heap.objs.size h' ∧ (∀ b o, s.heap.get? b = some o → h'.get? b = some o)) E)
      PySem.F.called_set.init.plain PySem.F.entry_set_init (check_set_init_1 hTy ?_)) fun r2 s2 hr2 => ?_
    · obtain ⟨⟨oc, od, odt, osl⟩, hol, hcl, nl, hdl⟩ := hl
      dsimp only at hcl hdl
      subst hcl hdl
      have hol' : (s.heap.push (setO led)).get? l = some { cls := .type "list", dict := od, data := .seq items nl, slots := osl } := Heap.get?_push_of_some _ hol
      have ss := PySem.F.sub_list_set
      have sf := PySem.F.sub_list_frozenset
      have ne : (Value.type "list" == Value.type "dict") = false := by decide
      have hl1 : (s.heap.push (setO led)).IsList l items := ⟨_, hol', rfl, nl, rfl⟩
      unfold Builtin.«set.__init__» noKeywords Builtin.Frozenset.updateFrom
      generalize hPI : pyIter = PI
      wp_walk
      subst hPI
      refine wpAny_pyIter_list hl1 ?_
      refine wpAny_bind (wpAny_runValue ?_)
      have hlS : l < s.heap.objs.size := Heap.lt_size hol
      have hz : (s.heap.push (setO led)).objs.size = s.heap.objs.size + 1 := Heap.size_push ..
      have neI : l ≠ (s.heap.push (setO led)).objs.size := by rw [hz]; exact Nat.ne_of_lt (Nat.lt_succ_of_lt hlS)
      have off : s.heap.objs.size ∉ [(s.heap.push (setO led)).objs.size, l] := by
        rw [hz]; simp only [List.mem_cons, List.not_mem_nil, or_false, not_or]
        exact ⟨Nat.ne_of_lt (Nat.lt_succ_self _), Nat.ne_of_gt hlS⟩
      have hsz : xs.length = items.size := by rw [← StrsAre.len_eq hi, Array.length_toList]
      refine set_loopG (xs := xs) ((Walks.list (A := A.in1.in1.in1) (by simp [hh]) _ l neI items).toS) off hsz (by rw [← hsz]; exact room) (fun i v hv => ?_) items.size 0 _ (Nat.zero_add _) ⟨⟨_, Heap.get?_push_size _ rfl, rfl, rfl⟩, hl1.push _⟩ ?_ fun s' hm hS' => ?_
      · obtain ⟨t, e⟩ := SS.strs_at hi i v (by rw [Array.getElem?_toList]; exact hv)
        have hlt : i < xs.length := by rw [hsz]; exact (Array.getElem?_eq_some_iff.mp hv).1
        exact ⟨xs[i], t, List.getElem?_eq_getElem hlt, by rw [e, List.getD_eq_getElem?_getD, List.getElem?_eq_getElem hlt]; rfl⟩
      · exact PyProof.Rows.SetOf_congr ((PyProof.Rows.setObjOf_fresh (knd := PySem.strKind prog w) led).setOf (Heap.get?_push_of_some _ hS) (by unfold scanBound; omega)) (fun _ => by simp) rfl
      · obtain ⟨h', g', d', tk', os'⟩ := s'
        obtain rfl : g' = s.gens := hm.gens
        obtain rfl : d' = s.drawn := hm.drawn
        obtain rfl : os' = s.os := hm.os
        refine wpAny_pure (wpAny_pure ⟨rfl, h', tk', rfl, by rw [hsz]; exact hS', fun b o e => ?_⟩)
        have hb : b < s.heap.objs.size := Heap.lt_size e
        refine hm.heap b o (fun hmem => ?_) (Heap.get?_push_of_some _ (Heap.get?_push_of_some _ e))
        have e' : b = s.heap.objs.size ∨ b = (s.heap.push (setO led)).objs.size := by simpa using hmem
        rcases e' with e' | e'
        · exact Nat.ne_of_lt hb e'
        · rw [hz] at e'; exact Nat.ne_of_lt (Nat.lt_succ_of_lt hb) e'
    · match r2, hr2 with
      | .ok (.ret r), hr2 =>
        obtain ⟨rfl, h', tk, rfl, hS', hk'⟩ := hr2
        repeat (any_goals (first | assumption | wp_step))
        exact h _ _ hS' hk'
      | .error e, hr2 => exact hr2
  | .error e, hr => exact hr
end
section
variable {X : Cx}
def tLenSetG (K : PySem.W.Frag) (ta : TE) : TE := fun σ H Q => ta σ H fun x H1 => ∃ (l : Addr) (xs : List (List Nat)), x = V.ref l ∧ SqL K H1 l (txs xs) ∧ xs.length < 60 ∧ Q (.int (cntT (xs.map S) xs.length : Nat)) H1
theorem pe_lenSetG {a : Expr} {ta : TE} {p p2 q pos : Pos} (hc : X.calm = true) (hg : Gl X "len") (hm : X.mg "len" = none) (hg2 : Gl X "set") (hm2 : X.mg "set" = none) (ha : PE X a ta)
    (na : starEach [a] X.env = (false, eval a X.env) :: starEach [] X.env := by rfl) : PE X (.Call (.Name "len" p) [.Call (.Name "set" p2) [a] [] q] [] pos) (tLenSetG X.K ta) := by
  refine ⟨fun pins s σ H Q I h => ?_⟩
  refine Call_ (ld_blt I hg hm PySem.boot_len (PyProof.Rows.callWith_builtin1 (PyProof.Rows.args_cons ?_ rfl) rfl rfl))
  refine Call_ (ld_blt I hg2 hm2 PyProof.Rows.boot_set (PyProof.Rows.callWith_type1 (PyProof.Rows.args_cons (thn (ha.run pins s σ H _ I h) fun v s1 ⟨x, H1, I1, r1, q1⟩ => PyProof.Rows.args_nil ?_) na) na rfl))
  obtain ⟨l, xs, rfl, hq, h1, q1⟩ := q1
  cases r1
  have e0 : txs xs = (xs.map S).map V.str := by unfold txs; rw [List.map_map]; rfl
  have room : (xs.map S).length < scanBound := by rw [List.length_map]; unfold scanBound; omega
  rw [e0] at hq
  obtain ⟨its, r, pl, hz⟩ := I1.list hq
  refine set_of_listG (I1.ok.hd hc) pl.isList (by simpa using strsAre_of r) room fun h' tk hS hk => ?_
  refine PyProof.Rows.args_nil ?_
  obtain ⟨o, es, ep, t, ho, hex, hd, _, _, _, hf, hn⟩ := hS
  have I2 : Inv X pins σ H1 { s1 with heap := h', toks := tk } := I1.kept hk
  rw [List.length_map] at hn
  have := cntT_le (xs.map S) xs.length
  exact call_len_set ho hex hd hf (by rw [hn]; omega) ⟨.int (cntT (xs.map S) xs.length : Nat), H1, I2.tok _, ⟨_, by rw [hn]⟩, q1⟩
end
end LX
set_option maxHeartbeats 4000000
namespace LX
open PySem PySem.Spec PyProof.Rows L2 C8 SX
def keyT (e : Int × Value) : Str := match e.2 with
  | .str k _ => k
  | _ => Str.empty
def GoodT (w : World) (e : Int × Value) : Prop := ∃ (k : Str) (u : Tok), e.2 = Value.str k u ∧ e.1 = hashStr w k
def SetT (w : World) (h : Heap) (a : Addr) (ks : List Str) : Prop :=
  ∃ o es ep t, h.get? a = some o ∧ o.ExactSet ∧ o.data = .set es ep t ∧ (∀ x ∈ es.toList, GoodT w x) ∧ (es.toList.map keyT).Nodup ∧ (∀ k, k ∈ es.toList.map keyT ↔ k ∈ ks) ∧ es.size ≤ ks.length ∧ t.fits es.size = true ∧ Ris t.place.toList ∧
    (w.params.followText "set-order" = true ∨ t.led = true)
section
variable {P : Program} {w : World} {A : Around} {E : Value → Shared → Prop} {s : Shared} {a : Addr} {ks : List Str}
theorem SetT.stay {h h' : Heap} (R : SetT w h a ks) (k : ∀ o, h.get? a = some o → h'.get? a = some o) : SetT w h' a ks :=
  let ⟨o, es, ep, t, ho, r⟩ := R; ⟨o, es, ep, t, k o ho, r⟩
theorem is_strT (k : Str) (u : Tok) : (PySem.strKind P w).is k (.str k u) = true := by
  show Value.isStrOf k (.str k u) = true
  simp [Value.isStrOf]
theorem goodT_el {l : List (Int × Value)} (g : ∀ x ∈ l, GoodT w x) : ElemsOf (PySem.strKind P w) l := fun x hx => by
  obtain ⟨k, u, e1, e2⟩ := g x hx
  exact ⟨⟨k, by rw [e1]; exact is_strT k u, e2⟩, by rw [e1]; rfl⟩
theorem goodT_is {x : Int × Value} (g : GoodT w x) (k : Str) : (PySem.strKind P w).is k x.2 = true ↔ keyT x = k := by
  obtain ⟨z, u, e, _⟩ := g
  unfold keyT
  rw [e]
  show Value.isStrOf k (.str z u) = true ↔ z = k
  simp [Value.isStrOf]
theorem setT_tail {g : Bool → Sem Unit} (hg : ∀ (b : Bool) (s1 : Shared) (Q' : Unit → Shared → Prop), Q' () s1 → wpAny (model P w) A (g b) Q' E s1)
    {o : Obj} {es es1 : Array (Int × Value)} {ep : Nat} {t t2 : SetTable} (ho : s.heap.get? a = some o) (hex : o.ExactSet) (hd : o.data = .set es ep t) (g1 : ∀ x ∈ es1.toList, GoodT w x) (nd1 : (es1.toList.map keyT).Nodup) (m1 : ∀ k, k ∈ es1.toList.map keyT ↔ k ∈ ks)
    (hk1 : es1.size ≤ ks.length) (room : ks.length < scanBound) (hf2 : t2.fits es1.size = true) (hr : Ris t2.place.toList) (hl : w.params.followText "set-order" = true ∨ t2.led = true) {wasDummy : Bool} {R : Option Bool → Shared → Prop}
    (hR : ∀ h2, Heap.SameBut a s.heap h2 → SetT w h2 a ks → R (some true) { s with heap := h2 }) :
    wpAny (model P w) A (storeSet a es1 t2 >>= fun _ => if (!wasDummy && t2.tooFull) = true then (do
            g (relayAll t2 es1 (SetTable.grown es1.size)).2.2
            storeSet a (relayAll t2 es1 (SetTable.grown es1.size)).1 (relayAll t2 es1 (SetTable.grown es1.size)).2.1; pure (some true))
          else pure (some true)) R E s := by
  have hb1 : es1.size < scanBound := Nat.lt_of_le_of_lt hk1 room
  refine wpAny_bind (wpAny_storeSet_of ho hd ?_ (fits_of_scanBound hb1))
  have o1 := store_at (es' := es1) (t' := t2) ho hd
  have b1 := Heap.SameBut.update s.heap a (Obj.putSet es1 t2)
  by_cases c : (!wasDummy && t2.tooFull) = true
  · rw [if_pos c]
    have pm := relayAll_perm t2 es1 (SetTable.grown es1.size)
    have fit3 := relayAll_fits t2 es1 (SetTable.grown es1.size)
    have ris3 := relayAll_ris t2 es1 (SetTable.grown es1.size)
    have led3 := relayAll_led t2 es1 (SetTable.grown es1.size)
    generalize relayAll t2 es1 (SetTable.grown es1.size) = Z at pm fit3 ris3 led3 ⊢
    obtain ⟨es2, t3, gv⟩ := Z
    dsimp only at pm fit3 ris3 led3 ⊢
    have sz2 : es2.size = es1.size := by rw [← Array.length_toList, pm.length_eq, Array.length_toList]
    refine wpAny_bind (hg _ _ _ ?_)
    refine wpAny_bind (wpAny_storeSet_of o1 rfl ?_ (fits_of_scanBound (by rw [sz2]; exact hb1)))
    have o2 := store_at (es' := es2) (t' := t3) o1 rfl
    refine wpAny_pure (hR _ (b1.trans (Heap.SameBut.update _ a _)) ⟨_, es2, _, t3, o2, hex, rfl, fun x hx => g1 x (pm.mem_iff.mp hx), (pm.map keyT).nodup_iff.mpr nd1, fun k => (pm.map keyT).mem_iff.trans (m1 k), by rw [sz2]; exact hk1, fit3, ris3, ?_⟩)
    exact hl.imp id fun z => led3.trans z
  · rw [if_neg c]
    exact wpAny_pure (hR _ b1 ⟨_, es1, _, t2, o1, hex, rfl, g1, nd1, m1, hk1, hf2, hr, hl⟩)
theorem setT_add {k : Str} {u : Tok} {Q : Bool → Shared → Prop} (R : SetT w s.heap a ks) (room : ks.length + 1 < scanBound) (hQ : ∀ b h2, Heap.SameBut a s.heap h2 → SetT w h2 a (k :: ks) → Q b { s with heap := h2 }) :
    wpAny (model P w) A (setAddHashed a (.str k u) (hashStr w k)) Q E s := by
  obtain ⟨o, es, ep, t, ho, hex, hd, g, nd, hm, hk, hf, hr, hl⟩ := R
  have hkey : (PySem.strKind P w).is k (.str k u) = true := is_strT k u
  have hsc : (Value.str k u).scannable = true := rfl
  have hel : ElemsOf (PySem.strKind P w) es.toList := goodT_el g
  have hb : es.size < scanBound := by omega
  show wpAny (model P w) A (setAddHashed a (.str k u) ((PySem.strKind P w).hash k)) Q E s
  unfold setAddHashed setAddHashedIn
  refine wpAny_holding (wpAny_bind (wpAny_setState_of ho hd hf ?_))
  dsimp only
  rw [byScan_of hsc hb hel]
  simp only [↓reduceIte]
  unfold setAddByScan
  refine wpAny_bind (wpAny_bind (wpAny_rule (wpAny_bind (wpAny_setScan_of hkey ho hd hf hel ?_))))
  cases found : List.findIdx? (fun x => (PySem.strKind P w).is k x.2) es.toList with
  | some j =>
    dsimp only
    obtain ⟨hj, pj, _⟩ := List.findIdx?_eq_some_iff_getElem.mp found
    have there : k ∈ es.toList.map keyT := List.mem_map.mpr ⟨_, List.getElem_mem hj, (goodT_is (P := P) (g _ (List.getElem_mem hj)) k).mp pj⟩
    refine wpAny_pure (wpAny_pure (hQ _ s.heap (Heap.SameBut.refl a s.heap) ⟨o, es, ep, t, ho, hex, hd, g, nd, fun i => ?_, Nat.le_succ_of_le hk, hf, hr, hl⟩))
    rw [hm i, List.mem_cons]
    exact ⟨.inr, fun z => z.elim (fun e => (hm i).mp (e ▸ there)) id⟩
  | none =>
    dsimp only
    have fresh : k ∉ es.toList.map keyT := fun z => by
      obtain ⟨x, hx, q⟩ := List.mem_map.mp z
      have c := List.findIdx?_eq_none_iff.mp found x hx
      rw [(goodT_is (P := P) (g x hx) k).mpr q] at c
      cases c
    have gave : ∀ (b : Bool) {s1 : Shared} {Q' : Unit → Shared → Prop}, Q' () s1 → wpAny (model P w) A (match b with | true => rule "set.scan.the-table-gave-way" | false => pure ()) Q' E s1 :=
      fun b s1 Q' q => by cases b with
        | true => exact wpAny_rule q
        | false => exact wpAny_pure q
    have pm := layNew_perm t es ((PySem.strKind P w).hash k) (.str k u)
    have fit1 := layNew_fits t es ((PySem.strKind P w).hash k) (.str k u)
    have ris1 := layNew_ris t es ((PySem.strKind P w).hash k) (.str k u) hr
    have led1 := layNew_led t es ((PySem.strKind P w).hash k) (.str k u)
    generalize layNew t es ((PySem.strKind P w).hash k) (.str k u) = Z at pm fit1 ris1 led1 ⊢
    obtain ⟨es1, t1, dm, gv⟩ := Z
    dsimp only at pm fit1 ris1 led1 ⊢
    rw [Array.toList_push] at pm
    have pc : es1.toList.Perm (((PySem.strKind P w).hash k, Value.str k u) :: es.toList) := pm.trans (List.perm_append_singleton _ _)
    have pk : (es1.toList.map keyT).Perm (k :: es.toList.map keyT) := pc.map keyT
    have g1 : ∀ x ∈ es1.toList, GoodT w x := fun x hx => by
      rcases List.mem_cons.mp (pc.mem_iff.mp hx) with z | z
      · rw [z]; exact ⟨k, u, rfl, rfl⟩
      · exact g x z
    have nd1 := pk.nodup_iff.mpr (List.nodup_cons.mpr ⟨fresh, nd⟩)
    have m1 : ∀ i, i ∈ es1.toList.map keyT ↔ i ∈ k :: ks := fun i => by rw [pk.mem_iff, List.mem_cons, List.mem_cons, hm i]
    have sz1 : es1.size = es.size + 1 := by rw [← Array.length_toList, pc.length_eq, List.length_cons, Array.length_toList]
    have hk1 : es1.size ≤ (k :: ks).length := by rw [sz1, List.length_cons]; omega
    have led2 : w.params.followText "set-order" = true ∨ t1.led = true := hl.imp id fun z => led1.trans z
    refine wpAny_bind (gave _ ?_)
    by_cases hp : t1.plain = true
    · rw [if_pos hp]
      refine wpAny_bind ?_
      rw [hashByValue_scannable 8 hsc]
      refine wpAny_pure ?_
      refine setT_tail (ks := k :: ks) ?_ ho hex hd g1 nd1 m1 hk1 room ?_ ?_ ?_ ?_
      · exact fun b s1 Q' q => gave b q
      · first | exact SetTable.fits_plain_off fit1 | (split <;> first | exact fit1 | exact SetTable.fits_plain_off fit1)
      · first | exact ris1 | (split <;> exact ris1)
      · first | exact led2 | (split <;> exact led2)
      · exact fun h2 sb r => by dsimp only; exact wpAny_pure (hQ _ h2 sb r)
    · rw [if_neg hp]
      refine wpAny_bind (wpAny_pure ?_)
      simp only [↓reduceIte]
      refine setT_tail (ks := k :: ks) ?_ ho hex hd g1 nd1 m1 hk1 room fit1 ris1 led2 ?_
      · exact fun b s1 Q' q => gave b q
      · exact fun h2 sb r => by dsimp only; exact wpAny_pure (hQ _ h2 sb r)
theorem setT_fresh {h : Heap} : SetT w (h.push { cls := .type "set", dict := none, data := .set #[] 0 (.fresh 0 0 (!w.params.followText "set-order")) }) h.objs.size [] := by
  refine ⟨_, #[], 0, _, Heap.get?_push_size _ rfl, ⟨rfl, rfl, rfl⟩, rfl, fun x hx => by simp at hx, by simp, fun k => by simp, Nat.le_refl _, by rfl, List.Pairwise.nil, ?_⟩
  show _ ∨ (!w.params.followText "set-order") = true
  cases w.params.followText "set-order" with
  | true => exact .inl rfl
  | false => exact .inr rfl
end
section
variable {prog : Program} {w : World} {A : Around} {R : Result → Shared → Prop} {I S : Addr} {fp wr : List Addr} {G : Array GenState → Array GenState → Prop} {n : Nat} {St : Nat → Shared → Prop} {x : Str}
def sgn (x : Str) : List Str := x.cps.toList.map fun c => ⟨#[c]⟩
theorem setT_loop (W : WalksS prog w A.in1 I fp wr G n (SignAt x) St) (off : S ∉ fp) (hl : x.cps.size = n) (room : n + 1 < scanBound) :
    ∀ (k i : Nat) (s : Shared) (ks : List Str), i + k = n → St i s → SetT w s.heap S ks → ks.length = i → (∀ z, z ∈ ks ↔ z ∈ (sgn x).take i) → (∀ s' ks', Moved (S :: wr) G s s' → SetT w s'.heap S ks' → (∀ z, z ∈ ks' ↔ z ∈ sgn x) → ks'.length = n → R (.ok (.ret .none)) s') →
      codeAny (model prog w) A (.builtin "set.update.loop" ⟨[.ref S, .ref I], []⟩) R s
  | 0, i, s, ks, hk, hst, he, hki, hz, hR => by
    obtain rfl : i = n := hk
    refine codeAny_builtin PyProof.Rows.F.entry_set_update_loop ?_
    rw [Around.under_plainId PyProof.Rows.F.plain_set_update_loop _]
    refine wpAny_bind (W.done s _ _ hst fun s' hm => wpAny_pure (hR s' ks (hm.mono fun b hb => List.mem_cons_of_mem _ hb) (he.stay fun o e => hm.heap S o (fun h => off (W.sub _ h)) e) (fun z => ?_) hki))
    rw [hz z, List.take_of_length_le (by unfold sgn; rw [List.length_map, Array.length_toList]; omega)]
  | k + 1, i, s, ks, hk, hst, he, hki, hz, hR => by
    refine codeAny_builtin PyProof.Rows.F.entry_set_update_loop ?_
    rw [Around.under_plainId PyProof.Rows.F.plain_set_update_loop _]
    refine wpAny_bind (W.item i s _ _ (by omega) hst fun v s' hP hst' hm => ?_)
    obtain ⟨c, u, hc, rfl⟩ := hP
    have he2 : SetT w s'.heap S ks := he.stay fun o e => hm.heap S o (fun h => off (W.sub _ h)) e
    show wpAny _ A.in1 (holding [Value.str ⟨#[c]⟩ u] (setAdd S (.str ⟨#[c]⟩ u)) >>= _) _ _ s'
    refine wpAny_bind (wpAny_holding ?_)
    unfold setAdd
    refine wpAny_holding (wpAny_bind ((PySem.strKind prog w).pyHash (k := ⟨#[c]⟩) (is_strT _ _) ?_))
    refine setT_add (s := { s' with toks := s'.toks + 1 }) he2 (by omega) fun b h2 sb he3 => ?_
    refine wpAny_pure ⟨plainId_quiet PyProof.Rows.F.plain_set_update_loop _, setT_loop W off hl room k (i + 1) _ _ (by omega) (W.frame _ s' _ _ hst' (Nat.le_succ _) fun b hb o e => ?_) he3 (by rw [List.length_cons, hki]) (fun z => ?_) fun s2 ks2 hm2 he4 hz2 hn2 => ?_⟩
    · rw [sb.2 b (fun h => off (h ▸ hb))]; exact e
    · have hci : (sgn x)[i]? = some ⟨#[c]⟩ := by unfold sgn; rw [List.getElem?_map, Array.getElem?_toList, hc]; rfl
      rw [List.mem_cons, hz z, List.take_succ, hci, List.mem_append]
      show z = _ ∨ z ∈ (sgn x).take i ↔ z ∈ (sgn x).take i ∨ z ∈ [(⟨#[c]⟩ : Str)]
      rw [List.mem_singleton]
      exact Or.comm
    · refine hR s2 ks2 (Moved.trans W.gtrans ((hm.mono fun b hb => List.mem_cons_of_mem _ hb).then_heap (Nat.le_succ _) fun b o hb e => ?_) hm2) he4 hz2 hn2
      rw [sb.2 b (fun h => hb (by rw [h]; exact List.mem_cons_self))]; exact e
end
section
variable {prog : Program} {w : World} {A : Around} {E : Value → Shared → Prop} {s : Shared}
theorem set_of_text {x : Str} {t : Tok} {Q : Value → Shared → Prop} (hh : A.handled = none) (room : x.cps.size + 1 < scanBound)
    (h : ∀ (h' : Heap) (u : Nat) ks, SetT w h' s.heap.objs.size ks → (∀ z, z ∈ ks ↔ z ∈ sgn x) → ks.length = x.cps.size → (∀ b o, s.heap.get? b = some o → h'.get? b = some o) → Q (.ref s.heap.objs.size) { s with heap := h', toks := u }) :
    wpAny (model prog w) A (call (.type "set") [.str x t]) Q E s := by
  obtain ⟨c, tl, hmro⟩ := PySem.F.called_set.mro
  have hmade := PySem.F.called_set.made
  have hsub := PySem.F.called_set.sub
  refine wpAny_call (codeAny_of_tree ?_)
  refine wpAny_pure ⟨Code.quiet_builtin _ (by decide +kernel), codeAny_builtin PySem.F.entry_type_call ?_⟩
  rw [Around.under_plain (weight_type_call_type "set" [.str x t] []) rfl]
  have nt := PySem.F.called_set.notType
  have cc := PySem.F.called_set.canCreate
  have ct := PySem.F.typeCall_set_1 (.str x t)
  repeat (any_goals (first | assumption | wp_step))
  refine codeAny_mono (code_set_led1 (.str x t) (E := E) (Q₁ := fun obj s1 => obj = .ref s.heap.objs.size ∧ s1 = { s with heap := s.heap.push { cls := .type "set", dict := none, data := .set #[] 0 (.fresh 0 0 (!w.params.followText "set-order")) } }) ⟨rfl, rfl⟩) fun r s1 hr => ?_
  match r, hr with
  | .ok (.ret obj), hr =>
    obtain ⟨rfl, rfl⟩ := hr
    have f0 : SetT w _ s.heap.objs.size [] := setT_fresh (w := w) (h := s.heap)
    generalize (!w.params.followText "set-order") = led at f0 ⊢
    have hS : (s.heap.push (setO led)).get? s.heap.objs.size = some (setO led) := Heap.get?_push_size _ rfl
    have hTy : Shared.TypeIs { s with heap := s.heap.push (setO led) } (.ref s.heap.objs.size) "set" := ⟨_, hS, rfl⟩
    have li := PySem.F.called_set.init.lookup
    have bi := PySem.F.called_set.init.bind (.ref s.heap.objs.size)
    repeat (any_goals (first | assumption | wp_step))
    refine codeAny_mono (codeAny_call_builtin (R := wants (fun r s2 => r = .none ∧ ∃ h' u ks, s2 = { s with heap := h', toks := u } ∧ SetT w h' s.heap.objs.size ks ∧ (∀ z, z ∈ ks ↔ z ∈ sgn x) ∧ ks.length = x.cps.size ∧ (∀ b o, s.heap.get? b = some o → h'.get? b = some o)) E)
      PySem.F.called_set.init.plain PySem.F.entry_set_init (check_set_init_1 hTy ?_)) fun r2 s2 hr2 => ?_
    · have ne : (Value.type "str" == Value.type "dict") = false := by decide
      have ss := PySem.F.sub_str_set
      have sf := PySem.F.sub_str_frozenset
      unfold Builtin.«set.__init__» noKeywords Builtin.Frozenset.updateFrom
      generalize hPI : pyIter = PI
      wp_walk
      subst hPI
      refine wpAny_pyIter_str fun o St hW hst => ?_
      refine wpAny_bind (wpAny_runValue ?_)
      have hz : (s.heap.push (setO led)).objs.size = s.heap.objs.size + 1 := Heap.size_push ..
      have off : s.heap.objs.size ∉ [(s.heap.push (setO led)).objs.size] := by
        rw [hz, List.mem_singleton]
        exact Nat.ne_of_lt (Nat.lt_succ_self _)
      refine setT_loop (n := x.cps.size) (R := _) ((hW A.in1.in1.in1 (by simp [hh])).toS) off rfl room x.cps.size 0 _ [] (Nat.zero_add _) hst (f0.stay fun o' e => Heap.get?_push_of_some _ e) rfl (fun z => by simp) fun s' ks' hm hS' hz' hn' => ?_
      obtain ⟨h', g', d', tk', os'⟩ := s'
      obtain rfl : g' = s.gens := hm.gens
      obtain rfl : d' = s.drawn := hm.drawn
      obtain rfl : os' = s.os := hm.os
      refine wpAny_pure (wpAny_pure ⟨rfl, h', tk', ks', rfl, hS', hz', hn', fun b o' e => ?_⟩)
      have hb : b < s.heap.objs.size := Heap.lt_size e
      refine hm.heap b o' (fun hmem => ?_) (Heap.get?_push_of_some _ (Heap.get?_push_of_some _ e))
      have e' : b = s.heap.objs.size ∨ b = (s.heap.push (setO led)).objs.size := by simpa using hmem
      rcases e' with e' | e'
      · exact Nat.ne_of_lt hb e'
      · rw [hz] at e'; exact Nat.ne_of_lt (Nat.lt_succ_of_lt hb) e'
    · match r2, hr2 with
      | .ok (.ret r), hr2 =>
        obtain ⟨rfl, h', u, ks, rfl, hS', hz', hn', hk'⟩ := hr2
        repeat (any_goals (first | assumption | wp_step))
        exact h _ _ _ hS' hz' hn' hk'
      | .error e, hr2 => exact hr2
  | .error e, hr => exact hr
theorem sorted_setX {a : Addr} {ks : List Str} {Q : Value → Shared → Prop} (R : SetT w s.heap a ks) (hh : A.handled = none) (h64 : ks.length < 64)
    (hQ : ∀ s' p (out : Array Value) (c : Nat) (ss : List Str), (∀ b o, s.heap.get? b = some o → s'.heap.get? b = some o) → s'.gens = s.gens → s'.os = s.os → s.heap.objs.size ≤ p → s'.heap.get? p = some (seqObj "list" out c) →
      StrsAre out.toList ss → sortedS ss = true → ss.Nodup → (∀ k, k ∈ ss ↔ k ∈ ks) → ss.length ≤ ks.length → Q (.ref p) s') : wpAny (model prog w) A (call (.builtin "sorted") [.ref a]) Q E s := by
  obtain ⟨o, es, ep, t, ho, hex, hd, g, nd, hm, hk, hf, hr, hl⟩ := R
  refine Calls.call_function_entry kind_sorted plain_sorted entry_sorted (args_sorted1 _) ?_
  unfold Builtin.«sorted»
  refine wpAny_bind (m := checkCount "sorted" 1 1 _) (wpAny_pure (wpAny_bind (collect_set (A := A.in1) hh ⟨o, ho, hex.1, hd⟩ hf (by unfold scanBound; omega) hr hl fun s1 vs k1 hz g1 o1 pm => ?_)))
  have hvl : vs.length ≤ ks.length := by rw [pm.length_eq, List.length_map, Array.length_toList]; exact hk
  have isT : ∀ v ∈ vs, ∃ (k : Str) (u : Tok), v = Value.str k u := fun v hv => by
    obtain ⟨e, he, q⟩ := List.mem_map.mp (pm.mem_iff.mp hv)
    obtain ⟨k, u, h1, _⟩ := g e he
    exact ⟨k, u, by rw [← q]; exact h1⟩
  have hS : StrsAre vs (vs.map fun v => keyT (0, v)) := by
    clear pm hvl
    induction vs with
    | nil => exact .nil
    | cons v r ih =>
      obtain ⟨k, u, rfl⟩ := isT v List.mem_cons_self
      exact .cons _ _ (ih fun x hx => isT x (List.mem_cons_of_mem _ hx))
  have pk : (vs.map fun v => keyT (0, v)).Perm (es.toList.map keyT) := by
    have q := pm.map fun v => keyT (0, v)
    rw [List.map_map] at q
    exact q
  refine wpAny_bind (wpAny_newList ?_ (by rw [sizeLine_eq]; omega))
  have hoL : (s1.heap.push (seqObj "list" vs.toArray 0)).get? s1.heap.objs.size = some (seqObj "list" vs.toArray 0) := Heap.get?_push_size _ rfl
  refine wpAny_bind (wpAny_holding (wpAny_call_entry slot_list_sort ⟨_, hoL, rfl⟩ entry_list_sort
    (list_sort_treeK strKind_oneLt (s := { s1 with heap := s1.heap.push (seqObj "list" vs.toArray 0) }) hoL hS.keysOf (fun v1 v2 rest e => keyKind_strs (by rw [← e]; exact hS)) (by omega) fun st' hp hs => ⟨_, rfl, ?_⟩) (args_list_sort _)))
  obtain ⟨ys, y1, y2, y3⟩ := sorted_out_str hS hp hs
  obtain ⟨c, hc⟩ := sortedHeap_at (vs := vs) (out := (arrOf st').map (·.2)) hoL
  have pn := y2.trans pk
  refine wpAny_pure ⟨_, rfl, hQ _ s1.heap.objs.size _ c ys (fun b u e => ?_) g1 o1 hz hc y1 y3 (pn.nodup_iff.mpr nd) (fun k => by rw [pn.mem_iff, hm k]) (by rw [pn.length_eq, List.length_map, Array.length_toList]; exact hk)⟩
  have q := k1 b u e
  have hlt := Heap.lt_size q
  show (sortedHeap (s1.heap.push (seqObj "list" vs.toArray 0)) s1.heap.objs.size vs _).get? b = some u
  rw [sortedHeap_old (Nat.ne_of_lt hlt) (by rw [size_push']; exact Nat.lt_succ_of_lt hlt)]
  exact Heap.get?_push_of_some _ q
end
section
variable {X : Cx}
theorem singles_of : ∀ {ss : List Str} {l : List Nat}, (∀ k ∈ ss, ∃ c ∈ l, k = S [c]) → ∃ ds : List Nat, ss = ds.map fun d => S [d]
  | [], _, _ => ⟨[], rfl⟩
  | k :: ss, l, h => by
    obtain ⟨c, _, rfl⟩ := h k List.mem_cons_self
    obtain ⟨ds, rfl⟩ := singles_of (ss := ss) (l := l) fun x hx => h x (List.mem_cons_of_mem _ hx)
    exact ⟨c :: ds, rfl⟩
theorem sortX_run {pins : List (Addr × Obj)} {σ : L2.St} {H1 : Hp} {Q : VK} {s1 : Shared} {a : Addr} {ks : List Str} {l : List Nat} (hc : X.calm = true) (I2 : Inv X pins σ H1 s1) (hS : SetT X.w s1.heap a ks) (hz : ∀ z, z ∈ ks ↔ z ∈ sgn (S l)) (hn : ks.length = (S l).cps.size) (hl : l.length < 60)
    (q1 : ∀ (p : Addr) (ds : List Nat), H1 p = none → ds.Pairwise (· < ·) → (∀ c, c ∈ ds ↔ c ∈ l) → Q (.ref p) (upd H1 p (.lst (ds.map fun d => .str (S [d]))))) : wpAny (model X.prog X.w) X.A (call (.builtin "sorted") [.ref a]) (EP X pins σ Q) X.xe s1 := by
  have hsz : (S l).cps.size = l.length := by simp [S]
  refine sorted_setX hS (I2.ok.hd hc) (by rw [hn, hsz]; omega) fun s' p out c ss k2 g2 o2 hp ho hS2 srt nd mem hle => ?_
  have hmem : ∀ k, k ∈ ss ↔ ∃ c ∈ l, k = S [c] := fun k => by
    rw [mem k, hz k]
    unfold sgn
    rw [List.mem_map]
    constructor
    · rintro ⟨c, hc, rfl⟩; exact ⟨c, by simpa [S] using hc, rfl⟩
    · rintro ⟨c, hc, rfl⟩; exact ⟨c, by simpa [S] using hc, rfl⟩
  obtain ⟨ds, rfl⟩ := singles_of fun k hk => (hmem k).mp hk
  have ndd : ds.Nodup := List.Pairwise.of_map (fun d => S [d]) (fun a b hne e => hne (by rw [e])) nd
  have hn2 : H1 p = none := I2.hok.fresh hp
  have hlen : ((ds.map fun d => S [d]).map V.str).length ≤ sizeLine := by
    rw [List.length_map, List.length_map, sizeLine_eq]
    rw [List.length_map, hn, hsz] at hle
    omega
  have J : Inv X pins σ (upd H1 p (.lst ((ds.map fun d => S [d]).map V.str))) { s1 with heap := s'.heap, gens := s'.gens, drawn := s'.drawn, toks := s'.toks } :=
    I2.call (ch := []) (Un.laid k2 hp hn2) (I2.hok.laid k2 hp ⟨hlen, out.toList, c, vals_of_strs hS2, ho⟩) (by rw [g2]; exact I2.bare) (fun _ z => nomatch z)
  have e : s' = { s1 with heap := s'.heap, gens := s'.gens, drawn := s'.drawn, toks := s'.toks } := by
    cases s'; cases s1; cases o2; rfl
  rw [e]
  have eL : ((ds.map fun d => S [d]).map V.str) = ds.map fun d => V.str (S [d]) := by rw [List.map_map]; rfl
  rw [eL] at J
  exact ⟨.ref p, _, J, rfl, q1 p ds hn2 (strict_of (sorted_singles srt) ndd) fun c => ⟨fun hc => by
    obtain ⟨e, he, ec⟩ := (hmem (S [c])).mp (List.mem_map.mpr ⟨c, hc, rfl⟩)
    have : c = e := by simpa [S] using ec
    rw [this]; exact he, fun hc => by
    obtain ⟨d, hd, ed⟩ := List.mem_map.mp ((hmem (S [c])).mpr ⟨c, hc, rfl⟩)
    have : d = c := by simpa [S] using ed
    rw [← this]; exact hd⟩⟩
def tSortSet (ta : TE) : TE := fun σ H Q => ta σ H fun x H1 => ∃ l : List Nat, x = .str (S l) ∧ l.length < 60 ∧ ∀ (p : Addr) (ds : List Nat), H1 p = none → ds.Pairwise (· < ·) → (∀ c, c ∈ ds ↔ c ∈ l) → Q (.ref p) (upd H1 p (.lst (ds.map fun d => .str (S [d]))))
theorem pe_sortSet {a : Expr} {ta : TE} {p p2 q pos : Pos} (hc : X.calm = true) (hg : Gl X "sorted") (hm : X.mg "sorted" = none) (hg2 : Gl X "set") (hm2 : X.mg "set" = none) (ha : PE X a ta)
    (na : starEach [a] X.env = (false, eval a X.env) :: starEach [] X.env := by rfl) : PE X (.Call (.Name "sorted" p) [.Call (.Name "set" p2) [a] [] q] [] pos) (tSortSet ta) := by
  refine ⟨fun pins s σ H Q I h => ?_⟩
  refine Call_ (ld_blt I hg hm PyProof.Rows.boot_sorted (PyProof.Rows.callWith_builtin1 (PyProof.Rows.args_cons ?_ rfl) rfl rfl))
  refine Call_ (ld_blt I hg2 hm2 PyProof.Rows.boot_set (PyProof.Rows.callWith_type1 (PyProof.Rows.args_cons (thn (ha.run pins s σ H _ I h) fun v s1 ⟨x, H1, I1, r1, q1⟩ => PyProof.Rows.args_nil ?_) na) na rfl))
  obtain ⟨l, rfl, hl, q1⟩ := q1
  obtain ⟨t, rfl⟩ := r1
  have hsz : (S l).cps.size = l.length := by simp [S]
  refine set_of_text (I1.ok.hd hc) (by rw [hsz]; unfold scanBound; omega) fun h' u ks hS hz hn hk => ?_
  refine PyProof.Rows.args_nil ?_
  exact sortX_run (s1 := { s1 with heap := h', toks := u }) hc (I1.kept hk) hS hz hn hl q1
end
end LX
set_option maxHeartbeats 4000000
namespace LX
open PySem PySem.Spec PyProof.Rows L2 C8 SX
section
variable {prog : Program} {w : World} {A : Around} {E : Value → Shared → Prop} {s : Shared} {K : PySem.W.Frag} {a C f : Addr} {ox : Obj} {od : Option Obj} {u : Value} {T id : String}
theorem rc_own_second (hu : A.units < cLine) (X : K.In s.heap) (I : PySem.W.InstAt s.heap a ox C od) (hT : s.TypeIs u T) (h1 : oneThing? .Eq u (.ref a) = none) (hsub : PySem.W.subIn K (.ref C) (.type T) = some false) (sl : Slot T (cmpInfo .Eq).2.1 id)
    (hs : PySem.W.findIn K (.ref C) "__eq__" = some (some (.ref f))) (hf : PySem.W.isFn K (.ref f) = true) {Q : Value → Shared → Prop}
    (hc1 : ∀ Q' : Value → Shared → Prop, Q' .notImplemented s → wpAny (model prog w) A (call (.builtin id) [u, .ref a]) Q' E s)
    (hc2 : wpAny (model prog w) A (call (.ref f) [.ref a, u]) (PySem.W.CmpBack Q) E s) : wpAny (model prog w) A (richCompare .Eq u (.ref a)) Q E s := by
  have two : wpAny (model prog w) A (tryCompare (.ref a) (cmpInfo .Eq).2.2 u) (fun r s' => ∃ v, r = some v ∧ Q v s') E s := by
    unfold tryCompare
    refine wpAny_bind (PySem.W.ifBound_K X I hs hf (wpAny_mono hc2 (fun v s' hv => ?_) fun _ _ e => e))
    cases v <;> first | exact hv.elim | exact wpAny_pure ⟨_, rfl, hv⟩
  unfold richCompare
  simp only [h1]
  refine wpAny_holding (wpAny_bind (wpAny_cRoomFor hu ?_))
  refine wpAny_bind (wpAny_typeOf hT (wpAny_bind (I.type.here ?_)))
  rw [show (Value.type T != Value.ref C) = true from rfl]
  simp only [if_true]
  refine wpAny_bind ((PySem.W.looks_subIn X hsub).here ?_)
  simp only [Bool.false_eq_true, if_false, Bool.not_false, if_true]
  refine wpAny_bind (m := tryCompare u _ (.ref a)) (wpAny_tryCompare_declines hT sl (hc1 _ ⟨rfl, ?_⟩))
  refine wpAny_bind (m := tryCompare (.ref a) _ u) (wpAny_mono two (fun r s' z => ?_) fun _ _ e => e)
  obtain ⟨v, rfl, q⟩ := z
  exact wpAny_pure q
theorem none_declines {Q : Value → Shared → Prop} (h : Q .notImplemented s) : wpAny (model prog w) A (call (.builtin "NoneType.__eq__") [.none, .ref a]) Q E s :=
  call_gives F.slot_NoneType_eq rfl F.entry_NoneType_eq (F.args_NoneType_eq_2 _ _) (PySem.SeqAt.NoneType___eq___none_ref_0 a) h
theorem str_declines {dx : Addr} {x : Str} {t : Tok} {Q : Value → Shared → Prop} (hx : s.heap.get? a = some (PySem.W.instObj C dx)) (h : Q .notImplemented s) : wpAny (model prog w) A (call (.builtin "str.__eq__") [.str x t, .ref a]) Q E s := by
  refine wpAny_call (codeAny_call_builtin F.slot_str_eq.plain F.entry_str_eq (F.slot_str_eq.check _ _ _ _ _ _ _ _ rfl (F.args_str_eq_2 _ _) ?_))
  obtain ⟨hp, g, d, tk, os⟩ := s
  wp_walk using wpAny_load hx
  exact h
theorem list_declines {dx l : Addr} {items : Array Value} {Q : Value → Shared → Prop} (hl : s.heap.IsList l items) (X : K.In s.heap) (hx : s.heap.get? a = some (PySem.W.instObj C dx)) (hsub : PySem.W.subIn K (.ref C) (.type "list") = some false) (h : Q .notImplemented s) :
    wpAny (model prog w) A (call (.builtin "list.__eq__") [.ref l, .ref a]) Q E s := by
  obtain ⟨⟨cls, dd, data, sl⟩, ho, hc, n, hd⟩ := id hl
  simp only at hc hd
  subst hc hd
  refine wpAny_call (codeAny_call_builtin F.slot_list_eq.plain F.entry_list_eq (F.slot_list_eq.check _ _ _ _ _ _ _ _ ⟨_, ho, rfl⟩ (F.args_list_eq_2 _ _) ?_))
  obtain ⟨hp, g, d, tk, os⟩ := s
  wp_walk using PySem.AutoSeq1.wpAny_loadPart' hx
  refine (PySem.W.looks_subIn X hsub).here ?_
  wp_walk
  exact h
theorem in_tuple_none {l : Addr} {items : Array Value} {x : Value} {Q : Value → Shared → Prop} (J : Shared → Prop) (hl : s.heap.IsTuple l items) (h0 : J s)
    (turn : ∀ y s', y ∈ items → J s' → wpAny (model prog w) A.in1 (eqBool y x) (fun b s2 => b = false ∧ J s2) E s') (fin : ∀ s', J s' → Q (.bool false) s') : wpAny (model prog w) A (compareOp .In x (.ref l)) Q E s := by
  obtain ⟨⟨cls, dd, data, sl⟩, ho, hc, n, hd⟩ := id hl
  simp only at hc hd
  subst hc hd
  show wpAny _ A (do return .bool (← contains (.ref l) x)) Q E s
  refine wpAny_bind (wpAny_contains_slot ⟨_, ho, rfl⟩ F.slot_tuple_contains (wpAny_mono (Q := fun v s' => v = .bool false ∧ J s') (wpAny_call (codeAny_call_builtin F.slot_tuple_contains.plain F.entry_tuple_contains
    (F.slot_tuple_contains.check _ _ _ _ _ _ _ _ ⟨_, ho, rfl⟩ (F.args_tuple_contains_2 _ _) ?_))) (fun v s' hv => ?_) fun _ _ e => e))
  · obtain ⟨hp, g, d, tk, os⟩ := s
    wp_walk using PySem.AutoSeq1.wpAny_loadPart' ho, PySem.MeetsSeq2.wpAny_forIn_array _ (fun (rest : List Value) (b : Option PySem.Fin × Unit) (s' : Shared) => b.1 = none ∧ J s' ∧ ∀ y, y ∈ rest → y ∈ items) _
    case turn =>
      rintro y rest b s' ⟨hb, hJ, hmem⟩
      refine wpAny_bind (wpAny_mono (turn y s' (hmem y (List.mem_cons_self ..)) hJ) (fun r s2 z => ?_) fun _ _ e => e)
      obtain ⟨rfl, hJ2⟩ := z
      wp_walk
      exact ⟨rfl, hJ2, fun z hz => hmem z (List.mem_cons_of_mem _ hz)⟩
    case fin =>
      rintro ⟨b1, b2⟩ s' ⟨hb, hJ, -⟩
      simp only at hb
      subst hb
      wp_walk
      exact ⟨rfl, hJ⟩
    case h => exact ⟨rfl, h0, fun y hy => by simpa using hy⟩
  · obtain ⟨rfl, hJ⟩ := hv
    exact wpAny_truthy_bool (wpAny_pure (fin s' hJ))
end
section
variable {X : Cx} {k j : Nat} {C : Addr} {sp : Sp}
def Plain0 (H : Hp) (z : V) : Prop := (∃ x, z = .str x) ∨ z = .non ∨ ∃ l xs, z = .ref l ∧ H l = some (.lst xs)
structure NotB (K : PySem.W.Frag) (C : Addr) : Prop where
  str : PySem.W.subIn K (.ref C) (.type "str") = some false
  non : PySem.W.subIn K (.ref C) (.type "NoneType") = some false
  lst : PySem.W.subIn K (.ref C) (.type "list") = some false
def rInOwn (K : PySem.W.Frag) (C : Addr) (sp : Sp) : R2 := fun x y H Q => ∃ a dx fs p xs, x = .ref a ∧ y = .ref p ∧ H a = some (.ins C dx fs) ∧ SqT K H p xs ∧ (∀ z ∈ xs, Plain0 H z ∧ ∀ R : VK, R (.bl false) H → sp [.ref a, z] H R C8.E0) ∧ Q (.bl false) H
theorem vals_mem : ∀ {xs : List V} {us : List Value}, Vals xs us → ∀ u ∈ us, ∃ x ∈ xs, RelV x u
  | _, _, .nil, _, h => nomatch h
  | _, _, .cons r t, u, h => by
    rcases List.mem_cons.mp h with e | h
    · rw [e]; exact ⟨_, List.mem_cons_self, r⟩
    · obtain ⟨x, hx, r⟩ := vals_mem t u h
      exact ⟨x, List.mem_cons_of_mem _ hx, r⟩
theorem op_inOwn (b : NotB X.K C) (c : Met X.prog X.w X.K X.mg X.base k C "__eq__" sp []) (hr : Room j X.A) (hk : k + 1 ≤ j) : OpR X (compareOp .In) (rInOwn X.K C sp) := by
  intro pins s σ H x y v u Q I rx ry h
  obtain ⟨a, dx, fs, p, xs, rfl, rfl, ha, hp, all, q⟩ := h
  cases rx
  cases ry
  obtain ⟨its, r, pl, hz⟩ := I.tuple hp
  refine in_tuple_none (J := fun s' => Inv X pins σ H s') pl I (fun z s' hz J => ?_) (fun s' J => ⟨.bl false, H, J, rfl, q⟩)
  obtain ⟨zv, hzm, rz⟩ := vals_mem r z (by simpa using hz)
  obtain ⟨pz, sz⟩ := all zv hzm
  obtain ⟨mA, O, _⟩ := ins_get J.hok ha
  have hobj := O.obj
  obtain ⟨od, O, _⟩ := O.look
  have hu : (X.A.in1).units < cLine := hu_of hr
  obtain ⟨f, hs, hf, hw⟩ := met_runV (A := X.A.in1) (Q := PySem.W.CmpBack fun v s2 => v = .bool false ∧ Inv X pins σ H s2) c (hr.mono hk).in1 rfl J rz (sz (fun v H' => v = .bl false ∧ H' = H) ⟨rfl, rfl⟩) (fun v z H' s' I' rz q => by
    obtain ⟨rfl, rfl⟩ := q
    cases rz
    exact ⟨rfl, I'⟩)
  have back : wpAny (model X.prog X.w) X.A.in1 (richCompare .Eq z (.ref a)) (fun v s2 => v = .bool false ∧ Inv X pins σ H s2) X.xe s' := by
    rcases pz with ⟨t, rfl⟩ | rfl | ⟨l, ys, rfl, hl⟩
    · obtain ⟨tk, rfl⟩ := rz
      exact rc_own_second (u := .str t tk) (T := "str") hu J.kIn O rfl rfl b.str F.slot_str_eq hs hf (fun Q' h' => str_declines hobj h') hw
    · cases rz
      exact rc_own_second (u := .none) (T := "NoneType") hu J.kIn O rfl rfl b.non F.slot_NoneType_eq hs hf (fun Q' h' => none_declines h') hw
    · cases rz
      obtain ⟨its2, r2, pl2, _⟩ := J.list (SqL.of hl)
      have hT : s'.TypeIs (.ref l) "list" := let ⟨o, e1, e2, _⟩ := pl2.isList; ⟨o, e1, e2⟩
      exact rc_own_second hu J.kIn O hT rfl b.lst F.slot_list_eq hs hf (fun Q' h' => list_declines pl2.isList J.kIn hobj b.lst h') hw
  unfold eqBool
  refine wpAny_holding ?_
  refine wpAny_ite_split (fun hab => ?_) (fun _ => ?_)
  · exfalso
    have e := eq_of_beq hab
    subst e
    rcases pz with ⟨t, rfl⟩ | rfl | ⟨l, ys, rfl, hl⟩
    · obtain ⟨tk, e⟩ := rz; cases e
    · cases rz
    · cases rz; rw [ha] at hl; cases hl
  have go : wpAny (model X.prog X.w) X.A.in1 (richCompare .Eq z (.ref a) >>= truthOfDropped) (fun b s2 => b = false ∧ Inv X pins σ H s2) X.xe s' := by
    refine wpAny_bind (wpAny_mono back (fun v s2 hv => ?_) fun _ _ e => e)
    obtain ⟨rfl, I2⟩ := hv
    exact wpAny_truthy_bool ⟨rfl, I2⟩
  rcases pz with ⟨t, rfl⟩ | rfl | ⟨l, ys, rfl, hl⟩
  · obtain ⟨tk, rfl⟩ := rz; exact go
  · cases rz; exact go
  · cases rz; exact go
def tMakeSL (i : Nat) (C : Addr) (sp : Sp) (E : L2.St → XK) (t : TA) : TE := fun σ H Q => σ[i]? = some (some (.ref C)) ∧ tMakeS C sp E t σ H Q
theorem pe_mkXL {i : Nat} {x n : Str} {p pos : Pos} {e : Expr} {es : List Expr} {t : TA} {W : WX} (c : MakX X.prog X.w X.K X.mg X.base k n C sp) (tk : Takes X W) (hr : Room j X.A) (hk : k + 1 ≤ j) (hN : X.N[i]? = some x) (hv : Vis X.env.scope x) (ha : PA X (e :: es) t)
    (hd : (x == ("__debug__" : Str)) = false := by decide) (hcd : (x == ("__classdict__" : Str)) = false := by decide)
    (he : starEach (e :: es) X.env = (false, eval e X.env) :: starEach es X.env := by rfl) (hpl : (backTo pos (starEach es X.env)).any (·.1) = false := by rfl) : PE X (.Call (.Name x p) (e :: es) [] pos) (tMakeSL i C sp (WE W) t) := by
  obtain ⟨f, fd, ps, M, F, hm, hb⟩ := c.ex
  refine ⟨fun pins s σ H Q I h => ?_⟩
  obtain ⟨hs, h⟩ := h
  refine wpAny_Call_Name_kw (thn ((pe_var (pos := p) hN hv hd hcd).run pins s σ H (fun v H1 => v = .ref C ∧ H1 = H) I ⟨.ref C, hs, rfl, rfl⟩) fun u s0 ⟨v, H0, I0, r0, ev, eH⟩ => ?_)
  subst ev
  rw [eH] at I0
  obtain rfl : u = Value.ref C := r0
  refine PySem.W.callWith_K (h₀ := X.base) I.ok.mod.kin M.kp (thn (ha.run pos pins s0 σ H _ I0 h) fun us s1 ⟨vs, H1, I1, r, q⟩ => ⟨I1.kIn, ?_⟩) he hpl
  have hq := q (s1.heap.objs.size + 1) s1.heap.objs.size (I1.hok.fresh (Nat.le_succ _)) (I1.hok.fresh (Nat.le_refl _)) (Nat.ne_of_lt (Nat.lt_succ_self _))
  have I2 := Inv.made (C := C) I1
  have r2 : Vals (V.ref (s1.heap.objs.size + 1) :: vs) (Value.ref (s1.heap.objs.size + 1) :: us) := .cons rfl r
  have hl : (Value.ref (s1.heap.objs.size + 1) :: us ++ []).length = ps.length := by
    have e := r2.length
    rw [F.len _ _ _ _ hq] at e
    rw [List.append_nil]
    exact e.symm
  have hb2 := hb _ (Value.ref (s1.heap.objs.size + 1) :: us) I2.kIn hl
  rw [List.append_nil] at hb2
  refine wpAny_call (make_map (f := f) I1.kIn M.makes M.init (beq_iff_eq.mp M.fn) (codeAny_mono (F.run _ X.stack _ _ ⟨Value.ref (s1.heap.objs.size + 1) :: us, []⟩ (Value.ref (s1.heap.objs.size + 1) :: us) _ _ (WE W σ) ((hr.mono hk).make C us [])
    (I2.env0.make C us []) hb2 r2 hq) fun r s' hq' => ?_))
  cases r with
  | error e => exact passAt tk σ pins _ _ e s' I2 hq'
  | ok fl =>
    cases fl with
    | ret u =>
      obtain ⟨v, H', I3, rv, ev, q3⟩ := I2.after hq'
      subst ev
      exact ⟨rv, ⟨V.ref (s1.heap.objs.size + 1), H', I3, rfl, q3⟩⟩
    | next => exact False.elim hq'
    | brk => exact False.elim hq'
    | cont => exact False.elim hq'
end
end LX
set_option maxHeartbeats 2000000
namespace Toy
open PySem L2 C8 SX LX
local macro_rules | `(tactic| walk_at "c") => `(tactic| refine And.intro (by first | (show (0 : Int) < _; omega) | exact Or.inr ⟨by decide, by decide⟩ | exact Or.inl ⟨by decide, by decide⟩ | (exact ⟨by omega, by omega⟩)) ?_)
local macro_rules | `(tactic| walk_at "s1") => `(tactic| first | refine ⟨_, rfl, ?_⟩ | refine ⟨_, _, rfl, rfl, ?_⟩ | refine .inl ⟨_, rfl, ?_⟩ | walk_at "c")
local macro_rules | `(tactic| walk_at "ix") => `(tactic| refine ⟨_, _, _, _, rfl, rfl, SqL.of (by first | assumption | exact upd_same), rfl, ?_⟩)
local macro_rules | `(tactic| walk_at "s") => `(tactic| repeat (walk_at "s1"))
def top (i : Nat) : Stmt := PySem.Challenge.pw_allrows_k05_origins_of_rows.main.body.getD i (.Pass ⟨0, 0, 0, 0⟩)
structure BT (mg : Str → Option Value) : Prop where
  m_int : mg "int" = none
  m_len : mg "len" = none
  m_abs : mg "abs" = none
  m_str : mg "str" = none
  m_list : mg "list" = none
  m_tuple : mg "tuple" = none
  m_isinstance : mg "isinstance" = none
  m_all : mg "all" = none
  m_zip : mg "zip" = none
  m_range : mg "range" = none
  m_max : mg "max" = none
  m_min : mg "min" = none
  m_repr : mg "repr" = none
  m_sorted : mg "sorted" = none
  m_set : mg "set" = none
  m_enumerate : mg "enumerate" = none
  m_dict : mg "dict" = none
  m_reversed : mg "reversed" = none
def sgs : List (List Nat) := [[97, 98], [97], [97, 98, 99], [120, 122]]
def Menu (sg : List Nat) : Prop := sg ∈ sgs
def Ov (sg l : List Nat) : Prop := ∀ c ∈ l, c ∈ sg
def Ims (sg : List Nat) (ims : List (List Nat)) (m : Nat) : Prop := ims.length = sg.length ∧ ∀ l ∈ ims, Ov sg l ∧ l.length ≤ m
def img (sg : List Nat) (ims : List (List Nat)) (c : Nat) : List Nat := ims.getD (sg.idxOf c) []
def app (sg : List Nat) (ims : List (List Nat)) (l : List Nat) : List Nat := l.flatMap (img sg ims)
section
variable {P : Program} {w : World} {K : PySem.W.Frag} {mg : Str → Option Value} {base : Heap}
abbrev s_choose : Stmt := top 29
abbrev n_choose : List Str := ["_law_box", "_law_many", "_law_digit", "_law_raw"]
theorem sc_choose : FnScope n_choose ["_law_box", "_law_many"] (fnScope s_choose) := fnScope_by (by decide +kernel)
def spChoose : Sp := fun vs H Q _ => ∃ (b : Addr) (n : Int), vs = [.ref b, .int n] ∧ BoxAt b H ∧ 0 < n ∧ n < 1000 ∧
  ∀ (d : Int) (H' : Hp), 0 ≤ d → d < n → Bx b H H' → Q (.int d) H'
theorem ok_choose (T : BT mg) {f : Addr} {fd : FuncData} (F : Def K mg "_law_choose" s_choose f fd) (b : Binds K fd ["_law_box", "_law_many"] []) : Cal P w K mg base 1 "_law_choose" spChoose [] := by
  refine cal0 F b .nil sc_choose (fun vs H Q E h => ?_) (fun cdv A outer s H vs Q E hr h => ?_)
  · obtain ⟨b, n, rfl, _⟩ := h; rfl
  · obtain ⟨b, n, rfl, ⟨o, hb, x, y, z, rfl⟩, n0, n1, k⟩ := h
    refine ⟨_, (pss_cons (ps_if (pt_cmpR op_gt (pe_ix (ixl K) (pv 0) pe_int (fun _ _ => rfl)) pe_int (nomark _)) 
        (pss_cons (ps_set (i := 2) sc_choose.nd rfl (.inl rfl) (pe_op op_mod (pe_callTy call_int1 (by rfl) T.m_int PyProof.Rows.boot_int (pa_cons (pe_ix (ixl K) (pv 0) pe_int (fun _ _ => rfl)) pa_nil)) (pv 1)))
        (pss_cons (ps_asg (pe_op op_fdiv (pe_ix (ixl K) (pv 0) pe_int (fun _ _ => rfl)) (pv 1)) (pg_sub (pv 0) pe_int set_list))
        (pss_one (ps_ret (pv 2))
        )))
       pss_nil)
      (pss_cons (ps_asg (pe_op op_add (pe_ix (ixl K) (pv 0) pe_int (fun _ _ => rfl)) pe_int) (pg_sub (pv 0) pe_int set_list))
      (pss_cons (ps_set (i := 3) sc_choose.nd rfl (.inl rfl) (pe_op op_mod (pe_callTy call_int1 (by rfl) T.m_int PyProof.Rows.boot_int (pa_cons (pe_op op_add (pe_op op_mul (pe_op op_add (pe_ix (ixl K) (pv 0) pe_int (fun _ _ => rfl)) (pe_op op_mul pe_int (pe_ix (ixl K) (pv 0) pe_int (fun _ _ => rfl)))) pe_int) pe_int) pa_nil)) pe_int))
      (pss_cons (ps_asg (pe_op op_add (pe_op op_mod (pe_callTy call_int1 (by rfl) T.m_int PyProof.Rows.boot_int (pa_cons (pe_op op_add (pe_op op_mul (pv 3) pe_int) pe_int) pa_nil)) pe_int) pe_int) (pg_sub (pv 0) pe_int set_list))
      (pss_one (ps_ret (pe_op op_mod (pe_callTy call_int1 (by rfl) T.m_int PyProof.Rows.boot_int (pa_cons (pe_op op_fdiv (pe_op op_add (pe_op op_mul (pv 3) pe_int) (pe_ix (ixl K) (pv 0) pe_int (fun _ _ => rfl))) pe_int) pa_nil)) (pv 1)))
      ))))), ?_⟩
    walk_at "s"
    walk_at "ix"
    walk_at "s"
    refine ite2 (fun _ => ?_) (fun _ => ?_)
    · walk_at "s"
      walk_at "ix"
      walk_at "s"
      walk_at "ix"
      walk_at "s"
      refine ⟨_, _, _, _, rfl, rfl, hb, rfl, ?_⟩
      walk_at "s"
      exact k _ _ (Int.emod_nonneg _ (by omega)) (Int.emod_lt_of_pos _ n0) (Bx.mk _ _ _)
    · walk_at "s"
      walk_at "ix"
      walk_at "s"
      refine ⟨_, _, _, _, rfl, rfl, hb, rfl, ?_⟩
      walk_at "s"
      walk_at "ix"
      walk_at "s"
      walk_at "ix"
      walk_at "s"
      refine ⟨_, _, _, _, rfl, rfl, upd_same, rfl, ?_⟩
      walk_at "s"
      walk_at "ix"
      walk_at "s"
      exact k _ _ (Int.emod_nonneg _ (by omega)) (Int.emod_lt_of_pos _ n0) ((Bx.mk (x := x) (y := y) (z := z + 1)).trans (Bx.mk _ _ _))
abbrev s_one_of : Stmt := top 30
abbrev n_one_of : List Str := ["_law_box", "_law_some"]
theorem sc_one_of : FnScope n_one_of ["_law_box", "_law_some"] (fnScope s_one_of) := fnScope_by (by decide +kernel)
def spOne : PySem.W.Frag → Sp := fun K vs H Q _ => ∃ (b l : Addr) (xs : List V), vs = [.ref b, .ref l] ∧ BoxAt b H ∧ l ≠ b ∧ SqL K H l xs ∧ 0 < xs.length ∧ xs.length < 1000 ∧
  ∀ (v : V) (H' : Hp), v ∈ xs → Bx b H H' → Q v H'
theorem ok_one (T : BT mg) (c_choose : Cal P w K mg base 1 "_law_choose" spChoose []) {f : Addr} {fd : FuncData} (F : Def K mg "_law_one_of" s_one_of f fd) (b : Binds K fd ["_law_box", "_law_some"] []) : Cal P w K mg base 2 "_law_one_of" (spOne K) [] := by
  refine cal0 F b .nil sc_one_of (fun vs H Q E h => ?_) (fun cdv A outer s H vs Q E hr h => ?_)
  · obtain ⟨b, l, xs, rfl, _⟩ := h; rfl
  · obtain ⟨b, l, xs, rfl, hb, hlb, hl, h0, h1, k⟩ := h
    refine ⟨_, (pss_one (ps_ret (pe_ix (ixl K) (pv 1) (pe_c c_choose hr (by first | decide | omega) (by rfl) (pa_cons (pv 0) (pa_cons (pe_callB (lenK K) (by rfl) T.m_len PySem.boot_len (pa_cons (pv 1) pa_nil)) pa_nil))) (fun _ _ => rfl)))
      ), ?_⟩
    walk_at "s"
    refine ⟨_, _, rfl, .inl hl, ?_⟩
    refine ⟨b, (xs.length : Int), rfl, hb, by omega, by omega, fun d H' d0 d1 hB => ?_⟩
    have hd : d.toNat < xs.length := by omega
    refine ⟨_, _, _, xs[d.toNat], rfl, rfl, bk_seq hB hlb hl, ?_, ?_⟩
    · exact at_of (by omega) (List.getElem?_eq_getElem hd)
    · exact k _ _ (List.getElem_mem hd) hB
theorem s_ab : (Str.ofString "ab") = S [97, 98] := by decide +kernel
theorem s_a : (Str.ofString "a") = S [97] := by decide +kernel
theorem s_abc : (Str.ofString "abc") = S [97, 98, 99] := by decide +kernel
theorem s_xz : (Str.ofString "xz") = S [120, 122] := by decide +kernel
theorem s_z : (Str.ofString "z") = S [122] := by decide +kernel
theorem s_nil : (Str.ofString "") = S [] := by decide +kernel
abbrev s_signs : Stmt := top 31
abbrev n_signs : List Str := ["_law_box"]
theorem sc_signs : FnScope n_signs ["_law_box"] (fnScope s_signs) := fnScope_by (by decide +kernel)
def spSigns : Sp := fun vs H Q _ => ∃ (b : Addr), vs = [.ref b] ∧ BoxAt b H ∧ ∀ (sg : List Nat) (H' : Hp), Menu sg → Bx b H H' → Q (.str (S sg)) H'
theorem ok_signs (T : BT mg) (c_one_of : Cal P w K mg base 2 "_law_one_of" (spOne K) []) {f : Addr} {fd : FuncData} (F : Def K mg "_law_signs" s_signs f fd) (b : Binds K fd ["_law_box"] []) : Cal P w K mg base 3 "_law_signs" spSigns [] := by
  refine cal0 F b .nil sc_signs (fun vs H Q E h => ?_) (fun cdv A outer s H vs Q E hr h => ?_)
  · obtain ⟨b, rfl, _⟩ := h; rfl
  · obtain ⟨b, rfl, hb, k⟩ := h
    refine ⟨_, (pss_one (ps_ret (pe_c c_one_of hr (by first | decide | omega) (by rfl) (pa_cons (pv 0) (pa_cons (pe_lst (pa_cons pe_str (pa_cons pe_str (pa_cons pe_str (pa_cons pe_str (pa_cons pe_str pa_nil)))))) pa_nil))))
      ), ?_⟩
    walk_at "s"
    refine ⟨by decide, fun p hp => ?_⟩
    have hpb := box_ne hb hp
    refine ⟨b, p, _, rfl, ((Bx.put (bk_same (Same.refl H) hb) hb hp)).2, hpb, SqL.of upd_same, by decide, by decide, fun v H' hv hB => ?_⟩
    have hB' : Bx b H H' := (Bx.put (bk_same (Same.refl H) hb) hb hp).trans hB
    have e : v = .str (Str.ofString "ab") ∨ v = .str (Str.ofString "ab") ∨ v = .str (Str.ofString "a") ∨ v = .str (Str.ofString "abc") ∨ v = .str (Str.ofString "xz") := by simpa using hv
    rcases e with rfl | rfl | rfl | rfl | rfl
    · rw [s_ab]; exact k _ _ (by unfold Menu sgs; simp) hB'
    · rw [s_ab]; exact k _ _ (by unfold Menu sgs; simp) hB'
    · rw [s_a]; exact k _ _ (by unfold Menu sgs; simp) hB'
    · rw [s_abc]; exact k _ _ (by unfold Menu sgs; simp) hB'
    · rw [s_xz]; exact k _ _ (by unfold Menu sgs; simp) hB'
theorem menu_cases {sg : List Nat} (h : Menu sg) : sg = [97, 98] ∨ sg = [97] ∨ sg = [97, 98, 99] ∨ sg = [120, 122] := by
  unfold Menu sgs at h; simpa using h
theorem menu_len {sg : List Nat} (h : Menu sg) : 0 < sg.length ∧ sg.length ≤ 3 := by
  rcases menu_cases h with rfl | rfl | rfl | rfl <;> decide
theorem menu_nodup {sg : List Nat} (h : Menu sg) : sg.Nodup := by
  rcases menu_cases h with rfl | rfl | rfl | rfl <;> decide
theorem menu_small {sg : List Nat} (h : Menu sg) : ∀ c ∈ sg, 97 ≤ c ∧ c ≤ 122 := by
  rcases menu_cases h with rfl | rfl | rfl | rfl <;> decide
theorem singles_join : ∀ (ys : List V) (m : Nat) (sg : List Nat), ys.length = m → (∀ (j : Nat) y, ys[j]? = some y → ∃ c ∈ sg, y = .str (S [c])) → ∃ l : List Nat, l.length = m ∧ Ov sg l ∧ ys = (l.map fun c => V.str (S [c]))
  | [], m, sg, e, _ => ⟨[], e, (fun _ h => nomatch h), rfl⟩
  | y :: ys, m, sg, e, h => by
    obtain ⟨l, e1, o1, e2⟩ := singles_join ys (m - 1) sg (by simp at e; omega) fun j z q => h (j + 1) z q
    obtain ⟨c, hc, ec⟩ := h 0 y rfl
    refine ⟨c :: l, by simp at e ⊢; omega, fun d hd => ?_, by rw [ec, e2]; rfl⟩
    rcases List.mem_cons.mp hd with rfl | hd
    · exact hc
    · exact o1 d hd
abbrev s_row : Stmt := top 32
abbrev n_row : List Str := ["_law_box", "_law_signs_here", "_law_most", "_law_turn"]
theorem sc_row : FnScope n_row ["_law_box", "_law_signs_here", "_law_most"] (fnScope s_row) := fnScope_by (by decide +kernel)
def spRow : Sp := fun vs H Q _ => ∃ (b : Addr) (sg : List Nat) (m : Nat), vs = [.ref b, .str (S sg), .int m] ∧ Menu sg ∧ m ≤ 100 ∧ BoxAt b H ∧ ∀ (l : List Nat) (H' : Hp), Ov sg l → l.length ≤ m → Bx b H H' → Q (.str (S l)) H'
theorem ok_row (T : BT mg) (c_choose : Cal P w K mg base 1 "_law_choose" spChoose []) (c_one_of : Cal P w K mg base 2 "_law_one_of" (spOne K) []) {f : Addr} {fd : FuncData} (F : Def K mg "_law_row" s_row f fd) (b : Binds K fd ["_law_box", "_law_signs_here", "_law_most"] []) : Cal P w K mg base 3 "_law_row" spRow [] := by
  refine cal0 F b .nil sc_row (fun vs H Q E h => ?_) (fun cdv A outer s H vs Q E hr h => ?_)
  · obtain ⟨b, sg, m, rfl, _⟩ := h; rfl
  · obtain ⟨b, sg, m, rfl, hm, m100, hb, k⟩ := h
    refine ⟨_, (pss_one (ps_ret (pe_join pe_str (pe_lc (own := [("_law_turn", 3)]) rfl sc_row.nd (pi_range1 (by rfl) T.m_range (pa_cons (pe_c c_choose hr (by first | decide | omega) (by rfl) (pa_cons (pv 0) (pa_cons (pe_op op_add (pv 2) pe_int) pa_nil))) pa_nil)) (blkOk_by (N := n_row) (sc := fnScope s_row) (by decide +kernel)) (fun _ _ _ _ _ => (pg_name (i := 3) sc_row.nd rfl (.inl rfl))) (fun _ _ _ _ _ => pts_nil) (fun _ _ _ _ _ => (pe_c c_one_of hr (by first | decide | omega) (by rfl) (pa_cons (pv 0) (pa_cons (pe_callTy (LX.call_list_str rfl) (by rfl) T.m_list PyProof.Rows.boot_list (pa_cons (pv 1) pa_nil)) pa_nil)))))))
      ), ?_⟩
    refine ⟨⟨_, rfl⟩, ?_⟩
    walk_at "s"
    refine ⟨b, (m : Int) + 1, rfl, hb, by omega, by omega, fun d H1 d0 d1 hB => ?_⟩
    refine ⟨_, rfl, by omega, by omega, fun D hD => ?_⟩
    refine lc_keep (keep_bk hB.2) (walk_range (lo := 0) (n := d.toNat)) hD (by show d.toNat < sizeLine; exact small1000 (by omega)) (fun _ y => ∃ c ∈ sg, y = .str (S [c])) (fun _ _ => trivial) (fun i x H2 H3 R hi r hy hR => ?_) (fun ys H2 hl hg r hDs => ?_)
    · obtain ⟨rfl, rfl⟩ := hy
      refine ⟨rfl, ?_⟩
      walk_at "s"
      refine ⟨Nat.le_trans (menu_len hm).2 (by decide), fun p hp => ?_⟩
      refine ⟨b, p, _, rfl, (Bx.put (bk_same (Same.refl H3) r.2) r.2 hp).2, box_ne r.2 hp, SqL.of upd_same, by simpa using (menu_len hm).1, by simp; have := (menu_len hm).2; omega, fun v H4 hv hB4 => ?_⟩
      refine hR v H4 ((Bx.put (bk_same (Same.refl H3) r.2) r.2 hp).trans hB4) ?_
      obtain ⟨c, hc, rfl⟩ := List.mem_map.mp hv
      exact ⟨c, hc, rfl⟩
    · obtain ⟨l, hl2, ho, rfl⟩ := singles_join ys _ sg hl hg
      have e1 : (l.map fun c => S [c]) = (l.map fun c => [c]).map S := by rw [List.map_map]; rfl
      have e2 : ((l.map fun c => S [c]).map (·.length)).sum ≤ 101 := by
        have : ∀ l : List Nat, ((l.map fun c => S [c]).map (·.length)).sum = l.length := by
          intro l; induction l with
          | nil => rfl
          | cons c l ih => simp only [List.map_cons, List.sum_cons, ih, List.length_cons]; rw [S_len]; simp; omega
        rw [this]; omega
      refine ⟨_, D, (l.map fun c => S [c]), rfl, rfl, .inl (SqL.of (by rw [List.map_map]; exact hDs)), ?_, ?_⟩
      · rw [s_nil, S_len]; simp only [List.length_nil, Nat.mul_zero, Nat.add_zero]; omega
      · show Q (.str (Txt.join (Str.ofString "") (l.map fun c => S [c]))) H2
        rw [s_nil, e1, join_txs, flat_singles]
        exact k l _ ho (by omega) (hB.trans r)
abbrev s_images : Stmt := top 33
abbrev n_images : List Str := ["_law_box", "_law_signs_here", "_law_most", "_law_form", "_law_least", "_law_found", "_law_sign"]
theorem sc_images : FnScope n_images ["_law_box", "_law_signs_here", "_law_most"] (fnScope s_images) := fnScope_by (by decide +kernel)
def spImages : Sp := fun vs H Q _ => ∃ (b : Addr) (sg : List Nat) (m : Nat), vs = [.ref b, .str (S sg), .int m] ∧ Menu sg ∧ 1 ≤ m ∧ m ≤ 100 ∧ BoxAt b H ∧
  ∀ (p : Addr) (ims : List (List Nat)) (H' : Hp), Ims sg ims m → Bx b H H' → H p = none → H' p = some (.lst (txs ims)) → Q (.ref p) H'
theorem ims_self {sg : List Nat} {m : Nat} (h : 1 ≤ m) : Ims sg (sg.map fun c => [c]) m := by
  refine ⟨List.length_map .., fun l hl => ?_⟩
  obtain ⟨c, hc, rfl⟩ := List.mem_map.mp hl
  exact ⟨fun d hd => by rw [List.mem_singleton.mp hd]; exact hc, h⟩
theorem ims_void {sg : List Nat} {m : Nat} : Ims sg (sg.map fun _ => []) m := by
  refine ⟨List.length_map .., fun l hl => ?_⟩
  obtain ⟨c, hc, rfl⟩ := List.mem_map.mp hl
  exact ⟨(fun d hd => nomatch hd), Nat.zero_le _⟩
theorem ite_ii {c : Prop} [Decidable c] {F : V → Prop} {z0 z1 : Int} (h : ∀ z, (z = z0 ∨ z = z1) → F (.int z)) : if c then F (.int z0) else F (.int z1) := by
  by_cases e : c
  · rw [if_pos e]; exact h _ (.inl rfl)
  · rw [if_neg e]; exact h _ (.inr rfl)
theorem ok_images (T : BT mg) (c_choose : Cal P w K mg base 1 "_law_choose" spChoose []) (c_one_of : Cal P w K mg base 2 "_law_one_of" (spOne K) []) (c_row : Cal P w K mg base 3 "_law_row" spRow []) {f : Addr} {fd : FuncData} (F : Def K mg "_law_images" s_images f fd) (b : Binds K fd ["_law_box", "_law_signs_here", "_law_most"] []) : Cal P w K mg base 4 "_law_images" spImages [] := by
  refine cal0 F b .nil sc_images (fun vs H Q E h => ?_) (fun cdv A outer s H vs Q E hr h => ?_)
  · obtain ⟨b, sg, m, rfl, _⟩ := h; rfl
  · obtain ⟨b, sg, m, rfl, hm, m1, m100, hb, k⟩ := h
    refine ⟨_, (pss_cons (ps_set (i := 3) sc_images.nd rfl (.inl rfl) (pe_c c_choose hr (by first | decide | omega) (by rfl) (pa_cons (pv 0) (pa_cons pe_int pa_nil))))
      (pss_cons (ps_if (pt_cmpR op_eq (pv 3) pe_int (nomark _)) 
        (pss_one (ps_ret (pe_callTy (LX.call_list_str rfl) (by rfl) T.m_list PyProof.Rows.boot_list (pa_cons (pv 1) pa_nil)))
        )
       pss_nil)
      (pss_cons (ps_if (pt_cmpR op_eq (pv 3) pe_int (nomark _)) 
        (pss_one (ps_ret (pe_lc (own := [("_law_sign", 6)]) rfl sc_images.nd (pi_str (pv 1)) (blkOk_by (N := n_images) (sc := fnScope s_images) (by decide +kernel)) (fun _ _ _ _ _ => (pg_name (i := 6) sc_images.nd rfl (.inl rfl))) (fun _ _ _ _ _ => pts_nil) (fun _ _ _ _ _ => pe_str)))
        )
       pss_nil)
      (pss_cons (ps_set (i := 4) sc_images.nd rfl (.inl rfl) (pe_ifExp (pt_cmpR op_eq (pv 3) pe_int (nomark _)) pe_int pe_int))
      (pss_cons (ps_set (i := 5) sc_images.nd rfl (.inl rfl) (pe_lst pa_nil))
      (pss_cons (ps_for PassesOwn.never rfl (pi_str (pv 1)) (pg_name (i := 6) sc_images.nd rfl (.inl rfl)) 
        (pss_one (ps_expr (pe_bm PySem.F.plainAttrs_list PySem.F.slot_list_append PySem.F.type_list_append mt_append (pv 5) (pa_cons (pe_op op_add_str (pe_op op_mul_si (pe_c c_one_of hr (by first | decide | omega) (by rfl) (pa_cons (pv 0) (pa_cons (pe_callTy (LX.call_list_str rfl) (by rfl) T.m_list PyProof.Rows.boot_list (pa_cons (pv 1) pa_nil)) pa_nil))) (pv 4)) (pe_c c_row hr (by first | decide | omega) (by rfl) (pa_cons (pv 0) (pa_cons (pv 1) (pa_cons (pe_op op_sub (pv 2) (pv 4)) pa_nil))))) pa_nil)))
        ))
      (pss_one (ps_ret (pv 5))
      ))))))), ?_⟩
    walk_at "s"
    refine ⟨b, 8, rfl, hb, by decide, by decide, fun d H1 d0 d1 hB => ?_⟩
    have hlen := menu_len hm
    walk_at "s"
    refine ⟨rfl, _, rfl, ite2 (fun e => ?_) (fun ne0 => ?_)⟩
    · walk_at "s"
      refine ⟨Nat.le_trans hlen.2 (by decide), fun p hp => ?_⟩
      refine k p (sg.map fun c => [c]) _ (ims_self m1) (hB.put hb (hB.free hp)) (hB.free hp) ?_
      rw [upd_same]; unfold txs; rw [List.map_map]; rfl
    walk_at "s"
    refine ⟨rfl, _, rfl, ite2 (fun e => ?_) (fun ne1 => ?_)⟩
    · walk_at "s"
      refine fun D hD => lc_keep (keep_bk hB.2) walk_str hD (by show sg.length < sizeLine; exact small1000 (by omega)) (fun _ y => y = .str (S [])) (fun _ _ => trivial) (fun i x H2 H3 R hi r hy hR => ?_) (fun ys H2 hl hg r hDs => ?_)
      · obtain ⟨rfl, c, hc, rfl⟩ := hy
        exact ⟨rfl, hR _ _ (bk_same (Same.refl _) r.2) (by rw [s_nil])⟩
      · refine k D (sg.map fun _ => []) H2 ims_void (hB.trans r) (hB.free hD) ?_
        rw [hDs]
        have : ys = txs (sg.map fun _ => []) := by
          unfold txs; rw [List.map_map]
          exact list_map (f := fun _ => V.str (S [])) hl fun j y x e1 _ => hg j y e1
        rw [this]
    walk_at "s"
    refine ⟨rfl, _, rfl, ite_ii (F := fun v => tC v _ _ _) fun z hz => ?_⟩
    have z01 : z = 0 ∨ z = 1 := hz
    refine ⟨by decide, fun p hp => ?_⟩
    have hpb : p ≠ b := box_ne hB.2 hp
    have hB2 : Bx b H (upd H1 p (.lst [])) := hB.put hb (hB.free hp)
    refine ⟨_, rfl, _, rfl, for_it walk_str (fun i σ H' => ∃ (acc : List (List Nat)) (sv : Option V), acc.length = i ∧ (∀ l ∈ acc, Ov sg l ∧ l.length ≤ m) ∧ σ = [some (.ref b), some (.str (S sg)), some (.int m), some (.int d), some (.int z), some (.ref p), sv] ∧ H' p = some (.lst (txs acc)) ∧ Bx b H H')
      ⟨[], none, rfl, (fun _ h => nomatch h), rfl, upd_same, hB2⟩ (fun _ _ _ _ _ => trivial) ?_ ?_⟩
    · rintro i x σ H2 H3 hi ⟨acc, sv, hl, hg, rfl, hp2, hB3⟩ ⟨rfl, c, hc, rfl⟩
      refine ⟨_, rfl, .inl ⟨rfl, _, SqL.of hp2⟩, ?_⟩
      walk_at "s"
      refine ⟨Nat.le_trans hlen.2 (by decide), fun q hq => ?_⟩
      have hq3 : Bx b H3 (upd H3 q (.lst (sg.map fun c => V.str (S [c])))) := Bx.put (bk_same (Same.refl H3) hB3.2) hB3.2 hq
      refine ⟨b, q, _, rfl, hq3.2, box_ne hB3.2 hq, SqL.of upd_same, by simpa using hlen.1, by simp; omega, fun v H4 hv hB4 => ?_⟩
      obtain ⟨e, he, rfl⟩ := List.mem_map.mp hv
      walk_at "s"
      refine ⟨z01, ?_⟩
      walk_at "s"
      have hB5 : Bx b H3 H4 := hq3.trans hB4
      refine ⟨b, sg, m - z.toNat, by show [V.ref b, V.str (S sg), V.int ((m : Int) - z)] = _; rw [show ((m : Int) - z) = ((m - z.toNat : Nat) : Int) by omega], hm, by omega, hB5.2, fun l H5 ho hl5 hB6 => ?_⟩
      have ef : (if z = 0 then S [] else S [e]) = S (if z = 0 then [] else [e]) := by split <;> rfl
      have lf : (if z = 0 then ([] : List Nat) else [e]).length = z.toNat := by rcases z01 with rfl | rfl <;> rfl
      refine ⟨_, _, rfl, rfl, ?_, ?_⟩
      · rw [ef, S_len, S_len, lf]; exact Nat.le_trans (show z.toNat + l.length ≤ 1000 by omega) (by decide)
      have hB7 : Bx b H3 H5 := hB5.trans hB6
      refine ⟨p, _, _, rfl, rfl, hB7.1 _ _ hpb hp2, ?_, ?_⟩
      · rw [txs_len]; have : acc.length < sg.length := by rw [hl]; exact hi
        exact small1000 (by omega)
      have hp5 : H5 p = some (.lst (txs acc)) := hB7.1 _ _ hpb hp2
      refine ⟨acc ++ [(if z = 0 then [] else [e]) ++ l], _, by simp [hl], fun r hr => ?_, rfl, ?_, ?_⟩
      · rcases List.mem_append.mp hr with h | h
        · exact hg r h
        · rw [List.mem_singleton.mp h]
          refine ⟨fun x hx => ?_, by rw [List.length_append, lf]; omega⟩
          rcases List.mem_append.mp hx with h | h
          · rcases z01 with rfl | rfl
            · simp at h
            · simp at h; rw [h]; exact he
          · exact ho x h
      · rw [upd_same, ef, S_cat]; unfold txs; rw [List.map_append]; rfl
      · exact ⟨fun a o n e' => by
          by_cases hap : a = p
          · exfalso; have := hB.free hp; rw [← hap, e'] at this; cases this
          · rw [upd_ne hap]; exact hB7.1 a o n (hB3.1 a o n e'), by
          obtain ⟨o, eo, po⟩ := hB7.2
          exact ⟨o, by rw [upd_ne hpb.symm]; exact eo, po⟩⟩
    · rintro σ H2 ⟨acc, sv, hl, hg, rfl, hp2, hB3⟩
      walk_at "s"
      exact k p acc H2 ⟨hl, hg⟩ hB3 (hB.free hp) hp2
abbrev s_seed : Stmt := top 28
abbrev n_seed : List Str := ["_law_script", "_law_k", "_law_cell"]
theorem sc_seed : FnScope n_seed ["_law_script", "_law_k"] (fnScope s_seed) := fnScope_by (by decide +kernel)
def spSeed : PySem.W.Frag → Sp := fun K vs H Q _ => ∃ (a : Addr) (k : Nat) (ns : List Int), vs = [.ref a, .int k] ∧ SqL K H a (ns.map V.int) ∧ ns.length ≤ 63 ∧
  ∀ (p : Addr) (H' : Hp), Same H H' → H p = none → BoxAt p H' → Q (.ref p) H'
theorem int_at {ns : List Int} {i : Nat} (h : i < ns.length) : ∃ z : Int, (ns.map V.int)[i]? = some (.int z) := ⟨ns[i], by rw [List.getElem?_map, List.getElem?_eq_getElem h]; rfl⟩
theorem ok_seed (T : BT mg) {f : Addr} {fd : FuncData} (F : Def K mg "_law_seed" s_seed f fd) (b : Binds K fd ["_law_script", "_law_k"] []) : Cal P w K mg base 1 "_law_seed" (spSeed K) [] := by
  refine cal0 F b .nil sc_seed (fun vs H Q E h => ?_) (fun cdv A outer s H vs Q E hr h => ?_)
  · obtain ⟨a, k, ns, rfl, _⟩ := h; rfl
  · obtain ⟨a, k, ns, rfl, ha, hl, kk⟩ := h
    refine ⟨_, (pss_cons (ps_set (i := 2) sc_seed.nd rfl (.inl rfl) (pe_op op_add (pe_op op_mul pe_int (pv 1)) pe_int))
      (C8.pss_cut (ps_if (pt_cmpR op_lt (pv 1) (pe_callB (lenK K) (by rfl) T.m_len PySem.boot_len (pa_cons (pv 0) pa_nil)) (nomark _)) 
        (pss_one (ps_set (i := 2) sc_seed.nd rfl (.inl rfl) (pe_callB call_abs (by rfl) T.m_abs PyProof.Rows.boot_abs (pa_cons (pe_ix (ixl K) (pv 0) (pv 1) (fun _ _ => rfl)) pa_nil)))
        )
        (pss_one (ps_if (pt_cmpR op_gt (pe_callB (lenK K) (by rfl) T.m_len PySem.boot_len (pa_cons (pv 0) pa_nil)) pe_int (nomark _)) 
          (pss_one (ps_set (i := 2) sc_seed.nd rfl (.inl rfl) (pe_op op_add (pv 2) (pe_op op_mul (pe_op op_mod (pe_callTy call_int1 (by rfl) T.m_int PyProof.Rows.boot_int (pa_cons (pe_callB call_abs (by rfl) T.m_abs PyProof.Rows.boot_abs (pa_cons (pe_ix (ixl K) (pv 0) (pe_op op_mod (pe_callTy call_int1 (by rfl) T.m_int PyProof.Rows.boot_int (pa_cons (pv 1) pa_nil)) (pe_callB (lenK K) (by rfl) T.m_len PySem.boot_len (pa_cons (pv 0) pa_nil))) (fun _ _ => rfl)) pa_nil)) pa_nil)) pe_int) pe_int)))
          )
         pss_nil)
        ))
      (pss_one (ps_ret (pe_lst (pa_cons (pe_ifExp (pt_cmpR op_ge (pv 2) (pe_op op_pow pe_int pe_int) (nomark _)) (pv 2) pe_int) (pa_cons (pe_op op_add (pe_op op_mod (pe_callTy call_int1 (by rfl) T.m_int PyProof.Rows.boot_int (pa_cons (pe_op op_add (pe_op op_mul (pe_op op_mod (pe_callTy call_int1 (by rfl) T.m_int PyProof.Rows.boot_int (pa_cons (pv 2) pa_nil)) pe_int) pe_int) (pe_op op_mul pe_int (pv 1))) pa_nil)) pe_int) pe_int) (pa_cons pe_int pa_nil)))))
      ))), ?_⟩
    walk_at "s"
    refine ⟨fun σ H' => H' = H ∧ ∃ c : Int, σ = [some (.ref a), some (.int k), some (.int c)], ?_, ?_⟩
    · walk_at "s"
      refine ⟨_, _, rfl, .inl ha, ?_⟩
      walk_at "s"
      refine ite2 (fun hk => ?_) (fun hk => ?_)
      · rw [List.length_map, decide_eq_true_eq] at hk
        obtain ⟨z, hz⟩ := int_at (ns := ns) (i := k) (by omega)
        walk_at "s"
        refine ⟨_, _, _, .int z, rfl, rfl, ha, at_of rfl hz, ?_⟩
        walk_at "s"
        exact ⟨rfl, _, rfl⟩
      · walk_at "s"
        refine ⟨_, _, rfl, .inl ha, ?_⟩
        walk_at "s"
        refine ite2 (fun h0 => ?_) (fun h0 => ?_)
        · rw [List.length_map, decide_eq_true_eq] at h0
          have hn : 0 < (ns.length : Int) := by omega
          walk_at "s"
          refine ⟨_, _, rfl, .inl ha, ?_⟩
          refine ⟨_, _, rfl, rfl, by rw [List.length_map]; exact hn, ?_⟩
          have hm0 := Int.emod_nonneg (k : Int) (show ((ns.map V.int).length : Int) ≠ 0 by rw [List.length_map]; omega)
          have hm1 := Int.emod_lt_of_pos (k : Int) (show (0 : Int) < ((ns.map V.int).length : Int) by rw [List.length_map]; omega)
          obtain ⟨z, hz⟩ := int_at (ns := ns) (i := ((k : Int) % ((ns.map V.int).length : Int)).toNat) (by rw [List.length_map] at hm1 ⊢; omega)
          refine ⟨_, _, _, .int z, rfl, rfl, ha, at_of (by omega) hz, ?_⟩
          walk_at "s"
          exact ⟨rfl, _, rfl⟩
        · exact ⟨rfl, _, rfl⟩
    · rintro σ H' ⟨rfl, c, rfl⟩
      walk_at "s"
      refine ite2 (fun _ => ?_) (fun _ => ?_)
      · walk_at "s"
        exact ⟨(by show 3 ≤ sizeLine; decide), fun p hp => kk p _ (sm_new hp) hp (BoxAt.of upd_same)⟩
      · walk_at "s"
        exact ⟨(by show 3 ≤ sizeLine; decide), fun p hp => kk p _ (sm_new hp) hp (BoxAt.of upd_same)⟩
end
end Toy
set_option maxHeartbeats 2000000
namespace Toy
open PySem L2 C8 SX LX
local macro_rules | `(tactic| walk_at "c") => `(tactic| refine And.intro (by first | (show (0 : Int) < _; omega) | exact Or.inr ⟨by decide, by decide⟩ | exact Or.inl ⟨by decide, by decide⟩ | (exact ⟨by omega, by omega⟩)) ?_)
local macro_rules | `(tactic| walk_at "s1") => `(tactic| first | refine ⟨_, rfl, ?_⟩ | refine ⟨_, _, rfl, rfl, ?_⟩ | refine .inl ⟨_, rfl, ?_⟩ | walk_at "c")
local macro_rules | `(tactic| walk_at "ix") => `(tactic| refine ⟨_, _, _, _, rfl, rfl, SqL.of (by first | assumption | exact upd_same), rfl, ?_⟩)
local macro_rules | `(tactic| walk_at "s") => `(tactic| repeat (walk_at "s1"))
def Sg (sg : List Nat) : Prop := sg.Pairwise (· < ·) ∧ 1 ≤ sg.length ∧ sg.length ≤ 3 ∧ ∀ c ∈ sg, 97 ≤ c ∧ c ≤ 122
theorem ov_az {l : List Nat} : Ov az l ↔ ∀ c ∈ l, 97 ≤ c ∧ c ≤ 122 := ⟨fun h c hc => az_mem.mp (h c hc), fun h c hc => az_mem.mpr (h c hc)⟩
abbrev s_isseq : Stmt := top 7
abbrev n_isseq : List Str := ["value"]
theorem sc_isseq : FnScope n_isseq ["value"] (fnScope s_isseq) := fnScope_by (by decide +kernel)
abbrev s_isrow : Stmt := top 11
abbrev n_isrow : List Str := ["value", "signs"]
theorem sc_isrow : FnScope n_isrow ["value", "signs"] (fnScope s_isrow) := fnScope_by (by decide +kernel)
abbrev s_isletters : Stmt := top 9
abbrev n_isletters : List Str := ["value"]
theorem sc_isletters : FnScope n_isletters ["value"] (fnScope s_isletters) := fnScope_by (by decide +kernel)
abbrev s_issigns : Stmt := top 10
abbrev n_issigns : List Str := ["value", "one", "other"]
theorem sc_issigns : FnScope n_issigns ["value"] (fnScope s_issigns) := fnScope_by (by decide +kernel)
theorem sg_asc {sg : List Nat} (h : Sg sg) (i c d : Nat) (e1 : sg[i]? = some c) (e2 : sg[i + 1]? = some d) : c < d := by
  obtain ⟨a1, a2⟩ := List.getElem?_eq_some_iff.mp e1
  obtain ⟨b1, b2⟩ := List.getElem?_eq_some_iff.mp e2
  have := List.pairwise_iff_getElem.mp h.1 i (i + 1) a1 b1 (Nat.lt_succ_self i)
  rw [a2, b2] at this; exact this
instance (sg l : List Nat) : Decidable (Ov sg l) := by unfold Ov; infer_instance
inductive Kv (K : PySem.W.Frag) (H : Hp) : V → Option (List Nat) → Prop
  | txt (l : List Nat) : Kv K H (.str (S l)) (some l)
  | no {v : V} {t : Value} (ty : TyX K H v t) (h : PySem.W.kitOne K t (.type "str") = some false) : Kv K H v none
def tyN : PyData → String
  | .none => "NoneType"
  | .bool _ => "bool"
  | .int _ => "int"
  | .str _ => "str"
  | .list _ => "list"
  | .tuple _ => "tuple"
  | .dict _ => "dict"
def txtO : PyData → Option (List Nat)
  | .str s => some s.cps.toList
  | _ => none
def isSeqD : PyData → Bool
  | .list _ => true
  | .tuple _ => true
  | _ => false
theorem S_self (s : Str) : S s.cps.toList = s := by
  obtain ⟨c⟩ := s
  simp [S]
theorem ty_seqL {K : PySem.W.Frag} {H : Hp} {a : Addr} {xs : List V} (h : SqL K H a xs) : TyX K H (.ref a) (.type "list") := by
  rcases h with (h | ⟨o, h⟩) | ⟨o, its, n, h1, h2, _⟩
  · exact .base (.lst h)
  · exact .base (.frz h)
  · exact .kList h1 h2
theorem ty_seqT {K : PySem.W.Frag} {H : Hp} {a : Addr} {xs : List V} (h : SqT K H a xs) : TyX K H (.ref a) (.type "tuple") := by
  rcases h with (h | ⟨o, h⟩) | ⟨o, its, n, h1, h2, _⟩
  · exact .base (.tup h)
  · exact .fTuple h
  · exact .kTuple h1 h2
theorem dp_ty {K : PySem.W.Frag} {H : Hp} {v : V} {d : PyData} (h : Dp K H v d) : TyX K H v (.type (tyN d)) := by
  cases h with
  | non => exact .base .non
  | bl b => exact .base (.bl b)
  | int i => exact .base (.int i)
  | str x => exact .base (.str x)
  | lst h _ => exact ty_seqL h
  | tup h _ => exact ty_seqT h
theorem dp_kv {K : PySem.W.Frag} {H : Hp} {v : V} {d : PyData} (h : Dp K H v d) : Kv K H v (txtO d) := by
  have ty := dp_ty h
  cases h with
  | non => exact .no ty (kit_ty (a := "NoneType") (by decide +kernel))
  | bl b => exact .no ty (kit_ty (a := "bool") (by decide +kernel))
  | int i => exact .no ty (kit_ty (a := "int") (by decide +kernel))
  | str x =>
    have e : V.str x = V.str (S x.cps.toList) := by rw [S_self]
    rw [e]
    exact .txt _
  | lst h _ => exact .no ty (kit_ty (a := "list") (by decide +kernel))
  | tup h _ => exact .no ty (kit_ty (a := "tuple") (by decide +kernel))
theorem kv_ins {K : PySem.W.Frag} {H : Hp} {a C dx : Addr} {fs : List (Str × V)} (I : InsC K C) (hk : PySem.W.kitOne K (.ref C) (.type "str") = some false) (h : H a = some (.ins C dx fs)) : Kv K H (.ref a) none :=
  .no (.base (.ins h I.cl I.ha I.hn I.htk I.hm)) hk
mutual
theorem dp_same {K : PySem.W.Frag} {H H' : Hp} (s : Same H H') : ∀ (d : PyData) (v : V), Dp K H v d → Dp K H' v d
  | .none, _, h => by cases h; exact .non
  | .bool b, _, h => by cases h; exact .bl b
  | .int i, _, h => by cases h; exact .int i
  | .str x, _, h => by cases h; exact .str x
  | .list ds, _, h => by
    cases h with
    | lst hs ha => exact .lst (s.seq hs) (dpa_same s ds _ ha)
  | .tuple ds, _, h => by
    cases h with
    | tup hs ha => exact .tup (sm_seqT s hs) (dpa_same s ds _ ha)
  | .dict _, _, h => by cases h
theorem dpa_same {K : PySem.W.Frag} {H H' : Hp} (s : Same H H') : ∀ (ds : List PyData) (vs : List V), DpAll K H vs ds → DpAll K H' vs ds
  | [], _, h => by cases h; exact .nil
  | d :: ds, _, h => by
    cases h with
    | cons h1 h2 => exact .cons (dp_same s d _ h1) (dpa_same s ds _ h2)
end
theorem dpa_len {K : PySem.W.Frag} {H : Hp} : ∀ {vs : List V} {ds : List PyData}, DpAll K H vs ds → vs.length = ds.length
  | _, _, .nil => rfl
  | _, _, .cons _ h => by rw [List.length_cons, List.length_cons, dpa_len h]
theorem dpa_at {K : PySem.W.Frag} {H : Hp} : ∀ {vs : List V} {ds : List PyData}, DpAll K H vs ds → ∀ (i : Nat) (v : V), vs[i]? = some v → ∃ d, ds[i]? = some d ∧ Dp K H v d
  | _, _, .nil, i, v, h => by simp at h
  | _, _, .cons h _, 0, v, e => by cases e; exact ⟨_, rfl, h⟩
  | _, _, .cons _ h, i + 1, v, e => dpa_at h i v e
def seqD (b : Bool) (ds : List PyData) : PyData := if b = true then .list ds else .tuple ds
theorem dp_seq {K : PySem.W.Frag} {H : Hp} {v : V} {b : Bool} {ds : List PyData} (h : Dp K H v (seqD b ds)) : ∃ a xs, v = .ref a ∧ SqB K b H a xs ∧ DpAll K H xs ds := by
  cases b with
  | true =>
    have h : Dp K H v (.list ds) := h
    cases h with
    | lst hs ha => exact ⟨_, _, rfl, hs, ha⟩
  | false =>
    have h : Dp K H v (.tuple ds) := h
    cases h with
    | tup hs ha => exact ⟨_, _, rfl, hs, ha⟩
theorem isSeq_of {d : PyData} (h : isSeqD d = true) : ∃ b ds, d = seqD b ds := by
  cases d with
  | list ds => exact ⟨true, ds, rfl⟩
  | tuple ds => exact ⟨false, ds, rfl⟩
  | _ => cases h
theorem bools_of {ys : List V} {n : Nat} {f : Nat → Bool} (hl : ys.length = n) (h : ∀ (j : Nat) y, ys[j]? = some y → y = .bl (f j)) : ys = ((List.range n).map f).map V.bl := by
  rw [List.map_map]
  exact list_of hl h
theorem all_range {n : Nat} {f : Nat → Bool} : ((List.range n).map f).all id = decide (∀ i, i < n → f i = true) := by
  rw [Bool.eq_iff_iff, List.all_eq_true, decide_eq_true_eq]
  constructor
  · intro h i hi
    exact h _ (List.mem_map.mpr ⟨i, List.mem_range.mpr hi, rfl⟩)
  · intro h b hb
    obtain ⟨i, hi, rfl⟩ := List.mem_map.mp hb
    exact h i (List.mem_range.mp hi)
section
variable {P : Program} {w : World} {K : PySem.W.Frag} {mg : Str → Option Value} {base : Heap}
def spIsSeqD (K : PySem.W.Frag) : Sp := fun vs H Q _ => ∃ (v : V) (d : PyData), vs = [v] ∧ Dp K H v d ∧ ∀ H', Same H H' → Q (.bl (isSeqD d)) H'
theorem ok_isseqD (T : BT mg) {f : Addr} {fd : FuncData} (F : Def K mg "is_sequence" s_isseq f fd) (b : Binds K fd ["value"] []) : Cal P w K mg base 1 "is_sequence" (spIsSeqD K) [] := by
  refine cal0 F b .nil sc_isseq (fun vs H Q E h => ?_) (fun cdv A outer s H vs Q E hr h => ?_)
  · obtain ⟨v, d, rfl, _⟩ := h; rfl
  · obtain ⟨v, d, rfl, hd, k⟩ := h
    refine ⟨_, (pss_one (ps_ret (pe_callB (isiTK K) (by rfl) T.m_isinstance PyProof.Rows.boot_isinstance (pa_cons (pv 0) (pa_cons (pe_tup (pa_cons (pe_bltn (v := .ty "list") (by rfl) T.m_list PyProof.Rows.boot_list rfl) (pa_cons (pe_bltn (v := .ty "tuple") (by rfl) T.m_tuple PyProof.Rows.boot_tuple rfl) pa_nil))) pa_nil))))
      ), ?_⟩
    walk_at "s"
    refine ⟨by decide, fun t ht => ?_⟩
    have ty := dp_ty (dp_same (sm_new (o := .tup [.ty "list", .ty "tuple"]) ht) d v hd)
    refine ⟨_, t, _, _, _, isSeqD d, rfl, upd_same, .cons (.ty _) (.cons (.ty _) .nil), ty, ?_, k _ (sm_new ht)⟩
    cases d with
    | list ds => exact kitAny_cons (b := true) (kit_ty (a := "list") (by decide +kernel)) (fun h => nomatch h) (fun _ => rfl)
    | tuple ds => exact kitAny_cons (b := false) (kit_ty (a := "tuple") (by decide +kernel)) (fun _ => kitAny_cons (b := true) (kit_ty (a := "tuple") (by decide +kernel)) (fun h => nomatch h) (fun _ => rfl)) (fun h => nomatch h)
    | dict ds => cases hd
    | none => exact kitAny_cons (b := false) (kit_ty (a := "NoneType") (by decide +kernel)) (fun _ => kitAny_cons (b := false) (kit_ty (a := "NoneType") (by decide +kernel)) (fun _ => rfl) (fun h => nomatch h)) (fun h => nomatch h)
    | bool _ => exact kitAny_cons (b := false) (kit_ty (a := "bool") (by decide +kernel)) (fun _ => kitAny_cons (b := false) (kit_ty (a := "bool") (by decide +kernel)) (fun _ => rfl) (fun h => nomatch h)) (fun h => nomatch h)
    | int _ => exact kitAny_cons (b := false) (kit_ty (a := "int") (by decide +kernel)) (fun _ => kitAny_cons (b := false) (kit_ty (a := "int") (by decide +kernel)) (fun _ => rfl) (fun h => nomatch h)) (fun h => nomatch h)
    | str _ => exact kitAny_cons (b := false) (kit_ty (a := "str") (by decide +kernel)) (fun _ => kitAny_cons (b := false) (kit_ty (a := "str") (by decide +kernel)) (fun _ => rfl) (fun h => nomatch h)) (fun h => nomatch h)
def rowO (sg : List Nat) : Option (List Nat) → Bool
  | some l => decide (Ov sg l)
  | none => false
def Sm (o : Option (List Nat)) : Prop := ∀ l, o = some l → l.length ≤ 1000
def spIsRowD (K : PySem.W.Frag) : Sp := fun vs H Q _ => ∃ (v : V) (o : Option (List Nat)) (sg : List Nat), vs = [v, .str (S sg)] ∧ Kv K H v o ∧ Sm o ∧ Q (.bl (rowO sg o)) H
theorem ok_isrowD (T : BT mg) {f : Addr} {fd : FuncData} (F : Def K mg "is_row" s_isrow f fd) (b : Binds K fd ["value", "signs"] []) : Cal P w K mg base 1 "is_row" (spIsRowD K) [] := by
  refine cal0 F b .nil sc_isrow (fun vs H Q E h => ?_) (fun cdv A outer s H vs Q E hr h => ?_)
  · obtain ⟨v, o, sg, rfl, _⟩ := h; rfl
  · obtain ⟨v, o, sg, rfl, hv, hl, k⟩ := h
    refine ⟨_, (pss_one (ps_ret (pe_and (pe_callB (isiK K) (by rfl) T.m_isinstance PyProof.Rows.boot_isinstance (pa_cons (pv 0) (pa_cons (pe_bltn (v := .ty "str") (by rfl) T.m_str PyProof.Rows.boot_str rfl) pa_nil))) (pe_one (pe_cmpR op_eq (pe_bm PySem.F.plainAttrs_str PySem.F.slot_str_strip PySem.F.type_str_strip mt_stripChars (pv 0) (pa_cons (pv 1) pa_nil)) pe_str (nomark _)))))
      ), ?_⟩
    walk_at "s"
    cases hv with
    | no ty hk =>
      exact ⟨_, _, _, _, false, rfl, .ty _, ty, hk, false, rfl, iteN rfl k⟩
    | txt l =>
      have hl := hl l rfl
      refine ⟨_, _, _, _, true, rfl, .ty _, .base (.str _), kit_ty (by decide +kernel), true, rfl, ?_⟩
      refine iteT ?_
      refine ⟨_, rfl, rfl, _, rfl, S l, S sg, rfl, rfl, by rw [S_len]; exact sz hl (by decide), rfl, ?_⟩
      have e : V.bl (decide (V.str (Txt.stripChars (S l) (S sg)) = V.str (Str.ofString ""))) = V.bl (decide (Ov sg l)) := by
        rw [s_nil]
        refine congrArg V.bl (decide_eq_decide.mpr ?_)
        rw [V.str.injEq]
        exact strip_nil
      show Q (V.bl (decide (V.str (Txt.stripChars (S l) (S sg)) = V.str (Str.ofString "")))) H
      rw [e]
      exact k
def spIsLettersD (K : PySem.W.Frag) : Sp := fun vs H Q _ => ∃ (v : V) (o : Option (List Nat)), vs = [v] ∧ Kv K H v o ∧ Sm o ∧ Q (.bl (rowO az o)) H
theorem ok_islettersD (T : BT mg) {tz : Tok} (mgZ : mg "_LETTERS" = some (.str (S az) tz)) (c_isrow : Cal P w K mg base 1 "is_row" (spIsRowD K) []) {f : Addr} {fd : FuncData} (F : Def K mg "is_letters" s_isletters f fd) (b : Binds K fd ["value"] []) : Cal P w K mg base 2 "is_letters" (spIsLettersD K) [] := by
  refine cal0 F b .nil sc_isletters (fun vs H Q E h => ?_) (fun cdv A outer s H vs Q E hr h => ?_)
  · obtain ⟨v, o, rfl, _⟩ := h; rfl
  · obtain ⟨v, o, rfl, hv, hl, k⟩ := h
    refine ⟨_, (pss_one (ps_ret (pe_c c_isrow hr (by first | decide | omega) (by rfl) (pa_cons (pv 0) (pa_cons (pe_glob (v := .str (S az)) (by rfl) mgZ ⟨_, rfl⟩) pa_nil))))
      ), ?_⟩
    exact ⟨_, rfl, v, o, az, rfl, hv, hl, k⟩
instance (l : List Nat) : Decidable (Sg l) := by unfold Sg; infer_instance
def sgO : Option (List Nat) → Bool
  | some l => decide (Sg l)
  | none => false
def spIsSignsD (K : PySem.W.Frag) : Sp := fun vs H Q _ => ∃ (v : V) (o : Option (List Nat)), vs = [v] ∧ Kv K H v o ∧ Sm o ∧ ∀ H', Same H H' → Q (.bl (sgO o)) H'
theorem ok_issignsD (T : BT mg) (c_isletters : Cal P w K mg base 2 "is_letters" (spIsLettersD K) []) {f : Addr} {fd : FuncData} (F : Def K mg "is_signs" s_issigns f fd) (b : Binds K fd ["value"] []) : Cal P w K mg base 3 "is_signs" (spIsSignsD K) [] := by
  refine cal0 F b .nil sc_issigns (fun vs H Q E h => ?_) (fun cdv A outer s H vs Q E hr h => ?_)
  · obtain ⟨v, o, rfl, _⟩ := h; rfl
  · obtain ⟨v, o, rfl, hv, hl, k⟩ := h
    refine ⟨_, (pss_cons (ps_if (PW.pt (pw_or (pt_not (pt_val (pe_c c_isletters hr (by first | decide | omega) (by rfl) (pa_cons (pv 0) pa_nil)))) (pw_or (pt_cmpR op_lt (pe_callB call_len_str (by rfl) T.m_len PySem.boot_len (pa_cons (pv 0) pa_nil)) pe_int (nomark _)) (pw_or1 (pt_cmpR op_gt (pe_callB call_len_str (by rfl) T.m_len PySem.boot_len (pa_cons (pv 0) pa_nil)) pe_int (nomark _)))))) 
        (pss_one (ps_ret pe_bl)
        )
       pss_nil)
      (pss_one (ps_ret (pe_callB (cr_all rfl) (by rfl) T.m_all PyProof.Rows.boot_all (pa_cons (pe_lc (own := [("one", 1), ("other", 2)]) rfl sc_issigns.nd (pi_zipX (by rfl) T.m_zip (pa_cons (pv 0) (pa_cons (pe_slice sl_txt (pv 0) (po_some pe_int) po_none) pa_nil))) (blkOk_by (N := n_issigns) (sc := fnScope s_issigns) (by decide +kernel)) (fun _ _ _ _ _ => (tupK K 2 (pgs_cons (pg_name (i := 1) sc_issigns.nd rfl (.inl rfl)) (pgs_cons (pg_name (i := 2) sc_issigns.nd rfl (.inl rfl)) pgs_nil)))) (fun _ _ _ _ _ => pts_nil) (fun _ _ _ _ _ => (pe_cmpR op_lt_str (pv 1) (pv 2) (nomark _)))) pa_nil)))
      )), ?_⟩
    refine ⟨_, rfl, v, o, rfl, hv, hl, ?_⟩
    cases hv with
    | no ty hk => exact ⟨_, rfl, iteB rfl (k H (Same.refl H))⟩
    | txt l =>
      have hl := hl l rfl
      by_cases ha : Ov az l
      · rw [show rowO az (some l) = true from decide_eq_true ha]
        have hsl : (S l).length ≤ sizeLine := by rw [S_len]; exact Nat.le_trans hl (by decide)
        refine ⟨_, rfl, iteN rfl ?_⟩
        walk_at "s"
        refine ⟨hsl, ?_⟩
        walk_at "s"
        by_cases h1 : l.length < 1
        · refine iteB (by rw [S_len]; exact decide_eq_true (by omega)) ?_
          have e : sgO (some l) = false := decide_eq_false fun h => by have := h.2.1; omega
          rw [e] at k
          exact k H (Same.refl H)
        refine iteN (by rw [S_len]; exact decide_eq_false (by omega)) ?_
        walk_at "s"
        refine ⟨hsl, ?_⟩
        walk_at "s"
        by_cases h3 : 3 < l.length
        · refine iteB (by rw [S_len]; exact decide_eq_true (by omega)) ?_
          have e : sgO (some l) = false := decide_eq_false fun h => by have := h.2.2.1; omega
          rw [e] at k
          exact k H (Same.refl H)
        refine iteN (by rw [S_len]; exact decide_eq_false (by omega)) ?_
        walk_at "s"
        refine ⟨hsl, _, _, .txt (S l), .txt (S (l.drop 1)), rfl, rfl, slice_from (by decide), trivial, trivial, fun D hD => ?_⟩
        have hn : min (l.map fun c => V.str (S [c])).length ((l.drop 1).map fun c => V.str (S [c])).length = l.length - 1 := by
          rw [List.length_map, List.length_map, List.length_drop]; omega
        refine lc_keep (n := min (l.map fun c => V.str (S [c])).length ((l.drop 1).map fun c => V.str (S [c])).length) keep_same walk_zipX hD (by rw [hn]; exact small1000 (by omega)) (fun j y => y = .bl (decide (l.getD j 0 < l.getD (1 + j) 0))) (fun _ _ => ⟨rfl, rfl⟩) (fun i x H2 H3 R hii r1 hy hR => ?_) (fun ys H2 hly hg r1 hDs => ?_)
        · obtain ⟨t, x1, x2, rfl, ht, rfl, e1, e2⟩ := hy
          have e1 : (l.map fun c => V.str (S [c]))[i]? = some x1 := e1
          have e2 : ((l.drop 1).map fun c => V.str (S [c]))[i]? = some x2 := e2
          rw [List.getElem?_map] at e1 e2
          rw [List.getElem?_drop] at e2
          cases q1 : l[i]? with
          | none => rw [q1] at e1; cases e1
          | some c =>
            cases q2 : l[1 + i]? with
            | none => rw [q2] at e2; cases e2
            | some d =>
              rw [q1] at e1; rw [q2] at e2
              cases e1; cases e2
              refine ⟨t, _, rfl, .inl (.inl upd_same), rfl, _, _, rfl, _, _, rfl, rfl, rfl, ?_⟩
              walk_at "s"
              refine hR _ _ (sm_new ht) (congrArg V.bl ?_)
              rw [List.getD_eq_getElem?_getD, List.getD_eq_getElem?_getD, q1, q2]
              show decide (([c] : List Nat) < [d]) = decide (c < d)
              refine decide_eq_decide.mpr ?_
              rw [List.cons_lt_cons_iff]
              exact ⟨fun h => h.elim id fun h => absurd h.2 (by simp), .inl⟩
        · refine ⟨D, (List.range (l.length - 1)).map fun j => decide (l.getD j 0 < l.getD (1 + j) 0), rfl, SqL.of (by rw [← bools_of (hly.trans hn) hg]; exact hDs), ?_⟩
          rw [all_range]
          have e : sgO (some l) = decide (∀ i, i < l.length - 1 → decide (l.getD i 0 < l.getD (1 + i) 0) = true) := by
            refine decide_eq_decide.mpr ⟨fun h i hi => decide_eq_true ?_, fun h => ⟨?_, by omega, by omega, ov_az.mp ha⟩⟩
            · have i1 : i < l.length := by omega
              have i2 : i + 1 < l.length := by omega
              rw [List.getD_eq_getElem?_getD, List.getD_eq_getElem?_getD, Nat.add_comm 1 i, List.getElem?_eq_getElem i1, List.getElem?_eq_getElem i2]
              exact sg_asc h i _ _ (List.getElem?_eq_getElem i1) (List.getElem?_eq_getElem i2)
            · have key : ∀ i, i + 1 < l.length → l.getD i 0 < l.getD (i + 1) 0 := fun i hi => by
                have := of_decide_eq_true (h i (by omega))
                rw [Nat.add_comm 1 i] at this
                exact this
              match l, key with
              | [], _ => exact .nil
              | [a], _ => exact List.pairwise_singleton _ _
              | [a, b], key =>
                have := key 0 (by simp)
                simp at this
                exact .cons (fun x hx => by rw [List.mem_singleton.mp hx]; exact this) (List.pairwise_singleton _ _)
              | [a, b, c], key =>
                have k1 := key 0 (by simp)
                have k2 := key 1 (by simp)
                simp at k1 k2
                exact .cons (fun x hx => by rcases List.mem_cons.mp hx with rfl | hx; exact k1; rw [List.mem_singleton.mp hx]; omega) (.cons (fun x hx => by rw [List.mem_singleton.mp hx]; exact k2) (List.pairwise_singleton _ _))
              | _ :: _ :: _ :: _ :: _, _ => simp at h3
          rw [← e]
          exact k H2 r1
      · rw [show rowO az (some l) = false from decide_eq_false ha]
        refine ⟨_, rfl, iteB rfl ?_⟩
        have e : sgO (some l) = false := decide_eq_false fun h => ha (ov_az.mpr h.2.2.2)
        rw [e] at k
        exact k H (Same.refl H)
end
end Toy
set_option maxHeartbeats 2000000
namespace Toy
open PySem L2 C8 SX LX
local macro_rules | `(tactic| walk_at "c") => `(tactic| refine And.intro (by first | (show (0 : Int) < _; omega) | exact Or.inr ⟨by decide, by decide⟩ | exact Or.inl ⟨by decide, by decide⟩ | (exact ⟨by omega, by omega⟩)) ?_)
local macro_rules | `(tactic| walk_at "s1") => `(tactic| first | refine ⟨_, rfl, ?_⟩ | refine ⟨_, _, rfl, rfl, ?_⟩ | refine .inl ⟨_, rfl, ?_⟩ | walk_at "c")
local macro_rules | `(tactic| walk_at "ix") => `(tactic| refine ⟨_, _, _, _, rfl, rfl, SqL.of (by first | assumption | exact upd_same), rfl, ?_⟩)
local macro_rules | `(tactic| walk_at "s") => `(tactic| repeat (walk_at "s1"))
mutual
def okD : PyData → Bool
  | .str s => decide (s.length ≤ 40) && s.cps.toList.all fun c => decide (c < 1114112)
  | .list ds => decide (ds.length ≤ 20) && okAll ds
  | .tuple ds => decide (ds.length ≤ 20) && okAll ds
  | _ => true
def okAll : List PyData → Bool
  | [] => true
  | d :: ds => okD d && okAll ds
end
theorem okAll_iff : ∀ {ds : List PyData}, okAll ds = true ↔ ∀ d ∈ ds, okD d = true
  | [] => by simp [okAll]
  | d :: ds => by
    have ih := okAll_iff (ds := ds)
    simp only [okAll, Bool.and_eq_true, List.forall_mem_cons, ih]
theorem okD_lst {ds : List PyData} (hl : ds.length ≤ 20) (h : ∀ d ∈ ds, okD d = true) : okD (.list ds) = true := by
  unfold okD; rw [decide_eq_true hl, okAll_iff.mpr h]; rfl
theorem okD_tup {ds : List PyData} (hl : ds.length ≤ 20) (h : ∀ d ∈ ds, okD d = true) : okD (.tuple ds) = true := by
  unfold okD; rw [decide_eq_true hl, okAll_iff.mpr h]; rfl
def itemsD : PyData → Option (List PyData)
  | .list ds => some ds
  | .tuple ds => some ds
  | _ => none
theorem okD_items {d : PyData} {ds : List PyData} (h : okD d = true) (e : itemsD d = some ds) : ds.length ≤ 20 ∧ ∀ x ∈ ds, okD x = true := by
  cases d with
  | list xs => cases e; unfold okD at h; rw [Bool.and_eq_true, decide_eq_true_eq] at h; exact ⟨h.1, okAll_iff.mp h.2⟩
  | tuple xs => cases e; unfold okD at h; rw [Bool.and_eq_true, decide_eq_true_eq] at h; exact ⟨h.1, okAll_iff.mp h.2⟩
  | _ => cases e
theorem okD_sm {d : PyData} (h : okD d = true) : Sm (txtO d) := fun l e => by
  cases d with
  | str s =>
    cases e
    unfold okD at h
    rw [Bool.and_eq_true, decide_eq_true_eq] at h
    have : s.cps.toList.length = s.length := Array.length_toList
    omega
  | _ => cases e
theorem okD_text {l : List Nat} (h : okD (.str (S l)) = true) : l.length ≤ 40 ∧ ∀ c ∈ l, c < 1114112 := by
  unfold okD at h
  rw [Bool.and_eq_true, decide_eq_true_eq, S_len] at h
  refine ⟨h.1, fun c hc => ?_⟩
  have := List.all_eq_true.mp h.2 c (by simpa [S] using hc)
  exact of_decide_eq_true this
theorem bx_wo {b : Addr} {B : List Addr} {H H' : Hp} (s : Bx b H H') (h : b ∈ B) : Same (wo B H) (wo B H') := fun a o e => let ⟨e, n⟩ := of_wo e; wo_get (s.1 _ _ (fun z => n (by rw [z]; exact h)) e) n
theorem live_bx {b : Addr} {B : List Addr} {H H' : Hp} (l : Liv B H) (s : Bx b H H') : Liv B H' := fun c hc e => by
  by_cases n : c = b
  · subst n; obtain ⟨o, h, _⟩ := s.2; rw [h] at e; cases e
  · cases q : H c with
    | none => exact l c hc q
    | some o => rw [s.1 _ _ n q] at e; cases e
theorem dpa_ex {K : PySem.W.Frag} {H : Hp} {P : PyData → Prop} : ∀ {ys : List V}, (∀ (j : Nat) y, ys[j]? = some y → ∃ d, Dp K H y d ∧ P d) → ∃ ds, DpAll K H ys ds ∧ ∀ d ∈ ds, P d
  | [], _ => ⟨[], .nil, fun _ h => nomatch h⟩
  | y :: ys, h => by
    obtain ⟨d, h1, h2⟩ := h 0 y rfl
    obtain ⟨ds, h3, h4⟩ := dpa_ex (ys := ys) fun j z e => h (j + 1) z e
    exact ⟨d :: ds, .cons h1 h3, fun x hx => by rcases List.mem_cons.mp hx with rfl | hx; exact h2; exact h4 x hx⟩
end Toy
set_option maxHeartbeats 4000000
namespace LX
open PySem PySem.Spec PyProof.Rows L2 C8 SX
structure PrX (P : Program) (w : World) (K : PySem.W.Frag) (mg : Str → Option Value) (base : Heap) (k : Nat) (C : Addr) (f : Str) (sp : Sp) : Prop where
  ex : ∃ (p g : Addr) (fd : FuncData) (ps : List Str), Cls K C ∧ PropOf K C f p g ∧ FnOk P w K mg base C8.CX0 k g fd ps sp ∧ Binds K fd ps []
theorem pe_prX {X : Cx} {k j : Nat} {C : Addr} {f : Str} {sp : Sp} {e : Expr} {pos : Pos} {ta : TE} (c : PrX X.prog X.w X.K X.mg X.base k C f sp) (hr : Room j X.A) (hk : k + 1 ≤ j) (he : PE X e ta) (hab : attributeBase e f X.env (eval e X.env) = eval e X.env := by rfl) :
    PE X (.Attribute e f pos) (tProp C sp [] C8.E0 ta) := by
  obtain ⟨p, g, fd, ps, cl, hp, F, hb⟩ := c.ex
  exact pe_prop he cl hp F (hr.mono hk) hb .nil C8.pass0 hab
theorem starts1 (l : List Nat) (c : Nat) : Txt.startswith (S l) (S [c]) = decide (l.head? = some c) := by
  unfold Txt.startswith
  rw [PySem.StrLaws.subAt_eq]
  have e1 : (S l).cps.toList = l := by simp [S]
  have e2 : (S [c]).cps.toList = [c] := by simp [S]
  rw [e1, e2, S_len, S_len]
  cases l with
  | nil => rfl
  | cons d r => by_cases h : d = c <;> simp [h]
theorem ends1 (l : List Nat) (c : Nat) : Txt.endswith (S l) (S [c]) = decide (l.getLast? = some c) := by
  unfold Txt.endswith
  rw [PySem.StrLaws.subAt_eq]
  have e1 : (S l).cps.toList = l := by simp [S]
  have e2 : (S [c]).cps.toList = [c] := by simp [S]
  rw [e1, e2, S_len, S_len]
  rcases List.eq_nil_or_concat l with rfl | ⟨r, d, rfl⟩
  · rfl
  · by_cases h : d = c <;> simp [h]
theorem slice_mid (c d : Nat) (a : List Nat) : Txt.slice (S (c :: (a ++ [d]))) (some 1) (some (-1)) = S a := by
  have hl : (S (c :: (a ++ [d]))).length = a.length + 2 := by rw [S_len]; simp
  have e0 : Txt.slice (S (c :: (a ++ [d]))) (some 1) (some (-1)) = Txt.slice (S (c :: (a ++ [d]))) (some 1) (some ((a.length : Int) + 1)) := by
    have e := PySem.StrLaws.sliceText_neg_hi (S (c :: (a ++ [d]))) (some 1) (j := -1) (by omega) (by rw [hl]; omega)
    rw [hl] at e
    refine Eq.trans e ?_
    rw [show (-1 + ((a.length + 2 : Nat) : Int)) = (a.length : Int) + 1 by omega]
    rfl
  rw [e0]
  have e := beq_iff_eq.mp (PyProof.Rows.slice_closes (x := S (c :: (a ++ [d]))) (i := 1) (j := (a.length : Int) + 1) ⟨by omega, by omega, by simp [S]; omega⟩)
  refine e.trans (TL.ext_tl ?_)
  show (((S (c :: (a ++ [d]))).cps.toList.drop (1 : Int).toNat).take ((a.length : Int) + 1 - 1).toNat) = a
  rw [show (1 : Int).toNat = 1 from rfl, show ((a.length : Int) + 1 - 1).toNat = a.length by omega, show (S (c :: (a ++ [d]))).cps.toList = c :: (a ++ [d]) by simp [S]]
  simp
end LX
set_option maxHeartbeats 2000000
namespace Toy
open PySem L2 C8 SX LX
local macro_rules | `(tactic| walk_at "c") => `(tactic| refine And.intro (by first | (show (0 : Int) < _; omega) | exact Or.inr ⟨by decide, by decide⟩ | exact Or.inl ⟨by decide, by decide⟩ | (exact ⟨by omega, by omega⟩)) ?_)
local macro_rules | `(tactic| walk_at "s1") => `(tactic| first | refine ⟨_, rfl, ?_⟩ | refine ⟨_, _, rfl, rfl, ?_⟩ | refine .inl ⟨_, rfl, ?_⟩ | walk_at "c")
local macro_rules | `(tactic| walk_at "ix") => `(tactic| refine ⟨_, _, _, _, rfl, rfl, SqL.of (by first | assumption | exact upd_same), rfl, ?_⟩)
local macro_rules | `(tactic| walk_at "s") => `(tactic| repeat (walk_at "s1"))
structure XQ (K : PySem.W.Frag) (mg : Str → Option Value) (n : Str) (C : Addr) : Prop where
  x : XC K C
  g : mg n = some (.ref C)
structure XN (K : PySem.W.Frag) (mg : Str → Option Value) (n : Str) (C : Addr) : Prop where
  q : PySem.W.excIn K C veT "ValueError.__new__" = true
  g : mg n = some (.ref C)
  k : PySem.W.keepIn K (.ref C) = true
  hb : PySem.W.subIn K (.ref C) (.type "BaseException") = some true
  ht : PySem.W.typeIn K (.ref C) = some (.type "type")
theorem XN.r {K : PySem.W.Frag} {mg : Str → Option Value} {n : Str} {C : Addr} (h : XN K mg n C) {X : Cx} (hX : X.K = K := by rfl) : Raises X (.ref C) := raises_own (by rw [hX]; exact h.hb) (by rw [hX]; exact h.ht)
def spXInit (C : Addr) (f : Str) : Sp := fun vs H Q _ => ∃ (a : Addr) (v : V), vs = [.ref a, v] ∧ H a = some (exo a C none) ∧ ∀ dx, H dx = none → dx ≠ a → Q .non (upd (upd H dx (exd dx [(f, v)])) a (exo a C (some dx)))
theorem exo_ne_exd {a C d : Addr} {dd : Option Addr} {fs : List (Str × V)} {H : Hp} (h1 : H a = none) : (upd H a (exo a C dd)) a ≠ none := by rw [upd_same]; simp
theorem raise_read {C : Addr} {f : Str} {v : V} {H : Hp} {Q : XK} (k : ∀ d, H d = none → Q (.ref C) (some d) (upd H d (.xd [(f, v)]))) (a : Addr) (ha : H a = none) :
    spXInit C f (.ref a :: ([v] ++ [])) (upd H a (exo a C none)) (fun v H2 => v = .non ∧ ∃ (d : Addr) (fs : List (Str × V)), H2 a = some (exo a C (some d)) ∧ H2 d = some (exd d fs) ∧ H d = none ∧ Q (.ref C) (some d) (upd (del H2 a) d (.xd fs))) (fun _ _ _ => False) := by
  refine ⟨a, v, rfl, upd_same, fun dx hdx nda => ⟨rfl, dx, [(f, v)], upd_same, by rw [upd_ne nda, upd_same], by rw [upd_ne nda] at hdx; exact hdx, ?_⟩⟩
  rw [upd_ne nda] at hdx
  have e : upd (del (upd (upd (upd H a (exo a C none)) dx (exd dx [(f, v)])) a (exo a C (some dx))) a) dx (.xd [(f, v)]) = upd H dx (.xd [(f, v)]) := by
    funext b
    by_cases h1 : b = dx
    · rw [h1, upd_same, upd_same]
    · rw [upd_ne h1, upd_ne h1]
      by_cases h2 : b = a
      · rw [h2, del_same, ha]
      · rw [del_ne h2, upd_ne h2, upd_ne h1, upd_ne h2]
  rw [e]
  exact k dx hdx
section
variable {P : Program} {w : World} {K : PySem.W.Frag} {mg : Str → Option Value} {base : Heap}
abbrev s_xic : Stmt := inClass (top 3) 0
abbrev n_xic : List Str := ["self", "word"]
theorem sc_xic : FnScope n_xic ["self", "word"] (fnScope s_xic) := fnScope_by (by decide +kernel)
theorem ok_xic {C : Addr} (x_ : XQ K mg "InvalidChange" C) (n_ : PySem.W.findIn K (.ref C) "word" = some none) {f : Addr} (iC : PySem.W.findIn K (.ref C) "__init__" = some (some (.ref f))) (tI : PySem.W.typeIn K (.ref f) = some (.type "function")) {fd : FuncData} (F : C8.Fun K "__init__" "InvalidChange.__init__" s_xic f fd) (b : Binds K fd ["self", "word"] []) : RaiX P w K mg base 1 "InvalidChange" C (spXInit C "word") := by
  refine raiX x_.x iC tI x_.g F b sc_xic (fun vs H Q E h => ?_) (fun cdv A outer s H vs Q E hr h => ?_)
  · obtain ⟨a, v, rfl, _⟩ := h; rfl
  · obtain ⟨a, v, rfl, ha, k⟩ := h
    refine ⟨_, (pss_one (ps_ostG (pv 0) (pv 1))
      ), ?_⟩
    exact ⟨_, rfl, _, rfl, a, C, rfl, x_.x, n_, ha, fun dx h1 h2 => k dx h1 h2⟩
abbrev s_xit : Stmt := inClass (top 4) 0
abbrev n_xit : List Str := ["self", "at"]
theorem sc_xit : FnScope n_xit ["self", "at"] (fnScope s_xit) := fnScope_by (by decide +kernel)
theorem ok_xit {C : Addr} (x_ : XQ K mg "InvalidText" C) (n_ : PySem.W.findIn K (.ref C) "at" = some none) {f : Addr} (iC : PySem.W.findIn K (.ref C) "__init__" = some (some (.ref f))) (tI : PySem.W.typeIn K (.ref f) = some (.type "function")) {fd : FuncData} (F : C8.Fun K "__init__" "InvalidText.__init__" s_xit f fd) (b : Binds K fd ["self", "at"] []) : RaiX P w K mg base 1 "InvalidText" C (spXInit C "at") := by
  refine raiX x_.x iC tI x_.g F b sc_xit (fun vs H Q E h => ?_) (fun cdv A outer s H vs Q E hr h => ?_)
  · obtain ⟨a, v, rfl, _⟩ := h; rfl
  · obtain ⟨a, v, rfl, ha, k⟩ := h
    refine ⟨_, (pss_one (ps_ostG (pv 0) (pv 1))
      ), ?_⟩
    exact ⟨_, rfl, _, rfl, a, C, rfl, x_.x, n_, ha, fun dx h1 h2 => k dx h1 h2⟩
end
structure XG (mg : Str → Option Value) (n : Str) (C : Addr) : Prop where
  g : mg n = some (.ref C)
theorem items_no {d : PyData} (h : isSeqD d = false) : itemsD d = none := by
  cases d <;> first | rfl | cases h
theorem items_seq (b : Bool) (ds : List PyData) : itemsD (seqD b ds) = some ds := by cases b <;> rfl
def rowsO (sg : List Nat) (d : PyData) : Bool := match itemsD d with
  | some ds => ds.all fun x => rowO sg (txtO x)
  | none => false
theorem dpa_txs {K : PySem.W.Frag} {H : Hp} : ∀ {ims : List (List Nat)} {xs : List V}, DpAll K H xs (ims.map fun l => .str (S l)) → xs = txs ims
  | [], _, h => by cases h; rfl
  | l :: ims, _, h => by
    cases h with
    | cons h1 h2 => cases h1; rw [dpa_txs h2]; rfl
theorem rows_of {sg : List Nat} : ∀ {ds : List PyData}, (ds.all fun x => rowO sg (txtO x)) = true → ∃ ims : List (List Nat), ds = ims.map (fun l => .str (S l)) ∧ ∀ l ∈ ims, Ov sg l
  | [], _ => ⟨[], rfl, fun _ h => nomatch h⟩
  | d :: ds, h => by
    rw [List.all_cons, Bool.and_eq_true] at h
    obtain ⟨ims, rfl, h2⟩ := rows_of (ds := ds) h.2
    cases d with
    | str s => exact ⟨s.cps.toList :: ims, by rw [List.map_cons, S_self], fun l hl => by rcases List.mem_cons.mp hl with rfl | hl; exact of_decide_eq_true h.1; exact h2 l hl⟩
    | _ => cases h.1
theorem seqL_put {K : PySem.W.Frag} {H : Hp} {a p C dx : Addr} {fs : List (Str × V)} {xs : List V} (o : HO) (h : SqL K H p xs) (ha : H a = some (.ins C dx fs)) : SqL K (upd H a o) p xs := by
  rcases h with (h | ⟨o', h⟩) | h
  · exact .inl (.inl (by rw [upd_ne (fun e => by rw [e, ha] at h; cases h)]; exact h))
  · exact .inl (.inr ⟨o', by rw [upd_ne (fun e => by rw [e, ha] at h; cases h)]; exact h⟩)
  · exact .inr h
theorem seqT_put {K : PySem.W.Frag} {H : Hp} {a p C dx : Addr} {fs : List (Str × V)} {xs : List V} (o : HO) (h : SqT K H p xs) (ha : H a = some (.ins C dx fs)) : SqT K (upd H a o) p xs := by
  rcases h with (h | ⟨o', h⟩) | h
  · exact .inl (.inl (by rw [upd_ne (fun e => by rw [e, ha] at h; cases h)]; exact h))
  · exact .inl (.inr ⟨o', by rw [upd_ne (fun e => by rw [e, ha] at h; cases h)]; exact h⟩)
  · exact .inr h
def chF (sg : List Nat) (r : Addr) : List (Str × V) := [("signs", .str (S sg)), ("rows", .ref r)]
def Chg (K : PySem.W.Frag) (C : Addr) (H : Hp) (a : Addr) (sg : List Nat) (ims : List (List Nat)) : Prop := ∃ dx r : Addr, H a = some (.ins C dx (chF sg r)) ∧ SqT K H r (txs ims)
theorem Chg.same {K : PySem.W.Frag} {C a : Addr} {H H' : Hp} {sg : List Nat} {ims : List (List Nat)} (s : Same H H') (h : Chg K C H a sg ims) : Chg K C H' a sg ims := let ⟨dx, r, h1, h2⟩ := h; ⟨dx, r, s _ _ h1, sm_seqT s h2⟩
theorem n_sr : ¬ (("signs" : Str) = "rows") := by decide +kernel
theorem chF_signs (sg : List Nat) (r : Addr) : (chF sg r).lookup ("signs" : Str) = some (.str (S sg)) := by
  unfold chF; rw [List.lookup_cons_self]
theorem chF_rows (sg : List Nat) (r : Addr) : (chF sg r).lookup ("rows" : Str) = some (.ref r) := by
  have e : (("rows" : Str) == ("signs" : Str)) = false := by decide +kernel
  unfold chF; rw [List.lookup_cons, e, List.lookup_cons_self]
theorem chF_no (sg : List Nat) (r : Addr) {m : Str} (h1 : (m == ("signs" : Str)) = false) (h2 : (m == ("rows" : Str)) = false) : (chF sg r).lookup m = none := by
  unfold chF; rw [List.lookup_cons, h1, List.lookup_cons, h2]; rfl
structure CC (K : PySem.W.Frag) (C : Addr) : Prop where
  cl : Cls K C
  nS : NoAttr K C "signs"
  nR : NoAttr K C "rows"
def Imz (sg : List Nat) (ims : List (List Nat)) : Prop := ims.length = sg.length ∧ ∀ l ∈ ims, Ov sg l ∧ l.length ≤ 40
def dueD (d0 d1 : PyData) : Option Str := match txtO d0 with
  | some sg => if Sg sg then (if rowsO sg d1 = true ∧ ((itemsD d1).getD []).length = sg.length then none else some "rows") else some "signs"
  | none => some "signs"
theorem due_signs {d0 d1 : PyData} (h : sgO (txtO d0) = false) : dueD d0 d1 = some "signs" := by
  unfold dueD
  cases e : txtO d0 with
  | none => rfl
  | some sg => rw [e] at h; exact if_neg (of_decide_eq_false h)
theorem sg_of {d : PyData} (h : sgO (txtO d) = true) : ∃ sg, d = .str (S sg) ∧ Sg sg := by
  cases d with
  | str s => exact ⟨s.cps.toList, by rw [S_self], of_decide_eq_true h⟩
  | _ => cases h
theorem txt_S (l : List Nat) : txtO (.str (S l)) = some l := by simp [txtO, S]
theorem due_rows {sg : List Nat} {d1 : PyData} (hs : Sg sg) (h : ¬ (rowsO sg d1 = true ∧ ((itemsD d1).getD []).length = sg.length)) : dueD (.str (S sg)) d1 = some "rows" := by
  unfold dueD; rw [txt_S]; exact (if_pos hs).trans (if_neg h)
theorem due_none {sg : List Nat} {d1 : PyData} (hs : Sg sg) (h : rowsO sg d1 = true ∧ ((itemsD d1).getD []).length = sg.length) : dueD (.str (S sg)) d1 = none := by
  unfold dueD; rw [txt_S]; exact (if_pos hs).trans (if_pos h)
section
variable {P : Program} {w : World} {K : PySem.W.Frag} {mg : Str → Option Value} {base : Heap}
abbrev s_isrows : Stmt := top 12
abbrev n_isrows : List Str := ["value", "signs", "row"]
theorem sc_isrows : FnScope n_isrows ["value", "signs"] (fnScope s_isrows) := fnScope_by (by decide +kernel)
def spIsRowsD (K : PySem.W.Frag) : Sp := fun vs H Q _ => ∃ (v : V) (d : PyData) (sg : List Nat), vs = [v, .str (S sg)] ∧ Dp K H v d ∧ (∀ ds, itemsD d = some ds → ds.length ≤ 60 ∧ ∀ x ∈ ds, Sm (txtO x)) ∧ ∀ H', Same H H' → Q (.bl (rowsO sg d)) H'
theorem ok_isrowsD (T : BT mg) (c_isseq : Cal P w K mg base 1 "is_sequence" (spIsSeqD K) []) (c_isrow : Cal P w K mg base 1 "is_row" (spIsRowD K) []) {f : Addr} {fd : FuncData} (F : Def K mg "is_rows" s_isrows f fd) (b : Binds K fd ["value", "signs"] []) : Cal P w K mg base 2 "is_rows" (spIsRowsD K) [] := by
  refine cal0 F b .nil sc_isrows (fun vs H Q E h => ?_) (fun cdv A outer s H vs Q E hr h => ?_)
  · obtain ⟨v, d, sg, rfl, _⟩ := h; rfl
  · obtain ⟨v, d, sg, rfl, hd, few, k⟩ := h
    refine ⟨_, (pss_one (ps_ret (pe_and (pe_c c_isseq hr (by first | decide | omega) (by rfl) (pa_cons (pv 0) pa_nil)) (pe_one (pe_callB (cr_all rfl) (by rfl) T.m_all PyProof.Rows.boot_all (pa_cons (pe_lc (own := [("row", 2)]) rfl sc_isrows.nd (pi_seq (pv 0)) (blkOk_by (N := n_isrows) (sc := fnScope s_isrows) (by decide +kernel)) (fun _ _ _ _ _ => (pg_name (i := 2) sc_isrows.nd rfl (.inl rfl))) (fun _ _ _ _ _ => pts_nil) (fun _ _ _ _ _ => (pe_c c_isrow hr (by first | decide | omega) (by rfl) (pa_cons (pv 2) (pa_cons (pv 1) pa_nil))))) pa_nil)))))
      ), ?_⟩
    refine ⟨_, rfl, v, d, rfl, hd, fun H1 s1 => ?_⟩
    cases hb : isSeqD d with
    | false =>
      refine ⟨_, rfl, iteN rfl ?_⟩
      have e : rowsO sg d = false := by unfold rowsO; rw [items_no hb]
      rw [e] at k
      exact k H1 s1
    | true =>
      obtain ⟨b, ds, rfl⟩ := isSeq_of hb
      obtain ⟨p, xs, rfl, hq, ha⟩ := dp_seq (dp_same s1 _ _ hd)
      have hl := dpa_len ha
      obtain ⟨f1, f2⟩ := few ds (items_seq b ds)
      refine ⟨_, rfl, iteB rfl ?_⟩
      refine ⟨_, rfl, p, b, xs, rfl, hq, fun D hD => lc_keep keep_same (walk_seq (K := K) (b := b) (a := p) (xs := xs)) hD (by rw [hl]; exact small1000 (by omega)) (fun j y => ∀ x, ds[j]? = some x → y = .bl (rowO sg (txtO x))) (fun H2 r => hq.same r) (fun i x H2 H3 R hii r1 hy hR => ?_) (fun ys H2 hly hg r1 hDs => ?_)⟩
      · obtain ⟨rfl, e⟩ := hy
        obtain ⟨d, e2, hd2⟩ := dpa_at ha i x e
        refine ⟨rfl, ?_⟩
        refine ⟨_, rfl, _, rfl, x, _, sg, rfl, dp_kv (dp_same r1 _ _ hd2), f2 _ (List.mem_of_getElem? e2), ?_⟩
        exact hR _ _ (Same.refl _) fun z hz => by rw [e2] at hz; cases hz; rfl
      · have eb : ys = (ds.map fun x => rowO sg (txtO x)).map V.bl := by
          rw [List.map_map]
          refine list_map (hly.trans hl) fun j y x e1 e2 => hg j y e1 x e2
        refine ⟨D, ds.map fun x => rowO sg (txtO x), rfl, SqL.of (by rw [← eb]; exact hDs), ?_⟩
        have e : rowsO sg (seqD b ds) = (ds.map fun x => rowO sg (txtO x)).all id := by
          unfold rowsO; rw [items_seq, List.all_map]; rfl
        rw [e] at k
        exact k H2 (s1.trans r1)
theorem few_ok {d : PyData} (h : okD d = true) : ∀ ds, itemsD d = some ds → ds.length ≤ 60 ∧ ∀ x ∈ ds, Sm (txtO x) := fun ds e => ⟨by have := (okD_items h e).1; omega, fun x hx => okD_sm ((okD_items h e).2 x hx)⟩
abbrev s_init : Stmt := inClass (top 15) 0
abbrev n_init : List Str := ["self", "signs", "rows"]
theorem sc_init : FnScope n_init ["self", "signs", "rows"] (fnScope s_init) := fnScope_by (by decide +kernel)
def spInitA (K : PySem.W.Frag) (C CI : Addr) : Sp := fun vs H Q E => ∃ (a dx : Addr) (v0 v1 : V) (d0 d1 : PyData), vs = [.ref a, v0, v1] ∧ H a = some (.ins C dx []) ∧ Dp K H v0 d0 ∧ Dp K H v1 d1 ∧ okD d0 = true ∧ okD d1 = true ∧
  (∀ wd, dueD d0 d1 = some wd → ∀ (d : Addr) (H' : Hp), Same H H' → H' d = some (.xd [("word", .str wd)]) → E (.ref CI) (some d) H') ∧
  (∀ (sg : List Nat) (ims : List (List Nat)), dueD d0 d1 = none → d0 = .str (S sg) → Sg sg → itemsD d1 = some (ims.map fun l => .str (S l)) → Imz sg ims → ∀ H', (∀ b o, b ≠ a → H b = some o → H' b = some o) → Chg K C H' a sg ims → Q .non H')
theorem chF_put (sg : List Nat) (l : Addr) : putF ("rows" : Str) (.ref l) (putF ("signs" : Str) (.str (S sg)) []) = chF sg l := by
  show (if ("signs" : Str) = "rows" then _ else (("signs" : Str), V.str (S sg)) :: putF ("rows" : Str) (.ref l) []) = _
  rw [if_neg n_sr]; rfl
theorem ok_initA {C CI : Addr} (T : BT mg) (CH : CC K C) (c_InvalidChange : RaiX P w K mg base 1 "InvalidChange" CI (spXInit CI "word")) (c_issigns : Cal P w K mg base 3 "is_signs" (spIsSignsD K) []) (c_isrows : Cal P w K mg base 2 "is_rows" (spIsRowsD K) []) {f : Addr} {fd : FuncData} (F : C8.Fun K "__init__" "Change.__init__" s_init f fd) :
    FnOk P w K mg base (L2.CX P w) 4 f fd ["self", "signs", "rows"] (spInitA K C CI) := by
  refine fnX F sc_init (fun vs H Q E h => ?_) (fun cdv A outer s H vs Q E hr h => ?_)
  · obtain ⟨a, dx, v0, v1, d0, d1, rfl, _⟩ := h; rfl
  · obtain ⟨a, dx, v0, v1, d0, d1, rfl, ha, hd0, hd1, o0, o1, kb, kg⟩ := h
    refine ⟨_, (pss_cons (ps_if (pt_not (pt_val (pe_c c_issigns hr (by first | decide | omega) (by rfl) (pa_cons (pv 1) pa_nil)))) 
        (pss_one (ps_raise rfl (takes_of rfl rfl rfl rfl) (pmk_rai c_InvalidChange hr (by decide) (by rfl) (pa_cons pe_str pa_nil)))
        )
       pss_nil)
      (pss_cons (ps_if (PW.pt (pw_or (pt_not (pt_val (pe_c c_isrows hr (by first | decide | omega) (by rfl) (pa_cons (pv 2) (pa_cons (pv 1) pa_nil))))) (pw_or1 (pt_cmpR op_ne (pe_callB (lenK K) (by rfl) T.m_len PySem.boot_len (pa_cons (pv 2) pa_nil)) (pe_callB call_len_str (by rfl) T.m_len PySem.boot_len (pa_cons (pv 1) pa_nil)) (nomark _))))) 
        (pss_one (ps_raise rfl (takes_of rfl rfl rfl rfl) (pmk_rai c_InvalidChange hr (by decide) (by rfl) (pa_cons pe_str pa_nil)))
        )
       pss_nil)
      (pss_cons (ps_fld (pv 0) (pv 1) rfl)
      (pss_one (ps_fld (pv 0) (pe_callTy (tupleK K) (by rfl) T.m_tuple PyProof.Rows.boot_tuple (pa_cons (pv 2) pa_nil)) rfl)
      )))), ?_⟩
    have out : ∀ (wd : Str) (H1 : Hp), dueD d0 d1 = some wd → Same H H1 → ∀ (d : Addr), H1 d = none → E (.ref CI) (some d) (upd H1 d (.xd [("word", .str wd)])) := fun wd H1 e s1 d hd => kb wd e d _ (s1.trans (sm_new hd)) upd_same
    refine ⟨_, rfl, v0, txtO d0, rfl, dp_kv hd0, okD_sm o0, fun H1 s1 => ?_⟩
    cases hs : sgO (txtO d0) with
    | false =>
      refine ⟨_, rfl, iteB rfl ?_⟩
      exact ⟨by decide, raise_read (out _ H1 (due_signs hs) s1)⟩
    | true =>
    obtain ⟨sg, rfl, hsg⟩ := sg_of hs
    have hv0 : v0 = .str (S sg) := by cases hd0; rfl
    subst hv0
    refine ⟨_, rfl, iteN rfl ?_⟩
    refine ⟨_, rfl, _, rfl, v1, d1, sg, rfl, dp_same s1 _ _ hd1, few_ok o1, fun H2 s2 => ?_⟩
    have s12 := s1.trans s2
    cases hrw : rowsO sg d1 with
    | false =>
      refine ⟨_, rfl, iteB rfl ?_⟩
      exact ⟨by decide, raise_read (out _ H2 (due_rows hsg fun h => by rw [hrw] at h; cases h.1) s12)⟩
    | true =>
    have hsq : isSeqD d1 = true := by
      cases hq : isSeqD d1 with
      | true => rfl
      | false => unfold rowsO at hrw; rw [items_no hq] at hrw; cases hrw
    obtain ⟨b, ds, rfl⟩ := isSeq_of hsq
    obtain ⟨p, xs, rfl, hq, hxs⟩ := dp_seq (dp_same s12 _ _ hd1)
    have hl := dpa_len hxs
    refine ⟨_, rfl, iteN rfl ?_⟩
    refine ⟨_, rfl, p, _, rfl, hq.or, _, rfl, _, rfl, by rw [S_len]; exact sz (m := 3) hsg.2.2.1 (by decide), rfl, _, rfl, ?_⟩
    by_cases hn : ¬ ds.length = sg.length
    · refine iteB (by rw [hl, S_len]; simp; omega) ?_
      exact ⟨by decide, raise_read (out _ H2 (due_rows hsg fun h => hn (by have := h.2; rw [items_seq] at this; exact this)) s12)⟩
    have hn := Decidable.not_not.mp hn
    refine iteN (by rw [hl, S_len, hn]; simp) ?_
    have hall : (ds.all fun x => rowO sg (txtO x)) = true := by unfold rowsO at hrw; rw [items_seq] at hrw; exact hrw
    obtain ⟨ims, rfl, hov⟩ := rows_of hall
    have hx := dpa_txs hxs
    subst hx
    have himz : Imz sg ims := ⟨by rw [List.length_map] at hn; exact hn, fun l hl => ⟨hov l hl, (okD_text ((okD_items o1 (items_seq b _)).2 _ (List.mem_map.mpr ⟨l, hl, rfl⟩))).1⟩⟩
    have hdue := due_none (d1 := seqD b (ims.map fun l => .str (S l))) hsg ⟨hrw, by rw [items_seq]; exact hn⟩
    have ha2 := s12 _ _ ha
    refine ⟨_, rfl, _, rfl, a, C, dx, [], rfl, ha2, CH.cl, CH.nS, (by show 0 < 1000; decide), ?_⟩
    have fin : ∀ (l : Addr) (H3 : Hp), (∀ c o, c ≠ a → H2 c = some o → H3 c = some o) → H3 a = some (.ins C dx (chF sg l)) → SqT K H3 l (txs ims) → Q .non H3 := fun l H3 hk h1 h2 => kg sg ims hdue rfl hsg (items_seq b _) himz H3 (fun c o n e => hk c o n (s12 _ _ e)) ⟨dx, l, h1, h2⟩
    cases b with
    | true =>
      refine ⟨_, rfl, p, _, rfl, .inl ⟨seqL_put _ hq ha2, fun l hl => ?_⟩⟩
      have hl2 : H2 l = none := by
        by_cases e : l = a
        · rw [e, upd_same] at hl; cases hl
        · rw [upd_ne e] at hl; exact hl
      have nal : a ≠ l := ne_of_none ha2 hl2
      refine ⟨_, rfl, a, C, dx, _, rfl, (by rw [upd_ne nal, upd_same]), CH.cl, CH.nR, (by show 1 < 1000; decide), ?_⟩
      rw [chF_put]
      refine fin l _ (fun c o n e => ?_) upd_same (SqT.of (by rw [upd_ne nal.symm, upd_same]))
      rw [upd_ne n, upd_ne (ne_of_none e hl2), upd_ne n]
      exact e
    | false =>
      refine ⟨_, rfl, p, _, rfl, .inr ⟨seqT_put _ hq ha2, ?_⟩⟩
      refine ⟨_, rfl, a, C, dx, _, rfl, upd_same, CH.cl, CH.nR, (by show 1 < 1000; decide), ?_⟩
      rw [chF_put]
      refine fin p _ (fun c o n e => ?_) upd_same (seqT_put _ (seqT_put _ hq ha2) upd_same)
      rw [upd_ne n, upd_ne n]
      exact e
theorem ok_makeA {C CI : Addr} (T : BT mg) (CH : CC K C) (c_InvalidChange : RaiX P w K mg base 1 "InvalidChange" CI (spXInit CI "word")) (c_issigns : Cal P w K mg base 3 "is_signs" (spIsSignsD K) []) (c_isrows : Cal P w K mg base 2 "is_rows" (spIsRowsD K) []) {f : Addr} (M : Mk K C f) (hm : mg "Change" = some (.ref C)) {fd : FuncData} (F : C8.Fun K "__init__" "Change.__init__" s_init f fd) (b : Binds K fd ["self", "signs", "rows"] []) : MakX P w K mg base 4 "Change" C (spInitA K C CI) :=
  ⟨f, fd, _, M, ok_initA T CH c_InvalidChange c_issigns c_isrows F, hm, b⟩
end
end Toy
set_option maxHeartbeats 2000000
namespace Toy
open PySem L2 C8 SX LX
local macro_rules | `(tactic| walk_at "c") => `(tactic| refine And.intro (by first | (show (0 : Int) < _; omega) | exact Or.inr ⟨by decide, by decide⟩ | exact Or.inl ⟨by decide, by decide⟩ | (exact ⟨by omega, by omega⟩)) ?_)
local macro_rules | `(tactic| walk_at "s1") => `(tactic| first | refine ⟨_, rfl, ?_⟩ | refine ⟨_, _, rfl, rfl, ?_⟩ | refine .inl ⟨_, rfl, ?_⟩ | walk_at "c")
local macro_rules | `(tactic| walk_at "s") => `(tactic| repeat (walk_at "s1"))
theorem s_lb : (Str.ofString "[") = S [91] := by decide +kernel
theorem s_rb : (Str.ofString "]") = S [93] := by decide +kernel
theorem s_cm : (Str.ofString ",") = S [44] := by decide +kernel
def inner (t : List Nat) : List Nat := (t.drop 1).dropLast
def iotL (sg t : List Nat) : Option (List (List Nat)) :=
  if t.head? = some 91 ∧ t.getLast? = some 93 then (if (TL.spl [44] 0 [] (inner t)).length = sg.length ∧ ∀ r ∈ TL.spl [44] 0 [] (inner t), Ov sg r then some (TL.spl [44] 0 [] (inner t)) else none) else none
def iotO (sg : List Nat) : Option (List Nat) → Option (List (List Nat))
  | some t => iotL sg t
  | none => none
theorem mid_form {t : List Nat} (h1 : t.head? = some 91) (h2 : t.getLast? = some 93) : t = 91 :: (inner t ++ [93]) := by
  cases t with
  | nil => cases h1
  | cons c r =>
    cases h1
    rcases List.eq_nil_or_concat r with rfl | ⟨q, d, rfl⟩
    · simp at h2
    · rw [List.concat_eq_append] at h2 ⊢
      rw [← List.cons_append, List.getLast?_append] at h2
      cases h2
      simp [inner]
theorem spl_len (s : List Nat) : ∀ (l : List Nat) (k : Nat) (acc : List Nat), (TL.spl s k acc l).length ≤ l.length + 1 ∧ ∀ x ∈ TL.spl s k acc l, x.length ≤ acc.length + l.length
  | [], k, acc => by
    rw [TL.spl_nil]
    exact ⟨by simp, fun x hx => by rw [List.mem_singleton.mp hx]; simp⟩
  | c :: r, 0, acc => by
    unfold TL.spl
    split
    · have h := spl_len s r (s.length - 1) []
      refine ⟨by simp only [List.length_cons]; omega, fun x hx => ?_⟩
      rcases List.mem_cons.mp hx with rfl | hx
      · omega
      · have := h.2 x hx; simp only [List.length_cons, List.length_nil] at this ⊢; omega
    · have h := spl_len s r 0 (acc ++ [c])
      refine ⟨by simp only [List.length_cons]; omega, fun x hx => ?_⟩
      have := h.2 x hx; simp only [List.length_append, List.length_cons, List.length_nil] at this ⊢; omega
  | c :: r, k + 1, acc => by
    unfold TL.spl
    have h := spl_len s r k acc
    refine ⟨by simp only [List.length_cons]; omega, fun x hx => ?_⟩
    have := h.2 x hx; simp only [List.length_cons]; omega
theorem strs_txs (ls : List (List Nat)) : ((ls.map S).map V.str) = txs ls := by rw [List.map_map]; rfl
theorem rowsO_txs (sg : List Nat) (ls : List (List Nat)) : rowsO sg (.list (ls.map fun l => .str (S l))) = decide (∀ r ∈ ls, Ov sg r) := by
  show ((ls.map fun l => PyData.str (S l)).all fun x => rowO sg (txtO x)) = _
  rw [List.all_map, Bool.eq_iff_iff, List.all_eq_true, decide_eq_true_eq]
  refine forall_congr' fun r => forall_congr' fun _ => ?_
  show rowO sg (txtO (.str (S r))) = true ↔ _
  rw [txt_S]
  exact decide_eq_true_iff
section
variable {P : Program} {w : World} {K : PySem.W.Frag} {mg : Str → Option Value} {base : Heap}
abbrev s_iot : Stmt := top 16
abbrev n_iot : List Str := ["signs", "text", "rows"]
theorem sc_iot : FnScope n_iot ["signs", "text"] (fnScope s_iot) := fnScope_by (by decide +kernel)
def spIot (K : PySem.W.Frag) : Sp := fun vs H Q _ => ∃ (v : V) (d : PyData) (sg : List Nat), vs = [.str (S sg), v] ∧ Sg sg ∧ Dp K H v d ∧ okD d = true ∧ (iotO sg (txtO d) = none → ∀ H', Same H H' → Q .non H') ∧
  (∀ ims, iotO sg (txtO d) = some ims → ∀ (p : Addr) (H' : Hp), Same H H' → H' p = some (.lst (txs ims)) → Q (.ref p) H')
theorem ok_iot (T : BT mg) (c_isrows : Cal P w K mg base 2 "is_rows" (spIsRowsD K) []) {f : Addr} {fd : FuncData} (F : Def K mg "images_of_text" s_iot f fd) (b : Binds K fd ["signs", "text"] []) : Cal P w K mg base 3 "images_of_text" (spIot K) [] := by
  refine cal0 F b .nil sc_iot (fun vs H Q E h => ?_) (fun cdv A outer s H vs Q E hr h => ?_)
  · obtain ⟨v, d, sg, rfl, _⟩ := h; rfl
  · obtain ⟨v, d, sg, rfl, hsg, hd, hok, kn, ks⟩ := h
    refine ⟨_, (pss_cons (ps_if (PW.pt (pw_or (pt_not (pt_val (pe_callB (isiK K) (by rfl) T.m_isinstance PyProof.Rows.boot_isinstance (pa_cons (pv 1) (pa_cons (pe_bltn (v := .ty "str") (by rfl) T.m_str PyProof.Rows.boot_str rfl) pa_nil))))) (pw_or (pt_not (pt_val (pe_bm PySem.F.plainAttrs_str PySem.F.slot_str_startswith PySem.F.type_str_startswith mt_startswith (pv 1) (pa_cons pe_str pa_nil)))) (pw_or1 (pt_not (pt_val (pe_bm PySem.F.plainAttrs_str PySem.F.slot_str_endswith PySem.F.type_str_endswith mt_endswith (pv 1) (pa_cons pe_str pa_nil)))))))) 
        (pss_one (ps_ret pe_non)
        )
       pss_nil)
      (pss_cons (ps_set (i := 2) sc_iot.nd rfl (.inl rfl) (pe_split (pe_slice sl_txt (pv 1) (po_some pe_int) (po_some (pe_un un_neg pe_int))) pe_str))
      (pss_cons (ps_if (PW.pt (pw_or (pt_cmpR op_ne (pe_callB (lenK K) (by rfl) T.m_len PySem.boot_len (pa_cons (pv 2) pa_nil)) (pe_callB call_len_str (by rfl) T.m_len PySem.boot_len (pa_cons (pv 0) pa_nil)) (nomark _)) (pw_or1 (pt_not (pt_val (pe_c c_isrows hr (by first | decide | omega) (by rfl) (pa_cons (pv 2) (pa_cons (pv 0) pa_nil)))))))) 
        (pss_one (ps_ret pe_non)
        )
       pss_nil)
      (pss_one (ps_ret (pv 2))
      )))), ?_⟩
    have kv := dp_kv hd
    have sm := okD_sm hok
    generalize txtO d = o at kv sm kn ks
    cases kv with
    | no ty hk =>
      refine ⟨_, rfl, _, _, _, _, false, rfl, .ty _, ty, hk, false, rfl, iteB rfl ?_⟩
      exact kn rfl H (Same.refl H)
    | txt t =>
      have ht := sm t rfl
      refine ⟨_, rfl, _, _, _, _, true, rfl, .ty _, .base (.str _), kit_ty (by decide +kernel), true, rfl, iteN rfl ?_⟩
      refine ⟨_, rfl, rfl, _, _, rfl, rfl, _, rfl, ?_⟩
      rw [s_lb, starts1]
      by_cases h1 : ¬ t.head? = some 91
      · refine iteB (by rw [decide_eq_false h1]; rfl) ?_
        exact kn (if_neg fun h => h1 h.1) H (Same.refl H)
      have h1 := Decidable.not_not.mp h1
      refine iteN (by rw [decide_eq_true h1]; rfl) ?_
      refine ⟨_, rfl, rfl, _, _, rfl, rfl, _, rfl, ?_⟩
      rw [s_rb, ends1]
      by_cases h2 : ¬ t.getLast? = some 93
      · refine iteB (by rw [decide_eq_false h2]; rfl) ?_
        exact kn (if_neg fun h => h2 h.2) H (Same.refl H)
      have h2 := Decidable.not_not.mp h2
      refine iteN (by rw [decide_eq_true h2]; rfl) ?_
      have hsl : (S t).length ≤ sizeLine := by rw [S_len]; exact Nat.le_trans ht (by decide)
      have hil : (inner t).length ≤ 1000 := by unfold inner; rw [List.length_dropLast, List.length_drop]; omega
      refine ⟨_, rfl, _, rfl, _, rfl, _, rfl, _, rfl, hsl, ?_⟩
      have e : Txt.slice (S t) (some 1) (some (-1)) = S (inner t) := (congrArg (fun x => Txt.slice (S x) (some 1) (some (-1))) (mid_form h1 h2)).trans (slice_mid 91 93 (inner t))
      refine ⟨⟨_, rfl⟩, _, _, rfl, rfl, by decide, by rw [e, S_len]; exact Nat.le_trans (show _ ≤ 1002 by omega) (by decide), fun p hp => ?_⟩
      have eL : (Txt.split (Txt.slice (S t) (some 1) (some (-1))) (Str.ofString ",")).map V.str = txs (TL.spl [44] 0 [] (inner t)) := by
        rw [e, s_cm, split_S (by simp) (by decide), strs_txs]
      rw [eL]
      obtain ⟨hl1, hl2⟩ := spl_len [44] (inner t) 0 []
      have kn : ¬ ((TL.spl [44] 0 [] (inner t)).length = sg.length ∧ ∀ r ∈ TL.spl [44] 0 [] (inner t), Ov sg r) → ∀ H', Same H H' → Q .non H' := fun h => kn (by
        show iotL sg t = none
        unfold iotL; rw [if_pos ⟨h1, h2⟩, if_neg h])
      have ks : ((TL.spl [44] 0 [] (inner t)).length = sg.length ∧ ∀ r ∈ TL.spl [44] 0 [] (inner t), Ov sg r) → ∀ (p : Addr) (H' : Hp), Same H H' → H' p = some (.lst (txs (TL.spl [44] 0 [] (inner t)))) → Q (.ref p) H' := fun h => ks _ (by
        show iotL sg t = some _
        unfold iotL; rw [if_pos ⟨h1, h2⟩, if_pos h])
      generalize TL.spl [44] 0 [] (inner t) = ls at hl1 hl2 kn ks ⊢
      have hp1 : (upd H p (.lst (txs ls))) p = some (.lst (txs ls)) := upd_same
      have s1 : Same H (upd H p (.lst (txs ls))) := sm_new hp
      generalize upd H p (.lst (txs ls)) = H1 at hp1 s1 ⊢
      refine ⟨_, rfl, p, _, rfl, .inl (SqL.of hp1), _, rfl, _, rfl, by rw [S_len]; exact sz (m := 3) hsg.2.2.1 (by decide), rfl, _, rfl, ?_⟩
      rw [txs_len, S_len]
      by_cases hn : ¬ ls.length = sg.length
      · refine iteB (by simp; omega) ?_
        exact kn (fun h => hn h.1) H1 s1
      have hn := Decidable.not_not.mp hn
      have h3 := hsg.2.2.1
      refine iteN (by rw [hn]; simp) ?_
      refine ⟨_, rfl, _, rfl, _, .list (ls.map fun l => .str (S l)), sg, rfl, .lst (SqL.of hp1) (dp_strs ls), fun ds e => ?_, fun H2 s2 => ?_⟩
      · cases e
        refine ⟨by rw [List.length_map]; omega, fun x hx => ?_⟩
        obtain ⟨l, hl, rfl⟩ := List.mem_map.mp hx
        intro r hr
        rw [txt_S] at hr
        cases hr
        have := hl2 l hl
        simp only [List.length_nil] at this
        omega
      rw [rowsO_txs]
      by_cases ho : ∀ r ∈ ls, Ov sg r
      · refine ⟨_, rfl, iteN (by rw [decide_eq_true ho]; rfl) ?_⟩
        exact ⟨_, rfl, ks ⟨hn, ho⟩ p H2 (s1.trans s2) (s2 _ _ hp1)⟩
      · refine ⟨_, rfl, iteB (by rw [decide_eq_false ho]; rfl) ?_⟩
        exact kn (fun h => ho h.2) H2 (s1.trans s2)
abbrev s_parse : Stmt := inClass (top 15) 1
abbrev n_parse : List Str := ["cls", "signs", "text", "rows"]
theorem sc_parse : FnScope n_parse ["cls", "signs", "text"] (fnScope s_parse) := fnScope_by (by decide +kernel)
def spParse (K : PySem.W.Frag) (C CT : Addr) : Sp := fun vs H Q E => ∃ (v : V) (d : PyData) (sg : List Nat), vs = [.ref C, .str (S sg), v] ∧ Sg sg ∧ Dp K H v d ∧ okD d = true ∧
  (iotO sg (txtO d) = none → ∀ (x : Addr) (H' : Hp), Same H H' → H' x = some (.xd [("at", .int 0)]) → E (.ref CT) (some x) H') ∧
  (∀ ims, iotO sg (txtO d) = some ims → ∀ (q : Addr) (H' : Hp), Same H H' → H q = none → Chg K C H' q sg ims → Q (.ref q) H')
theorem iot_good {sg t : List Nat} {ims : List (List Nat)} (h : iotL sg t = some ims) (ht : t.length ≤ 40) : Imz sg ims := by
  unfold iotL at h
  split at h
  · split at h
    · rename_i h1 h2
      cases h
      refine ⟨h2.1, fun l hl => ⟨h2.2 l hl, ?_⟩⟩
      have := (spl_len [44] (inner t) 0 []).2 l hl
      have h3 : (inner t).length ≤ t.length := by unfold inner; rw [List.length_dropLast, List.length_drop]; omega
      simp only [List.length_nil] at this
      omega
    · cases h
  · cases h
theorem okD_S {l : List Nat} (h1 : l.length ≤ 40) (h2 : ∀ c ∈ l, c < 1114112) : okD (.str (S l)) = true := by
  unfold okD
  rw [Bool.and_eq_true, decide_eq_true_eq, S_len]
  exact ⟨h1, List.all_eq_true.mpr fun c hc => decide_eq_true (h2 c (by simpa [S] using hc))⟩
theorem ov_small {sg l : List Nat} (hsg : Sg sg) (h : Ov sg l) : ∀ c ∈ l, c < 1114112 := fun c hc => by have := (hsg.2.2.2 c (h c hc)).2; omega
theorem okD_ims {sg : List Nat} {ims : List (List Nat)} (b : Bool) (hsg : Sg sg) (h : Imz sg ims) : okD (seqD b (ims.map fun l => .str (S l))) = true := by
  have h3 := hsg.2.2.1
  have hl : (ims.map fun l => PyData.str (S l)).length ≤ 20 := by rw [List.length_map, h.1]; omega
  have ha : ∀ d ∈ ims.map fun l => PyData.str (S l), okD d = true := fun d hd => by
    obtain ⟨l, hl, rfl⟩ := List.mem_map.mp hd
    exact okD_S (h.2 l hl).2 (ov_small hsg (h.2 l hl).1)
  cases b
  · exact okD_tup hl ha
  · exact okD_lst hl ha
theorem rows_ims {sg : List Nat} {ims : List (List Nat)} (b : Bool) (h : Imz sg ims) : rowsO sg (seqD b (ims.map fun l => .str (S l))) = true := by
  unfold rowsO
  rw [items_seq]
  show ((ims.map fun l => PyData.str (S l)).all fun x => rowO sg (txtO x)) = true
  rw [List.all_eq_true]
  intro x hx
  obtain ⟨l, hl, rfl⟩ := List.mem_map.mp hx
  show rowO sg (txtO (.str (S l))) = true
  rw [txt_S]
  exact decide_eq_true (h.2 l hl).1
theorem due_ims {sg : List Nat} {ims : List (List Nat)} (b : Bool) (hsg : Sg sg) (h : Imz sg ims) : dueD (.str (S sg)) (seqD b (ims.map fun l => .str (S l))) = none :=
  due_none hsg ⟨rows_ims b h, by rw [items_seq]; exact (List.length_map _).trans h.1⟩
theorem sg_small {sg : List Nat} (h : Sg sg) : okD (.str (S sg)) = true := okD_S (by have := h.2.2.1; omega) fun c hc => by have := (h.2.2.2 c hc).2; omega
theorem map_S_inj : ∀ {a b : List (List Nat)}, (a.map fun l => PyData.str (S l)) = b.map (fun l => PyData.str (S l)) → a = b
  | [], [], _ => rfl
  | x :: a, y :: b, h => by
    rw [List.map_cons, List.map_cons, List.cons.injEq] at h
    have e : x = y := by simpa [S] using h.1
    rw [e, map_S_inj h.2]
  | [], _ :: _, h => by cases h
  | _ :: _, [], h => by cases h
theorem make_good {C CI : Addr} {H : Hp} {Q : VK} {E : XK} {sg : List Nat} {v0 v1 : V} {b : Bool} {ims : List (List Nat)} (h0 : Dp K H v0 (.str (S sg))) (h1 : Dp K H v1 (seqD b (ims.map fun l => .str (S l)))) (hsg : Sg sg) (hi : Imz sg ims)
    (k : ∀ (q : Addr) (H' : Hp), Same H H' → H q = none → Chg K C H' q sg ims → Q (.ref q) H') (x dx : Addr) (hx : H x = none) (hdx : H dx = none) (nx : dx ≠ x) :
    spInitA K C CI (.ref x :: [v0, v1]) (upd (upd H dx (.own x)) x (.ins C dx [])) (fun v H2 => v = .non ∧ Q (.ref x) H2) E := by
  have s1 : Same H (upd (upd H dx (.own x)) x (.ins C dx [])) := fun b o e => by rw [upd_ne (ne_of_none e hx), upd_ne (ne_of_none e hdx)]; exact e
  refine ⟨x, dx, v0, v1, _, _, rfl, upd_same, dp_same s1 _ _ h0, dp_same s1 _ _ h1, sg_small hsg, okD_ims b hsg hi, fun wd hw => ?_, fun sg' ims' _ e1 _ e2 _ H' hk hc => ⟨rfl, ?_⟩⟩
  · rw [due_ims b hsg hi] at hw; cases hw
  · have es : sg = sg' := by simpa [S] using e1
    rw [items_seq] at e2
    have ei := map_S_inj (Option.some.inj e2)
    subst es ei
    exact k x H' (fun c o e => hk c o (ne_of_none e hx) (s1 _ _ e)) hx hc
theorem ok_parse {C CI CT : Addr} (T : BT mg) (c_InvalidText : RaiX P w K mg base 1 "InvalidText" CT (spXInit CT "at")) (c_iot : Cal P w K mg base 3 "images_of_text" (spIot K) []) (c_Change : MakX P w K mg base 4 "Change" C (spInitA K C CI)) {f : Addr} {fd : FuncData} (F : C8.Fun K "parse" "Change.parse" s_parse f fd) :
    FnOk P w K mg base (L2.CX P w) 6 f fd ["cls", "signs", "text"] (spParse K C CT) := by
  refine fnX F sc_parse (fun vs H Q E h => ?_) (fun cdv A outer s H vs Q E hr h => ?_)
  · obtain ⟨v, d, sg, rfl, _⟩ := h; rfl
  · obtain ⟨v, d, sg, rfl, hsg, hd, hok, kx, kq⟩ := h
    refine ⟨_, (pss_cons (ps_set (i := 3) sc_parse.nd rfl (.inl rfl) (pe_c c_iot hr (by first | decide | omega) (by rfl) (pa_cons (pv 1) (pa_cons (pv 2) pa_nil))))
      (pss_cons (ps_if (pt_cmpR op_isN (pv 3) pe_non (nomark _)) 
        (pss_one (ps_raise rfl (takes_of rfl rfl rfl rfl) (pmk_rai c_InvalidText hr (by decide) (by rfl) (pa_cons pe_int pa_nil)))
        )
       pss_nil)
      (pss_one (ps_ret (pe_mkXL c_Change (takes_of rfl rfl rfl rfl) hr (by decide) (i := 0) rfl (.inl rfl) (pa_cons (pv 1) (pa_cons (pv 3) pa_nil))))
      ))), ?_⟩
    refine ⟨_, rfl, _, rfl, v, d, sg, rfl, hsg, hd, hok, fun e H1 s1 => ?_, fun ims e p H1 s1 hp => ?_⟩
    · refine ⟨_, rfl, rfl, _, rfl, iteB rfl ?_⟩
      exact ⟨by decide, raise_read fun x hx => kx e x _ (s1.trans (sm_new hx)) upd_same⟩
    · refine ⟨_, rfl, rfl, _, rfl, iteN rfl ?_⟩
      have hi : Imz sg ims := by
        cases d with
        | str s => exact iot_good e (by have := (okD_text (l := s.cps.toList) (by rw [S_self]; exact hok)).1; exact this)
        | _ => cases e
      refine ⟨rfl, _, rfl, _, rfl, fun x dx hx hdx nx => ?_⟩
      exact make_good (b := true) (.str _) (.lst (SqL.of hp) (dp_strs ims)) hsg hi (fun q H' s2 hq hc => kq ims e q H' (s1.trans s2) (by
        cases z : H q with
        | none => rfl
        | some o => rw [s1 _ _ z] at hq; cases hq) hc) x dx hx hdx nx
end
end Toy
set_option maxHeartbeats 2000000
namespace LX
open PySem PySem.Spec PyProof.Rows L2 C8 SX
section
variable {X : Cx}
def tRevLX (K : PySem.W.Frag) (te ts : TE) : TE := fun σ H Q => te σ H fun x H1 => ts σ H1 fun y H2 => ∃ i, y = .int i ∧ (some i = some (-1) ∧ ∃ (a : Addr) (xs : List V), x = .ref a ∧ SqL K H2 a xs ∧ ∀ p, H2 p = none → Q (.ref p) (upd H2 p (.lst xs.reverse)))
theorem pe_revLX {e st : Expr} {te ts : TE} {p3 pos : Pos} (K : PySem.W.Frag) (he : PE X e te) (hs : PE X st ts) (hK : X.K = K := by rfl) : PE X (.Subscript e (.Slice none none (some st) p3) pos) (tRevLX K te ts) := by
  subst hK
  refine ⟨fun pins s σ H Q I h => ?_⟩
  refine Subscript_ (thn (he.run pins s σ H _ I h) fun v s1 ⟨x, H1, I1, r1, q1⟩ => ?_)
  have hst : PO X (some st) (tPart ts) := po_some hs
  refine wpAny_Slice (thn (po_none.run pins s1 σ H1 (fun o H2 => o = none ∧ H2 = H1) I1 ⟨rfl, rfl⟩) fun vl s2 ⟨l, H2, I2, pl, el, e2⟩ => ?_)
  subst el e2
  refine thn (po_none.run pins s2 σ H2 (fun o H3 => o = none ∧ H3 = H2) I2 ⟨rfl, rfl⟩) fun vu s3 ⟨u, H3, I3, pu, eu, e3⟩ => ?_
  subst eu e3
  refine thn (hst.run pins s3 σ H3 (fun o H4 => o = some (-1) ∧ ∃ (a : Addr) (xs : List V), x = .ref a ∧ SqL X.K H4 a xs ∧ ∀ p, H4 p = none → Q (.ref p) (upd H4 p (.lst xs.reverse))) I3 q1) fun vs s4 ⟨o, H4, I4, ps, eo, a, xs, ex, hx, q⟩ => ?_
  subst eo ex
  cases r1
  have I5 : Inv X pins σ H4 { s4 with heap := s4.heap.push { cls := .type "slice", data := .fields #[vl, vu, vs] } } := I4.kept (t' := s4.toks) fun b ob q => Heap.get?_push_of_some _ q
  obtain ⟨its, r, ht, hz⟩ := I5.list hx
  have hlen := r.length
  show wpAny (model X.prog X.w) X.A (subscriptTail e (.Slice none none (some st) p3) (.ref a) (.ref s4.heap.objs.size)) (EP X pins σ Q) X.xe { s4 with heap := s4.heap.push { cls := .type "slice", data := .fields #[vl, vu, vs] } }
  refine tail_any (ops := [.ref a, .ref s4.heap.objs.size]) ht.isList.typeIs (PySem.slot_list_getitem.lookup) ?_ (by with_unfolding_all rfl)
  refine wpAny_getItem_list_slice ht.isList (Heap.IsSliceOf.new _ vl vu vs) pl pu ps (by decide) ?_ (by rw [List.size_toArray]; omega)
  rw [PySem.W.krv_pick]
  refine ⟨.ref _, _, I5.laid (t' := s4.toks) (o := .lst xs.reverse) (fun b ob q => Heap.get?_push_of_some _ q) (Nat.le_refl _) ?_, rfl, q _ (I5.hok.fresh (Nat.le_refl _))⟩
  exact ⟨by rw [List.length_reverse]; exact hz, _, 0, r.reverse, Heap.get?_push_size _ rfl⟩
end
def NL (H H' : Hp) : Prop := ∀ a o, H a = some o → (∀ xs, o ≠ .lst xs) → H' a = some o
theorem NL.refl (H : Hp) : NL H H := fun _ _ e _ => e
theorem NL.trans {H H1 H2 : Hp} (p : NL H H1) (q : NL H1 H2) : NL H H2 := fun a o e n => q a o (p a o e n) n
theorem nl_same {H H' : Hp} (s : Same H H') : NL H H' := fun a o e _ => s a o e
theorem nl_lset {H : Hp} {a : Addr} {xs ys : List V} (h : H a = some (.lst xs)) : NL H (upd H a (.lst ys)) := fun b o e n => by
  rw [upd_ne (fun z => by rw [z, h] at e; exact n xs (Option.some.inj e).symm)]; exact e
end LX
set_option maxHeartbeats 2000000
namespace LX
open PySem PySem.Spec PyProof.Rows L2 C8 SX
section
variable {X : Cx} {k j : Nat} {C : Addr} {sp : Sp}
theorem met_run0 {mth : Str} {pins : List (Addr × Obj)} {σ : L2.St} {H : Hp} {s : Shared} {A : Around} {a : Addr} {Q : Value → Shared → Prop} (c : Met X.prog X.w X.K X.mg X.base k C mth sp []) (hr : Room k A) (hfr : A.frames = X.A.frames) (I : Inv X pins σ H s)
    {R : VK} (hsp : sp [.ref a] H R C8.E0) (hQ : ∀ v z H' s', Inv X pins σ H' s' → RelV z v → R z H' → Q v s') :
    ∃ f, PySem.W.findIn X.K (.ref C) mth = some (some (.ref f)) ∧ PySem.W.isFn X.K (.ref f) = true ∧ wpAny (model X.prog X.w) A (call (.ref f) [.ref a]) Q X.xe s := by
  obtain ⟨f, fd, ps, ds, hc, hm, F, hb, hd⟩ := c.ex
  refine ⟨f, hm.at_, hm.fn, ?_⟩
  have e0 : Env0 X.prog X.w X.K X.mg X.base A X.stack s H := by
    have e := I.env0
    exact ⟨by rw [hfr]; exact e.frames, e.mod, e.bs, e.bsz, e.funs, e.frf, e.hok, e.bare⟩
  have hds : ds = [] := by cases hd; rfl
  subst hds
  have hl := F.len _ _ _ _ hsp
  have r2 : Vals [V.ref a] [Value.ref a] := .cons rfl .nil
  refine wpAny_call (codeAny_mono (F.run A X.stack s H ⟨[.ref a], []⟩ [.ref a] [.ref a] _ C8.E0 hr e0 (by
    have := hb s [.ref a] I.kIn (by simpa using hl)
    simpa using this) r2 hsp) fun r s' hq => ?_)
  cases r with
  | error e => exact C8.pass0 (E := C8.E0) pins σ H s e s' I hq
  | ok fl =>
    cases fl with
    | ret w =>
      obtain ⟨z, H', I', rz, q⟩ := I.after hq
      exact hQ w z H' s' I' rz q
    | next => exact False.elim hq
    | brk => exact False.elim hq
    | cont => exact False.elim hq
theorem call_strI (c : Met X.prog X.w X.K X.mg X.base k C "__str__" sp []) (hr : Room j X.A) (hk : k + 2 ≤ j) : CallR X (.type "str") (fun xs H Q => ∃ a dx fs, xs = [.ref a] ∧ H a = some (.ins C dx fs) ∧ sp [.ref a] H (fun v H' => ∃ z, v = .str z ∧ Q (.str z) H') C8.E0) := by
  intro pins s σ H xs us Q I rel want
  obtain ⟨a, dx, fs, rfl, ha, hsp⟩ := want
  obtain ⟨u, rfl, ru⟩ := vals1 rel
  cases ru
  obtain ⟨mA, J, _⟩ := ins_get I.hok ha
  obtain ⟨od, J, _⟩ := J.look
  have r2 : Room k X.A.in1.in1 := (hr.mono hk).in1.in1
  obtain ⟨f, hs, hf, hw⟩ := met_run0 (A := X.A.in1.in1) (Q := PySem.W.StrBack (EP X pins σ Q)) c r2 rfl I hsp (fun v z H' s' I' rz q => by
    obtain ⟨y, rfl, q⟩ := q
    obtain ⟨t, rfl⟩ := rz
    exact ⟨.str y, H', I', ⟨t, rfl⟩, q⟩)
  exact PySem.W.kso_call r2.units0 I.kIn J hs hf hw
end
end LX
set_option maxHeartbeats 2000000
namespace Toy
open PySem L2 C8 SX LX
def txtL (ims : List (List Nat)) : List Nat := [91] ++ TL.joinL [44] ims ++ [93]
theorem imz_small {sg : List Nat} {ims : List (List Nat)} (hsg : Sg sg) (h : Imz sg ims) : Small ims := fun l hl => ov_small hsg (h.2 l hl).1
theorem sgs_small {sg : List Nat} (h : Sg sg) : Small (sg.map fun c => [c]) := fun l hl c hc => by
  obtain ⟨d, hd, rfl⟩ := List.mem_map.mp hl
  rw [List.mem_singleton.mp hc]
  have := (h.2.2.2 d hd).2
  omega
theorem txL_len {sg : List Nat} {ims : List (List Nat)} (hsg : Sg sg) (h : Imz sg ims) : (txtL ims).length ≤ 200 := by
  have hj := joinL_len (sep := [44]) (m := 40) (ys := ims) fun l hl => (h.2 l hl).2
  have h3 := hsg.2.2.1
  rw [h.1] at hj
  simp only [List.length_cons, List.length_nil] at hj
  unfold txtL
  simp only [List.length_append, List.length_cons, List.length_nil]
  omega
section
variable {P : Program} {w : World} {K : PySem.W.Frag} {mg : Str → Option Value} {base : Heap}
abbrev s_str : Stmt := inClass (top 15) 8
abbrev n_str : List Str := ["self"]
theorem sc_str : FnScope n_str ["self"] (fnScope s_str) := fnScope_by (by decide +kernel)
def spStr (K : PySem.W.Frag) (C : Addr) : Sp := fun vs H Q _ => ∃ (a : Addr) (sg : List Nat) (ims : List (List Nat)), vs = [.ref a] ∧ Chg K C H a sg ims ∧ Sg sg ∧ Imz sg ims ∧ ∀ H', Same H H' → Q (.str (S (txtL ims))) H'
theorem ok_str {C : Addr} (T : BT mg) (CH : CC K C) {f : Addr} {fd : FuncData} (me : Meth K C "__str__" f) (F : C8.Fun K "__str__" "Change.__str__" s_str f fd) (b : Binds K fd ["self"] []) : Met P w K mg base 1 C "__str__" (spStr K C) [] := by
  refine met0 CH.cl me F b sc_str (fun vs H Q E h => ?_) (fun cdv A outer s H vs Q E hr h => ?_)
  · obtain ⟨a, sg, ims, rfl, _⟩ := h; rfl
  · obtain ⟨a, sg, ims, rfl, ⟨dx, r, ha, hrr⟩, hsg, hi, k⟩ := h
    refine ⟨_, (pss_one (ps_ret (pe_joinedD (PJ.cons pe_str (PJ.cons (pe_fmt (pe_join pe_str (fldK K (pv 0) rfl))) (PJ.cons pe_str PJ.nil)))))
      ), ?_⟩
    have hlen := txL_len hsg hi
    have h3 := hsg.2.2.1
    have h40 : ∀ l ∈ ims, l.length ≤ 40 := fun l hl => (hi.2 l hl).2
    have e0 : Str.empty ++ (Str.ofString "[") = S [91] := by rw [s_lb, show Str.empty = S [] from rfl, S_cat]; rfl
    have e1 : Txt.join (Str.ofString ",") (ims.map S) = S (TL.joinL [44] ims) := by rw [s_cm, join_S]
    have e2 : Str.empty ++ (Str.ofString "[") ++ Txt.join (Str.ofString ",") (ims.map S) = S ([91] ++ TL.joinL [44] ims) := by rw [e0, e1, S_cat]
    have e3 : Str.empty ++ (Str.ofString "[") ++ Txt.join (Str.ofString ",") (ims.map S) ++ (Str.ofString "]") = S (txtL ims) := by rw [e2, s_rb, S_cat]; rfl
    have hj : (TL.joinL [44] ims).length ≤ 200 := by unfold txtL at hlen; simp only [List.length_append] at hlen; omega
    refine ⟨_, rfl, by rw [e0, S_len]; decide, ?_⟩
    refine ⟨⟨_, rfl⟩, _, rfl, a, C, dx, _, _, rfl, ha, CH.cl, CH.nR, chF_rows _ _, _, r, ims.map S, rfl, rfl, .inr (by rw [List.map_map]; exact hrr), by rw [s_cm]; exact joinS_ok h40 (n := 3) (by rw [hi.1]; exact h3) (by decide), ?_⟩
    refine .inl ⟨_, rfl, by rw [e1, S_len]; exact sz (m := 200) hj (by decide), _, rfl, by rw [e2, S_len]; exact sz (m := 201) (by simp; omega) (by decide), ?_⟩
    refine ⟨_, rfl, by rw [e3, S_len]; exact sz hlen (by decide), ?_⟩
    show Q (V.str (Str.empty ++ (Str.ofString "[") ++ Txt.join (Str.ofString ",") (ims.map S) ++ (Str.ofString "]"))) H
    rw [e3]
    exact k H (Same.refl H)
abbrev s_eq : Stmt := inClass (top 15) 7
abbrev n_eq : List Str := ["self", "other"]
theorem sc_eq : FnScope n_eq ["self", "other"] (fnScope s_eq) := fnScope_by (by decide +kernel)
def spEqA (K : PySem.W.Frag) (C : Addr) : Sp := fun vs H Q _ => ∃ (a : Addr) (y : V) (sg : List Nat) (ims : List (List Nat)), vs = [.ref a, y] ∧ Chg K C H a sg ims ∧ Sg sg ∧ Imz sg ims ∧
  ((∃ (b : Addr) (sg2 : List Nat) (jms : List (List Nat)), y = .ref b ∧ Chg K C H b sg2 jms ∧ Sg sg2 ∧ Imz sg2 jms ∧ Q (.bl (decide (sg = sg2 ∧ ims = jms))) H) ∨ (∃ t : Value, TyX K H y t ∧ PySem.W.kitOne K t (.ref C) = some false ∧ Q (.bl false) H))
theorem ok_eq {C : Addr} (T : BT mg) (CH : CC K C) (insC : InsC K C) (mgC : mg "Change" = some (.ref C)) {f : Addr} {fd : FuncData} (me : Meth K C "__eq__" f) (F : C8.Fun K "__eq__" "Change.__eq__" s_eq f fd) (b : Binds K fd ["self", "other"] []) : Met P w K mg base 1 C "__eq__" (spEqA K C) [] := by
  refine met0 CH.cl me F b sc_eq (fun vs H Q E h => ?_) (fun cdv A outer s H vs Q E hr h => ?_)
  · obtain ⟨a, y, sg, ims, rfl, _⟩ := h; rfl
  · obtain ⟨a, y, sg, ims, rfl, ⟨dx, r, ha, hrr⟩, hsg, hi, h⟩ := h
    refine ⟨_, (pss_one (ps_ret (pe_and (pe_callB (isiK K) (by rfl) T.m_isinstance PyProof.Rows.boot_isinstance (pa_cons (pv 1) (pa_cons (pe_glob (v := .ref C) (by rfl) mgC rfl) pa_nil))) (pe_and (pe_cmpR op_eq (fldK K (pv 0) rfl) (fldK K (pv 1) rfl) (nomark _)) (pe_one (pe_cmpR (op_eqSs hr) (fldK K (pv 0) rfl) (fldK K (pv 1) rfl) (nomark _))))))
      ), ?_⟩
    rcases h with ⟨b, sg2, jms, rfl, ⟨dy, t, hb, htt⟩, hsg2, hj, q⟩ | ⟨t, ty, hk, q⟩
    · refine ⟨_, rfl, _, _, _, _, true, rfl, .own C, .base (.ins hb insC.cl insC.ha insC.hn insC.htk insC.hm), insC.me, true, rfl, iteT ?_⟩
      refine ⟨_, rfl, a, C, dx, _, _, rfl, ha, CH.cl, CH.nS, chF_signs _ _, _, rfl, b, C, dy, _, _, rfl, hb, CH.cl, CH.nS, chF_signs _ _, ?_⟩
      refine ⟨rfl, _, rfl, ?_⟩
      by_cases es : sg = sg2
      · subst es
        refine iteB (decide_eq_true rfl) ?_
        refine ⟨_, rfl, a, C, dx, _, _, rfl, ha, CH.cl, CH.nR, chF_rows _ _, _, rfl, b, C, dy, _, _, rfl, hb, CH.cl, CH.nR, chF_rows _ _, ?_⟩
        refine ⟨r, t, ims, jms, rfl, rfl, .inr ⟨hrr, htt⟩, imz_small hsg hi, imz_small hsg2 hj, ?_⟩
        have e : decide (sg = sg ∧ ims = jms) = decide (ims = jms) := decide_eq_decide.mpr ⟨fun h => h.2, fun h => ⟨rfl, h⟩⟩
        rw [e] at q
        exact q
      · refine iteN (decide_eq_false fun h => es (by simpa [S] using V.str.inj h)) ?_
        have e : decide (sg = sg2 ∧ ims = jms) = false := decide_eq_false fun h => es h.1
        rw [e] at q
        exact q
    · exact ⟨_, rfl, _, _, _, _, false, rfl, .own C, ty, hk, false, rfl, iteN rfl q⟩
end
end Toy
namespace K4
abbrev Tx := List Nat
def imgN (sg : Tx) (ims : List Tx) (c : Nat) : Tx := ims.getD (sg.idxOf c) []
def appN (sg : Tx) (ims : List Tx) (l : Tx) : Tx := l.flatMap (imgN sg ims)
inductive Rest (sg : Tx) (ims : List Tx) : Tx → Prop
  | base {c d : Nat} {r : Tx} : c ∈ sg → d ∈ sg → c ≠ d → imgN sg ims c = imgN sg ims d ++ r → Rest sg ims r
  | step {c : Nat} {r r' : Tx} : Rest sg ims r → r ≠ [] → c ∈ sg → (imgN sg ims c = r ++ r' ∨ r = imgN sg ims c ++ r') → Rest sg ims r'
def Full (ims : List Tx) : Prop := ∀ im ∈ ims, im ≠ []
theorem img_in {sg : Tx} {ims : List Tx} (hl : ims.length = sg.length) {c : Nat} (h : c ∈ sg) : imgN sg ims c ∈ ims := by
  unfold imgN
  have h1 := List.idxOf_lt_length_of_mem h
  rw [List.getD_eq_getElem?_getD, List.getElem?_eq_getElem (by omega)]
  exact List.getElem_mem _
theorem app_nil {sg : Tx} {ims : List Tx} (hl : ims.length = sg.length) (hf : Full ims) : ∀ {u : Tx}, (∀ c ∈ u, c ∈ sg) → appN sg ims u = [] → u = []
  | [], _, _ => rfl
  | c :: u, ho, h => by
    have e : appN sg ims (c :: u) = imgN sg ims c ++ appN sg ims u := List.flatMap_cons ..
    rw [e] at h
    exact absurd (List.append_eq_nil_iff.mp h).1 (hf _ (img_in hl (ho c List.mem_cons_self)))
theorem app_cons (sg : Tx) (ims : List Tx) (c : Nat) (u : Tx) : appN sg ims (c :: u) = imgN sg ims c ++ appN sg ims u := List.flatMap_cons ..
theorem two_pre {a b x y : Tx} (h : a ++ x = b ++ y) : (∃ t, a = b ++ t ∧ t ++ x = y) ∨ (∃ t, b = a ++ t ∧ x = t ++ y) := by
  rcases List.append_eq_append_iff.mp h with ⟨t, h1, h2⟩ | ⟨t, h1, h2⟩
  · exact .inr ⟨t, h1, h2⟩
  · exact .inl ⟨t, h1, h2.symm⟩
theorem rest_ends {sg : Tx} {ims : List Tx} (hl : ims.length = sg.length) (hf : Full ims) : ∀ (n : Nat) {r u v : Tx}, u.length + v.length ≤ n → Rest sg ims r → (∀ c ∈ u, c ∈ sg) → (∀ c ∈ v, c ∈ sg) → r ++ appN sg ims v = appN sg ims u → Rest sg ims []
  | n, r, u, v, hn, hr, hu, hv, h => by
    by_cases h0 : r = []
    · exact h0 ▸ hr
    cases u with
    | nil =>
      have : r ++ appN sg ims v = [] := h
      exact absurd (List.append_eq_nil_iff.mp this).1 h0
    | cons c u =>
      cases n with
      | zero => simp at hn
      | succ n =>
        rw [app_cons] at h
        have hc := hu c List.mem_cons_self
        have hu' : ∀ c ∈ u, c ∈ sg := fun d hd => hu d (List.mem_cons_of_mem _ hd)
        rcases two_pre h with ⟨t, h1, h2⟩ | ⟨t, h1, h2⟩
        · exact rest_ends hl hf n (by simp at hn; omega) (.step hr h0 hc (.inr h1)) hu' hv h2
        · exact rest_ends hl hf n (by simp at hn; omega) (.step hr h0 hc (.inl h1)) hv hu' h2.symm
theorem clear_inj {sg : Tx} {ims : List Tx} (hl : ims.length = sg.length) (hf : Full ims) (hc : ¬ Rest sg ims []) : ∀ {u v : Tx}, (∀ c ∈ u, c ∈ sg) → (∀ c ∈ v, c ∈ sg) → appN sg ims u = appN sg ims v → u = v
  | [], v, _, hv, h => (app_nil hl hf hv (show appN sg ims v = [] from h.symm)).symm
  | c :: u, [], hu, _, h => app_nil hl hf hu h
  | c :: u, d :: v, hu, hv, h => by
    have hc1 := hu c List.mem_cons_self
    have hd1 := hv d List.mem_cons_self
    have hu' : ∀ c ∈ u, c ∈ sg := fun d hd => hu d (List.mem_cons_of_mem _ hd)
    have hv' : ∀ c ∈ v, c ∈ sg := fun d hd => hv d (List.mem_cons_of_mem _ hd)
    rw [app_cons, app_cons] at h
    by_cases e : c = d
    · subst e
      rw [clear_inj hl hf hc hu' hv' (List.append_cancel_left h)]
    · exfalso
      rcases two_pre h with ⟨t, h1, h2⟩ | ⟨t, h1, h2⟩
      · exact hc (rest_ends hl hf _ (Nat.le_refl _) (.base hc1 hd1 e h1) hv' hu' h2)
      · exact hc (rest_ends hl hf _ (Nat.le_refl _) (.base hd1 hc1 (fun q => e q.symm) h1) hu' hv' h2.symm)
theorem rest_suf {sg : Tx} {ims : List Tx} (hl : ims.length = sg.length) (hf : Full ims) {r : Tx} (h : Rest sg ims r) : ∃ im ∈ ims, ∃ p, p ≠ [] ∧ im = p ++ r := by
  induction h with
  | base hc hd _ e => exact ⟨_, img_in hl hc, _, hf _ (img_in hl hd), e⟩
  | @step c r r' _ h0 hc e ih =>
    rcases e with e | e
    · exact ⟨_, img_in hl hc, r, h0, e⟩
    · obtain ⟨im, h1, p, h2, h3⟩ := ih
      refine ⟨im, h1, p ++ imgN sg ims c, fun q => h2 (List.append_eq_nil_iff.mp q).1, ?_⟩
      rw [h3, e, List.append_assoc]
def baseL (ims : List Tx) : List Tx := [] :: ims.flatMap fun im => (List.range (im.length - 1)).map fun k => im.drop (k + 1)
theorem flat_len {α β : Type} {f : α → List β} {c : Nat} : ∀ {l : List α}, (∀ x ∈ l, (f x).length ≤ c) → (l.flatMap f).length ≤ l.length * c
  | [], _ => by simp
  | x :: l, h => by
    rw [List.flatMap_cons, List.length_append, List.length_cons, Nat.add_mul]
    have h1 := h x List.mem_cons_self
    have h2 := flat_len (l := l) fun y hy => h y (List.mem_cons_of_mem _ hy)
    omega
theorem baseL_len {ims : List Tx} (h3 : ims.length ≤ 3) (h4 : ∀ im ∈ ims, im.length ≤ 4) : (baseL ims).length ≤ 10 := by
  have : (ims.flatMap fun im => (List.range (im.length - 1)).map fun k => im.drop (k + 1)).length ≤ ims.length * 3 := flat_len fun im hm => by
    rw [List.length_map, List.length_range]; have := h4 im hm; omega
  unfold baseL
  rw [List.length_cons]
  omega
theorem rest_base {sg : Tx} {ims : List Tx} (hl : ims.length = sg.length) (hf : Full ims) {r : Tx} (h : Rest sg ims r) : r ∈ baseL ims := by
  by_cases h0 : r = []
  · rw [h0]; exact List.mem_cons_self
  · obtain ⟨im, h1, p, h2, h3⟩ := rest_suf hl hf h
    refine List.mem_cons_of_mem _ (List.mem_flatMap.mpr ⟨im, h1, List.mem_map.mpr ⟨p.length - 1, ?_, ?_⟩⟩)
    · rw [List.mem_range, h3, List.length_append]
      have a := List.length_pos_iff.mpr h0
      have b := List.length_pos_iff.mpr h2
      omega
    · have b := List.length_pos_iff.mpr h2
      rw [show p.length - 1 + 1 = p.length by omega, h3, List.drop_left]
theorem nodup_sub {α : Type} [DecidableEq α] : ∀ {l m : List α}, l.Nodup → (∀ x ∈ l, x ∈ m) → l.length ≤ m.length
  | [], m, _, _ => Nat.zero_le _
  | a :: l, m, nd, h => by
    rw [List.nodup_cons] at nd
    have ha := h a List.mem_cons_self
    have ih := nodup_sub (l := l) (m := m.erase a) nd.2 fun x hx => by
      have hne : x ≠ a := fun e => nd.1 (e ▸ hx)
      exact (List.mem_erase_of_ne hne).mpr (h x (List.mem_cons_of_mem _ hx))
    rw [List.length_erase_of_mem ha] at ih
    have := List.length_pos_of_mem ha
    rw [List.length_cons]
    omega
theorem rests_few {sg : Tx} {ims ds : List Tx} (hl : ims.length = sg.length) (hf : Full ims) (h3 : ims.length ≤ 3) (h4 : ∀ im ∈ ims, im.length ≤ 4) (nd : ds.Nodup) (h : ∀ d ∈ ds, Rest sg ims d) : ds.length ≤ 10 :=
  Nat.le_trans (nodup_sub nd fun x hx => rest_base hl hf (h x hx)) (baseL_len h3 h4)
def beh (r b : Tx) : List Tx := if r.take b.length = b then [r.drop b.length] else []
theorem beh_len (r b : Tx) : (beh r b).length ≤ 1 := by unfold beh; split <;> simp
theorem mem_beh {r b x : Tx} : x ∈ beh r b ↔ r = b ++ x := by
  unfold beh
  constructor
  · intro h
    split at h
    · rename_i e
      rw [List.mem_singleton] at h
      rw [h]
      have := List.take_append_drop b.length r
      rw [e] at this
      exact this.symm
    · cases h
  · rintro rfl
    rw [if_pos (List.take_left), List.drop_left]
    exact List.mem_singleton.mpr rfl
def nextL (ims : List Tx) (r : Tx) : List Tx := ims.flatMap fun im => beh im r ++ beh r im
def gen0 (ims : List Tx) : List Tx := (List.range ims.length).flatMap fun i => (ims.take i ++ ims.drop (i + 1)).flatMap fun o => beh (ims.getD i []) o
def nonE (found : List Tx) : List Tx := found.filter fun x => decide (x ≠ [])
def freshU (ims found : List Tx) : List Tx := (nonE found).flatMap (nextL ims)
def freshF (ims found : List Tx) : List Tx := (freshU ims found).filter fun x => decide (x ∉ found)
structure Good (sg : Tx) (ims : List Tx) : Prop where
  nd : sg.Nodup
  hl : ims.length = sg.length
  h3 : ims.length ≤ 3
  h4 : ∀ im ∈ ims, im.length ≤ 4
theorem Good.img_at {sg : Tx} {ims : List Tx} (g : Good sg ims) {i : Nat} {c : Nat} (h : sg[i]? = some c) : ims[i]? = some (imgN sg ims c) := by
  obtain ⟨h1, rfl⟩ := List.getElem?_eq_some_iff.mp h
  unfold imgN
  rw [g.nd.idxOf_getElem i h1, List.getD_eq_getElem?_getD, List.getElem?_eq_getElem (by have := g.hl; omega)]
  rfl
theorem Good.img_mem {sg : Tx} {ims : List Tx} (g : Good sg ims) {im : Tx} : im ∈ ims ↔ ∃ c ∈ sg, im = imgN sg ims c := by
  constructor
  · intro h
    obtain ⟨i, hi⟩ := List.getElem?_of_mem h
    have hlt : i < sg.length := by have := (List.getElem?_eq_some_iff.mp hi).1; have := g.hl; omega
    refine ⟨sg[i], List.getElem_mem _, ?_⟩
    have := g.img_at (List.getElem?_eq_getElem hlt)
    rw [hi] at this
    exact Option.some.inj this
  · rintro ⟨c, hc, rfl⟩
    exact img_in g.hl hc
theorem mem_rest_of {α : Type} {l : List α} {i : Nat} {x : α} : x ∈ l.take i ++ l.drop (i + 1) ↔ ∃ j, j ≠ i ∧ l[j]? = some x := by
  rw [List.mem_append]
  constructor
  · rintro (h | h)
    · obtain ⟨j, hj⟩ := List.getElem?_of_mem h
      rw [List.getElem?_take] at hj
      split at hj
      · exact ⟨j, by omega, hj⟩
      · cases hj
    · obtain ⟨j, hj⟩ := List.getElem?_of_mem h
      rw [List.getElem?_drop] at hj
      exact ⟨i + 1 + j, by omega, hj⟩
  · rintro ⟨j, hj, e⟩
    by_cases h : j < i
    · exact .inl (List.mem_of_getElem? (i := j) (by rw [List.getElem?_take, if_pos h]; exact e))
    · refine .inr (List.mem_of_getElem? (i := j - (i + 1)) ?_)
      rw [List.getElem?_drop, show i + 1 + (j - (i + 1)) = j by omega]
      exact e
theorem mem_gen0 {sg : Tx} {ims : List Tx} (g : Good sg ims) {x : Tx} : x ∈ gen0 ims ↔ ∃ c ∈ sg, ∃ d ∈ sg, c ≠ d ∧ imgN sg ims c = imgN sg ims d ++ x := by
  unfold gen0
  rw [List.mem_flatMap]
  constructor
  · rintro ⟨i, hi, h⟩
    rw [List.mem_range] at hi
    obtain ⟨o, ho, hx⟩ := List.mem_flatMap.mp h
    obtain ⟨j, hji, hj⟩ := mem_rest_of.mp ho
    have hjl := (List.getElem?_eq_some_iff.mp hj).1
    have hi' : i < sg.length := by have := g.hl; omega
    have hj' : j < sg.length := by have := g.hl; omega
    have e1 := g.img_at (List.getElem?_eq_getElem hi')
    have e2 := g.img_at (List.getElem?_eq_getElem hj')
    rw [hj] at e2
    refine ⟨sg[i], List.getElem_mem _, sg[j], List.getElem_mem _, fun q => hji (by have a := g.nd.idxOf_getElem i hi'; have b := g.nd.idxOf_getElem j hj'; rw [q] at a; rw [a] at b; exact b.symm), ?_⟩
    rw [List.getD_eq_getElem?_getD, e1] at hx
    rw [← Option.some.inj e2]
    exact mem_beh.mp hx
  · rintro ⟨c, hc, d, hd, hne, e⟩
    obtain ⟨i, hi⟩ := List.getElem?_of_mem hc
    obtain ⟨j, hj⟩ := List.getElem?_of_mem hd
    have hil := (List.getElem?_eq_some_iff.mp hi).1
    refine ⟨i, List.mem_range.mpr (by have := g.hl; omega), List.mem_flatMap.mpr ⟨imgN sg ims d, mem_rest_of.mpr ⟨j, fun q => ?_, g.img_at hj⟩, ?_⟩⟩
    · subst q; rw [hi] at hj; exact hne (Option.some.inj hj)
    · rw [List.getD_eq_getElem?_getD, g.img_at hi]
      exact mem_beh.mpr e
theorem mem_nextL {sg : Tx} {ims : List Tx} (g : Good sg ims) {r x : Tx} : x ∈ nextL ims r ↔ ∃ c ∈ sg, imgN sg ims c = r ++ x ∨ r = imgN sg ims c ++ x := by
  unfold nextL
  rw [List.mem_flatMap]
  constructor
  · rintro ⟨im, hm, h⟩
    obtain ⟨c, hc, rfl⟩ := g.img_mem.mp hm
    exact ⟨c, hc, (List.mem_append.mp h).imp mem_beh.mp mem_beh.mp⟩
  · rintro ⟨c, hc, h⟩
    exact ⟨_, img_in g.hl hc, List.mem_append.mpr (h.imp mem_beh.mpr mem_beh.mpr)⟩
theorem mem_nonE {found : List Tx} {x : Tx} : x ∈ nonE found ↔ x ∈ found ∧ x ≠ [] := by
  unfold nonE; rw [List.mem_filter, decide_eq_true_eq]
theorem gen0_len {ims : List Tx} (h3 : ims.length ≤ 3) : (gen0 ims).length ≤ 6 := by
  unfold gen0
  have : ∀ i ∈ List.range ims.length, ((ims.take i ++ ims.drop (i + 1)).flatMap fun o => beh (ims.getD i []) o).length ≤ 2 := fun i hi => by
    rw [List.mem_range] at hi
    refine Nat.le_trans (flat_len (c := 1) fun o _ => beh_len _ _) ?_
    rw [List.length_append, List.length_take, List.length_drop]
    omega
  have := flat_len this
  rw [List.length_range] at this
  omega
theorem next_len {ims : List Tx} (h3 : ims.length ≤ 3) (r : Tx) : (nextL ims r).length ≤ 6 := by
  have : (nextL ims r).length ≤ ims.length * 2 := flat_len fun im _ => by
    rw [List.length_append]; have := beh_len im r; have := beh_len r im; omega
  omega
theorem nonE_flat {α : Type} {f : α → List Tx} : ∀ {l : List α}, nonE (l.flatMap f) = l.flatMap fun x => nonE (f x)
  | [] => rfl
  | x :: l => by
    rw [List.flatMap_cons, List.flatMap_cons, ← nonE_flat (l := l)]
    exact List.filter_append ..
theorem next_nonE {ims : List Tx} (h3 : ims.length ≤ 3) (r : Tx) : (nonE (nextL ims r)).length ≤ 3 := by
  unfold nextL
  rw [nonE_flat]
  have : (ims.flatMap fun im => nonE (beh im r ++ beh r im)).length ≤ ims.length * 1 := flat_len fun im _ => by
    unfold beh
    by_cases h1 : im.take r.length = r
    · by_cases h2 : r.take im.length = im
      · have e : r = im := by
          have a := congrArg List.length h1
          have b := congrArg List.length h2
          rw [List.length_take] at a b
          have : r.length = im.length := by omega
          rw [this, List.take_length] at h1
          exact h1.symm
        subst e
        rw [if_pos h1, List.drop_length]
        unfold nonE
        simp
      · rw [if_pos h1, if_neg h2, List.append_nil]
        exact Nat.le_trans (List.length_filter_le ..) (Nat.le_refl 1)
    · rw [if_neg h1, List.nil_append]
      exact Nat.le_trans (List.length_filter_le ..) (by split <;> simp)
  omega
structure Turn (sg : Tx) (ims found : List Tx) (t : Nat) : Prop where
  sub : ∀ x ∈ gen0 ims, x ∈ found
  rst : ∀ x ∈ found, Rest sg ims x
  few : found.length ≤ 12 * 4 ^ t
  fewE : (nonE found).length ≤ 6 * 4 ^ t
  ds : found = [] ∨ ∃ ds : List Tx, ds.Nodup ∧ (∀ d ∈ ds, d ∈ found) ∧ ds.length = t + 1
theorem Turn.le {sg : Tx} {ims found : List Tx} {t : Nat} (g : Good sg ims) (hf : Full ims) (h : Turn sg ims found t) : found = [] ∨ t ≤ 9 :=
  h.ds.imp id fun ⟨ds, nd, sub, e⟩ => by
    have := rests_few g.hl hf g.h3 g.h4 nd fun d hd => h.rst d (sub d hd)
    omega
theorem nonE_le (found : List Tx) : (nonE found).length ≤ found.length := List.length_filter_le ..
theorem turn0 {sg : Tx} {ims : List Tx} (g : Good sg ims) : Turn sg ims (gen0 ims) 0 := by
  have l6 := gen0_len g.h3
  refine ⟨fun _ h => h, fun x hx => ?_, by omega, Nat.le_trans (nonE_le _) (by omega), ?_⟩
  · obtain ⟨c, hc, d, hd, hne, e⟩ := (mem_gen0 g).mp hx
    exact .base hc hd hne e
  · cases h : gen0 ims with
    | nil => exact .inl rfl
    | cons a l => exact .inr ⟨[a], by simp, fun d hd => by rw [List.mem_singleton.mp hd]; exact List.mem_cons_self, rfl⟩
theorem freshU_len {ims found : List Tx} (h3 : ims.length ≤ 3) : (freshU ims found).length ≤ (nonE found).length * 6 := flat_len fun r _ => next_len h3 r
theorem freshU_nonE {ims found : List Tx} (h3 : ims.length ≤ 3) : (nonE (freshU ims found)).length ≤ (nonE found).length * 3 := by
  unfold freshU
  rw [nonE_flat]
  exact flat_len fun r _ => next_nonE h3 r
theorem Turn.next {sg : Tx} {ims found : List Tx} {t : Nat} (g : Good sg ims) (h : Turn sg ims found t) (hne : freshF ims found ≠ []) : Turn sg ims (found ++ freshF ims found) (t + 1) := by
  have u1 := freshU_len (found := found) g.h3
  have u2 := freshU_nonE (found := found) g.h3
  have f1 : (freshF ims found).length ≤ (freshU ims found).length := List.length_filter_le ..
  have f2 : (nonE (freshF ims found)).length ≤ (nonE (freshU ims found)).length := by
    unfold freshF nonE
    rw [List.filter_filter]
    have : ((freshU ims found).filter fun a => decide (a ≠ []) && decide (a ∉ found)) = ((freshU ims found).filter fun x => decide (x ≠ [])).filter fun x => decide (x ∉ found) := by
      rw [List.filter_filter]
      exact List.filter_congr fun x _ => Bool.and_comm ..
    rw [this]
    exact List.length_filter_le ..
  have e4 : 4 ^ (t + 1) = 4 ^ t * 4 := Nat.pow_succ ..
  have i1 := h.few
  have i2 := h.fewE
  refine ⟨fun x hx => List.mem_append_left _ (h.sub x hx), fun x hx => ?_, ?_, ?_, .inr ?_⟩
  · rcases List.mem_append.mp hx with q | q
    · exact h.rst x q
    · have q := (List.mem_filter.mp q).1
      obtain ⟨r, hr, q⟩ := List.mem_flatMap.mp q
      obtain ⟨hr1, hr2⟩ := mem_nonE.mp hr
      obtain ⟨c, hc, e⟩ := (mem_nextL g).mp q
      exact .step (h.rst r hr1) hr2 hc e
  · rw [List.length_append, e4]; omega
  · have : nonE (found ++ freshF ims found) = nonE found ++ nonE (freshF ims found) := List.filter_append ..
    rw [this, List.length_append, e4]; omega
  · obtain ⟨x, hx⟩ := List.exists_mem_of_ne_nil _ hne
    have hx0 : x ∉ found := of_decide_eq_true (List.mem_filter.mp hx).2
    rcases h.ds with q | ⟨ds, nd, sub, e⟩
    · exfalso
      apply hne
      subst q
      rfl
    · exact ⟨x :: ds, List.nodup_cons.mpr ⟨fun z => hx0 (sub x z), nd⟩, fun d hd => by
        rcases List.mem_cons.mp hd with rfl | hd
        · exact List.mem_append_right _ hx
        · exact List.mem_append_left _ (sub d hd), by rw [List.length_cons, e]⟩
theorem Turn.done {sg : Tx} {ims found : List Tx} {t : Nat} (g : Good sg ims) (h : Turn sg ims found t) (h0 : freshF ims found = []) (x : Tx) : x ∈ found ↔ Rest sg ims x := by
  refine ⟨h.rst x, fun hx => ?_⟩
  induction hx with
  | base hc hd hne e => exact h.sub _ ((mem_gen0 g).mpr ⟨_, hc, _, hd, hne, e⟩)
  | @step c r r' _ hr hc e ih =>
    have : r' ∈ freshU ims found := List.mem_flatMap.mpr ⟨r, mem_nonE.mpr ⟨ih, hr⟩, (mem_nextL g).mpr ⟨c, hc, e⟩⟩
    by_cases q : r' ∈ found
    · exact q
    · exfalso
      have : r' ∈ freshF ims found := List.mem_filter.mpr ⟨this, decide_eq_true q⟩
      rw [h0] at this
      cases this
theorem Turn.small {sg : Tx} {ims found : List Tx} {t : Nat} (g : Good sg ims) (hf : Full ims) (h : Turn sg ims found t) : found.length ≤ 3145728 ∧ (freshU ims found).length ≤ 9437184 := by
  rcases h.le g hf with q | q
  · subst q; exact ⟨Nat.zero_le _, Nat.zero_le _⟩
  · have i1 := h.few
    have i2 := h.fewE
    have u1 := freshU_len (found := found) g.h3
    have : 4 ^ t ≤ 4 ^ 9 := Nat.pow_le_pow_right (by decide) q
    have e : 4 ^ 9 = 262144 := by decide
    omega
theorem lex_irr (a : Tx) : ¬ a < a := List.lt_irrefl a
theorem rise_eq : ∀ {l m : List Tx}, l.Pairwise (· < ·) → m.Pairwise (· < ·) → (∀ x, x ∈ l ↔ x ∈ m) → l = m
  | [], [], _, _, _ => rfl
  | [], b :: m, _, _, h => by have := (h b).mpr List.mem_cons_self; cases this
  | a :: l, [], _, _, h => by have := (h a).mp List.mem_cons_self; cases this
  | a :: l, b :: m, hl, hm, h => by
    rw [List.pairwise_cons] at hl hm
    have e : a = b := by
      rcases List.mem_cons.mp ((h a).mp List.mem_cons_self) with q | q
      · exact q
      · rcases List.mem_cons.mp ((h b).mpr List.mem_cons_self) with p | p
        · exact p.symm
        · exact absurd (List.lt_trans (hl.1 b p) (hm.1 a q)) (lex_irr a)
    subst e
    rw [rise_eq hl.2 hm.2 fun x => ?_]
    constructor
    · intro hx
      rcases List.mem_cons.mp ((h x).mp (List.mem_cons_of_mem _ hx)) with q | q
      · exact absurd (hl.1 x hx) (by rw [q]; exact lex_irr a)
      · exact q
    · intro hx
      rcases List.mem_cons.mp ((h x).mpr (List.mem_cons_of_mem _ hx)) with q | q
      · exact absurd (hm.1 x hx) (by rw [q]; exact lex_irr a)
      · exact q
end K4
namespace K4
abbrev Tri := Tx × Tx × Tx
abbrev Zs := List (Nat × Tx)
def fst1 (p q : Nat × Tx) : List Tri := if p.1 ≠ q.1 ∧ p.2.take q.2.length = q.2 then [(p.2.drop q.2.length, [p.1], [q.1])] else []
def firstT (z : Zs) : List Tri := z.flatMap fun p => z.flatMap fun q => fst1 p q
def nxA (r l s : Tx) (p : Nat × Tx) : List Tri := if r ≠ [] ∧ p.2.take r.length = r then [(p.2.drop r.length, s ++ [p.1], l)] else []
def nxB (r l s : Tx) (p : Nat × Tx) : List Tri := if r.take p.2.length = p.2 then [(r.drop p.2.length, l, s ++ [p.1])] else []
def nextT (z : Zs) (e : Tri) : List Tri := z.flatMap fun p => nxA e.1 e.2.1 e.2.2 p ++ nxB e.1 e.2.1 e.2.2 p
theorem take_pre {b r : Tx} (h : r.take b.length = b) : r = b ++ r.drop b.length := by
  have := List.take_append_drop b.length r
  rw [h] at this
  exact this.symm
theorem Good.zip_mem {sg : Tx} {ims : List Tx} (g : Good sg ims) {c : Nat} {im : Tx} : (c, im) ∈ sg.zip ims ↔ c ∈ sg ∧ im = imgN sg ims c := by
  constructor
  · intro h
    obtain ⟨i, hi⟩ := List.getElem?_of_mem h
    rw [List.getElem?_zip_eq_some] at hi
    refine ⟨List.mem_of_getElem? hi.1, ?_⟩
    have := g.img_at hi.1
    rw [hi.2] at this
    exact Option.some.inj this
  · rintro ⟨hc, rfl⟩
    obtain ⟨i, hi⟩ := List.getElem?_of_mem hc
    refine List.mem_of_getElem? (i := i) ?_
    rw [List.getElem?_zip_eq_some]
    exact ⟨hi, g.img_at hi⟩
theorem Good.zip_len {sg : Tx} {ims : List Tx} (g : Good sg ims) : (sg.zip ims).length ≤ 3 := by
  rw [List.length_zip]; have := g.h3; omega
structure GE (sg : Tx) (ims : List Tx) (n : Nat) (e : Tri) : Prop where
  rst : Rest sg ims e.1
  ol : ∀ c ∈ e.2.1, c ∈ sg
  os : ∀ c ∈ e.2.2, c ∈ sg
  eq : appN sg ims e.2.1 = appN sg ims e.2.2 ++ e.1
  nl : e.2.1 ≠ []
  ns : e.2.2 ≠ []
  hd : e.2.1.head? ≠ e.2.2.head?
  ll : e.2.1.length ≤ n
  ls : e.2.2.length ≤ n
theorem GE.mono {sg : Tx} {ims : List Tx} {m n : Nat} {e : Tri} (h : GE sg ims m e) (hmn : m ≤ n) : GE sg ims n e := ⟨h.rst, h.ol, h.os, h.eq, h.nl, h.ns, h.hd, Nat.le_trans h.ll hmn, Nat.le_trans h.ls hmn⟩
theorem app_cat' (sg : Tx) (ims : List Tx) (u v : Tx) : appN sg ims (u ++ v) = appN sg ims u ++ appN sg ims v := List.flatMap_append ..
theorem app_one (sg : Tx) (ims : List Tx) (c : Nat) : appN sg ims [c] = imgN sg ims c := by rw [app_cons]; show _ ++ [] = _; rw [List.append_nil]
theorem head_app {u v : Tx} (h : u ≠ []) : (u ++ v).head? = u.head? := by cases u with | nil => exact absurd rfl h | cons a u => rfl
theorem ge_first {sg : Tx} {ims : List Tx} (g : Good sg ims) {e : Tri} (h : e ∈ firstT (sg.zip ims)) : GE sg ims 1 e := by
  obtain ⟨⟨c, a⟩, hp, h⟩ := List.mem_flatMap.mp h
  obtain ⟨⟨d, b⟩, hq, h⟩ := List.mem_flatMap.mp h
  obtain ⟨hc, rfl⟩ := g.zip_mem.mp hp
  obtain ⟨hd, rfl⟩ := g.zip_mem.mp hq
  unfold fst1 at h
  split at h
  · rename_i hif
    rw [List.mem_singleton] at h
    subst h
    have e := take_pre hif.2
    dsimp only at e hif ⊢
    refine ⟨.base hc hd hif.1 e, fun x hx => by rw [List.mem_singleton.mp hx]; exact hc, fun x hx => by rw [List.mem_singleton.mp hx]; exact hd, ?_, by simp, by simp, fun q => hif.1 (by simpa using q), Nat.le_refl 1, Nat.le_refl 1⟩
    dsimp only
    rw [app_one, app_one]
    exact e
  · cases h
theorem first_all {sg : Tx} {ims : List Tx} (g : Good sg ims) {c d : Nat} {r : Tx} (hc : c ∈ sg) (hd : d ∈ sg) (hne : c ≠ d) (h : imgN sg ims c = imgN sg ims d ++ r) : ∃ e ∈ firstT (sg.zip ims), e.1 = r := by
  refine ⟨(r, [c], [d]), List.mem_flatMap.mpr ⟨(c, imgN sg ims c), g.zip_mem.mpr ⟨hc, rfl⟩, List.mem_flatMap.mpr ⟨(d, imgN sg ims d), g.zip_mem.mpr ⟨hd, rfl⟩, ?_⟩⟩, rfl⟩
  unfold fst1
  dsimp only
  rw [h, List.take_left, List.drop_left, if_pos ⟨hne, rfl⟩]
  exact List.mem_singleton.mpr rfl
theorem ge_next {sg : Tx} {ims : List Tx} (g : Good sg ims) (hf : Full ims) {n : Nat} {e x : Tri} (he : GE sg ims n e) (h : x ∈ nextT (sg.zip ims) e) : GE sg ims (n + 1) x := by
  obtain ⟨r, l, s⟩ := e
  obtain ⟨⟨c, a⟩, hp, h⟩ := List.mem_flatMap.mp h
  obtain ⟨hc, rfl⟩ := g.zip_mem.mp hp
  have ls := he.ls
  have ll := he.ll
  have os := he.os
  have eq := he.eq
  have ns := he.ns
  have hh := he.hd
  dsimp only at ls ll os eq ns hh
  have os' : ∀ x ∈ s ++ [c], x ∈ sg := fun x hx => by
    rcases List.mem_append.mp hx with q | q
    · exact os x q
    · rw [List.mem_singleton.mp q]; exact hc
  have hne : s ++ [c] ≠ [] := by simp
  have hhd : (s ++ [c]).head? = s.head? := head_app ns
  rcases List.mem_append.mp h with h | h
  · unfold nxA at h
    split at h
    · rename_i hif
      rw [List.mem_singleton] at h
      subst h
      have e := take_pre hif.2
      dsimp only at e hif ⊢
      refine ⟨.step he.rst hif.1 hc (.inl e), os', he.ol, ?_, hne, he.nl, ?_, ?_, Nat.le_succ_of_le ll⟩
      · dsimp only
        rw [app_cat', app_one, eq, List.append_assoc, ← e]
      · dsimp only
        rw [hhd]; exact fun q => hh q.symm
      · dsimp only
        rw [List.length_append]; exact Nat.succ_le_succ ls
    · cases h
  · unfold nxB at h
    split at h
    · rename_i hif
      rw [List.mem_singleton] at h
      subst h
      have e := take_pre hif
      dsimp only at e hif ⊢
      have hr : r ≠ [] := fun q => by
        rw [q] at e
        exact hf _ (img_in g.hl hc) (List.append_eq_nil_iff.mp e.symm).1
      refine ⟨.step he.rst hr hc (.inr e), he.ol, os', ?_, he.nl, hne, ?_, Nat.le_succ_of_le ll, ?_⟩
      · dsimp only
        rw [app_cat', app_one, eq, List.append_assoc, ← e]
      · dsimp only
        rw [hhd]; exact hh
      · dsimp only
        rw [List.length_append]; exact Nat.succ_le_succ ls
    · cases h
theorem next_all {sg : Tx} {ims : List Tx} (g : Good sg ims) {c : Nat} {e : Tri} {r' : Tx} (h0 : e.1 ≠ []) (hc : c ∈ sg) (h : imgN sg ims c = e.1 ++ r' ∨ e.1 = imgN sg ims c ++ r') : ∃ x ∈ nextT (sg.zip ims) e, x.1 = r' := by
  obtain ⟨r, l, s⟩ := e
  dsimp only at h h0
  rcases h with h | h
  · refine ⟨(r', s ++ [c], l), List.mem_flatMap.mpr ⟨(c, imgN sg ims c), g.zip_mem.mpr ⟨hc, rfl⟩, List.mem_append_left _ ?_⟩, rfl⟩
    unfold nxA
    dsimp only
    rw [h, List.take_left, List.drop_left, if_pos ⟨h0, rfl⟩]
    exact List.mem_singleton.mpr rfl
  · refine ⟨(r', l, s ++ [c]), List.mem_flatMap.mpr ⟨(c, imgN sg ims c), g.zip_mem.mpr ⟨hc, rfl⟩, List.mem_append_right _ ?_⟩, rfl⟩
    unfold nxB
    dsimp only
    have h1 : r.take (imgN sg ims c).length = imgN sg ims c := by rw [h, List.take_left]
    have h2 : r.drop (imgN sg ims c).length = r' := by rw [h, List.drop_left]
    rw [if_pos h1, h2]
    exact List.mem_singleton.mpr rfl
theorem first_len {z : Zs} (h : z.length ≤ 3) : (firstT z).length ≤ 9 := by
  have h1 : ∀ p ∈ z, (z.flatMap fun q => fst1 p q).length ≤ 3 := fun p _ => by
    have : (z.flatMap fun q => fst1 p q).length ≤ z.length * 1 := flat_len fun q _ => by unfold fst1; split <;> simp
    omega
  have := flat_len h1
  unfold firstT
  omega
theorem nextT_len {z : Zs} (h : z.length ≤ 3) (e : Tri) : (nextT z e).length ≤ 6 := by
  have : (nextT z e).length ≤ z.length * 2 := flat_len fun p _ => by
    rw [List.length_append]; unfold nxA nxB
    split <;> split <;> simp
  omega
structure WS (sg : Tx) (ims : List Tx) (F W : List Tri) (at_ : Nat) : Prop where
  ge : ∀ e ∈ F, GE sg ims (W.length + 1) e
  nd : (W.map (·.1)).Nodup
  sub : ∀ e ∈ W, e ∈ F
  fst : ∀ e ∈ firstT (sg.zip ims), e ∈ F
  nxt : ∀ e ∈ W, ∀ x ∈ nextT (sg.zip ims) e, x ∈ F
  done : ∀ k e, k < at_ → F[k]? = some e → e.1 ∈ W.map (·.1)
  len : F.length ≤ 9 + 6 * W.length
theorem WS.few {sg : Tx} {ims : List Tx} (g : Good sg ims) (hf : Full ims) {F W : List Tri} {at_ : Nat} (h : WS sg ims F W at_) : W.length ≤ 10 ∧ F.length ≤ 69 := by
  have := rests_few g.hl hf g.h3 g.h4 h.nd fun d hd => by
    obtain ⟨e, he, rfl⟩ := List.mem_map.mp hd
    exact (h.ge e (h.sub e he)).rst
  rw [List.length_map] at this
  have := h.len
  omega
theorem ws0 {sg : Tx} {ims : List Tx} (g : Good sg ims) : WS sg ims (firstT (sg.zip ims)) [] 0 :=
  ⟨fun e he => ge_first g he, List.nodup_nil, (fun _ h => nomatch h), fun _ h => h, (fun _ h => nomatch h), fun _ _ h => absurd h (Nat.not_lt_zero _), first_len g.zip_len⟩
theorem WS.skip {sg : Tx} {ims : List Tx} {F W : List Tri} {at_ : Nat} {e : Tri} (h : WS sg ims F W at_) (he : F[at_]? = some e) (hk : e.1 ∈ W.map (·.1)) : WS sg ims F W (at_ + 1) :=
  ⟨h.ge, h.nd, h.sub, h.fst, h.nxt, fun k x hk1 hx => by
    by_cases q : k = at_
    · subst q; rw [he] at hx; rw [← Option.some.inj hx]; exact hk
    · exact h.done k x (by omega) hx, h.len⟩
theorem WS.put {sg : Tx} {ims : List Tx} (g : Good sg ims) (hf : Full ims) {F W : List Tri} {at_ : Nat} {e : Tri} (h : WS sg ims F W at_) (he : F[at_]? = some e) (hk : e.1 ∉ W.map (·.1)) : WS sg ims (F ++ nextT (sg.zip ims) e) (W ++ [e]) (at_ + 1) := by
  have heF := List.mem_of_getElem? he
  have hlt := (List.getElem?_eq_some_iff.mp he).1
  refine ⟨fun x hx => ?_, ?_, fun x hx => ?_, fun x hx => List.mem_append_left _ (h.fst x hx), fun x hx y hy => ?_, fun k x hk1 hx => ?_, ?_⟩
  · rw [List.length_append]
    rcases List.mem_append.mp hx with q | q
    · exact (h.ge x q).mono (Nat.le_succ _)
    · exact ge_next g hf (h.ge e heF) q
  · rw [List.map_append, List.nodup_append]
    refine ⟨h.nd, by simp, fun a ha b hb q => ?_⟩
    have : b = e.1 := by simpa using hb
    subst q; subst this
    exact hk ha
  · rcases List.mem_append.mp hx with q | q
    · exact List.mem_append_left _ (h.sub x q)
    · rw [List.mem_singleton.mp q]; exact List.mem_append_left _ heF
  · rcases List.mem_append.mp hx with q | q
    · exact List.mem_append_left _ (h.nxt x q y hy)
    · rw [List.mem_singleton.mp q] at hy; exact List.mem_append_right _ hy
  · rw [List.map_append]
    have hkF : k < F.length := by omega
    rw [List.getElem?_append_left hkF] at hx
    by_cases q : k = at_
    · subst q; rw [he] at hx; rw [← Option.some.inj hx]; exact List.mem_append_right _ (by simp)
    · exact List.mem_append_left _ (h.done k x (by omega) hx)
  · have := nextT_len g.zip_len e
    have := h.len
    rw [List.length_append, List.length_append, List.length_singleton]
    omega
theorem WS.all {sg : Tx} {ims : List Tx} (g : Good sg ims) {F W : List Tri} {at_ : Nat} (h : WS sg ims F W at_) (hat : F.length ≤ at_) (r : Tx) : r ∈ W.map (·.1) ↔ Rest sg ims r := by
  have key : ∀ x ∈ F, x.1 ∈ W.map (·.1) := fun x hx => by
    obtain ⟨k, hk⟩ := List.getElem?_of_mem hx
    exact h.done k x (by have := (List.getElem?_eq_some_iff.mp hk).1; omega) hk
  constructor
  · intro hr
    obtain ⟨e, he, rfl⟩ := List.mem_map.mp hr
    exact (h.ge e (h.sub e he)).rst
  · intro hr
    induction hr with
    | base hc hd hne e =>
      obtain ⟨x, hx, rfl⟩ := first_all g hc hd hne e
      exact key x (h.fst x hx)
    | step _ h0 hc e ih =>
      obtain ⟨y, hy, rfl⟩ := List.mem_map.mp ih
      obtain ⟨x, hx, rfl⟩ := next_all g h0 hc e
      exact key x (h.nxt y hy x hx)
end K4
namespace K4
def lvl (sg : Tx) : Nat → List Tx
  | 0 => [[]]
  | n + 1 => (lvl sg n).flatMap fun r => sg.map fun c => r ++ [c]
def upt (sg : Tx) : Nat → List Tx
  | 0 => [[]]
  | n + 1 => upt sg n ++ lvl sg (n + 1)
theorem lvl_mem {sg : Tx} : ∀ {n : Nat} {r : Tx}, r ∈ lvl sg n → r.length = n ∧ ∀ c ∈ r, c ∈ sg
  | 0, r, h => by
    obtain rfl := List.mem_singleton.mp h
    exact ⟨rfl, (fun _ h => nomatch h)⟩
  | n + 1, r, h => by
    obtain ⟨q, hq, h⟩ := List.mem_flatMap.mp h
    obtain ⟨c, hc, rfl⟩ := List.mem_map.mp h
    obtain ⟨h1, h2⟩ := lvl_mem hq
    refine ⟨by rw [List.length_append, h1]; rfl, fun d hd => ?_⟩
    rcases List.mem_append.mp hd with q | q
    · exact h2 d q
    · rw [List.mem_singleton.mp q]; exact hc
theorem lvl_nodup {sg : Tx} (nd : sg.Nodup) : ∀ n : Nat, (lvl sg n).Nodup
  | 0 => by simp [lvl]
  | n + 1 => by
    unfold lvl List.Nodup
    rw [List.pairwise_flatMap]
    refine ⟨fun r _ => List.Pairwise.map _ (fun a b hne e => hne ?_) nd, (lvl_nodup nd n).imp ?_⟩
    · intro a b hne x hx y hy e
      obtain ⟨c, _, rfl⟩ := List.mem_map.mp hx
      obtain ⟨d, _, rfl⟩ := List.mem_map.mp hy
      have := List.append_inj' e rfl
      exact hne this.1
    · have := List.append_cancel_left (show r ++ [a] = r ++ [b] from e)
      simpa using this
theorem lvl_len {sg : Tx} (h3 : sg.length ≤ 3) : ∀ n : Nat, (lvl sg n).length ≤ 3 ^ n
  | 0 => Nat.le_refl _
  | n + 1 => by
    have ih := lvl_len h3 n
    have : (lvl sg (n + 1)).length ≤ (lvl sg n).length * 3 := flat_len fun r _ => by rw [List.length_map]; exact h3
    rw [Nat.pow_succ]
    omega
theorem upt_mem {sg : Tx} : ∀ {n : Nat} {r : Tx}, r ∈ upt sg n → r.length ≤ n ∧ ∀ c ∈ r, c ∈ sg
  | 0, r, h => by
    obtain rfl := List.mem_singleton.mp h
    exact ⟨Nat.le_refl _, (fun _ h => nomatch h)⟩
  | n + 1, r, h => by
    rcases List.mem_append.mp h with h | h
    · have := upt_mem h; exact ⟨by omega, this.2⟩
    · have := lvl_mem h; exact ⟨by omega, this.2⟩
theorem upt_nodup {sg : Tx} (nd : sg.Nodup) : ∀ n : Nat, (upt sg n).Nodup
  | 0 => by simp [upt]
  | n + 1 => by
    show (upt sg n ++ lvl sg (n + 1)).Nodup
    rw [List.nodup_append]
    refine ⟨upt_nodup nd n, lvl_nodup nd (n + 1), fun a ha b hb e => ?_⟩
    have h1 := (upt_mem ha).1
    have h2 := (lvl_mem hb).1
    rw [e] at h1
    omega
theorem upt_len {sg : Tx} (h3 : sg.length ≤ 3) {n : Nat} (h : n ≤ 4) : (upt sg n).length ≤ 121 := by
  have key : ∀ n : Nat, (upt sg n).length * 2 + 1 ≤ 3 ^ (n + 1) := by
    intro n
    induction n with
    | zero => show 1 * 2 + 1 ≤ 3 ^ 1; decide
    | succ n ih =>
      have h1 := lvl_len h3 (n + 1)
      show (upt sg n ++ lvl sg (n + 1)).length * 2 + 1 ≤ _
      rw [List.length_append, Nat.pow_succ]
      omega
  have h1 := key n
  have : 3 ^ (n + 1) ≤ 3 ^ 5 := Nat.pow_le_pow_right (by decide) (by omega)
  have e : 3 ^ 5 = 243 := by decide
  omega
end K4
namespace K4
def OrdN (a b : Tx) : Prop := a.length < b.length ∨ (a.length = b.length ∧ a < b)
theorem lt_tri (a b : Tx) : a < b ∨ a = b ∨ b < a := by
  by_cases h : a < b
  · exact .inl h
  · rcases List.le_iff_lt_or_eq.mp (List.not_lt.mp h) with h | h
    · exact .inr (.inr h)
    · exact .inr (.inl h.symm)
theorem ord_tri (a b : Tx) : OrdN a b ∨ a = b ∨ OrdN b a := by
  rcases Nat.lt_trichotomy a.length b.length with h | h | h
  · exact .inl (.inl h)
  · rcases lt_tri a b with q | q | q
    · exact .inl (.inr ⟨h, q⟩)
    · exact .inr (.inl q)
    · exact .inr (.inr (.inr ⟨h.symm, q⟩))
  · exact .inr (.inr (.inl h))
theorem ord_irr (a : Tx) : ¬ OrdN a a := fun h => h.elim (Nat.lt_irrefl _) fun h => List.lt_irrefl a h.2
theorem ord_trans {a b c : Tx} (h : OrdN a b) (g : OrdN b c) : OrdN a c := by
  rcases h with h | ⟨h1, h2⟩ <;> rcases g with g | ⟨g1, g2⟩
  · exact .inl (by omega)
  · exact .inl (by omega)
  · exact .inl (by omega)
  · exact .inr ⟨by omega, List.lt_trans h2 g2⟩
theorem ord_not {m x v : Tx} (h1 : ¬ OrdN x m) (h2 : ¬ OrdN v x) : ¬ OrdN v m := fun h => by
  rcases ord_tri x v with q | q | q
  · exact h1 (ord_trans q h)
  · exact h1 (q ▸ h)
  · exact h2 q
structure Least (sg : Tx) (ims : List Tx) (w u : Tx) : Prop where
  ov : ∀ c ∈ u, c ∈ sg
  im : appN sg ims u = w
  lo : ∀ v : Tx, (∀ c ∈ v, c ∈ sg) → appN sg ims v = w → ¬ OrdN v u
  le : u.length ≤ w.length
theorem Least.uniq {sg : Tx} {ims : List Tx} {w u v : Tx} (h : Least sg ims w u) (g : Least sg ims w v) : u = v := by
  rcases ord_tri u v with q | q | q
  · exact absurd q (g.lo u h.ov h.im)
  · exact q
  · exact absurd q (h.lo v g.ov g.im)
theorem least_nil (sg : Tx) (ims : List Tx) : Least sg ims [] [] := by
  refine ⟨(fun _ h => nomatch h), rfl, fun v _ _ h => ?_, Nat.le_refl _⟩
  rcases h with h | ⟨_, h⟩
  · exact Nat.not_lt_zero _ h
  · exact absurd h (List.not_lt_nil v)
def AtP (sg : Tx) (ims : List Tx) (w : Tx) (o : Option Tx) : Prop := match o with
  | some u => Least sg ims w u
  | none => ∀ v : Tx, (∀ c ∈ v, c ∈ sg) → appN sg ims v ≠ w
def cand (row : Tx) (p : Nat) (d : Nat → Option Tx) (z : Zs) : List Tx := z.flatMap fun e => if (row.drop p).take e.2.length = e.2 then (match d (p + e.2.length) with | some u => [e.1 :: u] | none => []) else []
theorem strip {sg : Tx} {ims : List Tx} : ∀ {v : Tx}, appN sg ims v ≠ [] → ∃ v1 c v2, v = v1 ++ c :: v2 ∧ appN sg ims v1 = [] ∧ imgN sg ims c ≠ []
  | [], h => absurd rfl h
  | c :: v, h => by
    by_cases hc : imgN sg ims c = []
    · rw [app_cons, hc, List.nil_append] at h
      obtain ⟨v1, d, v2, rfl, h1, h2⟩ := strip h
      exact ⟨c :: v1, d, v2, rfl, by rw [app_cons, hc, h1]; rfl, h2⟩
    · exact ⟨[], c, v, rfl, rfl, hc⟩
def zNe (z : Zs) : Zs := z.filter fun e => decide (e.2 ≠ [])
theorem cand_ok {sg : Tx} {ims : List Tx} (g : Good sg ims) {row : Tx} {p : Nat} (hp : p < row.length) {d : Nat → Option Tx} (hd : ∀ q, p < q → q ≤ row.length → AtP sg ims (row.drop q) (d q)) {x : Tx} (hx : x ∈ cand row p d (zNe (sg.zip ims))) :
    (∀ c ∈ x, c ∈ sg) ∧ appN sg ims x = row.drop p ∧ x.length ≤ (row.drop p).length := by
  obtain ⟨⟨c, im⟩, he, h⟩ := List.mem_flatMap.mp hx
  obtain ⟨he, hne⟩ := List.mem_filter.mp he
  have hne : im ≠ [] := of_decide_eq_true hne
  obtain ⟨hc, rfl⟩ := g.zip_mem.mp he
  dsimp only at h
  split at h
  · rename_i hpre
    have e := take_pre hpre
    have hpos := List.length_pos_iff.mpr hne
    have hl := congrArg List.length e
    rw [List.length_append, List.length_drop, List.length_drop, List.length_drop] at hl
    have hq := hd (p + (imgN sg ims c).length) (by omega) (by omega)
    cases hdq : d (p + (imgN sg ims c).length) with
    | none => rw [hdq] at h; cases h
    | some u =>
      rw [hdq] at h hq
      have hq : Least sg ims _ u := hq
      rw [List.mem_singleton] at h
      subst h
      refine ⟨fun b hb => ?_, ?_, ?_⟩
      · rcases List.mem_cons.mp hb with rfl | hb
        · exact hc
        · exact hq.ov b hb
      · rw [app_cons, hq.im, e, List.drop_drop]
      · have := hq.le
        rw [List.length_drop] at this ⊢
        rw [List.length_cons]
        omega
  · cases h
theorem not_ord_len {a b : Tx} (h : ¬ OrdN a b) : b.length ≤ a.length := by
  by_cases q : a.length < b.length
  · exact absurd (.inl q) h
  · omega
theorem cand_all {sg : Tx} {ims : List Tx} (g : Good sg ims) {row : Tx} {p : Nat} (hp : p < row.length) {d : Nat → Option Tx} (hd : ∀ q, p < q → q ≤ row.length → AtP sg ims (row.drop q) (d q)) {v : Tx} (hv : ∀ c ∈ v, c ∈ sg) (he : appN sg ims v = row.drop p) :
    ∃ x ∈ cand row p d (zNe (sg.zip ims)), ¬ OrdN v x := by
  have hne : row.drop p ≠ [] := fun q => by have := congrArg List.length q; rw [List.length_drop] at this; simp at this; omega
  obtain ⟨v1, c, v2, rfl, h1, h2⟩ := strip (by rw [he]; exact hne)
  have hc := hv c (List.mem_append_right _ List.mem_cons_self)
  have hv2 : ∀ b ∈ v2, b ∈ sg := fun b hb => hv b (List.mem_append_right _ (List.mem_cons_of_mem _ hb))
  have e : row.drop p = imgN sg ims c ++ appN sg ims v2 := by rw [← he, app_cat', h1, List.nil_append, app_cons]
  have hpos := List.length_pos_iff.mpr h2
  have hl := congrArg List.length e
  rw [List.length_append, List.length_drop] at hl
  have e2 : row.drop (p + (imgN sg ims c).length) = appN sg ims v2 := by rw [← List.drop_drop, e, List.drop_left]
  have hq := hd (p + (imgN sg ims c).length) (by omega) (by omega)
  cases hdq : d (p + (imgN sg ims c).length) with
  | none =>
    rw [hdq, e2] at hq
    exact absurd rfl (hq v2 hv2)
  | some u =>
    rw [hdq, e2] at hq
    have hq : Least sg ims (appN sg ims v2) u := hq
    have hlo := hq.lo v2 hv2 rfl
    have hul := not_ord_len hlo
    refine ⟨c :: u, List.mem_flatMap.mpr ⟨(c, imgN sg ims c), List.mem_filter.mpr ⟨g.zip_mem.mpr ⟨hc, rfl⟩, decide_eq_true h2⟩, ?_⟩, fun ho => ?_⟩
    · dsimp only
      rw [if_pos (by rw [e, List.take_left]), hdq]
      exact List.mem_singleton.mpr rfl
    · rcases ho with ho | ⟨ho, hlt⟩
      · rw [List.length_append, List.length_cons, List.length_cons] at ho
        omega
      · rw [List.length_append, List.length_cons, List.length_cons] at ho
        have : v1 = [] := List.length_eq_zero_iff.mp (by omega)
        subst this
        rw [List.nil_append, List.cons_lt_cons_iff] at hlt
        rcases hlt with hlt | ⟨_, hlt⟩
        · exact absurd hlt (Nat.lt_irrefl _)
        · exact hlo (.inr ⟨by simp at ho; omega, hlt⟩)
theorem cand_least {sg : Tx} {ims : List Tx} (g : Good sg ims) {row : Tx} {p : Nat} (hp : p < row.length) {d : Nat → Option Tx} (hd : ∀ q, p < q → q ≤ row.length → AtP sg ims (row.drop q) (d q)) {m : Tx} (hm : m ∈ cand row p d (zNe (sg.zip ims))) (hlo : ∀ y ∈ cand row p d (zNe (sg.zip ims)), ¬ OrdN y m) : AtP sg ims (row.drop p) (some m) := by
  obtain ⟨h1, h2, h3⟩ := cand_ok g hp hd hm
  exact ⟨h1, h2, fun v hv he => let ⟨x, hx, hn⟩ := cand_all g hp hd hv he; ord_not (hlo x hx) hn, h3⟩
theorem cand_none {sg : Tx} {ims : List Tx} (g : Good sg ims) {row : Tx} {p : Nat} (hp : p < row.length) {d : Nat → Option Tx} (hd : ∀ q, p < q → q ≤ row.length → AtP sg ims (row.drop q) (d q)) (h0 : cand row p d (zNe (sg.zip ims)) = []) : AtP sg ims (row.drop p) none := fun v hv he => by
  obtain ⟨x, hx, _⟩ := cand_all g hp hd hv he
  rw [h0] at hx; cases hx
theorem app_lt : ∀ {a b x y : Tx}, a < b → a.length = b.length → a ++ x < b ++ y
  | [], [], _, _, h, _ => absurd h (List.lt_irrefl _)
  | [], _ :: _, _, _, _, h => by simp at h
  | _ :: _, [], _, _, _, h => by simp at h
  | a :: l, b :: m, x, y, h, hl => by
    rw [List.cons_lt_cons_iff] at h
    rw [List.cons_append, List.cons_append, List.cons_lt_cons_iff]
    rcases h with h | ⟨h1, h2⟩
    · exact .inl h
    · exact .inr ⟨h1, app_lt h2 (by simpa using hl)⟩
theorem left_lt : ∀ {r x y : Tx}, x < y → r ++ x < r ++ y
  | [], _, _, h => h
  | a :: r, _, _, h => by
    rw [List.cons_append, List.cons_append, List.cons_lt_cons_iff]
    exact .inr ⟨rfl, left_lt h⟩
theorem lvl_sorted {sg : Tx} (hs : sg.Pairwise (· < ·)) : ∀ n : Nat, (lvl sg n).Pairwise (· < ·)
  | 0 => by simp [lvl]
  | n + 1 => by
    unfold lvl
    rw [List.pairwise_flatMap]
    refine ⟨fun r _ => ?_, (List.Pairwise.and_mem.mp (lvl_sorted hs n)).imp ?_⟩
    · rw [List.pairwise_map]
      exact hs.imp fun {a b} h => left_lt (by rw [List.cons_lt_cons_iff]; exact .inl h)
    · rintro a b ⟨ha, hb, hlt⟩ x hx y hy
      obtain ⟨c, _, rfl⟩ := List.mem_map.mp hx
      obtain ⟨d, _, rfl⟩ := List.mem_map.mp hy
      exact app_lt hlt ((lvl_mem ha).1.trans (lvl_mem hb).1.symm)
theorem upt_sorted {sg : Tx} (hs : sg.Pairwise (· < ·)) : ∀ n : Nat, (upt sg n).Pairwise OrdN
  | 0 => by simp [upt]
  | n + 1 => by
    show (upt sg n ++ lvl sg (n + 1)).Pairwise OrdN
    rw [List.pairwise_append]
    refine ⟨upt_sorted hs n, (List.Pairwise.and_mem.mp (lvl_sorted hs (n + 1))).imp fun {a b} ⟨ha, hb, h⟩ => .inr ⟨(lvl_mem ha).1.trans (lvl_mem hb).1.symm, h⟩, fun a ha b hb => .inl ?_⟩
    have h1 := (upt_mem ha).1
    have h2 := (lvl_mem hb).1
    omega
theorem lvl_all {sg : Tx} : ∀ {n : Nat} {r : Tx}, r.length = n → (∀ c ∈ r, c ∈ sg) → r ∈ lvl sg n
  | 0, r, h, _ => by rw [List.length_eq_zero_iff.mp h]; exact List.mem_singleton.mpr rfl
  | n + 1, r, h, ho => by
    rcases List.eq_nil_or_concat r with rfl | ⟨q, c, rfl⟩
    · simp at h
    · rw [List.concat_eq_append] at h ho ⊢
      rw [List.length_append] at h
      exact List.mem_flatMap.mpr ⟨q, lvl_all (by simpa using h) fun d hd => ho d (List.mem_append_left _ hd), List.mem_map.mpr ⟨c, ho c (by simp), rfl⟩⟩
theorem upt_all {sg : Tx} : ∀ {n : Nat} {r : Tx}, r.length ≤ n → (∀ c ∈ r, c ∈ sg) → r ∈ upt sg n
  | 0, r, h, _ => by rw [List.length_eq_zero_iff.mp (Nat.le_zero.mp h)]; exact List.mem_singleton.mpr rfl
  | n + 1, r, h, ho => by
    by_cases q : r.length ≤ n
    · exact List.mem_append_left _ (upt_all q ho)
    · exact List.mem_append_right _ (lvl_all (by omega) ho)
def allOf (sg : Tx) (ims : List Tx) (N : Nat) (w : Tx) : List Tx := (upt sg N).filter fun r => decide (appN sg ims r = w)
theorem mem_allOf {sg : Tx} {ims : List Tx} {N : Nat} {w r : Tx} : r ∈ allOf sg ims N w ↔ r ∈ upt sg N ∧ appN sg ims r = w := by
  unfold allOf; rw [List.mem_filter, decide_eq_true_eq]
theorem least_short {sg : Tx} {ims : List Tx} {N : Nat} {w u : Tx} (h : Least sg ims w u) (hu : u.length ≤ N) : u ∈ allOf sg ims N w := mem_allOf.mpr ⟨upt_all hu h.ov, h.im⟩
theorem first_least {sg : Tx} {ims : List Tx} (hs : sg.Pairwise (· < ·)) {N : Nat} {w u x : Tx} {l : List Tx} (h : Least sg ims w u) (e : allOf sg ims N w = x :: l) : x = u := by
  have hx : x ∈ allOf sg ims N w := by rw [e]; exact List.mem_cons_self
  obtain ⟨hx1, hx2⟩ := mem_allOf.mp hx
  have hxu := upt_mem hx1
  have hn := h.lo x hxu.2 hx2
  have hul := not_ord_len hn
  have hu := least_short (N := N) h (by omega)
  rw [e] at hu
  rcases List.mem_cons.mp hu with q | q
  · exact q.symm
  · have hp : (allOf sg ims N w).Pairwise OrdN := (upt_sorted hs N).filter _
    rw [e, List.pairwise_cons] at hp
    exact absurd (hp.1 u q) hn
def pos (sg : Tx) (ims : List Tx) (row r : Tx) : Option Nat := if row.take (appN sg ims r).length = appN sg ims r then some (appN sg ims r).length else none
def stepP (row : Tx) (ims : List Tx) (p : Nat) : List Nat := ims.filterMap fun im => if (row.drop p).take im.length = im then some (p + im.length) else none
def posL (row : Tx) (ims : List Tx) : Nat → List Nat
  | 0 => [0]
  | k + 1 => (posL row ims k).flatMap (stepP row ims)
theorem pre_append {row a b : Tx} : row.take (a ++ b).length = a ++ b ↔ row.take a.length = a ∧ (row.drop a.length).take b.length = b := by
  constructor
  · intro h
    have e := take_pre h
    rw [List.append_assoc] at e
    refine ⟨by rw [e, List.take_left], by rw [e, List.drop_left, List.take_left]⟩
  · rintro ⟨h1, h2⟩
    have e1 := take_pre h1
    have e2 := take_pre h2
    rw [e2, ← List.append_assoc] at e1
    rw [e1, List.take_left]
theorem pos_next {sg : Tx} {ims : List Tx} {row r : Tx} {c : Nat} : pos sg ims row (r ++ [c]) = (pos sg ims row r).bind fun p => if (row.drop p).take (imgN sg ims c).length = imgN sg ims c then some (p + (imgN sg ims c).length) else none := by
  unfold pos
  rw [app_cat', app_one]
  by_cases h1 : row.take (appN sg ims r).length = appN sg ims r
  · rw [if_pos h1, Option.bind_some]
    by_cases h2 : (row.drop (appN sg ims r).length).take (imgN sg ims c).length = imgN sg ims c
    · rw [if_pos h2, if_pos (pre_append.mpr ⟨h1, h2⟩), List.length_append]
    · rw [if_neg h2, if_neg fun h => h2 (pre_append.mp h).2]
  · rw [if_neg h1, if_neg fun h => h1 (pre_append.mp h).1]; rfl
theorem imgs_of {sg : Tx} {ims : List Tx} (g : Good sg ims) : sg.map (imgN sg ims) = ims := by
  apply List.ext_getElem?
  intro i
  rw [List.getElem?_map]
  cases h : sg[i]? with
  | some c => rw [g.img_at h]; rfl
  | none =>
    have : sg.length ≤ i := List.getElem?_eq_none_iff.mp h
    rw [List.getElem?_eq_none (by have := g.hl; omega)]; rfl
theorem posL_eq {sg : Tx} {ims : List Tx} (g : Good sg ims) {row : Tx} : ∀ k : Nat, posL row ims k = (lvl sg k).filterMap (pos sg ims row)
  | 0 => by
    show [0] = _
    unfold lvl pos
    rfl
  | k + 1 => by
    unfold posL lvl
    rw [posL_eq g k]
    generalize lvl sg k = l
    induction l with
    | nil => rfl
    | cons r l ih =>
      rw [List.flatMap_cons, List.filterMap_append, ← ih, List.filterMap_cons]
      have e : (sg.map fun c => r ++ [c]).filterMap (pos sg ims row) = match pos sg ims row r with | some p => stepP row ims p | none => [] := by
        rw [List.filterMap_map]
        have ef : (pos sg ims row ∘ fun c => r ++ [c]) = fun c => (pos sg ims row r).bind fun p => if (row.drop p).take (imgN sg ims c).length = imgN sg ims c then some (p + (imgN sg ims c).length) else none := funext fun c => pos_next
        rw [ef]
        cases pos sg ims row r with
        | none => exact List.filterMap_eq_nil_iff.mpr fun _ _ => rfl
        | some p =>
          show sg.filterMap (fun c => if (row.drop p).take (imgN sg ims c).length = imgN sg ims c then some (p + (imgN sg ims c).length) else none) = stepP row ims p
          unfold stepP
          conv => rhs; rw [← imgs_of g, List.filterMap_map]
          rfl
      rw [e]
      cases pos sg ims row r with
      | none => rfl
      | some p => exact List.flatMap_cons ..
theorem pos_all {sg : Tx} {ims : List Tx} {row r : Tx} : pos sg ims row r = some row.length ↔ appN sg ims r = row := by
  unfold pos
  constructor
  · intro h
    split at h
    · rename_i e
      have h := Option.some.inj h
      rw [h, List.take_length] at e
      exact e.symm
    · cases h
  · rintro rfl
    rw [List.take_length, if_pos rfl]
theorem count_pos {sg : Tx} {ims : List Tx} (g : Good sg ims) {row : Tx} (k : Nat) : (posL row ims k).count row.length = (lvl sg k).countP fun r => decide (appN sg ims r = row) := by
  rw [posL_eq g]
  generalize lvl sg k = l
  induction l with
  | nil => rfl
  | cons r l ih =>
    rw [List.filterMap_cons, List.countP_cons, ← ih]
    by_cases h : appN sg ims r = row
    · rw [pos_all.mpr h, decide_eq_true h]
      simp
    · rw [decide_eq_false h]
      cases hp : pos sg ims row r with
      | none => rfl
      | some p =>
        have : p ≠ row.length := fun q => h (pos_all.mp (by rw [hp, q]))
        simp [List.count_cons, this]
def total (row : Tx) (ims : List Tx) : Nat → Nat
  | 0 => 0
  | k + 1 => total row ims k + (posL row ims k).count row.length
theorem posL_nil {row : Tx} {ims : List Tx} {i : Nat} (h : posL row ims i = []) : ∀ j, i ≤ j → posL row ims j = []
  | 0, hj => by rw [Nat.le_zero.mp hj] at h; exact h
  | j + 1, hj => by
    by_cases q : i ≤ j
    · show (posL row ims j).flatMap _ = []
      rw [posL_nil h j q]; rfl
    · rw [show j + 1 = i by omega]; exact h
theorem total_end {row : Tx} {ims : List Tx} {i : Nat} (h : posL row ims i = []) : ∀ j, i ≤ j → total row ims j = total row ims i
  | 0, hj => by rw [Nat.le_zero.mp hj]
  | j + 1, hj => by
    by_cases q : i ≤ j
    · show total row ims j + (posL row ims j).count row.length = _
      rw [total_end h j q, posL_nil h j q]; rfl
    · rw [show j + 1 = i by omega]
theorem total_eq {sg : Tx} {ims : List Tx} (g : Good sg ims) {row : Tx} {m : Nat} : ∀ N : Nat, m ≤ N → ((allOf sg ims N row).filter fun r => decide (r.length ≤ m)).length = total row ims (m + 1) := by
  have lv : ∀ k, ((lvl sg k).filter fun r => decide (appN sg ims r = row)).length = (posL row ims k).count row.length := fun k => by rw [count_pos g, List.countP_eq_length_filter]
  have same : ∀ N, N ≤ m → ((allOf sg ims N row).filter fun r => decide (r.length ≤ m)) = allOf sg ims N row := fun N hN => List.filter_eq_self.mpr fun r hr => decide_eq_true (Nat.le_trans (upt_mem (mem_allOf.mp hr).1).1 hN)
  have up : ∀ N, (allOf sg ims N row).length = total row ims (N + 1) := by
    intro N
    induction N with
    | zero =>
      show ((lvl sg 0).filter fun r => decide (appN sg ims r = row)).length = 0 + _
      rw [lv 0, Nat.zero_add]
    | succ N ih =>
      have e : allOf sg ims (N + 1) row = allOf sg ims N row ++ (lvl sg (N + 1)).filter fun r => decide (appN sg ims r = row) := List.filter_append ..
      rw [e, List.length_append, ih, lv]; rfl
  intro N hN
  induction N with
  | zero => rw [same 0 (Nat.zero_le _), up, Nat.le_zero.mp hN]
  | succ N ih =>
    by_cases q : m ≤ N
    · have e : allOf sg ims (N + 1) row = allOf sg ims N row ++ (lvl sg (N + 1)).filter fun r => decide (appN sg ims r = row) := List.filter_append ..
      have z : (((lvl sg (N + 1)).filter fun r => decide (appN sg ims r = row)).filter fun r => decide (r.length ≤ m)) = [] := List.filter_eq_nil_iff.mpr fun r hr => by
        have := (lvl_mem (List.mem_filter.mp hr).1).1
        simp; omega
      rw [e, List.filter_append, z, List.append_nil, ih q]
    · have : m = N + 1 := by omega
      subst this
      rw [same _ (Nat.le_refl _), up]
end K4
set_option maxHeartbeats 2000000
namespace LX
open PySem PySem.Spec PyProof.Rows L2 C8 SX
section
variable {X : Cx}
theorem op_isBl : OpR X (compareOp .Is) (fun x y H Q => ∃ a b, x = .bl a ∧ y = .bl b ∧ Q (.bl (decide (a = b))) H) := by
  intro pins s σ H x y v u Q I rx ry h
  obtain ⟨a, b, rfl, rfl, q⟩ := h
  cases rx; cases ry
  refine wpAny_is_plain rfl (fin_bl I q ?_)
  cases a <;> cases b <;> rfl
theorem op_isnotBl : OpR X (compareOp .IsNot) (fun x y H Q => ∃ a b, x = .bl a ∧ y = .bl b ∧ Q (.bl (!decide (a = b))) H) := by
  intro pins s σ H x y v u Q I rx ry h
  obtain ⟨a, b, rfl, rfl, q⟩ := h
  cases rx; cases ry
  refine wpAny_isNot_plain rfl (fin_bl I q ?_)
  cases a <;> cases b <;> rfl
end
end LX
set_option maxHeartbeats 2000000
namespace LX
open PySem PySem.Spec PyProof.Rows L2 C8 SX
theorem starts_pre (r b : List Nat) : Txt.startswith (S r) (S b) = decide (r.take b.length = b) := by
  unfold Txt.startswith
  rw [PySem.StrLaws.subAt_eq]
  have e1 : (S r).cps.toList = r := by simp [S]
  have e2 : (S b).cps.toList = b := by simp [S]
  rw [e1, e2, S_len, S_len, List.drop_zero]
  by_cases h : r.take b.length = b
  · have hl := congrArg List.length h
    rw [List.length_take] at hl
    rw [h, beq_self_eq_true, Bool.and_true, decide_eq_true (p := (0 + b.length ≤ r.length)) (by omega)]
    simp
  · have : (r.take b.length == b) = false := by simpa using h
    rw [this, Bool.and_false, decide_eq_false h]
theorem cutb_from (r b : List Nat) : Txt.slice (S r) (some ((S b).length : Int)) none = S (r.drop b.length) := by
  rw [slice_from (by omega), S_len]; rfl
theorem cutb_to (r b : List Nat) : Txt.slice (S r) none (some ((S b).length : Int)) = S (r.take b.length) := by
  rw [slice_to (by omega), S_len]; rfl
theorem S_iff {a b : List Nat} : V.str (S a) = V.str (S b) ↔ a = b := ⟨fun h => by simpa [S] using V.str.inj h, fun h => by rw [h]⟩
end LX
set_option maxHeartbeats 2000000
namespace Toy
open PySem L2 C8 SX LX K4
local macro_rules | `(tactic| walk_at "c") => `(tactic| refine And.intro (by first | (show (0 : Int) < _; omega) | exact Or.inr ⟨by decide, by decide⟩ | exact Or.inl ⟨by decide, by decide⟩ | (exact ⟨by omega, by omega⟩)) ?_)
local macro_rules | `(tactic| walk_at "s1") => `(tactic| first | refine ⟨_, rfl, ?_⟩ | refine ⟨_, _, rfl, rfl, ?_⟩ | refine .inl ⟨_, rfl, ?_⟩ | walk_at "c")
local macro_rules | `(tactic| walk_at "ix") => `(tactic| refine ⟨_, _, _, _, rfl, rfl, SqL.of (by first | assumption | exact upd_same), rfl, ?_⟩)
local macro_rules | `(tactic| walk_at "s") => `(tactic| repeat (walk_at "s1"))
theorem img_get {sg : List Nat} {ims : List (List Nat)} {c : Nat} (hl : ims.length = sg.length) (hc : c ∈ sg) : ims[sg.idxOf c]? = some (img sg ims c) := by
  have h := List.idxOf_lt_length_of_mem hc
  unfold img
  rw [List.getD_eq_getElem?_getD, List.getElem?_eq_getElem (by omega)]
  rfl
theorem img_mem {sg : List Nat} {ims : List (List Nat)} {c : Nat} (hl : ims.length = sg.length) (hc : c ∈ sg) : img sg ims c ∈ ims := List.mem_of_getElem? (img_get hl hc)
theorem app_flat (sg : List Nat) (ims : List (List Nat)) (l : List Nat) : app sg ims l = (l.map (img sg ims)).flatten := List.flatMap_def ..
theorem sum_le {m : Nat} : ∀ {ys : List (List Nat)}, (∀ l ∈ ys, l.length ≤ m) → ((ys.map S).map (·.length)).sum ≤ ys.length * m
  | [], _ => by simp
  | y :: ys, h => by
    have ih := sum_le (m := m) (ys := ys) fun l hl => h l (List.mem_cons_of_mem _ hl)
    have h0 := h y List.mem_cons_self
    simp only [List.map_cons, List.sum_cons, List.length_cons]
    rw [S_len, Nat.add_mul]
    omega
theorem join_ok {m n : Nat} {ys : List (List Nat)} (h : ∀ l ∈ ys, l.length ≤ m) (hn : ys.length ≤ n) (hm : n * m ≤ 16000000) : ((ys.map S).map (·.length)).sum + (ys.map S).length * (Str.ofString "").length ≤ 16777216 := by
  rw [s_nil, S_len]
  have := sum_le h
  have h2 : ys.length * m ≤ n * m := Nat.mul_le_mul_right _ hn
  simp only [List.length_nil, Nat.mul_zero, Nat.add_zero]
  omega
theorem txs_get {ims : List (List Nat)} {i : Nat} {x : V} (h : (txs ims)[i]? = some x) : ∃ l, ims[i]? = some l ∧ x = .str (S l) := by
  unfold txs at h
  rw [List.getElem?_map] at h
  cases q : ims[i]? with
  | none => rw [q] at h; cases h
  | some l => rw [q] at h; exact ⟨l, rfl, (Option.some.inj h).symm⟩
theorem chr_get {sg : List Nat} {i : Nat} {x : V} (h : (sg.map fun c => V.str (S [c]))[i]? = some x) : ∃ c, sg[i]? = some c ∧ x = .str (S [c]) := by
  rw [List.getElem?_map] at h
  cases q : sg[i]? with
  | none => rw [q] at h; cases h
  | some l => rw [q] at h; exact ⟨l, rfl, (Option.some.inj h).symm⟩
structure Gd (sg : List Nat) (ims : List (List Nat)) : Prop where
  mn : Menu sg
  im : Ims sg ims 4
theorem Gd.good {sg : List Nat} {ims : List (List Nat)} (g : Gd sg ims) : Good sg ims :=
  ⟨menu_nodup g.mn, g.im.1, by rw [g.im.1]; exact (menu_len g.mn).2, fun l hl => (g.im.2 l hl).2⟩
theorem img_eq (sg : List Nat) (ims : List (List Nat)) : imgN sg ims = img sg ims := rfl
theorem app_eq (sg : List Nat) (ims : List (List Nat)) : appN sg ims = app sg ims := rfl
section
variable {P : Program} {w : World} {K : PySem.W.Frag} {mg : Str → Option Value} {base : Heap}
abbrev s_image : Stmt := top 35
abbrev n_image : List Str := ["_law_signs_here", "_law_images_here", "_law_row_here", "_law_sign"]
theorem sc_image : FnScope n_image ["_law_signs_here", "_law_images_here", "_law_row_here"] (fnScope s_image) := fnScope_by (by decide +kernel)
def spImage : PySem.W.Frag → Sp := fun K vs H Q _ => ∃ (sg : List Nat) (p : Addr) (ims : List (List Nat)) (l : List Nat), vs = [.str (S sg), .ref p, .str (S l)] ∧ SqL K H p (txs ims) ∧ Gd sg ims ∧ Ov sg l ∧ l.length ≤ 1000 ∧
  ∀ H', Same H H' → Q (.str (S (app sg ims l))) H'
theorem ok_image (T : BT mg) {f : Addr} {fd : FuncData} (F : Def K mg "_law_image" s_image f fd) (b : Binds K fd ["_law_signs_here", "_law_images_here", "_law_row_here"] []) : Cal P w K mg base 1 "_law_image" (spImage K) [] := by
  refine cal0 F b .nil sc_image (fun vs H Q E h => ?_) (fun cdv A outer s H vs Q E hr h => ?_)
  · obtain ⟨sg, p, ims, l, rfl, _⟩ := h; rfl
  · obtain ⟨sg, p, ims, l, rfl, hp, g, ho, hl, k⟩ := h
    have hi := g.im
    refine ⟨_, (pss_one (ps_ret (pe_join pe_str (pe_lc (own := [("_law_sign", 3)]) rfl sc_image.nd (pi_str (pv 2)) (blkOk_by (N := n_image) (sc := fnScope s_image) (by decide +kernel)) (fun _ _ _ _ _ => (pg_name (i := 3) sc_image.nd rfl (.inl rfl))) (fun _ _ _ _ _ => pts_nil) (fun _ _ _ _ _ => (pe_ix (ixl K) (pv 1) (pe_m1 PySem.F.slot_str_index PySem.F.type_str_index mt_sindex (pv 0) (pv 3)) (fun _ _ => rfl))))))
      ), ?_⟩
    refine ⟨⟨_, rfl⟩, ?_⟩
    walk_at "s"
    refine fun D hD => lc_keep keep_same walk_str hD (by show l.length < sizeLine; exact small1000 hl) (fun j y => ∀ c, l[j]? = some c → y = .str (S (img sg ims c))) (fun _ _ => trivial) (fun i x H2 H3 R hii r hy hR => ?_) (fun ys H2 hly hg r hDs => ?_)
    · obtain ⟨rfl, c, hc, rfl⟩ := hy
      have hc' : l[i]? = some c := by simpa [S] using hc
      have hcs : c ∈ sg := ho c (List.mem_of_getElem? hc')
      obtain ⟨rest, hocc⟩ := occ_idx hcs
      refine ⟨rfl, ?_⟩
      walk_at "s"
      refine ⟨⟨_, rfl⟩, _, rfl, _, _, _, rest, rfl, rfl, hocc, ?_⟩
      refine ⟨_, _, _, .str (S (img sg ims c)), rfl, rfl, r.seq hp, at_of rfl ?_, hR _ _ (Same.refl _) fun d hd => ?_⟩
      · unfold txs; rw [List.getElem?_map, img_get hi.1 hcs]; rfl
      · rw [hc'] at hd; rw [Option.some.inj hd]
    · have e : ys = txs (l.map (img sg ims)) := by
        unfold txs; rw [List.map_map]
        exact list_map hly fun j y c e1 e2 => hg j y e1 c e2
      subst e
      refine ⟨_, D, (l.map (img sg ims)).map S, rfl, rfl, .inl (SqL.of (by rw [List.map_map]; exact hDs)), join_ok (m := 1000) (n := 1000) (fun z hz => ?_) (by simpa using hl) (by decide), ?_⟩
      · obtain ⟨c, hc, rfl⟩ := List.mem_map.mp hz
        have := (hi.2 _ (img_mem hi.1 (ho c hc))).2; omega
      · show Q (.str (Txt.join (Str.ofString "") ((l.map (img sg ims)).map S))) H2
        rw [s_nil, join_txs, ← app_flat]
        exact k H2 r
abbrev s_of : Stmt := inClass (top 15) 4
abbrev n_of : List Str := ["self", "row", "sign"]
theorem sc_of : FnScope n_of ["self", "row"] (fnScope s_of) := fnScope_by (by decide +kernel)
def spOf (K : PySem.W.Frag) (C : Addr) : Sp := fun vs H Q _ => ∃ (a : Addr) (sg : List Nat) (ims : List (List Nat)) (l : List Nat), vs = [.ref a, .str (S l)] ∧ Chg K C H a sg ims ∧ Gd sg ims ∧ Ov sg l ∧ l.length ≤ 1000 ∧
  ∀ H', Same H H' → Q (.str (S (app sg ims l))) H'
theorem fn_of {C : Addr} (T : BT mg) (CH : CC K C) {f : Addr} {fd : FuncData} (F : C8.Fun K "of" "Change.of" s_of f fd) : FnOk P w K mg base C8.CX0 1 f fd ["self", "row"] (spOf K C) := by
  refine fn0 F sc_of (fun vs H Q E h => ?_) (fun cdv A outer s H vs Q E hr h => ?_)
  · obtain ⟨a, sg, ims, l, rfl, _⟩ := h; rfl
  · obtain ⟨a, sg, ims, l, rfl, ⟨dx, r, ha, hrr⟩, g, ho, hl, k⟩ := h
    have hi := g.im
    refine ⟨_, (pss_one (ps_ret (pe_join pe_str (pe_lc (own := [("sign", 2)]) rfl sc_of.nd (pi_str (pv 1)) (blkOk_by (N := n_of) (sc := fnScope s_of) (by decide +kernel)) (fun _ _ _ _ _ => (pg_name (i := 2) sc_of.nd rfl (.inl rfl))) (fun _ _ _ _ _ => pts_nil) (fun _ _ _ _ _ => (pe_ix (ixt K) (fldK K (pv 0) rfl) (pe_m1 PySem.F.slot_str_index PySem.F.type_str_index mt_sindex (fldK K (pv 0) rfl) (pv 2)) (fun _ _ => rfl))))))
      ), ?_⟩
    refine ⟨⟨_, rfl⟩, ?_⟩
    walk_at "s"
    refine fun D hD => lc_keep keep_same walk_str hD (by show l.length < sizeLine; exact small1000 hl) (fun j y => ∀ c, l[j]? = some c → y = .str (S (img sg ims c))) (fun _ _ => trivial) (fun i x H2 H3 R hii r1 hy hR => ?_) (fun ys H2 hly hg r1 hDs => ?_)
    · obtain ⟨rfl, c, hc, rfl⟩ := hy
      have hc' : l[i]? = some c := by simpa [S] using hc
      have hcs : c ∈ sg := ho c (List.mem_of_getElem? hc')
      obtain ⟨rest, hocc⟩ := occ_idx hcs
      refine ⟨rfl, ?_⟩
      refine ⟨_, rfl, a, C, dx, _, _, rfl, r1 _ _ ha, CH.cl, CH.nR, chF_rows _ _, ?_⟩
      refine ⟨_, rfl, a, C, dx, _, _, rfl, r1 _ _ ha, CH.cl, CH.nS, chF_signs _ _, ?_⟩
      refine ⟨⟨_, rfl⟩, _, rfl, _, _, _, rest, rfl, rfl, hocc, ?_⟩
      refine ⟨_, _, _, .str (S (img sg ims c)), rfl, rfl, sm_seqT r1 hrr, at_of rfl ?_, hR _ _ (Same.refl _) fun d hd => ?_⟩
      · unfold txs; rw [List.getElem?_map, img_get hi.1 hcs]; rfl
      · rw [hc'] at hd; rw [Option.some.inj hd]
    · have e : ys = txs (l.map (img sg ims)) := by
        unfold txs; rw [List.map_map]
        exact list_map hly fun j y c e1 e2 => hg j y e1 c e2
      subst e
      refine ⟨_, D, (l.map (img sg ims)).map S, rfl, rfl, .inl (SqL.of (by rw [List.map_map]; exact hDs)), join_ok (m := 1000) (n := 1000) (fun z hz => ?_) (by simpa using hl) (by decide), ?_⟩
      · obtain ⟨c, hc, rfl⟩ := List.mem_map.mp hz
        have := (hi.2 _ (img_mem hi.1 (ho c hc))).2; omega
      · show Q (.str (Txt.join (Str.ofString "") ((l.map (img sg ims)).map S))) H2
        rw [s_nil, join_txs, ← app_flat]
        exact k H2 r1
theorem ok_of {C : Addr} (T : BT mg) (CH : CC K C) {f : Addr} {fd : FuncData} (me : Meth K C "of" f) (F : C8.Fun K "of" "Change.of" s_of f fd) (b : Binds K fd ["self", "row"] []) : Met P w K mg base 1 C "of" (spOf K C) [] := ⟨⟨f, fd, _, [], CH.cl, me, fn_of T CH F, b, .nil⟩⟩
abbrev s_tupof : Stmt := top 8
abbrev n_tupof : List Str := ["value", "many"]
theorem sc_tupof : FnScope n_tupof ["value", "many"] (fnScope s_tupof) := fnScope_by (by decide +kernel)
def tupD (n : Nat) : PyData → Bool
  | .tuple ds => decide (ds.length = n)
  | _ => false
def spTup (K : PySem.W.Frag) : Sp := fun vs H Q _ => ∃ (v : V) (d : PyData), vs = [v, .int 2] ∧ Dp K H v d ∧ Q (.bl (tupD 2 d)) H
theorem ok_tupof (T : BT mg) {f : Addr} {fd : FuncData} (F : Def K mg "is_tuple_of" s_tupof f fd) (b : Binds K fd ["value", "many"] []) : Cal P w K mg base 1 "is_tuple_of" (spTup K) [] := by
  refine cal0 F b .nil sc_tupof (fun vs H Q E h => ?_) (fun cdv A outer s H vs Q E hr h => ?_)
  · obtain ⟨v, d, rfl, _⟩ := h; rfl
  · obtain ⟨v, d, rfl, hd, q⟩ := h
    refine ⟨_, (pss_one (ps_ret (pe_and (pe_callB (isiK K) (by rfl) T.m_isinstance PyProof.Rows.boot_isinstance (pa_cons (pv 0) (pa_cons (pe_bltn (v := .ty "tuple") (by rfl) T.m_tuple PyProof.Rows.boot_tuple rfl) pa_nil))) (pe_one (pe_cmpR op_eq (pe_callB (lenK K) (by rfl) T.m_len PySem.boot_len (pa_cons (pv 0) pa_nil)) (pv 1) (nomark _)))))
      ), ?_⟩
    have no : tupD 2 d = false → PySem.W.kitOne K (.type (tyN d)) (.type "tuple") = some false → tRet (tAndV (tCB (fun xs H Q => True ∧ Q (.bl true) H) tNil) (tC (.bl true))) { nx := fun _ H' => Q V.non H', rt := Q } [some v, some (.int 2)] H → True := fun _ _ _ => trivial
    clear no
    have bad : tupD 2 d = false → PySem.W.kitOne K (.type (tyN d)) (.type "tuple") = some false → ∀ {R : V → Hp → Prop}, R = Q → R (.bl false) H := fun e _ R er => by rw [er, ← e]; exact q
    cases hd with
    | @tup p xs ds hp ha =>
      refine ⟨_, rfl, _, _, _, _, true, rfl, .ty _, ty_seqT hp, kit_ty (a := "tuple") (by decide +kernel), true, rfl, iteT ?_⟩
      refine ⟨_, rfl, p, _, rfl, .inr hp, _, rfl, rfl, ?_⟩
      have e : V.bl (decide (V.int (xs.length : Nat) = V.int 2)) = V.bl (tupD 2 (.tuple ds)) := congrArg V.bl (decide_eq_decide.mpr ⟨fun h => by have := V.int.inj h; have := dpa_len ha; omega, fun h => by rw [dpa_len ha, h]; rfl⟩)
      show Q (V.bl (decide (V.int (xs.length : Nat) = V.int 2))) H
      rw [e]
      exact q
    | non => exact ⟨_, rfl, _, _, _, _, false, rfl, .ty _, dp_ty .non, kit_ty (a := "NoneType") (by decide +kernel), false, rfl, iteN rfl q⟩
    | bl b => exact ⟨_, rfl, _, _, _, _, false, rfl, .ty _, dp_ty (.bl b), kit_ty (a := "bool") (by decide +kernel), false, rfl, iteN rfl q⟩
    | int b => exact ⟨_, rfl, _, _, _, _, false, rfl, .ty _, dp_ty (.int b), kit_ty (a := "int") (by decide +kernel), false, rfl, iteN rfl q⟩
    | str b => exact ⟨_, rfl, _, _, _, _, false, rfl, .ty _, dp_ty (.str b), kit_ty (a := "str") (by decide +kernel), false, rfl, iteN rfl q⟩
    | lst h1 h2 => exact ⟨_, rfl, _, _, _, _, false, rfl, .ty _, dp_ty (.lst h1 h2), kit_ty (a := "list") (by decide +kernel), false, rfl, iteN rfl q⟩
def holdsD (sg : List Nat) (ims : List (List Nat)) : PyData → Bool
  | .tuple [.str a, .str b] => decide (Ov sg a.cps.toList) && decide (Ov sg b.cps.toList) && (decide (a.cps.toList ≠ b.cps.toList) && decide (app sg ims a.cps.toList = app sg ims b.cps.toList))
  | _ => false
theorem holds_two {sg : List Nat} {ims : List (List Nat)} {u v : List Nat} (hu : Ov sg u) (hv : Ov sg v) : holdsD sg ims (.tuple [.str (S u), .str (S v)]) = (decide (u ≠ v) && decide (app sg ims u = app sg ims v)) := by
  have e1 : (S u).cps.toList = u := by simp [S]
  have e2 : (S v).cps.toList = v := by simp [S]
  have e : holdsD sg ims (.tuple [.str (S u), .str (S v)]) = (decide (Ov sg u) && decide (Ov sg v) && (decide (u ≠ v) && decide (app sg ims u = app sg ims v))) := rfl
  rw [e, decide_eq_true hu, decide_eq_true hv]; rfl
theorem holds_no {sg : List Nat} {ims : List (List Nat)} {d : PyData} (h : tupD 2 d = false ∨ rowsO sg d = false) : holdsD sg ims d = false := by
  unfold holdsD
  split
  · rename_i a b
    rcases h with h | h
    · cases h
    · have h : (rowO sg (some a.cps.toList) && (rowO sg (some b.cps.toList) && true)) = false := h
      have h : (decide (Ov sg a.cps.toList) && (decide (Ov sg b.cps.toList) && true)) = false := h
      rw [Bool.and_true] at h
      rw [h]; rfl
  · rfl
theorem holds_pair {sg : List Nat} {d : PyData} (h1 : tupD 2 d = true) (h2 : rowsO sg d = true) : ∃ u v, d = .tuple [.str (S u), .str (S v)] ∧ Ov sg u ∧ Ov sg v := by
  cases d with
  | tuple ds =>
    have h1 : ds.length = 2 := of_decide_eq_true h1
    obtain ⟨ims, rfl, ho⟩ := rows_of (sg := sg) (ds := ds) h2
    rw [List.length_map] at h1
    match ims, h1, ho with
    | [u, v], _, ho => exact ⟨u, v, rfl, ho u (by simp), ho v (by simp)⟩
  | _ => cases h1
abbrev s_holds : Stmt := top 20
abbrev n_holds : List Str := ["change", "value"]
theorem sc_holds : FnScope n_holds ["change", "value"] (fnScope s_holds) := fnScope_by (by decide +kernel)
def spHolds (K : PySem.W.Frag) (C : Addr) : Sp := fun vs H Q _ => ∃ (a : Addr) (v : V) (d : PyData) (sg : List Nat) (ims : List (List Nat)), vs = [.ref a, v] ∧ Chg K C H a sg ims ∧ Gd sg ims ∧ Dp K H v d ∧ okD d = true ∧ ∀ H', Same H H' → Q (.bl (holdsD sg ims d)) H'
theorem fn_holds {C : Addr} (T : BT mg) (CH : CC K C) (c_of : Met P w K mg base 1 C "of" (spOf K C) []) (c_tupof : Cal P w K mg base 1 "is_tuple_of" (spTup K) []) (c_isrows : Cal P w K mg base 2 "is_rows" (spIsRowsD K) []) {f : Addr} {fd : FuncData} (F : Def K mg "clash_holds" s_holds f fd) : FnOk P w K mg base C8.CX0 3 f fd ["change", "value"] (spHolds K C) := by
  refine fn0 F.fn sc_holds (fun vs H Q E h => ?_) (fun cdv A outer s H vs Q E hr h => ?_)
  · obtain ⟨a, v, d, sg, ims, rfl, _⟩ := h; rfl
  · obtain ⟨a, v, d, sg, ims, rfl, hc, g, hd, ok, k⟩ := h
    obtain ⟨dx, r, ha, hrr⟩ := id hc
    refine ⟨_, (pss_cons (ps_if (PW.pt (pw_or (pt_not (pt_val (pe_c c_tupof hr (by first | decide | omega) (by rfl) (pa_cons (pv 1) (pa_cons pe_int pa_nil))))) (pw_or1 (pt_not (pt_val (pe_c c_isrows hr (by first | decide | omega) (by rfl) (pa_cons (pv 1) (pa_cons (fldK K (pv 0) rfl) pa_nil)))))))) 
        (pss_one (ps_ret pe_bl)
        )
       pss_nil)
      (pss_one (ps_ret (pe_and (pe_cmpR op_ne (pe_ix (ixt K) (pv 1) pe_int (fun _ _ => rfl)) (pe_ix (ixt K) (pv 1) pe_int (fun _ _ => rfl)) (nomark _)) (pe_one (pe_cmpR op_eq (pe_mt c_of hr (by decide) (pv 0) (pa_cons (pe_ix (ixt K) (pv 1) pe_int (fun _ _ => rfl)) pa_nil)) (pe_mt c_of hr (by decide) (pv 0) (pa_cons (pe_ix (ixt K) (pv 1) pe_int (fun _ _ => rfl)) pa_nil)) (nomark _)))))
      )), ?_⟩
    refine ⟨_, rfl, v, d, rfl, hd, ?_⟩
    cases ht : tupD 2 d with
    | false =>
      refine ⟨_, rfl, iteB rfl ?_⟩
      rw [holds_no (.inl ht)] at k
      exact k H (Same.refl H)
    | true =>
    refine ⟨_, rfl, iteN rfl ?_⟩
    refine ⟨_, rfl, _, rfl, a, C, dx, _, _, rfl, ha, CH.cl, CH.nS, chF_signs _ _, v, d, sg, rfl, hd, few_ok ok, fun H1 s1 => ?_⟩
    cases hw : rowsO sg d with
    | false =>
      refine ⟨_, rfl, iteB rfl ?_⟩
      rw [holds_no (.inr hw)] at k
      exact k H1 s1
    | true =>
    refine ⟨_, rfl, iteN rfl ?_⟩
    obtain ⟨x, y, rfl, ox, oy⟩ := holds_pair ht hw
    have okl := okD_items ok rfl
    have lx : x.length ≤ 40 := (okD_text (okl.2 _ (by simp))).1
    have ly : y.length ≤ 40 := (okD_text (okl.2 _ (by simp))).1
    rw [holds_two ox oy] at k
    have hd1 := dp_same s1 _ _ hd
    cases hd1 with
    | @tup p xs _ hp hxs =>
    have exs : xs = [.str (S x), .str (S y)] := by
      cases hxs with
      | cons h1 h2 => cases h2 with
        | cons h3 h4 => cases h4; cases h1; cases h3; rfl
    subst exs
    refine ⟨_, rfl, p, _, 0, _, rfl, rfl, hp, rfl, ?_⟩
    refine ⟨_, rfl, p, _, 1, _, rfl, rfl, hp, rfl, rfl, _, rfl, ?_⟩
    by_cases e : x = y
    · refine iteN (by subst e; simp) ?_
      have : (decide (x ≠ y) && decide (app sg ims x = app sg ims y)) = false := by rw [decide_eq_false (fun h => h e)]; rfl
      rw [this] at k
      exact k H1 s1
    · refine iteB (by simp [S]; exact e) ?_
      refine ⟨_, rfl, a, dx, _, rfl, s1 _ _ ha, chF_no _ _ (by decide +kernel) (by decide +kernel), _, rfl, p, _, 0, _, rfl, rfl, hp, rfl, ?_⟩
      refine ⟨a, sg, ims, x, rfl, hc.same s1, g, ox, by omega, fun H2 s2 => ?_⟩
      have hp2 := sm_seqT s2 hp
      refine ⟨_, rfl, a, dx, _, rfl, s2 _ _ (s1 _ _ ha), chF_no _ _ (by decide +kernel) (by decide +kernel), _, rfl, p, _, 1, _, rfl, rfl, hp2, rfl, ?_⟩
      refine ⟨a, sg, ims, y, rfl, hc.same (s1.trans s2), g, oy, by omega, fun H3 s3 => ?_⟩
      refine ⟨rfl, ?_⟩
      have e1 : (decide (x ≠ y) && decide (app sg ims x = app sg ims y)) = decide (V.str (S (app sg ims x)) = V.str (S (app sg ims y))) := by
        rw [decide_eq_true e, Bool.true_and]
        exact decide_eq_decide.mpr S_iff.symm
      rw [e1] at k
      exact k H3 ((s1.trans s2).trans s3)
theorem ok_holds {C : Addr} (T : BT mg) (CH : CC K C) (c_of : Met P w K mg base 1 C "of" (spOf K C) []) (c_tupof : Cal P w K mg base 1 "is_tuple_of" (spTup K) []) (c_isrows : Cal P w K mg base 2 "is_rows" (spIsRowsD K) []) {f : Addr} {fd : FuncData} (F : Def K mg "clash_holds" s_holds f fd) (b : Binds K fd ["change", "value"] []) : Cal P w K mg base 3 "clash_holds" (spHolds K C) [] := ⟨⟨f, fd, _, [], fn_holds T CH c_of c_tupof c_isrows F, F.mgf, F.kp, b, .nil⟩⟩
end
end Toy
set_option maxHeartbeats 2000000
namespace Toy
open PySem L2 C8 SX LX K4
local macro_rules | `(tactic| walk_at "c") => `(tactic| refine And.intro (by first | (show (0 : Int) < _; omega) | exact Or.inr ⟨by decide, by decide⟩ | exact Or.inl ⟨by decide, by decide⟩ | (exact ⟨by omega, by omega⟩)) ?_)
local macro_rules | `(tactic| walk_at "s1") => `(tactic| first | refine ⟨_, rfl, ?_⟩ | refine ⟨_, _, rfl, rfl, ?_⟩ | refine .inl ⟨_, rfl, ?_⟩ | walk_at "c")
local macro_rules | `(tactic| walk_at "ix") => `(tactic| refine ⟨_, _, _, _, rfl, rfl, SqL.of (by first | assumption | exact upd_same), rfl, ?_⟩)
local macro_rules | `(tactic| walk_at "s") => `(tactic| repeat (walk_at "s1"))
def triV (e : Tri) : HO := .tup [.str (S e.1), .str (S e.2.1), .str (S e.2.2)]
structure TriAt (H : Hp) (ts : List Addr) (es : List Tri) : Prop where
  len : ts.length = es.length
  get : ∀ (i : Nat) (t : Addr) (e : Tri), ts[i]? = some t → es[i]? = some e → H t = some (triV e)
theorem TriAt.nil {H : Hp} : TriAt H [] [] := ⟨rfl, fun _ _ _ h => by simp at h⟩
theorem TriAt.keep {H H' : Hp} {ts : List Addr} {es : List Tri} (h : TriAt H ts es) (k : ∀ t e, H t = some (triV e) → H' t = some (triV e)) : TriAt H' ts es := ⟨h.len, fun i t e h1 h2 => k t e (h.get i t e h1 h2)⟩
theorem TriAt.push {H : Hp} {ts : List Addr} {es : List Tri} {t : Addr} {e : Tri} (h : TriAt H ts es) (ht : H t = some (triV e)) : TriAt H (ts ++ [t]) (es ++ [e]) := by
  refine ⟨by rw [List.length_append, List.length_append, h.len]; rfl, fun i x y h1 h2 => ?_⟩
  have hl := h.len
  by_cases q : i < ts.length
  · rw [List.getElem?_append_left q] at h1
    rw [List.getElem?_append_left (by omega)] at h2
    exact h.get i x y h1 h2
  · rw [List.getElem?_append_right (by omega)] at h1 h2
    rw [hl] at h1
    cases n : i - es.length with
    | zero => rw [n] at h1 h2; cases h1; cases h2; exact ht
    | succ m => rw [n] at h1; simp at h1
theorem TriAt.app {H : Hp} {ts us : List Addr} {es fs : List Tri} (h : TriAt H ts es) (g : TriAt H us fs) : TriAt H (ts ++ us) (es ++ fs) := by
  refine ⟨by rw [List.length_append, List.length_append, h.len, g.len], fun i x y h1 h2 => ?_⟩
  have hl := h.len
  by_cases q : i < ts.length
  · rw [List.getElem?_append_left q] at h1
    rw [List.getElem?_append_left (by omega)] at h2
    exact h.get i x y h1 h2
  · rw [List.getElem?_append_right (by omega)] at h1 h2
    rw [hl] at h1
    exact g.get _ x y h1 h2
theorem tri_put {H : Hp} {p : Addr} {xs ys : List V} {t : Addr} {e : Tri} (hp : H p = some (.lst xs)) (h : H t = some (triV e)) : (upd H p (.lst ys)) t = some (triV e) := by
  rw [upd_ne (fun q => by rw [q, hp] at h; cases h)]; exact h
theorem zip_get {sg : List Nat} {ims : List (List Nat)} {i c : Nat} {im : List Nat} (h1 : sg[i]? = some c) (h2 : ims[i]? = some im) : (sg.zip ims)[i]? = some (c, im) := by
  rw [List.getElem?_zip_eq_some]; exact ⟨h1, h2⟩
theorem flat_more {α β : Type} {l : List α} {f : α → List β} {i : Nat} {x : α} (h : l[i]? = some x) : (l.take (i + 1)).flatMap f = (l.take i).flatMap f ++ f x := by
  rw [List.take_succ, h, List.flatMap_append]
  show _ ++ (f x ++ []) = _
  rw [List.append_nil]
theorem take_all {α : Type} {l : List α} {n : Nat} (h : l.length ≤ n) : l.take n = l := List.take_of_length_le h
theorem Gd.zl {sg : List Nat} {ims : List (List Nat)} (g : Gd sg ims) : min (sg.map fun c => V.str (S [c])).length (txs ims).length = (sg.zip ims).length := by
  rw [List.length_map, txs_len, List.length_zip]
theorem Gd.c1 {sg : List Nat} {ims : List (List Nat)} (g : Gd sg ims) {i : Nat} {im : List Nat} (h : ims[i]? = some im) : im.length ≤ 4 := (g.im.2 im (List.mem_of_getElem? h)).2
theorem tri_step {H H4 : Hp} {p u : Addr} {ts : List Addr} {es : List Tri} {e : Tri} (s : Same H H4) (hp0 : H p = none) (hp : H4 p = some (.lst (ts.map V.ref))) (ht : TriAt H4 ts es) (hu : H4 u = none) :
    Same H (upd (upd H4 u (triV e)) p (.lst (ts.map V.ref ++ [.ref u]))) ∧ (upd (upd H4 u (triV e)) p (.lst (ts.map V.ref ++ [.ref u]))) p = some (.lst ((ts ++ [u]).map V.ref)) ∧ TriAt (upd (upd H4 u (triV e)) p (.lst (ts.map V.ref ++ [.ref u]))) (ts ++ [u]) (es ++ [e]) := by
  have npu : p ≠ u := fun q => by rw [q, hu] at hp; cases hp
  have hp5 : (upd H4 u (triV e)) p = some (.lst (ts.map V.ref)) := by rw [upd_ne npu]; exact hp
  have hs : Same H4 (upd H4 u (triV e)) := sm_new hu
  refine ⟨sm_put (s.trans hs) hp0, by rw [upd_same, List.map_append]; rfl, TriAt.push (ht.keep fun t x h => tri_put hp5 (hs _ _ h)) ?_⟩
  exact tri_put hp5 upd_same
theorem refs_len (ts : List Addr) : (ts.map V.ref).length = ts.length := List.length_map ..
theorem first_few {z : Zs} (hz : z.length ≤ 3) (i j : Nat) (u : Nat × List Nat) : (((z.take i).flatMap fun u => z.flatMap fun v => fst1 u v) ++ (z.take j).flatMap fun v => fst1 u v).length ≤ 12 := by
  have h1 : ∀ p ∈ z.take i, (z.flatMap fun q => fst1 p q).length ≤ 3 := fun p _ => by
    have : (z.flatMap fun q => fst1 p q).length ≤ z.length * 1 := flat_len fun q _ => by unfold fst1; split <;> simp
    omega
  have h2 := flat_len h1
  have h3 : ((z.take j).flatMap fun v => fst1 u v).length ≤ (z.take j).length * 1 := flat_len fun q _ => by unfold fst1; split <;> simp
  rw [List.length_take] at h2 h3
  rw [List.length_append]
  have : min i z.length ≤ 3 := by omega
  have : min j z.length ≤ 3 := by omega
  omega
section
variable {P : Program} {w : World} {K : PySem.W.Frag} {mg : Str → Option Value} {base : Heap}
abbrev s_first : Stmt := top 22
abbrev n_first : List Str := ["change", "found", "sign", "image", "other", "start"]
theorem sc_first : FnScope n_first ["change"] (fnScope s_first) := fnScope_by (by decide +kernel)
def spFirst (K : PySem.W.Frag) (C : Addr) : Sp := fun vs H Q _ => ∃ (a : Addr) (sg : List Nat) (ims : List (List Nat)), vs = [.ref a] ∧ Chg K C H a sg ims ∧ Gd sg ims ∧
  ∀ (p : Addr) (ts : List Addr) (H' : Hp), Same H H' → H p = none → H' p = some (.lst (ts.map V.ref)) → TriAt H' ts (firstT (sg.zip ims)) → Q (.ref p) H'
theorem ok_first {C : Addr} (T : BT mg) (CH : CC K C) {f : Addr} {fd : FuncData} (F : Def K mg "_first_rests" s_first f fd) (b : Binds K fd ["change"] []) : Cal P w K mg base 1 "_first_rests" (spFirst K C) [] := by
  refine cal0 F b .nil sc_first (fun vs H Q E h => ?_) (fun cdv A outer s H vs Q E hr h => ?_)
  · obtain ⟨a, sg, ims, rfl, _⟩ := h; rfl
  · obtain ⟨a, sg, ims, rfl, hc, g, k⟩ := h
    obtain ⟨dx, r, ha, hrr⟩ := id hc
    have z3 := g.good.zip_len
    refine ⟨_, (pss_cons (ps_set (i := 1) sc_first.nd rfl (.inl rfl) (pe_lst pa_nil))
      (pss_cons (ps_for PassesOwn.never rfl (pi_zipX (by rfl) T.m_zip (pa_cons (fldK K (pv 0) rfl) (pa_cons (fldK K (pv 0) rfl) pa_nil))) (tupK K 2 (pgs_cons (pg_name (i := 2) sc_first.nd rfl (.inl rfl)) (pgs_cons (pg_name (i := 3) sc_first.nd rfl (.inl rfl)) pgs_nil))) 
        (pss_one (ps_for PassesOwn.never rfl (pi_zipX (by rfl) T.m_zip (pa_cons (fldK K (pv 0) rfl) (pa_cons (fldK K (pv 0) rfl) pa_nil))) (tupK K 2 (pgs_cons (pg_name (i := 4) sc_first.nd rfl (.inl rfl)) (pgs_cons (pg_name (i := 5) sc_first.nd rfl (.inl rfl)) pgs_nil))) 
          (pss_one (ps_if (PW.pt (pw_and (pt_cmpR op_ne (pv 2) (pv 4) (nomark _)) (pw_and1 (pt_val (pe_bm PySem.F.plainAttrs_str PySem.F.slot_str_startswith PySem.F.type_str_startswith mt_startswith (pv 3) (pa_cons (pv 5) pa_nil)))))) 
            (pss_one (ps_expr (pe_bm PySem.F.plainAttrs_list PySem.F.slot_list_append PySem.F.type_list_append mt_append (pv 1) (pa_cons (pe_tup (pa_cons (pe_slice sl_txt (pv 3) (po_some (pe_callB call_len_str (by rfl) T.m_len PySem.boot_len (pa_cons (pv 5) pa_nil))) po_none) (pa_cons (pv 2) (pa_cons (pv 4) pa_nil)))) pa_nil)))
            )
           pss_nil)
          ))
        ))
      (pss_one (ps_ret (pv 1))
      ))), ?_⟩
    refine ⟨by show 0 ≤ sizeLine; decide, fun p hp => ?_⟩
    have s0 : Same H (upd H p (.lst [])) := sm_new hp
    refine ⟨_, rfl, a, C, dx, _, _, rfl, s0 _ _ ha, CH.cl, CH.nS, chF_signs _ _, ?_⟩
    refine ⟨_, rfl, a, C, dx, _, _, rfl, s0 _ _ ha, CH.cl, CH.nR, chF_rows _ _, ?_⟩
    refine ⟨_, _, .txt (S sg), .tup r, rfl, rfl, rfl, trivial, ⟨_, sm_seqT s0 hrr⟩, ?_⟩
    refine for_it (walk_zipX (K := K) (S1 := .txt (S sg)) (S2 := .tup r) (xs := sg.map fun c => V.str (S [c])) (ys := txs ims)) (fun i σ H' => ∃ (ts : List Addr) (s2 s3 s4 s5 : Option V), σ = [some (.ref a), some (.ref p), s2, s3, s4, s5] ∧
        Same H H' ∧ H' p = some (.lst (ts.map V.ref)) ∧ TriAt H' ts (((sg.zip ims).take i).flatMap fun u => (sg.zip ims).flatMap fun v => fst1 u v))
      ⟨[], _, _, _, _, rfl, s0, upd_same, TriAt.nil⟩ (fun _ _ _ _ ⟨_, _, _, _, _, _, s1, _⟩ => ⟨rfl, sm_seqT s1 hrr⟩) ?_ ?_
    · rintro i x σ H1 H1' hi ⟨ts, s2, s3, s4, s5, rfl, s1, hp1, ht1⟩ ⟨t, x1, x2, rfl, ht, rfl, e1, e2⟩
      obtain ⟨c, hc1, rfl⟩ := chr_get e1
      obtain ⟨im, him, rfl⟩ := txs_get e2
      have hz := zip_get hc1 him
      have il := g.c1 him
      have sT : Same H1 (upd H1 t (.tup [.str (S [c]), .str (S im)])) := sm_new ht
      have hpT := sT _ _ hp1
      have htT := ht1.keep fun u e h => sT _ _ h
      have htt : (upd H1 t (.tup [.str (S [c]), .str (S im)])) t = some (.tup [.str (S [c]), .str (S im)]) := upd_same
      have sHT := s1.trans sT
      generalize upd H1 t (.tup [.str (S [c]), .str (S im)]) = H2 at sT hpT htT htt sHT ⊢
      refine ⟨t, _, rfl, .inl (.inl htt), rfl, _, _, rfl, _, _, rfl, rfl, ?_⟩
      refine ⟨_, rfl, a, C, dx, _, _, rfl, sHT _ _ ha, CH.cl, CH.nS, chF_signs _ _, ?_⟩
      refine ⟨_, rfl, a, C, dx, _, _, rfl, sHT _ _ ha, CH.cl, CH.nR, chF_rows _ _, ?_⟩
      refine ⟨_, _, .txt (S sg), .tup r, rfl, rfl, rfl, trivial, ⟨_, sm_seqT sHT hrr⟩, ?_⟩
      refine for_it (walk_zipX (K := K) (S1 := .txt (S sg)) (S2 := .tup r) (xs := sg.map fun c => V.str (S [c])) (ys := txs ims)) (fun j σ H' => ∃ (ts : List Addr) (s4 s5 : Option V), σ = [some (.ref a), some (.ref p), some (.str (S [c])), some (.str (S im)), s4, s5] ∧
          Same H H' ∧ H' p = some (.lst (ts.map V.ref)) ∧ TriAt H' ts ((((sg.zip ims).take i).flatMap fun u => (sg.zip ims).flatMap fun v => fst1 u v) ++ ((sg.zip ims).take j).flatMap fun v => fst1 (c, im) v))
        ⟨ts, _, _, rfl, sHT, hpT, by rw [List.take_zero, List.flatMap_nil, List.append_nil]; exact htT⟩ (fun _ _ _ _ ⟨_, _, _, _, s1, _⟩ => ⟨rfl, sm_seqT s1 hrr⟩) ?_ ?_
      · clear hpT htT htt sHT sT hp1 ht1 s1
        rintro j x σ H3 H3' hj ⟨ts, s4, s5, rfl, s1, hp1, ht1⟩ ⟨t, x1, x2, rfl, ht, rfl, e1, e2⟩
        obtain ⟨d, hd1, rfl⟩ := chr_get e1
        obtain ⟨jm, hjm, rfl⟩ := txs_get e2
        have hz2 := zip_get hd1 hjm
        have jl := g.c1 hjm
        have sT : Same H3 (upd H3 t (.tup [.str (S [d]), .str (S jm)])) := sm_new ht
        have hpT := sT _ _ hp1
        have htT := ht1.keep fun u e h => sT _ _ h
        have htt : (upd H3 t (.tup [.str (S [d]), .str (S jm)])) t = some (.tup [.str (S [d]), .str (S jm)]) := upd_same
        have sHT := s1.trans sT
        have hfl := flat_more (f := fun v => fst1 (c, im) v) hz2
        generalize upd H3 t (.tup [.str (S [d]), .str (S jm)]) = H4 at sT hpT htT htt sHT ⊢
        refine ⟨t, _, rfl, .inl (.inl htt), rfl, _, _, rfl, _, _, rfl, rfl, ?_⟩
        refine ⟨_, rfl, _, rfl, rfl, _, rfl, ?_⟩
        have done : fst1 (c, im) (d, jm) = [] → ∃ (ts : List Addr) (s4 s5 : Option V), [some (V.ref a), some (V.ref p), some (V.str (S [c])), some (V.str (S im)), some (V.str (S [d])), some (V.str (S jm))] = [some (.ref a), some (.ref p), some (.str (S [c])), some (.str (S im)), s4, s5] ∧
          Same H H4 ∧ H4 p = some (.lst (ts.map V.ref)) ∧ TriAt H4 ts ((((sg.zip ims).take i).flatMap fun u => (sg.zip ims).flatMap fun v => fst1 u v) ++ ((sg.zip ims).take (j + 1)).flatMap fun v => fst1 (c, im) v) := fun e => by
            refine ⟨ts, _, _, rfl, sHT, hpT, ?_⟩
            rw [hfl, e, List.append_nil]
            exact htT
        have ef : fst1 (c, im) (d, jm) = if c ≠ d ∧ im.take jm.length = jm then [(im.drop jm.length, [c], [d])] else [] := rfl
        by_cases hcd : c = d
        · refine iteN (by subst hcd; simp) ?_
          refine iteN rfl ?_
          exact done (by rw [ef, if_neg fun h => h.1 hcd])
        · refine iteB (by simp [S]; exact hcd) ?_
          refine ⟨_, rfl, rfl, _, rfl, _, _, rfl, rfl, _, rfl, ?_⟩
          rw [starts_pre]
          by_cases hpre : im.take jm.length = jm
          · refine iteB (decide_eq_true hpre) ?_
            refine ⟨_, rfl, .inl ⟨rfl, _, SqL.of hpT⟩, ?_⟩
            refine ⟨_, rfl, _, rfl, _, rfl, by rw [S_len]; exact sz jl (by decide), _, rfl, _, rfl, by rw [S_len]; exact sz il (by decide), _, rfl, _, rfl, ?_⟩
            refine ⟨by show 3 ≤ sizeLine; decide, fun u hu => ?_⟩
            rw [cutb_from]
            have st := tri_step (e := (im.drop jm.length, [c], [d])) sHT hp hpT htT hu
            have npu : p ≠ u := fun q => by rw [q, hu] at hpT; cases hpT
            refine ⟨p, _, _, rfl, rfl, by rw [upd_ne npu]; exact hpT, ?_, ?_⟩
            · rw [refs_len, htT.len]
              exact small1000 (Nat.le_trans (first_few z3 i j (c, im)) (by decide))
            · refine ⟨ts ++ [u], _, _, rfl, st.1, st.2.1, ?_⟩
              rw [hfl, ef, if_pos ⟨hcd, hpre⟩, ← List.append_assoc]
              exact st.2.2
          · refine iteN (decide_eq_false hpre) ?_
            exact done (by rw [ef, if_neg fun h => hpre h.2])
      · rintro σ H3 ⟨ts, s4, s5, rfl, s1, hp3, ht3⟩
        rw [g.zl, take_all (Nat.le_refl _)] at ht3
        refine ⟨ts, _, _, _, _, rfl, s1, hp3, ?_⟩
        rw [flat_more hz]
        exact ht3
    · rintro σ H1 ⟨ts, s2, s3, s4, s5, rfl, s1, hp1, ht1⟩
      rw [g.zl, take_all (Nat.le_refl _)] at ht1
      exact ⟨_, rfl, k p ts H1 s1 hp hp1 ht1⟩
end
end Toy
set_option maxHeartbeats 2000000
namespace Toy
open PySem L2 C8 SX LX K4
local macro_rules | `(tactic| walk_at "c") => `(tactic| refine And.intro (by first | (show (0 : Int) < _; omega) | exact Or.inr ⟨by decide, by decide⟩ | exact Or.inl ⟨by decide, by decide⟩ | (exact ⟨by omega, by omega⟩)) ?_)
local macro_rules | `(tactic| walk_at "s1") => `(tactic| first | refine ⟨_, rfl, ?_⟩ | refine ⟨_, _, rfl, rfl, ?_⟩ | refine .inl ⟨_, rfl, ?_⟩ | walk_at "c")
local macro_rules | `(tactic| walk_at "ix") => `(tactic| refine ⟨_, _, _, _, rfl, rfl, SqL.of (by first | assumption | exact upd_same), rfl, ?_⟩)
local macro_rules | `(tactic| walk_at "s") => `(tactic| repeat (walk_at "s1"))
theorem next_few {z : Zs} (hz : z.length ≤ 3) (i : Nat) (r l s : List Nat) (x : List Tri) (hx : x.length ≤ 1) : (((z.take i).flatMap fun p => nxA r l s p ++ nxB r l s p) ++ x).length ≤ 12 := by
  have h1 : ((z.take i).flatMap fun p => nxA r l s p ++ nxB r l s p).length ≤ (z.take i).length * 2 := flat_len fun p _ => by
    rw [List.length_append]; unfold nxA nxB
    split <;> split <;> simp
  rw [List.length_take] at h1
  rw [List.length_append]
  have : min i z.length ≤ 3 := by omega
  omega
theorem nxA_len (r l s : List Nat) (p : Nat × List Nat) : (nxA r l s p).length ≤ 1 := by unfold nxA; split <;> simp
section
variable {P : Program} {w : World} {K : PySem.W.Frag} {mg : Str → Option Value} {base : Heap}
abbrev s_next : Stmt := top 23
abbrev n_next : List Str := ["change", "rest", "longer", "shorter", "found", "sign", "image"]
theorem sc_next : FnScope n_next ["change", "rest", "longer", "shorter"] (fnScope s_next) := fnScope_by (by decide +kernel)
def spNext (K : PySem.W.Frag) (C : Addr) : Sp := fun vs H Q _ => ∃ (a : Addr) (sg : List Nat) (ims : List (List Nat)) (r l s : List Nat), vs = [.ref a, .str (S r), .str (S l), .str (S s)] ∧ Chg K C H a sg ims ∧ Gd sg ims ∧ r.length ≤ 40 ∧ s.length ≤ 40 ∧
  ∀ (p : Addr) (ts : List Addr) (H' : Hp), Same H H' → H p = none → H' p = some (.lst (ts.map V.ref)) → TriAt H' ts (nextT (sg.zip ims) (r, l, s)) → Q (.ref p) H'
theorem ok_next {C : Addr} (T : BT mg) (CH : CC K C) {f : Addr} {fd : FuncData} (F : Def K mg "_next_rests" s_next f fd) (b : Binds K fd ["change", "rest", "longer", "shorter"] []) : Cal P w K mg base 1 "_next_rests" (spNext K C) [] := by
  refine cal0 F b .nil sc_next (fun vs H Q E h => ?_) (fun cdv A outer s H vs Q E hr h => ?_)
  · obtain ⟨a, sg, ims, r, l, s, rfl, _⟩ := h; rfl
  · obtain ⟨a, sg, ims, rr, l, sh, rfl, hc, g, lr, lsh, k⟩ := h
    obtain ⟨dx, r, ha, hrr⟩ := id hc
    have z3 := g.good.zip_len
    refine ⟨_, (pss_cons (ps_set (i := 4) sc_next.nd rfl (.inl rfl) (pe_lst pa_nil))
      (pss_cons (ps_for PassesOwn.never rfl (pi_zipX (by rfl) T.m_zip (pa_cons (fldK K (pv 0) rfl) (pa_cons (fldK K (pv 0) rfl) pa_nil))) (tupK K 2 (pgs_cons (pg_name (i := 5) sc_next.nd rfl (.inl rfl)) (pgs_cons (pg_name (i := 6) sc_next.nd rfl (.inl rfl)) pgs_nil))) 
        (C8.pss_cut (ps_if (PW.pt (pw_and (pt_cmpR op_ne (pv 1) pe_str (nomark _)) (pw_and1 (pt_val (pe_bm PySem.F.plainAttrs_str PySem.F.slot_str_startswith PySem.F.type_str_startswith mt_startswith (pv 6) (pa_cons (pv 1) pa_nil)))))) 
          (pss_one (ps_expr (pe_bm PySem.F.plainAttrs_list PySem.F.slot_list_append PySem.F.type_list_append mt_append (pv 4) (pa_cons (pe_tup (pa_cons (pe_slice sl_txt (pv 6) (po_some (pe_callB call_len_str (by rfl) T.m_len PySem.boot_len (pa_cons (pv 1) pa_nil))) po_none) (pa_cons (pe_op op_add_str (pv 3) (pv 5)) (pa_cons (pv 2) pa_nil)))) pa_nil)))
          )
         pss_nil)
        (pss_one (ps_if (pt_val (pe_bm PySem.F.plainAttrs_str PySem.F.slot_str_startswith PySem.F.type_str_startswith mt_startswith (pv 1) (pa_cons (pv 6) pa_nil))) 
          (pss_one (ps_expr (pe_bm PySem.F.plainAttrs_list PySem.F.slot_list_append PySem.F.type_list_append mt_append (pv 4) (pa_cons (pe_tup (pa_cons (pe_slice sl_txt (pv 1) (po_some (pe_callB call_len_str (by rfl) T.m_len PySem.boot_len (pa_cons (pv 6) pa_nil))) po_none) (pa_cons (pv 2) (pa_cons (pe_op op_add_str (pv 3) (pv 5)) pa_nil)))) pa_nil)))
          )
         pss_nil)
        )))
      (pss_one (ps_ret (pv 4))
      ))), ?_⟩
    refine ⟨by show 0 ≤ sizeLine; decide, fun p hp => ?_⟩
    have s0 : Same H (upd H p (.lst [])) := sm_new hp
    refine ⟨_, rfl, a, C, dx, _, _, rfl, s0 _ _ ha, CH.cl, CH.nS, chF_signs _ _, ?_⟩
    refine ⟨_, rfl, a, C, dx, _, _, rfl, s0 _ _ ha, CH.cl, CH.nR, chF_rows _ _, ?_⟩
    refine ⟨_, _, .txt (S sg), .tup r, rfl, rfl, rfl, trivial, ⟨_, sm_seqT s0 hrr⟩, ?_⟩
    refine for_it (walk_zipX (K := K) (S1 := .txt (S sg)) (S2 := .tup r) (xs := sg.map fun c => V.str (S [c])) (ys := txs ims)) (fun i σ H' => ∃ (ts : List Addr) (s5 s6 : Option V), σ = [some (.ref a), some (.str (S rr)), some (.str (S l)), some (.str (S sh)), some (.ref p), s5, s6] ∧
        Same H H' ∧ H' p = some (.lst (ts.map V.ref)) ∧ TriAt H' ts (((sg.zip ims).take i).flatMap fun u => nxA rr l sh u ++ nxB rr l sh u))
      ⟨[], _, _, rfl, s0, upd_same, TriAt.nil⟩ (fun _ _ _ _ ⟨_, _, _, _, s1, _⟩ => ⟨rfl, sm_seqT s1 hrr⟩) ?_ ?_
    · rintro i x σ H1 H1' hi ⟨ts, s5, s6, rfl, s1, hp1, ht1⟩ ⟨t, x1, x2, rfl, ht, rfl, e1, e2⟩
      obtain ⟨c, hc1, rfl⟩ := chr_get e1
      obtain ⟨im, him, rfl⟩ := txs_get e2
      have hz := zip_get hc1 him
      have il := g.c1 him
      have hfl := flat_more (f := fun u => nxA rr l sh u ++ nxB rr l sh u) hz
      have sT : Same H1 (upd H1 t (.tup [.str (S [c]), .str (S im)])) := sm_new ht
      have hpT := sT _ _ hp1
      have htT := ht1.keep fun u e h => sT _ _ h
      have htt : (upd H1 t (.tup [.str (S [c]), .str (S im)])) t = some (.tup [.str (S [c]), .str (S im)]) := upd_same
      have sHT := s1.trans sT
      generalize upd H1 t (.tup [.str (S [c]), .str (S im)]) = H2 at sT hpT htT htt sHT ⊢
      refine ⟨t, _, rfl, .inl (.inl htt), rfl, _, _, rfl, _, _, rfl, rfl, ?_⟩
      have eA : nxA rr l sh (c, im) = if rr ≠ [] ∧ im.take rr.length = rr then [(im.drop rr.length, sh ++ [c], l)] else [] := rfl
      have eB : nxB rr l sh (c, im) = if rr.take im.length = im then [(rr.drop im.length, l, sh ++ [c])] else [] := rfl
      have bi : (S im).length ≤ sizeLine := by rw [S_len]; exact sz il (by decide)
      have br : (S rr).length ≤ sizeLine := by rw [S_len]; exact sz lr (by decide)
      have bs : (S sh).length + (S [c]).length ≤ sizeLine := by rw [S_len, S_len]; exact sz (m := 41) (by simp; omega) (by decide)
      have scat : S sh ++ S [c] = S (sh ++ [c]) := S_cat _ _
      refine ⟨fun σ H' => ∃ (ts : List Addr), σ = [some (.ref a), some (.str (S rr)), some (.str (S l)), some (.str (S sh)), some (.ref p), some (.str (S [c])), some (.str (S im))] ∧
        Same H H' ∧ H' p = some (.lst (ts.map V.ref)) ∧ TriAt H' ts ((((sg.zip ims).take i).flatMap fun u => nxA rr l sh u ++ nxB rr l sh u) ++ nxA rr l sh (c, im)), ?_, ?_⟩
      · refine ⟨_, rfl, rfl, _, rfl, ?_⟩
        rw [s_nil]
        by_cases hr0 : rr = []
        · refine iteN (by subst hr0; simp) ?_
          refine iteN rfl ?_
          refine ⟨ts, rfl, sHT, hpT, ?_⟩
          rw [eA, if_neg fun h => h.1 hr0, List.append_nil]
          exact htT
        refine iteB (by simp [S]; exact hr0) ?_
        refine ⟨_, rfl, rfl, _, rfl, _, _, rfl, rfl, _, rfl, ?_⟩
        rw [starts_pre]
        by_cases hpre : im.take rr.length = rr
        · refine iteB (decide_eq_true hpre) ?_
          refine ⟨_, rfl, .inl ⟨rfl, _, SqL.of hpT⟩, ?_⟩
          refine ⟨_, rfl, _, rfl, _, rfl, br, _, rfl, _, rfl, bi, _, rfl, _, rfl, _, _, rfl, rfl, bs, _, rfl, ?_⟩
          refine ⟨by show 3 ≤ sizeLine; decide, fun u hu => ?_⟩
          rw [cutb_from, scat]
          have st := tri_step (e := (im.drop rr.length, sh ++ [c], l)) sHT hp hpT htT hu
          have npu : p ≠ u := fun q => by rw [q, hu] at hpT; cases hpT
          refine ⟨p, _, _, rfl, rfl, by rw [upd_ne npu]; exact hpT, ?_, ?_⟩
          · rw [refs_len, htT.len]
            have := next_few z3 i rr l sh [] (Nat.zero_le _)
            rw [List.append_nil] at this
            exact small1000 (Nat.le_trans this (by decide))
          · refine ⟨ts ++ [u], rfl, st.1, st.2.1, ?_⟩
            rw [eA, if_pos ⟨hr0, hpre⟩]
            exact st.2.2
        · refine iteN (decide_eq_false hpre) ?_
          refine ⟨ts, rfl, sHT, hpT, ?_⟩
          rw [eA, if_neg fun h => hpre h.2, List.append_nil]
          exact htT
      · clear hpT htT htt sHT sT hp1 ht1 s1
        rintro σ H3 ⟨ts, rfl, s3, hp3, ht3⟩
        refine ⟨_, rfl, rfl, _, rfl, _, _, rfl, rfl, _, rfl, ?_⟩
        rw [starts_pre]
        by_cases hpre : rr.take im.length = im
        · refine iteB (decide_eq_true hpre) ?_
          refine ⟨_, rfl, .inl ⟨rfl, _, SqL.of hp3⟩, ?_⟩
          refine ⟨_, rfl, _, rfl, _, rfl, bi, _, rfl, _, rfl, br, _, rfl, _, rfl, _, rfl, _, _, rfl, rfl, bs, ?_⟩
          refine ⟨by show 3 ≤ sizeLine; decide, fun u hu => ?_⟩
          rw [cutb_from, scat]
          have st := tri_step (e := (rr.drop im.length, l, sh ++ [c])) s3 hp hp3 ht3 hu
          have npu : p ≠ u := fun q => by rw [q, hu] at hp3; cases hp3
          refine ⟨p, _, _, rfl, rfl, by rw [upd_ne npu]; exact hp3, ?_, ?_⟩
          · rw [refs_len, ht3.len]
            exact small1000 (Nat.le_trans (next_few z3 i rr l sh _ (nxA_len _ _ _ _)) (by decide))
          · refine ⟨ts ++ [u], _, _, rfl, st.1, st.2.1, ?_⟩
            rw [hfl, eB, if_pos hpre, ← List.append_assoc]
            exact st.2.2
        · refine iteN (decide_eq_false hpre) ?_
          refine ⟨ts, _, _, rfl, s3, hp3, ?_⟩
          rw [hfl, eB, if_neg hpre, List.append_nil]
          exact ht3
    · rintro σ H1 ⟨ts, s5, s6, rfl, s1, hp1, ht1⟩
      rw [g.zl, take_all (Nat.le_refl _)] at ht1
      exact ⟨_, rfl, k p ts H1 s1 hp hp1 ht1⟩
end
end Toy
set_option maxHeartbeats 2000000
namespace Toy
open PySem L2 C8 SX LX K4
local macro_rules | `(tactic| walk_at "c") => `(tactic| refine And.intro (by first | (show (0 : Int) < _; omega) | exact Or.inr ⟨by decide, by decide⟩ | exact Or.inl ⟨by decide, by decide⟩ | (exact ⟨by omega, by omega⟩)) ?_)
local macro_rules | `(tactic| walk_at "s1") => `(tactic| first | refine ⟨_, rfl, ?_⟩ | refine ⟨_, _, rfl, rfl, ?_⟩ | refine .inl ⟨_, rfl, ?_⟩ | walk_at "c")
local macro_rules | `(tactic| walk_at "ix") => `(tactic| refine ⟨_, _, _, _, rfl, rfl, SqL.of (by first | assumption | exact upd_same), rfl, ?_⟩)
local macro_rules | `(tactic| walk_at "s") => `(tactic| repeat (walk_at "s1"))
def wK (W : List Tri) (us : List Addr) : List (Key × V) := List.zipWith (fun (e : Tri) u => ((Sum.inr (S e.1) : Key), V.ref u)) W us
structure PairAt (H : Hp) (us : List Addr) (W : List Tri) : Prop where
  len : us.length = W.length
  get : ∀ (i : Nat) (u : Addr) (e : Tri), us[i]? = some u → W[i]? = some e → H u = some (.tup [.str (S e.2.1), .str (S e.2.2)])
theorem PairAt.keep {H H' : Hp} {us : List Addr} {W : List Tri} (h : PairAt H us W) (k : ∀ u x y, H u = some (.tup [x, y]) → H' u = some (.tup [x, y])) : PairAt H' us W := ⟨h.len, fun i u e h1 h2 => k u _ _ (h.get i u e h1 h2)⟩
theorem PairAt.push {H : Hp} {us : List Addr} {W : List Tri} {u : Addr} {e : Tri} (h : PairAt H us W) (hu : H u = some (.tup [.str (S e.2.1), .str (S e.2.2)])) : PairAt H (us ++ [u]) (W ++ [e]) := by
  refine ⟨by rw [List.length_append, List.length_append, h.len]; rfl, fun i x y h1 h2 => ?_⟩
  have hl := h.len
  by_cases q : i < us.length
  · rw [List.getElem?_append_left q] at h1
    rw [List.getElem?_append_left (by omega)] at h2
    exact h.get i x y h1 h2
  · rw [List.getElem?_append_right (by omega)] at h1 h2
    rw [hl] at h1
    cases n : i - W.length with
    | zero => rw [n] at h1 h2; cases h1; cases h2; exact hu
    | succ m => rw [n] at h1; simp at h1
theorem inr_inj {a b : List Nat} (h : (Sum.inr (S a) : Key) = Sum.inr (S b)) : a = b := by simpa [S] using Sum.inr.inj h
theorem wK_none {W : List Tri} {us : List Addr} {r : List Nat} (h : r ∉ W.map (·.1)) : valV (wK W us) (Sum.inr (S r)) = none := valV_none fun p hp e => by
  obtain ⟨i, hi⟩ := List.getElem?_of_mem hp
  unfold wK at hi
  rw [List.getElem?_zipWith_eq_some] at hi
  obtain ⟨x, y, hx, hy, rfl⟩ := hi
  exact h (List.mem_map.mpr ⟨x, List.mem_of_getElem? hx, inr_inj e⟩)
theorem wK_some : ∀ {W : List Tri} {us : List Addr} {i : Nat} {e : Tri} {u : Addr}, (W.map (·.1)).Nodup → W[i]? = some e → us[i]? = some u → valV (wK W us) (Sum.inr (S e.1)) = some (.ref u)
  | [], _, _, _, _, _, h, _ => by simp at h
  | _ :: _, [], _, _, _, _, _, h => by simp at h
  | x :: W, v :: us, 0, e, u, nd, h1, h2 => by cases h1; cases h2; exact valV_pos rfl
  | x :: W, v :: us, i + 1, e, u, nd, h1, h2 => by
    rw [List.map_cons, List.nodup_cons] at nd
    have h1 : W[i]? = some e := h1
    have h2 : us[i]? = some u := h2
    show valV ((Sum.inr (S x.1), V.ref v) :: wK W us) _ = _
    rw [valV_neg fun q => ?_]
    · exact wK_some nd.2 h1 h2
    · exact nd.1 (by rw [inr_inj q]; exact List.mem_map.mpr ⟨e, List.mem_of_getElem? h1, rfl⟩)
theorem wK_put {W : List Tri} {us : List Addr} {e : Tri} {u : Addr} (hl : us.length = W.length) (h : e.1 ∉ W.map (·.1)) : putK (wK W us) (Sum.inr (S e.1)) (.ref u) = wK (W ++ [e]) (us ++ [u]) := by
  rw [putK_new _ (wK_none h)]
  unfold wK
  rw [List.zipWith_append hl.symm]
  rfl
theorem wK_len {W : List Tri} {us : List Addr} (hl : us.length = W.length) : (wK W us).length = W.length := by
  unfold wK; rw [List.length_zipWith]; omega
theorem wK_keys : ∀ {W : List Tri} {us : List Addr}, us.length = W.length → (wK W us).map (·.1) = (W.map (·.1)).map fun r => (Sum.inr (S r) : Key)
  | [], [], _ => rfl
  | _ :: _, [], h => by simp at h
  | [], _ :: _, h => by simp at h
  | e :: W, u :: us, h => by
    show Sum.inr (S e.1) :: (wK W us).map (·.1) = _
    rw [wK_keys (by simpa using h)]; rfl
section
variable {P : Program} {w : World} {K : PySem.W.Frag} {mg : Str → Option Value} {base : Heap}
abbrev s_ways : Stmt := top 21
abbrev n_ways : List Str := ["change", "ways", "found", "at", "rest", "longer", "shorter"]
theorem sc_ways : FnScope n_ways ["change"] (fnScope s_ways) := fnScope_by (by decide +kernel)
def spWays (K : PySem.W.Frag) (C : Addr) : Sp := fun vs H Q _ => ∃ (a : Addr) (sg : List Nat) (ims : List (List Nat)), vs = [.ref a] ∧ Chg K C H a sg ims ∧ Gd sg ims ∧ Full ims ∧
  ∀ (d : Addr) (W : List Tri) (us : List Addr) (H' : Hp), Same H H' → H d = none → H' d = some (.dK (wK W us)) → PairAt H' us W → (W.map (·.1)).Nodup → W.length ≤ 10 → (∀ e ∈ W, GE sg ims 11 e) → (∀ r, r ∈ W.map (·.1) ↔ Rest sg ims r) → Q (.ref d) H'
theorem ok_ways {C : Addr} (T : BT mg) (CH : CC K C) (c_first : Cal P w K mg base 1 "_first_rests" (spFirst K C) []) (c_next : Cal P w K mg base 1 "_next_rests" (spNext K C) []) {f : Addr} {fd : FuncData} (F : Def K mg "_ways_to_rests" s_ways f fd) (b : Binds K fd ["change"] []) : Cal P w K mg base 2 "_ways_to_rests" (spWays K C) [] := by
  refine cal0 F b .nil sc_ways (fun vs H Q E h => ?_) (fun cdv A outer s H vs Q E hr h => ?_)
  · obtain ⟨a, sg, ims, rfl, _⟩ := h; rfl
  · obtain ⟨a, sg, ims, rfl, hc, g, hf, k⟩ := h
    refine ⟨_, (pss_cons (ps_set (i := 1) sc_ways.nd rfl (.inl rfl) pe_dnewK)
      (pss_cons (ps_set (i := 2) sc_ways.nd rfl (.inl rfl) (pe_c c_first hr (by first | decide | omega) (by rfl) (pa_cons (pv 0) pa_nil)))
      (pss_cons (ps_set (i := 3) sc_ways.nd rfl (.inl rfl) pe_int)
      (pss_cons (ps_while PassesOwn.never (pt_cmpR op_lt (pv 3) (pe_callB (lenK K) (by rfl) T.m_len PySem.boot_len (pa_cons (pv 2) pa_nil)) (nomark _)) 
        (pss_cons (ps_asg (pe_ix (ixl K) (pv 2) (pv 3) (fun _ _ => rfl)) (tupK K 3 (pgs_cons (pg_name (i := 4) sc_ways.nd rfl (.inl rfl)) (pgs_cons (pg_name (i := 5) sc_ways.nd rfl (.inl rfl)) (pgs_cons (pg_name (i := 6) sc_ways.nd rfl (.inl rfl)) pgs_nil)))))
        (C8.pss_cut (ps_if (pt_cmp (pc_dnotin (hu_of hr) (pv 4) (pv 1))) 
          (pss_cons (ps_dput (hu_of hr) (pv 1) (pv 4) (pe_tup (pa_cons (pv 5) (pa_cons (pv 6) pa_nil))) rfl)
          (pss_one (ps_expr (pe_bm PySem.F.plainAttrs_list PySem.F.slot_list_extend PySem.F.type_list_extend mt_extend (pv 2) (pa_cons (pe_c c_next hr (by first | decide | omega) (by rfl) (pa_cons (pv 0) (pa_cons (pv 4) (pa_cons (pv 5) (pa_cons (pv 6) pa_nil))))) pa_nil)))
          ))
         pss_nil)
        (pss_one (ps_aug (i := 3) sc_ways.nd rfl (.inl rfl) pe_int ip_add)
        ))))
      (pss_one (ps_ret (pv 1))
      ))))), ?_⟩
    refine fun d hd => ?_
    have s0 : Same H (upd H d (.dK [])) := sm_new hd
    have hd0 : (upd H d (.dK [])) d = some (.dK []) := upd_same
    generalize upd H d (.dK []) = H0 at s0 hd0 ⊢
    refine ⟨_, rfl, a, sg, ims, rfl, hc.same s0, g, fun p ts H1 s1 hpn hp1 ht1 => ?_⟩
    have hd1 := s1 _ _ hd0
    have s01 := s0.trans s1
    have hpH : H p = none := s0.free hpn
    have npd : p ≠ d := fun e => by rw [e, hd0] at hpn; cases hpn
    have gg := g.good
    refine ⟨fun m σ H' => ∃ (F W : List Tri) (ts us : List Addr) (at_ : Nat) (s4 s5 s6 : Option V), m = 100 - at_ ∧ σ = [some (.ref a), some (.ref d), some (.ref p), some (.int (at_ : Nat)), s4, s5, s6] ∧
      Same H H' ∧ H' p = some (.lst (ts.map V.ref)) ∧ TriAt H' ts F ∧ H' d = some (.dK (wK W us)) ∧ PairAt H' us W ∧ WS sg ims F W at_ ∧ at_ ≤ F.length, ?_, ?_⟩
    · exact ⟨100, firstT (sg.zip ims), [], ts, [], 0, _, _, _, rfl, rfl, s01, hp1, ht1, hd1, ⟨rfl, fun i u e h => by simp at h⟩, ws0 gg, Nat.zero_le _⟩
    clear hp1 ht1 hd1 s01 s1 hd0 s0 hpn
    rintro m σ H2 ⟨F, W, ts, us, at_, s4, s5, s6, rfl, rfl, s2, hp2, ht2, hd2, hu2, hW, hat⟩
    obtain ⟨few1, few2⟩ := hW.few gg hf
    refine ⟨_, rfl, _, rfl, p, _, rfl, .inl (SqL.of hp2), _, _, rfl, rfl, _, rfl, ?_⟩
    rw [refs_len, ht2.len]
    refine ite2 (fun hlt => ?_) (fun hlt => ?_)
    · have hal : at_ < F.length := by rw [decide_eq_true_eq] at hlt; omega
      obtain ⟨e, he⟩ : ∃ e, F[at_]? = some e := ⟨_, List.getElem?_eq_getElem hal⟩
      obtain ⟨t, htt⟩ : ∃ t, ts[at_]? = some t := ⟨_, List.getElem?_eq_getElem (by rw [ht2.len]; exact hal)⟩
      have hte := ht2.get at_ t e htt he
      have ge := hW.ge e (List.mem_of_getElem? he)
      refine ⟨fun σ' H' => ∃ (F W : List Tri) (ts us : List Addr) (s4 s5 s6 : Option V), σ' = [some (.ref a), some (.ref d), some (.ref p), some (.int ((at_ + 1 : Nat) : Int)), s4, s5, s6] ∧
        Same H H' ∧ H' p = some (.lst (ts.map V.ref)) ∧ TriAt H' ts F ∧ H' d = some (.dK (wK W us)) ∧ PairAt H' us W ∧ WS sg ims F W (at_ + 1) ∧ at_ + 1 ≤ F.length,
        fun σ' H' ⟨F, W, ts, us, s4, s5, s6, a1, a2, a3, a4, a5, a6, a7, a8⟩ => ⟨100 - (at_ + 1), by omega, F, W, ts, us, at_ + 1, s4, s5, s6, rfl, a1, a2, a3, a4, a5, a6, a7, a8⟩, ?_⟩
      refine ⟨_, rfl, _, rfl, p, _, at_, .ref t, rfl, rfl, SqL.of hp2, at_of rfl (by rw [List.getElem?_map, htt]; rfl), ?_⟩
      refine ⟨t, _, rfl, .inl (.inl hte), rfl, _, _, rfl, _, _, rfl, _, _, rfl, rfl, ?_⟩
      obtain ⟨r, l, sh⟩ := e
      refine ⟨fun σ' H' => ∃ (F W : List Tri) (ts us : List Addr), σ' = [some (.ref a), some (.ref d), some (.ref p), some (.int (at_ : Nat)), some (.str (S r)), some (.str (S l)), some (.str (S sh))] ∧
        Same H H' ∧ H' p = some (.lst (ts.map V.ref)) ∧ TriAt H' ts F ∧ H' d = some (.dK (wK W us)) ∧ PairAt H' us W ∧ WS sg ims F W (at_ + 1) ∧ at_ + 1 ≤ F.length, ?_, ?_⟩
      · refine ⟨_, rfl, _, rfl, d, valV (wK W us) (Sum.inr (S r)), rfl, .inl ⟨_, Sum.inr (S r), .inl hd2, rfl, rfl⟩, _, rfl, ?_⟩
        by_cases hin : r ∈ W.map (·.1)
        · obtain ⟨x, hx, rfl⟩ := List.mem_map.mp hin
          obtain ⟨i, hi⟩ := List.getElem?_of_mem hx
          obtain ⟨u, hui⟩ : ∃ u, us[i]? = some u := ⟨_, List.getElem?_eq_getElem (by rw [hu2.len]; exact (List.getElem?_eq_some_iff.mp hi).1)⟩
          rw [wK_some hW.nd hi hui]
          refine iteN rfl ?_
          exact ⟨F, W, ts, us, rfl, s2, hp2, ht2, hd2, hu2, hW.skip he hin, hal⟩
        · rw [wK_none hin]
          refine iteB rfl ?_
          have ll := ge.ll
          have lsh := ge.ls
          dsimp only at ll lsh
          refine ⟨_, rfl, _, rfl, by show 2 ≤ sizeLine; decide, fun u hu => ?_⟩
          have npu : p ≠ u := fun q => by rw [q, hu] at hp2; cases hp2
          have ndu : d ≠ u := fun q => by rw [q, hu] at hd2; cases hd2
          refine ⟨_, rfl, _, rfl, d, _, rfl, DPut.k (k := Sum.inr (S r)) (by rw [upd_ne ndu]; exact hd2) (by rw [wK_len hu2.len]; exact small1000 (by omega)), ?_⟩
          rw [wK_put (e := (r, l, sh)) hu2.len hin]
          have s3 : Same H2 (upd H2 u (.tup [.str (S l), .str (S sh)])) := sm_new hu
          have s4' : Same H (upd (upd H2 u (.tup [.str (S l), .str (S sh)])) d (.dK (wK (W ++ [(r, l, sh)]) (us ++ [u])))) := sm_put (s2.trans s3) hd
          have hp4 : (upd (upd H2 u (.tup [.str (S l), .str (S sh)])) d (.dK (wK (W ++ [(r, l, sh)]) (us ++ [u])))) p = some (.lst (ts.map V.ref)) := by rw [upd_ne npd, upd_ne npu]; exact hp2
          have hd4 : (upd (upd H2 u (.tup [.str (S l), .str (S sh)])) d (.dK (wK (W ++ [(r, l, sh)]) (us ++ [u])))) d = some (.dK (wK (W ++ [(r, l, sh)]) (us ++ [u]))) := upd_same
          have ht4 : TriAt (upd (upd H2 u (.tup [.str (S l), .str (S sh)])) d (.dK (wK (W ++ [(r, l, sh)]) (us ++ [u])))) ts F := ht2.keep fun t e h => by
            rw [upd_ne (fun q => by rw [q, hd2] at h; cases h)]; exact s3 _ _ h
          have hu4 : PairAt (upd (upd H2 u (.tup [.str (S l), .str (S sh)])) d (.dK (wK (W ++ [(r, l, sh)]) (us ++ [u])))) (us ++ [u]) (W ++ [(r, l, sh)]) := by
            refine PairAt.push (hu2.keep fun v x y h => ?_) ?_
            · rw [upd_ne (fun q => by rw [q, hd2] at h; cases h)]; exact s3 _ _ h
            · rw [upd_ne ndu.symm, upd_same]
          generalize upd (upd H2 u (.tup [.str (S l), .str (S sh)])) d (.dK (wK (W ++ [(r, l, sh)]) (us ++ [u]))) = H4 at s4' hp4 hd4 ht4 hu4 ⊢
          refine ⟨_, rfl, .inl ⟨rfl, _, SqL.of hp4⟩, ?_⟩
          refine ⟨_, rfl, _, rfl, _, rfl, _, rfl, a, sg, ims, r, l, sh, rfl, hc.same s4', g, ?_, by omega, fun p2 ts2 H5 s5' hn2 hp5 ht5 => ?_⟩
          · have := rest_base gg.hl hf ge.rst
            have hb : ∀ x ∈ baseL ims, x.length ≤ 4 := fun x hx => by
              rcases List.mem_cons.mp hx with rfl | hx
              · exact Nat.zero_le _
              · obtain ⟨im, h1, h2⟩ := List.mem_flatMap.mp hx
                obtain ⟨kk, _, rfl⟩ := List.mem_map.mp h2
                rw [List.length_drop]
                have := gg.h4 im h1
                omega
            exact Nat.le_trans (hb _ this) (by decide)
          have hnx := nextT_len gg.zip_len (r, l, sh)
          have npp2 : p ≠ p2 := fun q => by rw [q, hn2] at hp4; cases hp4
          have hp5' := s5' _ _ hp4
          refine ⟨p, p2, _, _, rfl, rfl, hp5', hp5, ?_, ?_⟩
          · rw [refs_len, refs_len, ht4.len, ht5.len]; exact Nat.le_of_lt (small1000 (by omega))
          · have hW5 := hW.put gg hf he hin
            refine ⟨F ++ nextT (sg.zip ims) (r, l, sh), W ++ [(r, l, sh)], ts ++ ts2, us ++ [u], rfl, sm_put (s4'.trans s5') hpH, by rw [upd_same, List.map_append], ?_, ?_, ?_, hW5, by rw [List.length_append]; omega⟩
            · exact ((ht4.keep fun t e h => s5' _ _ h).app ht5).keep fun t e h => tri_put hp5' h
            · rw [upd_ne npd.symm]; exact s5' _ _ hd4
            · exact hu4.keep fun v x y h => by
                rw [upd_ne (fun q => by rw [q, hp4] at h; cases h)]; exact s5' _ _ h
      · rintro σ' H3 ⟨F', W', ts', us', rfl, b1, b2, b3, b4, b5, b6, b7⟩
        exact ⟨_, rfl, _, _, rfl, rfl, F', W', ts', us', _, _, _, rfl, b1, b2, b3, b4, b5, b6, b7⟩
    · have hal : F.length ≤ at_ := by rw [decide_eq_true_eq] at hlt; omega
      exact ⟨_, rfl, k d W us H2 s2 hd hd2 hu2 hW.nd few1 (fun e he => (hW.ge e (hW.sub e he)).mono (by omega)) (hW.all gg hal)⟩
end
end Toy
set_option maxHeartbeats 4000000
namespace LX
open PySem PySem.Spec PyProof.Rows L2 C8 SX
section
variable {prog : Program} {w : World} {A : Around} {E : Value → Shared → Prop} {s : Shared}
theorem set_of_listI {l : Addr} {items : Array Value} {ns : List Int} {Q : Value → Shared → Prop} (hh : A.handled = none) (hl : s.heap.IsList l items) (hi : IntsAre items.toList ns) (room : ns.length + 1 < scanBound)
    (h : ∀ (h' : Heap) (tk c : Nat), SetR w h' s.heap.objs.size (fun j => decide (j ∈ ns)) c → c ≤ ns.length → (∀ b o, s.heap.get? b = some o → h'.get? b = some o) → Q (.ref s.heap.objs.size) { s with heap := h', toks := tk }) :
    wpAny (model prog w) A (call (.type "set") [.ref l]) Q E s := by
  obtain ⟨c, tl, hmro⟩ := PySem.F.called_set.mro
  have hmade := PySem.F.called_set.made
  have hsub := PySem.F.called_set.sub
  refine wpAny_call (codeAny_of_tree ?_)
  refine wpAny_pure ⟨Code.quiet_builtin _ (by decide +kernel), codeAny_builtin PySem.F.entry_type_call ?_⟩
  rw [Around.under_plain (weight_type_call_type "set" [.ref l] []) rfl]
  have nt := PySem.F.called_set.notType
  have cc := PySem.F.called_set.canCreate
  have ct := PySem.F.typeCall_set_1 (.ref l)
  repeat (any_goals (first | assumption | wp_step))
  refine codeAny_mono (code_set_led1 (.ref l) (E := E) (Q₁ := fun obj s1 => obj = .ref s.heap.objs.size ∧ s1 = { s with heap := s.heap.push (setO (!w.params.followText "set-order")) }) ⟨rfl, rfl⟩) fun r s1 hr => ?_
  match r, hr with
  | .ok (.ret obj), hr =>
    obtain ⟨rfl, rfl⟩ := hr
    have hS : (s.heap.push (setO (!w.params.followText "set-order"))).get? s.heap.objs.size = some (setO (!w.params.followText "set-order")) := Heap.get?_push_size _ rfl
    have hTy : Shared.TypeIs { s with heap := s.heap.push (setO (!w.params.followText "set-order")) } (.ref s.heap.objs.size) "set" := ⟨_, hS, rfl⟩
    have li := PySem.F.called_set.init.lookup
    have bi := PySem.F.called_set.init.bind (.ref s.heap.objs.size)
    repeat (any_goals (first | assumption | wp_step))
    refine codeAny_mono (codeAny_call_builtin (R := wants (fun r s2 => r = .none ∧ ∃ h' tk, s2 = { s with heap := h', toks := tk } ∧ (∃ c, SetR w h' s.heap.objs.size (fun j => decide (j ∈ ns)) c ∧ c ≤ ns.length) ∧ (∀ b o, s.heap.get? b = some o → h'.get? b = some o)) E)
      PySem.F.called_set.init.plain PySem.F.entry_set_init (check_set_init_1 hTy ?_)) fun r2 s2 hr2 => ?_
    · obtain ⟨⟨oc, od, odt, osl⟩, hol, hcl, nl, hdl⟩ := hl
      dsimp only at hcl hdl
      subst hcl hdl
      have hol' : (s.heap.push (setO (!w.params.followText "set-order"))).get? l = some { cls := .type "list", dict := od, data := .seq items nl, slots := osl } := Heap.get?_push_of_some _ hol
      have ss := PySem.F.sub_list_set
      have sf := PySem.F.sub_list_frozenset
      have ne : (Value.type "list" == Value.type "dict") = false := by decide
      have hl1 : (s.heap.push (setO (!w.params.followText "set-order"))).IsList l items := ⟨_, hol', rfl, nl, rfl⟩
      unfold Builtin.«set.__init__» noKeywords Builtin.Frozenset.updateFrom
      generalize hPI : pyIter = PI
      wp_walk
      subst hPI
      refine wpAny_pyIter_list hl1 ?_
      refine wpAny_bind (wpAny_runValue ?_)
      have hlS : l < s.heap.objs.size := Heap.lt_size hol
      have hz : (s.heap.push (setO (!w.params.followText "set-order"))).objs.size = s.heap.objs.size + 1 := Heap.size_push ..
      have neI : l ≠ (s.heap.push (setO (!w.params.followText "set-order"))).objs.size := by rw [hz]; exact Nat.ne_of_lt (Nat.lt_succ_of_lt hlS)
      have off : s.heap.objs.size ∉ [(s.heap.push (setO (!w.params.followText "set-order"))).objs.size, l] := by
        rw [hz]; simp only [List.mem_cons, List.not_mem_nil, or_false, not_or]
        exact ⟨Nat.ne_of_lt (Nat.lt_succ_self _), Nat.ne_of_gt hlS⟩
      have hsz : items.size = ns.length := by have q := IntsAre.length hi; rw [Array.length_toList] at q; exact q
      refine set_update_ints ((Walks.list (A := A.in1.in1.in1) (by simp [hh]) _ l neI items).toS) s.heap.objs.size off ns hsz room (fun i v hv => ?_) _ 0 _ rfl (Nat.zero_le _) ⟨⟨_, Heap.get?_push_size _ rfl, rfl, rfl⟩, hl1.push _⟩ ⟨0, Nat.le_refl _, setR_new_at (Heap.get?_push_of_some _ hS)⟩ fun s' c hm hc hS' => ?_
      · have hlt : i < ns.length := by rw [← hsz]; exact (Array.getElem?_eq_some_iff.mp hv).1
        obtain ⟨t, e⟩ := PyProof.Rows.IntsAre.int_at hi i v (by rw [Array.getElem?_toList]; exact hv)
        exact ⟨ns[i], t, List.getElem?_eq_getElem hlt, by rw [e, List.getD_eq_getElem?_getD, List.getElem?_eq_getElem hlt]; rfl⟩
      · obtain ⟨h', g', d', tk', os'⟩ := s'
        obtain rfl : g' = s.gens := hm.gens
        obtain rfl : d' = s.drawn := hm.drawn
        obtain rfl : os' = s.os := hm.os
        refine wpAny_pure (wpAny_pure ⟨rfl, h', tk', rfl, ⟨c, hS', by rw [← hsz]; exact hc⟩, fun b o e => ?_⟩)
        have hb : b < s.heap.objs.size := Heap.lt_size e
        refine hm.heap b o (fun hmem => ?_) (Heap.get?_push_of_some _ (Heap.get?_push_of_some _ e))
        have e' : b = s.heap.objs.size ∨ b = (s.heap.push (setO (!w.params.followText "set-order"))).objs.size := by simpa using hmem
        rcases e' with e' | e'
        · exact Nat.ne_of_lt hb e'
        · rw [hz] at e'; exact Nat.ne_of_lt (Nat.lt_succ_of_lt hb) e'
    · match r2, hr2 with
      | .ok (.ret r), hr2 =>
        obtain ⟨rfl, h', tk, rfl, ⟨c, hS', hc⟩, hk'⟩ := hr2
        repeat (any_goals (first | assumption | wp_step))
        exact h _ _ _ hS' hc hk'
      | .error e, hr2 => exact hr2
  | .error e, hr => exact hr
end
section
variable {X : Cx}
theorem sortI_run {pins : List (Addr × Obj)} {σ : L2.St} {H1 : Hp} {Q : VK} {s1 : Shared} {a : Addr} {ns : List Int} {c : Nat} (hc : X.calm = true) (I2 : Inv X pins σ H1 s1) (hS : SetR X.w s1.heap a (fun j => decide (j ∈ ns)) c) (hcn : c ≤ ns.length) (hl : ns.length < 60)
    (q1 : ∀ (p : Addr) (ms : List Int), H1 p = none → ms.Pairwise (· < ·) → (∀ k, k ∈ ms ↔ k ∈ ns) → Q (.ref p) (upd H1 p (.lst (ms.map V.int)))) : wpAny (model X.prog X.w) X.A (call (.builtin "sorted") [.ref a]) (EP X pins σ Q) X.xe s1 := by
  refine sorted_set hS (I2.ok.hd hc) (by omega) fun s' p out cc ms k g o hp hg hi hs hmm hlen => ?_
  have hn : H1 p = none := I2.hok.fresh hp
  have hlen2 : (ms.map V.int).length ≤ sizeLine := by rw [List.length_map, sizeLine_eq]; omega
  have J : Inv X pins σ (upd H1 p (.lst (ms.map V.int))) { s1 with heap := s'.heap, gens := s'.gens, drawn := s'.drawn, toks := s'.toks } :=
    I2.call (ch := []) (Un.laid k hp hn) (I2.hok.laid k hp ⟨hlen2, out.toList, cc, vals_of_ints hi, hg⟩) (by rw [g]; exact I2.bare) (fun _ z => nomatch z)
  have e : s' = { s1 with heap := s'.heap, gens := s'.gens, drawn := s'.drawn, toks := s'.toks } := by
    cases s'; cases s1; cases o; rfl
  rw [e]
  exact ⟨.ref p, _, J, rfl, q1 p ms hn hs fun z => by rw [hmm z, decide_eq_true_eq]⟩
def tSortSetI (K : PySem.W.Frag) (ta : TE) : TE := fun σ H Q => ta σ H fun x H1 => ∃ (l : Addr) (ns : List Int), x = .ref l ∧ SqL K H1 l (ns.map V.int) ∧ ns.length < 60 ∧ ∀ (p : Addr) (ms : List Int), H1 p = none → ms.Pairwise (· < ·) → (∀ k, k ∈ ms ↔ k ∈ ns) → Q (.ref p) (upd H1 p (.lst (ms.map V.int)))
theorem pe_sortSetI {a : Expr} {ta : TE} {p p2 q pos : Pos} (hc : X.calm = true) (hg : Gl X "sorted") (hm : X.mg "sorted" = none) (hg2 : Gl X "set") (hm2 : X.mg "set" = none) (ha : PE X a ta)
    (na : starEach [a] X.env = (false, eval a X.env) :: starEach [] X.env := by rfl) : PE X (.Call (.Name "sorted" p) [.Call (.Name "set" p2) [a] [] q] [] pos) (tSortSetI X.K ta) := by
  refine ⟨fun pins s σ H Q I h => ?_⟩
  refine Call_ (ld_blt I hg hm PyProof.Rows.boot_sorted (PyProof.Rows.callWith_builtin1 (PyProof.Rows.args_cons ?_ rfl) rfl rfl))
  refine Call_ (ld_blt I hg2 hm2 PyProof.Rows.boot_set (PyProof.Rows.callWith_type1 (PyProof.Rows.args_cons (thn (ha.run pins s σ H _ I h) fun v s1 ⟨x, H1, I1, r1, q1⟩ => PyProof.Rows.args_nil ?_) na) na rfl))
  obtain ⟨l, ns, rfl, hq, hl, q1⟩ := q1
  cases r1
  obtain ⟨its, r, pl, hz⟩ := I1.list hq
  refine set_of_listI (ns := ns) (I1.ok.hd hc) pl.isList (by simpa using r.ints) (by unfold scanBound; omega) fun h' u c hS hcn hk => ?_
  refine PyProof.Rows.args_nil ?_
  exact sortI_run (s1 := { s1 with heap := h', toks := u }) hc (I1.kept hk) hS hcn hl q1
end
end LX
set_option maxHeartbeats 4000000
namespace LX
open PySem PySem.Spec PyProof.Rows L2 C8 SX
theorem nodup_le {α : Type} [DecidableEq α] : ∀ {l m : List α}, l.Nodup → (∀ x ∈ l, x ∈ m) → l.length ≤ m.length
  | [], m, _, _ => Nat.zero_le _
  | a :: l, m, nd, h => by
    rw [List.nodup_cons] at nd
    have ha := h a List.mem_cons_self
    have ih := nodup_le (l := l) (m := m.erase a) nd.2 fun x hx => by
      have hne : x ≠ a := fun e => nd.1 (e ▸ hx)
      exact (List.mem_erase_of_ne hne).mpr (h x (List.mem_cons_of_mem _ hx))
    rw [List.length_erase_of_mem ha] at ih
    have := List.length_pos_of_mem ha
    rw [List.length_cons]
    omega
section
variable {w : World} {a : Addr} {ks ks' : List Str}
theorem SetT.of_mem {h : Heap} (R : SetT w h a ks) (e : ∀ k, k ∈ ks ↔ k ∈ ks') : SetT w h a ks' := by
  obtain ⟨o, es, ep, t, ho, hex, hd, g, nd, hm, hk, r⟩ := R
  refine ⟨o, es, ep, t, ho, hex, hd, g, nd, fun k => (hm k).trans (e k), ?_, r⟩
  have := nodup_le nd fun x hx => (e x).mp ((hm x).mp hx)
  rw [List.length_map, Array.length_toList] at this
  exact this
end
section
variable {prog : Program} {w : World} {A : Around} {R : Result → Shared → Prop} {I S : Addr} {fp wr : List Addr} {G : Array GenState → Array GenState → Prop} {n : Nat} {P : Nat → Value → Prop} {St : Nat → Shared → Prop}
theorem setT_loopL (W : WalksS prog w A.in1 I fp wr G n P St) (off : S ∉ fp) {xs B : List Str} (hl : xs.length = n) (hB : ∀ x ∈ xs, x ∈ B) (room : B.length + 1 < scanBound) (val : ∀ i v, P i v → ∃ x t, xs[i]? = some x ∧ v = .str x t) :
    ∀ (k i : Nat) (s : Shared) (ks : List Str), i + k = n → St i s → SetT w s.heap S ks → ks.Nodup → (∀ z, z ∈ ks ↔ z ∈ xs.take i) → (∀ s' ks', Moved (S :: wr) G s s' → SetT w s'.heap S ks' → ks'.Nodup → (∀ z, z ∈ ks' ↔ z ∈ xs) → R (.ok (.ret .none)) s') →
      codeAny (model prog w) A (.builtin "set.update.loop" ⟨[.ref S, .ref I], []⟩) R s
  | 0, i, s, ks, hk, hst, he, hnd, hz, hR => by
    obtain rfl : i = n := hk
    refine codeAny_builtin PyProof.Rows.F.entry_set_update_loop ?_
    rw [Around.under_plainId PyProof.Rows.F.plain_set_update_loop _]
    refine wpAny_bind (W.done s _ _ hst fun s' hm => wpAny_pure (hR s' ks (hm.mono fun b hb => List.mem_cons_of_mem _ hb) (he.stay fun o e => hm.heap S o (fun h => off (W.sub _ h)) e) hnd (fun z => ?_)))
    rw [hz z, List.take_of_length_le (by omega)]
  | k + 1, i, s, ks, hk, hst, he, hnd, hz, hR => by
    refine codeAny_builtin PyProof.Rows.F.entry_set_update_loop ?_
    rw [Around.under_plainId PyProof.Rows.F.plain_set_update_loop _]
    refine wpAny_bind (W.item i s _ _ (by omega) hst fun v s' hP hst' hm => ?_)
    obtain ⟨x, u, hx, rfl⟩ := val i v hP
    have he2 : SetT w s'.heap S ks := he.stay fun o e => hm.heap S o (fun h => off (W.sub _ h)) e
    have hle := nodup_le hnd fun z h => hB z (List.mem_of_mem_take ((hz z).mp h))
    show wpAny _ A.in1 (holding [Value.str x u] (setAdd S (.str x u)) >>= _) _ _ s'
    refine wpAny_bind (wpAny_holding ?_)
    unfold setAdd
    refine wpAny_holding (wpAny_bind ((PySem.strKind prog w).pyHash (k := x) (is_strT _ _) ?_))
    refine setT_add (s := { s' with toks := s'.toks + 1 }) he2 (by omega) fun b h2 sb he3 => ?_
    have hmem : ∀ z, z ∈ x :: ks ↔ z ∈ xs.take (i + 1) := fun z => by
      rw [List.mem_cons, hz z, List.take_succ, hx, List.mem_append]
      show z = _ ∨ z ∈ xs.take i ↔ z ∈ xs.take i ∨ z ∈ [x]
      rw [List.mem_singleton]
      exact Or.comm
    obtain ⟨ks2, he4, hnd2, hz2⟩ : ∃ ks2, SetT w h2 S ks2 ∧ ks2.Nodup ∧ ∀ z, z ∈ ks2 ↔ z ∈ xs.take (i + 1) := by
      by_cases q : x ∈ ks
      · have e : ∀ z, z ∈ x :: ks ↔ z ∈ ks := fun z => by rw [List.mem_cons]; exact ⟨fun h => h.elim (fun h => h ▸ q) id, .inr⟩
        exact ⟨ks, he3.of_mem e, hnd, fun z => (e z).symm.trans (hmem z)⟩
      · exact ⟨x :: ks, he3, List.nodup_cons.mpr ⟨q, hnd⟩, hmem⟩
    refine wpAny_pure ⟨plainId_quiet PyProof.Rows.F.plain_set_update_loop _, setT_loopL W off hl hB room val k (i + 1) _ ks2 (by omega) (W.frame _ s' _ _ hst' (Nat.le_succ _) fun b hb o e => ?_) he4 hnd2 hz2 fun s2 ks3 hm2 he5 hn3 hz3 => ?_⟩
    · rw [sb.2 b (fun h => off (h ▸ hb))]; exact e
    · refine hR s2 ks3 (Moved.trans W.gtrans ((hm.mono fun b hb => List.mem_cons_of_mem _ hb).then_heap (Nat.le_succ _) fun b o hb e => ?_) hm2) he5 hn3 hz3
      rw [sb.2 b (fun h => hb (by rw [h]; exact List.mem_cons_self))]; exact e
end
section
variable {prog : Program} {w : World} {A : Around} {E : Value → Shared → Prop} {s : Shared}
theorem set_of_listT {l : Addr} {items : Array Value} {xs B : List Str} {Q : Value → Shared → Prop} (hh : A.handled = none) (hl : s.heap.IsList l items) (hi : PyProof.Rows.StrsAre items.toList xs) (hB : ∀ x ∈ xs, x ∈ B) (room : B.length + 1 < scanBound)
    (h : ∀ (h' : Heap) (tk : Nat) ks, SetT w h' s.heap.objs.size ks → ks.Nodup → (∀ z, z ∈ ks ↔ z ∈ xs) → (∀ b o, s.heap.get? b = some o → h'.get? b = some o) → Q (.ref s.heap.objs.size) { s with heap := h', toks := tk }) :
    wpAny (model prog w) A (call (.type "set") [.ref l]) Q E s := by
  obtain ⟨c, tl, hmro⟩ := PySem.F.called_set.mro
  have hmade := PySem.F.called_set.made
  have hsub := PySem.F.called_set.sub
  refine wpAny_call (codeAny_of_tree ?_)
  refine wpAny_pure ⟨Code.quiet_builtin _ (by decide +kernel), codeAny_builtin PySem.F.entry_type_call ?_⟩
  rw [Around.under_plain (weight_type_call_type "set" [.ref l] []) rfl]
  have nt := PySem.F.called_set.notType
  have cc := PySem.F.called_set.canCreate
  have ct := PySem.F.typeCall_set_1 (.ref l)
  repeat (any_goals (first | assumption | wp_step))
  refine codeAny_mono (code_set_led1 (.ref l) (E := E) (Q₁ := fun obj s1 => obj = .ref s.heap.objs.size ∧ s1 = { s with heap := s.heap.push { cls := .type "set", dict := none, data := .set #[] 0 (.fresh 0 0 (!w.params.followText "set-order")) } }) ⟨rfl, rfl⟩) fun r s1 hr => ?_
  match r, hr with
  | .ok (.ret obj), hr =>
    obtain ⟨rfl, rfl⟩ := hr
    have f0 : SetT w _ s.heap.objs.size [] := setT_fresh (w := w) (h := s.heap)
    generalize (!w.params.followText "set-order") = led at f0 ⊢
    have hS : (s.heap.push (setO led)).get? s.heap.objs.size = some (setO led) := Heap.get?_push_size _ rfl
    have hTy : Shared.TypeIs { s with heap := s.heap.push (setO led) } (.ref s.heap.objs.size) "set" := ⟨_, hS, rfl⟩
    have li := PySem.F.called_set.init.lookup
    have bi := PySem.F.called_set.init.bind (.ref s.heap.objs.size)
    repeat (any_goals (first | assumption | wp_step))
    refine codeAny_mono (codeAny_call_builtin (R := wants (fun r s2 => r = .none ∧ ∃ h' tk ks, s2 = { s with heap := h', toks := tk } ∧ SetT w h' s.heap.objs.size ks ∧ ks.Nodup ∧ (∀ z, z ∈ ks ↔ z ∈ xs) ∧ (∀ b o, s.heap.get? b = some o → h'.get? b = some o)) E)
      PySem.F.called_set.init.plain PySem.F.entry_set_init (check_set_init_1 hTy ?_)) fun r2 s2 hr2 => ?_
    · obtain ⟨⟨oc, od, odt, osl⟩, hol, hcl, nl, hdl⟩ := hl
      dsimp only at hcl hdl
      subst hcl hdl
      have hol' : (s.heap.push (setO led)).get? l = some { cls := .type "list", dict := od, data := .seq items nl, slots := osl } := Heap.get?_push_of_some _ hol
      have ss := PySem.F.sub_list_set
      have sf := PySem.F.sub_list_frozenset
      have ne : (Value.type "list" == Value.type "dict") = false := by decide
      have hl1 : (s.heap.push (setO led)).IsList l items := ⟨_, hol', rfl, nl, rfl⟩
      unfold Builtin.«set.__init__» noKeywords Builtin.Frozenset.updateFrom
      generalize hPI : pyIter = PI
      wp_walk
      subst hPI
      refine wpAny_pyIter_list hl1 ?_
      refine wpAny_bind (wpAny_runValue ?_)
      have hlS : l < s.heap.objs.size := Heap.lt_size hol
      have hz : (s.heap.push (setO led)).objs.size = s.heap.objs.size + 1 := Heap.size_push ..
      have neI : l ≠ (s.heap.push (setO led)).objs.size := by rw [hz]; exact Nat.ne_of_lt (Nat.lt_succ_of_lt hlS)
      have off : s.heap.objs.size ∉ [(s.heap.push (setO led)).objs.size, l] := by
        rw [hz]; simp only [List.mem_cons, List.not_mem_nil, or_false, not_or]
        exact ⟨Nat.ne_of_lt (Nat.lt_succ_self _), Nat.ne_of_gt hlS⟩
      have hsz : xs.length = items.size := by rw [← StrsAre.len_eq hi, Array.length_toList]
      refine setT_loopL (xs := xs) (B := B) ((Walks.list (A := A.in1.in1.in1) (by simp [hh]) _ l neI items).toS) off hsz hB room (fun i v hv => ?_) items.size 0 _ [] (Nat.zero_add _) ⟨⟨_, Heap.get?_push_size _ rfl, rfl, rfl⟩, hl1.push _⟩ (f0.stay fun o' e => Heap.get?_push_of_some _ e) List.nodup_nil (fun z => by simp) fun s' ks' hm hS' hn' hz' => ?_
      · obtain ⟨t, e⟩ := SS.strs_at hi i v (by rw [Array.getElem?_toList]; exact hv)
        have hlt : i < xs.length := by rw [hsz]; exact (Array.getElem?_eq_some_iff.mp hv).1
        exact ⟨xs[i], t, List.getElem?_eq_getElem hlt, by rw [e, List.getD_eq_getElem?_getD, List.getElem?_eq_getElem hlt]; rfl⟩
      · obtain ⟨h', g', d', tk', os'⟩ := s'
        obtain rfl : g' = s.gens := hm.gens
        obtain rfl : d' = s.drawn := hm.drawn
        obtain rfl : os' = s.os := hm.os
        refine wpAny_pure (wpAny_pure ⟨rfl, h', tk', ks', rfl, hS', hn', hz', fun b o e => ?_⟩)
        have hb : b < s.heap.objs.size := Heap.lt_size e
        refine hm.heap b o (fun hmem => ?_) (Heap.get?_push_of_some _ (Heap.get?_push_of_some _ e))
        have e' : b = s.heap.objs.size ∨ b = (s.heap.push (setO led)).objs.size := by simpa using hmem
        rcases e' with e' | e'
        · exact Nat.ne_of_lt hb e'
        · rw [hz] at e'; exact Nat.ne_of_lt (Nat.lt_succ_of_lt hb) e'
    · match r2, hr2 with
      | .ok (.ret r), hr2 =>
        obtain ⟨rfl, h', tk, ks, rfl, hS', hn', hz', hk'⟩ := hr2
        repeat (any_goals (first | assumption | wp_step))
        exact h _ _ _ hS' hn' hz' hk'
      | .error e, hr2 => exact hr2
  | .error e, hr => exact hr
end
theorem rising_pw : ∀ (ds : List (List Nat)) (d : List Nat), risingS (S d) (ds.map S) = true → (∀ e ∈ ds, ¬ e < d) ∧ ds.Pairwise fun a b => ¬ b < a
  | [], _, _ => ⟨(fun _ h => nomatch h), .nil⟩
  | c :: ds, d, h => by
    have h : (!ltCps (S c).cps.toList (S d).cps.toList && risingS (S c) (ds.map S)) = true := h
    rw [Bool.and_eq_true] at h
    obtain ⟨i1, i2⟩ := rising_pw ds c h.2
    have hcd : ¬ c < d := by
      have h1 := h.1
      rw [ltCps_eq] at h1
      have h1 : (!decide (c < d)) = true := by simpa [S] using h1
      simpa using h1
    refine ⟨fun e he => ?_, List.pairwise_cons.mpr ⟨i1, i2⟩⟩
    rcases List.mem_cons.mp he with rfl | he
    · exact hcd
    · exact List.not_lt.mpr (List.le_trans (List.not_lt.mp hcd) (List.not_lt.mp (i1 e he)))
theorem sorted_pw {ds : List (List Nat)} (h : sortedS (ds.map S) = true) : ds.Pairwise fun a b => ¬ b < a := by
  cases ds with
  | nil => exact .nil
  | cons d ds =>
    obtain ⟨i1, i2⟩ := rising_pw ds d h
    exact List.pairwise_cons.mpr ⟨i1, i2⟩
theorem sorted_rise {ds : List (List Nat)} (h : sortedS (ds.map S) = true) (n : ds.Nodup) : ds.Pairwise (· < ·) :=
  ((sorted_pw h).and n).imp fun ⟨a, b⟩ => by
    rcases List.le_iff_lt_or_eq.mp (List.not_lt.mp a) with h | h
    · exact h
    · exact absurd h b
theorem txts_of : ∀ {ss : List Str} {xs : List (List Nat)}, (∀ k ∈ ss, ∃ x ∈ xs, k = S x) → ∃ ds : List (List Nat), ss = ds.map S
  | [], _, _ => ⟨[], rfl⟩
  | k :: ss, xs, h => by
    obtain ⟨c, _, rfl⟩ := h k List.mem_cons_self
    obtain ⟨ds, rfl⟩ := txts_of (ss := ss) (xs := xs) fun x hx => h x (List.mem_cons_of_mem _ hx)
    exact ⟨c :: ds, rfl⟩
theorem S_inj' {a b : List Nat} (h : S a = S b) : a = b := by simpa [S] using h
theorem map_S_nodup {ds : List (List Nat)} (h : (ds.map S).Nodup) : ds.Nodup := List.Pairwise.of_map S (fun a b hne e => hne (by rw [e])) h
theorem mem_map_S {x : List Nat} {xs : List (List Nat)} : S x ∈ xs.map S ↔ x ∈ xs := by
  rw [List.mem_map]
  exact ⟨fun ⟨y, hy, e⟩ => S_inj' e ▸ hy, fun h => ⟨x, h, rfl⟩⟩
section
variable {X : Cx}
theorem sortXL_run {pins : List (Addr × Obj)} {σ : L2.St} {H1 : Hp} {Q : VK} {s1 : Shared} {a : Addr} {ks : List Str} {xs : List (List Nat)} (hc : X.calm = true) (I2 : Inv X pins σ H1 s1) (hS : SetT X.w s1.heap a ks) (hz : ∀ z, z ∈ ks ↔ z ∈ xs.map S) (hn : ks.length < 60)
    (q1 : ∀ (p : Addr) (ds : List (List Nat)), H1 p = none → ds.Pairwise (· < ·) → (∀ c, c ∈ ds ↔ c ∈ xs) → Q (.ref p) (upd H1 p (.lst (txs ds)))) : wpAny (model X.prog X.w) X.A (call (.builtin "sorted") [.ref a]) (EP X pins σ Q) X.xe s1 := by
  refine sorted_setX hS (I2.ok.hd hc) (by omega) fun s' p out c ss k2 g2 o2 hp ho hS2 srt nd mem hle => ?_
  have hmem : ∀ k, k ∈ ss ↔ k ∈ xs.map S := fun k => (mem k).trans (hz k)
  obtain ⟨ds, rfl⟩ := txts_of (xs := xs) fun k hk => let ⟨x, hx, e⟩ := List.mem_map.mp ((hmem k).mp hk); ⟨x, hx, e.symm⟩
  have hn2 : H1 p = none := I2.hok.fresh hp
  have eL : ((ds.map S).map V.str) = txs ds := by unfold txs; rw [List.map_map]; rfl
  have hlen : ((ds.map S).map V.str).length ≤ sizeLine := by
    rw [List.length_map, sizeLine_eq]
    omega
  have J : Inv X pins σ (upd H1 p (.lst ((ds.map S).map V.str))) { s1 with heap := s'.heap, gens := s'.gens, drawn := s'.drawn, toks := s'.toks } :=
    I2.call (ch := []) (Un.laid k2 hp hn2) (I2.hok.laid k2 hp ⟨hlen, out.toList, c, vals_of_strs hS2, ho⟩) (by rw [g2]; exact I2.bare) (fun _ z => nomatch z)
  have e : s' = { s1 with heap := s'.heap, gens := s'.gens, drawn := s'.drawn, toks := s'.toks } := by
    cases s'; cases s1; cases o2; rfl
  rw [e]
  rw [eL] at J
  exact ⟨.ref p, _, J, rfl, q1 p ds hn2 (sorted_rise srt (map_S_nodup nd)) fun c => by rw [← mem_map_S, hmem, mem_map_S]⟩
def tSortSetL (K : PySem.W.Frag) (ta : TE) : TE := fun σ H Q => ta σ H fun x H1 => ∃ (l : Addr) (xs B : List (List Nat)), x = .ref l ∧ SqL K H1 l (txs xs) ∧ (∀ x ∈ xs, x ∈ B) ∧ B.length < 60 ∧ ∀ (p : Addr) (ds : List (List Nat)), H1 p = none → ds.Pairwise (· < ·) → (∀ c, c ∈ ds ↔ c ∈ xs) → Q (.ref p) (upd H1 p (.lst (txs ds)))
theorem pe_sortSetL {a : Expr} {ta : TE} {p p2 q pos : Pos} (hc : X.calm = true) (hg : Gl X "sorted") (hm : X.mg "sorted" = none) (hg2 : Gl X "set") (hm2 : X.mg "set" = none) (ha : PE X a ta)
    (na : starEach [a] X.env = (false, eval a X.env) :: starEach [] X.env := by rfl) : PE X (.Call (.Name "sorted" p) [.Call (.Name "set" p2) [a] [] q] [] pos) (tSortSetL X.K ta) := by
  refine ⟨fun pins s σ H Q I h => ?_⟩
  refine Call_ (ld_blt I hg hm PyProof.Rows.boot_sorted (PyProof.Rows.callWith_builtin1 (PyProof.Rows.args_cons ?_ rfl) rfl rfl))
  refine Call_ (ld_blt I hg2 hm2 PyProof.Rows.boot_set (PyProof.Rows.callWith_type1 (PyProof.Rows.args_cons (thn (ha.run pins s σ H _ I h) fun v s1 ⟨x, H1, I1, r1, q1⟩ => PyProof.Rows.args_nil ?_) na) na rfl))
  obtain ⟨l, xs, B, rfl, hq, hB, h60, q1⟩ := q1
  cases r1
  have hq' : SqL X.K H1 l ((xs.map S).map V.str) := by
    have : ((xs.map S).map V.str) = txs xs := by unfold txs; rw [List.map_map]; rfl
    rw [this]; exact hq
  obtain ⟨its, r, pl, hz⟩ := I1.list hq'
  refine set_of_listT (xs := xs.map S) (B := B.map S) (I1.ok.hd hc) pl.isList (by simpa using r.strs) (fun x hx => by obtain ⟨y, hy, rfl⟩ := List.mem_map.mp hx; exact List.mem_map.mpr ⟨y, hB y hy, rfl⟩) (by rw [List.length_map]; unfold scanBound; omega) fun h' u ks hS hnd hzz hk => ?_
  refine PyProof.Rows.args_nil ?_
  have hkl := nodup_le hnd fun z h => by
    obtain ⟨y, hy, rfl⟩ := List.mem_map.mp ((hzz z).mp h)
    exact List.mem_map.mpr ⟨y, hB y hy, rfl⟩
  rw [List.length_map] at hkl
  exact sortXL_run (s1 := { s1 with heap := h', toks := u }) hc (I1.kept hk) hS hzz (Nat.lt_of_le_of_lt hkl h60) q1
end
end LX
set_option maxHeartbeats 2000000
namespace Toy
open PySem L2 C8 SX LX K4
local macro_rules | `(tactic| walk_at "c") => `(tactic| refine And.intro (by first | (show (0 : Int) < _; omega) | exact Or.inr ⟨by decide, by decide⟩ | exact Or.inl ⟨by decide, by decide⟩ | (exact ⟨by omega, by omega⟩)) ?_)
local macro_rules | `(tactic| walk_at "s1") => `(tactic| first | refine ⟨_, rfl, ?_⟩ | refine ⟨_, _, rfl, rfl, ?_⟩ | refine .inl ⟨_, rfl, ?_⟩ | walk_at "c")
local macro_rules | `(tactic| walk_at "ix") => `(tactic| refine ⟨_, _, _, _, rfl, rfl, SqL.of (by first | assumption | exact upd_same), rfl, ?_⟩)
local macro_rules | `(tactic| walk_at "s") => `(tactic| repeat (walk_at "s1"))
def Clear (sg : List Nat) (ims : List (List Nat)) : Prop := Full ims ∧ ¬ Rest sg ims []
theorem full_or (ims : List (List Nat)) : (decide (([] : List Nat) ∈ ims) = true ∧ ¬ Full ims) ∨ (decide (([] : List Nat) ∈ ims) = false ∧ Full ims) := by
  by_cases h : ([] : List Nat) ∈ ims
  · exact .inl ⟨decide_eq_true h, fun f => f [] h rfl⟩
  · exact .inr ⟨decide_eq_false h, fun im hm e => h (e ▸ hm)⟩
theorem mem_txs {x : List Nat} {ims : List (List Nat)} : V.str (S x) ∈ txs ims ↔ x ∈ ims := by
  unfold txs
  rw [List.mem_map]
  exact ⟨fun ⟨y, hy, e⟩ => S_iff.mp e ▸ hy, fun h => ⟨x, h, rfl⟩⟩
theorem keys_list {W : List Tri} {us : List Addr} (hl : us.length = W.length) : ((wK W us).map fun kv => kV kv.1) = ((W.map (·.1)).map S).map V.str := by
  have : ((wK W us).map fun kv => kV kv.1) = ((wK W us).map (·.1)).map kV := by rw [List.map_map]; rfl
  rw [this, wK_keys hl, List.map_map, List.map_map, List.map_map, List.map_map]
  rfl
theorem flat_txs (xs : List (List Nat)) : (txs xs).all flatV = true := by
  unfold txs
  rw [List.all_map, List.all_eq_true]
  exact fun _ _ => rfl
section
variable {P : Program} {w : World} {K : PySem.W.Frag} {mg : Str → Option Value} {base : Heap}
abbrev s_rests : Stmt := top 18
abbrev n_rests : List Str := ["change"]
theorem sc_rests : FnScope n_rests ["change"] (fnScope s_rests) := fnScope_by (by decide +kernel)
def spRests (K : PySem.W.Frag) (C : Addr) : Sp := fun vs H Q _ => ∃ (a : Addr) (sg : List Nat) (ims : List (List Nat)), vs = [.ref a] ∧ Chg K C H a sg ims ∧ Gd sg ims ∧
  (¬ Full ims → ∀ H', Same H H' → Q .non H') ∧
  (Full ims → ∀ (p : Addr) (xs : List (List Nat)) (H' : Hp), Same H H' → H' p = some (.tup (txs xs)) → xs.Pairwise (· < ·) → xs.length ≤ 10 → (∀ x, x ∈ xs ↔ Rest sg ims x) → Q (.ref p) H')
theorem fn_rests {C : Addr} (T : BT mg) (CH : CC K C) (c_ways : Cal P w K mg base 2 "_ways_to_rests" (spWays K C) []) {f : Addr} {fd : FuncData} (F : Def K mg "rests" s_rests f fd) : FnOk P w K mg base C8.CX0 3 f fd ["change"] (spRests K C) := by
  refine fn0 F.fn sc_rests (fun vs H Q E h => ?_) (fun cdv A outer s H vs Q E hr h => ?_)
  · obtain ⟨a, sg, ims, rfl, _⟩ := h; rfl
  · obtain ⟨a, sg, ims, rfl, hc, g, k0, k1⟩ := h
    obtain ⟨dx, r, ha, hrr⟩ := id hc
    refine ⟨_, (pss_cons (ps_if (pt_cmpR (inK K) pe_str (fldK K (pv 0) rfl) rfl) 
        (pss_one (ps_ret pe_non)
        )
       pss_nil)
      (pss_one (ps_ret (pe_callTy (tupleK K) (by rfl) T.m_tuple PyProof.Rows.boot_tuple (pa_cons (pe_callB cr_sortedS (by rfl) T.m_sorted PyProof.Rows.boot_sorted (pa_cons (pe_callTy (call_listD rfl) (by rfl) T.m_list PyProof.Rows.boot_list (pa_cons (pe_c c_ways hr (by first | decide | omega) (by rfl) (pa_cons (pv 0) pa_nil)) pa_nil)) pa_nil)) pa_nil)))
      )), ?_⟩
    refine ⟨_, rfl, a, C, dx, _, _, rfl, ha, CH.cl, CH.nR, chF_rows _ _, ?_⟩
    rw [s_nil]
    refine ⟨r, _, rfl, .inr hrr, rfl, flat_txs ims, ?_⟩
    rw [show (if false = true then !inV (.str (S [])) (txs ims) else inV (.str (S [])) (txs ims)) = decide (([] : List Nat) ∈ ims) from inV_txs]
    refine ⟨_, rfl, ?_⟩
    rcases full_or ims with ⟨e, hf⟩ | ⟨e, hf⟩
    · exact iteB e (k0 hf H (Same.refl H))
    · refine iteN e ?_
      refine ⟨_, rfl, a, sg, ims, rfl, hc, g, hf, fun d W us H1 s1 hdn hd1 hu1 nd few ge all => ?_⟩
      refine ⟨d, _, rfl, .inl hd1, fun p hp => ?_⟩
      rw [keys_list hu1.len]
      have s2 : Same H1 (upd H1 p (.lst (((W.map (·.1)).map S).map V.str))) := sm_new hp
      refine ⟨p, (W.map (·.1)).map S, rfl, SqL.of upd_same, by rw [List.length_map, List.length_map]; omega, fun ys q hperm hsrt hq => ?_⟩
      obtain ⟨xs, rfl⟩ := txts_of (ss := ys) (xs := W.map (·.1)) fun kk hk => by
        obtain ⟨x, hx, e⟩ := List.mem_map.mp (hperm.mem_iff.mp hk)
        exact ⟨x, hx, e.symm⟩
      have hnd : xs.Nodup := map_S_nodup (hperm.nodup_iff.mpr (List.Pairwise.map S (fun a b hne e => hne (S_inj' e)) nd))
      have hmem : ∀ x, x ∈ xs ↔ Rest sg ims x := fun x => by rw [← all x, ← mem_map_S, hperm.mem_iff, mem_map_S]
      have hlen : xs.length ≤ 10 := by have := hperm.length_eq; rw [List.length_map, List.length_map, List.length_map] at this; omega
      have eL : ((xs.map S).map V.str) = txs xs := by unfold txs; rw [List.map_map]; rfl
      rw [eL]
      refine ⟨q, _, rfl, .inl ⟨SqL.of upd_same, fun l hl => ?_⟩⟩
      have s3 := sm_new (o := .lst (txs xs)) hq
      exact k1 hf l xs _ (((s1.trans s2).trans s3).trans (sm_new hl)) upd_same (sorted_rise hsrt hnd) hlen hmem
theorem ok_rests {C : Addr} (T : BT mg) (CH : CC K C) (c_ways : Cal P w K mg base 2 "_ways_to_rests" (spWays K C) []) {f : Addr} {fd : FuncData} (F : Def K mg "rests" s_rests f fd) (b : Binds K fd ["change"] []) : Cal P w K mg base 3 "rests" (spRests K C) [] := ⟨⟨f, fd, _, [], fn_rests T CH c_ways F, F.mgf, F.kp, b, .nil⟩⟩
end
end Toy
set_option maxHeartbeats 2000000
namespace Toy
open PySem L2 C8 SX LX K4
local macro_rules | `(tactic| walk_at "c") => `(tactic| refine And.intro (by first | (show (0 : Int) < _; omega) | exact Or.inr ⟨by decide, by decide⟩ | exact Or.inl ⟨by decide, by decide⟩ | (exact ⟨by omega, by omega⟩)) ?_)
local macro_rules | `(tactic| walk_at "s1") => `(tactic| first | refine ⟨_, rfl, ?_⟩ | refine ⟨_, _, rfl, rfl, ?_⟩ | refine .inl ⟨_, rfl, ?_⟩ | walk_at "c")
local macro_rules | `(tactic| walk_at "ix") => `(tactic| refine ⟨_, _, _, _, rfl, rfl, SqL.of (by first | assumption | exact upd_same), rfl, ?_⟩)
local macro_rules | `(tactic| walk_at "s") => `(tactic| repeat (walk_at "s1"))
theorem not_clear {sg : List Nat} {ims : List (List Nat)} {im : List Nat} (h : im ∈ ims) (e : im = []) : ¬ Clear sg ims := fun c => c.1 im h e
theorem heads_ne {l s : List Nat} (h : l.head? ≠ s.head?) : l ≠ s := fun e => h (by rw [e])
section
variable {P : Program} {w : World} {K : PySem.W.Frag} {mg : Str → Option Value} {base : Heap}
abbrev s_clash : Stmt := top 19
abbrev n_clash : List Str := ["change", "sign", "image"]
theorem sc_clash : FnScope n_clash ["change"] (fnScope s_clash) := fnScope_by (by decide +kernel)
def spClash (K : PySem.W.Frag) (C : Addr) : Sp := fun vs H Q _ => ∃ (a : Addr) (sg : List Nat) (ims : List (List Nat)), vs = [.ref a] ∧ Chg K C H a sg ims ∧ Gd sg ims ∧
  (Clear sg ims → ∀ H', Same H H' → Q .non H') ∧
  (¬ Clear sg ims → ∀ (t : Addr) (u v : List Nat) (H' : Hp), Same H H' → H' t = some (.tup [.str (S u), .str (S v)]) → Ov sg u → Ov sg v → u.length ≤ 20 → v.length ≤ 20 → u ≠ v → app sg ims u = app sg ims v → Q (.ref t) H')
theorem fn_clash {C : Addr} (T : BT mg) (CH : CC K C) (c_ways : Cal P w K mg base 2 "_ways_to_rests" (spWays K C) []) {f : Addr} {fd : FuncData} (F : Def K mg "clash" s_clash f fd) : FnOk P w K mg base C8.CX0 3 f fd ["change"] (spClash K C) := by
  refine fn0 F.fn sc_clash (fun vs H Q E h => ?_) (fun cdv A outer s H vs Q E hr h => ?_)
  · obtain ⟨a, sg, ims, rfl, _⟩ := h; rfl
  · obtain ⟨a, sg, ims, rfl, hc, g, k0, k1⟩ := h
    obtain ⟨dx, r, ha, hrr⟩ := id hc
    refine ⟨_, (pss_cons (ps_for PassesOwn.never rfl (pi_zipX (by rfl) T.m_zip (pa_cons (fldK K (pv 0) rfl) (pa_cons (fldK K (pv 0) rfl) pa_nil))) (tupK K 2 (pgs_cons (pg_name (i := 1) sc_clash.nd rfl (.inl rfl)) (pgs_cons (pg_name (i := 2) sc_clash.nd rfl (.inl rfl)) pgs_nil))) 
        (pss_one (ps_if (pt_cmpR op_eq (pv 2) pe_str (nomark _)) 
          (pss_one (ps_ret (pe_tup (pa_cons pe_str (pa_cons (pv 1) pa_nil))))
          )
         pss_nil)
        ))
      (pss_one (ps_ret (pe_dget1 (hu_of hr) (pe_c c_ways hr (by first | decide | omega) (by rfl) (pa_cons (pv 0) pa_nil)) pe_str ⟨by rfl, by rfl, by rfl, by rfl⟩))
      )), ?_⟩
    refine ⟨_, rfl, a, C, dx, _, _, rfl, ha, CH.cl, CH.nS, chF_signs _ _, ?_⟩
    refine ⟨_, rfl, a, C, dx, _, _, rfl, ha, CH.cl, CH.nR, chF_rows _ _, ?_⟩
    refine ⟨_, _, .txt (S sg), .tup r, rfl, rfl, rfl, trivial, ⟨_, hrr⟩, ?_⟩
    refine for_it (walk_zipX (K := K) (S1 := .txt (S sg)) (S2 := .tup r) (xs := sg.map fun c => V.str (S [c])) (ys := txs ims)) (fun i σ H' => (∃ (s1 s2 : Option V), σ = [some (.ref a), s1, s2]) ∧ Same H H' ∧ ∀ j im, j < i → ims[j]? = some im → im ≠ [])
      ⟨⟨_, _, rfl⟩, Same.refl H, fun j im h => absurd h (Nat.not_lt_zero j)⟩ (fun _ _ _ _ ⟨_, s1, _⟩ => ⟨rfl, sm_seqT s1 hrr⟩) ?_ ?_
    · rintro i x σ H1 H1' hi ⟨⟨z1, z2, rfl⟩, s1, hne⟩ ⟨t, x1, x2, rfl, ht, rfl, e1, e2⟩
      obtain ⟨c, hc1, rfl⟩ := chr_get e1
      obtain ⟨im, him, rfl⟩ := txs_get e2
      have sT : Same H1 (upd H1 t (.tup [.str (S [c]), .str (S im)])) := sm_new ht
      have htt : (upd H1 t (.tup [.str (S [c]), .str (S im)])) t = some (.tup [.str (S [c]), .str (S im)]) := upd_same
      have sHT := s1.trans sT
      generalize upd H1 t (.tup [.str (S [c]), .str (S im)]) = H2 at sT htt sHT ⊢
      refine ⟨t, _, rfl, .inl (.inl htt), rfl, _, _, rfl, _, _, rfl, rfl, ?_⟩
      refine ⟨_, rfl, rfl, _, rfl, ?_⟩
      rw [s_nil]
      by_cases h0 : im = []
      · subst h0
        refine iteB (decide_eq_true rfl) ?_
        have hcs := List.mem_of_getElem? hc1
        refine ⟨_, rfl, by show 2 ≤ sizeLine; decide, fun u hu => ?_⟩
        refine k1 (not_clear (List.mem_of_getElem? him) rfl) u [] [c] _ (sHT.trans (sm_new hu)) upd_same (fun _ h => nomatch h) (fun d hd => by rw [List.mem_singleton.mp hd]; exact hcs) (by decide) (by show 1 ≤ 20; decide) (by simp) ?_
        have e := g.good.img_at hc1
        rw [him] at e
        show [] = app sg ims [c]
        rw [← app_eq, app_one, ← Option.some.inj e]
      · refine iteN (decide_eq_false fun e => h0 (S_iff.mp e)) ?_
        refine ⟨⟨_, _, rfl⟩, sHT, fun j jm hj hjm => ?_⟩
        by_cases q : j = i
        · subst q; rw [him] at hjm; rw [← Option.some.inj hjm]; exact h0
        · exact hne j jm (by omega) hjm
    · rintro σ H1 ⟨⟨z1, z2, rfl⟩, s1, hne⟩
      rw [g.zl] at hne
      have hf : Full ims := fun im hm => by
        obtain ⟨j, hj⟩ := List.getElem?_of_mem hm
        refine hne j im ?_ hj
        have := (List.getElem?_eq_some_iff.mp hj).1
        have := g.im.1
        rw [List.length_zip]; omega
      refine ⟨_, rfl, a, sg, ims, rfl, hc.same s1, g, hf, fun d W us H2 s2 hdn hd2 hu2 nd few ge all => ?_⟩
      refine ⟨d, rfl, .inl ⟨_, .inl hd2⟩, valV (wK W us) (Sum.inr (S [])), .inl ⟨_, Sum.inr (S []), .inl hd2, by rw [s_nil]; rfl, rfl⟩, ?_⟩
      by_cases hin : ([] : List Nat) ∈ W.map (·.1)
      · obtain ⟨⟨r0, l, sh⟩, he, e0⟩ := List.mem_map.mp hin
        obtain rfl : r0 = [] := e0
        obtain ⟨i, hi⟩ := List.getElem?_of_mem he
        obtain ⟨u, hui⟩ : ∃ u, us[i]? = some u := ⟨_, List.getElem?_eq_getElem (by rw [hu2.len]; exact (List.getElem?_eq_some_iff.mp hi).1)⟩
        have hu := hu2.get i u _ hui hi
        have gE := ge _ he
        rw [show valV (wK W us) (Sum.inr (S [])) = some (.ref u) from wK_some nd hi hui]
        have eq := gE.eq
        have ll := gE.ll
        have ls := gE.ls
        have hh := gE.hd
        dsimp only at eq ll ls hh
        refine k1 (fun cl => cl.2 ((all []).mp hin)) u l sh H2 (s1.trans s2) hu gE.ol gE.os (by omega) (by omega) (heads_ne hh) ?_
        rw [app_eq, List.append_nil] at eq
        exact eq
      · rw [wK_none hin]
        exact k0 ⟨hf, fun h => hin ((all []).mpr h)⟩ H2 (s1.trans s2)
theorem ok_clash {C : Addr} (T : BT mg) (CH : CC K C) (c_ways : Cal P w K mg base 2 "_ways_to_rests" (spWays K C) []) {f : Addr} {fd : FuncData} (F : Def K mg "clash" s_clash f fd) (b : Binds K fd ["change"] []) : Cal P w K mg base 3 "clash" (spClash K C) [] := ⟨⟨f, fd, _, [], fn_clash T CH c_ways F, F.mgf, F.kp, b, .nil⟩⟩
abbrev s_clear : Stmt := top 17
abbrev n_clear : List Str := ["change"]
theorem sc_clear : FnScope n_clear ["change"] (fnScope s_clear) := fnScope_by (by decide +kernel)
def spClear (K : PySem.W.Frag) (C : Addr) : Sp := fun vs H Q _ => ∃ (a : Addr) (sg : List Nat) (ims : List (List Nat)), vs = [.ref a] ∧ Chg K C H a sg ims ∧ Gd sg ims ∧
  ∀ (b : Bool) (H' : Hp), Same H H' → (b = true ↔ Clear sg ims) → Q (.bl b) H'
theorem fn_clear {C : Addr} (T : BT mg) (c_clash : Cal P w K mg base 3 "clash" (spClash K C) []) {f : Addr} {fd : FuncData} (F : Def K mg "is_clear" s_clear f fd) : FnOk P w K mg base C8.CX0 4 f fd ["change"] (spClear K C) := by
  refine fn0 F.fn sc_clear (fun vs H Q E h => ?_) (fun cdv A outer s H vs Q E hr h => ?_)
  · obtain ⟨a, sg, ims, rfl, _⟩ := h; rfl
  · obtain ⟨a, sg, ims, rfl, hc, g, k⟩ := h
    refine ⟨_, (pss_one (ps_ret (pe_cmpR op_isN (pe_c c_clash hr (by first | decide | omega) (by rfl) (pa_cons (pv 0) pa_nil)) pe_non (nomark _)))
      ), ?_⟩
    refine ⟨_, rfl, a, sg, ims, rfl, hc, g, fun cl H' s1 => ⟨rfl, ?_⟩, fun cl t u v H' s1 ht _ _ _ _ _ _ => ⟨rfl, ?_⟩⟩
    · exact k true H' s1 ⟨fun _ => cl, fun _ => rfl⟩
    · exact k false H' s1 ⟨(fun h => nomatch h), fun h => absurd h cl⟩
theorem ok_clear {C : Addr} (T : BT mg) (c_clash : Cal P w K mg base 3 "clash" (spClash K C) []) {f : Addr} {fd : FuncData} (F : Def K mg "is_clear" s_clear f fd) (b : Binds K fd ["change"] []) : Cal P w K mg base 4 "is_clear" (spClear K C) [] := ⟨⟨f, fd, _, [], fn_clear T c_clash F, F.mgf, F.kp, b, .nil⟩⟩
end
end Toy
set_option maxHeartbeats 2000000
namespace Toy
open PySem L2 C8 SX LX K4
local macro_rules | `(tactic| walk_at "c") => `(tactic| refine And.intro (by first | (show (0 : Int) < _; omega) | exact Or.inr ⟨by decide, by decide⟩ | exact Or.inl ⟨by decide, by decide⟩ | (exact ⟨by omega, by omega⟩)) ?_)
local macro_rules | `(tactic| walk_at "s1") => `(tactic| first | refine ⟨_, rfl, ?_⟩ | refine ⟨_, _, rfl, rfl, ?_⟩ | refine .inl ⟨_, rfl, ?_⟩ | walk_at "c")
local macro_rules | `(tactic| walk_at "ix") => `(tactic| refine ⟨_, _, _, _, rfl, rfl, SqL.of (by first | assumption | exact upd_same), rfl, ?_⟩)
local macro_rules | `(tactic| walk_at "s") => `(tactic| repeat (walk_at "s1"))
theorem mergeK_skip : ∀ {more acc : List (Key × V)} {k : Key}, (∀ q ∈ more, q.1 ≠ k) → valV (mergeK acc more) k = valV acc k
  | [], _, _, _ => rfl
  | p :: more, acc, k, h => by
    show valV (mergeK (putK acc p.1 p.2) more) k = _
    rw [mergeK_skip fun q hq => h q (List.mem_cons_of_mem _ hq), valV_put, if_neg fun e => h p List.mem_cons_self e.symm]
theorem mergeK_val : ∀ {more acc : List (Key × V)} {k : Key}, (∃ v, (k, v) ∈ more) → ∃ v, valV (mergeK acc more) k = some v ∧ (k, v) ∈ more
  | [], _, _, ⟨_, h⟩ => nomatch h
  | p :: more, acc, k, ⟨v, h⟩ => by
    show ∃ v, valV (mergeK (putK acc p.1 p.2) more) k = some v ∧ _
    by_cases q : ∃ v, (k, v) ∈ more
    · obtain ⟨v, h1, h2⟩ := mergeK_val q
      exact ⟨v, h1, List.mem_cons_of_mem _ h2⟩
    · rcases List.mem_cons.mp h with e | e
      · subst e
        refine ⟨v, ?_, List.mem_cons_self⟩
        rw [mergeK_skip fun x hx e => q ⟨x.2, by rw [← e]; exact hx⟩, valV_put, if_pos rfl]
      · exact absurd ⟨v, e⟩ q
section
variable {P : Program} {w : World} {K : PySem.W.Frag} {mg : Str → Option Value} {base : Heap}
abbrev s_rows : Stmt := top 34
abbrev n_rows : List Str := ["_law_signs_here", "_law_most", "_law_found", "_law_last", "_law_length", "_law_fresh", "_law_row_here", "_law_sign"]
theorem sc_rows : FnScope n_rows ["_law_signs_here", "_law_most"] (fnScope s_rows) := fnScope_by (by decide +kernel)
def spRows : Sp := fun vs H Q _ => ∃ (sg : List Nat) (N : Nat), vs = [.str (S sg), .int (N : Nat)] ∧ Menu sg ∧ N ≤ 5 ∧ ∀ (p : Addr) (H' : Hp), Same H H' → H p = none → H' p = some (.lst (txs (upt sg N))) → Q (.ref p) H'
theorem ok_rows (T : BT mg) {f : Addr} {fd : FuncData} (F : Def K mg "_law_rows" s_rows f fd) (b : Binds K fd ["_law_signs_here", "_law_most"] []) : Cal P w K mg base 1 "_law_rows" spRows [] := by
  refine cal0 F b .nil sc_rows (fun vs H Q E h => ?_) (fun cdv A outer s H vs Q E hr h => ?_)
  · obtain ⟨sg, N, rfl, _⟩ := h; rfl
  · obtain ⟨sg, N, rfl, hm, hN5, k⟩ := h
    have h3 := (menu_len hm).2
    refine ⟨_, (pss_cons (ps_par (i := 2) (j := 3) rfl sc_rows.nd rfl rfl (by decide) rfl rfl (pa_cons (pe_lst (pa_cons pe_str pa_nil)) (pa_cons (pe_lst (pa_cons pe_str pa_nil)) pa_nil)) rfl)
      (pss_cons (ps_for PassesOwn.never rfl (pi_range1 (by rfl) T.m_range (pa_cons (pv 1) pa_nil)) (pg_name (i := 4) sc_rows.nd rfl (.inl rfl)) 
        (pss_cons (ps_set (i := 5) sc_rows.nd rfl (.inl rfl) (pe_lst pa_nil))
        (pss_cons (ps_for PassesOwn.never rfl (pi_list (pv 3)) (pg_name (i := 6) sc_rows.nd rfl (.inr rfl)) 
          (pss_one (ps_expr (pe_bm PySem.F.plainAttrs_list PySem.F.slot_list_extend PySem.F.type_list_extend mt_extend (pv 5) (pa_cons (pe_lc (own := [("_law_sign", 7)]) rfl sc_rows.nd (pi_str (pv 0)) (blkOk_by (N := n_rows) (sc := fnScope s_rows) (by decide +kernel)) (fun _ _ _ _ _ => (pg_name (i := 7) sc_rows.nd rfl (.inl rfl))) (fun _ _ _ _ _ => pts_nil) (fun _ _ _ _ _ => (pe_op op_add_str (pv 6) (pv 7)))) pa_nil)))
          ))
        (pss_cons (ps_set (i := 3) sc_rows.nd rfl (.inl rfl) (pv 5))
        (pss_one (ps_set (i := 2) sc_rows.nd rfl (.inl rfl) (pe_op op_cat (pv 2) (pv 5)))
        )))))
      (pss_one (ps_ret (pv 2))
      ))), ?_⟩
    rw [s_nil]
    refine ⟨by show 1 ≤ sizeLine; decide, fun p hp => ⟨by show 1 ≤ sizeLine; decide, fun q hq => ?_⟩⟩
    have npq : p ≠ q := fun e => by rw [← e, upd_same] at hq; cases hq
    have hq0 : H q = none := by rw [upd_ne npq.symm] at hq; exact hq
    have s0 : Same H (upd (upd H p (.lst [.str (S [])])) q (.lst [.str (S [])])) := sm_put (sm_put (Same.refl H) hp) hq0
    refine ⟨_, _, rfl, ?_⟩
    refine ⟨_, rfl, (N : Int), rfl, by omega, by omega, ?_⟩
    have emn : ((N : Int)).toNat = N := by omega
    refine for_it (walk_range (lo := 0) (n := ((N : Int)).toNat)) (fun i σ H' => ∃ (p q : Addr) (s4 s5 s6 s7 : Option V), σ = [some (.str (S sg)), some (.int (N : Nat)), some (.ref p), some (.ref q), s4, s5, s6, s7] ∧ i ≤ N ∧ Same H H' ∧ H p = none ∧
        H' p = some (.lst (txs (upt sg i))) ∧ H' q = some (.lst (txs (lvl sg i))))
      ⟨p, q, _, _, _, _, rfl, Nat.zero_le _, s0, hp, by rw [upd_ne npq, upd_same]; rfl, upd_same⟩ (fun _ _ _ _ _ => trivial) ?_ ?_
    · clear hp hq npq hq0 s0 p q
      rintro i x σ H1 H1' hi ⟨p, q, s4, s5, s6, s7, rfl, hi4, s1, hpn, hp1, hq1⟩ ⟨rfl, rfl⟩
      refine ⟨by show 0 ≤ sizeLine; decide, fun f hf => ?_⟩
      have hiN : i < N := by omega
      have npf : p ≠ f := ne_of_none hp1 hf
      have nqf : q ≠ f := ne_of_none hq1 hf
      have hfn : H f = none := s1.free hf
      have l3 := lvl_len h3 i
      have e81 : 3 ^ i ≤ 81 := Nat.le_trans (Nat.pow_le_pow_right (by decide) (show i ≤ 4 by omega)) (by decide)
      refine ⟨_, rfl, q, rfl, ⟨_, SqL.of (by rw [upd_ne nqf]; exact hq1)⟩, ?_⟩
      refine for_it (walk_list (K := K) (a := q) (xs := txs (lvl sg i))) (fun j σ H' => ∃ (s6 s7 : Option V), σ = [some (.str (S sg)), some (.int (N : Nat)), some (.ref p), some (.ref q), some (.int (0 + (i : Int))), some (.ref f), s6, s7] ∧ Same H H' ∧
          H' p = some (.lst (txs (upt sg i))) ∧ H' q = some (.lst (txs (lvl sg i))) ∧ H' f = some (.lst (txs (((lvl sg i).take j).flatMap fun r => sg.map fun c => r ++ [c]))))
        ⟨_, _, rfl, sm_put s1 hfn, by rw [upd_ne npf]; exact hp1, by rw [upd_ne nqf]; exact hq1, by rw [upd_same]; rfl⟩ (fun _ _ _ _ ⟨_, _, _, _, _, e, _⟩ => SqL.of e) ?_ ?_
      · rintro j x σ H2 H2' hj ⟨s6, s7, rfl, s2, hp2, hq2, hf2⟩ ⟨rfl, e1⟩
        obtain ⟨r, hr1, rfl⟩ := txs_get e1
        have hrl := lvl_mem (List.mem_of_getElem? hr1)
        have hjl := (List.getElem?_eq_some_iff.mp hr1).1
        refine ⟨_, rfl, .inl ⟨rfl, _, SqL.of hf2⟩, ?_⟩
        refine ⟨_, rfl, _, rfl, fun D hD => ?_⟩
        refine lc_keep keep_same walk_str hD (by show sg.length < sizeLine; exact small1000 (by omega)) (fun m y => ∀ c, sg[m]? = some c → y = .str (S (r ++ [c]))) (fun _ _ => trivial) (fun m x H3 H4 R hm1 r1 hy hR => ?_) (fun ys H3 hly hg r1 hDs => ?_)
        · obtain ⟨rfl, c, hc, rfl⟩ := hy
          have hc' : sg[m]? = some c := by simpa [S] using hc
          refine ⟨rfl, _, rfl, _, rfl, _, _, rfl, rfl, by rw [S_len]; exact sz (m := 10) (by rw [show (⟨#[c]⟩ : Str).length = 1 from rfl]; omega) (by decide), ?_⟩
          refine hR _ _ (Same.refl _) fun d hd => ?_
          rw [hc'] at hd
          obtain rfl := Option.some.inj hd
          exact congrArg V.str (S_cat r [c])
        · have ey : ys = txs (sg.map fun c => r ++ [c]) := by
            unfold txs; rw [List.map_map]
            exact list_map (by rw [hly]; simp [S]) fun m y c e1 e2 => hg m y e1 c e2
          subst ey
          have nfD : f ≠ D := ne_of_none hf2 hD
          have hf3 := r1 _ _ hf2
          refine ⟨f, D, _, _, rfl, rfl, hf3, hDs, ?_, ?_⟩
          · rw [txs_len, txs_len, List.length_map]
            have : (((lvl sg i).take j).flatMap fun r => sg.map fun c => r ++ [c]).length ≤ ((lvl sg i).take j).length * 3 := flat_len fun r _ => by rw [List.length_map]; exact h3
            rw [List.length_take] at this
            exact Nat.le_of_lt (small1000 (Nat.le_trans (Nat.add_le_add this h3) (by omega)))
          · refine ⟨_, _, rfl, sm_put (s2.trans r1) hfn, by rw [upd_ne npf]; exact r1 _ _ hp2, by rw [upd_ne nqf]; exact r1 _ _ hq2, ?_⟩
            rw [upd_same, flat_more hr1]
            unfold txs
            rw [List.map_append]
      · rintro σ H2 ⟨s6, s7, rfl, s2, hp2, hq2, hf2⟩
        rw [txs_len, take_all (Nat.le_refl _)] at hf2
        have ul := upt_len h3 (n := i) (by omega)
        have l4 : (lvl sg (i + 1)).length ≤ 243 := Nat.le_trans (lvl_len h3 (i + 1)) (by rw [Nat.pow_succ]; omega)
        refine ⟨_, rfl, _, rfl, _, rfl, ?_⟩
        refine ⟨p, f, _, _, rfl, rfl, hp2, hf2, by rw [txs_len, txs_len]; exact Nat.le_of_lt (small1000 (show (upt sg i).length + (lvl sg (i + 1)).length ≤ 1000 by omega)), fun g hg => ?_⟩
        refine ⟨g, f, _, _, _, _, rfl, by omega, s2.trans (sm_new hg), s2.free hg, ?_, ?_⟩
        · rw [upd_same]; unfold txs; rw [← List.map_append]; rfl
        · rw [upd_ne (ne_of_none hf2 hg)]; exact hf2
    · rintro σ H1 ⟨p, q, s4, s5, s6, s7, rfl, hi4, s1, hpn, hp1, hq1⟩
      rw [emn] at hp1
      exact ⟨_, rfl, k p H1 s1 hpn hp1⟩
end
end Toy
set_option maxHeartbeats 4000000
namespace LX
open PySem PySem.Spec PyProof.Rows L2 C8 SX
section
variable {X : Cx}
theorem lexIS (i j : Int) (r t : Str) : Ob.lexAt (fun k => if k = 0 then (i == j) else (r == t)) (fun k => if k = 0 then decide (j ≤ i) else !decide (r.cps.toList < t.cps.toList)) true 0 2 = (if i = j then !decide (r.cps.toList < t.cps.toList) else decide (j ≤ i)) := by
  rw [Ob.lexAt_succ, Ob.lexAt_succ, Ob.lexAt_zero]
  simp only [Nat.zero_add, if_true, Nat.one_ne_zero, if_false]
  by_cases h : i = j
  · subst h
    rw [if_pos (beq_self_eq_true _), if_pos rfl]
    by_cases h2 : r = t
    · subst h2
      rw [if_pos (beq_self_eq_true _), decide_eq_false (List.lt_irrefl _)]; rfl
    · rw [if_neg (by simpa using h2)]
  · rw [if_neg (by simpa using h), if_neg h]
theorem rc_ge_str {A : Around} {s : Shared} {r t : Str} {u v : Tok} : Ob.RcOp .GtE A s (.str r u) (.str t v) (!decide (r.cps.toList < t.cps.toList)) := fun _ _ _ _ h => PySem.P.ge_str h
theorem op_geIS {X : Cx} (hu : X.A.units < cLine) : OpR X (compareOp .GtE) (fun x y H Q => ∃ (a b : Addr) (i j : Int) (r t : Str), x = .ref a ∧ y = .ref b ∧ H a = some (.tup [.int i, .str r]) ∧ H b = some (.tup [.int j, .str t]) ∧ Q (.bl (if i = j then !decide (r.cps.toList < t.cps.toList) else decide (j ≤ i))) H) := by
  intro pins s σ H x y v u Q I rx ry h
  obtain ⟨a, b, i, j, r, t, rfl, rfl, ha, hb, q⟩ := h
  cases rx
  cases ry
  obtain ⟨its, r1, p1, _⟩ := I.tuple (SqT.of (K := X.K) ha)
  obtain ⟨its2, r2, p2, _⟩ := I.tuple (SqT.of (K := X.K) hb)
  have z1 : ∃ t1 t2, its = [Value.int i t1, .str r t2] := by
    cases r1 with
    | cons x1 r1 => cases r1 with
      | cons x2 r1 => cases r1 with
        | nil =>
          obtain ⟨t1, rfl⟩ := x1
          obtain ⟨t2, rfl⟩ := x2
          exact ⟨_, _, rfl⟩
  have z2 : ∃ t1 t2, its2 = [Value.int j t1, .str t t2] := by
    cases r2 with
    | cons x1 r1 => cases r1 with
      | cons x2 r1 => cases r1 with
        | nil =>
          obtain ⟨t1, rfl⟩ := x1
          obtain ⟨t2, rfl⟩ := x2
          exact ⟨_, _, rfl⟩
  obtain ⟨t1, t2, rfl⟩ := z1
  obtain ⟨t3, t4, rfl⟩ := z2
  have e1 : ([Value.int i t1, .str r t2] : List Value).toArray.size = 2 := rfl
  have e2 : ([Value.int j t3, .str t t4] : List Value).toArray.size = 2 := rfl
  have R := Ob.RcOp.tuples_ge (A := X.A) (s := s) (e := fun k => if k = 0 then (i == j) else (r == t)) (r := fun k => if k = 0 then decide (j ≤ i) else !decide (r.cps.toList < t.cps.toList)) p1 p2 hu ?he ?hr
  case he =>
    intro k h1 h2
    rw [e1] at h1
    match k, h1, h2 with
    | 0, _, _ => exact SeqAt.EqAt.int_int _ _ _ _
    | 1, _, _ => exact SeqAt.EqAt.str_str _ _ _ _
    | k + 2, h1, _ => omega
  case hr =>
    intro k h1 h2 _
    rw [e1] at h1
    match k, h1, h2 with
    | 0, _, _ => exact Ob.RcOp.ge_int _ _ _ _
    | 1, _, _ => exact rc_ge_str
    | k + 2, h1, _ => omega
  rw [e1, e2, show min 2 2 = 2 from rfl, show decide (2 ≥ 2) = true from rfl, lexIS] at R
  have R2 : wpAny (model X.prog X.w) X.A (compareOp .GtE (.ref a) (.ref b)) (EP X pins σ Q) X.xe s := R X.prog X.w X.xe (EP X pins σ Q) ⟨.bl _, H, I, rfl, q⟩
  exact R2
end
end LX
set_option maxHeartbeats 4000000
namespace LX
open PySem PySem.Spec PyProof.Rows L2 C8 SX
def OrdL (a b : List Nat) : Prop := a.length < b.length ∨ (a.length = b.length ∧ a < b)
instance (a b : List Nat) : Decidable (OrdL a b) := by unfold OrdL; infer_instance
theorem OrdL.irr (a : List Nat) : ¬ OrdL a a := fun h => h.elim (Nat.lt_irrefl _) fun h => List.lt_irrefl a h.2
theorem OrdL.trans {a b c : List Nat} (h : OrdL a b) (g : OrdL b c) : OrdL a c := by
  rcases h with h | ⟨h1, h2⟩ <;> rcases g with g | ⟨g1, g2⟩
  · exact .inl (by omega)
  · exact .inl (by omega)
  · exact .inl (by omega)
  · exact .inr ⟨by omega, List.lt_trans h2 g2⟩
def spOrd : Sp := fun vs H Q _ => ∃ l : List Nat, vs = [.str (S l)] ∧ l.length ≤ 1000 ∧ ∀ (t : Addr) (H' : Hp), Same H H' → H' t = some (.tup [.int (l.length : Nat), .str (S l)]) → Q (.ref t) H'
theorem lexLt (i j : Int) (r t : Str) : Ob.lexAt (fun k => if k = 0 then (i == j) else (r == t)) (fun k => if k = 0 then decide (i < j) else decide (r.cps.toList < t.cps.toList)) false 0 2 = (if i = j then decide (r.cps.toList < t.cps.toList) else decide (i < j)) := by
  rw [Ob.lexAt_succ, Ob.lexAt_succ, Ob.lexAt_zero]
  simp only [Nat.zero_add, if_true, Nat.one_ne_zero, if_false]
  by_cases h : i = j
  · subst h
    rw [if_pos (beq_self_eq_true _), if_pos rfl]
    by_cases h2 : r = t
    · subst h2
      rw [if_pos (beq_self_eq_true _), decide_eq_false (List.lt_irrefl _)]
    · rw [if_neg (by simpa using h2)]
  · rw [if_neg (by simpa using h), if_neg h]
section
variable {X : Cx} {pins : List (Addr × Obj)} {σ : L2.St} {H : Hp} {s : Shared}
theorem lt_pairs {A : Around} {a b : Addr} {x y : List Nat} {E : Value → Shared → Prop} {Q : Value → Shared → Prop} (I : Inv X pins σ H s) (hu : A.units < cLine) (ha : H a = some (.tup [.int (x.length : Nat), .str (S x)])) (hb : H b = some (.tup [.int (y.length : Nat), .str (S y)]))
    (q : Q (.bool (decide (OrdL x y))) s) : wpAny (model X.prog X.w) A (richCompare .Lt (.ref a) (.ref b)) Q E s := by
  obtain ⟨its, r1, p1, _⟩ := I.tuple (SqT.of (K := X.K) ha)
  obtain ⟨its2, r2, p2, _⟩ := I.tuple (SqT.of (K := X.K) hb)
  obtain ⟨t1, t2, rfl⟩ : ∃ t1 t2, its = [Value.int (x.length : Nat) t1, .str (S x) t2] := by
    cases r1 with | cons x1 r1 => cases r1 with | cons x2 r1 => cases r1 with | nil => exact let ⟨t1, e1⟩ := x1; let ⟨t2, e2⟩ := x2; ⟨t1, t2, by rw [e1, e2]⟩
  obtain ⟨t3, t4, rfl⟩ : ∃ t1 t2, its2 = [Value.int (y.length : Nat) t1, .str (S y) t2] := by
    cases r2 with | cons x1 r1 => cases r1 with | cons x2 r1 => cases r1 with | nil => exact let ⟨t1, e1⟩ := x1; let ⟨t2, e2⟩ := x2; ⟨t1, t2, by rw [e1, e2]⟩
  have e1 : ([Value.int (x.length : Nat) t1, .str (S x) t2] : List Value).toArray.size = 2 := rfl
  have e2 : ([Value.int (y.length : Nat) t3, .str (S y) t4] : List Value).toArray.size = 2 := rfl
  have R := Ob.RcOp.tuples_lt (A := A) (s := s) (e := fun k => if k = 0 then (((x.length : Nat) : Int) == ((y.length : Nat) : Int)) else (S x == S y)) (r := fun k => if k = 0 then decide (((x.length : Nat) : Int) < ((y.length : Nat) : Int)) else decide ((S x).cps.toList < (S y).cps.toList)) p1 p2 hu
    (fun k h1 h2 => by
      rw [e1] at h1
      match k, h1, h2 with
      | 0, _, _ => exact SeqAt.EqAt.int_int _ _ _ _
      | 1, _, _ => exact SeqAt.EqAt.str_str _ _ _ _
      | k + 2, h1, _ => omega)
    (fun k h1 h2 _ => by
      rw [e1] at h1
      match k, h1, h2 with
      | 0, _, _ => exact Ob.RcOp.lt_int _ _ _ _
      | 1, _, _ => exact fun _ _ _ _ h => PySem.P.lt_str h
      | k + 2, h1, _ => omega)
  rw [e1, e2, show min 2 2 = 2 from rfl, show decide (2 < 2) = false from rfl, lexLt] at R
  refine R X.prog X.w E Q ?_
  have e : (if ((x.length : Nat) : Int) = ((y.length : Nat) : Int) then decide ((S x).cps.toList < (S y).cps.toList) else decide (((x.length : Nat) : Int) < ((y.length : Nat) : Int))) = decide (OrdL x y) := by
    have ex : (S x).cps.toList = x := by simp [S]
    have ey : (S y).cps.toList = y := by simp [S]
    rw [ex, ey]
    unfold OrdL
    by_cases h : x.length = y.length
    · rw [if_pos (by omega)]
      exact decide_eq_decide.mpr ⟨fun q => .inr ⟨h, q⟩, fun q => q.elim (fun q => absurd q (by omega)) (·.2)⟩
    · rw [if_neg (by omega)]
      exact decide_eq_decide.mpr ⟨fun q => .inl (by omega), fun q => q.elim (fun q => by omega) fun q => absurd q.1 h⟩
  rw [e]; exact q
structure OwnA (X : Cx) (pins : List (Addr × Obj)) (a : Addr) : Prop where
  loc : a ≠ X.env.locals
  hi : a ∈ X.ex ∨ X.s_0.heap.objs.size ≤ a
  cell : ∀ x c, X.env.cells.lookup x = some c → c ≠ a
  pin : ∀ p ∈ X.pn ++ pins, p.1 ≠ a
  fs : a ∉ X.fs
theorem OwnA.new (I : Inv X pins σ H s) {a : Addr} (h : s.heap.objs.size ≤ a) : OwnA X pins a :=
  ⟨Nat.ne_of_gt (Nat.lt_of_lt_of_le I.lt h), .inr (Nat.le_trans I.sz h), fun x c e z => by
    obtain ⟨v, o, ho, _⟩ := I.cell x c e
    exact absurd (Heap.lt_size ho) (by rw [z]; exact Nat.not_lt.mpr h), fun p hp z => absurd (z ▸ Heap.lt_size (I.pin p hp).1) (Nat.not_lt.mpr h), I.nofs h⟩
theorem OwnA.turn {a : Addr} (O : OwnA X pins a) (I : Inv X pins σ H s) (hn : H a = none) {h' : Heap} {tk : Nat} (k : ∀ b o, b ≠ a → s.heap.get? b = some o → h'.get? b = some o) : Inv X pins σ H { s with heap := h', toks := tk } :=
  I.turned k hn O.loc O.hi O.cell O.pin
abbrev scO (v k : Value) (c : Nat) : Obj := { cls := .type "list", dict := none, data := .seq #[v, k] c, slots := #[] }
variable {kf : Nat} {q : Addr} {fd : FuncData} {ps : List Str} {It Sc : Addr}
theorem key_call {o1 o2 : Obj} {x : List Nat} {tk : Tok} {E : Value → Shared → Prop} {Q : Value → Shared → Prop} (F : FnOk X.prog X.w X.K X.mg X.base C8.CX0 kf q fd ps spOrd) (hr : Room (kf + 1) X.A) (hb : Binds X.K fd ps []) (oI : OwnA X pins It) (oS : OwnA X pins Sc)
    (I : Inv X pins σ H s) (nI : H It = none) (nS : H Sc = none) (h1 : s.heap.get? It = some o1) (h2 : s.heap.get? Sc = some o2) (d1 : ∀ v, o1.data ≠ .cell v) (d2 : ∀ v, o2.data ≠ .cell v) (hx : x.length ≤ 1000)
    (k : ∀ (t : Addr) (H' : Hp) (s' : Shared), Inv X pins σ H' s' → Same H H' → H' t = some (.tup [.int (x.length : Nat), .str (S x)]) → s'.heap.get? It = some o1 → s'.heap.get? Sc = some o2 → H' It = none → H' Sc = none → Q (.ref t) s') :
    wpAny (model X.prog X.w) X.A.in1 (call (.ref q) [.str (S x) tk]) Q E s := by
  have I2 : Inv X ((It, o1) :: (Sc, o2) :: pins) σ H s := I.pins_of fun p hp => by
    rcases List.mem_cons.mp hp with rfl | hp
    · exact ⟨h1, nI, oI.loc, oI.fs, d1⟩
    rcases List.mem_cons.mp hp with rfl | hp
    · exact ⟨h2, nS, oS.loc, oS.fs, d2⟩
    · exact I.pin p (List.mem_append_right _ hp)
  have want : spOrd [.str (S x)] H (fun y H' => ∃ t, y = .ref t ∧ Same H H' ∧ H' t = some (.tup [.int (x.length : Nat), .str (S x)])) C8.E0 := ⟨x, rfl, hx, fun t H' sm ht => ⟨t, rfl, sm, ht⟩⟩
  have bs := hb s [Value.str (S x) tk] I2.kIn (by rw [List.append_nil]; exact F.len _ _ _ _ want)
  rw [List.append_nil] at bs
  refine wpAny_call (codeAny_mono (F.run X.A.in1 X.stack s H ⟨[.str (S x) tk], []⟩ _ [.str (S x)] _ C8.E0 hr.in1 I2.env0.in1 bs (.cons ⟨tk, rfl⟩ .nil) want) fun r s' got => ?_)
  match r, got with
  | .ok (.ret u), got =>
    obtain ⟨y, H', I3, rv, t, rfl, sm, ht⟩ := I2.after got
    cases rv
    obtain ⟨a1, a2, _⟩ := I3.pin (It, o1) (List.mem_append_right _ List.mem_cons_self)
    obtain ⟨b1, b2, _⟩ := I3.pin (Sc, o2) (List.mem_append_right _ (List.mem_cons_of_mem _ List.mem_cons_self))
    exact k t H' s' (I3.pins_of fun p hp => I3.pin p (List.mem_append_right _ (List.mem_cons_of_mem _ (List.mem_cons_of_mem _ hp)))) sm ht a1 b1 a2 b2
theorem min_turns {H1 : Hp} {l : Addr} {xs : List (List Nat)} {kw : List (Str × Value)} {R : Result → Shared → Prop} (hc : X.calm = true) (Fk : FnOk X.prog X.w X.K X.mg X.base C8.CX0 kf q fd ps spOrd) (hr : Room (kf + 1) X.A) (hb : Binds X.K fd ps []) (oI : OwnA X pins It) (oS : OwnA X pins Sc)
    (hIS : It ≠ Sc) (hlI : l ≠ It) (hsq : SqL X.K H1 l (txs xs)) (hxs : ∀ x ∈ xs, x.length ≤ 1000)
    (hR : ∀ (m : List Nat) (tk : Tok) (H' : Hp) (s' : Shared), Inv X pins σ H' s' → Same H1 H' → m ∈ xs → (∀ y ∈ xs, ¬ OrdL y m) → R (.ok (.ret (.str (S m) tk))) s') :
    ∀ (k j b : Nat) (s : Shared) (H' : Hp) (t : Addr) (tk : Tok) (c : Nat), j + 1 + k = xs.length → Inv X pins σ H' s → Same H1 H' → H' It = none → H' Sc = none → s.heap.IsListIter It l (j + 1) → s.heap.get? Sc = some (scO (.str (S (xs.getD b [])) tk) (.ref t) c) →
      H' t = some (.tup [.int ((xs.getD b []).length : Nat), .str (S (xs.getD b []))]) → b ≤ j → (∀ i, i ≤ j → ¬ OrdL (xs.getD i []) (xs.getD b [])) → codeAny (model X.prog X.w) X.A (.builtin "min.loop" ⟨[.ref It, .ref q, .ref Sc], kw⟩) R s := by
  have hname : (toString "min" ++ toString ".loop" : String) = "min.loop" := by decide
  have gd : ∀ i, i < xs.length → xs[i]? = some (xs.getD i []) := fun i hi => by rw [List.getD_eq_getElem?_getD, List.getElem?_eq_getElem hi]; rfl
  intro k
  induction k with
  | zero =>
    intro j b s H' t tk c hk I sm nI nS hit hS ht hbj best
    obtain ⟨its, rv, pl, _⟩ := I.list (sm.seq hsq)
    have hn : its.toArray.size = xs.length := by rw [List.size_toArray, ← rv.length, txs_len]
    have W := Walks.list (prog := X.prog) (w := X.w) (A := X.A.in1) (by simp [I.ok.hd hc]) It l hlI its.toArray
    have hb2 : xs.getD b [] ∈ xs := List.mem_of_getElem? (gd b (by omega))
    refine codeAny_builtin PySem.F.entry_min_loop (by
      rw [Around.under_plainId PySem.F.plain_min_loop _]
      show wpAny _ X.A.in1 (seqItems? (.ref Sc) >>= _) _ _ s
      refine wpAny_bind (wpAny_seqItems hS rfl ?_)
      show wpAny _ X.A.in1 (tryCatch (pyNext (.ref It)) _ >>= _) _ _ s
      refine wpAny_bind (wpAny_tryCatch (W.done s _ _ (by rw [hn, ← hk, Nat.add_zero]; exact ⟨hit, pl.isList⟩) fun h' tk' hm => ?_))
      have I2 : Inv X pins σ H' { s with heap := h', toks := tk' } := oI.turn I nI fun b o n e => hm b o (by simpa using n) e
      have hS2 : h'.get? Sc = some (scO (.str (S (xs.getD b [])) tk) (.ref t) c) := hm Sc _ (by simpa using hIS.symm) hS
      show wpAny _ X.A.in1 (updateSeq Sc (fun _ => #[]) >>= _) _ _ _
      refine wpAny_bind (wpAny_updateSeq hS2 rfl (wpAny_bind (wpAny_letGo (wpAny_pure ?_))))
      exact hR _ tk H' _ (oS.turn (tk := tk') I2 nS fun b o n e => (Heap.get?_update_other _ _ n.symm).trans e) sm hb2 fun y hy => by
        obtain ⟨i, hi⟩ := List.getElem?_of_mem hy
        have hil := (List.getElem?_eq_some_iff.mp hi).1
        have := best i (by omega)
        rw [List.getD_eq_getElem?_getD, hi] at this
        exact this)
  | succ k ih =>
    intro j b s H' t tk c hk I sm nI nS hit hS ht hbj best
    obtain ⟨its, rv, pl, _⟩ := I.list (sm.seq hsq)
    have hn : its.toArray.size = xs.length := by rw [List.size_toArray, ← rv.length, txs_len]
    have W := Walks.list (prog := X.prog) (w := X.w) (A := X.A.in1) (by simp [I.ok.hd hc]) It l hlI its.toArray
    have hj1 := gd (j + 1) (by omega)
    have hxj := hxs _ (List.mem_of_getElem? hj1)
    refine codeAny_builtin PySem.F.entry_min_loop (by
      rw [Around.under_plainId PySem.F.plain_min_loop _]
      show wpAny _ X.A.in1 (seqItems? (.ref Sc) >>= _) _ _ s
      refine wpAny_bind (wpAny_seqItems hS rfl ?_)
      show wpAny _ X.A.in1 (tryCatch (pyNext (.ref It)) _ >>= _) _ _ s
      refine wpAny_bind (wpAny_tryCatch (W.item (j + 1) s _ _ (by omega) ⟨hit, pl.isList⟩ fun v h' tk' hP hst hm => ?_))
      have I2 : Inv X pins σ H' { s with heap := h', toks := tk' } := oI.turn I nI fun b o n e => hm b o (by simpa using n) e
      have hS2 : h'.get? Sc = some (scO (.str (S (xs.getD b [])) tk) (.ref t) c) := hm Sc _ (by simpa using hIS.symm) hS
      obtain ⟨tv, rfl⟩ : ∃ tv, v = .str (S (xs.getD (j + 1) [])) tv := by
        have e1 : (txs xs)[j + 1]? = some (.str (S (xs.getD (j + 1) []))) := by unfold txs; rw [List.getElem?_map, hj1]; rfl
        obtain ⟨u, eu, ru⟩ := rv.get e1
        have hP' : its[j + 1]? = some v := by simpa using hP
        rw [hP'] at eu
        obtain ⟨tv, rfl⟩ := ru
        exact ⟨tv, Option.some.inj eu⟩
      obtain ⟨oi, hoi, ci, di⟩ := hst.1
      show wpAny _ X.A.in1 (tryCatch (holding [Value.str (S (xs.getD (j + 1) [])) tv] (call (.ref q) [Value.str (S (xs.getD (j + 1) [])) tv])) _ >>= _) _ _ _
      refine wpAny_bind (wpAny_tryCatch (wpAny_holding (key_call (o1 := oi) (o2 := scO (.str (S (xs.getD b [])) tk) (.ref t) c) Fk hr hb oI oS I2 nI nS hoi hS2 (fun v e => by rw [di] at e; cases e) (fun v e => nomatch e) hxj fun t2 H2 s2 I3 sm2 ht2 hoi2 hS3 nI2 nS2 => ?_)))
      have hit2 : s2.heap.IsListIter It l (j + 1 + 1) := ⟨oi, hoi2, ci, di⟩
      have ht' := sm2 _ _ ht
      refine wpAny_bind (wpAny_tryCatch (wpAny_holding (wpAny_bind (lt_pairs I3 (A := X.A.in1) (by have := hr.un; show X.A.units + 1 < cLine; omega) ht2 ht' ?_))))
      refine wpAny_bind (wpAny_holding (wpAny_truthy_bool ?_))
      refine wpAny_bind (wpAny_letGo (wpAny_pure ?_))
      by_cases hlt : OrdL (xs.getD (j + 1) []) (xs.getD b [])
      · rw [decide_eq_true hlt]
        simp only [if_true]
        refine wpAny_bind (wpAny_updateSeq hS3 rfl (wpAny_bind (wpAny_letGo ?_)))
        rw [hname]
        refine wpAny_pure ⟨plainId_quiet PySem.F.plain_min_loop _, ih (j + 1) (j + 1) _ H2 t2 tv _ (by omega) (oS.turn (tk := s2.toks) I3 nS2 fun b o n e => (Heap.get?_update_other _ _ n.symm).trans e) (sm.trans sm2) nI2 nS2 (hit2.at fun o e => (Heap.get?_update_other _ _ hIS.symm).trans e) (Heap.get?_update_self _ hS3 rfl) ht2 (Nat.le_refl _) fun i hi hl2 => ?_⟩
        by_cases q : i = j + 1
        · subst q; exact OrdL.irr _ hl2
        · exact best i (by omega) (hl2.trans hlt)
      · rw [decide_eq_false hlt]
        simp only [Bool.false_eq_true, if_false]
        refine wpAny_bind (wpAny_letGo ?_)
        rw [hname]
        refine wpAny_pure ⟨plainId_quiet PySem.F.plain_min_loop _, ih (j + 1) b _ H2 t tk c (by omega) I3 (sm.trans sm2) nI2 nS2 hit2 hS3 ht' (by omega) fun i hi => ?_⟩
        by_cases q : i = j + 1
        · subst q; exact hlt
        · exact best i (by omega))
def rMinKey (K : PySem.W.Frag) (q : Addr) : List V → List V → Hp → VK → Prop := fun vs zs H Q => ∃ (l : Addr) (xs : List (List Nat)), vs = [V.ref l] ∧ zs = [V.ref q] ∧ SqL K H l (txs xs) ∧ 0 < xs.length ∧ (∀ x ∈ xs, x.length ≤ 1000) ∧
  ∀ (m : List Nat) (H' : Hp), Same H H' → m ∈ xs → (∀ y ∈ xs, ¬ OrdL y m) → Q (.str (S m)) H'
theorem cr_minKey (hc : X.calm = true) (Fk : FnOk X.prog X.w X.K X.mg X.base C8.CX0 kf q fd ps spOrd) (hr : Room (kf + 1) X.A) (hb : Binds X.K fd ps []) : CallRK X (.builtin "min") [Str.ofString "key"] (rMinKey X.K q) := by
  intro pins s σ H vs zs us ws Q I rv0 rz h
  obtain ⟨l, xs, rfl, rfl, hsq, hpos, hxs, kQ⟩ := h
  obtain ⟨u, rfl, ru⟩ := vals1 rv0
  obtain ⟨u2, rfl, ru2⟩ := vals1 rz
  obtain rfl : u = Value.ref l := ru
  obtain rfl : u2 = Value.ref q := ru2
  obtain ⟨its, rv, pl, _⟩ := I.list hsq
  have hname : (toString "min" ++ toString ".loop" : String) = "min.loop" := by decide
  have gd : ∀ i, i < xs.length → xs[i]? = some (xs.getD i []) := fun i hi => by rw [List.getD_eq_getElem?_getD, List.getElem?_eq_getElem hi]; rfl
  have hn : its.toArray.size = xs.length := by rw [List.size_toArray, ← rv.length, txs_len]
  obtain ⟨ol, hol, _⟩ := pl.isList
  have hll : l < s.heap.objs.size := Heap.lt_size hol
  have hlI : l ≠ s.heap.objs.size := Nat.ne_of_lt hll
  show wpAny _ _ (call (.builtin "min") [Value.ref l] [(Str.ofString "key", .ref q)]) _ _ s
  refine PyProof.Rows.kmk_tree PySem.F.kind_min PySem.F.plain_min PySem.F.entry_min (PyProof.Rows.kmk_min_key _ _) (by
    show wpAny _ X.A.in1 (Builtin.Builtins.bindParams "min" ["key", "default"] 0 ⟨[], [(Str.ofString "key", .ref q)]⟩ >>= _) _ _ s
    refine wpAny_bind (wpAny_of_eq (show Builtin.Builtins.bindParams "min" ["key", "default"] 0 ⟨[], [(Str.ofString "key", .ref q)]⟩ = pure [some (.ref q), none] from rfl) ?_)
    refine wpAny_bind (wpAny_pure (wpAny_bind (wpAny_pyIter_list pl.isList (wpAny_bind (wpAny_newObj_type ?_)))))
    rw [hname]
    have hit0 : (s.heap.push { cls := .type "list_iterator", data := .fields #[.ref l, .int 0 0] }).get? s.heap.objs.size = some { cls := .type "list_iterator", data := .fields #[.ref l, .int 0 0] } := Heap.get?_push_size _ rfl
    have hsz1 : (s.heap.push { cls := .type "list_iterator", data := .fields #[.ref l, .int 0 0] }).objs.size = s.heap.objs.size + 1 := Heap.size_push ..
    rw [hsz1]
    have k1 : ∀ b o, s.heap.get? b = some o → ((s.heap.push { cls := .type "list_iterator", data := .fields #[.ref l, .int 0 0] }).push { cls := .type "list", data := .seq #[] 0 }).get? b = some o := fun b o e => Heap.get?_push_of_some _ (Heap.get?_push_of_some _ e)
    have hS0 : ((s.heap.push { cls := .type "list_iterator", data := .fields #[.ref l, .int 0 0] }).push { cls := .type "list", data := .seq #[] 0 }).get? (s.heap.objs.size + 1) = some { cls := .type "list", data := .seq #[] 0 } := by rw [← hsz1]; exact Heap.get?_push_size _ rfl
    have hI0 : ((s.heap.push { cls := .type "list_iterator", data := .fields #[.ref l, .int 0 0] }).push { cls := .type "list", data := .seq #[] 0 }).get? s.heap.objs.size = some { cls := .type "list_iterator", data := .fields #[.ref l, .int 0 0] } := Heap.get?_push_of_some _ hit0
    have oI : OwnA X pins s.heap.objs.size := OwnA.new I (Nat.le_refl _)
    have oS : OwnA X pins (s.heap.objs.size + 1) := OwnA.new I (Nat.le_succ _)
    have nI : H s.heap.objs.size = none := I.hok.fresh (Nat.le_refl _)
    have nS : H (s.heap.objs.size + 1) = none := I.hok.fresh (Nat.le_succ _)
    have I1 : Inv X pins σ H { s with heap := (s.heap.push { cls := .type "list_iterator", data := .fields #[.ref l, .int 0 0] }).push { cls := .type "list", data := .seq #[] 0 }, toks := s.toks } := I.kept k1
    have hIS : s.heap.objs.size ≠ s.heap.objs.size + 1 := Nat.ne_of_lt (Nat.lt_succ_self _)
    have pl1 := pl.isList.at fun o e => k1 l o e
    generalize (s.heap.push { cls := .type "list_iterator", data := .fields #[.ref l, .int 0 0] }).push { cls := .type "list", data := .seq #[] 0 } = h1 at hS0 hI0 I1 pl1 ⊢
    generalize s.heap.objs.size + 1 = Sc at hS0 oS nS hIS ⊢
    generalize s.heap.objs.size = It at hI0 oI nI hIS hlI ⊢
    have W := Walks.list (prog := X.prog) (w := X.w) (A := X.A.in1) (by simp [I.ok.hd hc]) It l hlI its.toArray
    have hx0 := gd 0 hpos
    refine wpAny_pure ⟨plainId_quiet PySem.F.plain_min_loop _, codeAny_builtin PySem.F.entry_min_loop (by
      rw [Around.under_plainId PySem.F.plain_min_loop _]
      show wpAny _ X.A.in1 (seqItems? (.ref Sc) >>= _) _ _ _
      refine wpAny_bind (wpAny_seqItems hS0 rfl ?_)
      show wpAny _ X.A.in1 (tryCatch (pyNext (.ref It)) _ >>= _) _ _ _
      refine wpAny_bind (wpAny_tryCatch (W.item 0 _ _ _ (by omega) ⟨⟨_, hI0, rfl, rfl⟩, pl1⟩ fun v h' tk' hP hst hm => ?_))
      have I2 : Inv X pins σ H { s with heap := h', toks := tk' } := oI.turn I1 nI fun b o n e => hm b o (by simpa using n) e
      have hS2 : h'.get? Sc = some { cls := .type "list", data := .seq #[] 0 } := hm Sc _ (by simpa using hIS.symm) hS0
      obtain ⟨tv, rfl⟩ : ∃ tv, v = .str (S (xs.getD 0 [])) tv := by
        have e1 : (txs xs)[0]? = some (.str (S (xs.getD 0 []))) := by unfold txs; rw [List.getElem?_map, hx0]; rfl
        obtain ⟨u, eu, ru⟩ := rv.get e1
        have hP' : its[0]? = some v := by simpa using hP
        rw [hP'] at eu
        obtain ⟨tv, rfl⟩ := ru
        exact ⟨tv, Option.some.inj eu⟩
      obtain ⟨oi, hoi, ci, di⟩ := hst.1
      show wpAny _ X.A.in1 (tryCatch (holding [Value.str (S (xs.getD 0 [])) tv] (call (.ref q) [Value.str (S (xs.getD 0 [])) tv])) _ >>= _) _ _ _
      refine wpAny_bind (wpAny_tryCatch (wpAny_holding (key_call (o1 := oi) (o2 := { cls := .type "list", data := .seq #[] 0 }) Fk hr hb oI oS I2 nI nS hoi hS2 (fun v e => by rw [di] at e; cases e) (fun v e => nomatch e) (hxs _ (List.mem_of_getElem? hx0)) fun t2 H2 s2 I3 sm2 ht2 hoi2 hS3 nI2 nS2 => ?_)))
      have hit2 : s2.heap.IsListIter It l (0 + 1) := ⟨oi, hoi2, ci, di⟩
      show wpAny _ X.A.in1 (updateSeq Sc (fun _ => #[Value.str (S (xs.getD 0 [])) tv, .ref t2]) >>= _) _ _ _
      refine wpAny_bind (wpAny_updateSeq hS3 rfl ?_)
      rw [hname]
      exact wpAny_pure ⟨plainId_quiet PySem.F.plain_min_loop _, min_turns (H1 := H) hc Fk hr hb oI oS hIS hlI hsq hxs (fun m tk H' s' I' sm hm hmin => ⟨.str (S m), H', I', ⟨tk, rfl⟩, kQ m H' sm hm hmin⟩) (xs.length - 1) 0 0 _ H2 t2 tv _ (by omega) (oS.turn (tk := s2.toks) I3 nS2 fun b o n e => (Heap.get?_update_other _ _ n.symm).trans e) sm2 nI2 nS2 (hit2.at fun o e => (Heap.get?_update_other _ _ hIS.symm).trans e) (Heap.get?_update_self _ hS3 rfl) ht2 (Nat.le_refl _) fun i hi hl2 => by
        obtain rfl : i = 0 := by omega
        exact OrdL.irr _ hl2⟩)⟩)
end
end LX
set_option maxHeartbeats 4000000
namespace LX
open PySem PySem.Spec PyProof.Rows L2 C8 SX
section
variable {X : Cx}
theorem count_flat {y : V} {u : Value} (fy : flatV y = true) (ry : RelV y u) : ∀ {ys : List V} {us : List Value}, Vals ys us → ys.all flatV = true → us.countP (eqU y) = ys.countP fun z => eqV z y
  | _, _, .nil, _ => rfl
  | z :: zs, w :: ws, .cons h r, f => by
    rw [List.all_cons, Bool.and_eq_true] at f
    rw [List.countP_cons, List.countP_cons, count_flat fy ry r f.2, eqU_of h f.1]
def rCntF (K : PySem.W.Frag) : V → List V → Hp → VK → Prop := fun x xs H Q => ∃ (a : Addr) (ys : List V) (y : V), x = .ref a ∧ xs = [y] ∧ SqL K H a ys ∧ flatV y = true ∧ ys.all flatV = true ∧ Q (.int (ys.countP fun z => eqV z y : Nat)) H
theorem mt_countF : MtR X "list.count" (rCntF X.K) := by
  intro pins s σ H x xs v us Q I rx rxs h
  obtain ⟨a, ys, y, rfl, rfl, hs, fy, fys, q⟩ := h
  cases rx
  cases rxs with
  | cons ry rt =>
    rename_i uy ut
    cases rt
    obtain ⟨its, rv, ⟨⟨cls, dd, data, sl⟩, n, ho, hc, hdn, hd⟩, hlen⟩ := I.list hs
    simp only at hc hd
    subst hc hd
    refine call_meets PySem.F.slot_list_count ⟨_, ho, rfl⟩ PySem.F.entry_list_count (PySem.F.args_list_count_2 _ _)
      (SeqAt.list_countAt a its.toArray n dd sl uy (eqU y)) ⟨ho, fun u' hu' => mem_eqAt ry fy rv fys u' (by simpa using hu'), ?_⟩
    have ec : its.toArray.toList.countP (eqU y) = ys.countP fun z => eqV z y := count_flat fy ry rv fys
    refine ⟨.int (ys.countP fun z => eqV z y : Nat), H, I.tok _, ⟨s.toks, ?_⟩, q⟩
    show Value.int ((its.toArray.toList.countP (eqU y) : Nat) : Int) s.toks = Value.int ((ys.countP fun z => eqV z y : Nat) : Int) s.toks
    rw [ec]
theorem pe_bmK {T name id : String} {r : V → List V → Hp → VK → Prop} {o e : Expr} {es : List Expr} {to : TE} {t : TA} {apos cpos : Pos} (K : PySem.W.Frag) (pa : PlainAttrs T) (slot : Slot T name id) (hty : typeOf (.builtin id) = pure (.type "method_descriptor")) (hm : MtR X id r) (ho : PE X o to) (ha : PA X (e :: es) t)
    (hK : X.K = K := by rfl) (hbase : attributeBase o name X.env (eval o X.env) = eval o X.env := by rfl)
    (hfew : ((backTo cpos (starEach (e :: es) X.env)).all (fun x => !x.1) && (backToKw cpos (keywordEach [] X.env)).all (fun x => x.1.isSome)
      && decide ((e :: es).length + ([] : List Keyword).length + (if ([] : List Keyword).isEmpty then 0 else 1) < 30)) = true := by rfl)
    (hline : (apos.endLine == cpos.line) = true := by rfl) (hs : starEach (e :: es) X.env = (false, eval e X.env) :: starEach es X.env := by rfl) (hplain : (backTo cpos (starEach es X.env)).any (·.1) = false := by rfl) :
    PE X (.Call (.Attribute o name apos) (e :: es) [] cpos) (tBM K T r to t) := by
  subst hK; exact pe_bm pa slot hty hm ho ha hbase hfew hline hs hplain
theorem mt_countFK (K : PySem.W.Frag) (h : X.K = K := by rfl) : MtR X "list.count" (rCntF K) := by subst h; exact mt_countF
theorem mt_indexFK (K : PySem.W.Frag) (h : X.K = K := by rfl) : MtR X "list.index" (rIndex K) := by subst h; exact mt_index
end
end LX
set_option maxHeartbeats 2000000
namespace Toy
open PySem L2 C8 SX LX K4
local macro_rules | `(tactic| walk_at "c") => `(tactic| refine And.intro (by first | (show (0 : Int) < _; omega) | exact Or.inr ⟨by decide, by decide⟩ | exact Or.inl ⟨by decide, by decide⟩ | (exact ⟨by omega, by omega⟩)) ?_)
local macro_rules | `(tactic| walk_at "s1") => `(tactic| first | refine ⟨_, rfl, ?_⟩ | refine ⟨_, _, rfl, rfl, ?_⟩ | refine .inl ⟨_, rfl, ?_⟩ | walk_at "c")
local macro_rules | `(tactic| walk_at "ix") => `(tactic| refine ⟨_, _, _, _, rfl, rfl, SqL.of (by first | assumption | exact upd_same), rfl, ?_⟩)
local macro_rules | `(tactic| walk_at "s") => `(tactic| repeat (walk_at "s1"))
theorem starts3 {r b : List Nat} {p : Nat} (hp : p ≤ r.length) : Txt.startswith3 (S r) (S b) (p : Nat) = decide ((r.drop p).take b.length = b) := by
  unfold Txt.startswith3
  have ef : fromIndex (S r).length (p : Nat) = p := by unfold fromIndex; rw [if_neg (by omega)]; omega
  rw [ef, PySem.StrLaws.subAt_eq]
  have e1 : (S r).cps.toList = r := by simp [S]
  have e2 : (S b).cps.toList = b := by simp [S]
  rw [e1, e2, S_len, S_len]
  by_cases h : (r.drop p).take b.length = b
  · have hl := congrArg List.length h
    rw [List.length_take, List.length_drop] at hl
    rw [h, beq_self_eq_true, Bool.and_true, decide_eq_true (p := (p + b.length ≤ r.length)) (by omega)]
    simp
  · have : ((r.drop p).take b.length == b) = false := by simpa using h
    rw [this, Bool.and_false, decide_eq_false h]
theorem ord_iff {a b : List Nat} : OrdL a b ↔ OrdN a b := Iff.rfl
def optV : Option (List Nat) → V
  | none => .non
  | some u => .str (S u)
theorem taken_map {α : Type} (xs : List α) (d : α) (pr : α → Bool) : (takenN (fun i => pr (xs.getD i d)) xs.length).map (fun i => xs.getD i d) = xs.filter pr := by
  unfold takenN
  have e : (List.range xs.length).map (fun i => xs.getD i d) = xs := by
    apply List.ext_getElem
    · rw [List.length_map, List.length_range]
    · intro i h1 h2
      rw [List.getElem_map, List.getElem_range, List.getD_eq_getElem?_getD, List.getElem?_eq_getElem h2]
      rfl
  have h := List.filter_map (f := fun i => xs.getD i d) (p := pr) (l := List.range xs.length)
  rw [e] at h
  rw [h]
  rfl
theorem taken_vals {α : Type} {xs : List α} {d : α} {pr : α → Bool} {f : α → V} {ys : List V} {n : Nat} (hn : n = xs.length) (hl : ys.length = (takenN (fun i => pr (xs.getD i d)) n).length) (h : ∀ (j k : Nat) y, (takenN (fun i => pr (xs.getD i d)) n)[j]? = some k → ys[j]? = some y → y = f (xs.getD k d)) : ys = (xs.filter pr).map f := by
  subst hn
  rw [← taken_map xs d pr, List.map_map]
  exact list_map hl fun j y k e1 e2 => h j k y e2 e1
theorem refs_of : ∀ {ys : List V}, (∀ (j : Nat) y, ys[j]? = some y → ∃ t, y = .ref t) → ∃ ps : List Addr, ys = ps.map V.ref
  | [], _ => ⟨[], rfl⟩
  | y :: ys, h => by
    obtain ⟨t, rfl⟩ := h 0 y rfl
    obtain ⟨ps, rfl⟩ := refs_of (ys := ys) fun j z e => h (j + 1) z e
    exact ⟨t :: ps, rfl⟩
structure ZAt (H : Hp) (ts : List Addr) (z : Zs) : Prop where
  len : ts.length = z.length
  get : ∀ (i : Nat) (t : Addr) (e : Nat × List Nat), ts[i]? = some t → z[i]? = some e → H t = some (.tup [.str (S [e.1]), .str (S e.2)])
theorem ZAt.same {H H' : Hp} {ts : List Addr} {z : Zs} (s : Same H H') (h : ZAt H ts z) : ZAt H' ts z := ⟨h.len, fun i t e h1 h2 => s _ _ (h.get i t e h1 h2)⟩
def okc (row : List Nat) (p : Nat) (D : Nat → Option (List Nat)) (e : Nat × List Nat) : Bool := decide ((row.drop p).take e.2.length = e.2) && (D (p + e.2.length)).isSome
def valc (p : Nat) (D : Nat → Option (List Nat)) (e : Nat × List Nat) : List Nat := e.1 :: (D (p + e.2.length)).getD []
theorem cand_eq (row : List Nat) (p : Nat) (D : Nat → Option (List Nat)) (z : Zs) : cand row p D z = (z.filter (okc row p D)).map (valc p D) := by
  unfold cand
  induction z with
  | nil => rfl
  | cons e z ih =>
    rw [List.flatMap_cons, ih, List.filter_cons]
    by_cases h : (row.drop p).take e.2.length = e.2
    · rw [if_pos h]
      cases hd : D (p + e.2.length) with
      | none =>
        have : okc row p D e = false := by unfold okc; rw [hd]; simp
        rw [this]; rfl
      | some u =>
        have : okc row p D e = true := by unfold okc; rw [hd, decide_eq_true h]; rfl
        rw [this, if_pos rfl, List.map_cons]
        have : valc p D e = e.1 :: u := by unfold valc; rw [hd]; rfl
        rw [this]; rfl
    · have : okc row p D e = false := by unfold okc; rw [decide_eq_false h]; rfl
      rw [if_neg h, this]; rfl
theorem inl_inj {a b : Nat} (h : (Sum.inl (a : Int) : Key) = Sum.inl (b : Int)) : a = b := by have := Sum.inl.inj h; omega
theorem menu_c {sg : List Nat} (hm : Menu sg) {c : Nat} (hc : c ∈ sg) : ∀ x ∈ [c], x < 1114112 := fun x hx => by rw [List.mem_singleton.mp hx]; have := menu_small hm c hc; omega
section
variable {P : Program} {w : World} {K : PySem.W.Frag} {mg : Str → Option Value} {base : Heap}
abbrev s_order : Stmt := top 13
abbrev n_order : List Str := ["row"]
theorem sc_order : FnScope n_order ["row"] (fnScope s_order) := fnScope_by (by decide +kernel)
theorem fn_order (T : BT mg) {f : Addr} {fd : FuncData} (F : Def K mg "row_order" s_order f fd) : FnOk P w K mg base C8.CX0 1 f fd ["row"] spOrd := by
  refine fn0 F.fn sc_order (fun vs H Q E h => ?_) (fun cdv A outer s H vs Q E hr h => ?_)
  · obtain ⟨l, rfl, _⟩ := h; rfl
  · obtain ⟨l, rfl, hl, k⟩ := h
    refine ⟨_, (pss_one (ps_ret (pe_tup (pa_cons (pe_callB call_len_str (by rfl) T.m_len PySem.boot_len (pa_cons (pv 0) pa_nil)) (pa_cons (pv 0) pa_nil))))
      ), ?_⟩
    refine ⟨_, rfl, _, rfl, by rw [S_len]; exact sz hl (by decide), _, rfl, by show 2 ≤ sizeLine; decide, fun t ht => ?_⟩
    rw [S_len]
    exact k t _ (sm_new ht) upd_same
abbrev s_origin : Stmt := top 24
abbrev n_origin : List Str := ["change", "row", "images", "least", "at", "found", "sign", "image"]
theorem sc_origin : FnScope n_origin ["change", "row"] (fnScope s_origin) := fnScope_by (by decide +kernel)
def spOrigin (K : PySem.W.Frag) (C : Addr) : Sp := fun vs H Q _ => ∃ (a : Addr) (sg : List Nat) (ims : List (List Nat)) (row : List Nat), vs = [.ref a, .str (S row)] ∧ Chg K C H a sg ims ∧ Gd sg ims ∧ row.length ≤ 100 ∧
  ∀ (o : Option (List Nat)) (H' : Hp), Same H H' → AtP sg ims row o → Q (optV o) H'
theorem fn_origin {C : Addr} (T : BT mg) (CH : CC K C) {f_order : Addr} {fd_order : FuncData} (mg_order : mg "row_order" = some (.ref f_order)) (Fk_order : FnOk P w K mg base C8.CX0 1 f_order fd_order ["row"] spOrd) (hb_order : Binds K fd_order ["row"] [])
    {f : Addr} {fd : FuncData} (F : Def K mg "origin" s_origin f fd) : FnOk P w K mg base C8.CX0 3 f fd ["change", "row"] (spOrigin K C) := by
  refine fn0 F.fn sc_origin (fun vs H Q E h => ?_) (fun cdv A outer s H vs Q E hr h => ?_)
  · obtain ⟨a, sg, ims, row, rfl, _⟩ := h; rfl
  · obtain ⟨a, sg, ims, row, rfl, hc, g, hrow, k⟩ := h
    obtain ⟨dx, r, ha, hrr⟩ := id hc
    have gg := g.good
    refine ⟨_, (pss_cons (ps_setLc (i := 2) (own := [("sign", 6), ("image", 7)]) rfl sc_origin.nd rfl rfl rfl (pi_zipX (by rfl) T.m_zip (pa_cons (fldK K (pv 0) rfl) (pa_cons (fldK K (pv 0) rfl) pa_nil))) (blkOk_by (N := n_origin) (sc := fnScope s_origin) (by decide +kernel)) (fun _ _ _ _ _ => (tupK K 2 (pgs_cons (pg_name (i := 6) sc_origin.nd rfl (.inl rfl)) (pgs_cons (pg_name (i := 7) sc_origin.nd rfl (.inl rfl)) pgs_nil)))) (fun _ _ _ _ _ => pts_one (pt_cmpR op_ne (pv 7) pe_str (nomark _))) (fun _ _ _ _ _ => (pe_tup (pa_cons (pv 6) (pa_cons (pv 7) pa_nil)))))
      (pss_cons (ps_set (i := 3) sc_origin.nd rfl (.inr rfl) (pe_disp (pps_cons (pe_callB call_len_str (by rfl) T.m_len PySem.boot_len (pa_cons (pv 1) pa_nil)) pe_str pps_nil) rfl rfl (by decide) (by decide)))
      (pss_cons (ps_for PassesOwn.never rfl (pi_revR (by rfl) T.m_reversed (prg_1 (by rfl) T.m_range (pe_callB call_len_str (by rfl) T.m_len PySem.boot_len (pa_cons (pv 1) pa_nil)))) (pg_name (i := 4) sc_origin.nd rfl (.inr rfl)) 
        (pss_cons (ps_setLc (i := 5) (own := [("sign", 6), ("image", 7)]) rfl sc_origin.nd rfl rfl rfl (pi_list (pv 2)) (blkOk_by (N := n_origin) (sc := fnScope s_origin) (by decide +kernel)) (fun _ _ _ _ _ => (tupK K 2 (pgs_cons (pg_name (i := 6) sc_origin.nd rfl (.inl rfl)) (pgs_cons (pg_name (i := 7) sc_origin.nd rfl (.inl rfl)) pgs_nil)))) (fun _ _ _ _ _ => pts_one (PW.pt (pw_and (pt_val (pe_bmK K PySem.F.plainAttrs_str PySem.F.slot_str_startswith PySem.F.type_str_startswith mt_startswith3 (pv 1) (pa_cons (pv 7) (pa_cons (pv 4) pa_nil)))) (pw_and1 (pt_cmp (pc_din (hu_of hr) (pe_op op_add (pv 4) (pe_callB call_len_str (by rfl) T.m_len PySem.boot_len (pa_cons (pv 7) pa_nil))) (pv 3))))))) (fun _ _ _ _ _ => (pe_op op_add_str (pv 6) (pe_dget (hu_of hr) (pv 3) (pe_op op_add (pv 4) (pe_callB call_len_str (by rfl) T.m_len PySem.boot_len (pa_cons (pv 7) pa_nil))) (fun _ _ => rfl)))))
        (pss_one (ps_if (pt_truth (pv 5) (by intro _; rfl)) 
          (pss_one (ps_dput (hu_of hr) (pv 3) (pv 4) (pe_callBK (cr_minKey rfl Fk_order hr hb_order) (by rfl) T.m_min PyProof.Rows.boot_min (pa_cons (pv 5) pa_nil) (pk_cons (pe_glob (v := .ref f_order) (by rfl) mg_order rfl) pk_nil)) rfl)
          )
         pss_nil)
        )))
      (pss_one (ps_ret (pe_dget1 (hu_of hr) (pv 3) pe_int ⟨by rfl, by rfl, by rfl, by rfl⟩))
      )))), ?_⟩
    refine ⟨_, rfl, a, C, dx, _, _, rfl, ha, CH.cl, CH.nS, chF_signs _ _, ?_⟩
    refine ⟨_, rfl, a, C, dx, _, _, rfl, ha, CH.cl, CH.nR, chF_rows _ _, ?_⟩
    refine ⟨_, _, .txt (S sg), .tup r, rfl, rfl, rfl, trivial, ⟨_, hrr⟩, fun D hD => ?_⟩
    generalize hz : sg.zip ims = z
    have z3 : z.length ≤ 3 := by rw [← hz]; exact gg.zip_len
    have hzl : min (sg.map fun c => V.str (S [c])).length (txs ims).length = z.length := by rw [← hz]; exact g.zl
    refine lc_keepF keep_same (walk_zipX (K := K) (S1 := .txt (S sg)) (S2 := .tup r) (xs := sg.map fun c => V.str (S [c])) (ys := txs ims)) hD (by rw [hzl]; exact small1000 (by omega)) (fun i => (fun e : Nat × List Nat => decide (e.2 ≠ [])) (z.getD i (0, []))) (fun i y H => ∃ t, y = .ref t ∧ H t = some (.tup [.str (S [(z.getD i (0, [])).1]), .str (S (z.getD i (0, [])).2)]))
      (fun H1 r1 => ⟨rfl, sm_seqT r1 hrr⟩) (fun _ _ _ _ _ r ⟨t, e, h⟩ => ⟨t, e, r _ _ h⟩) (fun _ _ _ _ _ _ hDa ⟨t, e, h⟩ => ⟨t, e, by rw [upd_ne (ne_of h hDa (by intro h; cases h))]; exact h⟩) (fun i x H1 H1' acc N R hi r1 hDa hy hR hN => ?_) (fun ys H1 hly hg r1 hDs => ?_)
    · obtain ⟨t, x1, x2, rfl, ht, rfl, e1, e2⟩ := hy
      obtain ⟨c, hc1, rfl⟩ := chr_get e1
      obtain ⟨im, him, rfl⟩ := txs_get e2
      have hzi : z.getD i (0, []) = (c, im) := by rw [List.getD_eq_getElem?_getD, ← hz, zip_get hc1 him]; rfl
      rw [hzi] at hR hN
      have il := g.c1 him
      have sT : Same H1 (upd H1 t (.tup [.str (S [c]), .str (S im)])) := sm_new ht
      refine ⟨t, _, rfl, .inl (.inl upd_same), rfl, _, _, rfl, _, _, rfl, rfl, rfl, ?_⟩
      refine ⟨_, rfl, rfl, _, rfl, ?_⟩
      rw [s_nil]
      by_cases h0 : im = []
      · refine iteN (by subst h0; simp) ?_
        exact hN (by simpa using h0) _ sT
      · refine iteB (by simp [S]; exact h0) ?_
        refine ⟨_, rfl, _, rfl, by show 2 ≤ sizeLine; decide, fun u hu => ?_⟩
        exact hR (by simpa using h0) _ _ (sT.trans (sm_new hu)) ⟨u, rfl, upd_same⟩
    obtain ⟨ts, rfl⟩ := refs_of fun j y e => by
      have hj := (List.getElem?_eq_some_iff.mp e).1
      obtain ⟨k, hk⟩ : ∃ k, (takenN (fun i => (fun e : Nat × List Nat => decide (e.2 ≠ [])) (z.getD i (0, []))) (min (sg.map fun c => V.str (S [c])).length (txs ims).length))[j]? = some k := ⟨_, List.getElem?_eq_getElem (by rw [← hly]; exact hj)⟩
      obtain ⟨t, e', _⟩ := hg j k y hk e
      exact ⟨t, e'⟩
    have hzat : ZAt H1 ts (zNe z) := by
      have em := taken_map z (0, []) fun e : Nat × List Nat => decide (e.2 ≠ [])
      rw [hzl, List.length_map] at hly
      refine ⟨by rw [hly]; unfold zNe; rw [← em, List.length_map], fun i t e h1 h2 => ?_⟩
      have h2 : (z.filter fun e : Nat × List Nat => decide (e.2 ≠ []))[i]? = some e := h2
      rw [← em, List.getElem?_map] at h2
      cases hk : (takenN (fun i => (fun e : Nat × List Nat => decide (e.2 ≠ [])) (z.getD i (0, []))) z.length)[i]? with
      | none => rw [hk] at h2; cases h2
      | some kk =>
        rw [hk] at h2
        have h2 : z.getD kk (0, []) = e := Option.some.inj h2
        rw [hzl] at hg
        obtain ⟨t', e', h⟩ := hg i kk (.ref t) hk (by rw [List.getElem?_map, h1]; rfl)
        cases e'
        rw [h2] at h
        exact h
    clear hly hg hD
    have hc1 := hc.same r1
    refine fun d hd => ⟨_, rfl, _, rfl, by rw [S_len]; exact sz hrow (by decide), upd_same, [(Sum.inl (((S row).length : Nat) : Int), .str (Str.ofString ""))], rfl, by show 1 ≤ 15; decide, ?_⟩
    have em : mergeK [] [((Sum.inl (((S row).length : Nat) : Int) : Key), V.str (Str.ofString ""))] = [(Sum.inl ((row.length : Nat) : Int), .str (S []))] := by rw [s_nil, S_len]; rfl
    rw [em]
    have w2 : Same H1 (upd (upd H1 d (.dK [])) d (.dK [(Sum.inl ((row.length : Nat) : Int), .str (S []))])) := sm_put (sm_put (Same.refl H1) hd) hd
    have hd2 : (upd (upd H1 d (.dK [])) d (.dK [(Sum.inl ((row.length : Nat) : Int), .str (S []))])) d = some (.dK [(Sum.inl ((row.length : Nat) : Int), .str (S []))]) := upd_same
    generalize upd (upd H1 d (.dK [])) d (.dK [(Sum.inl ((row.length : Nat) : Int), .str (S []))]) = H2 at w2 hd2 ⊢
    have s2 := r1.trans w2
    have hdH : H d = none := r1.free hd
    have hz2 := hzat.same w2
    have hD2 := w2 _ _ hDs
    refine ⟨_, rfl, _, rfl, by rw [S_len]; exact sz hrow (by decide), ?_⟩
    rw [S_len]
    refine ⟨_, rfl, by decide, by decide, by omega, by omega, ?_⟩
    have etn : ((((row.length : Nat) : Int)) - 0).toNat = row.length := by omega
    refine for_it walk_rangeC (fun i σ H' => ∃ (kvs : List (Key × V)) (Df : Nat → Option (List Nat)) (s4 s5 : Option V), σ = [some (.ref a), some (.str (S row)), some (.ref D), some (.ref d), s4, s5, none, none] ∧ Same H H' ∧ H' d = some (.dK kvs) ∧ H' D = some (.lst (ts.map V.ref)) ∧ ZAt H' ts (zNe z) ∧ kvs.length ≤ i + 1 ∧
        (∀ q : Nat, valV kvs (Sum.inl (q : Int)) = (Df q).map fun u => V.str (S u)) ∧ (∀ q, row.length - i ≤ q → q ≤ row.length → AtP sg ims (row.drop q) (Df q)) ∧ ∀ q, q < row.length - i → Df q = none)
      ⟨_, fun q => if q = row.length then some [] else none, _, _, rfl, s2, hd2, hD2, hz2, Nat.le_refl 1, fun q => ?_, fun q h1 h2 => ?_, fun q h => if_neg (by omega)⟩ (fun _ _ _ _ _ => trivial) ?_ ?_
    · dsimp only
      by_cases e : q = row.length
      · rw [if_pos e, e]; exact valV_pos rfl
      · rw [if_neg e]
        exact valV_none fun p hp h => by
          rw [List.mem_singleton.mp hp] at h
          exact e (inl_inj h).symm
    · have e : q = row.length := by omega
      dsimp only
      rw [if_pos e, e, List.drop_length]
      exact least_nil sg ims
    · clear hd2 hD2 hz2 s2 w2 hzat hDs
      rintro i x σ H3 H3' hi ⟨kvs, Df, s4, s5, rfl, s3, hd3, hD3, hz3, hkl, hval, hat, hnone⟩ ⟨rfl, hxv⟩
      rw [etn] at hi
      obtain ⟨p, hp⟩ : ∃ p, row.length - i = p + 1 := ⟨row.length - i - 1, by omega⟩
      obtain rfl : x = V.int (p : Int) := hxv.trans (congrArg V.int (by rw [etn]; omega))
      rw [hp] at hat hnone
      have hpr : p < row.length := by omega
      refine ⟨_, rfl, D, rfl, ⟨_, SqL.of hD3⟩, fun D2 hD2 => ?_⟩
      have ztl : (ts.map V.ref).length = (zNe z).length := by rw [List.length_map, hz3.len]
      have zn3 : (zNe z).length ≤ 3 := Nat.le_trans (List.length_filter_le _ _) z3
      have hfit : ∀ e ∈ zNe z, e.2.length ≤ 4 ∧ e.1 ∈ sg := fun e he => by
        have he := (List.mem_filter.mp he).1
        rw [← hz] at he
        obtain ⟨hc, h2⟩ := gg.zip_mem.mp (show (e.1, e.2) ∈ sg.zip ims from he)
        rw [h2]
        exact ⟨gg.h4 _ (img_in gg.hl hc), hc⟩
      have hDl : ∀ q u, p + 1 ≤ q → q ≤ row.length → Df q = some u → u.length ≤ 100 := fun q u h1 h2 e => by
        have := hat q h1 h2
        rw [e] at this
        have := (show Least sg ims (row.drop q) u from this).le
        rw [List.length_drop] at this
        omega
      refine lc_keepF keep_same (walk_list (K := K) (a := D) (xs := ts.map V.ref)) hD2 (by rw [ztl]; exact small1000 (by omega)) (fun j => okc row p Df ((zNe z).getD j (0, []))) (fun j y _ => y = .str (S (valc p Df ((zNe z).getD j (0, []))))) (fun H r => SqL.of (r _ _ hD3)) (fun _ _ _ _ _ _ h => h) (fun _ _ _ _ _ _ _ h => h) (fun j x H4 H4' acc N R hj r hDa hy hR hN => ?_) (fun ys H4 hly hg r hDs => ?_)
      · obtain ⟨rfl, e1⟩ := hy
        rw [List.getElem?_map] at e1
        cases htj : ts[j]? with
        | none => rw [htj] at e1; cases e1
        | some t =>
        rw [htj] at e1
        obtain rfl := Option.some.inj e1
        obtain ⟨e, he⟩ : ∃ e, (zNe z)[j]? = some e := ⟨_, List.getElem?_eq_getElem (by rw [← hz3.len]; exact (List.getElem?_eq_some_iff.mp htj).1)⟩
        have ht := r _ _ (hz3.get j t e htj he)
        have hgd : (zNe z).getD j (0, []) = e := by rw [List.getD_eq_getElem?_getD, he]; rfl
        rw [hgd] at hR hN
        obtain ⟨el, ec⟩ := hfit e (List.mem_of_getElem? he)
        have be : (S e.2).length ≤ sizeLine := by rw [S_len]; exact sz el (by decide)
        have hd4 := r _ _ hd3
        refine ⟨t, _, rfl, .inl (.inl ht), rfl, _, _, rfl, _, _, rfl, rfl, rfl, ?_⟩
        refine ⟨_, rfl, rfl, _, rfl, _, rfl, _, _, _, rfl, rfl, _, rfl, ?_⟩
        rw [starts3 (Nat.le_of_lt hpr)]
        by_cases hpre : (row.drop p).take e.2.length = e.2
        · refine iteB (decide_eq_true hpre) ?_
          have ke : V.int ((p : Int) + ((S e.2).length : Nat)) = kV (Sum.inl ((p + e.2.length : Nat) : Int)) := congrArg V.int (by rw [S_len]; omega)
          have hpl : p + e.2.length ≤ row.length := by
            have hl := congrArg List.length hpre
            rw [List.length_take, List.length_drop] at hl
            omega
          refine ⟨_, rfl, _, rfl, _, rfl, be, _, _, rfl, rfl, _, rfl, d, _, rfl, .inl ⟨kvs, _, .inl hd4, ke, rfl⟩, _, rfl, ?_⟩
          rw [hval]
          cases hdf : Df (p + e.2.length) with
          | none =>
            refine iteN rfl ?_
            exact hN (by unfold okc; rw [hdf]; simp) _ (Same.refl _)
          | some u =>
            refine iteB rfl ?_
            have he1 : 1 ≤ e.2.length := by
              have := List.length_pos_iff.mpr (of_decide_eq_true (List.mem_filter.mp (List.mem_of_getElem? he)).2)
              exact this
            have hul := hDl _ u (by omega) hpl hdf
            refine ⟨_, rfl, _, rfl, _, rfl, _, rfl, _, rfl, be, _, _, rfl, rfl, d, .str (S u), rfl, .inl ⟨kvs, _, .inl hd4, ke, by rw [hval, hdf]; rfl⟩, _, _, rfl, rfl, by rw [S_len, S_len]; exact sz (m := 101) (by simp; omega) (by decide), ?_⟩
            have ev : valc p Df e = e.1 :: u := by unfold valc; rw [hdf]; rfl
            refine hR (by unfold okc; rw [hdf, decide_eq_true hpre]; rfl) _ _ (Same.refl _) ?_
            rw [ev, S_cat]; rfl
        · refine iteN (decide_eq_false hpre) ?_
          refine iteN rfl ?_
          exact hN (by unfold okc; rw [decide_eq_false hpre]; rfl) _ (Same.refl _)
      have ey : ys = txs (cand row p Df (zNe z)) := by
        rw [cand_eq]
        unfold txs
        rw [List.map_map]
        exact taken_vals (f := fun e => V.str (S (valc p Df e))) ztl hly hg
      subst ey
      have hat' : ∀ q, p < q → q ≤ row.length → AtP sg ims (row.drop q) (Df q) := fun q h1 h2 => hat q (by omega) h2
      have s4 := s3.trans r
      have hd4 := r _ _ hd3
      have hD4 := r _ _ hD3
      have hz4 := hz3.same r
      have hcl : ∀ x ∈ cand row p Df (zNe z), x.length ≤ 101 := fun x hx => by
        rw [cand_eq] at hx
        obtain ⟨e, he, rfl⟩ := List.mem_map.mp hx
        rw [← hz] at he
        have hx2 : valc p Df e ∈ cand row p Df (zNe (sg.zip ims)) := by rw [cand_eq]; exact List.mem_map.mpr ⟨e, he, rfl⟩
        have := (cand_ok gg hpr hat' hx2).2.2
        rw [List.length_drop] at this
        omega
      refine ⟨_, rfl, !(txs (cand row p Df (zNe z))).isEmpty, .inl ⟨_, SqL.of hDs, rfl⟩, ?_⟩
      cases hcd : cand row p Df (zNe z) with
      | nil =>
        refine iteN rfl ?_
        refine ⟨kvs, Df, _, _, rfl, s4, hd4, hD4, hz4, by omega, hval, fun q h1 h2 => ?_, fun q hq => hnone q (by omega)⟩
        by_cases e : q = p
        · rw [e, hnone p (by omega)]
          rw [← hz] at hcd
          exact cand_none gg hpr hat' hcd
        · exact hat q (by omega) h2
      | cons c0 cs =>
        refine iteB rfl ?_
        refine ⟨_, rfl, D2, _, rfl, rfl, SqL.of hDs, by rw [hcd]; exact Nat.succ_pos _, fun x hx => by have := hcl x hx; omega, fun m H5 s5 hm hmin => ?_⟩
        refine ⟨_, rfl, _, rfl, d, _, rfl, DPut.k (k := Sum.inl (p : Int)) (s5 _ _ hd4) (small1000 (by omega)), ?_⟩
        have nDd : D ≠ d := fun e => by rw [e, hd4] at hD4; cases hD4
        refine ⟨_, fun q => if q = p then some m else Df q, _, _, rfl, sm_put (s4.trans s5) hdH, upd_same, by rw [upd_ne nDd]; exact s5 _ _ hD4, ⟨hz4.len, fun i t e h1 h2 => ?_⟩, by have := length_putK kvs (Sum.inl (p : Int)) (.str (S m)); omega, fun q => ?_, fun q h1 h2 => ?_, fun q hq => ?_⟩
        · have h3 := s5 _ _ (hz4.get i t e h1 h2)
          rw [upd_ne (fun q => by rw [q, s5 _ _ hd4] at h3; cases h3)]
          exact h3
        · rw [valV_put]
          dsimp only
          by_cases e : q = p
          · subst e; rw [if_pos rfl, if_pos rfl]; rfl
          · rw [if_neg fun h => e (inl_inj h), if_neg e]; exact hval q
        · dsimp only
          by_cases e : q = p
          · subst e
            rw [if_pos rfl]
            rw [← hz] at hm hmin
            exact cand_least gg hpr hat' hm hmin
          · rw [if_neg e]; exact hat q (by omega) h2
        · dsimp only
          rw [if_neg (by omega)]
          exact hnone q (by omega)
    · rintro σ H3 ⟨kvs, Df, s4, s5, rfl, s3, hd3, hD3, hz3, hkl, hval, hat, hnone⟩
      rw [etn] at hat
      refine ⟨_, rfl, d, rfl, .inl ⟨_, .inl hd3⟩, _, .inl ⟨kvs, Sum.inl (0 : Int), .inl hd3, rfl, rfl⟩, ?_⟩
      have h0 := hat 0 (by omega) (Nat.zero_le _)
      rw [List.drop_zero] at h0
      have hv : valV kvs (Sum.inl (0 : Int)) = (Df 0).map fun u => V.str (S u) := hval 0
      rw [hv]
      have := k (Df 0) H3 s3 h0
      cases hd0 : Df 0 with
      | none => rw [hd0] at this; exact this
      | some u => rw [hd0] at this; exact this
theorem ok_origin {C : Addr} (T : BT mg) (CH : CC K C) {f_order : Addr} {fd_order : FuncData} (mg_order : mg "row_order" = some (.ref f_order)) (Fk_order : FnOk P w K mg base C8.CX0 1 f_order fd_order ["row"] spOrd) (hb_order : Binds K fd_order ["row"] [])
    {f : Addr} {fd : FuncData} (F : Def K mg "origin" s_origin f fd) (b : Binds K fd ["change", "row"] []) : Cal P w K mg base 3 "origin" (spOrigin K C) [] := ⟨⟨f, fd, _, [], fn_origin T CH mg_order Fk_order hb_order F, F.mgf, F.kp, b, .nil⟩⟩
end
end Toy
set_option maxHeartbeats 2000000
namespace Toy
open PySem L2 C8 SX LX K4
local macro_rules | `(tactic| walk_at "c") => `(tactic| refine And.intro (by first | (show (0 : Int) < _; omega) | exact Or.inr ⟨by decide, by decide⟩ | exact Or.inl ⟨by decide, by decide⟩ | (exact ⟨by omega, by omega⟩)) ?_)
local macro_rules | `(tactic| walk_at "s1") => `(tactic| first | refine ⟨_, rfl, ?_⟩ | refine ⟨_, _, rfl, rfl, ?_⟩ | refine .inl ⟨_, rfl, ?_⟩ | walk_at "c")
local macro_rules | `(tactic| walk_at "ix") => `(tactic| refine ⟨_, _, _, _, rfl, rfl, SqL.of (by first | assumption | exact upd_same), rfl, ?_⟩)
local macro_rules | `(tactic| walk_at "s") => `(tactic| repeat (walk_at "s1"))
abbrev Ws := List (Nat × Nat)
def wsK (ws : Ws) : List (Key × V) := ws.map fun e => ((Sum.inl (e.1 : Int) : Key), V.int (e.2 : Nat))
def getW : Ws → Nat → Nat
  | [], _ => 0
  | x :: r, e => if x.1 = e then x.2 else getW r e
def putW : Ws → Nat → Nat → Ws
  | [], e, v => [(e, v)]
  | x :: r, e, v => if x.1 = e then (x.1, v) :: r else x :: putW r e v
def flatW (ws : Ws) : List Nat := ws.flatMap fun e => List.replicate e.2 e.1
theorem flatW_cons (x : Nat × Nat) (ws : Ws) : flatW (x :: ws) = List.replicate x.2 x.1 ++ flatW ws := List.flatMap_cons ..
theorem flatW_out {ws : Ws} {e : Nat} (h : e ∉ ws.map (·.1)) : (flatW ws).count e = 0 := List.count_eq_zero.mpr fun hm => by
  obtain ⟨x, hx, hr⟩ := List.mem_flatMap.mp hm
  rw [(List.mem_replicate.mp hr).2] at h
  exact h (List.mem_map.mpr ⟨x, hx, rfl⟩)
theorem getW_count : ∀ {ws : Ws} {e : Nat}, (ws.map (·.1)).Nodup → getW ws e = (flatW ws).count e
  | [], _, _ => rfl
  | x :: ws, e, nd => by
    rw [List.map_cons, List.nodup_cons] at nd
    rw [flatW_cons, List.count_append, List.count_replicate]
    unfold getW
    by_cases h : x.1 = e
    · subst h
      rw [if_pos rfl, flatW_out nd.1]; simp
    · rw [if_neg h, getW_count nd.2]; simp [h]
theorem putW_keys : ∀ {ws : Ws} {e v : Nat}, (putW ws e v).map (·.1) = if e ∈ ws.map (·.1) then ws.map (·.1) else ws.map (·.1) ++ [e]
  | [], _, _ => rfl
  | x :: ws, e, v => by
    unfold putW
    by_cases h : x.1 = e
    · rw [if_pos h, List.map_cons, List.map_cons, if_pos (by rw [h]; exact List.mem_cons_self)]
    · have h' : e ≠ x.1 := fun q => h q.symm
      rw [if_neg h, List.map_cons, List.map_cons, putW_keys]
      by_cases q : e ∈ ws.map (·.1)
      · rw [if_pos q, if_pos (List.mem_cons_of_mem _ q)]
      · rw [if_neg q, if_neg fun z => (List.mem_cons.mp z).elim h' q]; rfl
theorem putW_nd {ws : Ws} {e v : Nat} (nd : (ws.map (·.1)).Nodup) : ((putW ws e v).map (·.1)).Nodup := by
  rw [putW_keys]
  split
  · exact nd
  · rename_i h
    rw [List.nodup_append]
    exact ⟨nd, by simp, fun a ha b hb q => by
      have : b = e := by simpa using hb
      subst this; subst q; exact h ha⟩
theorem putW_perm : ∀ {ws : Ws} {e m : Nat}, (flatW (putW ws e (getW ws e + m))).Perm (flatW ws ++ List.replicate m e)
  | [], e, m => by
    show (flatW [(e, 0 + m)]).Perm ([] ++ List.replicate m e)
    rw [flatW_cons, Nat.zero_add]
    show (List.replicate m e ++ []).Perm ([] ++ List.replicate m e)
    rw [List.append_nil, List.nil_append]
  | x :: ws, e, m => by
    unfold putW getW
    by_cases h : x.1 = e
    · subst h
      rw [if_pos rfl, if_pos rfl, flatW_cons, flatW_cons, ← List.replicate_append_replicate, List.append_assoc, List.append_assoc]
      exact List.Perm.append_left _ List.perm_append_comm
    · rw [if_neg h, if_neg h, flatW_cons, flatW_cons, List.append_assoc]
      exact List.Perm.append_left _ putW_perm
theorem putK_pos {p : Key × V} {r : List (Key × V)} {k : Key} {v : V} (h : p.1 = k) (hr : ∀ q ∈ r, q.1 ≠ k) : putK (p :: r) k v = (p.1, v) :: r := by
  unfold putK
  rw [if_pos (by rw [List.any_cons, decide_eq_true h]; rfl), List.map_cons, if_pos h]
  congr 1
  exact (List.map_congr_left fun q hq => if_neg (hr q hq)).trans (List.map_id r)
theorem putK_neg {p : Key × V} {r : List (Key × V)} {k : Key} {v : V} (h : p.1 ≠ k) : putK (p :: r) k v = p :: putK r k v := by
  unfold putK
  rw [List.any_cons, decide_eq_false h, Bool.false_or]
  by_cases q : (r.any fun kv => decide (kv.1 = k)) = true
  · rw [if_pos q, if_pos q, List.map_cons, if_neg h]
  · rw [if_neg q, if_neg q]; rfl
theorem putK_ws : ∀ {ws : Ws} {e v : Nat}, (ws.map (·.1)).Nodup → putK (wsK ws) (Sum.inl (e : Int)) (.int (v : Nat)) = wsK (putW ws e v)
  | [], _, _, _ => rfl
  | x :: ws, e, v, nd => by
    rw [List.map_cons, List.nodup_cons] at nd
    show putK ((Sum.inl (x.1 : Int), V.int (x.2 : Nat)) :: wsK ws) _ _ = wsK (if x.1 = e then (x.1, v) :: ws else x :: putW ws e v)
    by_cases h : x.1 = e
    · subst h
      rw [if_pos rfl, putK_pos rfl fun q hq => ?_]
      · rfl
      · obtain ⟨y, hy, rfl⟩ := List.mem_map.mp hq
        exact fun z => nd.1 (List.mem_map.mpr ⟨y, hy, inl_inj z⟩)
    · rw [if_neg h, putK_neg fun z => h (inl_inj z), putK_ws nd.2]; rfl
theorem val_ws : ∀ {ws : Ws} {e : Nat}, (valV (wsK ws) (Sum.inl (e : Int))).getD (.int 0) = .int (getW ws e : Nat)
  | [], _ => rfl
  | x :: ws, e => by
    show (valV ((Sum.inl (x.1 : Int), V.int (x.2 : Nat)) :: wsK ws) _).getD _ = V.int ((if x.1 = e then x.2 else getW ws e : Nat) : Int)
    by_cases h : x.1 = e
    · rw [if_pos h, valV_pos (by rw [h])]; rfl
    · rw [if_neg h, valV_neg fun z => h (inl_inj z)]; exact val_ws
structure RepW (n : Nat) (ws : Ws) (L : List Nat) : Prop where
  nd : (ws.map (·.1)).Nodup
  pm : (flatW ws).Perm L
  le : ∀ e ∈ ws, e.1 ≤ n
theorem RepW.small {n : Nat} {ws : Ws} {L : List Nat} (h : RepW n ws L) : ws.length ≤ n + 1 := by
  have := nodup_sub (m := List.range (n + 1)) h.nd fun x hx => by
    obtain ⟨e, he, rfl⟩ := List.mem_map.mp hx
    have := h.le e he
    exact List.mem_range.mpr (by omega)
  rw [List.length_map, List.length_range] at this
  exact this
theorem RepW.add {n : Nat} {ws : Ws} {L : List Nat} (h : RepW n ws L) {e m : Nat} (he : e ≤ n) : RepW n (putW ws e (getW ws e + m)) (L ++ List.replicate m e) := by
  refine ⟨putW_nd h.nd, putW_perm.trans (h.pm.append_right _), fun x hx => ?_⟩
  have hx : x.1 ∈ (putW ws e (getW ws e + m)).map (·.1) := List.mem_map.mpr ⟨x, hx, rfl⟩
  rw [putW_keys] at hx
  have old : x.1 ∈ ws.map (·.1) → x.1 ≤ n := fun h2 => by
    obtain ⟨y, hy, e2⟩ := List.mem_map.mp h2
    rw [← e2]; exact h.le y hy
  split at hx
  · exact old hx
  · rcases List.mem_append.mp hx with q | q
    · exact old q
    · rw [List.mem_singleton.mp q]; exact he
theorem RepW.perm {n : Nat} {ws : Ws} {L M : List Nat} (h : RepW n ws L) (p : L.Perm M) : RepW n ws M := ⟨h.nd, h.pm.trans p, h.le⟩
def imW (row : List Nat) (p m : Nat) (im : List Nat) : List Nat := if (row.drop p).take im.length = im then List.replicate m (p + im.length) else []
theorem count_imW (row : List Nat) (p m x : Nat) : ∀ ims : List (List Nat), (ims.flatMap (imW row p m)).count x = m * (stepP row ims p).count x
  | [] => rfl
  | im :: ims => by
    rw [List.flatMap_cons, List.count_append, count_imW row p m x ims]
    unfold imW stepP
    rw [List.filterMap_cons]
    by_cases h : (row.drop p).take im.length = im
    · rw [if_pos h, if_pos h, List.count_replicate]
      show _ = m * List.count x ((p + im.length) :: _)
      rw [List.count_cons, Nat.mul_add, Nat.add_comm]
      congr 1
      by_cases q : p + im.length = x
      · subst q; simp
      · simp [q]
    · rw [if_neg h, if_neg h, List.count_nil, Nat.zero_add]
theorem count_rep {f : Nat → List Nat} {p x : Nat} : ∀ m : Nat, ((List.replicate m p).flatMap f).count x = m * (f p).count x
  | 0 => by simp
  | m + 1 => by rw [List.replicate_succ, List.flatMap_cons, List.count_append, count_rep m, Nat.succ_mul, Nat.add_comm]
theorem imW_perm (row : List Nat) (p m : Nat) (ims : List (List Nat)) : (ims.flatMap (imW row p m)).Perm ((List.replicate m p).flatMap (stepP row ims)) :=
  List.perm_iff_count.mpr fun x => by rw [count_imW, count_rep]
theorem flat_step (row : List Nat) (ims : List (List Nat)) (ws : Ws) : (ws.flatMap fun e => (List.replicate e.2 e.1).flatMap (stepP row ims)) = (flatW ws).flatMap (stepP row ims) := by
  unfold flatW
  rw [List.flatMap_assoc]
def KeepD (d : Addr) (H H' : Hp) : Prop := ∀ c o, c ≠ d → H c = some o → H' c = some o
theorem KeepD.seqT {K : PySem.W.Frag} {d r : Addr} {H H' : Hp} {kvs : List (Key × V)} {xs : List V} (hd : H d = some (.dK kvs)) (k : KeepD d H H') (h : SqT K H r xs) : SqT K H' r xs := by
  rcases h with (h | ⟨o', h⟩) | h
  · exact .inl (.inl (k _ _ (fun e => by rw [e, hd] at h; cases h) h))
  · exact .inl (.inr ⟨o', k _ _ (fun e => by rw [e, hd] at h; cases h) h⟩)
  · exact .inr h
theorem KeepD.put {d p : Addr} {H H' : Hp} {o : HO} (k : KeepD d H H') (hp : H p = none) : KeepD d H (upd H' p o) := fun c u n e => by rw [upd_ne (ne_of_none e hp)]; exact k c u n e
theorem KeepD.free {d p : Addr} {H H' : Hp} {o : HO} (k : KeepD d H H') (hd : H' d = some o) (hp : H' p = none) : H p = none := by
  cases e : H p with
  | none => rfl
  | some u =>
    have n : p ≠ d := fun q => by rw [q, hd] at hp; cases hp
    rw [k _ _ n e] at hp; cases hp
theorem KeepD.back {d : Addr} {H H' : Hp} {o : HO} (k : KeepD d H H') (hd : H d = some o) : Same H (upd H' d o) := fun c u e => by
  by_cases q : c = d
  · subst q; rw [upd_same, ← hd, e]
  · rw [upd_ne q]; exact k c u q e
section
variable {P : Program} {w : World} {K : PySem.W.Frag} {mg : Str → Option Value} {base : Heap}
abbrev s_wbs : Stmt := top 26
abbrev n_wbs : List Str := ["change", "row", "ways", "following", "at", "many", "image", "end"]
theorem sc_wbs : FnScope n_wbs ["change", "row", "ways"] (fnScope s_wbs) := fnScope_by (by decide +kernel)
def spWbs (K : PySem.W.Frag) (C : Addr) : Sp := fun vs H Q _ => ∃ (a d : Addr) (sg : List Nat) (ims : List (List Nat)) (row : List Nat) (ws : Ws) (L : List Nat), vs = [.ref a, .str (S row), .ref d] ∧ Chg K C H a sg ims ∧ Gd sg ims ∧ row.length ≤ 100 ∧ H d = some (.dK (wsK ws)) ∧ RepW row.length ws L ∧
  ∀ (q : Addr) (fs : Ws) (H' : Hp), Same H H' → H q = none → H' q = some (.dK (wsK fs)) → RepW row.length fs (L.flatMap (stepP row ims)) → Q (.ref q) H'
theorem ok_wbs {C : Addr} (T : BT mg) (CH : CC K C) {f : Addr} {fd : FuncData} (F : Def K mg "_ways_behind_a_sign" s_wbs f fd) (b : Binds K fd ["change", "row", "ways"] []) : Cal P w K mg base 1 "_ways_behind_a_sign" (spWbs K C) [] := by
  refine cal0 F b .nil sc_wbs (fun vs H Q E h => ?_) (fun cdv A outer s H vs Q E hr h => ?_)
  · obtain ⟨a, d, sg, ims, row, ws, L, rfl, _⟩ := h; rfl
  · obtain ⟨a, d, sg, ims, row, ws, L, rfl, hc, g, hrow, hd, hW, k⟩ := h
    obtain ⟨dx, r, ha, hrr⟩ := id hc
    have nad : a ≠ d := fun e => by rw [e, hd] at ha; cases ha
    refine ⟨_, (pss_cons (ps_set (i := 3) sc_wbs.nd rfl (.inl rfl) pe_dnewK)
      (pss_cons (ps_lock (ps_for PassesOwn.never rfl (pi_items (pv 2)) (tupK K 2 (pgs_cons (pg_name (i := 4) sc_wbs.nd rfl (.inl rfl)) (pgs_cons (pg_name (i := 5) sc_wbs.nd rfl (.inl rfl)) pgs_nil))) 
        (pss_one (ps_for PassesOwn.never rfl (pi_tup (fldK K (pv 0) rfl)) (pg_name (i := 6) sc_wbs.nd rfl (.inl rfl)) 
          (pss_one (ps_if (pt_val (pe_bm PySem.F.plainAttrs_str PySem.F.slot_str_startswith PySem.F.type_str_startswith mt_startswith3 (pv 1) (pa_cons (pv 6) (pa_cons (pv 4) pa_nil)))) 
            (pss_cons (ps_set (i := 7) sc_wbs.nd rfl (.inl rfl) (pe_op op_add (pv 4) (pe_callB call_len_str (by rfl) T.m_len PySem.boot_len (pa_cons (pv 6) pa_nil))))
            (pss_one (ps_dput (hu_of hr) (pv 3) (pv 7) (pe_op op_add (pe_dget2 (hu_of hr) (pv 3) (pv 7) pe_int ⟨by rfl, by rfl, by rfl, by rfl⟩) (pv 5)) rfl)
            ))
           pss_nil)
          ))
        )))
      (pss_one (ps_ret (pv 3))
      ))), ?_⟩
    refine fun q hq => ?_
    have nqd : q ≠ d := fun e => by rw [e, hd] at hq; cases hq
    have s1 : Same H (upd H q (.dK [])) := sm_new hq
    refine ⟨d, _, s1 _ _ hd, trivial, fun od => ?_⟩
    have kd : KeepD d H (upd (upd H q (.dK [])) d (.frz od (.dK (wsK ws)))) := fun c o n e => by rw [upd_ne n]; exact s1 c o e
    have hd1 : (upd (upd H q (.dK [])) d (.frz od (.dK (wsK ws)))) d = some (.frz od (.dK (wsK ws))) := upd_same
    have hq1 : (upd (upd H q (.dK [])) d (.frz od (.dK (wsK ws)))) q = some (.dK (wsK [])) := by rw [upd_ne nqd, upd_same]; rfl
    generalize upd (upd H q (.dK [])) d (.frz od (.dK (wsK ws))) = H1 at kd hd1 hq1 ⊢
    refine ⟨_, rfl, d, od, _, rfl, hd1, ?_⟩
    have wl : (wsK ws).length = ws.length := by unfold wsK; rw [List.length_map]
    refine for_it walk_items (fun i σ H' => ∃ (s4 s5 s6 s7 : Option V) (fs : Ws), σ = [some (.ref a), some (.str (S row)), some (.ref d), some (.ref q), s4, s5, s6, s7] ∧ KeepD d H H' ∧ H' d = some (.frz od (.dK (wsK ws))) ∧ H' q = some (.dK (wsK fs)) ∧
        RepW row.length fs ((ws.take i).flatMap fun e => (List.replicate e.2 e.1).flatMap (stepP row ims)))
      ⟨_, _, _, _, [], rfl, kd, hd1, hq1, ⟨List.nodup_nil, List.Perm.refl _, (fun _ h => nomatch h)⟩⟩ (fun _ _ _ _ ⟨_, _, _, _, _, _, _, h, _⟩ => h) ?_ ?_
    · rintro i x σ H2 H2' hi ⟨s4, s5, s6, s7, fs, rfl, k2, hd2, hq2, hf2⟩ ⟨t, x1, x2, rfl, ht, rfl, e1, e2⟩
      have hiw : i < ws.length := by rw [wl] at hi; exact hi
      obtain ⟨⟨p, m⟩, hpm⟩ : ∃ e, ws[i]? = some e := ⟨_, List.getElem?_eq_getElem hiw⟩
      have ek : (wsK ws)[i]? = some (Sum.inl (p : Int), .int (m : Nat)) := by unfold wsK; rw [List.getElem?_map, hpm]; rfl
      have e1 : (wsK ws)[i]?.map (fun kv => kV kv.1) = some x1 := e1
      have e2 : (wsK ws)[i]?.map Prod.snd = some x2 := e2
      rw [ek] at e1 e2
      obtain rfl : V.int (p : Int) = x1 := Option.some.inj e1
      obtain rfl : V.int (m : Nat) = x2 := Option.some.inj e2
      have hple : p ≤ row.length := hW.le _ (List.mem_of_getElem? hpm)
      have k3 : KeepD d H (upd H2 t (.tup [.int (p : Int), .int (m : Nat)])) := k2.put (k2.free hd2 ht)
      have htt : (upd H2 t (.tup [.int (p : Int), .int (m : Nat)])) t = some (.tup [.int (p : Int), .int (m : Nat)]) := upd_same
      have hd3 : (upd H2 t (.tup [.int (p : Int), .int (m : Nat)])) d = some (.frz od (.dK (wsK ws))) := by rw [upd_ne (ne_of_none hd2 ht)]; exact hd2
      have hq3 : (upd H2 t (.tup [.int (p : Int), .int (m : Nat)])) q = some (.dK (wsK fs)) := by rw [upd_ne (ne_of_none hq2 ht)]; exact hq2
      have hfl := flat_more (f := fun e : Nat × Nat => (List.replicate e.2 e.1).flatMap (stepP row ims)) hpm
      generalize upd H2 t (.tup [.int (p : Int), .int (m : Nat)]) = H3 at k3 htt hd3 hq3 ⊢
      refine ⟨t, _, rfl, .inl (.inl htt), rfl, _, _, rfl, _, _, rfl, rfl, ?_⟩
      refine ⟨_, rfl, a, C, dx, _, _, rfl, k3 _ _ nad ha, CH.cl, CH.nR, chF_rows _ _, r, rfl, ⟨_, k3.seqT hd hrr⟩, ?_⟩
      refine for_it (walk_tup (K := K) (a := r) (xs := txs ims)) (fun j σ H' => ∃ (s6 s7 : Option V) (gs : Ws), σ = [some (.ref a), some (.str (S row)), some (.ref d), some (.ref q), some (.int (p : Int)), some (.int (m : Nat)), s6, s7] ∧ KeepD d H H' ∧ H' d = some (.frz od (.dK (wsK ws))) ∧ H' q = some (.dK (wsK gs)) ∧
          RepW row.length gs (((ws.take i).flatMap fun e => (List.replicate e.2 e.1).flatMap (stepP row ims)) ++ (ims.take j).flatMap (imW row p m)))
        ⟨_, _, fs, rfl, k3, hd3, hq3, by rw [List.take_zero, List.flatMap_nil, List.append_nil]; exact hf2⟩ (fun _ _ _ _ ⟨_, _, _, _, kk, _⟩ => kk.seqT hd hrr) ?_ ?_
      · clear hf2 k3 htt hd3 hq3 k2 hd2 hq2 ht e1 e2
        rintro j x σ H4' H4 hj ⟨s6, s7, gs, rfl, k4, hd4, hq4, hg4⟩ ⟨rfl, e1⟩
        obtain ⟨im, him, rfl⟩ := txs_get e1
        have il := g.c1 him
        have bi : (S im).length ≤ sizeLine := by rw [S_len]; exact sz il (by decide)
        have hfl2 := flat_more (f := imW row p m) him
        refine ⟨_, rfl, rfl, _, rfl, _, rfl, _, _, _, rfl, rfl, _, rfl, ?_⟩
        rw [starts3 hple]
        by_cases hpre : (row.drop p).take im.length = im
        · refine iteB (decide_eq_true hpre) ?_
          have hpl : p + im.length ≤ row.length := by
            have hl := congrArg List.length hpre
            rw [List.length_take, List.length_drop] at hl
            omega
          have ke : V.int ((p : Int) + ((S im).length : Nat)) = kV (Sum.inl ((p + im.length : Nat) : Int)) := congrArg V.int (by rw [S_len]; omega)
          refine ⟨_, rfl, _, rfl, _, rfl, bi, _, _, rfl, rfl, ?_⟩
          refine ⟨_, rfl, q, rfl, .inl ⟨_, .inl hq4⟩, _, rfl, _, .inl ⟨_, _, .inl hq4, ke, rfl⟩, _, rfl, _, _, val_ws, rfl, ?_⟩
          have ev : V.int (((getW gs (p + im.length) : Nat) : Int) + ((m : Nat) : Int)) = V.int ((getW gs (p + im.length) + m : Nat) : Int) := congrArg V.int (by omega)
          have ep : upd H4 q (.dK (wsK (putW gs (p + im.length) (getW gs (p + im.length) + m)))) = upd H4 q (.dK (putK (wsK gs) (Sum.inl ((p + im.length : Nat) : Int)) (V.int (((getW gs (p + im.length) : Nat) : Int) + ((m : Nat) : Int))))) := by rw [ev, putK_ws hg4.nd]
          refine ⟨_, rfl, _, rfl, q, upd H4 q (.dK (wsK (putW gs (p + im.length) (getW gs (p + im.length) + m)))), rfl, .inl ⟨_, _, hq4, ke, by unfold wsK; rw [List.length_map]; exact small1000 (by have := hg4.small; omega), ep⟩, ?_⟩
          refine ⟨_, _, _, rfl, k4.put hq, by rw [upd_ne nqd.symm]; exact hd4, upd_same, ?_⟩
          rw [hfl2, ← List.append_assoc]
          have ei : imW row p m im = List.replicate m (p + im.length) := by unfold imW; rw [if_pos hpre]
          rw [ei]
          exact hg4.add hpl
        · refine iteN (decide_eq_false hpre) ?_
          refine ⟨_, _, gs, rfl, k4, hd4, hq4, ?_⟩
          have ei : imW row p m im = [] := by unfold imW; rw [if_neg hpre]
          rw [hfl2, ei, List.append_nil]
          exact hg4
      · rintro σ H4 ⟨s6, s7, gs, rfl, k4, hd4, hq4, hg4⟩
        rw [txs_len, take_all (Nat.le_refl _)] at hg4
        refine ⟨_, _, _, _, gs, rfl, k4, hd4, hq4, ?_⟩
        rw [hfl]
        exact hg4.perm (List.Perm.append_left _ (imW_perm row p m ims))
    · rintro σ H2 ⟨s4, s5, s6, s7, fs, rfl, k2, hd2, hq2, hf2⟩
      rw [wl, take_all (Nat.le_refl _), flat_step] at hf2
      refine ⟨hd2, ?_⟩
      refine ⟨_, rfl, k q fs _ (k2.back hd) hq (by rw [upd_ne nqd]; exact hq2) (hf2.perm (hW.pm.flatMap_right _))⟩
abbrev s_origins : Stmt := top 25
abbrev n_origins : List Str := ["change", "row", "most", "ways", "total", "_"]
theorem sc_origins : FnScope n_origins ["change", "row", "most"] (fnScope s_origins) := fnScope_by (by decide +kernel)
def spOrigins (K : PySem.W.Frag) (C : Addr) : Sp := fun vs H Q _ => ∃ (a : Addr) (sg : List Nat) (ims : List (List Nat)) (row : List Nat) (most : Nat), vs = [.ref a, .str (S row), .int (most : Nat)] ∧ Chg K C H a sg ims ∧ Gd sg ims ∧ row.length ≤ 100 ∧ most ≤ 100 ∧
  ∀ H', Same H H' → Q (.int (total row ims (most + 1) : Nat)) H'
theorem fn_origins {C : Addr} (T : BT mg) (CH : CC K C) (c_wbs : Cal P w K mg base 1 "_ways_behind_a_sign" (spWbs K C) []) {f : Addr} {fd : FuncData} (F : Def K mg "origins" s_origins f fd) : FnOk P w K mg base C8.CX0 2 f fd ["change", "row", "most"] (spOrigins K C) := by
  refine fn0 F.fn sc_origins (fun vs H Q E h => ?_) (fun cdv A outer s H vs Q E hr h => ?_)
  · obtain ⟨a, sg, ims, row, most, rfl, _⟩ := h; rfl
  · obtain ⟨a, sg, ims, row, most, rfl, hc, g, hrow, hmost, k⟩ := h
    have br : (S row).length ≤ sizeLine := by rw [S_len]; exact sz hrow (by decide)
    refine ⟨_, (pss_cons (ps_set (i := 3) sc_origins.nd rfl (.inl rfl) (pe_disp (pps_cons pe_int pe_int pps_nil) rfl rfl (by decide) (by decide)))
      (pss_cons (ps_set (i := 4) sc_origins.nd rfl (.inl rfl) pe_int)
      (pss_cons (ps_for PassesOwn.never rfl (pi_range1 (by rfl) T.m_range (pa_cons (pe_op op_add (pv 2) pe_int) pa_nil)) (pg_name (i := 5) sc_origins.nd rfl (.inl rfl)) 
        (pss_cons (ps_aug (i := 4) sc_origins.nd rfl (.inl rfl) (pe_dget2 (hu_of hr) (pv 3) (pe_callB call_len_str (by rfl) T.m_len PySem.boot_len (pa_cons (pv 1) pa_nil)) pe_int ⟨by rfl, by rfl, by rfl, by rfl⟩) ip_add)
        (pss_cons (ps_set (i := 3) sc_origins.nd rfl (.inl rfl) (pe_c c_wbs hr (by first | decide | omega) (by rfl) (pa_cons (pv 0) (pa_cons (pv 1) (pa_cons (pv 3) pa_nil)))))
        (pss_one (ps_if (pt_not (pt_truth (pv 3) (by intro _; rfl))) 
          (pss_one ps_break
          )
         pss_nil)
        ))))
      (pss_one (ps_ret (pv 4))
      )))), ?_⟩
    refine fun d hd => ⟨upd_same, [(Sum.inl (0 : Int), .int 1)], rfl, by show 1 ≤ 15; decide, ?_⟩
    have w1 : Same H (upd (upd H d (.dK [])) d (.dK (wsK [(0, 1)]))) := sm_put (sm_put (Same.refl H) hd) hd
    have hd1 : (upd (upd H d (.dK [])) d (.dK (wsK [(0, 1)]))) d = some (.dK (wsK [(0, 1)])) := upd_same
    have em : mergeK [] [((Sum.inl (0 : Int) : Key), V.int 1)] = wsK [(0, 1)] := rfl
    rw [em]
    generalize upd (upd H d (.dK [])) d (.dK (wsK [(0, 1)])) = H1 at w1 hd1 ⊢
    refine ⟨_, rfl, _, _, rfl, rfl, (most : Int) + 1, rfl, by omega, by omega, ?_⟩
    have rp0 : RepW row.length [(0, 1)] (posL row ims 0) := ⟨by simp, List.Perm.refl _, fun e he => by rw [List.mem_singleton.mp he]; exact Nat.zero_le _⟩
    have emn : ((most : Int) + 1).toNat = most + 1 := by omega
    refine for_it (walk_range (lo := 0)) (fun i σ H' => ∃ (d : Addr) (ws : Ws) (s5 : Option V), σ = [some (.ref a), some (.str (S row)), some (.int (most : Nat)), some (.ref d), some (.int (total row ims i : Nat)), s5] ∧ Same H H' ∧ H' d = some (.dK (wsK ws)) ∧ RepW row.length ws (posL row ims i) ∧ i ≤ most + 1)
      ⟨d, [(0, 1)], _, rfl, w1, hd1, rp0, Nat.zero_le _⟩ (fun _ _ _ _ _ => trivial) ?_ ?_
    · clear hd w1 hd1 rp0 em d
      rintro i x σ H2 H2' hi ⟨d, ws, s5, rfl, s2, hd2, hW, him⟩ ⟨rfl, rfl⟩
      have hi2 : i < most + 1 := by omega
      have ek : V.int ((S row).length : Nat) = kV (Sum.inl ((row.length : Nat) : Int)) := congrArg V.int (by rw [S_len])
      refine ⟨_, rfl, _, rfl, d, rfl, .inl ⟨_, .inl hd2⟩, _, rfl, _, rfl, br, _, .inl ⟨_, _, .inl hd2, ek, rfl⟩, ?_⟩
      refine ⟨_, _, rfl, val_ws, ?_⟩
      refine ⟨_, rfl, _, rfl, _, rfl, a, d, sg, ims, row, ws, posL row ims i, rfl, hc.same s2, g, hrow, hd2, hW, fun q fs H3 s3 hq hq3 hf => ?_⟩
      have et : V.int (((total row ims i : Nat) : Int) + ((getW ws row.length : Nat) : Int)) = V.int (total row ims (i + 1) : Nat) := congrArg V.int (by
        rw [getW_count hW.nd, hW.pm.count_eq]
        show _ = ((total row ims i + (posL row ims i).count row.length : Nat) : Int)
        omega)
      refine ⟨_, rfl, !(wsK fs).isEmpty, .inr (.inr ⟨_, hq3, rfl⟩), ?_⟩
      cases fs with
      | nil =>
        refine iteB rfl ?_
        have hnil : posL row ims (i + 1) = [] := List.Perm.eq_nil hf.pm.symm
        have := k H3 (s2.trans s3)
        rw [total_end hnil (most + 1) (by omega), ← et] at this
        exact ⟨_, rfl, this⟩
      | cons e fs =>
        refine iteN rfl ?_
        exact ⟨q, e :: fs, _, by rw [← et]; rfl, s2.trans s3, hq3, hf, by omega⟩
    · rintro σ H2 ⟨d, ws, s5, rfl, s2, hd2, hW, him⟩
      rw [emn]
      exact ⟨_, rfl, k H2 s2⟩
theorem ok_origins {C : Addr} (T : BT mg) (CH : CC K C) (c_wbs : Cal P w K mg base 1 "_ways_behind_a_sign" (spWbs K C) []) {f : Addr} {fd : FuncData} (F : Def K mg "origins" s_origins f fd) (b : Binds K fd ["change", "row", "most"] []) : Cal P w K mg base 2 "origins" (spOrigins K C) [] := ⟨⟨f, fd, _, [], fn_origins T CH c_wbs F, F.mgf, F.kp, b, .nil⟩⟩
end
end Toy
set_option maxHeartbeats 4000000
namespace LX
open PySem PySem.Spec PyProof.Rows L2 C8 SX
section
variable {X : Cx} {k j : Nat} {C : Addr} {sp : Sp}
theorem call_lenI (c : Met X.prog X.w X.K X.mg X.base k C "__len__" sp []) (hr : Room j X.A) (hk : k + 1 ≤ j) : CallR X (.builtin "len") (fun xs H Q => ∃ a dx fs, xs = [.ref a] ∧ H a = some (.ins C dx fs) ∧ sp [.ref a] H (fun v H' => ∃ n : Nat, v = .int (n : Nat) ∧ n ≤ 1000 ∧ Q (.int (n : Nat)) H') C8.E0) := by
  intro pins s σ H xs us Q I rel want
  obtain ⟨a, dx, fs, rfl, ha, hsp⟩ := want
  obtain ⟨u, rfl, ru⟩ := vals1 rel
  cases ru
  obtain ⟨mA, J, _⟩ := ins_get I.hok ha
  obtain ⟨od, J, _⟩ := J.look
  have r2 : Room k X.A.in1 := (hr.mono hk).in1
  obtain ⟨m, hF⟩ := I.fr
  obtain ⟨f, hs, hf, hw⟩ := met_run0 (A := X.A.in1) (Q := PySem.W.LenBack (EP X pins σ Q)) c r2 rfl I hsp (fun v z H' s' I' rz q => by
    obtain ⟨n, rfl, hn, q⟩ := q
    obtain ⟨t, rfl⟩ := rz
    exact ⟨⟨by omega, by omega⟩, .int (n : Nat), H', I'.tok _, ⟨_, rfl⟩, q⟩)
  exact PySem.W.len_K hF I.ok.mod.kin J hs hf hw
def SameR (xs ys : List V) : Prop := ∀ (i : Nat) u v, xs[i]? = some u → ys[i]? = some v → u = v ∧ ∃ c, u = .ref c
theorem same_items {A : Around} {s : Shared} {xs ys : List V} {us ws : List Value} (r1 : Vals xs us) (r2 : Vals ys ws) (h : SameR xs ys) (i : Nat) (h1 : i < us.toArray.size) (h2 : i < ws.toArray.size) : SeqAt.EqAt A s us.toArray[i] ws.toArray[i] true := by
  have g1 : us[i]? = some us.toArray[i] := by
    have h1' : i < us.length := by simpa using h1
    rw [List.getElem?_eq_getElem h1'] <;> simp
  have g2 : ws[i]? = some ws.toArray[i] := by
    have h2' : i < ws.length := by simpa using h2
    rw [List.getElem?_eq_getElem h2'] <;> simp
  have k1 : i < xs.length := by rw [r1.length]; simpa using h1
  have k2 : i < ys.length := by rw [r2.length]; simpa using h2
  obtain ⟨u, hu, ru⟩ := r1.get (List.getElem?_eq_getElem k1)
  obtain ⟨v, hv, rv⟩ := r2.get (List.getElem?_eq_getElem k2)
  rw [g1] at hu
  rw [g2] at hv
  rw [Option.some.inj hu, Option.some.inj hv]
  obtain ⟨e, c, ec⟩ := h i _ _ (List.getElem?_eq_getElem k1) (List.getElem?_eq_getElem k2)
  rw [← e] at rv
  rw [ec] at ru rv
  cases ru
  cases rv
  exact SeqAt.EqAt.same _
def rEqId (K : PySem.W.Frag) : R2 := fun x y H Q => ∃ a b xs ys, x = .ref a ∧ y = .ref b ∧ SqT K H a xs ∧ SqT K H b ys ∧ SameR xs ys ∧ Q (.bl (decide (xs.length = ys.length))) H
def rNeId (K : PySem.W.Frag) : R2 := fun x y H Q => ∃ a b xs ys, x = .ref a ∧ y = .ref b ∧ SqT K H a xs ∧ SqT K H b ys ∧ SameR xs ys ∧ Q (.bl (!decide (xs.length = ys.length))) H
theorem len_eq {xs ys : List V} {us ws : List Value} (r1 : Vals xs us) (r2 : Vals ys ws) : ((List.range (min us.toArray.size ws.toArray.size)).all (fun _ => true) && us.toArray.size == ws.toArray.size) = decide (xs.length = ys.length) := by
  rw [List.all_eq_true.mpr fun _ _ => rfl, Bool.true_and, List.size_toArray, List.size_toArray, ← r1.length, ← r2.length, Bool.eq_iff_iff, beq_iff_eq, decide_eq_true_eq]
theorem op_eqId (hu : X.A.units < cLine) : OpR X (compareOp .Eq) (rEqId X.K) := by
  intro pins s σ H x y v u Q I rx ry h
  obtain ⟨a, b, xs, ys, rfl, rfl, ha, hb, all, q⟩ := h
  cases rx
  cases ry
  obtain ⟨its, r, p, _⟩ := I.tuple ha
  obtain ⟨its2, r2, p2, _⟩ := I.tuple hb
  refine SeqAt.eq_tupleAt (e := fun _ => true) p p2 hu (fun i h1 h2 => same_items r r2 all i h1 h2) ⟨.bl _, H, I, ?_, q⟩
  rw [len_eq r r2]; rfl
theorem op_neId (hu : X.A.units < cLine) : OpR X (compareOp .NotEq) (rNeId X.K) := by
  intro pins s σ H x y v u Q I rx ry h
  obtain ⟨a, b, xs, ys, rfl, rfl, ha, hb, all, q⟩ := h
  cases rx
  cases ry
  obtain ⟨its, r, p, _⟩ := I.tuple ha
  obtain ⟨its2, r2, p2, _⟩ := I.tuple hb
  refine SeqAt.RcNeAt.tuples (e := fun _ => true) p p2 hu (fun i h1 h2 => same_items r r2 all i h1 h2) X.prog X.w X.xe _ ⟨.bl _, H, I, ?_, q⟩
  rw [len_eq r r2]; rfl
theorem op_eqIdK (K : PySem.W.Frag) (hr : Room j X.A) (h : X.K = K := by rfl) : OpR X (compareOp .Eq) (rEqId K) := by subst h; exact op_eqId hr.units0
theorem op_neIdK (K : PySem.W.Frag) (hr : Room j X.A) (h : X.K = K := by rfl) : OpR X (compareOp .NotEq) (rNeId K) := by subst h; exact op_neId hr.units0
def gSl (to : TE) (tl th : TO) : TG := fun v σ H Q => to σ H fun o H1 => tl σ H1 fun l H2 => th σ H2 fun u H3 => ∃ p b xs ys a c, o = .ref p ∧ v = .ref b ∧ l = some a ∧ u = some c ∧ p ≠ b ∧ H3 p = some (.lst xs) ∧ H3 b = some (.lst ys) ∧ 0 ≤ a ∧ a ≤ c ∧ c ≤ xs.length ∧ xs.length + ys.length ≤ sizeLine ∧
  Q σ (upd H3 p (.lst (xs.take a.toNat ++ ys ++ xs.drop c.toNat)))
theorem pg_slice {o : Expr} {lo hi : Option Expr} {p2 pos : Pos} {to : TE} {tl th : TO} (ho : PE X o to) (hl : PO X lo tl) (hu : PO X hi th)
    (ha : ∀ v, assign (.Subscript o (.Slice lo hi none p2) pos) X.env v = (do
      let ov ← holding [v] (eval o X.env)
      let iv ← holding [v, ov] (eval (.Slice lo hi none p2) X.env)
      standAt pos
      holding [v, ov, iv] (setItem ov iv v)
      release [iv, v, ov] []) := by intro _; rfl) : PG X (.Subscript o (.Slice lo hi none p2) pos) (gSl to tl th) := by
  refine ⟨fun pins s σ H v u Q I r h => ?_⟩
  rw [ha]
  refine wpAny_bind (wpAny_holding (thn (ho.run pins s σ H _ I h) fun ov s1 ⟨x, H1, I1, r1, q1⟩ => ?_))
  refine wpAny_bind (wpAny_holding (wpAny_Slice (thn (hl.run pins s1 σ H1 _ I1 q1) fun vl s2 ⟨l, H2, I2, pl, q2⟩ => thn (hu.run pins s2 σ H2 _ I2 q2) fun vu s3 ⟨c, H3, I3, pu, q3⟩ => ?_)))
  rw [evalPart_none]
  refine wpAny_pure ?_
  have I4 : Inv X pins σ H3 { s3 with heap := s3.heap.push { cls := .type "slice", data := .fields #[vl, vu, .none] } } := I3.kept (t' := s3.toks) fun b ob q => Heap.get?_push_of_some _ q
  obtain ⟨p, b, xs, ys, a, c, rfl, rfl, rfl, rfl, hne, hp, hb, h0, hac, hc, hz, q⟩ := q3
  cases r1
  cases r
  cases pl
  cases pu
  refine wpAny_bind (wpAny_standAt (wpAny_bind (wpAny_holding (set_slice I4 hp hb hne (Heap.IsSliceOf.new _ _ _ _) ⟨_, rfl⟩ ⟨_, rfl⟩ h0 hac hc hz fun s5 I5 => ?_))))
  exact wpAny_release ⟨σ, _, I5, q⟩
end
end LX
namespace LX
open PySem PySem.Spec PyProof.Rows L2 C8 SX
theorem ext_tup (l : Addr) (items : Array Value) (n : Nat) (b : Addr) (items2 : Array Value) (n2 : Nat) (dd : Option Addr) (sl : Array (Option Value)) (hs0 : ¬(!items.isEmpty && Builtin.List.listTooLong (items.size + items2.size)) = true) (hs1 : items.size ≤ sizeLine) (hs2 : items.size + items2.size ≤ sizeLine + 1) :
    Meets (Builtin.«list.extend» ⟨[.ref l, .ref b], []⟩) (fun _ R s => s.heap.get? l = some { cls := .type "list", data := .seq items n } ∧ s.heap.get? b = some { cls := .type "tuple", dict := dd, data := .seq items2 n2, slots := sl } ∧ R (.ok (.ret Value.none)) { s with heap := s.heap.update l (Obj.mapSeq fun x => x ++ items2) }) :=
  .of_wp fun prog w A R s h => by
    obtain ⟨hl, hb, h⟩ := h
    obtain ⟨hp, g, d, tk, os⟩ := s
    have f1 := PySem.AutoSeq1.sub_tuple_tuple
    have f2 := PySem.AutoSeq1.sub_list_list
    have f3 := PySem.AutoSeq1.sub_tuple_list
    have f4 := PySem.AutoSeq1.sub_list_tuple
    have hz' : (items ++ items2).size ≤ sizeLine + 1 := by rw [Array.size_append]; exact hs2
    wp_walk using (wpAny_updateSeq hl rfl (hz := hs1) (_hz' := hz')), PySem.AutoSeq1.wpAny_loadPart' hl, PySem.AutoSeq1.wpAny_loadPart' hb
    exact ⟨_, rfl, h⟩
section
variable {X : Cx}
def rExtendT : V → List V → Hp → VK → Prop := fun x vs H Q => ∃ l b xs zs, x = .ref l ∧ vs = [.ref b] ∧ H l = some (.lst xs) ∧ H b = some (.tup zs) ∧ xs.length + zs.length ≤ sizeLine ∧ Q .non (upd H l (.lst (xs ++ zs)))
theorem mt_extendT : MtM X "list.extend" rExtendT := by
  intro pins s σ H x vs v us Q I rx rv h
  obtain ⟨l, b, xs, zs, rfl, rfl, hH, hB, hz, q⟩ := h
  cases rx
  obtain ⟨u, rfl, ru⟩ := rv.one
  cases ru
  obtain ⟨z, its, n, r, hl, e⟩ := I.lstM hH
  obtain ⟨hl2, its2, r2, e2⟩ := (show ObjOk X.prog X.w H s.heap b (.tup zs) from I.hok b _ hB)
  have q2 := r2.length
  have q1 := r.length
  obtain ⟨⟨cls, dd, data, sl⟩, e2, hc, n2, hd⟩ := e2
  simp only at hc hd
  subst hc hd
  have hsz : its.toArray.size + its2.toArray.size ≤ sizeLine := by rw [List.size_toArray, List.size_toArray]; omega
  have hlong : ¬ (!its.toArray.isEmpty && Builtin.List.listTooLong (its.toArray.size + its2.toArray.size)) = true := by
    rw [notLongL hsz, Bool.and_false]
    exact Bool.false_ne_true
  refine call_meets F.slot_list_extend ⟨_, e, rfl⟩ F.entry_list_extend (F.args_list_extend_2 _ _)
    (ext_tup l its.toArray n b its2.toArray n2 dd sl hlong (by rw [List.size_toArray]; omega) (by omega)) ⟨e, e2, ?_⟩
  refine ⟨.non, _, I.lset (its' := its ++ its2) hH e (by simp) (r.append r2) ?_, rfl, q⟩
  rw [List.length_append]
  omega
end
end LX
set_option maxHeartbeats 4000000
namespace LX
open PySem PySem.Spec PyProof.Rows L2 C8 SX
structure MakXK (P : Program) (w : World) (K : PySem.W.Frag) (mg : Str → Option Value) (base : Heap) (k : Nat) (x : Str) (C : Addr) (ks : List Str) (gV : List V → List V → List V) (sp : Sp) : Prop where
  ex : ∃ (f : Addr) (fd : FuncData) (ps : List Str) (g : List Value → List Value → List Value), Mk K C f ∧ FnOk P w K mg base (L2.CX P w) k f fd ps sp ∧ mg x = some (.ref C) ∧ KBn K fd ps 1 ks g gV
def tMakeK (C : Addr) (m : Nat) (sp : Sp) (gV : List V → List V → List V) (E : L2.St → XK) (tk : TA) : TE := fun σ H Q => tk σ H fun zs H2 => zs.length = m ∧
  ∀ x dx, H2 x = none → H2 dx = none → dx ≠ x → sp (gV [.ref x] zs) (upd (upd H2 dx (.own x)) x (.ins C dx [])) (fun v H3 => v = .non ∧ Q (.ref x) H3) (E σ)
section
variable {X : Cx} {k j : Nat} {C : Addr} {sp : Sp} {x : Str} {ks : List Str} {p pos : Pos} {tk : TA} {kws : List Keyword} {W : WX} {gV : List V → List V → List V}
theorem pe_mkXk (c : MakXK X.prog X.w X.K X.mg X.base k x C ks gV sp) (tk' : Takes X W) (hr : Room j X.A) (hk : k + 1 ≤ j) (hg : Gl X x) (hkw : PK X kws tk) (hall : (backToKw pos (keywordEach kws X.env)).all (·.1.isSome) = true := by rfl) (hks : (backToKw pos (keywordEach kws X.env)).filterMap (·.1) = ks := by rfl)
    (hdb : (x == ("__debug__" : Str)) = false := by decide)
    (hpl : ((backTo pos (starEach [] X.env)).any (·.1) || (backToKw pos (keywordEach kws X.env)).any (·.1.isNone)) = false := by rfl) : PE X (.Call (.Name x p) [] kws pos) (tMakeK C ks.length sp gV (WE W) tk) := by
  obtain ⟨f, fd, ps, g, M, F, hm, kb⟩ := c.ex
  refine ⟨fun pins s σ H Q I h => ?_⟩
  refine wpAny_Call_Name_kw (ld_glob I hg hm ?_ hdb)
  refine PySem.W.callWith_KW0 (h₀ := X.base) I.ok.mod.kin M.kp hall (thn (hkw.run pos pins s σ H _ I h) fun ws s2 ⟨zs, H2, I2, rz, hz, q2⟩ => ⟨I2.kIn, ?_⟩) hpl
  rw [hks]
  have hq := q2 (s2.heap.objs.size + 1) s2.heap.objs.size (I2.hok.fresh (Nat.le_succ _)) (I2.hok.fresh (Nat.le_refl _)) (Nat.ne_of_lt (Nat.lt_succ_self _))
  have I3 := Inv.made (C := C) I2
  have r2 := kb.rel (vs := [V.ref (s2.heap.objs.size + 1)]) (us := [Value.ref (s2.heap.objs.size + 1)]) (.cons rfl .nil) rz
  have e2 : ws.length = ks.length := rz.length.symm.trans hz
  refine wpAny_call (make_map (f := f) I2.kIn M.makes M.init (beq_iff_eq.mp M.fn) (codeAny_mono (F.run _ X.stack _ _ ⟨[Value.ref (s2.heap.objs.size + 1)], ks.zip ws⟩ (g [Value.ref (s2.heap.objs.size + 1)] ws) _ _ (WE W σ) ((hr.mono hk).make C [] (ks.zip ws))
    (I3.env0.make C [] (ks.zip ws)) (kb.to _ [Value.ref (s2.heap.objs.size + 1)] ws I3.kIn rfl e2) r2 hq) fun r s' hq' => ?_))
  cases r with
  | error e => exact passAt tk' σ pins _ _ e s' I3 hq'
  | ok fl =>
    cases fl with
    | ret u =>
      obtain ⟨v, H', I4, rv, ev, q3⟩ := I3.after hq'
      subst ev
      exact ⟨rv, ⟨V.ref (s2.heap.objs.size + 1), H', I4, rfl, q3⟩⟩
    | next => exact False.elim hq'
    | brk => exact False.elim hq'
    | cont => exact False.elim hq'
end
end LX
set_option maxHeartbeats 4000000
namespace LX
open PySem PySem.Spec PyProof.Rows L2 C8 SX ClX
structure CalK (P : Program) (w : World) (K : PySem.W.Frag) (mg : Str → Option Value) (base : Heap) (k : Nat) (x : Str) (ks : List Str) (gV : List V → List V → List V) (sp : Sp) : Prop where
  ex : ∃ (f : Addr) (fd : FuncData) (ps : List Str) (g : List Value → List Value → List Value), FnOk P w K mg base C8.CX0 k f fd ps sp ∧ mg x = some (.ref f) ∧ PySem.W.keepIn K (.ref f) = true ∧ KBn K fd ps 0 ks g gV
def tCallK0 (n : Nat) (sp : Sp) (gV : List V → List V → List V) (tk : TA) : TE := fun σ H Q => tk σ H fun zs H2 => zs.length = n ∧ sp (gV [] zs) H2 Q C8.E0
structure MetK (P : Program) (w : World) (K : PySem.W.Frag) (mg : Str → Option Value) (base : Heap) (k : Nat) (C : Addr) (m : Str) (ks : List Str) (gV : List V → List V → List V) (sp : Sp) : Prop where
  ex : ∃ (f : Addr) (fd : FuncData) (ps : List Str) (g : List Value → List Value → List Value), Cls K C ∧ Meth K C m f ∧ FnOk P w K mg base C8.CX0 k f fd ps sp ∧ KBn K fd ps 1 ks g gV
def tMethK0 (C : Addr) (m : Str) (n : Nat) (sp : Sp) (gV : List V → List V → List V) (te tk : TA) (ta : TE) : TE := fun σ H Q => ta σ H fun x H1 => ∃ a dx fs, x = V.ref a ∧ H1 a = some (.ins C dx fs) ∧ fs.lookup m = none ∧ tk σ H1 fun zs H2 => zs.length = n ∧ sp (gV [.ref a] zs) H2 Q C8.E0
structure CMK (P : Program) (w : World) (K : PySem.W.Frag) (mg : Str → Option Value) (base : Heap) (k : Nat) (C : Addr) (m : Str) (ks : List Str) (gV : List V → List V → List V) (sp : Sp) : Prop where
  ex : ∃ (p g : Addr) (fd : FuncData) (ps : List Str) (mc : Value) (gg : List Value → List Value → List Value), CRead K C mc ∧ CMet K C mc m p g ∧ FnOk P w K mg base (L2.CX P w) k g fd ps sp ∧ KBn K fd ps 1 ks gg gV
def tCMK (C : Addr) (n : Nat) (sp : Sp) (gV : List V → List V → List V) (E : L2.St → XK) (ta : TE) (tk : TA) : TE := fun σ H Q => ta σ H fun x H1 => x = .ref C ∧ tk σ H1 fun zs H2 => zs.length = n ∧ sp (gV [.ref C] zs) H2 Q (E σ)
section
variable {X : Cx} {k j : Nat} {C : Addr} {sp : Sp} {x m : Str} {ks : List Str} {p pos apos : Pos} {tk : TA} {ta : TE} {kws : List Keyword} {W : WX} {gV : List V → List V → List V} {o : Expr} {pl : Sem Bool}
theorem pe_cK (c : CalK X.prog X.w X.K X.mg X.base k x ks gV sp) (hr : Room j X.A) (hk : k ≤ j) (hg : Gl X x) (hkw : PK X kws tk) (hall : (backToKw pos (keywordEach kws X.env)).all (·.1.isSome) = true := by rfl) (hks : (backToKw pos (keywordEach kws X.env)).filterMap (·.1) = ks := by rfl)
    (hdb : (x == ("__debug__" : Str)) = false := by decide)
    (hpl : ((backTo pos (starEach [] X.env)).any (·.1) || (backToKw pos (keywordEach kws X.env)).any (·.1.isNone)) = false := by rfl) : PE X (.Call (.Name x p) [] kws pos) (tCallK0 ks.length sp gV tk) := by
  obtain ⟨f, fd, ps, g, F, hm, kp, kb⟩ := c.ex
  refine ⟨fun pins s σ H Q I h => ?_⟩
  refine wpAny_Call_Name_kw (ld_glob I hg hm ?_ hdb)
  refine PySem.W.callWith_KW0 (h₀ := X.base) I.ok.mod.kin kp hall (thn (hkw.run pos pins s σ H _ I h) fun ws s2 ⟨zs, H2, I2, rz, hz, q2⟩ => ⟨I2.kIn, ?_⟩) hpl
  rw [hks]
  exact run_fnN F (hr.mono hk) kb C8.pass0 I2 .nil rz rfl hz q2
theorem pe_mtK (c : MetK X.prog X.w X.K X.mg X.base k C m ks gV sp) (hr : Room j X.A) (hk : k ≤ j) (he : PE X o ta) (hkw : PK X kws tk) (hall : (backToKw pos (keywordEach kws X.env)).all (·.1.isSome) = true := by rfl) (hks : (backToKw pos (keywordEach kws X.env)).filterMap (·.1) = ks := by rfl)
    (hpl : ((backTo pos (starEach [] X.env)).any (·.1) || (backToKw pos (keywordEach kws X.env)).any (·.1.isNone)) = false := by rfl)
    (ht : eval (.Call (.Attribute o m apos) [] kws pos) X.env = (do
      let ov ← eval o X.env
      standAt apos.atName
      let (f, first) ← holding [ov] (getMethod ov m pl)
      callWith pos f first (backTo pos (starEach [] X.env)) (backToKw pos (keywordEach kws X.env))) := by rfl) :
    PE X (.Call (.Attribute o m apos) [] kws pos) (tMethK0 C m ks.length sp gV tNil tk ta) := by
  obtain ⟨f, fd, ps, g, cl, me, F, kb⟩ := c.ex
  refine ⟨fun pins s σ H Q I h => ?_⟩
  refine PySem.W.methodCall_KW (pl := pl) (thn (he.run pins s σ H _ I h) fun u s1 ⟨x, H1, I1, rx, a, dx, fs, ex, ea, l, q⟩ => ?_) ht
  subst ex
  obtain rfl : u = Value.ref a := rx
  refine getmeth_ok I1 ea cl me l ?_
  refine PySem.W.callWith_KW0 (first := [.ref a]) (h₀ := X.base) I.ok.mod.kin me.kp hall (thn (hkw.run pos pins s1 σ H1 _ I1 q) fun ws s2 ⟨zs, H2, I2, rz, hz, q2⟩ => ⟨I2.kIn, ?_⟩) hpl
  rw [hks]
  exact run_fnN (us := [.ref a]) (vs := [.ref a]) F (hr.mono hk) kb C8.pass0 I2 (.cons rfl .nil) rz rfl hz q2
theorem pe_cmK (c : CMK X.prog X.w X.K X.mg X.base k C m ks gV sp) (tk' : Takes X W) (hr : Room j X.A) (hk : k ≤ j) (he : PE X o ta) (hkw : PK X kws tk) (hall : (backToKw pos (keywordEach kws X.env)).all (·.1.isSome) = true := by rfl) (hks : (backToKw pos (keywordEach kws X.env)).filterMap (·.1) = ks := by rfl)
    (hpl : ((backTo pos (starEach [] X.env)).any (·.1) || (backToKw pos (keywordEach kws X.env)).any (·.1.isNone)) = false := by rfl)
    (ht : eval (.Call (.Attribute o m apos) [] kws pos) X.env = (do
      let ov ← eval o X.env
      standAt apos.atName
      let (f, first) ← holding [ov] (getMethod ov m pl)
      callWith pos f first (backTo pos (starEach [] X.env)) (backToKw pos (keywordEach kws X.env))) := by rfl) :
    PE X (.Call (.Attribute o m apos) [] kws pos) (tCMK C ks.length sp gV (WE W) ta tk) := by
  obtain ⟨p, g, fd, ps, mc, gg, r, cm, F, kb⟩ := c.ex
  refine ⟨fun pins s σ H Q I h => ?_⟩
  refine PySem.W.methodCall_KW (pl := pl) (thn (he.run pins s σ H _ I h) fun u s1 ⟨x, H1, I1, rx, ex, q⟩ => ?_) ht
  subst ex
  obtain rfl : u = Value.ref C := rx
  refine getmethcm_ok I1 r cm fun s2 I2 => ?_
  refine PySem.W.callWith_of hpl (PySem.W.keeps_M cm.fi) (evalArgs_kw2_nil hall (thn (hkw.run pos _ s2 σ H1 _ I2 q) fun ws s3 ⟨zs, H2, I3, rz, hz, q2⟩ => ⟨⟨pin_at I3, I3.kIn⟩, ?_⟩))
  rw [hks]
  have r2 := kb.rel (vs := [V.ref C]) (us := [Value.ref C]) (.cons rfl .nil) rz
  have e2 : ws.length = ks.length := rz.length.symm.trans hz
  have z : wpAny (model X.prog X.w) X.A (call (.ref s1.heap.objs.size) ([] ++ []) (ks.zip ws)) (EP X ((s1.heap.objs.size, PySem.W.methodObj (.ref g) (.ref C)) :: pins) σ Q) X.xe s3 :=
    wpAny_call (PySem.W.method_call (pin_at I3) (codeAny_mono (F.run X.A X.stack s3 H2 ⟨[.ref C], ks.zip ws⟩ (gg [.ref C] ws) _ Q (WE W σ) (hr.mono hk) I3.env0 (kb.to _ [.ref C] ws I3.kIn rfl e2) r2 q2) fun r s' hq => by
      cases r with
      | error e => exact passAt tk' σ _ H2 s3 e s' I3 hq
      | ok fl =>
        cases fl with
        | ret u => exact I3.after hq
        | next => exact False.elim hq
        | brk => exact False.elim hq
        | cont => exact False.elim hq))
  exact thn z fun _ _ y => unpinE y
end
end LX
set_option maxHeartbeats 2000000
namespace Toy
open PySem L2 C8 SX LX K4
local macro_rules | `(tactic| walk_at "c") => `(tactic| refine And.intro (by first | (show (0 : Int) < _; omega) | exact Or.inr ⟨by decide, by decide⟩ | exact Or.inl ⟨by decide, by decide⟩ | (exact ⟨by omega, by omega⟩)) ?_)
local macro_rules | `(tactic| walk_at "s1") => `(tactic| first | refine ⟨_, rfl, ?_⟩ | refine ⟨_, _, rfl, rfl, ?_⟩ | refine .inl ⟨_, rfl, ?_⟩ | walk_at "c")
local macro_rules | `(tactic| walk_at "ix") => `(tactic| refine ⟨_, _, _, _, rfl, rfl, SqL.of (by first | assumption | exact upd_same), rfl, ?_⟩)
local macro_rules | `(tactic| walk_at "s") => `(tactic| repeat (walk_at "s1"))
theorem rev_rel {vs zs : List V} {us ws : List Value} (h1 : Vals vs us) (h2 : Vals zs ws) : Vals (vs ++ zs.reverse) (us ++ ws.reverse) := by
  have app : ∀ {a b : List V} {c d : List Value}, Vals a c → Vals b d → Vals (a ++ b) (c ++ d) := fun {a b c d} h g => by
    induction h with
    | nil => exact g
    | cons e _ ih => exact .cons e ih
  have rev : ∀ {a : List V} {c : List Value}, Vals a c → Vals a.reverse c.reverse := fun {a c} h => by
    induction h with
    | nil => exact .nil
    | cons e _ ih => rw [List.reverse_cons, List.reverse_cons]; exact app ih (.cons e .nil)
  exact app h1 (rev h2)
def revV (vs zs : List V) : List V := vs ++ zs.reverse
def revL (us ws : List Value) : List Value := us ++ ws.reverse
def rNeRs (K : PySem.W.Frag) : R2 := fun x y H Q => (x = .non ∧ y = .non ∧ Q (.bl false) H) ∨ rNeD K x y H Q
theorem op_neRs {X : Cx} {j : Nat} (K : PySem.W.Frag) (hr : Room j X.A) (h : X.K = K := by rfl) : OpR X (compareOp .NotEq) (rNeRs K) := by
  subst h
  intro pins s σ H x y v u Q I rx ry h
  rcases h with ⟨rfl, rfl, q⟩ | h
  · exact op_ne pins s σ H _ _ v u Q I rx ry ⟨rfl, by rw [decide_eq_true rfl]; exact q⟩
  · exact op_neDK X.K hr rfl pins s σ H x y v u Q I rx ry h
theorem menu_sg {sg : List Nat} (h : Menu sg) : Sg sg := by
  rcases menu_cases h with rfl | rfl | rfl | rfl <;> exact ⟨by decide, by decide, by decide, by decide⟩
theorem Gd.imz {sg : List Nat} {ims : List (List Nat)} (g : Gd sg ims) : Imz sg ims := ⟨g.im.1, fun l hl => ⟨(g.im.2 l hl).1, Nat.le_trans (g.im.2 l hl).2 (by decide)⟩⟩
section
variable {sg : List Nat} {ims : List (List Nat)}
theorem iot_mid {sg m : List Nat} : iotL sg (91 :: (m ++ [93])) = if (TL.spl [44] 0 [] m).length = sg.length ∧ ∀ r ∈ TL.spl [44] 0 [] m, Ov sg r then some (TL.spl [44] 0 [] m) else none := by
  have e : inner (91 :: (m ++ [93])) = m := by simp [inner]
  have hl : (91 :: (m ++ [93])).getLast? = some 93 := by rw [← List.cons_append, List.getLast?_append]; rfl
  unfold iotL
  rw [if_pos ⟨rfl, hl⟩, e]
theorem ims_ne (hsg : Sg sg) (hi : Imz sg ims) : ims ≠ [] := fun h => by have := hi.1; have := hsg.2.1; rw [h] at *; simp at *; omega
theorem no44 (hsg : Sg sg) {l : List Nat} (h : Ov sg l) {c : Nat} (hc : c < 97) : c ∉ l := fun hm => by have := (hsg.2.2.2 c (h c hm)).1; omega
theorem join_chars {c : Nat} (hc : c ≠ 44) : ∀ {ts : List (List Nat)}, (∀ t ∈ ts, c ∉ t) → c ∉ TL.joinL [44] ts
  | [], _ => by simp [TL.joinL]
  | [t], h => by simpa [TL.joinL] using h t (by simp)
  | t :: u :: r, h => by
    show c ∉ t ++ ([44] ++ TL.joinL [44] (u :: r))
    rw [List.mem_append, List.mem_append]
    rintro (h1 | h1 | h1)
    · exact h t List.mem_cons_self h1
    · exact hc (List.mem_singleton.mp h1)
    · exact join_chars hc (fun x hx => h x (List.mem_cons_of_mem _ hx)) h1
theorem txtL_eq (ims : List (List Nat)) : txtL ims = 91 :: (TL.joinL [44] ims ++ [93]) := rfl
theorem iot_txt (hsg : Sg sg) (hi : Imz sg ims) : iotL sg (txtL ims) = some ims := by
  rw [txtL_eq, iot_mid, TL.spl_join (ims_ne hsg hi) fun l hl => no44 hsg (hi.2 l hl).1 (by decide)]
  exact if_pos ⟨hi.1, fun l hl => (hi.2 l hl).1⟩
theorem txt_small {sg : List Nat} {ims : List (List Nat)} (hsg : Sg sg) (hi : Imz sg ims) : ∀ c ∈ txtL ims, c < 1114112 := fun c hc => by
  by_cases h : c < 1114112
  · exact h
  · exfalso
    rw [txtL_eq] at hc
    rcases List.mem_cons.mp hc with e | hc
    · omega
    rcases List.mem_append.mp hc with hc | hc
    · exact join_chars (c := c) (by omega) (fun t ht hm => by have := ov_small hsg (hi.2 t ht).1 c hm; omega) hc
    · have := List.mem_singleton.mp hc; omega
end
theorem okD_txt {sg : List Nat} {ims : List (List Nat)} (g : Gd sg ims) : okD (.str (S (txtL ims))) = true := by
  refine okD_S ?_ (txt_small (menu_sg g.mn) g.imz)
  have hj := joinL_len (sep := [44]) (m := 4) (ys := ims) fun l hl => (g.im.2 l hl).2
  have := (menu_sg g.mn).2.2.1
  rw [g.im.1] at hj
  simp only [List.length_cons, List.length_nil] at hj
  unfold txtL
  simp only [List.length_append, List.length_cons, List.length_nil]
  have : sg.length * (4 + (0 + 1)) ≤ 15 := by omega
  omega
theorem rest_len {sg : List Nat} {ims : List (List Nat)} (g : Gd sg ims) (hf : Full ims) {x : List Nat} (h : Rest sg ims x) : ∀ c ∈ x, c < 1114112 := fun c hc => by
  obtain ⟨im, him, p, _, rfl⟩ := rest_suf g.good.hl hf h
  exact ov_small (menu_sg g.mn) (g.im.2 _ him).1 c (List.mem_append_right _ hc)
theorem ov_sm {sg l : List Nat} (hm : Menu sg) (h : Ov sg l) : ∀ c ∈ l, c < 1114112 := ov_small (menu_sg hm) h
theorem ok_two {sg u v : List Nat} (hm : Menu sg) (hu : Ov sg u) (hv : Ov sg v) (lu : u.length ≤ 20) (lv : v.length ≤ 20) : okD (.tuple [.str (S u), .str (S v)]) = true :=
  okD_tup (by show 2 ≤ 20; decide) fun d hd => by
    rcases List.mem_cons.mp hd with rfl | hd
    · exact okD_S (by omega) (ov_sm hm hu)
    · rw [List.mem_singleton.mp hd]; exact okD_S (by omega) (ov_sm hm hv)
theorem dp_two {K : PySem.W.Frag} {H : Hp} {t : Addr} {u v : List Nat} (h : H t = some (.tup [.str (S u), .str (S v)])) : Dp K H (.ref t) (.tuple [.str (S u), .str (S v)]) :=
  .tup (SqT.of h) (.cons (.str _) (.cons (.str _) .nil))
theorem atP_uniq {sg : List Nat} {ims : List (List Nat)} {r : List Nat} {o o' : Option (List Nat)} (h : AtP sg ims r o) (g : AtP sg ims r o') : o = o' := by
  cases o with
  | none => cases o' with
    | none => rfl
    | some u => exact absurd g.im (h u g.ov)
  | some u => cases o' with
    | none => exact absurd h.im (g u h.ov)
    | some v => rw [h.uniq g]
theorem ne_opt {o : Option (List Nat)} {H : Hp} {R : VK} (h : R (.bl false) H) : rNe (optV o) (optV o) H R := ⟨by cases o <;> rfl, by rw [decide_eq_true rfl]; exact h⟩
theorem clash_use {K : PySem.W.Frag} {C q : Addr} {H : Hp} {Q : VK} {E : XK} {sg : List Nat} {ims : List (List Nat)} (hc : Chg K C H q sg ims) (g : Gd sg ims) (k : ∀ (v : V) (H' : Hp), Same H H' → (v = .non ↔ Clear sg ims) → Q v H') : spClash K C [.ref q] H Q E :=
  ⟨q, sg, ims, rfl, hc, g, fun cl H' s => k _ _ s ⟨fun _ => cl, fun _ => rfl⟩, fun ncl t u v H' s _ _ _ _ _ _ _ => k _ _ s ⟨(fun h => nomatch h), fun h => absurd h ncl⟩⟩
def RestV (H : Hp) (sg : List Nat) (ims : List (List Nat)) (v : V) : Prop := (v = .non ∧ ¬ Full ims) ∨ (Full ims ∧ ∃ (t : Addr) (xs : List (List Nat)), v = .ref t ∧ H t = some (.tup (txs xs)) ∧ xs.Pairwise (· < ·) ∧ ∀ x, x ∈ xs ↔ Rest sg ims x)
theorem RestV.same {H H' : Hp} {sg : List Nat} {ims : List (List Nat)} {v : V} (s : Same H H') (h : RestV H sg ims v) : RestV H' sg ims v :=
  h.imp id fun ⟨hf, t, xs, e, h, z⟩ => ⟨hf, t, xs, e, s _ _ h, z⟩
theorem rests_use {K : PySem.W.Frag} {C q : Addr} {H : Hp} {Q : VK} {E : XK} {sg : List Nat} {ims : List (List Nat)} (hc : Chg K C H q sg ims) (g : Gd sg ims) (k : ∀ (v : V) (H' : Hp), Same H H' → RestV H' sg ims v → Q v H') : spRests K C [.ref q] H Q E :=
  ⟨q, sg, ims, rfl, hc, g, fun nf H' s => k _ _ s (.inl ⟨rfl, nf⟩), fun hf t xs H' s ht hr _ hm => k _ _ s (.inr ⟨hf, t, xs, rfl, ht, hr, hm⟩)⟩
theorem rest_ne {K : PySem.W.Frag} {H : Hp} {R : VK} {sg : List Nat} {ims : List (List Nat)} {v v' : V} (g : Gd sg ims) (h : RestV H sg ims v) (h' : RestV H sg ims v') (k : R (.bl false) H) : rNeRs K v v' H R := by
  rcases h with ⟨rfl, nf⟩ | ⟨hf, t, xs, rfl, ht, hr, hm⟩
  · rcases h' with ⟨rfl, _⟩ | ⟨hf, _⟩
    · exact .inl ⟨rfl, rfl, k⟩
    · exact absurd hf nf
  · rcases h' with ⟨rfl, nf⟩ | ⟨_, t2, ys, rfl, ht2, hr2, hm2⟩
    · exact absurd hf nf
    · have e : xs = ys := rise_eq hr hr2 fun x => (hm x).trans (hm2 x).symm
      subst e
      have sm : Small xs := fun l hl => rest_len g hf ((hm l).mp hl)
      refine .inr ⟨_, _, .tup (SqT.of ht) (dp_strs xs), .tup (SqT.of ht2) (dp_strs xs), shaped_tup sm, shaped_tup sm, ?_⟩
      rw [show PyData.eqv (.tuple (xs.map fun l => .str (S l))) (.tuple (xs.map fun l => .str (S l))) = _ from eqv_strs xs xs, decide_eq_true rfl]
      exact k
section
variable {P : Program} {w : World} {K : PySem.W.Frag} {mg : Str → Option Value} {base : Heap}
theorem make_use {C CI p q dx : Addr} {H : Hp} {R : VK} {E : XK} {sg : List Nat} {ims : List (List Nat)} (g : Gd sg ims) (hp : H p = some (.lst (txs ims))) (hq : H q = none) (hdx : H dx = none) (nx : dx ≠ q) (k : ∀ (H' : Hp), Same H H' → Chg K C H' q sg ims → R .non H') :
    spInitA K C CI (.ref q :: [.str (S sg), .ref p]) (upd (upd H dx (.own q)) q (.ins C dx [])) R E := by
  have s1 : Same H (upd (upd H dx (.own q)) q (.ins C dx [])) := fun b o e => by rw [upd_ne (ne_of_none e hq), upd_ne (ne_of_none e hdx)]; exact e
  have hsg := menu_sg g.mn
  have hdue : dueD (.str (S sg)) (.list (ims.map fun l => .str (S l))) = none := due_ims true hsg g.imz
  refine ⟨q, dx, _, _, _, _, rfl, upd_same, .str (S sg), dp_same s1 _ _ (.lst (SqL.of hp) (dp_strs ims)), sg_small hsg, okD_ims true hsg g.imz, fun wd hw => (by rw [hdue] at hw; cases hw), fun sg' ims' _ ex1 _ ex2 _ H8 hk hch => ?_⟩
  have es : sg = sg' := by simpa [S] using ex1
  have ei := map_S_inj (Option.some.inj ex2)
  subst es ei
  exact k H8 (fun c o e => hk c o (ne_of_none e hq) (s1 _ _ e)) hch
abbrev s_names : Stmt := top 36
abbrev n_names : List Str := ["_law_zsigns", "_law_zimages", "_law_zrow", "_law_zmade", "_law_zgoal"]
theorem sc_names : FnScope n_names ["_law_zsigns", "_law_zimages", "_law_zrow"] (fnScope s_names) := fnScope_by (by decide +kernel)
def spNames (K : PySem.W.Frag) : Sp := fun vs H Q _ => ∃ (sg : List Nat) (p : Addr) (ims : List (List Nat)) (l : List Nat), vs = [.str (S sg), .ref p, .str (S l)] ∧ H p = some (.lst (txs ims)) ∧ Gd sg ims ∧ Ov sg l ∧ l.length ≤ 4 ∧ ∀ H', Same H H' → Q (.bl true) H'
theorem ok_names {C CI CT : Addr} (T : BT mg) (CH : CC K C) (nC : NeC K C) (mgC : mg "Change" = some (.ref C)) (c_Change : MakX P w K mg base 4 "Change" C (spInitA K C CI)) (ck_Change : MakXK P w K mg base 4 "Change" C ["rows", "signs"] revV (spInitA K C CI))
    (ck_of : MetK P w K mg base 1 C "of" ["row"] revV (spOf K C)) (ck_parse : CMK P w K mg base 6 C "parse" ["text", "signs"] revV (spParse K C CT)) (c_str : Met P w K mg base 1 C "__str__" (spStr K C) []) (c_eq : Met P w K mg base 1 C "__eq__" (spEqA K C) [])
    (ck_origin : CalK P w K mg base 3 "origin" ["row", "change"] revV (spOrigin K C)) (c_origin : Cal P w K mg base 3 "origin" (spOrigin K C) []) (ck_origins : CalK P w K mg base 2 "origins" ["most", "row", "change"] revV (spOrigins K C)) (c_origins : Cal P w K mg base 2 "origins" (spOrigins K C) [])
    (ck_clash : CalK P w K mg base 3 "clash" ["change"] revV (spClash K C)) (ck_clear : CalK P w K mg base 4 "is_clear" ["change"] revV (spClear K C)) (ck_rests : CalK P w K mg base 3 "rests" ["change"] revV (spRests K C)) (c_rests : Cal P w K mg base 3 "rests" (spRests K C) [])
    (ck_holds : CalK P w K mg base 3 "clash_holds" ["value", "change"] revV (spHolds K C))
    {f : Addr} {fd : FuncData} (F : Def K mg "_law_names_right" s_names f fd) (b : Binds K fd ["_law_zsigns", "_law_zimages", "_law_zrow"] []) : Cal P w K mg base 7 "_law_names_right" (spNames K) [] := by
  refine cal0 F b .nil sc_names (fun vs H Q E h => ?_) (fun cdv A outer s H vs Q E hr h => ?_)
  · obtain ⟨sg, p, ims, l, rfl, _⟩ := h; rfl
  · obtain ⟨sg, p, ims, l, rfl, hp, g, ho, hl, k⟩ := h
    have hsg := menu_sg g.mn
    have hi := g.imz
    refine ⟨_, (pss_cons (ps_set (i := 3) sc_names.nd rfl (.inl rfl) (pe_mkXk ck_Change takes_none5 hr (by decide) (by rfl) (pk_cons (pv 1) (pk_cons (pv 0) pk_nil))))
      (pss_cons (ps_set (i := 4) sc_names.nd rfl (.inl rfl) (pe_mtK ck_of hr (by decide) (pv 3) (pk_cons (pv 2) pk_nil)))
      (pss_cons (ps_if (PW.pt (pw_or (pt_cmpR (op_neI nC c_eq hr (by decide)) (pv 3) (pe_mkX c_Change takes_none5 hr (by decide) (by rfl) (pa_cons (pv 0) (pa_cons (pv 1) pa_nil))) (nomark _)) (pw_or1 (pt_cmpR (op_neI nC c_eq hr (by decide)) (pe_cmK ck_parse takes_none5 hr (by decide) (pe_glob (v := .ref C) (by rfl) mgC rfl) (pk_cons (pe_callTy (call_strI c_str hr (by decide)) (by rfl) T.m_str PyProof.Rows.boot_str (pa_cons (pv 3) pa_nil)) (pk_cons (pv 0) pk_nil))) (pv 3) (nomark _))))) 
        (pss_one (ps_ret pe_bl)
        )
       pss_nil)
      (pss_cons (ps_if (pt_cmpR op_ne (pe_cK ck_origin hr (by first | decide | omega) (by rfl) (pk_cons (pv 4) (pk_cons (pv 3) pk_nil))) (pe_c c_origin hr (by first | decide | omega) (by rfl) (pa_cons (pv 3) (pa_cons (pv 4) pa_nil))) (nomark _)) 
        (pss_one (ps_ret pe_bl)
        )
       pss_nil)
      (pss_cons (ps_if (pt_cmpR op_ne (pe_cK ck_origins hr (by first | decide | omega) (by rfl) (pk_cons pe_int (pk_cons (pv 4) (pk_cons (pv 3) pk_nil)))) (pe_c c_origins hr (by first | decide | omega) (by rfl) (pa_cons (pv 3) (pa_cons (pv 4) (pa_cons pe_int pa_nil)))) (nomark _)) 
        (pss_one (ps_ret pe_bl)
        )
       pss_nil)
      (pss_cons (ps_if (PW.pt (pw_or (pt_cmpR op_ne (pe_cmpR op_isN (pe_cK ck_clash hr (by first | decide | omega) (by rfl) (pk_cons (pv 3) pk_nil)) pe_non (nomark _)) (pe_cK ck_clear hr (by first | decide | omega) (by rfl) (pk_cons (pv 3) pk_nil)) (nomark _)) (pw_or1 (pt_cmpR (op_neRs K hr) (pe_cK ck_rests hr (by first | decide | omega) (by rfl) (pk_cons (pv 3) pk_nil)) (pe_c c_rests hr (by first | decide | omega) (by rfl) (pa_cons (pv 3) pa_nil)) (nomark _))))) 
        (pss_one (ps_ret pe_bl)
        )
       pss_nil)
      (pss_one (ps_ret (pe_cmpR LX.op_isBl (pe_cK ck_holds hr (by first | decide | omega) (by rfl) (pk_cons (pe_tup (pa_cons (pv 2) (pa_cons (pv 2) pa_nil))) (pk_cons (pv 3) pk_nil))) pe_bl (nomark _)))
      ))))))), ?_⟩
    refine ⟨_, rfl, _, rfl, rfl, fun q dx hq hdx nx => ?_⟩
    refine make_use g hp hq hdx nx fun H1 w1 hc1 => ⟨rfl, ?_⟩
    have hp1 := w1 _ _ hp
    clear hp hq hdx nx dx
    obtain ⟨dx1, r1, hq1, hr1⟩ := id hc1
    refine ⟨_, rfl, q, dx1, _, rfl, hq1, chF_no _ _ (by decide +kernel) (by decide +kernel), _, rfl, rfl, q, sg, ims, l, rfl, hc1, g, ho, by omega, fun H2 w2 => ?_⟩
    have hc2 := hc1.same w2
    have hp2 := w2 _ _ hp1
    have W2 := w1.trans w2
    have hgl : (app sg ims l).length ≤ 16 := by
      refine Nat.le_trans (flat_len (c := 4) fun c hc => ?_) (by omega)
      exact (g.im.2 _ (img_mem g.im.1 (ho c hc))).2
    generalize hgoal : app sg ims l = goal at hgl ⊢
    clear w1 w2 hc1 hp1 hq1 hr1 dx1 r1
    refine ⟨_, rfl, _, rfl, _, rfl, fun q2 dx hq hdx nx => ?_⟩
    refine make_use g hp2 hq hdx nx fun H3 w3 hc3 => ⟨rfl, ?_⟩
    have hc3b := hc2.same w3
    have W3 := W2.trans w3
    obtain ⟨dx3, r3, hq3, _⟩ := id hc3b
    obtain ⟨dx4, r4, hq4, _⟩ := id hc3
    clear hq hdx nx dx
    refine ⟨q, q2, dx3, dx4, _, _, rfl, rfl, hq3, hq4, ⟨q, .ref q2, sg, ims, rfl, hc3b, hsg, hi, .inl ⟨q2, sg, ims, rfl, hc3, hsg, hi, ⟨_, rfl, ?_⟩⟩⟩⟩
    refine ⟨_, rfl, iteN (by simp) ?_⟩
    clear hc3 hq4 hc2 hp2 W2 w3
    refine ⟨rfl, _, rfl, q, dx3, _, rfl, hq3, ⟨q, sg, ims, rfl, hc3b, hsg, hi, fun H4 w4 => ⟨_, rfl, ?_⟩⟩⟩
    refine ⟨_, rfl, rfl, .str (S (txtL ims)), .str (S (txtL ims)), sg, rfl, hsg, .str _, okD_txt g, fun e => ?_, fun ims' e z H5 w5 hz hcz => ?_⟩
    · rw [txt_S] at e
      rw [show iotO sg (some (txtL ims)) = iotL sg (txtL ims) from rfl, iot_txt hsg hi] at e
      cases e
    have ei : ims' = ims := by
      rw [txt_S] at e
      rw [show iotO sg (some (txtL ims)) = iotL sg (txtL ims) from rfl, iot_txt hsg hi] at e
      exact (Option.some.inj e).symm
    subst ei
    have hc5 := hc3b.same (w4.trans w5)
    have W5 := W3.trans (w4.trans w5)
    obtain ⟨dxz, rz, hqz, _⟩ := id hcz
    obtain ⟨dx5, r5, hq5, _⟩ := id hc5
    refine ⟨_, rfl, z, q, _, _, _, _, rfl, rfl, hqz, hq5, ⟨z, .ref q, sg, ims', rfl, hcz, hsg, hi, .inl ⟨q, sg, ims', rfl, hc5, hsg, hi, ⟨_, rfl, ?_⟩⟩⟩⟩
    refine ⟨_, rfl, iteN (by simp) ?_⟩
    refine nxt ?_
    dsimp only
    clear hq3 hc3b hcz hqz hz w4 w5 W3 hq5
    refine ⟨_, rfl, _, rfl, rfl, q, sg, ims', goal, rfl, hc5, g, by omega, fun o H6 w6 at6 => ?_⟩
    refine ⟨_, rfl, _, rfl, q, sg, ims', goal, rfl, hc5.same w6, g, by omega, fun o2 H7 w7 at7 => ?_⟩
    obtain rfl := atP_uniq at6 at7
    refine ne_opt ⟨_, rfl, iteN (by simp) ?_⟩
    have hc7 := hc5.same (w6.trans w7)
    have W7 := W5.trans (w6.trans w7)
    clear hc5 w6 w7 W5 at6 at7
    refine nxt ?_
    dsimp only
    refine ⟨_, rfl, _, rfl, rfl, q, sg, ims', goal, 4, rfl, hc7, g, by omega, by decide, fun H8 w8 => ?_⟩
    refine ⟨_, rfl, _, rfl, q, sg, ims', goal, 4, rfl, hc7.same w8, g, by omega, by decide, fun H9 w9 => ?_⟩
    refine ⟨rfl, _, rfl, iteN (by simp) ?_⟩
    have hc9 := hc7.same (w8.trans w9)
    have W9 := W7.trans (w8.trans w9)
    clear hc7 w8 w9 W7
    refine nxt ?_
    dsimp only
    refine ⟨_, rfl, rfl, clash_use hc9 g fun v H10 w10 hv => ?_⟩
    refine ⟨rfl, _, rfl, rfl, q, sg, ims', rfl, hc9.same w10, g, fun b2 H11 w11 hb => ?_⟩
    have eb : decide (v = .non) = b2 := by
      rw [Bool.eq_iff_iff, decide_eq_true_iff]; exact hv.trans hb.symm
    rw [eb]
    refine ⟨rfl, _, rfl, iteN (by simp) ?_⟩
    have hc11 := hc9.same (w10.trans w11)
    have W11 := W9.trans (w10.trans w11)
    clear hc9 w10 w11 W9
    refine ⟨_, rfl, rfl, rests_use hc11 g fun v H12 w12 h12 => ?_⟩
    refine ⟨_, rfl, ?_⟩
    unfold tNil
    dsimp only
    refine rests_use (hc11.same w12) g fun v2 H13 w13 h13 => ?_
    refine rest_ne g (h12.same w13) h13 ⟨_, rfl, iteN (by simp) ?_⟩
    have hc13 := hc11.same (w12.trans w13)
    have W13 := W11.trans (w12.trans w13)
    refine nxt ?_
    dsimp only
    refine ⟨_, rfl, _, rfl, by show 2 ≤ sizeLine; decide, fun t ht => ?_⟩
    refine ⟨_, rfl, rfl, q, .ref t, .tuple [.str (S l), .str (S l)], sg, ims', rfl, hc13.same (sm_new ht), g, dp_two upd_same, ok_two g.mn ho ho (by omega) (by omega), fun H15 w15 => ?_⟩
    refine ⟨_, _, rfl, rfl, ?_⟩
    rw [holds_two ho ho, show decide (l ≠ l) = false from decide_eq_false (fun h => h rfl)]
    exact k H15 (W13.trans ((sm_new ht).trans w15))
end
end Toy
set_option maxHeartbeats 2000000
namespace Toy
open PySem L2 C8 SX LX K4
local macro_rules | `(tactic| walk_at "c") => `(tactic| refine And.intro (by first | (show (0 : Int) < _; omega) | exact Or.inr ⟨by decide, by decide⟩ | exact Or.inl ⟨by decide, by decide⟩ | (exact ⟨by omega, by omega⟩)) ?_)
local macro_rules | `(tactic| walk_at "s1") => `(tactic| first | refine ⟨_, rfl, ?_⟩ | refine ⟨_, _, rfl, rfl, ?_⟩ | refine .inl ⟨_, rfl, ?_⟩ | walk_at "c")
local macro_rules | `(tactic| walk_at "ix") => `(tactic| refine ⟨_, _, _, _, rfl, rfl, SqL.of (by first | assumption | exact upd_same), rfl, ?_⟩)
local macro_rules | `(tactic| walk_at "s") => `(tactic| repeat (walk_at "s1"))
theorem sorted_menu {sg : List Nat} (h : Menu sg) : sg.Pairwise (· < ·) := by
  rcases menu_cases h with rfl | rfl | rfl | rfl <;> decide
theorem nodup_one {α : Type} : ∀ {l : List α} {a : α}, l.Nodup → a ∈ l → (∀ x ∈ l, x = a) → l = [a]
  | [], _, _, h, _ => nomatch h
  | [x], a, _, _, h => by rw [h x (by simp)]
  | x :: y :: l, a, nd, _, h => by
    have e1 := h x (by simp)
    have e2 := h y (by simp)
    rw [List.nodup_cons] at nd
    exact absurd (by rw [e1, e2]; exact List.mem_cons_self) nd.1
theorem clear_one {sg : List Nat} {ims : List (List Nat)} (g : Gd sg ims) (hc : Clear sg ims) {r : List Nat} (ho : Ov sg r) (hl : r.length ≤ 12) : total (app sg ims r) ims 13 = 1 := by
  rw [← total_eq g.good (m := 12) 12 (Nat.le_refl _)]
  have e : allOf sg ims 12 (app sg ims r) = [r] := by
    refine nodup_one ((upt_nodup (menu_nodup g.mn) 12).filter _) (mem_allOf.mpr ⟨upt_all hl ho, rfl⟩) fun x hx => ?_
    obtain ⟨h1, h2⟩ := mem_allOf.mp hx
    exact clear_inj g.good.hl hc.1 hc.2 (upt_mem h1).2 ho h2
  rw [e]
  simp [hl]
theorem Ims.mono {sg : List Nat} {ims : List (List Nat)} {m n : Nat} (h : Ims sg ims m) (hmn : m ≤ n) : Ims sg ims n := ⟨h.1, fun l hl => ⟨(h.2 l hl).1, Nat.le_trans (h.2 l hl).2 hmn⟩⟩
theorem Chg.bx {K : PySem.W.Frag} {C a b : Addr} {H H' : Hp} {sg : List Nat} {ims : List (List Nat)} (hb : BoxAt b H) (s : Bx b H H') (h : Chg K C H a sg ims) : Chg K C H' a sg ims := by
  obtain ⟨dx, r, h1, h2⟩ := h
  obtain ⟨o, eo, x, y, z, rfl⟩ := hb
  refine ⟨dx, r, s.1 _ _ (fun e => by rw [e, eo] at h1; cases h1) h1, ?_⟩
  rcases h2 with (h2 | ⟨o', h2⟩) | h2
  · exact .inl (.inl (s.1 _ _ (fun e => by rw [e, eo] at h2; cases h2) h2))
  · exact .inl (.inr ⟨o', s.1 _ _ (fun e => by rw [e, eo] at h2; cases h2) h2⟩)
  · exact .inr h2
theorem and3 {c : Bool} {A B : Prop} (hA : c = true → A) (hB : B) : if c = true then A else B := by
  cases c with
  | true => exact hA rfl
  | false => exact hB
theorem menu_ends {sg : List Nat} (h : Menu sg) : ∃ c0 c1, atI sg 0 = some c0 ∧ atI sg (-1) = some c1 := by
  rcases menu_cases h with rfl | rfl | rfl | rfl <;> exact ⟨_, _, rfl, rfl⟩
theorem upt_len5 {sg : List Nat} (h3 : sg.length ≤ 3) {n : Nat} (h : n ≤ 5) : (upt sg n).length ≤ 364 := by
  by_cases h4 : n ≤ 4
  · exact Nat.le_trans (upt_len h3 h4) (by decide)
  · obtain rfl : n = 5 := by omega
    have a := upt_len h3 (n := 4) (Nat.le_refl 4)
    have b := lvl_len h3 5
    show (upt sg 4 ++ lvl sg 5).length ≤ 364
    rw [List.length_append]
    have : 3 ^ 5 = 243 := by decide
    omega
theorem ite_v {c : Bool} {x y v : V} {σ : L2.St} {H : Hp} {Q : VK} (h : v = if c = true then x else y) (k : Q v H) : if c = true then tC x σ H Q else tC y σ H Q := by
  subst h
  cases c <;> exact k
theorem at_text {l : List Nat} {i : Int} {c : Nat} (h : atI l i = some c) : atI (S l).cps.toList i = some c := by
  have e : (S l).cps.toList = l := by simp [S]
  rw [e]; exact h
section
variable {P : Program} {w : World} {K : PySem.W.Frag} {mg : Str → Option Value} {base : Heap}
abbrev s_law : Stmt := top 37
abbrev n_law : List Str := ["_law_script", "_law_k", "_law_box", "_law_turn", "_law_signs_here", "_law_images_here", "_law_made", "_law_some", "_law_row_here", "_law_whole", "_law_near", "_law_goal", "_law_all_of", "_law_told", "_law_most", "_law_one"]
theorem sc_law : FnScope n_law ["_law_script"] (fnScope s_law) := fnScope_by (by decide +kernel)
def spLaw (K : PySem.W.Frag) : Sp := fun vs H Q _ => ∃ (a : Addr) (ns : List Int), vs = [.ref a] ∧ SqL K H a (ns.map V.int) ∧ ns.length ≤ 63 ∧ ∀ H', Q (.bl true) H'
theorem ok_law {C CI : Addr} (T : BT mg) (CH : CC K C)
  (c_seed : Cal P w K mg base 1 "_law_seed" (spSeed K) []) (c_one_of : Cal P w K mg base 2 "_law_one_of" (spOne K) []) (c_signs : Cal P w K mg base 3 "_law_signs" spSigns []) (c_row : Cal P w K mg base 3 "_law_row" spRow []) (c_images : Cal P w K mg base 4 "_law_images" spImages []) (c_Change : MakX P w K mg base 4 "Change" C (spInitA K C CI))
  (c_rows : Cal P w K mg base 1 "_law_rows" spRows []) (c_names : Cal P w K mg base 7 "_law_names_right" (spNames K) []) (c_image : Cal P w K mg base 1 "_law_image" (spImage K) []) (c_origin : Cal P w K mg base 3 "origin" (spOrigin K C) []) (c_origins : Cal P w K mg base 2 "origins" (spOrigins K C) [])
  (c_clear : Cal P w K mg base 4 "is_clear" (spClear K C) [])
  {f : Addr} {fd : FuncData} (F : Def K mg "law" s_law f fd) : FnOk P w K mg base C8.CX0 8 f fd ["_law_script"] (spLaw K) := by
  refine fn0 F.fn sc_law (fun vs H Q E h => ?_) (fun cdv A outer s H vs Q E hr h => ?_)
  · obtain ⟨a, ns, rfl, _⟩ := h; rfl
  · obtain ⟨a, ns, rfl, ha, hl, kk⟩ := h
    refine ⟨_, (pss_cons (ps_for PassesOwn.never rfl (pi_range1 (by rfl) T.m_range (pa_cons (pe_callB (call_max2 rfl) (by rfl) T.m_max PyProof.Rows.boot_max (pa_cons pe_int (pa_cons (pe_callB (call_min2 rfl) (by rfl) T.m_min PyProof.Rows.boot_min (pa_cons pe_int (pa_cons (pe_callB (lenK K) (by rfl) T.m_len PySem.boot_len (pa_cons (pv 0) pa_nil)) pa_nil))) pa_nil))) pa_nil)) (pg_name (i := 1) sc_law.nd rfl (.inl rfl)) 
        (pss_cons (ps_set (i := 2) sc_law.nd rfl (.inl rfl) (pe_c c_seed hr (by first | decide | omega) (by rfl) (pa_cons (pv 0) (pa_cons (pv 1) pa_nil))))
        (pss_one (ps_for PassesOwn.never rfl (pi_range1 (by rfl) T.m_range (pa_cons pe_int pa_nil)) (pg_name (i := 3) sc_law.nd rfl (.inl rfl)) 
          (pss_cons (ps_set (i := 4) sc_law.nd rfl (.inr rfl) (pe_c c_signs hr (by first | decide | omega) (by rfl) (pa_cons (pv 2) pa_nil)))
          (pss_cons (ps_set (i := 5) sc_law.nd rfl (.inr rfl) (pe_c c_images hr (by first | decide | omega) (by rfl) (pa_cons (pv 2) (pa_cons (pv 4) (pa_cons pe_int pa_nil)))))
          (pss_cons (ps_par (i := 6) (j := 7) rfl sc_law.nd rfl rfl (by decide) rfl rfl (pa_cons (pe_mkX c_Change takes_none5 hr (by decide) (by rfl) (pa_cons (pv 4) (pa_cons (pv 5) pa_nil))) (pa_cons (pe_c c_rows hr (by first | decide | omega) (by rfl) (pa_cons (pv 4) (pa_cons (pe_ifExp (pt_cmpR op_lt (pe_callB call_len_str (by rfl) T.m_len PySem.boot_len (pa_cons (pv 4) pa_nil)) pe_int (nomark _)) pe_int pe_int) pa_nil))) pa_nil)) rfl)
          (pss_cons (ps_set (i := 8) sc_law.nd rfl (.inl rfl) (pe_c c_row hr (by first | decide | omega) (by rfl) (pa_cons (pv 2) (pa_cons (pv 4) (pa_cons pe_int pa_nil)))))
          (pss_cons (ps_if (pt_not (pt_val (pe_c c_names hr (by first | decide | omega) (by rfl) (pa_cons (pv 4) (pa_cons (pv 5) (pa_cons (pv 8) pa_nil)))))) 
            (pss_one (ps_ret pe_bl)
            )
           pss_nil)
          (pss_cons (ps_set (i := 9) sc_law.nd rfl (.inl rfl) (pe_c c_image hr (by first | decide | omega) (by rfl) (pa_cons (pv 4) (pa_cons (pv 5) (pa_cons (pv 8) pa_nil)))))
          (pss_cons (ps_set (i := 10) sc_law.nd rfl (.inl rfl) (pe_op op_add_str (pv 9) (pe_c c_one_of hr (by first | decide | omega) (by rfl) (pa_cons (pv 2) (pa_cons (pe_lst (pa_cons pe_str (pa_cons (pe_ix ix_str (pv 4) pe_int (fun _ _ => rfl)) (pa_cons (pe_ix ix_str (pv 4) (pe_un un_neg pe_int) (fun _ _ => rfl)) pa_nil)))) pa_nil)))))
          (pss_cons (ps_for PassesOwn.never rfl (pi_tup (pe_tup (pa_cons (pv 9) (pa_cons (pv 10) (pa_cons (pe_c c_row hr (by first | decide | omega) (by rfl) (pa_cons (pv 2) (pa_cons (pv 4) (pa_cons pe_int pa_nil)))) pa_nil))))) (pg_name (i := 11) sc_law.nd rfl (.inr rfl)) 
            (pss_cons (ps_setLc (i := 12) (own := [("_law_one", 15)]) rfl sc_law.nd rfl rfl rfl (pi_list (pv 7)) (blkOk_by (N := n_law) (sc := fnScope s_law) (by decide +kernel)) (fun _ _ _ _ _ => (pg_name (i := 15) sc_law.nd rfl (.inl rfl))) (fun _ _ _ _ _ => pts_one (pt_cmpR op_eq (pe_c c_image hr (by first | decide | omega) (by rfl) (pa_cons (pv 4) (pa_cons (pv 5) (pa_cons (pv 15) pa_nil)))) (pv 11) (nomark _))) (fun _ _ _ _ _ => (pv 15)))
            (pss_cons (ps_set (i := 13) sc_law.nd rfl (.inl rfl) (pe_c c_origin hr (by first | decide | omega) (by rfl) (pa_cons (pv 6) (pa_cons (pv 11) pa_nil))))
            (C8.pss_cut (ps_if (PW.pt (pw_and (pt_cmpR (op_neDK K hr) (pv 12) (pe_lst pa_nil) (nomark _)) (pw_and1 (pt_cmpR op_ne (pv 13) (pe_ix (ixl K) (pv 12) pe_int (fun _ _ => rfl)) (nomark _))))) 
              (pss_one (ps_ret pe_bl)
              )
             pss_nil)
            (C8.pss_cut (ps_if (PW.pt (pw_and (pt_cmpR op_notN (pv 13) pe_non (nomark _)) (pw_and1 (pt_cmpR op_ne (pe_c c_image hr (by first | decide | omega) (by rfl) (pa_cons (pv 4) (pa_cons (pv 5) (pa_cons (pv 13) pa_nil)))) (pv 11) (nomark _))))) 
              (pss_one (ps_ret pe_bl)
              )
             pss_nil)
            (C8.pss_cut (ps_if (PW.pt (pw_and (pt_cmpR (op_eqDK K hr) (pv 12) (pe_lst pa_nil) (nomark _)) (pw_and (pt_cmpR op_notN (pv 13) pe_non (nomark _)) (pw_and1 (pt_cmpR op_lt (pe_callB call_len_str (by rfl) T.m_len PySem.boot_len (pa_cons (pv 13) pa_nil)) pe_int (nomark _)))))) 
              (pss_one (ps_ret pe_bl)
              )
             pss_nil)
            (pss_one (ps_for PassesOwn.never rfl (pi_tup (pe_tup (pa_cons pe_int (pa_cons pe_int (pa_cons pe_int pa_nil))))) (pg_name (i := 14) sc_law.nd rfl (.inr rfl)) 
              (pss_one (ps_if (pt_cmpR op_ne (pe_c c_origins hr (by first | decide | omega) (by rfl) (pa_cons (pv 6) (pa_cons (pv 11) (pa_cons (pv 14) pa_nil)))) (pe_callB (lenK K) (by rfl) T.m_len PySem.boot_len (pa_cons (pe_lc (own := [("_law_one", 15)]) rfl sc_law.nd (pi_list (pv 12)) (blkOk_by (N := n_law) (sc := fnScope s_law) (by decide +kernel)) (fun _ _ _ _ _ => (pg_name (i := 15) sc_law.nd rfl (.inl rfl))) (fun _ _ _ _ _ => pts_one (pt_cmpR op_le (pe_callB call_len_str (by rfl) T.m_len PySem.boot_len (pa_cons (pv 15) pa_nil)) (pv 14) (nomark _))) (fun _ _ _ _ _ => (pv 15))) pa_nil)) (nomark _)) 
                (pss_one (ps_ret pe_bl)
                )
               pss_nil)
              ))
            )))))))
          (C8.pss_cut (ps_if (PW.pt (pw_or (PW.pt (pw_and (pt_val (pe_c c_clear hr (by first | decide | omega) (by rfl) (pa_cons (pv 6) pa_nil))) (pw_and1 (pt_cmpR op_ne (pe_c c_origin hr (by first | decide | omega) (by rfl) (pa_cons (pv 6) (pa_cons (pv 9) pa_nil))) (pv 8) (nomark _))))) (pw_or1 (pt_cmpR op_ne (pe_c c_origin hr (by first | decide | omega) (by rfl) (pa_cons (pv 6) (pa_cons pe_str pa_nil))) pe_str (nomark _))))) 
            (pss_one (ps_ret pe_bl)
            )
           pss_nil)
          (pss_one (ps_if (PW.pt (pw_and (pt_val (pe_c c_clear hr (by first | decide | omega) (by rfl) (pa_cons (pv 6) pa_nil))) (pw_and1 (pt_cmpR op_ne (pe_c c_origins hr (by first | decide | omega) (by rfl) (pa_cons (pv 6) (pa_cons (pv 9) (pa_cons pe_int pa_nil)))) pe_int (nomark _))))) 
            (pss_one (ps_ret pe_bl)
            )
           pss_nil)
          )))))))))))
        )))
      (pss_one (ps_ret pe_bl)
      )), ?_⟩
    refine ⟨_, rfl, a, _, rfl, .inl ha, _, _, rfl, _, _, rfl, _, rfl, ?_⟩
    rw [List.length_map]
    have hM : 0 ≤ (if (if (ns.length : Int) < 3 then (ns.length : Int) else 3) > 1 then (if (ns.length : Int) < 3 then (ns.length : Int) else 3) else 1) ∧ (if (if (ns.length : Int) < 3 then (ns.length : Int) else 3) > 1 then (if (ns.length : Int) < 3 then (ns.length : Int) else 3) else 1) ≤ 3 := by
      split <;> split <;> omega
    generalize (if (if (ns.length : Int) < 3 then (ns.length : Int) else 3) > 1 then (if (ns.length : Int) < 3 then (ns.length : Int) else 3) else 1) = M at hM ⊢
    refine ⟨by omega, by omega, ?_⟩
    refine for_it (walk_range (lo := 0)) (fun i σ H' => (∃ s1 s2 s3 s4 s5 s6 s7 s8 s9 s10 s11 s12 s13 s14 : Option V, σ = [some (.ref a), s1, s2, s3, s4, s5, s6, s7, s8, s9, s10, s11, s12, s13, s14, none]) ∧ Same H H')
      ⟨⟨_, _, _, _, _, _, _, _, _, _, _, _, _, _, rfl⟩, Same.refl _⟩ (fun _ _ _ _ _ => trivial) ?_ ?_
    · rintro i x σ H1 H1' hi ⟨⟨s1, s2, s3, s4, s5, s6, s7, s8, s9, s10, s11, s12, s13, s14, rfl⟩, e1⟩ ⟨rfl, rfl⟩
      clear hi hM
      refine ⟨_, rfl, _, rfl, a, i, ns, by show [V.ref a, V.int (0 + (i : Int))] = _; rw [Int.zero_add], e1.seq ha, hl, fun b H2 h2 nb hB => ?_⟩
      have e2 := e1.trans h2
      have nbH : H b = none := e1.free nb
      refine ⟨4, rfl, by decide, by decide, ?_⟩
      refine for_it (walk_range (lo := 0)) (fun j σ H' => (∃ s3 s4 s5 s6 s7 s8 s9 s10 s11 s12 s13 s14 : Option V, σ = [some (.ref a), some (.int (0 + (i : Int))), some (.ref b), s3, s4, s5, s6, s7, s8, s9, s10, s11, s12, s13, s14, none]) ∧ Same H H' ∧ BoxAt b H')
        ⟨⟨_, _, _, _, _, _, _, _, _, _, _, _, rfl⟩, e2, hB⟩ (fun _ _ _ _ _ => trivial) ?_ ?_
      · clear e1 e2 h2 nb hB s3 s4 s5 s6 s7 s8 s9 s10 s11 s12 s13 s14
        rintro j x σ H3 H3' hj ⟨⟨s3, s4, s5, s6, s7, s8, s9, s10, s11, s12, s13, s14, rfl⟩, e3, hB3⟩ ⟨rfl, rfl⟩
        have bxs : ∀ {Ha Hb : Hp}, Same H Ha → Bx b Ha Hb → Same H Hb := fun s1 s2 c o e => s2.1 c o (ne_of_none e nbH) (s1 c o e)
        refine ⟨_, rfl, b, rfl, hB3, fun sg H5 hm hB5 => ?_⟩
        have e5 := bxs e3 hB5
        refine ⟨_, rfl, _, rfl, b, sg, 3, rfl, hm, by decide, by decide, hB5.2, fun p ims H6 him hB6 hpn hp6 => ?_⟩
        have e6 := bxs e5 hB6
        have bx6 := hB6.2
        have npb : p ≠ b := box_ne hB5.2 hpn
        have g : Gd sg ims := ⟨hm, him.mono (by decide)⟩
        clear hB6 hB5 hpn e5 e3 hB3
        have hsl := menu_len hm
        refine ⟨_, rfl, _, rfl, fun q dx hq hdx nx => ?_⟩
        refine make_use g hp6 hq hdx nx fun H7 w7 hch => ⟨rfl, ?_⟩
        have hp7 := w7 _ _ hp6
        have e7 := e6.trans w7
        have bx7 := (bk_same w7 bx6).2
        clear hdx nx hq hp6 w7 e6 bx6 him
        obtain ⟨N, hN4, hN5, eN⟩ : ∃ N : Nat, 4 ≤ N ∧ N ≤ 5 ∧ V.int (N : Int) = if decide (((S sg).length : Int) < 3) = true then V.int 5 else V.int 4 := by
          cases decide (((S sg).length : Int) < 3)
          · exact ⟨4, by decide, by decide, rfl⟩
          · exact ⟨5, by decide, by decide, rfl⟩
        have bsg : (S sg).length ≤ sizeLine := by rw [S_len]; exact sz (m := 3) hsl.2 (by decide)
        refine ⟨_, rfl, _, rfl, S sg, rfl, bsg, _, _, rfl, rfl, _, rfl, ite_v eN ?_⟩
        clear eN
        refine ⟨sg, N, rfl, hm, hN5, fun p2 H8 w8 hn2 hp2 => ⟨_, _, rfl, ?_⟩⟩
        have hp8 := w8 _ _ hp7
        have hc8 := hch.same w8
        have e8 := e7.trans w8
        have bx8 := (bk_same w8 bx7).2
        have np2b : p2 ≠ b := box_ne bx7 hn2
        clear hn2 hp7 hch e7 bx7 w8
        refine ⟨_, rfl, _, rfl, b, sg, 4, rfl, hm, by decide, bx8, fun row H9 ho hr4 hB9 => ?_⟩
        have hp9 := hB9.1 _ _ npb hp8
        have hp29 := hB9.1 _ _ np2b hp2
        have hc9 := hc8.bx bx8 hB9
        have e9 := bxs e8 hB9
        have bx9 := hB9.2
        clear hB9 hp8 hp2 hc8 e8 bx8
        refine ⟨_, rfl, _, rfl, _, rfl, sg, p, ims, row, rfl, hp9, g, ho, hr4, fun H10 w10 => ⟨_, rfl, iteN rfl ?_⟩⟩
        refine nxt ?_
        dsimp only
        refine ⟨_, rfl, _, rfl, _, rfl, sg, p, ims, row, rfl, SqL.of (w10 _ _ hp9), g, ho, by omega, fun H11 w11 => ?_⟩
        have hgl : (app sg ims row).length ≤ 16 := by
          refine Nat.le_trans (flat_len (c := 4) fun c hc => ?_) (by omega)
          exact (g.im.2 _ (img_mem g.im.1 (ho c hc))).2
        have w11' := w10.trans w11
        have hp11 := w11' _ _ hp9
        have hp211 := w11' _ _ hp29
        have hc11 := hc9.same w11'
        have e11 := e9.trans w11'
        have bx11 := (bk_same w11' bx9).2
        clear w10 w11 w11' hp9 hp29 hc9 e9 bx9
        refine ⟨_, rfl, _, rfl, ?_⟩
        obtain ⟨c0, c1, at0, at1⟩ := menu_ends hm
        refine ⟨_, rfl, S sg, 0, c0, rfl, rfl, bsg, at_text at0, _, rfl, 1, rfl, S sg, -1, c1, rfl, rfl, bsg, at_text at1, by show 3 ≤ sizeLine; decide, fun L hL => ?_⟩
        have wL := sm_new (o := .lst [.str (Str.ofString ""), .str ⟨#[c0]⟩, .str ⟨#[c1]⟩]) hL
        have bxL := (bk_same wL bx11).2
        refine ⟨b, L, _, rfl, bxL, box_ne bx11 hL, SqL.of upd_same, by show 0 < 3; decide, by show 3 < 1000; decide, fun v H12 hv hB12 => ?_⟩
        obtain ⟨y, rfl, hy1⟩ : ∃ y : List Nat, v = .str (S y) ∧ y.length ≤ 1 := by
          rw [s_nil] at hv
          rcases List.mem_cons.mp hv with rfl | hv
          · exact ⟨[], rfl, Nat.zero_le _⟩
          rcases List.mem_cons.mp hv with rfl | hv
          · exact ⟨[c0], rfl, Nat.le_refl _⟩
          · rw [List.mem_singleton.mp hv]; exact ⟨[c1], rfl, Nat.le_refl _⟩
        have wLb : Bx b H11 H12 := ⟨fun a o n e => hB12.1 _ _ n (wL _ _ e), hB12.2⟩
        have hp12 := wLb.1 _ _ npb hp11
        have hp212 := wLb.1 _ _ np2b hp211
        have hc12 := hc11.bx bx11 wLb
        have e12 := bxs e11 wLb
        have bx12 := wLb.2
        clear wLb hB12 hv bxL wL hL hp11 hp211 hc11 e11 bx11 L
        refine ⟨_, _, rfl, rfl, by rw [S_len, S_len]; exact sz (m := 17) (by omega) (by decide), ?_⟩
        rw [S_cat]
        have hnl : (app sg ims row ++ y).length ≤ 17 := by rw [List.length_append]; omega
        refine ⟨_, rfl, _, rfl, _, rfl, _, rfl, b, sg, 3, rfl, hm, by decide, bx12, fun ex H13 _ hx3 hB13 => ?_⟩
        have hp13 := hB13.1 _ _ npb hp12
        have hp213 := hB13.1 _ _ np2b hp212
        have hc13 := hc12.bx bx12 hB13
        have e13 := bxs e12 hB13
        have bx13 := hB13.2
        clear hB13 hp12 hp212 hc12 e12 bx12
        refine ⟨by show 3 ≤ sizeLine; decide, fun t ht => ?_⟩
        have w14 := sm_new (o := .tup [.str (S (app sg ims row)), .str (S (app sg ims row ++ y)), .str (S ex)]) ht
        have ht14 : (upd H13 t (.tup [.str (S (app sg ims row)), .str (S (app sg ims row ++ y)), .str (S ex)])) t = some (.tup [.str (S (app sg ims row)), .str (S (app sg ims row ++ y)), .str (S ex)]) := upd_same
        have hp14 := w14 _ _ hp13
        have hp214 := w14 _ _ hp213
        have hc14 := hc13.same w14
        have e14 := e13.trans w14
        have bx14 := (bk_same w14 bx13).2
        generalize upd H13 t (.tup [.str (S (app sg ims row)), .str (S (app sg ims row ++ y)), .str (S ex)]) = H14 at ht14 hp14 hp214 hc14 e14 bx14 ⊢
        clear w14 ht hp13 hp213 hc13 e13 bx13 H13
        have l364 := upt_len5 (sg := sg) hsl.2 hN5
        refine ⟨t, rfl, ⟨_, SqT.of ht14⟩, ?_⟩
        refine for_it (walk_tup (K := K) (a := t) (xs := [.str (S (app sg ims row)), .str (S (app sg ims row ++ y)), .str (S ex)])) (fun m σ H' => (∃ s11 s12 s13 s14 : Option V, σ = [some (.ref a), some (.int (0 + (i : Int))), some (.ref b), some (.int (0 + (j : Int))), some (.str (S sg)), some (.ref p), some (.ref q), some (.ref p2), some (.str (S row)), some (.str (S (app sg ims row))), some (.str (S (app sg ims row ++ y))), s11, s12, s13, s14, none]) ∧ Same H14 H')
          ⟨⟨_, _, _, _, rfl⟩, Same.refl _⟩ (fun _ _ _ _ h => SqT.of (h.2 _ _ ht14)) ?_ ?_
        · clear s3 s4 s5 s6 s7 s8 s9 s10 s11 s12 s13 s14
          rintro m x σ H15 H15' hm3 ⟨⟨s11, s12, s13, s14, rfl⟩, w15⟩ ⟨rfl, ex1⟩
          obtain ⟨gl, rfl, hgl17⟩ : ∃ gl : List Nat, x = .str (S gl) ∧ gl.length ≤ 17 := by
            have hx := List.mem_of_getElem? ex1
            rcases List.mem_cons.mp hx with rfl | hx
            · exact ⟨_, rfl, by omega⟩
            rcases List.mem_cons.mp hx with rfl | hx
            · exact ⟨_, rfl, hnl⟩
            · rw [List.mem_singleton.mp hx]; exact ⟨_, rfl, by omega⟩
          have hp15 := w15 _ _ hp14
          have hp215 := w15 _ _ hp214
          have hc15 := hc14.same w15
          clear hm3 ex1
          refine ⟨_, rfl, p2, rfl, ⟨_, SqL.of hp215⟩, fun D hD => ?_⟩
          refine lc_keepF keep_same (walk_list (K := K) (a := p2) (xs := txs (upt sg N))) hD (by rw [txs_len]; exact small1000 (by omega)) (fun m => (fun r => decide (appN sg ims r = gl)) ((upt sg N).getD m [])) (fun m y _ => y = .str (S ((upt sg N).getD m []))) (fun H r => SqL.of (r _ _ hp215)) (fun _ _ _ _ _ _ h => h) (fun _ _ _ _ _ _ _ h => h) (fun m x Hx Hy acc N' R hj r hDa hy hR hN => ?_) (fun ys H16 hly hg w16 hDs => ?_)
          · obtain ⟨rfl, e1⟩ := hy
            obtain ⟨l, hl1, rfl⟩ := txs_get e1
            have hlm := upt_mem (List.mem_of_getElem? hl1)
            have hgd : (upt sg N).getD m [] = l := by rw [List.getD_eq_getElem?_getD, hl1]; rfl
            rw [hgd] at hR hN
            refine ⟨rfl, _, rfl, _, rfl, _, rfl, sg, p, ims, l, rfl, SqL.of (r _ _ hp15), g, hlm.2, by have := hlm.1; omega, fun Hz wz => ?_⟩
            refine ⟨_, rfl, rfl, _, rfl, ?_⟩
            by_cases hh : appN sg ims l = gl
            · refine iteB (by rw [← hh]; exact decide_eq_true rfl) ?_
              exact ⟨_, rfl, hR (decide_eq_true hh) _ _ wz rfl⟩
            · refine iteN ?_ ?_
              · exact decide_eq_false fun h => hh (show app sg ims l = gl by simpa [S] using h)
              · exact hN (decide_eq_false hh) _ wz
          have ey : ys = txs (allOf sg ims N gl) := taken_vals (f := fun l => V.str (S l)) (txs_len _) hly hg
          subst ey
          have hp16 := w16 _ _ hp15
          have hc16 := hc15.same w16
          have w16' := w15.trans w16
          clear hly hg hD hp15 hp215 hc15 w15 w16
          refine ⟨_, rfl, _, rfl, q, sg, ims, gl, rfl, hc16, g, by omega, fun o H17 w17 hat => ?_⟩
          have hp17 := w17 _ _ hp16
          have hc17 := hc16.same w17
          have hD17 := w17 _ _ hDs
          have w17' := w16'.trans w17
          clear hp16 hc16 w16' w17 hDs
          have hall : ∀ l, l ∈ allOf sg ims N gl ↔ l ∈ upt sg N ∧ appN sg ims l = gl := fun l => mem_allOf
          have lall : (allOf sg ims N gl).length ≤ 364 := Nat.le_trans (List.length_filter_le ..) l364
          have htot := fun mo => total_eq g.good (row := gl) (m := mo) N
          have hfst := fun u x l => first_least (sg := sg) (ims := ims) (sorted_menu hm) (N := N) (w := gl) (u := u) (x := x) (l := l)
          have hsml : Small (allOf sg ims N gl) := fun l hl => ov_sm hm (upt_mem ((hall l).mp hl).1).2
          generalize allOf sg ims N gl = all at hall lall htot hfst hsml hD17 ⊢
          refine ⟨fun σ H' => σ = [some (.ref a), some (.int (0 + (i : Int))), some (.ref b), some (.int (0 + (j : Int))), some (.str (S sg)), some (.ref p), some (.ref q), some (.ref p2), some (.str (S row)), some (.str (S (app sg ims row))), some (.str (S (app sg ims row ++ y))), some (.str (S gl)), some (.ref D), some (optV o), s14, none] ∧ Same H17 H', ?_, ?_⟩
          · refine ⟨_, rfl, by show 0 ≤ sizeLine; decide, fun e he => ?_⟩
            refine ⟨.list (all.map fun l => .str (S l)), .list [], .lst (SqL.of (sm_new he _ _ hD17)) (dp_strs all), .lst (SqL.of upd_same) .nil, shaped_lst hsml, shaped_lst (xs := []) (fun _ h => nomatch h), _, rfl, ?_⟩
            rw [show PyData.eqv (.list (all.map fun l => .str (S l))) (.list []) = _ from eqv_strs all []]
            refine and3 (fun hb => ?_) (iteN rfl ⟨rfl, sm_new he⟩)
            obtain ⟨x0, l0, rfl⟩ : ∃ x l, all = x :: l := by
              cases all with
              | nil => cases hb
              | cons x l => exact ⟨x, l, rfl⟩
            have hx0 := (hall x0).mp List.mem_cons_self
            cases o with
            | none => exact absurd hx0.2 (hat x0 (upt_mem hx0.1).2)
            | some u =>
            obtain rfl := hfst u x0 l0 hat rfl
            refine ⟨_, rfl, _, rfl, D, _, 0, .str (S x0), rfl, rfl, SqL.of (sm_new he _ _ hD17), atI_nat (j := 0) rfl, rfl, _, rfl, iteN ?_ ⟨rfl, sm_new he⟩⟩
            simp [optV]
          rintro σ H18 ⟨rfl, w18⟩
          refine ⟨fun σ H' => σ = [some (.ref a), some (.int (0 + (i : Int))), some (.ref b), some (.int (0 + (j : Int))), some (.str (S sg)), some (.ref p), some (.ref q), some (.ref p2), some (.str (S row)), some (.str (S (app sg ims row))), some (.str (S (app sg ims row ++ y))), some (.str (S gl)), some (.ref D), some (optV o), s14, none] ∧ Same H17 H', ?_, ?_⟩
          · refine ⟨_, rfl, rfl, _, rfl, ?_⟩
            cases o with
            | none => exact iteN rfl (iteN rfl ⟨rfl, w18⟩)
            | some u =>
            have hat : Least sg ims gl u := hat
            refine iteB (by simp [optV]) ?_
            refine ⟨_, rfl, _, rfl, _, rfl, sg, p, ims, u, rfl, SqL.of (w18 _ _ hp17), g, hat.ov, by have := hat.le; omega, fun H19 w19 => ⟨_, rfl, rfl, _, rfl, iteN ?_ ⟨rfl, w18.trans w19⟩⟩⟩
            have : app sg ims u = gl := hat.im
            rw [this]; simp
          clear w18 H18
          rintro σ H18 ⟨rfl, w18⟩
          refine ⟨fun σ H' => σ = [some (.ref a), some (.int (0 + (i : Int))), some (.ref b), some (.int (0 + (j : Int))), some (.str (S sg)), some (.ref p), some (.ref q), some (.ref p2), some (.str (S row)), some (.str (S (app sg ims row))), some (.str (S (app sg ims row ++ y))), some (.str (S gl)), some (.ref D), some (optV o), s14, none] ∧ Same H17 H', ?_, ?_⟩
          · refine ⟨_, rfl, by show 0 ≤ sizeLine; decide, fun e he => ?_⟩
            have w19 := w18.trans (sm_new (o := .lst []) he)
            refine ⟨.list (all.map fun l => .str (S l)), .list [], .lst (SqL.of (w19 _ _ hD17)) (dp_strs all), .lst (SqL.of upd_same) .nil, shaped_lst hsml, shaped_lst (xs := []) (fun _ h => nomatch h), _, rfl, ?_⟩
            rw [show PyData.eqv (.list (all.map fun l => .str (S l))) (.list []) = _ from eqv_strs all []]
            refine and3 (fun hb => ?_) (iteN rfl ⟨rfl, w19⟩)
            have hnil : all = [] := of_decide_eq_true hb
            refine ⟨_, rfl, rfl, _, rfl, ?_⟩
            cases o with
            | none => exact iteN rfl (iteN rfl ⟨rfl, w19⟩)
            | some u =>
            have hat : Least sg ims gl u := hat
            refine iteB (by simp [optV]) ?_
            refine ⟨_, rfl, S u, rfl, by rw [S_len]; exact sz (m := 17) (Nat.le_trans hat.le hgl17) (by decide), _, _, rfl, rfl, _, rfl, iteN ?_ ⟨rfl, w19⟩⟩
            rw [S_len]
            refine decide_eq_false fun h5 => ?_
            have h5 : u.length < 5 := by omega
            have := (hall u).mpr ⟨upt_all (by omega) hat.ov, hat.im⟩
            rw [hnil] at this
            cases this
          clear w18 H18
          rintro σ H18 ⟨rfl, w18⟩
          have hc18 := hc17.same w18
          have hD18 := w18 _ _ hD17
          have w18' := w17'.trans w18
          clear hc17 hD17 hp17 w17' w18 hat
          refine ⟨by show 3 ≤ sizeLine; decide, fun t2 ht2 => ⟨t2, rfl, ⟨_, SqT.of upd_same⟩, ?_⟩⟩
          have w19 := sm_new (o := .tup [.int 0, .int 2, .int 4]) ht2
          have ht19 : (upd H18 t2 (.tup [.int 0, .int 2, .int 4])) t2 = some (.tup [.int 0, .int 2, .int 4]) := upd_same
          generalize upd H18 t2 (.tup [.int 0, .int 2, .int 4]) = H19 at w19 ht19 ⊢
          refine for_it (walk_tup (K := K) (a := t2) (xs := [.int 0, .int 2, .int 4])) (fun m σ H' => (∃ s14 : Option V, σ = [some (.ref a), some (.int (0 + (i : Int))), some (.ref b), some (.int (0 + (j : Int))), some (.str (S sg)), some (.ref p), some (.ref q), some (.ref p2), some (.str (S row)), some (.str (S (app sg ims row))), some (.str (S (app sg ims row ++ y))), some (.str (S gl)), some (.ref D), some (optV o), s14, none]) ∧ Same H19 H')
            ⟨⟨_, rfl⟩, Same.refl _⟩ (fun _ _ _ _ h => SqT.of (h.2 _ _ ht19)) ?_ ?_
          · rintro m2 x σ H20 H20' hm4 ⟨⟨s14, rfl⟩, w20⟩ ⟨rfl, ex1⟩
            obtain ⟨mo, rfl, hmo⟩ : ∃ mo : Nat, x = .int (mo : Nat) ∧ mo ≤ 4 := by
              have hx := List.mem_of_getElem? ex1
              rcases List.mem_cons.mp hx with rfl | hx
              · exact ⟨0, rfl, by decide⟩
              rcases List.mem_cons.mp hx with rfl | hx
              · exact ⟨2, rfl, by decide⟩
              · rw [List.mem_singleton.mp hx]; exact ⟨4, rfl, by decide⟩
            have w20' := w19.trans w20
            refine ⟨_, rfl, _, rfl, _, rfl, q, sg, ims, gl, mo, rfl, hc18.same w20', g, by omega, by omega, fun H21 w21 => ?_⟩
            have hD21 := (w20'.trans w21) _ _ hD18
            refine ⟨_, rfl, D, rfl, ⟨_, SqL.of hD21⟩, fun D2 hD2 => ?_⟩
            refine lc_keepF keep_same (walk_list (K := K) (a := D) (xs := txs all)) hD2 (by rw [txs_len]; exact small1000 (by omega)) (fun m => (fun r => decide (List.length r ≤ mo)) (all.getD m [])) (fun m y _ => y = .str (S (all.getD m []))) (fun H r => SqL.of (r _ _ hD21)) (fun _ _ _ _ _ _ h => h) (fun _ _ _ _ _ _ _ h => h) (fun m x Hx Hy acc N' R hj r hDa hy hR hN => ?_) (fun ys H22 hly hg w22 hDs => ?_)
            · obtain ⟨rfl, e1⟩ := hy
              obtain ⟨l, hl1, rfl⟩ := txs_get e1
              have hlm := upt_mem ((hall l).mp (List.mem_of_getElem? hl1)).1
              have hgd : all.getD m [] = l := by rw [List.getD_eq_getElem?_getD, hl1]; rfl
              rw [hgd] at hR hN
              refine ⟨rfl, _, rfl, S l, rfl, by rw [S_len]; exact sz (m := 5) (Nat.le_trans hlm.1 hN5) (by decide), _, rfl, _, _, rfl, rfl, _, rfl, ?_⟩
              rw [S_len]
              by_cases hh : l.length ≤ mo
              · refine iteB (decide_eq_true (by omega)) ?_
                exact ⟨_, rfl, hR (decide_eq_true hh) _ _ (Same.refl _) rfl⟩
              · refine iteN (decide_eq_false (by omega)) ?_
                exact hN (decide_eq_false hh) _ (Same.refl _)
            have ey : ys = txs (all.filter fun r => decide (List.length r ≤ mo)) := taken_vals (f := fun l => V.str (S l)) (txs_len _) hly hg
            subst ey
            refine ⟨D2, _, rfl, .inl (SqL.of hDs), rfl, _, rfl, iteN ?_ ?_⟩
            · rw [txs_len, htot mo (by omega)]; simp
            · refine nxt ?_
              exact ⟨⟨_, rfl⟩, w20.trans (w21.trans w22)⟩
          · rintro σ H20 ⟨⟨s14, rfl⟩, w20⟩
            exact ⟨⟨_, _, _, _, rfl⟩, w18'.trans (w19.trans w20)⟩
        · rintro σ H15 ⟨⟨s11, s12, s13, s14, rfl⟩, w15⟩
          have hc15 := hc14.same w15
          have e15 := e14.trans w15
          have bx15 := (bk_same w15 bx14).2
          clear hp14 hp214 hc14 w15 ht14 e14 bx14
          have clr : ∀ {o : Option (List Nat)}, AtP sg ims (app sg ims row) o → Clear sg ims → o = some row := fun {o} hat hcl => by
            cases o with
            | none => exact absurd rfl (hat row ho)
            | some u => exact congrArg some (clear_inj g.good.hl hcl.1 hcl.2 hat.ov ho hat.im)
          have nil : ∀ {o : Option (List Nat)}, AtP sg ims [] o → o = some [] := fun {o} hat => atP_uniq hat (show AtP sg ims [] (some []) from least_nil sg ims)
          rw [s_nil]
          refine ⟨fun σ H' => σ = [some (.ref a), some (.int (0 + (i : Int))), some (.ref b), some (.int (0 + (j : Int))), some (.str (S sg)), some (.ref p), some (.ref q), some (.ref p2), some (.str (S row)), some (.str (S (app sg ims row))), some (.str (S (app sg ims row ++ y))), s11, s12, s13, s14, none] ∧ Same H15 H', ?_, ?_⟩
          · refine ⟨_, rfl, q, sg, ims, rfl, hc15, g, fun b2 H16 w16 hb2 => ⟨_, rfl, ?_⟩⟩
            refine and3 (fun hb => ?_) ?_
            · refine ⟨_, rfl, _, rfl, q, sg, ims, app sg ims row, rfl, hc15.same w16, g, by omega, fun o H17 w17 hat => ?_⟩
              obtain rfl := clr hat (hb2.mp hb)
              refine ⟨_, rfl, rfl, _, rfl, iteN (by simp [optV]) ?_⟩
              refine ⟨_, rfl, q, sg, ims, [], rfl, hc15.same (w16.trans w17), g, by decide, fun o H18 w18 hat => ?_⟩
              obtain rfl := nil hat
              refine ⟨rfl, _, rfl, iteN (by simp [optV]) ?_⟩
              exact ⟨rfl, w16.trans (w17.trans w18)⟩
            · refine iteN rfl ?_
              refine ⟨_, rfl, q, sg, ims, [], rfl, hc15.same w16, g, by decide, fun o H18 w18 hat => ?_⟩
              obtain rfl := nil hat
              refine ⟨rfl, _, rfl, iteN (by simp [optV]) ?_⟩
              exact ⟨rfl, w16.trans w18⟩
          rintro σ H16 ⟨rfl, w16⟩
          have hc16 := hc15.same w16
          refine ⟨_, rfl, q, sg, ims, rfl, hc16, g, fun b2 H17 w17 hb2 => ⟨_, rfl, ?_⟩⟩
          refine and3 (fun hb => ?_) ?_
          · refine ⟨_, rfl, _, rfl, q, sg, ims, app sg ims row, 12, rfl, hc16.same w17, g, by omega, by decide, fun H18 w18 => ?_⟩
            have hone : total (app sg ims row) ims (12 + 1) = 1 := clear_one g (hb2.mp hb) ho (by omega)
            generalize total (app sg ims row) ims (12 + 1) = tt at hone ⊢
            subst hone
            refine ⟨rfl, _, rfl, iteN rfl ?_⟩
            · exact ⟨⟨_, _, _, _, _, _, _, _, _, _, _, _, rfl⟩, e15.trans (w16.trans (w17.trans w18)), (bk_same (w16.trans (w17.trans w18)) bx15).2⟩
          · refine iteN rfl ?_
            exact ⟨⟨_, _, _, _, _, _, _, _, _, _, _, _, rfl⟩, e15.trans (w16.trans w17), (bk_same (w16.trans w17) bx15).2⟩
      · rintro σ H3 ⟨⟨s3, s4, s5, s6, s7, s8, s9, s10, s11, s12, s13, s14, rfl⟩, e3, hB3⟩
        exact ⟨⟨_, _, _, _, _, _, _, _, _, _, _, _, _, _, rfl⟩, e3⟩
    · rintro σ H1 ⟨⟨s1, s2, s3, s4, s5, s6, s7, s8, s9, s10, s11, s12, s13, s14, rfl⟩, e1⟩
      exact kk _
end
end Toy
set_option maxHeartbeats 8000000
namespace Toy
open PySem L2 C8 SX LX
theorem all_mk {l : PySem.W.OpenLaw} {w : World} {K : PySem.W.Frag} {h : Heap} {mg : Str → Option Value} {fa : Addr} {f_choose f_one_of f_seed f_signs f_row f_images f_isseq f_isrow f_isletters f_issigns f_isrows f_tupof f_init f_xic f_xit f_iot f_parse f_str f_eq f_of f_first f_next f_ways f_rests f_clash f_clear f_holds f_order f_origin f_origins f_wbs f_image f_rows f_names f_law C_Change C_InvalidChange C_InvalidText p_parse : Addr} (X : K.In h) (G : h.Ns mainGlobals mg) (hfa : mg "law" = some (.ref fa))
    {rest_parse : List Value}
    {od_choose an_choose : Option Addr} {sl_choose : Array (Option Value)} {oc_choose kV_choose dc_choose pm_choose cd_choose ct_choose : Value}
    {od_one_of an_one_of : Option Addr} {sl_one_of : Array (Option Value)} {oc_one_of kV_one_of dc_one_of pm_one_of cd_one_of ct_one_of : Value}
    {od_seed an_seed : Option Addr} {sl_seed : Array (Option Value)} {oc_seed kV_seed dc_seed pm_seed cd_seed ct_seed : Value}
    {od_signs an_signs : Option Addr} {sl_signs : Array (Option Value)} {oc_signs kV_signs dc_signs pm_signs cd_signs ct_signs : Value}
    {od_row an_row : Option Addr} {sl_row : Array (Option Value)} {oc_row kV_row dc_row pm_row cd_row ct_row : Value}
    {od_images an_images : Option Addr} {sl_images : Array (Option Value)} {oc_images kV_images dc_images pm_images cd_images ct_images : Value}
    {od_isseq an_isseq : Option Addr} {sl_isseq : Array (Option Value)} {oc_isseq kV_isseq dc_isseq pm_isseq cd_isseq ct_isseq : Value}
    {od_isrow an_isrow : Option Addr} {sl_isrow : Array (Option Value)} {oc_isrow kV_isrow dc_isrow pm_isrow cd_isrow ct_isrow : Value}
    {od_isletters an_isletters : Option Addr} {sl_isletters : Array (Option Value)} {oc_isletters kV_isletters dc_isletters pm_isletters cd_isletters ct_isletters : Value}
    {od_issigns an_issigns : Option Addr} {sl_issigns : Array (Option Value)} {oc_issigns kV_issigns dc_issigns pm_issigns cd_issigns ct_issigns : Value}
    {od_isrows an_isrows : Option Addr} {sl_isrows : Array (Option Value)} {oc_isrows kV_isrows dc_isrows pm_isrows cd_isrows ct_isrows : Value}
    {od_tupof an_tupof : Option Addr} {sl_tupof : Array (Option Value)} {oc_tupof kV_tupof dc_tupof pm_tupof cd_tupof ct_tupof : Value}
    {od_init an_init : Option Addr} {sl_init : Array (Option Value)} {oc_init kV_init dc_init pm_init cd_init ct_init : Value}
    {od_xic an_xic : Option Addr} {sl_xic : Array (Option Value)} {oc_xic kV_xic dc_xic pm_xic cd_xic ct_xic : Value}
    {od_xit an_xit : Option Addr} {sl_xit : Array (Option Value)} {oc_xit kV_xit dc_xit pm_xit cd_xit ct_xit : Value}
    {od_iot an_iot : Option Addr} {sl_iot : Array (Option Value)} {oc_iot kV_iot dc_iot pm_iot cd_iot ct_iot : Value}
    {od_parse an_parse : Option Addr} {sl_parse : Array (Option Value)} {oc_parse kV_parse dc_parse pm_parse cd_parse ct_parse : Value}
    {od_str an_str : Option Addr} {sl_str : Array (Option Value)} {oc_str kV_str dc_str pm_str cd_str ct_str : Value}
    {od_eq an_eq : Option Addr} {sl_eq : Array (Option Value)} {oc_eq kV_eq dc_eq pm_eq cd_eq ct_eq : Value}
    {od_of an_of : Option Addr} {sl_of : Array (Option Value)} {oc_of kV_of dc_of pm_of cd_of ct_of : Value}
    {od_first an_first : Option Addr} {sl_first : Array (Option Value)} {oc_first kV_first dc_first pm_first cd_first ct_first : Value}
    {od_next an_next : Option Addr} {sl_next : Array (Option Value)} {oc_next kV_next dc_next pm_next cd_next ct_next : Value}
    {od_ways an_ways : Option Addr} {sl_ways : Array (Option Value)} {oc_ways kV_ways dc_ways pm_ways cd_ways ct_ways : Value}
    {od_rests an_rests : Option Addr} {sl_rests : Array (Option Value)} {oc_rests kV_rests dc_rests pm_rests cd_rests ct_rests : Value}
    {od_clash an_clash : Option Addr} {sl_clash : Array (Option Value)} {oc_clash kV_clash dc_clash pm_clash cd_clash ct_clash : Value}
    {od_clear an_clear : Option Addr} {sl_clear : Array (Option Value)} {oc_clear kV_clear dc_clear pm_clear cd_clear ct_clear : Value}
    {od_holds an_holds : Option Addr} {sl_holds : Array (Option Value)} {oc_holds kV_holds dc_holds pm_holds cd_holds ct_holds : Value}
    {od_order an_order : Option Addr} {sl_order : Array (Option Value)} {oc_order kV_order dc_order pm_order cd_order ct_order : Value}
    {od_origin an_origin : Option Addr} {sl_origin : Array (Option Value)} {oc_origin kV_origin dc_origin pm_origin cd_origin ct_origin : Value}
    {od_origins an_origins : Option Addr} {sl_origins : Array (Option Value)} {oc_origins kV_origins dc_origins pm_origins cd_origins ct_origins : Value}
    {od_wbs an_wbs : Option Addr} {sl_wbs : Array (Option Value)} {oc_wbs kV_wbs dc_wbs pm_wbs cd_wbs ct_wbs : Value}
    {od_image an_image : Option Addr} {sl_image : Array (Option Value)} {oc_image kV_image dc_image pm_image cd_image ct_image : Value}
    {od_rows an_rows : Option Addr} {sl_rows : Array (Option Value)} {oc_rows kV_rows dc_rows pm_rows cd_rows ct_rows : Value}
    {od_names an_names : Option Addr} {sl_names : Array (Option Value)} {oc_names kV_names dc_names pm_names cd_names ct_names : Value}
    {od_law an_law : Option Addr} {sl_law : Array (Option Value)} {oc_law kV_law dc_law pm_law cd_law ct_law : Value}
    {tk_az : Tok}
    (q_az : PySem.W.nsIn K mainGlobals "_LETTERS" = some (some (.str (S az) tk_az)))
    (g_Change : PySem.W.nsIn K mainGlobals "Change" = some (some (.ref C_Change)))
    (pg_Change : PySem.W.plainGet K C_Change Str.empty = true)
    (hd_Change : PySem.W.hasDictIn K C_Change = true)
    (po_Change : PySem.W.plainOver K C_Change = true)
    (sa_Change : PySem.W.findIn K (.ref C_Change) "__setattr__" = some (some (.builtin "object.__setattr__")))
    (kc_Change : PySem.W.keepIn K (.ref C_Change) = true)
    (n_Change_signs : PySem.W.findIn K (.ref C_Change) "signs" = some none)
    (n_Change_rows : PySem.W.findIn K (.ref C_Change) "rows" = some none)
    (mk_Change : PySem.W.makesIn K C_Change = true)
    (ha_Change : PySem.W.findIn K (.ref C_Change) "__class__" = some (some (.builtin "object.__class__")))
    (hn_Change : PySem.W.specialIn K (.builtin "object.__class__") "__get__" = some (some (.builtin "getset_descriptor.__get__")))
    (tk_Change : PySem.W.takesIn K (.builtin "object.__class__") = some true)
    (hm_Change : PySem.W.mroIn K C_Change (.type "object") = some true)
    (ne_Change : PySem.W.findIn K (.ref C_Change) "__ne__" = some (some (.builtin "object.__ne__")))
    (sf_Change : PySem.W.selfFirst K C_Change = true)
    (xg_InvalidChange : PySem.W.nsIn K mainGlobals "InvalidChange" = some (some (.ref C_InvalidChange)))
    (xg_InvalidText : PySem.W.nsIn K mainGlobals "InvalidText" = some (some (.ref C_InvalidText)))
    (xc_InvalidChange : XC K C_InvalidChange)
    (xc_InvalidText : XC K C_InvalidText)
    (xf_InvalidChange : PySem.W.findIn K (.ref C_InvalidChange) "word" = some none)
    (xf_InvalidText : PySem.W.findIn K (.ref C_InvalidText) "at" = some none)
    (cm_at : PySem.W.findCls K (.ref C_Change) (.type "type") "parse" = some (.get (.builtin "classmethod.__get__") (.ref p_parse) .none (.ref C_Change)))
    (cm_rc : PySem.W.recIn K p_parse "classmethod" = some (.ref f_parse :: rest_parse))
    (cm_fi : PySem.W.fnIn K f_parse = true)
    (cr_rd : PySem.W.readsIn K C_Change (.type "type") = true)
    (cr_ga : PySem.W.specialIn K (.ref C_Change) "__getattribute__" = some (some (.builtin "type.__getattribute__")))
    (a_choose : PySem.W.nsIn K mainGlobals "_law_choose" = some (some (.ref f_choose)))
    (l_choose : K.lookup f_choose = some ⟨oc_choose, od_choose, .func (PySem.W.fnOf "_law_choose" "_law_choose" (C8.fnArgs s_choose) (C8.fnBody s_choose) (C8.fnScope s_choose) .none kV_choose dc_choose pm_choose an_choose cd_choose ct_choose), sl_choose⟩)
    (c_choose : PySem.W.codeIn K cd_choose "_law_choose" = true)
    (k_choose : PySem.W.keepIn K (.ref f_choose) = true)
    (a_one_of : PySem.W.nsIn K mainGlobals "_law_one_of" = some (some (.ref f_one_of)))
    (l_one_of : K.lookup f_one_of = some ⟨oc_one_of, od_one_of, .func (PySem.W.fnOf "_law_one_of" "_law_one_of" (C8.fnArgs s_one_of) (C8.fnBody s_one_of) (C8.fnScope s_one_of) .none kV_one_of dc_one_of pm_one_of an_one_of cd_one_of ct_one_of), sl_one_of⟩)
    (c_one_of : PySem.W.codeIn K cd_one_of "_law_one_of" = true)
    (k_one_of : PySem.W.keepIn K (.ref f_one_of) = true)
    (a_seed : PySem.W.nsIn K mainGlobals "_law_seed" = some (some (.ref f_seed)))
    (l_seed : K.lookup f_seed = some ⟨oc_seed, od_seed, .func (PySem.W.fnOf "_law_seed" "_law_seed" (C8.fnArgs s_seed) (C8.fnBody s_seed) (C8.fnScope s_seed) .none kV_seed dc_seed pm_seed an_seed cd_seed ct_seed), sl_seed⟩)
    (c_seed : PySem.W.codeIn K cd_seed "_law_seed" = true)
    (k_seed : PySem.W.keepIn K (.ref f_seed) = true)
    (a_signs : PySem.W.nsIn K mainGlobals "_law_signs" = some (some (.ref f_signs)))
    (l_signs : K.lookup f_signs = some ⟨oc_signs, od_signs, .func (PySem.W.fnOf "_law_signs" "_law_signs" (C8.fnArgs s_signs) (C8.fnBody s_signs) (C8.fnScope s_signs) .none kV_signs dc_signs pm_signs an_signs cd_signs ct_signs), sl_signs⟩)
    (c_signs : PySem.W.codeIn K cd_signs "_law_signs" = true)
    (k_signs : PySem.W.keepIn K (.ref f_signs) = true)
    (a_row : PySem.W.nsIn K mainGlobals "_law_row" = some (some (.ref f_row)))
    (l_row : K.lookup f_row = some ⟨oc_row, od_row, .func (PySem.W.fnOf "_law_row" "_law_row" (C8.fnArgs s_row) (C8.fnBody s_row) (C8.fnScope s_row) .none kV_row dc_row pm_row an_row cd_row ct_row), sl_row⟩)
    (c_row : PySem.W.codeIn K cd_row "_law_row" = true)
    (k_row : PySem.W.keepIn K (.ref f_row) = true)
    (a_images : PySem.W.nsIn K mainGlobals "_law_images" = some (some (.ref f_images)))
    (l_images : K.lookup f_images = some ⟨oc_images, od_images, .func (PySem.W.fnOf "_law_images" "_law_images" (C8.fnArgs s_images) (C8.fnBody s_images) (C8.fnScope s_images) .none kV_images dc_images pm_images an_images cd_images ct_images), sl_images⟩)
    (c_images : PySem.W.codeIn K cd_images "_law_images" = true)
    (k_images : PySem.W.keepIn K (.ref f_images) = true)
    (a_isseq : PySem.W.nsIn K mainGlobals "is_sequence" = some (some (.ref f_isseq)))
    (l_isseq : K.lookup f_isseq = some ⟨oc_isseq, od_isseq, .func (PySem.W.fnOf "is_sequence" "is_sequence" (C8.fnArgs s_isseq) (C8.fnBody s_isseq) (C8.fnScope s_isseq) .none kV_isseq dc_isseq pm_isseq an_isseq cd_isseq ct_isseq), sl_isseq⟩)
    (c_isseq : PySem.W.codeIn K cd_isseq "is_sequence" = true)
    (k_isseq : PySem.W.keepIn K (.ref f_isseq) = true)
    (a_isrow : PySem.W.nsIn K mainGlobals "is_row" = some (some (.ref f_isrow)))
    (l_isrow : K.lookup f_isrow = some ⟨oc_isrow, od_isrow, .func (PySem.W.fnOf "is_row" "is_row" (C8.fnArgs s_isrow) (C8.fnBody s_isrow) (C8.fnScope s_isrow) .none kV_isrow dc_isrow pm_isrow an_isrow cd_isrow ct_isrow), sl_isrow⟩)
    (c_isrow : PySem.W.codeIn K cd_isrow "is_row" = true)
    (k_isrow : PySem.W.keepIn K (.ref f_isrow) = true)
    (a_isletters : PySem.W.nsIn K mainGlobals "is_letters" = some (some (.ref f_isletters)))
    (l_isletters : K.lookup f_isletters = some ⟨oc_isletters, od_isletters, .func (PySem.W.fnOf "is_letters" "is_letters" (C8.fnArgs s_isletters) (C8.fnBody s_isletters) (C8.fnScope s_isletters) .none kV_isletters dc_isletters pm_isletters an_isletters cd_isletters ct_isletters), sl_isletters⟩)
    (c_isletters : PySem.W.codeIn K cd_isletters "is_letters" = true)
    (k_isletters : PySem.W.keepIn K (.ref f_isletters) = true)
    (a_issigns : PySem.W.nsIn K mainGlobals "is_signs" = some (some (.ref f_issigns)))
    (l_issigns : K.lookup f_issigns = some ⟨oc_issigns, od_issigns, .func (PySem.W.fnOf "is_signs" "is_signs" (C8.fnArgs s_issigns) (C8.fnBody s_issigns) (C8.fnScope s_issigns) .none kV_issigns dc_issigns pm_issigns an_issigns cd_issigns ct_issigns), sl_issigns⟩)
    (c_issigns : PySem.W.codeIn K cd_issigns "is_signs" = true)
    (k_issigns : PySem.W.keepIn K (.ref f_issigns) = true)
    (a_isrows : PySem.W.nsIn K mainGlobals "is_rows" = some (some (.ref f_isrows)))
    (l_isrows : K.lookup f_isrows = some ⟨oc_isrows, od_isrows, .func (PySem.W.fnOf "is_rows" "is_rows" (C8.fnArgs s_isrows) (C8.fnBody s_isrows) (C8.fnScope s_isrows) .none kV_isrows dc_isrows pm_isrows an_isrows cd_isrows ct_isrows), sl_isrows⟩)
    (c_isrows : PySem.W.codeIn K cd_isrows "is_rows" = true)
    (k_isrows : PySem.W.keepIn K (.ref f_isrows) = true)
    (a_tupof : PySem.W.nsIn K mainGlobals "is_tuple_of" = some (some (.ref f_tupof)))
    (l_tupof : K.lookup f_tupof = some ⟨oc_tupof, od_tupof, .func (PySem.W.fnOf "is_tuple_of" "is_tuple_of" (C8.fnArgs s_tupof) (C8.fnBody s_tupof) (C8.fnScope s_tupof) .none kV_tupof dc_tupof pm_tupof an_tupof cd_tupof ct_tupof), sl_tupof⟩)
    (c_tupof : PySem.W.codeIn K cd_tupof "is_tuple_of" = true)
    (k_tupof : PySem.W.keepIn K (.ref f_tupof) = true)
    (a_init : PySem.W.findIn K (.ref C_Change) "__init__" = some (some (.ref f_init)))
    (i_init : PySem.W.isFn K (.ref f_init) = true)
    (l_init : K.lookup f_init = some ⟨oc_init, od_init, .func (PySem.W.fnOf "__init__" "Change.__init__" (C8.fnArgs s_init) (C8.fnBody s_init) (C8.fnScope s_init) .none kV_init dc_init pm_init an_init cd_init ct_init), sl_init⟩)
    (c_init : PySem.W.codeIn K cd_init "Change.__init__" = true)
    (k_init : PySem.W.keepIn K (.ref f_init) = true)
    (a_xic : PySem.W.findIn K (.ref C_InvalidChange) "__init__" = some (some (.ref f_xic)))
    (i_xic : PySem.W.isFn K (.ref f_xic) = true)
    (l_xic : K.lookup f_xic = some ⟨oc_xic, od_xic, .func (PySem.W.fnOf "__init__" "InvalidChange.__init__" (C8.fnArgs s_xic) (C8.fnBody s_xic) (C8.fnScope s_xic) .none kV_xic dc_xic pm_xic an_xic cd_xic ct_xic), sl_xic⟩)
    (c_xic : PySem.W.codeIn K cd_xic "InvalidChange.__init__" = true)
    (k_xic : PySem.W.keepIn K (.ref f_xic) = true)
    (a_xit : PySem.W.findIn K (.ref C_InvalidText) "__init__" = some (some (.ref f_xit)))
    (i_xit : PySem.W.isFn K (.ref f_xit) = true)
    (l_xit : K.lookup f_xit = some ⟨oc_xit, od_xit, .func (PySem.W.fnOf "__init__" "InvalidText.__init__" (C8.fnArgs s_xit) (C8.fnBody s_xit) (C8.fnScope s_xit) .none kV_xit dc_xit pm_xit an_xit cd_xit ct_xit), sl_xit⟩)
    (c_xit : PySem.W.codeIn K cd_xit "InvalidText.__init__" = true)
    (k_xit : PySem.W.keepIn K (.ref f_xit) = true)
    (a_iot : PySem.W.nsIn K mainGlobals "images_of_text" = some (some (.ref f_iot)))
    (l_iot : K.lookup f_iot = some ⟨oc_iot, od_iot, .func (PySem.W.fnOf "images_of_text" "images_of_text" (C8.fnArgs s_iot) (C8.fnBody s_iot) (C8.fnScope s_iot) .none kV_iot dc_iot pm_iot an_iot cd_iot ct_iot), sl_iot⟩)
    (c_iot : PySem.W.codeIn K cd_iot "images_of_text" = true)
    (k_iot : PySem.W.keepIn K (.ref f_iot) = true)
    (l_parse : K.lookup f_parse = some ⟨oc_parse, od_parse, .func (PySem.W.fnOf "parse" "Change.parse" (C8.fnArgs s_parse) (C8.fnBody s_parse) (C8.fnScope s_parse) .none kV_parse dc_parse pm_parse an_parse cd_parse ct_parse), sl_parse⟩)
    (c_parse : PySem.W.codeIn K cd_parse "Change.parse" = true)
    (a_str : PySem.W.findIn K (.ref C_Change) "__str__" = some (some (.ref f_str)))
    (i_str : PySem.W.isFn K (.ref f_str) = true)
    (l_str : K.lookup f_str = some ⟨oc_str, od_str, .func (PySem.W.fnOf "__str__" "Change.__str__" (C8.fnArgs s_str) (C8.fnBody s_str) (C8.fnScope s_str) .none kV_str dc_str pm_str an_str cd_str ct_str), sl_str⟩)
    (c_str : PySem.W.codeIn K cd_str "Change.__str__" = true)
    (k_str : PySem.W.keepIn K (.ref f_str) = true)
    (a_eq : PySem.W.findIn K (.ref C_Change) "__eq__" = some (some (.ref f_eq)))
    (i_eq : PySem.W.isFn K (.ref f_eq) = true)
    (l_eq : K.lookup f_eq = some ⟨oc_eq, od_eq, .func (PySem.W.fnOf "__eq__" "Change.__eq__" (C8.fnArgs s_eq) (C8.fnBody s_eq) (C8.fnScope s_eq) .none kV_eq dc_eq pm_eq an_eq cd_eq ct_eq), sl_eq⟩)
    (c_eq : PySem.W.codeIn K cd_eq "Change.__eq__" = true)
    (k_eq : PySem.W.keepIn K (.ref f_eq) = true)
    (a_of : PySem.W.findIn K (.ref C_Change) "of" = some (some (.ref f_of)))
    (i_of : PySem.W.isFn K (.ref f_of) = true)
    (l_of : K.lookup f_of = some ⟨oc_of, od_of, .func (PySem.W.fnOf "of" "Change.of" (C8.fnArgs s_of) (C8.fnBody s_of) (C8.fnScope s_of) .none kV_of dc_of pm_of an_of cd_of ct_of), sl_of⟩)
    (c_of : PySem.W.codeIn K cd_of "Change.of" = true)
    (k_of : PySem.W.keepIn K (.ref f_of) = true)
    (a_first : PySem.W.nsIn K mainGlobals "_first_rests" = some (some (.ref f_first)))
    (l_first : K.lookup f_first = some ⟨oc_first, od_first, .func (PySem.W.fnOf "_first_rests" "_first_rests" (C8.fnArgs s_first) (C8.fnBody s_first) (C8.fnScope s_first) .none kV_first dc_first pm_first an_first cd_first ct_first), sl_first⟩)
    (c_first : PySem.W.codeIn K cd_first "_first_rests" = true)
    (k_first : PySem.W.keepIn K (.ref f_first) = true)
    (a_next : PySem.W.nsIn K mainGlobals "_next_rests" = some (some (.ref f_next)))
    (l_next : K.lookup f_next = some ⟨oc_next, od_next, .func (PySem.W.fnOf "_next_rests" "_next_rests" (C8.fnArgs s_next) (C8.fnBody s_next) (C8.fnScope s_next) .none kV_next dc_next pm_next an_next cd_next ct_next), sl_next⟩)
    (c_next : PySem.W.codeIn K cd_next "_next_rests" = true)
    (k_next : PySem.W.keepIn K (.ref f_next) = true)
    (a_ways : PySem.W.nsIn K mainGlobals "_ways_to_rests" = some (some (.ref f_ways)))
    (l_ways : K.lookup f_ways = some ⟨oc_ways, od_ways, .func (PySem.W.fnOf "_ways_to_rests" "_ways_to_rests" (C8.fnArgs s_ways) (C8.fnBody s_ways) (C8.fnScope s_ways) .none kV_ways dc_ways pm_ways an_ways cd_ways ct_ways), sl_ways⟩)
    (c_ways : PySem.W.codeIn K cd_ways "_ways_to_rests" = true)
    (k_ways : PySem.W.keepIn K (.ref f_ways) = true)
    (a_rests : PySem.W.nsIn K mainGlobals "rests" = some (some (.ref f_rests)))
    (l_rests : K.lookup f_rests = some ⟨oc_rests, od_rests, .func (PySem.W.fnOf "rests" "rests" (C8.fnArgs s_rests) (C8.fnBody s_rests) (C8.fnScope s_rests) .none kV_rests dc_rests pm_rests an_rests cd_rests ct_rests), sl_rests⟩)
    (c_rests : PySem.W.codeIn K cd_rests "rests" = true)
    (k_rests : PySem.W.keepIn K (.ref f_rests) = true)
    (a_clash : PySem.W.nsIn K mainGlobals "clash" = some (some (.ref f_clash)))
    (l_clash : K.lookup f_clash = some ⟨oc_clash, od_clash, .func (PySem.W.fnOf "clash" "clash" (C8.fnArgs s_clash) (C8.fnBody s_clash) (C8.fnScope s_clash) .none kV_clash dc_clash pm_clash an_clash cd_clash ct_clash), sl_clash⟩)
    (c_clash : PySem.W.codeIn K cd_clash "clash" = true)
    (k_clash : PySem.W.keepIn K (.ref f_clash) = true)
    (a_clear : PySem.W.nsIn K mainGlobals "is_clear" = some (some (.ref f_clear)))
    (l_clear : K.lookup f_clear = some ⟨oc_clear, od_clear, .func (PySem.W.fnOf "is_clear" "is_clear" (C8.fnArgs s_clear) (C8.fnBody s_clear) (C8.fnScope s_clear) .none kV_clear dc_clear pm_clear an_clear cd_clear ct_clear), sl_clear⟩)
    (c_clear : PySem.W.codeIn K cd_clear "is_clear" = true)
    (k_clear : PySem.W.keepIn K (.ref f_clear) = true)
    (a_holds : PySem.W.nsIn K mainGlobals "clash_holds" = some (some (.ref f_holds)))
    (l_holds : K.lookup f_holds = some ⟨oc_holds, od_holds, .func (PySem.W.fnOf "clash_holds" "clash_holds" (C8.fnArgs s_holds) (C8.fnBody s_holds) (C8.fnScope s_holds) .none kV_holds dc_holds pm_holds an_holds cd_holds ct_holds), sl_holds⟩)
    (c_holds : PySem.W.codeIn K cd_holds "clash_holds" = true)
    (k_holds : PySem.W.keepIn K (.ref f_holds) = true)
    (a_order : PySem.W.nsIn K mainGlobals "row_order" = some (some (.ref f_order)))
    (l_order : K.lookup f_order = some ⟨oc_order, od_order, .func (PySem.W.fnOf "row_order" "row_order" (C8.fnArgs s_order) (C8.fnBody s_order) (C8.fnScope s_order) .none kV_order dc_order pm_order an_order cd_order ct_order), sl_order⟩)
    (c_order : PySem.W.codeIn K cd_order "row_order" = true)
    (k_order : PySem.W.keepIn K (.ref f_order) = true)
    (a_origin : PySem.W.nsIn K mainGlobals "origin" = some (some (.ref f_origin)))
    (l_origin : K.lookup f_origin = some ⟨oc_origin, od_origin, .func (PySem.W.fnOf "origin" "origin" (C8.fnArgs s_origin) (C8.fnBody s_origin) (C8.fnScope s_origin) .none kV_origin dc_origin pm_origin an_origin cd_origin ct_origin), sl_origin⟩)
    (c_origin : PySem.W.codeIn K cd_origin "origin" = true)
    (k_origin : PySem.W.keepIn K (.ref f_origin) = true)
    (a_origins : PySem.W.nsIn K mainGlobals "origins" = some (some (.ref f_origins)))
    (l_origins : K.lookup f_origins = some ⟨oc_origins, od_origins, .func (PySem.W.fnOf "origins" "origins" (C8.fnArgs s_origins) (C8.fnBody s_origins) (C8.fnScope s_origins) .none kV_origins dc_origins pm_origins an_origins cd_origins ct_origins), sl_origins⟩)
    (c_origins : PySem.W.codeIn K cd_origins "origins" = true)
    (k_origins : PySem.W.keepIn K (.ref f_origins) = true)
    (a_wbs : PySem.W.nsIn K mainGlobals "_ways_behind_a_sign" = some (some (.ref f_wbs)))
    (l_wbs : K.lookup f_wbs = some ⟨oc_wbs, od_wbs, .func (PySem.W.fnOf "_ways_behind_a_sign" "_ways_behind_a_sign" (C8.fnArgs s_wbs) (C8.fnBody s_wbs) (C8.fnScope s_wbs) .none kV_wbs dc_wbs pm_wbs an_wbs cd_wbs ct_wbs), sl_wbs⟩)
    (c_wbs : PySem.W.codeIn K cd_wbs "_ways_behind_a_sign" = true)
    (k_wbs : PySem.W.keepIn K (.ref f_wbs) = true)
    (a_image : PySem.W.nsIn K mainGlobals "_law_image" = some (some (.ref f_image)))
    (l_image : K.lookup f_image = some ⟨oc_image, od_image, .func (PySem.W.fnOf "_law_image" "_law_image" (C8.fnArgs s_image) (C8.fnBody s_image) (C8.fnScope s_image) .none kV_image dc_image pm_image an_image cd_image ct_image), sl_image⟩)
    (c_image : PySem.W.codeIn K cd_image "_law_image" = true)
    (k_image : PySem.W.keepIn K (.ref f_image) = true)
    (a_rows : PySem.W.nsIn K mainGlobals "_law_rows" = some (some (.ref f_rows)))
    (l_rows : K.lookup f_rows = some ⟨oc_rows, od_rows, .func (PySem.W.fnOf "_law_rows" "_law_rows" (C8.fnArgs s_rows) (C8.fnBody s_rows) (C8.fnScope s_rows) .none kV_rows dc_rows pm_rows an_rows cd_rows ct_rows), sl_rows⟩)
    (c_rows : PySem.W.codeIn K cd_rows "_law_rows" = true)
    (k_rows : PySem.W.keepIn K (.ref f_rows) = true)
    (a_names : PySem.W.nsIn K mainGlobals "_law_names_right" = some (some (.ref f_names)))
    (l_names : K.lookup f_names = some ⟨oc_names, od_names, .func (PySem.W.fnOf "_law_names_right" "_law_names_right" (C8.fnArgs s_names) (C8.fnBody s_names) (C8.fnScope s_names) .none kV_names dc_names pm_names an_names cd_names ct_names), sl_names⟩)
    (c_names : PySem.W.codeIn K cd_names "_law_names_right" = true)
    (k_names : PySem.W.keepIn K (.ref f_names) = true)
    (a_law : PySem.W.nsIn K mainGlobals "law" = some (some (.ref f_law)))
    (l_law : K.lookup f_law = some ⟨oc_law, od_law, .func (PySem.W.fnOf "law" "law" (C8.fnArgs s_law) (C8.fnBody s_law) (C8.fnScope s_law) .none kV_law dc_law pm_law an_law cd_law ct_law), sl_law⟩)
    (c_law : PySem.W.codeIn K cd_law "law" = true)
    (k_law : PySem.W.keepIn K (.ref f_law) = true)
    (z_int : PySem.W.nsIn K mainGlobals "int" = some none)
    (z_len : PySem.W.nsIn K mainGlobals "len" = some none)
    (z_abs : PySem.W.nsIn K mainGlobals "abs" = some none)
    (z_str : PySem.W.nsIn K mainGlobals "str" = some none)
    (z_list : PySem.W.nsIn K mainGlobals "list" = some none)
    (z_tuple : PySem.W.nsIn K mainGlobals "tuple" = some none)
    (z_isinstance : PySem.W.nsIn K mainGlobals "isinstance" = some none)
    (z_all : PySem.W.nsIn K mainGlobals "all" = some none)
    (z_zip : PySem.W.nsIn K mainGlobals "zip" = some none)
    (z_range : PySem.W.nsIn K mainGlobals "range" = some none)
    (z_max : PySem.W.nsIn K mainGlobals "max" = some none)
    (z_min : PySem.W.nsIn K mainGlobals "min" = some none)
    (z_repr : PySem.W.nsIn K mainGlobals "repr" = some none)
    (z_sorted : PySem.W.nsIn K mainGlobals "sorted" = some none)
    (z_set : PySem.W.nsIn K mainGlobals "set" = some none)
    (z_enumerate : PySem.W.nsIn K mainGlobals "enumerate" = some none)
    (z_dict : PySem.W.nsIn K mainGlobals "dict" = some none)
    (z_reversed : PySem.W.nsIn K mainGlobals "reversed" = some none) :
    ∃ fd : FuncData, (∀ (s : Shared) (v : Value), BindsTo s fd ⟨[v], []⟩ [("_law_script", v)]) ∧ ∀ base : Heap, K.In base → base.Ns mainGlobals mg → FnOk l.prog w K mg base C8.CX0 8 fa fd ["_law_script"] (spLaw K) := by
  have e := hfa.symm.trans (PySem.W.mg_of X G a_law)
  cases e
  have T : BT mg := ⟨PySem.W.mg_none_of X G z_int, PySem.W.mg_none_of X G z_len, PySem.W.mg_none_of X G z_abs, PySem.W.mg_none_of X G z_str, PySem.W.mg_none_of X G z_list, PySem.W.mg_none_of X G z_tuple, PySem.W.mg_none_of X G z_isinstance, PySem.W.mg_none_of X G z_all, PySem.W.mg_none_of X G z_zip, PySem.W.mg_none_of X G z_range, PySem.W.mg_none_of X G z_max, PySem.W.mg_none_of X G z_min, PySem.W.mg_none_of X G z_repr, PySem.W.mg_none_of X G z_sorted, PySem.W.mg_none_of X G z_set, PySem.W.mg_none_of X G z_enumerate, PySem.W.mg_none_of X G z_dict, PySem.W.mg_none_of X G z_reversed⟩
  have mg_az := PySem.W.mg_of X G q_az
  have U_choose : C8.Fun K "_law_choose" "_law_choose" s_choose f_choose (PySem.W.fnOf "_law_choose" "_law_choose" (C8.fnArgs s_choose) (C8.fnBody s_choose) (C8.fnScope s_choose) .none kV_choose dc_choose pm_choose an_choose cd_choose ct_choose) := ⟨oc_choose, od_choose, .none, kV_choose, dc_choose, pm_choose, an_choose, cd_choose, ct_choose, sl_choose, rfl, l_choose, c_choose⟩
  have F_choose : C8.Def K mg "_law_choose" s_choose f_choose _ := ⟨U_choose, PySem.W.mg_of X G a_choose, k_choose⟩
  have b_choose := U_choose.binds rfl (ps := ["_law_box", "_law_many"]) fun _ _ _ _ _ _ us hl => match us, hl with | [_, _], _ => rfl
  have U_one_of : C8.Fun K "_law_one_of" "_law_one_of" s_one_of f_one_of (PySem.W.fnOf "_law_one_of" "_law_one_of" (C8.fnArgs s_one_of) (C8.fnBody s_one_of) (C8.fnScope s_one_of) .none kV_one_of dc_one_of pm_one_of an_one_of cd_one_of ct_one_of) := ⟨oc_one_of, od_one_of, .none, kV_one_of, dc_one_of, pm_one_of, an_one_of, cd_one_of, ct_one_of, sl_one_of, rfl, l_one_of, c_one_of⟩
  have F_one_of : C8.Def K mg "_law_one_of" s_one_of f_one_of _ := ⟨U_one_of, PySem.W.mg_of X G a_one_of, k_one_of⟩
  have b_one_of := U_one_of.binds rfl (ps := ["_law_box", "_law_some"]) fun _ _ _ _ _ _ us hl => match us, hl with | [_, _], _ => rfl
  have U_seed : C8.Fun K "_law_seed" "_law_seed" s_seed f_seed (PySem.W.fnOf "_law_seed" "_law_seed" (C8.fnArgs s_seed) (C8.fnBody s_seed) (C8.fnScope s_seed) .none kV_seed dc_seed pm_seed an_seed cd_seed ct_seed) := ⟨oc_seed, od_seed, .none, kV_seed, dc_seed, pm_seed, an_seed, cd_seed, ct_seed, sl_seed, rfl, l_seed, c_seed⟩
  have F_seed : C8.Def K mg "_law_seed" s_seed f_seed _ := ⟨U_seed, PySem.W.mg_of X G a_seed, k_seed⟩
  have b_seed := U_seed.binds rfl (ps := ["_law_script", "_law_k"]) fun _ _ _ _ _ _ us hl => match us, hl with | [_, _], _ => rfl
  have U_signs : C8.Fun K "_law_signs" "_law_signs" s_signs f_signs (PySem.W.fnOf "_law_signs" "_law_signs" (C8.fnArgs s_signs) (C8.fnBody s_signs) (C8.fnScope s_signs) .none kV_signs dc_signs pm_signs an_signs cd_signs ct_signs) := ⟨oc_signs, od_signs, .none, kV_signs, dc_signs, pm_signs, an_signs, cd_signs, ct_signs, sl_signs, rfl, l_signs, c_signs⟩
  have F_signs : C8.Def K mg "_law_signs" s_signs f_signs _ := ⟨U_signs, PySem.W.mg_of X G a_signs, k_signs⟩
  have b_signs := U_signs.binds rfl (ps := ["_law_box"]) fun _ _ _ _ _ _ us hl => match us, hl with | [_], _ => rfl
  have U_row : C8.Fun K "_law_row" "_law_row" s_row f_row (PySem.W.fnOf "_law_row" "_law_row" (C8.fnArgs s_row) (C8.fnBody s_row) (C8.fnScope s_row) .none kV_row dc_row pm_row an_row cd_row ct_row) := ⟨oc_row, od_row, .none, kV_row, dc_row, pm_row, an_row, cd_row, ct_row, sl_row, rfl, l_row, c_row⟩
  have F_row : C8.Def K mg "_law_row" s_row f_row _ := ⟨U_row, PySem.W.mg_of X G a_row, k_row⟩
  have b_row := U_row.binds rfl (ps := ["_law_box", "_law_signs_here", "_law_most"]) fun _ _ _ _ _ _ us hl => match us, hl with | [_, _, _], _ => rfl
  have U_images : C8.Fun K "_law_images" "_law_images" s_images f_images (PySem.W.fnOf "_law_images" "_law_images" (C8.fnArgs s_images) (C8.fnBody s_images) (C8.fnScope s_images) .none kV_images dc_images pm_images an_images cd_images ct_images) := ⟨oc_images, od_images, .none, kV_images, dc_images, pm_images, an_images, cd_images, ct_images, sl_images, rfl, l_images, c_images⟩
  have F_images : C8.Def K mg "_law_images" s_images f_images _ := ⟨U_images, PySem.W.mg_of X G a_images, k_images⟩
  have b_images := U_images.binds rfl (ps := ["_law_box", "_law_signs_here", "_law_most"]) fun _ _ _ _ _ _ us hl => match us, hl with | [_, _, _], _ => rfl
  have U_isseq : C8.Fun K "is_sequence" "is_sequence" s_isseq f_isseq (PySem.W.fnOf "is_sequence" "is_sequence" (C8.fnArgs s_isseq) (C8.fnBody s_isseq) (C8.fnScope s_isseq) .none kV_isseq dc_isseq pm_isseq an_isseq cd_isseq ct_isseq) := ⟨oc_isseq, od_isseq, .none, kV_isseq, dc_isseq, pm_isseq, an_isseq, cd_isseq, ct_isseq, sl_isseq, rfl, l_isseq, c_isseq⟩
  have F_isseq : C8.Def K mg "is_sequence" s_isseq f_isseq _ := ⟨U_isseq, PySem.W.mg_of X G a_isseq, k_isseq⟩
  have b_isseq := U_isseq.binds rfl (ps := ["value"]) fun _ _ _ _ _ _ us hl => match us, hl with | [_], _ => rfl
  have U_isrow : C8.Fun K "is_row" "is_row" s_isrow f_isrow (PySem.W.fnOf "is_row" "is_row" (C8.fnArgs s_isrow) (C8.fnBody s_isrow) (C8.fnScope s_isrow) .none kV_isrow dc_isrow pm_isrow an_isrow cd_isrow ct_isrow) := ⟨oc_isrow, od_isrow, .none, kV_isrow, dc_isrow, pm_isrow, an_isrow, cd_isrow, ct_isrow, sl_isrow, rfl, l_isrow, c_isrow⟩
  have F_isrow : C8.Def K mg "is_row" s_isrow f_isrow _ := ⟨U_isrow, PySem.W.mg_of X G a_isrow, k_isrow⟩
  have b_isrow := U_isrow.binds rfl (ps := ["value", "signs"]) fun _ _ _ _ _ _ us hl => match us, hl with | [_, _], _ => rfl
  have U_isletters : C8.Fun K "is_letters" "is_letters" s_isletters f_isletters (PySem.W.fnOf "is_letters" "is_letters" (C8.fnArgs s_isletters) (C8.fnBody s_isletters) (C8.fnScope s_isletters) .none kV_isletters dc_isletters pm_isletters an_isletters cd_isletters ct_isletters) := ⟨oc_isletters, od_isletters, .none, kV_isletters, dc_isletters, pm_isletters, an_isletters, cd_isletters, ct_isletters, sl_isletters, rfl, l_isletters, c_isletters⟩
  have F_isletters : C8.Def K mg "is_letters" s_isletters f_isletters _ := ⟨U_isletters, PySem.W.mg_of X G a_isletters, k_isletters⟩
  have b_isletters := U_isletters.binds rfl (ps := ["value"]) fun _ _ _ _ _ _ us hl => match us, hl with | [_], _ => rfl
  have U_issigns : C8.Fun K "is_signs" "is_signs" s_issigns f_issigns (PySem.W.fnOf "is_signs" "is_signs" (C8.fnArgs s_issigns) (C8.fnBody s_issigns) (C8.fnScope s_issigns) .none kV_issigns dc_issigns pm_issigns an_issigns cd_issigns ct_issigns) := ⟨oc_issigns, od_issigns, .none, kV_issigns, dc_issigns, pm_issigns, an_issigns, cd_issigns, ct_issigns, sl_issigns, rfl, l_issigns, c_issigns⟩
  have F_issigns : C8.Def K mg "is_signs" s_issigns f_issigns _ := ⟨U_issigns, PySem.W.mg_of X G a_issigns, k_issigns⟩
  have b_issigns := U_issigns.binds rfl (ps := ["value"]) fun _ _ _ _ _ _ us hl => match us, hl with | [_], _ => rfl
  have U_isrows : C8.Fun K "is_rows" "is_rows" s_isrows f_isrows (PySem.W.fnOf "is_rows" "is_rows" (C8.fnArgs s_isrows) (C8.fnBody s_isrows) (C8.fnScope s_isrows) .none kV_isrows dc_isrows pm_isrows an_isrows cd_isrows ct_isrows) := ⟨oc_isrows, od_isrows, .none, kV_isrows, dc_isrows, pm_isrows, an_isrows, cd_isrows, ct_isrows, sl_isrows, rfl, l_isrows, c_isrows⟩
  have F_isrows : C8.Def K mg "is_rows" s_isrows f_isrows _ := ⟨U_isrows, PySem.W.mg_of X G a_isrows, k_isrows⟩
  have b_isrows := U_isrows.binds rfl (ps := ["value", "signs"]) fun _ _ _ _ _ _ us hl => match us, hl with | [_, _], _ => rfl
  have U_tupof : C8.Fun K "is_tuple_of" "is_tuple_of" s_tupof f_tupof (PySem.W.fnOf "is_tuple_of" "is_tuple_of" (C8.fnArgs s_tupof) (C8.fnBody s_tupof) (C8.fnScope s_tupof) .none kV_tupof dc_tupof pm_tupof an_tupof cd_tupof ct_tupof) := ⟨oc_tupof, od_tupof, .none, kV_tupof, dc_tupof, pm_tupof, an_tupof, cd_tupof, ct_tupof, sl_tupof, rfl, l_tupof, c_tupof⟩
  have F_tupof : C8.Def K mg "is_tuple_of" s_tupof f_tupof _ := ⟨U_tupof, PySem.W.mg_of X G a_tupof, k_tupof⟩
  have b_tupof := U_tupof.binds rfl (ps := ["value", "many"]) fun _ _ _ _ _ _ us hl => match us, hl with | [_, _], _ => rfl
  have U_init : C8.Fun K "__init__" "Change.__init__" s_init f_init (PySem.W.fnOf "__init__" "Change.__init__" (C8.fnArgs s_init) (C8.fnBody s_init) (C8.fnScope s_init) .none kV_init dc_init pm_init an_init cd_init ct_init) := ⟨oc_init, od_init, .none, kV_init, dc_init, pm_init, an_init, cd_init, ct_init, sl_init, rfl, l_init, c_init⟩
  have me_init : Meth K C_Change "__init__" f_init := ⟨a_init, i_init, k_init⟩
  have b_init := U_init.binds rfl (ps := ["self", "signs", "rows"]) fun _ _ _ _ _ _ us hl => match us, hl with | [_, _, _], _ => rfl
  have U_xic : C8.Fun K "__init__" "InvalidChange.__init__" s_xic f_xic (PySem.W.fnOf "__init__" "InvalidChange.__init__" (C8.fnArgs s_xic) (C8.fnBody s_xic) (C8.fnScope s_xic) .none kV_xic dc_xic pm_xic an_xic cd_xic ct_xic) := ⟨oc_xic, od_xic, .none, kV_xic, dc_xic, pm_xic, an_xic, cd_xic, ct_xic, sl_xic, rfl, l_xic, c_xic⟩
  have me_xic : Meth K C_InvalidChange "__init__" f_xic := ⟨a_xic, i_xic, k_xic⟩
  have b_xic := U_xic.binds rfl (ps := ["self", "word"]) fun _ _ _ _ _ _ us hl => match us, hl with | [_, _], _ => rfl
  have U_xit : C8.Fun K "__init__" "InvalidText.__init__" s_xit f_xit (PySem.W.fnOf "__init__" "InvalidText.__init__" (C8.fnArgs s_xit) (C8.fnBody s_xit) (C8.fnScope s_xit) .none kV_xit dc_xit pm_xit an_xit cd_xit ct_xit) := ⟨oc_xit, od_xit, .none, kV_xit, dc_xit, pm_xit, an_xit, cd_xit, ct_xit, sl_xit, rfl, l_xit, c_xit⟩
  have me_xit : Meth K C_InvalidText "__init__" f_xit := ⟨a_xit, i_xit, k_xit⟩
  have b_xit := U_xit.binds rfl (ps := ["self", "at"]) fun _ _ _ _ _ _ us hl => match us, hl with | [_, _], _ => rfl
  have U_iot : C8.Fun K "images_of_text" "images_of_text" s_iot f_iot (PySem.W.fnOf "images_of_text" "images_of_text" (C8.fnArgs s_iot) (C8.fnBody s_iot) (C8.fnScope s_iot) .none kV_iot dc_iot pm_iot an_iot cd_iot ct_iot) := ⟨oc_iot, od_iot, .none, kV_iot, dc_iot, pm_iot, an_iot, cd_iot, ct_iot, sl_iot, rfl, l_iot, c_iot⟩
  have F_iot : C8.Def K mg "images_of_text" s_iot f_iot _ := ⟨U_iot, PySem.W.mg_of X G a_iot, k_iot⟩
  have b_iot := U_iot.binds rfl (ps := ["signs", "text"]) fun _ _ _ _ _ _ us hl => match us, hl with | [_, _], _ => rfl
  have U_parse : C8.Fun K "parse" "Change.parse" s_parse f_parse (PySem.W.fnOf "parse" "Change.parse" (C8.fnArgs s_parse) (C8.fnBody s_parse) (C8.fnScope s_parse) .none kV_parse dc_parse pm_parse an_parse cd_parse ct_parse) := ⟨oc_parse, od_parse, .none, kV_parse, dc_parse, pm_parse, an_parse, cd_parse, ct_parse, sl_parse, rfl, l_parse, c_parse⟩
  have b_parse := U_parse.binds rfl (ps := ["cls", "signs", "text"]) fun _ _ _ _ _ _ us hl => match us, hl with | [_, _, _], _ => rfl
  have U_str : C8.Fun K "__str__" "Change.__str__" s_str f_str (PySem.W.fnOf "__str__" "Change.__str__" (C8.fnArgs s_str) (C8.fnBody s_str) (C8.fnScope s_str) .none kV_str dc_str pm_str an_str cd_str ct_str) := ⟨oc_str, od_str, .none, kV_str, dc_str, pm_str, an_str, cd_str, ct_str, sl_str, rfl, l_str, c_str⟩
  have me_str : Meth K C_Change "__str__" f_str := ⟨a_str, i_str, k_str⟩
  have b_str := U_str.binds rfl (ps := ["self"]) fun _ _ _ _ _ _ us hl => match us, hl with | [_], _ => rfl
  have U_eq : C8.Fun K "__eq__" "Change.__eq__" s_eq f_eq (PySem.W.fnOf "__eq__" "Change.__eq__" (C8.fnArgs s_eq) (C8.fnBody s_eq) (C8.fnScope s_eq) .none kV_eq dc_eq pm_eq an_eq cd_eq ct_eq) := ⟨oc_eq, od_eq, .none, kV_eq, dc_eq, pm_eq, an_eq, cd_eq, ct_eq, sl_eq, rfl, l_eq, c_eq⟩
  have me_eq : Meth K C_Change "__eq__" f_eq := ⟨a_eq, i_eq, k_eq⟩
  have b_eq := U_eq.binds rfl (ps := ["self", "other"]) fun _ _ _ _ _ _ us hl => match us, hl with | [_, _], _ => rfl
  have U_of : C8.Fun K "of" "Change.of" s_of f_of (PySem.W.fnOf "of" "Change.of" (C8.fnArgs s_of) (C8.fnBody s_of) (C8.fnScope s_of) .none kV_of dc_of pm_of an_of cd_of ct_of) := ⟨oc_of, od_of, .none, kV_of, dc_of, pm_of, an_of, cd_of, ct_of, sl_of, rfl, l_of, c_of⟩
  have me_of : Meth K C_Change "of" f_of := ⟨a_of, i_of, k_of⟩
  have b_of := U_of.binds rfl (ps := ["self", "row"]) fun _ _ _ _ _ _ us hl => match us, hl with | [_, _], _ => rfl
  have U_first : C8.Fun K "_first_rests" "_first_rests" s_first f_first (PySem.W.fnOf "_first_rests" "_first_rests" (C8.fnArgs s_first) (C8.fnBody s_first) (C8.fnScope s_first) .none kV_first dc_first pm_first an_first cd_first ct_first) := ⟨oc_first, od_first, .none, kV_first, dc_first, pm_first, an_first, cd_first, ct_first, sl_first, rfl, l_first, c_first⟩
  have F_first : C8.Def K mg "_first_rests" s_first f_first _ := ⟨U_first, PySem.W.mg_of X G a_first, k_first⟩
  have b_first := U_first.binds rfl (ps := ["change"]) fun _ _ _ _ _ _ us hl => match us, hl with | [_], _ => rfl
  have U_next : C8.Fun K "_next_rests" "_next_rests" s_next f_next (PySem.W.fnOf "_next_rests" "_next_rests" (C8.fnArgs s_next) (C8.fnBody s_next) (C8.fnScope s_next) .none kV_next dc_next pm_next an_next cd_next ct_next) := ⟨oc_next, od_next, .none, kV_next, dc_next, pm_next, an_next, cd_next, ct_next, sl_next, rfl, l_next, c_next⟩
  have F_next : C8.Def K mg "_next_rests" s_next f_next _ := ⟨U_next, PySem.W.mg_of X G a_next, k_next⟩
  have b_next := U_next.binds rfl (ps := ["change", "rest", "longer", "shorter"]) fun _ _ _ _ _ _ us hl => match us, hl with | [_, _, _, _], _ => rfl
  have U_ways : C8.Fun K "_ways_to_rests" "_ways_to_rests" s_ways f_ways (PySem.W.fnOf "_ways_to_rests" "_ways_to_rests" (C8.fnArgs s_ways) (C8.fnBody s_ways) (C8.fnScope s_ways) .none kV_ways dc_ways pm_ways an_ways cd_ways ct_ways) := ⟨oc_ways, od_ways, .none, kV_ways, dc_ways, pm_ways, an_ways, cd_ways, ct_ways, sl_ways, rfl, l_ways, c_ways⟩
  have F_ways : C8.Def K mg "_ways_to_rests" s_ways f_ways _ := ⟨U_ways, PySem.W.mg_of X G a_ways, k_ways⟩
  have b_ways := U_ways.binds rfl (ps := ["change"]) fun _ _ _ _ _ _ us hl => match us, hl with | [_], _ => rfl
  have U_rests : C8.Fun K "rests" "rests" s_rests f_rests (PySem.W.fnOf "rests" "rests" (C8.fnArgs s_rests) (C8.fnBody s_rests) (C8.fnScope s_rests) .none kV_rests dc_rests pm_rests an_rests cd_rests ct_rests) := ⟨oc_rests, od_rests, .none, kV_rests, dc_rests, pm_rests, an_rests, cd_rests, ct_rests, sl_rests, rfl, l_rests, c_rests⟩
  have F_rests : C8.Def K mg "rests" s_rests f_rests _ := ⟨U_rests, PySem.W.mg_of X G a_rests, k_rests⟩
  have b_rests := U_rests.binds rfl (ps := ["change"]) fun _ _ _ _ _ _ us hl => match us, hl with | [_], _ => rfl
  have U_clash : C8.Fun K "clash" "clash" s_clash f_clash (PySem.W.fnOf "clash" "clash" (C8.fnArgs s_clash) (C8.fnBody s_clash) (C8.fnScope s_clash) .none kV_clash dc_clash pm_clash an_clash cd_clash ct_clash) := ⟨oc_clash, od_clash, .none, kV_clash, dc_clash, pm_clash, an_clash, cd_clash, ct_clash, sl_clash, rfl, l_clash, c_clash⟩
  have F_clash : C8.Def K mg "clash" s_clash f_clash _ := ⟨U_clash, PySem.W.mg_of X G a_clash, k_clash⟩
  have b_clash := U_clash.binds rfl (ps := ["change"]) fun _ _ _ _ _ _ us hl => match us, hl with | [_], _ => rfl
  have U_clear : C8.Fun K "is_clear" "is_clear" s_clear f_clear (PySem.W.fnOf "is_clear" "is_clear" (C8.fnArgs s_clear) (C8.fnBody s_clear) (C8.fnScope s_clear) .none kV_clear dc_clear pm_clear an_clear cd_clear ct_clear) := ⟨oc_clear, od_clear, .none, kV_clear, dc_clear, pm_clear, an_clear, cd_clear, ct_clear, sl_clear, rfl, l_clear, c_clear⟩
  have F_clear : C8.Def K mg "is_clear" s_clear f_clear _ := ⟨U_clear, PySem.W.mg_of X G a_clear, k_clear⟩
  have b_clear := U_clear.binds rfl (ps := ["change"]) fun _ _ _ _ _ _ us hl => match us, hl with | [_], _ => rfl
  have U_holds : C8.Fun K "clash_holds" "clash_holds" s_holds f_holds (PySem.W.fnOf "clash_holds" "clash_holds" (C8.fnArgs s_holds) (C8.fnBody s_holds) (C8.fnScope s_holds) .none kV_holds dc_holds pm_holds an_holds cd_holds ct_holds) := ⟨oc_holds, od_holds, .none, kV_holds, dc_holds, pm_holds, an_holds, cd_holds, ct_holds, sl_holds, rfl, l_holds, c_holds⟩
  have F_holds : C8.Def K mg "clash_holds" s_holds f_holds _ := ⟨U_holds, PySem.W.mg_of X G a_holds, k_holds⟩
  have b_holds := U_holds.binds rfl (ps := ["change", "value"]) fun _ _ _ _ _ _ us hl => match us, hl with | [_, _], _ => rfl
  have U_order : C8.Fun K "row_order" "row_order" s_order f_order (PySem.W.fnOf "row_order" "row_order" (C8.fnArgs s_order) (C8.fnBody s_order) (C8.fnScope s_order) .none kV_order dc_order pm_order an_order cd_order ct_order) := ⟨oc_order, od_order, .none, kV_order, dc_order, pm_order, an_order, cd_order, ct_order, sl_order, rfl, l_order, c_order⟩
  have F_order : C8.Def K mg "row_order" s_order f_order _ := ⟨U_order, PySem.W.mg_of X G a_order, k_order⟩
  have b_order := U_order.binds rfl (ps := ["row"]) fun _ _ _ _ _ _ us hl => match us, hl with | [_], _ => rfl
  have U_origin : C8.Fun K "origin" "origin" s_origin f_origin (PySem.W.fnOf "origin" "origin" (C8.fnArgs s_origin) (C8.fnBody s_origin) (C8.fnScope s_origin) .none kV_origin dc_origin pm_origin an_origin cd_origin ct_origin) := ⟨oc_origin, od_origin, .none, kV_origin, dc_origin, pm_origin, an_origin, cd_origin, ct_origin, sl_origin, rfl, l_origin, c_origin⟩
  have F_origin : C8.Def K mg "origin" s_origin f_origin _ := ⟨U_origin, PySem.W.mg_of X G a_origin, k_origin⟩
  have b_origin := U_origin.binds rfl (ps := ["change", "row"]) fun _ _ _ _ _ _ us hl => match us, hl with | [_, _], _ => rfl
  have U_origins : C8.Fun K "origins" "origins" s_origins f_origins (PySem.W.fnOf "origins" "origins" (C8.fnArgs s_origins) (C8.fnBody s_origins) (C8.fnScope s_origins) .none kV_origins dc_origins pm_origins an_origins cd_origins ct_origins) := ⟨oc_origins, od_origins, .none, kV_origins, dc_origins, pm_origins, an_origins, cd_origins, ct_origins, sl_origins, rfl, l_origins, c_origins⟩
  have F_origins : C8.Def K mg "origins" s_origins f_origins _ := ⟨U_origins, PySem.W.mg_of X G a_origins, k_origins⟩
  have b_origins := U_origins.binds rfl (ps := ["change", "row", "most"]) fun _ _ _ _ _ _ us hl => match us, hl with | [_, _, _], _ => rfl
  have U_wbs : C8.Fun K "_ways_behind_a_sign" "_ways_behind_a_sign" s_wbs f_wbs (PySem.W.fnOf "_ways_behind_a_sign" "_ways_behind_a_sign" (C8.fnArgs s_wbs) (C8.fnBody s_wbs) (C8.fnScope s_wbs) .none kV_wbs dc_wbs pm_wbs an_wbs cd_wbs ct_wbs) := ⟨oc_wbs, od_wbs, .none, kV_wbs, dc_wbs, pm_wbs, an_wbs, cd_wbs, ct_wbs, sl_wbs, rfl, l_wbs, c_wbs⟩
  have F_wbs : C8.Def K mg "_ways_behind_a_sign" s_wbs f_wbs _ := ⟨U_wbs, PySem.W.mg_of X G a_wbs, k_wbs⟩
  have b_wbs := U_wbs.binds rfl (ps := ["change", "row", "ways"]) fun _ _ _ _ _ _ us hl => match us, hl with | [_, _, _], _ => rfl
  have U_image : C8.Fun K "_law_image" "_law_image" s_image f_image (PySem.W.fnOf "_law_image" "_law_image" (C8.fnArgs s_image) (C8.fnBody s_image) (C8.fnScope s_image) .none kV_image dc_image pm_image an_image cd_image ct_image) := ⟨oc_image, od_image, .none, kV_image, dc_image, pm_image, an_image, cd_image, ct_image, sl_image, rfl, l_image, c_image⟩
  have F_image : C8.Def K mg "_law_image" s_image f_image _ := ⟨U_image, PySem.W.mg_of X G a_image, k_image⟩
  have b_image := U_image.binds rfl (ps := ["_law_signs_here", "_law_images_here", "_law_row_here"]) fun _ _ _ _ _ _ us hl => match us, hl with | [_, _, _], _ => rfl
  have U_rows : C8.Fun K "_law_rows" "_law_rows" s_rows f_rows (PySem.W.fnOf "_law_rows" "_law_rows" (C8.fnArgs s_rows) (C8.fnBody s_rows) (C8.fnScope s_rows) .none kV_rows dc_rows pm_rows an_rows cd_rows ct_rows) := ⟨oc_rows, od_rows, .none, kV_rows, dc_rows, pm_rows, an_rows, cd_rows, ct_rows, sl_rows, rfl, l_rows, c_rows⟩
  have F_rows : C8.Def K mg "_law_rows" s_rows f_rows _ := ⟨U_rows, PySem.W.mg_of X G a_rows, k_rows⟩
  have b_rows := U_rows.binds rfl (ps := ["_law_signs_here", "_law_most"]) fun _ _ _ _ _ _ us hl => match us, hl with | [_, _], _ => rfl
  have U_names : C8.Fun K "_law_names_right" "_law_names_right" s_names f_names (PySem.W.fnOf "_law_names_right" "_law_names_right" (C8.fnArgs s_names) (C8.fnBody s_names) (C8.fnScope s_names) .none kV_names dc_names pm_names an_names cd_names ct_names) := ⟨oc_names, od_names, .none, kV_names, dc_names, pm_names, an_names, cd_names, ct_names, sl_names, rfl, l_names, c_names⟩
  have F_names : C8.Def K mg "_law_names_right" s_names f_names _ := ⟨U_names, PySem.W.mg_of X G a_names, k_names⟩
  have b_names := U_names.binds rfl (ps := ["_law_zsigns", "_law_zimages", "_law_zrow"]) fun _ _ _ _ _ _ us hl => match us, hl with | [_, _, _], _ => rfl
  have U_law : C8.Fun K "law" "law" s_law fa (PySem.W.fnOf "law" "law" (C8.fnArgs s_law) (C8.fnBody s_law) (C8.fnScope s_law) .none kV_law dc_law pm_law an_law cd_law ct_law) := ⟨oc_law, od_law, .none, kV_law, dc_law, pm_law, an_law, cd_law, ct_law, sl_law, rfl, l_law, c_law⟩
  have F_law : C8.Def K mg "law" s_law fa _ := ⟨U_law, PySem.W.mg_of X G a_law, k_law⟩
  have b_law := U_law.binds rfl (ps := ["_law_script"]) fun _ _ _ _ _ _ us hl => match us, hl with | [_], _ => rfl
  have Cl_Change : Cls K C_Change := ⟨pg_Change, hd_Change, po_Change, sa_Change⟩
  have mg_Change := PySem.W.mg_of X G g_Change
  have M_Change : Mk K C_Change f_init := ⟨mk_Change, a_init, i_init, kc_Change⟩
  have I_Change : C8.InsC K C_Change := ⟨Cl_Change, ha_Change, hn_Change, tk_Change, hm_Change, if_pos (beq_self_eq_true _)⟩
  have N_Change : NeC K C_Change := ⟨ne_Change, hm_Change, sf_Change⟩
  refine ⟨PySem.W.fnOf "law" "law" (C8.fnArgs s_law) (C8.fnBody s_law) (C8.fnScope s_law) .none kV_law dc_law pm_law an_law cd_law ct_law, fun s v => .of_eq rfl, fun base _ _ => ?_⟩
  have CH : CC K C_Change := ⟨Cl_Change, n_Change_signs, n_Change_rows⟩
  have c_choose := ok_choose (P := l.prog) (w := w) (base := base) T F_choose b_choose
  have c_one_of := ok_one T c_choose F_one_of b_one_of
  have c_seed := ok_seed (P := l.prog) (w := w) (base := base) T F_seed b_seed
  have c_signs := ok_signs T c_one_of F_signs b_signs
  have c_row := ok_row T c_choose c_one_of F_row b_row
  have c_images := ok_images T c_choose c_one_of c_row F_images b_images
  have c_isseq := ok_isseqD (P := l.prog) (w := w) (base := base) T F_isseq b_isseq
  have c_isrow := ok_isrowD (P := l.prog) (w := w) (base := base) T F_isrow b_isrow
  have c_isletters := ok_islettersD T mg_az c_isrow F_isletters b_isletters
  have c_issigns := ok_issignsD T c_isletters F_issigns b_issigns
  have c_isrows := ok_isrowsD T c_isseq c_isrow F_isrows b_isrows
  have x_IC : XQ K mg "InvalidChange" C_InvalidChange := ⟨xc_InvalidChange, PySem.W.mg_of X G xg_InvalidChange⟩
  have x_IT : XQ K mg "InvalidText" C_InvalidText := ⟨xc_InvalidText, PySem.W.mg_of X G xg_InvalidText⟩
  have c_IC := ok_xic (P := l.prog) (w := w) (base := base) x_IC xf_InvalidChange a_xic (beq_iff_eq.mp i_xic) U_xic b_xic
  have c_IT := ok_xit (P := l.prog) (w := w) (base := base) x_IT xf_InvalidText a_xit (beq_iff_eq.mp i_xit) U_xit b_xit
  have c_Change := ok_makeA T CH c_IC c_issigns c_isrows M_Change mg_Change U_init b_init
  have c_iot := ok_iot T c_isrows F_iot b_iot
  have ck_Change : MakXK l.prog w K mg base 4 "Change" C_Change ["rows", "signs"] revV (spInitA K C_Change C_InvalidChange) := ⟨⟨f_init, _, _, revL, M_Change, ok_initA T CH c_IC c_issigns c_isrows U_init, mg_Change, ⟨fun s us ws X l1 l2 => match us, ws, l1, l2 with | [_], [_, _], _, _ => .of_eq rfl, fun r1 r2 => rev_rel r1 r2⟩⟩⟩
  have ck_of : MetK l.prog w K mg base 1 C_Change "of" ["row"] revV (spOf K C_Change) := ⟨⟨f_of, _, _, revL, Cl_Change, me_of, fn_of T CH U_of, ⟨fun s us ws X l1 l2 => match us, ws, l1, l2 with | [_], [_], _, _ => .of_eq rfl, fun r1 r2 => rev_rel r1 r2⟩⟩⟩
  have ck_parse : CMK l.prog w K mg base 6 C_Change "parse" ["text", "signs"] revV (spParse K C_Change C_InvalidText) := ⟨⟨p_parse, f_parse, _, _, _, revL, ⟨cr_rd, cr_ga⟩, ⟨cm_at, ⟨_, cm_rc⟩, cm_fi⟩, ok_parse T c_IT c_iot c_Change U_parse, ⟨fun s us ws X l1 l2 => match us, ws, l1, l2 with | [_], [_, _], _, _ => .of_eq rfl, fun r1 r2 => rev_rel r1 r2⟩⟩⟩
  have c_tupof := ok_tupof (P := l.prog) (w := w) (base := base) T F_tupof b_tupof
  have c_of := ok_of (P := l.prog) (w := w) (base := base) T CH me_of U_of b_of
  have c_holds := ok_holds T CH c_of c_tupof c_isrows F_holds b_holds
  have c_image := ok_image (P := l.prog) (w := w) (base := base) T F_image b_image
  have c_first := ok_first (P := l.prog) (w := w) (base := base) T CH F_first b_first
  have c_next := ok_next (P := l.prog) (w := w) (base := base) T CH F_next b_next
  have c_ways := ok_ways T CH c_first c_next F_ways b_ways
  have c_rests := ok_rests T CH c_ways F_rests b_rests
  have c_clash := ok_clash T CH c_ways F_clash b_clash
  have c_clear := ok_clear T c_clash F_clear b_clear
  have c_origin := ok_origin (P := l.prog) (w := w) (base := base) T CH F_order.mgf (fn_order T F_order) b_order F_origin b_origin
  have c_wbs := ok_wbs (P := l.prog) (w := w) (base := base) T CH F_wbs b_wbs
  have c_origins := ok_origins T CH c_wbs F_origins b_origins
  have ck_origin : CalK l.prog w K mg base 3 "origin" ["row", "change"] revV (spOrigin K C_Change) := ⟨⟨f_origin, _, _, revL, fn_origin T CH F_order.mgf (fn_order T F_order) b_order F_origin, F_origin.mgf, F_origin.kp, ⟨fun s us ws X l1 l2 => match us, ws, l1, l2 with | [], [_, _], _, _ => .of_eq rfl, fun r1 r2 => rev_rel r1 r2⟩⟩⟩
  have ck_origins : CalK l.prog w K mg base 2 "origins" ["most", "row", "change"] revV (spOrigins K C_Change) := ⟨⟨f_origins, _, _, revL, fn_origins T CH c_wbs F_origins, F_origins.mgf, F_origins.kp, ⟨fun s us ws X l1 l2 => match us, ws, l1, l2 with | [], [_, _, _], _, _ => .of_eq rfl, fun r1 r2 => rev_rel r1 r2⟩⟩⟩
  have ck_clash : CalK l.prog w K mg base 3 "clash" ["change"] revV (spClash K C_Change) := ⟨⟨f_clash, _, _, revL, fn_clash T CH c_ways F_clash, F_clash.mgf, F_clash.kp, ⟨fun s us ws X l1 l2 => match us, ws, l1, l2 with | [], [_], _, _ => .of_eq rfl, fun r1 r2 => rev_rel r1 r2⟩⟩⟩
  have ck_clear : CalK l.prog w K mg base 4 "is_clear" ["change"] revV (spClear K C_Change) := ⟨⟨f_clear, _, _, revL, fn_clear T c_clash F_clear, F_clear.mgf, F_clear.kp, ⟨fun s us ws X l1 l2 => match us, ws, l1, l2 with | [], [_], _, _ => .of_eq rfl, fun r1 r2 => rev_rel r1 r2⟩⟩⟩
  have ck_rests : CalK l.prog w K mg base 3 "rests" ["change"] revV (spRests K C_Change) := ⟨⟨f_rests, _, _, revL, fn_rests T CH c_ways F_rests, F_rests.mgf, F_rests.kp, ⟨fun s us ws X l1 l2 => match us, ws, l1, l2 with | [], [_], _, _ => .of_eq rfl, fun r1 r2 => rev_rel r1 r2⟩⟩⟩
  have ck_holds : CalK l.prog w K mg base 3 "clash_holds" ["value", "change"] revV (spHolds K C_Change) := ⟨⟨f_holds, _, _, revL, fn_holds T CH c_of c_tupof c_isrows F_holds, F_holds.mgf, F_holds.kp, ⟨fun s us ws X l1 l2 => match us, ws, l1, l2 with | [], [_, _], _, _ => .of_eq rfl, fun r1 r2 => rev_rel r1 r2⟩⟩⟩
  have c_str := ok_str (P := l.prog) (w := w) (base := base) T CH me_str U_str b_str
  have c_eq := ok_eq (P := l.prog) (w := w) (base := base) T CH I_Change mg_Change me_eq U_eq b_eq
  have c_rows := ok_rows (P := l.prog) (w := w) (base := base) T F_rows b_rows
  have c_names := ok_names T CH N_Change mg_Change c_Change ck_Change ck_of ck_parse c_str c_eq ck_origin c_origin ck_origins c_origins ck_clash ck_clear ck_rests c_rests ck_holds F_names b_names
  exact ok_law T CH c_seed c_one_of c_signs c_row c_images c_Change c_rows c_names c_image c_origin c_origins c_clear F_law
theorem walk {l : PySem.W.OpenLaw} {q : Program} {loose : List Str} {XP : (Str → Option Value) → Heap → Prop} {YP : World → Heap → Prop} {d : DefRec} {K : Params → PySem.W.Frag} (hn : l.most = some 63) (hdf : d.params.defaults = [])
    (hY : ∀ (w : World) (h : Heap), YP w h → (K w.params).In h)
    (F : ∀ (w : World) (mg : Str → Option Value) (fa : Addr) (h : Heap), (K w.params).In h → h.Ns mainGlobals mg → mg d.name = some (.ref fa) →
      ∃ fd : FuncData, (∀ (s : Shared) (u : Value), BindsTo s fd ⟨[u], []⟩ [("_law_script", u)]) ∧ ∀ base : Heap, (K w.params).In base → base.Ns mainGlobals mg → FnOk l.prog w (K w.params) mg base C8.CX0 8 fa fd ["_law_script"] (spLaw (K w.params))) :
    PySem.W.WalkO q loose XP YP l.row.toRowW d [] (fun f vs => PySem.call f vs) :=
  L2.walk_of (n := 63) (k := 8) (x := "_law_script") (CX := fun _ => C8.CX0) (sp := fun w => spLaw (K w.params)) hn (by decide) hdf ⟨rfl, by decide, by decide⟩ hY F (fun _ _ a ns hl _ hS => ⟨a, ns, rfl, hS, hl, fun _ => rfl⟩) fun _ _ _ _ _ z => z
end Toy
open PySem PySem.W PyProof.Rows in
set_option maxRecDepth 100000 in
set_option maxHeartbeats 0 in
theorem PySem.Challenge.cw_allrows_k05_origins_of_rows_holds : PySem.Challenge.rw_allrows_k05_origins_of_rows.Holds := by
  w_on; o_law; k_head; (case hw => w_witness2)
  k_fill
  refine Toy.walk (l := PySem.Challenge.rw_allrows_k05_origins_of_rows) rfl rfl (fun w h Y => PySem.W.kIn_of Y) ?F
  case F =>
    intro w mg fa h KX G hmg
    refine' Toy.all_mk KX G hmg ?q_az ?g_Change ?pg_Change ?hd_Change ?po_Change ?sa_Change ?kc_Change ?n_Change_signs ?n_Change_rows ?mk_Change ?ha_Change ?hn_Change ?tk_Change ?hm_Change ?ne_Change ?sf_Change ?xg_InvalidChange ?xg_InvalidText ?xc_InvalidChange ?xc_InvalidText ?xf_InvalidChange ?xf_InvalidText ?cm_at ?cm_rc ?cm_fi ?cr_rd ?cr_ga ?a_choose ?l_choose ?c_choose ?k_choose ?a_one_of ?l_one_of ?c_one_of ?k_one_of ?a_seed ?l_seed ?c_seed ?k_seed ?a_signs ?l_signs ?c_signs ?k_signs ?a_row ?l_row ?c_row ?k_row ?a_images ?l_images ?c_images ?k_images ?a_isseq ?l_isseq ?c_isseq ?k_isseq ?a_isrow ?l_isrow ?c_isrow ?k_isrow ?a_isletters ?l_isletters ?c_isletters ?k_isletters ?a_issigns ?l_issigns ?c_issigns ?k_issigns ?a_isrows ?l_isrows ?c_isrows ?k_isrows ?a_tupof ?l_tupof ?c_tupof ?k_tupof ?a_init ?i_init ?l_init ?c_init ?k_init ?a_xic ?i_xic ?l_xic ?c_xic ?k_xic ?a_xit ?i_xit ?l_xit ?c_xit ?k_xit ?a_iot ?l_iot ?c_iot ?k_iot ?l_parse ?c_parse ?a_str ?i_str ?l_str ?c_str ?k_str ?a_eq ?i_eq ?l_eq ?c_eq ?k_eq ?a_of ?i_of ?l_of ?c_of ?k_of ?a_first ?l_first ?c_first ?k_first ?a_next ?l_next ?c_next ?k_next ?a_ways ?l_ways ?c_ways ?k_ways ?a_rests ?l_rests ?c_rests ?k_rests ?a_clash ?l_clash ?c_clash ?k_clash ?a_clear ?l_clear ?c_clear ?k_clear ?a_holds ?l_holds ?c_holds ?k_holds ?a_order ?l_order ?c_order ?k_order ?a_origin ?l_origin ?c_origin ?k_origin ?a_origins ?l_origins ?c_origins ?k_origins ?a_wbs ?l_wbs ?c_wbs ?k_wbs ?a_image ?l_image ?c_image ?k_image ?a_rows ?l_rows ?c_rows ?k_rows ?a_names ?l_names ?c_names ?k_names ?a_law ?l_law ?c_law ?k_law ?z_int ?z_len ?z_abs ?z_str ?z_list ?z_tuple ?z_isinstance ?z_all ?z_zip ?z_range ?z_max ?z_min ?z_repr ?z_sorted ?z_set ?z_enumerate ?z_dict ?z_reversed
    (case q_az => k_is)
    (case g_Change => k_is)
    (case pg_Change => k_is)
    (case hd_Change => k_is)
    (case po_Change => k_is)
    (case sa_Change => k_is)
    (case kc_Change => k_is)
    (case n_Change_signs => k_is)
    (case n_Change_rows => k_is)
    (case mk_Change => k_is)
    (case ha_Change => k_is)
    (case hn_Change => k_is)
    (case tk_Change => k_is)
    (case hm_Change => k_is)
    (case ne_Change => k_is)
    (case sf_Change => k_is)
    (case xg_InvalidChange => k_is)
    (case xg_InvalidText => k_is)
    (case xc_InvalidChange => exact LX.XC.ve (by show PySem.W.excInitIn _ _ [.type "ValueError", .type "Exception", .type "BaseException", .type "object"] "ValueError.__new__" = true; kx_is) (by k_is) (by k_is) (by k_is) (by k_is) (by k_is) (by k_is) (by k_is) (by k_is) (by k_is) (by k_is) (by k_is))
    (case xc_InvalidText => exact LX.XC.ve (by show PySem.W.excInitIn _ _ [.type "ValueError", .type "Exception", .type "BaseException", .type "object"] "ValueError.__new__" = true; kx_is) (by k_is) (by k_is) (by k_is) (by k_is) (by k_is) (by k_is) (by k_is) (by k_is) (by k_is) (by k_is) (by k_is))
    (case xf_InvalidChange => k_is)
    (case xf_InvalidText => k_is)
    (case cm_at => k_is)
    (case cm_rc => k_is)
    (case cm_fi => k_is)
    (case cr_rd => k_is)
    (case cr_ga => k_is)
    (case a_choose => k_is)
    (case l_choose => k_is)
    (case c_choose => k_is)
    (case k_choose => k_is)
    (case a_one_of => k_is)
    (case l_one_of => k_is)
    (case c_one_of => k_is)
    (case k_one_of => k_is)
    (case a_seed => k_is)
    (case l_seed => k_is)
    (case c_seed => k_is)
    (case k_seed => k_is)
    (case a_signs => k_is)
    (case l_signs => k_is)
    (case c_signs => k_is)
    (case k_signs => k_is)
    (case a_row => k_is)
    (case l_row => k_is)
    (case c_row => k_is)
    (case k_row => k_is)
    (case a_images => k_is)
    (case l_images => k_is)
    (case c_images => k_is)
    (case k_images => k_is)
    (case a_isseq => k_is)
    (case l_isseq => k_is)
    (case c_isseq => k_is)
    (case k_isseq => k_is)
    (case a_isrow => k_is)
    (case l_isrow => k_is)
    (case c_isrow => k_is)
    (case k_isrow => k_is)
    (case a_isletters => k_is)
    (case l_isletters => k_is)
    (case c_isletters => k_is)
    (case k_isletters => k_is)
    (case a_issigns => k_is)
    (case l_issigns => k_is)
    (case c_issigns => k_is)
    (case k_issigns => k_is)
    (case a_isrows => k_is)
    (case l_isrows => k_is)
    (case c_isrows => k_is)
    (case k_isrows => k_is)
    (case a_tupof => k_is)
    (case l_tupof => k_is)
    (case c_tupof => k_is)
    (case k_tupof => k_is)
    (case a_init => k_is)
    (case i_init => k_is)
    (case l_init => k_is)
    (case c_init => k_is)
    (case k_init => k_is)
    (case a_xic => k_is)
    (case i_xic => k_is)
    (case l_xic => k_is)
    (case c_xic => k_is)
    (case k_xic => k_is)
    (case a_xit => k_is)
    (case i_xit => k_is)
    (case l_xit => k_is)
    (case c_xit => k_is)
    (case k_xit => k_is)
    (case a_iot => k_is)
    (case l_iot => k_is)
    (case c_iot => k_is)
    (case k_iot => k_is)
    (case l_parse => k_is)
    (case c_parse => k_is)
    (case a_str => k_is)
    (case i_str => k_is)
    (case l_str => k_is)
    (case c_str => k_is)
    (case k_str => k_is)
    (case a_eq => k_is)
    (case i_eq => k_is)
    (case l_eq => k_is)
    (case c_eq => k_is)
    (case k_eq => k_is)
    (case a_of => k_is)
    (case i_of => k_is)
    (case l_of => k_is)
    (case c_of => k_is)
    (case k_of => k_is)
    (case a_first => k_is)
    (case l_first => k_is)
    (case c_first => k_is)
    (case k_first => k_is)
    (case a_next => k_is)
    (case l_next => k_is)
    (case c_next => k_is)
    (case k_next => k_is)
    (case a_ways => k_is)
    (case l_ways => k_is)
    (case c_ways => k_is)
    (case k_ways => k_is)
    (case a_rests => k_is)
    (case l_rests => k_is)
    (case c_rests => k_is)
    (case k_rests => k_is)
    (case a_clash => k_is)
    (case l_clash => k_is)
    (case c_clash => k_is)
    (case k_clash => k_is)
    (case a_clear => k_is)
    (case l_clear => k_is)
    (case c_clear => k_is)
    (case k_clear => k_is)
    (case a_holds => k_is)
    (case l_holds => k_is)
    (case c_holds => k_is)
    (case k_holds => k_is)
    (case a_order => k_is)
    (case l_order => k_is)
    (case c_order => k_is)
    (case k_order => k_is)
    (case a_origin => k_is)
    (case l_origin => k_is)
    (case c_origin => k_is)
    (case k_origin => k_is)
    (case a_origins => k_is)
    (case l_origins => k_is)
    (case c_origins => k_is)
    (case k_origins => k_is)
    (case a_wbs => k_is)
    (case l_wbs => k_is)
    (case c_wbs => k_is)
    (case k_wbs => k_is)
    (case a_image => k_is)
    (case l_image => k_is)
    (case c_image => k_is)
    (case k_image => k_is)
    (case a_rows => k_is)
    (case l_rows => k_is)
    (case c_rows => k_is)
    (case k_rows => k_is)
    (case a_names => k_is)
    (case l_names => k_is)
    (case c_names => k_is)
    (case k_names => k_is)
    (case a_law => k_is)
    (case l_law => k_is)
    (case c_law => k_is)
    (case k_law => k_is)
    (case z_int => k_is)
    (case z_len => k_is)
    (case z_abs => k_is)
    (case z_str => k_is)
    (case z_list => k_is)
    (case z_tuple => k_is)
    (case z_isinstance => k_is)
    (case z_all => k_is)
    (case z_zip => k_is)
    (case z_range => k_is)
    (case z_max => k_is)
    (case z_min => k_is)
    (case z_repr => k_is)
    (case z_sorted => k_is)
    (case z_set => k_is)
    (case z_enumerate => k_is)
    (case z_dict => k_is)
    (case z_reversed => k_is)
