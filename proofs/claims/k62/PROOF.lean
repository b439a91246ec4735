import PyProof.Rows.All
import Wide.All
import OpenK.AllK
import Wide.FinOn
import HandS.ForMost
import HandS.OwnEq
import HandS.IsInst
import HandS.Codes
import HandS.Wide
import HandS.Replace
import HandS.NoneIn
import HandS.Flow
import HandS.Style
import KE.GoesZip
import KE.GoesMore
import KE.GoesEnum
import HandS.Walk
import KE.KDictZip
import HandS.DictComp
import HandS.Strs
import HandS.CallLocal
import HandS.NestedK
import HandS.StrMore
import HandS.FStr
import KE.KExcInit
import HandS.ExcInit
import HandS.ExcIs
import HandS.ExcField
import HandS.MakeKw
import PyProof.ExcBaseAll.LookupError
import HandS.RaiseMore
import HandS.TryMany
import HandS.CallSlots
import HandS.ClsMeth
import HandS.Set
import HandS.SetFor
import HandS.More
import PyProof.EqKinds
import HandS.Deep
import HandS.DeepEq
import HandS.Property
import HandS.Star
import KE.KCallOwn
import OpenK.KOps
import PyProof.NeKinds
import HandS.TupLe
import HandS.RevRange
import HandS.Conv
import KE.DataMinKey
import HandS.SortKw
import KE.DataMinMax
import HandS.Text
import KE.KDictKeyed
import HandS.Dict
import HandS.TupLen
import KE.KDictLaws
import HandS.SortInts
import HandS.ExcValue
import KE.SortKeyHeap
import HandS.EndTab
import KE.KExcLine
import PySem.Challenge.RW_allrows_k62_plain_rows_counted
set_option Elab.async false
set_option linter.all false
set_option maxRecDepth 100000
namespace LX
open PySem PySem.Spec PyProof.Rows L2 C8 SX
section
variable {X : Cx}
theorem call_list_str (hc : X.calm = true) : CallR X (.type "list") (fun (xs : List V) (H : Hp) (Q : VK) => ∃ l : List Nat, xs = [V.str (S l)] ∧ l.length ≤ sizeLine ∧ ∀ p, H p = none → Q (.ref p) (upd H p (.lst (l.map fun c => V.str (S [c]))))) := by
  intro pins s σ H xs us Q I r h
  obtain ⟨l, rfl, hl, q⟩ := h
  obtain ⟨u, rfl, ru⟩ := vals1 r
  obtain ⟨t, rfl⟩ := ru
  refine PySem.call_list_str (I.ok.hd hc) (S l) t (fun h' tk acc' c' hk hS hacc => ?_) (by simpa [S] using hl)
  have hv : Vals (l.map fun c => V.str (S [c])) acc'.toList := by
    obtain ⟨hsz, hit⟩ := hacc
    have hsz' : acc'.toList.length = l.length := by simpa using hsz
    have gen : ∀ (m : List Nat) (as : List Value), as.length = m.length → (∀ (j : Nat) (v : Value), as[j]? = some v → ∃ (c : Nat) (u : Tok), m[j]? = some c ∧ v = Value.str ⟨#[c]⟩ u) → Vals (m.map fun c => V.str (S [c])) as := by
      intro m
      induction m with
      | nil => intro as ha _; cases as with
        | nil => exact .nil
        | cons a as => cases ha
      | cons c m ih => intro as ha hh; cases as with
        | nil => cases ha
        | cons a as =>
          obtain ⟨c', u, e1, e2⟩ := hh 0 a rfl
          have : c = c' := Option.some.inj e1
          subst this
          exact .cons ⟨u, e2⟩ (ih as (Nat.succ.inj ha) fun j v e => hh (j + 1) v e)
    refine gen l acc'.toList hsz' fun j v e => ?_
    obtain ⟨c, u, e1, e2⟩ := hit j v (by simpa using e)
    exact ⟨c, u, by simpa [S] using e1, e2⟩
  refine ⟨.ref _, _, I.laid (t' := tk) (o := .lst (l.map fun c => V.str (S [c]))) hk (Nat.le_refl _) ⟨by simpa using hl, acc'.toList, c', hv, by simpa using hS⟩, rfl, q _ (I.hok.fresh (Nat.le_refl _))⟩
theorem op_mul_si : OpR X (binaryOp .Mult) (fun x y H Q => ∃ (z : Str) (k : Int), x = .str z ∧ y = .int k ∧ (k = 0 ∨ k = 1) ∧ Q (.str (if k = 0 then S [] else z)) H) := by
  intro pins s σ H x y v u Q I rx ry h
  obtain ⟨z, k, rfl, rfl, hk, q⟩ := h
  obtain ⟨t, rfl⟩ := rx
  obtain ⟨t', rfl⟩ := ry
  rcases hk with rfl | rfl
  · exact PySem.P.mul_str_none (by decide) (by decide) ⟨.str (S []), H, I.tok _, ⟨_, rfl⟩, q⟩
  · refine PySem.P.mul_str (by decide) (fun _ h => by simp at h) (fun _ h => by simp at h) ?_
    rw [if_neg (by decide), if_pos (by simp)]
    exact ⟨.str z, H, I, ⟨t, rfl⟩, q⟩
def tRevS (te ts : TE) : TE := fun σ H Q => te σ H fun x H1 => ts σ H1 fun y H2 => ∃ i, y = .int i ∧ (some i = some (-1) ∧ ∃ l : List Nat, x = .str (S l) ∧ l.length ≤ sizeLine ∧ Q (.str (S l.reverse)) H2)
theorem rev_indices (z : Str) : (Builtin.Str.strSliceIndices none none (-1) z.length).filterMap (z.cps[·]?) = z.cps.toList.reverse := by
  have e : Builtin.Str.strSliceIndices none none (-1) z.length = (List.range z.length).reverse := by
    show sliceRange ((z.length : Int) - 1) (-1) (-1) = _
    rw [PySem.W.krv_sliceRange]
    exact PySem.W.krv_range _
  rw [e, List.filterMap_reverse]
  exact congrArg List.reverse (PySem.W.krv_all z.cps)
theorem pe_revS {e st : Expr} {te ts : TE} {p3 pos : Pos} (he : PE X e te) (hs : PE X st ts) : PE X (.Subscript e (.Slice none none (some st) p3) pos) (tRevS te ts) := by
  refine ⟨fun pins s σ H Q I h => ?_⟩
  refine Subscript_ (thn (he.run pins s σ H _ I h) fun v s1 ⟨x, H1, I1, r1, q1⟩ => ?_)
  have hst : PO X (some st) (tPart ts) := po_some hs
  refine wpAny_Slice (thn (po_none.run pins s1 σ H1 (fun o H2 => o = none ∧ H2 = H1) I1 ⟨rfl, rfl⟩) fun vl s2 ⟨l, H2, I2, pl, el, e2⟩ => ?_)
  subst el e2
  refine thn (po_none.run pins s2 σ H2 (fun o H3 => o = none ∧ H3 = H2) I2 ⟨rfl, rfl⟩) fun vu s3 ⟨u, H3, I3, pu, eu, e3⟩ => ?_
  subst eu e3
  refine thn (hst.run pins s3 σ H3 (fun o H4 => o = some (-1) ∧ ∃ l : List Nat, x = .str (S l) ∧ l.length ≤ sizeLine ∧ Q (.str (S l.reverse)) H4) I3 q1) fun vs s4 ⟨o, H4, I4, ps, eo, l, ex, hl, q⟩ => ?_
  subst eo ex
  obtain ⟨t, rfl⟩ := r1
  have I5 : Inv X pins σ H4 { s4 with heap := s4.heap.push { cls := .type "slice", data := .fields #[vl, vu, vs] } } := I4.kept (t' := s4.toks) fun b ob q => Heap.get?_push_of_some _ q
  show wpAny (model X.prog X.w) X.A (subscriptTail e (.Slice none none (some st) p3) (.str (S l) t) (.ref s4.heap.objs.size)) (EP X pins σ Q) X.xe { s4 with heap := s4.heap.push { cls := .type "slice", data := .fields #[vl, vu, vs] } }
  obtain ⟨l', el, el2⟩ := IsPart.raw pl
  obtain ⟨u', eu, eu2⟩ := IsPart.raw pu
  obtain ⟨s', es, es2⟩ := IsPart.raw ps
  refine tail_any (ops := [.ref s4.heap.objs.size, .str (S l) t]) (typeIs_str _ _ _) F.slot_str_getitem.lookup ?_ (by with_unfolding_all rfl)
  refine wpAny_getItem_str_slice (l := l') (u := u') (st := s') ?_ (by rw [es2]; rfl) ?_
  · rw [el, eu, es]
    exact Heap.IsSliceOf.new ..
  · unfold sliceMade slicePicked
    rw [el2, eu2, es2]
    show Made.post (if ((-1 : Int) == 1 && (Builtin.Str.strSliceIndices none none (-1) (S l).length).length == (S l).length) = true then Made.val (.str (S l) t)
      else Made.str ⟨((Builtin.Str.strSliceIndices none none (-1) (S l).length).filterMap ((S l).cps[·]?)).toArray⟩) (EP X pins σ Q) _
    rw [if_neg (by simp), rev_indices]
    exact ⟨by simpa [Str.length] using hl, .str _, H4, I5.tok _, ⟨_, rfl⟩, q⟩
end
end LX
namespace LX
open PySem PySem.Spec PyProof.Rows L2 C8 SX
inductive Sr where
  | txt (x : Str) | lst (a : Addr) | tup (a : Addr)
def Sr.fp : Sr → List Addr
  | .txt _ => [] | .lst a => [a] | .tup a => [a]
def Sr.has (K : PySem.W.Frag) : Sr → Nat → Hp → Prop
  | .txt x, i, _ => i < x.cps.size
  | .lst a, i, H => ∃ xs, SqL K H a xs ∧ i < xs.length
  | .tup a, i, H => ∃ xs, SqT K H a xs ∧ i < xs.length
def Sr.val (K : PySem.W.Frag) : Sr → Nat → Hp → V → Prop
  | .txt x, i, _, v => ∃ c, x.cps[i]? = some c ∧ v = .str ⟨#[c]⟩
  | .lst a, i, H, v => ∀ xs, SqL K H a xs → xs[i]? = some v
  | .tup a, i, H, v => ∀ xs, SqT K H a xs → xs[i]? = some v
def Sr.upto (K : PySem.W.Frag) : Sr → Nat → Hp → Prop
  | .txt x, i, _ => i ≤ x.cps.size
  | .lst a, i, H => ∃ xs, SqL K H a xs ∧ i ≤ xs.length
  | .tup a, i, H => ∃ xs, SqT K H a xs ∧ i ≤ xs.length
def Sr.ends (K : PySem.W.Frag) : Sr → Nat → Hp → Prop
  | .txt x, i, _ => i = x.cps.size
  | .lst a, i, H => ∃ xs, SqL K H a xs ∧ i = xs.length
  | .tup a, i, H => ∃ xs, SqT K H a xs ∧ i = xs.length
def Sr.tn : Sr → Addr → Nat → Heap → Prop
  | .txt x, it, i, h => ∃ t, h.IsStrIter it (strIterType x) x t i
  | .lst a, it, i, h => h.IsListIter it a i
  | .tup a, it, i, h => h.IsTupleIter it a i
theorem Sr.tn_obj : ∀ {S : Sr} {it : Addr} {i : Nat} {h : Heap}, S.tn it i h → ∃ o, h.get? it = some o ∧ ∀ v, o.data ≠ .cell v
  | .txt _, _, _, _, ⟨_, o, e, _, d⟩ => ⟨o, e, fun v q => by rw [d] at q; cases q⟩
  | .lst _, _, _, _, h => let ⟨o, e, _, d⟩ := h; ⟨o, e, fun v q => by rw [d] at q; cases q⟩
  | .tup _, _, _, _, ⟨o, e, _, d⟩ => ⟨o, e, fun v q => by rw [d] at q; cases q⟩
theorem Sr.tn_keep : ∀ {S : Sr} {it : Addr} {i : Nat} {h h' : Heap}, S.tn it i h → (∀ o, h.get? it = some o → h'.get? it = some o) → S.tn it i h'
  | .txt _, _, _, _, _, ⟨t, o, e, r⟩, k => ⟨t, o, k o e, r⟩
  | .lst _, _, _, _, _, h, k => h.at k
  | .tup _, _, _, _, _, h, k => h.at k
section
variable {X : Cx} {pins : List (Addr × Obj)} {σ : L2.St} {H : Hp} {s : Shared}
structure DrawsAt (X : Cx) (S : Sr) (H : Hp) (s : Shared) (it : Addr) (i : Nat) (n : Nat) : Prop where
  ex : ∃ (Pp : Nat → Value → Prop) (St : Nat → Heap → Prop), (∀ A : Around, A.handled = none → Draws X.prog X.w A it (it :: S.fp) n Pp St) ∧ St i s.heap ∧
    (∀ u, Pp i u → ∃ v, S.val X.K i H v ∧ RelV v u) ∧ ∀ j h', St j h' → S.tn it j h'
theorem Sr.draws (S : Sr) {it : Addr} {i : Nat} (I : Inv X pins σ H s) (hit : ∀ a ∈ S.fp, a ≠ it) (st : S.tn it i s.heap) (hu : S.upto X.K i H) : ∃ n, DrawsAt X S H s it i n ∧ i ≤ n ∧ (S.has X.K i H → i < n) ∧ (S.ends X.K i H → i = n) := by
  cases S with
  | txt x =>
    obtain ⟨t, st⟩ := st
    refine ⟨x.cps.size, ⟨_, _, fun A hh => Draws.text hh it x t, st, fun u ⟨c, u', e, eu⟩ => ?_, fun j h' q => ⟨t, q⟩⟩, hu, fun h => h, fun h => h⟩
    exact ⟨.str ⟨#[c]⟩, ⟨c, e, rfl⟩, ⟨u', eu⟩⟩
  | lst a =>
    obtain ⟨xs, hx, hu⟩ := hu
    obtain ⟨its, rv, p, _⟩ := I.list hx
    have hl := rv.length
    refine ⟨its.toArray.size, ⟨_, _, fun A hh => Draws.list hh it a (hit a (List.mem_singleton.mpr rfl)) its.toArray, ⟨st, p.isList⟩, fun u hq => ?_, fun j h' q => q.1⟩, by simp; omega, fun ⟨ys, hy, h⟩ => ?_, fun ⟨ys, hy, h⟩ => ?_⟩
    · have hq' : its[i]? = some u := by simpa using hq
      have hlt : i < xs.length := by rw [hl]; exact (List.getElem?_eq_some_iff.mp hq').1
      obtain ⟨u', e, r⟩ := rv.get (List.getElem?_eq_getElem hlt)
      rw [hq'] at e
      rw [Option.some.inj e]
      exact ⟨xs[i], fun zs hz => by rw [I.list_inj hz hx]; exact List.getElem?_eq_getElem hlt, r⟩
    · rw [I.list_inj hy hx] at h; simp; omega
    · rw [I.list_inj hy hx] at h; simp; omega
  | tup a =>
    obtain ⟨xs, hx, hu⟩ := hu
    obtain ⟨its, rv, p, _⟩ := I.tuple hx
    have hl := rv.length
    refine ⟨its.toArray.size, ⟨_, _, fun A hh => Draws.tuple hh it a (hit a (List.mem_singleton.mpr rfl)) its.toArray, ⟨st, p⟩, fun u hq => ?_, fun j h' q => q.1⟩, by simp; omega, fun ⟨ys, hy, h⟩ => ?_, fun ⟨ys, hy, h⟩ => ?_⟩
    · have hq' : its[i]? = some u := by simpa using hq
      have hlt : i < xs.length := by rw [hl]; exact (List.getElem?_eq_some_iff.mp hq').1
      obtain ⟨u', e, r⟩ := rv.get (List.getElem?_eq_getElem hlt)
      rw [hq'] at e
      rw [Option.some.inj e]
      exact ⟨xs[i], fun zs hz => by rw [I.tuple_inj hz hx]; exact List.getElem?_eq_getElem hlt, r⟩
    · rw [I.tuple_inj hy hx] at h; simp; omega
    · rw [I.tuple_inj hy hx] at h; simp; omega
end
def ItzX (K : PySem.W.Frag) (S1 S2 : Sr) : It :=
  ⟨fun i H => S1.has K i H ∧ S2.has K i H,
    fun i H v H' => ∃ T x y, v = .ref T ∧ H T = none ∧ H' = upd H T (.tup [x, y]) ∧ S1.val K i H x ∧ S2.val K i H y,
    fun i H => S1.upto K i H ∧ S2.upto K i H ∧ (S1.ends K i H ∨ S2.ends K i H)⟩
theorem Sr.has_upto {K : PySem.W.Frag} : ∀ {S : Sr} {i : Nat} {H : Hp}, S.has K i H → S.upto K i H
  | .txt _, _, _, h => Nat.le_of_lt h
  | .lst _, _, _, ⟨xs, hx, h⟩ => ⟨xs, hx, Nat.le_of_lt h⟩
  | .tup _, _, _, ⟨xs, hx, h⟩ => ⟨xs, hx, Nat.le_of_lt h⟩
theorem turn_zipX {P : Program} {w : World} {K : PySem.W.Frag} {elts : List Expr} {kk : Nat} {tpos : Pos} {z TI TO i1 i2 : Addr} (S1 S2 : Sr) (D : ZipSep2 z TI TO i1 i2 (i1 :: S1.fp) (i2 :: S2.fp)) (n1 : ∀ a ∈ S1.fp, a ≠ i1) (n2 : ∀ a ∈ S2.fp, a ≠ i2) :
    Turn P w K (.Tuple elts kk tpos) (ItzX K S1 S2) [z, TI, TO, i1, i2] z (fun i h => IsZip h z TI TO .none ∧ IsTupOf2 h TI (.ref i1) (.ref i2) ∧ (∃ x y, IsTupOf2 h TO x y) ∧ S1.tn i1 i h ∧ S2.tn i2 i h) where
  mem := by simp
  obj := fun i h st c hc => by
    obtain ⟨hz, hTI, ⟨x, y, hTO⟩, h1, h2⟩ := st
    have e' : c = z ∨ c = TI ∨ c = TO ∨ c = i1 ∨ c = i2 := by simpa using hc
    rcases e' with q | q | q | q | q
    · rw [q]; exact ⟨_, hz, fun v q => nomatch q⟩
    · rw [q]; exact ⟨_, hTI, fun v q => nomatch q⟩
    · rw [q]; exact ⟨_, hTO, fun v q => nomatch q⟩
    · rw [q]; exact Sr.tn_obj h1
    · rw [q]; exact Sr.tn_obj h2
  keep := fun i h h' st k => by
    obtain ⟨hz, hTI, ⟨x, y, hTO⟩, h1, h2⟩ := st
    exact ⟨k z (by simp) _ hz, k TI (by simp) _ hTI, ⟨x, y, k TO (by simp) _ hTO⟩, Sr.tn_keep h1 fun o q => k i1 (by simp) o q, Sr.tn_keep h2 fun o q => k i2 (by simp) o q⟩
  item := by
    intro X hP hw hK hc i pins s σ H E I hf st hg
    subst hP hw hK
    obtain ⟨hz, hTI, ⟨x0, y0, hTO⟩, h1, h2⟩ := st
    obtain ⟨g1, g2⟩ := hg
    obtain ⟨m1, ⟨P1, St1, D1, st1, v1, t1⟩, _, lt1, _⟩ := S1.draws I n1 h1 (Sr.has_upto g1)
    obtain ⟨m2, ⟨P2, St2, D2, st2, v2, t2⟩, _, lt2, _⟩ := S2.draws I n2 h2 (Sr.has_upto g2)
    have hzl : z < s.heap.objs.size := Heap.lt_size hz
    refine wpAny_pyNext_zipD2_item D (D1 _ (I.ok.hd hc)) (D2 _ (I.ok.hd hc)) hz hTI hTO st1 st2 (lt1 g1) (lt2 g2) fun u1 u2 h' tk p1 p2 z' TO' st1' st2' hT hsz hk => ?_
    obtain ⟨x, hx, rx⟩ := v1 u1 p1
    obtain ⟨y, hy, ry⟩ := v2 u2 p2
    refine ⟨_, rfl, wpAny_letOwnedTupleGo_zip (s := { s with heap := h', toks := tk }) z' fun h'' z'' sb => ?_⟩
    have hT2 : h''.get? s.heap.objs.size = some { cls := .type "tuple", data := .seq #[u1, u2] } := (sb.2 _ (Nat.ne_of_gt hzl)).trans hT
    have new : ObjOk X.prog X.w (upd H s.heap.objs.size (.tup [x, y])) h'' s.heap.objs.size (.tup [x, y]) :=
      ⟨by show 2 ≤ sizeLine; decide, [u1, u2], .cons rx (.cons ry .nil), ⟨_, hT2, rfl, _, rfl⟩⟩
    have I1 : Inv X pins σ (upd H s.heap.objs.size (.tup [x, y])) { s with heap := h'', toks := tk } :=
      I.turnedNew (t' := tk) (ch := [z, TI, TO, i1, i2]) (fun c o hb q => (sb.2 c (fun q' => hb (by simp [q']))).trans (hk c o (fun q' => hb (by simp [q'])) (fun q' => hb (by simp [q'])) (fun q' => hb (by simp [q'])) (fun q' => hb (by simp [q'])) q)) hf (Nat.le_refl _) new
    refine ⟨.ref s.heap.objs.size, _, I1, rfl, ⟨_, x, y, rfl, I.hok.fresh (Nat.le_refl _), rfl, hx, hy⟩, ⟨z'', ?_, ⟨u1, u2, ?_⟩, ?_, ?_⟩, fun c hcm => ?_⟩
    · exact (sb.2 _ D.TIz).trans (hk _ _ D.TIz D.TITO D.TIi1 D.TIi2 hTI)
    · exact (sb.2 _ D.TOz).trans TO'
    · exact Sr.tn_keep (t1 _ _ st1') fun o q => (sb.2 _ D.zi1.symm).trans q
    · exact Sr.tn_keep (t2 _ _ st2') fun o q => (sb.2 _ D.zi2.symm).trans q
    · have hlt : c < s.heap.objs.size := by
        have e' : c = z ∨ c = TI ∨ c = TO ∨ c = i1 ∨ c = i2 := by simpa using hcm
        rcases e' with q | q | q | q | q
        · rw [q]; exact hzl
        · rw [q]; exact Heap.lt_size hTI
        · rw [q]; exact Heap.lt_size hTO
        · rw [q]; obtain ⟨_, e1, _⟩ := Sr.tn_obj h1; exact Heap.lt_size e1
        · rw [q]; obtain ⟨_, e2, _⟩ := Sr.tn_obj h2; exact Heap.lt_size e2
      rw [upd_ne (Nat.ne_of_lt hlt)]
      exact (hf c hcm).1
  done := by
    intro X hP hw hK hc i pins s σ H E I hf st hg
    subst hP hw hK
    obtain ⟨hz, hTI, ⟨x0, y0, hTO⟩, h1, h2⟩ := st
    obtain ⟨g1, g2, ge⟩ := hg
    obtain ⟨m1, ⟨P1, St1, D1, st1, v1, t1⟩, le1, _, eq1⟩ := S1.draws I n1 h1 g1
    obtain ⟨m2, ⟨P2, St2, D2, st2, v2, t2⟩, le2, _, eq2⟩ := S2.draws I n2 h2 g2
    exact wpAny_pyNext_zipD2_end D (D1 _ (I.ok.hd hc)) (D2 _ (I.ok.hd hc)) hz hTI hTO st1 st2 le1 le2 (ge.elim (fun q => .inl (eq1 q)) fun q => .inr (eq2 q)) fun h' tk hk => ⟨rfl, I.turnedL (t' := tk) (ch := [z, TI, TO, i1, i2]) (fun c o hb q =>
      hk c o (fun q' => hb (by simp [q'])) (fun q' => hb (by simp [q'])) (fun q' => hb (by simp [q'])) (fun q' => hb (by simp [q'])) q) hf⟩
  self := fun A i s Q E st h => wpAny_pyIter_zip st.1 h
def Sr.of : V → Sr → Prop
  | .str x, .txt y => x = y
  | .ref a, .lst b => a = b
  | .ref a, .tup b => a = b
  | _, _ => False
def Sr.there (K : PySem.W.Frag) (H : Hp) : Sr → Prop
  | .txt _ => True
  | .lst a => ∃ xs, SqL K H a xs
  | .tup a => ∃ xs, SqT K H a xs
theorem Sr.begins {X : Cx} {pins : List (Addr × Obj)} {σ : L2.St} {H : Hp} {s : Shared} (I : Inv X pins σ H s) {v : V} {u : Value} (r : RelV v u) : ∀ {S : Sr}, S.of v → S.there X.K H → ∃ (o : Obj) (HH : Heap → Prop), Begins u o HH ∧ HH s.heap ∧ (∀ a ∈ S.fp, a < s.heap.objs.size) ∧ ∀ (h : Heap) (it : Addr), h.get? it = some o → S.tn it 0 h
  | .txt y, e, _ => by
    cases v with
    | str x =>
      have e' : x = y := e
      subst e'
      obtain ⟨t, rfl⟩ := r
      exact ⟨_, _, begins_text x t, trivial, (fun _ h => nomatch h), fun h it q => ⟨t, _, q, rfl, rfl⟩⟩
    | _ => exact e.elim
  | .lst b, e, ⟨xs, hx⟩ => by
    cases v with
    | ref a =>
      have e' : a = b := e
      subst e'
      cases r
      obtain ⟨its, rv, p, _⟩ := I.list hx
      refine ⟨_, _, begins_list a its.toArray, p.isList, fun c h => ?_, fun h it q => ⟨_, q, rfl, rfl⟩⟩
      rw [List.mem_singleton.mp h]; exact p.lt
    | _ => exact e.elim
  | .tup b, e, ⟨xs, hx⟩ => by
    cases v with
    | ref a =>
      have e' : a = b := e
      subst e'
      cases r
      obtain ⟨its, rv, p, _⟩ := I.tuple hx
      refine ⟨_, _, begins_tuple a its.toArray, p, fun c h => ?_, fun h it q => ⟨_, q, rfl, rfl⟩⟩
      rw [List.mem_singleton.mp h]; exact p.lt
    | _ => exact e.elim
def iZipX (K : PySem.W.Frag) (ta : TA) : TI := fun σ H R => ta σ H fun vs H1 => ∃ (x y : V) (S1 S2 : Sr), vs = [x, y] ∧ S1.of x ∧ S2.of y ∧ S1.there K H1 ∧ S2.there K H1 ∧ R (ItzX K S1 S2) H1
theorem pi_zipX {X : Cx} {e e2 : Expr} {ta : TA} {p pos tpos : Pos} {elts : List Expr} {kk : Nat} (hg : Gl X "zip") (hm : X.mg "zip" = none) (ha : PA X [e, e2] ta)
    (hs : starEach [e, e2] X.env = (false, eval e X.env) :: starEach [e2] X.env := by rfl) (hpl : (backTo pos (starEach [e2] X.env)).any (·.1) = false := by rfl) :
    PI X (.Tuple elts kk tpos) (.Call (.Name "zip" p) [e, e2] [] pos) (iZipX X.K ta) := by
  refine ⟨fun pins s σ H R I h => ?_⟩
  refine Call_ (ld_blt I hg hm PyProof.Rows.boot_zip (PyProof.Rows.callWith_type1 (thn (ha.run pos pins s σ H _ I h) fun us s1 ⟨vs, H1, I1, r1, q1⟩ => ?_) hs hpl))
  obtain ⟨x, y, S1, S2, ex, e1, e2, th1, th2, q⟩ := q1
  subst ex
  obtain ⟨u, u', rfl, r, r'⟩ := vals2 r1
  obtain ⟨o1, HH1, B1, b1, f1, t1⟩ := Sr.begins I1 r e1 th1
  obtain ⟨o2, HH2, B2, b2, f2, t2⟩ := Sr.begins I1 r' e2 th2
  have fresh5 : ∀ c, c ∈ [s1.heap.objs.size + 4, s1.heap.objs.size + 2, s1.heap.objs.size + 3, s1.heap.objs.size, s1.heap.objs.size + 1] → FpOk X pins H1 c := fun c hcm => by
    have e' : c = s1.heap.objs.size + 4 ∨ c = s1.heap.objs.size + 2 ∨ c = s1.heap.objs.size + 3 ∨ c = s1.heap.objs.size ∨ c = s1.heap.objs.size + 1 := by simpa using hcm
    have hle : s1.heap.objs.size ≤ c := by
      rcases e' with z | z | z | z | z
      · rw [z]; exact Nat.le_add_right _ _
      · rw [z]; exact Nat.le_add_right _ _
      · rw [z]; exact Nat.le_add_right _ _
      · rw [z]; exact Nat.le_refl _
      · rw [z]; exact Nat.le_add_right _ _
    exact I1.fpOk hle (I1.hok.fresh hle)
  refine zip_begins2 B1 B2 b1 b2 fun h' hz hTI hTO h1 h2 hsz hk => wpAny_pyIter_zip hz ?_
  have I2 : Inv X pins σ H1 { s1 with heap := h' } := I1.kept (t' := s1.toks) hk
  exact ⟨s1.heap.objs.size + 4, [s1.heap.objs.size + 4, s1.heap.objs.size + 2, s1.heap.objs.size + 3, s1.heap.objs.size, s1.heap.objs.size + 1], _, _, H1, rfl, I2,
    turn_zipX S1 S2 (PySem.zip_sep2 f1 f2) (fun a ha => Nat.ne_of_lt (f1 a ha)) (fun a ha => Nat.ne_of_lt (Nat.lt_succ_of_lt (f2 a ha))), ⟨hz, hTI, ⟨_, _, hTO⟩, t1 _ _ h1, t2 _ _ h2⟩, fresh5, q⟩
end LX
namespace LX
open PySem PySem.Spec PyProof.Rows L2 C8 SX
section
variable {prog : Program} {w : World} {A : Around} {E : Value → Shared → Prop} {s : Shared} {K : PySem.W.Frag} {x y C L f : Addr} {h₀ : Heap} {m : Str → Option Value} {ox : Obj} {od : Option Obj}
theorem objNe_own (X : K.In s.heap) (I : PySem.W.InstAt s.heap x ox C od) (hs : PySem.W.findIn K (.ref C) "__eq__" = some (some (.ref f))) (hf : PySem.W.isFn K (.ref f) = true) (hu : A.units < cLine) {Q : Fin → Shared → Prop}
    (hcall : wpAny (model prog w) A (call (.ref f) [.ref x, .ref y]) (fun v s' => ∃ b, v = .bool b ∧ Q (.done (.ret (.bool (!b)))) s') E s) :
    wpAny (model prog w) A (Builtin.«object.__ne__» ⟨[.ref x, .ref y], []⟩) Q E s := by
  unfold Builtin.«object.__ne__»
  repeat (first
    | with_reducible refine wpAny_cRoomFor hu ?_
    | (refine wpAny_bind (m := callSpecialIfBound? (.ref x) (Str.ofString "__eq__") [.ref y])
        (PySem.W.ifBound_K X I hs hf (wpAny_mono hcall (fun r s' hr => by
          obtain ⟨b, rfl, hq⟩ := hr
          repeat (first | exact hq | exact wpAny_pure hq | exact wpAny_truthy_bool hq | (refine wpAny_bind (m := truthy (.bool _)) (wpAny_truthy_bool ?_)) | wp_step)) fun _ _ e => e)))
    | wp_step)
theorem ifBound_ne {M : Model} {args : List Value} {Q : Option Value → Shared → Prop} (X : K.In s.heap) (I : PySem.W.InstAt s.heap x ox C od) (hs : PySem.W.findIn K (.ref C) "__ne__" = some (some (.builtin "object.__ne__")))
    (h : wpAny M A (call (.builtin "object.__ne__") (.ref x :: args)) (fun v => Q (some v)) E s) : wpAny M A (callSpecialIfBound? (.ref x) "__ne__" args) Q E s := by
  simp only [callSpecialIfBound?, bindSpecialIfBound?]
  refine wpAny_holding (wpAny_bind (wpAny_bind (wpAny_bind (I.type.here ((PySem.W.looks_findIn X hs).here ?_)))))
  simp only [F.cmp_object.ne.bind]
  refine wpAny_bind (wpAny_askSetting (wpAny_ite ?_))
  have fin : wpAny M A (call (.builtin "object.__ne__") ([.ref x] ++ args) >>= fun v => pure (some v)) Q E s := wpAny_bind (wpAny_mono h (fun v s' h' => wpAny_pure h') fun _ _ h' => h')
  split
  · exact wpAny_bind (wpAny_pure (wpAny_pure fin))
  · exact wpAny_tryCatch (wpAny_bind (wpAny_pure (wpAny_pure fin)))
theorem check_ne {M : Model} {Q : Unit → Shared → Prop} (X : K.In s.heap) (I : PySem.W.InstAt s.heap x ox C od) (hm : PySem.W.mroIn K C (.type "object") = some true) (hq : Q () s) :
    wpAny M A (checkBuiltinCall "object.__ne__" ⟨[.ref x, .ref y], []⟩) Q E s := by
  have L0 := I.type (M := M)
  have L1 := PySem.W.looks_mroIn (M := M) X hm
  simp only [checkBuiltinCall, F.cmpKind_ne, F.cmpSplit_ne]
  have ha := F.cmpArgs_ne (.ref x) (.ref y)
  refine wpAny_bind ?_
  unfold isInstance
  repeat lk
  exact hq
theorem rcNe_own (hu : A.units + 1 < cLine) (FF : Fr h₀ L s.heap m) (X₀ : K.In h₀) (I : PySem.W.InstAt s.heap x ox C od) (hb : PySem.W.Looks (model prog w) s.heap (typeOf (.ref y)) (.ref C))
    (hs : PySem.W.findIn K (.ref C) "__eq__" = some (some (.ref f))) (hf : PySem.W.isFn K (.ref f) = true) (hn : PySem.W.findIn K (.ref C) "__ne__" = some (some (.builtin "object.__ne__"))) (hm : PySem.W.mroIn K C (.type "object") = some true)
    {Q : Value → Shared → Prop} (hcall : wpAny (model prog w) A.in1 (call (.ref f) [.ref x, .ref y]) (fun v s' => ∃ b, v = .bool b ∧ Q (.bool (!b)) s') E s) :
    wpAny (model prog w) A (richCompare .NotEq (.ref x) (.ref y)) Q E s := by
  have X := X₀.keeps FF.keep
  have one : wpAny (model prog w) A (tryCompare (.ref x) (cmpInfo .NotEq).2.1 (.ref y)) (fun r s' => ∃ v, r = some v ∧ Q v s') E s := by
    show wpAny (model prog w) A (tryCompare (.ref x) "__ne__" (.ref y)) (fun r s' => ∃ v, r = some v ∧ Q v s') E s
    unfold tryCompare
    refine wpAny_bind (ifBound_ne X I hn (wpAny_call (codeAny_call_builtin F.cmp_object.ne.plain F.cmpEntry_ne (check_ne X I hm (objNe_own (A := A.in1) X I hs hf (by show A.units + 1 < cLine; exact hu) (wpAny_mono hcall (fun v s' hv => ?_) fun _ _ e => e))))))
    obtain ⟨b, rfl, hq⟩ := hv
    first | exact ⟨b, rfl, wpAny_pure ⟨_, rfl, hq⟩⟩ | exact ⟨b, rfl, wpAny_pure (wpAny_pure ⟨_, rfl, hq⟩)⟩ | exact ⟨b, rfl, ⟨_, rfl, hq⟩⟩
  unfold richCompare
  simp only [oneThing_ref]
  refine wpAny_holding (wpAny_bind (wpAny_cRoomFor (by omega) ?_))
  refine wpAny_bind (I.type.here (wpAny_bind (hb.here ?_)))
  rw [show (Value.ref C != Value.ref C) = false from by simp]
  simp only [Bool.false_eq_true, if_false]
  refine wpAny_bind (wpAny_pure ?_)
  simp only [Bool.false_eq_true, if_false]
  refine wpAny_bind (wpAny_mono one (fun r s' z => ?_) fun _ _ e => e)
  obtain ⟨v, rfl, hq⟩ := z
  first | exact wpAny_pure hq | exact hq
end
section
variable {X : Cx} {k j : Nat} {C : Addr} {sp : Sp}
theorem met_run {mth : Str} {pins : List (Addr × Obj)} {σ : L2.St} {H : Hp} {s : Shared} {A : Around} {a b : Addr} {Q : Value → Shared → Prop} (c : Met X.prog X.w X.K X.mg X.base k C mth sp []) (hr : Room k A) (hfr : A.frames = X.A.frames) (I : Inv X pins σ H s)
    {R : VK} (hsp : sp [.ref a, .ref b] H R C8.E0) (hQ : ∀ v z H' s', Inv X pins σ H' s' → RelV z v → R z H' → Q v s') :
    ∃ f, PySem.W.findIn X.K (.ref C) mth = some (some (.ref f)) ∧ PySem.W.isFn X.K (.ref f) = true ∧ wpAny (model X.prog X.w) A (call (.ref f) [.ref a, .ref b]) Q X.xe s := by
  obtain ⟨f, fd, ps, ds, hc, hm, F, hb, hd⟩ := c.ex
  refine ⟨f, hm.at_, hm.fn, ?_⟩
  have e0 : Env0 X.prog X.w X.K X.mg X.base A X.stack s H := by
    have e := I.env0
    exact ⟨by rw [hfr]; exact e.frames, e.mod, e.bs, e.bsz, e.funs, e.frf, e.hok, e.bare⟩
  have hds : ds = [] := by cases hd; rfl
  subst hds
  have hl := F.len _ _ _ _ hsp
  have r2 : Vals [V.ref a, V.ref b] [Value.ref a, Value.ref b] := .cons rfl (.cons rfl .nil)
  refine wpAny_call (codeAny_mono (F.run A X.stack s H ⟨[.ref a, .ref b], []⟩ [.ref a, .ref b] [.ref a, .ref b] _ C8.E0 hr e0 (by
    have := hb s [.ref a, .ref b] I.kIn (by simpa using hl)
    simpa using this) r2 hsp) fun r s' hq => ?_)
  cases r with
  | error e => exact C8.pass0 (E := C8.E0) pins σ H s e s' I hq
  | ok fl =>
    cases fl with
    | ret w =>
      obtain ⟨z, H', I', rz, q⟩ := I.after hq
      exact hQ w z H' s' I' rz q
    | next => exact False.elim hq
    | brk => exact False.elim hq
    | cont => exact False.elim hq
structure NeC (K : PySem.W.Frag) (C : Addr) : Prop where
  ne : PySem.W.findIn K (.ref C) "__ne__" = some (some (.builtin "object.__ne__"))
  ob : PySem.W.mroIn K C (.type "object") = some true
  sf : PySem.W.selfFirst K C = true
def rEqI (C : Addr) (sp : Sp) : R2 := fun x y H Q => ∃ a b dx dy fs gs, x = .ref a ∧ y = .ref b ∧ H a = some (.ins C dx fs) ∧ H b = some (.ins C dy gs) ∧ sp [.ref a, .ref b] H (fun v H' => ∃ r, v = .bl r ∧ Q (.bl r) H') C8.E0
def rNeI (C : Addr) (sp : Sp) : R2 := fun x y H Q => ∃ a b dx dy fs gs, x = .ref a ∧ y = .ref b ∧ H a = some (.ins C dx fs) ∧ H b = some (.ins C dy gs) ∧ sp [.ref a, .ref b] H (fun v H' => ∃ r, v = .bl r ∧ Q (.bl (!r)) H') C8.E0
def rOpI (C : Addr) (sp : Sp) : R2 := fun x y H Q => ∃ a b dx dy fs gs, x = .ref a ∧ y = .ref b ∧ H a = some (.ins C dx fs) ∧ H b = some (.ins C dy gs) ∧ sp [.ref a, .ref b] H (fun v H' => ∃ p, v = .ref p ∧ Q (.ref p) H') C8.E0
theorem op_eqI (c : Met X.prog X.w X.K X.mg X.base k C "__eq__" sp []) (hr : Room j X.A) (hk : k ≤ j) : OpR X (compareOp .Eq) (rEqI C sp) := by
  intro pins s σ H x y v u Q I rx ry h
  obtain ⟨a, b, dx, dy, fs, gs, rfl, rfl, ha, hb, hsp⟩ := h
  cases rx
  cases ry
  obtain ⟨mA, J, _⟩ := ins_get I.hok ha
  obtain ⟨mB, J', _⟩ := ins_get I.hok hb
  obtain ⟨od, J, _⟩ := J.look
  obtain ⟨od', J', _⟩ := J'.look
  obtain ⟨m, hF⟩ := I.fr
  obtain ⟨f, hs, hf, hw⟩ := met_run (Q := PySem.W.CmpBack (EP X pins σ Q)) c (hr.mono hk) rfl I hsp (fun v z H' s' I' rz q => by
    obtain ⟨r, rfl, q⟩ := q
    cases rz
    exact ⟨.bl r, H', I', rfl, q⟩)
  exact PySem.W.cmp_K (op := .Eq) (tb := .ref C) hr.units0 hF I.ok.mod.kin J J'.type (by simp [PySem.W.notFirst]) hs hf hw
theorem op_neI (n : NeC X.K C) (c : Met X.prog X.w X.K X.mg X.base k C "__eq__" sp []) (hr : Room j X.A) (hk : k + 1 ≤ j) : OpR X (compareOp .NotEq) (rNeI C sp) := by
  intro pins s σ H x y v u Q I rx ry h
  obtain ⟨a, b, dx, dy, fs, gs, rfl, rfl, ha, hb, hsp⟩ := h
  cases rx
  cases ry
  obtain ⟨mA, J, _⟩ := ins_get I.hok ha
  obtain ⟨mB, J', _⟩ := ins_get I.hok hb
  obtain ⟨od, J, _⟩ := J.look
  obtain ⟨od', J', _⟩ := J'.look
  obtain ⟨m, hF⟩ := I.fr
  obtain ⟨f, hs, hf, hw⟩ := met_run (Q := fun v s' => ∃ b, v = .bool b ∧ EP X pins σ Q (.bool (!b)) s') c (hr.mono hk).in1 rfl I hsp (fun v z H' s' I' rz q => by
    obtain ⟨r, rfl, q⟩ := q
    cases rz
    exact ⟨r, rfl, .bl (!r), H', I', rfl, q⟩)
  exact rcNe_own (hu_of hr) hF I.ok.mod.kin J J'.type hs hf n.ne n.ob hw
theorem op_mulI (n : NeC X.K C) (c : Met X.prog X.w X.K X.mg X.base k C "__mul__" sp []) (hr : Room j X.A) (hk : k ≤ j) : OpR X (binaryOp .Mult) (rOpI C sp) := by
  intro pins s σ H x y v u Q I rx ry h
  obtain ⟨a, b, dx, dy, fs, gs, rfl, rfl, ha, hb, hsp⟩ := h
  cases rx
  cases ry
  obtain ⟨mA, J, _⟩ := ins_get I.hok ha
  obtain ⟨mB, J', _⟩ := ins_get I.hok hb
  obtain ⟨od, J, _⟩ := J.look
  obtain ⟨od', J', _⟩ := J'.look
  obtain ⟨m, hF⟩ := I.fr
  obtain ⟨f, hs, hf, hw⟩ := met_run (Q := PySem.W.CmpBack (EP X pins σ Q)) c (hr.mono hk) rfl I hsp (fun v z H' s' I' rz q => by
    obtain ⟨p, rfl, q⟩ := q
    cases rz
    exact ⟨.ref p, H', I', rfl, q⟩)
  exact PySem.W.binop_K (op := .Mult) hF I.ok.mod.kin J J'.type n.sf hs hf hw
theorem op_addI (n : NeC X.K C) (c : Met X.prog X.w X.K X.mg X.base k C "__add__" sp []) (hr : Room j X.A) (hk : k ≤ j) : OpR X (binaryOp .Add) (rOpI C sp) := by
  intro pins s σ H x y v u Q I rx ry h
  obtain ⟨a, b, dx, dy, fs, gs, rfl, rfl, ha, hb, hsp⟩ := h
  cases rx
  cases ry
  obtain ⟨mA, J, _⟩ := ins_get I.hok ha
  obtain ⟨mB, J', _⟩ := ins_get I.hok hb
  obtain ⟨od, J, _⟩ := J.look
  obtain ⟨od', J', _⟩ := J'.look
  obtain ⟨m, hF⟩ := I.fr
  obtain ⟨f, hs, hf, hw⟩ := met_run (Q := PySem.W.CmpBack (EP X pins σ Q)) c (hr.mono hk) rfl I hsp (fun v z H' s' I' rz q => by
    obtain ⟨p, rfl, q⟩ := q
    cases rz
    exact ⟨.ref p, H', I', rfl, q⟩)
  exact PySem.W.binop_K (op := .Add) hF I.ok.mod.kin J J'.type n.sf hs hf hw
end
end LX
namespace LX
open PySem PySem.Spec PyProof.Rows L2 C8 SX
section
variable {X : Cx} {K : PySem.W.Frag} {H : Hp}
def txs (xs : List (List Nat)) : List V := xs.map fun l => V.str (S l)
theorem txs_len (xs : List (List Nat)) : (txs xs).length = xs.length := List.length_map ..
theorem dp_strs : ∀ xs : List (List Nat), DpAll K H (txs xs) (xs.map fun l => PyData.str (S l))
  | [] => .nil
  | x :: xs => .cons (.str _) (dp_strs xs)
theorem eqv_strs : ∀ xs ys : List (List Nat), PyData.eqvAll (xs.map fun l => PyData.str (S l)) (ys.map fun l => PyData.str (S l)) = decide (xs = ys)
  | [], [] => rfl
  | [], _ :: _ => rfl
  | _ :: _, [] => rfl
  | x :: xs, y :: ys => by
    show (S x == S y && PyData.eqvAll (xs.map fun l => PyData.str (S l)) (ys.map fun l => PyData.str (S l))) = _
    rw [S_beq_eq, eqv_strs xs ys, ← Bool.decide_and]
    exact decide_eq_decide.mpr (by rw [List.cons.injEq])
def Small (xs : List (List Nat)) : Prop := ∀ l ∈ xs, ∀ c ∈ l, c < 1114112
theorem lay_strs : ∀ {xs : List (List Nat)}, Small xs → PyData.canLayAll0 (xs.map fun l => PyData.str (S l)) = true ∧ PyData.depthAll (xs.map fun l => PyData.str (S l)) ≤ 1
  | [], _ => ⟨rfl, Nat.zero_le _⟩
  | x :: xs, h => by
    obtain ⟨h1, h2⟩ := lay_strs (xs := xs) fun l hl => h l (List.mem_cons_of_mem _ hl)
    refine ⟨?_, ?_⟩
    · show (PyData.canLay0 (.str (S x)) && PyData.canLayAll0 (xs.map fun l => PyData.str (S l))) = true
      rw [h1, Bool.and_true]
      show (S x).cps.all (· < 0x110000) = true
      rw [← Array.all_toList, List.all_eq_true]
      exact fun c hc => decide_eq_true (h x List.mem_cons_self c hc)
    · show max (PyData.depth (.str (S x))) (PyData.depthAll (xs.map fun l => PyData.str (S l))) ≤ 1
      have e : PyData.depth (.str (S x)) ≤ 1 := Nat.zero_le _
      omega
theorem shaped_lst {xs : List (List Nat)} (h : Small xs) : SeqAt.shaped (.list (xs.map fun l => PyData.str (S l))) = true := by
  obtain ⟨h1, h2⟩ := lay_strs h
  show (PyData.canLayAll0 _ && decide (PyData.depthAll _ + 1 ≤ 64)) = true
  rw [h1, Bool.true_and, decide_eq_true_eq]; omega
theorem shaped_tup {xs : List (List Nat)} (h : Small xs) : SeqAt.shaped (.tuple (xs.map fun l => PyData.str (S l))) = true := by
  obtain ⟨h1, h2⟩ := lay_strs h
  show (PyData.canLayAll0 _ && decide (PyData.depthAll _ + 1 ≤ 64)) = true
  rw [h1, Bool.true_and, decide_eq_true_eq]; omega
def rSs (K : PySem.W.Frag) (f : Bool → Bool) : R2 := fun x y H Q => ∃ (a b : Addr) (xs ys : List (List Nat)), x = .ref a ∧ y = .ref b ∧ ((SqL K H a (txs xs) ∧ SqL K H b (txs ys)) ∨ (SqT K H a (txs xs) ∧ SqT K H b (txs ys))) ∧ Small xs ∧ Small ys ∧ Q (.bl (f (decide (xs = ys)))) H
theorem op_eqSs {k : Nat} (hr : Room k X.A) : OpR X (compareOp .Eq) (rSs X.K fun b => b) := by
  intro pins s σ H x y v u Q I rx ry h
  obtain ⟨a, b, xs, ys, rfl, rfl, hh, hx, hy, q⟩ := h
  rcases hh with ⟨h1, h2⟩ | ⟨h1, h2⟩
  · exact op_eqD hr.units pins s σ H _ _ v u Q I rx ry ⟨_, _, .lst h1 (dp_strs xs), .lst h2 (dp_strs ys), shaped_lst hx, shaped_lst hy, by rw [show PyData.eqv (.list (xs.map fun l => PyData.str (S l))) (.list (ys.map fun l => PyData.str (S l))) = _ from eqv_strs xs ys]; exact q⟩
  · exact op_eqD hr.units pins s σ H _ _ v u Q I rx ry ⟨_, _, .tup h1 (dp_strs xs), .tup h2 (dp_strs ys), shaped_tup hx, shaped_tup hy, by rw [show PyData.eqv (.tuple (xs.map fun l => PyData.str (S l))) (.tuple (ys.map fun l => PyData.str (S l))) = _ from eqv_strs xs ys]; exact q⟩
theorem op_neSs {k : Nat} (hr : Room k X.A) : OpR X (compareOp .NotEq) (rSs X.K fun b => !b) := by
  intro pins s σ H x y v u Q I rx ry h
  obtain ⟨a, b, xs, ys, rfl, rfl, hh, hx, hy, q⟩ := h
  rcases hh with ⟨h1, h2⟩ | ⟨h1, h2⟩
  · exact op_neD hr.units pins s σ H _ _ v u Q I rx ry ⟨_, _, .lst h1 (dp_strs xs), .lst h2 (dp_strs ys), shaped_lst hx, shaped_lst hy, by rw [show PyData.eqv (.list (xs.map fun l => PyData.str (S l))) (.list (ys.map fun l => PyData.str (S l))) = _ from eqv_strs xs ys]; exact q⟩
  · exact op_neD hr.units pins s σ H _ _ v u Q I rx ry ⟨_, _, .tup h1 (dp_strs xs), .tup h2 (dp_strs ys), shaped_tup hx, shaped_tup hy, by rw [show PyData.eqv (.tuple (xs.map fun l => PyData.str (S l))) (.tuple (ys.map fun l => PyData.str (S l))) = _ from eqv_strs xs ys]; exact q⟩
end
theorem occ_idx {l : List Nat} {c : Nat} (h : c ∈ l) : ∃ r, Builtin.Str.occurrences (S l) (S [c]) 0 (S l).length 1 = l.idxOf c :: r := by
  have hlt := List.idxOf_lt_length_of_mem h
  have hat : StrLaws.At (S l) (S [c]) (S l).length (l.idxOf c) := (StrLaws.subAt_one (S l) c _).mpr (by show l[l.idxOf c]? = some c; rw [List.getElem?_eq_getElem hlt, List.getElem_idxOf hlt])
  rcases StrLaws.occ_head (S l) (S [c]) 1 (Nat.le_refl _) with ⟨_, hn⟩ | ⟨i, r, e, ha, hn⟩
  · exact absurd hat (hn _)
  · refine ⟨r, ?_⟩
    have hi : l[i]? = some c := (StrLaws.subAt_one (S l) c i).mp ha
    have h1 : ¬ l.idxOf c < i := fun z => hn _ z hat
    have h2 : ¬ i < l.idxOf c := fun z => by
      obtain ⟨hl, e⟩ := List.getElem?_eq_some_iff.mp hi
      have q := List.not_of_lt_findIdx (p := (· == c)) (xs := l) z
      simp [e] at q
    have : i = l.idxOf c := by omega
    rw [e, this]
structure Keep (Rel : Hp → Hp → Prop) (H1 : Hp) : Prop where
  refl : Rel H1 H1
  trans : ∀ H H', Rel H1 H → Rel H H' → Rel H1 H'
  put : ∀ H D o, Rel H1 H → H1 D = none → Rel H1 (upd H D o)
  get : ∀ H H' D o, Rel H H' → H1 D = none → Rel H1 H → H D = some o → H' D = some o
theorem keep_same {H1 : Hp} : Keep Same H1 where
  refl := Same.refl _
  trans := fun _ _ a b => a.trans b
  put := fun H D o s hD b u e => by rw [upd_ne (ne_of_none e hD)]; exact s b u e
  get := fun H H' D o s _ _ e => s _ _ e
def Bk (Pb : HO → Prop) (b : Addr) (H H' : Hp) : Prop := (∀ a o, a ≠ b → H a = some o → H' a = some o) ∧ ∃ o, H' b = some o ∧ Pb o
theorem keep_bk {Pb : HO → Prop} {b : Addr} {H1 : Hp} (h : ∃ o, H1 b = some o ∧ Pb o) : Keep (Bk Pb b) H1 where
  refl := ⟨fun _ _ _ e => e, h⟩
  trans := fun _ _ p q => ⟨fun a o n e => q.1 a o n (p.1 a o n e), q.2⟩
  put := fun H D o s hD => by
    obtain ⟨o1, e1, _⟩ := h
    refine ⟨fun a u n e => by rw [upd_ne (ne_of_none e hD)]; exact s.1 a u n e, ?_⟩
    rw [upd_ne (ne_of_none e1 hD)]
    exact s.2
  get := fun H H' D o s hD _ e => by
    obtain ⟨o1, e1, _⟩ := h
    exact s.1 D o (ne_of_none e1 hD).symm e
theorem bk_same {Pb : HO → Prop} {b : Addr} {H H' : Hp} (s : Same H H') (h : ∃ o, H b = some o ∧ Pb o) : Bk Pb b H H' := ⟨fun a o _ e => s a o e, let ⟨o, e, p⟩ := h; ⟨o, s b o e, p⟩⟩
theorem sm_put {H H' : Hp} {p : Addr} {o : HO} (s : Same H H') (h : H p = none) : Same H (upd H' p o) := fun b u e => by rw [upd_ne (ne_of_none e h)]; exact s b u e
theorem sm_put' {H H' : Hp} {p : Addr} {o : HO} (s : Same H H') (h : H' p = none) : Same H (upd H' p o) := sm_put s (s.free h)
theorem sm_new {H : Hp} {p : Addr} {o : HO} (h : H p = none) : Same H (upd H p o) := sm_put (Same.refl H) h
theorem sm_seqT {K : PySem.W.Frag} {H H' : Hp} {a : Addr} {xs : List V} (e : Same H H') (h : SqT K H a xs) : SqT K H' a xs :=
  h.elim (fun h => .inl (h.elim (fun h => .inl (e _ _ h)) fun ⟨o, h⟩ => .inr ⟨o, e _ _ h⟩)) fun h => .inr h
theorem bk_seq {Pb : HO → Prop} {K : PySem.W.Frag} {b : Addr} {H H' : Hp} {a : Addr} {xs : List V} (e : Bk Pb b H H') (n : a ≠ b) (h : SqL K H a xs) : SqL K H' a xs := by
  rcases h with (h | ⟨o, h⟩) | h
  · exact .inl (.inl (e.1 _ _ n h))
  · exact .inl (.inr ⟨o, e.1 _ _ n h⟩)
  · exact .inr h
theorem lc_keep {Rel : Hp → Hp → Prop} {J : It} {n : Nat} {G : Hp → Prop} {Y : Nat → Hp → V → Hp → Prop} {H1 : Hp} (kp : Keep Rel H1) (w : Walk J n G Y) {g : TG} {te : TE} {vs : List Nat} {σ : L2.St} {D : Addr} {Qd : Hp → Prop} (hD : H1 D = none) (hn : n < sizeLine)
    (Good : Nat → V → Prop) (hG : ∀ H, Rel H1 H → G H)
    (hs : ∀ i x H H' (R : V → Hp → Prop), i < n → Rel H1 H → Y i H x H' → (∀ y H4, Rel H H4 → Good i y → R y H4) → g x (wipe σ vs) H' fun σ2 H2 => wipe σ2 vs = wipe σ vs ∧ te σ2 H2 R)
    (hd : ∀ ys H, ys.length = n → (∀ (j : Nat) y, ys[j]? = some y → Good j y) → Rel H1 H → H D = some (.lst ys) → Qd H) :
    ∃ W : Nat → Nat → Hp → Prop, (∃ m, W 0 m (upd H1 D (.lst []))) ∧ ∀ i m H, W i m H →
      (J.stop i H ∧ Qd H) ∨ (J.go i H ∧ ∃ Nx : Hp → Prop, (∀ H', Nx H' → ∃ m', m' < m ∧ W (i + 1) m' H') ∧ ∀ x H', J.yld i H x H' → g x (wipe σ vs) H' fun σ2 H2 => wipe σ2 vs = wipe σ vs ∧ tYes σ2 H2 fun b H3 =>
        if b = true then te σ2 H3 fun y H4 => ∃ acc, H4 D = some (.lst acc) ∧ acc.length < sizeLine ∧ Nx (upd H4 D (.lst (acc ++ [y]))) else Nx H3) := by
  refine lc_it w (fun i H => ∃ acc, acc.length = i ∧ H D = some (.lst acc) ∧ Rel H1 H ∧ ∀ (j : Nat) y, acc[j]? = some y → Good j y) ⟨[], rfl, upd_same, kp.put _ _ _ kp.refl hD, fun j y e => by simp at e⟩ (fun i H _ ⟨_, _, _, r, _⟩ => hG H r) (fun i x H H' hi ⟨acc, hl, hDa, r, hg⟩ hy => ?_) (fun H ⟨acc, hl, hDa, r, hg⟩ => hd acc H hl hg r hDa)
  refine hs i x H H' _ hi r hy fun y H4 r4 gy => ?_
  refine ⟨acc, kp.get _ _ _ _ r4 hD r hDa, by omega, acc ++ [y], by simp [hl], upd_same, kp.put _ _ _ (kp.trans _ _ r r4) hD, fun j z e => ?_⟩
  rcases Nat.lt_or_ge j acc.length with h | h
  · rw [List.getElem?_append_left h] at e
    exact hg j z e
  · rw [List.getElem?_append_right h] at e
    have hj : j - acc.length = 0 := by
      rcases Nat.lt_or_ge (j - acc.length) 1 with z | z
      · omega
      · rw [List.getElem?_eq_none (by simpa using z)] at e; cases e
    rw [hj] at e
    have : y = z := Option.some.inj e
    subst this
    have : j = i := by omega
    subst this
    exact gy
theorem list_of {α : Type} {ys : List α} {n : Nat} {f : Nat → α} (hl : ys.length = n) (h : ∀ (j : Nat) y, ys[j]? = some y → y = f j) : ys = (List.range n).map f := by
  apply List.ext_getElem
  · simp [hl]
  · intro i h1 h2
    rw [List.getElem_map, List.getElem_range]
    exact h i _ (List.getElem?_eq_getElem h1)
theorem list_map {α β : Type} {ys : List β} {xs : List α} {f : α → β} (hl : ys.length = xs.length) (h : ∀ (j : Nat) y x, ys[j]? = some y → xs[j]? = some x → y = f x) : ys = xs.map f := by
  apply List.ext_getElem
  · simp [hl]
  · intro i h1 h2
    rw [List.getElem_map]
    exact h i _ _ (List.getElem?_eq_getElem h1) (List.getElem?_eq_getElem (by omega))
end LX
namespace LX
open PySem PySem.Spec PyProof.Rows L2 C8 SX
section
variable {X : Cx}
theorem ixl (K : PySem.W.Frag) (h : X.K = K := by rfl) : IxR X (rIxL K) := by subst h; exact ix_list
theorem ixt (K : PySem.W.Frag) (h : X.K = K := by rfl) : IxR X (rIxT K) := by subst h; exact ix_tup
theorem lenK (K : PySem.W.Frag) (h : X.K = K := by rfl) : CallR X (.builtin "len") (fun xs H Q => ∃ p ys, xs = [.ref p] ∧ (SqL K H p ys ∨ SqT K H p ys) ∧ Q (.int ys.length) H) := by subst h; exact call_len_seq
theorem listK (K : PySem.W.Frag) (h : X.K = K := by rfl) : CallR X (.type "list") (fun xs H Q => ∃ p ys, xs = [.ref p] ∧ (SqL K H p ys ∨ SqT K H p ys) ∧ ∀ l, H l = none → Q (.ref l) (upd H l (.lst ys))) := by subst h; exact call_list_of
theorem tupleK (K : PySem.W.Frag) (h : X.K = K := by rfl) : CallR X (.type "tuple") (fun xs H Q => ∃ p ys, xs = [.ref p] ∧ ((SqL K H p ys ∧ ∀ l, H l = none → Q (.ref l) (upd H l (.tup ys))) ∨ (SqT K H p ys ∧ Q (.ref p) H))) := by subst h; exact call_tuple_of
theorem isiK (K : PySem.W.Frag) (h : X.K = K := by rfl) : CallR X (.builtin "isinstance") (rIsi K) := by subst h; exact call_isi
theorem isiTK (K : PySem.W.Frag) (h : X.K = K := by rfl) : CallR X (.builtin "isinstance") (rIsiT K) := by subst h; exact call_isiT
theorem fldK (K : PySem.W.Frag) {o : Expr} {f : Str} {pos : Pos} {ta : TE} (ha : PE X o ta) (hb : attributeBase o f X.env (eval o X.env) = eval o X.env) (h : X.K = K := by rfl) : PE X (.Attribute o f pos) (tFld K ta f) := by subst h; exact pe_fld ha hb
theorem tupK (K : PySem.W.Frag) {es : List Expr} {k : Nat} {pos : Pos} {t : TGs} (n : Nat) (h : PGs X es t) (hc : X.calm = true := by rfl)
    (hn : (assignEach es X.env).length = n := by rfl) (hst : (assignEach es X.env).findIdx? (·.1) = none := by rfl) (hK : X.K = K := by rfl) : PG X (.Tuple es k pos) (gTup K n t) := by subst hK; exact pg_tup hc h hn hst
theorem unlK (K : PySem.W.Frag) {es : List Expr} {k : Nat} {pos : Pos} {t : TGs} (n : Nat) (h : PGs X es t) (hc : X.calm = true := by rfl)
    (hn : (assignEach es X.env).length = n := by rfl) (hst : (assignEach es X.env).findIdx? (·.1) = none := by rfl) (hK : X.K = K := by rfl) : PG X (.Tuple es k pos) (gUnl K n t) := by subst hK; exact pg_unl hc h hn hst
end
def Sr.is (K : PySem.W.Frag) (H : Hp) (xs : List V) : Sr → Prop
  | .txt x => xs = x.cps.toList.map fun c => V.str ⟨#[c]⟩
  | .lst a => SqL K H a xs
  | .tup a => SqT K H a xs
theorem Sr.is_there {K : PySem.W.Frag} {H : Hp} {xs : List V} : ∀ {S : Sr}, S.is K H xs → S.there K H
  | .txt _, _ => trivial
  | .lst _, h => ⟨xs, h⟩
  | .tup _, h => ⟨xs, h⟩
theorem Sr.is_has {K : PySem.W.Frag} {H : Hp} {xs : List V} {i : Nat} (hi : i < xs.length) : ∀ {S : Sr}, S.is K H xs → S.has K i H
  | .txt x, h => by
    have h' : xs = x.cps.toList.map fun c => V.str ⟨#[c]⟩ := h
    rw [h', List.length_map] at hi
    show i < x.cps.size; simpa using hi
  | .lst _, h => ⟨xs, h, hi⟩
  | .tup _, h => ⟨xs, h, hi⟩
theorem Sr.is_upto {K : PySem.W.Frag} {H : Hp} {xs : List V} {i : Nat} (hi : i ≤ xs.length) : ∀ {S : Sr}, S.is K H xs → S.upto K i H
  | .txt x, h => by
    have h' : xs = x.cps.toList.map fun c => V.str ⟨#[c]⟩ := h
    rw [h', List.length_map] at hi
    show i ≤ x.cps.size; simpa using hi
  | .lst _, h => ⟨xs, h, hi⟩
  | .tup _, h => ⟨xs, h, hi⟩
theorem Sr.is_ends {K : PySem.W.Frag} {H : Hp} {xs : List V} {i : Nat} (hi : i = xs.length) : ∀ {S : Sr}, S.is K H xs → S.ends K i H
  | .txt x, h => by
    have h' : xs = x.cps.toList.map fun c => V.str ⟨#[c]⟩ := h
    rw [h', List.length_map] at hi
    show i = x.cps.size; simpa using hi
  | .lst _, h => ⟨xs, h, hi⟩
  | .tup _, h => ⟨xs, h, hi⟩
theorem Sr.is_val {K : PySem.W.Frag} {H : Hp} {xs : List V} {i : Nat} {v : V} : ∀ {S : Sr}, S.is K H xs → S.val K i H v → xs[i]? = some v
  | .txt x, h, ⟨c, e, ev⟩ => by
    have h' : xs = x.cps.toList.map fun c => V.str ⟨#[c]⟩ := h
    have e' : x.cps.toList[i]? = some c := by simpa using e
    rw [h', List.getElem?_map, e', ev]; rfl
  | .lst _, h, e => e xs h
  | .tup _, h, e => e xs h
theorem walk_zipX {K : PySem.W.Frag} {S1 S2 : Sr} {xs ys : List V} : Walk (ItzX K S1 S2) (min xs.length ys.length) (fun H => S1.is K H xs ∧ S2.is K H ys) (YPair (fun i => xs[i]?) (fun i => ys[i]?)) := by
  refine ⟨fun i _ hi q => ⟨Sr.is_has (by omega) q.1, Sr.is_has (by omega) q.2⟩, fun _ q => ⟨Sr.is_upto (by omega) q.1, Sr.is_upto (by omega) q.2, ?_⟩, fun i H v H' _ q y => ?_⟩
  · rcases Nat.le_total xs.length ys.length with h | h
    · exact .inl (Sr.is_ends (by omega) q.1)
    · exact .inr (Sr.is_ends (by omega) q.2)
  · obtain ⟨T, x, z, h1, h2, h3, h4, h5⟩ := y
    exact ⟨T, x, z, h1, h2, h3, Sr.is_val q.1 h4, Sr.is_val q.2 h5⟩
end LX
namespace LX
open PySem PySem.Spec PyProof.Rows L2 C8 SX
theorem lc_keepH {Rel : Hp → Hp → Prop} {J : It} {n : Nat} {G : Hp → Prop} {Y : Nat → Hp → V → Hp → Prop} {H1 : Hp} (kp : Keep Rel H1) (w : Walk J n G Y) {g : TG} {te : TE} {vs : List Nat} {σ : L2.St} {D : Addr} {Qd : Hp → Prop} (hD : H1 D = none) (hn : n < sizeLine)
    (Good : Nat → V → Hp → Prop) (hG : ∀ H, Rel H1 H → G H)
    (st : ∀ i y H H', Rel H1 H → Rel H H' → Good i y H → Good i y H') (pt : ∀ i y H acc o, Rel H1 H → H D = some (.lst acc) → Good i y H → Good i y (upd H D o))
    (hs : ∀ i x H H' acc (R : V → Hp → Prop), i < n → Rel H1 H → H D = some (.lst acc) → Y i H x H' → (∀ y H4, Rel H H4 → Good i y H4 → R y H4) → g x (wipe σ vs) H' fun σ2 H2 => wipe σ2 vs = wipe σ vs ∧ te σ2 H2 R)
    (hd : ∀ ys H, ys.length = n → (∀ (j : Nat) y, ys[j]? = some y → Good j y H) → Rel H1 H → H D = some (.lst ys) → Qd H) :
    ∃ W : Nat → Nat → Hp → Prop, (∃ m, W 0 m (upd H1 D (.lst []))) ∧ ∀ i m H, W i m H →
      (J.stop i H ∧ Qd H) ∨ (J.go i H ∧ ∃ Nx : Hp → Prop, (∀ H', Nx H' → ∃ m', m' < m ∧ W (i + 1) m' H') ∧ ∀ x H', J.yld i H x H' → g x (wipe σ vs) H' fun σ2 H2 => wipe σ2 vs = wipe σ vs ∧ tYes σ2 H2 fun b H3 =>
        if b = true then te σ2 H3 fun y H4 => ∃ acc, H4 D = some (.lst acc) ∧ acc.length < sizeLine ∧ Nx (upd H4 D (.lst (acc ++ [y]))) else Nx H3) := by
  refine lc_it w (fun i H => ∃ acc, acc.length = i ∧ H D = some (.lst acc) ∧ Rel H1 H ∧ ∀ (j : Nat) y, acc[j]? = some y → Good j y H) ⟨[], rfl, upd_same, kp.put _ _ _ kp.refl hD, fun j y e => by simp at e⟩ (fun i H _ ⟨_, _, _, r, _⟩ => hG H r) (fun i x H H' hi ⟨acc, hl, hDa, r, hg⟩ hy => ?_) (fun H ⟨acc, hl, hDa, r, hg⟩ => hd acc H hl hg r hDa)
  refine hs i x H H' acc _ hi r hDa hy fun y H4 r4 gy => ?_
  have hD4 := kp.get _ _ _ _ r4 hD r hDa
  have r5 := kp.trans _ _ r r4
  refine ⟨acc, hD4, by omega, acc ++ [y], by simp [hl], upd_same, kp.put _ _ _ r5 hD, fun j z e => ?_⟩
  rcases Nat.lt_or_ge j acc.length with h | h
  · rw [List.getElem?_append_left h] at e
    exact pt _ _ _ _ _ r5 hD4 (st _ _ _ _ r r4 (hg j z e))
  · rw [List.getElem?_append_right h] at e
    have hj : j - acc.length = 0 := by
      rcases Nat.lt_or_ge (j - acc.length) 1 with z | z
      · omega
      · rw [List.getElem?_eq_none (by simpa using z)] at e; cases e
    rw [hj] at e
    have : y = z := Option.some.inj e
    subst this
    have : j = i := by omega
    subst this
    exact pt _ _ _ _ _ r5 hD4 gy
end LX
namespace LX
open PySem PySem.Spec PyProof.Rows L2 C8 SX
def bx (x y z : Int) : HO := .lst [.int x, .int y, .int z]
def isBx (o : HO) : Prop := ∃ x y z : Int, o = bx x y z
def BoxAt (b : Addr) (H : Hp) : Prop := ∃ o, H b = some o ∧ isBx o
abbrev Bx (b : Addr) : Hp → Hp → Prop := Bk isBx b
theorem Bx.box {b : Addr} {H H' : Hp} (h : Bx b H H') : BoxAt b H' := h.2
theorem BoxAt.of {b : Addr} {H : Hp} {x y z : Int} (h : H b = some (bx x y z)) : BoxAt b H := ⟨_, h, _, _, _, rfl⟩
theorem Bx.mk {b : Addr} {H : Hp} (x y z : Int) : Bx b H (upd H b (bx x y z)) := ⟨fun a o n e => by rw [upd_ne n]; exact e, _, upd_same, _, _, _, rfl⟩
theorem Bx.trans {b : Addr} {H H1 H2 : Hp} (p : Bx b H H1) (q : Bx b H1 H2) : Bx b H H2 := ⟨fun a o n e => q.1 a o n (p.1 a o n e), q.2⟩
theorem box_ne {b p : Addr} {H : Hp} (h : BoxAt b H) (n : H p = none) : p ≠ b := by
  obtain ⟨o, e, _⟩ := h
  exact (ne_of_none e n).symm
theorem Bx.put {b p : Addr} {H H1 : Hp} {o : HO} (s : Bx b H H1) (h : BoxAt b H) (n : H p = none) : Bx b H (upd H1 p o) := (keep_bk h).put _ _ _ s n
theorem Bx.free {b p : Addr} {H H1 : Hp} (s : Bx b H H1) (n : H1 p = none) : H p = none := by
  cases q : H p with
  | none => rfl
  | some o =>
    by_cases e : p = b
    · subst e; obtain ⟨u, z, _⟩ := s.2; rw [n] at z; cases z
    · rw [s.1 p o e q] at n; cases n
theorem nil1 {σ : L2.St} {H : Hp} {R : List V → Hp → Prop} (h : R [] H) : tNil σ H R := h
theorem consc {v : V} {σ : L2.St} {H : Hp} {R : List V → Hp → Prop} (h : R [v] H) : tCons (tC v) tNil σ H R := h
theorem tc1 {v : V} {σ : L2.St} {H : Hp} {Q : VK} (h : Q v H) : tC v σ H Q := h
theorem ne_str {l r : Str} {H : Hp} {R : VK} (e : l = r) (h : R (.bl false) H) : rNe (.str l) (.str r) H R := ⟨rfl, by rw [decide_eq_true (by rw [e])]; exact h⟩
theorem bl_f {p : Bool → Prop} (h : p false) : ∃ k, V.bl false = V.bl k ∧ p k := ⟨false, rfl, h⟩
theorem if_f {p q : Prop} (h : q) : if false = true then p else q := h
theorem iteB {c : Bool} {A B : Prop} (hc : c = true) (h : A) : if c = true then A else B := by rw [if_pos hc]; exact h
theorem iteN {c : Bool} {A B : Prop} (hc : c = false) (h : B) : if c = true then A else B := by rw [hc]; exact iteF h
theorem perm_at {α : Type} : ∀ {xs : List α} {i : Nat} (h : i < xs.length), (xs[i] :: xs.eraseIdx i).Perm xs
  | x :: xs, 0, _ => List.Perm.refl _
  | x :: xs, i + 1, h => (List.Perm.swap x _ _).trans ((perm_at (xs := xs) (i := i) (Nat.lt_of_succ_lt_succ h)).cons x)
theorem eraseIdx_map' {α β : Type} (f : α → β) : ∀ (xs : List α) (i : Nat), (xs.map f).eraseIdx i = (xs.eraseIdx i).map f
  | [], i => by cases i <;> rfl
  | x :: xs, 0 => rfl
  | x :: xs, i + 1 => congrArg (f x :: ·) (eraseIdx_map' f xs i)
theorem perm_map_inv {α β : Type} {f : α → β} {g : β → α} (hg : ∀ a, g (f a) = a) {ys : List β} {xs : List α} (h : ys.Perm (xs.map f)) : ∃ zs : List α, ys = zs.map f ∧ zs.Perm xs := by
  refine ⟨ys.map g, ?_, ?_⟩
  · rw [List.map_map]
    have : ys.map (f ∘ g) = ys.map id := List.map_congr_left fun y hy => by
      obtain ⟨a, _, rfl⟩ := List.mem_map.mp (h.subset hy)
      show f (g (f a)) = f a
      rw [hg]
    rw [this, List.map_id]
  · have e := h.map g
    rw [List.map_map] at e
    have : xs.map (g ∘ f) = xs.map id := List.map_congr_left fun a _ => hg a
    rw [this, List.map_id] at e
    exact e
theorem sums_singles : ∀ l : List Nat, ((l.map fun c => S [c]).map (·.length)).sum = l.length
  | [] => rfl
  | c :: l => by simp only [List.map_cons, List.sum_cons, sums_singles l, List.length_cons]; rw [S_len]; simp; omega
theorem join_nil : ∀ ys : List (List Nat), TL.joinL [] ys = ys.flatten
  | [] => rfl
  | [y] => by simp [TL.joinL]
  | y :: z :: ys => by
    have ih := join_nil (z :: ys)
    simp [TL.joinL] at ih ⊢
    exact ih
theorem join_txs (ys : List (List Nat)) : Txt.join (S []) (ys.map S) = S ys.flatten := by rw [join_S, join_nil]
theorem flat_singles : ∀ l : List Nat, (l.map fun c => [c]).flatten = l
  | [] => rfl
  | c :: l => by rw [List.map_cons, List.flatten_cons, flat_singles l]; rfl
theorem join_singles (l : List Nat) : Txt.join (S []) (l.map fun c => S [c]) = S l := by
  have e1 : (l.map fun c => S [c]) = (l.map fun c => [c]).map S := by rw [List.map_map]; rfl
  rw [e1, join_txs, flat_singles]
theorem rising_singles : ∀ (ds : List Nat) (c : Nat), risingS (S [c]) (ds.map fun d => S [d]) = true → (∀ d ∈ ds, c ≤ d) ∧ ds.Pairwise (· ≤ ·)
  | [], _, _ => ⟨fun _ h => (nomatch h), .nil⟩
  | d :: ds, c, h => by
    have h' : (!ltCps [d] [c] && risingS (S [d]) (ds.map fun d => S [d])) = true := h
    rw [Bool.and_eq_true, Bool.not_eq_true'] at h'
    obtain ⟨h1, h2⟩ := h'
    obtain ⟨i1, i2⟩ := rising_singles ds d h2
    have hcd : c ≤ d := by
      rcases Nat.lt_or_ge d c with q | q
      · simp [ltCps, q] at h1
      · exact q
    refine ⟨fun e he => ?_, List.pairwise_cons.mpr ⟨i1, i2⟩⟩
    rcases List.mem_cons.mp he with rfl | he
    · exact hcd
    · exact Nat.le_trans hcd (i1 e he)
theorem sorted_singles {ds : List Nat} (h : sortedS (ds.map fun d => S [d]) = true) : ds.Pairwise (· ≤ ·) := by
  cases ds with
  | nil => exact .nil
  | cons d ds =>
    obtain ⟨i1, i2⟩ := rising_singles ds d h
    exact List.pairwise_cons.mpr ⟨i1, i2⟩
theorem strict_of {ds : List Nat} (h : ds.Pairwise (· ≤ ·)) (n : ds.Nodup) : ds.Pairwise (· < ·) :=
  (h.and n).imp fun ⟨a, b⟩ => Nat.lt_of_le_of_ne a b
open Classical in
theorem fun_of {α γ : Type} [DecidableEq α] [Inhabited γ] {sg : List α} (n : sg.Nodup) {P : Nat → α → γ → Prop} (h : ∀ j c, sg[j]? = some c → ∃ v, P j c v) : ∃ g : α → γ, ∀ j c, sg[j]? = some c → P j c (g c) := by
  refine ⟨fun c => if q : ∃ v, P (sg.idxOf c) c v then q.choose else default, fun j c e => ?_⟩
  have hj : j = sg.idxOf c := by
    obtain ⟨hl, e2⟩ := List.getElem?_eq_some_iff.mp e
    subst e2
    exact (n.idxOf_getElem j hl).symm
  have q : ∃ v, P (sg.idxOf c) c v := hj ▸ h j c e
  show P j c (dite _ _ _)
  rw [dif_pos q, hj]
  exact q.choose_spec
theorem paired_map {α β γ : Type} {R : α → β → Prop} {f : γ → α} {g : γ → β} : ∀ {l : List γ}, (∀ c ∈ l, R (f c) (g c)) → Paired R (l.map f) (l.map g)
  | [], _ => .nil
  | c :: l, h => .cons (h c List.mem_cons_self) (paired_map fun d hd => h d (List.mem_cons_of_mem _ hd))
abbrev tk (l : List Nat) : Key := Sum.inr (S l)
theorem tk_inj {l r : List Nat} (h : tk l = tk r) : l = r := by
  have e : S l = S r := Sum.inr.inj h
  have : (S l).cps.toList = (S r).cps.toList := by rw [e]
  simpa [S] using this
theorem valV_none {kvs : List (Key × V)} {k : Key} (h : ∀ p ∈ kvs, p.1 ≠ k) : valV kvs k = none := by
  unfold valV
  rw [List.find?_eq_none.mpr fun p hp => by simpa using h p hp]
  rfl
theorem valV_map' {α : Type} [DecidableEq α] {key : α → Key} (inj : ∀ a b, key a = key b → a = b) {f : α → V} : ∀ {l : List α} {c : α}, c ∈ l → valV (l.map fun a => (key a, f a)) (key c) = some (f c)
  | a :: l, c, h => by
    by_cases e : a = c
    · subst e; exact valV_pos rfl
    · rw [List.map_cons, valV_neg (fun q => e (inj _ _ q))]
      refine valV_map' inj ?_
      rcases List.mem_cons.mp h with q | q
      · exact absurd q.symm e
      · exact q
theorem merge_new : ∀ {more kvs : List (Key × V)}, (∀ p ∈ more, ∀ q ∈ kvs, q.1 ≠ p.1) → (more.map (·.1)).Nodup → mergeK kvs more = kvs ++ more
  | [], kvs, _, _ => by rw [List.append_nil]; rfl
  | p :: more, kvs, h, n => by
    have e : putK kvs p.1 p.2 = kvs ++ [p] := putK_new _ (valV_none fun q hq => h p List.mem_cons_self q hq)
    show mergeK (putK kvs p.1 p.2) more = _
    rw [List.map_cons, List.nodup_cons] at n
    rw [e, merge_new (fun r hr q hq => ?_) n.2, List.append_assoc]
    · rfl
    · rcases List.mem_append.mp hq with hq | hq
      · exact h r (List.mem_cons_of_mem _ hr) q hq
      · rw [List.mem_singleton] at hq
        subst hq
        exact fun e => n.1 (e ▸ List.mem_map_of_mem hr)
theorem merge_nil {more : List (Key × V)} (n : (more.map (·.1)).Nodup) : mergeK [] more = more := by
  rw [merge_new (fun _ _ q h => absurd h List.not_mem_nil) n]; rfl
theorem nodup_keys {α : Type} {key : α → Key} (inj : ∀ a b, key a = key b → a = b) {f : α → V} {l : List α} (n : l.Nodup) : ((l.map fun a => (key a, f a)).map (·.1)).Nodup := by
  rw [List.map_map]
  exact List.pairwise_map.mpr (n.imp fun h e => h (inj _ _ e))
theorem cut_to (ys : List (List Nat)) (k : Nat) : cutV (txs ys) none (some (k : Int)) = txs (ys.take k) := by
  unfold cutV
  rw [HT.sIx_none, HT.sIx_nat, List.drop_zero, Nat.sub_zero, txs_len]
  unfold txs
  rw [← List.map_take]
  rcases Nat.le_total k ys.length with h | h
  · rw [Nat.min_eq_left h]
  · rw [Nat.min_eq_right h, List.take_length, List.take_of_length_le h]
theorem tup_ne_box {H : Hp} {t b : Addr} {xs : List V} (hb : BoxAt b H) (ht : H t = some (.tup xs)) : t ≠ b := by
  obtain ⟨o, e, x, y, z, rfl⟩ := hb
  exact ne_of ht e (by intro h; cases h)
theorem dict_ne_box {H : Hp} {t b : Addr} {xs : List (Key × V)} (hb : BoxAt b H) (ht : H t = some (.dK xs)) : t ≠ b := by
  obtain ⟨o, e, x, y, z, rfl⟩ := hb
  exact ne_of ht e (by intro h; cases h)
theorem not_in_take {α : Type} [DecidableEq α] {ms : List α} {i : Nat} {m : α} (n : ms.Nodup) (h : ms[i]? = some m) : m ∉ ms.take i := fun hm => by
  obtain ⟨j, hj⟩ := List.getElem?_of_mem hm
  have hji : j < i := by
    have := (List.getElem?_eq_some_iff.mp hj).1
    rw [List.length_take] at this; omega
  rw [List.getElem?_take_of_lt hji] at hj
  have h1 := (List.getElem?_eq_some_iff.mp h)
  have h2 := (List.getElem?_eq_some_iff.mp hj)
  obtain ⟨a1, a2⟩ := h1
  obtain ⟨b1, b2⟩ := h2
  have e1 : ms.idxOf m = i := by subst a2; exact n.idxOf_getElem i a1
  have e2 : ms.idxOf m = j := by subst b2; exact n.idxOf_getElem j b1
  omega
theorem take_more {α : Type} {ms : List α} {i : Nat} {m : α} (h : ms[i]? = some m) : ms.take (i + 1) = ms.take i ++ [m] := by
  rw [List.take_succ, h]; rfl
theorem sz {n m : Nat} (h : n ≤ m) (hm : m ≤ 1000) : n ≤ sizeLine := Nat.le_trans (Nat.le_trans h hm) (show 1000 ≤ sizeLine by decide)
end LX
set_option maxHeartbeats 2000000
namespace LX
open PySem PySem.Spec PyProof.Rows L2 C8 SX
structure FnG (P : Program) (w : World) (K : PySem.W.Frag) (mg : Str → Option Value) (base : Heap) (k : Nat) (f : Addr) (fd : FuncData) (ps : List Str) (sp : Sp) : Prop where
  many : ∀ vs H Q E, sp vs H Q E → vs.length = ps.length
  goes : ∀ (A : Around) (ou : List Env) (t : Shared) (H : Hp) (gs : Args) (us : List Value) (vs : List V) (Q : VK) (E : XK), A.guards = some [] → Room k A → Env0 P w K mg base A ou t H → BindsTo t fd gs (ps.zip us) → Vals vs us →
    sp vs H Q E → codeAny (model P w) A (.call (.ref f) gs) (CR C8.CX0 ou P w H t Q E) t
theorem FnG.of {P : Program} {w : World} {K : PySem.W.Frag} {mg : Str → Option Value} {base : Heap} {k : Nat} {f : Addr} {fd : FuncData} {ps : List Str} {sp : Sp} (F : FnOk P w K mg base C8.CX0 k f fd ps sp) : FnG P w K mg base k f fd ps sp :=
  ⟨F.len, fun A ou t H gs us vs Q E _ => F.run A ou t H gs us vs Q E⟩
theorem fnG0 {P : Program} {w : World} {K : PySem.W.Frag} {mg : Str → Option Value} {base : Heap} {x ql : Str} {st : Stmt} {f : Addr} {fd : FuncData} {N ps : List Str} {k : Nat} {sp : Sp} (F : C8.Fun K x ql st f fd) (Sc : FnScope N ps (C8.fnScope st))
    (many : ∀ vs H Q E, sp vs H Q E → vs.length = ps.length)
    (h : ∀ (cd : Value) (A : Around) (ou : List Env) (t : Shared) (H : Hp) (vs : List V) (Q : VK) (E : XK), A.guards = some [] → Room k (A.deeper (envOfC ql (C8.fnScope st) t.heap.objs.size f cd)) → sp vs H Q E →
      ∃ r, PSs (cxOf C8.CX0 P w K mg base N ql (C8.fnScope st) f cd A ou t H E).nox (C8.fnBody st) r ∧ r { nx := fun _ H' => Q .non H', rt := Q } (L2.start N vs) H) : FnG P w K mg base (k + 1) f fd ps sp := by
  obtain ⟨oc, od, dV, kV, doc, pm, an, cd, ct, osl, rfl, at_, code⟩ := F.ex
  constructor
  · exact many
  intro A ou t H gs us vs Q E gd room e0 bound rel want
  have count := many _ _ _ _ want
  have old : ∀ (b : Addr) (o : Obj), base.get? b = some o → t.heap.get? b = some o := fun b o e => (e0.bs b o e).1
  have KT : K.In t.heap := e0.mod.kin.keeps old
  have kinds : ∀ y ∈ ps.zip us, (C8.fnScope st).names.lookup y.1 = some .local ∨ ((C8.fnScope st).names.lookup y.1 = some .cell ∧ ((cellsFrom (t.heap.objs.size + 1) (C8.fnScope st).names []).lookup y.1).isSome = true) := by
    intro y hy
    obtain ⟨n, v⟩ := y
    exact (Sc.par n (List.of_mem_zip hy).1).elim .inl fun q => .inr ⟨q, PySem.W.cellsFrom_some _ _ _ (.inl q)⟩
  refine codeAny_call_function room.depth (KT _ _ at_) rfl Sc.co Sc.gen rfl (PySem.W.codeRec_of KT code) (bound _ _ _ _ ?_)
  refine wpAny_newFunctionEnv_cells Sc.kind kinds fun en en_is t1 inside => ?_
  subst en_is
  refine ⟨(e0.mod.nolimit.keeps old).keeps inside.toInCall.keep, codeAny_func ?_⟩
  obtain ⟨r, body, read⟩ := h cd A ou t H vs Q E gd (room.deeper _) want
  have I0 := inv_start (CX := C8.CX0) (E := E) Sc room.hd e0 count rel inside
  refine wpAny_mono (body.nox.run [] t1 (L2.start N vs) H _ I0 read) (fun fl t' got => ?_) fun _ _ got => got
  cases fl with
  | ret u => exact let ⟨v, _, H', J, rv, q⟩ := got; ⟨v, H', J.os, J.bare, J.base, J.hok, rv, q⟩
  | next => exact let ⟨_, H', J, q⟩ := got; ⟨.non, H', J.os, J.bare, J.base, J.hok, rfl, q⟩
  | brk => exact let ⟨_, _, _, q⟩ := got; False.elim q
  | cont => exact let ⟨_, _, _, q⟩ := got; False.elim q
structure CalG (P : Program) (w : World) (K : PySem.W.Frag) (mg : Str → Option Value) (base : Heap) (k : Nat) (x : Str) (sp : Sp) : Prop where
  ex : ∃ (f : Addr) (fd : FuncData) (ps : List Str), FnG P w K mg base k f fd ps sp ∧ mg x = some (.ref f) ∧ PySem.W.keepIn K (.ref f) = true ∧ Binds K fd ps []
structure MetG (P : Program) (w : World) (K : PySem.W.Frag) (mg : Str → Option Value) (base : Heap) (k : Nat) (C : Addr) (m : Str) (sp : Sp) : Prop where
  ex : ∃ (f : Addr) (fd : FuncData) (ps : List Str), Cls K C ∧ Meth K C m f ∧ FnG P w K mg base k f fd ps sp ∧ Binds K fd ps []
section
variable {X : Cx} {k j : Nat} {f C : Addr} {fd : FuncData} {ps : List Str} {sp : Sp} {x m : Str} {p pos apos : Pos} {e o : Expr} {es : List Expr} {ta : TE} {t : TA}
theorem goesG {pins : List (Addr × Obj)} {σ : L2.St} {H : Hp} {s : Shared} {Q : VK} {us : List Value} {vs : List V} (F : FnG X.prog X.w X.K X.mg X.base k f fd ps sp) (gd : X.A.guards = some []) (room : Room k X.A) (bd : Binds X.K fd ps [])
    (I : Inv X pins σ H s) (rel : Vals vs us) (want : sp (vs ++ []) H Q C8.E0) : wpAny (model X.prog X.w) X.A (call (.ref f) us) (EP X pins σ Q) X.xe s := by
  rw [List.append_nil] at want
  have count : (us ++ []).length = ps.length := by rw [List.append_nil, ← rel.length]; exact F.many _ _ _ _ want
  have bs := bd s us I.kIn count
  rw [List.append_nil] at bs
  refine wpAny_call (codeAny_mono (F.goes X.A X.stack s H ⟨us, []⟩ us vs Q C8.E0 gd room I.env0 bs rel want) fun r t' got => ?_)
  match r, got with
  | .ok (.ret u), got => exact I.after got
theorem pe_cG (c : CalG X.prog X.w X.K X.mg X.base k x sp) (gd : X.A.guards = some []) (room : Room j X.A) (hk : k ≤ j) (hg : Gl X x) (ha : PA X (e :: es) t) (hdb : (x == ("__debug__" : Str)) = false := by decide)
    (he : starEach (e :: es) X.env = (false, eval e X.env) :: starEach es X.env := by rfl) (hpl : (backTo pos (starEach es X.env)).any (·.1) = false := by rfl) : PE X (.Call (.Name x p) (e :: es) [] pos) (tCall sp [] C8.E0 t) := by
  obtain ⟨f, fd, ps, F, named, kept, bd⟩ := c.ex
  constructor
  intro pins s σ H Q I want
  refine wpAny_Call_Name_kw (ld_glob I hg named ?_ hdb)
  refine PySem.W.callWith_K (h₀ := X.base) I.ok.mod.kin kept (thn (ha.run pos pins s σ H _ I want) ?_) he hpl
  rintro us s1 ⟨vs, H1, I1, rel, q⟩
  exact ⟨I1.kIn, goesG F gd (room.mono hk) bd I1 rel q⟩
theorem call_reprG (gd : X.A.guards = some []) (room : Room j X.A) : CallR X (.builtin "repr") (fun xs H Q => ∃ (a : Addr) (d : PyData), xs = [.ref a] ∧ Dp X.K H (.ref a) d ∧ d.showable = true ∧ d.hasDict = false ∧ d.depth ≤ 60 ∧ d.shown.length ≤ sizeLine ∧ Q (.str d.shown) H) := by
  intro pins s σ H xs us Q I rel want
  obtain ⟨a, d, rfl, hd, sh, nd, dep, sz, q⟩ := want
  obtain ⟨u, rfl, ru⟩ := vals1 rel
  obtain rfl : u = Value.ref a := ru
  obtain ⟨as, rd⟩ := Dp.reads I d (.ref a) (.ref a) hd rfl
  have un := room.un
  refine repr_of_reads' rd sh (PyData.noDict_hsm nd) gd (by omega) (fun _ _ z => z) (fun h' u tk kept => ?_) sz
  exact ⟨.str d.shown, H, I.kept kept, ⟨_, rfl⟩, q⟩
end
abbrev Done (s s' : Shared) (r : Result) : Prop := r = .ok (.ret (.bool true)) ∧ OldK s.heap s'.heap ∧ s'.os = s.os ∧ AllBare s'.gens
section
variable {P : Program} {w : World} {K : PySem.W.Frag} {mg mb : Str → Option Value} {k : Nat} {fa a : Addr} {fd : FuncData} {x : Str} {sp : Sp} {s : Shared} {vs : List Value} {ns : List Int}
theorem lawG_at {H : Hp} (KX : K.In s.heap) (hns : s.heap.Ns mainGlobals mg) (hb : s.heap.Ns builtinsNs mb) (hbb : ∀ x : Str, x ≠ "__name__" → mb x = bootBuiltins x) (lim : s.heap.NoLimit) (gens : s.gens = #[])
    (ha : s.heap.get? a = some { cls := .type "list", data := .seq vs.toArray }) (room : Room k callerA) (F : ∀ base : Heap, K.In base → base.Ns mainGlobals mg → FnG P w K mg base k fa fd [x] sp)
    (bd : ∀ (s : Shared) (u : Value), BindsTo s fd ⟨[u], []⟩ [(x, u)]) (only : Only H) (want : sp [.ref a] H (fun v _ => v = .bl true) C8.E0) (ok : HOk P w H s.heap) (at_a : ∀ b, H b ≠ none → b = a) (not_K : H a ≠ none → K.lookup a = none) :
    codeAny (model P w) callerA (.call (.ref fa) ⟨[.ref a], []⟩) (fun r s' => Done s s' r) s := by
  have free : ∀ {b : Addr}, b ≠ a → H b = none := fun {b} hn => by
    cases q : H b with
    | none => rfl
    | some u => exact absurd (at_a b (by rw [q]; simp)) hn
  have dict_free : ∀ {b : Addr} {o : Obj} {es : Array DictEntry} {ep : Nat}, s.heap.get? b = some o → o.data = .dict es ep → H b = none := fun {b o es ep} e d => free fun eq => by
    rw [eq, ha] at e
    cases e
    have d2 : Data.seq vs.toArray _ = Data.dict es ep := d
    cases d2
  have names : ∀ {b : Addr} {m : Str → Option Value}, s.heap.Ns b m → (hidT s.heap H).Ns b m := fun {b m} ⟨o, es, ep, e, d, r⟩ => ⟨o, es, ep, hidT_get e (dict_free e d), d, r⟩
  have hK : K.In (hidT s.heap H) := fun b o e => hidT_get (KX b o e) (by
    by_cases eq : b = a
    · subst eq
      cases q : H b with
      | none => rfl
      | some u => rw [not_K (by rw [q]; simp)] at e; cases e
    · exact free eq)
  have md : Mod K mg (hidT s.heap H) := by
    obtain ⟨mc, c1, c2⟩ := lim
    exact ⟨hK, names hns, ⟨mb, names hb, hbb⟩, mc, names c1, c2⟩
  have e0 : Env0 P w K mg (hidT s.heap H) callerA [] s H := ⟨rfl, md, fun _ _ e => of_hidT e, Nat.le_of_eq (hidT_size _ _), trivial, fun _ hm => absurd hm (List.not_mem_nil), ok, .of_eq gens⟩
  refine codeAny_mono ((F _ hK (names hns)).goes callerA [] s H ⟨[.ref a], []⟩ [.ref a] [.ref a] _ _ rfl room e0 (bd s (.ref a)) (.cons rfl .nil) want) fun r t got => ?_
  match r, got with
  | .ok (.ret u), got =>
    obtain ⟨v, H2, os, bare, un, ok2, rel, is_true⟩ := got
    obtain rfl : v = V.bl true := is_true
    obtain rfl : u = Value.bool true := rel
    refine ⟨rfl, OldK.of_keep fun b o e => ?_, os, bare⟩
    rcases only b with none_ | ⟨ob, xs, frozen⟩
    · exact un.keep b o e none_ (fun z => absurd z List.not_mem_nil) (by simp)
    · obtain ⟨e1, _⟩ := ok b _ frozen
      obtain ⟨e2, _⟩ := ok2 b _ (un.frzs b ob _ frozen)
      rw [e] at e1
      cases e1
      exact e2
theorem lawG_call (KX : K.In s.heap) (hns : s.heap.Ns mainGlobals mg) (hb : s.heap.Ns builtinsNs mb) (hbb : ∀ x : Str, x ≠ "__name__" → mb x = bootBuiltins x) (lim : s.heap.NoLimit) (gens : s.gens = #[])
    (ha : s.heap.get? a = some { cls := .type "list", data := .seq vs.toArray }) (hi : IntsAre vs ns) (hl : ns.length ≤ sizeLine) (room : Room k callerA) (F : ∀ base : Heap, K.In base → base.Ns mainGlobals mg → FnG P w K mg base k fa fd [x] sp)
    (bd : ∀ (s : Shared) (u : Value), BindsTo s fd ⟨[u], []⟩ [(x, u)]) (want : ∀ H : Hp, Only H → SqL K H a (ns.map V.int) → sp [.ref a] H (fun v _ => v = .bl true) C8.E0) :
    codeAny (model P w) callerA (.call (.ref fa) ⟨[.ref a], []⟩) (fun r s' => Done s s' r) s := by
  have rel := vals_ints hi
  cases own : K.lookup a with
  | some o =>
    have e := KX a o own
    rw [ha] at e
    cases e
    have only : Only (fun _ => none : Hp) := fun _ => .inl rfl
    have sq : SqL K (fun _ => none) a (ns.map V.int) := .inr ⟨_, vs.toArray, _, own, rfl, rfl, rfl, by rw [List.size_toArray, hi.length]; exact hl, by simpa using rel⟩
    refine lawG_at KX hns hb hbb lim gens ha room F bd only (want _ only sq) ?_ (fun b z => absurd rfl z) fun z => absurd rfl z
    intro b u z
    have z2 : (none : Option HO) = some u := z
    cases z2
  | none =>
    let one : HO := .frz { cls := .type "list", data := .seq vs.toArray } (.lst (ns.map V.int))
    let H : Hp := fun b => if b = a then some one else none
    have here : H a = some one := if_pos rfl
    have else_ : ∀ {b : Addr}, b ≠ a → H b = none := fun hn => if_neg hn
    have only : Only H := fun b => by
      by_cases e : b = a
      · exact .inr ⟨_, _, by rw [e]; exact here⟩
      · exact .inl (else_ e)
    refine lawG_at KX hns hb hbb lim gens ha room F bd only (want H only (.inl (.inr ⟨_, here⟩))) (fun b u z => ?_) (fun b z => ?_) fun _ => own
    · by_cases e : b = a
      · subst e
        rw [here] at z
        cases z
        exact ⟨ha, by rw [List.length_map]; exact hl, vs, _, rel, ha⟩
      · rw [else_ e] at z
        cases z
    · by_cases e : b = a
      · exact e
      · exact absurd (else_ e) z
end
theorem walkG {l : PySem.W.OpenLaw} {n k : Nat} {q : Program} {loose : List Str} {XP : (Str → Option Value) → Heap → Prop} {YP : World → Heap → Prop} {d : DefRec} {K : Params → PySem.W.Frag} {sp : PySem.W.Frag → Sp} {x : Str} (hn : l.most = some n) (hn2 : n ≤ sizeLine)
    (hdf : d.params.defaults = []) (room : Room k callerA) (hY : ∀ (w : World) (h : Heap), YP w h → (K w.params).In h)
    (F : ∀ (w : World) (mg : Str → Option Value) (fa : Addr) (h : Heap), (K w.params).In h → h.Ns mainGlobals mg → mg d.name = some (.ref fa) →
      ∃ fd : FuncData, (∀ (s : Shared) (u : Value), BindsTo s fd ⟨[u], []⟩ [(x, u)]) ∧ ∀ base : Heap, (K w.params).In base → base.Ns mainGlobals mg → FnG l.prog w (K w.params) mg base k fa fd [x] (sp (K w.params)))
    (want : ∀ (K : PySem.W.Frag) (H : Hp) (a : Addr) (ns : List Int), ns.length ≤ n → Only H → SqL K H a (ns.map V.int) → sp K [.ref a] H (fun v _ => v = .bl true) C8.E0) : PySem.W.WalkO q loose XP YP l.row.toRowW d [] (fun f vs => PySem.call f vs) := by
  refine Att.attach_call hn hdf ?_
  intro w s0 s1 mg mb fa o pm cd doc a vs ns G Y _ _ _ named list_ nums few gens
  have KX := hY w _ Y
  obtain ⟨fd, bd, F1⟩ := F w mg fa _ KX G.T.g named
  exact lawG_call KX G.T.g G.T.b G.T.builtins G.T.nolimit gens list_ nums (Nat.le_trans few hn2) room F1 bd fun H only sq => want _ H a ns few only sq
end LX
set_option maxHeartbeats 2000000
namespace LX
open PySem PySem.Spec PyProof.Rows L2 C8 SX
section
variable {prog : Program} {w : World} {A : Around} {E : Value → Shared → Prop} {s : Shared} {z TI TO i1 i2 : Addr} {fp1 fp2 : List Addr} {n1 n2 i : Nat} {P1 P2 : Nat → Value → Prop} {St1 St2 : Nat → Heap → Prop}
theorem zipD2_item_held {T : Addr} {f : Bool} {oT : Obj} {Q : Value → Shared → Prop} (S : ZipSep2 z TI TO i1 i2 fp1 fp2) (D1 : Draws prog w A i1 fp1 n1 P1 St1) (D2 : Draws prog w A i2 fp2 n2 P2 St2)
    (hz : IsZipHeld s.heap z TI TO T f) (hT : s.heap.get? T = some oT) (hTI : IsTupOf2 s.heap TI (.ref i1) (.ref i2)) (st1 : St1 i s.heap) (st2 : St2 i s.heap) (hlt1 : i < n1) (hlt2 : i < n2)
    (hQ : ∀ x1 x2 h' tk, P1 i x1 → P2 i x2 → IsZipHeld h' z TI TO T true → St1 (i + 1) h' → St2 (i + 1) h' → IsTupOf2 h' s.heap.objs.size x1 x2 → h'.objs.size = s.heap.objs.size + 1 →
      (∀ c o, c ≠ z → c ≠ i1 → c ≠ i2 → s.heap.get? c = some o → h'.get? c = some o) → Q (.ref s.heap.objs.size) { s with heap := h', toks := tk }) :
    wpAny (model prog w) A (Builtin.«zip.__next__» ⟨[.ref z], []⟩) (fun fin s' => ∃ v, fin = .done (.ret v) ∧ Q v s') E s := by
  show wpAny _ _ (field (.ref z) 2 >>= _) _ _ _
  refine wpAny_bind (wpAny_field hz rfl (x := .bool false) rfl ?_)
  show wpAny _ _ (field (.ref z) 3 >>= _) _ _ _
  refine wpAny_bind (wpAny_field hz rfl (x := .ref TI) rfl ?_)
  refine wpAny_bind (wpAny_seqItems hTI rfl ?_)
  show wpAny _ _ (Builtin.SmallTypes.ownedTupleIsFree (.ref z) >>= _) _ _ _
  refine wpAny_bind (wpAny_tupleHeld_zip hz hT fun h₁ hz₁ hs₁ => ?_)
  simp only [Bool.false_eq_true, if_false]
  refine wpAny_bind ?_
  rw [← Array.forIn_toList]
  simp only [List.forIn_cons, List.forIn_nil]
  refine wpAny_bind (wpAny_bind (wpAny_holding ?_))
  show wpAny _ _ (Builtin.SmallTypes.nextOf (.ref i1) >>= _) _ _ _
  refine wpAny_bind (D1.item i _ _ _ hlt1 (D1.over st1 hs₁ S.zf1) fun x1 h₂ tk₁ p1 h1₂ hs₂ => wpAny_pure ?_)
  refine wpAny_pure ?_
  refine wpAny_bind (wpAny_bind (wpAny_holding ?_))
  show wpAny _ _ (Builtin.SmallTypes.nextOf (.ref i2) >>= _) _ _ _
  refine wpAny_bind (D2.item i _ _ _ hlt2 (D2.over (D2.over st2 hs₁ S.zf2) hs₂ S.sep1_2) fun x2 h₃ tk₂ p2 h2₃ hs₃ => wpAny_pure ?_)
  refine wpAny_pure (wpAny_pure ?_)
  show wpAny _ _ (newTuple [x1, x2] >>= _) _ _ _
  refine wpAny_bind (wpAny_newTuple ?_)
  have hsz : h₃.objs.size = s.heap.objs.size := by rw [hs₃.1, hs₂.1, hs₁.1]
  have hz₃ : IsZipHeld h₃ z TI TO T true := hs₃.extBut _ _ S.zi2 (hs₂.extBut _ _ S.zi1 hz₁)
  have hk : ∀ c o, c ≠ z → c ≠ i1 → c ≠ i2 → s.heap.get? c = some o → h₃.get? c = some o := fun c o c1 c2 c3 e => hs₃.extBut _ _ c3 (hs₂.extBut _ _ c2 (hs₁.extBut _ _ c1 e))
  have h1₃ : St1 (i + 1) h₃ := D1.over h1₂ hs₃ S.sep2_1
  refine wpAny_pure ⟨_, rfl, ?_⟩
  show Q (.ref h₃.objs.size) _
  have hp : IsTupOf2 (h₃.push { cls := .type "tuple", data := .seq #[x1, x2] }) h₃.objs.size x1 x2 := Heap.get?_push_size _ rfl
  have hz4 : (h₃.push { cls := .type "tuple", data := .seq #[x1, x2] }).objs.size = h₃.objs.size + 1 := Heap.size_push ..
  rw [hsz] at hp hz4 ⊢
  exact hQ x1 x2 _ tk₂ p1 p2 (Heap.get?_push_of_some _ hz₃) (D1.frame _ _ _ h1₃ fun b _ o e => Heap.get?_push_of_some _ e) (D2.frame _ _ _ h2₃ fun b _ o e => Heap.get?_push_of_some _ e) hp hz4 fun c o c1 c2 c3 e => Heap.get?_push_of_some _ (hk c o c1 c2 c3 e)
theorem zipD2_end_held {T : Addr} {f : Bool} {oT : Obj} {Q : Fin → Shared → Prop} (S : ZipSep2 z TI TO i1 i2 fp1 fp2) (D1 : Draws prog w A i1 fp1 n1 P1 St1) (D2 : Draws prog w A i2 fp2 n1 P2 St2)
    (hz : IsZipHeld s.heap z TI TO T f) (hT : s.heap.get? T = some oT) (hTI : IsTupOf2 s.heap TI (.ref i1) (.ref i2)) (st1 : St1 n1 s.heap)
    (hE : ∀ h' e, (∀ c o, c ≠ z → c ≠ i1 → c ≠ i2 → s.heap.get? c = some o → h'.get? c = some o) → (∃ o, h'.get? e = some o ∧ o.cls = .type "StopIteration") → E (.ref e) { s with heap := h' }) :
    wpAny (model prog w) A (Builtin.«zip.__next__» ⟨[.ref z], []⟩) Q E s := by
  show wpAny _ _ (field (.ref z) 2 >>= _) _ _ _
  refine wpAny_bind (wpAny_field hz rfl (x := .bool false) rfl ?_)
  show wpAny _ _ (field (.ref z) 3 >>= _) _ _ _
  refine wpAny_bind (wpAny_field hz rfl (x := .ref TI) rfl ?_)
  refine wpAny_bind (wpAny_seqItems hTI rfl ?_)
  show wpAny _ _ (Builtin.SmallTypes.ownedTupleIsFree (.ref z) >>= _) _ _ _
  refine wpAny_bind (wpAny_tupleHeld_zip hz hT fun h₁ hz₁ hs₁ => ?_)
  simp only [Bool.false_eq_true, if_false]
  refine wpAny_bind ?_
  rw [← Array.forIn_toList]
  simp only [List.forIn_cons, List.forIn_nil]
  refine wpAny_bind (wpAny_bind (wpAny_holding ?_))
  show wpAny _ _ (Builtin.SmallTypes.nextOf (.ref i1) >>= _) _ _ _
  refine wpAny_bind (D1.done _ _ _ (D1.over st1 hs₁ S.zf1) fun h₂ e hs₂ he => ?_)
  exact hE h₂ e (fun c o c1 c2 _ x => hs₂ _ _ c2 (hs₁.extBut _ _ c1 x)) he
theorem pyNext_zipD2_item_held {T : Addr} {f : Bool} {oT : Obj} {Q : Option Value → Shared → Prop} (S : ZipSep2 z TI TO i1 i2 fp1 fp2) (D1 : Draws prog w A.in1 i1 fp1 n1 P1 St1) (D2 : Draws prog w A.in1 i2 fp2 n2 P2 St2)
    (hz : IsZipHeld s.heap z TI TO T f) (hT : s.heap.get? T = some oT) (hTI : IsTupOf2 s.heap TI (.ref i1) (.ref i2)) (st1 : St1 i s.heap) (st2 : St2 i s.heap) (hlt1 : i < n1) (hlt2 : i < n2)
    (hQ : ∀ x1 x2 h' tk, P1 i x1 → P2 i x2 → IsZipHeld h' z TI TO T true → St1 (i + 1) h' → St2 (i + 1) h' → IsTupOf2 h' s.heap.objs.size x1 x2 → h'.objs.size = s.heap.objs.size + 1 →
      (∀ c o, c ≠ z → c ≠ i1 → c ≠ i2 → s.heap.get? c = some o → h'.get? c = some o) → Q (some (.ref s.heap.objs.size)) { s with heap := h', toks := tk }) :
    wpAny (model prog w) A (pyNext (.ref z)) Q E s := by
  have hTy : s.TypeIs (.ref z) "zip" := ⟨_, hz, rfl⟩
  unfold pyNext
  exact wpAny_bind (wpAny_attempt (wpAny_callSpecial?_slot (name := Str.ofString "__next__") hTy F.slot_zip_next
    (wpAny_call_entry F.slot_zip_next hTy F.entry_zip_next
      (zipD2_item_held S D1 D2 hz hT hTI st1 st2 hlt1 hlt2 fun x1 x2 h' tk y1 y2 a1 a3 a4 a5 a6 a7 => wpAny_pure (hQ x1 x2 h' tk y1 y2 a1 a3 a4 a5 a6 a7)) (F.args_zip_next_1 _))))
theorem pyNext_zipD2_end_held {T : Addr} {f : Bool} {oT : Obj} {Q : Option Value → Shared → Prop} (S : ZipSep2 z TI TO i1 i2 fp1 fp2) (D1 : Draws prog w A.in1 i1 fp1 n1 P1 St1) (D2 : Draws prog w A.in1 i2 fp2 n1 P2 St2)
    (hz : IsZipHeld s.heap z TI TO T f) (hT : s.heap.get? T = some oT) (hTI : IsTupOf2 s.heap TI (.ref i1) (.ref i2)) (st1 : St1 n1 s.heap)
    (hQ : ∀ h', (∀ c o, c ≠ z → c ≠ i1 → c ≠ i2 → s.heap.get? c = some o → h'.get? c = some o) → Q none { s with heap := h' }) : wpAny (model prog w) A (pyNext (.ref z)) Q E s := by
  have hTy : s.TypeIs (.ref z) "zip" := ⟨_, hz, rfl⟩
  unfold pyNext
  refine wpAny_bind (wpAny_attempt (wpAny_callSpecial?_slot (name := Str.ofString "__next__") hTy F.slot_zip_next
    (wpAny_call_entry F.slot_zip_next hTy F.entry_zip_next (zipD2_end_held S D1 D2 hz hT hTI st1 fun h' e hk he => ?_) (F.args_zip_next_1 _))))
  obtain ⟨o, ho, hc⟩ := he
  refine wpAny_bind (wpAny_isInstance (T := "StopIteration") (b := true) ⟨o, ho, hc⟩ isSubtype_stop ?_)
  exact wpAny_pure (hQ _ hk)
theorem pairArg_zipD2 (S : ZipSep2 z TI TO i1 i2 fp1 fp2) (D1 : ∀ A : Around, A.handled = none → Draws prog w A i1 fp1 n1 P1 St1) (D2 : ∀ A : Around, A.handled = none → Draws prog w A i2 fp2 n1 P2 St2) :
    PairArg prog w "zip" z (z :: TI :: TO :: (fp1 ++ fp2)) [z, TO, i1, i2] n1 (fun i k v => P1 i k ∧ P2 i v)
      (fun h => IsZip h z TI TO .none ∧ IsTupOf2 h TI (.ref i1) (.ref i2) ∧ (∃ a b, IsTupOf2 h TO a b) ∧ St1 0 h ∧ St2 0 h ∧ ∀ b ∈ fp1 ++ fp2, ∃ o, h.get? b = some o) where
  type := fun s ok => ⟨_, ok.1, rfl⟩
  notDict := by decide
  keep := fun h h' ok hk => by
    obtain ⟨hz, hTI, ⟨a, b, hTO⟩, h1, h2, ex⟩ := ok
    exact ⟨hk _ _ hz, hk _ _ hTI, ⟨a, b, hk _ _ hTO⟩, (D1 callerA rfl).frame _ _ _ h1 fun b _ o e => hk b o e, (D2 callerA rfl).frame _ _ _ h2 fun b _ o e => hk b o e, fun b hb => let ⟨o, e⟩ := ex b hb; ⟨o, hk _ _ e⟩⟩
  there := fun h ok b hb => by
    obtain ⟨hz, hTI, ⟨a, c, hTO⟩, _, _, ex⟩ := ok
    rcases List.mem_cons.mp hb with rfl | hb
    · exact ⟨_, hz⟩
    rcases List.mem_cons.mp hb with rfl | hb
    · exact ⟨_, hTI⟩
    rcases List.mem_cons.mp hb with rfl | hb
    · exact ⟨_, hTO⟩
    exact ex b hb
  sub := fun b hb => by
    have e : b = z ∨ b = TO ∨ b = i1 ∨ b = i2 := by simpa using hb
    rcases e with rfl | rfl | rfl | rfl
    · simp
    · simp
    · have := S.mem1; simp [this]
    · have := S.mem2; simp [this]
  noKeys := fun A s Q E hA ok h => getAttrOr_miss_zip ok.1 rfl rfl rfl zip_no_keys (by decide +kernel) hA h
  iter := fun A s d Q E hA ok hd hdf h => by
    obtain ⟨hz, hTI, ⟨a, b, hTO⟩, h1, h2, _⟩ := ok
    have dz : d ≠ z := fun e => hdf (by simp [e])
    have dTI : d ≠ TI := fun e => hdf (by simp [e])
    have dTO : d ≠ TO := fun e => hdf (by simp [e])
    have df1 : ∀ b ∈ fp1, b ≠ d := fun b hb e => hdf (by subst e; simp [hb])
    have df2 : ∀ b ∈ fp2, b ≠ d := fun b hb e => hdf (by subst e; simp [hb])
    have dI1 := (df1 _ S.mem1).symm
    have dI2 := (df2 _ S.mem2).symm
    refine wpAny_pyIter_zip hz (h z [z, TO, i1, i2] (fun i h => IsTupOf2 h TI (.ref i1) (.ref i2) ∧ St1 i h ∧ St2 i h ∧
      ((IsZip h z TI TO .none ∧ ∃ a b, IsTupOf2 h TO a b) ∨ ∃ T f oT, IsZipHeld h z TI TO T f ∧ h.get? T = some oT ∧ T ≠ z ∧ T ≠ i1 ∧ T ≠ i2 ∧ T ≠ d)) s.heap s.toks ?_
      ⟨hTI, h1, h2, .inl ⟨hz, a, b, hTO⟩⟩ (fun _ _ e => e) fun b hb => .inl hb)
    exact {
      off := fun hm => by
        have e : d = z ∨ d = TO ∨ d = i1 ∨ d = i2 := by simpa using hm
        rcases e with e | e | e | e
        · exact dz e
        · exact dTO e
        · exact dI1 e
        · exact dI2 e
      frame := fun i h₁ h₂ st hk => by
        obtain ⟨hTI, h1, h2, hz⟩ := st
        refine ⟨hk _ _ (Ne.symm dTI) hTI, (D1 A hA).frame _ _ _ h1 fun b hb o e => hk b o (df1 b hb) e, (D2 A hA).frame _ _ _ h2 fun b hb o e => hk b o (df2 b hb) e, ?_⟩
        rcases hz with ⟨hz, a, b, hTO⟩ | ⟨T, f, oT, hz, hT, r1, r2, r3, r4⟩
        · exact .inl ⟨hk _ _ (Ne.symm dz) hz, a, b, hk _ _ (Ne.symm dTO) hTO⟩
        · exact .inr ⟨T, f, oT, hk _ _ (Ne.symm dz) hz, hk _ _ r4 hT, r1, r2, r3, r4⟩
      item := fun i s₁ Q₁ E₁ hi st hds hQ => by
        obtain ⟨hTI, h1, h2, hz⟩ := st
        have lt : ∀ {c o}, s₁.heap.get? c = some o → s₁.heap.objs.size ≠ c := fun e => Nat.ne_of_gt (Heap.lt_size e)
        have n1' : s₁.heap.objs.size ≠ i1 := let ⟨_, e⟩ := (D1 A hA).live _ _ h1; lt e
        have n2' : s₁.heap.objs.size ≠ i2 := let ⟨_, e⟩ := (D2 A hA).live _ _ h2; lt e
        rcases hz with ⟨hz, a, b, hTO⟩ | ⟨T, f, oT, hz, hT, r1, r2, r3, r4⟩
        · refine wpAny_pyNext_zipD2_item S (D1 A.in1 hA) (D2 A.in1 hA) hz hTI hTO h1 h2 hi hi fun x1 x2 h' tk p1 p2 a1 a2 a3 a4 a5 a6 hk => ?_
          exact hQ s₁.heap.objs.size _ _ h' tk ⟨p1, p2⟩ (.inl ⟨_, a5, rfl, _, rfl⟩)
            ⟨hk _ _ S.TIz S.TITO S.TIi1 S.TIi2 hTI, a3, a4, .inr ⟨s₁.heap.objs.size, false, _, a1, a5, lt hz, n1', n2', Nat.ne_of_gt hds⟩⟩
            fun c o hc e => hk c o (fun x => hc (by simp [x])) (fun x => hc (by simp [x])) (fun x => hc (by simp [x])) (fun x => hc (by simp [x])) e
        · refine pyNext_zipD2_item_held S (D1 A.in1 hA) (D2 A.in1 hA) hz hT hTI h1 h2 hi hi fun x1 x2 h' tk p1 p2 a1 a3 a4 a5 a6 hk => ?_
          exact hQ s₁.heap.objs.size _ _ h' tk ⟨p1, p2⟩ (.inl ⟨_, a5, rfl, _, rfl⟩)
            ⟨hk _ _ S.TIz S.TIi1 S.TIi2 hTI, a3, a4, .inr ⟨T, true, oT, a1, hk _ _ r1 r2 r3 hT, r1, r2, r3, r4⟩⟩
            fun c o hc e => hk c o (fun x => hc (by simp [x])) (fun x => hc (by simp [x])) (fun x => hc (by simp [x])) e
      done := fun s₁ Q₁ E₁ st hQ => by
        obtain ⟨hTI, h1, h2, hz⟩ := st
        rcases hz with ⟨hz, a, b, hTO⟩ | ⟨T, f, oT, hz, hT, r1, r2, r3, r4⟩
        · exact wpAny_pyNext_zipD2_end S (D1 A.in1 hA) (D2 A.in1 hA) hz hTI hTO h1 h2 (Nat.le_refl _) (Nat.le_refl _) (.inl rfl) fun h' tk hk => hQ h' tk
            fun c o hc e => hk c o (fun x => hc (by simp [x])) (fun x => hc (by simp [x])) (fun x => hc (by simp [x])) (fun x => hc (by simp [x])) e
        · exact pyNext_zipD2_end_held S (D1 A.in1 hA) (D2 A.in1 hA) hz hT hTI h1 fun h' hk => hQ h' s₁.toks
            fun c o hc e => hk c o (fun x => hc (by simp [x])) (fun x => hc (by simp [x])) (fun x => hc (by simp [x])) e }
end
theorem zip_map_get {α β γ : Type} (f : α → β → γ) : ∀ (l : List α) (m : List β) (i : Nat), ((l.zip m).map fun p => f p.1 p.2)[i]? = (l[i]?.bind fun a => m[i]?.map fun b => f a b)
  | [], _, i => by simp
  | a :: l, [], i => by cases h : (a :: l)[i]? <;> simp
  | a :: l, b :: m, 0 => rfl
  | a :: l, b :: m, i + 1 => by simpa using zip_map_get f l m i
theorem paired_zip {l : List Nat} : ∀ {ys : List V} {its : List Value}, Vals ys its → KV ((l.zip ys).map fun p => (tk [p.1], p.2)) ((l.zip its).map fun p => (tk [p.1], p.2)) := by
  induction l with
  | nil => intro ys its _; exact .nil
  | cons c l ih =>
    intro ys its r
    cases r with
    | nil => exact .nil
    | cons h t => exact .cons ⟨rfl, h⟩ (ih t)
def tDictZip (K : PySem.W.Frag) (ta : TA) : TE := fun σ H Q => ta σ H fun vs H1 => ∃ (l : List Nat) (b : Addr) (ys : List V), vs = [.str (S l), .ref b] ∧ SqT K H1 b ys ∧ ys.length = l.length ∧ l.length ≤ 1000 ∧
  ∀ p, H1 p = none → Q (.ref p) (upd H1 p (.dK (mergeK [] ((l.zip ys).map fun p => (tk [p.1], p.2)))))
theorem pe_dictZip {X : Cx} {e e2 : Expr} {ta : TA} {p p2 pos pos2 : Pos} (hc : X.calm = true) (hgd : Gl X "dict") (hmd : X.mg "dict" = none) (hg : Gl X "zip") (hm : X.mg "zip" = none) (ha : PA X [e, e2] ta)
    (hs : starEach [e, e2] X.env = (false, eval e X.env) :: starEach [e2] X.env := by rfl) (hpl : (backTo pos2 (starEach [e2] X.env)).any (·.1) = false := by rfl)
    (hs' : starEach [.Call (.Name "zip" p2) [e, e2] [] pos2] X.env = (false, eval (.Call (.Name "zip" p2) [e, e2] [] pos2) X.env) :: starEach [] X.env := by rfl) (hpl' : (backTo pos (starEach [] X.env)).any (·.1) = false := by rfl) :
    PE X (.Call (.Name "dict" p) [.Call (.Name "zip" p2) [e, e2] [] pos2] [] pos) (tDictZip X.K ta) := by
  refine ⟨fun pins s σ H Q I h => ?_⟩
  refine Call_ (ld_blt I hgd hmd PyProof.Rows.boot_dict (PyProof.Rows.callWith_type1 (Q := EP X pins σ Q) ?_ hs' hpl'))
  rw [hs']
  refine PySem.Calls.spliced_cons ?_
  refine Call_ (ld_blt I hg hm PyProof.Rows.boot_zip (PyProof.Rows.callWith_type1 (thn (ha.run pos2 pins s σ H _ I h) fun us s1 ⟨vs, H1, I1, r1, q1⟩ => ?_) hs hpl))
  obtain ⟨l, b, ys, ex, hb, hl, hz, q⟩ := q1
  subst ex
  obtain ⟨u, u', rfl, r, r'⟩ := vals2 r1
  obtain ⟨t, rfl⟩ := (show ∃ t, u = Value.str (S l) t from r)
  obtain rfl : u' = Value.ref b := r'
  obtain ⟨its, rv, ht, _⟩ := I1.tuple hb
  have hlen : its.toArray.size = (S l).cps.size := by rw [List.size_toArray, ← rv.length, hl]; simp [S]
  have hbl : b < s1.heap.objs.size := ht.lt
  refine zip_begins2 (begins_text (S l) t) (begins_tuple b its.toArray) trivial ht fun h' hz' hTI hTO h1 h2 hsz hk => ?_
  refine PySem.Calls.spliced_nil ?_
  have I2 : Inv X pins σ H1 { s1 with heap := h' } := I1.kept (t' := s1.toks) hk
  have f2 : ∀ a ∈ [b], a < s1.heap.objs.size := fun a h => by rw [List.mem_singleton.mp h]; exact hbl
  have S2 := PySem.zip_sep2 (N := s1.heap.objs.size) (fp1 := []) (fp2 := [b]) (fun _ h => nomatch h) f2
  have P := pairArg_zipD2 (prog := X.prog) (w := X.w) S2 (fun A hh => Draws.text hh s1.heap.objs.size (S l) t)
    (fun A hh => hlen ▸ Draws.tuple hh (s1.heap.objs.size + 1) b (Nat.ne_of_lt (Nat.lt_succ_of_lt hbl)) its.toArray)
  have ht2 : h'.IsTuple b its.toArray := (show s1.heap.IsTuple b its.toArray from ht).at fun o e => hk _ _ e
  have hn : H1 h'.objs.size = none := I2.hok.fresh (Nat.le_refl _)
  have hl2 : its.length = l.length := by rw [← rv.length, hl]
  refine PySem.call_dict_pairs (knd := mixKind X.prog X.w) (kvs := (l.zip its).map fun p => (tk [p.1], p.2)) P (I1.ok.hd hc) ?_ ⟨?_, ?_⟩ ?_ fun h3 tk3 hd3 hk3 => ?_
  · refine ⟨hz', hTI, ⟨_, _, hTO⟩, ⟨_, h1, rfl, rfl⟩, ⟨⟨_, h2, rfl, rfl⟩, ht2⟩, fun a ha => ?_⟩
    have e : a = s1.heap.objs.size ∨ a = s1.heap.objs.size + 1 ∨ a = b := by simpa using ha
    rcases e with rfl | rfl | rfl
    · exact ⟨_, h1⟩
    · exact ⟨_, h2⟩
    · obtain ⟨o, e, _⟩ := ht2; exact ⟨o, e⟩
  · rw [List.length_map, List.length_zip, hl2, Nat.min_self]; simp [S]
  · rintro i key v ⟨⟨c, u, hc', rfl⟩, hv⟩
    have hc2 : l[i]? = some c := by simpa [S] using hc'
    have hv2 : its[i]? = some v := by simpa using hv
    refine ⟨tk [c], ?_, kV_is (P := X.prog) (w := X.w) (k := tk [c]) ⟨u, rfl⟩⟩
    rw [zip_map_get (fun a b => (tk [a], b)), hc2, hv2]; rfl
  · simp [S]; exact Nat.le_trans hz (by decide)
  · have kvr : KV ((l.zip ys).map fun p => (tk [p.1], p.2)) ((l.zip its).map fun p => (tk [p.1], p.2)) := paired_zip rv
    have hm' : (h'.objs.size == sysModules) = false := beq_eq_false_iff_ne.mpr (Nat.ne_of_gt I2.big)
    have hlen2 : (mergeK [] ((l.zip ys).map fun p => (tk [p.1], p.2))).length ≤ sizeLine := by
      refine Nat.le_trans (length_mergeK _ []) ?_
      rw [List.length_nil, Nat.zero_add, List.length_map, List.length_zip, hl, Nat.min_self]
      exact Nat.le_trans hz (by decide)
    have keep3 : ∀ c o, s1.heap.get? c = some o → h3.get? c = some o := fun c o e => hk3 c o (fun hm => by
      have hlt : c < s1.heap.objs.size := Heap.lt_size e
      have e' : c = s1.heap.objs.size + 4 ∨ c = s1.heap.objs.size + 3 ∨ c = s1.heap.objs.size ∨ c = s1.heap.objs.size + 1 := by simpa using hm
      have hle : s1.heap.objs.size ≤ c := by
        rcases e' with z | z | z | z
        · rw [z]; exact Nat.le_add_right _ _
        · rw [z]; exact Nat.le_add_right _ _
        · rw [z]; exact Nat.le_refl _
        · rw [z]; exact Nat.le_add_right _ _
      exact Nat.lt_irrefl _ (Nat.lt_of_lt_of_le hlt hle)) (hk _ _ e)
    have hsz5 : s1.heap.objs.size ≤ h'.objs.size := by rw [hsz]; omega
    exact ⟨.ref h'.objs.size, upd H1 h'.objs.size (.dK (mergeK [] ((l.zip ys).map fun p => (tk [p.1], p.2)))), I1.laid (t' := tk3) keep3 hsz5 (show ObjOk X.prog X.w _ _ _ (.dK _) from ⟨hlen2, hm', merged [] _, KV.merge kvr .nil, hd3⟩), rfl, q _ hn⟩
end LX
set_option maxHeartbeats 2000000
namespace LX
open PySem PySem.Spec PyProof.Rows L2 C8 SX
theorem meets_enum1 {v : Value} {o : Obj} {H : Heap → Prop} (B : Begins v o H) :
    Meets (Builtin.«enumerate.__new__» ⟨[.type "enumerate", v], []⟩) (fun _ R s => H s.heap ∧
      R (.ok (.ret (.ref (s.heap.push o).objs.size))) { s with heap := (s.heap.push o).push { cls := .type "enumerate", data := .fields #[.none, .bool false, .ref s.heap.objs.size, rawInt 0, .none, .none] } }) :=
  .of_wp fun prog w A R s h => by
    obtain ⟨hp, g, d, tk, os⟩ := s; obtain ⟨h1, h⟩ := h
    have hsub := sub_enumerate
    have q1 : ∀ {A' : Around} {E : Value → Shared → Prop} {Q : Value → Shared → Prop}, Q (.ref hp.objs.size) ⟨hp.push o, g, d, tk, os⟩ → wpAny (model prog w) A' (pyIter v) Q E ⟨hp, g, d, tk, os⟩ :=
      fun q => B.iter prog w _ _ ⟨hp, g, d, tk, os⟩ _ h1 q
    wp_walk using q1
    refine wpAny_stack_any fun st => wpAny_pure ?_
    split
    · rename_i c _ _ _ _ _
      cases (c == Value.type "enumerate")
      · wp_walk using q1
        exact ⟨_, rfl, h⟩
      · wp_walk using q1
        exact ⟨_, rfl, h⟩
    · wp_walk using q1
      exact ⟨_, rfl, h⟩
theorem enum1_begins {prog : Program} {w : World} {A : Around} {E : Value → Shared → Prop} {s : Shared} {v : Value} {o : Obj} {H : Heap → Prop} {Q : Value → Shared → Prop} (B : Begins v o H) (h1 : H s.heap)
    (h : ∀ h', IsEnum h' (s.heap.objs.size + 1) s.heap.objs.size 0 .none → h'.get? s.heap.objs.size = some o → h'.objs.size = s.heap.objs.size + 2 →
      (∀ b o, s.heap.get? b = some o → h'.get? b = some o) → Q (.ref (s.heap.objs.size + 1)) { s with heap := h' }) :
    wpAny (model prog w) A (call (.type "enumerate") [v]) Q E s := by
  refine callType_new F.called_enumerate (by decide) (F.typeCall_enumerate_1 _) (F.newCall_enumerate_1 _) (fun obj => F.args_object_init_2 obj _) F.entry_enumerate_new
    (meets_enum1 B) ⟨h1, ?_⟩
  have hz : (s.heap.push o).objs.size = s.heap.objs.size + 1 := Heap.size_push ..
  show _ ∧ _
  rw [hz]
  have he : IsEnum ((s.heap.push o).push { cls := .type "enumerate", data := .fields #[.none, .bool false, .ref s.heap.objs.size, rawInt 0, .none, .none] }) (s.heap.objs.size + 1) s.heap.objs.size 0 .none := by
    have := Heap.get?_push_size (s.heap.push o) (o := { cls := .type "enumerate", data := .fields #[.none, .bool false, .ref s.heap.objs.size, rawInt 0, .none, .none] }) rfl
    rw [hz] at this; exact this
  refine ⟨⟨_, he, rfl⟩, h _ he (Heap.get?_push_of_some _ (Heap.get?_push_size _ B.free)) (by rw [Heap.size_push, hz]) fun b o x => Heap.get?_push_of_some _ (Heap.get?_push_of_some _ x)⟩
def IteX (K : PySem.W.Frag) (S : Sr) : It :=
  ⟨fun i H => S.has K i H, fun i H v H' => ∃ T x, v = .ref T ∧ H T = none ∧ H' = upd H T (.tup [.int (i : Nat), x]) ∧ S.val K i H x, fun i H => S.upto K i H ∧ S.ends K i H⟩
theorem turn_enumX {P : Program} {w : World} {K : PySem.W.Frag} {elts : List Expr} {kk : Nat} {tpos : Pos} {e it : Addr} (S : Sr) (n1 : ∀ a ∈ S.fp, a ≠ it) (ne : e ≠ it) (nf : e ∉ S.fp) :
    Turn P w K (.Tuple elts kk tpos) (IteX K S) [e, it] e (fun i h => (∃ old, IsEnum h e it ((i : Nat) : Int) old) ∧ S.tn it i h) where
  mem := by simp
  obj := fun i h st b hb => by
    obtain ⟨⟨old, he⟩, h1⟩ := st
    have e' : b = e ∨ b = it := by simpa using hb
    rcases e' with z | z
    · rw [z]; exact ⟨_, he, fun v q => nomatch q⟩
    · rw [z]; exact Sr.tn_obj h1
  keep := fun i h h' st k => let ⟨⟨old, he⟩, h1⟩ := st; ⟨⟨old, k e (by simp) _ he⟩, Sr.tn_keep h1 fun o q => k it (by simp) o q⟩
  item := by
    intro X hP hw hK hc i pins s σ H E I hf st hg
    subst hP hw hK
    obtain ⟨⟨old, he⟩, h1⟩ := st
    obtain ⟨m1, ⟨P1, St1, D1, st1, v1, t1⟩, _, lt1, _⟩ := S.draws I n1 h1 (Sr.has_upto hg)
    have hel : e < s.heap.objs.size := Heap.lt_size he
    have hil : it < s.heap.objs.size := by obtain ⟨_, q, _⟩ := Sr.tn_obj h1; exact Heap.lt_size q
    refine wpAny_pyNext_enum_itemD (D1 _ (I.ok.hd hc)) he st1 (lt1 hg) ne (by simp [ne, nf]) fun u h' tk p1 ho st1' hT hsz hk => ?_
    obtain ⟨x, hx, rx⟩ := v1 u p1
    refine ⟨_, rfl, wpAny_letOwnedTupleGo_enum (s := { s with heap := h', toks := tk + 1 }) ho fun h'' he' sb => ?_⟩
    have hT2 : h''.get? s.heap.objs.size = some { cls := .type "tuple", data := .seq #[.int i tk, u] } := (sb.2 _ (Nat.ne_of_gt hel)).trans hT
    have new : ObjOk X.prog X.w (upd H s.heap.objs.size (.tup [.int (i : Nat), x])) h'' s.heap.objs.size (.tup [.int (i : Nat), x]) :=
      ⟨by show 2 ≤ sizeLine; decide, [.int i tk, u], .cons ⟨_, rfl⟩ (.cons rx .nil), ⟨_, hT2, rfl, _, rfl⟩⟩
    have I1 : Inv X pins σ (upd H s.heap.objs.size (.tup [.int (i : Nat), x])) { s with heap := h'', toks := tk + 1 } :=
      I.turnedNew (ch := [e, it]) (fun b ob hb q => (sb.2 b (fun z => hb (by simp [z]))).trans (hk b ob (fun z => hb (by simp [z])) (fun z => hb (by simp [z])) q)) hf (Nat.le_refl _) new
    refine ⟨.ref s.heap.objs.size, _, I1, rfl, ⟨_, x, rfl, I.hok.fresh (Nat.le_refl _), rfl, hx⟩, ⟨⟨u, ?_⟩, Sr.tn_keep (t1 _ _ st1') fun o q => (sb.2 it (Ne.symm ne)).trans q⟩, fun b hb => ?_⟩
    · have e1 : ((i + 1 : Nat) : Int) = (i : Int) + 1 := by omega
      rw [e1]; exact he'
    · have hb' : b < s.heap.objs.size := by
        have e' : b = e ∨ b = it := by simpa using hb
        rcases e' with z | z
        · rw [z]; exact hel
        · rw [z]; exact hil
      rw [upd_ne (Nat.ne_of_lt hb')]
      exact (hf b hb).1
  done := by
    intro X hP hw hK hc i pins s σ H E I hf st hg
    subst hP hw hK
    obtain ⟨⟨old, he⟩, h1⟩ := st
    obtain ⟨g1, ge⟩ := hg
    obtain ⟨m1, ⟨P1, St1, D1, st1, v1, t1⟩, _, _, eq1⟩ := S.draws I n1 h1 g1
    obtain ⟨f0, f1, f2, f3, f4, f5⟩ := hf it (by simp)
    have e1 := eq1 ge
    subst e1
    exact wpAny_pyNext_enum_endD (D1 _ (I.ok.hd hc)) he st1 fun h' eb => ⟨rfl, I.turned (t' := s.toks) (fun b o hb q => eb b o hb q) f0 f1 f3 f4 f5⟩
  self := fun A i s Q E st h => let ⟨⟨_, he⟩, _⟩ := st; wpAny_pyIter_enum he h
def iEnumX (K : PySem.W.Frag) (ta : TA) : TI := fun σ H R => ta σ H fun vs H1 => ∃ (x : V) (S : Sr), vs = [x] ∧ S.of x ∧ S.there K H1 ∧ R (IteX K S) H1
theorem pi_enumX {X : Cx} {e : Expr} {ta : TA} {p pos tpos : Pos} {elts : List Expr} {kk : Nat} (hg : Gl X "enumerate") (hm : X.mg "enumerate" = none) (ha : PA X [e] ta) (hs : starEach [e] X.env = [(false, eval e X.env)] := by rfl) :
    PI X (.Tuple elts kk tpos) (.Call (.Name "enumerate" p) [e] [] pos) (iEnumX X.K ta) := by
  refine ⟨fun pins s σ H R I h => ?_⟩
  refine Call_ (ld_blt I hg hm PyProof.Rows.boot_enumerate (PyProof.Rows.callWith_type1 (thn (ha.run pos pins s σ H _ I h) fun us s1 ⟨vs, H1, I1, r1, q1⟩ => ?_) hs rfl))
  obtain ⟨x, S, ex, e1, th1, q⟩ := q1
  subst ex
  obtain ⟨u, rfl, r⟩ := vals1 r1
  obtain ⟨o1, HH1, B1, b1, f1, t1⟩ := Sr.begins I1 r e1 th1
  refine enum1_begins B1 b1 fun h' he hit hsz hk => wpAny_pyIter_enum he ?_
  have I2 : Inv X pins σ H1 { s1 with heap := h' } := I1.kept (t' := s1.toks) hk
  refine ⟨s1.heap.objs.size + 1, [s1.heap.objs.size + 1, s1.heap.objs.size], _, _, H1, rfl, I2, turn_enumX S (fun a ha => Nat.ne_of_lt (f1 a ha)) (Nat.succ_ne_self _) (fun hm => Nat.not_lt.mpr (Nat.le_add_right _ _) (f1 _ hm)), ⟨⟨.none, he⟩, t1 _ _ hit⟩, fun b hb => ?_, q⟩
  have e' : b = s1.heap.objs.size + 1 ∨ b = s1.heap.objs.size := by simpa using hb
  have hle : s1.heap.objs.size ≤ b := by
    rcases e' with z | z
    · rw [z]; exact Nat.le_add_right _ _
    · rw [z]; exact Nat.le_refl _
  exact I1.fpOk hle (I1.hok.fresh hle)
theorem walk_enumX {K : PySem.W.Frag} {S : Sr} {xs : List V} : Walk (IteX K S) xs.length (fun H => S.is K H xs) (YPair (fun i => some (.int (i : Nat))) (fun i => xs[i]?)) := by
  refine ⟨fun i H hi q => Sr.is_has hi q, fun H q => ⟨Sr.is_upto (Nat.le_refl _) q, Sr.is_ends rfl q⟩, fun i H v H' _ q y => ?_⟩
  obtain ⟨T, x, h1, h2, h3, h4⟩ := y
  exact ⟨T, .int (i : Nat), x, h1, h2, h3, rfl, Sr.is_val q h4⟩
theorem dc_keep {Rel : Hp → Hp → Prop} {J : It} {n : Nat} {G : Hp → Prop} {Y : Nat → Hp → V → Hp → Prop} {H1 : Hp} (kp : Keep Rel H1) (w : Walk J n G Y) {g : TG} {ka te : TE} {vs : List Nat} {σ : L2.St} {D : Addr} {Qd : Hp → Prop} (hD : H1 D = none) (hn : n < sizeLine)
    (key : Nat → Key) (Good : Nat → V → Hp → Prop) (hG : ∀ H, Rel H1 H → G H) (inj : ∀ i j, i < n → j < i → key j ≠ key i)
    (st : ∀ i y H H', Rel H1 H → Rel H H' → Good i y H → Good i y H') (pt : ∀ i y H acc o, Rel H1 H → H D = some (.dK acc) → Good i y H → Good i y (upd H D o))
    (hs : ∀ i x H H' acc (R : V → V → Hp → Prop), i < n → Rel H1 H → H D = some (.dK acc) → Y i H x H' → (∀ y H4, Rel H H4 → Good i y H4 → R (kV (key i)) y H4) → g x (wipe σ vs) H' fun σ2 H2 => wipe σ2 vs = wipe σ vs ∧ ka σ2 H2 fun k H3 => te σ2 H3 fun z H4 => R k z H4)
    (hd : ∀ ys H, ys.length = n → (∀ (j : Nat) y, ys[j]? = some y → Good j y H) → Rel H1 H → H D = some (.dK ((List.range n).zip ys |>.map fun p => (key p.1, p.2))) → Qd H) :
    ∃ W : Nat → Nat → Hp → Prop, (∃ m, W 0 m (upd H1 D (.dK []))) ∧ ∀ i m H, W i m H →
      (J.stop i H ∧ Qd H) ∨ (J.go i H ∧ ∃ Nx : Hp → Prop, (∀ H', Nx H' → ∃ m', m' < m ∧ W (i + 1) m' H') ∧ ∀ x H', J.yld i H x H' → g x (wipe σ vs) H' fun σ2 H2 => wipe σ2 vs = wipe σ vs ∧ tYes σ2 H2 fun b H3 =>
        if b = true then ka σ2 H3 fun y H4 => te σ2 H4 fun z H5 => ∃ kvs k, y = kV k ∧ H5 D = some (.dK kvs) ∧ kvs.length < sizeLine ∧ Nx (upd H5 D (.dK (putK kvs k z))) else Nx H3) := by
  refine ⟨fun i m H => m = n - i ∧ i ≤ n ∧ ∃ ys : List V, ys.length = i ∧ H D = some (.dK ((List.range i).zip ys |>.map fun p => (key p.1, p.2))) ∧ Rel H1 H ∧ ∀ (j : Nat) y, ys[j]? = some y → Good j y H, ⟨n, by omega, Nat.zero_le _, [], rfl, upd_same, kp.put _ _ _ kp.refl hD, fun j y e => by simp at e⟩, ?_⟩
  rintro i m H ⟨rfl, hi, ys, hl, hDa, r, hg⟩
  rcases Nat.lt_or_ge i n with h | h
  · refine .inr ⟨w.goes i H h (hG H r), fun H' => ∃ ys : List V, ys.length = i + 1 ∧ H' D = some (.dK ((List.range (i + 1)).zip ys |>.map fun p => (key p.1, p.2))) ∧ Rel H1 H' ∧ ∀ (j : Nat) y, ys[j]? = some y → Good j y H', fun H' h' => ⟨n - (i + 1), by omega, rfl, h, h'⟩, fun x H' hy => ?_⟩
    have key2 : ∀ (z : V) H5, Rel H H5 → Good i z H5 → ∃ kvs k, kV (key i) = kV k ∧ H5 D = some (.dK kvs) ∧ kvs.length < sizeLine ∧ ∃ ys : List V, ys.length = i + 1 ∧ (upd H5 D (.dK (putK kvs k z))) D = some (.dK ((List.range (i + 1)).zip ys |>.map fun p => (key p.1, p.2))) ∧ Rel H1 (upd H5 D (.dK (putK kvs k z))) ∧ ∀ (j : Nat) y, ys[j]? = some y → Good j y (upd H5 D (.dK (putK kvs k z))) := fun z H5 r5 gz => by
      have hD5 := kp.get _ _ _ _ r5 hD r hDa
      have r6 := kp.trans _ _ r r5
      refine ⟨_, key i, rfl, hD5, by rw [List.length_map, List.length_zip, List.length_range, hl]; omega, ys ++ [z], by simp [hl], ?_, kp.put _ _ _ r6 hD, fun j y e => ?_⟩
      · rw [upd_same]
        congr 2
        rw [putK_new _ (valV_none fun p hp => ?_), List.range_succ, List.zip_append (by rw [List.length_range, hl])]
        · simp
        · obtain ⟨q, hq, rfl⟩ := List.mem_map.mp hp
          have : q.1 < i := List.mem_range.mp (List.of_mem_zip hq).1
          exact inj i q.1 h this
      · rcases Nat.lt_or_ge j ys.length with h | h
        · rw [List.getElem?_append_left h] at e
          exact pt _ _ _ _ _ r6 hD5 (st _ _ _ _ r r5 (hg j y e))
        · rw [List.getElem?_append_right h] at e
          have hj : j - ys.length = 0 := by
            rcases Nat.lt_or_ge (j - ys.length) 1 with z | z
            · omega
            · rw [List.getElem?_eq_none (by simpa using z)] at e; cases e
          rw [hj] at e
          have : z = y := Option.some.inj e
          subst this
          have : j = i := by omega
          subst this
          exact pt _ _ _ _ _ r6 hD5 gz
    exact hs i x H H' _ (fun k z H5 => ∃ kvs k', k = kV k' ∧ H5 D = some (.dK kvs) ∧ kvs.length < sizeLine ∧ ∃ ys : List V, ys.length = i + 1 ∧ (upd H5 D (.dK (putK kvs k' z))) D = some (.dK ((List.range (i + 1)).zip ys |>.map fun p => (key p.1, p.2))) ∧ Rel H1 (upd H5 D (.dK (putK kvs k' z))) ∧ ∀ (j : Nat) y, ys[j]? = some y → Good j y (upd H5 D (.dK (putK kvs k' z)))) h r hDa (w.yields i H x H' h (hG H r) hy) fun y H4 r4 gy => key2 y H4 r4 gy
  · have : i = n := by omega
    subst this
    exact .inl ⟨w.stops H (hG H r), hd ys H hl hg r hDa⟩
end LX
set_option maxHeartbeats 4000000
namespace LX
open PySem PySem.Spec PyProof.Rows L2 C8 SX
theorem inK {X : Cx} (K : PySem.W.Frag) (h : X.K = K := by rfl) : OpR X (compareOp .In) (rIn K false) := by subst h; exact op_in_seq
theorem notInK {X : Cx} (K : PySem.W.Frag) (h : X.K = K := by rfl) : OpR X (compareOp .NotIn) (rIn K true) := by subst h; exact op_notIn_seq
section
variable {prog : Program} {w : World} {A : Around} {R : Result → Shared → Prop} {I S : Addr} {fp wr : List Addr} {G : Array GenState → Array GenState → Prop} {n : Nat} {P : Nat → Value → Prop} {St : Nat → Shared → Prop}
abbrev setO (led : Bool) : Obj := { cls := .type "set", dict := none, data := .set #[] 0 (.fresh 0 0 led) }
abbrev Elem (prog : Program) (w : World) (xs : List Str) (i : Nat) (S : Addr) (h : Heap) : Prop := h.SetOf (PySem.strKind prog w) S (fun k => decide (k ∈ xs.take i)) i
theorem Elem.stay {xs : List Str} {i : Nat} {h h' : Heap} (e : Elem prog w xs i S h) (k : ∀ o, h.get? S = some o → h'.get? S = some o) : Elem prog w xs i S h' :=
  let ⟨o, es, ep, tb, ho, rest⟩ := e; ⟨o, es, ep, tb, k o ho, rest⟩
theorem set_loopT (W : WalksS prog w A.in1 I fp wr G n P St) (off : S ∉ fp) {xs : List Str} (hl : xs.length = n) (nd : xs.Nodup) (room : n < scanBound) (val : ∀ i v, P i v → ∃ x t, xs[i]? = some x ∧ v = .str x t) :
    ∀ (k i : Nat) (s : Shared), i + k = n → St i s → Elem prog w xs i S s.heap → (∀ s', Moved (S :: wr) G s s' → Elem prog w xs n S s'.heap → R (.ok (.ret .none)) s') →
      codeAny (model prog w) A (.builtin "set.update.loop" ⟨[.ref S, .ref I], []⟩) R s
  | 0, i, s, hk, hst, he, hR => by
    obtain rfl : i = n := hk
    refine codeAny_builtin PyProof.Rows.F.entry_set_update_loop ?_
    rw [Around.under_plainId PyProof.Rows.F.plain_set_update_loop _]
    refine wpAny_bind (W.done s _ _ hst fun s' hm => wpAny_pure (hR s' (hm.mono fun b hb => List.mem_cons_of_mem _ hb) (he.stay fun o e => hm.heap S o (fun h => off (W.sub _ h)) e)))
  | k + 1, i, s, hk, hst, he, hR => by
    refine codeAny_builtin PyProof.Rows.F.entry_set_update_loop ?_
    rw [Around.under_plainId PyProof.Rows.F.plain_set_update_loop _]
    refine wpAny_bind (W.item i s _ _ (by omega) hst fun v s' hP hst' hm => ?_)
    obtain ⟨x, t, hx, rfl⟩ := val i v hP
    have he' : Elem prog w xs i S s'.heap := he.stay fun o e => hm.heap S o (fun h => off (W.sub _ h)) e
    show wpAny _ A.in1 (holding [Value.str x t] (setAdd S (.str x t)) >>= _) _ _ s'
    refine wpAny_bind (wpAny_holding ?_)
    unfold setAdd
    refine wpAny_holding (wpAny_bind ((PySem.strKind prog w).pyHash (k := x) (strKind_is _ _ _ _) ?_))
    refine wpAny_setAddHashed_of (knd := PySem.strKind prog w) (s := { s' with toks := s'.toks + 1 }) (strKind_is _ _ _ _) rfl he' (by omega) fun h' hsb hS2 => ?_
    have hni : x ∉ xs.take i := not_in_take nd hx
    have he2 : Elem prog w xs (i + 1) S h' := SetOf_congr hS2 (fun y => by rw [take_more hx]; by_cases e : y ∈ xs.take i <;> by_cases e2 : y = x <;> simp [e, e2]) (by rw [if_neg (by simpa using hni)])
    refine wpAny_pure ⟨plainId_quiet PyProof.Rows.F.plain_set_update_loop _, set_loopT W off hl nd room val k (i + 1) _ (by omega) (W.frame _ s' _ _ hst' (Nat.le_succ _) fun b hb o e => ?_) he2 fun s2 hm2 he3 => ?_⟩
    · rw [hsb.2 b (fun h => off (h ▸ hb))]; exact e
    · refine hR s2 (Moved.trans W.gtrans ((hm.mono fun b hb => List.mem_cons_of_mem _ hb).then_heap (Nat.le_succ _) fun b o hb e => ?_) hm2) he3
      rw [hsb.2 b (fun h => hb (by rw [h]; exact List.mem_cons_self))]; exact e
end
section
variable {prog : Program} {w : World} {A : Around} {E : Value → Shared → Prop} {s : Shared}
theorem set_of_list {l : Addr} {items : Array Value} {xs : List Str} {Q : Value → Shared → Prop} (hh : A.handled = none) (hl : s.heap.IsList l items) (hi : PyProof.Rows.StrsAre items.toList xs) (nd : xs.Nodup) (room : xs.length < scanBound)
    (h : ∀ (h' : Heap) (tk : Nat), Elem prog w xs xs.length s.heap.objs.size h' → (∀ b o, s.heap.get? b = some o → h'.get? b = some o) → Q (.ref s.heap.objs.size) { s with heap := h', toks := tk }) :
    wpAny (model prog w) A (call (.type "set") [.ref l]) Q E s := by
  obtain ⟨c, tl, hmro⟩ := PySem.F.called_set.mro
  have hmade := PySem.F.called_set.made
  have hsub := PySem.F.called_set.sub
  refine wpAny_call (codeAny_of_tree ?_)
  refine wpAny_pure ⟨Code.quiet_builtin _ (by decide +kernel), codeAny_builtin PySem.F.entry_type_call ?_⟩
  rw [Around.under_plain (weight_type_call_type "set" [.ref l] []) rfl]
  have nt := PySem.F.called_set.notType
  have cc := PySem.F.called_set.canCreate
  have ct := PySem.F.typeCall_set_1 (.ref l)
  repeat (any_goals (first | assumption | wp_step))
  refine codeAny_mono (code_set_new_1 (.ref l) (E := E) (Q₁ := fun obj s1 => ∃ led : Bool, obj = .ref s.heap.objs.size ∧ s1 = { s with heap := s.heap.push { cls := .type "set", dict := none, data := .set #[] 0 (.fresh 0 0 led) } }) fun led => ⟨led, rfl, rfl⟩) fun r s1 hr => ?_
  match r, hr with
  | .ok (.ret obj), hr =>
    obtain ⟨led, rfl, rfl⟩ := hr
    have hS : (s.heap.push (setO led)).get? s.heap.objs.size = some (setO led) := Heap.get?_push_size _ rfl
    have hTy : Shared.TypeIs { s with heap := s.heap.push (setO led) } (.ref s.heap.objs.size) "set" := ⟨_, hS, rfl⟩
    have li := PySem.F.called_set.init.lookup
    have bi := PySem.F.called_set.init.bind (.ref s.heap.objs.size)
    repeat (any_goals (first | assumption | wp_step))
    refine codeAny_mono (codeAny_call_builtin (R := wants (fun r s2 => r = .none ∧ ∃ h' tk, s2 = { s with heap := h', toks := tk } ∧ Elem prog w xs xs.length s.heap.objs.size h' ∧ (∀ b o, s.heap.get? b = some o → h'.get? b = some o)) E)
      PySem.F.called_set.init.plain PySem.F.entry_set_init (check_set_init_1 hTy ?_)) fun r2 s2 hr2 => ?_
    · obtain ⟨⟨oc, od, odt, osl⟩, hol, hcl, nl, hdl⟩ := hl
      dsimp only at hcl hdl
      subst hcl hdl
      have hol' : (s.heap.push (setO led)).get? l = some { cls := .type "list", dict := od, data := .seq items nl, slots := osl } := Heap.get?_push_of_some _ hol
      have ss := PySem.F.sub_list_set
      have sf := PySem.F.sub_list_frozenset
      have ne : (Value.type "list" == Value.type "dict") = false := by decide
      have hl1 : (s.heap.push (setO led)).IsList l items := ⟨_, hol', rfl, nl, rfl⟩
      unfold Builtin.«set.__init__» noKeywords Builtin.Frozenset.updateFrom
      generalize hPI : pyIter = PI
      wp_walk
      subst hPI
      refine wpAny_pyIter_list hl1 ?_
      refine wpAny_bind (wpAny_runValue ?_)
      have hlS : l < s.heap.objs.size := Heap.lt_size hol
      have hz : (s.heap.push (setO led)).objs.size = s.heap.objs.size + 1 := Heap.size_push ..
      have neI : l ≠ (s.heap.push (setO led)).objs.size := by rw [hz]; exact Nat.ne_of_lt (Nat.lt_succ_of_lt hlS)
      have off : s.heap.objs.size ∉ [(s.heap.push (setO led)).objs.size, l] := by
        rw [hz]; simp only [List.mem_cons, List.not_mem_nil, or_false, not_or]
        exact ⟨Nat.ne_of_lt (Nat.lt_succ_self _), Nat.ne_of_gt hlS⟩
      have hsz : xs.length = items.size := by rw [← StrsAre.len_eq hi, Array.length_toList]
      refine set_loopT (xs := xs) ((Walks.list (A := A.in1.in1.in1) (by simp [hh]) _ l neI items).toS) off hsz nd (by rw [← hsz]; exact room) (fun i v hv => ?_) items.size 0 _ (Nat.zero_add _) ⟨⟨_, Heap.get?_push_size _ rfl, rfl, rfl⟩, hl1.push _⟩ ?_ fun s' hm hS' => ?_
      · obtain ⟨t, e⟩ := SS.strs_at hi i v (by rw [Array.getElem?_toList]; exact hv)
        have hlt : i < xs.length := by rw [hsz]; exact (Array.getElem?_eq_some_iff.mp hv).1
        exact ⟨xs[i], t, List.getElem?_eq_getElem hlt, by rw [e, List.getD_eq_getElem?_getD, List.getElem?_eq_getElem hlt]; rfl⟩
      · exact PyProof.Rows.SetOf_congr ((PyProof.Rows.setObjOf_fresh (knd := PySem.strKind prog w) led).setOf (Heap.get?_push_of_some _ hS) (by unfold scanBound; omega)) (fun _ => by simp) rfl
      · obtain ⟨h', g', d', tk', os'⟩ := s'
        obtain rfl : g' = s.gens := hm.gens
        obtain rfl : d' = s.drawn := hm.drawn
        obtain rfl : os' = s.os := hm.os
        refine wpAny_pure (wpAny_pure ⟨rfl, h', tk', rfl, by rw [hsz]; exact hS', fun b o e => ?_⟩)
        have hb : b < s.heap.objs.size := Heap.lt_size e
        refine hm.heap b o (fun hmem => ?_) (Heap.get?_push_of_some _ (Heap.get?_push_of_some _ e))
        have e' : b = s.heap.objs.size ∨ b = (s.heap.push (setO led)).objs.size := by simpa using hmem
        rcases e' with e' | e'
        · exact Nat.ne_of_lt hb e'
        · rw [hz] at e'; exact Nat.ne_of_lt (Nat.lt_succ_of_lt hb) e'
    · match r2, hr2 with
      | .ok (.ret r), hr2 =>
        obtain ⟨rfl, h', tk, rfl, hS', hk'⟩ := hr2
        repeat (any_goals (first | assumption | wp_step))
        exact h _ _ hS' hk'
      | .error e, hr2 => exact hr2
  | .error e, hr => exact hr
end
section
variable {prog : Program} {w : World} {A : Around} {E : Value → Shared → Prop} {s : Shared}
theorem set_of_tuple {l : Addr} {items : Array Value} {xs : List Str} {Q : Value → Shared → Prop} (hh : A.handled = none) (hl : s.heap.IsTuple l items) (hi : PyProof.Rows.StrsAre items.toList xs) (nd : xs.Nodup) (room : xs.length < scanBound)
    (h : ∀ (h' : Heap) (tk : Nat), Elem prog w xs xs.length s.heap.objs.size h' → (∀ b o, s.heap.get? b = some o → h'.get? b = some o) → Q (.ref s.heap.objs.size) { s with heap := h', toks := tk }) :
    wpAny (model prog w) A (call (.type "set") [.ref l]) Q E s := by
  obtain ⟨c, tl, hmro⟩ := PySem.F.called_set.mro
  have hmade := PySem.F.called_set.made
  have hsub := PySem.F.called_set.sub
  refine wpAny_call (codeAny_of_tree ?_)
  refine wpAny_pure ⟨Code.quiet_builtin _ (by decide +kernel), codeAny_builtin PySem.F.entry_type_call ?_⟩
  rw [Around.under_plain (weight_type_call_type "set" [.ref l] []) rfl]
  have nt := PySem.F.called_set.notType
  have cc := PySem.F.called_set.canCreate
  have ct := PySem.F.typeCall_set_1 (.ref l)
  repeat (any_goals (first | assumption | wp_step))
  refine codeAny_mono (code_set_new_1 (.ref l) (E := E) (Q₁ := fun obj s1 => ∃ led : Bool, obj = .ref s.heap.objs.size ∧ s1 = { s with heap := s.heap.push { cls := .type "set", dict := none, data := .set #[] 0 (.fresh 0 0 led) } }) fun led => ⟨led, rfl, rfl⟩) fun r s1 hr => ?_
  match r, hr with
  | .ok (.ret obj), hr =>
    obtain ⟨led, rfl, rfl⟩ := hr
    have hS : (s.heap.push (setO led)).get? s.heap.objs.size = some (setO led) := Heap.get?_push_size _ rfl
    have hTy : Shared.TypeIs { s with heap := s.heap.push (setO led) } (.ref s.heap.objs.size) "set" := ⟨_, hS, rfl⟩
    have li := PySem.F.called_set.init.lookup
    have bi := PySem.F.called_set.init.bind (.ref s.heap.objs.size)
    repeat (any_goals (first | assumption | wp_step))
    refine codeAny_mono (codeAny_call_builtin (R := wants (fun r s2 => r = .none ∧ ∃ h' tk, s2 = { s with heap := h', toks := tk } ∧ Elem prog w xs xs.length s.heap.objs.size h' ∧ (∀ b o, s.heap.get? b = some o → h'.get? b = some o)) E)
      PySem.F.called_set.init.plain PySem.F.entry_set_init (check_set_init_1 hTy ?_)) fun r2 s2 hr2 => ?_
    · obtain ⟨⟨oc, od, odt, osl⟩, hol, hcl, nl, hdl⟩ := hl
      dsimp only at hcl hdl
      subst hcl hdl
      have hol' : (s.heap.push (setO led)).get? l = some { cls := .type "tuple", dict := od, data := .seq items nl, slots := osl } := Heap.get?_push_of_some _ hol
      have ss := PySem.F.sub_tuple_set
      have sf := PySem.F.sub_tuple_frozenset
      have ne : (Value.type "tuple" == Value.type "dict") = false := by decide
      have hl1 : (s.heap.push (setO led)).IsTuple l items := ⟨_, hol', rfl, nl, rfl⟩
      unfold Builtin.«set.__init__» noKeywords Builtin.Frozenset.updateFrom
      generalize hPI : pyIter = PI
      wp_walk
      subst hPI
      refine wpAny_pyIter_tuple hl1 ?_
      refine wpAny_bind (wpAny_runValue ?_)
      have hlS : l < s.heap.objs.size := Heap.lt_size hol
      have hz : (s.heap.push (setO led)).objs.size = s.heap.objs.size + 1 := Heap.size_push ..
      have neI : l ≠ (s.heap.push (setO led)).objs.size := by rw [hz]; exact Nat.ne_of_lt (Nat.lt_succ_of_lt hlS)
      have off : s.heap.objs.size ∉ [(s.heap.push (setO led)).objs.size, l] := by
        rw [hz]; simp only [List.mem_cons, List.not_mem_nil, or_false, not_or]
        exact ⟨Nat.ne_of_lt (Nat.lt_succ_self _), Nat.ne_of_gt hlS⟩
      have hsz : xs.length = items.size := by rw [← StrsAre.len_eq hi, Array.length_toList]
      refine set_loopT (xs := xs) ((Walks.tuple (A := A.in1.in1.in1) (by simp [hh]) _ l neI items).toS) off hsz nd (by rw [← hsz]; exact room) (fun i v hv => ?_) items.size 0 _ (Nat.zero_add _) ⟨⟨_, Heap.get?_push_size _ rfl, rfl, rfl⟩, hl1.push _⟩ ?_ fun s' hm hS' => ?_
      · obtain ⟨t, e⟩ := SS.strs_at hi i v (by rw [Array.getElem?_toList]; exact hv)
        have hlt : i < xs.length := by rw [hsz]; exact (Array.getElem?_eq_some_iff.mp hv).1
        exact ⟨xs[i], t, List.getElem?_eq_getElem hlt, by rw [e, List.getD_eq_getElem?_getD, List.getElem?_eq_getElem hlt]; rfl⟩
      · exact PyProof.Rows.SetOf_congr ((PyProof.Rows.setObjOf_fresh (knd := PySem.strKind prog w) led).setOf (Heap.get?_push_of_some _ hS) (by unfold scanBound; omega)) (fun _ => by simp) rfl
      · obtain ⟨h', g', d', tk', os'⟩ := s'
        obtain rfl : g' = s.gens := hm.gens
        obtain rfl : d' = s.drawn := hm.drawn
        obtain rfl : os' = s.os := hm.os
        refine wpAny_pure (wpAny_pure ⟨rfl, h', tk', rfl, by rw [hsz]; exact hS', fun b o e => ?_⟩)
        have hb : b < s.heap.objs.size := Heap.lt_size e
        refine hm.heap b o (fun hmem => ?_) (Heap.get?_push_of_some _ (Heap.get?_push_of_some _ e))
        have e' : b = s.heap.objs.size ∨ b = (s.heap.push (setO led)).objs.size := by simpa using hmem
        rcases e' with e' | e'
        · exact Nat.ne_of_lt hb e'
        · rw [hz] at e'; exact Nat.ne_of_lt (Nat.lt_succ_of_lt hb) e'
    · match r2, hr2 with
      | .ok (.ret r), hr2 =>
        obtain ⟨rfl, h', tk, rfl, hS', hk'⟩ := hr2
        repeat (any_goals (first | assumption | wp_step))
        exact h _ _ hS' hk'
      | .error e, hr2 => exact hr2
  | .error e, hr => exact hr
end
section
variable {X : Cx}
def tLenSetT (K : PySem.W.Frag) (ta : TE) : TE := fun σ H Q => ta σ H fun x H1 => ∃ (l : Addr) (xs : List (List Nat)), x = V.ref l ∧ (SqL K H1 l (txs xs) ∨ SqT K H1 l (txs xs)) ∧ xs.length < 60 ∧ xs.Nodup ∧ Q (.int xs.length) H1
theorem nodup_S {xs : List (List Nat)} (h : xs.Nodup) : (xs.map S).Nodup := List.pairwise_map.mpr (h.imp fun n e => n (by have : (S _).cps.toList = (S _).cps.toList := congrArg (fun z : Str => z.cps.toList) e; simpa [S] using this))
theorem pe_lenSetT {a : Expr} {ta : TE} {p p2 q pos : Pos} (hc : X.calm = true) (hg : Gl X "len") (hm : X.mg "len" = none) (hg2 : Gl X "set") (hm2 : X.mg "set" = none) (ha : PE X a ta)
    (na : starEach [a] X.env = (false, eval a X.env) :: starEach [] X.env := by rfl) : PE X (.Call (.Name "len" p) [.Call (.Name "set" p2) [a] [] q] [] pos) (tLenSetT X.K ta) := by
  refine ⟨fun pins s σ H Q I h => ?_⟩
  refine Call_ (ld_blt I hg hm PySem.boot_len (PyProof.Rows.callWith_builtin1 (PyProof.Rows.args_cons ?_ rfl) rfl rfl))
  refine Call_ (ld_blt I hg2 hm2 PyProof.Rows.boot_set (PyProof.Rows.callWith_type1 (PyProof.Rows.args_cons (thn (ha.run pins s σ H _ I h) fun v s1 ⟨x, H1, I1, r1, q1⟩ => PyProof.Rows.args_nil ?_) na) na rfl))
  obtain ⟨l, xs, rfl, hq, h1, hnd, q1⟩ := q1
  cases r1
  have e0 : txs xs = (xs.map S).map V.str := by unfold txs; rw [List.map_map]; rfl
  have room : (xs.map S).length < scanBound := by rw [List.length_map]; unfold scanBound; omega
  have fin : ∀ (h' : Heap) (tk : Nat), Elem X.prog X.w (xs.map S) (xs.map S).length s1.heap.objs.size h' → (∀ b o, s1.heap.get? b = some o → h'.get? b = some o) →
      wpAny (model X.prog X.w) X.A (spliced (backTo pos (starEach [] X.env))) (fun vs s₂ => wpAny (model X.prog X.w) X.A (call (.builtin "len") (Value.ref s1.heap.objs.size :: vs)) (EP X pins σ Q) X.xe s₂) X.xe { s1 with heap := h', toks := tk } := fun h' tk hS hk => by
    refine PyProof.Rows.args_nil ?_
    obtain ⟨o, es, ep, t, ho, hex, hd, _, _, _, hf, hn⟩ := hS
    have I2 : Inv X pins σ H1 { s1 with heap := h', toks := tk } := I1.kept hk
    rw [List.length_map] at hn
    exact call_len_set ho hex hd hf (by rw [hn]; omega) ⟨.int xs.length, H1, I2.tok _, ⟨_, by rw [hn]⟩, q1⟩
  rcases hq with hq | hq
  · rw [e0] at hq
    obtain ⟨its, r, pl, hz⟩ := I1.list hq
    exact set_of_list (I1.ok.hd hc) pl.isList (by simpa using strsAre_of r) (nodup_S hnd) room fun h' tk hS hk => fin h' tk hS hk
  · rw [e0] at hq
    obtain ⟨its, r, pl, hz⟩ := I1.tuple hq
    exact set_of_tuple (I1.ok.hd hc) pl (by simpa using strsAre_of r) (nodup_S hnd) room fun h' tk hS hk => fin h' tk hS hk
end
end LX
set_option maxHeartbeats 2000000
namespace LX
open PySem PySem.Spec PyProof.Rows L2 C8 SX
def SqB (K : PySem.W.Frag) (b : Bool) (H : Hp) (a : Addr) (xs : List V) : Prop := if b = true then SqL K H a xs else SqT K H a xs
def ItA (K : PySem.W.Frag) (b : Bool) (a : Addr) : It := if b = true then Itl K a else Itt K a
theorem SqB.or {K : PySem.W.Frag} {b : Bool} {H : Hp} {a : Addr} {xs : List V} (h : SqB K b H a xs) : SqL K H a xs ∨ SqT K H a xs := by
  cases b
  · exact .inr h
  · exact .inl h
theorem SqB.same {K : PySem.W.Frag} {b : Bool} {H H' : Hp} {a : Addr} {xs : List V} (h : SqB K b H a xs) (s : Same H H') : SqB K b H' a xs := by
  cases b
  · exact sm_seqT s h
  · exact s.seq h
theorem SqB.lst {K : PySem.W.Frag} {H : Hp} {a : Addr} {xs : List V} (h : H a = some (.lst xs)) : SqB K true H a xs := SqL.of h
theorem SqB.tup {K : PySem.W.Frag} {H : Hp} {a : Addr} {xs : List V} (h : H a = some (.tup xs)) : SqB K false H a xs := SqT.of h
def seqB (b : Bool) (xs : List V) : HO := if b = true then .lst xs else .tup xs
theorem SqB.of {K : PySem.W.Frag} {b : Bool} {H : Hp} {a : Addr} {xs : List V} (h : H a = some (seqB b xs)) : SqB K b H a xs := by
  cases b
  · exact SqB.tup h
  · exact SqB.lst h
theorem walk_seq {K : PySem.W.Frag} {b : Bool} {a : Addr} {xs : List V} : Walk (ItA K b a) xs.length (fun H => SqB K b H a xs) (YAt xs) := by
  cases b
  · exact walk_tup
  · exact walk_list
def iSeq (K : PySem.W.Frag) (tl : TE) : TI := fun σ H R => tl σ H fun x H1 => ∃ a b xs, x = .ref a ∧ SqB K b H1 a xs ∧ R (ItA K b a) H1
theorem pi_seq {X : Cx} {tg l : Expr} {tl : TE} (hl : PE X l tl) : PI X tg l (iSeq X.K tl) := by
  refine ⟨fun pins s σ H R I h => thn (hl.run pins s σ H _ I h) fun v s1 ⟨x, H1, I1, r1, a, b, xs, e, hq, q⟩ => ?_⟩
  subst e
  cases r1
  have new : ∀ c ∈ [s1.heap.objs.size], FpOk X pins H1 c := fun c hc => by
    rw [List.mem_singleton.mp hc]
    exact I1.fpOk (Nat.le_refl _) (I1.hok.fresh (Nat.le_refl _))
  cases b with
  | true =>
    obtain ⟨its, rv, p, hz⟩ := I1.list hq
    exact wpAny_pyIter_list p.isList ⟨s1.heap.objs.size, _, _, _, H1, rfl, I1.kept (t' := s1.toks) fun b o e => Heap.get?_push_of_some _ e, turn_list a _, ⟨_, Heap.get?_push_size _ rfl, rfl, rfl⟩, new, q⟩
  | false =>
    obtain ⟨its, rv, p, hz⟩ := I1.tuple hq
    exact wpAny_pyIter_tuple (show s1.heap.IsTuple a its.toArray from p) ⟨s1.heap.objs.size, _, _, _, H1, rfl, I1.kept (t' := s1.toks) fun b o e => Heap.get?_push_of_some _ e, turn_tuple a _, ⟨_, Heap.get?_push_size _ rfl, rfl, rfl⟩, new, q⟩
theorem pi_listK {X : Cx} {tg l : Expr} {tl : TE} (K : PySem.W.Frag) (hl : PE X l tl) (h : X.K = K := by rfl) : PI X tg l (iList K tl) := by subst h; exact pi_list hl
theorem pi_tupK {X : Cx} {tg l : Expr} {tl : TE} (K : PySem.W.Frag) (hl : PE X l tl) (h : X.K = K := by rfl) : PI X tg l (iTup K tl) := by subst h; exact pi_tup hl
theorem pi_seqK {X : Cx} {tg l : Expr} {tl : TE} (K : PySem.W.Frag) (hl : PE X l tl) (h : X.K = K := by rfl) : PI X tg l (iSeq K tl) := by subst h; exact pi_seq hl
def inS : Expr → Scope
  | .ListComp (.ListComp _ _ s _) _ _ _ => s
  | _ => { kind := .function, names := [], isGenerator := false, isCoroutine := false }
def outS : Expr → Scope
  | .ListComp _ _ s _ => s
  | _ => { kind := .function, names := [], isGenerator := false, isCoroutine := false }
def ofRet : Stmt → Expr
  | .Return (some e) _ => e
  | .Assign _ e _ => e
  | _ => .Constant .none 0 ⟨0, 0, 0, 0⟩
theorem tuple_of {K : PySem.W.Frag} {b : Bool} {H : Hp} {a : Addr} {xs : List V} {Q : VK} (h : SqB K b H a xs) (q1 : ∀ l, H l = none → Q (.ref l) (upd H l (.tup xs))) (q2 : b = false → Q (.ref a) H) :
    (SqL K H a xs ∧ ∀ l, H l = none → Q (.ref l) (upd H l (.tup xs))) ∨ (SqT K H a xs ∧ Q (.ref a) H) := by
  cases b
  · exact .inr ⟨h, q2 rfl⟩
  · exact .inl ⟨h, q1⟩
theorem tupA {K : PySem.W.Frag} {b : Bool} {H : Hp} {a : Addr} {xs : List V} {Q : VK} (h : H a = some (seqB b xs)) (k : ∀ l H', Same H H' → H' l = some (.tup xs) → (b = false → l = a) → (b = true → H l = none) → Q (.ref l) H') :
    (SqL K H a xs ∧ ∀ l, H l = none → Q (.ref l) (upd H l (.tup xs))) ∨ (SqT K H a xs ∧ Q (.ref a) H) := by
  cases b
  · exact .inr ⟨SqT.of h, k a H (Same.refl H) h (fun _ => rfl) (fun h => nomatch h)⟩
  · exact .inl ⟨SqL.of h, fun l hl => k l _ (sm_new hl) upd_same (fun h => nomatch h) (fun _ => hl)⟩
theorem tCB_tup {K : PySem.W.Frag} {b : Bool} {i : Nat} {σ : L2.St} {H : Hp} {a : Addr} {xs : List V} {Q : VK} (hv : σ[i]? = some (some (.ref a))) (h : H a = some (seqB b xs)) (k : ∀ l H', Same H H' → H' l = some (.tup xs) → (b = false → l = a) → (b = true → H l = none) → Q (.ref l) H') :
    tCB (fun xs H Q => ∃ p ys, xs = [.ref p] ∧ ((SqL K H p ys ∧ ∀ l, H l = none → Q (.ref l) (upd H l (.tup ys))) ∨ (SqT K H p ys ∧ Q (.ref p) H))) (tCons (tVar i) tNil) σ H Q :=
  ⟨_, hv, a, xs, rfl, tupA (Q := Q) h k⟩
theorem eqV_S {x y : List Nat} : eqV (.str (S x)) (.str (S y)) = decide (x = y) := by
  show (S x == S y) = _
  by_cases e : x = y
  · subst e; simp
  · have : S x ≠ S y := fun h => e (by have : (S x).cps.toList = (S y).cps.toList := congrArg (fun z : Str => z.cps.toList) h; simpa [S] using this)
    rw [decide_eq_false e]; simpa using this
theorem flat_txs (xs : List (List Nat)) : (txs xs).all flatV = true := by
  unfold txs; rw [List.all_map]; exact List.all_eq_true.mpr fun _ _ => rfl
theorem inV_txs {x : List Nat} {xs : List (List Nat)} : inV (.str (S x)) (txs xs) = decide (x ∈ xs) := by
  unfold inV txs
  induction xs with
  | nil => rfl
  | cons y ys ih =>
    rw [List.map_cons, List.any_cons, ih]
    show (eqV (.str (S y)) (.str (S x)) || _) = _
    rw [eqV_S]
    by_cases e : y = x <;> by_cases e2 : x ∈ ys <;> simp [e, e2]
    · intro h; exact absurd h.symm e
theorem dictZipK {X : Cx} (K : PySem.W.Frag) {e e2 : Expr} {ta : TA} {p p2 pos pos2 : Pos} (hc : X.calm = true) (hgd : Gl X "dict") (hmd : X.mg "dict" = none) (hg : Gl X "zip") (hm : X.mg "zip" = none) (ha : PA X [e, e2] ta) (h : X.K = K := by rfl)
    (hs : starEach [e, e2] X.env = (false, eval e X.env) :: starEach [e2] X.env := by rfl) (hpl : (backTo pos2 (starEach [e2] X.env)).any (·.1) = false := by rfl)
    (hs' : starEach [.Call (.Name "zip" p2) [e, e2] [] pos2] X.env = (false, eval (.Call (.Name "zip" p2) [e, e2] [] pos2) X.env) :: starEach [] X.env := by rfl) (hpl' : (backTo pos (starEach [] X.env)).any (·.1) = false := by rfl) :
    PE X (.Call (.Name "dict" p) [.Call (.Name "zip" p2) [e, e2] [] pos2] [] pos) (tDictZip K ta) := by subst h; exact pe_dictZip hc hgd hmd hg hm ha hs hpl hs' hpl'
end LX
set_option maxHeartbeats 2000000
namespace LX
open PySem PySem.Spec PyProof.Rows L2 C8 SX NdefX
noncomputable def upB (h base : Heap) (cs : List Addr) : Heap := hidT h fun b => if (base.get? b).isSome = true ∨ b ∈ cs then none else some (.lst [])
theorem upB_get {h base : Heap} {cs : List Addr} {b : Addr} {o : Obj} (e : h.get? b = some o) (n : (base.get? b).isSome = true ∨ b ∈ cs) : (upB h base cs).get? b = some o := hidT_get e (if_pos n)
theorem of_upB {h base : Heap} {cs : List Addr} {b : Addr} {o : Obj} (e : (upB h base cs).get? b = some o) : h.get? b = some o ∧ ((base.get? b).isSome = true ∨ b ∈ cs) := by
  obtain ⟨e1, e2⟩ := of_hidT e
  refine ⟨e1, ?_⟩
  by_cases n : (base.get? b).isSome = true ∨ b ∈ cs
  · exact n
  · have e2 : (if (base.get? b).isSome = true ∨ b ∈ cs then none else some (HO.lst [])) = none := e2
    rw [if_neg n] at e2; cases e2
structure BCells (cl : List (Str × Addr)) (fr : List Str) (ws : List (Option V)) (base : Heap) : Prop where
  len : ws.length = fr.length
  all : ∀ y c, cl.lookup y = some c → ∃ v, base.IsCell c v
  inj : ∀ x y c, cl.lookup x = some c → cl.lookup y = some c → x = y
  has : ∀ (i : Nat) (y : Str), fr[i]? = some y → ∃ c, cl.lookup y = some c ∧ ∀ v, ws[i]? = some (some v) → ∃ u, RelV v u ∧ base.IsCell c (some u)
theorem BCells.at_ {cl : List (Str × Addr)} {fr : List Str} {ws : List (Option V)} {base : Heap} (b : BCells cl fr ws base) {h : Heap} {H : Hp} (bs : ∀ b o, base.get? b = some o → h.get? b = some o ∧ H b = none) : CellsAt cl fr ws h H :=
  ⟨b.len, fun y c e => let ⟨v, o, e1, e2⟩ := b.all y c e; ⟨(bs _ _ e1).2, v, o, (bs _ _ e1).1, e2⟩, b.inj, fun i y e => let ⟨c, e1, f⟩ := b.has i y e; ⟨c, e1, fun v hv => let ⟨u, r, o, e2, e3⟩ := f v hv; ⟨u, r, o, (bs _ _ e2).1, e3⟩⟩⟩
section
variable {X : Cx} {pins : List (Addr × Obj)} {σ : L2.St} {H : Hp} {s : Shared}
theorem funs_up {h base : Heap} {cs : List Addr} : ∀ {l : List Env}, h.FunFrames base l → (∀ b ∈ frs l, b ∉ cs) → h.FunFrames (upB h base cs) l
  | [], _, _ => trivial
  | env :: rest, ⟨a, ⟨L, o, e1, e2, e3, e4⟩, r⟩, n => by
    have hm : L ∈ frs (env :: rest) := by unfold frs; rw [List.filterMap_cons, e1]; exact List.mem_cons_self
    refine ⟨a, ⟨L, o, e1, ?_, e3, e4⟩, funs_up r fun b hb => n b ?_⟩
    · cases q : (upB h base cs).get? L with
      | none => rfl
      | some o' =>
        rcases (of_upB q).2 with z | z
        · rw [e2] at z; cases z
        · exact absurd z (n L hm)
    · unfold frs at hb ⊢; rw [List.filterMap_cons, e1]; exact List.mem_cons_of_mem _ hb
theorem env_up (I : Inv X pins σ H s) {cs : List Addr} (hc : ∀ c ∈ cs, ∃ x, X.env.cells.lookup x = some c ∧ X.fn x = true) : Env0 X.prog X.w X.K X.mg (upB s.heap X.base cs) X.A X.stack s H := by
  have e0 := I.env0
  have k : ∀ b o, X.base.get? b = some o → (upB s.heap X.base cs).get? b = some o := fun b o e => upB_get (e0.bs b o e).1 (.inl (by rw [e]; rfl))
  obtain ⟨mb, b1, b2⟩ := e0.mod.blt
  refine ⟨e0.frames, ⟨fun b o e => k b o (e0.mod.kin b o e), e0.mod.glob.keeps k, ⟨mb, b1.keeps k, b2⟩, e0.mod.nolimit.keeps k⟩, fun b o e => ?_, Nat.le_of_eq (hidT_size _ _), funs_up e0.funs fun L hL hm => ?_, e0.frf, e0.hok, e0.bare⟩
  · obtain ⟨e1, n⟩ := of_upB e
    refine ⟨e1, ?_⟩
    rcases n with n | n
    · obtain ⟨o', q⟩ := Option.isSome_iff_exists.mp n
      exact (e0.bs b o' q).2
    · obtain ⟨x, hx, _⟩ := hc b n
      exact I.freeC x b hx
  · obtain ⟨x, hx, hf⟩ := hc L hm
    have above := I.ok.cab x L hf hx
    have out : ∀ l : List Env, X.s_0.heap.FunFrames X.base l → L ∈ frs l → False := fun l => by
      induction l with
      | nil => intro _ h; simp [frs] at h
      | cons env rest ih =>
        rintro ⟨_, ⟨M, o, e1, _, e3, _⟩, r⟩ h
        unfold frs at h; rw [List.filterMap_cons, e1] at h
        rcases List.mem_cons.mp h with z | z
        · have := Heap.lt_size e3
          rw [← z] at this
          exact Nat.lt_irrefl _ (Nat.lt_of_lt_of_le this above)
        · exact ih r z
    rcases I.ok.stk with e | ⟨e, ef⟩
    · rw [e] at hL; exact out _ I.ok.funs hL
    · rw [e] at hL
      unfold frs at hL; rw [List.filterMap_cons, ef] at hL
      rcases List.mem_cons.mp hL with z | z
      · obtain ⟨m, ⟨o, es, ep, e1, e2, _⟩, _⟩ := I.loc
        obtain ⟨v, o', q1, q2⟩ := I.cell x L hx
        rw [z, e1] at q1
        cases q1
        rw [e2] at q2; cases q2
      · exact out _ I.ok.funs z
theorem cells_up (I : Inv X pins σ H s) {cl : List (Str × Addr)} {fr : List Str} {js : List Nat} (c : Caps X cl fr js) : BCells cl fr (js.map (slotAt σ)) (upB s.heap X.base (cl.map (·.2))) := by
  have C := cells_of I c
  have mem : ∀ {y : Str} {a : Addr}, cl.lookup y = some a → a ∈ cl.map (·.2) := fun {y a} h => by
    obtain ⟨l1, l2, e, _⟩ := List.lookup_eq_some_iff.mp h
    rw [e]; simp
  refine ⟨C.len, fun y a e => ?_, C.inj, fun i y e => ?_⟩
  · obtain ⟨_, v, o, e1, e2⟩ := C.all y a e
    exact ⟨v, o, upB_get e1 (.inr (mem e)), e2⟩
  · obtain ⟨a, e1, f⟩ := C.has i y e
    exact ⟨a, e1, fun v hv => let ⟨u, r, o, e2, e3⟩ := f v hv; ⟨u, r, o, upB_get e2 (.inr (mem e1)), e3⟩⟩
def tUp (S : List (Option V) → Sp → Prop) (js : List Nat) (t : TA) : TE := fun σ H Q => t σ H fun vs H1 => ∃ sp, S (js.map (slotAt σ)) sp ∧ sp vs H1 Q C8.E0
theorem pe_cUp {k j : Nat} {g : Addr} {x : Str} {p pos : Pos} {e : Expr} {es : List Expr} {t : TA} {cl : List (Str × Addr)} {fr : List Str} {js : List Nat} {S : List (Option V) → Sp → Prop} (named : X.mg x = some (.ref g)) (kept : PySem.W.keepIn X.K (.ref g) = true)
    (cp : X.Ok → Caps X cl fr js) (hfn : ∀ y c, cl.lookup y = some c → X.fn y = true)
    (hS : ∀ ws sp (base' : Heap), S ws sp → X.K.In base' → base'.Ns mainGlobals X.mg → BCells cl fr ws base' → Cal X.prog X.w X.K X.mg base' k x sp []) (room : Room j X.A) (hk : k ≤ j) (hg : Gl X x) (ha : PA X (e :: es) t) (nd : cl.map (·.1) |>.Nodup) (hdb : (x == ("__debug__" : Str)) = false := by decide)
    (he : starEach (e :: es) X.env = (false, eval e X.env) :: starEach es X.env := by rfl) (hpl : (backTo pos (starEach es X.env)).any (·.1) = false := by rfl) : PE X (.Call (.Name x p) (e :: es) [] pos) (tUp S js t) := by
  constructor
  intro pins s σ H Q I want
  refine wpAny_Call_Name_kw (ld_glob I hg named ?_ hdb)
  refine PySem.W.callWith_K (h₀ := X.base) I.ok.mod.kin kept (thn (ha.run pos pins s σ H _ I want) ?_) he hpl
  rintro us s1 ⟨vs, H1, I1, rel, sp, s0, q⟩
  refine ⟨I1.kIn, ?_⟩
  have C := cp I1.ok
  have hcs : ∀ c ∈ cl.map (·.2), ∃ x, X.env.cells.lookup x = some c ∧ X.fn x = true := fun c hc => by
    obtain ⟨⟨y, c'⟩, hm, rfl⟩ := List.mem_map.mp hc
    have hl : cl.lookup y = some c' := by
      clear C hfn hS cp
      induction cl with
      | nil => cases hm
      | cons a r ih =>
        obtain ⟨z, d⟩ := a
        rw [List.map_cons, List.nodup_cons] at nd
        rcases List.mem_cons.mp hm with h | h
        · cases h; exact List.lookup_cons_self ..
        · have hne : (y == z) = false := by
            refine beq_eq_false_iff_ne.mpr fun e => nd.1 ?_
            rw [← e]; exact List.mem_map_of_mem (f := (·.1)) h
          rw [List.lookup_cons, hne]
          exact ih nd.2 h (List.mem_map_of_mem (f := (·.2)) h)
    exact ⟨y, C.sub y c' hl, hfn y c' hl⟩
  have E1 := env_up I1 hcs
  obtain ⟨f, fd, ps, ds, F, named', _, bd, dv⟩ := (hS _ sp _ s0 E1.mod.kin E1.mod.glob (cells_up I1 C)).ex
  rw [named] at named'
  cases named'
  cases dv
  have count : (us ++ []).length = ps.length := by rw [List.append_nil, ← rel.length]; exact F.len _ _ _ _ q
  have bs := bd s1 us I1.kIn count
  rw [List.append_nil] at bs
  refine wpAny_call (codeAny_mono (F.run X.A X.stack s1 H1 ⟨us, []⟩ us vs Q C8.E0 (room.mono hk) E1 bs rel q) fun r t' got => ?_)
  match r, got with
  | .ok (.ret u), got => exact I1.after got
end
def CV (P : Program) (w : World) (K : PySem.W.Frag) (mg : Str → Option Value) (base : Heap) (k : Nat) (g : Addr) (tr : Hp → Prop) (sp : Sp) : Prop :=
  Held P w K mg base k g sp ∨
    ∃ (F : NF) (ps fr : List Str) (ws : List (Option V)) (nsp : List (Option V) → Sp), NOk P w K mg base C8.CX0 k g F ps fr nsp ∧ (∀ vs H Q, tr H → sp vs H Q C8.E0 → nsp ws vs H Q C8.E0) ∧ BCells F.cl fr ws base ∧ ∀ H, tr H → H g = some (FnO g F) ∧ H F.c = some (LamX.CodeO F.c F.qual)
def tCallV (i : Nat) (g : Addr) (tr : Hp → Prop) (sp : Sp) (t : TA) : TE := fun σ H Q => σ[i]? = some (some (.ref g)) ∧ tr H ∧ t σ H fun vs H1 => tr H1 ∧ sp vs H1 Q C8.E0
theorem pe_callV {X : Cx} {k j i : Nat} {g : Addr} {tr : Hp → Prop} {sp : Sp} {x : Str} {p pos : Pos} {e : Expr} {es : List Expr} {t : TA} (c : CV X.prog X.w X.K X.mg X.base k g tr sp) (room : Room j X.A) (hk : k ≤ j) (hN : X.N[i]? = some x) (hv : Vis X.env.scope x) (ha : PA X (e :: es) t)
    (hd : (x == ("__debug__" : Str)) = false := by decide) (hcd : (x == ("__classdict__" : Str)) = false := by decide)
    (he : starEach (e :: es) X.env = (false, eval e X.env) :: starEach es X.env := by rfl) (hpl : (backTo pos (starEach es X.env)).any (·.1) = false := by rfl) : PE X (.Call (.Name x p) (e :: es) [] pos) (tCallV i g tr sp t) := by
  constructor
  rintro pins s σ H Q I ⟨hs, ht, want⟩
  rcases c with ⟨fd, ps, F, kept, bd⟩ | ⟨F, ps, fr, ws, nsp, N, hsp, B, htr⟩
  · have F' : FnOk X.prog X.w X.K X.mg X.base (fun _ _ _ _ _ _ => False) k g fd ps (fun vs H Q E => tr H ∧ sp vs H Q E) := F.imp fun _ _ _ _ q => q.2
    refine (pe_callL (i := i) (dvs := []) (E := fun _ _ _ => False) F' (room.mono hk) hN hv kept bd .nil (fun _ _ _ _ _ _ _ z => z.elim) ha hd hcd he hpl).run pins s σ H Q I ⟨hs, ?_⟩
    have e0 : (fun (vs : List V) (H1 : Hp) => tr H1 ∧ sp (vs ++ []) H1 Q fun _ _ _ => False) = fun vs H1 => tr H1 ∧ sp vs H1 Q C8.E0 := by funext vs H1; rw [List.append_nil]; rfl
    show t σ H fun vs H1 => tr H1 ∧ sp (vs ++ []) H1 Q fun _ _ _ => False
    rw [e0]; exact want
  · refine wpAny_Call_Name_kw (thn ((pe_var (pos := p) hN hv hd hcd).run pins s σ H (fun v H1 => v = .ref g ∧ H1 = H) I ⟨.ref g, hs, rfl, rfl⟩) fun u s1 ⟨v, H1, I1, r1, ev, eH⟩ => ?_)
    subst ev
    rw [eH] at I1
    obtain rfl : u = Value.ref g := r1
    refine PySem.W.callWith_F (first := []) (fnAt_of I1 (htr H ht).1) (thn (ha.run pos pins s1 σ H _ I1 want) fun us s2 ⟨vs, H2, I2, r, h1, q⟩ => ⟨fnAt_of I2 (htr H2 h1).1, ?_⟩) he hpl
    refine wpAny_call (codeAny_mono (N.run X.A X.stack s2 H2 us vs ws Q C8.E0 (room.mono hk) I2.env0 (htr H2 h1).1 (htr H2 h1).2 (B.at_ I2.env0.bs) r (hsp vs H2 Q h1 q)) fun r t' got => ?_)
    match r, got with
    | .ok (.ret u), got => exact I2.after got
theorem calC {P : Program} {w : World} {K : PySem.W.Frag} {mg : Str → Option Value} {base : Heap} {x : Str} {st : Stmt} {f : Addr} {fd : FuncData} {N ps : List Str} {ds : List Value} {dvs : List V} {k : Nat} {sp : Sp} {cdv : Value} (F : C8.Def K mg x st f fd) (hc : fd.code = cdv) (b : Binds K fd ps ds) (d : Vals dvs ds) (S : FnScope N ps (C8.fnScope st)) (len : ∀ vs H Q E, sp vs H Q E → vs.length = ps.length)
    (hbody : ∀ (A : Around) (outer : List Env) (s : Shared) (H : Hp) (vs : List V) (Q : VK) (E : XK), Room k (A.deeper (envOfC x (C8.fnScope st) s.heap.objs.size f cdv)) → sp vs H Q E →
      ∃ t, PSs (cxOf C8.CX0 P w K mg base N x (C8.fnScope st) f cdv A outer s H E).nox (C8.fnBody st) t ∧ t { nx := fun _ H' => Q .non H', rt := Q } (start N vs) H) : C8.Cal P w K mg base (k + 1) x sp dvs := by
  refine ⟨f, fd, ps, ds, ?_, F.mgf, F.kp, b, d⟩
  obtain ⟨oc, od, dV, kV, doc, pm, an, cdv', ct, osl, rfl, lk, hcd⟩ := F.fn.ex
  obtain rfl : cdv' = cdv := hc
  refine fn_of lk hcd S len fun A outer s H vs Q E hr hsp => ?_
  obtain ⟨t, h, q⟩ := hbody A outer s H vs Q E hr hsp
  exact ⟨t, h.nox, q⟩
end LX
set_option maxHeartbeats 2000000
namespace LX
open PySem PySem.Spec PyProof.Rows L2 C8 SX NdefX
def takenN (ok : Nat → Bool) (n : Nat) : List Nat := (List.range n).filter ok
theorem takenN_yes {ok : Nat → Bool} {n : Nat} (h : ok n = true) : takenN ok (n + 1) = takenN ok n ++ [n] := by
  unfold takenN; rw [List.range_succ, List.filter_append, List.filter_cons_of_pos h]; rfl
theorem takenN_no {ok : Nat → Bool} {n : Nat} (h : ok n = false) : takenN ok (n + 1) = takenN ok n := by
  unfold takenN; rw [List.range_succ, List.filter_append, List.filter_cons_of_neg (by rw [h]; exact Bool.false_ne_true)]; exact List.append_nil _
theorem takenN_le {ok : Nat → Bool} {n : Nat} : (takenN ok n).length ≤ n := by
  unfold takenN
  exact Nat.le_trans (List.length_filter_le _ _) (by rw [List.length_range]; exact Nat.le_refl _)
theorem lc_keepF {Rel : Hp → Hp → Prop} {J : It} {n : Nat} {G : Hp → Prop} {Y : Nat → Hp → V → Hp → Prop} {H1 : Hp} (kp : Keep Rel H1) (w : Walk J n G Y) {g : TG} {tt : TT} {te : TE} {vs : List Nat} {σ : L2.St} {D : Addr} {Qd : Hp → Prop} (hD : H1 D = none) (hn : n < sizeLine)
    (ok : Nat → Bool) (Good : Nat → V → Hp → Prop) (hG : ∀ H, Rel H1 H → G H)
    (st : ∀ i y H H', Rel H1 H → Rel H H' → Good i y H → Good i y H') (pt : ∀ i y H acc o, Rel H1 H → H D = some (.lst acc) → Good i y H → Good i y (upd H D o))
    (hs : ∀ i x H H' acc (N : Hp → Prop) (R : V → Hp → Prop), i < n → Rel H1 H → H D = some (.lst acc) → Y i H x H' → (ok i = true → ∀ y H4, Rel H H4 → Good i y H4 → R y H4) → (ok i = false → ∀ H4, Rel H H4 → N H4) →
      g x (wipe σ vs) H' fun σ2 H2 => wipe σ2 vs = wipe σ vs ∧ tt σ2 H2 fun b H3 => if b = true then te σ2 H3 R else N H3)
    (hd : ∀ ys H, ys.length = (takenN ok n).length → (∀ (j k : Nat) y, (takenN ok n)[j]? = some k → ys[j]? = some y → Good k y H) → Rel H1 H → H D = some (.lst ys) → Qd H) :
    ∃ W : Nat → Nat → Hp → Prop, (∃ m, W 0 m (upd H1 D (.lst []))) ∧ ∀ i m H, W i m H →
      (J.stop i H ∧ Qd H) ∨ (J.go i H ∧ ∃ Nx : Hp → Prop, (∀ H', Nx H' → ∃ m', m' < m ∧ W (i + 1) m' H') ∧ ∀ x H', J.yld i H x H' → g x (wipe σ vs) H' fun σ2 H2 => wipe σ2 vs = wipe σ vs ∧ tt σ2 H2 fun b H3 =>
        if b = true then te σ2 H3 fun y H4 => ∃ acc, H4 D = some (.lst acc) ∧ acc.length < sizeLine ∧ Nx (upd H4 D (.lst (acc ++ [y]))) else Nx H3) := by
  refine lc_it w (fun i H => ∃ acc, acc.length = (takenN ok i).length ∧ H D = some (.lst acc) ∧ Rel H1 H ∧ ∀ (j k : Nat) y, (takenN ok i)[j]? = some k → acc[j]? = some y → Good k y H) ⟨[], rfl, upd_same, kp.put _ _ _ kp.refl hD, fun j k y _ e => by simp at e⟩
    (fun i H _ ⟨_, _, _, r, _⟩ => hG H r) (fun i x H H' hi ⟨acc, hl, hDa, r, hg⟩ hy => ?_) (fun H ⟨acc, hl, hDa, r, hg⟩ => hd acc H hl hg r hDa)
  have hle := takenN_le (ok := ok) (n := i)
  refine hs i x H H' acc _ _ hi r hDa hy (fun ho y H4 r4 gy => ?_) (fun ho H4 r4 => ?_)
  · have hD4 := kp.get _ _ _ _ r4 hD r hDa
    have r5 := kp.trans _ _ r r4
    refine ⟨acc, hD4, by omega, acc ++ [y], by rw [takenN_yes ho]; simp [hl], upd_same, kp.put _ _ _ r5 hD, fun j k z ek e => ?_⟩
    rw [takenN_yes ho] at ek
    rcases Nat.lt_or_ge j acc.length with h | h
    · rw [List.getElem?_append_left h] at e
      rw [List.getElem?_append_left (by omega)] at ek
      exact pt _ _ _ _ _ r5 hD4 (st _ _ _ _ r r4 (hg j k z ek e))
    · rw [List.getElem?_append_right h] at e
      rw [List.getElem?_append_right (by omega)] at ek
      have hj : j - acc.length = 0 := by
        rcases Nat.lt_or_ge (j - acc.length) 1 with z | z
        · omega
        · rw [List.getElem?_eq_none (by simpa using z)] at e; cases e
      have hj2 : j - (takenN ok i).length = 0 := by omega
      rw [hj] at e; rw [hj2] at ek
      obtain rfl : y = z := Option.some.inj e
      obtain rfl : i = k := Option.some.inj ek
      exact pt _ _ _ _ _ r5 hD4 gy
  · have hD4 := kp.get _ _ _ _ r4 hD r hDa
    exact ⟨acc, by rw [takenN_no ho]; exact hl, hD4, kp.trans _ _ r r4, fun j k y ek e => by rw [takenN_no ho] at ek; exact st _ _ _ _ r r4 (hg j k y ek e)⟩
end LX
set_option maxHeartbeats 2000000
namespace LX
open PySem PySem.Spec PyProof.Rows L2 C8 SX
theorem S_contains (sg : List Nat) (c : Nat) : (S sg).cps.contains c = decide (c ∈ sg) := by
  rw [Bool.eq_iff_iff, decide_eq_true_eq, ← Array.contains_toList]
  simp [S]
theorem S_empty {l : List Nat} : S l = S [] ↔ l = [] := by
  constructor
  · intro h
    have : (S l).cps.toList = (S []).cps.toList := congrArg (fun z : Str => z.cps.toList) h
    simpa [S] using this
  · rintro rfl; rfl
theorem takeWhile_all {p : Nat → Bool} : ∀ {l : List Nat}, (∀ c ∈ l, p c = true) → l.takeWhile p = l
  | [], _ => rfl
  | c :: l, h => by rw [List.takeWhile_cons, if_pos (h c List.mem_cons_self), takeWhile_all fun d hd => h d (List.mem_cons_of_mem _ hd)]
theorem takeWhile_short {p : Nat → Bool} : ∀ {l : List Nat}, ¬ (∀ c ∈ l, p c = true) → (l.takeWhile p).length < l.length ∧ ∃ d r, l.drop (l.takeWhile p).length = d :: r ∧ p d = false
  | [], h => absurd (fun _ h => nomatch h) h
  | c :: l, h => by
    by_cases hc : p c = true
    · have h' : ¬ ∀ c ∈ l, p c = true := fun q => h fun d hd => by
        rcases List.mem_cons.mp hd with rfl | z
        · exact hc
        · exact q d z
      obtain ⟨i1, d, r, i2, i3⟩ := takeWhile_short h'
      rw [List.takeWhile_cons, if_pos hc]
      exact ⟨Nat.succ_lt_succ i1, d, r, i2, i3⟩
    · rw [List.takeWhile_cons, if_neg hc]
      exact ⟨Nat.succ_pos _, c, l, rfl, by simpa using hc⟩
theorem strip_nil {l sg : List Nat} : Txt.stripChars (S l) (S sg) = S [] ↔ ∀ c ∈ l, c ∈ sg := by
  unfold Txt.stripChars Txt.stripBy stripSame stripped stripLo stripHi
  have eg : (S sg).cps.contains = fun c => decide (c ∈ sg) := funext fun c => S_contains sg c
  have el : (S l).cps.toList = l := rfl
  have en : (S l).length = l.length := S_len l
  rw [eg, if_pos rfl, if_pos rfl, el, en]
  generalize hp : (fun c => decide (c ∈ sg)) = p
  have hpc : ∀ c, p c = true ↔ c ∈ sg := fun c => by rw [← hp]; exact decide_eq_true_iff
  by_cases h : ∀ c ∈ l, p c = true
  · refine ⟨fun _ c hc => (hpc c).mp (h c hc), fun _ => ?_⟩
    rw [takeWhile_all h, List.drop_length, List.reverse_nil, List.takeWhile_nil, List.length_nil, Nat.sub_zero]
    by_cases e : l = []
    · subst e; rfl
    · have : l.length ≠ 0 := fun z => e (List.length_eq_zero_iff.mp z)
      rw [if_neg (by simpa using this)]
      show (⟨(S l).cps.extract l.length l.length⟩ : Str) = S []
      simp [S]
  · obtain ⟨i1, d, r, i2, i3⟩ := takeWhile_short h
    refine ⟨fun e => absurd e ?_, fun q => absurd (fun c hc => (hpc c).mpr (q c hc)) h⟩
    rw [i2]
    have hr : ¬ ∀ c ∈ (d :: r).reverse, p c = true := fun q => by have := q d (by simp); rw [i3] at this; cases this
    have j1 := (takeWhile_short hr).1
    have hlen : (d :: r).length = l.length - (l.takeWhile p).length := by rw [← i2, List.length_drop]
    rw [List.length_reverse] at j1
    by_cases same : ((l.takeWhile p).length == 0 && l.length - ((d :: r).reverse.takeWhile p).length == l.length) = true
    · rw [if_pos same]
      intro e
      have := S_empty.mp e
      subst this
      exact absurd i1 (by simp)
    · rw [if_neg same]
      intro e
      have e2 : ((S l).cps.extract (l.takeWhile p).length (l.length - ((d :: r).reverse.takeWhile p).length)).size = 0 := by
        have : (Builtin.Str.strSub (S l) (l.takeWhile p).length (l.length - ((d :: r).reverse.takeWhile p).length)).cps = (S []).cps := by rw [e]
        rw [show (S l).cps.extract (l.takeWhile p).length (l.length - ((d :: r).reverse.takeWhile p).length) = (S []).cps from this]; rfl
      rw [Array.size_extract] at e2
      have e3 : (S l).cps.size = l.length := by simp [S]
      rw [e3] at e2
      omega
theorem strip_eq {l sg : List Nat} : decide (Txt.stripChars (S l) (S sg) = S []) = decide (∀ c ∈ l, c ∈ sg) := decide_eq_decide.mpr strip_nil
def az : List Nat := (List.range 26).map (· + 97)
theorem az_mem {c : Nat} : c ∈ az ↔ 97 ≤ c ∧ c ≤ 122 := by
  unfold az
  rw [List.mem_map]
  constructor
  · rintro ⟨i, hi, rfl⟩
    have := List.mem_range.mp hi
    omega
  · rintro ⟨h1, h2⟩
    exact ⟨c - 97, List.mem_range.mpr (by omega), by omega⟩
theorem s_az : (Str.ofString "abcdefghijklmnopqrstuvwxyz") = S az := by decide +kernel
end LX
set_option maxHeartbeats 2000000
namespace LX
open PySem PySem.Spec PyProof.Rows L2 C8 SX
def outD : Expr → Scope
  | .DictComp _ _ _ s _ => s
  | _ => { kind := .function, names := [], isGenerator := false, isCoroutine := false }
end LX
set_option maxHeartbeats 2000000
namespace LX
open PySem PySem.Spec PyProof.Rows L2 C8 SX
structure Fit (k n : Nat) (d : PyData) : Prop where
  lay : d.canLay0 = true
  int : d.intsShort 13 = true
  sho : d.showable = true
  dep : d.depth ≤ k
  wei : d.weight ≤ n
theorem Fit.mono {k n k' n' : Nat} {d : PyData} (f : Fit k n d) (hk : k ≤ k') (hn : n ≤ n') : Fit k' n' d := ⟨f.lay, f.int, f.sho, Nat.le_trans f.dep hk, Nat.le_trans f.wei hn⟩
theorem Fit.text {k n : Nat} {l : List Nat} (h : ∀ c ∈ l, c < 1114112) (hn : l.length ≤ n) : Fit k n (.str (S l)) := by
  refine ⟨?_, rfl, rfl, Nat.zero_le _, by simpa [PyData.weight, S] using hn⟩
  show (S l).cps.all (· < 0x110000) = true
  rw [← Array.all_toList, List.all_eq_true]
  exact fun c hc => decide_eq_true (h c hc)
theorem Fit.non {k n : Nat} : Fit k n .none := ⟨rfl, rfl, rfl, Nat.zero_le _, Nat.zero_le _⟩
theorem Fit.bl {k n : Nat} {b : Bool} : Fit k n (.bool b) := ⟨rfl, rfl, rfl, Nat.zero_le _, Nat.zero_le _⟩
theorem Fit.all {k n : Nat} : ∀ {ds : List PyData}, (∀ d ∈ ds, Fit k n d) → PyData.canLayAll0 ds = true ∧ PyData.intsShortAll 13 ds = true ∧ PyData.showableAll ds = true ∧ PyData.depthAll ds ≤ k + 1 ∧ PyData.weightAll ds ≤ ds.length * (n + 1)
  | [], _ => ⟨rfl, rfl, rfl, Nat.zero_le _, Nat.zero_le _⟩
  | d :: ds, h => by
    obtain ⟨h1, h2, h3, h4, h5⟩ := Fit.all (ds := ds) fun x hx => h x (List.mem_cons_of_mem _ hx)
    have f := h d List.mem_cons_self
    refine ⟨?_, ?_, ?_, ?_, ?_⟩
    · show (d.canLay0 && PyData.canLayAll0 ds) = true; rw [f.lay, h1]; rfl
    · show (d.intsShort 13 && PyData.intsShortAll 13 ds) = true; rw [f.int, h2]; rfl
    · show (d.showable && PyData.showableAll ds) = true; rw [f.sho, h3]; rfl
    · have e : PyData.depthAll (d :: ds) = max d.depth (PyData.depthAll ds) ∨ PyData.depthAll (d :: ds) ≤ max (d.depth + 1) (PyData.depthAll ds) := by
        first | exact .inl rfl | exact .inr (by unfold PyData.depthAll; omega)
      have := f.dep
      rcases e with e | e
      · rw [e]; omega
      · omega
    · show d.weight + 1 + PyData.weightAll ds ≤ _
      have := f.wei
      rw [List.length_cons, Nat.add_mul]
      omega
theorem Fit.tup {k n m : Nat} {ds : List PyData} (h : ∀ d ∈ ds, Fit k n d) (hm : ds.length ≤ m) : Fit (k + 2) (m * (n + 1)) (.tuple ds) := by
  obtain ⟨h1, h2, h3, h4, h5⟩ := Fit.all h
  refine ⟨h1, h2, h3, ?_, Nat.le_trans h5 (Nat.mul_le_mul_right _ hm)⟩
  show PyData.depthAll ds + 1 ≤ _
  omega
theorem Fit.lst {k n m : Nat} {ds : List PyData} (h : ∀ d ∈ ds, Fit k n d) (hm : ds.length ≤ m) : Fit (k + 2) (m * (n + 1)) (.list ds) := by
  obtain ⟨h1, h2, h3, h4, h5⟩ := Fit.all h
  refine ⟨h1, h2, h3, ?_, Nat.le_trans h5 (Nat.mul_le_mul_right _ hm)⟩
  show PyData.depthAll ds + 1 ≤ _
  omega
theorem Fit.size {k n : Nat} {d : PyData} (f : Fit k n d) (hn : n ≤ 1000000) : d.shown.length ≤ sizeLine := by
  have h := PyData.shown_le 13 (by decide) d (PyData.leavesShort_of_canLay0 13 d f.lay f.int)
  have := f.wei
  have e : sizeLine = 16777216 := rfl
  omega
theorem Fit.shaped {k n : Nat} {d : PyData} (f : Fit k n d) (hk : k ≤ 60) (h : (∃ ds, d = .tuple ds) ∨ ∃ ds, d = .list ds) : SeqAt.shaped d = true := by
  rcases h with ⟨ds, rfl⟩ | ⟨ds, rfl⟩
  · show (PyData.canLayAll0 ds && decide (PyData.depthAll ds + 1 ≤ 64)) = true
    have h1 : PyData.canLayAll0 ds = true := f.lay
    have h2 : PyData.depthAll ds + 1 ≤ k := f.dep
    rw [h1, Bool.true_and, decide_eq_true_eq]; omega
  · show (PyData.canLayAll0 ds && decide (PyData.depthAll ds + 1 ≤ 64)) = true
    have h1 : PyData.canLayAll0 ds = true := f.lay
    have h2 : PyData.depthAll ds + 1 ≤ k := f.dep
    rw [h1, Bool.true_and, decide_eq_true_eq]; omega
section
variable {X : Cx} {j : Nat}
theorem call_reprF (gd : X.A.guards = some []) (room : Room j X.A) (K : PySem.W.Frag) (hK : X.K = K := by rfl) : CallR X (.builtin "repr") (fun xs H Q => ∃ (a : Addr) (d : PyData) (k n : Nat), xs = [.ref a] ∧ Dp K H (.ref a) d ∧ Fit k n d ∧ k ≤ 60 ∧ n ≤ 1000000 ∧ Q (.str d.shown) H) := by
  subst hK
  intro pins s σ H xs us Q I rel want
  obtain ⟨a, d, k, n, rfl, hd, f, hk, hn, q⟩ := want
  exact call_reprG gd room pins s σ H _ us Q I rel ⟨a, d, rfl, hd, f.sho, PyData.hasDict_of_canLay d f.lay, Nat.le_trans f.dep hk, f.size hn, q⟩
end
mutual
theorem Dp.same {K : PySem.W.Frag} {H H' : Hp} (s : Same H H') : ∀ {d : PyData} {v : V}, Dp K H v d → Dp K H' v d
  | .none, _, h => by cases h; exact .non
  | .bool _, _, h => by cases h; exact .bl _
  | .int _, _, h => by cases h; exact .int _
  | .str _, _, h => by cases h; exact .str _
  | .list _, _, h => by cases h with | lst q r => exact .lst (s.seq q) (DpAll.same s r)
  | .tuple _, _, h => by cases h with | tup q r => exact .tup (sm_seqT s q) (DpAll.same s r)
  | .dict _, _, h => by cases h
theorem DpAll.same {K : PySem.W.Frag} {H H' : Hp} (s : Same H H') : ∀ {ds : List PyData} {vs : List V}, DpAll K H vs ds → DpAll K H' vs ds
  | [], _, h => by cases h; exact .nil
  | _ :: _, _, h => by cases h with | cons q r => exact .cons (Dp.same s q) (DpAll.same s r)
end
theorem dpAll_get {K : PySem.W.Frag} {H : Hp} {α : Type} {f : α → V} {g : α → PyData} : ∀ {xs : List α}, (∀ x ∈ xs, Dp K H (f x) (g x)) → DpAll K H (xs.map f) (xs.map g)
  | [], _ => .nil
  | x :: xs, h => .cons (h x List.mem_cons_self) (dpAll_get fun y hy => h y (List.mem_cons_of_mem _ hy))
end LX
set_option maxHeartbeats 2000000
namespace LX
open PySem PySem.Spec PyProof.Rows L2 C8 SX
section
variable {X : Cx}
theorem pe_joinK (K : PySem.W.Frag) {o e : Expr} {to te : TE} {apos pos : Pos} (ho : PE X o to) (he : PE X e te) (hK : X.K = K := by rfl) (hs : starEach [e] X.env = [(false, eval e X.env)] := by rfl) (hbase : attributeBase o "join" X.env (eval o X.env) = eval o X.env := by rfl) (hline : (apos.endLine == pos.line) = true := by rfl) :
    PE X (.Call (.Attribute o "join" apos) [e] [] pos) (tM1 (fun x xs H Q => ∃ a p, ∃ ys : List Str, x = .str a ∧ xs = [.ref p] ∧ (SqL K H p (ys.map V.str) ∨ SqT K H p (ys.map V.str)) ∧
      (ys.map (·.length)).sum + ys.length * a.length ≤ 16777216 ∧ Q (.str (Txt.join a ys)) H) to te) := by subst hK; exact pe_join ho he hs hbase hline
end
def tJd (ts : List TE) : TE := fun σ H Q => tJs ts Str.empty σ H fun out H1 => Q (.str out) H1
theorem pe_joinedD {X : Cx} {v1 v2 : Expr} {rest : List Expr} {ts : List TE} {pos : Pos} (h : PJ X (v1 :: v2 :: rest) ts) : PE X (.JoinedStr (v1 :: v2 :: rest) pos) (tJd ts) := pe_joined h
theorem joinL_len {sep : List Nat} {m : Nat} : ∀ {ys : List (List Nat)}, (∀ y ∈ ys, y.length ≤ m) → (TL.joinL sep ys).length ≤ ys.length * (m + sep.length)
  | [], _ => by simp [TL.joinL]
  | [y], h => by
    have := h y List.mem_cons_self
    simp [TL.joinL]
    omega
  | y :: z :: ys, h => by
    have ih := joinL_len (sep := sep) (ys := z :: ys) fun x hx => h x (List.mem_cons_of_mem _ hx)
    have h1 := h y List.mem_cons_self
    have e : TL.joinL sep (y :: z :: ys) = y ++ sep ++ TL.joinL sep (z :: ys) := by simp [TL.joinL]
    rw [e, List.length_append, List.length_append, List.length_cons, Nat.add_mul]
    omega
theorem sum_lens {m : Nat} : ∀ {ys : List (List Nat)}, (∀ l ∈ ys, l.length ≤ m) → ((ys.map S).map (·.length)).sum ≤ ys.length * m
  | [], _ => by simp
  | y :: ys, h => by
    have ih := sum_lens (m := m) (ys := ys) fun l hl => h l (List.mem_cons_of_mem _ hl)
    have h0 := h y List.mem_cons_self
    simp only [List.map_cons, List.sum_cons, List.length_cons]
    rw [S_len, Nat.add_mul]
    omega
theorem joinS_ok {m n : Nat} {sep : List Nat} {ys : List (List Nat)} (h : ∀ l ∈ ys, l.length ≤ m) (hn : ys.length ≤ n) (hm : n * (m + sep.length) ≤ 16000000) : ((ys.map S).map (·.length)).sum + (ys.map S).length * (S sep).length ≤ 16777216 := by
  rw [S_len, List.length_map]
  have := sum_lens h
  have h2 : ys.length * (m + sep.length) ≤ n * (m + sep.length) := Nat.mul_le_mul_right _ hn
  rw [Nat.mul_add] at h2
  omega
end LX
set_option maxHeartbeats 2000000
namespace LX
open PySem PySem.Spec PyProof.Rows L2 C8 SX
section
variable {X : Cx} {k j : Nat} {C : Addr} {sp : Sp}
theorem met_runV {mth : Str} {pins : List (Addr × Obj)} {σ : L2.St} {H : Hp} {s : Shared} {A : Around} {a : Addr} {y : V} {u : Value} {Q : Value → Shared → Prop} (c : Met X.prog X.w X.K X.mg X.base k C mth sp []) (hr : Room k A) (hfr : A.frames = X.A.frames) (I : Inv X pins σ H s) (ry : RelV y u)
    {R : VK} (hsp : sp [.ref a, y] H R C8.E0) (hQ : ∀ v z H' s', Inv X pins σ H' s' → RelV z v → R z H' → Q v s') :
    ∃ f, PySem.W.findIn X.K (.ref C) mth = some (some (.ref f)) ∧ PySem.W.isFn X.K (.ref f) = true ∧ wpAny (model X.prog X.w) A (call (.ref f) [.ref a, u]) Q X.xe s := by
  obtain ⟨f, fd, ps, ds, hc, hm, F, hb, hd⟩ := c.ex
  refine ⟨f, hm.at_, hm.fn, ?_⟩
  have e0 : Env0 X.prog X.w X.K X.mg X.base A X.stack s H := by
    have e := I.env0
    exact ⟨by rw [hfr]; exact e.frames, e.mod, e.bs, e.bsz, e.funs, e.frf, e.hok, e.bare⟩
  have hds : ds = [] := by cases hd; rfl
  subst hds
  have hl := F.len _ _ _ _ hsp
  have r2 : Vals [V.ref a, y] [Value.ref a, u] := .cons rfl (.cons ry .nil)
  refine wpAny_call (codeAny_mono (F.run A X.stack s H ⟨[.ref a, u], []⟩ [.ref a, u] [.ref a, y] _ C8.E0 hr e0 (by
    have := hb s [.ref a, u] I.kIn (by simpa using hl)
    simpa using this) r2 hsp) fun r s' hq => ?_)
  cases r with
  | error e => exact C8.pass0 (E := C8.E0) pins σ H s e s' I hq
  | ok fl =>
    cases fl with
    | ret w =>
      obtain ⟨z, H', I', rz, q⟩ := I.after hq
      exact hQ w z H' s' I' rz q
    | next => exact False.elim hq
    | brk => exact False.elim hq
    | cont => exact False.elim hq
def rEqIV (K : PySem.W.Frag) (C : Addr) (sp : Sp) : R2 := fun x y H Q => ∃ a dx fs t, x = .ref a ∧ H a = some (.ins C dx fs) ∧ TyX K H y t ∧ PySem.W.notFirst K C t = true ∧ sp [.ref a, y] H (fun v H' => ∃ r, v = .bl r ∧ Q (.bl r) H') C8.E0
theorem op_eqIV (c : Met X.prog X.w X.K X.mg X.base k C "__eq__" sp []) (hr : Room j X.A) (hk : k ≤ j) : OpR X (compareOp .Eq) (rEqIV X.K C sp) := by
  intro pins s σ H x y v u Q I rx ry h
  obtain ⟨a, dx, fs, t, rfl, ha, hty, hnf, hsp⟩ := h
  cases rx
  obtain ⟨mA, J, _⟩ := ins_get I.hok ha
  obtain ⟨od, J, _⟩ := J.look
  obtain ⟨m, hF⟩ := I.fr
  obtain ⟨P, kx, hP, _⟩ := kit_of I ry hty
  obtain ⟨f, hs, hf, hw⟩ := met_runV (Q := PySem.W.CmpBack (EP X pins σ Q)) c (hr.mono hk) rfl I ry hsp (fun v z H' s' I' rz q => by
    obtain ⟨r, rfl, q⟩ := q
    cases rz
    exact ⟨.bl r, H', I', rfl, q⟩)
  exact PySem.W.cmp_K (op := .Eq) (tb := t) hr.units0 hF I.ok.mod.kin J (kx.ty _ _ I.kIn hP) hnf hs hf hw
theorem op_eqDK (K : PySem.W.Frag) (hr : Room j X.A) (h : X.K = K := by rfl) : OpR X (compareOp .Eq) (rEqD K) := by subst h; exact op_eqD hr.units
theorem op_neDK (K : PySem.W.Frag) (hr : Room j X.A) (h : X.K = K := by rfl) : OpR X (compareOp .NotEq) (rNeD K) := by subst h; exact op_neD hr.units
end
def tD (xs : List (List Nat)) : PyData := .tuple (xs.map fun l => .str (S l))
def ttD (xss : List (List (List Nat))) : PyData := .tuple (xss.map tD)
theorem dp_t {K : PySem.W.Frag} {H : Hp} {a : Addr} {xs : List (List Nat)} (h : SqT K H a (txs xs)) : Dp K H (.ref a) (tD xs) := .tup h (dp_strs xs)
theorem eqv_t (xs ys : List (List Nat)) : PyData.eqv (tD xs) (tD ys) = decide (xs = ys) := eqv_strs xs ys
theorem eqv_tts : ∀ xss yss : List (List (List Nat)), PyData.eqvAll (xss.map tD) (yss.map tD) = decide (xss = yss)
  | [], [] => rfl
  | [], _ :: _ => rfl
  | _ :: _, [] => rfl
  | x :: xs, y :: ys => by
    show (PyData.eqv (tD x) (tD y) && PyData.eqvAll (xs.map tD) (ys.map tD)) = _
    rw [eqv_t, eqv_tts xs ys, ← Bool.decide_and]
    exact decide_eq_decide.mpr (by rw [List.cons.injEq])
theorem eqv_tt (xss yss : List (List (List Nat))) : PyData.eqv (ttD xss) (ttD yss) = decide (xss = yss) := eqv_tts xss yss
theorem fit_t {m n : Nat} {xs : List (List Nat)} (hs : Small xs) (hl : ∀ l ∈ xs, l.length ≤ n) (hm : xs.length ≤ m) : Fit 2 (m * (n + 1)) (tD xs) :=
  Fit.tup (k := 0) (n := n) (fun d hd => by obtain ⟨l, hl', rfl⟩ := List.mem_map.mp hd; exact Fit.text (hs l hl') (hl l hl')) (by rw [List.length_map]; exact hm)
theorem fit_tt {m n p : Nat} {xss : List (List (List Nat))} (h : ∀ xs ∈ xss, Small xs ∧ (∀ l ∈ xs, l.length ≤ n) ∧ xs.length ≤ m) (hp : xss.length ≤ p) : Fit 4 (p * (m * (n + 1) + 1)) (ttD xss) :=
  Fit.tup (k := 2) (fun d hd => by obtain ⟨xs, hx, rfl⟩ := List.mem_map.mp hd; obtain ⟨h1, h2, h3⟩ := h xs hx; exact fit_t h1 h2 h3) (by rw [List.length_map]; exact hp)
end LX
set_option maxHeartbeats 1000000
namespace LX
open PySem PySem.Spec PyProof.Rows L2 C8 SX
section
variable {X : Cx} {K : PySem.W.Frag} {H : Hp}
def inz (xs : List Int) : List V := xs.map V.int
theorem inz_len (xs : List Int) : (inz xs).length = xs.length := List.length_map ..
theorem dp_inz : ∀ xs : List Int, DpAll K H (inz xs) (xs.map PyData.int)
  | [] => .nil
  | x :: xs => .cons (.int _) (dp_inz xs)
theorem lay_inz : ∀ xs : List Int, PyData.canLayAll0 (xs.map PyData.int) = true ∧ PyData.depthAll (xs.map PyData.int) ≤ 1
  | [] => ⟨rfl, Nat.zero_le _⟩
  | x :: xs => by
    obtain ⟨h1, h2⟩ := lay_inz xs
    refine ⟨?_, ?_⟩
    · show (PyData.canLay0 (.int x) && PyData.canLayAll0 (xs.map PyData.int)) = true
      rw [h1, Bool.and_true]; rfl
    · show max (PyData.depth (.int x)) (PyData.depthAll (xs.map PyData.int)) ≤ 1
      have e : PyData.depth (.int x) ≤ 1 := Nat.zero_le _
      omega
theorem shaped_inz (xs : List Int) : SeqAt.shaped (.list (xs.map PyData.int)) = true := by
  obtain ⟨h1, h2⟩ := lay_inz xs
  show (PyData.canLayAll0 _ && decide (PyData.depthAll _ + 1 ≤ 64)) = true
  rw [h1, Bool.true_and, decide_eq_true_eq]; omega
def rNeE : R2 := fun x y H Q => ∃ (a b : Addr) (xs : List Int), x = .ref a ∧ y = .ref b ∧ H a = some (.lst (inz xs)) ∧ H b = some (.lst []) ∧ Q (.bl (!xs.isEmpty)) H
theorem op_neE {k : Nat} (hr : Room k X.A) : OpR X (compareOp .NotEq) rNeE := by
  intro pins s σ H x y v u Q I rx ry h
  obtain ⟨a, b, xs, rfl, rfl, ha, hb, q⟩ := h
  refine op_neD hr.units pins s σ H _ _ v u Q I rx ry ⟨_, _, .lst (SqL.of ha) (dp_inz xs), .lst (SqL.of hb) .nil, shaped_inz xs, shaped_inz [], ?_⟩
  cases xs with
  | nil => exact q
  | cons x xs => exact q
theorem at_last {xs : List V} {v : V} (h : 0 < xs.length) (e : xs[xs.length - 1]? = some v) : atI xs (-1) = some v := by
  have : ixN xs.length (-1) = some (xs.length - 1) := by
    unfold ixN
    rw [if_neg (by decide), if_pos (by omega)]
    congr 1; omega
  unfold atI
  rw [this]; exact e
def SeqV (K : PySem.W.Frag) (H : Hp) (x : V) (ys : List V) : Prop :=
  (∃ p, x = .ref p ∧ (SqL K H p ys ∨ SqT K H p ys)) ∨ ∃ l : List Nat, x = .str (S l) ∧ l.length ≤ sizeLine ∧ ys = l.map fun c => V.str (S [c])
def rLenA (K : PySem.W.Frag) : List V → Hp → VK → Prop := fun xs H Q => ∃ x ys, xs = [x] ∧ SeqV K H x ys ∧ Q (.int ys.length) H
theorem lenA (K : PySem.W.Frag) (h : X.K = K := by rfl) : CallR X (.builtin "len") (rLenA K) := by
  subst h
  intro pins s σ H xs us Q I r q
  obtain ⟨x, ys, rfl, hh, q⟩ := q
  rcases hh with ⟨p, rfl, hp⟩ | ⟨l, rfl, hl, rfl⟩
  · exact lenK X.K rfl pins s σ H _ us Q I r ⟨p, ys, rfl, hp, q⟩
  · refine call_len_str pins s σ H _ us Q I r ⟨S l, rfl, by rw [S_len]; exact hl, ?_⟩
    rw [S_len]
    rw [List.length_map] at q
    exact q
def rIxA (K : PySem.W.Frag) : R2 := fun x y H Q => ∃ ys i v, y = .int i ∧ SeqV K H x ys ∧ atI ys i = some v ∧ Q v H
theorem ixA (K : PySem.W.Frag) (h : X.K = K := by rfl) : IxR X (rIxA K) := by
  subst h
  intro value slice pins s σ H x y v u Q I rx ry q hs
  obtain ⟨ys, i, w, rfl, hh, ha, q⟩ := q
  refine ix_seq value slice pins s σ H x (.int i) v u Q I rx ry ?_ hs
  rcases hh with ⟨p, rfl, hp | hp⟩ | ⟨l, rfl, hl, rfl⟩
  · exact .inl ⟨p, ys, i, w, rfl, rfl, hp, ha, q⟩
  · exact .inr (.inl ⟨p, ys, i, w, rfl, rfl, hp, ha, q⟩)
  · have e : ∀ j, (l.map fun c => V.str (S [c]))[j]? = (l[j]?).map fun c => V.str (S [c]) := fun j => List.getElem?_map ..
    have e2 : atI l i = none ∧ w = w ∨ ∃ c, atI l i = some c ∧ w = .str (S [c]) := by
      unfold atI at ha ⊢
      rw [List.length_map] at ha
      cases hx : ixN l.length i with
      | none => rw [hx] at ha; cases ha
      | some j =>
        rw [hx] at ha
        have ha : (l.map fun c => V.str (S [c]))[j]? = some w := ha
        rw [e] at ha
        cases hc : l[j]? with
        | none => rw [hc] at ha; cases ha
        | some c => rw [hc] at ha; exact .inr ⟨c, hc, (Option.some.inj ha).symm⟩
    rcases e2 with ⟨e3, _⟩ | ⟨c, e3, rfl⟩
    · exfalso
      unfold atI at ha e3
      rw [List.length_map] at ha
      cases hx : ixN l.length i with
      | none => rw [hx] at ha; cases ha
      | some j =>
        rw [hx] at ha e3
        have ha : (l.map fun c => V.str (S [c]))[j]? = some w := ha
        have e3 : l[j]? = none := e3
        rw [e, e3] at ha; cases ha
    · exact .inr (.inr ⟨S l, i, c, rfl, rfl, by rw [S_len]; exact hl, e3, q⟩)
theorem le1000 {n : Nat} (h : n ≤ 1000) : n ≤ sizeLine := Nat.le_trans h (by decide)
theorem inz_get {cs : List Int} {i : Nat} {x : V} (h : (inz cs)[i]? = some x) : ∃ z, cs[i]? = some z ∧ x = .int z := by
  unfold inz at h
  rw [List.getElem?_map] at h
  cases q : cs[i]? with
  | none => rw [q] at h; cases h
  | some l => rw [q] at h; exact ⟨l, rfl, (Option.some.inj h).symm⟩
theorem inz_of : ∀ {ys : List V}, (∀ (j : Nat) y, ys[j]? = some y → ∃ z : Int, y = .int z) → ∃ cs : List Int, ys = inz cs
  | [], _ => ⟨[], rfl⟩
  | y :: ys, h => by
    obtain ⟨z, rfl⟩ := h 0 y rfl
    obtain ⟨cs, rfl⟩ := inz_of (ys := ys) fun j z q => h (j + 1) z q
    exact ⟨z :: cs, rfl⟩
theorem nxt {D : Ends} {σ : L2.St} {H : Hp} (h : D.nx σ H) : tNext D σ H := h
end
end LX
set_option maxHeartbeats 4000000
namespace EV
open PySem PySem.HandSPX
open Builtin Builtin.ObjectAttr
section
variable {M : Model} {A : Around} {E : Value → Shared → Prop} {h : Heap} {g : Array GenState} {d : Drawn} {t : Nat} {os : OsState}
variable {nm q : Str} {C N : Addr} {bs bm bmB : List Value} {hdct : Bool} {sn : List Str} {sub : List Value} {ab : Bool} {col : Option Bool} {dd : Option Addr} {k0 k1 k2 k3 k5 : Option Value} {B newId initId : String}
theorem check_new_kw (F : ExcBaseFacts B newId initId bmB) (hB : bm.contains (.type B) = true) {rest : List Value} {kw : List (Str × Value)} {Q : Unit → Shared → Prop}
    (hC : h.get? C = some (excClassObj nm q C N bs bm hdct sn sub ab col dd k0 k1 k2 k3 k5 newId)) (hq : Q () ⟨h, g, d, t, os⟩) : wpAny M A (checkBuiltinCall newId ⟨.ref C :: rest, kw⟩) Q E ⟨h, g, d, t, os⟩ := by
  have hcont : (Value.ref C :: bm).contains (.type B) = true := by rw [List.contains_cons, hB, Bool.or_true]
  have hstar := F.noStar
  simp only [checkBuiltinCall, F.newKind, F.newSplit, F.newRow]
  repeat (first | refine wpAny_loadPart_at hC ?_ | (refine wpAny_isSubtype_exc hC ?_; rw [hcont]) | refine wpAny_staticBase_exc hC ?_ | refine wpAny_madeBy_exc hC ?_ | simp only [bne_self_eq_false, Bool.false_eq_true, if_false] | wp_step)
  exact hq
end
section
variable {prog : Program} {w : World} {A : Around} {E : Value → Shared → Prop} {R : Result → Shared → Prop} {h : Heap} {g : Array GenState} {d : Drawn} {t : Nat} {os : OsState}
variable {nm q : Str} {C N : Addr} {bs bm bmB : List Value} {hdct : Bool} {sn : List Str} {sub : List Value} {ab : Bool} {col : Option Bool} {dd : Option Addr} {k0 k1 k2 k3 k5 : Option Value} {B newId initId : String}
theorem new_kw (F : ExcBaseFacts B newId initId bmB) (hB : bm.contains (.type B) = true) (hA : bm.contains (.type "AttributeError") = false) (hN : bm.contains (.type "NameError") = false) {rest : List Value} {kw : List (Str × Value)}
    (hC : h.get? C = some (excClassObj nm q C N bs bm hdct sn sub ab col dd k0 k1 k2 k3 k5 newId))
    (hq : R (.ok (.ret (.ref (h.objs.size + 1)))) ⟨(h.push { cls := .type "tuple", data := .seq rest.toArray }).push
      { cls := .ref C, data := .fields #[.ref h.objs.size, .none, .none, .none, .bool false, .none] }, g, d, t, os⟩) (hrest : rest.length ≤ sizeLine) :
    codeAny (model prog w) A (.builtin newId ⟨.ref C :: rest, kw⟩) R ⟨h, g, d, t, os⟩ := by
  have hends := F.ends
  have hcB : (Value.ref C :: bm).contains (.type B) = true := by rw [List.contains_cons, hB, Bool.or_true]
  have hcA : (Value.ref C :: bm).contains (.type "AttributeError") = false := by rw [List.contains_cons, hA]; rfl
  have hcN : (Value.ref C :: bm).contains (.type "NameError") = false := by rw [List.contains_cons, hN]; rfl
  refine codeAny_builtinAt F.entry ?_
  unfold Builtin.«BaseException.__new__»
  refine wpAt_bind ?_
  show wpAt _ _ _ (stack >>= _) _ _ _
  refine wpAt_bind (wpAt_stack fun p below => wpAt_of_wpAny ?_)
  wp_walk
  refine wpAt_of_wpAny ?_
  rw [F.owner]
  repeat (first | with_reducible refine wpAny_madeHere_exc F.canon hC ?_ | with_reducible refine wpAny_loadPart_at hC ?_ | (with_reducible refine wpAny_isSubtype_exc hC ?_; first | rw [hcB] | rw [hcA] | rw [hcN]) | wp_step)
  show R _ _
  rw [Heap.size_push]
  exact hq
theorem type_call_kw (F : ExcBaseFacts B newId initId bmB) (hB : bm.contains (.type B) = true) (hA : bm.contains (.type "AttributeError") = false) (hN : bm.contains (.type "NameError") = false) {rest : List Value} {kw : List (Str × Value)} {fI : Addr} {Q : Fin → Shared → Prop}
    (hC : h.get? C = some (excClassObj nm q C N bs bm hdct sn sub ab col dd k0 k1 k2 k3 k5 newId))
    (hi : W.Looks (model prog w) h (typeLookup (.ref C) "__init__") (some (.ref fI))) (hb : ∀ self, W.Looks (model prog w) h (bindSpecial (.ref fI) self) (.ref fI, [self])) (hrest : rest.length ≤ sizeLine)
    (hq : codeAny (model prog w) A (.call (.ref fI) ⟨.ref (h.objs.size + 1) :: rest, kw⟩)
      (fun r s' => match r with | .ok (.ret v) => v = .none ∧ Q (.done (.ret (.ref (h.objs.size + 1)))) s' | .ok _ => False | .error e => E e s')
      ⟨(h.push (W.kdv_tup rest)).push (excO C h.objs.size), g, d, t, os⟩) :
    wpAny (model prog w) A (Builtin.«type.__call__» ⟨.ref C :: rest, kw⟩) Q E ⟨h, g, d, t, os⟩ := by
  repeat (first | with_reducible refine wpAny_loadPart_at hC ?_ | with_reducible refine wpAny_madeBy_exc hC ?_ | wp_step)
  refine codeAny_call_builtin_code (Code.quiet_builtin _ F.quiet) (check_new_kw F hB hC ?_)
  refine new_kw F hB hA hN hC ?_ hrest
  show wpAny _ _ _ _ _ _
  have k : ∀ b o, h.get? b = some o → ((h.push (W.kdv_tup rest)).push (excO C h.objs.size)).get? b = some o := fun b o e => Heap.get?_push_of_some _ (Heap.get?_push_of_some _ e)
  have hC₁ := k _ _ hC
  have hget : ((h.push (W.kdv_tup rest)).push (excO C h.objs.size)).get? (h.objs.size + 1) = some (excO C h.objs.size) := by heap_get
  have hcC : (Value.ref C :: bm).contains (.ref C) = true := by simp
  have i1 := hi.keeps k
  have b1 := (hb (.ref (h.objs.size + 1))).keeps k
  unfold isInstance
  repeat (first | with_reducible refine wpAny_loadPart_at hget ?_ | (with_reducible refine wpAny_isSubtype_exc hC₁ ?_; rw [hcC]) | wp_step)
  show wpAny _ _ (typeLookup (.ref C) _) _ _ _
  refine i1.at ?_
  refine wpAny_holding (wpAny_bind (b1.at ?_))
  refine wpAny_bind (wpAny_call (codeAny_mono hq fun r s' z => ?_))
  rcases r with e | (v | _ | _ | _) <;> first | exact z | exact z.elim | skip
  obtain ⟨rfl, z⟩ := z
  first
    | exact wpAny_pure (wpAny_pure z)
    | (wp_walk; exact z)
theorem call_kw (F : ExcBaseFacts B newId initId bmB) (hB : bm.contains (.type B) = true) (hA : bm.contains (.type "AttributeError") = false) (hN : bm.contains (.type "NameError") = false) {rest : List Value} {kw : List (Str × Value)} {fI : Addr}
    (hC : h.get? C = some (excClassObj nm q C N bs bm hdct sn sub ab col dd k0 k1 k2 k3 k5 newId))
    (hi : W.Looks (model prog w) h (typeLookup (.ref C) "__init__") (some (.ref fI))) (hb : ∀ self, W.Looks (model prog w) h (bindSpecial (.ref fI) self) (.ref fI, [self])) (hrest : rest.length ≤ sizeLine)
    (hq : codeAny (model prog w) (A.under (.builtin "type.__call__" ⟨.ref C :: rest, kw⟩)) (.call (.ref fI) ⟨.ref (h.objs.size + 1) :: rest, kw⟩) (W.InitBack (h.objs.size + 1) R)
      ⟨(h.push (W.kdv_tup rest)).push (excO C h.objs.size), g, d, t, os⟩) :
    codeAny (model prog w) A (.call (.ref C) ⟨rest, kw⟩) R ⟨h, g, d, t, os⟩ := by
  have f1 := tc_lookup
  have f2 := tc_bind (.ref C)
  have hTy : (⟨h, g, d, t, os⟩ : Shared).TypeIs (.ref C) "type" := ⟨_, hC, rfl⟩
  refine codeAny_of_tree ?_
  show wpAny _ _ (callAny (.ref C) _) _ _ _
  repeat (any_goals (first | assumption | with_reducible refine wpAny_loadPart_at hC ?_ | wp_step))
  refine ⟨rfl, ?_⟩
  refine codeAny_call_builtin_at (Code.quiet_builtin _ (by decide +kernel)) entry_typeCall (wpAny_check_type_call_sub hC (type_call_kw F hB hA hN hC hi hb hrest ?_))
  refine codeAny_mono hq fun r s' z => ?_
  rcases r with e | (v | _ | _ | _) <;> exact z
end
section
variable {prog : Program} {w : World} {A : Around} {E : Value → Shared → Prop} {R : Result → Shared → Prop} {hp : Heap} {g : Array GenState} {d : Drawn} {t : Nat} {os : OsState}
theorem exc_osaG {K : W.Frag} {name : Str} {tk : Tok} {v : Value} {x C : Addr} {fv : Array Value} {cd : ClassData}
    (X : K.In hp) (hx : hp.get? x = some { cls := .ref C, data := .fields fv }) (hcd : W.clsIn K C = some cd) (hm : ∀ self, refuseLoop self "__setattr__" cd.mro = pure ()) (ne : cd.mro.isEmpty = false) (hob : cd.mro.contains (.type "object") = true) (hh : cd.hasDict = true) (ha : W.findIn K (.ref C) name = some none)
    (hq : ∀ h' tk' dx, (∀ b o, b ≠ x → hp.get? b = some o → h'.get? b = some o) → hp.objs.size ≤ dx → dx ≠ x → h'.get? x = some { cls := .ref C, dict := some dx, data := .fields fv } →
      h'.Ns1 dx (fun y => if y = name then some v else none) → R (.ok (.ret .none)) ⟨h', g, d, tk', os⟩) :
    codeAny (model prog w) A (.call (.builtin "object.__setattr__") ⟨[.ref x, .str name tk, v], []⟩) R ⟨hp, g, d, t, os⟩ := by
  have I : W.InstAt hp x { cls := .ref C, data := .fields fv } C none := ⟨hx, rfl, rfl, trivial⟩
  have SF := F.store_object
  have hxs : x ≠ hp.objs.size := Nat.ne_of_lt (Heap.lt_size hx)
  have sub : W.Looks (model prog w) hp (isInstance (.ref x) (.type "object")) true := I.type.andThen (W.looks_mroIn X (by unfold W.mroIn; rw [hcd, Option.bind_some, if_neg (by rw [ne]; decide), hob]))
  refine codeAny_call_builtin SF.slot.plain SF.entry (@W.check_slot (model prog w) _ _ ⟨hp, g, d, t, os⟩ "object.__setattr__" "object" "__setattr__" (.ref x) [.str name tk, v] [] _ SF.kind SF.split sub (SF.args (.ref x) (.str name tk) v) ?_)
  have hmr : W.Looks (model prog w) hp (mroOf (.ref C)) cd.mro := (W.looks_clsIn X hcd).andThen .now
  have L3 : W.Looks (model prog w) hp (storeTaker? none) none := .now
  have hcls : W.Looks (model prog w) hp (classData C) cd := W.looks_clsIn X hcd
  rw [W.osa_eq, refuse_eq]
  refine wpAny_bind (wpAny_bind (I.type.at (wpAny_bind (hmr.at ?_))))
  rw [hm]
  refine wpAny_pure (wpAny_bind (I.type.at (wpAny_bind ((W.looks_findIn X ha).at (wpAny_bind (L3.at ?_))))))
  show wpAny _ _ (storeInOwnDict (.ref x) (.ref C) (.str name tk) name v false) _ _ _
  obtain ⟨nm, bs, mro, ns, qn, hd, sn, sb, ab, col, del⟩ := cd
  dsimp only at hh
  subst hh
  unfold storeInOwnDict ownDictForStores
  repeat (first | with_reducible refine store_in_new ?_ ?_ | with_reducible refine wpAny_loadPart_at hx ?_ | with_reducible refine hcls.at ?_ | wp_step)
  · exact ⟨_, #[], _, (Heap.get?_update_ne _ _ _ _ hxs.symm).trans (Heap.get?_push_at rfl rfl), rfl, fun e he => absurd he (by simp), fun _ => rfl⟩
  · intro h' tk' hn' hs
    have hx₁ : (hp.push { cls := .type "dict", data := .dict #[] }).get? x = some { cls := .ref C, data := .fields fv } := Heap.get?_push_of_some _ hx
    refine hq h' tk' hp.objs.size (fun b o hb ho => ?_) (Nat.le_refl _) hxs.symm ?_ hn'
    · exact (hs.2 b (Nat.ne_of_lt (Heap.lt_size ho))).trans ((Heap.get?_update_ne _ _ _ _ hb).trans (Heap.get?_push_of_some _ ho))
    · exact (hs.2 x hxs).trans (Heap.get?_update_self _ hx₁ rfl)
end
end EV
namespace EV
open PySem PySem.W PySem.Calls PyProof.Rows PySem.HandSPX
section
variable {prog : Program} {w : World} {A : Around} {E : Value → Shared → Prop} {s : Shared} {K : Frag} {x D : Addr} {ox : Obj} {od : Option Obj}
theorem findObj_dataD {C : Addr} {name : Str} {a g : Value} (hc : (clsIn K C).isSome = true) (ha : findIn K (.ref C) name = some (some a)) (hg : specialIn K a "__get__" = some (some g)) (ht : takesIn K a = some true) : findObj K C od name = some (.bind g a) := by
  obtain ⟨cd, hc⟩ := Option.isSome_iff_exists.mp hc
  unfold findObj
  rw [hc, Option.bind_some, ha, Option.bind_some]
  cases od <;> simp [hg, ht]
theorem kin_classD {Q : Option Value → Shared → Prop} (hga : findIn K (.ref D) "__getattribute__" = some (some (.builtin "BaseException.__getattribute__"))) (hgt : findIn K (.ref D) "__getattr__" = some none) (hsub : subIn K (.ref D) (.type "BaseException") = some true)
    (hdct : hasDictIn K D = true) (ha : findIn K (.ref D) "__class__" = some (some (.builtin "object.__class__")))
    (hn : specialIn K (.builtin "object.__class__") "__get__" = some (some (.builtin "getset_descriptor.__get__"))) (htk : takesIn K (.builtin "object.__class__") = some true) (hm : mroIn K D (.type "object") = some true)
    (X : K.In s.heap) (I : InstAt s.heap x ox D od) (h : Q (some (.ref D)) { s with toks := s.toks + 1 }) : wpAny (model prog w) A (getAttr? (.ref x) "__class__") Q E s := by
  have hf : findObj K D od "__class__" = some (.bind (.builtin "getset_descriptor.__get__") (.builtin "object.__class__")) := findObj_dataD (by obtain ⟨cd, hc, _⟩ := any_some hdct; rw [hc]; rfl) ha hn htk
  obtain ⟨hp, g, d, t, os⟩ := s
  have L0 := I.type (M := model prog w)
  have L1 := looks_findIn (M := model prog w) X hga
  have L2 := looks_findIn (M := model prog w) X hgt
  have L3 := looks_find (M := model prog w) X I hf
  have sub : Looks (model prog w) hp (isInstance (.ref x) (.type "BaseException")) true := L0.andThen (looks_subIn X hsub)
  have hx0 : (false && onTheHeap (Value.builtin "BaseException.__getattribute__")) = false := rfl
  have hx2 : (Value.builtin "BaseException.__getattribute__" == Value.builtin "object.__getattribute__") = false := by decide +kernel
  have hx1 : (onTheHeap (Value.ref D) && Value.builtin "BaseException.__getattribute__" == Value.builtin "object.__getattribute__") = false := by rw [hx2]; rfl
  unfold getAttr? getAttrBy? getAttrBy
  refine wpAny_bind (wpAny_mkText (wpAny_bind (wpAny_attempt (wpAny_holding (wpAny_bind (L0.at (wpAny_bind (L1.at ?_))))))))
  show wpAny _ _ (if (onTheHeap (Value.ref D) && Value.builtin "BaseException.__getattribute__" == Value.builtin "object.__getattribute__") = true then _ else _) _ _ _
  rw [hx1, if_neg Bool.false_ne_true]
  unfold getAttrByItsOwn hookBefore
  refine wpAny_bind ?_
  rw [if_pos (show onTheHeap (Value.ref D) = true from rfl)]
  refine L2.at ?_
  refine wpAny_bind (wpAny_attempt (wpAny_holding ?_))
  unfold callGetattribute
  rw [hx0, if_neg Bool.false_ne_true]
  unfold boundAndCalled
  rw [PySem.F.excAttr_ValueError.ga.bind (.ref x)]
  refine wpAny_bind (wpAny_pure ?_)
  show wpAny _ _ (call (.builtin "BaseException.__getattribute__") [.ref x, .str "__class__" t]) _ _ _
  refine wpAny_call (codeAny_call_builtin PySem.F.excAttr_ValueError.ga.plain PySem.F.entry_bexc_ga ?_)
  refine @check_slot (model prog w) _ _ ⟨hp, g, d, t + 1, os⟩ "BaseException.__getattribute__" "BaseException" "__getattribute__" (.ref x) [.str "__class__" t] [] _ (by decide +kernel) (by decide +kernel) sub (PySem.F.args_bexc_ga (.ref x) (.str "__class__" t)) ?_
  unfold Builtin.«object.__getattribute__»
  refine wpAny_bind (wpAny_of_eq (a := ((Value.ref x : Value), [Value.str "__class__" t])) (by first | rfl | (simp only [slotArgs]; rfl)) ?_)
  refine wpAny_bind (wpAny_pure (wpAny_bind (L0.at (wpAny_bind (L3.at ?_)))))
  show wpAny _ _ (holding [Value.builtin "object.__class__"] (call (.builtin "getset_descriptor.__get__") [.builtin "object.__class__", .ref x, .ref D]) >>= ret) _ _ _
  refine wpAny_bind (wpAny_holding (wpAny_call (class_get (s := ⟨hp, g, d, t + 1, os⟩) (ox := ox) (od := od) X I hm ?_)))
  refine wpAny_pure ?_
  show wpAny _ _ (handedOut (.ref D)) _ _ _
  rw [handedOut_of (v := .ref D) rfl]
  first
    | exact wpAny_pure (wpAny_pure h)
    | exact wpAny_pure h
    | exact wpAny_pure (wpAny_bind (wpAny_pure (wpAny_pure h)))
theorem kitx_excD (hga : findIn K (.ref D) "__getattribute__" = some (some (.builtin "BaseException.__getattribute__"))) (hgt : findIn K (.ref D) "__getattr__" = some none) (hsub : subIn K (.ref D) (.type "BaseException") = some true) (hdct : hasDictIn K D = true) (ha : findIn K (.ref D) "__class__" = some (some (.builtin "object.__class__")))
    (hn : specialIn K (.builtin "object.__class__") "__get__" = some (some (.builtin "getset_descriptor.__get__"))) (htk : takesIn K (.builtin "object.__class__") = some true) (hm : mroIn K D (.type "object") = some true) :
    KitX K (.ref x) (.ref D) (fun h => InstAt h x ox D od) where
  ty := fun _ _ _ I => I.type
  it := fun _ _ X _ => by
    obtain ⟨cdD, hcD, _⟩ := any_some hdct
    unfold clsIn at hcD
    split at hcD
    · rename_i c' d' cd' sl' ho
      intro A' Q' E' s' k q
      unfold isType loadHead
      exact wpAny_bind (wpAny_loadPart (k _ _ (X _ _ ho)) (wpAny_pure q))
    · cases hcD
  ne := fun h tp dd its n sl X htp => by
    obtain ⟨cdD, hcD, _⟩ := any_some hdct
    refine Bool.eq_false_iff.mpr fun q => ?_
    have e : D = tp := Value.ref.inj (beq_iff_eq.mp q)
    subst e
    unfold clsIn at hcD
    split at hcD
    · rename_i c' d' cd' sl' ho
      have z := (X _ _ ho).symm.trans htp
      cases z
    · cases hcD
  ca := fun X I k => kin_classD hga hgt hsub hdct ha hn htk hm X I k
end
end EV
set_option maxHeartbeats 4000000
namespace LX
open PySem PySem.Spec PyProof.Rows L2 C8 SX
structure XC (K : PySem.W.Frag) (C : Addr) : Prop where
  obj : ∃ (tail bmF : List Value) (B newId initId : String), ExcBaseFacts B newId initId bmF ∧ PySem.W.excInitIn K C tail newId = true ∧ tail.contains (.type B) = true ∧ tail.contains (.type "AttributeError") = false ∧ tail.contains (.type "NameError") = false ∧
    tail.contains (.type "object") = true ∧ ∀ self, PySem.refuseLoop self "__setattr__" tail = pure ()
  hd : PySem.W.hasDictIn K C = true
  sa : PySem.W.findIn K (.ref C) "__setattr__" = some (some (.builtin "object.__setattr__"))
  ga : PySem.W.findIn K (.ref C) "__getattribute__" = some (some (.builtin "BaseException.__getattribute__"))
  gg : PySem.W.findIn K (.ref C) "__getattr__" = some none
  exC : PySem.W.subIn K (.ref C) (.type "BaseException") = some true
  tyC : PySem.W.typeIn K (.ref C) = some (.type "type")
  kC : PySem.W.keepIn K (.ref C) = true
  ha : PySem.W.findIn K (.ref C) "__class__" = some (some (.builtin "object.__class__"))
  hn : PySem.W.specialIn K (.builtin "object.__class__") "__get__" = some (some (.builtin "getset_descriptor.__get__"))
  ht : PySem.W.takesIn K (.builtin "object.__class__") = some true
  hm : PySem.W.mroIn K C (.type "object") = some true
def veT : List Value := [.type "ValueError", .type "Exception", .type "BaseException", .type "object"]
def keT : List Value := [.type "KeyError", .type "LookupError", .type "Exception", .type "BaseException", .type "object"]
theorem veT_pass (self : Value) : PySem.refuseLoop self "__setattr__" veT = pure () := HandSPX.refsVE_pass self veT (by decide +kernel)
theorem keT_pass (self : Value) : PySem.refuseLoop self "__setattr__" keT = pure () := by kernel_rfl
theorem XC.ve {K : PySem.W.Frag} {C : Addr} (q : PySem.W.excInitIn K C veT "ValueError.__new__" = true) (hd : PySem.W.hasDictIn K C = true) (sa : PySem.W.findIn K (.ref C) "__setattr__" = some (some (.builtin "object.__setattr__")))
    (ga : PySem.W.findIn K (.ref C) "__getattribute__" = some (some (.builtin "BaseException.__getattribute__"))) (gg : PySem.W.findIn K (.ref C) "__getattr__" = some none) (exC : PySem.W.subIn K (.ref C) (.type "BaseException") = some true) (tyC : PySem.W.typeIn K (.ref C) = some (.type "type"))
    (kC : PySem.W.keepIn K (.ref C) = true) (ha : PySem.W.findIn K (.ref C) "__class__" = some (some (.builtin "object.__class__"))) (hn : PySem.W.specialIn K (.builtin "object.__class__") "__get__" = some (some (.builtin "getset_descriptor.__get__"))) (ht : PySem.W.takesIn K (.builtin "object.__class__") = some true)
    (hm : PySem.W.mroIn K C (.type "object") = some true) : XC K C :=
  ⟨⟨veT, _, _, _, _, PySem.F.excBase_ValueError, q, by decide +kernel, by decide +kernel, by decide +kernel, by decide +kernel, veT_pass⟩, hd, sa, ga, gg, exC, tyC, kC, ha, hn, ht, hm⟩
theorem XC.ke {K : PySem.W.Frag} {C : Addr} (q : PySem.W.excInitIn K C keT "LookupError.__new__" = true) (hd : PySem.W.hasDictIn K C = true) (sa : PySem.W.findIn K (.ref C) "__setattr__" = some (some (.builtin "object.__setattr__")))
    (ga : PySem.W.findIn K (.ref C) "__getattribute__" = some (some (.builtin "BaseException.__getattribute__"))) (gg : PySem.W.findIn K (.ref C) "__getattr__" = some none) (exC : PySem.W.subIn K (.ref C) (.type "BaseException") = some true) (tyC : PySem.W.typeIn K (.ref C) = some (.type "type"))
    (kC : PySem.W.keepIn K (.ref C) = true) (ha : PySem.W.findIn K (.ref C) "__class__" = some (some (.builtin "object.__class__"))) (hn : PySem.W.specialIn K (.builtin "object.__class__") "__get__" = some (some (.builtin "getset_descriptor.__get__"))) (ht : PySem.W.takesIn K (.builtin "object.__class__") = some true)
    (hm : PySem.W.mroIn K C (.type "object") = some true) : XC K C :=
  ⟨⟨keT, _, _, _, _, PySem.F.excBase_LookupError, q, by decide +kernel, by decide +kernel, by decide +kernel, by decide +kernel, keT_pass⟩, hd, sa, ga, gg, exC, tyC, kC, ha, hn, ht, hm⟩
theorem XC.data {K : PySem.W.Frag} {C : Addr} (T : XC K C) : ∃ (nm q : Str) (N : Addr) (bs bm : List Value) (sn : List Str) (sub : List Value) (ab : Bool) (col : Option Bool) (dd : Option Addr) (k0 k1 k2 k3 k5 : Option Value) (B newId initId : String) (bmF : List Value),
    ExcBaseFacts B newId initId bmF ∧ K.lookup C = some (excClassObj nm q C N bs bm true sn sub ab col dd k0 k1 k2 k3 k5 newId) ∧ bm.contains (.type B) = true ∧ bm.contains (.type "AttributeError") = false ∧ bm.contains (.type "NameError") = false ∧
    (∀ self, PySem.refuseLoop self "__setattr__" (.ref C :: bm) = pure ()) ∧ (Value.ref C :: bm).contains (.type "object") = true := by
  obtain ⟨tail, bmF, B, newId, initId, F, q, hB, hA, hN, hO, hp⟩ := T.obj
  have hdct := T.hd
  unfold PySem.W.excInitIn at q
  unfold PySem.W.hasDictIn PySem.W.clsIn at hdct
  split at q
  · rename_i dd cd sl ho
    rw [ho] at hdct
    split at q
    · rename_i C' bm k0 k1 k2 k3 n k5 hm hs
      simp only [Bool.and_eq_true, beq_iff_eq, Bool.not_eq_true'] at q
      obtain ⟨⟨⟨rfl, rfl⟩, hdel⟩, ht⟩ := q
      obtain ⟨nm, bs, mro, ns, qn, hd, sn, sub, ab, col, del⟩ := cd
      have hdct : hd = true := hdct
      dsimp only at hm hdel
      subst hm hdel hdct
      have hsl : sl = #[k0, k1, k2, k3, some (.builtin n), k5] := by
        obtain ⟨l⟩ := sl
        simp only at hs
        rw [hs]
      subst hsl
      have hT : ∀ X : String, bm.contains (.type X) = tail.contains (.type X) := fun X => PySem.W.excTail_contains X _ ht
      refine ⟨nm, qn, ns, bs, bm, sn, sub, ab, col, dd, k0, k1, k2, k3, k5, B, n, initId, bmF, F, ho, (hT _).trans hB, (hT _).trans hA, (hT _).trans hN, fun self => ?_, ?_⟩
      · exact PySem.W.excTail_pass self (hp self) _ ht
      · rw [List.contains_cons, hT, hO, Bool.or_true]
    · cases q
  · cases q
section
variable {X : Cx} {pins : List (Addr × Obj)} {σ : L2.St} {H : Hp} {s : Shared} {a C dx : Addr} {f : Str} {y : V} {u : Value} {Q : Unit → Shared → Prop} {E : Value → Shared → Prop} {A : Around}
theorem ost_newG (T : XC X.K C) (I : Inv X pins σ H s) (e : H a = some (exo a C none)) (hno : PySem.W.findIn X.K (.ref C) f = some none) (ry : RelV y u)
    (h : ∀ dx s', H dx = none → dx ≠ a → Inv X pins σ (upd (upd H dx (exd dx [(f, y)])) a (exo a C (some dx))) s' → Q () s') : wpAny (model X.prog X.w) A (setAttr (.ref a) f u) Q E s := by
  obtain ⟨nm, q, N, bs, bm, sn, sub, ab, col, dd, k0, k1, k2, k3, k5, B, newId, initId, bmF, F, hC, hB, hA, hN, hp0, hob⟩ := T.data
  have hcl : PySem.W.clsIn X.K C = some { name := nm, bases := bs, mro := .ref C :: bm, ns := N, qualname := q, hasDict := true, slotNames := sn, subclasses := sub, abstract := ab, collection := col, hasDel := false } := by unfold PySem.W.clsIn; rw [hC] <;> rfl
  obtain ⟨t1, ho⟩ := exo_at I.hok e
  obtain ⟨hp, g, d, t, os⟩ := s
  refine PySem.W.set_plain I.kIn (ox := { cls := .ref C, dict := none, data := .fields #[.ref t1, .none, .none, .none, .bool false, .none] }) (od := none) ⟨ho, rfl, rfl, trivial⟩ T.sa ?_
  refine EV.exc_osaG I.kIn ho hcl hp0 rfl hob rfl hno (fun h' tk' dx k dn dne hx hn => ?_)
  have hnd : H dx = none := I.hok.fresh dn
  have nd : ∀ {b : Addr} {o : Obj}, hp.get? b = some o → b ≠ dx := fun {b o} q => Nat.ne_of_lt (Nat.lt_of_lt_of_le (Heap.lt_size q) dn)
  have na : ∀ {b : Addr}, H b = none → b ≠ a := fun {b} n z => by
    rw [z, e] at n
    cases n
  have Un1 : Un X.fs [] H (upd (upd H dx (exd dx [(f, y)])) a (exo a C (some dx))) hp h' := {
    keep := fun b o q n _ _ => k b o (na n) q
    slot := fun b o q n _ _ => ⟨o.slots, k b o (na n) q⟩
    free := fun b o q n _ => by rw [upd_ne (na n), upd_ne (nd q)]; exact n
    there := fun b o q _ => by
      by_cases hb : b = a
      · exact ⟨_, by rw [hb]; exact hx⟩
      · exact ⟨o, k b o hb q⟩
    tups := fun b xs q => by rw [upd_ne (at_ne e q exo_tup), upd_ne (ne_of_none q hnd)]; exact q
    frzs := fun b o v q => by rw [upd_ne (at_ne e q exo_frz), upd_ne (ne_of_none q hnd)]; exact q
    tbls := fun b ps q => ⟨#[], by rw [upd_ne (at_ne e q exo_tbl), upd_ne (ne_of_none q hnd), q]; simp⟩ }
  refine h dx _ hnd dne (I.un (t' := tk') Un1 fun b o q => ?_)
  by_cases hb : b = a
  · subst hb
    rw [upd_same] at q
    cases q
    exact exo_ok hx
  · rw [upd_ne hb] at q
    by_cases hd : b = dx
    · subst hd
      rw [upd_same] at q
      cases q
      exact exd_ok hn (relO_put (fs := []) ry fun g => True.intro)
    · rw [upd_ne hd] at q
      exact (I.hok b o q).stay (fun c v hc z => k c v (by
          rcases hc with hc | hc
          · rw [hc]
            exact hb
          · exact at_ne e hc exo_own) z)
        (fun c hc => by rw [upd_ne (at_ne e hc exo_own), upd_ne (ne_of_none hc hnd)]; exact hc) (fun c xs hc => by rw [upd_ne (at_ne e hc exo_tup), upd_ne (ne_of_none hc hnd)]; exact hc)
end
def tOstG (K : PySem.W.Frag) (f : Str) (to te : TE) : TS := fun D σ H => te σ H fun y H1 => to σ H1 fun x H2 => ∃ a C : Addr, x = .ref a ∧ XC K C ∧ PySem.W.findIn K (.ref C) f = some none ∧
  H2 a = some (exo a C none) ∧ ∀ dx, H2 dx = none → dx ≠ a → D.nx σ (upd (upd H2 dx (exd dx [(f, y)])) a (exo a C (some dx)))
section
variable {X : Cx} {o e : Expr} {es : List Expr} {to te : TE} {ta : TA} {f : Str} {p p' p1 p2 pos : Pos}
theorem ps_ostG (ho : PE X o to) (he : PE X e te) (hs : swapsWith e (some (.Attribute o f p')) pos.line X.env = pure false := by rfl) : PS X (.Assign [.Attribute o f p'] e pos) (tOstG X.K f to te) := by
  refine ⟨fun pins s σ H D I h => ?_⟩
  refine plainObj_wpAny_Assign_Attribute (thn (he.run pins s σ H _ I h) fun v s1 ⟨y, H1, I1, r1, q1⟩ => thn (ho.run pins s1 σ H1 _ I1 q1) fun u s2 ⟨x, H2, I2, r2, a, C, ex, T, hno, ea, q⟩ => ?_) hs
  subst ex
  obtain rfl : u = Value.ref a := r2
  exact ost_newG T I2 ea hno r1 fun dx s' n ne J => ⟨σ, _, J, q dx n ne⟩
theorem pmk_xc {CX : CXT} {x : Str} {C fI : Addr} {k : Nat} {fd : FuncData} {ps : List Str} {sp : Sp} {ds : List Value} {dvs : List V} (T : XC X.K C) (iC : PySem.W.findIn X.K (.ref C) "__init__" = some (some (.ref fI))) (tI : PySem.W.typeIn X.K (.ref fI) = some (.type "function"))
    (F1 : FnOk X.prog X.w X.K X.mg X.base CX k fI fd ps sp) (hr : Room (k + 1) X.A) (hb : Binds X.K fd ps ds) (hd : Vals dvs ds) (hx : Passes CX X (fun _ _ _ => False)) (hg : Gl X x) (hm : X.mg x = some (.ref C)) (ha : PA X (e :: es) ta)
    (hdb : (x == ("__debug__" : Str)) = false := by decide) (he : starEach (e :: es) X.env = (false, eval e X.env) :: starEach es X.env := by rfl) (hpl : (backTo pos (starEach es X.env)).any (·.1) = false := by rfl) :
    PMk X (.Call (.Name x p) (e :: es) [] pos) (tMkO C sp dvs ta) := by
  intro pins s σ H Q I h
  obtain ⟨nm, q, N, bs, bm, sn, sub, ab, col, dd, k0, k1, k2, k3, k5, B, newId, initId, bmF, F, hC, hB, hA, hN, hp0, hob⟩ := T.data
  refine wpAny_Call_Name_kw (ld_glob I hg hm ?_ hdb)
  refine PySem.W.callWith_K (h₀ := X.base) I.ok.mod.kin T.kC (thn (ha.run pos pins s σ H _ I h) fun us s1 ⟨vs, H1, I1, r1, hz, q1⟩ => ⟨I1.kIn, ?_⟩) he hpl
  show wpAny _ _ (call (.ref C) us) _ _ _
  obtain ⟨hp, g, dr, tk, os⟩ := s1
  have hsz : hp.objs.size ≤ hp.objs.size + 1 := Nat.le_succ _
  have hn : H1 (hp.objs.size + 1) = none := I1.hok.fresh hsz
  have hq := q1 (hp.objs.size + 1) hn
  have kk : ∀ b o, hp.get? b = some o → ((hp.push (PySem.W.kdv_tup us)).push (PySem.HandSPX.excO C hp.objs.size)).get? b = some o := fun b o e => Heap.get?_push_of_some _ (Heap.get?_push_of_some _ e)
  have hget : ((hp.push (PySem.W.kdv_tup us)).push (PySem.HandSPX.excO C hp.objs.size)).get? (hp.objs.size + 1) = some (PySem.HandSPX.excO C hp.objs.size) := by heap_get
  have I2 : Inv X pins σ (upd H1 (hp.objs.size + 1) (exo (hp.objs.size + 1) C none)) ⟨(hp.push (PySem.W.kdv_tup us)).push (PySem.HandSPX.excO C hp.objs.size), g, dr, tk, os⟩ :=
    I1.laid (t' := tk) (a := hp.objs.size + 1) (o := exo (hp.objs.size + 1) C none) (h' := (hp.push (PySem.W.kdv_tup us)).push (PySem.HandSPX.excO C hp.objs.size)) kk hsz (exo_ok hget)
  have r2 : Vals (V.ref (hp.objs.size + 1) :: (vs ++ dvs)) (Value.ref (hp.objs.size + 1) :: (us ++ ds)) := .cons rfl (r1.append hd)
  have hl : (Value.ref (hp.objs.size + 1) :: us ++ ds).length = ps.length := by
    have e := r2.length
    rw [F1.len _ _ _ _ hq] at e
    exact e.symm
  have hus : us.length ≤ sizeLine := by
    rw [← Paired.length r1, sizeLine_eq]
    omega
  refine wpAny_call (EV.call_kw (kw := []) F hB hA hN (I1.kIn _ _ hC) (PySem.W.looks_findIn I1.kIn iC) (fun self => PySem.W.bind_fn I1.kIn self tI) hus
    (codeAny_mono (F1.run _ X.stack _ _ ⟨Value.ref (hp.objs.size + 1) :: us, []⟩ (Value.ref (hp.objs.size + 1) :: (us ++ ds)) _ _ (fun _ _ _ => False) (hr.make C us []) (I2.env0.make C us []) (hb _ (Value.ref (hp.objs.size + 1) :: us) I2.kIn hl) r2 hq) fun r s' hq' => ?_))
  cases r with
  | error er => exact hx pins σ _ _ er s' I2 hq'
  | ok fl =>
    cases fl with
    | ret u =>
      obtain ⟨v, H2, os2, bare2, un2, hok2, rv, ev, d, fs, ea, ed, hd1, q2⟩ := hq'
      subst ev
      obtain ⟨h2, g2, d2, t2, os'⟩ := s'
      exact ⟨rv, mk_end (raises_own T.exC T.tyC) I1 hsz kk un2 hok2 os2 bare2 ea ed hd1 q2⟩
    | next => exact False.elim hq'
    | brk => exact False.elim hq'
    | cont => exact False.elim hq'
theorem pmk_own0 {C : Addr} {bmB : List Value} {B newId initId : String} {x : Str} {p pos : Pos} (F : ExcBaseFacts B newId initId bmB) (q : PySem.W.excIn X.K C bmB newId = true) (gC : X.mg x = some (.ref C)) (kC : PySem.W.keepIn X.K (.ref C) = true) (r : Raises X (.ref C)) (hg : Gl X x)
    (hdb : (x == ("__debug__" : Str)) = false := by decide) : PMk X (.Call (.Name x p) [] [] pos) (fun σ H Q => Q (.ref C) none H) := by
  intro pins s σ H Q I h
  refine wpAny_Call_Name_kw (ld_glob I hg gC ?_ hdb)
  refine PySem.W.callWith_K0 I.kIn kC ?_
  show wpAny _ _ (call (.ref C) []) _ _ _
  obtain ⟨bm, N, nm, qn, bs, hdct, sn, sub, ab, col, dd, k0, k1, k2, k3, k5, mN, hC, hN, hni, T⟩ := exc_obj I.kIn q
  refine wpAny_call_exc_subT F T hC hN hni (fun h' e hm => ?_) (by show 0 ≤ sizeLine; exact Nat.zero_le _)
  exact mk_of I hm r h (I.hok.gone hm.new)
end
def rIsX (K : PySem.W.Frag) (a : Addr) (cls : Value) (d : Option Addr) : List V → Hp → VK → Prop := fun xs H Q => ∃ (D : Addr) (c : V) (cv : Value) (b : Bool), cls = .ref D ∧ ExcC K D ∧ xs = [.ref a, c] ∧ (∀ u, RelV c u → u = cv) ∧ PySem.W.kitOne K (.ref D) cv = some b ∧
  (d = none ∨ ∃ dd fs, d = some dd ∧ H dd = some (.xd fs)) ∧ Q (.bl b) H
theorem call_isX {X : Cx} {a : Addr} {cls : Value} {d : Option Addr} {oe : Obj} {pn : List (Addr × Obj)} (hz : Zc cls d oe) (hf : ∃ vs, oe.data = .fields vs) : CallR (X.suite a ((a, oe) :: pn)) (.builtin "isinstance") (rIsX X.K a cls d) := by
  intro pins s σ H xs us Q I r h
  obtain ⟨D, c, cv, b, ecls, C, rfl, hcv, e, hd, q⟩ := h
  subst ecls
  cases r with
  | cons rx rr =>
    cases rr with
    | cons rt rr =>
      cases rr
      cases rx
      have ec := hcv _ rt
      subst ec
      obtain ⟨hget, _⟩ := I.pin (a, oe) (List.mem_append.mpr (.inl List.mem_cons_self))
      obtain ⟨vs, hv⟩ := hf
      have J : ∃ od : Option Obj, PySem.W.InstAt s.heap a oe D od := by
        obtain ⟨oc, od, oda, osl⟩ := oe
        obtain ⟨h1, h2⟩ := hz
        dsimp only at h1 h2 hv
        subst h1 h2 hv
        rcases hd with rfl | ⟨dd, fs, rfl, hdd⟩
        · exact ⟨none, hget, rfl, rfl, trivial⟩
        · have hx : ObjOk X.prog X.w H s.heap dd (.xd fs) := I.hok dd _ hdd
          obtain ⟨mA, hns, _⟩ := hx
          obtain ⟨o, _, _, ho, _⟩ := hns
          exact ⟨some o, hget, rfl, rfl, ho⟩
      obtain ⟨od, J⟩ := J
      exact PySem.W.kia_one (EV.kitx_excD (od := od) C.hg C.hk C.hs C.hd C.ha C.hn C.ht C.hm) I.kIn J e (fun z => nomatch z) fun tk => ⟨.bl b, H, I.kept (t' := tk) fun _ _ z => z, rfl, q⟩
theorem XC.exc {K : PySem.W.Frag} {C : Addr} (T : XC K C) : ExcC K C := ⟨T.ga, T.gg, T.exC, T.hd, T.ha, T.hn, T.ht, T.hm⟩
theorem XC.xf {K : PySem.W.Frag} {C : Addr} (T : XC K C) : XfC K C := ⟨T.ga, T.gg, T.exC, T.hd⟩
theorem XC.raises {X : Cx} {C : Addr} (T : XC X.K C) : Raises X (.ref C) := raises_own T.exC T.tyC
theorem XC.exm {K : PySem.W.Frag} {C : Addr} {cls : Value} {b : Bool} (T : XC K C) (h : PySem.W.subIn K cls (.ref C) = some b) : PySem.W.exmOne K cls (.ref C) = some b := PySem.W.exm_ref T.exC T.hd T.tyC h
end LX
set_option maxHeartbeats 4000000
namespace LX
open PySem PySem.Spec PyProof.Rows L2 C8 SX
section
variable {P : Program} {w : World} {K : PySem.W.Frag} {mg : Str → Option Value} {base : Heap}
theorem fnX {x qual : Str} {st : Stmt} {f : Addr} {fd : FuncData} {N ps : List Str} {k : Nat} {sp : Sp} (F : C8.Fun K x qual st f fd) (S : FnScope N ps (C8.fnScope st)) (len : ∀ vs H Q E, sp vs H Q E → vs.length = ps.length)
    (hbody : ∀ (cdv : Value) (A : Around) (outer : List Env) (s : Shared) (H : Hp) (vs : List V) (Q : VK) (E : XK), Room k (A.deeper (envOfC qual (C8.fnScope st) s.heap.objs.size f cdv)) → sp vs H Q E →
      ∃ t, PSs (cxOf (L2.CX P w) P w K mg base N qual (C8.fnScope st) f cdv A outer s H E) (C8.fnBody st) t ∧ t { nx := fun _ H' => Q .non H', rt := Q } (L2.start N vs) H) : FnOk P w K mg base (L2.CX P w) (k + 1) f fd ps sp := by
  obtain ⟨oc, od, dV, kV, doc, pm, an, cdv, ct, osl, rfl, lk, hcd⟩ := F.ex
  exact fn_of lk hcd S len fun A outer s H vs Q E hr hsp => hbody cdv A outer s H vs Q E hr hsp
structure CalX (P : Program) (w : World) (K : PySem.W.Frag) (mg : Str → Option Value) (base : Heap) (k : Nat) (x : Str) (sp : Sp) : Prop where
  ex : ∃ (f : Addr) (fd : FuncData) (ps : List Str), FnOk P w K mg base (L2.CX P w) k f fd ps sp ∧ mg x = some (.ref f) ∧ PySem.W.keepIn K (.ref f) = true ∧ Binds K fd ps []
structure MetX (P : Program) (w : World) (K : PySem.W.Frag) (mg : Str → Option Value) (base : Heap) (k : Nat) (C : Addr) (m : Str) (sp : Sp) : Prop where
  ex : ∃ (f : Addr) (fd : FuncData) (ps : List Str), Cls K C ∧ Meth K C m f ∧ FnOk P w K mg base (L2.CX P w) k f fd ps sp ∧ Binds K fd ps []
structure MakX (P : Program) (w : World) (K : PySem.W.Frag) (mg : Str → Option Value) (base : Heap) (k : Nat) (x : Str) (C : Addr) (sp : Sp) : Prop where
  ex : ∃ (f : Addr) (fd : FuncData) (ps : List Str), Mk K C f ∧ FnOk P w K mg base (L2.CX P w) k f fd ps sp ∧ mg x = some (.ref C) ∧ Binds K fd ps []
structure RaiX (P : Program) (w : World) (K : PySem.W.Frag) (mg : Str → Option Value) (base : Heap) (k : Nat) (x : Str) (C : Addr) (sp : Sp) : Prop where
  ex : ∃ (f : Addr) (fd : FuncData) (ps : List Str), XC K C ∧ PySem.W.findIn K (.ref C) "__init__" = some (some (.ref f)) ∧ PySem.W.typeIn K (.ref f) = some (.type "function") ∧ FnOk P w K mg base C8.CX0 k f fd ps sp ∧ mg x = some (.ref C) ∧ Binds K fd ps []
theorem calX {x : Str} {st : Stmt} {f : Addr} {fd : FuncData} {N ps : List Str} {k : Nat} {sp : Sp} (F : Def K mg x st f fd) (b : Binds K fd ps []) (S : FnScope N ps (C8.fnScope st)) (len : ∀ vs H Q E, sp vs H Q E → vs.length = ps.length)
    (hbody : ∀ (cdv : Value) (A : Around) (outer : List Env) (s : Shared) (H : Hp) (vs : List V) (Q : VK) (E : XK), Room k (A.deeper (envOfC x (C8.fnScope st) s.heap.objs.size f cdv)) → sp vs H Q E →
      ∃ t, PSs (cxOf (L2.CX P w) P w K mg base N x (C8.fnScope st) f cdv A outer s H E) (C8.fnBody st) t ∧ t { nx := fun _ H' => Q .non H', rt := Q } (L2.start N vs) H) : CalX P w K mg base (k + 1) x sp :=
  ⟨f, fd, ps, fnX F.fn S len hbody, F.mgf, F.kp, b⟩
theorem metX {m qual : Str} {C : Addr} {st : Stmt} {f : Addr} {fd : FuncData} {N ps : List Str} {k : Nat} {sp : Sp} (c : Cls K C) (me : Meth K C m f) (F : C8.Fun K m qual st f fd) (b : Binds K fd ps []) (S : FnScope N ps (C8.fnScope st)) (len : ∀ vs H Q E, sp vs H Q E → vs.length = ps.length)
    (hbody : ∀ (cdv : Value) (A : Around) (outer : List Env) (s : Shared) (H : Hp) (vs : List V) (Q : VK) (E : XK), Room k (A.deeper (envOfC qual (C8.fnScope st) s.heap.objs.size f cdv)) → sp vs H Q E →
      ∃ t, PSs (cxOf (L2.CX P w) P w K mg base N qual (C8.fnScope st) f cdv A outer s H E) (C8.fnBody st) t ∧ t { nx := fun _ H' => Q .non H', rt := Q } (L2.start N vs) H) : MetX P w K mg base (k + 1) C m sp :=
  ⟨f, fd, ps, c, me, fnX F S len hbody, b⟩
theorem makX {x qual : Str} {C : Addr} {st : Stmt} {f : Addr} {fd : FuncData} {N ps : List Str} {k : Nat} {sp : Sp} (M : Mk K C f) (hm : mg x = some (.ref C)) (F : C8.Fun K "__init__" qual st f fd) (b : Binds K fd ps []) (S : FnScope N ps (C8.fnScope st)) (len : ∀ vs H Q E, sp vs H Q E → vs.length = ps.length)
    (hbody : ∀ (cdv : Value) (A : Around) (outer : List Env) (s : Shared) (H : Hp) (vs : List V) (Q : VK) (E : XK), Room k (A.deeper (envOfC qual (C8.fnScope st) s.heap.objs.size f cdv)) → sp vs H Q E →
      ∃ t, PSs (cxOf (L2.CX P w) P w K mg base N qual (C8.fnScope st) f cdv A outer s H E) (C8.fnBody st) t ∧ t { nx := fun _ H' => Q .non H', rt := Q } (L2.start N vs) H) : MakX P w K mg base (k + 1) x C sp :=
  ⟨f, fd, ps, M, fnX F S len hbody, hm, b⟩
theorem raiX {x qual : Str} {C : Addr} {st : Stmt} {f : Addr} {fd : FuncData} {N ps : List Str} {k : Nat} {sp : Sp} (T : XC K C) (iC : PySem.W.findIn K (.ref C) "__init__" = some (some (.ref f))) (tI : PySem.W.typeIn K (.ref f) = some (.type "function")) (hm : mg x = some (.ref C)) (F : C8.Fun K "__init__" qual st f fd) (b : Binds K fd ps []) (S : FnScope N ps (C8.fnScope st)) (len : ∀ vs H Q E, sp vs H Q E → vs.length = ps.length)
    (hbody : ∀ (cdv : Value) (A : Around) (outer : List Env) (s : Shared) (H : Hp) (vs : List V) (Q : VK) (E : XK), Room k (A.deeper (envOfC qual (C8.fnScope st) s.heap.objs.size f cdv)) → sp vs H Q E →
      ∃ t, PSs (cxOf C8.CX0 P w K mg base N qual (C8.fnScope st) f cdv A outer s H E).nox (C8.fnBody st) t ∧ t { nx := fun _ H' => Q .non H', rt := Q } (L2.start N vs) H) : RaiX P w K mg base (k + 1) x C sp :=
  ⟨f, fd, ps, T, iC, tI, fn0 F S len hbody, hm, b⟩
end
def tMethS (C : Addr) (m : Str) (sp : Sp) (E : L2.St → XK) (ta : TE) (t : TA) : TE := fun σ H Q => ta σ H fun x H1 => ∃ a dx fs, x = .ref a ∧ H1 a = some (.ins C dx fs) ∧ fs.lookup m = none ∧ t σ H1 fun vs H2 => sp (x :: vs) H2 Q (E σ)
def tMakeS (C : Addr) (sp : Sp) (E : L2.St → XK) (t : TA) : TE := fun σ H Q => t σ H fun vs H1 => ∀ x dx, H1 x = none → H1 dx = none → dx ≠ x → sp (.ref x :: vs) (upd (upd H1 dx (.own x)) x (.ins C dx [])) (fun v H2 => v = .non ∧ Q (.ref x) H2) (E σ)
section
variable {X : Cx} {k j : Nat} {f C : Addr} {sp : Sp} {W : WX} {x m : Str} {p pos apos : Pos} {e o : Expr} {es : List Expr} {ta : TE} {t : TA}
theorem pe_cX (c : CalX X.prog X.w X.K X.mg X.base k x sp) (tk : Takes X W) (hr : Room j X.A) (hk : k ≤ j) (hg : Gl X x) (ha : PA X (e :: es) t) (hdb : (x == ("__debug__" : Str)) = false := by decide)
    (he : starEach (e :: es) X.env = (false, eval e X.env) :: starEach es X.env := by rfl) (hpl : (backTo pos (starEach es X.env)).any (·.1) = false := by rfl) : PE X (.Call (.Name x p) (e :: es) [] pos) (tCallS sp (WE W) t) := by
  obtain ⟨f, fd, ps, F, hm, kp, b⟩ := c.ex
  exact pe_callS F (hr.mono hk) hg hm kp b (fun σ => passAt tk σ) ha hdb he hpl
theorem pe_mtX {pl : Sem Bool} (c : MetX X.prog X.w X.K X.mg X.base k C m sp) (tk : Takes X W) (hr : Room j X.A) (hk : k ≤ j) (he : PE X o ta) (ha : PA X (e :: es) t)
    (hst : starEach (e :: es) X.env = (false, eval e X.env) :: starEach es X.env := by rfl) (hpl : (backTo pos (starEach es X.env)).any (·.1) = false := by rfl)
    (ht : eval (.Call (.Attribute o m apos) (e :: es) [] pos) X.env = (do
      let ov ← eval o X.env
      standAt apos.atName
      let (f, first) ← holding [ov] (getMethod ov m pl)
      callWith pos f first (backTo pos (starEach (e :: es) X.env)) (backToKw pos (keywordEach [] X.env))) := by rfl) :
    PE X (.Call (.Attribute o m apos) (e :: es) [] pos) (tMethS C m sp (WE W) ta t) := by
  obtain ⟨f, fd, ps, cl, hm, F, hb⟩ := c.ex
  refine ⟨fun pins s σ H Q I h => ?_⟩
  refine PySem.W.methodCall_KW (pl := pl) (thn (he.run pins s σ H _ I h) fun u s1 ⟨x, H1, I1, rx, a, dx, fs, ex, ea, l, q⟩ => ?_) ht
  subst ex
  obtain rfl : u = Value.ref a := rx
  refine getmeth_ok I1 ea cl hm l ?_
  refine PySem.W.callWith_K (first := [.ref a]) (h₀ := X.base) I.ok.mod.kin hm.kp (thn (ha.run pos pins s1 σ H1 _ I1 q) fun us s2 ⟨vs, H2, I2, r, q2⟩ => ⟨I2.kIn, ?_⟩) hst hpl
  exact run_fnS (us := .ref a :: us) (vs := .ref a :: vs) F (hr.mono hk) hb (passAt tk σ) I2 (.cons rfl r) q2
theorem pe_mkX (c : MakX X.prog X.w X.K X.mg X.base k x C sp) (tk : Takes X W) (hr : Room j X.A) (hk : k + 1 ≤ j) (hg : Gl X x) (ha : PA X (e :: es) t) (hdb : (x == ("__debug__" : Str)) = false := by decide)
    (he : starEach (e :: es) X.env = (false, eval e X.env) :: starEach es X.env := by rfl) (hpl : (backTo pos (starEach es X.env)).any (·.1) = false := by rfl) : PE X (.Call (.Name x p) (e :: es) [] pos) (tMakeS C sp (WE W) t) := by
  obtain ⟨f, fd, ps, M, F, hm, hb⟩ := c.ex
  refine ⟨fun pins s σ H Q I h => ?_⟩
  refine wpAny_Call_Name_kw (ld_glob I hg hm ?_ hdb)
  refine PySem.W.callWith_K (h₀ := X.base) I.ok.mod.kin M.kp (thn (ha.run pos pins s σ H _ I h) fun us s1 ⟨vs, H1, I1, r, q⟩ => ⟨I1.kIn, ?_⟩) he hpl
  have hq := q (s1.heap.objs.size + 1) s1.heap.objs.size (I1.hok.fresh (Nat.le_succ _)) (I1.hok.fresh (Nat.le_refl _)) (Nat.ne_of_lt (Nat.lt_succ_self _))
  have I2 := Inv.made (C := C) I1
  have r2 : Vals (V.ref (s1.heap.objs.size + 1) :: vs) (Value.ref (s1.heap.objs.size + 1) :: us) := .cons rfl r
  have hl : (Value.ref (s1.heap.objs.size + 1) :: us ++ []).length = ps.length := by
    have e := r2.length
    rw [F.len _ _ _ _ hq] at e
    rw [List.append_nil]
    exact e.symm
  have hb2 := hb _ (Value.ref (s1.heap.objs.size + 1) :: us) I2.kIn hl
  rw [List.append_nil] at hb2
  refine wpAny_call (make_map (f := f) I1.kIn M.makes M.init (beq_iff_eq.mp M.fn) (codeAny_mono (F.run _ X.stack _ _ ⟨Value.ref (s1.heap.objs.size + 1) :: us, []⟩ (Value.ref (s1.heap.objs.size + 1) :: us) _ _ (WE W σ) ((hr.mono hk).make C us [])
    (I2.env0.make C us []) hb2 r2 hq) fun r s' hq' => ?_))
  cases r with
  | error e => exact passAt tk σ pins _ _ e s' I2 hq'
  | ok fl =>
    cases fl with
    | ret u =>
      obtain ⟨v, H', I3, rv, ev, q3⟩ := I2.after hq'
      subst ev
      exact ⟨rv, ⟨V.ref (s1.heap.objs.size + 1), H', I3, rfl, q3⟩⟩
    | next => exact False.elim hq'
    | brk => exact False.elim hq'
    | cont => exact False.elim hq'
theorem pmk_rai (c : RaiX X.prog X.w X.K X.mg X.base k x C sp) (hr : Room j X.A) (hk : k + 1 ≤ j) (hg : Gl X x) (ha : PA X (e :: es) t) (hdb : (x == ("__debug__" : Str)) = false := by decide)
    (he : starEach (e :: es) X.env = (false, eval e X.env) :: starEach es X.env := by rfl) (hpl : (backTo pos (starEach es X.env)).any (·.1) = false := by rfl) : PMk X (.Call (.Name x p) (e :: es) [] pos) (tMkO C sp [] t) := by
  obtain ⟨f, fd, ps, T, iC, tI, F, hm, b⟩ := c.ex
  exact pmk_xc T iC tI F (hr.mono hk) b .nil C8.pass0 hg hm ha hdb he hpl
end
def wManyA (K : PySem.W.Frag) (Wout : WX) (D : Ends) : List (Value × Option Nat × (Addr → Value → Option Addr → TS)) → WX
  | [] => Wout
  | (c, none, ts) :: r => fun cls d σ H => ∃ b, PySem.W.exmOne K cls c = some b ∧ (b = true → ∀ a, H a = none → ts a cls d D σ H) ∧ (b = false → wManyA K Wout D r cls d σ H)
  | (c, some i, ts) :: r => fun cls d σ H => ∃ b, PySem.W.exmOne K cls c = some b ∧ (b = true → ∀ a, H a = none → ts a cls d { nx := fun σ' H' => D.nx (σ'.set i none) H', rt := D.rt, bk := fun σ' H' => D.bk (σ'.set i none) H', ct := fun σ' H' => D.ct (σ'.set i none) H' } (σ.set i (some (.ref a))) H) ∧
      (b = false → wManyA K Wout D r cls d σ H)
inductive HdsA (X : Cx) : List ExceptHandler → List (Value × Option Nat × (Addr → Value → Option Addr → TS)) → Prop
  | nil : HdsA X [] []
  | cons {x : Str} {c : Value} {ts : Addr → Value → Option Addr → TS} {b₀ : Stmt} {suite : List Stmt} {np pos' : Pos} {hds : List ExceptHandler} {l : List (Value × Option Nat × (Addr → Value → Option Addr → TS))} (hc : Names X x c)
      (hsu : ∀ (a : Addr) (oe : Obj) (cls : Value) (d : Option Addr) (pn : List (Addr × Obj)), Zc cls d oe → (∃ vs, oe.data = .fields vs) → PSs (X.suite a ((a, oe) :: pn)) (b₀ :: suite) (ts a cls d)) (r : HdsA X hds l) :
      HdsA X (.ExceptHandler (some (.Name x np)) none (b₀ :: suite) pos' :: hds) ((c, none, ts) :: l)
  | consA {x n : Str} {i : Nat} {c : Value} {ts : Addr → Value → Option Addr → TS} {b₀ : Stmt} {suite : List Stmt} {np pos' : Pos} {hds : List ExceptHandler} {l : List (Value × Option Nat × (Addr → Value → Option Addr → TS))} (hi : X.N[i]? = some n) (hln : X.env.kindOf n = some .local) (hc : Names X x c)
      (hsu : ∀ (a : Addr) (oe : Obj) (cls : Value) (d : Option Addr) (pn : List (Addr × Obj)), Zc cls d oe → (∃ vs, oe.data = .fields vs) → PSs (X.suite a ((a, oe) :: pn)) (b₀ :: suite) (ts a cls d)) (r : HdsA X hds l) :
      HdsA X (.ExceptHandler (some (.Name x np)) (some n) (b₀ :: suite) pos' :: hds) ((c, some i, ts) :: l)
section
variable {X : Cx} {body : List Stmt} {h₀ : ExceptHandler} {hds : List ExceptHandler} {l : List (Value × Option Nat × (Addr → Value → Option Addr → TS))} {pos : Pos} {tb : WX → TS} {Wout : WX}
theorem ps_try_manyA (hs : X.stack = X.env :: X.outer) (hf : X.env.frame = some X.env.locals) (hN : X.N.Nodup) (tk : Takes X Wout)
    (hb : ∀ (W : WX) (pn : List (Addr × Obj)) (xe : Value → Shared → Prop), Takes (X.tr pn xe) W → PassesOwn (model X.prog X.w) X.A X.env xe → PSs (X.tr pn xe) body (tb W))
    (hh : HdsA X (h₀ :: hds) l) : PS X (.Try body (h₀ :: hds) [] [] pos) (fun D σ H => tb (wManyA X.K Wout D l) D σ H) := by
  refine ⟨fun pins s σ H D I h => ?_⟩
  have ok := I.ok
  have hfr : X.A.frames = some (X.env :: X.outer) := by rw [ok.frames, hs]
  refine wpAny_Try_except ?_
  refine wpAny_mono ((hb (wManyA X.K Wout D l) (X.pn ++ pins) (fun e s₁ => wpAny (model X.prog X.w) X.A (noteFrame e X.env) (fun _ s₂ => wpAny (model X.prog X.w) X.A (setFlight e none) (fun _ s₃ =>
    wpAny (model X.prog X.w) X.A (handleBy e X.env (h₀ :: hds)) (SP X pins D) X.xe s₃) X.xe s₂) X.xe s₁) (fun u s' xx => ?_) PassesOwn.looking).run [] s σ H D (I.toTry _) h) (fun f s1 hsp => ?_) (fun e s1 he => he)
  · obtain ⟨a, B, sI, pins', σ', H', cls, d, rfl, J', nb, up, sky, na, os, ag, w⟩ := xx
    have J : Inv X pins σ' H' sI := J'.ofTry ok
    have sky' : Sky B (X.env :: X.outer) a (Zc cls d) X.env.locals s'.heap := by rw [← hs]; exact sky
    show wpAny (model X.prog X.w) X.A (noteFrame (.ref a) X.env) _ _ _
    refine Sky.land Zc.steady hfr hf sky' fun h3 fl3 up3 => ?_
    have J3 : Inv X pins σ' H' { s' with heap := h3 } := J.landed nb fl3.1 (up.trans up3) os ag
    obtain ⟨oe3, vs3, he3, hz3, hd3⟩ := fl3.there
    have notFr : ∀ {h : Heap} {o : Obj} {vs : Array Value}, h.FunFrames B (X.env :: X.outer) → h.get? a = some o → o.data = .fields vs → a ∉ frs (X.env :: X.outer) := fun {h o vs} ff e dd hm => by
      obtain ⟨_, o', e', hnf⟩ := ff.mem hm
      rw [e] at e'; cases e'
      exact hnf _ dd
    have nfr := notFr fl3.2.2.1 he3 hd3
    have nL : a ≠ X.env.locals := fun z => nfr (List.mem_filterMap.mpr ⟨X.env, List.mem_cons_self, by rw [hf, z]⟩)
    have nF : a ∉ X.fs := fun hm => by
      obtain ⟨e, he, q⟩ := List.mem_filterMap.mp hm
      exact nfr (List.mem_filterMap.mpr ⟨e, List.mem_cons_of_mem _ he, q⟩)
    have S3 := J3.suite he3 hd3 na nL nF
    have LT : PySem.W.Looks (model X.prog X.w) h3 (typeOf (.ref a)) cls := fun A Q E s k q => wpAny_typeOf_ref (k _ _ he3) (by rw [hz3.1]; exact q)
    have test : ∀ {x : Str} {c : Value} {np : Pos} (hc : Names X x c) {Q : Value → Shared → Prop} {E : Value → Shared → Prop}, Q c { s' with heap := h3 } → wpAny (model X.prog X.w) (X.A.mark (some (.ref a))) (eval (.Name x np) X.env) Q E { s' with heap := h3 } := fun {x c np} hc {Q E} q => by
      obtain ⟨hg, hdbg, hm | ⟨hm, hv, hnn⟩⟩ := hc
      · exact ld_glob (X := X.suite a ((a, oe3) :: (X.pn ++ pins))) S3 hg hm q hdbg
      · exact ld_blt (X := X.suite a ((a, oe3) :: (X.pn ++ pins))) S3 hg hm hv q hnn hdbg
    have go : ∀ {hds' : List ExceptHandler} {l' : List (Value × Option Nat × (Addr → Value → Option Addr → TS))}, HdsA X hds' l' → wManyA X.K Wout D l' cls d σ' H' →
        wpAny (model X.prog X.w) X.A (handleBy (.ref a) X.env hds') (SP X pins D) X.xe { s' with heap := h3 } := by
      intro hds' l' hk
      induction hk with
      | nil =>
        intro w
        refine wpAny_handleBy_nil ?_
        obtain ⟨k1, k2, k3, oe, vs, T, oT, ts', he, hz, hd, h1, hr⟩ := id fl3
        unfold PySem.passOn
        refine wpAny_bind (wpAny_field he hd h1 ?_)
        rw [if_neg (show ¬ ((Value.ref T == Value.none) = true) from by simp)]
        have fin : wpAny (model X.prog X.w) X.A (setFlight (.ref a) X.env.frame) (fun _ s4 => wpAny (model X.prog X.w) X.A (throw (.ref a) : Sem Flow) (SP X pins D) X.xe s4) X.xe { s' with heap := h3 } := by
          rw [hf]
          refine HandSPX.setFlight_upZ fl3 fun h4 hh4 up4 => wpAny_throw (tk _ _ ?_)
          exact ⟨a, B, sI, pins, σ', H', cls, d, rfl, J, nb, (up.trans up3).trans up4, .inr (.inr (by rw [hs]; exact hh4)), na, os, ag, w⟩
        first
          | exact wpAny_bind (wpAny_pure (wpAny_bind fin))
          | exact wpAny_bind fin
      | @cons x c ts b₀ suite np pos' hds2 l2 hc hsu r ih =>
        intro w
        obtain ⟨b, hb1, hyes, hno⟩ := w
        refine wpAny_handleBy_cons (codeAny_handlers_test ?_) (by intro q; cases q)
        have LM := PySem.W.exm_one (M := model X.prog X.w) (J3.kIn) LT hb1
        refine test hc (LM.here ?_)
        cases b with
        | true =>
          refine codeAny_handlers_suite ?_
          refine HandSPX.lands_againZ fl3 fun h4 fl4 up4 => ?_
          have J4 : Inv X pins σ' H' { s' with heap := h4 } := J.landed nb fl4.1 ((up.trans up3).trans up4) os ag
          obtain ⟨oe4, vs4, he4, hz4, hd4⟩ := fl4.there
          have S4 := J4.suite he4 hd4 na nL nF
          refine wpAny_mono ((hsu a oe4 cls d (X.pn ++ pins) hz4 ⟨_, hd4⟩).run [] _ _ H' _ S4 (hyes rfl a na)) (fun f s6 hsp => ?_) (fun _ _ z => False.elim z)
          cases f with
          | next =>
            obtain ⟨σ6, H6, S6, q6⟩ := hsp
            exact ⟨_, _, S6.unsuite ok, q6⟩
          | brk =>
            obtain ⟨σ6, H6, S6, q6⟩ := hsp
            exact ⟨_, _, S6.unsuite ok, q6⟩
          | cont =>
            obtain ⟨σ6, H6, S6, q6⟩ := hsp
            exact ⟨_, _, S6.unsuite ok, q6⟩
          | ret u =>
            obtain ⟨v6, σ6, H6, S6, r6, q6⟩ := hsp
            exact ⟨_, _, _, S6.unsuite ok, r6, q6⟩
        | false =>
          show wpAny _ X.A (handleBy (.ref a) X.env hds2) _ _ _
          exact ih (hno rfl)
      | @consA x n i c ts b₀ suite np pos' hds2 l2 hi hln hc hsu r ih =>
        intro w
        obtain ⟨b, hb1, hyes, hno⟩ := w
        refine wpAny_handleBy_cons (codeAny_handlers_test ?_) (by intro q; cases q)
        have LM := PySem.W.exm_one (M := model X.prog X.w) (J3.kIn) LT hb1
        refine test hc (LM.here ?_)
        cases b with
        | true =>
          refine codeAny_handlers_suite_as ?_
          refine HandSPX.lands_againZ fl3 fun h4 fl4 up4 => ?_
          have J4 : Inv X pins σ' H' { s' with heap := h4 } := J.landed nb fl4.1 ((up.trans up3).trans up4) os ag
          obtain ⟨oe4, vs4, he4, hz4, hd4⟩ := fl4.there
          have S4 := J4.suite he4 hd4 na nL nF
          refine store_ok (X := X.suite a ((a, oe4) :: (X.pn ++ pins))) (v := .ref a) S4 hN hi (.inl hln) rfl (fun s5 S5 => ?_) (.inr hln)
          refine wpAny_mono ((hsu a oe4 cls d (X.pn ++ pins) hz4 ⟨_, hd4⟩).run [] s5 _ H' _ S5 (hyes rfl a na)) (fun f s6 hsp => ?_) (fun _ _ z => False.elim z)
          have end_ : ∀ {σ6 : L2.St} {H6 : Hp} {Q : Shared → Prop}, Inv (X.suite a ((a, oe4) :: (X.pn ++ pins))) [] σ6 H6 s6 → (∀ s7, Inv X pins (σ6.set i none) H6 s7 → Q s7) →
              wpAny (model X.prog X.w) X.A (do bindName X.env n .none; unbindBehindTheSuite X.env n pos') (fun _ s7 => Q s7) X.xe s6 := fun {σ6 H6 Q} S6 hq => gone_ok (S6.unsuite ok) hN hi hln hq
          cases f with
          | next =>
            obtain ⟨σ6, H6, S6, q6⟩ := hsp
            exact end_ S6 fun s7 J7 => ⟨_, _, J7, q6⟩
          | brk =>
            obtain ⟨σ6, H6, S6, q6⟩ := hsp
            exact end_ S6 fun s7 J7 => ⟨_, _, J7, q6⟩
          | cont =>
            obtain ⟨σ6, H6, S6, q6⟩ := hsp
            exact end_ S6 fun s7 J7 => ⟨_, _, J7, q6⟩
          | ret u =>
            obtain ⟨v6, σ6, H6, S6, r6, q6⟩ := hsp
            exact end_ S6 fun s7 J7 => ⟨_, _, _, J7, r6, q6⟩
        | false =>
          show wpAny _ X.A (handleBy (.ref a) X.env hds2) _ _ _
          exact ih (hno rfl)
    exact go hh w
  · cases f with
    | next =>
      obtain ⟨σ', H', J', q⟩ := hsp
      exact wpAny_execs_nil ⟨σ', H', J'.ofTry ok, q⟩
    | brk =>
      obtain ⟨σ', H', J', q⟩ := hsp
      exact ⟨σ', H', J'.ofTry ok, q⟩
    | cont =>
      obtain ⟨σ', H', J', q⟩ := hsp
      exact ⟨σ', H', J'.ofTry ok, q⟩
    | ret u =>
      obtain ⟨v, σ', H', J', r, q⟩ := hsp
      exact ⟨v, σ', H', J'.ofTry ok, r, q⟩
end
end LX
set_option maxHeartbeats 2000000
namespace LX
open PySem PySem.Spec PyProof.Rows L2 C8 SX
mutual
theorem dp_same {K : PySem.W.Frag} {H H' : Hp} (s : Same H H') : ∀ (d : PyData) (v : V), Dp K H v d → Dp K H' v d
  | .none, _, h => by cases h; exact .non
  | .bool b, _, h => by cases h; exact .bl b
  | .int i, _, h => by cases h; exact .int i
  | .str x, _, h => by cases h; exact .str x
  | .list ds, _, h => by
    cases h with
    | lst hs ha => exact .lst (s.seq hs) (dpa_same s ds _ ha)
  | .tuple ds, _, h => by
    cases h with
    | tup hs ha => exact .tup (sm_seqT s hs) (dpa_same s ds _ ha)
  | .dict _, _, h => by cases h
theorem dpa_same {K : PySem.W.Frag} {H H' : Hp} (s : Same H H') : ∀ (ds : List PyData) (vs : List V), DpAll K H vs ds → DpAll K H' vs ds
  | [], _, h => by cases h; exact .nil
  | d :: ds, _, h => by
    cases h with
    | cons h1 h2 => exact .cons (dp_same s d _ h1) (dpa_same s ds _ h2)
end
theorem dpa_len {K : PySem.W.Frag} {H : Hp} : ∀ {vs : List V} {ds : List PyData}, DpAll K H vs ds → vs.length = ds.length
  | _, _, .nil => rfl
  | _, _, .cons _ h => by rw [List.length_cons, List.length_cons, dpa_len h]
theorem dpa_at {K : PySem.W.Frag} {H : Hp} : ∀ {vs : List V} {ds : List PyData}, DpAll K H vs ds → ∀ (i : Nat) (v : V), vs[i]? = some v → ∃ d, ds[i]? = some d ∧ Dp K H v d
  | _, _, .nil, i, v, h => by simp at h
  | _, _, .cons h _, 0, v, e => by cases e; exact ⟨_, rfl, h⟩
  | _, _, .cons _ h, i + 1, v, e => dpa_at h i v e
def wo (B : List Addr) (H : Hp) : Hp := fun a => if a ∈ B then none else H a
def Liv (B : List Addr) (H : Hp) : Prop := ∀ b ∈ B, H b ≠ none
section
variable {B : List Addr} {H H' : Hp} {a : Addr} {o : HO}
theorem wo_in (h : a ∈ B) : wo B H a = none := if_pos h
theorem wo_out (h : a ∉ B) : wo B H a = H a := if_neg h
theorem wo_get (h : H a = some o) (n : a ∉ B) : wo B H a = some o := (wo_out n).trans h
theorem of_wo (h : wo B H a = some o) : H a = some o ∧ a ∉ B := by
  by_cases n : a ∈ B
  · rw [wo_in n] at h; cases h
  · exact ⟨(wo_out n).symm.trans h, n⟩
theorem wo_same (s : Same H H') : Same (wo B H) (wo B H') := fun a o h => let ⟨e, n⟩ := of_wo h; wo_get (s _ _ e) n
theorem wo_sub : Same (wo B H) H := fun _ _ h => (of_wo h).1
theorem wo_cons {b : Addr} : Same (wo (b :: B) H) (wo B H) := fun a o h => let ⟨e, n⟩ := of_wo h; wo_get e fun m => n (List.mem_cons_of_mem _ m)
theorem wo_upd_in (h : a ∈ B) : wo B (upd H a o) = wo B H := by
  funext c
  by_cases n : c ∈ B
  · rw [wo_in n, wo_in n]
  · rw [wo_out n, wo_out n, upd_ne (fun e => n (by rw [e]; exact h))]
theorem Liv.same (l : Liv B H) (s : Same H H') : Liv B H' := fun b hb e => by
  cases q : H b with
  | none => exact l b hb q
  | some o => rw [s _ _ q] at e; cases e
theorem Liv.new (l : Liv B H) (h : H a = none) : a ∉ B := fun m => l a m h
theorem Liv.cons {b : Addr} (l : Liv B H) (h : H b = some o) : Liv (b :: B) H := fun c hc e => by
  rcases List.mem_cons.mp hc with rfl | m
  · rw [h] at e; cases e
  · exact l c m e
theorem same_new {p : Addr} (s : Same H H') (h : H' p = none) : H p = none := by
  cases e : H p with
  | none => rfl
  | some o => rw [s _ _ e] at h; cases h
end
def RD (K : PySem.W.Frag) (B : List Addr) (t : TE) (d : PyData) (σ : L2.St) (H : Hp) : Prop := Liv B H → ∀ Q : VK, (∀ v H', Same H H' → Dp K (wo B H') v d → Q v H') → t σ H Q
def RDs (K : PySem.W.Frag) (B : List Addr) (t : TA) (ds : List PyData) (σ : L2.St) (H : Hp) : Prop := Liv B H → ∀ Q : List V → Hp → Prop, (∀ vs H', Same H H' → DpAll K (wo B H') vs ds → Q vs H') → t σ H Q
theorem dpa_of {K : PySem.W.Frag} {H : Hp} : ∀ {ys : List V} {n : Nat} {dd : Nat → PyData}, ys.length = n → (∀ (j : Nat) y, ys[j]? = some y → Dp K H y (dd j)) → DpAll K H ys ((List.range n).map dd)
  | [], _, _, hl, _ => by subst hl; exact .nil
  | y :: ys, _, dd, hl, h => by
    subst hl
    rw [List.length_cons, List.range_succ_eq_map, List.map_cons, List.map_map]
    exact .cons (h 0 y rfl) (dpa_of (dd := dd ∘ Nat.succ) rfl fun j z e => h (j + 1) z e)
section
variable {K : PySem.W.Frag} {B : List Addr} {σ : L2.St} {H : Hp} {t : TE} {ta : TA} {d : PyData} {ds : List PyData}
theorem rd_non : RD K B (tC .non) .none σ H := fun _ _ q => q _ H (Same.refl H) .non
theorem rd_int {i : Int} : RD K B (tC (.int i)) (.int i) σ H := fun _ _ q => q _ H (Same.refl H) (.int i)
theorem rd_bl {b : Bool} : RD K B (tC (.bl b)) (.bool b) σ H := fun _ _ q => q _ H (Same.refl H) (.bl b)
theorem rd_str {x : Str} : RD K B (tC (.str x)) (.str x) σ H := fun _ _ q => q _ H (Same.refl H) (.str x)
theorem rd_var {i : Nat} {v : V} (e : σ[i]? = some (some v)) (h : Dp K (wo B H) v d) : RD K B (tVar i) d σ H := fun _ _ q => ⟨v, e, q _ H (Same.refl H) h⟩
theorem rd_nil : RDs K B tNil [] σ H := fun _ _ q => q _ H (Same.refl H) .nil
theorem rd_cons (h1 : RD K B t d σ H) (h2 : ∀ H', Same H H' → Liv B H' → RDs K B ta ds σ H') : RDs K B (tCons t ta) (d :: ds) σ H := fun l _ q =>
  h1 l _ fun v H1 s1 hv => h2 H1 s1 (l.same s1) (l.same s1) _ fun vs H2 s2 hvs => q _ H2 (s1.trans s2) (.cons (dp_same (wo_same s2) _ _ hv) hvs)
theorem rd_lst (h : RDs K B ta ds σ H) (hl : ds.length ≤ sizeLine := by decide) : RD K B (tLst ta) (.list ds) σ H := fun l _ q =>
  h l _ fun vs H1 s1 hvs => ⟨by rw [dpa_len hvs]; exact hl, fun p hp => q _ _ (s1.trans (sm_new hp)) (.lst (SqL.of (wo_get upd_same ((l.same s1).new hp))) (dpa_same (wo_same (sm_new hp)) _ _ hvs))⟩
theorem rd_tup (h : RDs K B ta ds σ H) (hl : ds.length ≤ sizeLine := by decide) : RD K B (tTup ta) (.tuple ds) σ H := fun l _ q =>
  h l _ fun vs H1 s1 hvs => ⟨by rw [dpa_len hvs]; exact hl, fun p hp => q _ _ (s1.trans (sm_new hp)) (.tup (SqT.of (wo_get upd_same ((l.same s1).new hp))) (dpa_same (wo_same (sm_new hp)) _ _ hvs))⟩
theorem rd_lstA {Q : VK} (l : Liv B H) (h : RDs K B ta ds σ H) (hl : ds.length ≤ sizeLine) (q : ∀ p xs H', Same H H' → H p = none → H' p = some (.lst xs) → DpAll K (wo B H') xs ds → Q (.ref p) H') : tLst ta σ H Q :=
  h l _ fun vs H1 s1 hvs => ⟨by rw [dpa_len hvs]; exact hl, fun p hp => q p vs _ (s1.trans (sm_new hp)) (same_new s1 hp) upd_same (dpa_same (wo_same (sm_new hp)) _ _ hvs)⟩
theorem gn1 {i : Nat} {v : V} {Q : L2.St → Hp → Prop} (h : Q (σ.set i (some v)) H) : gName i v σ H Q := h
theorem pr1 {k : V} {tv : TE} {Q : List (V × V) → Hp → Prop} (h : tv σ H fun y H2 => Q [(k, y)] H2) : tPairs [(tC k, tv)] σ H Q := h
theorem lc_rd {J : It} {n : Nat} {G : Hp → Prop} {Y : Nat → Hp → V → Hp → Prop} {H1 : Hp} (w : Walk J n G Y) {g : TG} {te : TE} {vs : List Nat} {D : Addr} {Qd : Hp → Prop} (hB : Liv B H1) (hD : H1 D = none) (hn : n < sizeLine) (dd : Nat → PyData) (hG : ∀ H, Same H1 H → G H)
    (hs : ∀ i x H H' (R : V → Hp → Prop), i < n → Same H1 H → Liv (D :: B) H → Y i H x H' → (∀ y H4, Same H H4 → Dp K (wo (D :: B) H4) y (dd i) → R y H4) → g x (wipe σ vs) H' fun σ2 H2 => wipe σ2 vs = wipe σ vs ∧ te σ2 H2 R)
    (hd : ∀ ys H, Same H1 H → H D = some (.lst ys) → DpAll K (wo B H) ys ((List.range n).map dd) → Dp K (wo B H) (.ref D) (.list ((List.range n).map dd)) → Qd H) :
    ∃ W : Nat → Nat → Hp → Prop, (∃ m, W 0 m (upd H1 D (.lst []))) ∧ ∀ i m H, W i m H →
      (J.stop i H ∧ Qd H) ∨ (J.go i H ∧ ∃ Nx : Hp → Prop, (∀ H', Nx H' → ∃ m', m' < m ∧ W (i + 1) m' H') ∧ ∀ x H', J.yld i H x H' → g x (wipe σ vs) H' fun σ2 H2 => wipe σ2 vs = wipe σ vs ∧ tYes σ2 H2 fun b H3 =>
        if b = true then te σ2 H3 fun y H4 => ∃ acc, H4 D = some (.lst acc) ∧ acc.length < sizeLine ∧ Nx (upd H4 D (.lst (acc ++ [y]))) else Nx H3) := by
  refine lc_keepH keep_same w hD hn (fun i y H => Dp K (wo (D :: B) H) y (dd i)) hG (fun i y H H' _ r h => dp_same (wo_same r) _ _ h) (fun i y H acc o _ _ h => by rw [wo_upd_in List.mem_cons_self]; exact h) (fun i x H H' acc R hi r hDa hy hR => hs i x H H' R hi r ((hB.same r).cons hDa) hy hR) (fun ys H hl hg r hDs => ?_)
  have ha := dpa_of hl fun j y e => dp_same wo_cons _ _ (hg j y e)
  exact hd ys H r hDs ha (.lst (SqL.of (wo_get hDs (hB.new hD))) ha)
end
end LX
set_option maxHeartbeats 4000000
namespace LX
open PySem PySem.Spec PyProof.Rows L2 C8 SX ClX
structure CMX (P : Program) (w : World) (K : PySem.W.Frag) (mg : Str → Option Value) (base : Heap) (k : Nat) (C : Addr) (m : Str) (sp : Sp) : Prop where
  ex : ∃ (p g : Addr) (fd : FuncData) (ps : List Str) (mc : Value), CRead K C mc ∧ CMet K C mc m p g ∧ FnOk P w K mg base (L2.CX P w) k g fd ps sp ∧ Binds K fd ps []
def tCMX (C : Addr) (sp : Sp) (E : L2.St → XK) (ta : TE) (t : TA) : TE := fun σ H Q => ta σ H fun x H1 => x = .ref C ∧ t σ H1 fun vs H2 => sp (.ref C :: vs) H2 Q (E σ)
section
variable {X : Cx} {k j : Nat} {C : Addr} {m : Str} {sp : Sp} {W : WX} {o e : Expr} {es : List Expr} {pos apos : Pos} {ta : TE} {t : TA} {pl : Sem Bool}
theorem run_codeS {f : Addr} {fd : FuncData} {ps : List Str} {σ : L2.St} {pins : List (Addr × Obj)} {H : Hp} {s : Shared} {Q : VK} {us : List Value} {vs : List V} (F : FnOk X.prog X.w X.K X.mg X.base (L2.CX X.prog X.w) k f fd ps sp) (hr : Room k X.A) (hb : Binds X.K fd ps []) (hx : PassesAt (L2.CX X.prog X.w) X σ (WE W σ))
    (I : Inv X pins σ H s) (r : Vals vs us) (h : sp vs H Q (WE W σ)) : codeAny (model X.prog X.w) X.A (.call (.ref f) ⟨us, []⟩) (fun r s' => match r with | .ok (.ret v) => EP X pins σ Q v s' | .ok _ => False | .error e => X.xe e s') s := by
  have hl : us.length = ps.length := by rw [← r.length]; exact F.len _ _ _ _ h
  have b := hb s us I.kIn (by rw [List.append_nil]; exact hl)
  rw [List.append_nil] at b
  refine codeAny_mono (F.run X.A X.stack s H ⟨us, []⟩ us vs Q (WE W σ) hr I.env0 b r h) fun r s' hq => ?_
  cases r with
  | error e => exact hx pins H s e s' I hq
  | ok fl =>
    cases fl with
    | ret u => exact I.after hq
    | next => exact False.elim hq
    | brk => exact False.elim hq
    | cont => exact False.elim hq
theorem pe_cmX (c : CMX X.prog X.w X.K X.mg X.base k C m sp) (tk : Takes X W) (hr : Room j X.A) (hk : k ≤ j) (he : PE X o ta) (ha : PA X (e :: es) t)
    (hst : starEach (e :: es) X.env = (false, eval e X.env) :: starEach es X.env := by rfl) (hpl : (backTo pos (starEach es X.env)).any (·.1) = false := by rfl)
    (ht : eval (.Call (.Attribute o m apos) (e :: es) [] pos) X.env = (do
      let ov ← eval o X.env
      standAt apos.atName
      let (f, first) ← holding [ov] (getMethod ov m pl)
      callWith pos f first (backTo pos (starEach (e :: es) X.env)) (backToKw pos (keywordEach [] X.env))) := by rfl) :
    PE X (.Call (.Attribute o m apos) (e :: es) [] pos) (tCMX C sp (WE W) ta t) := by
  obtain ⟨p, g, fd, ps, mc, r, cm, F, hb⟩ := c.ex
  refine ⟨fun pins s σ H Q I h => ?_⟩
  refine PySem.W.methodCall_KW (pl := pl) (thn (he.run pins s σ H _ I h) fun u s1 ⟨x, H1, I1, rx, ex, q⟩ => ?_) ht
  subst ex
  obtain rfl : u = Value.ref C := rx
  refine getmethcm_ok I1 r cm fun s2 I2 => ?_
  refine callwith_cm I2 (base_none I1 (Nat.le_refl _)) cm.fi (thn (ha.run pos _ s2 σ H1 _ I2 q) fun us s3 ⟨vs, H2, I3, rv, q2⟩ => ⟨⟨pin_at I3, I3.kIn⟩, ?_⟩) hst hpl
  have z : wpAny (model X.prog X.w) X.A (call (.ref s1.heap.objs.size) us) (EP X ((s1.heap.objs.size, PySem.W.methodObj (.ref g) (.ref C)) :: pins) σ Q) X.xe s3 :=
    wpAny_call (PySem.W.method_call (pin_at I3) (run_codeS (us := .ref C :: us) (vs := .ref C :: vs) F (hr.mono hk) hb (passAt tk σ) I3 (.cons rfl rv) q2))
  exact thn z fun _ _ y => unpinE y
theorem pe_c0 {x : Str} {p : Pos} {sp : Sp} {dvs : List V} (c : C8.Cal X.prog X.w X.K X.mg X.base k x sp dvs) (hr : Room j X.A) (hk : k ≤ j) (hg : Gl X x) (hdb : (x == ("__debug__" : Str)) = false := by decide) : PE X (.Call (.Name x p) [] [] pos) (tCall sp dvs C8.E0 tNil) := by
  obtain ⟨f, fd, ps, ds, F, hm, kp, b, d⟩ := c.ex
  exact pe_call0 F (hr.mono hk) hg hm kp b d C8.pass0 hdb
end
end LX
set_option maxHeartbeats 4000000
namespace LX
open PySem PySem.Spec PyProof.Rows L2 C8 SX
section
variable {prog : Program} {w : World} {A : Around} {R : Result → Shared → Prop} {I S : Addr} {fp wr : List Addr} {G : Array GenState → Array GenState → Prop} {n : Nat} {P : Nat → Value → Prop} {St : Nat → Shared → Prop}
def cntT (xs : List Str) : Nat → Nat
  | 0 => 0
  | i + 1 => if (xs.take i).contains (xs.getD i default) then cntT xs i else cntT xs i + 1
theorem cntT_succ {xs : List Str} {i : Nat} {x : Str} (h : xs[i]? = some x) : (if decide (x ∈ xs.take i) = true then cntT xs i else cntT xs i + 1) = cntT xs (i + 1) := by
  have e : xs.getD i default = x := by rw [List.getD_eq_getElem?_getD, h]; rfl
  show _ = if (xs.take i).contains (xs.getD i default) then cntT xs i else cntT xs i + 1
  rw [e]
  by_cases q : x ∈ xs.take i <;> simp [q]
theorem cntT_le (xs : List Str) : ∀ i, cntT xs i ≤ i
  | 0 => Nat.le_refl _
  | i + 1 => by
    have := cntT_le xs i
    unfold cntT
    split <;> omega
abbrev ElemG (prog : Program) (w : World) (xs : List Str) (i : Nat) (S : Addr) (h : Heap) : Prop := h.SetOf (PySem.strKind prog w) S (fun k => decide (k ∈ xs.take i)) (cntT xs i)
theorem ElemG.stay {xs : List Str} {i : Nat} {h h' : Heap} (e : ElemG prog w xs i S h) (k : ∀ o, h.get? S = some o → h'.get? S = some o) : ElemG prog w xs i S h' :=
  let ⟨o, es, ep, tb, ho, rest⟩ := e; ⟨o, es, ep, tb, k o ho, rest⟩
theorem set_loopG (W : WalksS prog w A.in1 I fp wr G n P St) (off : S ∉ fp) {xs : List Str} (hl : xs.length = n) (room : n < scanBound) (val : ∀ i v, P i v → ∃ x t, xs[i]? = some x ∧ v = .str x t) :
    ∀ (k i : Nat) (s : Shared), i + k = n → St i s → ElemG prog w xs i S s.heap → (∀ s', Moved (S :: wr) G s s' → ElemG prog w xs n S s'.heap → R (.ok (.ret .none)) s') →
      codeAny (model prog w) A (.builtin "set.update.loop" ⟨[.ref S, .ref I], []⟩) R s
  | 0, i, s, hk, hst, he, hR => by
    obtain rfl : i = n := hk
    refine codeAny_builtin PyProof.Rows.F.entry_set_update_loop ?_
    rw [Around.under_plainId PyProof.Rows.F.plain_set_update_loop _]
    refine wpAny_bind (W.done s _ _ hst fun s' hm => wpAny_pure (hR s' (hm.mono fun b hb => List.mem_cons_of_mem _ hb) (he.stay fun o e => hm.heap S o (fun h => off (W.sub _ h)) e)))
  | k + 1, i, s, hk, hst, he, hR => by
    refine codeAny_builtin PyProof.Rows.F.entry_set_update_loop ?_
    rw [Around.under_plainId PyProof.Rows.F.plain_set_update_loop _]
    refine wpAny_bind (W.item i s _ _ (by omega) hst fun v s' hP hst' hm => ?_)
    obtain ⟨x, t, hx, rfl⟩ := val i v hP
    have he' : ElemG prog w xs i S s'.heap := he.stay fun o e => hm.heap S o (fun h => off (W.sub _ h)) e
    show wpAny _ A.in1 (holding [Value.str x t] (setAdd S (.str x t)) >>= _) _ _ s'
    refine wpAny_bind (wpAny_holding ?_)
    unfold setAdd
    refine wpAny_holding (wpAny_bind ((PySem.strKind prog w).pyHash (k := x) (strKind_is _ _ _ _) ?_))
    refine wpAny_setAddHashed_of (knd := PySem.strKind prog w) (s := { s' with toks := s'.toks + 1 }) (strKind_is _ _ _ _) rfl he' (by have := cntT_le xs i; omega) fun h' hsb hS2 => ?_
    have he2 : ElemG prog w xs (i + 1) S h' := SetOf_congr hS2 (fun y => by rw [take_more hx]; by_cases e : y ∈ xs.take i <;> by_cases e2 : y = x <;> simp [e, e2]) (cntT_succ hx)
    refine wpAny_pure ⟨plainId_quiet PyProof.Rows.F.plain_set_update_loop _, set_loopG W off hl room val k (i + 1) _ (by omega) (W.frame _ s' _ _ hst' (Nat.le_succ _) fun b hb o e => ?_) he2 fun s2 hm2 he3 => ?_⟩
    · rw [hsb.2 b (fun h => off (h ▸ hb))]; exact e
    · refine hR s2 (Moved.trans W.gtrans ((hm.mono fun b hb => List.mem_cons_of_mem _ hb).then_heap (Nat.le_succ _) fun b o hb e => ?_) hm2) he3
      rw [hsb.2 b (fun h => hb (by rw [h]; exact List.mem_cons_self))]; exact e
end
section
variable {prog : Program} {w : World} {A : Around} {E : Value → Shared → Prop} {s : Shared}
theorem set_of_listG {l : Addr} {items : Array Value} {xs : List Str} {Q : Value → Shared → Prop} (hh : A.handled = none) (hl : s.heap.IsList l items) (hi : PyProof.Rows.StrsAre items.toList xs) (room : xs.length < scanBound)
    (h : ∀ (h' : Heap) (tk : Nat), ElemG prog w xs xs.length s.heap.objs.size h' → (∀ b o, s.heap.get? b = some o → h'.get? b = some o) → Q (.ref s.heap.objs.size) { s with heap := h', toks := tk }) :
    wpAny (model prog w) A (call (.type "set") [.ref l]) Q E s := by
  obtain ⟨c, tl, hmro⟩ := PySem.F.called_set.mro
  have hmade := PySem.F.called_set.made
  have hsub := PySem.F.called_set.sub
  refine wpAny_call (codeAny_of_tree ?_)
  refine wpAny_pure ⟨Code.quiet_builtin _ (by decide +kernel), codeAny_builtin PySem.F.entry_type_call ?_⟩
  rw [Around.under_plain (weight_type_call_type "set" [.ref l] []) rfl]
  have nt := PySem.F.called_set.notType
  have cc := PySem.F.called_set.canCreate
  have ct := PySem.F.typeCall_set_1 (.ref l)
  repeat (any_goals (first | assumption | wp_step))
  refine codeAny_mono (code_set_new_1 (.ref l) (E := E) (Q₁ := fun obj s1 => ∃ led : Bool, obj = .ref s.heap.objs.size ∧ s1 = { s with heap := s.heap.push { cls := .type "set", dict := none, data := .set #[] 0 (.fresh 0 0 led) } }) fun led => ⟨led, rfl, rfl⟩) fun r s1 hr => ?_
  match r, hr with
  | .ok (.ret obj), hr =>
    obtain ⟨led, rfl, rfl⟩ := hr
    have hS : (s.heap.push (setO led)).get? s.heap.objs.size = some (setO led) := Heap.get?_push_size _ rfl
    have hTy : Shared.TypeIs { s with heap := s.heap.push (setO led) } (.ref s.heap.objs.size) "set" := ⟨_, hS, rfl⟩
    have li := PySem.F.called_set.init.lookup
    have bi := PySem.F.called_set.init.bind (.ref s.heap.objs.size)
    repeat (any_goals (first | assumption | wp_step))
    refine codeAny_mono (codeAny_call_builtin (R := wants (fun r s2 => r = .none ∧ ∃ h' tk, s2 = { s with heap := h', toks := tk } ∧ ElemG prog w xs xs.length s.heap.objs.size h' ∧ (∀ b o, s.heap.get? b = some o → h'.get? b = some o)) E)
      PySem.F.called_set.init.plain PySem.F.entry_set_init (check_set_init_1 hTy ?_)) fun r2 s2 hr2 => ?_
    · obtain ⟨⟨oc, od, odt, osl⟩, hol, hcl, nl, hdl⟩ := hl
      dsimp only at hcl hdl
      subst hcl hdl
      have hol' : (s.heap.push (setO led)).get? l = some { cls := .type "list", dict := od, data := .seq items nl, slots := osl } := Heap.get?_push_of_some _ hol
      have ss := PySem.F.sub_list_set
      have sf := PySem.F.sub_list_frozenset
      have ne : (Value.type "list" == Value.type "dict") = false := by decide
      have hl1 : (s.heap.push (setO led)).IsList l items := ⟨_, hol', rfl, nl, rfl⟩
      unfold Builtin.«set.__init__» noKeywords Builtin.Frozenset.updateFrom
      generalize hPI : pyIter = PI
      wp_walk
      subst hPI
      refine wpAny_pyIter_list hl1 ?_
      refine wpAny_bind (wpAny_runValue ?_)
      have hlS : l < s.heap.objs.size := Heap.lt_size hol
      have hz : (s.heap.push (setO led)).objs.size = s.heap.objs.size + 1 := Heap.size_push ..
      have neI : l ≠ (s.heap.push (setO led)).objs.size := by rw [hz]; exact Nat.ne_of_lt (Nat.lt_succ_of_lt hlS)
      have off : s.heap.objs.size ∉ [(s.heap.push (setO led)).objs.size, l] := by
        rw [hz]; simp only [List.mem_cons, List.not_mem_nil, or_false, not_or]
        exact ⟨Nat.ne_of_lt (Nat.lt_succ_self _), Nat.ne_of_gt hlS⟩
      have hsz : xs.length = items.size := by rw [← StrsAre.len_eq hi, Array.length_toList]
      refine set_loopG (xs := xs) ((Walks.list (A := A.in1.in1.in1) (by simp [hh]) _ l neI items).toS) off hsz (by rw [← hsz]; exact room) (fun i v hv => ?_) items.size 0 _ (Nat.zero_add _) ⟨⟨_, Heap.get?_push_size _ rfl, rfl, rfl⟩, hl1.push _⟩ ?_ fun s' hm hS' => ?_
      · obtain ⟨t, e⟩ := SS.strs_at hi i v (by rw [Array.getElem?_toList]; exact hv)
        have hlt : i < xs.length := by rw [hsz]; exact (Array.getElem?_eq_some_iff.mp hv).1
        exact ⟨xs[i], t, List.getElem?_eq_getElem hlt, by rw [e, List.getD_eq_getElem?_getD, List.getElem?_eq_getElem hlt]; rfl⟩
      · exact PyProof.Rows.SetOf_congr ((PyProof.Rows.setObjOf_fresh (knd := PySem.strKind prog w) led).setOf (Heap.get?_push_of_some _ hS) (by unfold scanBound; omega)) (fun _ => by simp) rfl
      · obtain ⟨h', g', d', tk', os'⟩ := s'
        obtain rfl : g' = s.gens := hm.gens
        obtain rfl : d' = s.drawn := hm.drawn
        obtain rfl : os' = s.os := hm.os
        refine wpAny_pure (wpAny_pure ⟨rfl, h', tk', rfl, by rw [hsz]; exact hS', fun b o e => ?_⟩)
        have hb : b < s.heap.objs.size := Heap.lt_size e
        refine hm.heap b o (fun hmem => ?_) (Heap.get?_push_of_some _ (Heap.get?_push_of_some _ e))
        have e' : b = s.heap.objs.size ∨ b = (s.heap.push (setO led)).objs.size := by simpa using hmem
        rcases e' with e' | e'
        · exact Nat.ne_of_lt hb e'
        · rw [hz] at e'; exact Nat.ne_of_lt (Nat.lt_succ_of_lt hb) e'
    · match r2, hr2 with
      | .ok (.ret r), hr2 =>
        obtain ⟨rfl, h', tk, rfl, hS', hk'⟩ := hr2
        repeat (any_goals (first | assumption | wp_step))
        exact h _ _ hS' hk'
      | .error e, hr2 => exact hr2
  | .error e, hr => exact hr
end
section
variable {X : Cx}
def tLenSetG (K : PySem.W.Frag) (ta : TE) : TE := fun σ H Q => ta σ H fun x H1 => ∃ (l : Addr) (xs : List (List Nat)), x = V.ref l ∧ SqL K H1 l (txs xs) ∧ xs.length < 60 ∧ Q (.int (cntT (xs.map S) xs.length : Nat)) H1
theorem pe_lenSetG {a : Expr} {ta : TE} {p p2 q pos : Pos} (hc : X.calm = true) (hg : Gl X "len") (hm : X.mg "len" = none) (hg2 : Gl X "set") (hm2 : X.mg "set" = none) (ha : PE X a ta)
    (na : starEach [a] X.env = (false, eval a X.env) :: starEach [] X.env := by rfl) : PE X (.Call (.Name "len" p) [.Call (.Name "set" p2) [a] [] q] [] pos) (tLenSetG X.K ta) := by
  refine ⟨fun pins s σ H Q I h => ?_⟩
  refine Call_ (ld_blt I hg hm PySem.boot_len (PyProof.Rows.callWith_builtin1 (PyProof.Rows.args_cons ?_ rfl) rfl rfl))
  refine Call_ (ld_blt I hg2 hm2 PyProof.Rows.boot_set (PyProof.Rows.callWith_type1 (PyProof.Rows.args_cons (thn (ha.run pins s σ H _ I h) fun v s1 ⟨x, H1, I1, r1, q1⟩ => PyProof.Rows.args_nil ?_) na) na rfl))
  obtain ⟨l, xs, rfl, hq, h1, q1⟩ := q1
  cases r1
  have e0 : txs xs = (xs.map S).map V.str := by unfold txs; rw [List.map_map]; rfl
  have room : (xs.map S).length < scanBound := by rw [List.length_map]; unfold scanBound; omega
  rw [e0] at hq
  obtain ⟨its, r, pl, hz⟩ := I1.list hq
  refine set_of_listG (I1.ok.hd hc) pl.isList (by simpa using strsAre_of r) room fun h' tk hS hk => ?_
  refine PyProof.Rows.args_nil ?_
  obtain ⟨o, es, ep, t, ho, hex, hd, _, _, _, hf, hn⟩ := hS
  have I2 : Inv X pins σ H1 { s1 with heap := h', toks := tk } := I1.kept hk
  rw [List.length_map] at hn
  have := cntT_le (xs.map S) xs.length
  exact call_len_set ho hex hd hf (by rw [hn]; omega) ⟨.int (cntT (xs.map S) xs.length : Nat), H1, I2.tok _, ⟨_, by rw [hn]⟩, q1⟩
end
end LX
set_option maxHeartbeats 4000000
namespace LX
open PySem PySem.Spec PyProof.Rows L2 C8 SX
def keyT (e : Int × Value) : Str := match e.2 with
  | .str k _ => k
  | _ => Str.empty
def GoodT (w : World) (e : Int × Value) : Prop := ∃ (k : Str) (u : Tok), e.2 = Value.str k u ∧ e.1 = hashStr w k
def SetT (w : World) (h : Heap) (a : Addr) (ks : List Str) : Prop :=
  ∃ o es ep t, h.get? a = some o ∧ o.ExactSet ∧ o.data = .set es ep t ∧ (∀ x ∈ es.toList, GoodT w x) ∧ (es.toList.map keyT).Nodup ∧ (∀ k, k ∈ es.toList.map keyT ↔ k ∈ ks) ∧ es.size ≤ ks.length ∧ t.fits es.size = true ∧ Ris t.place.toList ∧
    (w.params.followText "set-order" = true ∨ t.led = true)
section
variable {P : Program} {w : World} {A : Around} {E : Value → Shared → Prop} {s : Shared} {a : Addr} {ks : List Str}
theorem SetT.stay {h h' : Heap} (R : SetT w h a ks) (k : ∀ o, h.get? a = some o → h'.get? a = some o) : SetT w h' a ks :=
  let ⟨o, es, ep, t, ho, r⟩ := R; ⟨o, es, ep, t, k o ho, r⟩
theorem is_strT (k : Str) (u : Tok) : (PySem.strKind P w).is k (.str k u) = true := by
  show Value.isStrOf k (.str k u) = true
  simp [Value.isStrOf]
theorem goodT_el {l : List (Int × Value)} (g : ∀ x ∈ l, GoodT w x) : ElemsOf (PySem.strKind P w) l := fun x hx => by
  obtain ⟨k, u, e1, e2⟩ := g x hx
  exact ⟨⟨k, by rw [e1]; exact is_strT k u, e2⟩, by rw [e1]; rfl⟩
theorem goodT_is {x : Int × Value} (g : GoodT w x) (k : Str) : (PySem.strKind P w).is k x.2 = true ↔ keyT x = k := by
  obtain ⟨z, u, e, _⟩ := g
  unfold keyT
  rw [e]
  show Value.isStrOf k (.str z u) = true ↔ z = k
  simp [Value.isStrOf]
theorem setT_tail {g : Bool → Sem Unit} (hg : ∀ (b : Bool) (s1 : Shared) (Q' : Unit → Shared → Prop), Q' () s1 → wpAny (model P w) A (g b) Q' E s1)
    {o : Obj} {es es1 : Array (Int × Value)} {ep : Nat} {t t2 : SetTable} (ho : s.heap.get? a = some o) (hex : o.ExactSet) (hd : o.data = .set es ep t) (g1 : ∀ x ∈ es1.toList, GoodT w x) (nd1 : (es1.toList.map keyT).Nodup) (m1 : ∀ k, k ∈ es1.toList.map keyT ↔ k ∈ ks)
    (hk1 : es1.size ≤ ks.length) (room : ks.length < scanBound) (hf2 : t2.fits es1.size = true) (hr : Ris t2.place.toList) (hl : w.params.followText "set-order" = true ∨ t2.led = true) {wasDummy : Bool} {R : Option Bool → Shared → Prop}
    (hR : ∀ h2, Heap.SameBut a s.heap h2 → SetT w h2 a ks → R (some true) { s with heap := h2 }) :
    wpAny (model P w) A (storeSet a es1 t2 >>= fun _ => if (!wasDummy && t2.tooFull) = true then (do
            g (relayAll t2 es1 (SetTable.grown es1.size)).2.2
            storeSet a (relayAll t2 es1 (SetTable.grown es1.size)).1 (relayAll t2 es1 (SetTable.grown es1.size)).2.1; pure (some true))
          else pure (some true)) R E s := by
  have hb1 : es1.size < scanBound := Nat.lt_of_le_of_lt hk1 room
  refine wpAny_bind (wpAny_storeSet_of ho hd ?_ (fits_of_scanBound hb1))
  have o1 := store_at (es' := es1) (t' := t2) ho hd
  have b1 := Heap.SameBut.update s.heap a (Obj.putSet es1 t2)
  by_cases c : (!wasDummy && t2.tooFull) = true
  · rw [if_pos c]
    have pm := relayAll_perm t2 es1 (SetTable.grown es1.size)
    have fit3 := relayAll_fits t2 es1 (SetTable.grown es1.size)
    have ris3 := relayAll_ris t2 es1 (SetTable.grown es1.size)
    have led3 := relayAll_led t2 es1 (SetTable.grown es1.size)
    generalize relayAll t2 es1 (SetTable.grown es1.size) = Z at pm fit3 ris3 led3 ⊢
    obtain ⟨es2, t3, gv⟩ := Z
    dsimp only at pm fit3 ris3 led3 ⊢
    have sz2 : es2.size = es1.size := by rw [← Array.length_toList, pm.length_eq, Array.length_toList]
    refine wpAny_bind (hg _ _ _ ?_)
    refine wpAny_bind (wpAny_storeSet_of o1 rfl ?_ (fits_of_scanBound (by rw [sz2]; exact hb1)))
    have o2 := store_at (es' := es2) (t' := t3) o1 rfl
    refine wpAny_pure (hR _ (b1.trans (Heap.SameBut.update _ a _)) ⟨_, es2, _, t3, o2, hex, rfl, fun x hx => g1 x (pm.mem_iff.mp hx), (pm.map keyT).nodup_iff.mpr nd1, fun k => (pm.map keyT).mem_iff.trans (m1 k), by rw [sz2]; exact hk1, fit3, ris3, ?_⟩)
    exact hl.imp id fun z => led3.trans z
  · rw [if_neg c]
    exact wpAny_pure (hR _ b1 ⟨_, es1, _, t2, o1, hex, rfl, g1, nd1, m1, hk1, hf2, hr, hl⟩)
theorem setT_add {k : Str} {u : Tok} {Q : Bool → Shared → Prop} (R : SetT w s.heap a ks) (room : ks.length + 1 < scanBound) (hQ : ∀ b h2, Heap.SameBut a s.heap h2 → SetT w h2 a (k :: ks) → Q b { s with heap := h2 }) :
    wpAny (model P w) A (setAddHashed a (.str k u) (hashStr w k)) Q E s := by
  obtain ⟨o, es, ep, t, ho, hex, hd, g, nd, hm, hk, hf, hr, hl⟩ := R
  have hkey : (PySem.strKind P w).is k (.str k u) = true := is_strT k u
  have hsc : (Value.str k u).scannable = true := rfl
  have hel : ElemsOf (PySem.strKind P w) es.toList := goodT_el g
  have hb : es.size < scanBound := by omega
  show wpAny (model P w) A (setAddHashed a (.str k u) ((PySem.strKind P w).hash k)) Q E s
  unfold setAddHashed setAddHashedIn
  refine wpAny_holding (wpAny_bind (wpAny_setState_of ho hd hf ?_))
  dsimp only
  rw [byScan_of hsc hb hel]
  simp only [↓reduceIte]
  unfold setAddByScan
  refine wpAny_bind (wpAny_bind (wpAny_rule (wpAny_bind (wpAny_setScan_of hkey ho hd hf hel ?_))))
  cases found : List.findIdx? (fun x => (PySem.strKind P w).is k x.2) es.toList with
  | some j =>
    dsimp only
    obtain ⟨hj, pj, _⟩ := List.findIdx?_eq_some_iff_getElem.mp found
    have there : k ∈ es.toList.map keyT := List.mem_map.mpr ⟨_, List.getElem_mem hj, (goodT_is (P := P) (g _ (List.getElem_mem hj)) k).mp pj⟩
    refine wpAny_pure (wpAny_pure (hQ _ s.heap (Heap.SameBut.refl a s.heap) ⟨o, es, ep, t, ho, hex, hd, g, nd, fun i => ?_, Nat.le_succ_of_le hk, hf, hr, hl⟩))
    rw [hm i, List.mem_cons]
    exact ⟨.inr, fun z => z.elim (fun e => (hm i).mp (e ▸ there)) id⟩
  | none =>
    dsimp only
    have fresh : k ∉ es.toList.map keyT := fun z => by
      obtain ⟨x, hx, q⟩ := List.mem_map.mp z
      have c := List.findIdx?_eq_none_iff.mp found x hx
      rw [(goodT_is (P := P) (g x hx) k).mpr q] at c
      cases c
    have gave : ∀ (b : Bool) {s1 : Shared} {Q' : Unit → Shared → Prop}, Q' () s1 → wpAny (model P w) A (match b with | true => rule "set.scan.the-table-gave-way" | false => pure ()) Q' E s1 :=
      fun b s1 Q' q => by cases b with
        | true => exact wpAny_rule q
        | false => exact wpAny_pure q
    have pm := layNew_perm t es ((PySem.strKind P w).hash k) (.str k u)
    have fit1 := layNew_fits t es ((PySem.strKind P w).hash k) (.str k u)
    have ris1 := layNew_ris t es ((PySem.strKind P w).hash k) (.str k u) hr
    have led1 := layNew_led t es ((PySem.strKind P w).hash k) (.str k u)
    generalize layNew t es ((PySem.strKind P w).hash k) (.str k u) = Z at pm fit1 ris1 led1 ⊢
    obtain ⟨es1, t1, dm, gv⟩ := Z
    dsimp only at pm fit1 ris1 led1 ⊢
    rw [Array.toList_push] at pm
    have pc : es1.toList.Perm (((PySem.strKind P w).hash k, Value.str k u) :: es.toList) := pm.trans (List.perm_append_singleton _ _)
    have pk : (es1.toList.map keyT).Perm (k :: es.toList.map keyT) := pc.map keyT
    have g1 : ∀ x ∈ es1.toList, GoodT w x := fun x hx => by
      rcases List.mem_cons.mp (pc.mem_iff.mp hx) with z | z
      · rw [z]; exact ⟨k, u, rfl, rfl⟩
      · exact g x z
    have nd1 := pk.nodup_iff.mpr (List.nodup_cons.mpr ⟨fresh, nd⟩)
    have m1 : ∀ i, i ∈ es1.toList.map keyT ↔ i ∈ k :: ks := fun i => by rw [pk.mem_iff, List.mem_cons, List.mem_cons, hm i]
    have sz1 : es1.size = es.size + 1 := by rw [← Array.length_toList, pc.length_eq, List.length_cons, Array.length_toList]
    have hk1 : es1.size ≤ (k :: ks).length := by rw [sz1, List.length_cons]; omega
    have led2 : w.params.followText "set-order" = true ∨ t1.led = true := hl.imp id fun z => led1.trans z
    refine wpAny_bind (gave _ ?_)
    by_cases hp : t1.plain = true
    · rw [if_pos hp]
      refine wpAny_bind ?_
      rw [hashByValue_scannable 8 hsc]
      refine wpAny_pure ?_
      refine setT_tail (ks := k :: ks) ?_ ho hex hd g1 nd1 m1 hk1 room ?_ ?_ ?_ ?_
      · exact fun b s1 Q' q => gave b q
      · first | exact SetTable.fits_plain_off fit1 | (split <;> first | exact fit1 | exact SetTable.fits_plain_off fit1)
      · first | exact ris1 | (split <;> exact ris1)
      · first | exact led2 | (split <;> exact led2)
      · exact fun h2 sb r => by dsimp only; exact wpAny_pure (hQ _ h2 sb r)
    · rw [if_neg hp]
      refine wpAny_bind (wpAny_pure ?_)
      simp only [↓reduceIte]
      refine setT_tail (ks := k :: ks) ?_ ho hex hd g1 nd1 m1 hk1 room fit1 ris1 led2 ?_
      · exact fun b s1 Q' q => gave b q
      · exact fun h2 sb r => by dsimp only; exact wpAny_pure (hQ _ h2 sb r)
theorem setT_fresh {h : Heap} : SetT w (h.push { cls := .type "set", dict := none, data := .set #[] 0 (.fresh 0 0 (!w.params.followText "set-order")) }) h.objs.size [] := by
  refine ⟨_, #[], 0, _, Heap.get?_push_size _ rfl, ⟨rfl, rfl, rfl⟩, rfl, fun x hx => by simp at hx, by simp, fun k => by simp, Nat.le_refl _, by rfl, List.Pairwise.nil, ?_⟩
  show _ ∨ (!w.params.followText "set-order") = true
  cases w.params.followText "set-order" with
  | true => exact .inl rfl
  | false => exact .inr rfl
end
section
variable {prog : Program} {w : World} {A : Around} {R : Result → Shared → Prop} {I S : Addr} {fp wr : List Addr} {G : Array GenState → Array GenState → Prop} {n : Nat} {St : Nat → Shared → Prop} {x : Str}
def sgn (x : Str) : List Str := x.cps.toList.map fun c => ⟨#[c]⟩
theorem setT_loop (W : WalksS prog w A.in1 I fp wr G n (SignAt x) St) (off : S ∉ fp) (hl : x.cps.size = n) (room : n + 1 < scanBound) :
    ∀ (k i : Nat) (s : Shared) (ks : List Str), i + k = n → St i s → SetT w s.heap S ks → ks.length = i → (∀ z, z ∈ ks ↔ z ∈ (sgn x).take i) → (∀ s' ks', Moved (S :: wr) G s s' → SetT w s'.heap S ks' → (∀ z, z ∈ ks' ↔ z ∈ sgn x) → ks'.length = n → R (.ok (.ret .none)) s') →
      codeAny (model prog w) A (.builtin "set.update.loop" ⟨[.ref S, .ref I], []⟩) R s
  | 0, i, s, ks, hk, hst, he, hki, hz, hR => by
    obtain rfl : i = n := hk
    refine codeAny_builtin PyProof.Rows.F.entry_set_update_loop ?_
    rw [Around.under_plainId PyProof.Rows.F.plain_set_update_loop _]
    refine wpAny_bind (W.done s _ _ hst fun s' hm => wpAny_pure (hR s' ks (hm.mono fun b hb => List.mem_cons_of_mem _ hb) (he.stay fun o e => hm.heap S o (fun h => off (W.sub _ h)) e) (fun z => ?_) hki))
    rw [hz z, List.take_of_length_le (by unfold sgn; rw [List.length_map, Array.length_toList]; omega)]
  | k + 1, i, s, ks, hk, hst, he, hki, hz, hR => by
    refine codeAny_builtin PyProof.Rows.F.entry_set_update_loop ?_
    rw [Around.under_plainId PyProof.Rows.F.plain_set_update_loop _]
    refine wpAny_bind (W.item i s _ _ (by omega) hst fun v s' hP hst' hm => ?_)
    obtain ⟨c, u, hc, rfl⟩ := hP
    have he2 : SetT w s'.heap S ks := he.stay fun o e => hm.heap S o (fun h => off (W.sub _ h)) e
    show wpAny _ A.in1 (holding [Value.str ⟨#[c]⟩ u] (setAdd S (.str ⟨#[c]⟩ u)) >>= _) _ _ s'
    refine wpAny_bind (wpAny_holding ?_)
    unfold setAdd
    refine wpAny_holding (wpAny_bind ((PySem.strKind prog w).pyHash (k := ⟨#[c]⟩) (is_strT _ _) ?_))
    refine setT_add (s := { s' with toks := s'.toks + 1 }) he2 (by omega) fun b h2 sb he3 => ?_
    refine wpAny_pure ⟨plainId_quiet PyProof.Rows.F.plain_set_update_loop _, setT_loop W off hl room k (i + 1) _ _ (by omega) (W.frame _ s' _ _ hst' (Nat.le_succ _) fun b hb o e => ?_) he3 (by rw [List.length_cons, hki]) (fun z => ?_) fun s2 ks2 hm2 he4 hz2 hn2 => ?_⟩
    · rw [sb.2 b (fun h => off (h ▸ hb))]; exact e
    · have hci : (sgn x)[i]? = some ⟨#[c]⟩ := by unfold sgn; rw [List.getElem?_map, Array.getElem?_toList, hc]; rfl
      rw [List.mem_cons, hz z, List.take_succ, hci, List.mem_append]
      show z = _ ∨ z ∈ (sgn x).take i ↔ z ∈ (sgn x).take i ∨ z ∈ [(⟨#[c]⟩ : Str)]
      rw [List.mem_singleton]
      exact Or.comm
    · refine hR s2 ks2 (Moved.trans W.gtrans ((hm.mono fun b hb => List.mem_cons_of_mem _ hb).then_heap (Nat.le_succ _) fun b o hb e => ?_) hm2) he4 hz2 hn2
      rw [sb.2 b (fun h => hb (by rw [h]; exact List.mem_cons_self))]; exact e
end
section
variable {prog : Program} {w : World} {A : Around} {E : Value → Shared → Prop} {s : Shared}
theorem set_of_text {x : Str} {t : Tok} {Q : Value → Shared → Prop} (hh : A.handled = none) (room : x.cps.size + 1 < scanBound)
    (h : ∀ (h' : Heap) (u : Nat) ks, SetT w h' s.heap.objs.size ks → (∀ z, z ∈ ks ↔ z ∈ sgn x) → ks.length = x.cps.size → (∀ b o, s.heap.get? b = some o → h'.get? b = some o) → Q (.ref s.heap.objs.size) { s with heap := h', toks := u }) :
    wpAny (model prog w) A (call (.type "set") [.str x t]) Q E s := by
  obtain ⟨c, tl, hmro⟩ := PySem.F.called_set.mro
  have hmade := PySem.F.called_set.made
  have hsub := PySem.F.called_set.sub
  refine wpAny_call (codeAny_of_tree ?_)
  refine wpAny_pure ⟨Code.quiet_builtin _ (by decide +kernel), codeAny_builtin PySem.F.entry_type_call ?_⟩
  rw [Around.under_plain (weight_type_call_type "set" [.str x t] []) rfl]
  have nt := PySem.F.called_set.notType
  have cc := PySem.F.called_set.canCreate
  have ct := PySem.F.typeCall_set_1 (.str x t)
  repeat (any_goals (first | assumption | wp_step))
  refine codeAny_mono (code_set_led1 (.str x t) (E := E) (Q₁ := fun obj s1 => obj = .ref s.heap.objs.size ∧ s1 = { s with heap := s.heap.push { cls := .type "set", dict := none, data := .set #[] 0 (.fresh 0 0 (!w.params.followText "set-order")) } }) ⟨rfl, rfl⟩) fun r s1 hr => ?_
  match r, hr with
  | .ok (.ret obj), hr =>
    obtain ⟨rfl, rfl⟩ := hr
    have f0 : SetT w _ s.heap.objs.size [] := setT_fresh (w := w) (h := s.heap)
    generalize (!w.params.followText "set-order") = led at f0 ⊢
    have hS : (s.heap.push (setO led)).get? s.heap.objs.size = some (setO led) := Heap.get?_push_size _ rfl
    have hTy : Shared.TypeIs { s with heap := s.heap.push (setO led) } (.ref s.heap.objs.size) "set" := ⟨_, hS, rfl⟩
    have li := PySem.F.called_set.init.lookup
    have bi := PySem.F.called_set.init.bind (.ref s.heap.objs.size)
    repeat (any_goals (first | assumption | wp_step))
    refine codeAny_mono (codeAny_call_builtin (R := wants (fun r s2 => r = .none ∧ ∃ h' u ks, s2 = { s with heap := h', toks := u } ∧ SetT w h' s.heap.objs.size ks ∧ (∀ z, z ∈ ks ↔ z ∈ sgn x) ∧ ks.length = x.cps.size ∧ (∀ b o, s.heap.get? b = some o → h'.get? b = some o)) E)
      PySem.F.called_set.init.plain PySem.F.entry_set_init (check_set_init_1 hTy ?_)) fun r2 s2 hr2 => ?_
    · have ne : (Value.type "str" == Value.type "dict") = false := by decide
      have ss := PySem.F.sub_str_set
      have sf := PySem.F.sub_str_frozenset
      unfold Builtin.«set.__init__» noKeywords Builtin.Frozenset.updateFrom
      generalize hPI : pyIter = PI
      wp_walk
      subst hPI
      refine wpAny_pyIter_str fun o St hW hst => ?_
      refine wpAny_bind (wpAny_runValue ?_)
      have hz : (s.heap.push (setO led)).objs.size = s.heap.objs.size + 1 := Heap.size_push ..
      have off : s.heap.objs.size ∉ [(s.heap.push (setO led)).objs.size] := by
        rw [hz, List.mem_singleton]
        exact Nat.ne_of_lt (Nat.lt_succ_self _)
      refine setT_loop (n := x.cps.size) (R := _) ((hW A.in1.in1.in1 (by simp [hh])).toS) off rfl room x.cps.size 0 _ [] (Nat.zero_add _) hst (f0.stay fun o' e => Heap.get?_push_of_some _ e) rfl (fun z => by simp) fun s' ks' hm hS' hz' hn' => ?_
      obtain ⟨h', g', d', tk', os'⟩ := s'
      obtain rfl : g' = s.gens := hm.gens
      obtain rfl : d' = s.drawn := hm.drawn
      obtain rfl : os' = s.os := hm.os
      refine wpAny_pure (wpAny_pure ⟨rfl, h', tk', ks', rfl, hS', hz', hn', fun b o' e => ?_⟩)
      have hb : b < s.heap.objs.size := Heap.lt_size e
      refine hm.heap b o' (fun hmem => ?_) (Heap.get?_push_of_some _ (Heap.get?_push_of_some _ e))
      have e' : b = s.heap.objs.size ∨ b = (s.heap.push (setO led)).objs.size := by simpa using hmem
      rcases e' with e' | e'
      · exact Nat.ne_of_lt hb e'
      · rw [hz] at e'; exact Nat.ne_of_lt (Nat.lt_succ_of_lt hb) e'
    · match r2, hr2 with
      | .ok (.ret r), hr2 =>
        obtain ⟨rfl, h', u, ks, rfl, hS', hz', hn', hk'⟩ := hr2
        repeat (any_goals (first | assumption | wp_step))
        exact h _ _ _ hS' hz' hn' hk'
      | .error e, hr2 => exact hr2
  | .error e, hr => exact hr
theorem sorted_setX {a : Addr} {ks : List Str} {Q : Value → Shared → Prop} (R : SetT w s.heap a ks) (hh : A.handled = none) (h64 : ks.length < 64)
    (hQ : ∀ s' p (out : Array Value) (c : Nat) (ss : List Str), (∀ b o, s.heap.get? b = some o → s'.heap.get? b = some o) → s'.gens = s.gens → s'.os = s.os → s.heap.objs.size ≤ p → s'.heap.get? p = some (seqObj "list" out c) →
      StrsAre out.toList ss → sortedS ss = true → ss.Nodup → (∀ k, k ∈ ss ↔ k ∈ ks) → ss.length ≤ ks.length → Q (.ref p) s') : wpAny (model prog w) A (call (.builtin "sorted") [.ref a]) Q E s := by
  obtain ⟨o, es, ep, t, ho, hex, hd, g, nd, hm, hk, hf, hr, hl⟩ := R
  refine Calls.call_function_entry kind_sorted plain_sorted entry_sorted (args_sorted1 _) ?_
  unfold Builtin.«sorted»
  refine wpAny_bind (m := checkCount "sorted" 1 1 _) (wpAny_pure (wpAny_bind (collect_set (A := A.in1) hh ⟨o, ho, hex.1, hd⟩ hf (by unfold scanBound; omega) hr hl fun s1 vs k1 hz g1 o1 pm => ?_)))
  have hvl : vs.length ≤ ks.length := by rw [pm.length_eq, List.length_map, Array.length_toList]; exact hk
  have isT : ∀ v ∈ vs, ∃ (k : Str) (u : Tok), v = Value.str k u := fun v hv => by
    obtain ⟨e, he, q⟩ := List.mem_map.mp (pm.mem_iff.mp hv)
    obtain ⟨k, u, h1, _⟩ := g e he
    exact ⟨k, u, by rw [← q]; exact h1⟩
  have hS : StrsAre vs (vs.map fun v => keyT (0, v)) := by
    clear pm hvl
    induction vs with
    | nil => exact .nil
    | cons v r ih =>
      obtain ⟨k, u, rfl⟩ := isT v List.mem_cons_self
      exact .cons _ _ (ih fun x hx => isT x (List.mem_cons_of_mem _ hx))
  have pk : (vs.map fun v => keyT (0, v)).Perm (es.toList.map keyT) := by
    have q := pm.map fun v => keyT (0, v)
    rw [List.map_map] at q
    exact q
  refine wpAny_bind (wpAny_newList ?_ (by rw [sizeLine_eq]; omega))
  have hoL : (s1.heap.push (seqObj "list" vs.toArray 0)).get? s1.heap.objs.size = some (seqObj "list" vs.toArray 0) := Heap.get?_push_size _ rfl
  refine wpAny_bind (wpAny_holding (wpAny_call_entry slot_list_sort ⟨_, hoL, rfl⟩ entry_list_sort
    (list_sort_treeK strKind_oneLt (s := { s1 with heap := s1.heap.push (seqObj "list" vs.toArray 0) }) hoL hS.keysOf (fun v1 v2 rest e => keyKind_strs (by rw [← e]; exact hS)) (by omega) fun st' hp hs => ⟨_, rfl, ?_⟩) (args_list_sort _)))
  obtain ⟨ys, y1, y2, y3⟩ := sorted_out_str hS hp hs
  obtain ⟨c, hc⟩ := sortedHeap_at (vs := vs) (out := (arrOf st').map (·.2)) hoL
  have pn := y2.trans pk
  refine wpAny_pure ⟨_, rfl, hQ _ s1.heap.objs.size _ c ys (fun b u e => ?_) g1 o1 hz hc y1 y3 (pn.nodup_iff.mpr nd) (fun k => by rw [pn.mem_iff, hm k]) (by rw [pn.length_eq, List.length_map, Array.length_toList]; exact hk)⟩
  have q := k1 b u e
  have hlt := Heap.lt_size q
  show (sortedHeap (s1.heap.push (seqObj "list" vs.toArray 0)) s1.heap.objs.size vs _).get? b = some u
  rw [sortedHeap_old (Nat.ne_of_lt hlt) (by rw [size_push']; exact Nat.lt_succ_of_lt hlt)]
  exact Heap.get?_push_of_some _ q
end
section
variable {X : Cx}
theorem singles_of : ∀ {ss : List Str} {l : List Nat}, (∀ k ∈ ss, ∃ c ∈ l, k = S [c]) → ∃ ds : List Nat, ss = ds.map fun d => S [d]
  | [], _, _ => ⟨[], rfl⟩
  | k :: ss, l, h => by
    obtain ⟨c, _, rfl⟩ := h k List.mem_cons_self
    obtain ⟨ds, rfl⟩ := singles_of (ss := ss) (l := l) fun x hx => h x (List.mem_cons_of_mem _ hx)
    exact ⟨c :: ds, rfl⟩
theorem sortX_run {pins : List (Addr × Obj)} {σ : L2.St} {H1 : Hp} {Q : VK} {s1 : Shared} {a : Addr} {ks : List Str} {l : List Nat} (hc : X.calm = true) (I2 : Inv X pins σ H1 s1) (hS : SetT X.w s1.heap a ks) (hz : ∀ z, z ∈ ks ↔ z ∈ sgn (S l)) (hn : ks.length = (S l).cps.size) (hl : l.length < 60)
    (q1 : ∀ (p : Addr) (ds : List Nat), H1 p = none → ds.Pairwise (· < ·) → (∀ c, c ∈ ds ↔ c ∈ l) → Q (.ref p) (upd H1 p (.lst (ds.map fun d => .str (S [d]))))) : wpAny (model X.prog X.w) X.A (call (.builtin "sorted") [.ref a]) (EP X pins σ Q) X.xe s1 := by
  have hsz : (S l).cps.size = l.length := by simp [S]
  refine sorted_setX hS (I2.ok.hd hc) (by rw [hn, hsz]; omega) fun s' p out c ss k2 g2 o2 hp ho hS2 srt nd mem hle => ?_
  have hmem : ∀ k, k ∈ ss ↔ ∃ c ∈ l, k = S [c] := fun k => by
    rw [mem k, hz k]
    unfold sgn
    rw [List.mem_map]
    constructor
    · rintro ⟨c, hc, rfl⟩; exact ⟨c, by simpa [S] using hc, rfl⟩
    · rintro ⟨c, hc, rfl⟩; exact ⟨c, by simpa [S] using hc, rfl⟩
  obtain ⟨ds, rfl⟩ := singles_of fun k hk => (hmem k).mp hk
  have ndd : ds.Nodup := List.Pairwise.of_map (fun d => S [d]) (fun a b hne e => hne (by rw [e])) nd
  have hn2 : H1 p = none := I2.hok.fresh hp
  have hlen : ((ds.map fun d => S [d]).map V.str).length ≤ sizeLine := by
    rw [List.length_map, List.length_map, sizeLine_eq]
    rw [List.length_map, hn, hsz] at hle
    omega
  have J : Inv X pins σ (upd H1 p (.lst ((ds.map fun d => S [d]).map V.str))) { s1 with heap := s'.heap, gens := s'.gens, drawn := s'.drawn, toks := s'.toks } :=
    I2.call (ch := []) (Un.laid k2 hp hn2) (I2.hok.laid k2 hp ⟨hlen, out.toList, c, vals_of_strs hS2, ho⟩) (by rw [g2]; exact I2.bare) (fun _ z => nomatch z)
  have e : s' = { s1 with heap := s'.heap, gens := s'.gens, drawn := s'.drawn, toks := s'.toks } := by
    cases s'; cases s1; cases o2; rfl
  rw [e]
  have eL : ((ds.map fun d => S [d]).map V.str) = ds.map fun d => V.str (S [d]) := by rw [List.map_map]; rfl
  rw [eL] at J
  exact ⟨.ref p, _, J, rfl, q1 p ds hn2 (strict_of (sorted_singles srt) ndd) fun c => ⟨fun hc => by
    obtain ⟨e, he, ec⟩ := (hmem (S [c])).mp (List.mem_map.mpr ⟨c, hc, rfl⟩)
    have : c = e := by simpa [S] using ec
    rw [this]; exact he, fun hc => by
    obtain ⟨d, hd, ed⟩ := List.mem_map.mp ((hmem (S [c])).mpr ⟨c, hc, rfl⟩)
    have : d = c := by simpa [S] using ed
    rw [← this]; exact hd⟩⟩
def tSortSet (ta : TE) : TE := fun σ H Q => ta σ H fun x H1 => ∃ l : List Nat, x = .str (S l) ∧ l.length < 60 ∧ ∀ (p : Addr) (ds : List Nat), H1 p = none → ds.Pairwise (· < ·) → (∀ c, c ∈ ds ↔ c ∈ l) → Q (.ref p) (upd H1 p (.lst (ds.map fun d => .str (S [d]))))
theorem pe_sortSet {a : Expr} {ta : TE} {p p2 q pos : Pos} (hc : X.calm = true) (hg : Gl X "sorted") (hm : X.mg "sorted" = none) (hg2 : Gl X "set") (hm2 : X.mg "set" = none) (ha : PE X a ta)
    (na : starEach [a] X.env = (false, eval a X.env) :: starEach [] X.env := by rfl) : PE X (.Call (.Name "sorted" p) [.Call (.Name "set" p2) [a] [] q] [] pos) (tSortSet ta) := by
  refine ⟨fun pins s σ H Q I h => ?_⟩
  refine Call_ (ld_blt I hg hm PyProof.Rows.boot_sorted (PyProof.Rows.callWith_builtin1 (PyProof.Rows.args_cons ?_ rfl) rfl rfl))
  refine Call_ (ld_blt I hg2 hm2 PyProof.Rows.boot_set (PyProof.Rows.callWith_type1 (PyProof.Rows.args_cons (thn (ha.run pins s σ H _ I h) fun v s1 ⟨x, H1, I1, r1, q1⟩ => PyProof.Rows.args_nil ?_) na) na rfl))
  obtain ⟨l, rfl, hl, q1⟩ := q1
  obtain ⟨t, rfl⟩ := r1
  have hsz : (S l).cps.size = l.length := by simp [S]
  refine set_of_text (I1.ok.hd hc) (by rw [hsz]; unfold scanBound; omega) fun h' u ks hS hz hn hk => ?_
  refine PyProof.Rows.args_nil ?_
  exact sortX_run (s1 := { s1 with heap := h', toks := u }) hc (I1.kept hk) hS hz hn hl q1
end
end LX
set_option maxHeartbeats 4000000
namespace LX
open PySem PySem.Spec PyProof.Rows L2 C8 SX
section
variable {prog : Program} {w : World} {A : Around} {E : Value → Shared → Prop} {s : Shared} {K : PySem.W.Frag} {a C f : Addr} {ox : Obj} {od : Option Obj} {u : Value} {T id : String}
theorem rc_own_second (hu : A.units < cLine) (X : K.In s.heap) (I : PySem.W.InstAt s.heap a ox C od) (hT : s.TypeIs u T) (h1 : oneThing? .Eq u (.ref a) = none) (hsub : PySem.W.subIn K (.ref C) (.type T) = some false) (sl : Slot T (cmpInfo .Eq).2.1 id)
    (hs : PySem.W.findIn K (.ref C) "__eq__" = some (some (.ref f))) (hf : PySem.W.isFn K (.ref f) = true) {Q : Value → Shared → Prop}
    (hc1 : ∀ Q' : Value → Shared → Prop, Q' .notImplemented s → wpAny (model prog w) A (call (.builtin id) [u, .ref a]) Q' E s)
    (hc2 : wpAny (model prog w) A (call (.ref f) [.ref a, u]) (PySem.W.CmpBack Q) E s) : wpAny (model prog w) A (richCompare .Eq u (.ref a)) Q E s := by
  have two : wpAny (model prog w) A (tryCompare (.ref a) (cmpInfo .Eq).2.2 u) (fun r s' => ∃ v, r = some v ∧ Q v s') E s := by
    unfold tryCompare
    refine wpAny_bind (PySem.W.ifBound_K X I hs hf (wpAny_mono hc2 (fun v s' hv => ?_) fun _ _ e => e))
    cases v <;> first | exact hv.elim | exact wpAny_pure ⟨_, rfl, hv⟩
  unfold richCompare
  simp only [h1]
  refine wpAny_holding (wpAny_bind (wpAny_cRoomFor hu ?_))
  refine wpAny_bind (wpAny_typeOf hT (wpAny_bind (I.type.here ?_)))
  rw [show (Value.type T != Value.ref C) = true from rfl]
  simp only [if_true]
  refine wpAny_bind ((PySem.W.looks_subIn X hsub).here ?_)
  simp only [Bool.false_eq_true, if_false, Bool.not_false, if_true]
  refine wpAny_bind (m := tryCompare u _ (.ref a)) (wpAny_tryCompare_declines hT sl (hc1 _ ⟨rfl, ?_⟩))
  refine wpAny_bind (m := tryCompare (.ref a) _ u) (wpAny_mono two (fun r s' z => ?_) fun _ _ e => e)
  obtain ⟨v, rfl, q⟩ := z
  exact wpAny_pure q
theorem none_declines {Q : Value → Shared → Prop} (h : Q .notImplemented s) : wpAny (model prog w) A (call (.builtin "NoneType.__eq__") [.none, .ref a]) Q E s :=
  call_gives F.slot_NoneType_eq rfl F.entry_NoneType_eq (F.args_NoneType_eq_2 _ _) (PySem.SeqAt.NoneType___eq___none_ref_0 a) h
theorem str_declines {dx : Addr} {x : Str} {t : Tok} {Q : Value → Shared → Prop} (hx : s.heap.get? a = some (PySem.W.instObj C dx)) (h : Q .notImplemented s) : wpAny (model prog w) A (call (.builtin "str.__eq__") [.str x t, .ref a]) Q E s := by
  refine wpAny_call (codeAny_call_builtin F.slot_str_eq.plain F.entry_str_eq (F.slot_str_eq.check _ _ _ _ _ _ _ _ rfl (F.args_str_eq_2 _ _) ?_))
  obtain ⟨hp, g, d, tk, os⟩ := s
  wp_walk using wpAny_load hx
  exact h
theorem list_declines {dx l : Addr} {items : Array Value} {Q : Value → Shared → Prop} (hl : s.heap.IsList l items) (X : K.In s.heap) (hx : s.heap.get? a = some (PySem.W.instObj C dx)) (hsub : PySem.W.subIn K (.ref C) (.type "list") = some false) (h : Q .notImplemented s) :
    wpAny (model prog w) A (call (.builtin "list.__eq__") [.ref l, .ref a]) Q E s := by
  obtain ⟨⟨cls, dd, data, sl⟩, ho, hc, n, hd⟩ := id hl
  simp only at hc hd
  subst hc hd
  refine wpAny_call (codeAny_call_builtin F.slot_list_eq.plain F.entry_list_eq (F.slot_list_eq.check _ _ _ _ _ _ _ _ ⟨_, ho, rfl⟩ (F.args_list_eq_2 _ _) ?_))
  obtain ⟨hp, g, d, tk, os⟩ := s
  wp_walk using PySem.AutoSeq1.wpAny_loadPart' hx
  refine (PySem.W.looks_subIn X hsub).here ?_
  wp_walk
  exact h
theorem in_tuple_none {l : Addr} {items : Array Value} {x : Value} {Q : Value → Shared → Prop} (J : Shared → Prop) (hl : s.heap.IsTuple l items) (h0 : J s)
    (turn : ∀ y s', y ∈ items → J s' → wpAny (model prog w) A.in1 (eqBool y x) (fun b s2 => b = false ∧ J s2) E s') (fin : ∀ s', J s' → Q (.bool false) s') : wpAny (model prog w) A (compareOp .In x (.ref l)) Q E s := by
  obtain ⟨⟨cls, dd, data, sl⟩, ho, hc, n, hd⟩ := id hl
  simp only at hc hd
  subst hc hd
  show wpAny _ A (do return .bool (← contains (.ref l) x)) Q E s
  refine wpAny_bind (wpAny_contains_slot ⟨_, ho, rfl⟩ F.slot_tuple_contains (wpAny_mono (Q := fun v s' => v = .bool false ∧ J s') (wpAny_call (codeAny_call_builtin F.slot_tuple_contains.plain F.entry_tuple_contains
    (F.slot_tuple_contains.check _ _ _ _ _ _ _ _ ⟨_, ho, rfl⟩ (F.args_tuple_contains_2 _ _) ?_))) (fun v s' hv => ?_) fun _ _ e => e))
  · obtain ⟨hp, g, d, tk, os⟩ := s
    wp_walk using PySem.AutoSeq1.wpAny_loadPart' ho, PySem.MeetsSeq2.wpAny_forIn_array _ (fun (rest : List Value) (b : Option PySem.Fin × Unit) (s' : Shared) => b.1 = none ∧ J s' ∧ ∀ y, y ∈ rest → y ∈ items) _
    case turn =>
      rintro y rest b s' ⟨hb, hJ, hmem⟩
      refine wpAny_bind (wpAny_mono (turn y s' (hmem y (List.mem_cons_self ..)) hJ) (fun r s2 z => ?_) fun _ _ e => e)
      obtain ⟨rfl, hJ2⟩ := z
      wp_walk
      exact ⟨rfl, hJ2, fun z hz => hmem z (List.mem_cons_of_mem _ hz)⟩
    case fin =>
      rintro ⟨b1, b2⟩ s' ⟨hb, hJ, -⟩
      simp only at hb
      subst hb
      wp_walk
      exact ⟨rfl, hJ⟩
    case h => exact ⟨rfl, h0, fun y hy => by simpa using hy⟩
  · obtain ⟨rfl, hJ⟩ := hv
    exact wpAny_truthy_bool (wpAny_pure (fin s' hJ))
end
section
variable {X : Cx} {k j : Nat} {C : Addr} {sp : Sp}
def Plain0 (H : Hp) (z : V) : Prop := (∃ x, z = .str x) ∨ z = .non ∨ ∃ l xs, z = .ref l ∧ H l = some (.lst xs)
structure NotB (K : PySem.W.Frag) (C : Addr) : Prop where
  str : PySem.W.subIn K (.ref C) (.type "str") = some false
  non : PySem.W.subIn K (.ref C) (.type "NoneType") = some false
  lst : PySem.W.subIn K (.ref C) (.type "list") = some false
def rInOwn (K : PySem.W.Frag) (C : Addr) (sp : Sp) : R2 := fun x y H Q => ∃ a dx fs p xs, x = .ref a ∧ y = .ref p ∧ H a = some (.ins C dx fs) ∧ SqT K H p xs ∧ (∀ z ∈ xs, Plain0 H z ∧ ∀ R : VK, R (.bl false) H → sp [.ref a, z] H R C8.E0) ∧ Q (.bl false) H
theorem vals_mem : ∀ {xs : List V} {us : List Value}, Vals xs us → ∀ u ∈ us, ∃ x ∈ xs, RelV x u
  | _, _, .nil, _, h => nomatch h
  | _, _, .cons r t, u, h => by
    rcases List.mem_cons.mp h with e | h
    · rw [e]; exact ⟨_, List.mem_cons_self, r⟩
    · obtain ⟨x, hx, r⟩ := vals_mem t u h
      exact ⟨x, List.mem_cons_of_mem _ hx, r⟩
theorem op_inOwn (b : NotB X.K C) (c : Met X.prog X.w X.K X.mg X.base k C "__eq__" sp []) (hr : Room j X.A) (hk : k + 1 ≤ j) : OpR X (compareOp .In) (rInOwn X.K C sp) := by
  intro pins s σ H x y v u Q I rx ry h
  obtain ⟨a, dx, fs, p, xs, rfl, rfl, ha, hp, all, q⟩ := h
  cases rx
  cases ry
  obtain ⟨its, r, pl, hz⟩ := I.tuple hp
  refine in_tuple_none (J := fun s' => Inv X pins σ H s') pl I (fun z s' hz J => ?_) (fun s' J => ⟨.bl false, H, J, rfl, q⟩)
  obtain ⟨zv, hzm, rz⟩ := vals_mem r z (by simpa using hz)
  obtain ⟨pz, sz⟩ := all zv hzm
  obtain ⟨mA, O, _⟩ := ins_get J.hok ha
  have hobj := O.obj
  obtain ⟨od, O, _⟩ := O.look
  have hu : (X.A.in1).units < cLine := hu_of hr
  obtain ⟨f, hs, hf, hw⟩ := met_runV (A := X.A.in1) (Q := PySem.W.CmpBack fun v s2 => v = .bool false ∧ Inv X pins σ H s2) c (hr.mono hk).in1 rfl J rz (sz (fun v H' => v = .bl false ∧ H' = H) ⟨rfl, rfl⟩) (fun v z H' s' I' rz q => by
    obtain ⟨rfl, rfl⟩ := q
    cases rz
    exact ⟨rfl, I'⟩)
  have back : wpAny (model X.prog X.w) X.A.in1 (richCompare .Eq z (.ref a)) (fun v s2 => v = .bool false ∧ Inv X pins σ H s2) X.xe s' := by
    rcases pz with ⟨t, rfl⟩ | rfl | ⟨l, ys, rfl, hl⟩
    · obtain ⟨tk, rfl⟩ := rz
      exact rc_own_second (u := .str t tk) (T := "str") hu J.kIn O rfl rfl b.str F.slot_str_eq hs hf (fun Q' h' => str_declines hobj h') hw
    · cases rz
      exact rc_own_second (u := .none) (T := "NoneType") hu J.kIn O rfl rfl b.non F.slot_NoneType_eq hs hf (fun Q' h' => none_declines h') hw
    · cases rz
      obtain ⟨its2, r2, pl2, _⟩ := J.list (SqL.of hl)
      have hT : s'.TypeIs (.ref l) "list" := let ⟨o, e1, e2, _⟩ := pl2.isList; ⟨o, e1, e2⟩
      exact rc_own_second hu J.kIn O hT rfl b.lst F.slot_list_eq hs hf (fun Q' h' => list_declines pl2.isList J.kIn hobj b.lst h') hw
  unfold eqBool
  refine wpAny_holding ?_
  refine wpAny_ite_split (fun hab => ?_) (fun _ => ?_)
  · exfalso
    have e := eq_of_beq hab
    subst e
    rcases pz with ⟨t, rfl⟩ | rfl | ⟨l, ys, rfl, hl⟩
    · obtain ⟨tk, e⟩ := rz; cases e
    · cases rz
    · cases rz; rw [ha] at hl; cases hl
  have go : wpAny (model X.prog X.w) X.A.in1 (richCompare .Eq z (.ref a) >>= truthOfDropped) (fun b s2 => b = false ∧ Inv X pins σ H s2) X.xe s' := by
    refine wpAny_bind (wpAny_mono back (fun v s2 hv => ?_) fun _ _ e => e)
    obtain ⟨rfl, I2⟩ := hv
    exact wpAny_truthy_bool ⟨rfl, I2⟩
  rcases pz with ⟨t, rfl⟩ | rfl | ⟨l, ys, rfl, hl⟩
  · obtain ⟨tk, rfl⟩ := rz; exact go
  · cases rz; exact go
  · cases rz; exact go
def tMakeSL (i : Nat) (C : Addr) (sp : Sp) (E : L2.St → XK) (t : TA) : TE := fun σ H Q => σ[i]? = some (some (.ref C)) ∧ tMakeS C sp E t σ H Q
theorem pe_mkXL {i : Nat} {x n : Str} {p pos : Pos} {e : Expr} {es : List Expr} {t : TA} {W : WX} (c : MakX X.prog X.w X.K X.mg X.base k n C sp) (tk : Takes X W) (hr : Room j X.A) (hk : k + 1 ≤ j) (hN : X.N[i]? = some x) (hv : Vis X.env.scope x) (ha : PA X (e :: es) t)
    (hd : (x == ("__debug__" : Str)) = false := by decide) (hcd : (x == ("__classdict__" : Str)) = false := by decide)
    (he : starEach (e :: es) X.env = (false, eval e X.env) :: starEach es X.env := by rfl) (hpl : (backTo pos (starEach es X.env)).any (·.1) = false := by rfl) : PE X (.Call (.Name x p) (e :: es) [] pos) (tMakeSL i C sp (WE W) t) := by
  obtain ⟨f, fd, ps, M, F, hm, hb⟩ := c.ex
  refine ⟨fun pins s σ H Q I h => ?_⟩
  obtain ⟨hs, h⟩ := h
  refine wpAny_Call_Name_kw (thn ((pe_var (pos := p) hN hv hd hcd).run pins s σ H (fun v H1 => v = .ref C ∧ H1 = H) I ⟨.ref C, hs, rfl, rfl⟩) fun u s0 ⟨v, H0, I0, r0, ev, eH⟩ => ?_)
  subst ev
  rw [eH] at I0
  obtain rfl : u = Value.ref C := r0
  refine PySem.W.callWith_K (h₀ := X.base) I.ok.mod.kin M.kp (thn (ha.run pos pins s0 σ H _ I0 h) fun us s1 ⟨vs, H1, I1, r, q⟩ => ⟨I1.kIn, ?_⟩) he hpl
  have hq := q (s1.heap.objs.size + 1) s1.heap.objs.size (I1.hok.fresh (Nat.le_succ _)) (I1.hok.fresh (Nat.le_refl _)) (Nat.ne_of_lt (Nat.lt_succ_self _))
  have I2 := Inv.made (C := C) I1
  have r2 : Vals (V.ref (s1.heap.objs.size + 1) :: vs) (Value.ref (s1.heap.objs.size + 1) :: us) := .cons rfl r
  have hl : (Value.ref (s1.heap.objs.size + 1) :: us ++ []).length = ps.length := by
    have e := r2.length
    rw [F.len _ _ _ _ hq] at e
    rw [List.append_nil]
    exact e.symm
  have hb2 := hb _ (Value.ref (s1.heap.objs.size + 1) :: us) I2.kIn hl
  rw [List.append_nil] at hb2
  refine wpAny_call (make_map (f := f) I1.kIn M.makes M.init (beq_iff_eq.mp M.fn) (codeAny_mono (F.run _ X.stack _ _ ⟨Value.ref (s1.heap.objs.size + 1) :: us, []⟩ (Value.ref (s1.heap.objs.size + 1) :: us) _ _ (WE W σ) ((hr.mono hk).make C us [])
    (I2.env0.make C us []) hb2 r2 hq) fun r s' hq' => ?_))
  cases r with
  | error e => exact passAt tk σ pins _ _ e s' I2 hq'
  | ok fl =>
    cases fl with
    | ret u =>
      obtain ⟨v, H', I3, rv, ev, q3⟩ := I2.after hq'
      subst ev
      exact ⟨rv, ⟨V.ref (s1.heap.objs.size + 1), H', I3, rfl, q3⟩⟩
    | next => exact False.elim hq'
    | brk => exact False.elim hq'
    | cont => exact False.elim hq'
end
end LX
set_option maxHeartbeats 2000000
namespace Toy
open PySem L2 C8 SX LX
local macro_rules | `(tactic| walk_at "c") => `(tactic| refine And.intro (by first | (show (0 : Int) < _; omega) | exact Or.inr ⟨by decide, by decide⟩ | exact Or.inl ⟨by decide, by decide⟩ | (exact ⟨by omega, by omega⟩)) ?_)
local macro_rules | `(tactic| walk_at "s1") => `(tactic| first | refine ⟨_, rfl, ?_⟩ | refine ⟨_, _, rfl, rfl, ?_⟩ | refine .inl ⟨_, rfl, ?_⟩ | walk_at "c")
local macro_rules | `(tactic| walk_at "ix") => `(tactic| refine ⟨_, _, _, _, rfl, rfl, SqL.of (by first | assumption | exact upd_same), rfl, ?_⟩)
local macro_rules | `(tactic| walk_at "s") => `(tactic| repeat (walk_at "s1"))
def top (i : Nat) : Stmt := PySem.Challenge.pw_allrows_k62_plain_rows_counted.main.body.getD i (.Pass ⟨0, 0, 0, 0⟩)
structure BT (mg : Str → Option Value) : Prop where
  m_int : mg "int" = none
  m_len : mg "len" = none
  m_abs : mg "abs" = none
  m_str : mg "str" = none
  m_list : mg "list" = none
  m_tuple : mg "tuple" = none
  m_isinstance : mg "isinstance" = none
  m_all : mg "all" = none
  m_any : mg "any" = none
  m_zip : mg "zip" = none
  m_range : mg "range" = none
  m_max : mg "max" = none
  m_min : mg "min" = none
  m_enumerate : mg "enumerate" = none
  m_sorted : mg "sorted" = none
  m_set : mg "set" = none
  m_sum : mg "sum" = none
def sgs : List (List Nat) := [[97, 98], [97, 98, 99], [97], [120, 122]]
def Menu (sg : List Nat) : Prop := sg ∈ sgs
def Ov (sg l : List Nat) : Prop := ∀ c ∈ l, c ∈ sg
section
variable {P : Program} {w : World} {K : PySem.W.Frag} {mg : Str → Option Value} {base : Heap}
abbrev s_take : Stmt := top 28
abbrev n_take : List Str := ["box", "many", "digit", "near"]
theorem sc_take : FnScope n_take ["box", "many"] (fnScope s_take) := fnScope_by (by decide +kernel)
def spTake : Sp := fun vs H Q _ => ∃ (b : Addr) (n : Int), vs = [.ref b, .int n] ∧ BoxAt b H ∧ 0 < n ∧ n < 100000000 ∧
  ∀ (d : Int) (H' : Hp), 0 ≤ d → d < n → Bx b H H' → Q (.int d) H'
theorem ok_take (T : BT mg) {f : Addr} {fd : FuncData} (F : Def K mg "_law_take" s_take f fd) (b : Binds K fd ["box", "many"] []) : Cal P w K mg base 1 "_law_take" spTake [] := by
  refine cal0 F b .nil sc_take (fun vs H Q E h => ?_) (fun cdv A outer s H vs Q E hr h => ?_)
  · obtain ⟨b, n, rfl, _⟩ := h; rfl
  · obtain ⟨b, n, rfl, ⟨o, hb, x, y, z, rfl⟩, n0, n1, k⟩ := h
    refine ⟨_, (pss_cons (ps_if (pt_cmpR op_gt (pe_ix (ixl K) (pv 0) pe_int (fun _ _ => rfl)) pe_int (nomark _)) 
        (pss_cons (ps_set (i := 2) sc_take.nd rfl (.inl rfl) (pe_op op_mod (pe_callTy call_int1 (by rfl) T.m_int PyProof.Rows.boot_int (pa_cons (pe_ix (ixl K) (pv 0) pe_int (fun _ _ => rfl)) pa_nil)) (pv 1)))
        (pss_cons (ps_asg (pe_op op_fdiv (pe_ix (ixl K) (pv 0) pe_int (fun _ _ => rfl)) (pv 1)) (pg_sub (pv 0) pe_int set_list))
        (pss_one (ps_ret (pv 2))
        )))
       pss_nil)
      (pss_cons (ps_asg (pe_op op_add (pe_ix (ixl K) (pv 0) pe_int (fun _ _ => rfl)) pe_int) (pg_sub (pv 0) pe_int set_list))
      (pss_cons (ps_set (i := 3) sc_take.nd rfl (.inl rfl) (pe_op op_mod (pe_callTy call_int1 (by rfl) T.m_int PyProof.Rows.boot_int (pa_cons (pe_op op_mul (pe_op op_add (pe_ix (ixl K) (pv 0) pe_int (fun _ _ => rfl)) (pe_op op_mul pe_int (pe_ix (ixl K) (pv 0) pe_int (fun _ _ => rfl)))) pe_int) pa_nil)) pe_int))
      (pss_cons (ps_asg (pe_op op_add (pe_op op_mod (pe_callTy call_int1 (by rfl) T.m_int PyProof.Rows.boot_int (pa_cons (pe_op op_add (pe_op op_mul (pv 3) pe_int) pe_int) pa_nil)) pe_int) pe_int) (pg_sub (pv 0) pe_int set_list))
      (pss_one (ps_ret (pe_op op_mod (pe_callTy call_int1 (by rfl) T.m_int PyProof.Rows.boot_int (pa_cons (pe_op op_fdiv (pe_op op_add (pe_op op_mul (pv 3) pe_int) (pe_ix (ixl K) (pv 0) pe_int (fun _ _ => rfl))) pe_int) pa_nil)) (pv 1)))
      ))))), ?_⟩
    walk_at "s"
    walk_at "ix"
    walk_at "s"
    refine ite2 (fun _ => ?_) (fun _ => ?_)
    · walk_at "s"
      walk_at "ix"
      walk_at "s"
      walk_at "ix"
      walk_at "s"
      refine ⟨_, _, _, _, rfl, rfl, hb, rfl, ?_⟩
      walk_at "s"
      exact k _ _ (Int.emod_nonneg _ (by omega)) (Int.emod_lt_of_pos _ n0) (Bx.mk _ _ _)
    · walk_at "s"
      walk_at "ix"
      walk_at "s"
      refine ⟨_, _, _, _, rfl, rfl, hb, rfl, ?_⟩
      walk_at "s"
      walk_at "ix"
      walk_at "s"
      walk_at "ix"
      walk_at "s"
      refine ⟨_, _, _, _, rfl, rfl, upd_same, rfl, ?_⟩
      walk_at "s"
      walk_at "ix"
      walk_at "s"
      exact k _ _ (Int.emod_nonneg _ (by omega)) (Int.emod_lt_of_pos _ n0) ((Bx.mk (x := x) (y := y) (z := z + 1)).trans (Bx.mk _ _ _))
theorem bk_seqT {K : PySem.W.Frag} {b p : Addr} {H H' : Hp} {xs : List V} (s : Bx b H H') (n : p ≠ b) (h : SqT K H p xs) : SqT K H' p xs := by
  rcases h with (h2 | ⟨o', h2⟩) | h2
  · exact .inl (.inl (s.1 _ _ n h2))
  · exact .inl (.inr ⟨o', s.1 _ _ n h2⟩)
  · exact .inr h2
abbrev s_pick : Stmt := top 29
abbrev n_pick : List Str := ["box", "some"]
theorem sc_pick : FnScope n_pick ["box", "some"] (fnScope s_pick) := fnScope_by (by decide +kernel)
def spPick (K : PySem.W.Frag) : Sp := fun vs H Q _ => ∃ (b : Addr) (x : V) (ys : List V), vs = [.ref b, x] ∧ BoxAt b H ∧ x ≠ .ref b ∧ SeqV K H x ys ∧ 0 < ys.length ∧ ys.length < 1000 ∧
  ∀ (v : V) (H' : Hp), v ∈ ys → Bx b H H' → Q v H'
theorem ok_pick (T : BT mg) (c_take : Cal P w K mg base 1 "_law_take" spTake []) {f : Addr} {fd : FuncData} (F : Def K mg "_law_pick" s_pick f fd) (b : Binds K fd ["box", "some"] []) : Cal P w K mg base 2 "_law_pick" (spPick K) [] := by
  refine cal0 F b .nil sc_pick (fun vs H Q E h => ?_) (fun cdv A outer s H vs Q E hr h => ?_)
  · obtain ⟨b, x, xs, rfl, _⟩ := h; rfl
  · obtain ⟨b, x, xs, rfl, hb, hlb, hl, h0, h1, k⟩ := h
    refine ⟨_, (pss_one (ps_ret (pe_ix (ixA K) (pv 1) (pe_c c_take hr (by first | decide | omega) (by rfl) (pa_cons (pv 0) (pa_cons (pe_callB (lenA K) (by rfl) T.m_len PySem.boot_len (pa_cons (pv 1) pa_nil)) pa_nil))) (fun _ _ => rfl)))
      ), ?_⟩
    refine ⟨_, rfl, _, rfl, _, rfl, x, xs, rfl, hl, ?_⟩
    refine ⟨b, (xs.length : Int), rfl, hb, by omega, by omega, fun d H' d0 d1 hB => ?_⟩
    have hd : d.toNat < xs.length := by omega
    have hl' : SeqV K H' x xs := by
      rcases hl with ⟨p, rfl, hp⟩ | h
      · have np : p ≠ b := fun e => hlb (by rw [e])
        exact .inl ⟨p, rfl, hp.imp (bk_seq hB np) (bk_seqT hB np)⟩
      · exact .inr h
    exact ⟨xs, d, xs[d.toNat], rfl, hl', at_of (by omega) (List.getElem?_eq_getElem hd), k _ _ (List.getElem_mem hd) hB⟩
theorem s_ab : (Str.ofString "ab") = S [97, 98] := by decide +kernel
theorem s_a : (Str.ofString "a") = S [97] := by decide +kernel
theorem s_abc : (Str.ofString "abc") = S [97, 98, 99] := by decide +kernel
theorem s_xz : (Str.ofString "xz") = S [120, 122] := by decide +kernel
theorem s_nil : (Str.ofString "") = S [] := by decide +kernel
abbrev s_signs : Stmt := top 32
abbrev n_signs : List Str := ["box"]
theorem sc_signs : FnScope n_signs ["box"] (fnScope s_signs) := fnScope_by (by decide +kernel)
def spSigns : Sp := fun vs H Q _ => ∃ (b : Addr), vs = [.ref b] ∧ BoxAt b H ∧ ∀ (sg : List Nat) (H' : Hp), Menu sg → Bx b H H' → Q (.str (S sg)) H'
theorem ok_signs (T : BT mg) (c_pick : Cal P w K mg base 2 "_law_pick" (spPick K) []) {f : Addr} {fd : FuncData} (F : Def K mg "_law_signs" s_signs f fd) (b : Binds K fd ["box"] []) : Cal P w K mg base 3 "_law_signs" spSigns [] := by
  refine cal0 F b .nil sc_signs (fun vs H Q E h => ?_) (fun cdv A outer s H vs Q E hr h => ?_)
  · obtain ⟨b, rfl, _⟩ := h; rfl
  · obtain ⟨b, rfl, hb, k⟩ := h
    refine ⟨_, (pss_one (ps_ret (pe_c c_pick hr (by first | decide | omega) (by rfl) (pa_cons (pv 0) (pa_cons (pe_lst (pa_cons pe_str (pa_cons pe_str (pa_cons pe_str (pa_cons pe_str (pa_cons pe_str pa_nil)))))) pa_nil))))
      ), ?_⟩
    walk_at "s"
    refine ⟨by decide, fun p hp => ?_⟩
    have hpb := box_ne hb hp
    refine ⟨b, .ref p, _, rfl, ((Bx.put (bk_same (Same.refl H) hb) hb hp)).2, (fun e => hpb (by cases e; rfl)), .inl ⟨p, rfl, .inl (SqL.of upd_same)⟩, by decide, by decide, fun v H' hv hB => ?_⟩
    have hB' : Bx b H H' := (Bx.put (bk_same (Same.refl H) hb) hb hp).trans hB
    have e : v = .str (Str.ofString "ab") ∨ v = .str (Str.ofString "ab") ∨ v = .str (Str.ofString "abc") ∨ v = .str (Str.ofString "a") ∨ v = .str (Str.ofString "xz") := by simpa using hv
    rcases e with rfl | rfl | rfl | rfl | rfl
    · rw [s_ab]; exact k _ _ (by unfold Menu sgs; simp) hB'
    · rw [s_ab]; exact k _ _ (by unfold Menu sgs; simp) hB'
    · rw [s_abc]; exact k _ _ (by unfold Menu sgs; simp) hB'
    · rw [s_a]; exact k _ _ (by unfold Menu sgs; simp) hB'
    · rw [s_xz]; exact k _ _ (by unfold Menu sgs; simp) hB'
theorem menu_cases {sg : List Nat} (h : Menu sg) : sg = [97, 98] ∨ sg = [97, 98, 99] ∨ sg = [97] ∨ sg = [120, 122] := by
  unfold Menu sgs at h; simpa using h
theorem menu_len {sg : List Nat} (h : Menu sg) : 0 < sg.length ∧ sg.length ≤ 3 := by
  rcases menu_cases h with rfl | rfl | rfl | rfl <;> decide
theorem menu_nodup {sg : List Nat} (h : Menu sg) : sg.Nodup := by
  rcases menu_cases h with rfl | rfl | rfl | rfl <;> decide
theorem menu_small {sg : List Nat} (h : Menu sg) : ∀ c ∈ sg, 97 ≤ c ∧ c ≤ 122 := by
  rcases menu_cases h with rfl | rfl | rfl | rfl <;> decide
theorem singles_join : ∀ (ys : List V) (m : Nat) (sg : List Nat), ys.length = m → (∀ (j : Nat) y, ys[j]? = some y → ∃ c ∈ sg, y = .str (S [c])) → ∃ l : List Nat, l.length = m ∧ Ov sg l ∧ ys = (l.map fun c => V.str (S [c]))
  | [], m, sg, e, _ => ⟨[], e, (fun _ h => nomatch h), rfl⟩
  | y :: ys, m, sg, e, h => by
    obtain ⟨l, e1, o1, e2⟩ := singles_join ys (m - 1) sg (by simp at e; omega) fun j z q => h (j + 1) z q
    obtain ⟨c, hc, ec⟩ := h 0 y rfl
    refine ⟨c :: l, by simp at e ⊢; omega, fun d hd => ?_, by rw [ec, e2]; rfl⟩
    rcases List.mem_cons.mp hd with rfl | hd
    · exact hc
    · exact o1 d hd
theorem seq_text {K : PySem.W.Frag} {H : Hp} {sg : List Nat} (h : sg.length ≤ 1000) : SeqV K H (.str (S sg)) (sg.map fun c => V.str (S [c])) := .inr ⟨sg, rfl, sz h (by decide), rfl⟩
abbrev s_row : Stmt := top 33
abbrev n_row : List Str := ["box", "signs", "long", "turn"]
theorem sc_row : FnScope n_row ["box", "signs", "long"] (fnScope s_row) := fnScope_by (by decide +kernel)
def spRow : Sp := fun vs H Q _ => ∃ (b : Addr) (sg : List Nat) (m : Nat), vs = [.ref b, .str (S sg), .int m] ∧ Menu sg ∧ m ≤ 100 ∧ BoxAt b H ∧ ∀ (l : List Nat) (H' : Hp), Ov sg l → l.length ≤ m → Bx b H H' → Q (.str (S l)) H'
theorem ok_row (T : BT mg) (c_take : Cal P w K mg base 1 "_law_take" spTake []) (c_pick : Cal P w K mg base 2 "_law_pick" (spPick K) []) {f : Addr} {fd : FuncData} (F : Def K mg "_law_row" s_row f fd) (b : Binds K fd ["box", "signs", "long"] []) : Cal P w K mg base 3 "_law_row" spRow [] := by
  refine cal0 F b .nil sc_row (fun vs H Q E h => ?_) (fun cdv A outer s H vs Q E hr h => ?_)
  · obtain ⟨b, sg, m, rfl, _⟩ := h; rfl
  · obtain ⟨b, sg, m, rfl, hm, m100, hb, k⟩ := h
    refine ⟨_, (pss_one (ps_ret (pe_join pe_str (pe_lc (own := [("turn", 3)]) rfl sc_row.nd (pi_range1 (by rfl) T.m_range (pa_cons (pe_c c_take hr (by first | decide | omega) (by rfl) (pa_cons (pv 0) (pa_cons (pe_op op_add (pv 2) pe_int) pa_nil))) pa_nil)) (blkOk_by (N := n_row) (sc := fnScope s_row) (by decide +kernel)) (fun _ _ _ _ _ => (pg_name (i := 3) sc_row.nd rfl (.inl rfl))) (fun _ _ _ _ _ => pts_nil) (fun _ _ _ _ _ => (pe_c c_pick hr (by first | decide | omega) (by rfl) (pa_cons (pv 0) (pa_cons (pv 1) pa_nil)))))))
      ), ?_⟩
    refine ⟨⟨_, rfl⟩, ?_⟩
    walk_at "s"
    refine ⟨b, (m : Int) + 1, rfl, hb, by omega, by omega, fun d H1 d0 d1 hB => ?_⟩
    refine ⟨_, rfl, by omega, by omega, fun D hD => ?_⟩
    refine lc_keep (keep_bk hB.2) (walk_range (lo := 0) (n := d.toNat)) hD (by show d.toNat < sizeLine; exact small1000 (by omega)) (fun _ y => ∃ c ∈ sg, y = .str (S [c])) (fun _ _ => trivial) (fun i x H2 H3 R hi r hy hR => ?_) (fun ys H2 hl hg r hDs => ?_)
    · obtain ⟨rfl, rfl⟩ := hy
      refine ⟨rfl, ?_⟩
      refine ⟨_, rfl, _, rfl, b, .str (S sg), _, rfl, r.2, (fun e => nomatch e), seq_text (by have := (menu_len hm).2; omega), by simpa using (menu_len hm).1, by simp; have := (menu_len hm).2; omega, fun v H4 hv hB4 => ?_⟩
      refine hR v H4 hB4 ?_
      obtain ⟨c, hc, rfl⟩ := List.mem_map.mp hv
      exact ⟨c, hc, rfl⟩
    · obtain ⟨l, hl2, ho, rfl⟩ := singles_join ys _ sg hl hg
      have e1 : (l.map fun c => S [c]) = (l.map fun c => [c]).map S := by rw [List.map_map]; rfl
      have e2 : ((l.map fun c => S [c]).map (·.length)).sum ≤ 101 := by
        have : ∀ l : List Nat, ((l.map fun c => S [c]).map (·.length)).sum = l.length := by
          intro l; induction l with
          | nil => rfl
          | cons c l ih => simp only [List.map_cons, List.sum_cons, ih, List.length_cons]; rw [S_len]; simp; omega
        rw [this]; omega
      refine ⟨_, D, (l.map fun c => S [c]), rfl, rfl, .inl (SqL.of (by rw [List.map_map]; exact hDs)), ?_, ?_⟩
      · rw [s_nil, S_len]; simp only [List.length_nil, Nat.mul_zero, Nat.add_zero]; omega
      · show Q (.str (Txt.join (Str.ofString "") (l.map fun c => S [c]))) H2
        rw [s_nil, e1, join_txs, flat_singles]
        exact k l _ ho (by omega) (hB.trans r)
abbrev s_box : Stmt := top 27
abbrev n_box : List Str := ["script", "k", "great", "seed"]
theorem sc_box : FnScope n_box ["script", "k"] (fnScope s_box) := fnScope_by (by decide +kernel)
def spBox (K : PySem.W.Frag) : Sp := fun vs H Q _ => ∃ (a : Addr) (k : Nat) (ns : List Int), vs = [.ref a, .int k] ∧ SqL K H a (ns.map V.int) ∧ ns.length ≤ 63 ∧
  ∀ (p : Addr) (H' : Hp), Same H H' → H p = none → BoxAt p H' → Q (.ref p) H'
theorem int_at {ns : List Int} {i : Nat} (h : i < ns.length) : ∃ z : Int, (ns.map V.int)[i]? = some (.int z) := ⟨ns[i], by rw [List.getElem?_map, List.getElem?_eq_getElem h]; rfl⟩
theorem ok_box (T : BT mg) {f : Addr} {fd : FuncData} (F : Def K mg "_law_box" s_box f fd) (b : Binds K fd ["script", "k"] []) : Cal P w K mg base 1 "_law_box" (spBox K) [] := by
  refine cal0 F b .nil sc_box (fun vs H Q E h => ?_) (fun cdv A outer s H vs Q E hr h => ?_)
  · obtain ⟨a, k, ns, rfl, _⟩ := h; rfl
  · obtain ⟨a, k, ns, rfl, ha, hl, kk⟩ := h
    refine ⟨_, (pss_cons (ps_set (i := 2) sc_box.nd rfl (.inl rfl) (pe_op op_add (pe_op op_mul pe_int (pv 1)) pe_int))
      (C8.pss_cut (ps_if (pt_cmpR op_lt (pv 1) (pe_callB (lenK K) (by rfl) T.m_len PySem.boot_len (pa_cons (pv 0) pa_nil)) (nomark _)) 
        (pss_one (ps_set (i := 2) sc_box.nd rfl (.inl rfl) (pe_callB call_abs (by rfl) T.m_abs PyProof.Rows.boot_abs (pa_cons (pe_callTy call_int1 (by rfl) T.m_int PyProof.Rows.boot_int (pa_cons (pe_ix (ixl K) (pv 0) (pv 1) (fun _ _ => rfl)) pa_nil)) pa_nil)))
        )
        (pss_one (ps_if (pt_cmpR op_gt (pe_callB (lenK K) (by rfl) T.m_len PySem.boot_len (pa_cons (pv 0) pa_nil)) pe_int (nomark _)) 
          (pss_one (ps_set (i := 2) sc_box.nd rfl (.inl rfl) (pe_op op_add (pv 2) (pe_op op_mul (pe_op op_mod (pe_callTy call_int1 (by rfl) T.m_int PyProof.Rows.boot_int (pa_cons (pe_ix (ixl K) (pv 0) (pe_op op_mod (pe_callTy call_int1 (by rfl) T.m_int PyProof.Rows.boot_int (pa_cons (pv 1) pa_nil)) (pe_callB (lenK K) (by rfl) T.m_len PySem.boot_len (pa_cons (pv 0) pa_nil))) (fun _ _ => rfl)) pa_nil)) pe_int) pe_int)))
          )
         pss_nil)
        ))
      (pss_cons (ps_set (i := 3) sc_box.nd rfl (.inl rfl) (pe_op op_add (pe_op op_mod (pe_callTy call_int1 (by rfl) T.m_int PyProof.Rows.boot_int (pa_cons (pe_op op_add (pe_op op_add (pe_op op_mul (pe_op op_mod (pe_callTy call_int1 (by rfl) T.m_int PyProof.Rows.boot_int (pa_cons (pv 2) pa_nil)) pe_int) pe_int) (pe_op op_mul pe_int (pv 1))) pe_int) pa_nil)) pe_int) pe_int))
      (pss_one (ps_ret (pe_lst (pa_cons (pe_ix (ixl K) (pe_lst (pa_cons pe_int (pa_cons (pv 2) pa_nil))) (pe_callTy call_int1 (by rfl) T.m_int PyProof.Rows.boot_int (pa_cons (pe_cmpR op_ge (pv 2) (pe_op op_pow pe_int pe_int) (nomark _)) pa_nil)) (fun _ _ => rfl)) (pa_cons (pv 3) (pa_cons pe_int pa_nil)))))
      )))), ?_⟩
    walk_at "s"
    refine ⟨fun σ H' => H' = H ∧ ∃ c : Int, σ = [some (.ref a), some (.int k), some (.int c), none], ?_, ?_⟩
    · walk_at "s"
      refine ⟨_, _, rfl, .inl ha, ?_⟩
      walk_at "s"
      refine ite2 (fun hk => ?_) (fun hk => ?_)
      · rw [List.length_map, decide_eq_true_eq] at hk
        obtain ⟨z, hz⟩ := int_at (ns := ns) (i := k) (by omega)
        walk_at "s"
        refine ⟨_, _, _, .int z, rfl, rfl, ha, at_of rfl hz, ?_⟩
        walk_at "s"
        exact ⟨rfl, _, rfl⟩
      · walk_at "s"
        refine ⟨_, _, rfl, .inl ha, ?_⟩
        walk_at "s"
        refine ite2 (fun h0 => ?_) (fun h0 => ?_)
        · rw [List.length_map, decide_eq_true_eq] at h0
          have hn : 0 < (ns.length : Int) := by omega
          walk_at "s"
          refine ⟨_, _, rfl, .inl ha, ?_⟩
          refine ⟨_, _, rfl, rfl, by rw [List.length_map]; exact hn, ?_⟩
          have hm0 := Int.emod_nonneg (k : Int) (show ((ns.map V.int).length : Int) ≠ 0 by rw [List.length_map]; omega)
          have hm1 := Int.emod_lt_of_pos (k : Int) (show (0 : Int) < ((ns.map V.int).length : Int) by rw [List.length_map]; omega)
          obtain ⟨z, hz⟩ := int_at (ns := ns) (i := ((k : Int) % ((ns.map V.int).length : Int)).toNat) (by rw [List.length_map] at hm1 ⊢; omega)
          refine ⟨_, _, _, .int z, rfl, rfl, ha, at_of (by omega) hz, ?_⟩
          walk_at "s"
          exact ⟨rfl, _, rfl⟩
        · exact ⟨rfl, _, rfl⟩
    · rintro σ H' ⟨rfl, c, rfl⟩
      walk_at "s"
      refine ⟨by show 2 ≤ sizeLine; decide, fun p hp => ?_⟩
      have npk := hp
      walk_at "s"
      refine .inr ⟨_, rfl, ?_⟩
      have fin : ∀ x : Int, (3 ≤ sizeLine ∧ ∀ (q : Addr), (upd H' p (.lst [.int 0, .int c])) q = none → Q (.ref q) (upd (upd H' p (.lst [.int 0, .int c])) q (.lst [.int x, .int ((c % 2147483629 * 46589 + 38767 * (k : Int) + 23) % 2147483629 + 1), .int 0]))) := fun x => ⟨by decide, fun q hq => kk q _ (sm_put (sm_new hp) (sm_new hp |>.free hq)) (sm_new hp |>.free hq) (BoxAt.of upd_same)⟩
      cases decide ((10 : Int) ^ (18 : Int).toNat ≤ c) with
      | true =>
        refine ⟨p, _, 1, .int c, rfl, rfl, SqL.of upd_same, rfl, ?_⟩
        walk_at "s"
        exact fin c
      | false =>
        refine ⟨p, _, 0, .int 0, rfl, rfl, SqL.of upd_same, rfl, ?_⟩
        walk_at "s"
        exact fin 0
end
end Toy
set_option maxHeartbeats 2000000
namespace Toy
open PySem L2 C8 SX LX
local macro_rules | `(tactic| walk_at "c") => `(tactic| refine And.intro (by first | (show (0 : Int) < _; omega) | exact Or.inr ⟨by decide, by decide⟩ | exact Or.inl ⟨by decide, by decide⟩ | (exact ⟨by omega, by omega⟩)) ?_)
local macro_rules | `(tactic| walk_at "s1") => `(tactic| first | refine ⟨_, rfl, ?_⟩ | refine ⟨_, _, rfl, rfl, ?_⟩ | refine .inl ⟨_, rfl, ?_⟩ | walk_at "c")
local macro_rules | `(tactic| walk_at "ix") => `(tactic| refine ⟨_, _, _, _, rfl, rfl, SqL.of (by first | assumption | exact upd_same), rfl, ?_⟩)
local macro_rules | `(tactic| walk_at "s") => `(tactic| repeat (walk_at "s1"))
def Sg (sg : List Nat) : Prop := sg.Pairwise (· < ·) ∧ 1 ≤ sg.length ∧ sg.length ≤ 3 ∧ ∀ c ∈ sg, 97 ≤ c ∧ c ≤ 122
theorem ov_az {l : List Nat} : Ov az l ↔ ∀ c ∈ l, 97 ≤ c ∧ c ≤ 122 := ⟨fun h c hc => az_mem.mp (h c hc), fun h c hc => az_mem.mpr (h c hc)⟩
abbrev s_isseq : Stmt := top 10
abbrev n_isseq : List Str := ["value"]
theorem sc_isseq : FnScope n_isseq ["value"] (fnScope s_isseq) := fnScope_by (by decide +kernel)
abbrev s_isrow : Stmt := top 14
abbrev n_isrow : List Str := ["value", "signs"]
theorem sc_isrow : FnScope n_isrow ["value", "signs"] (fnScope s_isrow) := fnScope_by (by decide +kernel)
abbrev s_isletters : Stmt := top 12
abbrev n_isletters : List Str := ["value"]
theorem sc_isletters : FnScope n_isletters ["value"] (fnScope s_isletters) := fnScope_by (by decide +kernel)
abbrev s_issigns : Stmt := top 13
abbrev n_issigns : List Str := ["value", "one", "other"]
theorem sc_issigns : FnScope n_issigns ["value"] (fnScope s_issigns) := fnScope_by (by decide +kernel)
theorem sg_asc {sg : List Nat} (h : Sg sg) (i c d : Nat) (e1 : sg[i]? = some c) (e2 : sg[i + 1]? = some d) : c < d := by
  obtain ⟨a1, a2⟩ := List.getElem?_eq_some_iff.mp e1
  obtain ⟨b1, b2⟩ := List.getElem?_eq_some_iff.mp e2
  have := List.pairwise_iff_getElem.mp h.1 i (i + 1) a1 b1 (Nat.lt_succ_self i)
  rw [a2, b2] at this; exact this
instance (sg l : List Nat) : Decidable (Ov sg l) := by unfold Ov; infer_instance
inductive Kv (K : PySem.W.Frag) (H : Hp) : V → Option (List Nat) → Prop
  | txt (l : List Nat) : Kv K H (.str (S l)) (some l)
  | no {v : V} {t : Value} (ty : TyX K H v t) (h : PySem.W.kitOne K t (.type "str") = some false) : Kv K H v none
def tyN : PyData → String
  | .none => "NoneType"
  | .bool _ => "bool"
  | .int _ => "int"
  | .str _ => "str"
  | .list _ => "list"
  | .tuple _ => "tuple"
  | .dict _ => "dict"
def txtO : PyData → Option (List Nat)
  | .str s => some s.cps.toList
  | _ => none
def isSeqD : PyData → Bool
  | .list _ => true
  | .tuple _ => true
  | _ => false
theorem S_self (s : Str) : S s.cps.toList = s := by
  obtain ⟨c⟩ := s
  simp [S]
theorem ty_seqL {K : PySem.W.Frag} {H : Hp} {a : Addr} {xs : List V} (h : SqL K H a xs) : TyX K H (.ref a) (.type "list") := by
  rcases h with (h | ⟨o, h⟩) | ⟨o, its, n, h1, h2, _⟩
  · exact .base (.lst h)
  · exact .base (.frz h)
  · exact .kList h1 h2
theorem ty_seqT {K : PySem.W.Frag} {H : Hp} {a : Addr} {xs : List V} (h : SqT K H a xs) : TyX K H (.ref a) (.type "tuple") := by
  rcases h with (h | ⟨o, h⟩) | ⟨o, its, n, h1, h2, _⟩
  · exact .base (.tup h)
  · exact .fTuple h
  · exact .kTuple h1 h2
theorem dp_ty {K : PySem.W.Frag} {H : Hp} {v : V} {d : PyData} (h : Dp K H v d) : TyX K H v (.type (tyN d)) := by
  cases h with
  | non => exact .base .non
  | bl b => exact .base (.bl b)
  | int i => exact .base (.int i)
  | str x => exact .base (.str x)
  | lst h _ => exact ty_seqL h
  | tup h _ => exact ty_seqT h
theorem dp_kv {K : PySem.W.Frag} {H : Hp} {v : V} {d : PyData} (h : Dp K H v d) : Kv K H v (txtO d) := by
  have ty := dp_ty h
  cases h with
  | non => exact .no ty (kit_ty (a := "NoneType") (by decide +kernel))
  | bl b => exact .no ty (kit_ty (a := "bool") (by decide +kernel))
  | int i => exact .no ty (kit_ty (a := "int") (by decide +kernel))
  | str x =>
    have e : V.str x = V.str (S x.cps.toList) := by rw [S_self]
    rw [e]
    exact .txt _
  | lst h _ => exact .no ty (kit_ty (a := "list") (by decide +kernel))
  | tup h _ => exact .no ty (kit_ty (a := "tuple") (by decide +kernel))
theorem kv_ins {K : PySem.W.Frag} {H : Hp} {a C dx : Addr} {fs : List (Str × V)} (I : InsC K C) (hk : PySem.W.kitOne K (.ref C) (.type "str") = some false) (h : H a = some (.ins C dx fs)) : Kv K H (.ref a) none :=
  .no (.base (.ins h I.cl I.ha I.hn I.htk I.hm)) hk
mutual
theorem dp_same {K : PySem.W.Frag} {H H' : Hp} (s : Same H H') : ∀ (d : PyData) (v : V), Dp K H v d → Dp K H' v d
  | .none, _, h => by cases h; exact .non
  | .bool b, _, h => by cases h; exact .bl b
  | .int i, _, h => by cases h; exact .int i
  | .str x, _, h => by cases h; exact .str x
  | .list ds, _, h => by
    cases h with
    | lst hs ha => exact .lst (s.seq hs) (dpa_same s ds _ ha)
  | .tuple ds, _, h => by
    cases h with
    | tup hs ha => exact .tup (sm_seqT s hs) (dpa_same s ds _ ha)
  | .dict _, _, h => by cases h
theorem dpa_same {K : PySem.W.Frag} {H H' : Hp} (s : Same H H') : ∀ (ds : List PyData) (vs : List V), DpAll K H vs ds → DpAll K H' vs ds
  | [], _, h => by cases h; exact .nil
  | d :: ds, _, h => by
    cases h with
    | cons h1 h2 => exact .cons (dp_same s d _ h1) (dpa_same s ds _ h2)
end
theorem dpa_len {K : PySem.W.Frag} {H : Hp} : ∀ {vs : List V} {ds : List PyData}, DpAll K H vs ds → vs.length = ds.length
  | _, _, .nil => rfl
  | _, _, .cons _ h => by rw [List.length_cons, List.length_cons, dpa_len h]
theorem dpa_at {K : PySem.W.Frag} {H : Hp} : ∀ {vs : List V} {ds : List PyData}, DpAll K H vs ds → ∀ (i : Nat) (v : V), vs[i]? = some v → ∃ d, ds[i]? = some d ∧ Dp K H v d
  | _, _, .nil, i, v, h => by simp at h
  | _, _, .cons h _, 0, v, e => by cases e; exact ⟨_, rfl, h⟩
  | _, _, .cons _ h, i + 1, v, e => dpa_at h i v e
def seqD (b : Bool) (ds : List PyData) : PyData := if b = true then .list ds else .tuple ds
theorem dp_seq {K : PySem.W.Frag} {H : Hp} {v : V} {b : Bool} {ds : List PyData} (h : Dp K H v (seqD b ds)) : ∃ a xs, v = .ref a ∧ SqB K b H a xs ∧ DpAll K H xs ds := by
  cases b with
  | true =>
    have h : Dp K H v (.list ds) := h
    cases h with
    | lst hs ha => exact ⟨_, _, rfl, hs, ha⟩
  | false =>
    have h : Dp K H v (.tuple ds) := h
    cases h with
    | tup hs ha => exact ⟨_, _, rfl, hs, ha⟩
theorem isSeq_of {d : PyData} (h : isSeqD d = true) : ∃ b ds, d = seqD b ds := by
  cases d with
  | list ds => exact ⟨true, ds, rfl⟩
  | tuple ds => exact ⟨false, ds, rfl⟩
  | _ => cases h
theorem bools_of {ys : List V} {n : Nat} {f : Nat → Bool} (hl : ys.length = n) (h : ∀ (j : Nat) y, ys[j]? = some y → y = .bl (f j)) : ys = ((List.range n).map f).map V.bl := by
  rw [List.map_map]
  exact list_of hl h
theorem all_range {n : Nat} {f : Nat → Bool} : ((List.range n).map f).all id = decide (∀ i, i < n → f i = true) := by
  rw [Bool.eq_iff_iff, List.all_eq_true, decide_eq_true_eq]
  constructor
  · intro h i hi
    exact h _ (List.mem_map.mpr ⟨i, List.mem_range.mpr hi, rfl⟩)
  · intro h b hb
    obtain ⟨i, hi, rfl⟩ := List.mem_map.mp hb
    exact h i (List.mem_range.mp hi)
section
variable {P : Program} {w : World} {K : PySem.W.Frag} {mg : Str → Option Value} {base : Heap}
def spIsSeqD (K : PySem.W.Frag) : Sp := fun vs H Q _ => ∃ (v : V) (d : PyData), vs = [v] ∧ Dp K H v d ∧ ∀ H', Same H H' → Q (.bl (isSeqD d)) H'
theorem ok_isseqD (T : BT mg) {f : Addr} {fd : FuncData} (F : Def K mg "is_sequence" s_isseq f fd) (b : Binds K fd ["value"] []) : Cal P w K mg base 1 "is_sequence" (spIsSeqD K) [] := by
  refine cal0 F b .nil sc_isseq (fun vs H Q E h => ?_) (fun cdv A outer s H vs Q E hr h => ?_)
  · obtain ⟨v, d, rfl, _⟩ := h; rfl
  · obtain ⟨v, d, rfl, hd, k⟩ := h
    refine ⟨_, (pss_one (ps_ret (pe_callB (isiTK K) (by rfl) T.m_isinstance PyProof.Rows.boot_isinstance (pa_cons (pv 0) (pa_cons (pe_tup (pa_cons (pe_bltn (v := .ty "list") (by rfl) T.m_list PyProof.Rows.boot_list rfl) (pa_cons (pe_bltn (v := .ty "tuple") (by rfl) T.m_tuple PyProof.Rows.boot_tuple rfl) pa_nil))) pa_nil))))
      ), ?_⟩
    walk_at "s"
    refine ⟨by decide, fun t ht => ?_⟩
    have ty := dp_ty (dp_same (sm_new (o := .tup [.ty "list", .ty "tuple"]) ht) d v hd)
    refine ⟨_, t, _, _, _, isSeqD d, rfl, upd_same, .cons (.ty _) (.cons (.ty _) .nil), ty, ?_, k _ (sm_new ht)⟩
    cases d with
    | list ds => exact kitAny_cons (b := true) (kit_ty (a := "list") (by decide +kernel)) (fun h => nomatch h) (fun _ => rfl)
    | tuple ds => exact kitAny_cons (b := false) (kit_ty (a := "tuple") (by decide +kernel)) (fun _ => kitAny_cons (b := true) (kit_ty (a := "tuple") (by decide +kernel)) (fun h => nomatch h) (fun _ => rfl)) (fun h => nomatch h)
    | dict ds => cases hd
    | none => exact kitAny_cons (b := false) (kit_ty (a := "NoneType") (by decide +kernel)) (fun _ => kitAny_cons (b := false) (kit_ty (a := "NoneType") (by decide +kernel)) (fun _ => rfl) (fun h => nomatch h)) (fun h => nomatch h)
    | bool _ => exact kitAny_cons (b := false) (kit_ty (a := "bool") (by decide +kernel)) (fun _ => kitAny_cons (b := false) (kit_ty (a := "bool") (by decide +kernel)) (fun _ => rfl) (fun h => nomatch h)) (fun h => nomatch h)
    | int _ => exact kitAny_cons (b := false) (kit_ty (a := "int") (by decide +kernel)) (fun _ => kitAny_cons (b := false) (kit_ty (a := "int") (by decide +kernel)) (fun _ => rfl) (fun h => nomatch h)) (fun h => nomatch h)
    | str _ => exact kitAny_cons (b := false) (kit_ty (a := "str") (by decide +kernel)) (fun _ => kitAny_cons (b := false) (kit_ty (a := "str") (by decide +kernel)) (fun _ => rfl) (fun h => nomatch h)) (fun h => nomatch h)
def rowO (sg : List Nat) : Option (List Nat) → Bool
  | some l => decide (Ov sg l)
  | none => false
def Sm (o : Option (List Nat)) : Prop := ∀ l, o = some l → l.length ≤ 1000
def spIsRowD (K : PySem.W.Frag) : Sp := fun vs H Q _ => ∃ (v : V) (o : Option (List Nat)) (sg : List Nat), vs = [v, .str (S sg)] ∧ Kv K H v o ∧ Sm o ∧ Q (.bl (rowO sg o)) H
theorem ok_isrowD (T : BT mg) {f : Addr} {fd : FuncData} (F : Def K mg "is_row" s_isrow f fd) (b : Binds K fd ["value", "signs"] []) : Cal P w K mg base 1 "is_row" (spIsRowD K) [] := by
  refine cal0 F b .nil sc_isrow (fun vs H Q E h => ?_) (fun cdv A outer s H vs Q E hr h => ?_)
  · obtain ⟨v, o, sg, rfl, _⟩ := h; rfl
  · obtain ⟨v, o, sg, rfl, hv, hl, k⟩ := h
    refine ⟨_, (pss_one (ps_ret (pe_and (pe_callB (isiK K) (by rfl) T.m_isinstance PyProof.Rows.boot_isinstance (pa_cons (pv 0) (pa_cons (pe_bltn (v := .ty "str") (by rfl) T.m_str PyProof.Rows.boot_str rfl) pa_nil))) (pe_one (pe_cmpR op_eq (pe_bm PySem.F.plainAttrs_str PySem.F.slot_str_strip PySem.F.type_str_strip mt_stripChars (pv 0) (pa_cons (pv 1) pa_nil)) pe_str (nomark _)))))
      ), ?_⟩
    walk_at "s"
    cases hv with
    | no ty hk =>
      exact ⟨_, _, _, _, false, rfl, .ty _, ty, hk, false, rfl, iteN rfl k⟩
    | txt l =>
      have hl := hl l rfl
      refine ⟨_, _, _, _, true, rfl, .ty _, .base (.str _), kit_ty (by decide +kernel), true, rfl, ?_⟩
      refine iteT ?_
      refine ⟨_, rfl, rfl, _, rfl, S l, S sg, rfl, rfl, by rw [S_len]; exact sz hl (by decide), rfl, ?_⟩
      have e : V.bl (decide (V.str (Txt.stripChars (S l) (S sg)) = V.str (Str.ofString ""))) = V.bl (decide (Ov sg l)) := by
        rw [s_nil]
        refine congrArg V.bl (decide_eq_decide.mpr ?_)
        rw [V.str.injEq]
        exact strip_nil
      show Q (V.bl (decide (V.str (Txt.stripChars (S l) (S sg)) = V.str (Str.ofString "")))) H
      rw [e]
      exact k
def spIsLettersD (K : PySem.W.Frag) : Sp := fun vs H Q _ => ∃ (v : V) (o : Option (List Nat)), vs = [v] ∧ Kv K H v o ∧ Sm o ∧ Q (.bl (rowO az o)) H
theorem ok_islettersD (T : BT mg) {tz : Tok} (mgZ : mg "_LETTERS" = some (.str (S az) tz)) (c_isrow : Cal P w K mg base 1 "is_row" (spIsRowD K) []) {f : Addr} {fd : FuncData} (F : Def K mg "is_letters" s_isletters f fd) (b : Binds K fd ["value"] []) : Cal P w K mg base 2 "is_letters" (spIsLettersD K) [] := by
  refine cal0 F b .nil sc_isletters (fun vs H Q E h => ?_) (fun cdv A outer s H vs Q E hr h => ?_)
  · obtain ⟨v, o, rfl, _⟩ := h; rfl
  · obtain ⟨v, o, rfl, hv, hl, k⟩ := h
    refine ⟨_, (pss_one (ps_ret (pe_c c_isrow hr (by first | decide | omega) (by rfl) (pa_cons (pv 0) (pa_cons (pe_glob (v := .str (S az)) (by rfl) mgZ ⟨_, rfl⟩) pa_nil))))
      ), ?_⟩
    exact ⟨_, rfl, v, o, az, rfl, hv, hl, k⟩
instance (l : List Nat) : Decidable (Sg l) := by unfold Sg; infer_instance
def sgO : Option (List Nat) → Bool
  | some l => decide (Sg l)
  | none => false
def spIsSignsD (K : PySem.W.Frag) : Sp := fun vs H Q _ => ∃ (v : V) (o : Option (List Nat)), vs = [v] ∧ Kv K H v o ∧ Sm o ∧ ∀ H', Same H H' → Q (.bl (sgO o)) H'
theorem ok_issignsD (T : BT mg) (c_isletters : Cal P w K mg base 2 "is_letters" (spIsLettersD K) []) {f : Addr} {fd : FuncData} (F : Def K mg "is_signs" s_issigns f fd) (b : Binds K fd ["value"] []) : Cal P w K mg base 3 "is_signs" (spIsSignsD K) [] := by
  refine cal0 F b .nil sc_issigns (fun vs H Q E h => ?_) (fun cdv A outer s H vs Q E hr h => ?_)
  · obtain ⟨v, o, rfl, _⟩ := h; rfl
  · obtain ⟨v, o, rfl, hv, hl, k⟩ := h
    refine ⟨_, (pss_cons (ps_if (PW.pt (pw_or (pt_not (pt_val (pe_c c_isletters hr (by first | decide | omega) (by rfl) (pa_cons (pv 0) pa_nil)))) (pw_or (pt_cmpR op_lt (pe_callB call_len_str (by rfl) T.m_len PySem.boot_len (pa_cons (pv 0) pa_nil)) pe_int (nomark _)) (pw_or1 (pt_cmpR op_gt (pe_callB call_len_str (by rfl) T.m_len PySem.boot_len (pa_cons (pv 0) pa_nil)) pe_int (nomark _)))))) 
        (pss_one (ps_ret pe_bl)
        )
       pss_nil)
      (pss_one (ps_ret (pe_callB (cr_all rfl) (by rfl) T.m_all PyProof.Rows.boot_all (pa_cons (pe_lc (own := [("one", 1), ("other", 2)]) rfl sc_issigns.nd (pi_zipX (by rfl) T.m_zip (pa_cons (pv 0) (pa_cons (pe_slice sl_txt (pv 0) (po_some pe_int) po_none) pa_nil))) (blkOk_by (N := n_issigns) (sc := fnScope s_issigns) (by decide +kernel)) (fun _ _ _ _ _ => (tupK K 2 (pgs_cons (pg_name (i := 1) sc_issigns.nd rfl (.inl rfl)) (pgs_cons (pg_name (i := 2) sc_issigns.nd rfl (.inl rfl)) pgs_nil)))) (fun _ _ _ _ _ => pts_nil) (fun _ _ _ _ _ => (pe_cmpR op_lt_str (pv 1) (pv 2) (nomark _)))) pa_nil)))
      )), ?_⟩
    refine ⟨_, rfl, v, o, rfl, hv, hl, ?_⟩
    cases hv with
    | no ty hk => exact ⟨_, rfl, iteB rfl (k H (Same.refl H))⟩
    | txt l =>
      have hl := hl l rfl
      by_cases ha : Ov az l
      · rw [show rowO az (some l) = true from decide_eq_true ha]
        have hsl : (S l).length ≤ sizeLine := by rw [S_len]; exact Nat.le_trans hl (by decide)
        refine ⟨_, rfl, iteN rfl ?_⟩
        walk_at "s"
        refine ⟨hsl, ?_⟩
        walk_at "s"
        by_cases h1 : l.length < 1
        · refine iteB (by rw [S_len]; exact decide_eq_true (by omega)) ?_
          have e : sgO (some l) = false := decide_eq_false fun h => by have := h.2.1; omega
          rw [e] at k
          exact k H (Same.refl H)
        refine iteN (by rw [S_len]; exact decide_eq_false (by omega)) ?_
        walk_at "s"
        refine ⟨hsl, ?_⟩
        walk_at "s"
        by_cases h3 : 3 < l.length
        · refine iteB (by rw [S_len]; exact decide_eq_true (by omega)) ?_
          have e : sgO (some l) = false := decide_eq_false fun h => by have := h.2.2.1; omega
          rw [e] at k
          exact k H (Same.refl H)
        refine iteN (by rw [S_len]; exact decide_eq_false (by omega)) ?_
        walk_at "s"
        refine ⟨hsl, _, _, .txt (S l), .txt (S (l.drop 1)), rfl, rfl, slice_from (by decide), trivial, trivial, fun D hD => ?_⟩
        have hn : min (l.map fun c => V.str (S [c])).length ((l.drop 1).map fun c => V.str (S [c])).length = l.length - 1 := by
          rw [List.length_map, List.length_map, List.length_drop]; omega
        refine lc_keep (n := min (l.map fun c => V.str (S [c])).length ((l.drop 1).map fun c => V.str (S [c])).length) keep_same walk_zipX hD (by rw [hn]; exact small1000 (by omega)) (fun j y => y = .bl (decide (l.getD j 0 < l.getD (1 + j) 0))) (fun _ _ => ⟨rfl, rfl⟩) (fun i x H2 H3 R hii r1 hy hR => ?_) (fun ys H2 hly hg r1 hDs => ?_)
        · obtain ⟨t, x1, x2, rfl, ht, rfl, e1, e2⟩ := hy
          have e1 : (l.map fun c => V.str (S [c]))[i]? = some x1 := e1
          have e2 : ((l.drop 1).map fun c => V.str (S [c]))[i]? = some x2 := e2
          rw [List.getElem?_map] at e1 e2
          rw [List.getElem?_drop] at e2
          cases q1 : l[i]? with
          | none => rw [q1] at e1; cases e1
          | some c =>
            cases q2 : l[1 + i]? with
            | none => rw [q2] at e2; cases e2
            | some d =>
              rw [q1] at e1; rw [q2] at e2
              cases e1; cases e2
              refine ⟨t, _, rfl, .inl (.inl upd_same), rfl, _, _, rfl, _, _, rfl, rfl, rfl, ?_⟩
              walk_at "s"
              refine hR _ _ (sm_new ht) (congrArg V.bl ?_)
              rw [List.getD_eq_getElem?_getD, List.getD_eq_getElem?_getD, q1, q2]
              show decide (([c] : List Nat) < [d]) = decide (c < d)
              refine decide_eq_decide.mpr ?_
              rw [List.cons_lt_cons_iff]
              exact ⟨fun h => h.elim id fun h => absurd h.2 (by simp), .inl⟩
        · refine ⟨D, (List.range (l.length - 1)).map fun j => decide (l.getD j 0 < l.getD (1 + j) 0), rfl, SqL.of (by rw [← bools_of (hly.trans hn) hg]; exact hDs), ?_⟩
          rw [all_range]
          have e : sgO (some l) = decide (∀ i, i < l.length - 1 → decide (l.getD i 0 < l.getD (1 + i) 0) = true) := by
            refine decide_eq_decide.mpr ⟨fun h i hi => decide_eq_true ?_, fun h => ⟨?_, by omega, by omega, ov_az.mp ha⟩⟩
            · have i1 : i < l.length := by omega
              have i2 : i + 1 < l.length := by omega
              rw [List.getD_eq_getElem?_getD, List.getD_eq_getElem?_getD, Nat.add_comm 1 i, List.getElem?_eq_getElem i1, List.getElem?_eq_getElem i2]
              exact sg_asc h i _ _ (List.getElem?_eq_getElem i1) (List.getElem?_eq_getElem i2)
            · have key : ∀ i, i + 1 < l.length → l.getD i 0 < l.getD (i + 1) 0 := fun i hi => by
                have := of_decide_eq_true (h i (by omega))
                rw [Nat.add_comm 1 i] at this
                exact this
              match l, key with
              | [], _ => exact .nil
              | [a], _ => exact List.pairwise_singleton _ _
              | [a, b], key =>
                have := key 0 (by simp)
                simp at this
                exact .cons (fun x hx => by rw [List.mem_singleton.mp hx]; exact this) (List.pairwise_singleton _ _)
              | [a, b, c], key =>
                have k1 := key 0 (by simp)
                have k2 := key 1 (by simp)
                simp at k1 k2
                exact .cons (fun x hx => by rcases List.mem_cons.mp hx with rfl | hx; exact k1; rw [List.mem_singleton.mp hx]; omega) (.cons (fun x hx => by rw [List.mem_singleton.mp hx]; exact k2) (List.pairwise_singleton _ _))
              | _ :: _ :: _ :: _ :: _, _ => simp at h3
          rw [← e]
          exact k H2 r1
      · rw [show rowO az (some l) = false from decide_eq_false ha]
        refine ⟨_, rfl, iteB rfl ?_⟩
        have e : sgO (some l) = false := decide_eq_false fun h => ha (ov_az.mpr h.2.2.2)
        rw [e] at k
        exact k H (Same.refl H)
end
end Toy
set_option maxHeartbeats 2000000
namespace Toy
open PySem L2 C8 SX LX
local macro_rules | `(tactic| walk_at "c") => `(tactic| refine And.intro (by first | (show (0 : Int) < _; omega) | exact Or.inr ⟨by decide, by decide⟩ | exact Or.inl ⟨by decide, by decide⟩ | (exact ⟨by omega, by omega⟩)) ?_)
local macro_rules | `(tactic| walk_at "s1") => `(tactic| first | refine ⟨_, rfl, ?_⟩ | refine ⟨_, _, rfl, rfl, ?_⟩ | refine .inl ⟨_, rfl, ?_⟩ | walk_at "c")
local macro_rules | `(tactic| walk_at "ix") => `(tactic| refine ⟨_, _, _, _, rfl, rfl, SqL.of (by first | assumption | exact upd_same), rfl, ?_⟩)
local macro_rules | `(tactic| walk_at "s") => `(tactic| repeat (walk_at "s1"))
mutual
def okD : PyData → Bool
  | .str s => decide (s.length ≤ 40) && s.cps.toList.all fun c => decide (c < 1114112)
  | .list ds => decide (ds.length ≤ 20) && okAll ds
  | .tuple ds => decide (ds.length ≤ 20) && okAll ds
  | _ => true
def okAll : List PyData → Bool
  | [] => true
  | d :: ds => okD d && okAll ds
end
theorem okAll_iff : ∀ {ds : List PyData}, okAll ds = true ↔ ∀ d ∈ ds, okD d = true
  | [] => by simp [okAll]
  | d :: ds => by
    have ih := okAll_iff (ds := ds)
    simp only [okAll, Bool.and_eq_true, List.forall_mem_cons, ih]
theorem okD_lst {ds : List PyData} (hl : ds.length ≤ 20) (h : ∀ d ∈ ds, okD d = true) : okD (.list ds) = true := by
  unfold okD; rw [decide_eq_true hl, okAll_iff.mpr h]; rfl
theorem okD_tup {ds : List PyData} (hl : ds.length ≤ 20) (h : ∀ d ∈ ds, okD d = true) : okD (.tuple ds) = true := by
  unfold okD; rw [decide_eq_true hl, okAll_iff.mpr h]; rfl
def itemsD : PyData → Option (List PyData)
  | .list ds => some ds
  | .tuple ds => some ds
  | _ => none
theorem okD_items {d : PyData} {ds : List PyData} (h : okD d = true) (e : itemsD d = some ds) : ds.length ≤ 20 ∧ ∀ x ∈ ds, okD x = true := by
  cases d with
  | list xs => cases e; unfold okD at h; rw [Bool.and_eq_true, decide_eq_true_eq] at h; exact ⟨h.1, okAll_iff.mp h.2⟩
  | tuple xs => cases e; unfold okD at h; rw [Bool.and_eq_true, decide_eq_true_eq] at h; exact ⟨h.1, okAll_iff.mp h.2⟩
  | _ => cases e
theorem okD_sm {d : PyData} (h : okD d = true) : Sm (txtO d) := fun l e => by
  cases d with
  | str s =>
    cases e
    unfold okD at h
    rw [Bool.and_eq_true, decide_eq_true_eq] at h
    have : s.cps.toList.length = s.length := Array.length_toList
    omega
  | _ => cases e
theorem okD_text {l : List Nat} (h : okD (.str (S l)) = true) : l.length ≤ 40 ∧ ∀ c ∈ l, c < 1114112 := by
  unfold okD at h
  rw [Bool.and_eq_true, decide_eq_true_eq, S_len] at h
  refine ⟨h.1, fun c hc => ?_⟩
  have := List.all_eq_true.mp h.2 c (by simpa [S] using hc)
  exact of_decide_eq_true this
theorem bx_wo {b : Addr} {B : List Addr} {H H' : Hp} (s : Bx b H H') (h : b ∈ B) : Same (wo B H) (wo B H') := fun a o e => let ⟨e, n⟩ := of_wo e; wo_get (s.1 _ _ (fun z => n (by rw [z]; exact h)) e) n
theorem live_bx {b : Addr} {B : List Addr} {H H' : Hp} (l : Liv B H) (s : Bx b H H') : Liv B H' := fun c hc e => by
  by_cases n : c = b
  · subst n; obtain ⟨o, h, _⟩ := s.2; rw [h] at e; cases e
  · cases q : H c with
    | none => exact l c hc q
    | some o => rw [s.1 _ _ n q] at e; cases e
theorem dpa_ex {K : PySem.W.Frag} {H : Hp} {P : PyData → Prop} : ∀ {ys : List V}, (∀ (j : Nat) y, ys[j]? = some y → ∃ d, Dp K H y d ∧ P d) → ∃ ds, DpAll K H ys ds ∧ ∀ d ∈ ds, P d
  | [], _ => ⟨[], .nil, fun _ h => nomatch h⟩
  | y :: ys, h => by
    obtain ⟨d, h1, h2⟩ := h 0 y rfl
    obtain ⟨ds, h3, h4⟩ := dpa_ex (ys := ys) fun j z e => h (j + 1) z e
    exact ⟨d :: ds, .cons h1 h3, fun x hx => by rcases List.mem_cons.mp hx with rfl | hx; exact h2; exact h4 x hx⟩
end Toy
set_option maxHeartbeats 4000000
namespace LX
open PySem PySem.Spec PyProof.Rows L2 C8 SX
structure PrX (P : Program) (w : World) (K : PySem.W.Frag) (mg : Str → Option Value) (base : Heap) (k : Nat) (C : Addr) (f : Str) (sp : Sp) : Prop where
  ex : ∃ (p g : Addr) (fd : FuncData) (ps : List Str), Cls K C ∧ PropOf K C f p g ∧ FnOk P w K mg base C8.CX0 k g fd ps sp ∧ Binds K fd ps []
theorem pe_prX {X : Cx} {k j : Nat} {C : Addr} {f : Str} {sp : Sp} {e : Expr} {pos : Pos} {ta : TE} (c : PrX X.prog X.w X.K X.mg X.base k C f sp) (hr : Room j X.A) (hk : k + 1 ≤ j) (he : PE X e ta) (hab : attributeBase e f X.env (eval e X.env) = eval e X.env := by rfl) :
    PE X (.Attribute e f pos) (tProp C sp [] C8.E0 ta) := by
  obtain ⟨p, g, fd, ps, cl, hp, F, hb⟩ := c.ex
  exact pe_prop he cl hp F (hr.mono hk) hb .nil C8.pass0 hab
theorem starts1 (l : List Nat) (c : Nat) : Txt.startswith (S l) (S [c]) = decide (l.head? = some c) := by
  unfold Txt.startswith
  rw [PySem.StrLaws.subAt_eq]
  have e1 : (S l).cps.toList = l := by simp [S]
  have e2 : (S [c]).cps.toList = [c] := by simp [S]
  rw [e1, e2, S_len, S_len]
  cases l with
  | nil => rfl
  | cons d r => by_cases h : d = c <;> simp [h]
theorem ends1 (l : List Nat) (c : Nat) : Txt.endswith (S l) (S [c]) = decide (l.getLast? = some c) := by
  unfold Txt.endswith
  rw [PySem.StrLaws.subAt_eq]
  have e1 : (S l).cps.toList = l := by simp [S]
  have e2 : (S [c]).cps.toList = [c] := by simp [S]
  rw [e1, e2, S_len, S_len]
  rcases List.eq_nil_or_concat l with rfl | ⟨r, d, rfl⟩
  · rfl
  · by_cases h : d = c <;> simp [h]
theorem slice_mid (c d : Nat) (a : List Nat) : Txt.slice (S (c :: (a ++ [d]))) (some 1) (some (-1)) = S a := by
  have hl : (S (c :: (a ++ [d]))).length = a.length + 2 := by rw [S_len]; simp
  have e0 : Txt.slice (S (c :: (a ++ [d]))) (some 1) (some (-1)) = Txt.slice (S (c :: (a ++ [d]))) (some 1) (some ((a.length : Int) + 1)) := by
    have e := PySem.StrLaws.sliceText_neg_hi (S (c :: (a ++ [d]))) (some 1) (j := -1) (by omega) (by rw [hl]; omega)
    rw [hl] at e
    refine Eq.trans e ?_
    rw [show (-1 + ((a.length + 2 : Nat) : Int)) = (a.length : Int) + 1 by omega]
    rfl
  rw [e0]
  have e := beq_iff_eq.mp (PyProof.Rows.slice_closes (x := S (c :: (a ++ [d]))) (i := 1) (j := (a.length : Int) + 1) ⟨by omega, by omega, by simp [S]; omega⟩)
  refine e.trans (TL.ext_tl ?_)
  show (((S (c :: (a ++ [d]))).cps.toList.drop (1 : Int).toNat).take ((a.length : Int) + 1 - 1).toNat) = a
  rw [show (1 : Int).toNat = 1 from rfl, show ((a.length : Int) + 1 - 1).toNat = a.length by omega, show (S (c :: (a ++ [d]))).cps.toList = c :: (a ++ [d]) by simp [S]]
  simp
end LX
set_option maxHeartbeats 2000000
namespace LX
open PySem PySem.Spec PyProof.Rows L2 C8 SX
section
variable {X : Cx}
def tRevLX (K : PySem.W.Frag) (te ts : TE) : TE := fun σ H Q => te σ H fun x H1 => ts σ H1 fun y H2 => ∃ i, y = .int i ∧ (some i = some (-1) ∧ ∃ (a : Addr) (xs : List V), x = .ref a ∧ SqL K H2 a xs ∧ ∀ p, H2 p = none → Q (.ref p) (upd H2 p (.lst xs.reverse)))
theorem pe_revLX {e st : Expr} {te ts : TE} {p3 pos : Pos} (K : PySem.W.Frag) (he : PE X e te) (hs : PE X st ts) (hK : X.K = K := by rfl) : PE X (.Subscript e (.Slice none none (some st) p3) pos) (tRevLX K te ts) := by
  subst hK
  refine ⟨fun pins s σ H Q I h => ?_⟩
  refine Subscript_ (thn (he.run pins s σ H _ I h) fun v s1 ⟨x, H1, I1, r1, q1⟩ => ?_)
  have hst : PO X (some st) (tPart ts) := po_some hs
  refine wpAny_Slice (thn (po_none.run pins s1 σ H1 (fun o H2 => o = none ∧ H2 = H1) I1 ⟨rfl, rfl⟩) fun vl s2 ⟨l, H2, I2, pl, el, e2⟩ => ?_)
  subst el e2
  refine thn (po_none.run pins s2 σ H2 (fun o H3 => o = none ∧ H3 = H2) I2 ⟨rfl, rfl⟩) fun vu s3 ⟨u, H3, I3, pu, eu, e3⟩ => ?_
  subst eu e3
  refine thn (hst.run pins s3 σ H3 (fun o H4 => o = some (-1) ∧ ∃ (a : Addr) (xs : List V), x = .ref a ∧ SqL X.K H4 a xs ∧ ∀ p, H4 p = none → Q (.ref p) (upd H4 p (.lst xs.reverse))) I3 q1) fun vs s4 ⟨o, H4, I4, ps, eo, a, xs, ex, hx, q⟩ => ?_
  subst eo ex
  cases r1
  have I5 : Inv X pins σ H4 { s4 with heap := s4.heap.push { cls := .type "slice", data := .fields #[vl, vu, vs] } } := I4.kept (t' := s4.toks) fun b ob q => Heap.get?_push_of_some _ q
  obtain ⟨its, r, ht, hz⟩ := I5.list hx
  have hlen := r.length
  show wpAny (model X.prog X.w) X.A (subscriptTail e (.Slice none none (some st) p3) (.ref a) (.ref s4.heap.objs.size)) (EP X pins σ Q) X.xe { s4 with heap := s4.heap.push { cls := .type "slice", data := .fields #[vl, vu, vs] } }
  refine tail_any (ops := [.ref a, .ref s4.heap.objs.size]) ht.isList.typeIs (PySem.slot_list_getitem.lookup) ?_ (by with_unfolding_all rfl)
  refine wpAny_getItem_list_slice ht.isList (Heap.IsSliceOf.new _ vl vu vs) pl pu ps (by decide) ?_ (by rw [List.size_toArray]; omega)
  rw [PySem.W.krv_pick]
  refine ⟨.ref _, _, I5.laid (t' := s4.toks) (o := .lst xs.reverse) (fun b ob q => Heap.get?_push_of_some _ q) (Nat.le_refl _) ?_, rfl, q _ (I5.hok.fresh (Nat.le_refl _))⟩
  exact ⟨by rw [List.length_reverse]; exact hz, _, 0, r.reverse, Heap.get?_push_size _ rfl⟩
end
def NL (H H' : Hp) : Prop := ∀ a o, H a = some o → (∀ xs, o ≠ .lst xs) → H' a = some o
theorem NL.refl (H : Hp) : NL H H := fun _ _ e _ => e
theorem NL.trans {H H1 H2 : Hp} (p : NL H H1) (q : NL H1 H2) : NL H H2 := fun a o e n => q a o (p a o e n) n
theorem nl_same {H H' : Hp} (s : Same H H') : NL H H' := fun a o e _ => s a o e
theorem nl_lset {H : Hp} {a : Addr} {xs ys : List V} (h : H a = some (.lst xs)) : NL H (upd H a (.lst ys)) := fun b o e n => by
  rw [upd_ne (fun z => by rw [z, h] at e; exact n xs (Option.some.inj e).symm)]; exact e
end LX
set_option maxHeartbeats 2000000
namespace LX
open PySem PySem.Spec PyProof.Rows L2 C8 SX
section
variable {X : Cx} {k j : Nat} {C : Addr} {sp : Sp}
theorem met_run0 {mth : Str} {pins : List (Addr × Obj)} {σ : L2.St} {H : Hp} {s : Shared} {A : Around} {a : Addr} {Q : Value → Shared → Prop} (c : Met X.prog X.w X.K X.mg X.base k C mth sp []) (hr : Room k A) (hfr : A.frames = X.A.frames) (I : Inv X pins σ H s)
    {R : VK} (hsp : sp [.ref a] H R C8.E0) (hQ : ∀ v z H' s', Inv X pins σ H' s' → RelV z v → R z H' → Q v s') :
    ∃ f, PySem.W.findIn X.K (.ref C) mth = some (some (.ref f)) ∧ PySem.W.isFn X.K (.ref f) = true ∧ wpAny (model X.prog X.w) A (call (.ref f) [.ref a]) Q X.xe s := by
  obtain ⟨f, fd, ps, ds, hc, hm, F, hb, hd⟩ := c.ex
  refine ⟨f, hm.at_, hm.fn, ?_⟩
  have e0 : Env0 X.prog X.w X.K X.mg X.base A X.stack s H := by
    have e := I.env0
    exact ⟨by rw [hfr]; exact e.frames, e.mod, e.bs, e.bsz, e.funs, e.frf, e.hok, e.bare⟩
  have hds : ds = [] := by cases hd; rfl
  subst hds
  have hl := F.len _ _ _ _ hsp
  have r2 : Vals [V.ref a] [Value.ref a] := .cons rfl .nil
  refine wpAny_call (codeAny_mono (F.run A X.stack s H ⟨[.ref a], []⟩ [.ref a] [.ref a] _ C8.E0 hr e0 (by
    have := hb s [.ref a] I.kIn (by simpa using hl)
    simpa using this) r2 hsp) fun r s' hq => ?_)
  cases r with
  | error e => exact C8.pass0 (E := C8.E0) pins σ H s e s' I hq
  | ok fl =>
    cases fl with
    | ret w =>
      obtain ⟨z, H', I', rz, q⟩ := I.after hq
      exact hQ w z H' s' I' rz q
    | next => exact False.elim hq
    | brk => exact False.elim hq
    | cont => exact False.elim hq
theorem call_strI (c : Met X.prog X.w X.K X.mg X.base k C "__str__" sp []) (hr : Room j X.A) (hk : k + 2 ≤ j) : CallR X (.type "str") (fun xs H Q => ∃ a dx fs, xs = [.ref a] ∧ H a = some (.ins C dx fs) ∧ sp [.ref a] H (fun v H' => ∃ z, v = .str z ∧ Q (.str z) H') C8.E0) := by
  intro pins s σ H xs us Q I rel want
  obtain ⟨a, dx, fs, rfl, ha, hsp⟩ := want
  obtain ⟨u, rfl, ru⟩ := vals1 rel
  cases ru
  obtain ⟨mA, J, _⟩ := ins_get I.hok ha
  obtain ⟨od, J, _⟩ := J.look
  have r2 : Room k X.A.in1.in1 := (hr.mono hk).in1.in1
  obtain ⟨f, hs, hf, hw⟩ := met_run0 (A := X.A.in1.in1) (Q := PySem.W.StrBack (EP X pins σ Q)) c r2 rfl I hsp (fun v z H' s' I' rz q => by
    obtain ⟨y, rfl, q⟩ := q
    obtain ⟨t, rfl⟩ := rz
    exact ⟨.str y, H', I', ⟨t, rfl⟩, q⟩)
  exact PySem.W.kso_call r2.units0 I.kIn J hs hf hw
end
end LX
set_option maxHeartbeats 4000000
namespace LX
open PySem PySem.Spec PyProof.Rows L2 C8 SX
section
variable {X : Cx} {k j : Nat} {C : Addr} {sp : Sp}
theorem call_lenI (c : Met X.prog X.w X.K X.mg X.base k C "__len__" sp []) (hr : Room j X.A) (hk : k + 1 ≤ j) : CallR X (.builtin "len") (fun xs H Q => ∃ a dx fs, xs = [.ref a] ∧ H a = some (.ins C dx fs) ∧ sp [.ref a] H (fun v H' => ∃ n : Nat, v = .int (n : Nat) ∧ n ≤ 1000 ∧ Q (.int (n : Nat)) H') C8.E0) := by
  intro pins s σ H xs us Q I rel want
  obtain ⟨a, dx, fs, rfl, ha, hsp⟩ := want
  obtain ⟨u, rfl, ru⟩ := vals1 rel
  cases ru
  obtain ⟨mA, J, _⟩ := ins_get I.hok ha
  obtain ⟨od, J, _⟩ := J.look
  have r2 : Room k X.A.in1 := (hr.mono hk).in1
  obtain ⟨m, hF⟩ := I.fr
  obtain ⟨f, hs, hf, hw⟩ := met_run0 (A := X.A.in1) (Q := PySem.W.LenBack (EP X pins σ Q)) c r2 rfl I hsp (fun v z H' s' I' rz q => by
    obtain ⟨n, rfl, hn, q⟩ := q
    obtain ⟨t, rfl⟩ := rz
    exact ⟨⟨by omega, by omega⟩, .int (n : Nat), H', I'.tok _, ⟨_, rfl⟩, q⟩)
  exact PySem.W.len_K hF I.ok.mod.kin J hs hf hw
def SameR (xs ys : List V) : Prop := ∀ (i : Nat) u v, xs[i]? = some u → ys[i]? = some v → u = v ∧ ∃ c, u = .ref c
theorem same_items {A : Around} {s : Shared} {xs ys : List V} {us ws : List Value} (r1 : Vals xs us) (r2 : Vals ys ws) (h : SameR xs ys) (i : Nat) (h1 : i < us.toArray.size) (h2 : i < ws.toArray.size) : SeqAt.EqAt A s us.toArray[i] ws.toArray[i] true := by
  have g1 : us[i]? = some us.toArray[i] := by
    have h1' : i < us.length := by simpa using h1
    rw [List.getElem?_eq_getElem h1'] <;> simp
  have g2 : ws[i]? = some ws.toArray[i] := by
    have h2' : i < ws.length := by simpa using h2
    rw [List.getElem?_eq_getElem h2'] <;> simp
  have k1 : i < xs.length := by rw [r1.length]; simpa using h1
  have k2 : i < ys.length := by rw [r2.length]; simpa using h2
  obtain ⟨u, hu, ru⟩ := r1.get (List.getElem?_eq_getElem k1)
  obtain ⟨v, hv, rv⟩ := r2.get (List.getElem?_eq_getElem k2)
  rw [g1] at hu
  rw [g2] at hv
  rw [Option.some.inj hu, Option.some.inj hv]
  obtain ⟨e, c, ec⟩ := h i _ _ (List.getElem?_eq_getElem k1) (List.getElem?_eq_getElem k2)
  rw [← e] at rv
  rw [ec] at ru rv
  cases ru
  cases rv
  exact SeqAt.EqAt.same _
def rEqId (K : PySem.W.Frag) : R2 := fun x y H Q => ∃ a b xs ys, x = .ref a ∧ y = .ref b ∧ SqT K H a xs ∧ SqT K H b ys ∧ SameR xs ys ∧ Q (.bl (decide (xs.length = ys.length))) H
def rNeId (K : PySem.W.Frag) : R2 := fun x y H Q => ∃ a b xs ys, x = .ref a ∧ y = .ref b ∧ SqT K H a xs ∧ SqT K H b ys ∧ SameR xs ys ∧ Q (.bl (!decide (xs.length = ys.length))) H
theorem len_eq {xs ys : List V} {us ws : List Value} (r1 : Vals xs us) (r2 : Vals ys ws) : ((List.range (min us.toArray.size ws.toArray.size)).all (fun _ => true) && us.toArray.size == ws.toArray.size) = decide (xs.length = ys.length) := by
  rw [List.all_eq_true.mpr fun _ _ => rfl, Bool.true_and, List.size_toArray, List.size_toArray, ← r1.length, ← r2.length, Bool.eq_iff_iff, beq_iff_eq, decide_eq_true_eq]
theorem op_eqId (hu : X.A.units < cLine) : OpR X (compareOp .Eq) (rEqId X.K) := by
  intro pins s σ H x y v u Q I rx ry h
  obtain ⟨a, b, xs, ys, rfl, rfl, ha, hb, all, q⟩ := h
  cases rx
  cases ry
  obtain ⟨its, r, p, _⟩ := I.tuple ha
  obtain ⟨its2, r2, p2, _⟩ := I.tuple hb
  refine SeqAt.eq_tupleAt (e := fun _ => true) p p2 hu (fun i h1 h2 => same_items r r2 all i h1 h2) ⟨.bl _, H, I, ?_, q⟩
  rw [len_eq r r2]; rfl
theorem op_neId (hu : X.A.units < cLine) : OpR X (compareOp .NotEq) (rNeId X.K) := by
  intro pins s σ H x y v u Q I rx ry h
  obtain ⟨a, b, xs, ys, rfl, rfl, ha, hb, all, q⟩ := h
  cases rx
  cases ry
  obtain ⟨its, r, p, _⟩ := I.tuple ha
  obtain ⟨its2, r2, p2, _⟩ := I.tuple hb
  refine SeqAt.RcNeAt.tuples (e := fun _ => true) p p2 hu (fun i h1 h2 => same_items r r2 all i h1 h2) X.prog X.w X.xe _ ⟨.bl _, H, I, ?_, q⟩
  rw [len_eq r r2]; rfl
theorem op_eqIdK (K : PySem.W.Frag) (hr : Room j X.A) (h : X.K = K := by rfl) : OpR X (compareOp .Eq) (rEqId K) := by subst h; exact op_eqId hr.units0
theorem op_neIdK (K : PySem.W.Frag) (hr : Room j X.A) (h : X.K = K := by rfl) : OpR X (compareOp .NotEq) (rNeId K) := by subst h; exact op_neId hr.units0
def gSl (to : TE) (tl th : TO) : TG := fun v σ H Q => to σ H fun o H1 => tl σ H1 fun l H2 => th σ H2 fun u H3 => ∃ p b xs ys a c, o = .ref p ∧ v = .ref b ∧ l = some a ∧ u = some c ∧ p ≠ b ∧ H3 p = some (.lst xs) ∧ H3 b = some (.lst ys) ∧ 0 ≤ a ∧ a ≤ c ∧ c ≤ xs.length ∧ xs.length + ys.length ≤ sizeLine ∧
  Q σ (upd H3 p (.lst (xs.take a.toNat ++ ys ++ xs.drop c.toNat)))
theorem pg_slice {o : Expr} {lo hi : Option Expr} {p2 pos : Pos} {to : TE} {tl th : TO} (ho : PE X o to) (hl : PO X lo tl) (hu : PO X hi th)
    (ha : ∀ v, assign (.Subscript o (.Slice lo hi none p2) pos) X.env v = (do
      let ov ← holding [v] (eval o X.env)
      let iv ← holding [v, ov] (eval (.Slice lo hi none p2) X.env)
      standAt pos
      holding [v, ov, iv] (setItem ov iv v)
      release [iv, v, ov] []) := by intro _; rfl) : PG X (.Subscript o (.Slice lo hi none p2) pos) (gSl to tl th) := by
  refine ⟨fun pins s σ H v u Q I r h => ?_⟩
  rw [ha]
  refine wpAny_bind (wpAny_holding (thn (ho.run pins s σ H _ I h) fun ov s1 ⟨x, H1, I1, r1, q1⟩ => ?_))
  refine wpAny_bind (wpAny_holding (wpAny_Slice (thn (hl.run pins s1 σ H1 _ I1 q1) fun vl s2 ⟨l, H2, I2, pl, q2⟩ => thn (hu.run pins s2 σ H2 _ I2 q2) fun vu s3 ⟨c, H3, I3, pu, q3⟩ => ?_)))
  rw [evalPart_none]
  refine wpAny_pure ?_
  have I4 : Inv X pins σ H3 { s3 with heap := s3.heap.push { cls := .type "slice", data := .fields #[vl, vu, .none] } } := I3.kept (t' := s3.toks) fun b ob q => Heap.get?_push_of_some _ q
  obtain ⟨p, b, xs, ys, a, c, rfl, rfl, rfl, rfl, hne, hp, hb, h0, hac, hc, hz, q⟩ := q3
  cases r1
  cases r
  cases pl
  cases pu
  refine wpAny_bind (wpAny_standAt (wpAny_bind (wpAny_holding (set_slice I4 hp hb hne (Heap.IsSliceOf.new _ _ _ _) ⟨_, rfl⟩ ⟨_, rfl⟩ h0 hac hc hz fun s5 I5 => ?_))))
  exact wpAny_release ⟨σ, _, I5, q⟩
end
end LX
namespace LX
open PySem PySem.Spec PyProof.Rows L2 C8 SX
theorem ext_tup (l : Addr) (items : Array Value) (n : Nat) (b : Addr) (items2 : Array Value) (n2 : Nat) (dd : Option Addr) (sl : Array (Option Value)) (hs0 : ¬(!items.isEmpty && Builtin.List.listTooLong (items.size + items2.size)) = true) (hs1 : items.size ≤ sizeLine) (hs2 : items.size + items2.size ≤ sizeLine + 1) :
    Meets (Builtin.«list.extend» ⟨[.ref l, .ref b], []⟩) (fun _ R s => s.heap.get? l = some { cls := .type "list", data := .seq items n } ∧ s.heap.get? b = some { cls := .type "tuple", dict := dd, data := .seq items2 n2, slots := sl } ∧ R (.ok (.ret Value.none)) { s with heap := s.heap.update l (Obj.mapSeq fun x => x ++ items2) }) :=
  .of_wp fun prog w A R s h => by
    obtain ⟨hl, hb, h⟩ := h
    obtain ⟨hp, g, d, tk, os⟩ := s
    have f1 := PySem.AutoSeq1.sub_tuple_tuple
    have f2 := PySem.AutoSeq1.sub_list_list
    have f3 := PySem.AutoSeq1.sub_tuple_list
    have f4 := PySem.AutoSeq1.sub_list_tuple
    have hz' : (items ++ items2).size ≤ sizeLine + 1 := by rw [Array.size_append]; exact hs2
    wp_walk using (wpAny_updateSeq hl rfl (hz := hs1) (_hz' := hz')), PySem.AutoSeq1.wpAny_loadPart' hl, PySem.AutoSeq1.wpAny_loadPart' hb
    exact ⟨_, rfl, h⟩
section
variable {X : Cx}
def rExtendT : V → List V → Hp → VK → Prop := fun x vs H Q => ∃ l b xs zs, x = .ref l ∧ vs = [.ref b] ∧ H l = some (.lst xs) ∧ H b = some (.tup zs) ∧ xs.length + zs.length ≤ sizeLine ∧ Q .non (upd H l (.lst (xs ++ zs)))
theorem mt_extendT : MtM X "list.extend" rExtendT := by
  intro pins s σ H x vs v us Q I rx rv h
  obtain ⟨l, b, xs, zs, rfl, rfl, hH, hB, hz, q⟩ := h
  cases rx
  obtain ⟨u, rfl, ru⟩ := rv.one
  cases ru
  obtain ⟨z, its, n, r, hl, e⟩ := I.lstM hH
  obtain ⟨hl2, its2, r2, e2⟩ := (show ObjOk X.prog X.w H s.heap b (.tup zs) from I.hok b _ hB)
  have q2 := r2.length
  have q1 := r.length
  obtain ⟨⟨cls, dd, data, sl⟩, e2, hc, n2, hd⟩ := e2
  simp only at hc hd
  subst hc hd
  have hsz : its.toArray.size + its2.toArray.size ≤ sizeLine := by rw [List.size_toArray, List.size_toArray]; omega
  have hlong : ¬ (!its.toArray.isEmpty && Builtin.List.listTooLong (its.toArray.size + its2.toArray.size)) = true := by
    rw [notLongL hsz, Bool.and_false]
    exact Bool.false_ne_true
  refine call_meets F.slot_list_extend ⟨_, e, rfl⟩ F.entry_list_extend (F.args_list_extend_2 _ _)
    (ext_tup l its.toArray n b its2.toArray n2 dd sl hlong (by rw [List.size_toArray]; omega) (by omega)) ⟨e, e2, ?_⟩
  refine ⟨.non, _, I.lset (its' := its ++ its2) hH e (by simp) (r.append r2) ?_, rfl, q⟩
  rw [List.length_append]
  omega
end
end LX
set_option maxHeartbeats 4000000
namespace LX
open PySem PySem.Spec PyProof.Rows L2 C8 SX
structure MakXK (P : Program) (w : World) (K : PySem.W.Frag) (mg : Str → Option Value) (base : Heap) (k : Nat) (x : Str) (C : Addr) (ks : List Str) (gV : List V → List V → List V) (sp : Sp) : Prop where
  ex : ∃ (f : Addr) (fd : FuncData) (ps : List Str) (g : List Value → List Value → List Value), Mk K C f ∧ FnOk P w K mg base (L2.CX P w) k f fd ps sp ∧ mg x = some (.ref C) ∧ KBn K fd ps 1 ks g gV
def tMakeK (C : Addr) (m : Nat) (sp : Sp) (gV : List V → List V → List V) (E : L2.St → XK) (tk : TA) : TE := fun σ H Q => tk σ H fun zs H2 => zs.length = m ∧
  ∀ x dx, H2 x = none → H2 dx = none → dx ≠ x → sp (gV [.ref x] zs) (upd (upd H2 dx (.own x)) x (.ins C dx [])) (fun v H3 => v = .non ∧ Q (.ref x) H3) (E σ)
section
variable {X : Cx} {k j : Nat} {C : Addr} {sp : Sp} {x : Str} {ks : List Str} {p pos : Pos} {tk : TA} {kws : List Keyword} {W : WX} {gV : List V → List V → List V}
theorem pe_mkXk (c : MakXK X.prog X.w X.K X.mg X.base k x C ks gV sp) (tk' : Takes X W) (hr : Room j X.A) (hk : k + 1 ≤ j) (hg : Gl X x) (hkw : PK X kws tk) (hall : (backToKw pos (keywordEach kws X.env)).all (·.1.isSome) = true := by rfl) (hks : (backToKw pos (keywordEach kws X.env)).filterMap (·.1) = ks := by rfl)
    (hdb : (x == ("__debug__" : Str)) = false := by decide)
    (hpl : ((backTo pos (starEach [] X.env)).any (·.1) || (backToKw pos (keywordEach kws X.env)).any (·.1.isNone)) = false := by rfl) : PE X (.Call (.Name x p) [] kws pos) (tMakeK C ks.length sp gV (WE W) tk) := by
  obtain ⟨f, fd, ps, g, M, F, hm, kb⟩ := c.ex
  refine ⟨fun pins s σ H Q I h => ?_⟩
  refine wpAny_Call_Name_kw (ld_glob I hg hm ?_ hdb)
  refine PySem.W.callWith_KW0 (h₀ := X.base) I.ok.mod.kin M.kp hall (thn (hkw.run pos pins s σ H _ I h) fun ws s2 ⟨zs, H2, I2, rz, hz, q2⟩ => ⟨I2.kIn, ?_⟩) hpl
  rw [hks]
  have hq := q2 (s2.heap.objs.size + 1) s2.heap.objs.size (I2.hok.fresh (Nat.le_succ _)) (I2.hok.fresh (Nat.le_refl _)) (Nat.ne_of_lt (Nat.lt_succ_self _))
  have I3 := Inv.made (C := C) I2
  have r2 := kb.rel (vs := [V.ref (s2.heap.objs.size + 1)]) (us := [Value.ref (s2.heap.objs.size + 1)]) (.cons rfl .nil) rz
  have e2 : ws.length = ks.length := rz.length.symm.trans hz
  refine wpAny_call (make_map (f := f) I2.kIn M.makes M.init (beq_iff_eq.mp M.fn) (codeAny_mono (F.run _ X.stack _ _ ⟨[Value.ref (s2.heap.objs.size + 1)], ks.zip ws⟩ (g [Value.ref (s2.heap.objs.size + 1)] ws) _ _ (WE W σ) ((hr.mono hk).make C [] (ks.zip ws))
    (I3.env0.make C [] (ks.zip ws)) (kb.to _ [Value.ref (s2.heap.objs.size + 1)] ws I3.kIn rfl e2) r2 hq) fun r s' hq' => ?_))
  cases r with
  | error e => exact passAt tk' σ pins _ _ e s' I3 hq'
  | ok fl =>
    cases fl with
    | ret u =>
      obtain ⟨v, H', I4, rv, ev, q3⟩ := I3.after hq'
      subst ev
      exact ⟨rv, ⟨V.ref (s2.heap.objs.size + 1), H', I4, rfl, q3⟩⟩
    | next => exact False.elim hq'
    | brk => exact False.elim hq'
    | cont => exact False.elim hq'
end
end LX
set_option maxHeartbeats 4000000
namespace LX
open PySem PySem.Spec PyProof.Rows L2 C8 SX
section
variable {prog : Program} {w : World} {A : Around} {E : Value → Shared → Prop} {s : Shared}
theorem set_of_listI {l : Addr} {items : Array Value} {ns : List Int} {Q : Value → Shared → Prop} (hh : A.handled = none) (hl : s.heap.IsList l items) (hi : IntsAre items.toList ns) (room : ns.length + 1 < scanBound)
    (h : ∀ (h' : Heap) (tk c : Nat), SetR w h' s.heap.objs.size (fun j => decide (j ∈ ns)) c → c ≤ ns.length → (∀ b o, s.heap.get? b = some o → h'.get? b = some o) → Q (.ref s.heap.objs.size) { s with heap := h', toks := tk }) :
    wpAny (model prog w) A (call (.type "set") [.ref l]) Q E s := by
  obtain ⟨c, tl, hmro⟩ := PySem.F.called_set.mro
  have hmade := PySem.F.called_set.made
  have hsub := PySem.F.called_set.sub
  refine wpAny_call (codeAny_of_tree ?_)
  refine wpAny_pure ⟨Code.quiet_builtin _ (by decide +kernel), codeAny_builtin PySem.F.entry_type_call ?_⟩
  rw [Around.under_plain (weight_type_call_type "set" [.ref l] []) rfl]
  have nt := PySem.F.called_set.notType
  have cc := PySem.F.called_set.canCreate
  have ct := PySem.F.typeCall_set_1 (.ref l)
  repeat (any_goals (first | assumption | wp_step))
  refine codeAny_mono (code_set_led1 (.ref l) (E := E) (Q₁ := fun obj s1 => obj = .ref s.heap.objs.size ∧ s1 = { s with heap := s.heap.push (setO (!w.params.followText "set-order")) }) ⟨rfl, rfl⟩) fun r s1 hr => ?_
  match r, hr with
  | .ok (.ret obj), hr =>
    obtain ⟨rfl, rfl⟩ := hr
    have hS : (s.heap.push (setO (!w.params.followText "set-order"))).get? s.heap.objs.size = some (setO (!w.params.followText "set-order")) := Heap.get?_push_size _ rfl
    have hTy : Shared.TypeIs { s with heap := s.heap.push (setO (!w.params.followText "set-order")) } (.ref s.heap.objs.size) "set" := ⟨_, hS, rfl⟩
    have li := PySem.F.called_set.init.lookup
    have bi := PySem.F.called_set.init.bind (.ref s.heap.objs.size)
    repeat (any_goals (first | assumption | wp_step))
    refine codeAny_mono (codeAny_call_builtin (R := wants (fun r s2 => r = .none ∧ ∃ h' tk, s2 = { s with heap := h', toks := tk } ∧ (∃ c, SetR w h' s.heap.objs.size (fun j => decide (j ∈ ns)) c ∧ c ≤ ns.length) ∧ (∀ b o, s.heap.get? b = some o → h'.get? b = some o)) E)
      PySem.F.called_set.init.plain PySem.F.entry_set_init (check_set_init_1 hTy ?_)) fun r2 s2 hr2 => ?_
    · obtain ⟨⟨oc, od, odt, osl⟩, hol, hcl, nl, hdl⟩ := hl
      dsimp only at hcl hdl
      subst hcl hdl
      have hol' : (s.heap.push (setO (!w.params.followText "set-order"))).get? l = some { cls := .type "list", dict := od, data := .seq items nl, slots := osl } := Heap.get?_push_of_some _ hol
      have ss := PySem.F.sub_list_set
      have sf := PySem.F.sub_list_frozenset
      have ne : (Value.type "list" == Value.type "dict") = false := by decide
      have hl1 : (s.heap.push (setO (!w.params.followText "set-order"))).IsList l items := ⟨_, hol', rfl, nl, rfl⟩
      unfold Builtin.«set.__init__» noKeywords Builtin.Frozenset.updateFrom
      generalize hPI : pyIter = PI
      wp_walk
      subst hPI
      refine wpAny_pyIter_list hl1 ?_
      refine wpAny_bind (wpAny_runValue ?_)
      have hlS : l < s.heap.objs.size := Heap.lt_size hol
      have hz : (s.heap.push (setO (!w.params.followText "set-order"))).objs.size = s.heap.objs.size + 1 := Heap.size_push ..
      have neI : l ≠ (s.heap.push (setO (!w.params.followText "set-order"))).objs.size := by rw [hz]; exact Nat.ne_of_lt (Nat.lt_succ_of_lt hlS)
      have off : s.heap.objs.size ∉ [(s.heap.push (setO (!w.params.followText "set-order"))).objs.size, l] := by
        rw [hz]; simp only [List.mem_cons, List.not_mem_nil, or_false, not_or]
        exact ⟨Nat.ne_of_lt (Nat.lt_succ_self _), Nat.ne_of_gt hlS⟩
      have hsz : items.size = ns.length := by have q := IntsAre.length hi; rw [Array.length_toList] at q; exact q
      refine set_update_ints ((Walks.list (A := A.in1.in1.in1) (by simp [hh]) _ l neI items).toS) s.heap.objs.size off ns hsz room (fun i v hv => ?_) _ 0 _ rfl (Nat.zero_le _) ⟨⟨_, Heap.get?_push_size _ rfl, rfl, rfl⟩, hl1.push _⟩ ⟨0, Nat.le_refl _, setR_new_at (Heap.get?_push_of_some _ hS)⟩ fun s' c hm hc hS' => ?_
      · have hlt : i < ns.length := by rw [← hsz]; exact (Array.getElem?_eq_some_iff.mp hv).1
        obtain ⟨t, e⟩ := PyProof.Rows.IntsAre.int_at hi i v (by rw [Array.getElem?_toList]; exact hv)
        exact ⟨ns[i], t, List.getElem?_eq_getElem hlt, by rw [e, List.getD_eq_getElem?_getD, List.getElem?_eq_getElem hlt]; rfl⟩
      · obtain ⟨h', g', d', tk', os'⟩ := s'
        obtain rfl : g' = s.gens := hm.gens
        obtain rfl : d' = s.drawn := hm.drawn
        obtain rfl : os' = s.os := hm.os
        refine wpAny_pure (wpAny_pure ⟨rfl, h', tk', rfl, ⟨c, hS', by rw [← hsz]; exact hc⟩, fun b o e => ?_⟩)
        have hb : b < s.heap.objs.size := Heap.lt_size e
        refine hm.heap b o (fun hmem => ?_) (Heap.get?_push_of_some _ (Heap.get?_push_of_some _ e))
        have e' : b = s.heap.objs.size ∨ b = (s.heap.push (setO (!w.params.followText "set-order"))).objs.size := by simpa using hmem
        rcases e' with e' | e'
        · exact Nat.ne_of_lt hb e'
        · rw [hz] at e'; exact Nat.ne_of_lt (Nat.lt_succ_of_lt hb) e'
    · match r2, hr2 with
      | .ok (.ret r), hr2 =>
        obtain ⟨rfl, h', tk, rfl, ⟨c, hS', hc⟩, hk'⟩ := hr2
        repeat (any_goals (first | assumption | wp_step))
        exact h _ _ _ hS' hc hk'
      | .error e, hr2 => exact hr2
  | .error e, hr => exact hr
end
section
variable {X : Cx}
theorem sortI_run {pins : List (Addr × Obj)} {σ : L2.St} {H1 : Hp} {Q : VK} {s1 : Shared} {a : Addr} {ns : List Int} {c : Nat} (hc : X.calm = true) (I2 : Inv X pins σ H1 s1) (hS : SetR X.w s1.heap a (fun j => decide (j ∈ ns)) c) (hcn : c ≤ ns.length) (hl : ns.length < 60)
    (q1 : ∀ (p : Addr) (ms : List Int), H1 p = none → ms.Pairwise (· < ·) → (∀ k, k ∈ ms ↔ k ∈ ns) → Q (.ref p) (upd H1 p (.lst (ms.map V.int)))) : wpAny (model X.prog X.w) X.A (call (.builtin "sorted") [.ref a]) (EP X pins σ Q) X.xe s1 := by
  refine sorted_set hS (I2.ok.hd hc) (by omega) fun s' p out cc ms k g o hp hg hi hs hmm hlen => ?_
  have hn : H1 p = none := I2.hok.fresh hp
  have hlen2 : (ms.map V.int).length ≤ sizeLine := by rw [List.length_map, sizeLine_eq]; omega
  have J : Inv X pins σ (upd H1 p (.lst (ms.map V.int))) { s1 with heap := s'.heap, gens := s'.gens, drawn := s'.drawn, toks := s'.toks } :=
    I2.call (ch := []) (Un.laid k hp hn) (I2.hok.laid k hp ⟨hlen2, out.toList, cc, vals_of_ints hi, hg⟩) (by rw [g]; exact I2.bare) (fun _ z => nomatch z)
  have e : s' = { s1 with heap := s'.heap, gens := s'.gens, drawn := s'.drawn, toks := s'.toks } := by
    cases s'; cases s1; cases o; rfl
  rw [e]
  exact ⟨.ref p, _, J, rfl, q1 p ms hn hs fun z => by rw [hmm z, decide_eq_true_eq]⟩
def tSortSetI (K : PySem.W.Frag) (ta : TE) : TE := fun σ H Q => ta σ H fun x H1 => ∃ (l : Addr) (ns : List Int), x = .ref l ∧ SqL K H1 l (ns.map V.int) ∧ ns.length < 60 ∧ ∀ (p : Addr) (ms : List Int), H1 p = none → ms.Pairwise (· < ·) → (∀ k, k ∈ ms ↔ k ∈ ns) → Q (.ref p) (upd H1 p (.lst (ms.map V.int)))
theorem pe_sortSetI {a : Expr} {ta : TE} {p p2 q pos : Pos} (hc : X.calm = true) (hg : Gl X "sorted") (hm : X.mg "sorted" = none) (hg2 : Gl X "set") (hm2 : X.mg "set" = none) (ha : PE X a ta)
    (na : starEach [a] X.env = (false, eval a X.env) :: starEach [] X.env := by rfl) : PE X (.Call (.Name "sorted" p) [.Call (.Name "set" p2) [a] [] q] [] pos) (tSortSetI X.K ta) := by
  refine ⟨fun pins s σ H Q I h => ?_⟩
  refine Call_ (ld_blt I hg hm PyProof.Rows.boot_sorted (PyProof.Rows.callWith_builtin1 (PyProof.Rows.args_cons ?_ rfl) rfl rfl))
  refine Call_ (ld_blt I hg2 hm2 PyProof.Rows.boot_set (PyProof.Rows.callWith_type1 (PyProof.Rows.args_cons (thn (ha.run pins s σ H _ I h) fun v s1 ⟨x, H1, I1, r1, q1⟩ => PyProof.Rows.args_nil ?_) na) na rfl))
  obtain ⟨l, ns, rfl, hq, hl, q1⟩ := q1
  cases r1
  obtain ⟨its, r, pl, hz⟩ := I1.list hq
  refine set_of_listI (ns := ns) (I1.ok.hd hc) pl.isList (by simpa using r.ints) (by unfold scanBound; omega) fun h' u c hS hcn hk => ?_
  refine PyProof.Rows.args_nil ?_
  exact sortI_run (s1 := { s1 with heap := h', toks := u }) hc (I1.kept hk) hS hcn hl q1
end
end LX
set_option maxHeartbeats 4000000
namespace LX
open PySem PySem.Spec PyProof.Rows L2 C8 SX
theorem sumK (K : PySem.W.Frag) {X : Cx} (hc : X.calm = true) (hK : X.K = K := by rfl) : CallR X (.builtin "sum") (rSum K) := by subst hK; exact cr_sum hc
theorem anyK (K : PySem.W.Frag) {X : Cx} (hc : X.calm = true) (hK : X.K = K := by rfl) : CallR X (.builtin "any") (rAny K) := by subst hK; exact cr_any hc
end LX
set_option maxHeartbeats 4000000
namespace LX
open PySem PySem.Spec PyProof.Rows L2 C8 SX
section
variable {X : Cx}
theorem lexIS (i j : Int) (r t : Str) : Ob.lexAt (fun k => if k = 0 then (i == j) else (r == t)) (fun k => if k = 0 then decide (j ≤ i) else !decide (r.cps.toList < t.cps.toList)) true 0 2 = (if i = j then !decide (r.cps.toList < t.cps.toList) else decide (j ≤ i)) := by
  rw [Ob.lexAt_succ, Ob.lexAt_succ, Ob.lexAt_zero]
  simp only [Nat.zero_add, if_true, Nat.one_ne_zero, if_false]
  by_cases h : i = j
  · subst h
    rw [if_pos (beq_self_eq_true _), if_pos rfl]
    by_cases h2 : r = t
    · subst h2
      rw [if_pos (beq_self_eq_true _), decide_eq_false (List.lt_irrefl _)]; rfl
    · rw [if_neg (by simpa using h2)]
  · rw [if_neg (by simpa using h), if_neg h]
theorem rc_ge_str {A : Around} {s : Shared} {r t : Str} {u v : Tok} : Ob.RcOp .GtE A s (.str r u) (.str t v) (!decide (r.cps.toList < t.cps.toList)) := fun _ _ _ _ h => PySem.P.ge_str h
theorem op_geIS {X : Cx} (hu : X.A.units < cLine) : OpR X (compareOp .GtE) (fun x y H Q => ∃ (a b : Addr) (i j : Int) (r t : Str), x = .ref a ∧ y = .ref b ∧ H a = some (.tup [.int i, .str r]) ∧ H b = some (.tup [.int j, .str t]) ∧ Q (.bl (if i = j then !decide (r.cps.toList < t.cps.toList) else decide (j ≤ i))) H) := by
  intro pins s σ H x y v u Q I rx ry h
  obtain ⟨a, b, i, j, r, t, rfl, rfl, ha, hb, q⟩ := h
  cases rx
  cases ry
  obtain ⟨its, r1, p1, _⟩ := I.tuple (SqT.of (K := X.K) ha)
  obtain ⟨its2, r2, p2, _⟩ := I.tuple (SqT.of (K := X.K) hb)
  have z1 : ∃ t1 t2, its = [Value.int i t1, .str r t2] := by
    cases r1 with
    | cons x1 r1 => cases r1 with
      | cons x2 r1 => cases r1 with
        | nil =>
          obtain ⟨t1, rfl⟩ := x1
          obtain ⟨t2, rfl⟩ := x2
          exact ⟨_, _, rfl⟩
  have z2 : ∃ t1 t2, its2 = [Value.int j t1, .str t t2] := by
    cases r2 with
    | cons x1 r1 => cases r1 with
      | cons x2 r1 => cases r1 with
        | nil =>
          obtain ⟨t1, rfl⟩ := x1
          obtain ⟨t2, rfl⟩ := x2
          exact ⟨_, _, rfl⟩
  obtain ⟨t1, t2, rfl⟩ := z1
  obtain ⟨t3, t4, rfl⟩ := z2
  have e1 : ([Value.int i t1, .str r t2] : List Value).toArray.size = 2 := rfl
  have e2 : ([Value.int j t3, .str t t4] : List Value).toArray.size = 2 := rfl
  have R := Ob.RcOp.tuples_ge (A := X.A) (s := s) (e := fun k => if k = 0 then (i == j) else (r == t)) (r := fun k => if k = 0 then decide (j ≤ i) else !decide (r.cps.toList < t.cps.toList)) p1 p2 hu ?he ?hr
  case he =>
    intro k h1 h2
    rw [e1] at h1
    match k, h1, h2 with
    | 0, _, _ => exact SeqAt.EqAt.int_int _ _ _ _
    | 1, _, _ => exact SeqAt.EqAt.str_str _ _ _ _
    | k + 2, h1, _ => omega
  case hr =>
    intro k h1 h2 _
    rw [e1] at h1
    match k, h1, h2 with
    | 0, _, _ => exact Ob.RcOp.ge_int _ _ _ _
    | 1, _, _ => exact rc_ge_str
    | k + 2, h1, _ => omega
  rw [e1, e2, show min 2 2 = 2 from rfl, show decide (2 ≥ 2) = true from rfl, lexIS] at R
  have R2 : wpAny (model X.prog X.w) X.A (compareOp .GtE (.ref a) (.ref b)) (EP X pins σ Q) X.xe s := R X.prog X.w X.xe (EP X pins σ Q) ⟨.bl _, H, I, rfl, q⟩
  exact R2
end
end LX
set_option maxHeartbeats 4000000
namespace LX
open PySem PySem.Spec PyProof.Rows L2 C8 SX
theorem nodup_le {α : Type} [DecidableEq α] : ∀ {l m : List α}, l.Nodup → (∀ x ∈ l, x ∈ m) → l.length ≤ m.length
  | [], m, _, _ => Nat.zero_le _
  | a :: l, m, nd, h => by
    rw [List.nodup_cons] at nd
    have ha := h a List.mem_cons_self
    have ih := nodup_le (l := l) (m := m.erase a) nd.2 fun x hx => by
      have hne : x ≠ a := fun e => nd.1 (e ▸ hx)
      exact (List.mem_erase_of_ne hne).mpr (h x (List.mem_cons_of_mem _ hx))
    rw [List.length_erase_of_mem ha] at ih
    have := List.length_pos_of_mem ha
    rw [List.length_cons]
    omega
section
variable {w : World} {a : Addr} {ks ks' : List Str}
theorem SetT.of_mem {h : Heap} (R : SetT w h a ks) (e : ∀ k, k ∈ ks ↔ k ∈ ks') : SetT w h a ks' := by
  obtain ⟨o, es, ep, t, ho, hex, hd, g, nd, hm, hk, r⟩ := R
  refine ⟨o, es, ep, t, ho, hex, hd, g, nd, fun k => (hm k).trans (e k), ?_, r⟩
  have := nodup_le nd fun x hx => (e x).mp ((hm x).mp hx)
  rw [List.length_map, Array.length_toList] at this
  exact this
end
section
variable {prog : Program} {w : World} {A : Around} {R : Result → Shared → Prop} {I S : Addr} {fp wr : List Addr} {G : Array GenState → Array GenState → Prop} {n : Nat} {P : Nat → Value → Prop} {St : Nat → Shared → Prop}
theorem setT_loopL (W : WalksS prog w A.in1 I fp wr G n P St) (off : S ∉ fp) {xs B : List Str} (hl : xs.length = n) (hB : ∀ x ∈ xs, x ∈ B) (room : B.length + 1 < scanBound) (val : ∀ i v, P i v → ∃ x t, xs[i]? = some x ∧ v = .str x t) :
    ∀ (k i : Nat) (s : Shared) (ks : List Str), i + k = n → St i s → SetT w s.heap S ks → ks.Nodup → (∀ z, z ∈ ks ↔ z ∈ xs.take i) → (∀ s' ks', Moved (S :: wr) G s s' → SetT w s'.heap S ks' → ks'.Nodup → (∀ z, z ∈ ks' ↔ z ∈ xs) → R (.ok (.ret .none)) s') →
      codeAny (model prog w) A (.builtin "set.update.loop" ⟨[.ref S, .ref I], []⟩) R s
  | 0, i, s, ks, hk, hst, he, hnd, hz, hR => by
    obtain rfl : i = n := hk
    refine codeAny_builtin PyProof.Rows.F.entry_set_update_loop ?_
    rw [Around.under_plainId PyProof.Rows.F.plain_set_update_loop _]
    refine wpAny_bind (W.done s _ _ hst fun s' hm => wpAny_pure (hR s' ks (hm.mono fun b hb => List.mem_cons_of_mem _ hb) (he.stay fun o e => hm.heap S o (fun h => off (W.sub _ h)) e) hnd (fun z => ?_)))
    rw [hz z, List.take_of_length_le (by omega)]
  | k + 1, i, s, ks, hk, hst, he, hnd, hz, hR => by
    refine codeAny_builtin PyProof.Rows.F.entry_set_update_loop ?_
    rw [Around.under_plainId PyProof.Rows.F.plain_set_update_loop _]
    refine wpAny_bind (W.item i s _ _ (by omega) hst fun v s' hP hst' hm => ?_)
    obtain ⟨x, u, hx, rfl⟩ := val i v hP
    have he2 : SetT w s'.heap S ks := he.stay fun o e => hm.heap S o (fun h => off (W.sub _ h)) e
    have hle := nodup_le hnd fun z h => hB z (List.mem_of_mem_take ((hz z).mp h))
    show wpAny _ A.in1 (holding [Value.str x u] (setAdd S (.str x u)) >>= _) _ _ s'
    refine wpAny_bind (wpAny_holding ?_)
    unfold setAdd
    refine wpAny_holding (wpAny_bind ((PySem.strKind prog w).pyHash (k := x) (is_strT _ _) ?_))
    refine setT_add (s := { s' with toks := s'.toks + 1 }) he2 (by omega) fun b h2 sb he3 => ?_
    have hmem : ∀ z, z ∈ x :: ks ↔ z ∈ xs.take (i + 1) := fun z => by
      rw [List.mem_cons, hz z, List.take_succ, hx, List.mem_append]
      show z = _ ∨ z ∈ xs.take i ↔ z ∈ xs.take i ∨ z ∈ [x]
      rw [List.mem_singleton]
      exact Or.comm
    obtain ⟨ks2, he4, hnd2, hz2⟩ : ∃ ks2, SetT w h2 S ks2 ∧ ks2.Nodup ∧ ∀ z, z ∈ ks2 ↔ z ∈ xs.take (i + 1) := by
      by_cases q : x ∈ ks
      · have e : ∀ z, z ∈ x :: ks ↔ z ∈ ks := fun z => by rw [List.mem_cons]; exact ⟨fun h => h.elim (fun h => h ▸ q) id, .inr⟩
        exact ⟨ks, he3.of_mem e, hnd, fun z => (e z).symm.trans (hmem z)⟩
      · exact ⟨x :: ks, he3, List.nodup_cons.mpr ⟨q, hnd⟩, hmem⟩
    refine wpAny_pure ⟨plainId_quiet PyProof.Rows.F.plain_set_update_loop _, setT_loopL W off hl hB room val k (i + 1) _ ks2 (by omega) (W.frame _ s' _ _ hst' (Nat.le_succ _) fun b hb o e => ?_) he4 hnd2 hz2 fun s2 ks3 hm2 he5 hn3 hz3 => ?_⟩
    · rw [sb.2 b (fun h => off (h ▸ hb))]; exact e
    · refine hR s2 ks3 (Moved.trans W.gtrans ((hm.mono fun b hb => List.mem_cons_of_mem _ hb).then_heap (Nat.le_succ _) fun b o hb e => ?_) hm2) he5 hn3 hz3
      rw [sb.2 b (fun h => hb (by rw [h]; exact List.mem_cons_self))]; exact e
end
section
variable {prog : Program} {w : World} {A : Around} {E : Value → Shared → Prop} {s : Shared}
theorem set_of_listT {l : Addr} {items : Array Value} {xs B : List Str} {Q : Value → Shared → Prop} (hh : A.handled = none) (hl : s.heap.IsList l items) (hi : PyProof.Rows.StrsAre items.toList xs) (hB : ∀ x ∈ xs, x ∈ B) (room : B.length + 1 < scanBound)
    (h : ∀ (h' : Heap) (tk : Nat) ks, SetT w h' s.heap.objs.size ks → ks.Nodup → (∀ z, z ∈ ks ↔ z ∈ xs) → (∀ b o, s.heap.get? b = some o → h'.get? b = some o) → Q (.ref s.heap.objs.size) { s with heap := h', toks := tk }) :
    wpAny (model prog w) A (call (.type "set") [.ref l]) Q E s := by
  obtain ⟨c, tl, hmro⟩ := PySem.F.called_set.mro
  have hmade := PySem.F.called_set.made
  have hsub := PySem.F.called_set.sub
  refine wpAny_call (codeAny_of_tree ?_)
  refine wpAny_pure ⟨Code.quiet_builtin _ (by decide +kernel), codeAny_builtin PySem.F.entry_type_call ?_⟩
  rw [Around.under_plain (weight_type_call_type "set" [.ref l] []) rfl]
  have nt := PySem.F.called_set.notType
  have cc := PySem.F.called_set.canCreate
  have ct := PySem.F.typeCall_set_1 (.ref l)
  repeat (any_goals (first | assumption | wp_step))
  refine codeAny_mono (code_set_led1 (.ref l) (E := E) (Q₁ := fun obj s1 => obj = .ref s.heap.objs.size ∧ s1 = { s with heap := s.heap.push { cls := .type "set", dict := none, data := .set #[] 0 (.fresh 0 0 (!w.params.followText "set-order")) } }) ⟨rfl, rfl⟩) fun r s1 hr => ?_
  match r, hr with
  | .ok (.ret obj), hr =>
    obtain ⟨rfl, rfl⟩ := hr
    have f0 : SetT w _ s.heap.objs.size [] := setT_fresh (w := w) (h := s.heap)
    generalize (!w.params.followText "set-order") = led at f0 ⊢
    have hS : (s.heap.push (setO led)).get? s.heap.objs.size = some (setO led) := Heap.get?_push_size _ rfl
    have hTy : Shared.TypeIs { s with heap := s.heap.push (setO led) } (.ref s.heap.objs.size) "set" := ⟨_, hS, rfl⟩
    have li := PySem.F.called_set.init.lookup
    have bi := PySem.F.called_set.init.bind (.ref s.heap.objs.size)
    repeat (any_goals (first | assumption | wp_step))
    refine codeAny_mono (codeAny_call_builtin (R := wants (fun r s2 => r = .none ∧ ∃ h' tk ks, s2 = { s with heap := h', toks := tk } ∧ SetT w h' s.heap.objs.size ks ∧ ks.Nodup ∧ (∀ z, z ∈ ks ↔ z ∈ xs) ∧ (∀ b o, s.heap.get? b = some o → h'.get? b = some o)) E)
      PySem.F.called_set.init.plain PySem.F.entry_set_init (check_set_init_1 hTy ?_)) fun r2 s2 hr2 => ?_
    · obtain ⟨⟨oc, od, odt, osl⟩, hol, hcl, nl, hdl⟩ := hl
      dsimp only at hcl hdl
      subst hcl hdl
      have hol' : (s.heap.push (setO led)).get? l = some { cls := .type "list", dict := od, data := .seq items nl, slots := osl } := Heap.get?_push_of_some _ hol
      have ss := PySem.F.sub_list_set
      have sf := PySem.F.sub_list_frozenset
      have ne : (Value.type "list" == Value.type "dict") = false := by decide
      have hl1 : (s.heap.push (setO led)).IsList l items := ⟨_, hol', rfl, nl, rfl⟩
      unfold Builtin.«set.__init__» noKeywords Builtin.Frozenset.updateFrom
      generalize hPI : pyIter = PI
      wp_walk
      subst hPI
      refine wpAny_pyIter_list hl1 ?_
      refine wpAny_bind (wpAny_runValue ?_)
      have hlS : l < s.heap.objs.size := Heap.lt_size hol
      have hz : (s.heap.push (setO led)).objs.size = s.heap.objs.size + 1 := Heap.size_push ..
      have neI : l ≠ (s.heap.push (setO led)).objs.size := by rw [hz]; exact Nat.ne_of_lt (Nat.lt_succ_of_lt hlS)
      have off : s.heap.objs.size ∉ [(s.heap.push (setO led)).objs.size, l] := by
        rw [hz]; simp only [List.mem_cons, List.not_mem_nil, or_false, not_or]
        exact ⟨Nat.ne_of_lt (Nat.lt_succ_self _), Nat.ne_of_gt hlS⟩
      have hsz : xs.length = items.size := by rw [← StrsAre.len_eq hi, Array.length_toList]
      refine setT_loopL (xs := xs) (B := B) ((Walks.list (A := A.in1.in1.in1) (by simp [hh]) _ l neI items).toS) off hsz hB room (fun i v hv => ?_) items.size 0 _ [] (Nat.zero_add _) ⟨⟨_, Heap.get?_push_size _ rfl, rfl, rfl⟩, hl1.push _⟩ (f0.stay fun o' e => Heap.get?_push_of_some _ e) List.nodup_nil (fun z => by simp) fun s' ks' hm hS' hn' hz' => ?_
      · obtain ⟨t, e⟩ := SS.strs_at hi i v (by rw [Array.getElem?_toList]; exact hv)
        have hlt : i < xs.length := by rw [hsz]; exact (Array.getElem?_eq_some_iff.mp hv).1
        exact ⟨xs[i], t, List.getElem?_eq_getElem hlt, by rw [e, List.getD_eq_getElem?_getD, List.getElem?_eq_getElem hlt]; rfl⟩
      · obtain ⟨h', g', d', tk', os'⟩ := s'
        obtain rfl : g' = s.gens := hm.gens
        obtain rfl : d' = s.drawn := hm.drawn
        obtain rfl : os' = s.os := hm.os
        refine wpAny_pure (wpAny_pure ⟨rfl, h', tk', ks', rfl, hS', hn', hz', fun b o e => ?_⟩)
        have hb : b < s.heap.objs.size := Heap.lt_size e
        refine hm.heap b o (fun hmem => ?_) (Heap.get?_push_of_some _ (Heap.get?_push_of_some _ e))
        have e' : b = s.heap.objs.size ∨ b = (s.heap.push (setO led)).objs.size := by simpa using hmem
        rcases e' with e' | e'
        · exact Nat.ne_of_lt hb e'
        · rw [hz] at e'; exact Nat.ne_of_lt (Nat.lt_succ_of_lt hb) e'
    · match r2, hr2 with
      | .ok (.ret r), hr2 =>
        obtain ⟨rfl, h', tk, ks, rfl, hS', hn', hz', hk'⟩ := hr2
        repeat (any_goals (first | assumption | wp_step))
        exact h _ _ _ hS' hn' hz' hk'
      | .error e, hr2 => exact hr2
  | .error e, hr => exact hr
end
theorem rising_pw : ∀ (ds : List (List Nat)) (d : List Nat), risingS (S d) (ds.map S) = true → (∀ e ∈ ds, ¬ e < d) ∧ ds.Pairwise fun a b => ¬ b < a
  | [], _, _ => ⟨(fun _ h => nomatch h), .nil⟩
  | c :: ds, d, h => by
    have h : (!ltCps (S c).cps.toList (S d).cps.toList && risingS (S c) (ds.map S)) = true := h
    rw [Bool.and_eq_true] at h
    obtain ⟨i1, i2⟩ := rising_pw ds c h.2
    have hcd : ¬ c < d := by
      have h1 := h.1
      rw [ltCps_eq] at h1
      have h1 : (!decide (c < d)) = true := by simpa [S] using h1
      simpa using h1
    refine ⟨fun e he => ?_, List.pairwise_cons.mpr ⟨i1, i2⟩⟩
    rcases List.mem_cons.mp he with rfl | he
    · exact hcd
    · exact List.not_lt.mpr (List.le_trans (List.not_lt.mp hcd) (List.not_lt.mp (i1 e he)))
theorem sorted_pw {ds : List (List Nat)} (h : sortedS (ds.map S) = true) : ds.Pairwise fun a b => ¬ b < a := by
  cases ds with
  | nil => exact .nil
  | cons d ds =>
    obtain ⟨i1, i2⟩ := rising_pw ds d h
    exact List.pairwise_cons.mpr ⟨i1, i2⟩
theorem sorted_rise {ds : List (List Nat)} (h : sortedS (ds.map S) = true) (n : ds.Nodup) : ds.Pairwise (· < ·) :=
  ((sorted_pw h).and n).imp fun ⟨a, b⟩ => by
    rcases List.le_iff_lt_or_eq.mp (List.not_lt.mp a) with h | h
    · exact h
    · exact absurd h b
theorem txts_of : ∀ {ss : List Str} {xs : List (List Nat)}, (∀ k ∈ ss, ∃ x ∈ xs, k = S x) → ∃ ds : List (List Nat), ss = ds.map S
  | [], _, _ => ⟨[], rfl⟩
  | k :: ss, xs, h => by
    obtain ⟨c, _, rfl⟩ := h k List.mem_cons_self
    obtain ⟨ds, rfl⟩ := txts_of (ss := ss) (xs := xs) fun x hx => h x (List.mem_cons_of_mem _ hx)
    exact ⟨c :: ds, rfl⟩
theorem S_inj' {a b : List Nat} (h : S a = S b) : a = b := by simpa [S] using h
theorem map_S_nodup {ds : List (List Nat)} (h : (ds.map S).Nodup) : ds.Nodup := List.Pairwise.of_map S (fun a b hne e => hne (by rw [e])) h
theorem mem_map_S {x : List Nat} {xs : List (List Nat)} : S x ∈ xs.map S ↔ x ∈ xs := by
  rw [List.mem_map]
  exact ⟨fun ⟨y, hy, e⟩ => S_inj' e ▸ hy, fun h => ⟨x, h, rfl⟩⟩
section
variable {X : Cx}
theorem sortXL_run {pins : List (Addr × Obj)} {σ : L2.St} {H1 : Hp} {Q : VK} {s1 : Shared} {a : Addr} {ks : List Str} {xs : List (List Nat)} (hc : X.calm = true) (I2 : Inv X pins σ H1 s1) (hS : SetT X.w s1.heap a ks) (hz : ∀ z, z ∈ ks ↔ z ∈ xs.map S) (hn : ks.length < 60)
    (q1 : ∀ (p : Addr) (ds : List (List Nat)), H1 p = none → ds.Pairwise (· < ·) → (∀ c, c ∈ ds ↔ c ∈ xs) → Q (.ref p) (upd H1 p (.lst (txs ds)))) : wpAny (model X.prog X.w) X.A (call (.builtin "sorted") [.ref a]) (EP X pins σ Q) X.xe s1 := by
  refine sorted_setX hS (I2.ok.hd hc) (by omega) fun s' p out c ss k2 g2 o2 hp ho hS2 srt nd mem hle => ?_
  have hmem : ∀ k, k ∈ ss ↔ k ∈ xs.map S := fun k => (mem k).trans (hz k)
  obtain ⟨ds, rfl⟩ := txts_of (xs := xs) fun k hk => let ⟨x, hx, e⟩ := List.mem_map.mp ((hmem k).mp hk); ⟨x, hx, e.symm⟩
  have hn2 : H1 p = none := I2.hok.fresh hp
  have eL : ((ds.map S).map V.str) = txs ds := by unfold txs; rw [List.map_map]; rfl
  have hlen : ((ds.map S).map V.str).length ≤ sizeLine := by
    rw [List.length_map, sizeLine_eq]
    omega
  have J : Inv X pins σ (upd H1 p (.lst ((ds.map S).map V.str))) { s1 with heap := s'.heap, gens := s'.gens, drawn := s'.drawn, toks := s'.toks } :=
    I2.call (ch := []) (Un.laid k2 hp hn2) (I2.hok.laid k2 hp ⟨hlen, out.toList, c, vals_of_strs hS2, ho⟩) (by rw [g2]; exact I2.bare) (fun _ z => nomatch z)
  have e : s' = { s1 with heap := s'.heap, gens := s'.gens, drawn := s'.drawn, toks := s'.toks } := by
    cases s'; cases s1; cases o2; rfl
  rw [e]
  rw [eL] at J
  exact ⟨.ref p, _, J, rfl, q1 p ds hn2 (sorted_rise srt (map_S_nodup nd)) fun c => by rw [← mem_map_S, hmem, mem_map_S]⟩
def tSortSetL (K : PySem.W.Frag) (ta : TE) : TE := fun σ H Q => ta σ H fun x H1 => ∃ (l : Addr) (xs B : List (List Nat)), x = .ref l ∧ SqL K H1 l (txs xs) ∧ (∀ x ∈ xs, x ∈ B) ∧ B.length < 60 ∧ ∀ (p : Addr) (ds : List (List Nat)), H1 p = none → ds.Pairwise (· < ·) → (∀ c, c ∈ ds ↔ c ∈ xs) → Q (.ref p) (upd H1 p (.lst (txs ds)))
theorem pe_sortSetL {a : Expr} {ta : TE} {p p2 q pos : Pos} (hc : X.calm = true) (hg : Gl X "sorted") (hm : X.mg "sorted" = none) (hg2 : Gl X "set") (hm2 : X.mg "set" = none) (ha : PE X a ta)
    (na : starEach [a] X.env = (false, eval a X.env) :: starEach [] X.env := by rfl) : PE X (.Call (.Name "sorted" p) [.Call (.Name "set" p2) [a] [] q] [] pos) (tSortSetL X.K ta) := by
  refine ⟨fun pins s σ H Q I h => ?_⟩
  refine Call_ (ld_blt I hg hm PyProof.Rows.boot_sorted (PyProof.Rows.callWith_builtin1 (PyProof.Rows.args_cons ?_ rfl) rfl rfl))
  refine Call_ (ld_blt I hg2 hm2 PyProof.Rows.boot_set (PyProof.Rows.callWith_type1 (PyProof.Rows.args_cons (thn (ha.run pins s σ H _ I h) fun v s1 ⟨x, H1, I1, r1, q1⟩ => PyProof.Rows.args_nil ?_) na) na rfl))
  obtain ⟨l, xs, B, rfl, hq, hB, h60, q1⟩ := q1
  cases r1
  have hq' : SqL X.K H1 l ((xs.map S).map V.str) := by
    have : ((xs.map S).map V.str) = txs xs := by unfold txs; rw [List.map_map]; rfl
    rw [this]; exact hq
  obtain ⟨its, r, pl, hz⟩ := I1.list hq'
  refine set_of_listT (xs := xs.map S) (B := B.map S) (I1.ok.hd hc) pl.isList (by simpa using r.strs) (fun x hx => by obtain ⟨y, hy, rfl⟩ := List.mem_map.mp hx; exact List.mem_map.mpr ⟨y, hB y hy, rfl⟩) (by rw [List.length_map]; unfold scanBound; omega) fun h' u ks hS hnd hzz hk => ?_
  refine PyProof.Rows.args_nil ?_
  have hkl := nodup_le hnd fun z h => by
    obtain ⟨y, hy, rfl⟩ := List.mem_map.mp ((hzz z).mp h)
    exact List.mem_map.mpr ⟨y, hB y hy, rfl⟩
  rw [List.length_map] at hkl
  exact sortXL_run (s1 := { s1 with heap := h', toks := u }) hc (I1.kept hk) hS hzz (Nat.lt_of_le_of_lt hkl h60) q1
end
end LX
set_option maxHeartbeats 4000000
namespace LX
open PySem PySem.Spec PyProof.Rows L2 C8 SX
def OrdL (a b : List Nat) : Prop := a.length < b.length ∨ (a.length = b.length ∧ a < b)
instance (a b : List Nat) : Decidable (OrdL a b) := by unfold OrdL; infer_instance
theorem OrdL.irr (a : List Nat) : ¬ OrdL a a := fun h => h.elim (Nat.lt_irrefl _) fun h => List.lt_irrefl a h.2
theorem OrdL.trans {a b c : List Nat} (h : OrdL a b) (g : OrdL b c) : OrdL a c := by
  rcases h with h | ⟨h1, h2⟩ <;> rcases g with g | ⟨g1, g2⟩
  · exact .inl (by omega)
  · exact .inl (by omega)
  · exact .inl (by omega)
  · exact .inr ⟨by omega, List.lt_trans h2 g2⟩
def spOrd : Sp := fun vs H Q _ => ∃ l : List Nat, vs = [.str (S l)] ∧ l.length ≤ 1000 ∧ ∀ (t : Addr) (H' : Hp), Same H H' → H' t = some (.tup [.int (l.length : Nat), .str (S l)]) → Q (.ref t) H'
theorem lexLt (i j : Int) (r t : Str) : Ob.lexAt (fun k => if k = 0 then (i == j) else (r == t)) (fun k => if k = 0 then decide (i < j) else decide (r.cps.toList < t.cps.toList)) false 0 2 = (if i = j then decide (r.cps.toList < t.cps.toList) else decide (i < j)) := by
  rw [Ob.lexAt_succ, Ob.lexAt_succ, Ob.lexAt_zero]
  simp only [Nat.zero_add, if_true, Nat.one_ne_zero, if_false]
  by_cases h : i = j
  · subst h
    rw [if_pos (beq_self_eq_true _), if_pos rfl]
    by_cases h2 : r = t
    · subst h2
      rw [if_pos (beq_self_eq_true _), decide_eq_false (List.lt_irrefl _)]
    · rw [if_neg (by simpa using h2)]
  · rw [if_neg (by simpa using h), if_neg h]
section
variable {X : Cx} {pins : List (Addr × Obj)} {σ : L2.St} {H : Hp} {s : Shared}
theorem lt_pairs {A : Around} {a b : Addr} {x y : List Nat} {E : Value → Shared → Prop} {Q : Value → Shared → Prop} (I : Inv X pins σ H s) (hu : A.units < cLine) (ha : H a = some (.tup [.int (x.length : Nat), .str (S x)])) (hb : H b = some (.tup [.int (y.length : Nat), .str (S y)]))
    (q : Q (.bool (decide (OrdL x y))) s) : wpAny (model X.prog X.w) A (richCompare .Lt (.ref a) (.ref b)) Q E s := by
  obtain ⟨its, r1, p1, _⟩ := I.tuple (SqT.of (K := X.K) ha)
  obtain ⟨its2, r2, p2, _⟩ := I.tuple (SqT.of (K := X.K) hb)
  obtain ⟨t1, t2, rfl⟩ : ∃ t1 t2, its = [Value.int (x.length : Nat) t1, .str (S x) t2] := by
    cases r1 with | cons x1 r1 => cases r1 with | cons x2 r1 => cases r1 with | nil => exact let ⟨t1, e1⟩ := x1; let ⟨t2, e2⟩ := x2; ⟨t1, t2, by rw [e1, e2]⟩
  obtain ⟨t3, t4, rfl⟩ : ∃ t1 t2, its2 = [Value.int (y.length : Nat) t1, .str (S y) t2] := by
    cases r2 with | cons x1 r1 => cases r1 with | cons x2 r1 => cases r1 with | nil => exact let ⟨t1, e1⟩ := x1; let ⟨t2, e2⟩ := x2; ⟨t1, t2, by rw [e1, e2]⟩
  have e1 : ([Value.int (x.length : Nat) t1, .str (S x) t2] : List Value).toArray.size = 2 := rfl
  have e2 : ([Value.int (y.length : Nat) t3, .str (S y) t4] : List Value).toArray.size = 2 := rfl
  have R := Ob.RcOp.tuples_lt (A := A) (s := s) (e := fun k => if k = 0 then (((x.length : Nat) : Int) == ((y.length : Nat) : Int)) else (S x == S y)) (r := fun k => if k = 0 then decide (((x.length : Nat) : Int) < ((y.length : Nat) : Int)) else decide ((S x).cps.toList < (S y).cps.toList)) p1 p2 hu
    (fun k h1 h2 => by
      rw [e1] at h1
      match k, h1, h2 with
      | 0, _, _ => exact SeqAt.EqAt.int_int _ _ _ _
      | 1, _, _ => exact SeqAt.EqAt.str_str _ _ _ _
      | k + 2, h1, _ => omega)
    (fun k h1 h2 _ => by
      rw [e1] at h1
      match k, h1, h2 with
      | 0, _, _ => exact Ob.RcOp.lt_int _ _ _ _
      | 1, _, _ => exact fun _ _ _ _ h => PySem.P.lt_str h
      | k + 2, h1, _ => omega)
  rw [e1, e2, show min 2 2 = 2 from rfl, show decide (2 < 2) = false from rfl, lexLt] at R
  refine R X.prog X.w E Q ?_
  have e : (if ((x.length : Nat) : Int) = ((y.length : Nat) : Int) then decide ((S x).cps.toList < (S y).cps.toList) else decide (((x.length : Nat) : Int) < ((y.length : Nat) : Int))) = decide (OrdL x y) := by
    have ex : (S x).cps.toList = x := by simp [S]
    have ey : (S y).cps.toList = y := by simp [S]
    rw [ex, ey]
    unfold OrdL
    by_cases h : x.length = y.length
    · rw [if_pos (by omega)]
      exact decide_eq_decide.mpr ⟨fun q => .inr ⟨h, q⟩, fun q => q.elim (fun q => absurd q (by omega)) (·.2)⟩
    · rw [if_neg (by omega)]
      exact decide_eq_decide.mpr ⟨fun q => .inl (by omega), fun q => q.elim (fun q => by omega) fun q => absurd q.1 h⟩
  rw [e]; exact q
structure OwnA (X : Cx) (pins : List (Addr × Obj)) (a : Addr) : Prop where
  loc : a ≠ X.env.locals
  hi : a ∈ X.ex ∨ X.s_0.heap.objs.size ≤ a
  cell : ∀ x c, X.env.cells.lookup x = some c → c ≠ a
  pin : ∀ p ∈ X.pn ++ pins, p.1 ≠ a
  fs : a ∉ X.fs
theorem OwnA.new (I : Inv X pins σ H s) {a : Addr} (h : s.heap.objs.size ≤ a) : OwnA X pins a :=
  ⟨Nat.ne_of_gt (Nat.lt_of_lt_of_le I.lt h), .inr (Nat.le_trans I.sz h), fun x c e z => by
    obtain ⟨v, o, ho, _⟩ := I.cell x c e
    exact absurd (Heap.lt_size ho) (by rw [z]; exact Nat.not_lt.mpr h), fun p hp z => absurd (z ▸ Heap.lt_size (I.pin p hp).1) (Nat.not_lt.mpr h), I.nofs h⟩
theorem OwnA.turn {a : Addr} (O : OwnA X pins a) (I : Inv X pins σ H s) (hn : H a = none) {h' : Heap} {tk : Nat} (k : ∀ b o, b ≠ a → s.heap.get? b = some o → h'.get? b = some o) : Inv X pins σ H { s with heap := h', toks := tk } :=
  I.turned k hn O.loc O.hi O.cell O.pin
abbrev scO (v k : Value) (c : Nat) : Obj := { cls := .type "list", dict := none, data := .seq #[v, k] c, slots := #[] }
variable {kf : Nat} {q : Addr} {fd : FuncData} {ps : List Str} {It Sc : Addr}
theorem key_call {o1 o2 : Obj} {x : List Nat} {tk : Tok} {E : Value → Shared → Prop} {Q : Value → Shared → Prop} (F : FnOk X.prog X.w X.K X.mg X.base C8.CX0 kf q fd ps spOrd) (hr : Room (kf + 1) X.A) (hb : Binds X.K fd ps []) (oI : OwnA X pins It) (oS : OwnA X pins Sc)
    (I : Inv X pins σ H s) (nI : H It = none) (nS : H Sc = none) (h1 : s.heap.get? It = some o1) (h2 : s.heap.get? Sc = some o2) (d1 : ∀ v, o1.data ≠ .cell v) (d2 : ∀ v, o2.data ≠ .cell v) (hx : x.length ≤ 1000)
    (k : ∀ (t : Addr) (H' : Hp) (s' : Shared), Inv X pins σ H' s' → Same H H' → H' t = some (.tup [.int (x.length : Nat), .str (S x)]) → s'.heap.get? It = some o1 → s'.heap.get? Sc = some o2 → H' It = none → H' Sc = none → Q (.ref t) s') :
    wpAny (model X.prog X.w) X.A.in1 (call (.ref q) [.str (S x) tk]) Q E s := by
  have I2 : Inv X ((It, o1) :: (Sc, o2) :: pins) σ H s := I.pins_of fun p hp => by
    rcases List.mem_cons.mp hp with rfl | hp
    · exact ⟨h1, nI, oI.loc, oI.fs, d1⟩
    rcases List.mem_cons.mp hp with rfl | hp
    · exact ⟨h2, nS, oS.loc, oS.fs, d2⟩
    · exact I.pin p (List.mem_append_right _ hp)
  have want : spOrd [.str (S x)] H (fun y H' => ∃ t, y = .ref t ∧ Same H H' ∧ H' t = some (.tup [.int (x.length : Nat), .str (S x)])) C8.E0 := ⟨x, rfl, hx, fun t H' sm ht => ⟨t, rfl, sm, ht⟩⟩
  have bs := hb s [Value.str (S x) tk] I2.kIn (by rw [List.append_nil]; exact F.len _ _ _ _ want)
  rw [List.append_nil] at bs
  refine wpAny_call (codeAny_mono (F.run X.A.in1 X.stack s H ⟨[.str (S x) tk], []⟩ _ [.str (S x)] _ C8.E0 hr.in1 I2.env0.in1 bs (.cons ⟨tk, rfl⟩ .nil) want) fun r s' got => ?_)
  match r, got with
  | .ok (.ret u), got =>
    obtain ⟨y, H', I3, rv, t, rfl, sm, ht⟩ := I2.after got
    cases rv
    obtain ⟨a1, a2, _⟩ := I3.pin (It, o1) (List.mem_append_right _ List.mem_cons_self)
    obtain ⟨b1, b2, _⟩ := I3.pin (Sc, o2) (List.mem_append_right _ (List.mem_cons_of_mem _ List.mem_cons_self))
    exact k t H' s' (I3.pins_of fun p hp => I3.pin p (List.mem_append_right _ (List.mem_cons_of_mem _ (List.mem_cons_of_mem _ hp)))) sm ht a1 b1 a2 b2
theorem min_turns {H1 : Hp} {l : Addr} {xs : List (List Nat)} {kw : List (Str × Value)} {R : Result → Shared → Prop} (hc : X.calm = true) (Fk : FnOk X.prog X.w X.K X.mg X.base C8.CX0 kf q fd ps spOrd) (hr : Room (kf + 1) X.A) (hb : Binds X.K fd ps []) (oI : OwnA X pins It) (oS : OwnA X pins Sc)
    (hIS : It ≠ Sc) (hlI : l ≠ It) (hsq : SqL X.K H1 l (txs xs)) (hxs : ∀ x ∈ xs, x.length ≤ 1000)
    (hR : ∀ (m : List Nat) (tk : Tok) (H' : Hp) (s' : Shared), Inv X pins σ H' s' → Same H1 H' → m ∈ xs → (∀ y ∈ xs, ¬ OrdL y m) → R (.ok (.ret (.str (S m) tk))) s') :
    ∀ (k j b : Nat) (s : Shared) (H' : Hp) (t : Addr) (tk : Tok) (c : Nat), j + 1 + k = xs.length → Inv X pins σ H' s → Same H1 H' → H' It = none → H' Sc = none → s.heap.IsListIter It l (j + 1) → s.heap.get? Sc = some (scO (.str (S (xs.getD b [])) tk) (.ref t) c) →
      H' t = some (.tup [.int ((xs.getD b []).length : Nat), .str (S (xs.getD b []))]) → b ≤ j → (∀ i, i ≤ j → ¬ OrdL (xs.getD i []) (xs.getD b [])) → codeAny (model X.prog X.w) X.A (.builtin "min.loop" ⟨[.ref It, .ref q, .ref Sc], kw⟩) R s := by
  have hname : (toString "min" ++ toString ".loop" : String) = "min.loop" := by decide
  have gd : ∀ i, i < xs.length → xs[i]? = some (xs.getD i []) := fun i hi => by rw [List.getD_eq_getElem?_getD, List.getElem?_eq_getElem hi]; rfl
  intro k
  induction k with
  | zero =>
    intro j b s H' t tk c hk I sm nI nS hit hS ht hbj best
    obtain ⟨its, rv, pl, _⟩ := I.list (sm.seq hsq)
    have hn : its.toArray.size = xs.length := by rw [List.size_toArray, ← rv.length, txs_len]
    have W := Walks.list (prog := X.prog) (w := X.w) (A := X.A.in1) (by simp [I.ok.hd hc]) It l hlI its.toArray
    have hb2 : xs.getD b [] ∈ xs := List.mem_of_getElem? (gd b (by omega))
    refine codeAny_builtin PySem.F.entry_min_loop (by
      rw [Around.under_plainId PySem.F.plain_min_loop _]
      show wpAny _ X.A.in1 (seqItems? (.ref Sc) >>= _) _ _ s
      refine wpAny_bind (wpAny_seqItems hS rfl ?_)
      show wpAny _ X.A.in1 (tryCatch (pyNext (.ref It)) _ >>= _) _ _ s
      refine wpAny_bind (wpAny_tryCatch (W.done s _ _ (by rw [hn, ← hk, Nat.add_zero]; exact ⟨hit, pl.isList⟩) fun h' tk' hm => ?_))
      have I2 : Inv X pins σ H' { s with heap := h', toks := tk' } := oI.turn I nI fun b o n e => hm b o (by simpa using n) e
      have hS2 : h'.get? Sc = some (scO (.str (S (xs.getD b [])) tk) (.ref t) c) := hm Sc _ (by simpa using hIS.symm) hS
      show wpAny _ X.A.in1 (updateSeq Sc (fun _ => #[]) >>= _) _ _ _
      refine wpAny_bind (wpAny_updateSeq hS2 rfl (wpAny_bind (wpAny_letGo (wpAny_pure ?_))))
      exact hR _ tk H' _ (oS.turn (tk := tk') I2 nS fun b o n e => (Heap.get?_update_other _ _ n.symm).trans e) sm hb2 fun y hy => by
        obtain ⟨i, hi⟩ := List.getElem?_of_mem hy
        have hil := (List.getElem?_eq_some_iff.mp hi).1
        have := best i (by omega)
        rw [List.getD_eq_getElem?_getD, hi] at this
        exact this)
  | succ k ih =>
    intro j b s H' t tk c hk I sm nI nS hit hS ht hbj best
    obtain ⟨its, rv, pl, _⟩ := I.list (sm.seq hsq)
    have hn : its.toArray.size = xs.length := by rw [List.size_toArray, ← rv.length, txs_len]
    have W := Walks.list (prog := X.prog) (w := X.w) (A := X.A.in1) (by simp [I.ok.hd hc]) It l hlI its.toArray
    have hj1 := gd (j + 1) (by omega)
    have hxj := hxs _ (List.mem_of_getElem? hj1)
    refine codeAny_builtin PySem.F.entry_min_loop (by
      rw [Around.under_plainId PySem.F.plain_min_loop _]
      show wpAny _ X.A.in1 (seqItems? (.ref Sc) >>= _) _ _ s
      refine wpAny_bind (wpAny_seqItems hS rfl ?_)
      show wpAny _ X.A.in1 (tryCatch (pyNext (.ref It)) _ >>= _) _ _ s
      refine wpAny_bind (wpAny_tryCatch (W.item (j + 1) s _ _ (by omega) ⟨hit, pl.isList⟩ fun v h' tk' hP hst hm => ?_))
      have I2 : Inv X pins σ H' { s with heap := h', toks := tk' } := oI.turn I nI fun b o n e => hm b o (by simpa using n) e
      have hS2 : h'.get? Sc = some (scO (.str (S (xs.getD b [])) tk) (.ref t) c) := hm Sc _ (by simpa using hIS.symm) hS
      obtain ⟨tv, rfl⟩ : ∃ tv, v = .str (S (xs.getD (j + 1) [])) tv := by
        have e1 : (txs xs)[j + 1]? = some (.str (S (xs.getD (j + 1) []))) := by unfold txs; rw [List.getElem?_map, hj1]; rfl
        obtain ⟨u, eu, ru⟩ := rv.get e1
        have hP' : its[j + 1]? = some v := by simpa using hP
        rw [hP'] at eu
        obtain ⟨tv, rfl⟩ := ru
        exact ⟨tv, Option.some.inj eu⟩
      obtain ⟨oi, hoi, ci, di⟩ := hst.1
      show wpAny _ X.A.in1 (tryCatch (holding [Value.str (S (xs.getD (j + 1) [])) tv] (call (.ref q) [Value.str (S (xs.getD (j + 1) [])) tv])) _ >>= _) _ _ _
      refine wpAny_bind (wpAny_tryCatch (wpAny_holding (key_call (o1 := oi) (o2 := scO (.str (S (xs.getD b [])) tk) (.ref t) c) Fk hr hb oI oS I2 nI nS hoi hS2 (fun v e => by rw [di] at e; cases e) (fun v e => nomatch e) hxj fun t2 H2 s2 I3 sm2 ht2 hoi2 hS3 nI2 nS2 => ?_)))
      have hit2 : s2.heap.IsListIter It l (j + 1 + 1) := ⟨oi, hoi2, ci, di⟩
      have ht' := sm2 _ _ ht
      refine wpAny_bind (wpAny_tryCatch (wpAny_holding (wpAny_bind (lt_pairs I3 (A := X.A.in1) (by have := hr.un; show X.A.units + 1 < cLine; omega) ht2 ht' ?_))))
      refine wpAny_bind (wpAny_holding (wpAny_truthy_bool ?_))
      refine wpAny_bind (wpAny_letGo (wpAny_pure ?_))
      by_cases hlt : OrdL (xs.getD (j + 1) []) (xs.getD b [])
      · rw [decide_eq_true hlt]
        simp only [if_true]
        refine wpAny_bind (wpAny_updateSeq hS3 rfl (wpAny_bind (wpAny_letGo ?_)))
        rw [hname]
        refine wpAny_pure ⟨plainId_quiet PySem.F.plain_min_loop _, ih (j + 1) (j + 1) _ H2 t2 tv _ (by omega) (oS.turn (tk := s2.toks) I3 nS2 fun b o n e => (Heap.get?_update_other _ _ n.symm).trans e) (sm.trans sm2) nI2 nS2 (hit2.at fun o e => (Heap.get?_update_other _ _ hIS.symm).trans e) (Heap.get?_update_self _ hS3 rfl) ht2 (Nat.le_refl _) fun i hi hl2 => ?_⟩
        by_cases q : i = j + 1
        · subst q; exact OrdL.irr _ hl2
        · exact best i (by omega) (hl2.trans hlt)
      · rw [decide_eq_false hlt]
        simp only [Bool.false_eq_true, if_false]
        refine wpAny_bind (wpAny_letGo ?_)
        rw [hname]
        refine wpAny_pure ⟨plainId_quiet PySem.F.plain_min_loop _, ih (j + 1) b _ H2 t tk c (by omega) I3 (sm.trans sm2) nI2 nS2 hit2 hS3 ht' (by omega) fun i hi => ?_⟩
        by_cases q : i = j + 1
        · subst q; exact hlt
        · exact best i (by omega))
def rMinKey (K : PySem.W.Frag) (q : Addr) : List V → List V → Hp → VK → Prop := fun vs zs H Q => ∃ (l : Addr) (xs : List (List Nat)), vs = [V.ref l] ∧ zs = [V.ref q] ∧ SqL K H l (txs xs) ∧ 0 < xs.length ∧ (∀ x ∈ xs, x.length ≤ 1000) ∧
  ∀ (m : List Nat) (H' : Hp), Same H H' → m ∈ xs → (∀ y ∈ xs, ¬ OrdL y m) → Q (.str (S m)) H'
theorem cr_minKey (hc : X.calm = true) (Fk : FnOk X.prog X.w X.K X.mg X.base C8.CX0 kf q fd ps spOrd) (hr : Room (kf + 1) X.A) (hb : Binds X.K fd ps []) : CallRK X (.builtin "min") [Str.ofString "key"] (rMinKey X.K q) := by
  intro pins s σ H vs zs us ws Q I rv0 rz h
  obtain ⟨l, xs, rfl, rfl, hsq, hpos, hxs, kQ⟩ := h
  obtain ⟨u, rfl, ru⟩ := vals1 rv0
  obtain ⟨u2, rfl, ru2⟩ := vals1 rz
  obtain rfl : u = Value.ref l := ru
  obtain rfl : u2 = Value.ref q := ru2
  obtain ⟨its, rv, pl, _⟩ := I.list hsq
  have hname : (toString "min" ++ toString ".loop" : String) = "min.loop" := by decide
  have gd : ∀ i, i < xs.length → xs[i]? = some (xs.getD i []) := fun i hi => by rw [List.getD_eq_getElem?_getD, List.getElem?_eq_getElem hi]; rfl
  have hn : its.toArray.size = xs.length := by rw [List.size_toArray, ← rv.length, txs_len]
  obtain ⟨ol, hol, _⟩ := pl.isList
  have hll : l < s.heap.objs.size := Heap.lt_size hol
  have hlI : l ≠ s.heap.objs.size := Nat.ne_of_lt hll
  show wpAny _ _ (call (.builtin "min") [Value.ref l] [(Str.ofString "key", .ref q)]) _ _ s
  refine PyProof.Rows.kmk_tree PySem.F.kind_min PySem.F.plain_min PySem.F.entry_min (PyProof.Rows.kmk_min_key _ _) (by
    show wpAny _ X.A.in1 (Builtin.Builtins.bindParams "min" ["key", "default"] 0 ⟨[], [(Str.ofString "key", .ref q)]⟩ >>= _) _ _ s
    refine wpAny_bind (wpAny_of_eq (show Builtin.Builtins.bindParams "min" ["key", "default"] 0 ⟨[], [(Str.ofString "key", .ref q)]⟩ = pure [some (.ref q), none] from rfl) ?_)
    refine wpAny_bind (wpAny_pure (wpAny_bind (wpAny_pyIter_list pl.isList (wpAny_bind (wpAny_newObj_type ?_)))))
    rw [hname]
    have hit0 : (s.heap.push { cls := .type "list_iterator", data := .fields #[.ref l, .int 0 0] }).get? s.heap.objs.size = some { cls := .type "list_iterator", data := .fields #[.ref l, .int 0 0] } := Heap.get?_push_size _ rfl
    have hsz1 : (s.heap.push { cls := .type "list_iterator", data := .fields #[.ref l, .int 0 0] }).objs.size = s.heap.objs.size + 1 := Heap.size_push ..
    rw [hsz1]
    have k1 : ∀ b o, s.heap.get? b = some o → ((s.heap.push { cls := .type "list_iterator", data := .fields #[.ref l, .int 0 0] }).push { cls := .type "list", data := .seq #[] 0 }).get? b = some o := fun b o e => Heap.get?_push_of_some _ (Heap.get?_push_of_some _ e)
    have hS0 : ((s.heap.push { cls := .type "list_iterator", data := .fields #[.ref l, .int 0 0] }).push { cls := .type "list", data := .seq #[] 0 }).get? (s.heap.objs.size + 1) = some { cls := .type "list", data := .seq #[] 0 } := by rw [← hsz1]; exact Heap.get?_push_size _ rfl
    have hI0 : ((s.heap.push { cls := .type "list_iterator", data := .fields #[.ref l, .int 0 0] }).push { cls := .type "list", data := .seq #[] 0 }).get? s.heap.objs.size = some { cls := .type "list_iterator", data := .fields #[.ref l, .int 0 0] } := Heap.get?_push_of_some _ hit0
    have oI : OwnA X pins s.heap.objs.size := OwnA.new I (Nat.le_refl _)
    have oS : OwnA X pins (s.heap.objs.size + 1) := OwnA.new I (Nat.le_succ _)
    have nI : H s.heap.objs.size = none := I.hok.fresh (Nat.le_refl _)
    have nS : H (s.heap.objs.size + 1) = none := I.hok.fresh (Nat.le_succ _)
    have I1 : Inv X pins σ H { s with heap := (s.heap.push { cls := .type "list_iterator", data := .fields #[.ref l, .int 0 0] }).push { cls := .type "list", data := .seq #[] 0 }, toks := s.toks } := I.kept k1
    have hIS : s.heap.objs.size ≠ s.heap.objs.size + 1 := Nat.ne_of_lt (Nat.lt_succ_self _)
    have pl1 := pl.isList.at fun o e => k1 l o e
    generalize (s.heap.push { cls := .type "list_iterator", data := .fields #[.ref l, .int 0 0] }).push { cls := .type "list", data := .seq #[] 0 } = h1 at hS0 hI0 I1 pl1 ⊢
    generalize s.heap.objs.size + 1 = Sc at hS0 oS nS hIS ⊢
    generalize s.heap.objs.size = It at hI0 oI nI hIS hlI ⊢
    have W := Walks.list (prog := X.prog) (w := X.w) (A := X.A.in1) (by simp [I.ok.hd hc]) It l hlI its.toArray
    have hx0 := gd 0 hpos
    refine wpAny_pure ⟨plainId_quiet PySem.F.plain_min_loop _, codeAny_builtin PySem.F.entry_min_loop (by
      rw [Around.under_plainId PySem.F.plain_min_loop _]
      show wpAny _ X.A.in1 (seqItems? (.ref Sc) >>= _) _ _ _
      refine wpAny_bind (wpAny_seqItems hS0 rfl ?_)
      show wpAny _ X.A.in1 (tryCatch (pyNext (.ref It)) _ >>= _) _ _ _
      refine wpAny_bind (wpAny_tryCatch (W.item 0 _ _ _ (by omega) ⟨⟨_, hI0, rfl, rfl⟩, pl1⟩ fun v h' tk' hP hst hm => ?_))
      have I2 : Inv X pins σ H { s with heap := h', toks := tk' } := oI.turn I1 nI fun b o n e => hm b o (by simpa using n) e
      have hS2 : h'.get? Sc = some { cls := .type "list", data := .seq #[] 0 } := hm Sc _ (by simpa using hIS.symm) hS0
      obtain ⟨tv, rfl⟩ : ∃ tv, v = .str (S (xs.getD 0 [])) tv := by
        have e1 : (txs xs)[0]? = some (.str (S (xs.getD 0 []))) := by unfold txs; rw [List.getElem?_map, hx0]; rfl
        obtain ⟨u, eu, ru⟩ := rv.get e1
        have hP' : its[0]? = some v := by simpa using hP
        rw [hP'] at eu
        obtain ⟨tv, rfl⟩ := ru
        exact ⟨tv, Option.some.inj eu⟩
      obtain ⟨oi, hoi, ci, di⟩ := hst.1
      show wpAny _ X.A.in1 (tryCatch (holding [Value.str (S (xs.getD 0 [])) tv] (call (.ref q) [Value.str (S (xs.getD 0 [])) tv])) _ >>= _) _ _ _
      refine wpAny_bind (wpAny_tryCatch (wpAny_holding (key_call (o1 := oi) (o2 := { cls := .type "list", data := .seq #[] 0 }) Fk hr hb oI oS I2 nI nS hoi hS2 (fun v e => by rw [di] at e; cases e) (fun v e => nomatch e) (hxs _ (List.mem_of_getElem? hx0)) fun t2 H2 s2 I3 sm2 ht2 hoi2 hS3 nI2 nS2 => ?_)))
      have hit2 : s2.heap.IsListIter It l (0 + 1) := ⟨oi, hoi2, ci, di⟩
      show wpAny _ X.A.in1 (updateSeq Sc (fun _ => #[Value.str (S (xs.getD 0 [])) tv, .ref t2]) >>= _) _ _ _
      refine wpAny_bind (wpAny_updateSeq hS3 rfl ?_)
      rw [hname]
      exact wpAny_pure ⟨plainId_quiet PySem.F.plain_min_loop _, min_turns (H1 := H) hc Fk hr hb oI oS hIS hlI hsq hxs (fun m tk H' s' I' sm hm hmin => ⟨.str (S m), H', I', ⟨tk, rfl⟩, kQ m H' sm hm hmin⟩) (xs.length - 1) 0 0 _ H2 t2 tv _ (by omega) (oS.turn (tk := s2.toks) I3 nS2 fun b o n e => (Heap.get?_update_other _ _ n.symm).trans e) sm2 nI2 nS2 (hit2.at fun o e => (Heap.get?_update_other _ _ hIS.symm).trans e) (Heap.get?_update_self _ hS3 rfl) ht2 (Nat.le_refl _) fun i hi hl2 => by
        obtain rfl : i = 0 := by omega
        exact OrdL.irr _ hl2⟩)⟩)
end
end LX
set_option maxHeartbeats 4000000
namespace LX
open PySem PySem.Spec PyProof.Rows L2 C8 SX
section
variable {X : Cx}
def rMaxDef (K : PySem.W.Frag) : List V → List V → Hp → VK → Prop := fun vs zs H Q => ∃ (l : Addr) (ns : List Int) (d : Int), vs = [V.ref l] ∧ zs = [V.int d] ∧ SqL K H l (ns.map V.int) ∧
  (ns = [] → Q (.int d) H) ∧ (ns ≠ [] → ∀ m ∈ ns, (∀ y ∈ ns, y ≤ m) → Q (.int m) H)
theorem cr_maxDef (hc : X.calm = true) : CallRK X (.builtin "max") [Str.ofString "default"] (rMaxDef X.K) := by
  intro pins s σ H vs zs us ws Q I rv0 rz h
  obtain ⟨l, ns, d, rfl, rfl, hsq, q0, q1⟩ := h
  obtain ⟨u, rfl, ru⟩ := vals1 rv0
  obtain ⟨u2, rfl, ru2⟩ := vals1 rz
  obtain rfl : u = Value.ref l := ru
  obtain ⟨td, rfl⟩ := ru2
  obtain ⟨its, rv, pl, _⟩ := I.list hsq
  have hn : its.toArray.size = ns.length := by rw [List.size_toArray, ← rv.length, List.length_map]
  have gd : ∀ i, i < ns.length → ns[i]? = some (ns.getD i 0) := fun i hi => by rw [List.getD_eq_getElem?_getD, List.getElem?_eq_getElem hi]; rfl
  have hval : ∀ i v, its.toArray[i]? = some v → ∃ t, v = Value.int (ns.getD i 0) t := fun i v hv => by
    have hi : i < ns.length := by rw [← hn]; exact (Array.getElem?_eq_some_iff.mp hv).1
    have e1 : (ns.map V.int)[i]? = some (V.int (ns.getD i 0)) := by rw [List.getElem?_map, gd i hi]; rfl
    obtain ⟨u, eu, ru⟩ := rv.get e1
    have hv' : its[i]? = some v := by simpa using hv
    rw [hv'] at eu
    obtain ⟨t, rfl⟩ := ru
    exact ⟨t, Option.some.inj eu⟩
  show wpAny _ _ (call (.builtin "max") [Value.ref l] [(Str.ofString "default", .int d td)]) _ _ s
  refine call_max_walkD (PySem.W.iter_listW (A := X.A.in1) (I.ok.hd hc) pl.isList fun s₂ e W st hfp hw hk => ?_)
  refine ⟨_, _, _, _, _, _, _, s.heap, (fun i j => decide (ns.getD i 0 > ns.getD j 0)), rfl, W, st, hfp, hw, hk, fun hz s' m => ?_, fun hp => ⟨fun i j vi vj s Q E _ hi hj hq => CmpOf.ints_gt (P := fun i v => its.toArray[i]? = some v) (fun i => ns.getD i 0) hval i j vi vj s Q E hi hj hq, fun v s' hP m => ?_⟩⟩
  · obtain ⟨h', tk, rfl, hk'⟩ := PySem.W.moved_old e rfl m
    exact ⟨V.int d, H, I.kept hk', ⟨td, rfl⟩, q0 (List.eq_nil_of_length_eq_zero (by omega))⟩
  · obtain ⟨h', tk, rfl, hk'⟩ := PySem.W.moved_old e rfl m
    obtain ⟨t, rfl⟩ := hval _ v hP
    obtain ⟨h1, h2⟩ := argBest_gt (fun i => ns.getD i 0) (its.toArray.size - 1)
    have hp : 0 < its.toArray.size := hp
    have h1 : argBest (fun i j => decide (ns.getD i 0 > ns.getD j 0)) (its.toArray.size - 1) ≤ its.toArray.size - 1 := h1
    refine ⟨V.int _, H, I.kept hk', ⟨t, rfl⟩, q1 (fun e => by rw [e, List.length_nil] at hn; omega) _ (List.mem_of_getElem? (gd _ (by omega))) fun y hy => ?_⟩
    obtain ⟨j, hj⟩ := List.getElem?_of_mem hy
    have hjl := (List.getElem?_eq_some_iff.mp hj).1
    have := h2 j (by omega)
    rw [List.getD_eq_getElem?_getD, hj] at this
    exact this
end
end LX
set_option maxHeartbeats 4000000
namespace LX
open PySem PySem.Spec PyProof.Rows L2 C8 SX
def rLtP : R2 := fun x y H Q => ∃ (a b : Addr) (u v : List Nat), x = .ref a ∧ y = .ref b ∧ H a = some (.tup [.int (u.length : Nat), .str (S u)]) ∧ H b = some (.tup [.int (v.length : Nat), .str (S v)]) ∧ Q (.bl (decide (OrdL u v))) H
theorem op_ltP {X : Cx} (hu : X.A.units < cLine) : OpR X (compareOp .Lt) rLtP := by
  intro pins s σ H x y v u Q I rx ry h
  obtain ⟨a, b, l, m, rfl, rfl, ha, hb, q⟩ := h
  cases rx
  cases ry
  exact lt_pairs I hu ha hb ⟨.bl _, H, I, rfl, q⟩
def Sub (a b : List Nat) : Bool := !(Builtin.Str.occurrences (S b) (S a) 0 (S b).length 1).isEmpty
theorem op_inSub {X : Cx} : OpR X (compareOp .In) (fun x y H Q => ∃ a b : List Nat, x = .str (S a) ∧ y = .str (S b) ∧ Q (.bl (Sub a b)) H) := by
  intro pins s σ H x y v u Q I rx ry h
  obtain ⟨a, b, rfl, rfl, q⟩ := h
  exact op_in_str pins s σ H _ _ v u Q I rx ry ⟨_, _, rfl, rfl, q⟩
theorem pi_enumXK {X : Cx} {e : Expr} {ta : TA} {p pos tpos : Pos} {elts : List Expr} {kk : Nat} (K : PySem.W.Frag) (hg : Gl X "enumerate") (hm : X.mg "enumerate" = none) (ha : PA X [e] ta) (h : X.K = K := by rfl) (hs : starEach [e] X.env = [(false, eval e X.env)] := by rfl) :
    PI X (.Tuple elts kk tpos) (.Call (.Name "enumerate" p) [e] [] pos) (iEnumX K ta) := by subst h; exact pi_enumX hg hm ha hs
end LX
set_option maxHeartbeats 2000000
namespace Toy
open PySem L2 C8 SX LX
local macro_rules | `(tactic| walk_at "c") => `(tactic| refine And.intro (by first | (show (0 : Int) < _; omega) | exact Or.inr ⟨by decide, by decide⟩ | exact Or.inl ⟨by decide, by decide⟩ | (exact ⟨by omega, by omega⟩)) ?_)
local macro_rules | `(tactic| walk_at "s1") => `(tactic| first | refine ⟨_, rfl, ?_⟩ | refine ⟨_, _, rfl, rfl, ?_⟩ | refine .inl ⟨_, rfl, ?_⟩ | walk_at "c")
local macro_rules | `(tactic| walk_at "ix") => `(tactic| refine ⟨_, _, _, _, rfl, rfl, SqL.of (by first | assumption | exact upd_same), rfl, ?_⟩)
local macro_rules | `(tactic| walk_at "s") => `(tactic| repeat (walk_at "s1"))
structure XQ (K : PySem.W.Frag) (mg : Str → Option Value) (n : Str) (C : Addr) : Prop where
  x : XC K C
  g : mg n = some (.ref C)
structure XN (K : PySem.W.Frag) (mg : Str → Option Value) (n : Str) (C : Addr) : Prop where
  q : PySem.W.excIn K C veT "ValueError.__new__" = true
  g : mg n = some (.ref C)
  k : PySem.W.keepIn K (.ref C) = true
  hb : PySem.W.subIn K (.ref C) (.type "BaseException") = some true
  ht : PySem.W.typeIn K (.ref C) = some (.type "type")
theorem XN.r {K : PySem.W.Frag} {mg : Str → Option Value} {n : Str} {C : Addr} (h : XN K mg n C) {X : Cx} (hX : X.K = K := by rfl) : Raises X (.ref C) := raises_own (by rw [hX]; exact h.hb) (by rw [hX]; exact h.ht)
def spXInit (C : Addr) (f : Str) : Sp := fun vs H Q _ => ∃ (a : Addr) (v : V), vs = [.ref a, v] ∧ H a = some (exo a C none) ∧ ∀ dx, H dx = none → dx ≠ a → Q .non (upd (upd H dx (exd dx [(f, v)])) a (exo a C (some dx)))
theorem exo_ne_exd {a C d : Addr} {dd : Option Addr} {fs : List (Str × V)} {H : Hp} (h1 : H a = none) : (upd H a (exo a C dd)) a ≠ none := by rw [upd_same]; simp
theorem raise_read {C : Addr} {f : Str} {v : V} {H : Hp} {Q : XK} (k : ∀ d, H d = none → Q (.ref C) (some d) (upd H d (.xd [(f, v)]))) (a : Addr) (ha : H a = none) :
    spXInit C f (.ref a :: ([v] ++ [])) (upd H a (exo a C none)) (fun v H2 => v = .non ∧ ∃ (d : Addr) (fs : List (Str × V)), H2 a = some (exo a C (some d)) ∧ H2 d = some (exd d fs) ∧ H d = none ∧ Q (.ref C) (some d) (upd (del H2 a) d (.xd fs))) (fun _ _ _ => False) := by
  refine ⟨a, v, rfl, upd_same, fun dx hdx nda => ⟨rfl, dx, [(f, v)], upd_same, by rw [upd_ne nda, upd_same], by rw [upd_ne nda] at hdx; exact hdx, ?_⟩⟩
  rw [upd_ne nda] at hdx
  have e : upd (del (upd (upd (upd H a (exo a C none)) dx (exd dx [(f, v)])) a (exo a C (some dx))) a) dx (.xd [(f, v)]) = upd H dx (.xd [(f, v)]) := by
    funext b
    by_cases h1 : b = dx
    · rw [h1, upd_same, upd_same]
    · rw [upd_ne h1, upd_ne h1]
      by_cases h2 : b = a
      · rw [h2, del_same, ha]
      · rw [del_ne h2, upd_ne h2, upd_ne h1, upd_ne h2]
  rw [e]
  exact k dx hdx
theorem dpa_two {K : PySem.W.Frag} {H : Hp} {xs : List V} {a b : PyData} (h : DpAll K H xs [a, b]) : ∃ v1 v2, xs = [v1, v2] ∧ Dp K H v1 a ∧ Dp K H v2 b := by
  cases h with
  | cons h1 h2 => cases h2 with
    | cons h3 h4 => cases h4; exact ⟨_, _, rfl, h1, h3⟩
theorem row_text {sg : List Nat} {d : PyData} (h : rowO sg (txtO d) = true) : ∃ l, d = .str (S l) ∧ Ov sg l ∧ txtO d = some l := by
  cases d with
  | str s => exact ⟨s.cps.toList, by simp [S], of_decide_eq_true h, rfl⟩
  | _ => cases h
theorem txt_S (l : List Nat) : txtO (.str (S l)) = some l := by simp [txtO, S]
section
variable {P : Program} {w : World} {K : PySem.W.Frag} {mg : Str → Option Value} {base : Heap}
abbrev s_xir : Stmt := inClass (top 3) 0
abbrev n_xir : List Str := ["self", "word"]
theorem sc_xir : FnScope n_xir ["self", "word"] (fnScope s_xir) := fnScope_by (by decide +kernel)
theorem ok_xir {C : Addr} (x_ : XQ K mg "InvalidRules" C) (n_ : PySem.W.findIn K (.ref C) "word" = some none) {f : Addr} (iC : PySem.W.findIn K (.ref C) "__init__" = some (some (.ref f))) (tI : PySem.W.typeIn K (.ref f) = some (.type "function")) {fd : FuncData} (F : C8.Fun K "__init__" "InvalidRules.__init__" s_xir f fd) (b : Binds K fd ["self", "word"] []) : RaiX P w K mg base 1 "InvalidRules" C (spXInit C "word") := by
  refine raiX x_.x iC tI x_.g F b sc_xir (fun vs H Q E h => ?_) (fun cdv A outer s H vs Q E hr h => ?_)
  · obtain ⟨a, v, rfl, _⟩ := h; rfl
  · obtain ⟨a, v, rfl, ha, k⟩ := h
    refine ⟨_, (pss_one (ps_ostG (pv 0) (pv 1))
      ), ?_⟩
    exact ⟨_, rfl, _, rfl, a, C, rfl, x_.x, n_, ha, fun dx h1 h2 => k dx h1 h2⟩
abbrev s_tupof : Stmt := top 11
abbrev n_tupof : List Str := ["value", "many"]
theorem sc_tupof : FnScope n_tupof ["value", "many"] (fnScope s_tupof) := fnScope_by (by decide +kernel)
def tupD (n : Nat) : PyData → Bool
  | .tuple ds => decide (ds.length = n)
  | _ => false
def spTup (K : PySem.W.Frag) : Sp := fun vs H Q _ => ∃ (v : V) (d : PyData), vs = [v, .int 2] ∧ Dp K H v d ∧ Q (.bl (tupD 2 d)) H
theorem ok_tupof (T : BT mg) {f : Addr} {fd : FuncData} (F : Def K mg "is_tuple_of" s_tupof f fd) (b : Binds K fd ["value", "many"] []) : Cal P w K mg base 1 "is_tuple_of" (spTup K) [] := by
  refine cal0 F b .nil sc_tupof (fun vs H Q E h => ?_) (fun cdv A outer s H vs Q E hr h => ?_)
  · obtain ⟨v, d, rfl, _⟩ := h; rfl
  · obtain ⟨v, d, rfl, hd, q⟩ := h
    refine ⟨_, (pss_one (ps_ret (pe_and (pe_callB (isiK K) (by rfl) T.m_isinstance PyProof.Rows.boot_isinstance (pa_cons (pv 0) (pa_cons (pe_bltn (v := .ty "tuple") (by rfl) T.m_tuple PyProof.Rows.boot_tuple rfl) pa_nil))) (pe_one (pe_cmpR op_eq (pe_callB (lenK K) (by rfl) T.m_len PySem.boot_len (pa_cons (pv 0) pa_nil)) (pv 1) (nomark _)))))
      ), ?_⟩
    have no : tupD 2 d = false → PySem.W.kitOne K (.type (tyN d)) (.type "tuple") = some false → tRet (tAndV (tCB (fun xs H Q => True ∧ Q (.bl true) H) tNil) (tC (.bl true))) { nx := fun _ H' => Q V.non H', rt := Q } [some v, some (.int 2)] H → True := fun _ _ _ => trivial
    clear no
    have bad : tupD 2 d = false → PySem.W.kitOne K (.type (tyN d)) (.type "tuple") = some false → ∀ {R : V → Hp → Prop}, R = Q → R (.bl false) H := fun e _ R er => by rw [er, ← e]; exact q
    cases hd with
    | @tup p xs ds hp ha =>
      refine ⟨_, rfl, _, _, _, _, true, rfl, .ty _, ty_seqT hp, kit_ty (a := "tuple") (by decide +kernel), true, rfl, iteT ?_⟩
      refine ⟨_, rfl, p, _, rfl, .inr hp, _, rfl, rfl, ?_⟩
      have e : V.bl (decide (V.int (xs.length : Nat) = V.int 2)) = V.bl (tupD 2 (.tuple ds)) := congrArg V.bl (decide_eq_decide.mpr ⟨fun h => by have := V.int.inj h; have := dpa_len ha; omega, fun h => by rw [dpa_len ha, h]; rfl⟩)
      show Q (V.bl (decide (V.int (xs.length : Nat) = V.int 2))) H
      rw [e]
      exact q
    | non => exact ⟨_, rfl, _, _, _, _, false, rfl, .ty _, dp_ty .non, kit_ty (a := "NoneType") (by decide +kernel), false, rfl, iteN rfl q⟩
    | bl b => exact ⟨_, rfl, _, _, _, _, false, rfl, .ty _, dp_ty (.bl b), kit_ty (a := "bool") (by decide +kernel), false, rfl, iteN rfl q⟩
    | int b => exact ⟨_, rfl, _, _, _, _, false, rfl, .ty _, dp_ty (.int b), kit_ty (a := "int") (by decide +kernel), false, rfl, iteN rfl q⟩
    | str b => exact ⟨_, rfl, _, _, _, _, false, rfl, .ty _, dp_ty (.str b), kit_ty (a := "str") (by decide +kernel), false, rfl, iteN rfl q⟩
    | lst h1 h2 => exact ⟨_, rfl, _, _, _, _, false, rfl, .ty _, dp_ty (.lst h1 h2), kit_ty (a := "list") (by decide +kernel), false, rfl, iteN rfl q⟩
abbrev s_order : Stmt := top 15
abbrev n_order : List Str := ["row"]
theorem sc_order : FnScope n_order ["row"] (fnScope s_order) := fnScope_by (by decide +kernel)
theorem ok_order (T : BT mg) {f : Addr} {fd : FuncData} (F : Def K mg "row_order" s_order f fd) (b : Binds K fd ["row"] []) : Cal P w K mg base 1 "row_order" spOrd [] := by
  refine cal0 F b .nil sc_order (fun vs H Q E h => ?_) (fun cdv A outer s H vs Q E hr h => ?_)
  · obtain ⟨l, rfl, _⟩ := h; rfl
  · obtain ⟨l, rfl, hl, k⟩ := h
    refine ⟨_, (pss_one (ps_ret (pe_tup (pa_cons (pe_callB call_len_str (by rfl) T.m_len PySem.boot_len (pa_cons (pv 0) pa_nil)) (pa_cons (pv 0) pa_nil))))
      ), ?_⟩
    refine ⟨_, rfl, S l, rfl, by rw [S_len]; exact sz hl (by decide), _, rfl, by show 2 ≤ sizeLine; decide, fun t ht => ?_⟩
    rw [S_len]
    exact k t _ (sm_new ht) upd_same
def pairD (sg : List Nat) : PyData → Bool
  | .tuple [a, b] => rowO sg (txtO a) && (rowO sg (txtO b) && decide (OrdL ((txtO b).getD []) ((txtO a).getD [])))
  | _ => false
abbrev s_ispair : Stmt := top 22
abbrev n_ispair : List Str := ["value", "signs"]
theorem sc_ispair : FnScope n_ispair ["value", "signs"] (fnScope s_ispair) := fnScope_by (by decide +kernel)
def spPair (K : PySem.W.Frag) : Sp := fun vs H Q _ => ∃ (v : V) (d : PyData) (sg : List Nat), vs = [v, .str (S sg)] ∧ Dp K H v d ∧ okD d = true ∧ ∀ H', Same H H' → Q (.bl (pairD sg d)) H'
theorem tup_two {d : PyData} (h : tupD 2 d = true) : ∃ a b, d = .tuple [a, b] := by
  cases d with
  | tuple ds =>
    have h1 : ds.length = 2 := of_decide_eq_true h
    match ds, h1 with
    | [a, b], _ => exact ⟨a, b, rfl⟩
  | _ => cases h
theorem pair_no {sg : List Nat} {d : PyData} (h : tupD 2 d = false) : pairD sg d = false := by
  unfold pairD
  split
  · cases h
  · rfl
theorem ok_ispair (T : BT mg) (c_tupof : Cal P w K mg base 1 "is_tuple_of" (spTup K) []) (c_isrow : Cal P w K mg base 1 "is_row" (spIsRowD K) []) (c_order : Cal P w K mg base 1 "row_order" spOrd []) {f : Addr} {fd : FuncData} (F : Def K mg "_is_pair" s_ispair f fd) (b : Binds K fd ["value", "signs"] []) : Cal P w K mg base 2 "_is_pair" (spPair K) [] := by
  refine cal0 F b .nil sc_ispair (fun vs H Q E h => ?_) (fun cdv A outer s H vs Q E hr h => ?_)
  · obtain ⟨v, d, sg, rfl, _⟩ := h; rfl
  · obtain ⟨v, d, sg, rfl, hd, ok, k⟩ := h
    refine ⟨_, (pss_cons (ps_if (PW.pt (pw_or (pt_not (pt_val (pe_c c_tupof hr (by first | decide | omega) (by rfl) (pa_cons (pv 0) (pa_cons pe_int pa_nil))))) (pw_or (pt_not (pt_val (pe_c c_isrow hr (by first | decide | omega) (by rfl) (pa_cons (pe_ix (ixt K) (pv 0) pe_int (fun _ _ => rfl)) (pa_cons (pv 1) pa_nil))))) (pw_or1 (pt_not (pt_val (pe_c c_isrow hr (by first | decide | omega) (by rfl) (pa_cons (pe_ix (ixt K) (pv 0) pe_int (fun _ _ => rfl)) (pa_cons (pv 1) pa_nil))))))))) 
        (pss_one (ps_ret pe_bl)
        )
       pss_nil)
      (pss_one (ps_ret (pe_cmpR (op_ltP hr.units0) (pe_c c_order hr (by first | decide | omega) (by rfl) (pa_cons (pe_ix (ixt K) (pv 0) pe_int (fun _ _ => rfl)) pa_nil)) (pe_c c_order hr (by first | decide | omega) (by rfl) (pa_cons (pe_ix (ixt K) (pv 0) pe_int (fun _ _ => rfl)) pa_nil)) (nomark _)))
      )), ?_⟩
    refine ⟨_, rfl, v, d, rfl, hd, ?_⟩
    cases ht : tupD 2 d with
    | false =>
      refine ⟨_, rfl, iteB rfl ?_⟩
      rw [pair_no ht] at k
      exact k H (Same.refl H)
    | true =>
    obtain ⟨x, y, rfl⟩ := tup_two ht
    have okl := (okD_items ok rfl).2
    have e : pairD sg (.tuple [x, y]) = (rowO sg (txtO x) && (rowO sg (txtO y) && decide (OrdL ((txtO y).getD []) ((txtO x).getD [])))) := rfl
    rw [e] at k
    cases hd with
    | @tup p xs _ hp hxs =>
    obtain ⟨v1, v2, rfl, h1, h3⟩ := dpa_two hxs
    refine ⟨_, rfl, iteN rfl ?_⟩
    refine ⟨_, rfl, p, _, 0, v1, rfl, rfl, hp, rfl, _, rfl, v1, txtO x, sg, rfl, dp_kv h1, okD_sm (okl x (by simp)), ?_⟩
    cases hx : rowO sg (txtO x) with
    | false =>
      refine ⟨_, rfl, iteB rfl ?_⟩
      rw [hx] at k
      exact k H (Same.refl H)
    | true =>
    refine ⟨_, rfl, iteN rfl ?_⟩
    refine ⟨_, rfl, p, _, 1, v2, rfl, rfl, hp, rfl, _, rfl, v2, txtO y, sg, rfl, dp_kv h3, okD_sm (okl y (by simp)), ?_⟩
    rw [hx, Bool.true_and] at k
    cases hy : rowO sg (txtO y) with
    | false =>
      refine ⟨_, rfl, iteB rfl ?_⟩
      rw [hy] at k
      exact k H (Same.refl H)
    | true =>
    refine ⟨_, rfl, iteN rfl ?_⟩
    rw [hy, Bool.true_and] at k
    obtain ⟨lx, rfl, _, ex⟩ := row_text hx
    obtain ⟨ly, rfl, _, ey⟩ := row_text hy
    rw [ex, ey] at k
    have hlx := (okD_text (okl _ (by simp) : okD (.str (S lx)) = true)).1
    have hly := (okD_text (okl _ (by simp) : okD (.str (S ly)) = true)).1
    cases h1
    cases h3
    refine nxt ?_
    dsimp only
    refine ⟨_, rfl, p, _, 1, _, rfl, rfl, hp, rfl, ly, rfl, by omega, fun t H1 s1 h1 => ?_⟩
    refine ⟨_, rfl, p, _, 0, _, rfl, rfl, sm_seqT s1 hp, rfl, lx, rfl, by omega, fun t2 H2 s2 h2 => ?_⟩
    exact ⟨t, t2, ly, lx, rfl, rfl, s2 _ _ h1, h2, k H2 (s1.trans s2)⟩
end
end Toy
set_option maxHeartbeats 2000000
namespace Toy
open PySem L2 C8 SX LX
local macro_rules | `(tactic| walk_at "c") => `(tactic| refine And.intro (by first | (show (0 : Int) < _; omega) | exact Or.inr ⟨by decide, by decide⟩ | exact Or.inl ⟨by decide, by decide⟩ | (exact ⟨by omega, by omega⟩)) ?_)
local macro_rules | `(tactic| walk_at "s1") => `(tactic| first | refine ⟨_, rfl, ?_⟩ | refine ⟨_, _, rfl, rfl, ?_⟩ | refine .inl ⟨_, rfl, ?_⟩ | walk_at "c")
local macro_rules | `(tactic| walk_at "ix") => `(tactic| refine ⟨_, _, _, _, rfl, rfl, SqL.of (by first | assumption | exact upd_same), rfl, ?_⟩)
local macro_rules | `(tactic| walk_at "s") => `(tactic| repeat (walk_at "s1"))
theorem txs_get {ims : List (List Nat)} {i : Nat} {x : V} (h : (txs ims)[i]? = some x) : ∃ l, ims[i]? = some l ∧ x = .str (S l) := by
  unfold txs at h
  rw [List.getElem?_map] at h
  cases e : ims[i]? with
  | none => rw [e] at h; cases h
  | some l => rw [e] at h; cases h; exact ⟨l, rfl, rfl⟩
theorem items_seq (b : Bool) (ds : List PyData) : itemsD (seqD b ds) = some ds := by cases b <;> rfl
theorem items_no {d : PyData} (h : isSeqD d = false) : itemsD d = none := by
  cases d <;> first | rfl | cases h
def leftD : PyData → List Nat
  | .tuple (a :: _) => (txtO a).getD []
  | _ => []
def noSub (ls : List (List Nat)) : Bool := (List.range ls.length).all fun i => !(((takenN (fun j => decide (j ≠ i)) ls.length).map fun j => Sub (ls.getD i []) (ls.getD j [])).any id)
def pairsD (sg : List Nat) (d : PyData) : Bool := match itemsD d with
  | none => false
  | some ds => (ds.map (pairD sg)).all id && noSub (ds.map leftD)
theorem pair_form {sg : List Nat} {d : PyData} (h : pairD sg d = true) : ∃ l r, d = .tuple [.str (S l), .str (S r)] ∧ Ov sg l ∧ Ov sg r ∧ OrdL r l := by
  have ht : tupD 2 d = true := by
    cases e : tupD 2 d with
    | true => rfl
    | false => rw [pair_no e] at h; cases h
  obtain ⟨x, y, rfl⟩ := tup_two ht
  have h : (rowO sg (txtO x) && (rowO sg (txtO y) && decide (OrdL ((txtO y).getD []) ((txtO x).getD [])))) = true := h
  rw [Bool.and_eq_true, Bool.and_eq_true] at h
  obtain ⟨h1, h2, h3⟩ := h
  obtain ⟨lx, rfl, ox, ex⟩ := row_text h1
  obtain ⟨ly, rfl, oy, ey⟩ := row_text h2
  rw [ex, ey] at h3
  exact ⟨lx, ly, rfl, ox, oy, of_decide_eq_true h3⟩
abbrev Ps := List (List Nat × List Nat)
def prD (p : List Nat × List Nat) : PyData := .tuple [.str (S p.1), .str (S p.2)]
theorem pairs_form {sg : List Nat} : ∀ {ds : List PyData}, (ds.map (pairD sg)).all id = true → ∃ ps : Ps, ds = ps.map prD ∧ ∀ p ∈ ps, Ov sg p.1 ∧ Ov sg p.2 ∧ OrdL p.2 p.1
  | [], _ => ⟨[], rfl, fun _ h => nomatch h⟩
  | d :: ds, h => by
    rw [List.map_cons, List.all_cons, Bool.and_eq_true] at h
    obtain ⟨l, r, rfl, h1, h2, h3⟩ := pair_form h.1
    obtain ⟨ps, rfl, hps⟩ := pairs_form h.2
    exact ⟨(l, r) :: ps, rfl, fun p hp => by
      rcases List.mem_cons.mp hp with rfl | hp
      · exact ⟨h1, h2, h3⟩
      · exact hps p hp⟩
theorem left_pr (ps : Ps) : (ps.map prD).map leftD = ps.map (·.1) := by
  rw [List.map_map]
  exact List.map_congr_left fun p _ => by show ((txtO (.str (S p.1))).getD []) = p.1; simp [txtO, S]
theorem dp_pr {K : PySem.W.Frag} {H : Hp} {x : V} {p : List Nat × List Nat} (h : Dp K H x (prD p)) : ∃ q, x = .ref q ∧ SqT K H q [.str (S p.1), .str (S p.2)] := by
  unfold prD at h
  cases h with
  | @tup a xs _ hp hxs =>
    obtain ⟨v1, v2, rfl, h1, h2⟩ := dpa_two hxs
    cases h1
    cases h2
    exact ⟨a, rfl, hp⟩
def anyAt (ls : List (List Nat)) (i : Nat) : Bool := ((takenN (fun j => decide (j ≠ i)) ls.length).map fun j => Sub (ls.getD i []) (ls.getD j [])).any id
theorem noSub_no {ls : List (List Nat)} {i : Nat} (hi : i < ls.length) (h : anyAt ls i = true) : noSub ls = false := by
  unfold noSub
  rw [List.all_eq_false]
  exact ⟨i, List.mem_range.mpr hi, by show ¬ (!(anyAt ls i)) = true; rw [h]; decide⟩
theorem noSub_yes {ls : List (List Nat)} (h : ∀ i, i < ls.length → anyAt ls i = false) : noSub ls = true := by
  unfold noSub
  rw [List.all_eq_true]
  exact fun i hi => by show (!(anyAt ls i)) = true; rw [h i (List.mem_range.mp hi)]; rfl
section
variable {P : Program} {w : World} {K : PySem.W.Frag} {mg : Str → Option Value} {base : Heap}
abbrev s_ispairs : Stmt := top 21
abbrev n_ispairs : List Str := ["value", "signs", "lefts", "at", "left", "pair", "right", "number", "other"]
theorem sc_ispairs : FnScope n_ispairs ["value", "signs"] (fnScope s_ispairs) := fnScope_by (by decide +kernel)
def spPairs (K : PySem.W.Frag) : Sp := fun vs H Q _ => ∃ (v : V) (d : PyData) (sg : List Nat), vs = [v, .str (S sg)] ∧ Dp K H v d ∧ okD d = true ∧ ∀ H', Same H H' → Q (.bl (pairsD sg d)) H'
theorem ok_ispairs (T : BT mg) (c_isseq : Cal P w K mg base 1 "is_sequence" (spIsSeqD K) []) (c_ispair : Cal P w K mg base 2 "_is_pair" (spPair K) []) {f : Addr} {fd : FuncData} (F : Def K mg "_is_pairs" s_ispairs f fd) (b : Binds K fd ["value", "signs"] []) : Cal P w K mg base 3 "_is_pairs" (spPairs K) [] := by
  refine cal0 F b .nil sc_ispairs (fun vs H Q E h => ?_) (fun cdv A outer s H vs Q E hr h => ?_)
  · obtain ⟨v, d, sg, rfl, _⟩ := h; rfl
  · obtain ⟨v, d, sg, rfl, hd, ok, k⟩ := h
    refine ⟨_, (pss_cons (ps_if (PW.pt (pw_or (pt_not (pt_val (pe_c c_isseq hr (by first | decide | omega) (by rfl) (pa_cons (pv 0) pa_nil)))) (pw_or1 (pt_not (pt_val (pe_callB (cr_all rfl) (by rfl) T.m_all PyProof.Rows.boot_all (pa_cons (pe_lc (own := [("pair", 5)]) rfl sc_ispairs.nd (pi_seq (pv 0)) (blkOk_by (N := n_ispairs) (sc := fnScope s_ispairs) (by decide +kernel)) (fun _ _ _ _ _ => (pg_name (i := 5) sc_ispairs.nd rfl (.inl rfl))) (fun _ _ _ _ _ => pts_nil) (fun _ _ _ _ _ => (pe_c c_ispair hr (by first | decide | omega) (by rfl) (pa_cons (pv 5) (pa_cons (pv 1) pa_nil))))) pa_nil))))))) 
        (pss_one (ps_ret pe_bl)
        )
       pss_nil)
      (pss_cons (ps_setLc (i := 2) (own := [("left", 4), ("right", 6)]) rfl sc_ispairs.nd rfl rfl rfl (pi_seq (pv 0)) (blkOk_by (N := n_ispairs) (sc := fnScope s_ispairs) (by decide +kernel)) (fun _ _ _ _ _ => (tupK K 2 (pgs_cons (pg_name (i := 4) sc_ispairs.nd rfl (.inl rfl)) (pgs_cons (pg_name (i := 6) sc_ispairs.nd rfl (.inl rfl)) pgs_nil)))) (fun _ _ _ _ _ => pts_nil) (fun _ _ _ _ _ => (pv 4)))
      (pss_cons (ps_for PassesOwn.never rfl (pi_enumX (by rfl) T.m_enumerate (pa_cons (pv 2) pa_nil)) (tupK K 2 (pgs_cons (pg_name (i := 3) sc_ispairs.nd rfl (.inr rfl)) (pgs_cons (pg_name (i := 4) sc_ispairs.nd rfl (.inr rfl)) pgs_nil))) 
        (pss_one (ps_if (pt_val (pe_callB (anyK K rfl) (by rfl) T.m_any PyProof.Rows.boot_any (pa_cons (pe_lc (own := [("number", 7), ("other", 8)]) rfl sc_ispairs.nd (pi_enumX (by rfl) T.m_enumerate (pa_cons (pv 2) pa_nil)) (blkOk_by (N := n_ispairs) (sc := fnScope s_ispairs) (by decide +kernel)) (fun _ _ _ _ _ => (tupK K 2 (pgs_cons (pg_name (i := 7) sc_ispairs.nd rfl (.inl rfl)) (pgs_cons (pg_name (i := 8) sc_ispairs.nd rfl (.inl rfl)) pgs_nil)))) (fun _ _ _ _ _ => pts_one (pt_cmpR op_ne (pv 7) (pv 3) (nomark _))) (fun _ _ _ _ _ => (pe_cmpR op_inSub (pv 4) (pv 8) rfl))) pa_nil))) 
          (pss_one (ps_ret pe_bl)
          )
         pss_nil)
        ))
      (pss_one (ps_ret pe_bl)
      )))), ?_⟩
    refine ⟨_, rfl, v, d, rfl, hd, fun H1 s1 => ?_⟩
    cases hb : isSeqD d with
    | false =>
      refine ⟨_, rfl, iteB rfl ?_⟩
      have e : pairsD sg d = false := by unfold pairsD; rw [items_no hb]
      rw [e] at k
      exact k H1 s1
    | true =>
    obtain ⟨b, ds, rfl⟩ := isSeq_of hb
    obtain ⟨p, xs, rfl, hq, ha⟩ := dp_seq (dp_same s1 _ _ hd)
    have hl := dpa_len ha
    obtain ⟨f1, f2⟩ := okD_items ok (items_seq b ds)
    have ek : pairsD sg (seqD b ds) = ((ds.map (pairD sg)).all id && noSub (ds.map leftD)) := by unfold pairsD; rw [items_seq]
    rw [ek] at k
    refine ⟨_, rfl, iteN rfl ?_⟩
    refine ⟨_, rfl, p, b, xs, rfl, hq, fun D hD => lc_keep keep_same (walk_seq (K := K) (b := b) (a := p) (xs := xs)) hD (by rw [hl]; exact small1000 (by omega)) (fun j y => ∀ x, ds[j]? = some x → y = .bl (pairD sg x)) (fun H2 r => hq.same r) (fun i x H2 H3 R hii r1 hy hR => ?_) (fun ys H2 hly hg r1 hDs => ?_)⟩
    · obtain ⟨rfl, e⟩ := hy
      obtain ⟨d, e2, hd2⟩ := dpa_at ha i x e
      refine ⟨rfl, ?_⟩
      refine ⟨_, rfl, _, rfl, x, _, sg, rfl, dp_same r1 _ _ hd2, f2 _ (List.mem_of_getElem? e2), fun H4 s4 => ?_⟩
      exact hR _ _ s4 fun z hz => by rw [e2] at hz; cases hz; rfl
    have eb : ys = (ds.map (pairD sg)).map V.bl := by
      rw [List.map_map]
      refine list_map (hly.trans hl) fun j y x e1 e2 => hg j y e1 x e2
    have s2 := s1.trans r1
    refine ⟨D, ds.map (pairD sg), rfl, SqL.of (by rw [← eb]; exact hDs), ?_⟩
    cases hall : (ds.map (pairD sg)).all id with
    | false =>
      refine ⟨_, rfl, iteB rfl ?_⟩
      rw [hall] at k
      exact k H2 s2
    | true =>
    rw [hall, Bool.true_and] at k
    refine ⟨_, rfl, iteN rfl ?_⟩
    obtain ⟨ps, rfl, hps⟩ := pairs_form hall
    rw [left_pr] at k
    clear hDs hly hg eb hall ek hD
    have ha2 := hq.same r1
    refine nxt ?_
    dsimp only
    refine ⟨_, rfl, p, b, xs, rfl, ha2, fun D hD => ?_⟩
    refine lc_keep keep_same (walk_seq (K := K) (b := b) (a := p) (xs := xs)) hD (by rw [hl]; exact small1000 (by omega)) (fun j y => ∀ q, ps[j]? = some q → y = .str (S q.1)) (fun H2 r => ha2.same r) (fun i x H3 H4 R hii r1' hy hR => ?_) (fun ys H3 hly hg r3 hDs => ?_)
    · obtain ⟨rfl, e⟩ := hy
      obtain ⟨d, e2, hd2⟩ := dpa_at ha i x e
      rw [List.getElem?_map] at e2
      cases hp : ps[i]? with
      | none => rw [hp] at e2; cases e2
      | some q =>
      rw [hp] at e2
      obtain rfl := Option.some.inj e2
      obtain ⟨qa, rfl, hqa⟩ := dp_pr (dp_same (r1.trans r1') _ _ hd2)
      refine ⟨qa, _, rfl, hqa, rfl, _, _, rfl, _, _, rfl, rfl, rfl, ?_⟩
      refine ⟨_, rfl, hR _ _ (Same.refl _) fun q' hq' => ?_⟩
      rw [hp] at hq'
      rw [← Option.some.inj hq']
    have ey : ys = txs (ps.map (·.1)) := by
      unfold txs
      rw [List.map_map]
      exact list_map (by rw [hly, hl, List.length_map]) fun j y q e1 e2 => hg j y e1 q e2
    subst ey
    have s3 := s2.trans r3
    have hn : (ps.map (·.1)).length ≤ 20 := by rw [List.length_map]; rw [List.length_map] at f1; exact f1
    generalize ps.map (·.1) = ls at hDs k hn
    clear hly hg hD r3 ha2 hps f2 f1 hl ha
    refine ⟨_, rfl, .ref D, .lst D, rfl, rfl, ⟨_, SqL.of hDs⟩, ?_⟩
    refine for_it (walk_enumX (K := K) (S := .lst D) (xs := txs ls)) (fun i σ H' => (∃ s3 s4 : Option V, σ = [some (.ref p), some (.str (S sg)), some (.ref D), s3, s4, none, none, none, none]) ∧ Same H3 H' ∧ ∀ j, j < i → anyAt ls j = false)
      ⟨⟨_, _, rfl⟩, Same.refl _, fun j hj => by omega⟩ (fun _ _ _ _ h => SqL.of (h.2.1 _ _ hDs)) ?_ ?_
    · rintro i x σ H4 H4' hi ⟨⟨s3', s4', rfl⟩, w4, hno⟩ ⟨t, x1, x2, rfl, ht, rfl, e1, e2⟩
      obtain rfl : V.int (i : Nat) = x1 := Option.some.inj e1
      obtain ⟨l, hl1, rfl⟩ := txs_get e2
      rw [txs_len] at hi
      have sT : Same H4 (upd H4 t (.tup [.int (i : Nat), .str (S l)])) := sm_new ht
      refine ⟨t, _, rfl, .inl (.inl upd_same), rfl, _, _, rfl, _, _, rfl, rfl, ?_⟩
      have hD5 := (w4.trans sT) _ _ hDs
      generalize upd H4 t (.tup [.int (i : Nat), .str (S l)]) = H5 at sT hD5 ⊢
      have hgl : ls.getD i [] = l := by rw [List.getD_eq_getElem?_getD, hl1]; rfl
      refine ⟨_, rfl, .ref D, .lst D, rfl, rfl, ⟨_, SqL.of hD5⟩, fun D2 hD2 => ?_⟩
      refine lc_keepF keep_same (walk_enumX (K := K) (S := .lst D) (xs := txs ls)) hD2 (by rw [txs_len]; exact small1000 (by omega)) (fun j => decide (j ≠ i)) (fun j y _ => y = .bl (Sub l (ls.getD j []))) (fun H r => SqL.of (r _ _ hD5)) (fun _ _ _ _ _ _ h => h) (fun _ _ _ _ _ _ _ h => h) (fun j x Hx Hy acc N R hj r hDa hy hR hN => ?_) (fun ys H6 hly hg w6 hDs2 => ?_)
      · obtain ⟨t2, y1, y2, rfl, ht2, rfl, e1, e2⟩ := hy
        obtain rfl : V.int (j : Nat) = y1 := Option.some.inj e1
        obtain ⟨m, hm1, rfl⟩ := txs_get e2
        have hgm : ls.getD j [] = m := by rw [List.getD_eq_getElem?_getD, hm1]; rfl
        rw [hgm] at hR
        refine ⟨t2, _, rfl, .inl (.inl upd_same), rfl, _, _, rfl, _, _, rfl, rfl, rfl, ?_⟩
        refine ⟨_, rfl, _, rfl, rfl, _, rfl, ?_⟩
        by_cases hji : j = i
        · refine iteN (by subst hji; simp) ?_
          exact hN (by rw [decide_eq_false]; exact fun h => h hji) _ (sm_new ht2)
        · refine iteB (by simp; omega) ?_
          exact ⟨_, rfl, _, rfl, l, m, rfl, rfl, hR (decide_eq_true hji) _ _ (sm_new ht2) rfl⟩
      rw [txs_len] at hly hg
      have ey : ys = ((takenN (fun j => decide (j ≠ i)) ls.length).map fun j => Sub (ls.getD i []) (ls.getD j [])).map V.bl := by
        rw [List.map_map, hgl]
        exact list_map hly fun j y c e1 e2 => hg j c y e2 e1
      subst ey
      refine ⟨D2, _, rfl, SqL.of hDs2, ?_⟩
      rw [show (((takenN (fun j => decide (j ≠ i)) ls.length).map fun j => Sub (ls.getD i []) (ls.getD j [])).any id) = anyAt ls i from rfl]
      cases ha : anyAt ls i with
      | true =>
        refine ⟨_, rfl, iteB rfl ?_⟩
        rw [noSub_no hi ha] at k
        exact k H6 (s3.trans (w4.trans (sT.trans w6)))
      | false =>
        refine ⟨_, rfl, iteN rfl ?_⟩
        refine ⟨⟨_, _, rfl⟩, w4.trans (sT.trans w6), fun j hj => ?_⟩
        by_cases q : j = i
        · rw [q]; exact ha
        · exact hno j (by omega)
    · rintro σ H4 ⟨⟨s3', s4', rfl⟩, w4, hno⟩
      rw [txs_len] at hno
      rw [noSub_yes hno] at k
      exact k H4 (s3.trans w4)
end
end Toy
set_option maxHeartbeats 2000000
namespace Toy
open PySem L2 C8 SX LX
local macro_rules | `(tactic| walk_at "c") => `(tactic| refine And.intro (by first | (show (0 : Int) < _; omega) | exact Or.inr ⟨by decide, by decide⟩ | exact Or.inl ⟨by decide, by decide⟩ | (exact ⟨by omega, by omega⟩)) ?_)
local macro_rules | `(tactic| walk_at "s1") => `(tactic| first | refine ⟨_, rfl, ?_⟩ | refine ⟨_, _, rfl, rfl, ?_⟩ | refine .inl ⟨_, rfl, ?_⟩ | walk_at "c")
local macro_rules | `(tactic| walk_at "ix") => `(tactic| refine ⟨_, _, _, _, rfl, rfl, SqL.of (by first | assumption | exact upd_same), rfl, ?_⟩)
local macro_rules | `(tactic| walk_at "s") => `(tactic| repeat (walk_at "s1"))
theorem seqL_put {K : PySem.W.Frag} {H : Hp} {a p C dx : Addr} {fs : List (Str × V)} {xs : List V} (o : HO) (h : SqL K H p xs) (ha : H a = some (.ins C dx fs)) : SqL K (upd H a o) p xs := by
  rcases h with (h | ⟨o', h⟩) | h
  · exact .inl (.inl (by rw [upd_ne (fun e => by rw [e, ha] at h; cases h)]; exact h))
  · exact .inl (.inr ⟨o', by rw [upd_ne (fun e => by rw [e, ha] at h; cases h)]; exact h⟩)
  · exact .inr h
theorem seqT_put {K : PySem.W.Frag} {H : Hp} {a p C dx : Addr} {fs : List (Str × V)} {xs : List V} (o : HO) (h : SqT K H p xs) (ha : H a = some (.ins C dx fs)) : SqT K (upd H a o) p xs := by
  rcases h with (h | ⟨o', h⟩) | h
  · exact .inl (.inl (by rw [upd_ne (fun e => by rw [e, ha] at h; cases h)]; exact h))
  · exact .inl (.inr ⟨o', by rw [upd_ne (fun e => by rw [e, ha] at h; cases h)]; exact h⟩)
  · exact .inr h
mutual
theorem dp_put {K : PySem.W.Frag} {H : Hp} {a C dx : Addr} {fs : List (Str × V)} (o : HO) (s : H a = some (.ins C dx fs)) : ∀ (d : PyData) (v : V), Dp K H v d → Dp K (upd H a o) v d
  | .none, _, h => by cases h; exact .non
  | .bool b, _, h => by cases h; exact .bl b
  | .int i, _, h => by cases h; exact .int i
  | .str x, _, h => by cases h; exact .str x
  | .list ds, _, h => by
    cases h with
    | lst hs ha => exact .lst (seqL_put o hs s) (dpa_put o s ds _ ha)
  | .tuple ds, _, h => by
    cases h with
    | tup hs ha => exact .tup (seqT_put o hs s) (dpa_put o s ds _ ha)
  | .dict _, _, h => by cases h
theorem dpa_put {K : PySem.W.Frag} {H : Hp} {a C dx : Addr} {fs : List (Str × V)} (o : HO) (s : H a = some (.ins C dx fs)) : ∀ (ds : List PyData) (vs : List V), DpAll K H vs ds → DpAll K (upd H a o) vs ds
  | [], _, h => by cases h; exact .nil
  | d :: ds, _, h => by
    cases h with
    | cons h1 h2 => exact .cons (dp_put o s d _ h1) (dpa_put o s ds _ h2)
end
def ruF (sg : List Nat) (r : Addr) : List (Str × V) := [("signs", .str (S sg)), ("pairs", .ref r)]
def psD (ps : Ps) : PyData := .tuple (ps.map prD)
def Rul (K : PySem.W.Frag) (C : Addr) (H : Hp) (a : Addr) (sg : List Nat) (ps : Ps) : Prop := ∃ dx r : Addr, H a = some (.ins C dx (ruF sg r)) ∧ Dp K H (.ref r) (psD ps)
theorem Rul.same {K : PySem.W.Frag} {C a : Addr} {H H' : Hp} {sg : List Nat} {ps : Ps} (s : Same H H') (h : Rul K C H a sg ps) : Rul K C H' a sg ps := let ⟨dx, r, h1, h2⟩ := h; ⟨dx, r, s _ _ h1, dp_same s _ _ h2⟩
theorem n_sp : ¬ (("signs" : Str) = "pairs") := by decide +kernel
theorem ruF_signs (sg : List Nat) (r : Addr) : (ruF sg r).lookup ("signs" : Str) = some (.str (S sg)) := by
  unfold ruF; rw [List.lookup_cons_self]
theorem ruF_pairs (sg : List Nat) (r : Addr) : (ruF sg r).lookup ("pairs" : Str) = some (.ref r) := by
  have e : (("pairs" : Str) == ("signs" : Str)) = false := by decide +kernel
  unfold ruF; rw [List.lookup_cons, e, List.lookup_cons_self]
theorem ruF_no (sg : List Nat) (r : Addr) {m : Str} (h1 : (m == ("signs" : Str)) = false) (h2 : (m == ("pairs" : Str)) = false) : (ruF sg r).lookup m = none := by
  unfold ruF; rw [List.lookup_cons, h1, List.lookup_cons, h2]; rfl
theorem ruF_put (sg : List Nat) (l : Addr) : putF ("pairs" : Str) (.ref l) (putF ("signs" : Str) (.str (S sg)) []) = ruF sg l := by
  show (if ("signs" : Str) = "pairs" then _ else (("signs" : Str), V.str (S sg)) :: putF ("pairs" : Str) (.ref l) []) = _
  rw [if_neg n_sp]; rfl
structure CC (K : PySem.W.Frag) (C : Addr) : Prop where
  cl : Cls K C
  nS : NoAttr K C "signs"
  nP : NoAttr K C "pairs"
def Down (sg : List Nat) (ps : Ps) : Prop := ∀ p ∈ ps, Ov sg p.1 ∧ Ov sg p.2 ∧ OrdL p.2 p.1
def dueR (d0 d1 : PyData) : Option Str := match txtO d0 with
  | some sg => if Sg sg then (if pairsD sg d1 = true then none else some "pairs") else some "signs"
  | none => some "signs"
theorem due_signs {d0 d1 : PyData} (h : sgO (txtO d0) = false) : dueR d0 d1 = some "signs" := by
  unfold dueR
  cases e : txtO d0 with
  | none => rfl
  | some sg => rw [e] at h; exact if_neg (of_decide_eq_false h)
theorem sg_of {d : PyData} (h : sgO (txtO d) = true) : ∃ sg, d = .str (S sg) ∧ Sg sg := by
  cases d with
  | str s => exact ⟨s.cps.toList, by rw [S_self], of_decide_eq_true h⟩
  | _ => cases h
theorem due_pairs {sg : List Nat} {d1 : PyData} (hs : Sg sg) (h : pairsD sg d1 = false) : dueR (.str (S sg)) d1 = some "pairs" := by
  unfold dueR; rw [txt_S]; exact (if_pos hs).trans (if_neg (by rw [h]; decide))
theorem due_none {sg : List Nat} {d1 : PyData} (hs : Sg sg) (h : pairsD sg d1 = true) : dueR (.str (S sg)) d1 = none := by
  unfold dueR; rw [txt_S]; exact (if_pos hs).trans (if_pos h)
theorem map_prD_inj : ∀ {a b : Ps}, a.map prD = b.map prD → a = b
  | [], [], _ => rfl
  | [], _ :: _, h => by cases h
  | _ :: _, [], h => by cases h
  | x :: xs, y :: ys, h => by
    rw [List.map_cons, List.map_cons, List.cons.injEq] at h
    have e := PyData.tuple.inj h.1
    simp only [List.cons.injEq, PyData.str.injEq, and_true] at e
    have e1 : x.1 = y.1 := by simpa [S] using e.1
    have e2 : x.2 = y.2 := by simpa [S] using e.2
    rw [map_prD_inj h.2, Prod.ext e1 e2]
section
variable {P : Program} {w : World} {K : PySem.W.Frag} {mg : Str → Option Value} {base : Heap}
abbrev s_init : Stmt := inClass (top 19) 0
abbrev n_init : List Str := ["self", "signs", "pairs"]
theorem sc_init : FnScope n_init ["self", "signs", "pairs"] (fnScope s_init) := fnScope_by (by decide +kernel)
def spInitR (K : PySem.W.Frag) (C CI : Addr) : Sp := fun vs H Q E => ∃ (a dx : Addr) (v0 v1 : V) (d0 d1 : PyData), vs = [.ref a, v0, v1] ∧ H a = some (.ins C dx []) ∧ Dp K H v0 d0 ∧ Dp K H v1 d1 ∧ okD d0 = true ∧ okD d1 = true ∧
  (∀ wd, dueR d0 d1 = some wd → ∀ (d : Addr) (H' : Hp), Same H H' → H' d = some (.xd [("word", .str wd)]) → E (.ref CI) (some d) H') ∧
  (∀ (sg : List Nat) (ps : Ps), dueR d0 d1 = none → d0 = .str (S sg) → Sg sg → itemsD d1 = some (ps.map prD) → Down sg ps → ∀ H', (∀ b o, b ≠ a → H b = some o → H' b = some o) → Rul K C H' a sg ps → Q .non H')
theorem ok_initR {C CI : Addr} (T : BT mg) (CH : CC K C) (c_InvalidRules : RaiX P w K mg base 1 "InvalidRules" CI (spXInit CI "word")) (c_issigns : Cal P w K mg base 3 "is_signs" (spIsSignsD K) []) (c_ispairs : Cal P w K mg base 3 "_is_pairs" (spPairs K) []) {f : Addr} {fd : FuncData} (F : C8.Fun K "__init__" "Rules.__init__" s_init f fd) :
    FnOk P w K mg base (L2.CX P w) 4 f fd ["self", "signs", "pairs"] (spInitR K C CI) := by
  refine fnX F sc_init (fun vs H Q E h => ?_) (fun cdv A outer s H vs Q E hr h => ?_)
  · obtain ⟨a, dx, v0, v1, d0, d1, rfl, _⟩ := h; rfl
  · obtain ⟨a, dx, v0, v1, d0, d1, rfl, ha, hd0, hd1, o0, o1, kb, kg⟩ := h
    refine ⟨_, (pss_cons (ps_if (pt_not (pt_val (pe_c c_issigns hr (by first | decide | omega) (by rfl) (pa_cons (pv 1) pa_nil)))) 
        (pss_one (ps_raise rfl (takes_of rfl rfl rfl rfl) (pmk_rai c_InvalidRules hr (by decide) (by rfl) (pa_cons pe_str pa_nil)))
        )
       pss_nil)
      (pss_cons (ps_if (pt_not (pt_val (pe_c c_ispairs hr (by first | decide | omega) (by rfl) (pa_cons (pv 2) (pa_cons (pv 1) pa_nil))))) 
        (pss_one (ps_raise rfl (takes_of rfl rfl rfl rfl) (pmk_rai c_InvalidRules hr (by decide) (by rfl) (pa_cons pe_str pa_nil)))
        )
       pss_nil)
      (pss_cons (ps_fld (pv 0) (pv 1) rfl)
      (pss_one (ps_fld (pv 0) (pe_callTy (tupleK K) (by rfl) T.m_tuple PyProof.Rows.boot_tuple (pa_cons (pv 2) pa_nil)) rfl)
      )))), ?_⟩
    have out : ∀ (wd : Str) (H1 : Hp), dueR d0 d1 = some wd → Same H H1 → ∀ (d : Addr), H1 d = none → E (.ref CI) (some d) (upd H1 d (.xd [("word", .str wd)])) := fun wd H1 e s1 d hd => kb wd e d _ (s1.trans (sm_new hd)) upd_same
    refine ⟨_, rfl, v0, txtO d0, rfl, dp_kv hd0, okD_sm o0, fun H1 s1 => ?_⟩
    cases hs : sgO (txtO d0) with
    | false =>
      refine ⟨_, rfl, iteB rfl ?_⟩
      exact ⟨by decide, raise_read (out _ H1 (due_signs hs) s1)⟩
    | true =>
    obtain ⟨sg, rfl, hsg⟩ := sg_of hs
    have hv0 : v0 = .str (S sg) := by cases hd0; rfl
    subst hv0
    refine ⟨_, rfl, iteN rfl ?_⟩
    refine ⟨_, rfl, _, rfl, v1, d1, sg, rfl, dp_same s1 _ _ hd1, o1, fun H2 s2 => ?_⟩
    have s12 := s1.trans s2
    cases hrw : pairsD sg d1 with
    | false =>
      refine ⟨_, rfl, iteB rfl ?_⟩
      exact ⟨by decide, raise_read (out _ H2 (due_pairs hsg hrw) s12)⟩
    | true =>
    have hsq : isSeqD d1 = true := by
      cases hq : isSeqD d1 with
      | true => rfl
      | false => unfold pairsD at hrw; rw [items_no hq] at hrw; cases hrw
    obtain ⟨b, ds, rfl⟩ := isSeq_of hsq
    obtain ⟨p, xs, rfl, hq, hxs⟩ := dp_seq (dp_same s12 _ _ hd1)
    have hl := dpa_len hxs
    refine ⟨_, rfl, iteN rfl ?_⟩
    have hdue := due_none hsg hrw
    have hall : (ds.map (pairD sg)).all id = true := by unfold pairsD at hrw; rw [items_seq, Bool.and_eq_true] at hrw; exact hrw.1
    obtain ⟨ps, rfl, hps⟩ := pairs_form hall
    have ha2 := s12 _ _ ha
    refine ⟨_, rfl, _, rfl, a, C, dx, [], rfl, ha2, CH.cl, CH.nS, (by show 0 < 1000; decide), ?_⟩
    have fin : ∀ (l : Addr) (H3 : Hp), (∀ c o, c ≠ a → H2 c = some o → H3 c = some o) → H3 a = some (.ins C dx (ruF sg l)) → Dp K H3 (.ref l) (psD ps) → Q .non H3 := fun l H3 hk h1 h2 => kg sg ps hdue rfl hsg (items_seq b _) hps H3 (fun c o n e => hk c o n (s12 _ _ e)) ⟨dx, l, h1, h2⟩
    cases b with
    | true =>
      refine ⟨_, rfl, p, _, rfl, .inl ⟨seqL_put _ hq ha2, fun l hl => ?_⟩⟩
      have hl2 : H2 l = none := by
        by_cases e : l = a
        · rw [e, upd_same] at hl; cases hl
        · rw [upd_ne e] at hl; exact hl
      have nal : a ≠ l := ne_of_none ha2 hl2
      refine ⟨_, rfl, a, C, dx, _, rfl, (by rw [upd_ne nal, upd_same]), CH.cl, CH.nP, (by show 1 < 1000; decide), ?_⟩
      rw [ruF_put]
      have h5 := dpa_put (.ins C dx (putF "signs" (.str (S sg)) [])) ha2 _ _ hxs
      have h6 := dpa_same (sm_new (o := .tup xs) hl) _ _ h5
      refine fin l _ (fun c o n e => ?_) upd_same (.tup (SqT.of (by rw [upd_ne nal.symm, upd_same])) (dpa_put _ (show (upd (upd H2 a (.ins C dx (putF "signs" (.str (S sg)) []))) l (.tup xs)) a = some (.ins C dx (putF "signs" (.str (S sg)) [])) by rw [upd_ne nal, upd_same]) _ _ h6))
      rw [upd_ne n, upd_ne (ne_of_none e hl2), upd_ne n]
      exact e
    | false =>
      refine ⟨_, rfl, p, _, rfl, .inr ⟨seqT_put _ hq ha2, ?_⟩⟩
      refine ⟨_, rfl, a, C, dx, _, rfl, upd_same, CH.cl, CH.nP, (by show 1 < 1000; decide), ?_⟩
      rw [ruF_put]
      refine fin p _ (fun c o n e => ?_) upd_same (dp_put _ upd_same _ _ (dp_put _ ha2 _ _ (.tup hq hxs)))
      rw [upd_ne n, upd_ne n]
      exact e
theorem ok_makeR {C CI : Addr} (T : BT mg) (CH : CC K C) (c_InvalidRules : RaiX P w K mg base 1 "InvalidRules" CI (spXInit CI "word")) (c_issigns : Cal P w K mg base 3 "is_signs" (spIsSignsD K) []) (c_ispairs : Cal P w K mg base 3 "_is_pairs" (spPairs K) []) {f : Addr} (M : Mk K C f) (hm : mg "Rules" = some (.ref C)) {fd : FuncData} (F : C8.Fun K "__init__" "Rules.__init__" s_init f fd) (b : Binds K fd ["self", "signs", "pairs"] []) : MakX P w K mg base 4 "Rules" C (spInitR K C CI) :=
  ⟨f, fd, _, M, ok_initR T CH c_InvalidRules c_issigns c_ispairs F, hm, b⟩
end
end Toy
set_option autoImplicit false
namespace K60
abbrev Tx := List Nat
abbrev Ps := List (Tx × Tx)
abbrev Mv := Nat × Nat
def Ord (a b : Tx) : Prop := a.length < b.length ∨ (a.length = b.length ∧ a < b)
def hit (ps : Ps) (r : Tx) (p n : Nat) : Bool := decide ((r.drop p).take (ps.getD n ([], [])).1.length = (ps.getD n ([], [])).1)
def movesAt (ps : Ps) (r : Tx) (p : Nat) : List Nat := (List.range ps.length).filter fun n => hit ps r p n
def movesL (ps : Ps) (r : Tx) : List Mv := (List.range r.length).flatMap fun p => (movesAt ps r p).map fun n => (p, n)
def afterL (ps : Ps) (r : Tx) (m : Mv) : Tx := r.take m.1 ++ (ps.getD m.2 ([], [])).2 ++ r.drop (m.1 + (ps.getD m.2 ([], [])).1.length)
theorem mem_moves {ps : Ps} {r : Tx} {m : Mv} : m ∈ movesL ps r ↔ m.1 < r.length ∧ m.2 < ps.length ∧ hit ps r m.1 m.2 = true := by
  unfold movesL movesAt
  simp only [List.mem_flatMap, List.mem_range, List.mem_map, List.mem_filter]
  constructor
  · rintro ⟨p, hp, n, ⟨hn, hh⟩, rfl⟩
    exact ⟨hp, hn, hh⟩
  · rintro ⟨h1, h2, h3⟩
    exact ⟨m.1, h1, m.2, ⟨h2, h3⟩, rfl⟩
inductive Road (ps : Ps) : Tx → List Mv → Tx → Prop
  | stop {r : Tx} : movesL ps r = [] → Road ps r [] r
  | go {r e : Tx} {m : Mv} {t ms : List Mv} : movesL ps r = m :: t → Road ps (afterL ps r m) ms e → Road ps r (m :: ms) e
theorem Road.uniq {ps : Ps} {r e : Tx} {ms : List Mv} (h : Road ps r ms e) : ∀ {ms' : List Mv} {e' : Tx}, Road ps r ms' e' → ms = ms' ∧ e = e' := by
  induction h with
  | stop h0 =>
    intro ms' e' h'
    cases h' with
    | stop _ => exact ⟨rfl, rfl⟩
    | go h1 _ => rw [h0] at h1; cases h1
  | go h0 _ ih =>
    intro ms' e' h'
    cases h' with
    | stop h1 => rw [h0] at h1; cases h1
    | go h1 h2 =>
      rw [h0] at h1
      cases h1
      obtain ⟨a, b⟩ := ih h2
      exact ⟨by rw [a], b⟩
theorem Road.done {ps : Ps} {r e : Tx} {ms : List Mv} (h : Road ps r ms e) : movesL ps e = [] := by
  induction h with
  | stop h => exact h
  | go _ _ ih => exact ih
def Gone (ps : Ps) (r0 : Tx) (acc : List Mv) (r : Tx) : Prop := ∀ ms e, Road ps r ms e → Road ps r0 (acc ++ ms) e
theorem Gone.init (ps : Ps) (r : Tx) : Gone ps r [] r := fun _ _ h => h
theorem Gone.next {ps : Ps} {r0 r : Tx} {acc : List Mv} {m : Mv} {t : List Mv} (h : Gone ps r0 acc r) (hm : movesL ps r = m :: t) : Gone ps r0 (acc ++ [m]) (afterL ps r m) := fun ms e hr => by
  have := h (m :: ms) e (.go hm hr)
  rw [List.append_assoc]; exact this
theorem Gone.all {ps : Ps} {r0 r : Tx} {acc : List Mv} (h : Gone ps r0 acc r) (h0 : movesL ps r = []) : Road ps r0 acc r := by
  have := h [] r (.stop h0)
  rw [List.append_nil] at this; exact this
def rk (sg : Tx) (r : Tx) : Nat := r.foldl (fun n c => n * 4 + (sg.idxOf c + 1)) 0
theorem rk_from (sg : Tx) : ∀ (r : Tx) (n : Nat), r.foldl (fun n c => n * 4 + (sg.idxOf c + 1)) n = n * 4 ^ r.length + rk sg r
  | [], n => by simp [rk]
  | c :: r, n => by
    have h1 := rk_from sg r (n * 4 + (sg.idxOf c + 1))
    have h2 := rk_from sg r (0 * 4 + (sg.idxOf c + 1))
    show r.foldl _ (n * 4 + (sg.idxOf c + 1)) = n * 4 ^ (r.length + 1) + r.foldl _ (0 * 4 + (sg.idxOf c + 1))
    rw [h1, h2, Nat.pow_succ, Nat.zero_mul, Nat.zero_add, Nat.add_mul, Nat.mul_assoc, Nat.mul_comm 4]
    omega
theorem rk_cons (sg : Tx) (c : Nat) (r : Tx) : rk sg (c :: r) = (sg.idxOf c + 1) * 4 ^ r.length + rk sg r := by
  show r.foldl _ (0 * 4 + (sg.idxOf c + 1)) = _
  rw [rk_from, Nat.zero_mul, Nat.zero_add]
theorem rk_lt {sg : Tx} (h3 : sg.length ≤ 3) : ∀ {r : Tx}, (∀ c ∈ r, c ∈ sg) → rk sg r < 4 ^ r.length
  | [], _ => by simp [rk]
  | c :: r, h => by
    have ih := rk_lt h3 (r := r) fun d hd => h d (List.mem_cons_of_mem _ hd)
    have hc := List.idxOf_lt_length_of_mem (h c List.mem_cons_self)
    rw [rk_cons, List.length_cons, Nat.pow_succ]
    have : (sg.idxOf c + 1) * 4 ^ r.length ≤ 3 * 4 ^ r.length := Nat.mul_le_mul_right _ (by omega)
    omega
theorem rk_ge {sg : Tx} : ∀ {r : Tx}, r ≠ [] → 4 ^ (r.length - 1) ≤ rk sg r
  | [], h => absurd rfl h
  | c :: r, _ => by
    rw [rk_cons, List.length_cons, Nat.add_sub_cancel]
    have : 1 * 4 ^ r.length ≤ (sg.idxOf c + 1) * 4 ^ r.length := Nat.mul_le_mul_right _ (by omega)
    omega
theorem idx_mono {sg : Tx} (hs : sg.Pairwise (· < ·)) {c d : Nat} (hc : c ∈ sg) (hd : d ∈ sg) (h : c < d) : sg.idxOf c < sg.idxOf d := by
  have h1 := List.idxOf_lt_length_of_mem hc
  have h2 := List.idxOf_lt_length_of_mem hd
  rcases Nat.lt_trichotomy (sg.idxOf c) (sg.idxOf d) with h' | h' | h'
  · exact h'
  · have e1 : sg[sg.idxOf c] = c := List.getElem_idxOf h1
    have e2 : sg[sg.idxOf d] = d := List.getElem_idxOf h2
    have : c = d := by
      rw [← e1, ← e2]
      congr 1
    omega
  · have := List.pairwise_iff_getElem.mp hs _ _ h2 h1 h'
    rw [List.getElem_idxOf h1, List.getElem_idxOf h2] at this
    omega
theorem rk_same {sg : Tx} (h3 : sg.length ≤ 3) (hs : sg.Pairwise (· < ·)) : ∀ {a b : Tx}, (∀ c ∈ a, c ∈ sg) → (∀ c ∈ b, c ∈ sg) → a.length = b.length → a < b → rk sg a < rk sg b
  | [], [], _, _, _, h => absurd h (by simp)
  | [], _ :: _, _, _, hl, _ => by simp at hl
  | _ :: _, [], _, _, hl, _ => by simp at hl
  | c :: a, d :: b, ha, hb, hl, h => by
    have hl' : a.length = b.length := by simpa using hl
    have la := rk_lt h3 (r := a) fun x hx => ha x (List.mem_cons_of_mem _ hx)
    rw [rk_cons, rk_cons]
    rcases List.cons_lt_cons_iff.mp h with h1 | ⟨h1, h2⟩
    · have hi := idx_mono hs (ha c List.mem_cons_self) (hb d List.mem_cons_self) h1
      have : (sg.idxOf c + 1 + 1) * 4 ^ b.length ≤ (sg.idxOf d + 1) * 4 ^ b.length := Nat.mul_le_mul_right _ (by omega)
      rw [Nat.add_mul (sg.idxOf c + 1) 1, Nat.one_mul] at this
      rw [hl'] at la ⊢
      omega
    · have := rk_same h3 hs (fun x hx => ha x (List.mem_cons_of_mem _ hx)) (fun x hx => hb x (List.mem_cons_of_mem _ hx)) hl' h2
      rw [h1, hl']
      omega
theorem rk_ord {sg : Tx} (h3 : sg.length ≤ 3) (hs : sg.Pairwise (· < ·)) {a b : Tx} (ha : ∀ c ∈ a, c ∈ sg) (hb : ∀ c ∈ b, c ∈ sg) (h : Ord a b) : rk sg a < rk sg b := by
  rcases h with h | ⟨h1, h2⟩
  · have l := rk_lt h3 ha
    have hn : b ≠ [] := fun e => by rw [e] at h; simp at h
    have g := rk_ge (sg := sg) hn
    have : 4 ^ a.length ≤ 4 ^ (b.length - 1) := Nat.pow_le_pow_right (by decide) (by omega)
    omega
  · exact rk_same h3 hs ha hb h1 h2
def Down (sg : Tx) (ps : Ps) : Prop := ∀ p ∈ ps, (∀ c ∈ p.1, c ∈ sg) ∧ (∀ c ∈ p.2, c ∈ sg) ∧ Ord p.2 p.1
theorem pre_lt : ∀ {p a b : Tx}, a < b → p ++ a < p ++ b
  | [], _, _, h => h
  | c :: p, _, _, h => List.cons_lt_cons_iff.mpr (.inr ⟨rfl, pre_lt h⟩)
theorem suf_lt : ∀ {a b x y : Tx}, a < b → a.length = b.length → a ++ x < b ++ y
  | [], [], _, _, h, _ => absurd h (by simp)
  | [], _ :: _, _, _, _, hl => by simp at hl
  | _ :: _, [], _, _, _, hl => by simp at hl
  | c :: a, d :: b, _, _, h, hl => by
    rcases List.cons_lt_cons_iff.mp h with h1 | ⟨h1, h2⟩
    · exact List.cons_lt_cons_iff.mpr (.inl h1)
    · exact List.cons_lt_cons_iff.mpr (.inr ⟨h1, suf_lt h2 (by simpa using hl)⟩)
theorem hit_form {ps : Ps} {r : Tx} {p n : Nat} (h : hit ps r p n = true) : r = r.take p ++ (ps.getD n ([], [])).1 ++ r.drop (p + (ps.getD n ([], [])).1.length) := by
  have h := of_decide_eq_true h
  conv => lhs; rw [← List.take_append_drop p r, ← List.take_append_drop (ps.getD n ([], [])).1.length (r.drop p), h, List.drop_drop]
  rw [List.append_assoc]
theorem after_ord {sg : Tx} {ps : Ps} (hd : Down sg ps) {r : Tx} {m : Mv} (hm : m ∈ movesL ps r) : Ord (afterL ps r m) r := by
  obtain ⟨h1, h2, h3⟩ := mem_moves.mp hm
  have hf := hit_form h3
  have hq : ps.getD m.2 ([], []) ∈ ps := by
    rw [List.getD_eq_getElem?_getD, List.getElem?_eq_getElem h2]; exact List.getElem_mem h2
  obtain ⟨_, _, ho⟩ := hd _ hq
  unfold afterL
  generalize ps.getD m.2 ([], []) = q at hf ho ⊢
  generalize r.drop (m.1 + q.1.length) = y at hf ⊢
  generalize r.take m.1 = x at hf ⊢
  subst hf
  rcases ho with ho | ⟨ho, hl⟩
  · exact .inl (by simp only [List.length_append]; omega)
  · refine .inr ⟨by simp only [List.length_append]; omega, ?_⟩
    rw [List.append_assoc, List.append_assoc]
    exact pre_lt (suf_lt hl ho)
theorem after_ov {sg : Tx} {ps : Ps} (hd : Down sg ps) {r : Tx} {m : Mv} (hr : ∀ c ∈ r, c ∈ sg) (h2 : m.2 < ps.length) : ∀ c ∈ afterL ps r m, c ∈ sg := fun c hc => by
  have hq : ps.getD m.2 ([], []) ∈ ps := by
    rw [List.getD_eq_getElem?_getD, List.getElem?_eq_getElem h2]; exact List.getElem_mem h2
  unfold afterL at hc
  rcases List.mem_append.mp hc with hc | hc
  · rcases List.mem_append.mp hc with hc | hc
    · exact hr c (List.mem_of_mem_take hc)
    · exact (hd _ hq).2.1 c hc
  · exact hr c (List.mem_of_mem_drop hc)
def Clean (ps : Ps) (r : Tx) (b : Nat) : Prop := ∀ p n, p < b → p < r.length → n < ps.length → hit ps r p n = false
theorem first_clean {ps : Ps} {r : Tx} {m : Mv} {t : List Mv} (h : movesL ps r = m :: t) : Clean ps r m.1 := fun p n hp hr hn => by
  cases e : hit ps r p n with
  | false => rfl
  | true =>
    exfalso
    have hs : (movesL ps r).Pairwise fun a b => a.1 ≤ b.1 := by
      unfold movesL
      rw [List.pairwise_flatMap]
      refine ⟨fun p _ => ?_, ?_⟩
      · rw [List.pairwise_map]
        exact List.Pairwise.imp (fun _ => Nat.le_refl _) (List.pairwise_of_forall (R := fun _ _ => True) fun _ _ => trivial)
      · refine List.Pairwise.imp (fun {a b} hab x hx y hy => ?_) (List.pairwise_lt_range)
        obtain ⟨_, _, rfl⟩ := List.mem_map.mp hx
        obtain ⟨_, _, rfl⟩ := List.mem_map.mp hy
        exact Nat.le_of_lt hab
    have hm : (p, n) ∈ movesL ps r := mem_moves.mpr ⟨hr, hn, e⟩
    rw [h] at hm hs
    rcases List.mem_cons.mp hm with e | hm
    · rw [← e] at hp; exact Nat.lt_irrefl _ hp
    · have := (List.pairwise_cons.mp hs).1 _ hm
      have : m.1 ≤ p := this
      omega
theorem hit_far {ps : Ps} {x y z : Tx} {p n : Nat} (h : p + (ps.getD n ([], [])).1.length ≤ x.length) : hit ps (x ++ y) p n = hit ps (x ++ z) p n := by
  unfold hit
  have e : ∀ w : Tx, ((x ++ w).drop p).take (ps.getD n ([], [])).1.length = (x.drop p).take (ps.getD n ([], [])).1.length := fun w => by
    rw [List.drop_append_of_le_length (by omega), List.take_append_of_le_length (by rw [List.length_drop]; omega)]
  rw [e, e]
theorem after_clean {ps : Ps} {r : Tx} {m : Mv} {L : Nat} (hL1 : 1 ≤ L) (hL : ∀ p ∈ ps, p.1.length ≤ L) (h2 : m.2 < ps.length) (h3 : hit ps r m.1 m.2 = true) (h1 : m.1 < r.length) (hc : Clean ps r m.1) : Clean ps (afterL ps r m) (m.1 + 1 - L) := fun p n hp hr hn => by
  have hq : ps.getD n ([], []) ∈ ps := by
    rw [List.getD_eq_getElem?_getD, List.getElem?_eq_getElem hn]; exact List.getElem_mem hn
  have hl := hL _ hq
  have ht : (r.take m.1).length = m.1 := by rw [List.length_take]; omega
  have key : hit ps (afterL ps r m) p n = hit ps r p n := by
    unfold afterL
    conv => rhs; rw [← List.take_append_drop m.1 r]
    rw [List.append_assoc]
    exact hit_far (by omega)
  rw [key]
  exact hc p n (by omega) (by omega) hn
theorem moves_from {ps : Ps} {r : Tx} {b : Nat} (hc : Clean ps r b) : movesL ps r = (List.range' b (r.length - b)).flatMap fun p => (movesAt ps r p).map fun n => (p, n) := by
  by_cases hb : b ≤ r.length
  · unfold movesL
    have e : List.range r.length = List.range b ++ List.range' b (r.length - b) := by
      have h := @List.range'_append_1 0 b (r.length - b)
      rw [Nat.zero_add, Nat.add_sub_cancel' hb] at h
      rw [List.range_eq_range', List.range_eq_range', h]
    rw [e, List.flatMap_append]
    have z : (List.range b).flatMap (fun p => (movesAt ps r p).map fun n => (p, n)) = [] := by
      rw [List.flatMap_eq_nil_iff]
      intro p hp
      rw [List.mem_range] at hp
      have : movesAt ps r p = [] := by
        unfold movesAt
        rw [List.filter_eq_nil_iff]
        intro n hn
        rw [hc p n hp (by omega) (List.mem_range.mp hn)]; decide
      rw [this]; rfl
    rw [z, List.nil_append]
  · have : r.length - b = 0 := by omega
    rw [this]
    show movesL ps r = []
    refine List.eq_nil_iff_forall_not_mem.mpr fun m hm => ?_
    obtain ⟨h1, h2, h3⟩ := mem_moves.mp hm
    rw [hc m.1 m.2 (by omega) h1 h2] at h3; cases h3
end K60
set_option maxHeartbeats 2000000
namespace Toy
open PySem L2 C8 SX LX
local macro_rules | `(tactic| walk_at "c") => `(tactic| refine And.intro (by first | (show (0 : Int) < _; omega) | exact Or.inr ⟨by decide, by decide⟩ | exact Or.inl ⟨by decide, by decide⟩ | (exact ⟨by omega, by omega⟩)) ?_)
local macro_rules | `(tactic| walk_at "s1") => `(tactic| first | refine ⟨_, rfl, ?_⟩ | refine ⟨_, _, rfl, rfl, ?_⟩ | refine .inl ⟨_, rfl, ?_⟩ | walk_at "c")
local macro_rules | `(tactic| walk_at "ix") => `(tactic| refine ⟨_, _, _, _, rfl, rfl, SqL.of (by first | assumption | exact upd_same), rfl, ?_⟩)
local macro_rules | `(tactic| walk_at "s") => `(tactic| repeat (walk_at "s1"))
theorem prD_eq (p : List Nat × List Nat) : prD p = tD [p.1, p.2] := rfl
theorem psD_eq (ps : Ps) : psD ps = ttD (ps.map fun p => [p.1, p.2]) := by
  unfold psD ttD
  rw [List.map_map]; rfl
theorem two_inj : ∀ {a b : Ps}, a.map (fun p => [p.1, p.2]) = b.map (fun p => [p.1, p.2]) → a = b
  | [], [], _ => rfl
  | [], _ :: _, h => by cases h
  | _ :: _, [], h => by cases h
  | x :: xs, y :: ys, h => by
    simp only [List.map_cons, List.cons.injEq, and_true] at h
    rw [two_inj h.2, Prod.ext h.1.1 h.1.2]
theorem eqv_ps (a b : Ps) : PyData.eqv (psD a) (psD b) = decide (a = b) := by
  rw [psD_eq, psD_eq, eqv_tt]
  exact decide_eq_decide.mpr ⟨two_inj, fun h => by rw [h]⟩
def SmallP (ps : Ps) : Prop := ∀ p ∈ ps, (∀ c ∈ p.1, c < 1114112) ∧ ∀ c ∈ p.2, c < 1114112
theorem lay_pr : ∀ {ps : Ps}, SmallP ps → PyData.canLayAll0 (ps.map prD) = true ∧ PyData.depthAll (ps.map prD) ≤ 4
  | [], _ => ⟨rfl, Nat.zero_le _⟩
  | p :: ps, h => by
    obtain ⟨h1, h2⟩ := lay_pr (ps := ps) fun q hq => h q (List.mem_cons_of_mem _ hq)
    have hp := h p List.mem_cons_self
    obtain ⟨g1, g2⟩ := lay_strs (xs := [p.1, p.2]) (fun l hl => by
      rcases List.mem_cons.mp hl with rfl | hl
      · exact hp.1
      · rw [List.mem_singleton.mp hl]; exact hp.2)
    refine ⟨?_, ?_⟩
    · show (PyData.canLay0 (prD p) && PyData.canLayAll0 (ps.map prD)) = true
      rw [h1, Bool.and_true]
      exact g1
    · show max (PyData.depth (prD p)) (PyData.depthAll (ps.map prD)) ≤ 4
      have : PyData.depth (prD p) ≤ 4 := by
        show PyData.depthAll _ + 1 ≤ 4
        have g2' : PyData.depthAll [PyData.str (S p.1), PyData.str (S p.2)] ≤ 1 := g2
        omega
      omega
theorem shaped_ps {ps : Ps} (h : SmallP ps) : SeqAt.shaped (psD ps) = true := by
  obtain ⟨h1, h2⟩ := lay_pr h
  show (PyData.canLayAll0 _ && decide (PyData.depthAll _ + 1 ≤ 64)) = true
  rw [h1, Bool.true_and, decide_eq_true_eq]; omega
section
variable {P : Program} {w : World} {K : PySem.W.Frag} {mg : Str → Option Value} {base : Heap}
abbrev s_eq : Stmt := inClass (top 19) 6
abbrev n_eq : List Str := ["self", "other"]
theorem sc_eq : FnScope n_eq ["self", "other"] (fnScope s_eq) := fnScope_by (by decide +kernel)
def spEqR (K : PySem.W.Frag) (C : Addr) : Sp := fun vs H Q _ => ∃ (a : Addr) (y : V) (sg : List Nat) (ps : Ps), vs = [.ref a, y] ∧ Rul K C H a sg ps ∧ SmallP ps ∧
  ((∃ (b : Addr) (sg2 : List Nat) (qs : Ps), y = .ref b ∧ Rul K C H b sg2 qs ∧ SmallP qs ∧ Q (.bl (decide (sg = sg2 ∧ ps = qs))) H) ∨ (∃ t : Value, TyX K H y t ∧ PySem.W.kitOne K t (.ref C) = some false ∧ Q (.bl false) H))
theorem ok_eq {C : Addr} (T : BT mg) (CH : CC K C) (insC : InsC K C) (mgC : mg "Rules" = some (.ref C)) {f : Addr} {fd : FuncData} (me : Meth K C "__eq__" f) (F : C8.Fun K "__eq__" "Rules.__eq__" s_eq f fd) (b : Binds K fd ["self", "other"] []) : Met P w K mg base 1 C "__eq__" (spEqR K C) [] := by
  refine met0 CH.cl me F b sc_eq (fun vs H Q E h => ?_) (fun cdv A outer s H vs Q E hr h => ?_)
  · obtain ⟨a, y, sg, ps, rfl, _⟩ := h; rfl
  · obtain ⟨a, y, sg, ps, rfl, ⟨dx, r, ha, hrr⟩, hs, h⟩ := h
    refine ⟨_, (pss_one (ps_ret (pe_and (pe_callB (isiK K) (by rfl) T.m_isinstance PyProof.Rows.boot_isinstance (pa_cons (pv 1) (pa_cons (pe_glob (v := .ref C) (by rfl) mgC rfl) pa_nil))) (pe_and (pe_cmpR op_eq (fldK K (pv 0) rfl) (fldK K (pv 1) rfl) (nomark _)) (pe_one (pe_cmpR (op_eqDK K hr) (fldK K (pv 0) rfl) (fldK K (pv 1) rfl) (nomark _))))))
      ), ?_⟩
    rcases h with ⟨b, sg2, qs, rfl, ⟨dy, t, hb, htt⟩, hs2, q⟩ | ⟨t, ty, hk, q⟩
    · refine ⟨_, rfl, _, _, _, _, true, rfl, .own C, .base (.ins hb insC.cl insC.ha insC.hn insC.htk insC.hm), insC.me, true, rfl, iteT ?_⟩
      refine ⟨_, rfl, a, C, dx, _, _, rfl, ha, CH.cl, CH.nS, ruF_signs _ _, _, rfl, b, C, dy, _, _, rfl, hb, CH.cl, CH.nS, ruF_signs _ _, ?_⟩
      refine ⟨rfl, _, rfl, ?_⟩
      by_cases es : sg = sg2
      · subst es
        refine iteB (decide_eq_true rfl) ?_
        refine ⟨_, rfl, a, C, dx, _, _, rfl, ha, CH.cl, CH.nP, ruF_pairs _ _, _, rfl, b, C, dy, _, _, rfl, hb, CH.cl, CH.nP, ruF_pairs _ _, ?_⟩
        refine ⟨_, _, hrr, htt, shaped_ps hs, shaped_ps hs2, ?_⟩
        rw [eqv_ps]
        have e : decide (sg = sg ∧ ps = qs) = decide (ps = qs) := decide_eq_decide.mpr ⟨fun h => h.2, fun h => ⟨rfl, h⟩⟩
        rw [e] at q
        exact q
      · refine iteN (decide_eq_false fun h => es (by simpa [S] using V.str.inj h)) ?_
        have e : decide (sg = sg2 ∧ ps = qs) = false := decide_eq_false fun h => es h.1
        rw [e] at q
        exact q
    · exact ⟨_, rfl, _, _, _, _, false, rfl, .own C, ty, hk, false, rfl, iteN rfl q⟩
end
end Toy
set_option maxHeartbeats 4000000
namespace LX
open PySem PySem.Spec PyProof.Rows L2 C8 SX
theorem yesT {p q : Hp → Prop} {σ : L2.St} {H : Hp} (h : p H) : tYes σ H fun b H3 => if b = true then p H3 else q H3 := h
theorem li_it {J1 : It} {n : Nat} {G : Hp → Prop} {Y : Nat → Hp → V → Hp → Prop} (w : Walk J1 n G Y) {g1 : TG} {tt1 : TT} {te : TE} {vs1 : List Nat} {σ2 : L2.St} {H4 : Hp} {D : Addr} {Nx : Hp → Prop} (Pv : Nat → Hp → Prop) (h0 : Pv 0 H4) (hG : ∀ i H, i ≤ n → Pv i H → G H)
    (hs : ∀ j x H H', j < n → Pv j H → Y j H x H' → g1 x (wipe σ2 vs1) H' fun σ3 H5 => wipe σ3 vs1 = wipe σ2 vs1 ∧ tt1 σ3 H5 fun b H6 => if b = true then te σ3 H6 fun y H7 => ∃ acc, H7 D = some (.lst acc) ∧ acc.length < sizeLine ∧ Pv (j + 1) (upd H7 D (.lst (acc ++ [y]))) else Pv (j + 1) H6)
    (hd : ∀ H, Pv n H → Nx H) :
    ∃ W1 : Nat → Nat → Hp → Prop, (∃ m, W1 0 m H4) ∧ ∀ j k H, W1 j k H →
      (J1.stop j H ∧ Nx H) ∨ (J1.go j H ∧ ∃ Nx1 : Hp → Prop, (∀ H', Nx1 H' → ∃ k', k' < k ∧ W1 (j + 1) k' H') ∧ ∀ x H', J1.yld j H x H' → g1 x (wipe σ2 vs1) H' fun σ3 H5 => wipe σ3 vs1 = wipe σ2 vs1 ∧ tt1 σ3 H5 fun b H6 =>
        if b = true then te σ3 H6 fun y H7 => ∃ acc, H7 D = some (.lst acc) ∧ acc.length < sizeLine ∧ Nx1 (upd H7 D (.lst (acc ++ [y]))) else Nx1 H6) := by
  refine ⟨fun i m H => m = n - i ∧ i ≤ n ∧ Pv i H, ⟨n, by simp, Nat.zero_le _, h0⟩, ?_⟩
  rintro i m H ⟨rfl, hi, p⟩
  have q := hG i H hi p
  by_cases hlt : i < n
  · exact .inr ⟨w.goes i H hlt q, Pv (i + 1), fun H' p' => ⟨n - (i + 1), by omega, rfl, hlt, p'⟩, fun x H' y => hs i x H H' hlt p (w.yields i H x H' hlt q y)⟩
  · have e : i = n := by omega
    subst e
    exact .inl ⟨w.stops H q, hd H p⟩
theorem lc2_it {J : It} {n : Nat} {G : Hp → Prop} {Y : Nat → Hp → V → Hp → Prop} (w : Walk J n G Y) {g : TG} {tt : TT} {wi1 : TI} {g1 : TG} {tt1 : TT} {te : TE} {vs vs1 : List Nat} {σ : L2.St} {H1 : Hp} {D : Addr} {Qd : Hp → Prop} (Pv : Nat → Hp → Prop) (h0 : Pv 0 (upd H1 D (.lst []))) (hG : ∀ i H, i ≤ n → Pv i H → G H)
    (hs : ∀ i x H H', i < n → Pv i H → Y i H x H' → g x (wipe σ vs) H' fun σ2 H2 => wipe σ2 vs = wipe σ vs ∧ tt σ2 H2 fun b H3 =>
      if b = true then wi1 σ2 H3 fun J1 H4 => ∃ W1 : Nat → Nat → Hp → Prop, (∃ m, W1 0 m H4) ∧ ∀ j k H, W1 j k H →
        (J1.stop j H ∧ Pv (i + 1) H) ∨ (J1.go j H ∧ ∃ Nx1 : Hp → Prop, (∀ H', Nx1 H' → ∃ k', k' < k ∧ W1 (j + 1) k' H') ∧ ∀ x H', J1.yld j H x H' → g1 x (wipe σ2 vs1) H' fun σ3 H5 => wipe σ3 vs1 = wipe σ2 vs1 ∧ tt1 σ3 H5 fun b H6 =>
          if b = true then te σ3 H6 fun y H7 => ∃ acc, H7 D = some (.lst acc) ∧ acc.length < sizeLine ∧ Nx1 (upd H7 D (.lst (acc ++ [y]))) else Nx1 H6)
      else Pv (i + 1) H3) (hd : ∀ H, Pv n H → Qd H) :
    ∃ W : Nat → Nat → Hp → Prop, (∃ m, W 0 m (upd H1 D (.lst []))) ∧ ∀ i m H, W i m H →
      (J.stop i H ∧ Qd H) ∨ (J.go i H ∧ ∃ Nx : Hp → Prop, (∀ H', Nx H' → ∃ m', m' < m ∧ W (i + 1) m' H') ∧ ∀ x H', J.yld i H x H' → g x (wipe σ vs) H' fun σ2 H2 => wipe σ2 vs = wipe σ vs ∧ tt σ2 H2 fun b H3 =>
        if b = true then wi1 σ2 H3 fun J1 H4 => ∃ W1 : Nat → Nat → Hp → Prop, (∃ m, W1 0 m H4) ∧ ∀ j k H, W1 j k H →
          (J1.stop j H ∧ Nx H) ∨ (J1.go j H ∧ ∃ Nx1 : Hp → Prop, (∀ H', Nx1 H' → ∃ k', k' < k ∧ W1 (j + 1) k' H') ∧ ∀ x H', J1.yld j H x H' → g1 x (wipe σ2 vs1) H' fun σ3 H5 => wipe σ3 vs1 = wipe σ2 vs1 ∧ tt1 σ3 H5 fun b H6 =>
            if b = true then te σ3 H6 fun y H7 => ∃ acc, H7 D = some (.lst acc) ∧ acc.length < sizeLine ∧ Nx1 (upd H7 D (.lst (acc ++ [y]))) else Nx1 H6)
        else Nx H3) := by
  refine ⟨fun i m H => m = n - i ∧ i ≤ n ∧ Pv i H, ⟨n, by simp, Nat.zero_le _, h0⟩, ?_⟩
  rintro i m H ⟨rfl, hi, p⟩
  have q := hG i H hi p
  by_cases hlt : i < n
  · exact .inr ⟨w.goes i H hlt q, Pv (i + 1), fun H' p' => ⟨n - (i + 1), by omega, rfl, hlt, p'⟩, fun x H' y => hs i x H H' hlt p (w.yields i H x H' hlt q y)⟩
  · have e : i = n := by omega
    subst e
    exact .inl ⟨w.stops H q, hd H p⟩
end LX
set_option maxHeartbeats 2000000
namespace LX
open PySem PySem.Spec PyProof.Rows L2 C8 SX
theorem starts_pre (r b : List Nat) : Txt.startswith (S r) (S b) = decide (r.take b.length = b) := by
  unfold Txt.startswith
  rw [PySem.StrLaws.subAt_eq]
  have e1 : (S r).cps.toList = r := by simp [S]
  have e2 : (S b).cps.toList = b := by simp [S]
  rw [e1, e2, S_len, S_len, List.drop_zero]
  by_cases h : r.take b.length = b
  · have hl := congrArg List.length h
    rw [List.length_take] at hl
    rw [h, beq_self_eq_true, Bool.and_true, decide_eq_true (p := (0 + b.length ≤ r.length)) (by omega)]
    simp
  · have : (r.take b.length == b) = false := by simpa using h
    rw [this, Bool.and_false, decide_eq_false h]
theorem cutb_from (r b : List Nat) : Txt.slice (S r) (some ((S b).length : Int)) none = S (r.drop b.length) := by
  rw [slice_from (by omega), S_len]; rfl
theorem cutb_to (r b : List Nat) : Txt.slice (S r) none (some ((S b).length : Int)) = S (r.take b.length) := by
  rw [slice_to (by omega), S_len]; rfl
theorem S_iff {a b : List Nat} : V.str (S a) = V.str (S b) ↔ a = b := ⟨fun h => by simpa [S] using V.str.inj h, fun h => by rw [h]⟩
end LX
set_option maxHeartbeats 4000000
namespace LX
open PySem PySem.Spec PyProof.Rows L2 C8 SX
section
variable {X : Cx}
theorem count_flat {y : V} {u : Value} (fy : flatV y = true) (ry : RelV y u) : ∀ {ys : List V} {us : List Value}, Vals ys us → ys.all flatV = true → us.countP (eqU y) = ys.countP fun z => eqV z y
  | _, _, .nil, _ => rfl
  | z :: zs, w :: ws, .cons h r, f => by
    rw [List.all_cons, Bool.and_eq_true] at f
    rw [List.countP_cons, List.countP_cons, count_flat fy ry r f.2, eqU_of h f.1]
def rCntF (K : PySem.W.Frag) : V → List V → Hp → VK → Prop := fun x xs H Q => ∃ (a : Addr) (ys : List V) (y : V), x = .ref a ∧ xs = [y] ∧ SqL K H a ys ∧ flatV y = true ∧ ys.all flatV = true ∧ Q (.int (ys.countP fun z => eqV z y : Nat)) H
theorem mt_countF : MtR X "list.count" (rCntF X.K) := by
  intro pins s σ H x xs v us Q I rx rxs h
  obtain ⟨a, ys, y, rfl, rfl, hs, fy, fys, q⟩ := h
  cases rx
  cases rxs with
  | cons ry rt =>
    rename_i uy ut
    cases rt
    obtain ⟨its, rv, ⟨⟨cls, dd, data, sl⟩, n, ho, hc, hdn, hd⟩, hlen⟩ := I.list hs
    simp only at hc hd
    subst hc hd
    refine call_meets PySem.F.slot_list_count ⟨_, ho, rfl⟩ PySem.F.entry_list_count (PySem.F.args_list_count_2 _ _)
      (SeqAt.list_countAt a its.toArray n dd sl uy (eqU y)) ⟨ho, fun u' hu' => mem_eqAt ry fy rv fys u' (by simpa using hu'), ?_⟩
    have ec : its.toArray.toList.countP (eqU y) = ys.countP fun z => eqV z y := count_flat fy ry rv fys
    refine ⟨.int (ys.countP fun z => eqV z y : Nat), H, I.tok _, ⟨s.toks, ?_⟩, q⟩
    show Value.int ((its.toArray.toList.countP (eqU y) : Nat) : Int) s.toks = Value.int ((ys.countP fun z => eqV z y : Nat) : Int) s.toks
    rw [ec]
theorem pe_bmK {T name id : String} {r : V → List V → Hp → VK → Prop} {o e : Expr} {es : List Expr} {to : TE} {t : TA} {apos cpos : Pos} (K : PySem.W.Frag) (pa : PlainAttrs T) (slot : Slot T name id) (hty : typeOf (.builtin id) = pure (.type "method_descriptor")) (hm : MtR X id r) (ho : PE X o to) (ha : PA X (e :: es) t)
    (hK : X.K = K := by rfl) (hbase : attributeBase o name X.env (eval o X.env) = eval o X.env := by rfl)
    (hfew : ((backTo cpos (starEach (e :: es) X.env)).all (fun x => !x.1) && (backToKw cpos (keywordEach [] X.env)).all (fun x => x.1.isSome)
      && decide ((e :: es).length + ([] : List Keyword).length + (if ([] : List Keyword).isEmpty then 0 else 1) < 30)) = true := by rfl)
    (hline : (apos.endLine == cpos.line) = true := by rfl) (hs : starEach (e :: es) X.env = (false, eval e X.env) :: starEach es X.env := by rfl) (hplain : (backTo cpos (starEach es X.env)).any (·.1) = false := by rfl) :
    PE X (.Call (.Attribute o name apos) (e :: es) [] cpos) (tBM K T r to t) := by
  subst hK; exact pe_bm pa slot hty hm ho ha hbase hfew hline hs hplain
theorem mt_countFK (K : PySem.W.Frag) (h : X.K = K := by rfl) : MtR X "list.count" (rCntF K) := by subst h; exact mt_countF
theorem mt_indexFK (K : PySem.W.Frag) (h : X.K = K := by rfl) : MtR X "list.index" (rIndex K) := by subst h; exact mt_index
end
end LX
set_option maxHeartbeats 2000000
namespace Toy
open PySem L2 C8 SX LX
local macro_rules | `(tactic| walk_at "c") => `(tactic| refine And.intro (by first | (show (0 : Int) < _; omega) | exact Or.inr ⟨by decide, by decide⟩ | exact Or.inl ⟨by decide, by decide⟩ | (exact ⟨by omega, by omega⟩)) ?_)
local macro_rules | `(tactic| walk_at "s1") => `(tactic| first | refine ⟨_, rfl, ?_⟩ | refine ⟨_, _, rfl, rfl, ?_⟩ | refine .inl ⟨_, rfl, ?_⟩ | walk_at "c")
local macro_rules | `(tactic| walk_at "ix") => `(tactic| refine ⟨_, _, _, _, rfl, rfl, SqL.of (by first | assumption | exact upd_same), rfl, ?_⟩)
local macro_rules | `(tactic| walk_at "s") => `(tactic| repeat (walk_at "s1"))
theorem pr_snoc {α β : Type} {F : α → β → Prop} : ∀ {as : List α} {bs : List β} {a : α} {b : β}, Paired F as bs → F a b → Paired F (as ++ [a]) (bs ++ [b])
  | _, _, _, _, .nil, h => .cons h .nil
  | _, _, _, _, .cons h1 h2, h => .cons h1 (pr_snoc h2 h)
theorem pr_imp {α β : Type} {F G : α → β → Prop} (k : ∀ a b, F a b → G a b) : ∀ {as : List α} {bs : List β}, Paired F as bs → Paired G as bs
  | _, _, .nil => .nil
  | _, _, .cons h1 h2 => .cons (k _ _ h1) (pr_imp k h2)
def mvD (m : Nat × Nat) : PyData := .tuple [.int (m.1 : Nat), .int (m.2 : Nat)]
def mvsD (l : List (Nat × Nat)) : PyData := .tuple (l.map mvD)
def MvAt (H : Hp) (qs : List Addr) (l : List (Nat × Nat)) : Prop := Paired (fun q m => H q = some (.tup [.int (m.1 : Nat), .int (m.2 : Nat)])) qs l
theorem MvAt.same {H H' : Hp} {qs : List Addr} {l : List (Nat × Nat)} (s : Same H H') (h : MvAt H qs l) : MvAt H' qs l := pr_imp (fun _ _ e => s _ _ e) h
theorem MvAt.put {H : Hp} {D : Addr} {acc : List V} {o : HO} {qs : List Addr} {l : List (Nat × Nat)} (hD : H D = some (.lst acc)) (h : MvAt H qs l) : MvAt (upd H D o) qs l := pr_imp (fun _ _ e => by rw [upd_ne (fun z => by rw [z, hD] at e; cases e)]; exact e) h
theorem MvAt.dp {K : PySem.W.Frag} {H : Hp} : ∀ {qs : List Addr} {l : List (Nat × Nat)}, MvAt H qs l → DpAll K H (qs.map V.ref) (l.map mvD)
  | _, _, .nil => .nil
  | _, _, .cons h1 h2 => .cons (.tup (SqT.of h1) (.cons (.int _) (.cons (.int _) .nil))) (MvAt.dp h2)
theorem MvAt.len {H : Hp} : ∀ {qs : List Addr} {l : List (Nat × Nat)}, MvAt H qs l → qs.length = l.length
  | _, _, .nil => rfl
  | _, _, .cons _ h2 => by rw [List.length_cons, List.length_cons, MvAt.len h2]
theorem flat_len {α β : Type} {f : α → List β} {c : Nat} : ∀ {l : List α}, (∀ x ∈ l, (f x).length ≤ c) → (l.flatMap f).length ≤ l.length * c
  | [], _ => by simp
  | x :: l, h => by
    have h1 := h x List.mem_cons_self
    have h2 := flat_len (l := l) fun y hy => h y (List.mem_cons_of_mem _ hy)
    rw [List.flatMap_cons, List.length_append, List.length_cons, Nat.add_mul]; omega
theorem starts3 {r b : List Nat} {p : Nat} (hp : p ≤ r.length) : Txt.startswith3 (S r) (S b) (p : Nat) = decide ((r.drop p).take b.length = b) := by
  unfold Txt.startswith3
  have ef : fromIndex (S r).length (p : Nat) = p := by unfold fromIndex; rw [if_neg (by omega)]; omega
  rw [ef, PySem.StrLaws.subAt_eq]
  have e1 : (S r).cps.toList = r := by simp [S]
  have e2 : (S b).cps.toList = b := by simp [S]
  rw [e1, e2, S_len, S_len]
  by_cases h : (r.drop p).take b.length = b
  · have hl := congrArg List.length h
    rw [List.length_take, List.length_drop] at hl
    rw [h, beq_self_eq_true, Bool.and_true, decide_eq_true (p := (p + b.length ≤ r.length)) (by omega)]
    simp
  · have : ((r.drop p).take b.length == b) = false := by simpa using h
    rw [this, Bool.and_false, decide_eq_false h]
structure Gr (sg : List Nat) (ps : Ps) : Prop where
  mn : sg.length ≤ 3
  asc : sg.Pairwise (· < ·)
  sm : ∀ c ∈ sg, c < 1114112
  few : ps.length ≤ 20
  dn : Down sg ps
  short : ∀ p ∈ ps, p.1.length ≤ 40
theorem movesAt_len (ps : Ps) (r : List Nat) (p : Nat) : (K60.movesAt ps r p).length ≤ ps.length := by
  unfold K60.movesAt
  have := List.length_filter_le (fun n => K60.hit ps r p n) (List.range ps.length)
  rw [List.length_range] at this; exact this
section
variable {P : Program} {w : World} {K : PySem.W.Frag} {mg : Str → Option Value} {base : Heap}
abbrev s_moves : Stmt := inClass (top 19) 1
abbrev n_moves : List Str := ["self", "row", "place", "number", "left", "_"]
theorem sc_moves : FnScope n_moves ["self", "row"] (fnScope s_moves) := fnScope_by (by decide +kernel)
def spMoves (K : PySem.W.Frag) (C : Addr) : Sp := fun vs H Q _ => ∃ (a : Addr) (sg : List Nat) (ps : Ps) (row : List Nat), vs = [.ref a, .str (S row)] ∧ Rul K C H a sg ps ∧ Gr sg ps ∧ row.length ≤ 40 ∧
  ∀ (p : Addr) (H' : Hp), Same H H' → Dp K H' (.ref p) (mvsD (K60.movesL ps row)) → Q (.ref p) H'
theorem fn_moves {C : Addr} (T : BT mg) (CH : CC K C) {f : Addr} {fd : FuncData} (F : C8.Fun K "moves" "Rules.moves" s_moves f fd) : FnOk P w K mg base C8.CX0 1 f fd ["self", "row"] (spMoves K C) := by
  refine fn0 F sc_moves (fun vs H Q E h => ?_) (fun cdv A outer s H vs Q E hr h => ?_)
  · obtain ⟨a, sg, ps, row, rfl, _⟩ := h; rfl
  · obtain ⟨a, sg, ps, row, rfl, hc, g, hrow, k⟩ := h
    obtain ⟨dx, r, ha, hdp⟩ := id hc
    obtain ⟨_, xs, e, hq, hxs⟩ := dp_seq (b := false) hdp
    cases e
    have hq : SqT K H r xs := hq
    have hxl := dpa_len hxs
    rw [List.length_map] at hxl
    have hfew := g.few
    refine ⟨_, (pss_one (ps_ret (pe_callTy (tupleK K) (by rfl) T.m_tuple PyProof.Rows.boot_tuple (pa_cons (pe_lc2 (own := [("place", 2), ("number", 3), ("left", 4), ("_", 5)]) (vs1 := [3, 4, 5]) rfl sc_moves.nd (pi_range1 (by rfl) T.m_range (pa_cons (pe_callB call_len_str (by rfl) T.m_len PySem.boot_len (pa_cons (pv 1) pa_nil)) pa_nil)) (blkOk_by (N := n_moves) (sc := fnScope s_moves) (by decide +kernel)) (by decide) (fun _ _ _ _ _ => (pg_name (i := 2) sc_moves.nd rfl (.inl rfl))) (fun _ _ _ _ _ => pts_nil) (fun _ _ _ _ _ => (pi_enumXK K (by rfl) T.m_enumerate (pa_cons (fldK K (pv 0) rfl) pa_nil))) (fun _ _ _ _ _ => (tupK K 2 (pgs_cons (pg_name (i := 3) sc_moves.nd rfl (.inl rfl)) (pgs_cons (tupK K 2 (pgs_cons (pg_name (i := 4) sc_moves.nd rfl (.inl rfl)) (pgs_cons (pg_name (i := 5) sc_moves.nd rfl (.inl rfl)) pgs_nil))) pgs_nil)))) (fun _ _ _ _ _ => pts_one (pt_val (pe_bmK K PySem.F.plainAttrs_str PySem.F.slot_str_startswith PySem.F.type_str_startswith mt_startswith3 (pv 1) (pa_cons (pv 4) (pa_cons (pv 2) pa_nil))))) (fun _ _ _ _ _ => (pe_tup (pa_cons (pv 2) (pa_cons (pv 3) pa_nil))))) pa_nil)))
      ), ?_⟩
    refine ⟨_, rfl, S row, rfl, by rw [S_len]; exact sz hrow (by decide), ?_⟩
    rw [S_len]
    refine ⟨_, rfl, by omega, by omega, fun D hD => ?_⟩
    refine lc2_it (walk_range (lo := 0) (n := ((row.length : Nat) : Int).toNat)) (fun i H' => ∃ qs : List Addr, Same H H' ∧ H' D = some (.lst (qs.map V.ref)) ∧ MvAt H' qs ((List.range i).flatMap fun p => (K60.movesAt ps row p).map fun n => (p, n)))
      ⟨[], sm_new hD, upd_same, .nil⟩ (fun _ _ _ _ => trivial) (fun i x H2 H2' hi ⟨qs, s2, e2, m2⟩ hy => ?_) (fun H2 ⟨qs, s2, e2, m2⟩ => ?_)
    · obtain ⟨rfl, rfl⟩ := hy
      have hi' : i < row.length := by omega
      refine ⟨rfl, yesT ?_⟩
      refine ⟨_, rfl, a, C, dx, _, _, rfl, s2 _ _ ha, CH.cl, CH.nP, ruF_pairs _ _, .ref r, .tup r, rfl, rfl, ⟨_, sm_seqT s2 hq⟩, ?_⟩
      refine li_it (walk_enumX (K := K) (S := .tup r) (xs := xs)) (fun j H' => ∃ qs : List Addr, Same H H' ∧ H' D = some (.lst (qs.map V.ref)) ∧ MvAt H' qs (((List.range i).flatMap fun p => (K60.movesAt ps row p).map fun n => (p, n)) ++ (((List.range j).filter fun n => K60.hit ps row i n).map fun n => (i, n))))
        ⟨qs, s2, e2, by simpa using m2⟩ (fun j H' _ ⟨_, s, _⟩ => sm_seqT s hq) (fun j y H3 H3' hj ⟨qs, s3, e3, m3⟩ hy => ?_) (fun H3 ⟨qs, s3, e3, m3⟩ => ?_)
      · obtain ⟨t, y1, y2, rfl, ht, rfl, f1, f2⟩ := hy
        obtain rfl : V.int (j : Nat) = y1 := Option.some.inj f1
        obtain ⟨d, g2, hd2⟩ := dpa_at hxs j y2 f2
        rw [List.getElem?_map] at g2
        cases hp : ps[j]? with
        | none => rw [hp] at g2; cases g2
        | some pr =>
        rw [hp] at g2
        obtain rfl := Option.some.inj g2
        obtain ⟨qa, rfl, hqa⟩ := dp_pr (dp_same s3 _ _ hd2)
        have sT : Same H3 (upd H3 t (.tup [.int (j : Nat), .ref qa])) := sm_new ht
        have hgd : ps.getD j ([], []) = pr := by rw [List.getD_eq_getElem?_getD, hp]; rfl
        have hsh := g.short pr (List.mem_of_getElem? hp)
        refine ⟨t, _, rfl, .inl (.inl upd_same), rfl, _, _, rfl, _, _, rfl, qa, _, rfl, sm_seqT sT hqa, rfl, _, _, rfl, _, _, rfl, rfl, rfl, rfl, ?_⟩
        refine ⟨_, rfl, rfl, _, rfl, _, rfl, _, _, _, rfl, rfl, _, rfl, ?_⟩
        rw [Int.zero_add, starts3 (Nat.le_of_lt hi')]
        have eh : K60.hit ps row i j = decide ((row.drop i).take pr.1.length = pr.1) := by unfold K60.hit; rw [hgd]
        rw [← eh]
        have e3' := sT _ _ e3
        have m3' := m3.same sT
        have s3' := s3.trans sT
        have hml : (((List.range i).flatMap fun p => (K60.movesAt ps row p).map fun n => (p, n)) ++ (((List.range j).filter fun n => K60.hit ps row i n).map fun n => (i, n))).length ≤ 41 * 20 := by
          have h1 := flat_len (c := 20) (l := List.range i) (f := fun p => (K60.movesAt ps row p).map fun n => (p, n)) fun p _ => by rw [List.length_map]; exact Nat.le_trans (movesAt_len ps row p) hfew
          have h2 := List.length_filter_le (fun n => K60.hit ps row i n) (List.range j)
          rw [List.length_range] at h1 h2
          rw [List.length_append, List.length_map]
          have : i * 20 ≤ 40 * 20 := Nat.mul_le_mul_right _ (by omega)
          omega
        generalize upd H3 t (.tup [.int (j : Nat), .ref qa]) = H4 at e3' m3' s3' ⊢
        have eT : K60.hit ps row i j = true → ((List.range (j + 1)).filter fun n => K60.hit ps row i n).map (fun n => (i, n)) = (((List.range j).filter fun n => K60.hit ps row i n).map fun n => (i, n)) ++ [(i, j)] := fun hh => by
          rw [List.range_succ, List.filter_append, List.map_append, List.filter_cons_of_pos hh]; rfl
        have eF : K60.hit ps row i j = false → ((List.range (j + 1)).filter fun n => K60.hit ps row i n).map (fun n => (i, n)) = (((List.range j).filter fun n => K60.hit ps row i n).map fun n => (i, n)) := fun hh => by
          rw [List.range_succ, List.filter_append, List.map_append, List.filter_cons_of_neg (by rw [hh]; decide)]
          exact List.append_nil _
        cases hh : K60.hit ps row i j with
        | true =>
          rw [eT hh, ← List.append_assoc]
          refine iteB rfl ?_
          refine ⟨_, rfl, _, rfl, by show 2 ≤ sizeLine; decide, fun u hu => ?_⟩
          have su := sm_new (o := .tup [.int (0 + (i : Int)), .int (j : Nat)]) hu
          refine ⟨_, su _ _ e3', ?_, qs ++ [u], sm_put (s3'.trans su) hD, ?_, ?_⟩
          · rw [List.length_map, m3.len]
            exact Nat.lt_of_le_of_lt hml (by decide)
          · rw [upd_same, List.map_append]; rfl
          · refine MvAt.put (su _ _ e3') (pr_snoc (m3'.same su) ?_)
            rw [upd_same]
            show some (HO.tup [V.int (0 + (i : Int)), V.int (j : Nat)]) = some (HO.tup [V.int (i : Nat), V.int (j : Nat)])
            rw [Int.zero_add]
        | false =>
          rw [eF hh]
          exact iteN rfl ⟨qs, s3', e3', m3'⟩
      · refine ⟨qs, s3, e3, ?_⟩
        rw [List.range_succ, List.flatMap_append, List.flatMap_singleton]
        rw [hxl] at m3
        exact m3
    · have en : ((row.length : Nat) : Int).toNat = row.length := by omega
      rw [en] at m2
      refine ⟨D, _, rfl, .inl ⟨SqL.of e2, fun u hu => ?_⟩⟩
      exact k u _ (s2.trans (sm_new hu)) (.tup (SqT.of upd_same) (m2.same (sm_new hu)).dp)
theorem ok_moves {C : Addr} (T : BT mg) (CH : CC K C) {f : Addr} {fd : FuncData} (me : Meth K C "moves" f) (F : C8.Fun K "moves" "Rules.moves" s_moves f fd) (b : Binds K fd ["self", "row"] []) : Met P w K mg base 1 C "moves" (spMoves K C) [] := ⟨⟨f, fd, _, [], CH.cl, me, fn_moves T CH F, b, .nil⟩⟩
end
end Toy
set_option maxHeartbeats 2000000
namespace Toy
open PySem L2 C8 SX LX
local macro_rules | `(tactic| walk_at "c") => `(tactic| refine And.intro (by first | (show (0 : Int) < _; omega) | exact Or.inr ⟨by decide, by decide⟩ | exact Or.inl ⟨by decide, by decide⟩ | (exact ⟨by omega, by omega⟩)) ?_)
local macro_rules | `(tactic| walk_at "s1") => `(tactic| first | refine ⟨_, rfl, ?_⟩ | refine ⟨_, _, rfl, rfl, ?_⟩ | refine .inl ⟨_, rfl, ?_⟩ | walk_at "c")
local macro_rules | `(tactic| walk_at "ix") => `(tactic| refine ⟨_, _, _, _, rfl, rfl, SqL.of (by first | assumption | exact upd_same), rfl, ?_⟩)
local macro_rules | `(tactic| walk_at "s") => `(tactic| repeat (walk_at "s1"))
theorem cutn_from (r : List Nat) (n : Nat) : Txt.slice (S r) (some (n : Int)) none = S (r.drop n) := by
  rw [slice_from (by omega)]; rfl
theorem cutn_to (r : List Nat) (n : Nat) : Txt.slice (S r) none (some (n : Int)) = S (r.take n) := by
  rw [slice_to (by omega)]; rfl
section
variable {P : Program} {w : World} {K : PySem.W.Frag} {mg : Str → Option Value} {base : Heap}
theorem pairs_at {H : Hp} {r : Addr} {ps : Ps} (h : Dp K H (.ref r) (psD ps)) : ∃ xs, SqT K H r xs ∧ xs.length = ps.length ∧ ∀ (n : Nat), n < ps.length → ∃ q, xs[n]? = some (.ref q) ∧ SqT K H q [.str (S (ps.getD n ([], [])).1), .str (S (ps.getD n ([], [])).2)] := by
  obtain ⟨_, xs, e, hq, hxs⟩ := dp_seq (b := false) h
  cases e
  have hl := dpa_len hxs
  rw [List.length_map] at hl
  refine ⟨xs, hq, hl, fun n hn => ?_⟩
  have hx : xs[n]? = some xs[n] := List.getElem?_eq_getElem (by omega)
  obtain ⟨d, g2, hd2⟩ := dpa_at hxs n _ hx
  have hp : ps[n]? = some (ps.getD n ([], [])) := by rw [List.getD_eq_getElem?_getD, List.getElem?_eq_getElem hn]; rfl
  rw [List.getElem?_map, hp] at g2
  obtain rfl := Option.some.inj g2
  obtain ⟨qa, e, hqa⟩ := dp_pr hd2
  exact ⟨qa, by rw [hx, e], hqa⟩
abbrev s_after : Stmt := inClass (top 19) 2
abbrev n_after : List Str := ["self", "row", "move", "place", "number", "left", "right"]
theorem sc_after : FnScope n_after ["self", "row", "move"] (fnScope s_after) := fnScope_by (by decide +kernel)
def spAfter (K : PySem.W.Frag) (C : Addr) : Sp := fun vs H Q _ => ∃ (a mm : Addr) (sg : List Nat) (ps : Ps) (row : List Nat) (m : Nat × Nat), vs = [.ref a, .str (S row), .ref mm] ∧ Rul K C H a sg ps ∧ Gr sg ps ∧ (∀ p ∈ ps, p.2.length ≤ 40) ∧ row.length ≤ 40 ∧ SqT K H mm [.int (m.1 : Nat), .int (m.2 : Nat)] ∧ m.1 ≤ row.length ∧ m.2 < ps.length ∧
  ∀ H', Same H H' → Q (.str (S (K60.afterL ps row m))) H'
theorem fn_after {C : Addr} (T : BT mg) (CH : CC K C) {f : Addr} {fd : FuncData} (F : C8.Fun K "after" "Rules.after" s_after f fd) : FnOk P w K mg base C8.CX0 1 f fd ["self", "row", "move"] (spAfter K C) := by
  refine fn0 F sc_after (fun vs H Q E h => ?_) (fun cdv A outer s H vs Q E hr h => ?_)
  · obtain ⟨a, mm, sg, ps, row, m, rfl, _⟩ := h; rfl
  · obtain ⟨a, mm, sg, ps, row, m, rfl, hc, g, hsh2, hrow, hm, h1, h2, k⟩ := h
    obtain ⟨dx, r, ha, hdp⟩ := id hc
    obtain ⟨xs, hq, hxl, hat⟩ := pairs_at hdp
    obtain ⟨q, hxq, hqq⟩ := hat m.2 h2
    have hpm : ps.getD m.2 ([], []) ∈ ps := by rw [List.getD_eq_getElem?_getD, List.getElem?_eq_getElem h2]; exact List.getElem_mem h2
    have l1 := g.short _ hpm
    have l2 := hsh2 _ hpm
    have br : (S row).length ≤ sizeLine := by rw [S_len]; exact sz hrow (by decide)
    refine ⟨_, (pss_cons (ps_asg (pv 2) (tupK K 2 (pgs_cons (pg_name (i := 3) sc_after.nd rfl (.inl rfl)) (pgs_cons (pg_name (i := 4) sc_after.nd rfl (.inl rfl)) pgs_nil))))
      (pss_cons (ps_asg (pe_ix (ixt K) (fldK K (pv 0) rfl) (pv 4) (fun _ _ => rfl)) (tupK K 2 (pgs_cons (pg_name (i := 5) sc_after.nd rfl (.inl rfl)) (pgs_cons (pg_name (i := 6) sc_after.nd rfl (.inl rfl)) pgs_nil))))
      (pss_one (ps_ret (pe_op op_add_str (pe_op op_add_str (pe_slice sl_txt (pv 1) po_none (po_some (pv 3))) (pv 6)) (pe_slice sl_txt (pv 1) (po_some (pe_op op_add (pv 3) (pe_callB call_len_str (by rfl) T.m_len PySem.boot_len (pa_cons (pv 5) pa_nil)))) po_none)))
      ))), ?_⟩
    refine ⟨_, rfl, mm, _, rfl, hm, rfl, _, _, rfl, _, _, rfl, rfl, ?_⟩
    refine ⟨_, rfl, a, C, dx, _, _, rfl, ha, CH.cl, CH.nP, ruF_pairs _ _, _, rfl, r, xs, (m.2 : Nat), .ref q, rfl, rfl, hq, atI_nat hxq, ?_⟩
    refine ⟨q, _, rfl, hqq, rfl, _, _, rfl, _, _, rfl, rfl, ?_⟩
    refine ⟨_, rfl, _, rfl, _, rfl, _, rfl, br, _, rfl, ?_⟩
    rw [cutn_to]
    refine ⟨_, _, rfl, rfl, by rw [S_len, S_len, List.length_take]; exact sz (m := 80) (by omega) (by decide), ?_⟩
    refine ⟨_, rfl, _, rfl, _, rfl, _, rfl, by rw [S_len]; exact sz l1 (by decide), _, _, rfl, rfl, _, rfl, _, rfl, br, ?_⟩
    rw [S_len, show ((m.1 : Nat) : Int) + (((ps.getD m.2 ([], [])).1.length : Nat) : Int) = ((m.1 + (ps.getD m.2 ([], [])).1.length : Nat) : Int) by omega, cutn_from, S_cat]
    refine ⟨_, _, rfl, rfl, by rw [S_len, S_len, List.length_append, List.length_take, List.length_drop]; exact sz (m := 120) (by omega) (by decide), ?_⟩
    rw [S_cat]
    exact k H (Same.refl H)
theorem ok_after {C : Addr} (T : BT mg) (CH : CC K C) {f : Addr} {fd : FuncData} (me : Meth K C "after" f) (F : C8.Fun K "after" "Rules.after" s_after f fd) (b : Binds K fd ["self", "row", "move"] []) : Met P w K mg base 1 C "after" (spAfter K C) [] := ⟨⟨f, fd, _, [], CH.cl, me, fn_after T CH F, b, .nil⟩⟩
abbrev s_least : Stmt := top 20
abbrev n_least : List Str := ["rules", "row", "begin", "place", "number", "left", "_"]
theorem sc_least : FnScope n_least ["rules", "row", "begin"] (fnScope s_least) := fnScope_by (by decide +kernel)
def optM (H : Hp) (v : V) : Option (Nat × Nat) → Prop
  | none => v = .non
  | some m => ∃ q, v = .ref q ∧ H q = some (.tup [.int (m.1 : Nat), .int (m.2 : Nat)])
def fromL (ps : Ps) (row : List Nat) (b : Nat) : List (Nat × Nat) := (List.range' b (row.length - b)).flatMap fun p => (K60.movesAt ps row p).map fun n => (p, n)
theorem from_head {ps : Ps} {row : List Nat} {b i j : Nat} (hno : ∀ p, b ≤ p → p < b + i → K60.movesAt ps row p = []) (hi : b + i < row.length) (hj : j < ps.length) (hm : ∀ n, n < j → K60.hit ps row (b + i) n = false) (hh : K60.hit ps row (b + i) j = true) : (fromL ps row b).head? = some (b + i, j) := by
  obtain ⟨k, hk⟩ : ∃ k, row.length - b = i + (k + 1) := ⟨row.length - b - i - 1, by omega⟩
  obtain ⟨l, hl⟩ : ∃ l, ps.length = j + (l + 1) := ⟨ps.length - j - 1, by omega⟩
  have e1 : List.range' b (row.length - b) = List.range' b i ++ (b + i) :: List.range' (b + i + 1) k := by
    rw [hk, ← List.range'_append_1, List.range'_succ]
  have e2 : ∃ t, K60.movesAt ps row (b + i) = j :: t := by
    have er : List.range ps.length = List.range j ++ j :: List.range' (j + 1) l := by
      rw [hl, List.range_eq_range', List.range_eq_range', ← List.range'_append_1, List.range'_succ, Nat.zero_add]
    have ez : (List.range j).filter (fun n => K60.hit ps row (b + i) n) = [] := by
      rw [List.filter_eq_nil_iff]
      intro n hn
      rw [hm n (List.mem_range.mp hn)]; decide
    unfold K60.movesAt
    rw [er, List.filter_append, ez, List.nil_append, List.filter_cons_of_pos hh]
    exact ⟨_, rfl⟩
  obtain ⟨t, et⟩ := e2
  have ez : (List.range' b i).flatMap (fun p => (K60.movesAt ps row p).map fun n => (p, n)) = [] := by
    rw [List.flatMap_eq_nil_iff]
    intro p hp
    rw [List.mem_range'_1] at hp
    rw [hno p hp.1 hp.2]; rfl
  unfold fromL
  rw [e1, List.flatMap_append, ez, List.nil_append, List.flatMap_cons, et]
  rfl
def spLeast (K : PySem.W.Frag) (C : Addr) : Sp := fun vs H Q _ => ∃ (a : Addr) (sg : List Nat) (ps : Ps) (row : List Nat) (b : Nat), vs = [.ref a, .str (S row), .int (b : Nat)] ∧ Rul K C H a sg ps ∧ Gr sg ps ∧ row.length ≤ 40 ∧ b ≤ 40 ∧
  ∀ (v : V) (H' : Hp), Same H H' → optM H' v (fromL ps row b).head? → Q v H'
theorem ok_least {C : Addr} (T : BT mg) (CH : CC K C) {f : Addr} {fd : FuncData} (F : Def K mg "_least_move" s_least f fd) (b : Binds K fd ["rules", "row", "begin"] []) : Cal P w K mg base 1 "_least_move" (spLeast K C) [] := by
  refine cal0 F b .nil sc_least (fun vs H Q E h => ?_) (fun cdv A outer s H vs Q E hr h => ?_)
  · obtain ⟨a, sg, ps, row, b, rfl, _⟩ := h; rfl
  · obtain ⟨a, sg, ps, row, b, rfl, hc, g, hrow, hb, k⟩ := h
    obtain ⟨dx, r, ha, hdp⟩ := id hc
    obtain ⟨xs, hq, hxl, hat⟩ := pairs_at hdp
    have br : (S row).length ≤ sizeLine := by rw [S_len]; exact sz hrow (by decide)
    refine ⟨_, (pss_cons (ps_for PassesOwn.never rfl (pi_range2 (by rfl) T.m_range (pa_cons (pv 2) (pa_cons (pe_callB call_len_str (by rfl) T.m_len PySem.boot_len (pa_cons (pv 1) pa_nil)) pa_nil))) (pg_name (i := 3) sc_least.nd rfl (.inl rfl)) 
        (pss_one (ps_for PassesOwn.never rfl (pi_enumX (by rfl) T.m_enumerate (pa_cons (fldK K (pv 0) rfl) pa_nil)) (tupK K 2 (pgs_cons (pg_name (i := 4) sc_least.nd rfl (.inl rfl)) (pgs_cons (tupK K 2 (pgs_cons (pg_name (i := 5) sc_least.nd rfl (.inl rfl)) (pgs_cons (pg_name (i := 6) sc_least.nd rfl (.inl rfl)) pgs_nil))) pgs_nil))) 
          (pss_one (ps_if (pt_val (pe_bm PySem.F.plainAttrs_str PySem.F.slot_str_startswith PySem.F.type_str_startswith mt_startswith3 (pv 1) (pa_cons (pv 5) (pa_cons (pv 3) pa_nil)))) 
            (pss_one (ps_ret (pe_tup (pa_cons (pv 3) (pa_cons (pv 4) pa_nil))))
            )
           pss_nil)
          ))
        ))
      (pss_one (ps_ret pe_non)
      )), ?_⟩
    refine ⟨_, rfl, _, rfl, S row, rfl, br, ?_⟩
    rw [S_len]
    refine ⟨_, _, rfl, ⟨by omega, by omega, by omega, by omega⟩, ?_⟩
    have en : (((row.length : Nat) : Int) - ((b : Nat) : Int)).toNat = row.length - b := by omega
    refine for_it (walk_range (lo := ((b : Nat) : Int)) (n := (((row.length : Nat) : Int) - ((b : Nat) : Int)).toNat)) (fun i σ H' => (∃ s3 s4 s5 s6 : Option V, σ = [some (.ref a), some (.str (S row)), some (.int (b : Nat)), s3, s4, s5, s6]) ∧ Same H H' ∧ ∀ p, b ≤ p → p < b + i → K60.movesAt ps row p = [])
      ⟨⟨_, _, _, _, rfl⟩, Same.refl _, fun p h1 h2 => by omega⟩ (fun _ _ _ _ _ => trivial) ?_ ?_
    · rintro i x σ H1 H1' hi ⟨⟨s3, s4, s5, s6, rfl⟩, w1, hno⟩ ⟨rfl, rfl⟩
      rw [en] at hi
      have hi' : b + i < row.length := by omega
      refine ⟨_, rfl, a, C, dx, _, _, rfl, w1 _ _ ha, CH.cl, CH.nP, ruF_pairs _ _, .ref r, .tup r, rfl, rfl, ⟨_, sm_seqT w1 hq⟩, ?_⟩
      refine for_it (walk_enumX (K := K) (S := .tup r) (xs := xs)) (fun j σ H' => (∃ s4 s5 s6 : Option V, σ = [some (.ref a), some (.str (S row)), some (.int (b : Nat)), some (.int ((b : Nat) + (i : Int))), s4, s5, s6]) ∧ Same H1' H' ∧ ∀ n, n < j → K60.hit ps row (b + i) n = false)
        ⟨⟨_, _, _, rfl⟩, Same.refl _, fun n h => by omega⟩ (fun _ _ _ _ h => sm_seqT (w1.trans h.2.1) hq) ?_ ?_
      · clear s3 s4 s5 s6
        rintro j x σ H2 H2' hj ⟨⟨s4, s5, s6, rfl⟩, w2, hmiss⟩ ⟨t, y1, y2, rfl, ht, rfl, f1, f2⟩
        obtain rfl : V.int (j : Nat) = y1 := Option.some.inj f1
        have hjl : j < ps.length := by rw [hxl] at hj; exact hj
        obtain ⟨qa, hxq, hqa⟩ := hat j hjl
        have f2 : xs[j]? = some y2 := f2
        rw [hxq] at f2
        obtain rfl := Option.some.inj f2
        have sT : Same H2 (upd H2 t (.tup [.int (j : Nat), .ref qa])) := sm_new ht
        refine ⟨t, _, rfl, .inl (.inl upd_same), rfl, _, _, rfl, _, _, rfl, qa, _, rfl, sm_seqT (w1.trans (w2.trans sT)) hqa, rfl, _, _, rfl, _, _, rfl, rfl, rfl, ?_⟩
        refine ⟨_, rfl, rfl, _, rfl, _, rfl, _, _, _, rfl, rfl, _, rfl, ?_⟩
        rw [show ((b : Nat) : Int) + (i : Int) = ((b + i : Nat) : Int) by omega, starts3 (Nat.le_of_lt hi')]
        rw [show decide ((row.drop (b + i)).take (ps.getD j ([], [])).1.length = (ps.getD j ([], [])).1) = K60.hit ps row (b + i) j from rfl]
        generalize upd H2 t (.tup [.int (j : Nat), .ref qa]) = H3 at sT ⊢
        cases hh : K60.hit ps row (b + i) j with
        | true =>
          refine iteB rfl ?_
          refine ⟨_, rfl, _, rfl, by show 2 ≤ sizeLine; decide, fun u hu => ?_⟩
          have w3 := w1.trans (w2.trans sT)
          refine k _ _ (w3.trans (sm_new hu)) ?_
          rw [from_head hno hi' hjl hmiss hh]
          refine ⟨u, rfl, ?_⟩
          rw [upd_same]
        | false =>
          refine iteN rfl ?_
          refine ⟨⟨_, _, _, rfl⟩, w2.trans sT, fun n hn => ?_⟩
          by_cases q : n = j
          · rw [q]; exact hh
          · exact hmiss n (by omega)
      · rintro σ H2 ⟨⟨s4', s5', s6', rfl⟩, w2, hmiss⟩
        refine ⟨⟨_, _, _, _, rfl⟩, w1.trans w2, fun p h1 h2 => ?_⟩
        by_cases q : p = b + i
        · subst q
          unfold K60.movesAt
          rw [List.filter_eq_nil_iff]
          intro n hn
          rw [hmiss n (by rw [hxl]; exact List.mem_range.mp hn)]; decide
        · exact hno p h1 (by omega)
    · rintro σ H1 ⟨⟨s3, s4, s5, s6, rfl⟩, w1, hno⟩
      rw [en] at hno
      refine k _ _ w1 ?_
      have : fromL ps row b = [] := by
        unfold fromL
        rw [List.flatMap_eq_nil_iff]
        intro p hp
        rw [List.mem_range'_1] at hp
        rw [hno p hp.1 hp.2]; rfl
      rw [this]
      exact rfl
end
end Toy
set_option maxHeartbeats 2000000
namespace Toy
open PySem L2 C8 SX LX
local macro_rules | `(tactic| walk_at "c") => `(tactic| refine And.intro (by first | (show (0 : Int) < _; omega) | exact Or.inr ⟨by decide, by decide⟩ | exact Or.inl ⟨by decide, by decide⟩ | (exact ⟨by omega, by omega⟩)) ?_)
local macro_rules | `(tactic| walk_at "s1") => `(tactic| first | refine ⟨_, rfl, ?_⟩ | refine ⟨_, _, rfl, rfl, ?_⟩ | refine .inl ⟨_, rfl, ?_⟩ | walk_at "c")
local macro_rules | `(tactic| walk_at "ix") => `(tactic| refine ⟨_, _, _, _, rfl, rfl, SqL.of (by first | assumption | exact upd_same), rfl, ?_⟩)
local macro_rules | `(tactic| walk_at "s") => `(tactic| repeat (walk_at "s1"))
theorem Gr.short2 {sg : List Nat} {ps : Ps} (g : Gr sg ps) : ∀ p ∈ ps, p.2.length ≤ 40 := fun p hp => by
  have h1 := g.short p hp
  rcases (g.dn p hp).2.2 with h | h
  · have : p.2.length < p.1.length := h
    omega
  · have : p.2.length = p.1.length := h.1
    omega
theorem Gr.down {sg : List Nat} {ps : Ps} (g : Gr sg ps) : K60.Down sg ps := fun p hp => g.dn p hp
theorem Gr.pos {sg : List Nat} {ps : Ps} (g : Gr sg ps) : ∀ p ∈ ps, 1 ≤ p.1.length := fun p hp => by
  rcases (g.dn p hp).2.2 with h | h
  · have : p.2.length < p.1.length := h
    omega
  · rcases Nat.eq_zero_or_pos p.1.length with e | e
    · exfalso
      have h1 := List.length_eq_zero_iff.mp e
      have h2 := h.2
      rw [h1] at h2
      exact absurd h2 (by simp)
    · exact e
abbrev Lk := List (List Nat × (Nat × Nat))
def StR (H : Hp) (us : List Addr) (lk : Lk) : Prop := Paired (fun u p => ∃ (q : Addr), H u = some (.tup [.str (S p.1), .ref q]) ∧ H q = some (.tup [.int (p.2.1 : Nat), .int (p.2.2 : Nat)])) us lk
theorem StR.same {H H' : Hp} {qs : List Addr} {l : Lk} (s : Same H H') (h : StR H qs l) : StR H' qs l := pr_imp (fun _ _ ⟨q, e, f⟩ => ⟨q, s _ _ e, s _ _ f⟩) h
theorem StR.put {H : Hp} {D : Addr} {acc : List V} {o : HO} {qs : List Addr} {l : Lk} (hD : H D = some (.lst acc)) (h : StR H qs l) : StR (upd H D o) qs l := pr_imp (fun _ _ ⟨q, e, f⟩ => ⟨q, by rw [upd_ne (fun z => by rw [z, hD] at e; cases e)]; exact e, by rw [upd_ne (fun z => by rw [z, hD] at f; cases f)]; exact f⟩) h
theorem StR.len {H : Hp} : ∀ {qs : List Addr} {l : Lk}, StR H qs l → qs.length = l.length
  | _, _, .nil => rfl
  | _, _, .cons _ h2 => by rw [List.length_cons, List.length_cons, StR.len h2]
theorem StR.get {H : Hp} : ∀ {us : List Addr} {lk : Lk}, StR H us lk → ∀ (i : Nat) (p : List Nat × (Nat × Nat)), lk[i]? = some p → ∃ (u q : Addr), us[i]? = some u ∧ H u = some (.tup [.str (S p.1), .ref q]) ∧ H q = some (.tup [.int (p.2.1 : Nat), .int (p.2.2 : Nat)])
  | _, _, .nil, i, m, h => by simp at h
  | _, _, .cons h1 _, 0, m, h => by cases h; obtain ⟨q, e, f⟩ := h1; exact ⟨_, q, rfl, e, f⟩
  | _, _, .cons _ h2, i + 1, m, h => StR.get h2 i m h
inductive Way (ps : Ps) : List Nat → Lk → List Nat → Prop
  | stop {r : List Nat} : Way ps r [] r
  | go {r e : List Nat} {m : Nat × Nat} {lk : Lk} : m ∈ K60.movesL ps r → Way ps (K60.afterL ps r m) lk e → Way ps r ((r, m) :: lk) e
theorem Way.snoc {ps : Ps} {r x : List Nat} {lk : Lk} (h : Way ps r lk x) : ∀ {m : Nat × Nat}, m ∈ K60.movesL ps x → Way ps r (lk ++ [(x, m)]) (K60.afterL ps x m) := by
  induction h with
  | stop => exact fun hm => .go hm .stop
  | go h1 _ ih => exact fun hm => .go h1 (ih hm)
theorem from_zero {ps : Ps} {row : List Nat} {b : Nat} (h : K60.Clean ps row b) : fromL ps row b = K60.movesL ps row := (K60.moves_from h).symm
theorem head_cons {l : List (Nat × Nat)} {m : Nat × Nat} (h : l.head? = some m) : ∃ t, l = m :: t := by
  cases l with
  | nil => cases h
  | cons x t => cases h; exact ⟨t, rfl⟩
theorem maxdef_use {K : PySem.W.Frag} {H : Hp} {D : Addr} {Q : VK} {ps : Ps} (hD : H D = some (.lst (ps.map fun p => V.int (p.1.length : Nat)))) (h40 : ∀ p ∈ ps, p.1.length ≤ 40) (k : ∀ L : Nat, (∀ p ∈ ps, p.1.length ≤ L) → L ≤ 40 → Q (.int (L : Nat)) H) : rMaxDef K [.ref D] [.int 0] H Q := by
  refine ⟨D, ps.map fun p => (p.1.length : Int), 0, rfl, rfl, SqL.of (by rw [List.map_map]; exact hD), fun e => ?_, fun _ m hm hle => ?_⟩
  · have : ps = [] := by simpa using e
    subst this
    exact k 0 (fun _ h => nomatch h) (Nat.zero_le _)
  · obtain ⟨p, hp, rfl⟩ := List.mem_map.mp hm
    refine k p.1.length (fun q hq => ?_) (h40 p hp)
    have := hle _ (List.mem_map.mpr ⟨q, hq, rfl⟩)
    omega
theorem max_nat (a b : Nat) : (if ((a : Int) - (b : Int) + 1) > 0 then ((a : Int) - (b : Int) + 1) else 0) = ((a + 1 - b : Nat) : Int) := by
  split <;> omega
structure Dn (sg : List Nat) (ps : Ps) (row : List Nat) (acc : Lk) (x : List Nat) : Prop where
  gone : K60.Gone ps row (acc.map (·.2)) x
  way : Way ps row acc x
  ov : Ov sg x
  len : x.length ≤ 10
  le : x.length ≤ row.length
  many : acc.length + K60.rk sg x ≤ K60.rk sg row
theorem Dn.next {sg : List Nat} {ps : Ps} {row x : List Nat} {acc : Lk} {m : Nat × Nat} {t : List (Nat × Nat)} (g : Gr sg ps) (h : Dn sg ps row acc x) (e : K60.movesL ps x = m :: t) : Dn sg ps row (acc ++ [(x, m)]) (K60.afterL ps x m) ∧ K60.rk sg (K60.afterL ps x m) < K60.rk sg x := by
  have hm : m ∈ K60.movesL ps x := by rw [e]; exact List.mem_cons_self
  have ho := K60.after_ord g.down hm
  have hv := K60.after_ov g.down h.ov (K60.mem_moves.mp hm).2.1
  have hr := K60.rk_ord g.mn g.asc hv h.ov ho
  refine ⟨⟨by rw [List.map_append]; exact h.gone.next e, h.way.snoc hm, hv, ?_, ?_, ?_⟩, hr⟩
  · have := h.len
    rcases ho with ho | ho
    · omega
    · have := ho.1; omega
  · have := h.le
    rcases ho with ho | ho
    · omega
    · have := ho.1; omega
  · have := h.many
    rw [List.length_append, List.length_singleton]; omega
section
variable {P : Program} {w : World} {K : PySem.W.Frag} {mg : Str → Option Value} {base : Heap}
abbrev s_steps : Stmt := inClass (top 19) 5
abbrev n_steps : List Str := ["self", "row", "longest", "found", "move", "left", "right"]
theorem sc_steps : FnScope n_steps ["self", "row"] (fnScope s_steps) := fnScope_by (by decide +kernel)
def spSteps (K : PySem.W.Frag) (C : Addr) : Sp := fun vs H Q _ => ∃ (a : Addr) (sg : List Nat) (ps : Ps) (row : List Nat), vs = [.ref a, .str (S row)] ∧ Rul K C H a sg ps ∧ Gr sg ps ∧ Ov sg row ∧ row.length ≤ 10 ∧
  ∀ (t fl : Addr) (us : List Addr) (lk : Lk) (e : List Nat) (H' : Hp), Same H H' → H' t = some (.tup [.ref fl, .str (S e)]) → H' fl = some (.lst (us.map V.ref)) → StR H' us lk → K60.Road ps row (lk.map (·.2)) e → Way ps row lk e → Ov sg e → e.length ≤ row.length → lk.length ≤ K60.rk sg row → Q (.ref t) H'
theorem ok_steps {C : Addr} (T : BT mg) (CH : CC K C) (c_after : Met P w K mg base 1 C "after" (spAfter K C) []) (c_least : Cal P w K mg base 1 "_least_move" (spLeast K C) []) {f : Addr} {fd : FuncData} (me : Meth K C "steps_down" f) (F : C8.Fun K "steps_down" "Rules.steps_down" s_steps f fd) (b : Binds K fd ["self", "row"] []) : Met P w K mg base 2 C "steps_down" (spSteps K C) [] := by
  refine met0 CH.cl me F b sc_steps (fun vs H Q E h => ?_) (fun cdv A outer s H vs Q E hr h => ?_)
  · obtain ⟨a, sg, ps, row, rfl, _⟩ := h; rfl
  · obtain ⟨a, sg, ps, row, rfl, hc, g, hov, hrow, k⟩ := h
    obtain ⟨dx, r, ha, hdp⟩ := id hc
    obtain ⟨xs, hq, hxl, hat⟩ := pairs_at hdp
    have hfew := g.few
    refine ⟨_, (pss_cons (ps_set (i := 2) sc_steps.nd rfl (.inl rfl) (pe_callBK (cr_maxDef rfl) (by rfl) T.m_max PyProof.Rows.boot_max (pa_cons (pe_lc (own := [("left", 5), ("right", 6)]) rfl sc_steps.nd (pi_tup (fldK K (pv 0) rfl)) (blkOk_by (N := n_steps) (sc := fnScope s_steps) (by decide +kernel)) (fun _ _ _ _ _ => (tupK K 2 (pgs_cons (pg_name (i := 5) sc_steps.nd rfl (.inl rfl)) (pgs_cons (pg_name (i := 6) sc_steps.nd rfl (.inl rfl)) pgs_nil)))) (fun _ _ _ _ _ => pts_nil) (fun _ _ _ _ _ => (pe_callB call_len_str (by rfl) T.m_len PySem.boot_len (pa_cons (pv 5) pa_nil)))) pa_nil) (pk_cons pe_int pk_nil)))
      (pss_cons (ps_set (i := 3) sc_steps.nd rfl (.inl rfl) (pe_lst pa_nil))
      (pss_cons (ps_set (i := 4) sc_steps.nd rfl (.inl rfl) (pe_c c_least hr (by first | decide | omega) (by rfl) (pa_cons (pv 0) (pa_cons (pv 1) (pa_cons pe_int pa_nil)))))
      (pss_cons (ps_while PassesOwn.never (pt_cmpR op_notN (pv 4) pe_non (nomark _)) 
        (pss_cons (ps_expr (pe_bm PySem.F.plainAttrs_list PySem.F.slot_list_append PySem.F.type_list_append mt_append (pv 3) (pa_cons (pe_tup (pa_cons (pv 1) (pa_cons (pv 4) pa_nil))) pa_nil)))
        (pss_cons (ps_set (i := 1) sc_steps.nd rfl (.inl rfl) (pe_mt c_after hr (by decide) (pv 0) (pa_cons (pv 1) (pa_cons (pv 4) pa_nil))))
        (pss_one (ps_set (i := 4) sc_steps.nd rfl (.inl rfl) (pe_c c_least hr (by first | decide | omega) (by rfl) (pa_cons (pv 0) (pa_cons (pv 1) (pa_cons (pe_callB (call_max2 rfl) (by rfl) T.m_max PyProof.Rows.boot_max (pa_cons pe_int (pa_cons (pe_op op_add (pe_op op_sub (pe_ix (ixt K) (pv 4) pe_int (fun _ _ => rfl)) (pv 2)) pe_int) pa_nil))) pa_nil)))))
        ))))
      (pss_one (ps_ret (pe_tup (pa_cons (pv 3) (pa_cons (pv 1) pa_nil))))
      ))))), ?_⟩
    refine ⟨_, rfl, a, C, dx, _, _, rfl, ha, CH.cl, CH.nP, ruF_pairs _ _, r, rfl, ⟨_, hq⟩, fun D hD => ?_⟩
    refine lc_keep keep_same (walk_tup (K := K) (a := r) (xs := xs)) hD (by rw [hxl]; exact small1000 (by omega)) (fun j y => y = .int ((ps.getD j ([], [])).1.length : Nat)) (fun H r => sm_seqT r hq) (fun i x H2 H3 R hii r1 hy hR => ?_) (fun ys H1 hly hg w1 hDs => ?_)
    · obtain ⟨rfl, e⟩ := hy
      rw [hxl] at hii
      obtain ⟨qa, hxq, hqa⟩ := hat i hii
      rw [hxq] at e
      obtain rfl := Option.some.inj e
      have l1 : (ps.getD i ([], [])).1.length ≤ 40 := g.short _ (by rw [List.getD_eq_getElem?_getD, List.getElem?_eq_getElem hii]; exact List.getElem_mem hii)
      refine ⟨qa, _, rfl, sm_seqT r1 hqa, rfl, _, _, rfl, _, _, rfl, rfl, rfl, ?_⟩
      refine ⟨_, rfl, _, rfl, by rw [S_len]; exact sz l1 (by decide), ?_⟩
      rw [S_len]
      exact hR _ _ (Same.refl _) rfl
    have ey : ys = ps.map fun p => V.int (p.1.length : Nat) := by
      refine list_map (by rw [hly, hxl]) fun j y p e1 e2 => ?_
      rw [hg j y e1, List.getD_eq_getElem?_getD, e2]; rfl
    subst ey
    conv => unfold tNil tCons tC
    dsimp only
    refine maxdef_use hDs g.short fun L hL hL40 => ?_
    clear hDs hly hg hD
    refine ⟨by show 0 ≤ sizeLine; decide, fun fl hfl => ?_⟩
    have w2 := w1.trans (sm_new (o := .lst []) hfl)
    have hfl2 : (upd H1 fl (.lst [])) fl = some (.lst []) := upd_same
    have hflH : H fl = none := w1.free hfl
    generalize upd H1 fl (.lst []) = H2 at w2 hfl2 ⊢
    have br : ∀ x : List Nat, x.length ≤ 10 → x.length ≤ 40 := fun x h => by omega
    refine ⟨_, rfl, _, rfl, a, sg, ps, row, 0, rfl, hc.same w2, g, by omega, by decide, fun v H3 s3 hv => ?_⟩
    rw [from_zero (b := 0) (fun p n hp => absurd hp (Nat.not_lt_zero _))] at hv
    have w3 := w2.trans s3
    have hfl3 := s3 _ _ hfl2
    clear hfl2 s3 w2 hfl w1
    have rk6 : K60.rk sg row ≤ 1048576 := by
      have h1 := K60.rk_lt g.mn hov
      have : 4 ^ row.length ≤ 4 ^ 10 := Nat.pow_le_pow_right (by decide) hrow
      have : 4 ^ 10 = 1048576 := by decide
      omega
    refine ⟨fun m σ H' => ∃ (x : List Nat) (v : V) (us : List Addr) (acc : Lk), m = K60.rk sg x ∧ σ = [some (.ref a), some (.str (S x)), some (.int (L : Nat)), some (.ref fl), some v, none, none] ∧
      Same H H' ∧ H' fl = some (.lst (us.map V.ref)) ∧ StR H' us acc ∧ Dn sg ps row acc x ∧ optM H' v (K60.movesL ps x).head?, ?_, ?_⟩
    · exact ⟨_, row, v, [], [], rfl, rfl, w3, hfl3, .nil, ⟨K60.Gone.init ps row, .stop, hov, hrow, Nat.le_refl _, by simp⟩, hv⟩
    clear hv hfl3 w3 v H3
    rintro m σ H3 ⟨x, v, us, acc, rfl, rfl, w3, hfl3, hst, hdn, hv⟩
    refine ⟨_, rfl, rfl, _, rfl, ?_⟩
    cases hh : (K60.movesL ps x).head? with
    | none =>
      rw [hh] at hv
      obtain rfl : v = .non := hv
      refine iteN rfl ?_
      refine ⟨_, rfl, _, rfl, by show 2 ≤ sizeLine; decide, fun t ht => ?_⟩
      exact k t fl us acc x _ (w3.trans (sm_new ht)) upd_same (sm_new ht _ _ hfl3) (hst.same (sm_new ht)) (hdn.gone.all (List.head?_eq_none_iff.mp hh)) hdn.way hdn.ov hdn.le (by have := hdn.many; omega)
    | some m =>
      rw [hh] at hv
      obtain ⟨q, rfl, hq3⟩ := hv
      obtain ⟨t, et⟩ := head_cons hh
      refine iteB rfl ?_
      obtain ⟨hnx, hlt⟩ := hdn.next g et
      have hm := K60.mem_moves.mp (show m ∈ K60.movesL ps x by rw [et]; exact List.mem_cons_self)
      refine ⟨fun σ' H' => ∃ (y : List Nat) (v : V) (us : List Addr) (acc : Lk), K60.rk sg y < K60.rk sg x ∧ σ' = [some (.ref a), some (.str (S y)), some (.int (L : Nat)), some (.ref fl), some v, none, none] ∧
        Same H H' ∧ H' fl = some (.lst (us.map V.ref)) ∧ StR H' us acc ∧ Dn sg ps row acc y ∧ optM H' v (K60.movesL ps y).head?,
        fun σ' H' ⟨y, v, us, acc, a0, a1, a2, a3, a4, a5, a6⟩ => ⟨K60.rk sg y, a0, y, v, us, acc, rfl, a1, a2, a3, a4, a5, a6⟩, ?_⟩
      refine ⟨_, rfl, .inl ⟨rfl, _, SqL.of hfl3⟩, ?_⟩
      refine ⟨_, rfl, _, rfl, by show 2 ≤ sizeLine; decide, fun u hu => ?_⟩
      have su := sm_new (o := .tup [.str (S x), .ref q]) hu
      have hu4 : (upd H3 u (.tup [.str (S x), .ref q])) u = some (.tup [.str (S x), .ref q]) := upd_same
      have hfl4 := su _ _ hfl3
      have hst4 := hst.same su
      have hq4 := su _ _ hq3
      have w4 := w3.trans su
      have hul := hst.len
      generalize upd H3 u (.tup [.str (S x), .ref q]) = H4 at hu4 hfl4 hst4 hq4 w4 ⊢
      clear su hu hfl3 hst hq3 w3 H3
      have hmany := hdn.many
      refine ⟨fl, _, _, rfl, rfl, hfl4, by rw [List.length_map, hul]; exact Nat.lt_of_le_of_lt (Nat.le_trans (Nat.le_trans (Nat.le_add_right _ _) hmany) rk6) (by decide), ?_⟩
      have nqf : q ≠ fl := fun e => by rw [e, hfl4] at hq4; cases hq4
      have hfl5 : (upd H4 fl (.lst (us.map V.ref ++ [.ref u]))) fl = some (.lst ((us ++ [u]).map V.ref)) := by rw [upd_same, List.map_append]; rfl
      have hq5 : (upd H4 fl (.lst (us.map V.ref ++ [.ref u]))) q = some (.tup [.int (m.1 : Nat), .int (m.2 : Nat)]) := by rw [upd_ne nqf]; exact hq4
      have hst5 : StR (upd H4 fl (.lst (us.map V.ref ++ [.ref u]))) (us ++ [u]) (acc ++ [(x, m)]) := StR.put hfl4 (pr_snoc hst4 ⟨q, hu4, hq4⟩)
      have w5 : Same H (upd H4 fl (.lst (us.map V.ref ++ [.ref u]))) := sm_put w4 hflH
      generalize upd H4 fl (.lst (us.map V.ref ++ [.ref u])) = H5 at hfl5 hq5 hst5 w5 ⊢
      clear hu4 hfl4 hst4 hq4 w4 nqf H4
      refine ⟨_, rfl, a, dx, _, rfl, w5 _ _ ha, ruF_no _ _ (by decide +kernel) (by decide +kernel), _, rfl, _, rfl, a, q, sg, ps, x, m, rfl, hc.same w5, g, g.short2, br _ hdn.len, SqT.of hq5, Nat.le_of_lt hm.1, hm.2.1, fun H6 w6 => ?_⟩
      have hq6 := w6 _ _ hq5
      have hfl6 := w6 _ _ hfl5
      have hst6 := hst5.same w6
      have w6' := w5.trans w6
      clear hq5 hfl5 hst5 w5 w6 H5
      have hpm : ps.getD m.2 ([], []) ∈ ps := by rw [List.getD_eq_getElem?_getD, List.getElem?_eq_getElem hm.2.1]; exact List.getElem_mem hm.2.1
      have hL1 : 1 ≤ L := Nat.le_trans (g.pos _ hpm) (hL _ hpm)
      have hcl := K60.after_clean hL1 hL hm.2.1 hm.2.2 hm.1 (K60.first_clean et)
      refine ⟨_, rfl, _, rfl, _, rfl, q, _, 0, _, rfl, rfl, SqT.of hq6, rfl, _, rfl, _, _, rfl, rfl, _, _, rfl, rfl, _, _, rfl, ?_⟩
      rw [max_nat]
      have hm10 := hm.1
      have hx10 := hdn.len
      refine ⟨a, sg, ps, K60.afterL ps x m, m.1 + 1 - L, rfl, hc.same w6', g, br _ hnx.len, by omega, fun v H7 w7 hv => ?_⟩
      rw [from_zero hcl] at hv
      exact ⟨_, v, us ++ [u], acc ++ [(x, m)], hlt, rfl, w6'.trans w7, w7 _ _ hfl6, hst6.same w7, hnx, hv⟩
end
end Toy
set_option maxHeartbeats 2000000
namespace Toy
open PySem L2 C8 SX LX
local macro_rules | `(tactic| walk_at "c") => `(tactic| refine And.intro (by first | (show (0 : Int) < _; omega) | exact Or.inr ⟨by decide, by decide⟩ | exact Or.inl ⟨by decide, by decide⟩ | (exact ⟨by omega, by omega⟩)) ?_)
local macro_rules | `(tactic| walk_at "s1") => `(tactic| first | refine ⟨_, rfl, ?_⟩ | refine ⟨_, _, rfl, rfl, ?_⟩ | refine .inl ⟨_, rfl, ?_⟩ | walk_at "c")
local macro_rules | `(tactic| walk_at "ix") => `(tactic| refine ⟨_, _, _, _, rfl, rfl, SqL.of (by first | assumption | exact upd_same), rfl, ?_⟩)
local macro_rules | `(tactic| walk_at "s") => `(tactic| repeat (walk_at "s1"))
section
variable {P : Program} {w : World} {K : PySem.W.Frag} {mg : Str → Option Value} {base : Heap}
abbrev s_reduced : Stmt := inClass (top 19) 3
abbrev n_reduced : List Str := ["self", "row"]
theorem sc_reduced : FnScope n_reduced ["self", "row"] (fnScope s_reduced) := fnScope_by (by decide +kernel)
def spReduced (K : PySem.W.Frag) (C : Addr) : Sp := fun vs H Q _ => ∃ (a : Addr) (sg : List Nat) (ps : Ps) (row : List Nat), vs = [.ref a, .str (S row)] ∧ Rul K C H a sg ps ∧ Gr sg ps ∧ Ov sg row ∧ row.length ≤ 10 ∧
  ∀ (ms : List (Nat × Nat)) (e : List Nat) (H' : Hp), Same H H' → K60.Road ps row ms e → Ov sg e → e.length ≤ row.length → Q (.str (S e)) H'
theorem fn_reduced {C : Addr} (T : BT mg) (CH : CC K C) (c_steps : Met P w K mg base 2 C "steps_down" (spSteps K C) []) {f : Addr} {fd : FuncData} (F : C8.Fun K "reduced" "Rules.reduced" s_reduced f fd) : FnOk P w K mg base C8.CX0 3 f fd ["self", "row"] (spReduced K C) := by
  refine fn0 F sc_reduced (fun vs H Q E h => ?_) (fun cdv A outer s H vs Q E hr h => ?_)
  · obtain ⟨a, sg, ps, row, rfl, _⟩ := h; rfl
  · obtain ⟨a, sg, ps, row, rfl, hc, g, hov, hrow, k⟩ := h
    obtain ⟨dx, r, ha, hdp⟩ := id hc
    refine ⟨_, (pss_one (ps_ret (pe_ix (ixt K) (pe_mt c_steps hr (by decide) (pv 0) (pa_cons (pv 1) pa_nil)) pe_int (fun _ _ => rfl)))
      ), ?_⟩
    refine ⟨_, rfl, a, dx, _, rfl, ha, ruF_no _ _ (by decide +kernel) (by decide +kernel), _, rfl, a, sg, ps, row, rfl, hc, g, hov, hrow, fun t fl us lk e H1 s1 ht hfl hst hroad _ hoe hle _ => ?_⟩
    exact ⟨t, _, 1, _, rfl, rfl, SqT.of ht, rfl, k _ e H1 s1 hroad hoe hle⟩
theorem ok_reduced {C : Addr} (T : BT mg) (CH : CC K C) (c_steps : Met P w K mg base 2 C "steps_down" (spSteps K C) []) {f : Addr} {fd : FuncData} (me : Meth K C "reduced" f) (F : C8.Fun K "reduced" "Rules.reduced" s_reduced f fd) (b : Binds K fd ["self", "row"] []) : Met P w K mg base 3 C "reduced" (spReduced K C) [] := ⟨⟨f, fd, _, [], CH.cl, me, fn_reduced T CH c_steps F, b, .nil⟩⟩
end
end Toy
set_option maxHeartbeats 2000000
namespace Toy
open PySem L2 C8 SX LX
local macro_rules | `(tactic| walk_at "c") => `(tactic| refine And.intro (by first | (show (0 : Int) < _; omega) | exact Or.inr ⟨by decide, by decide⟩ | exact Or.inl ⟨by decide, by decide⟩ | (exact ⟨by omega, by omega⟩)) ?_)
local macro_rules | `(tactic| walk_at "s1") => `(tactic| first | refine ⟨_, rfl, ?_⟩ | refine ⟨_, _, rfl, rfl, ?_⟩ | refine .inl ⟨_, rfl, ?_⟩ | walk_at "c")
local macro_rules | `(tactic| walk_at "ix") => `(tactic| refine ⟨_, _, _, _, rfl, rfl, SqL.of (by first | assumption | exact upd_same), rfl, ?_⟩)
local macro_rules | `(tactic| walk_at "s") => `(tactic| repeat (walk_at "s1"))
def PrAt (H : Hp) (qs : List Addr) (ps : Ps) : Prop := Paired (fun q p => H q = some (.tup [.str (S p.1), .str (S p.2)])) qs ps
theorem PrAt.same {H H' : Hp} {qs : List Addr} {l : Ps} (s : Same H H') (h : PrAt H qs l) : PrAt H' qs l := pr_imp (fun _ _ e => s _ _ e) h
theorem PrAt.put {H : Hp} {D : Addr} {acc : List V} {o : HO} {qs : List Addr} {l : Ps} (hD : H D = some (.lst acc)) (h : PrAt H qs l) : PrAt (upd H D o) qs l := pr_imp (fun _ _ e => by rw [upd_ne (fun z => by rw [z, hD] at e; cases e)]; exact e) h
theorem PrAt.bx {b : Addr} {H H' : Hp} {qs : List Addr} {l : Ps} (hb : BoxAt b H) (s : Bx b H H') (h : PrAt H qs l) : PrAt H' qs l := pr_imp (fun _ _ e => s.1 _ _ (fun z => by
  obtain ⟨o, eo, x, y, w, rfl⟩ := hb
  rw [z, eo] at e; cases e) e) h
theorem PrAt.dp {K : PySem.W.Frag} {H : Hp} : ∀ {qs : List Addr} {l : Ps}, PrAt H qs l → DpAll K H (qs.map V.ref) (l.map prD)
  | _, _, .nil => .nil
  | _, _, .cons h1 h2 => .cons (.tup (SqT.of h1) (.cons (.str _) (.cons (.str _) .nil))) (PrAt.dp h2)
theorem PrAt.len {H : Hp} : ∀ {qs : List Addr} {l : Ps}, PrAt H qs l → qs.length = l.length
  | _, _, .nil => rfl
  | _, _, .cons _ h2 => by rw [List.length_cons, List.length_cons, PrAt.len h2]
theorem PrAt.at {H : Hp} : ∀ {qs : List Addr} {ps : Ps}, PrAt H qs ps → ∀ n, n < ps.length → ∃ q, qs[n]? = some q ∧ H q = some (.tup [.str (S (ps.getD n ([], [])).1), .str (S (ps.getD n ([], [])).2)])
  | _, _, .nil, n, h => by simp at h
  | _, _, .cons h1 _, 0, _ => ⟨_, rfl, h1⟩
  | _, _, .cons _ h2, n + 1, h => by
    obtain ⟨q, e1, e2⟩ := PrAt.at h2 n (by simpa using h)
    exact ⟨q, e1, e2⟩
section
variable {P : Program} {w : World} {K : PySem.W.Frag} {mg : Str → Option Value} {base : Heap}
abbrev s_rank : Stmt := top 31
abbrev n_rank : List Str := ["row"]
theorem sc_rank : FnScope n_rank ["row"] (fnScope s_rank) := fnScope_by (by decide +kernel)
theorem ok_rank (T : BT mg) {f : Addr} {fd : FuncData} (F : Def K mg "_law_rank" s_rank f fd) (b : Binds K fd ["row"] []) : Cal P w K mg base 1 "_law_rank" spOrd [] := by
  refine cal0 F b .nil sc_rank (fun vs H Q E h => ?_) (fun cdv A outer s H vs Q E hr h => ?_)
  · obtain ⟨l, rfl, _⟩ := h; rfl
  · obtain ⟨l, rfl, hl, k⟩ := h
    refine ⟨_, (pss_one (ps_ret (pe_tup (pa_cons (pe_callB call_len_str (by rfl) T.m_len PySem.boot_len (pa_cons (pv 0) pa_nil)) (pa_cons (pv 0) pa_nil))))
      ), ?_⟩
    refine ⟨_, rfl, S l, rfl, by rw [S_len]; exact sz hl (by decide), _, rfl, by show 2 ≤ sizeLine; decide, fun t ht => ?_⟩
    rw [S_len]
    exact k t _ (sm_new ht) upd_same
abbrev s_lmoves : Stmt := top 36
abbrev n_lmoves : List Str := ["pairs", "row", "found", "place", "number", "left", "right"]
theorem sc_lmoves : FnScope n_lmoves ["pairs", "row"] (fnScope s_lmoves) := fnScope_by (by decide +kernel)
def spLMoves : Sp := fun vs H Q _ => ∃ (pl : Addr) (qs : List Addr) (sg : List Nat) (ps : Ps) (row : List Nat), vs = [.ref pl, .str (S row)] ∧ H pl = some (.lst (qs.map V.ref)) ∧ PrAt H qs ps ∧ Gr sg ps ∧ row.length ≤ 40 ∧
  ∀ (p : Addr) (us : List Addr) (H' : Hp), Same H H' → H p = none → H' p = some (.lst (us.map V.ref)) → MvAt H' us (K60.movesL ps row) → Q (.ref p) H'
theorem ok_lmoves (T : BT mg) {f : Addr} {fd : FuncData} (F : Def K mg "_law_moves" s_lmoves f fd) (b : Binds K fd ["pairs", "row"] []) : Cal P w K mg base 1 "_law_moves" spLMoves [] := by
  refine cal0 F b .nil sc_lmoves (fun vs H Q E h => ?_) (fun cdv A outer s H vs Q E hr h => ?_)
  · obtain ⟨pl, _, _, _, row, rfl, _⟩ := h; rfl
  · obtain ⟨pl, qs, sg, ps, row, rfl, hpl, hpr, g, hrow, k⟩ := h
    have hql := hpr.len
    have hfew := g.few
    have br : (S row).length ≤ sizeLine := by rw [S_len]; exact sz hrow (by decide)
    refine ⟨_, (pss_cons (ps_set (i := 2) sc_lmoves.nd rfl (.inl rfl) (pe_lst pa_nil))
      (pss_cons (ps_for PassesOwn.never rfl (pi_range1 (by rfl) T.m_range (pa_cons (pe_callB call_len_str (by rfl) T.m_len PySem.boot_len (pa_cons (pv 1) pa_nil)) pa_nil)) (pg_name (i := 3) sc_lmoves.nd rfl (.inl rfl)) 
        (pss_one (ps_for PassesOwn.never rfl (pi_enumX (by rfl) T.m_enumerate (pa_cons (pv 0) pa_nil)) (tupK K 2 (pgs_cons (pg_name (i := 4) sc_lmoves.nd rfl (.inl rfl)) (pgs_cons (tupK K 2 (pgs_cons (pg_name (i := 5) sc_lmoves.nd rfl (.inl rfl)) (pgs_cons (pg_name (i := 6) sc_lmoves.nd rfl (.inl rfl)) pgs_nil))) pgs_nil))) 
          (pss_one (ps_if (pt_val (pe_bm PySem.F.plainAttrs_str PySem.F.slot_str_startswith PySem.F.type_str_startswith mt_startswith (pe_slice sl_txt (pv 1) (po_some (pv 3)) po_none) (pa_cons (pv 5) pa_nil))) 
            (pss_one (ps_expr (pe_bm PySem.F.plainAttrs_list PySem.F.slot_list_append PySem.F.type_list_append mt_append (pv 2) (pa_cons (pe_tup (pa_cons (pv 3) (pa_cons (pv 4) pa_nil))) pa_nil)))
            )
           pss_nil)
          ))
        ))
      (pss_one (ps_ret (pv 2))
      ))), ?_⟩
    refine ⟨by show 0 ≤ sizeLine; decide, fun fl hfl => ?_⟩
    refine ⟨_, rfl, S row, rfl, br, ?_⟩
    rw [S_len]
    refine ⟨_, rfl, by omega, by omega, ?_⟩
    have en : ((row.length : Nat) : Int).toNat = row.length := by omega
    refine for_it (walk_range (lo := 0) (n := ((row.length : Nat) : Int).toNat)) (fun i σ H' => (∃ s3 s4 s5 s6 : Option V, σ = [some (.ref pl), some (.str (S row)), some (.ref fl), s3, s4, s5, s6]) ∧ ∃ us : List Addr, Same H H' ∧ H' fl = some (.lst (us.map V.ref)) ∧ MvAt H' us ((List.range i).flatMap fun p => (K60.movesAt ps row p).map fun n => (p, n)))
      ⟨⟨_, _, _, _, rfl⟩, [], sm_new hfl, upd_same, .nil⟩ (fun _ _ _ _ _ => trivial) ?_ ?_
    · rintro i x σ H1 H1' hi ⟨⟨s3, s4, s5, s6, rfl⟩, us, w1, e1, m1⟩ ⟨rfl, rfl⟩
      rw [en] at hi
      refine ⟨_, rfl, .ref pl, .lst pl, rfl, rfl, ⟨_, SqL.of (w1 _ _ hpl)⟩, ?_⟩
      refine for_it (walk_enumX (K := K) (S := .lst pl) (xs := qs.map V.ref)) (fun j σ H' => (∃ s4 s5 s6 : Option V, σ = [some (.ref pl), some (.str (S row)), some (.ref fl), some (.int (0 + (i : Int))), s4, s5, s6]) ∧ ∃ us : List Addr, Same H H' ∧ H' fl = some (.lst (us.map V.ref)) ∧ MvAt H' us (((List.range i).flatMap fun p => (K60.movesAt ps row p).map fun n => (p, n)) ++ (((List.range j).filter fun n => K60.hit ps row i n).map fun n => (i, n))))
        ⟨⟨_, _, _, rfl⟩, us, w1, e1, by simpa using m1⟩ (fun _ _ _ _ h => let ⟨_, _, s, _⟩ := h; SqL.of (s _ _ hpl)) ?_ ?_
      · clear s3 s4 s5 s6 e1 m1 w1 us
        rintro j x σ H2 H2' hj ⟨⟨s4, s5, s6, rfl⟩, us, w2, e2, m2⟩ ⟨t, y1, y2, rfl, ht, rfl, f1, f2⟩
        obtain rfl : V.int (j : Nat) = y1 := Option.some.inj f1
        have hjl : j < ps.length := by rw [List.length_map, hql] at hj; exact hj
        obtain ⟨qa, hxq, hqa⟩ := hpr.at j hjl
        have f2 : (qs.map V.ref)[j]? = some y2 := f2
        rw [List.getElem?_map, hxq] at f2
        obtain rfl := Option.some.inj f2
        have hpm : ps.getD j ([], []) ∈ ps := by rw [List.getD_eq_getElem?_getD, List.getElem?_eq_getElem hjl]; exact List.getElem_mem hjl
        have sT : Same H2 (upd H2 t (.tup [.int (j : Nat), .ref qa])) := sm_new ht
        refine ⟨t, _, rfl, .inl (.inl upd_same), rfl, _, _, rfl, _, _, rfl, qa, _, rfl, SqT.of ((w2.trans sT) _ _ hqa), rfl, _, _, rfl, _, _, rfl, rfl, rfl, ?_⟩
        have e3 := sT _ _ e2
        have m3 := m2.same sT
        have w3 := w2.trans sT
        have hul := m2.len
        have hml : (((List.range i).flatMap fun p => (K60.movesAt ps row p).map fun n => (p, n)) ++ (((List.range j).filter fun n => K60.hit ps row i n).map fun n => (i, n))).length ≤ 41 * 20 := by
          have h1 := flat_len (c := 20) (l := List.range i) (f := fun p => (K60.movesAt ps row p).map fun n => (p, n)) fun p _ => by rw [List.length_map]; exact Nat.le_trans (movesAt_len ps row p) hfew
          have h2 := List.length_filter_le (fun n => K60.hit ps row i n) (List.range j)
          rw [List.length_range] at h1 h2
          rw [List.length_append, List.length_map]
          have : i * 20 ≤ 40 * 20 := Nat.mul_le_mul_right _ (by omega)
          omega
        have eT : K60.hit ps row i j = true → ((List.range (j + 1)).filter fun n => K60.hit ps row i n).map (fun n => (i, n)) = (((List.range j).filter fun n => K60.hit ps row i n).map fun n => (i, n)) ++ [(i, j)] := fun hh => by
          rw [List.range_succ, List.filter_append, List.map_append, List.filter_cons_of_pos hh]; rfl
        have eF : K60.hit ps row i j = false → ((List.range (j + 1)).filter fun n => K60.hit ps row i n).map (fun n => (i, n)) = (((List.range j).filter fun n => K60.hit ps row i n).map fun n => (i, n)) := fun hh => by
          rw [List.range_succ, List.filter_append, List.map_append, List.filter_cons_of_neg (by rw [hh]; decide)]
          exact List.append_nil _
        generalize upd H2 t (.tup [.int (j : Nat), .ref qa]) = H3 at e3 m3 w3 ⊢
        refine ⟨_, rfl, _, rfl, _, rfl, _, rfl, br, rfl, _, rfl, _, _, rfl, rfl, _, rfl, ?_⟩
        rw [show (0 : Int) + (i : Int) = ((i : Nat) : Int) by omega, cutn_from, starts_pre]
        rw [show decide ((row.drop i).take (ps.getD j ([], [])).1.length = (ps.getD j ([], [])).1) = K60.hit ps row i j from rfl]
        cases hh : K60.hit ps row i j with
        | true =>
          refine iteB rfl ?_
          refine ⟨_, rfl, .inl ⟨rfl, _, SqL.of e3⟩, ?_⟩
          refine ⟨_, rfl, _, rfl, by show 2 ≤ sizeLine; decide, fun u hu => ?_⟩
          have su := sm_new (o := .tup [.int ((i : Nat) : Int), .int (j : Nat)]) hu
          refine ⟨fl, _, _, rfl, rfl, su _ _ e3, by rw [List.length_map, hul]; exact Nat.lt_of_le_of_lt hml (by decide), ?_⟩
          refine ⟨⟨_, _, _, rfl⟩, us ++ [u], sm_put (w3.trans su) hfl, ?_, ?_⟩
          · rw [upd_same, List.map_append]; rfl
          · rw [eT hh, ← List.append_assoc]
            refine MvAt.put (su _ _ e3) (pr_snoc (m3.same su) ?_)
            rw [upd_same]
        | false =>
          refine iteN rfl ?_
          refine ⟨⟨_, _, _, rfl⟩, us, w3, e3, ?_⟩
          rw [eF hh]; exact m3
      · rintro σ H2 ⟨⟨s4, s5, s6, rfl⟩, us, w2, e2, m2⟩
        refine ⟨⟨_, _, _, _, rfl⟩, us, w2, e2, ?_⟩
        rw [List.range_succ, List.flatMap_append, List.flatMap_singleton]
        rw [List.length_map, hql] at m2
        exact m2
    · rintro σ H1 ⟨⟨s3, s4, s5, s6, rfl⟩, us, w1, e1, m1⟩
      rw [en] at m1
      exact ⟨_, rfl, k fl us H1 w1 hfl e1 m1⟩
end
end Toy
set_option maxHeartbeats 2000000
namespace Toy
open PySem L2 C8 SX LX
local macro_rules | `(tactic| walk_at "c") => `(tactic| refine And.intro (by first | (show (0 : Int) < _; omega) | exact Or.inr ⟨by decide, by decide⟩ | exact Or.inl ⟨by decide, by decide⟩ | (exact ⟨by omega, by omega⟩)) ?_)
local macro_rules | `(tactic| walk_at "s1") => `(tactic| first | refine ⟨_, rfl, ?_⟩ | refine ⟨_, _, rfl, rfl, ?_⟩ | refine .inl ⟨_, rfl, ?_⟩ | walk_at "c")
local macro_rules | `(tactic| walk_at "ix") => `(tactic| refine ⟨_, _, _, _, rfl, rfl, SqL.of (by first | assumption | exact upd_same), rfl, ?_⟩)
local macro_rules | `(tactic| walk_at "s") => `(tactic| repeat (walk_at "s1"))
theorem lay_mv : ∀ (ms : List (Nat × Nat)), PyData.canLayAll0 (ms.map mvD) = true ∧ PyData.depthAll (ms.map mvD) ≤ 4
  | [] => ⟨rfl, Nat.zero_le _⟩
  | m :: ms => by
    obtain ⟨h1, h2⟩ := lay_mv ms
    refine ⟨?_, ?_⟩
    · show (PyData.canLay0 (mvD m) && PyData.canLayAll0 (ms.map mvD)) = true
      rw [h1]; rfl
    · show max (PyData.depth (mvD m)) (PyData.depthAll (ms.map mvD)) ≤ 4
      have : PyData.depth (mvD m) ≤ 4 := by
        show PyData.depthAll [PyData.int (m.1 : Nat), PyData.int (m.2 : Nat)] + 1 ≤ 4
        show max 0 (max 0 0) + 1 ≤ 4
        decide
      omega
theorem shaped_mvs (ms : List (Nat × Nat)) : SeqAt.shaped (.list (ms.map mvD)) = true := by
  obtain ⟨h1, h2⟩ := lay_mv ms
  show (PyData.canLayAll0 _ && decide (PyData.depthAll _ + 1 ≤ 64)) = true
  rw [h1, Bool.true_and, decide_eq_true_eq]; omega
theorem shaped_mvt (ms : List (Nat × Nat)) : SeqAt.shaped (mvsD ms) = true := by
  obtain ⟨h1, h2⟩ := lay_mv ms
  show (PyData.canLayAll0 _ && decide (PyData.depthAll _ + 1 ≤ 64)) = true
  rw [h1, Bool.true_and, decide_eq_true_eq]; omega
theorem eqv_mv_nil (ms : List (Nat × Nat)) : PyData.eqv (.list (ms.map mvD)) (.list []) = decide (ms = []) := by
  cases ms <;> rfl
end Toy
set_option maxHeartbeats 2000000
namespace Toy
open PySem L2 C8 SX LX
local macro_rules | `(tactic| walk_at "c") => `(tactic| refine And.intro (by first | (show (0 : Int) < _; omega) | exact Or.inr ⟨by decide, by decide⟩ | exact Or.inl ⟨by decide, by decide⟩ | (exact ⟨by omega, by omega⟩)) ?_)
local macro_rules | `(tactic| walk_at "s1") => `(tactic| first | refine ⟨_, rfl, ?_⟩ | refine ⟨_, _, rfl, rfl, ?_⟩ | refine .inl ⟨_, rfl, ?_⟩ | walk_at "c")
local macro_rules | `(tactic| walk_at "ix") => `(tactic| refine ⟨_, _, _, _, rfl, rfl, SqL.of (by first | assumption | exact upd_same), rfl, ?_⟩)
local macro_rules | `(tactic| walk_at "s") => `(tactic| repeat (walk_at "s1"))
theorem anyAt_iff {ls : List (List Nat)} {i : Nat} : anyAt ls i = false ↔ ∀ j, j < ls.length → j ≠ i → Sub (ls.getD i []) (ls.getD j []) = false := by
  unfold anyAt takenN
  rw [List.any_eq_false]
  constructor
  · intro h j hj hji
    have := h _ (List.mem_map.mpr ⟨j, List.mem_filter.mpr ⟨List.mem_range.mpr hj, decide_eq_true hji⟩, rfl⟩)
    exact Bool.not_eq_true _ ▸ this
  · intro h x hx
    obtain ⟨j, hj, rfl⟩ := List.mem_map.mp hx
    obtain ⟨h1, h2⟩ := List.mem_filter.mp hj
    rw [id, h j (List.mem_range.mp h1) (of_decide_eq_true h2)]; decide
theorem noSub_iff {ls : List (List Nat)} : noSub ls = true ↔ ∀ i j, i < ls.length → j < ls.length → j ≠ i → Sub (ls.getD i []) (ls.getD j []) = false := by
  constructor
  · intro h i j hi hj hji
    cases e : anyAt ls i with
    | true => rw [noSub_no hi e] at h; cases h
    | false => exact anyAt_iff.mp e j hj hji
  · intro h
    exact noSub_yes fun i hi => anyAt_iff.mpr fun j hj hji => h i j hi hj hji
theorem getD_left {l : List (List Nat)} {x : List Nat} {i : Nat} (h : i < l.length) : (l ++ [x]).getD i [] = l.getD i [] := by
  rw [List.getD_eq_getElem?_getD, List.getD_eq_getElem?_getD, List.getElem?_append_left h]
theorem getD_end {l : List (List Nat)} {x : List Nat} : (l ++ [x]).getD l.length [] = x := by
  rw [List.getD_eq_getElem?_getD, List.getElem?_append_right (Nat.le_refl _)]; simp
theorem getD_mem {l : List (List Nat)} {i : Nat} (h : i < l.length) : l.getD i [] ∈ l := by
  rw [List.getD_eq_getElem?_getD, List.getElem?_eq_getElem h]; exact List.getElem_mem h
theorem noSub_add {ls : List (List Nat)} {x : List Nat} (h : noSub ls = true) (hx : ∀ l ∈ ls, Sub l x = false ∧ Sub x l = false) : noSub (ls ++ [x]) = true := by
  rw [noSub_iff] at h ⊢
  intro i j hi hj hji
  rw [List.length_append, List.length_singleton] at hi hj
  by_cases h1 : i < ls.length
  · by_cases h2 : j < ls.length
    · rw [getD_left h1, getD_left h2]; exact h i j h1 h2 hji
    · obtain rfl : j = ls.length := by omega
      rw [getD_left h1, getD_end]; exact (hx _ (getD_mem h1)).1
  · obtain rfl : i = ls.length := by omega
    have h2 : j < ls.length := by omega
    rw [getD_left h2, getD_end]; exact (hx _ (getD_mem h2)).2
theorem bxsm {b : Addr} {H H1 H2 : Hp} (h : Bx b H H1) (s : Same H1 H2) : Bx b H H2 := ⟨fun a o n e => s _ _ (h.1 a o n e), let ⟨o, e, p⟩ := h.2; ⟨o, s _ _ e, p⟩⟩
structure Drawn (sg : List Nat) (ps : Ps) (n : Nat) : Prop where
  dn : Down sg ps
  short : ∀ p ∈ ps, p.1.length ≤ 4
  few : ps.length ≤ n
  ns : noSub (ps.map (·.1)) = true
theorem drawn_nil (sg : List Nat) (n : Nat) : Drawn sg [] n := ⟨fun _ h => (nomatch h), fun _ h => (nomatch h), Nat.zero_le _, rfl⟩
theorem menu_asc {sg : List Nat} (h : Menu sg) : sg.Pairwise (· < ·) := by
  rcases menu_cases h with rfl | rfl | rfl | rfl <;> decide
theorem Drawn.gr {sg : List Nat} {ps : Ps} {n : Nat} (hm : Menu sg) (hn : n ≤ 20) (h : Drawn sg ps n) : Gr sg ps :=
  ⟨(menu_len hm).2, menu_asc hm, fun c hc => by have := menu_small hm c hc; omega, Nat.le_trans h.few hn, h.dn, fun p hp => Nat.le_trans (h.short p hp) (by decide)⟩
section
variable {P : Program} {w : World} {K : PySem.W.Frag} {mg : Str → Option Value} {base : Heap}
abbrev s_pairs : Stmt := top 35
abbrev n_pairs : List Str := ["box", "signs", "many", "found", "turn", "left", "right", "near", "one", "other"]
theorem sc_pairs : FnScope n_pairs ["box", "signs", "many"] (fnScope s_pairs) := fnScope_by (by decide +kernel)
def spLPairs : Sp := fun vs H Q _ => ∃ (b : Addr) (sg : List Nat) (many : Nat), vs = [.ref b, .str (S sg), .int (many : Nat)] ∧ Menu sg ∧ many ≤ 9 ∧ BoxAt b H ∧
  ∀ (p : Addr) (qs : List Addr) (ps : Ps) (H' : Hp), Bx b H H' → H p = none → H' p = some (.lst (qs.map V.ref)) → PrAt H' qs ps → Drawn sg ps many → Q (.ref p) H'
theorem ok_pairs (T : BT mg) (c_row : Cal P w K mg base 3 "_law_row" spRow []) (c_pick : Cal P w K mg base 2 "_law_pick" (spPick K) []) (c_rank : Cal P w K mg base 1 "_law_rank" spOrd []) {f : Addr} {fd : FuncData} (F : Def K mg "_law_pairs" s_pairs f fd) (b : Binds K fd ["box", "signs", "many"] []) : Cal P w K mg base 4 "_law_pairs" spLPairs [] := by
  refine cal0 F b .nil sc_pairs (fun vs H Q E h => ?_) (fun cdv A outer s H vs Q E hr h => ?_)
  · obtain ⟨b, sg, many, rfl, _⟩ := h; rfl
  · obtain ⟨b, sg, many, rfl, hm, h4, hb, k⟩ := h
    have hsl := menu_len hm
    refine ⟨_, (pss_cons (ps_set (i := 3) sc_pairs.nd rfl (.inl rfl) (pe_lst pa_nil))
      (pss_cons (ps_for PassesOwn.never rfl (pi_range1 (by rfl) T.m_range (pa_cons (pv 2) pa_nil)) (pg_name (i := 4) sc_pairs.nd rfl (.inl rfl)) 
        (pss_cons (ps_set (i := 5) sc_pairs.nd rfl (.inr rfl) (pe_op op_add_str (pe_c c_row hr (by first | decide | omega) (by rfl) (pa_cons (pv 0) (pa_cons (pv 1) (pa_cons pe_int pa_nil)))) (pe_c c_pick hr (by first | decide | omega) (by rfl) (pa_cons (pv 0) (pa_cons (pv 1) pa_nil)))))
        (pss_cons (ps_set (i := 6) sc_pairs.nd rfl (.inl rfl) (pe_c c_row hr (by first | decide | omega) (by rfl) (pa_cons (pv 0) (pa_cons (pv 1) (pa_cons (pe_callB call_len_str (by rfl) T.m_len PySem.boot_len (pa_cons (pv 5) pa_nil)) pa_nil)))))
        (pss_one (ps_if (pt_cmpR (op_ltP hr.units0) (pe_c c_rank hr (by first | decide | omega) (by rfl) (pa_cons (pv 6) pa_nil)) (pe_c c_rank hr (by first | decide | omega) (by rfl) (pa_cons (pv 5) pa_nil)) (nomark _)) 
          (pss_cons (ps_setLc (i := 7) (own := [("one", 8), ("other", 9)]) rfl sc_pairs.nd rfl rfl rfl (pi_list (pv 3)) (blkOk_by (N := n_pairs) (sc := fnScope s_pairs) (by decide +kernel)) (fun _ _ _ _ _ => (tupK K 2 (pgs_cons (pg_name (i := 8) sc_pairs.nd rfl (.inl rfl)) (pgs_cons (pg_name (i := 9) sc_pairs.nd rfl (.inl rfl)) pgs_nil)))) (fun _ _ _ _ _ => pts_one (PW.pt (pw_or (pt_cmpR op_inSub (pv 8) (pv 5) rfl) (pw_or1 (pt_cmpR op_inSub (pv 5) (pv 8) rfl))))) (fun _ _ _ _ _ => (pv 8)))
          (pss_one (ps_set (i := 3) sc_pairs.nd rfl (.inl rfl) (pe_op op_cat (pv 3) (pe_ifExp (pt_cmpR (op_eqDK K hr) (pv 7) (pe_lst pa_nil) (nomark _)) (pe_lst (pa_cons (pe_tup (pa_cons (pv 5) (pa_cons (pv 6) pa_nil))) pa_nil)) (pe_lst pa_nil))))
          ))
         pss_nil)
        ))))
      (pss_one (ps_ret (pv 3))
      ))), ?_⟩
    refine ⟨by show 0 ≤ sizeLine; decide, fun fl hfl => ?_⟩
    have b1 : Bx b H (upd H fl (.lst [])) := Bx.put (bk_same (Same.refl H) hb) hb hfl
    refine ⟨_, rfl, _, rfl, by omega, by omega, ?_⟩
    have en : ((many : Nat) : Int).toNat = many := by omega
    refine for_it (walk_range (lo := 0) (n := ((many : Nat) : Int).toNat)) (fun i σ H' => ∃ (fl : Addr) (qs : List Addr) (ps : Ps) (s4 s5 s6 s7 : Option V), σ = [some (.ref b), some (.str (S sg)), some (.int (many : Nat)), some (.ref fl), s4, s5, s6, s7, none, none] ∧ Bx b H H' ∧ H fl = none ∧ H' fl = some (.lst (qs.map V.ref)) ∧ PrAt H' qs ps ∧ Drawn sg ps i)
      ⟨fl, [], [], _, _, _, _, rfl, b1, hfl, upd_same, .nil, drawn_nil sg 0⟩ (fun _ _ _ _ _ => trivial) ?_ ?_
    · clear b1 hfl fl
      rintro i x σ H1 H1' hi ⟨fl, qs, ps, s4, s5, s6, s7, rfl, b1, hfl, e1, p1, d1⟩ ⟨rfl, rfl⟩
      rw [en] at hi
      have nfb : fl ≠ b := box_ne hb hfl
      refine ⟨_, rfl, _, rfl, b, sg, 3, rfl, hm, by decide, b1.2, fun l1 H2 ho1 hl1 b2 => ?_⟩
      refine ⟨_, rfl, _, rfl, b, .str (S sg), _, rfl, b2.2, (fun e => nomatch e), seq_text (by omega), by simpa using hsl.1, by simp; omega, fun v H3 hv b3 => ?_⟩
      obtain ⟨c, hc, rfl⟩ := List.mem_map.mp hv
      refine ⟨_, _, rfl, rfl, by rw [S_len, S_len]; exact sz (m := 4) (by simp; omega) (by decide), ?_⟩
      rw [S_cat]
      have hlo : Ov sg (l1 ++ [c]) := fun d hd => by
        rcases List.mem_append.mp hd with hd | hd
        · exact ho1 d hd
        · rw [List.mem_singleton.mp hd]; exact hc
      have hll : (l1 ++ [c]).length ≤ 4 := by simp; omega
      generalize l1 ++ [c] = left at hlo hll ⊢
      have hln := hll
      refine ⟨_, rfl, _, rfl, _, rfl, S left, rfl, by rw [S_len]; exact sz hll (by decide), ?_⟩
      rw [S_len]
      refine ⟨b, sg, left.length, rfl, hm, by omega, b3.2, fun rt H4 hor hrl b4 => ?_⟩
      have nb14 : ∀ a o, a ≠ b → H1' a = some o → H4 a = some o := fun a o n e => b4.1 _ _ n (b3.1 _ _ n (b2.1 _ _ n e))
      have e4 := nb14 _ _ nfb e1
      have b14 : Bx b H1' H4 := ⟨nb14, b4.2⟩
      have p4 := p1.bx b1.2 b14
      have B4 : Bx b H H4 := ⟨fun a o n e => nb14 _ _ n (b1.1 _ _ n e), b4.2⟩
      clear b14 nb14 b4 b3 b2 hv b1 e1 p1
      refine ⟨_, rfl, rt, rfl, by omega, fun t H5 s5 ht5 => ⟨_, rfl, left, rfl, by omega, fun t2 H6 s6 ht6 => ⟨t, t2, rt, left, rfl, rfl, s6 _ _ ht5, ht6, _, rfl, ?_⟩⟩⟩
      have e6 := (s5.trans s6) _ _ e4
      have p6 := p4.same (s5.trans s6)
      have B6 := bxsm B4 (s5.trans s6)
      clear e4 p4 B4 s5 s6 ht5 ht6
      by_cases hord : OrdL rt left
      · refine iteB (decide_eq_true hord) ?_
        have hql := p6.len
        have hfew := d1.few
        refine ⟨_, rfl, fl, rfl, ⟨_, SqL.of e6⟩, fun D hD => ?_⟩
        refine lc_keepF keep_same (walk_list (K := K) (a := fl) (xs := qs.map V.ref)) hD (by rw [List.length_map, hql]; exact small1000 (by omega)) (fun j => Sub (ps.getD j ([], [])).1 left || Sub left (ps.getD j ([], [])).1) (fun j y _ => y = .str (S (ps.getD j ([], [])).1)) (fun H r => SqL.of (r _ _ e6)) (fun _ _ _ _ _ _ h => h) (fun _ _ _ _ _ _ _ h => h) (fun j x Hx Hy acc N R hj r hDa hy hR hN => ?_) (fun ys H7 hly hg w7 hDs => ?_)
        · obtain ⟨rfl, f1⟩ := hy
          have hjl : j < ps.length := by rw [List.length_map, hql] at hj; exact hj
          obtain ⟨qa, hxq, hqa⟩ := p6.at j hjl
          rw [List.getElem?_map, hxq] at f1
          obtain rfl := Option.some.inj f1
          refine ⟨qa, _, rfl, SqT.of (r _ _ hqa), rfl, _, _, rfl, _, _, rfl, rfl, rfl, ?_⟩
          refine ⟨_, rfl, _, rfl, _, left, rfl, rfl, _, rfl, ?_⟩
          cases h1 : Sub (ps.getD j ([], [])).1 left with
          | true =>
            refine iteB rfl (iteB rfl ?_)
            exact ⟨_, rfl, hR (by rw [h1]; rfl) _ _ (Same.refl _) rfl⟩
          | false =>
            refine iteN rfl ?_
            refine ⟨_, rfl, _, rfl, left, _, rfl, rfl, _, rfl, ?_⟩
            cases h2 : Sub left (ps.getD j ([], [])).1 with
            | true =>
              refine iteB rfl ?_
              exact ⟨_, rfl, hR (by rw [h1, h2]; rfl) _ _ (Same.refl _) rfl⟩
            | false =>
              refine iteN rfl ?_
              exact hN (by rw [h1, h2]; rfl) _ (Same.refl _)
        rw [List.length_map, hql] at hly hg
        generalize hT : takenN (fun j => Sub (ps.getD j ([], [])).1 left || Sub left (ps.getD j ([], [])).1) ps.length = T0 at hly hg
        have ey : ys = txs (T0.map fun j => (ps.getD j ([], [])).1) := by
          unfold txs
          rw [List.map_map]
          exact list_map hly fun j y c e1 e2 => hg j c y e2 e1
        subst ey
        have e7 := w7 _ _ e6
        have p7 := p6.same w7
        have B7 := bxsm B6 w7
        clear e6 p6 B6 w7 hly hg hD
        have hsm : Small (T0.map fun j => (ps.getD j ([], [])).1) := fun l hl c hc => by
          obtain ⟨j, hj, rfl⟩ := List.mem_map.mp hl
          rw [← hT] at hj
          have hjl := List.mem_range.mp (List.mem_filter.mp hj).1
          have hpm : ps.getD j ([], []) ∈ ps := by rw [List.getD_eq_getElem?_getD, List.getElem?_eq_getElem hjl]; exact List.getElem_mem hjl
          have := menu_small hm c ((d1.dn _ hpm).1 c hc)
          omega
        refine ⟨_, rfl, _, rfl, by show 0 ≤ sizeLine; decide, fun e he => ?_⟩
        have w8 := sm_new (o := .lst []) he
        refine ⟨.list ((T0.map fun j => (ps.getD j ([], [])).1).map fun l => .str (S l)), .list [], .lst (SqL.of (w8 _ _ hDs)) (dp_strs _), .lst (SqL.of upd_same) .nil, shaped_lst hsm, shaped_lst (xs := []) (fun _ h => nomatch h), _, rfl, ?_⟩
        rw [show PyData.eqv (.list ((T0.map fun j => (ps.getD j ([], [])).1).map fun l => .str (S l))) (.list []) = _ from eqv_strs _ []]
        have e8 := w8 _ _ e7
        have p8 := p7.same w8
        have B8 := bxsm B7 w8
        generalize upd H7 e (.lst []) = H8 at e8 p8 B8 ⊢
        clear e7 p7 B7 w8 he hDs hsm
        by_cases hT0 : T0 = []
        · refine iteB (decide_eq_true (by rw [hT0]; rfl)) ?_
          refine ⟨_, rfl, _, rfl, by show 2 ≤ sizeLine; decide, fun u hu => ⟨by show 1 ≤ sizeLine; decide, fun l hl => ?_⟩⟩
          have wu := sm_new (o := .tup [.str (S left), .str (S rt)]) hu
          have wl := wu.trans (sm_new (o := .lst [.ref u]) hl)
          have hu9 : (upd (upd H8 u (.tup [.str (S left), .str (S rt)])) l (.lst [.ref u])) u = some (.tup [.str (S left), .str (S rt)]) := sm_new hl _ _ upd_same
          have hl9 : (upd (upd H8 u (.tup [.str (S left), .str (S rt)])) l (.lst [.ref u])) l = some (.lst [.ref u]) := upd_same
          have e9 := wl _ _ e8
          have p9 := p8.same wl
          have B9 := bxsm B8 wl
          generalize upd (upd H8 u (.tup [.str (S left), .str (S rt)])) l (.lst [.ref u]) = H9 at hu9 hl9 e9 p9 B9 ⊢
          refine ⟨fl, l, _, _, rfl, rfl, e9, hl9, by rw [List.length_map, hql]; exact Nat.le_of_lt (small1000 (by simp; omega)), fun g' hg' => ?_⟩
          have wg := sm_new (o := .lst (qs.map V.ref ++ [.ref u])) hg'
          have p10 : PrAt H9 (qs ++ [u]) (ps ++ [(left, rt)]) := pr_snoc p9 hu9
          refine ⟨g', qs ++ [u], ps ++ [(left, rt)], _, _, _, _, rfl, bxsm B9 wg, B9.free hg', by rw [upd_same, List.map_append]; rfl, p10.same wg, ?_, ?_, ?_, ?_⟩
          · intro p hp
            rcases List.mem_append.mp hp with hp | hp
            · exact d1.dn p hp
            · rw [List.mem_singleton.mp hp]; exact ⟨hlo, hor, hord⟩
          · intro p hp
            rcases List.mem_append.mp hp with hp | hp
            · exact d1.short p hp
            · rw [List.mem_singleton.mp hp]; exact hll
          · rw [List.length_append, List.length_singleton]; omega
          · rw [List.map_append]
            refine noSub_add d1.ns fun x hx => ?_
            obtain ⟨p, hp, rfl⟩ := List.mem_map.mp hx
            obtain ⟨j, hj⟩ := List.getElem?_of_mem hp
            have hjl := (List.getElem?_eq_some_iff.mp hj).1
            have hgd : ps.getD j ([], []) = p := by rw [List.getD_eq_getElem?_getD, hj]; rfl
            rw [hT0] at hT
            have := List.filter_eq_nil_iff.mp hT j (List.mem_range.mpr hjl)
            rw [hgd, Bool.or_eq_true, not_or, Bool.not_eq_true, Bool.not_eq_true] at this
            exact this
        · refine iteN (decide_eq_false fun h => hT0 (by simpa using h)) ?_
          refine ⟨by show 0 ≤ sizeLine; decide, fun l hl => ?_⟩
          have wl := sm_new (o := .lst []) hl
          refine ⟨fl, l, _, _, rfl, rfl, wl _ _ e8, upd_same, by rw [List.length_map, hql]; exact Nat.le_of_lt (small1000 (by simp; omega)), fun g' hg' => ?_⟩
          have B9 := bxsm B8 wl
          have wg := sm_new (o := .lst (qs.map V.ref ++ [])) hg'
          exact ⟨g', qs, ps, _, _, _, _, rfl, bxsm B9 wg, B9.free hg', by rw [upd_same, List.append_nil], (p8.same wl).same wg, ⟨d1.dn, d1.short, Nat.le_succ_of_le d1.few, d1.ns⟩⟩
      · refine iteN (decide_eq_false hord) ?_
        exact ⟨fl, qs, ps, _, _, _, _, rfl, B6, hfl, e6, p6, ⟨d1.dn, d1.short, Nat.le_succ_of_le d1.few, d1.ns⟩⟩
    · rintro σ H1 ⟨fl, qs, ps, s4, s5, s6, s7, rfl, b1, hfl, e1, p1, d1⟩
      rw [en] at d1
      exact ⟨_, rfl, k fl qs ps H1 b1 hfl e1 p1 d1⟩
end
end Toy
set_option autoImplicit false
namespace K62
abbrev Tx := List Nat
def lsuf (p : Tx → Bool) : Tx → Tx
  | [] => []
  | c :: r => if p (c :: r) = true then c :: r else lsuf p r
section
variable {p : Tx → Bool}
theorem lsuf_suf : ∀ v : Tx, lsuf p v <:+ v
  | [] => List.suffix_refl _
  | c :: r => by
    unfold lsuf
    split
    · exact List.suffix_refl _
    · exact List.IsSuffix.trans (lsuf_suf r) (List.suffix_cons c r)
theorem lsuf_p (h : p [] = true) : ∀ v : Tx, p (lsuf p v) = true
  | [] => h
  | c :: r => by
    unfold lsuf
    split
    · assumption
    · exact lsuf_p h r
theorem lsuf_max {w : Tx} (hw : p w = true) : ∀ v : Tx, w <:+ v → w <:+ lsuf p v
  | [], h => h
  | c :: r, h => by
    unfold lsuf
    split
    · exact h
    · rename_i hn
      rcases List.suffix_cons_iff.mp h with e | h
      · rw [e] at hw; exact absurd hw hn
      · exact lsuf_max hw r h
theorem suf_anti {a b : Tx} (h1 : a <:+ b) (h2 : b <:+ a) : a = b := h1.eq_of_length (Nat.le_antisymm h1.length_le h2.length_le)
theorem lsuf_eq (h0 : p [] = true) {u v : Tx} (h : u <:+ v) (hm : ∀ w : Tx, w <:+ v → p w = true → w <:+ u) : lsuf p u = lsuf p v :=
  suf_anti (lsuf_max (lsuf_p h0 u) v ((lsuf_suf u).trans h)) (lsuf_max (lsuf_p h0 v) u (hm _ (lsuf_suf v) (lsuf_p h0 v)))
end
def Bg (ls : List Tx) (u : Tx) : Prop := u = [] ∨ ∃ l ∈ ls, ∃ z : Tx, z ≠ [] ∧ l = u ++ z
def Plain (ls : List Tx) (v : Tx) : Prop := ∀ l ∈ ls, ∀ a z : Tx, v ≠ a ++ l ++ z
theorem bg_init {ls : List Tx} {u : Tx} {c : Nat} (h : Bg ls (u ++ [c])) : Bg ls u := by
  rcases h with h | ⟨l, hl, z, hz, e⟩
  · simp at h
  · exact .inr ⟨l, hl, c :: z, by simp, by rw [e, List.append_assoc]; rfl⟩
theorem suf_snoc {w v : Tx} {c : Nat} (h : w <:+ v ++ [c]) : w = [] ∨ ∃ w', w = w' ++ [c] ∧ w' <:+ v := by
  obtain ⟨a, e⟩ := h
  rcases List.eq_nil_or_concat w with rfl | ⟨w', d, rfl⟩
  · exact .inl rfl
  · rw [List.concat_eq_append] at e ⊢
    rw [← List.append_assoc] at e
    obtain ⟨e1, e2⟩ := List.append_inj' e rfl
    cases e2
    exact .inr ⟨w', rfl, a, e1⟩
theorem suf_of_snoc {w' u : Tx} {c : Nat} (h : w' <:+ u) : w' ++ [c] <:+ u ++ [c] := by
  obtain ⟨a, rfl⟩ := h
  exact ⟨a, by rw [List.append_assoc]⟩
theorem plain_init {ls : List Tx} {v : Tx} {c : Nat} (h : Plain ls (v ++ [c])) : Plain ls v := fun l hl a z e => h l hl a (z ++ [c]) (by rw [e]; simp [List.append_assoc])
theorem plain_snoc {ls : List Tx} {v : Tx} {c : Nat} (h : Plain ls v) (hn : ∀ l ∈ ls, ¬ l <:+ v ++ [c]) : Plain ls (v ++ [c]) := fun l hl a z e => by
  rcases List.eq_nil_or_concat z with rfl | ⟨z', d, rfl⟩
  · rw [List.append_nil] at e
    exact hn l hl ⟨a, e.symm⟩
  · rw [List.concat_eq_append, ← List.append_assoc] at e
    obtain ⟨e1, _⟩ := List.append_inj' e rfl
    exact h l hl a z' e1
section
variable {ls : List Tx} {p : Tx → Bool} (hp : ∀ u, p u = true ↔ Bg ls u) (hne : ∀ l ∈ ls, l ≠ [])
def stepL (ls : List Tx) (p : Tx → Bool) : Option Tx → Nat → Option Tx
  | none, _ => none
  | some u, c => if (ls.any fun l => decide (l <:+ u ++ [c])) = true then none else some (lsuf p (u ++ [c]))
include hp hne
theorem left_in {v : Tx} {c : Nat} {l : Tx} (hl : l ∈ ls) (h : l <:+ v ++ [c]) : l <:+ lsuf p v ++ [c] := by
  rcases suf_snoc h with rfl | ⟨w', rfl, hw⟩
  · exact absurd rfl (hne _ hl)
  · exact suf_of_snoc (lsuf_max ((hp w').mpr (.inr ⟨_, hl, [c], by simp, rfl⟩)) v hw)
theorem hold_next (v : Tx) (c : Nat) : lsuf p (lsuf p v ++ [c]) = lsuf p (v ++ [c]) := by
  have h0 : p [] = true := (hp []).mpr (.inl rfl)
  refine lsuf_eq h0 (suf_of_snoc (lsuf_suf v)) fun w hw hpw => ?_
  rcases suf_snoc hw with rfl | ⟨w', rfl, hw'⟩
  · exact List.nil_suffix
  · exact suf_of_snoc (lsuf_max ((hp w').mpr (bg_init ((hp _).mp hpw))) v hw')
theorem hold_all (v : Tx) : (Plain ls v → v.foldl (stepL ls p) (some []) = some (lsuf p v)) ∧ (¬ Plain ls v → v.foldl (stepL ls p) (some []) = none) := by
  have key : ∀ n (v : Tx), v.length = n → (Plain ls v → v.foldl (stepL ls p) (some []) = some (lsuf p v)) ∧ (¬ Plain ls v → v.foldl (stepL ls p) (some []) = none) := by
    intro n
    induction n with
    | zero =>
      intro v hv
      rw [List.length_eq_zero_iff.mp hv]
      refine ⟨fun _ => rfl, fun h => absurd (fun l hl a z e => ?_) h⟩
      have : (a ++ l ++ z).length = 0 := by rw [← e]; rfl
      simp only [List.length_append] at this
      exact hne l hl (List.length_eq_zero_iff.mp (by omega))
    | succ n ih =>
      intro v hv
      rcases List.eq_nil_or_concat v with rfl | ⟨u, c, rfl⟩
      · simp at hv
      · rw [List.concat_eq_append] at hv ⊢
        have hu : u.length = n := by simpa using hv
        obtain ⟨ih1, ih2⟩ := ih u hu
        rw [List.foldl_append, List.foldl_cons, List.foldl_nil]
        constructor
        · intro hP
          rw [ih1 (plain_init hP)]
          show (if (ls.any fun l => decide (l <:+ lsuf p u ++ [c])) = true then none else some (lsuf p (lsuf p u ++ [c]))) = _
          rw [if_neg, hold_next hp hne]
          intro ha
          obtain ⟨l, hl, e⟩ := List.any_eq_true.mp ha
          have hs := (of_decide_eq_true e).trans (suf_of_snoc (c := c) (lsuf_suf (p := p) u))
          obtain ⟨a, ea⟩ := hs
          exact hP l hl a [] (by rw [List.append_nil]; exact ea.symm)
        · intro hP
          by_cases hu2 : Plain ls u
          · rw [ih1 hu2]
            show (if (ls.any fun l => decide (l <:+ lsuf p u ++ [c])) = true then none else some (lsuf p (lsuf p u ++ [c]))) = _
            rw [if_pos]
            have : ∃ l ∈ ls, l <:+ u ++ [c] := Classical.byContradiction fun hno => hP (plain_snoc hu2 fun l hl hs => hno ⟨l, hl, hs⟩)
            obtain ⟨l, hl, hs⟩ := this
            exact List.any_eq_true.mpr ⟨l, hl, decide_eq_true (left_in hp hne hl hs)⟩
          · rw [ih2 hu2]; rfl
  exact key v.length v rfl
end
end K62
set_option maxHeartbeats 2000000
namespace LX
open PySem PySem.Spec PyProof.Rows L2 C8 SX
mutual
inductive NK (K : PySem.W.Frag) (H : Hp) : V → NestedKey → Prop
  | int (i : Int) : NK K H (.int i) (.num i)
  | bl (b : Bool) : NK K H (.bl b) (.num (if b = true then 1 else 0))
  | str (x : Str) : NK K H (.str x) (.text x)
  | tup {p : Addr} {xs : List V} {ks : List NestedKey} (h : SqT K H p xs) (hs : NKs K H xs ks) : NK K H (.ref p) (.tup ks)
inductive NKs (K : PySem.W.Frag) (H : Hp) : List V → List NestedKey → Prop
  | nil : NKs K H [] []
  | cons {x : V} {k : NestedKey} {xs : List V} {ks : List NestedKey} (h : NK K H x k) (hs : NKs K H xs ks) : NKs K H (x :: xs) (k :: ks)
end
mutual
theorem nk_same {K : PySem.W.Frag} {H H' : Hp} (s : Same H H') : ∀ (k : NestedKey) (x : V), NK K H x k → NK K H' x k
  | .num i, x, h => by
    cases h with
    | int => exact .int i
    | bl b => exact .bl b
  | .text y, x, h => by cases h with | str => exact .str y
  | .none, x, h => by cases h
  | .tup ks, x, h => by
    cases h with
    | tup h hs => exact .tup (sm_seqT s h) (nks_same s ks _ hs)
theorem nks_same {K : PySem.W.Frag} {H H' : Hp} (s : Same H H') : ∀ (ks : List NestedKey) (xs : List V), NKs K H xs ks → NKs K H' xs ks
  | [], xs, h => by cases h; exact .nil
  | k :: ks, xs, h => by
    cases h with
    | cons h hs => exact .cons (nk_same s k _ h) (nks_same s ks _ hs)
end
section
variable {X : Cx} {pins : List (Addr × Obj)} {σ : L2.St} {H : Hp} {s : Shared}
mutual
theorem nk_is (I : Inv X pins σ H s) : ∀ (k : NestedKey) (x : V) (v : Value), NK X.K H x k → RelV x v → NestedIs s.heap k v
  | .num i, x, v, h, r => by
    cases h with
    | int => obtain ⟨t, rfl⟩ := r; exact .int i t
    | bl b => cases r; exact .bool rfl
  | .text y, x, v, h, r => by
    cases h with
    | str => obtain ⟨t, rfl⟩ := r; exact .text y t
  | .none, x, v, h, r => by cases h
  | .tup ks, x, v, h, r => by
    cases h with
    | @tup p xs _ h hs =>
      cases r
      obtain ⟨its, r', ⟨o, ho, hc, n, hd⟩, _⟩ := I.tuple h
      exact .tup ho hc hd (nks_is I ks xs _ hs r')
theorem nks_is (I : Inv X pins σ H s) : ∀ (ks : List NestedKey) (xs : List V) (vs : List Value), NKs X.K H xs ks → Vals xs vs → NestedAll s.heap ks vs
  | [], xs, vs, h, r => by cases h; cases r; exact .nil
  | k :: ks, xs, vs, h, r => by
    cases h with
    | cons h hs =>
      cases r with
      | cons r rs => exact .cons (nk_is I k _ _ h r) (nks_is I ks _ _ hs rs)
end
end
abbrev NKV := List (NestedKey × Addr × V)
def NP : NKV → List (NestedKey × Addr × Value) → Prop := Paired fun p q => p.1 = q.1 ∧ p.2.1 = q.2.1 ∧ RelV p.2.2 q.2.2
def NDR (P : Program) (w : World) (h : Heap) (a : Addr) (kvs : NKV) : Prop := (a == sysModules) = false ∧ kvs.length ≤ sizeLine ∧ ∃ xs, NP kvs xs ∧ ∃ o es ep, h.get? a = some o ∧ o.ExactDict ∧ o.data = .dict es ep ∧ es.toList = xs.map (entryOfKey (nestedKind P w)) ∧ (xs.map (·.1)).Nodup
def NDO (P : Program) (w : World) (a : Addr) (kvs : NKV) : HO := .ext fun h => NDR P w h a kvs
def atN (kvs : NKV) (k : NestedKey) : Option V := (kvs.find? fun p => decide (p.1 = k)).map (·.2.2)
def putN (kvs : NKV) (k : NestedKey) (a : Addr) (y : V) : NKV := if (atN kvs k).isSome then kvs.map (fun p => if p.1 = k then (p.1, p.2.1, y) else p) else kvs ++ [(k, a, y)]
theorem np_some {kvs : NKV} {xs : List (NestedKey × Addr × Value)} {k : NestedKey} {y : V} (h : NP kvs xs) (e : atN kvs k = some y) : ∃ p, atKey xs k = some p ∧ RelV y p.2 := by
  unfold NP at h
  induction h with
  | nil => cases e
  | @cons p q ps qs h t ih =>
    obtain ⟨h1, h2, h3⟩ := h
    unfold atN atKey at *
    by_cases hk : p.1 = k
    · rw [List.find?_cons_of_pos (by simpa using hk)] at e
      cases e
      exact ⟨q.2, by rw [List.find?_cons_of_pos (by rw [← h1]; simpa using hk)]; rfl, h3⟩
    · rw [List.find?_cons_of_neg (by simpa using hk)] at e
      obtain ⟨r, er, rr⟩ := ih e
      exact ⟨r, by rw [List.find?_cons_of_neg (by rw [← h1]; simpa using hk)]; exact er, rr⟩
theorem np_none {kvs : NKV} {xs : List (NestedKey × Addr × Value)} {k : NestedKey} (h : NP kvs xs) (e : atN kvs k = none) : atKey xs k = none := by
  unfold NP at h
  induction h with
  | nil => rfl
  | @cons p q ps qs h t ih =>
    obtain ⟨h1, h2, h3⟩ := h
    unfold atN atKey at *
    by_cases hk : p.1 = k
    · rw [List.find?_cons_of_pos (by simpa using hk)] at e
      cases e
    · rw [List.find?_cons_of_neg (by simpa using hk)] at e
      rw [List.find?_cons_of_neg (by rw [← h1]; simpa using hk)]
      exact ih e
theorem np_iff {kvs : NKV} {xs : List (NestedKey × Addr × Value)} {k : NestedKey} (h : NP kvs xs) : (atKey xs k).isSome = (atN kvs k).isSome := by
  cases e : atN kvs k with
  | none => rw [np_none h e]; rfl
  | some y => obtain ⟨p, ep, _⟩ := np_some h e; rw [ep]; rfl
theorem np_map {kvs : NKV} {xs : List (NestedKey × Addr × Value)} {k : NestedKey} {y : V} {v : Value} (h : NP kvs xs) (r : RelV y v) : NP (kvs.map fun p => if p.1 = k then (p.1, p.2.1, y) else p) (xs.map (putAt k v)) := by
  unfold NP at h ⊢
  induction h with
  | nil => exact .nil
  | @cons p q ps qs h t ih =>
    obtain ⟨h1, h2, h3⟩ := h
    rw [List.map_cons, List.map_cons]
    refine .cons ?_ ih
    unfold putAt
    by_cases hk : p.1 = k
    · rw [if_pos hk, if_pos (by rw [← h1]; exact hk)]; exact ⟨h1, h2, r⟩
    · rw [if_neg hk, if_neg (by rw [← h1]; exact hk)]; exact ⟨h1, h2, h3⟩
theorem np_app {kvs : NKV} {xs : List (NestedKey × Addr × Value)} {k : NestedKey} {a : Addr} {y : V} {v : Value} (h : NP kvs xs) (r : RelV y v) : NP (kvs ++ [(k, a, y)]) (xs ++ [(k, a, v)]) := by
  unfold NP at h ⊢
  induction h with
  | nil => exact .cons ⟨rfl, rfl, r⟩ .nil
  | cons h t ih => exact .cons h ih
theorem np_put {kvs : NKV} {xs : List (NestedKey × Addr × Value)} {k : NestedKey} {a : Addr} {y : V} {v : Value} (h : NP kvs xs) (r : RelV y v) : NP (putN kvs k a y) (storedH xs k a v) := by
  unfold putN storedH
  rw [np_iff h]
  split
  · exact np_map h r
  · exact np_app h r
theorem putN_len (kvs : NKV) (k : NestedKey) (a : Addr) (y : V) : (putN kvs k a y).length ≤ kvs.length + 1 := by
  unfold putN
  split
  · rw [List.length_map]; omega
  · rw [List.length_append]; simp
section
variable {X : Cx} {pins : List (Addr × Obj)} {σ : L2.St} {H : Hp} {s : Shared} {a : Addr} {kvs : NKV}
theorem nd_new {P : Program} {w : World} {h : Heap} (R : NDR P w h a kvs) : ObjOk P w H h a (NDO P w a kvs) := by
  obtain ⟨r1, r2, xs, r3, o, es, ep, h1, h2, h3, h4, h5⟩ := id R
  exact ⟨R, ⟨o, h1⟩, fun g1 g2 ⟨q1, q2, ys, q3, u, es', ep', p1, p2, p3, p4, p5⟩ kk => ⟨q1, q2, ys, q3, u, es', ep', kk _ p1, p2, p3, p4, p5⟩⟩
def NKeys (K : PySem.W.Frag) (H : Hp) (kvs : NKV) : Prop := ∀ p ∈ kvs, NK K H (.ref p.2.1) p.1 ∧ p.1.depth ≤ 8
theorem NKeys.same {K : PySem.W.Frag} {H' : Hp} (h : NKeys K H kvs) (s : Same H H') : NKeys K H' kvs := fun p hp => ⟨nk_same s _ _ (h p hp).1, (h p hp).2⟩
theorem nd_dict (I : Inv X pins σ H s) (ha : H a = some (NDO X.prog X.w a kvs)) (hk : NKeys X.K H kvs) : (a == sysModules) = false ∧ kvs.length ≤ sizeLine ∧ ∃ xs, NP kvs xs ∧ s.heap.DictOfH (nestedKind X.prog X.w) a xs := by
  obtain ⟨r1, r2, xs, r3, o, es, ep, h1, h2, h3, h4, h5⟩ := (I.hok a _ ha).1
  refine ⟨r1, r2, xs, r3, o, es, ep, h1, h2, h3, h4, fun q hq => ?_, h5⟩
  have : ∀ {l : NKV} {m : List (NestedKey × Addr × Value)}, NP l m → (∀ p ∈ l, NK X.K H (.ref p.2.1) p.1 ∧ p.1.depth ≤ 8) → ∀ q ∈ m, (nestedKind X.prog X.w).is s.heap q.1 q.2.1 := by
    intro l m np
    unfold NP at np
    induction np with
    | nil => intro _ q hq; cases hq
    | @cons p q ps qs h t ih =>
      intro hl z hz
      rcases List.mem_cons.mp hz with rfl | hz
      · obtain ⟨e1, e2, _⟩ := h
        obtain ⟨n1, n2⟩ := hl p List.mem_cons_self
        rw [← e1, ← e2]
        exact ⟨nk_is I _ _ _ n1 rfl, n2⟩
      · exact ih (fun p hp => hl p (List.mem_cons_of_mem _ hp)) z hz
  exact this r3 hk q hq
def tDNewN (P : Program) (w : World) : TE := fun σ H Q => ∀ p, H p = none → Q (.ref p) (upd H p (NDO P w p []))
theorem pe_dnewN {pos : Pos} : PE X (.Dict [] [] pos) (tDNewN X.prog X.w) := ⟨fun pins s σ H Q I h => by
  refine wpAny_Dict_empty ⟨.ref s.heap.objs.size, _, I.laid (a := s.heap.objs.size) (o := NDO X.prog X.w s.heap.objs.size []) (t' := s.toks) (fun _ _ q => Heap.get?_push_of_some _ q) (Nat.le_refl _) (nd_new ?_), rfl, h _ (I.hok.fresh (Nat.le_refl _))⟩
  have e := dt_empty (P := X.prog) (w := X.w) (H := upd H s.heap.objs.size (.dT [])) s.heap I.big
  obtain ⟨z, hd, xs, rel, o, es, ep, h1, h2, h3, h4, h5⟩ := (show ObjOk X.prog X.w _ _ _ (.dT []) from e)
  cases rel
  exact ⟨hd, Nat.zero_le _, [], .nil, o, es, ep, h1, h2, h3, h4, List.nodup_nil⟩⟩
def rInN (K : PySem.W.Frag) (P : Program) (w : World) (f : Bool → Bool) : R2 := fun x y H Q => ∃ (t a : Addr) (k : NestedKey) (kvs : NKV), x = .ref t ∧ NK K H x k ∧ k.depth ≤ 8 ∧ y = .ref a ∧ H a = some (NDO P w a kvs) ∧ NKeys K H kvs ∧ Q (.bl (f (atN kvs k).isSome)) H
theorem op_inN (hu : X.A.in1.units + 8 < cLine) : OpR X (compareOp .In) (rInN X.K X.prog X.w fun b => b) := by
  intro pins s σ H x y v u Q I rx ry h
  obtain ⟨t, a, k, kvs, rfl, nk, hd8, rfl, ha, hk, q⟩ := h
  cases rx
  cases ry
  obtain ⟨hd, hz, xs, np, dd⟩ := nd_dict I ha hk
  refine wpAny_in_heap (knd := nestedKind X.prog X.w) hu ⟨nk_is I _ _ _ nk rfl, hd8⟩ hd dd ?_
  rw [np_iff np]
  exact ⟨.bl _, H, I.tok _, rfl, q⟩
theorem op_notInN (hu : X.A.in1.units + 8 < cLine) : OpR X (compareOp .NotIn) (rInN X.K X.prog X.w fun b => !b) := by
  intro pins s σ H x y v u Q I rx ry h
  obtain ⟨t, a, k, kvs, rfl, nk, hd8, rfl, ha, hk, q⟩ := h
  cases rx
  cases ry
  obtain ⟨hd, hz, xs, np, dd⟩ := nd_dict I ha hk
  refine wpAny_notIn_heap (knd := nestedKind X.prog X.w) hu ⟨nk_is I _ _ _ nk rfl, hd8⟩ hd dd ?_
  rw [np_iff np]
  exact ⟨.bl _, H, I.tok _, rfl, q⟩
def rSetN (K : PySem.W.Frag) (P : Program) (w : World) : V → V → V → Hp → (Hp → Prop) → Prop := fun o i v H Q => ∃ (t a : Addr) (k : NestedKey) (kvs : NKV), o = .ref a ∧ i = .ref t ∧ NK K H i k ∧ k.depth ≤ 8 ∧ H a = some (NDO P w a kvs) ∧ NKeys K H kvs ∧ kvs.length < sizeLine ∧ Q (upd H a (NDO P w a (putN kvs k t v)))
theorem set_dictN (hu : X.A.in1.units + 8 < cLine) : PSet X (rSetN X.K X.prog X.w) := by
  intro pins s σ H o i v ov iv u Q I ro ri rv h
  obtain ⟨t, a, k, kvs, rfl, rfl, nk, hd8, ha, hk, hl, q⟩ := h
  cases ro
  cases ri
  obtain ⟨hd, hz, xs, np, dd⟩ := nd_dict I ha hk
  refine wpAny_setItem_heap (knd := nestedKind X.prog X.w) (hsz := by rw [← Paired.length np]; exact hz) hu ⟨nk_is I _ _ _ nk rfl, hd8⟩ dd fun h' dd' hs => ?_
  obtain ⟨o, es, ep, h1, h2, h3, h4, _, h5⟩ := dd'
  refine ⟨_, I.write (e := a) (by rw [ha]; trivial) (.inl rfl) (fun b u hb hu => (hs.2 b hb).trans hu) ⟨o, h1⟩ (nd_new ⟨hd, ?_, _, np_put np rv, o, es, ep, h1, h2, h3, h4, h5⟩), q⟩
  have := putN_len kvs k t v
  omega
def tDGetN (K : PySem.W.Frag) (P : Program) (w : World) (td ty : TE) : TE := fun σ H Q => td σ H fun x H1 => ty σ H1 fun y H2 => ∃ (t a : Addr) (k : NestedKey) (kvs : NKV) (z : V), x = .ref a ∧ y = .ref t ∧ NK K H2 y k ∧ k.depth ≤ 8 ∧ H2 a = some (NDO P w a kvs) ∧ NKeys K H2 kvs ∧ atN kvs k = some z ∧ Q z H2
theorem pe_dgetN {o i : Expr} {pos : Pos} {td ty : TE} (hu : X.A.in1.units + 8 < cLine) (ho : PE X o td) (hi : PE X i ty) (hs : NoSl i) : PE X (.Subscript o i pos) (tDGetN X.K X.prog X.w td ty) := by
  refine ⟨fun pins s σ H Q I h => ?_⟩
  refine subD_of PySem.F.slot_dict_getitem.lookup hs (thn (ho.run pins s σ H _ I h) fun u s1 ⟨x, H1, I1, rx, q1⟩ => thn (hi.run pins s1 σ H1 _ I1 q1) fun iv s2 ⟨y, H2, I2, ry, t, a, k, kvs, z, ex, ey, nk, hd8, ha, hk, e, q2⟩ => ?_)
  subst ex ey
  obtain rfl : u = Value.ref a := rx
  obtain rfl : iv = Value.ref t := ry
  obtain ⟨hd, hz, xs, np, dd⟩ := nd_dict I2 ha hk
  obtain ⟨p, ep, rp⟩ := np_some np e
  exact ⟨dd.typeIs, wpAny_getItem_heap (knd := nestedKind X.prog X.w) hu ⟨nk_is I2 _ _ _ nk rfl, hd8⟩ dd ep ⟨z, H2, I2.tok _, rp, q2⟩⟩
theorem call_lenN : CallR X (.builtin "len") (fun xs H Q => ∃ (a : Addr) (kvs : NKV), xs = [.ref a] ∧ H a = some (NDO X.prog X.w a kvs) ∧ NKeys X.K H kvs ∧ Q (.int (kvs.length : Nat)) H) := by
  intro pins s σ H xs us Q I r h
  obtain ⟨a, kvs, rfl, ha, hk, q⟩ := h
  obtain ⟨u, rfl, rx⟩ := vals1 r
  obtain rfl : u = .ref a := rx
  obtain ⟨hd, hz, ys, np, dd⟩ := nd_dict I ha hk
  have hl : kvs.length = ys.length := Paired.length np
  refine call_len_dictH hd dd (by rw [← hl]; rw [sizeLine_eq] at hz; omega) ?_
  rw [← hl]
  exact ⟨.int ((kvs.length : Nat) : Int), H, I.tok _, ⟨_, rfl⟩, q⟩
def tDisp1N (K : PySem.W.Frag) (P : Program) (w : World) (tk tv : TE) : TE := fun σ H Q => ∀ p, H p = none → tk σ (upd H p (NDO P w p [])) fun x H1 => tv σ H1 fun y H2 => ∃ (t : Addr) (k : NestedKey), x = .ref t ∧ NK K H2 x k ∧ k.depth ≤ 8 ∧ H2 p = some (NDO P w p []) ∧ Q (.ref p) (upd H2 p (NDO P w p [(k, t, y)]))
theorem nd_empty (s : Shared) (big : sysModules < s.heap.objs.size) {P : Program} {w : World} {H : Hp} : NDR P w (s.heap.push { cls := .type "dict", data := .dict #[] }) s.heap.objs.size [] := by
  have e := dt_empty (P := P) (w := w) (H := H) s.heap big
  obtain ⟨z, hd, xs, rel, o, es, ep, h1, h2, h3, h4, h5⟩ := (show ObjOk P w _ _ _ (.dT []) from e)
  cases rel
  exact ⟨hd, Nat.zero_le _, [], .nil, o, es, ep, h1, h2, h3, h4, List.nodup_nil⟩
theorem pe_disp1N {k v : Expr} {pos : Pos} {tk tv : TE} (hu : X.A.in1.units + 8 < cLine) (hu0 : X.A.units + 8 < cLine) (hk : PE X k tk) (hv : PE X v tv) : PE X (.Dict [some k] [v] pos) (tDisp1N X.K X.prog X.w tk tv) := by
  refine ⟨fun pins s σ H Q I q => ?_⟩
  have hn := I.hok.fresh (Nat.le_refl s.heap.objs.size)
  have I1 := I.laid (a := s.heap.objs.size) (o := NDO X.prog X.w s.heap.objs.size []) (h' := s.heap.push { cls := .type "dict", data := .dict #[] }) (t' := s.toks) (fun _ _ q => Heap.get?_push_of_some _ q) (Nat.le_refl _) (nd_new (nd_empty s I.big (H := upd H s.heap.objs.size (.dT []))))
  have hs := zip_pairTrees [some k] [v] X.env pos rfl rfl
  rw [arm_eval_Dict, hs, dictDisplay_pairs (pairTrees [some k] [v] X.env pos) (by intro h; cases h) (by show 1 < 17; decide)]
  refine wpAny_bind (wpAny_standAt (wpAny_bind ?_))
  unfold subDict
  refine wpAny_bind (wpAny_alloc ?_)
  refine wpAny_bind (wpAny_holding ?_)
  rw [if_pos (show (pairTrees [some k] [v] X.env pos).length ≤ 15 by show 1 ≤ 15; decide)]
  refine wpAny_bind (pairTrees_cons_walk (thn (hk.run pins _ σ _ _ I1 (q _ hn)) fun u s1 ⟨x, H1, I1', rx, q1⟩ => thn (hv.run pins s1 σ H1 _ I1' q1) fun w2 s2 ⟨y, H2, I2, ry, t, key, ex, nk, hd8, ep, q2⟩ => pairTrees_nil_walk ?_))
  subst ex
  obtain rfl : u = Value.ref t := rx
  obtain ⟨hd, z, xs, rel, dd⟩ := nd_dict I2 ep (fun p hp => nomatch hp)
  cases rel
  refine wpAny_holding ?_
  refine wpAny_bind ?_
  rw [List.forIn_cons]
  refine wpAny_bind (wpAny_bind ?_)
  refine wpAny_dictSet_heap (knd := nestedKind X.prog X.w) (hsz := Nat.zero_le _) hu0 ⟨nk_is I2 _ _ _ nk rfl, hd8⟩ dd fun h' dd' hs' => ?_
  refine wpAny_pure ?_
  show wpAny _ _ (forIn ([] : List (Value × Value)) PUnit.unit _) _ _ _
  rw [List.forIn_nil]
  refine wpAny_pure (wpAny_pure (wpAny_pure (wpAny_pure ?_)))
  obtain ⟨qo, es, ep2, hq, h2, h3, h4, _, h5⟩ := dd'
  refine ⟨.ref s.heap.objs.size, upd H2 s.heap.objs.size (NDO X.prog X.w s.heap.objs.size [(key, t, y)]), ?_, rfl, q2⟩
  exact I2.write (e := s.heap.objs.size) (by rw [ep]; trivial) (.inl rfl) (fun b u hb hu => (hs'.2 b hb).trans hu) ⟨qo, hq⟩ (nd_new ⟨hd, by show 1 ≤ sizeLine; decide, _, .cons ⟨rfl, rfl, ry⟩ .nil, qo, es, ep2, hq, h2, h3, h4, h5⟩)
def rSdefN (K : PySem.W.Frag) (P : Program) (w : World) : V → List V → Hp → VK → Prop := fun x vs H Q => ∃ (t a : Addr) (k : NestedKey) (kvs : NKV) (y : V), x = .ref a ∧ vs = [.ref t, y] ∧ NK K H (.ref t) k ∧ k.depth ≤ 8 ∧ H a = some (NDO P w a kvs) ∧ NKeys K H kvs ∧ kvs.length < sizeLine ∧
  (∀ z, atN kvs k = some z → Q z H) ∧ (atN kvs k = none → Q y (upd H a (NDO P w a (putN kvs k t y))))
theorem mt_sdefN (hu : X.A.in1.units + 8 < cLine) : MtR X "dict.setdefault" (rSdefN X.K X.prog X.w) := by
  intro pins s σ H x vs v us Q I rx rv h
  obtain ⟨t, a, k, kvs, y, rfl, rfl, nk, hd8, ha, hk, hl, q1, q2⟩ := h
  cases rx
  obtain ⟨u1, u2, rfl, r1, r2⟩ := vals2 rv
  cases r1
  obtain ⟨hd, hz, xs, np, dd⟩ := nd_dict I ha hk
  refine call_setdefault_heap (knd := nestedKind X.prog X.w) (hsz := by rw [← Paired.length np]; exact hz) hu ⟨nk_is I _ _ _ nk rfl, hd8⟩ hd dd (fun p hp => ?_) fun hn h' dd' hs => ?_
  · cases e : atN kvs k with
    | none => rw [np_none np e] at hp; cases hp
    | some z =>
      obtain ⟨p', e', r⟩ := np_some np e
      rw [e'] at hp
      cases hp
      exact ⟨z, H, I.tok _, r, q1 z e⟩
  · obtain ⟨o, es, ep, h1, h2, h3, h4, _, h5⟩ := dd'
    have e : atN kvs k = none := by
      cases e : atN kvs k with
      | none => rfl
      | some z => obtain ⟨p', e', _⟩ := np_some np e; rw [e'] at hn; cases hn
    refine ⟨y, _, I.write (e := a) (by rw [ha]; trivial) (.inl rfl) (fun b u hb hu => (hs.2 b hb).trans hu) ⟨o, h1⟩ (nd_new ⟨hd, ?_, _, np_put np r2, o, es, ep, h1, h2, h3, h4, h5⟩), r2, q2 e⟩
    have := putN_len kvs k t y
    omega
end
theorem seqT_putN {P : Program} {w : World} {K : PySem.W.Frag} {H : Hp} {a p : Addr} {kvs : NKV} {xs : List V} (o : HO) (h : SqT K H p xs) (ha : H a = some (NDO P w a kvs)) : SqT K (upd H a o) p xs := by
  rcases h with (h | ⟨u, h⟩) | h
  · exact .inl (.inl (by rw [upd_ne (fun e => by rw [e, ha] at h; cases h)]; exact h))
  · exact .inl (.inr ⟨u, by rw [upd_ne (fun e => by rw [e, ha] at h; cases h)]; exact h⟩)
  · exact .inr h
mutual
theorem nk_put {P : Program} {w : World} {K : PySem.W.Frag} {H : Hp} {a : Addr} {kvs : NKV} (o : HO) (ha : H a = some (NDO P w a kvs)) : ∀ (k : NestedKey) (x : V), NK K H x k → NK K (upd H a o) x k
  | .num i, x, h => by
    cases h with
    | int => exact .int i
    | bl b => exact .bl b
  | .text y, x, h => by cases h with | str => exact .str y
  | .none, x, h => by cases h
  | .tup ks, x, h => by
    cases h with
    | tup h hs => exact .tup (seqT_putN o h ha) (nks_put o ha ks _ hs)
theorem nks_put {P : Program} {w : World} {K : PySem.W.Frag} {H : Hp} {a : Addr} {kvs : NKV} (o : HO) (ha : H a = some (NDO P w a kvs)) : ∀ (ks : List NestedKey) (xs : List V), NKs K H xs ks → NKs K (upd H a o) xs ks
  | [], xs, h => by cases h; exact .nil
  | k :: ks, xs, h => by
    cases h with
    | cons h hs => exact .cons (nk_put o ha k _ h) (nks_put o ha ks _ hs)
end
theorem NKeys.write {P : Program} {w : World} {K : PySem.W.Frag} {H : Hp} {a : Addr} {kvs ls : NKV} (o : HO) (h : NKeys K H ls) (ha : H a = some (NDO P w a kvs)) : NKeys K (upd H a o) ls := fun p hp => ⟨nk_put o ha _ _ (h p hp).1, (h p hp).2⟩
theorem NKeys.put {K : PySem.W.Frag} {H : Hp} {kvs : NKV} {k : NestedKey} {t : Addr} {y : V} (h : NKeys K H kvs) (hk : NK K H (.ref t) k) (hd : k.depth ≤ 8) : NKeys K H (putN kvs k t y) := fun p hp => by
  unfold putN at hp
  split at hp
  · obtain ⟨q, hq, e⟩ := List.mem_map.mp hp
    have := h q hq
    split at e
    · subst e; exact this
    · subst e; exact this
  · rcases List.mem_append.mp hp with hp | hp
    · exact h p hp
    · rw [List.mem_singleton.mp hp]; exact ⟨hk, hd⟩
theorem NKeys.nil {K : PySem.W.Frag} {H : Hp} : NKeys K H [] := fun p hp => nomatch hp
theorem atN_nil (k : NestedKey) : atN [] k = none := rfl
theorem atN_cons (p : NestedKey × Addr × V) (kvs : NKV) (k : NestedKey) : atN (p :: kvs) k = if p.1 = k then some p.2.2 else atN kvs k := by
  unfold atN
  by_cases h : p.1 = k
  · rw [List.find?_cons_of_pos (by simpa using h), if_pos h]; rfl
  · rw [List.find?_cons_of_neg (by simpa using h), if_neg h]
theorem atN_app (kvs ls : NKV) (k : NestedKey) : atN (kvs ++ ls) k = (atN kvs k).or (atN ls k) := by
  induction kvs with
  | nil => rfl
  | cons p kvs ih =>
    rw [List.cons_append, atN_cons, atN_cons, ih]
    split <;> rfl
theorem atN_map (kvs : NKV) (k j : NestedKey) (y : V) : atN (kvs.map fun p => if p.1 = k then (p.1, p.2.1, y) else p) j = if j = k ∧ (atN kvs k).isSome = true then some y else atN kvs j := by
  induction kvs with
  | nil => simp [atN_nil]
  | cons p kvs ih =>
    rw [List.map_cons, atN_cons, atN_cons, atN_cons, ih]
    by_cases h1 : p.1 = k
    · rw [if_pos h1]
      by_cases h2 : j = k
      · subst h2
        rw [if_pos h1, if_pos ⟨rfl, by rw [if_pos h1]; rfl⟩]
      · have h3 : ¬ p.1 = j := fun e => h2 (e.symm.trans h1)
        rw [if_neg h3, if_neg (fun h => h2 h.1), if_neg (fun h => h2 h.1), if_neg h3]
    · rw [if_neg h1, if_neg h1]
      by_cases h3 : p.1 = j
      · have h2 : ¬ j = k := fun e => h1 (h3.trans e)
        rw [if_pos h3, if_neg (fun h => h2 h.1), if_pos h3]
      · rw [if_neg h3, if_neg h3]
theorem atN_put (kvs : NKV) (k j : NestedKey) (a : Addr) (y : V) : atN (putN kvs k a y) j = if j = k then some y else atN kvs j := by
  unfold putN
  cases e : atN kvs k with
  | some z =>
    rw [if_pos (show (some z).isSome = true from rfl), atN_map, e]
    by_cases h : j = k
    · rw [if_pos ⟨h, rfl⟩, if_pos h]
    · rw [if_neg (fun x => h x.1), if_neg h]
  | none =>
    rw [if_neg (show ¬ (none : Option V).isSome = true from Bool.false_ne_true), atN_app, atN_cons, atN_nil]
    by_cases h : j = k
    · subst h; rw [e, if_pos rfl]; simp
    · rw [if_neg (fun x => h x.symm), if_neg h, Option.or_none]
end LX
set_option maxHeartbeats 2000000
namespace LX
open PySem PySem.Spec PyProof.Rows L2 C8 SX
abbrev OKey := Option Key
def kO : OKey → V
  | none => .non
  | some k => kV k
theorem kO_is {P : Program} {w : World} {k : OKey} {v : Value} (r : RelV (kO k) v) : (noneKind P w).is k v = true := by
  match k, r with
  | none, r => cases r; rfl
  | some (.inl i), r => obtain ⟨t, rfl⟩ := r; exact beq_self_eq_true _
  | some (.inr x), r => obtain ⟨t, rfl⟩ := r; exact beq_self_eq_true _
abbrev OKV := List (OKey × V)
def OP : OKV → List (OKey × Value) → Prop := Paired fun p q => p.1 = q.1 ∧ RelV p.2 q.2
def ODR (P : Program) (w : World) (h : Heap) (a : Addr) (kvs : OKV) : Prop := (a == sysModules) = false ∧ kvs.length ≤ sizeLine ∧ ∃ vs, OP kvs vs ∧ h.DictOf (noneKind P w) a vs
def ODO (P : Program) (w : World) (a : Addr) (kvs : OKV) : HO := .ext fun h => ODR P w h a kvs
def atO (kvs : OKV) (k : OKey) : Option V := (kvs.find? fun p => decide (p.1 = k)).map (·.2)
theorem op_some {kvs : OKV} {vs : List (OKey × Value)} {k : OKey} {y : V} (h : OP kvs vs) (e : atO kvs k = some y) : ∃ v, valueAt vs k = some v ∧ RelV y v := by
  unfold OP at h
  induction h with
  | nil => cases e
  | @cons p q ps qs h t ih =>
    obtain ⟨h1, h3⟩ := h
    unfold atO valueAt at *
    by_cases hk : p.1 = k
    · rw [List.find?_cons_of_pos (by simpa using hk)] at e
      cases e
      exact ⟨q.2, by rw [List.find?_cons_of_pos (by rw [← h1]; simpa using hk)]; rfl, h3⟩
    · rw [List.find?_cons_of_neg (by simpa using hk)] at e
      obtain ⟨r, er, rr⟩ := ih e
      exact ⟨r, by rw [List.find?_cons_of_neg (by rw [← h1]; simpa using hk)]; exact er, rr⟩
theorem op_none {kvs : OKV} {vs : List (OKey × Value)} {k : OKey} (h : OP kvs vs) (e : atO kvs k = none) : valueAt vs k = none := by
  unfold OP at h
  induction h with
  | nil => rfl
  | @cons p q ps qs h t ih =>
    obtain ⟨h1, h3⟩ := h
    unfold atO valueAt at *
    by_cases hk : p.1 = k
    · rw [List.find?_cons_of_pos (by simpa using hk)] at e
      cases e
    · rw [List.find?_cons_of_neg (by simpa using hk)] at e
      rw [List.find?_cons_of_neg (by rw [← h1]; simpa using hk)]
      exact ih e
theorem op_iff {kvs : OKV} {vs : List (OKey × Value)} {k : OKey} (h : OP kvs vs) : (valueAt vs k).isSome = (atO kvs k).isSome := by
  cases e : atO kvs k with
  | none => rw [op_none h e]; rfl
  | some y => obtain ⟨v, ev, _⟩ := op_some h e; rw [ev]; rfl
theorem op_app {kvs : OKV} {vs : List (OKey × Value)} {k : OKey} {y : V} {v : Value} (h : OP kvs vs) (r : RelV y v) : OP (kvs ++ [(k, y)]) (vs ++ [(k, v)]) := by
  unfold OP at h ⊢
  induction h with
  | nil => exact .cons ⟨rfl, r⟩ .nil
  | cons h t ih => exact .cons h ih
theorem stored_newO {vs : List (OKey × Value)} {k : OKey} {v : Value} (h : valueAt vs k = none) : stored vs k v = vs ++ [(k, v)] := by
  unfold stored
  rw [if_neg]
  intro hc
  obtain ⟨p, hp, e⟩ := List.any_eq_true.mp hc
  unfold valueAt at h
  rw [Option.map_eq_none_iff, List.find?_eq_none] at h
  exact h p hp e
theorem atO_app {kvs : OKV} {k j : OKey} {y : V} (h : atO kvs k = none) : atO (kvs ++ [(k, y)]) j = if j = k then some y else atO kvs j := by
  induction kvs with
  | nil =>
    by_cases q : j = k
    · subst q; rw [if_pos rfl]; unfold atO; rw [List.nil_append, List.find?_cons_of_pos (by simp)]; rfl
    · rw [if_neg q]; unfold atO; rw [List.nil_append, List.find?_cons_of_neg (by simpa using fun e => q e.symm)]
  | cons p ps ih =>
    unfold atO at h ih ⊢
    by_cases hk : p.1 = k
    · rw [List.find?_cons_of_pos (by simpa using hk)] at h; cases h
    · rw [List.find?_cons_of_neg (by simpa using hk)] at h
      rw [List.cons_append]
      by_cases hj : p.1 = j
      · have q : ¬ j = k := fun e => hk (hj.trans e)
        rw [List.find?_cons_of_pos (by simpa using hj), if_neg q, List.find?_cons_of_pos (by simpa using hj)]
      · rw [List.find?_cons_of_neg (by simpa using hj), List.find?_cons_of_neg (by simpa using hj)]
        exact ih h
section
variable {X : Cx} {pins : List (Addr × Obj)} {σ : L2.St} {H : Hp} {s : Shared} {a : Addr} {kvs : OKV}
theorem od_new {P : Program} {w : World} {h : Heap} (R : ODR P w h a kvs) : ObjOk P w H h a (ODO P w a kvs) := by
  obtain ⟨r1, r2, vs, r3, o, es, ep, h1, hr⟩ := id R
  exact ⟨R, ⟨o, h1⟩, fun g1 g2 ⟨q1, q2, ys, q3, u, es', ep', p1, pr⟩ kk => ⟨q1, q2, ys, q3, u, es', ep', kk _ p1, pr⟩⟩
theorem od_get (I : Inv X pins σ H s) (ha : H a = some (ODO X.prog X.w a kvs)) : ODR X.prog X.w s.heap a kvs := (I.hok a _ ha).1
def rInO (P : Program) (w : World) (f : Bool → Bool) : R2 := fun x y H Q => ∃ (a : Addr) (k : OKey) (kvs : OKV), x = kO k ∧ y = .ref a ∧ H a = some (ODO P w a kvs) ∧ Q (.bl (f (atO kvs k).isSome)) H
theorem op_inO : OpR X (compareOp .In) (rInO X.prog X.w fun b => b) := by
  intro pins s σ H x y v u Q I rx ry h
  obtain ⟨a, k, kvs, rfl, rfl, ha, q⟩ := h
  cases ry
  obtain ⟨hd, hz, ws, np, dd⟩ := od_get I ha
  refine wpAny_in_of (kO_is rx) hd dd.mapOf ?_
  rw [op_iff np]
  exact ⟨.bl _, H, I.tok _, rfl, q⟩
theorem op_notInO : OpR X (compareOp .NotIn) (rInO X.prog X.w fun b => !b) := by
  intro pins s σ H x y v u Q I rx ry h
  obtain ⟨a, k, kvs, rfl, rfl, ha, q⟩ := h
  cases ry
  obtain ⟨hd, hz, ws, np, dd⟩ := od_get I ha
  refine wpAny_notIn_of (kO_is rx) hd dd.mapOf ?_
  rw [op_iff np]
  exact ⟨.bl _, H, I.tok _, rfl, q⟩
def rSetO (P : Program) (w : World) : V → V → V → Hp → (Hp → Prop) → Prop := fun o i v H Q => ∃ (a : Addr) (k : OKey) (kvs : OKV), o = .ref a ∧ i = kO k ∧ H a = some (ODO P w a kvs) ∧ kvs.length < sizeLine ∧ atO kvs k = none ∧ Q (upd H a (ODO P w a (kvs ++ [(k, v)])))
theorem set_dictO : PSet X (rSetO X.prog X.w) := by
  intro pins s σ H o i v ov iv u Q I ro ri rv h
  obtain ⟨a, k, kvs, rfl, rfl, ha, hl, hn, q⟩ := h
  cases ro
  obtain ⟨hd, hz, ws, np, dd⟩ := od_get I ha
  refine wpAny_setItem_pairs (kO_is ri) dd (fun h' dd' hs => ?_) (by rw [← Paired.length np]; exact hz)
  rw [stored_newO (op_none np hn)] at dd'
  obtain ⟨ob, es, ep, h1, hr⟩ := id dd'
  exact ⟨_, I.write (e := a) (by rw [ha]; trivial) (.inl rfl) (fun b u hb hu => (hs.2 b hb).trans hu) ⟨ob, h1⟩ (od_new ⟨hd, by rw [List.length_append]; exact hl, _, op_app np rv, dd'⟩), q⟩
def tDGetO (P : Program) (w : World) (td ty : TE) : TE := fun σ H Q => td σ H fun x H1 => ty σ H1 fun y H2 => ∃ (a : Addr) (k : OKey) (kvs : OKV) (z : V), x = .ref a ∧ y = kO k ∧ H2 a = some (ODO P w a kvs) ∧ atO kvs k = some z ∧ Q z H2
theorem pe_dgetO {o i : Expr} {pos : Pos} {td ty : TE} (ho : PE X o td) (hi : PE X i ty) (hs : NoSl i) : PE X (.Subscript o i pos) (tDGetO X.prog X.w td ty) := by
  refine ⟨fun pins s σ H Q I h => ?_⟩
  refine subD_of PySem.F.slot_dict_getitem.lookup hs (thn (ho.run pins s σ H _ I h) fun u s1 ⟨x, H1, I1, rx, q1⟩ => thn (hi.run pins s1 σ H1 _ I1 q1) fun iv s2 ⟨y, H2, I2, ry, a, k, kvs, z, ex, ey, ha, e, q2⟩ => ?_)
  subst ex ey
  obtain rfl : u = Value.ref a := rx
  obtain ⟨hd, hz, ws, np, dd⟩ := od_get I2 ha
  obtain ⟨p, ep, rp⟩ := op_some np e
  have hT : s2.TypeIs (.ref a) "dict" := let ⟨o, _, _, ho, hc, _⟩ := dd; ⟨o, ho, hc.1⟩
  exact ⟨hT, wpAny_getItem_of (kO_is ry) dd.mapOf ep ⟨z, H2, I2.tok _, rp, q2⟩⟩
theorem od_empty (s : Shared) (big : sysModules < s.heap.objs.size) {P : Program} {w : World} {H : Hp} : ODR P w (s.heap.push { cls := .type "dict", data := .dict #[] }) s.heap.objs.size [] := by
  obtain ⟨hd, _⟩ := nd_empty s big (P := P) (w := w) (H := H)
  exact ⟨hd, Nat.zero_le _, [], .nil, Heap.DictOf.new s.heap⟩
def tDisp1O (P : Program) (w : World) (tk tv : TE) : TE := fun σ H Q => ∀ p, H p = none → tk σ (upd H p (ODO P w p [])) fun x H1 => tv σ H1 fun y H2 => ∃ key : OKey, x = kO key ∧ H2 p = some (ODO P w p []) ∧ Q (.ref p) (upd H2 p (ODO P w p [(key, y)]))
theorem pe_disp1O {k v : Expr} {pos : Pos} {tk tv : TE} (hk : PE X k tk) (hv : PE X v tv) : PE X (.Dict [some k] [v] pos) (tDisp1O X.prog X.w tk tv) := by
  refine ⟨fun pins s σ H Q I q => ?_⟩
  have free0 := I.hok.fresh (Nat.le_refl s.heap.objs.size)
  have I1 := I.laid (a := s.heap.objs.size) (o := ODO X.prog X.w s.heap.objs.size []) (h' := s.heap.push { cls := .type "dict", data := .dict #[] }) (t' := s.toks) (fun _ _ e => Heap.get?_push_of_some _ e) (Nat.le_refl _) (od_new (od_empty s I.big (H := upd H s.heap.objs.size (.dT []))))
  have pairs := zip_pairTrees [some k] [v] X.env pos rfl rfl
  rw [arm_eval_Dict, pairs, dictDisplay_pairs (pairTrees [some k] [v] X.env pos) (by intro h; cases h) (by show 1 < 17; decide)]
  refine wpAny_bind (wpAny_standAt (wpAny_bind ?_))
  unfold subDict
  refine wpAny_bind (wpAny_alloc ?_)
  refine wpAny_bind (wpAny_holding ?_)
  rw [if_pos (show (pairTrees [some k] [v] X.env pos).length ≤ 15 by show 1 ≤ 15; decide)]
  refine wpAny_bind (pairTrees_cons_walk (thn (hk.run pins _ σ _ _ I1 (q _ free0)) fun u s1 ⟨x, H1, I1', rx, q1⟩ => thn (hv.run pins s1 σ H1 _ I1' q1) fun w2 s2 ⟨y, H2, I2, ry, key, ex, ep, q2⟩ => pairTrees_nil_walk ?_))
  subst ex
  obtain ⟨hd, z, ws, rel, dd⟩ := od_get I2 ep
  cases rel
  refine wpAny_holding (wpAny_bind ?_)
  rw [List.forIn_cons]
  refine wpAny_bind (wpAny_bind (wpAny_dictSet_pairs (kO_is rx) dd (fun h' dd' kept => ?_) (Nat.zero_le _)))
  refine wpAny_pure ?_
  show wpAny _ _ (forIn ([] : List (Value × Value)) PUnit.unit _) _ _ _
  rw [List.forIn_nil]
  refine wpAny_pure (wpAny_pure (wpAny_pure (wpAny_pure ?_)))
  obtain ⟨ob, es, ep2, at0, hr⟩ := id dd'
  refine ⟨.ref s.heap.objs.size, upd H2 s.heap.objs.size (ODO X.prog X.w s.heap.objs.size [(key, y)]), ?_, rfl, q2⟩
  exact I2.write (e := s.heap.objs.size) (by rw [ep]; trivial) (.inl rfl) (fun b u n e => (kept.2 b n).trans e) ⟨ob, at0⟩ (od_new ⟨hd, by show 1 ≤ sizeLine; decide, _, .cons ⟨rfl, ry⟩ .nil, dd'⟩)
theorem pe_dgetOP {o i : Expr} {pos : Pos} {td ty : TE} (P : Program) (w : World) (ho : PE X o td) (hi : PE X i ty) (hs : NoSl i) (hP : X.prog = P := by rfl) (hw : X.w = w := by rfl) : PE X (.Subscript o i pos) (tDGetO P w td ty) := by
  subst hP hw
  exact pe_dgetO ho hi hs
end
end LX
set_option maxHeartbeats 1000000
namespace UW
def sl (a b : List Nat) : Prop := a.length < b.length ∨ (a.length = b.length ∧ a < b)
theorem lex_snoc : ∀ {u v : List Nat} {d i : Nat}, u.length = v.length → u ++ [d] < v ++ [i] → u < v ∨ (u = v ∧ d < i)
  | [], [], d, i, _, h => by
    refine .inr ⟨rfl, ?_⟩
    rcases List.cons_lt_cons_iff.mp h with h | ⟨_, h⟩
    · exact h
    · exact absurd h (by simp)
  | a :: u, b :: v, d, i, hl, h => by
    rcases List.cons_lt_cons_iff.mp h with h1 | ⟨h1, h2⟩
    · exact .inl (List.cons_lt_cons_iff.mpr (.inl h1))
    · rcases lex_snoc (u := u) (v := v) (by simpa using hl) h2 with h3 | ⟨h3, h4⟩
      · exact .inl (List.cons_lt_cons_iff.mpr (.inr ⟨h1, h3⟩))
      · exact .inr ⟨by rw [h1, h3], h4⟩
  | [], b :: v, _, _, hl, _ => by simp at hl
  | a :: u, [], _, _, hl, _ => by simp at hl
theorem sl_snoc {u v : List Nat} {d i : Nat} (h : sl (u ++ [d]) (v ++ [i])) : sl u v ∨ (u = v ∧ d < i) := by
  rcases h with h | ⟨hl, h⟩
  · exact .inl (.inl (by simpa using h))
  · have hl' : u.length = v.length := by simpa using hl
    rcases lex_snoc hl' h with h | h
    · exact .inl (.inr ⟨hl', h⟩)
    · exact .inr h
theorem sl_irr {u : List Nat} : ¬ sl u u := fun h => by
  rcases h with h | ⟨_, h⟩
  · omega
  · exact List.lt_irrefl _ h
section
variable {α : Type} {lead : α → Nat → α} {m : Nat} {last : α → Prop} {b : α}
def run (lead : α → Nat → α) (b : α) (w : List Nat) : α := w.foldl lead b
theorem run_snoc (w : List Nat) (d : Nat) : run lead b (w ++ [d]) = lead (run lead b w) d := by unfold run; rw [List.foldl_append]; rfl
def Rw (m : Nat) (w : List Nat) : Prop := ∀ c ∈ w, c < m
structure St (lead : α → Nat → α) (m : Nat) (last : α → Prop) (b : α) (L : List (α × List Nat)) (k i : Nat) : Prop where
  zero : L[0]? = some (b, [])
  nd : (L.map (·.1)).Nodup
  row : ∀ (j : Nat) p, L[j]? = some p → run lead b p.2 = p.1 ∧ Rw m p.2
  done : ∀ (j : Nat) p d, L[j]? = some p → d < m → (j < k ∨ (j = k ∧ d < i)) → ∃ q ∈ L, q.1 = lead p.1 d
  least : ∀ (j : Nat) p w, L[j]? = some p → Rw m w → sl w p.2 → ∃ (h : Nat) (q : α × List Nat), h < j ∧ L[h]? = some q ∧ run lead b w = q.1
  notlast : ∀ (j : Nat) p, L[j]? = some p → j + 1 < L.length → ¬ last p.1
theorem St.init : St lead m last b [(b, [])] 0 0 where
  zero := rfl
  nd := by simp
  row := fun j p e => by
    rcases j with _ | j
    · cases e; exact ⟨rfl, fun _ h => nomatch h⟩
    · simp at e
  done := fun j p d e _ h => by omega
  least := fun j p w e _ h => by
    rcases j with _ | j
    · cases e
      rcases h with h | ⟨hl, h⟩
      · simp at h
      · exact absurd h (by simp)
    · simp at e
  notlast := fun j p e h => by simp at h
theorem St.next {L : List (α × List Nat)} {k : Nat} (h : St lead m last b L k m) : St lead m last b L (k + 1) 0 :=
  ⟨h.zero, h.nd, h.row, fun j p d e hd hj => h.done j p d e hd (by omega), h.least, h.notlast⟩
theorem St.old {L : List (α × List Nat)} {k i : Nat} (h : St lead m last b L k i) {p : α × List Nat} (hp : L[k]? = some p) (ho : ∃ q ∈ L, q.1 = lead p.1 i) : St lead m last b L k (i + 1) :=
  ⟨h.zero, h.nd, h.row, fun j q d e hd hj => by
    by_cases hjd : j = k ∧ d = i
    · obtain ⟨h1, h2⟩ := hjd
      rw [h1, hp] at e
      cases e
      rw [h2]
      exact ho
    · exact h.done j q d e hd (by omega), h.least, h.notlast⟩
theorem St.new {L : List (α × List Nat)} {k i : Nat} (h : St lead m last b L k i) {p : α × List Nat} (hp : L[k]? = some p) (hi : i < m) (hn : ∀ q ∈ L, q.1 ≠ lead p.1 i) (hl : ∀ q ∈ L, ¬ last q.1) : St lead m last b (L ++ [(lead p.1 i, p.2 ++ [i])]) k (i + 1) := by
  have hk : k < L.length := (List.getElem?_eq_some_iff.mp hp).1
  have up : ∀ {j : Nat} {q : α × List Nat}, L[j]? = some q → (L ++ [(lead p.1 i, p.2 ++ [i])])[j]? = some q := fun {j q} e => by
    rw [List.getElem?_append_left (List.getElem?_eq_some_iff.mp e).1]; exact e
  have dn : ∀ {j : Nat} {q : α × List Nat}, (L ++ [(lead p.1 i, p.2 ++ [i])])[j]? = some q → L[j]? = some q ∨ (j = L.length ∧ q = (lead p.1 i, p.2 ++ [i])) := fun {j q} e => by
    by_cases hj : j < L.length
    · rw [List.getElem?_append_left hj] at e; exact .inl e
    · rw [List.getElem?_append_right (by omega)] at e
      cases hz : j - L.length with
      | zero => rw [hz] at e; simp at e; exact .inr ⟨by omega, e.symm⟩
      | succ n => rw [hz] at e; simp at e
  refine ⟨up h.zero, ?_, fun j q e => ?_, fun j q d e hd hj => ?_, fun j q w e hw hs => ?_, fun j q e hj => ?_⟩
  · rw [List.map_append, List.nodup_append]
    refine ⟨h.nd, by simp, fun a ha c hc => ?_⟩
    obtain ⟨q, hq, rfl⟩ := List.mem_map.mp ha
    simp at hc
    rw [hc]
    exact hn q hq
  · rcases dn e with e | ⟨_, rfl⟩
    · exact h.row j q e
    · obtain ⟨h1, h2⟩ := h.row k p hp
      refine ⟨by rw [run_snoc, h1], fun c hc => ?_⟩
      rcases List.mem_append.mp hc with hc | hc
      · exact h2 c hc
      · rw [List.mem_singleton.mp hc]; exact hi
  · rcases dn e with e | ⟨rfl, rfl⟩
    · by_cases hjd : j = k ∧ d = i
      · obtain ⟨h1, h2⟩ := hjd
        rw [h1, hp] at e
        cases e
        rw [h2]
        exact ⟨_, List.mem_append_right _ List.mem_cons_self, rfl⟩
      · obtain ⟨r, hr, er⟩ := h.done j q d e hd (by omega)
        exact ⟨r, List.mem_append_left _ hr, er⟩
    · omega
  · rcases dn e with e | ⟨rfl, rfl⟩
    · obtain ⟨g, r, h1, h2, h3⟩ := h.least j q w e hw hs
      exact ⟨g, r, h1, up h2, h3⟩
    · have key : ∃ r ∈ L, run lead b w = r.1 := by
        rcases List.eq_nil_or_concat w with rfl | ⟨u, d, rfl⟩
        · exact ⟨_, List.mem_of_getElem? h.zero, rfl⟩
        · rw [List.concat_eq_append] at hs hw ⊢
          have hu : Rw m u := fun c hc => hw c (List.mem_append_left _ hc)
          have hd : d < m := hw d (List.mem_append_right _ List.mem_cons_self)
          rcases sl_snoc hs with hs | ⟨rfl, hdi⟩
          · obtain ⟨g, r, h1, h2, h3⟩ := h.least k p u hp hu hs
            obtain ⟨z, hz, ez⟩ := h.done g r d h2 hd (.inl h1)
            exact ⟨z, hz, by rw [run_snoc, h3]; exact ez.symm⟩
          · obtain ⟨z, hz, ez⟩ := h.done k p d hp hd (.inr ⟨rfl, hdi⟩)
            exact ⟨z, hz, by rw [run_snoc, (h.row k p hp).1]; exact ez.symm⟩
      obtain ⟨r, hr, er⟩ := key
      obtain ⟨g, hg⟩ := List.getElem?_of_mem hr
      exact ⟨g, r, (List.getElem?_eq_some_iff.mp hg).1, up hg, er⟩
  · rcases dn e with e | ⟨rfl, rfl⟩
    · exact hl q (List.mem_of_getElem? e)
    · simp at hj
theorem St.found {L : List (α × List Nat)} {k i : Nat} (h : St lead m last b L k i) {p : α × List Nat} (hp : L[L.length - 1]? = some p) : ∀ w, Rw m w → last (run lead b w) → ¬ sl w p.2 := fun w hw hlast hs => by
  obtain ⟨g, r, h1, h2, h3⟩ := h.least _ p w hp hw hs
  rw [h3] at hlast
  exact h.notlast g r h2 (by omega) hlast
theorem St.none {L : List (α × List Nat)} {k : Nat} (h : St lead m last b L k 0) (hk : L.length ≤ k) (hl : ∀ q ∈ L, ¬ last q.1) : ∀ w, Rw m w → ¬ last (run lead b w) := by
  have all : ∀ w, Rw m w → ∃ q ∈ L, run lead b w = q.1 := by
    intro w
    induction hn : w.length generalizing w with
    | zero => intro _; rw [List.length_eq_zero_iff.mp hn]; exact ⟨_, List.mem_of_getElem? h.zero, rfl⟩
    | succ n ih =>
      intro hw
      rcases List.eq_nil_or_concat w with rfl | ⟨u, d, rfl⟩
      · simp at hn
      · rw [List.concat_eq_append] at hn hw ⊢
        obtain ⟨q, hq, e⟩ := ih u (by simpa using hn) fun c hc => hw c (List.mem_append_left _ hc)
        obtain ⟨j, hj⟩ := List.getElem?_of_mem hq
        have hjl := (List.getElem?_eq_some_iff.mp hj).1
        obtain ⟨z, hz, ez⟩ := h.done j q d hj (hw d (List.mem_append_right _ List.mem_cons_self)) (.inl (by omega))
        exact ⟨z, hz, by rw [run_snoc, e]; exact ez.symm⟩
  intro w hw hlast
  obtain ⟨q, hq, e⟩ := all w hw
  rw [e] at hlast
  exact hl q hq hlast
end
end UW
set_option maxHeartbeats 4000000
namespace Toy
open PySem L2 C8 SX LX
def ndL (ts : List OKey) : OKV := ts.zipIdx.map fun p => (p.1, V.int (p.2 : Nat))
def noO (ts : List OKey) (x : OKey) : Nat := ts.findIdx fun y => decide (y = x)
theorem noO_cons (t : OKey) (ts : List OKey) (x : OKey) : noO (t :: ts) x = if t = x then 0 else noO ts x + 1 := by
  unfold noO
  rw [List.findIdx_cons]
  by_cases h : t = x
  · rw [if_pos h, decide_eq_true h]; rfl
  · rw [if_neg h, decide_eq_false h]; rfl
theorem noO_app {ts : List OKey} {x y : OKey} (h : x ∈ ts) : noO (ts ++ [y]) x = noO ts x := by
  induction ts with
  | nil => cases h
  | cons t ts ih =>
    rw [List.cons_append, noO_cons, noO_cons]
    by_cases e : t = x
    · rw [if_pos e, if_pos e]
    · rw [if_neg e, if_neg e, ih (by rcases List.mem_cons.mp h with h | h; exact absurd h.symm e; exact h)]
theorem noO_new {ts : List OKey} {x : OKey} (h : x ∉ ts) : noO (ts ++ [x]) x = ts.length := by
  induction ts with
  | nil => rw [List.nil_append, noO_cons, if_pos rfl]; rfl
  | cons t ts ih =>
    rw [List.cons_append, noO_cons, if_neg (fun e => h (by rw [e]; exact List.mem_cons_self)), ih (fun e => h (List.mem_cons_of_mem _ e)), List.length_cons]
theorem atO_yes {x : OKey} : ∀ {ts : List OKey} (n : Nat), x ∈ ts → atO ((ts.zipIdx n).map fun p => (p.1, V.int (p.2 : Nat))) x = some (V.int ((n + noO ts x : Nat) : Int))
  | [], _, h => nomatch h
  | t :: ts, n, h => by
    rw [List.zipIdx_cons, List.map_cons, noO_cons]
    by_cases e : t = x
    · subst e
      unfold atO
      rw [List.find?_cons_of_pos (by simp), if_pos rfl]; rfl
    · have ih := atO_yes (n + 1) (show x ∈ ts by rcases List.mem_cons.mp h with h | h; exact absurd h.symm e; exact h)
      unfold atO at ih ⊢
      rw [List.find?_cons_of_neg (by simpa using e), ih, if_neg e]
      congr 2; omega
theorem atO_no {x : OKey} : ∀ {ts : List OKey} (n : Nat), x ∉ ts → atO ((ts.zipIdx n).map fun p => (p.1, V.int (p.2 : Nat))) x = none
  | [], _, _ => rfl
  | t :: ts, n, h => by
    rw [List.zipIdx_cons, List.map_cons]
    have e : ¬ t = x := fun e => h (by rw [e]; exact List.mem_cons_self)
    have ih := atO_no (n + 1) (fun h' => h (List.mem_cons_of_mem _ h') : x ∉ ts)
    unfold atO at ih ⊢
    rw [List.find?_cons_of_neg (by simpa using e), ih]
theorem atO_nd {ts : List OKey} {x : OKey} (h : x ∈ ts) : atO (ndL ts) x = some (V.int (noO ts x : Nat)) := by
  unfold ndL
  rw [atO_yes 0 h, Nat.zero_add]
theorem atO_nn {ts : List OKey} {x : OKey} (h : x ∉ ts) : atO (ndL ts) x = none := atO_no 0 h
theorem ndL_snoc (ts : List OKey) (y : OKey) : ndL (ts ++ [y]) = ndL ts ++ [(y, .int (ts.length : Nat))] := by
  unfold ndL
  rw [List.zipIdx_append, List.map_append, Nat.zero_add]; rfl
theorem ndL_len (ts : List OKey) : (ndL ts).length = ts.length := by unfold ndL; rw [List.length_map, List.length_zipIdx]
def tgt (lead : OKey → Nat → OKey) (m : Nat) (ts : List OKey) (x : OKey) : List V := (List.range m).map fun c => V.int (noO ts (lead x c) : Nat)
abbrev WLO := List (OKey × List Nat)
def ths (L : WLO) : List OKey := L.map (·.1)
def rws (sg : List Nat) (L : WLO) : List (List Nat) := L.map fun p => p.2.map fun c => sg.getD c 0
theorem pr_app2 {α β : Type} {F : α → β → Prop} : ∀ {as : List α} {bs : List β} {a : α} {b : β}, Paired F as bs → F a b → Paired F (as ++ [a]) (bs ++ [b])
  | _, _, _, _, .nil, h => .cons h .nil
  | _, _, _, _, .cons h1 h2, h => .cons h1 (pr_app2 h2 h)
theorem pr_mono {α β : Type} {F G : α → β → Prop} : ∀ {as : List α} {bs : List β}, (∀ a ∈ as, ∀ b ∈ bs, F a b → G a b) → Paired F as bs → Paired G as bs
  | _, _, _, .nil => .nil
  | _, _, k, .cons h1 h2 => .cons (k _ List.mem_cons_self _ List.mem_cons_self h1) (pr_mono (fun a ha b hb => k a (List.mem_cons_of_mem _ ha) b (List.mem_cons_of_mem _ hb)) h2)
theorem paired_left {α β : Type} {F : α → β → Prop} : ∀ {as : List α} {bs : List β}, Paired F as bs → ∀ a ∈ as, ∃ b ∈ bs, F a b
  | _, _, .nil, a, h => nomatch h
  | _, _, .cons h t, a, m => by
    rcases List.mem_cons.mp m with rfl | m
    · exact ⟨_, List.mem_cons_self, h⟩
    · obtain ⟨b, hb, e⟩ := paired_left t a m
      exact ⟨b, List.mem_cons_of_mem _ hb, e⟩
theorem paired_len3 {α β : Type} {F : α → β → Prop} : ∀ {as : List α} {bs : List β}, Paired F as bs → as.length = bs.length
  | _, _, .nil => rfl
  | _, _, .cons _ t => by rw [List.length_cons, List.length_cons, paired_len3 t]
structure WK (P : Program) (w : World) (lead : OKey → Nat → OKey) (sg : List Nat) (U : OKey → Prop) (b : OKey) (pt pr pd tb : Addr) (H : Hp) (L : WLO) (k i : Nat) (tas : List Addr) (H' : Hp) : Prop where
  sm : Same H H'
  ept : H' pt = some (.lst ((ths L).map kO))
  epr : H' pr = some (.lst (txs (rws sg L)))
  epd : H' pd = some (ODO P w pd (ndL (ths L)))
  etb : H' tb = some (.lst (tas.map V.ref))
  row : Paired (fun ta x => H' ta = some (.lst (tgt lead sg.length (ths L) x))) tas ((ths L).take k)
  off : ∀ ta ∈ tas, ta ≠ pt ∧ ta ≠ pr ∧ ta ≠ tb
  st : UW.St lead sg.length (fun _ => False) b L k i
  us : ∀ x ∈ ths L, U x
  sh : ∀ (j : Nat) p, L[j]? = some p → p.2.length ≤ j
  fresh : H pt = none ∧ H pr = none ∧ H pd = none ∧ H tb = none
  ne : pt ≠ pr ∧ pt ≠ tb ∧ pr ≠ tb
section
variable {P : Program} {w : World} {lead : OKey → Nat → OKey} {sg : List Nat} {U : OKey → Prop} {b : OKey} {pt pr pd tb : Addr} {H H' H2 : Hp} {L : WLO} {k i : Nat} {tas : List Addr}
theorem WK.same (s : Same H' H2) (h : WK P w lead sg U b pt pr pd tb H L k i tas H') : WK P w lead sg U b pt pr pd tb H L k i tas H2 :=
  ⟨h.sm.trans s, s _ _ h.ept, s _ _ h.epr, s _ _ h.epd, s _ _ h.etb, pr_mono (fun _ _ _ _ e => s _ _ e) h.row, h.off, h.st, h.us, h.sh, h.fresh, h.ne⟩
theorem WK.len (h : WK P w lead sg U b pt pr pd tb H L k i tas H') {N : Nat} (hN : ∀ l : List OKey, l.Nodup → (∀ x ∈ l, U x) → l.length ≤ N) : L.length ≤ N := by
  have := hN (ths L) h.st.nd h.us
  unfold ths at this
  rw [List.length_map] at this; exact this
end
theorem ne_of_upd {H : Hp} {p q : Addr} {o : HO} (h : upd H p o q = none) : q ≠ p ∧ H q = none := by
  by_cases e : q = p
  · rw [e, upd_same] at h; cases h
  · exact ⟨e, by rw [upd_ne e] at h; exact h⟩
section
variable {P : Program} {w : World} {K : PySem.W.Frag} {mg : Str → Option Value} {base : Heap}
abbrev s_wt : Stmt := top 17
abbrev n_wt : List Str := ["signs", "begin", "lead", "things", "rows", "numbers", "table", "at", "targets", "place", "sign", "following"]
theorem sc_wt : FnScope n_wt ["signs", "begin", "lead"] (fnScope s_wt) := fnScope_by (by decide +kernel)
def spLd (U : OKey → Prop) (m : Nat) (lead : OKey → Nat → OKey) : Sp := fun vs H Q _ => ∃ (t : OKey) (i : Nat), vs = [kO t, .int (i : Nat)] ∧ U t ∧ i < m ∧ ∀ H', Same H H' → Q (kO (lead t i)) H'
def spWt (gl : Addr) (trl : Hp → Prop) (U : OKey → Prop) (lead : OKey → Nat → OKey) (sg : List Nat) : Sp := fun vs H Q _ => ∃ (b : OKey), vs = [.str (S sg), kO b, .ref gl] ∧ U b ∧ trl H ∧
  ∀ (t pt pr tb : Addr) (tas : List Addr) (L : WLO) (H' : Hp), Same H H' → H' t = some (.tup [.ref pt, .ref pr, .ref tb]) → H' pt = some (.lst ((ths L).map kO)) → H' pr = some (.lst (txs (rws sg L))) → H' tb = some (.lst (tas.map V.ref)) →
    Paired (fun ta x => H' ta = some (.lst (tgt lead sg.length (ths L) x))) tas (ths L) → UW.St lead sg.length (fun _ => False) b L L.length 0 → Q (.ref t) H'
theorem ok_wt {U : OKey → Prop} {N : Nat} (h900 : N ≤ 900) (hN : ∀ l : List OKey, l.Nodup → (∀ x ∈ l, U x) → l.length ≤ N) {kl : Nat} {gl : Addr} {trl : Hp → Prop} {lead : OKey → Nat → OKey} {sg : List Nat} (hl3 : sg.length ≤ 3) (hU : ∀ t i, U t → i < sg.length → U (lead t i)) (stl : ∀ H H', Same H H' → trl H → trl H')
    (T : BT mg) (c_lead : CV P w K mg base kl gl trl (spLd U sg.length lead))
    {f : Addr} {fd : FuncData} (F : Def K mg "walked_table" s_wt f fd) (b : Binds K fd ["signs", "begin", "lead"] []) : Cal P w K mg base (kl + 1) "walked_table" (spWt gl trl U lead sg) [] := by
  refine cal0 F b .nil sc_wt (fun vs H Q E h => ?_) (fun cdv A outer s H vs Q E hr h => ?_)
  · obtain ⟨_, rfl, _⟩ := h; rfl
  · obtain ⟨b, rfl, hb, htl, k⟩ := h
    refine ⟨_, (pss_cons (ps_set (i := 3) sc_wt.nd rfl (.inl rfl) (pe_lst (pa_cons (pv 1) pa_nil)))
      (pss_cons (ps_set (i := 4) sc_wt.nd rfl (.inl rfl) (pe_lst (pa_cons pe_str pa_nil)))
      (pss_cons (ps_set (i := 5) sc_wt.nd rfl (.inl rfl) (pe_disp1O (pv 1) pe_int))
      (pss_cons (ps_set (i := 6) sc_wt.nd rfl (.inl rfl) (pe_lst pa_nil))
      (pss_cons (ps_set (i := 7) sc_wt.nd rfl (.inl rfl) pe_int)
      (pss_cons (ps_while PassesOwn.never (pt_cmpR op_lt (pv 7) (pe_callB (lenK K) (by rfl) T.m_len PySem.boot_len (pa_cons (pv 3) pa_nil)) (nomark _)) 
        (pss_cons (ps_set (i := 8) sc_wt.nd rfl (.inl rfl) (pe_lst pa_nil))
        (pss_cons (ps_for PassesOwn.never rfl (pi_enumX (by rfl) T.m_enumerate (pa_cons (pv 0) pa_nil)) (tupK K 2 (pgs_cons (pg_name (i := 9) sc_wt.nd rfl (.inl rfl)) (pgs_cons (pg_name (i := 10) sc_wt.nd rfl (.inl rfl)) pgs_nil))) 
          (pss_cons (ps_set (i := 11) sc_wt.nd rfl (.inl rfl) (pe_callV (i := 2) c_lead hr (Nat.le_refl _) rfl (.inl rfl) (pa_cons (pe_ix (ixl K) (pv 3) (pv 7) (fun _ _ => rfl)) (pa_cons (pv 9) pa_nil))))
          (pss_cons (ps_if (pt_cmpR op_notInO (pv 11) (pv 5) rfl) 
            (pss_cons (ps_asg (pe_callB (lenK K) (by rfl) T.m_len PySem.boot_len (pa_cons (pv 3) pa_nil)) (pg_sub (pv 5) (pv 11) set_dictO))
            (pss_cons (ps_expr (pe_bm PySem.F.plainAttrs_list PySem.F.slot_list_append PySem.F.type_list_append mt_append (pv 3) (pa_cons (pv 11) pa_nil)))
            (pss_one (ps_expr (pe_bm PySem.F.plainAttrs_list PySem.F.slot_list_append PySem.F.type_list_append mt_append (pv 4) (pa_cons (pe_op op_add_str (pe_ix (ixl K) (pv 4) (pv 7) (fun _ _ => rfl)) (pv 10)) pa_nil)))
            )))
           pss_nil)
          (pss_one (ps_expr (pe_bm PySem.F.plainAttrs_list PySem.F.slot_list_append PySem.F.type_list_append mt_append (pv 8) (pa_cons (pe_dgetOP P w (pv 5) (pv 11) (fun _ _ => rfl)) pa_nil)))
          ))))
        (pss_cons (ps_expr (pe_bm PySem.F.plainAttrs_list PySem.F.slot_list_append PySem.F.type_list_append mt_append (pv 6) (pa_cons (pv 8) pa_nil)))
        (pss_one (ps_aug (i := 7) sc_wt.nd rfl (.inl rfl) pe_int ip_add)
        )))))
      (pss_one (ps_ret (pe_tup (pa_cons (pv 3) (pa_cons (pv 4) (pa_cons (pv 6) pa_nil)))))
      ))))))), ?_⟩
    refine ⟨_, rfl, by show 1 ≤ sizeLine; decide, fun pt hpt => ?_⟩
    refine ⟨by show 1 ≤ sizeLine; decide, fun pr hpr => ?_⟩
    refine fun pd hpd => ⟨_, rfl, b, rfl, upd_same, ?_⟩
    refine ⟨by show 0 ≤ sizeLine; decide, fun tb htb => ?_⟩
    obtain ⟨n4, h4⟩ := ne_of_upd htb
    obtain ⟨_, h4⟩ := ne_of_upd h4
    obtain ⟨n43, h4⟩ := ne_of_upd h4
    obtain ⟨n42, h4⟩ := ne_of_upd h4
    obtain ⟨n32, h3⟩ := ne_of_upd hpd
    obtain ⟨n31, h3⟩ := ne_of_upd h3
    obtain ⟨n21, h2⟩ := ne_of_upd hpr
    have W0 : WK P w lead sg U b pt pr pd tb H [(b, [])] 0 0 [] (upd (upd (upd (upd (upd H pt (.lst [kO b])) pr (.lst [.str (Str.ofString "")])) pd (ODO P w pd [])) pd (ODO P w pd [(b, .int 0)])) tb (.lst [])) := by
      refine ⟨sm_put (sm_put (sm_put (sm_put (sm_put (Same.refl H) hpt) h2) h3) h3) h4, ?_, ?_, ?_, upd_same, .nil, (fun _ h => nomatch h), UW.St.init, fun x hx => ?_, fun j p e => ?_, ⟨hpt, h2, h3, h4⟩, ⟨n21.symm, n42.symm, n43.symm⟩⟩
      · rw [upd_ne n42.symm, upd_ne n31.symm, upd_ne n31.symm, upd_ne n21.symm, upd_same]; rfl
      · rw [upd_ne n43.symm, upd_ne n32.symm, upd_ne n32.symm, upd_same]; rfl
      · rw [upd_ne n4.symm, upd_same]; rfl
      · rw [List.mem_singleton.mp hx]; exact hb
      · rcases j with _ | j
        · cases e; exact Nat.zero_le _
        · simp at e
    refine ⟨fun m σ H' => ∃ (L : WLO) (at_ : Nat) (tas : List Addr) (s8 s9 s10 s11 : Option V), m = N + 1 - at_ ∧ at_ ≤ L.length ∧ σ = [some (.str (S sg)), some (kO b), some (.ref gl), some (.ref pt), some (.ref pr), some (.ref pd), some (.ref tb), some (.int (at_ : Nat)), s8, s9, s10, s11] ∧ WK P w lead sg U b pt pr pd tb H L at_ 0 tas H', ?_, ?_⟩
    · exact ⟨_, [(b, [])], 0, [], _, _, _, _, rfl, Nat.zero_le _, rfl, W0⟩
    clear W0 hpt hpr hpd htb n4 n43 n42 n32 n31 n21 h2 h3
    rintro m σ H1 ⟨L, at_, tas, s8, s9, s10, s11, rfl, hat, rfl, W1⟩
    have hLN := W1.len hN
    have hlen : ((ths L).map kO).length = L.length := by unfold ths; rw [List.length_map, List.length_map]
    refine ⟨_, rfl, _, rfl, pt, _, rfl, .inl (SqL.of W1.ept), _, _, rfl, rfl, _, rfl, ?_⟩
    rw [hlen]
    refine ite2 (fun hc => ?_) (fun hc => ?_)
    · have hal : at_ < L.length := by rw [decide_eq_true_eq] at hc; omega
      obtain ⟨⟨x, r⟩, hx⟩ : ∃ p, L[at_]? = some p := ⟨_, List.getElem?_eq_getElem hal⟩
      have hUx : U x := W1.us x (List.mem_map.mpr ⟨(x, r), List.mem_of_getElem? hx, rfl⟩)
      have hrl : r.length ≤ 900 := by have := W1.sh at_ (x, r) hx; have : r.length ≤ at_ := this; omega
      refine ⟨fun σ' H' => ∃ (L : WLO) (tas : List Addr) (s8 s9 s10 s11 : Option V), at_ + 1 ≤ L.length ∧ σ' = [some (.str (S sg)), some (kO b), some (.ref gl), some (.ref pt), some (.ref pr), some (.ref pd), some (.ref tb), some (.int ((at_ + 1 : Nat) : Int)), s8, s9, s10, s11] ∧ WK P w lead sg U b pt pr pd tb H L (at_ + 1) 0 tas H',
        fun σ' H' ⟨L, tas, s8, s9, s10, s11, a0, a1, a2⟩ => ⟨N + 1 - (at_ + 1), by omega, L, at_ + 1, tas, s8, s9, s10, s11, rfl, a0, a1, a2⟩, ?_⟩
      refine ⟨by show 0 ≤ sizeLine; decide, fun tl htl0 => ?_⟩
      have W2 := W1.same (sm_new (o := .lst []) htl0)
      have htlH : H tl = none := W1.sm.free htl0
      have etl : (upd H1 tl (.lst [])) tl = some (.lst []) := upd_same
      have offT : tl ≠ pt ∧ tl ≠ pr ∧ tl ≠ pd ∧ tl ≠ tb ∧ ∀ ta ∈ tas, ta ≠ tl := by
        refine ⟨fun e => ?_, fun e => ?_, fun e => ?_, fun e => ?_, fun ta hta e => ?_⟩
        · rw [e, W1.ept] at htl0; cases htl0
        · rw [e, W1.epr] at htl0; cases htl0
        · rw [e, W1.epd] at htl0; cases htl0
        · rw [e, W1.etb] at htl0; cases htl0
        · obtain ⟨y, _, ey⟩ := paired_left W1.row ta hta
          rw [e, htl0] at ey; cases ey
      generalize upd H1 tl (.lst []) = H2 at W2 etl ⊢
      refine ⟨_, rfl, .str (S sg), .txt (S sg), rfl, rfl, trivial, for_it (walk_enumX (K := K) (S := .txt (S sg)) (xs := sg.map fun c => V.str (S [c]))) (fun i σ H' => ∃ (L : WLO) (s9 s10 s11 : Option V), σ = [some (.str (S sg)), some (kO b), some (.ref gl), some (.ref pt), some (.ref pr), some (.ref pd), some (.ref tb), some (.int (at_ : Nat)), some (.ref tl), s9, s10, s11] ∧
          WK P w lead sg U b pt pr pd tb H L at_ i tas H' ∧ L[at_]? = some (x, r) ∧ H' tl = some (.lst ((List.range i).map fun c => V.int (noO (ths L) (lead x c) : Nat))))
          ⟨L, _, _, _, rfl, W2, hx, etl⟩ (fun _ _ _ _ _ => by show (sg.map fun c => V.str (S [c])) = _; simp [S]) ?_ ?_⟩
      · clear W2 etl W1 hlen hx hat hal hLN hc H2 L s8 s9 s10 s11
        rintro i y σ H3 H3' hi ⟨L, s9, s10, s11, rfl, W3, hx, et3⟩ ⟨T, x1, x2, rfl, hT, rfl, e1, e2⟩
        obtain rfl : V.int (i : Nat) = x1 := Option.some.inj e1
        have e2 : (sg.map fun c => V.str (S [c]))[i]? = some x2 := e2
        rw [List.getElem?_map] at e2
        rw [List.length_map] at hi
        have hci : sg[i]? = some sg[i] := List.getElem?_eq_getElem hi
        generalize hcc : sg[i] = c at hci
        rw [hci] at e2
        obtain rfl := Option.some.inj e2
        have sT := sm_new (o := .tup [.int (i : Nat), .str (S [c])]) hT
        have W4 := W3.same sT
        have et4 := sT _ _ et3
        have eT : (upd H3 T (.tup [.int (i : Nat), .str (S [c])])) T = some (.tup [.int (i : Nat), .str (S [c])]) := upd_same
        refine ⟨T, _, rfl, .inl (.inl eT), rfl, _, _, rfl, _, _, rfl, rfl, ?_⟩
        generalize upd H3 T (.tup [.int (i : Nat), .str (S [c])]) = H4 at W4 et4 eT ⊢
        clear sT eT hT W3 et3 H3
        have hxk : ((ths L).map kO)[at_]? = some (kO x) := by unfold ths; rw [List.map_map, List.getElem?_map, hx]; rfl
        refine ⟨rfl, stl _ _ W4.sm htl, _, rfl, _, rfl, pt, _, (at_ : Nat), kO x, rfl, rfl, SqL.of W4.ept, atI_nat hxk, _, rfl, stl _ _ W4.sm htl, x, i, rfl, hUx, hi, fun H5 s5 => ?_⟩
        have W5 := W4.same s5
        have et5 := s5 _ _ et4
        clear W4 et4 s5 H4 hxk
        have hUy := hU x i hUx hi
        refine ⟨_, rfl, _, rfl, pd, lead x i, ndL (ths L), rfl, rfl, W5.epd, _, rfl, ?_⟩
        obtain ⟨o1, o2, o3, o4, o5⟩ := offT
        have hLN := W5.len hN
        have hal := (List.getElem?_eq_some_iff.mp hx).1
        by_cases hmem : lead x i ∈ ths L
        · rw [atO_nd hmem]
          refine iteN rfl ?_
          refine ⟨_, rfl, .inl ⟨rfl, _, SqL.of et5⟩, _, rfl, _, rfl, pd, lead x i, ndL (ths L), _, rfl, rfl, W5.epd, atO_nd hmem, tl, _, _, rfl, rfl, et5, by rw [List.length_map, List.length_range]; exact Nat.lt_of_le_of_lt (show i ≤ 3 by omega) (by decide), ?_⟩
          have hq : ∃ q ∈ L, q.1 = lead x i := by
            obtain ⟨q, hq, e⟩ := List.mem_map.mp hmem
            exact ⟨q, hq, e⟩
          have ndl : pd ≠ tl := fun e => o3 e.symm
          refine ⟨L, _, _, _, rfl, ⟨sm_put W5.sm htlH, (upd_ne (Ne.symm o1)).trans W5.ept, (upd_ne (Ne.symm o2)).trans W5.epr, (upd_ne ndl).trans W5.epd, (upd_ne (Ne.symm o4)).trans W5.etb, pr_mono (fun a ha _ _ e => (upd_ne (o5 a ha)).trans e) W5.row, W5.off, W5.st.old hx hq, W5.us, W5.sh, W5.fresh, W5.ne⟩, hx, ?_⟩
          rw [upd_same, List.range_succ, List.map_append]; rfl
        · rw [atO_nn hmem]
          refine iteB rfl ?_
          have lT : (ths L).length = L.length := by unfold ths; rw [List.length_map]
          have lR : (rws sg L).length = L.length := by unfold rws; rw [List.length_map]
          have b900 : L.length < sizeLine := Nat.lt_of_le_of_lt (Nat.le_trans hLN h900) (by decide)
          have npd : pt ≠ pd := fun e => by have z := W5.ept; rw [e, W5.epd] at z; cases z
          have nrd : pr ≠ pd := fun e => by have z := W5.epr; rw [e, W5.epd] at z; cases z
          have nbd : tb ≠ pd := fun e => by have z := W5.etb; rw [e, W5.epd] at z; cases z
          refine ⟨_, rfl, pt, _, rfl, .inl (SqL.of W5.ept), _, rfl, _, rfl, pd, lead x i, ndL (ths L), rfl, rfl, W5.epd, by rw [ndL_len, lT]; exact b900, atO_nn hmem, ?_⟩
          have eNd : ndL (ths L) ++ [(lead x i, V.int ((((ths L).map kO).length : Nat) : Int))] = ndL (ths L ++ [lead x i]) := by rw [ndL_snoc, List.length_map]
          rw [eNd]
          have eptA : (upd H5 pd (ODO P w pd (ndL (ths L ++ [lead x i])))) pt = some (.lst ((ths L).map kO)) := (upd_ne npd).trans W5.ept
          have eprA : (upd H5 pd (ODO P w pd (ndL (ths L ++ [lead x i])))) pr = some (.lst (txs (rws sg L))) := (upd_ne nrd).trans W5.epr
          refine ⟨_, rfl, .inl ⟨rfl, _, SqL.of eptA⟩, _, rfl, pt, _, _, rfl, rfl, eptA, by rw [List.length_map, lT]; exact b900, ?_⟩
          have eprB : (upd (upd H5 pd (ODO P w pd (ndL (ths L ++ [lead x i])))) pt (.lst ((ths L).map kO ++ [kO (lead x i)]))) pr = some (.lst (txs (rws sg L))) := (upd_ne W5.ne.1.symm).trans eprA
          have hrk : (txs (rws sg L))[at_]? = some (.str (S (r.map fun c => sg.getD c 0))) := by unfold txs rws; rw [List.map_map, List.getElem?_map, hx]; rfl
          refine ⟨_, rfl, .inl ⟨rfl, _, SqL.of eprB⟩, _, rfl, _, rfl, pr, _, (at_ : Nat), _, rfl, rfl, SqL.of eprB, atI_nat hrk, _, rfl, _, _, rfl, rfl, by rw [S_len, S_len, List.length_map]; exact Nat.le_trans (show r.length + 1 ≤ 901 by omega) (by decide), pr, _, _, rfl, rfl, eprB, by rw [txs_len, lR]; exact b900, ?_⟩
          have hgc : sg.getD i 0 = c := by rw [List.getD_eq_getElem?_getD, hci]; rfl
          have eL : ths (L ++ [(lead x i, r ++ [i])]) = ths L ++ [lead x i] := by unfold ths; rw [List.map_append]; rfl
          have eR : txs (rws sg (L ++ [(lead x i, r ++ [i])])) = txs (rws sg L) ++ [.str (S (r.map fun c => sg.getD c 0) ++ S [c])] := by
            have e : (r ++ [i]).map (fun c => sg.getD c 0) = (r.map fun c => sg.getD c 0) ++ [c] := by rw [List.map_append, List.map_singleton, hgc]
            unfold rws txs
            rw [List.map_append, List.map_append, List.map_singleton, List.map_singleton, S_cat, e]
          have hdone : ∀ (j d : Nat) (y : OKey), (ths L)[j]? = some y → d < sg.length → (j < at_ ∨ (j = at_ ∧ d < i)) → lead y d ∈ ths L := fun j d y hy hd h => by
            unfold ths at hy
            rw [List.getElem?_map] at hy
            obtain ⟨p, hp, rfl⟩ := Option.map_eq_some_iff.mp hy
            obtain ⟨q, hq, e⟩ := W5.st.done j p d hp hd h
            exact List.mem_map.mpr ⟨q, hq, e⟩
          have npt : ∀ a : Addr, a ∈ tas → a ≠ pd := fun a h e => by
            obtain ⟨y, _, ey⟩ := paired_left W5.row a h
            rw [e, W5.epd] at ey; cases ey
          have keepC : ∀ a, a ≠ pd → a ≠ pt → a ≠ pr → ∀ o o1 o2, (upd (upd (upd H5 pd o) pt o1) pr o2) a = H5 a := fun a h1 h2 h3 o o1 o2 => by rw [upd_ne h3, upd_ne h2, upd_ne h1]
          have WC : WK P w lead sg U b pt pr pd tb H (L ++ [(lead x i, r ++ [i])]) at_ (i + 1) tas (upd (upd (upd H5 pd (ODO P w pd (ndL (ths L ++ [lead x i])))) pt (.lst ((ths L).map kO ++ [kO (lead x i)]))) pr (.lst (txs (rws sg L) ++ [.str (S (r.map fun c => sg.getD c 0) ++ S [c])]))) := by
            refine ⟨sm_put (sm_put (sm_put W5.sm W5.fresh.2.2.1) W5.fresh.1) W5.fresh.2.1, ?_, ?_, ?_, ?_, ?_, W5.off, W5.st.new hx hi (fun q hq e => hmem (List.mem_map.mpr ⟨q, hq, e⟩)) (fun _ _ h => h), ?_, ?_, W5.fresh, W5.ne⟩
            · rw [upd_ne W5.ne.1, upd_same, eL, List.map_append]; rfl
            · rw [upd_same, eR]
            · rw [upd_ne nrd.symm, upd_ne npd.symm, upd_same, eL]
            · rw [keepC tb nbd W5.ne.2.1.symm W5.ne.2.2.symm]; exact W5.etb
            · rw [eL, List.take_append_of_le_length (by omega)]
              refine pr_mono (fun a ha y hy e => ?_) W5.row
              rw [keepC a (npt a ha) (W5.off a ha).1 (W5.off a ha).2.1, e]
              have : tgt lead sg.length (ths L) y = tgt lead sg.length (ths L ++ [lead x i]) y := by
                obtain ⟨j, hj⟩ := List.getElem?_of_mem hy
                have hjl := (List.getElem?_eq_some_iff.mp hj).1
                rw [List.length_take] at hjl
                rw [List.getElem?_take_of_lt (by omega)] at hj
                unfold tgt
                refine List.map_congr_left fun d hd => ?_
                rw [noO_app (hdone j d y hj (List.mem_range.mp hd) (.inl (by omega)))]
              rw [this]
            · intro y hy
              rw [eL] at hy
              rcases List.mem_append.mp hy with hy | hy
              · exact W5.us y hy
              · rw [List.mem_singleton.mp hy]; exact hUy
            · intro j p e
              by_cases hj : j < L.length
              · rw [List.getElem?_append_left hj] at e
                exact W5.sh j p e
              · rw [List.getElem?_append_right (by omega)] at e
                have h0 : j - L.length = 0 := by
                  rcases Nat.eq_zero_or_pos (j - L.length) with h | h
                  · exact h
                  · rw [List.getElem?_eq_none (by simp; omega)] at e; cases e
                rw [h0] at e
                cases e
                have : r.length ≤ at_ := W5.sh at_ (x, r) hx
                show (r ++ [i]).length ≤ j
                rw [List.length_append, List.length_singleton]; omega
          have etC : (upd (upd (upd H5 pd (ODO P w pd (ndL (ths L ++ [lead x i])))) pt (.lst ((ths L).map kO ++ [kO (lead x i)]))) pr (.lst (txs (rws sg L) ++ [.str (S (r.map fun c => sg.getD c 0) ++ S [c])]))) tl = some (.lst ((List.range i).map fun c => V.int (noO (ths (L ++ [(lead x i, r ++ [i])])) (lead x c) : Nat))) := by
            rw [keepC tl o3 o1 o2, et5, eL]
            congr 2
            refine List.map_congr_left fun d hd => ?_
            have hxt : (ths L)[at_]? = some x := by unfold ths; rw [List.getElem?_map, hx]; rfl
            rw [noO_app (hdone at_ d x hxt (by have := List.mem_range.mp hd; omega) (.inr ⟨rfl, List.mem_range.mp hd⟩))]
          have hxC : (L ++ [(lead x i, r ++ [i])])[at_]? = some (x, r) := by rw [List.getElem?_append_left hal]; exact hx
          have hmC : lead x i ∈ ths (L ++ [(lead x i, r ++ [i])]) := by rw [eL]; exact List.mem_append_right _ List.mem_cons_self
          clear keepC eptA eprA eprB
          refine ⟨_, rfl, .inl ⟨rfl, _, SqL.of etC⟩, _, rfl, _, rfl, pd, lead x i, ndL (ths (L ++ [(lead x i, r ++ [i])])), _, rfl, rfl, WC.epd, atO_nd hmC, tl, _, _, rfl, rfl, etC, by rw [List.length_map, List.length_range]; exact Nat.lt_of_le_of_lt (show i ≤ 3 by omega) (by decide), ?_⟩
          refine ⟨L ++ [(lead x i, r ++ [i])], _, _, _, rfl, ⟨sm_put WC.sm htlH, (upd_ne (Ne.symm o1)).trans WC.ept, (upd_ne (Ne.symm o2)).trans WC.epr, (upd_ne (Ne.symm o3)).trans WC.epd, (upd_ne (Ne.symm o4)).trans WC.etb, pr_mono (fun a ha _ _ e => (upd_ne (o5 a ha)).trans e) WC.row, WC.off, WC.st, WC.us, WC.sh, WC.fresh, WC.ne⟩, hxC, ?_⟩
          rw [upd_same, List.range_succ, List.map_append]; rfl
      · rintro σ H5 ⟨L5, s9, s10, s11, rfl, W5, hx5, et5⟩
        rw [List.length_map] at W5 et5
        have hl5 := W5.len hN
        have hal5 := (List.getElem?_eq_some_iff.mp hx5).1
        have htk : ((ths L5).take (at_ + 1)) = (ths L5).take at_ ++ [x] := by
          have e : (ths L5)[at_]? = some x := by unfold ths; rw [List.getElem?_map, hx5]; rfl
          rw [List.take_succ, e]; rfl
        have htl5 := paired_len3 W5.row
        rw [List.length_take] at htl5
        refine ⟨_, rfl, .inl ⟨rfl, _, SqL.of W5.etb⟩, _, rfl, tb, _, _, rfl, rfl, W5.etb, by rw [List.length_map]; exact Nat.lt_of_le_of_lt (show tas.length ≤ 900 by omega) (by decide), ?_⟩
        refine ⟨_, rfl, _, _, rfl, rfl, ?_⟩
        obtain ⟨o1, o2, o3, o4, o5⟩ := offT
        refine ⟨L5, tas ++ [tl], _, _, _, _, hal5, rfl, ?_⟩
        have ndb : pd ≠ tb := fun e => by have z := W5.epd; rw [e, W5.etb] at z; cases z
        refine ⟨sm_put W5.sm W5.fresh.2.2.2, (upd_ne W5.ne.2.1).trans W5.ept, (upd_ne W5.ne.2.2).trans W5.epr, (upd_ne ndb).trans W5.epd, by rw [upd_same, List.map_append]; rfl, ?_, fun ta hta => ?_, W5.st.next, W5.us, W5.sh, W5.fresh, W5.ne⟩
        · rw [htk]
          exact pr_app2 (pr_mono (fun a ha _ _ e => (upd_ne (W5.off a ha).2.2).trans e) W5.row) ((upd_ne o4).trans et5)
        · rcases List.mem_append.mp hta with h | h
          · exact W5.off ta h
          · rw [List.mem_singleton.mp h]; exact ⟨o1, o2, o4⟩
    · have hal : at_ = L.length := by rw [Bool.not_eq_true, decide_eq_false_iff_not] at hc; omega
      subst hal
      refine ⟨_, rfl, _, rfl, _, rfl, by show 3 ≤ sizeLine; decide, fun t ht => ?_⟩
      have W2 := W1.same (sm_new (o := .tup [.ref pt, .ref pr, .ref tb]) ht)
      refine k t pt pr tb tas L _ W2.sm upd_same W2.ept W2.epr W2.etb ?_ W2.st
      have e : (ths L).take L.length = ths L := List.take_of_length_le (by unfold ths; rw [List.length_map]; exact Nat.le_refl _)
      have := W2.row
      rw [e] at this
      exact this
end
end Toy
set_option maxHeartbeats 1000000
namespace UW
section
variable {α : Type} [DecidableEq α] {lead : α → Nat → α} {isl : α → Bool} {sg : List Nat} {b : α}
def innG (lead : α → Nat → α) (isl : α → Bool) (t : α) (r : List Nat) : Nat → List Nat → List (α × List Nat) → List (α × List Nat)
  | _, [], L => L
  | i, c :: cs, L => if lead t i ∈ L.map (·.1) then innG lead isl t r (i + 1) cs L else if isl (lead t i) = true then L ++ [(lead t i, r ++ [c])] else innG lead isl t r (i + 1) cs (L ++ [(lead t i, r ++ [c])])
def outG (lead : α → Nat → α) (isl : α → Bool) (sg : List Nat) (lastOf : List (α × List Nat) → α) : Nat → Nat → List (α × List Nat) → List (α × List Nat)
  | 0, _, L => L
  | n + 1, at_, L => match L[at_]? with
    | none => L
    | some (t, r) => if isl (lastOf L) = true then L else outG lead isl sg lastOf n (at_ + 1) (innG lead isl t r 0 sg L)
def conv (sg : List Nat) (L : List (α × List Nat)) : List (α × List Nat) := L.map fun p => (p.1, p.2.map fun c => sg.idxOf c)
theorem conv_get {L : List (α × List Nat)} {k : Nat} {p : α × List Nat} (h : L[k]? = some p) : (conv sg L)[k]? = some (p.1, p.2.map fun c => sg.idxOf c) := by
  unfold conv; rw [List.getElem?_map, h]; rfl
theorem conv_mem {L : List (α × List Nat)} {q : α × List Nat} (h : q ∈ conv sg L) : ∃ p ∈ L, q.1 = p.1 := by
  obtain ⟨p, hp, rfl⟩ := List.mem_map.mp h
  exact ⟨p, hp, rfl⟩
theorem mem_conv {L : List (α × List Nat)} {p : α × List Nat} (h : p ∈ L) : ∃ q ∈ conv sg L, q.1 = p.1 := ⟨_, List.mem_map.mpr ⟨p, h, rfl⟩, rfl⟩
abbrev StC (lead : α → Nat → α) (isl : α → Bool) (sg : List Nat) (b : α) (L : List (α × List Nat)) (k i : Nat) : Prop := St lead sg.length (fun t => isl t = true) b (conv sg L) k i
def Non (isl : α → Bool) (L : List (α × List Nat)) : Prop := ∀ q ∈ L, isl q.1 = false
def Fnd (lead : α → Nat → α) (isl : α → Bool) (sg : List Nat) (b : α) (L : List (α × List Nat)) : Prop := (∃ k i, StC lead isl sg b L k i) ∧ ∃ p, L[L.length - 1]? = some p ∧ isl p.1 = true
theorem innG_ok (nd : sg.Nodup) {k : Nat} {t : α} {r : List Nat} : ∀ (cs : List Nat) (i : Nat) (L : List (α × List Nat)), sg.drop i = cs → i ≤ sg.length → StC lead isl sg b L k i → L[k]? = some (t, r) → Non isl L →
    (StC lead isl sg b (innG lead isl t r i cs L) k sg.length ∧ Non isl (innG lead isl t r i cs L)) ∨ Fnd lead isl sg b (innG lead isl t r i cs L)
  | [], i, L, hd, hi, st, hk, hn => by
    have : i = sg.length := by
      have := congrArg List.length hd
      rw [List.length_drop] at this
      simp at this
      omega
    subst this
    exact .inl ⟨st, hn⟩
  | c :: cs, i, L, hd, hi, st, hk, hn => by
    have hil : i < sg.length := by
      have := congrArg List.length hd
      rw [List.length_drop] at this
      simp at this
      omega
    have hc : sg[i]? = some c := by
      have e : (sg.drop i)[0]? = some c := by rw [hd]; rfl
      rw [List.getElem?_drop] at e
      simpa using e
    have hix : sg.idxOf c = i := by
      obtain ⟨h1, h2⟩ := List.getElem?_eq_some_iff.mp hc
      rw [← h2]; exact nd.idxOf_getElem i h1
    have hd2 : sg.drop (i + 1) = cs := by
      have : (sg.drop i).drop 1 = cs := by rw [hd]; rfl
      rw [List.drop_drop] at this
      exact this
    have hkc : (conv sg L)[k]? = some (t, r.map fun c => sg.idxOf c) := conv_get hk
    unfold innG
    by_cases hm : lead t i ∈ L.map (·.1)
    · rw [if_pos hm]
      obtain ⟨q, hq, e⟩ := List.mem_map.mp hm
      obtain ⟨q', hq', e'⟩ := mem_conv (sg := sg) hq
      exact innG_ok nd cs (i + 1) L hd2 hil (st.old hkc ⟨q', hq', e'.trans e⟩) hk hn
    · rw [if_neg hm]
      have hnew : ∀ q ∈ conv sg L, q.1 ≠ lead t i := fun q hq e => by
        obtain ⟨p, hp, e2⟩ := conv_mem hq
        exact hm (List.mem_map.mpr ⟨p, hp, e2.symm.trans e⟩)
      have hnl : ∀ q ∈ conv sg L, ¬ isl q.1 = true := fun q hq h => by
        obtain ⟨p, hp, e2⟩ := conv_mem hq
        rw [e2, hn p hp] at h; cases h
      have st2 : StC lead isl sg b (L ++ [(lead t i, r ++ [c])]) k (i + 1) := by
        have e := st.new hkc hil hnew hnl
        have e2 : conv sg (L ++ [(lead t i, r ++ [c])]) = conv sg L ++ [(lead t i, (r.map fun c => sg.idxOf c) ++ [i])] := by
          unfold conv
          rw [List.map_append, List.map_cons, List.map_nil, List.map_append, List.map_cons, List.map_nil, hix]
        show St lead sg.length (fun t => isl t = true) b (conv sg (L ++ [(lead t i, r ++ [c])])) k (i + 1)
        rw [e2]
        exact e
      cases hl : isl (lead t i) with
      | true =>
        rw [if_pos rfl]
        exact .inr ⟨⟨k, i + 1, st2⟩, (lead t i, r ++ [c]), by rw [List.length_append]; simp, hl⟩
      | false =>
        rw [if_neg (by simp)]
        refine innG_ok nd cs (i + 1) _ hd2 hil st2 (by rw [List.getElem?_append_left (List.getElem?_eq_some_iff.mp hk).1]; exact hk) fun q hq => ?_
        rcases List.mem_append.mp hq with h | h
        · exact hn q h
        · rw [List.mem_singleton.mp h]; exact hl
def Ends (lead : α → Nat → α) (isl : α → Bool) (sg : List Nat) (b : α) (L : List (α × List Nat)) : Prop := Fnd lead isl sg b L ∨ (Non isl L ∧ L ≠ [] ∧ ∀ w, Rw sg.length w → isl (run lead b w) = false)
theorem outG_ok (nd : sg.Nodup) {lastOf : List (α × List Nat) → α} (hlo : ∀ (L : List (α × List Nat)) p, L[L.length - 1]? = some p → lastOf L = p.1) {N : Nat} (hN : ∀ L k i, StC lead isl sg b L k i → L.length ≤ N) : ∀ (n at_ : Nat) (L : List (α × List Nat)), N < at_ + n → StC lead isl sg b L at_ 0 → Non isl L → Ends lead isl sg b (outG lead isl sg lastOf n at_ L) := by
  have fin : ∀ (at_ : Nat) (L : List (α × List Nat)), L.length ≤ at_ → StC lead isl sg b L at_ 0 → Non isl L → Ends lead isl sg b L := fun at_ L hle st hn => by
    refine .inr ⟨hn, fun h => ?_, fun w hw => ?_⟩
    · have := st.zero; rw [h] at this; cases this
    · have := st.none (by unfold conv; rw [List.length_map]; exact hle) (fun q hq h => by
        obtain ⟨p, hp, e⟩ := conv_mem hq
        rw [e, hn p hp] at h; cases h) w hw
      cases e : isl (run lead b w) with
      | false => rfl
      | true => exact absurd e this
  intro n
  induction n with
  | zero =>
    intro at_ L hlt st hn
    exact fin at_ L (by have := hN L _ _ st; omega) st hn
  | succ n ih =>
    intro at_ L hlt st hn
    unfold outG
    cases e : L[at_]? with
    | none => exact fin at_ L (List.getElem?_eq_none_iff.mp e) st hn
    | some p =>
      obtain ⟨t, r⟩ := p
      have hlen : at_ < L.length := (List.getElem?_eq_some_iff.mp e).1
      have hlast : isl (lastOf L) = false := by
        have hp : L[L.length - 1]? = some L[L.length - 1] := List.getElem?_eq_getElem (by omega)
        rw [hlo L _ hp]
        exact hn _ (List.getElem_mem _)
      show Ends lead isl sg b (if isl (lastOf L) = true then L else outG lead isl sg lastOf n (at_ + 1) (innG lead isl t r 0 sg L))
      rw [hlast, if_neg (by simp)]
      rcases innG_ok nd sg 0 L rfl (Nat.zero_le _) st e hn with ⟨st2, hn2⟩ | hf
      · exact ih (at_ + 1) _ (by omega) st2.next hn2
      · refine .inl ?_
        have key : outG lead isl sg lastOf n (at_ + 1) (innG lead isl t r 0 sg L) = innG lead isl t r 0 sg L := by
          obtain ⟨_, p, hp, hl⟩ := hf
          cases n with
          | zero => rfl
          | succ n =>
            unfold outG
            split
            · rfl
            · rw [hlo _ p hp, hl, if_pos rfl]
        rw [key]
        exact hf
theorem Fnd.least {L : List (α × List Nat)} (h : Fnd lead isl sg b L) : ∃ p, L[L.length - 1]? = some p ∧ isl p.1 = true ∧ run lead b (p.2.map fun c => sg.idxOf c) = p.1 ∧ Rw sg.length (p.2.map fun c => sg.idxOf c) ∧ ∀ w, Rw sg.length w → isl (run lead b w) = true → ¬ sl w (p.2.map fun c => sg.idxOf c) := by
  obtain ⟨⟨k, i, st⟩, p, hp, hl⟩ := h
  have hc : (conv sg L)[L.length - 1]? = some (p.1, p.2.map fun c => sg.idxOf c) := conv_get hp
  obtain ⟨h1, h2⟩ := st.row _ _ hc
  refine ⟨p, hp, hl, h1, h2, fun w hw hlw => st.found (p := (p.1, p.2.map fun c => sg.idxOf c)) (by unfold conv at hc ⊢; rw [List.length_map]; exact hc) w hw hlw⟩
end
end UW
namespace Toy
def level (sg : List Nat) : Nat → List (List Nat)
  | 0 => [[]]
  | n + 1 => (level sg n).flatMap fun r => sg.map fun c => r ++ [c]
def upto (sg : List Nat) : Nat → List (List Nat)
  | 0 => [[]]
  | n + 1 => upto sg n ++ level sg (n + 1)
end Toy
set_option maxHeartbeats 1000000
namespace UW
section
variable {flag : Nat → Bool} {lead : Nat → Nat → Nat} {m n : Nat}
def Eb (flag : Nat → Bool) (lead : Nat → Nat → Nat) (m : Nat) : Nat → Nat → Nat → Bool
  | 0, i, j => flag i == flag j
  | k + 1, i, j => Eb flag lead m k i j && (List.range m).all fun c => Eb flag lead m k (lead i c) (lead j c)
theorem eb_succ {k i j : Nat} : Eb flag lead m (k + 1) i j = true ↔ Eb flag lead m k i j = true ∧ ∀ c, c < m → Eb flag lead m k (lead i c) (lead j c) = true := by
  show (Eb flag lead m k i j && (List.range m).all fun c => Eb flag lead m k (lead i c) (lead j c)) = true ↔ _
  rw [Bool.and_eq_true, List.all_eq_true]
  exact and_congr_right fun _ => ⟨fun h c hc => h c (List.mem_range.mpr hc), fun h c hc => h c (List.mem_range.mp hc)⟩
theorem eb_zero {k i j : Nat} (h : Eb flag lead m k i j = true) : flag i = flag j := by
  induction k with
  | zero => exact eq_of_beq h
  | succ k ih => exact ih (eb_succ.mp h).1
theorem eb_refl (k i : Nat) : Eb flag lead m k i i = true := by
  induction k generalizing i with
  | zero => exact beq_self_eq_true _
  | succ k ih => exact eb_succ.mpr ⟨ih i, fun c _ => ih _⟩
theorem eb_symm {k i j : Nat} (h : Eb flag lead m k i j = true) : Eb flag lead m k j i = true := by
  induction k generalizing i j with
  | zero => exact beq_iff_eq.mpr (eq_of_beq h).symm
  | succ k ih => exact eb_succ.mpr ⟨ih (eb_succ.mp h).1, fun c hc => ih ((eb_succ.mp h).2 c hc)⟩
theorem eb_trans {k i j l : Nat} (h : Eb flag lead m k i j = true) (g : Eb flag lead m k j l = true) : Eb flag lead m k i l = true := by
  induction k generalizing i j l with
  | zero => exact beq_iff_eq.mpr ((eq_of_beq h).trans (eq_of_beq g))
  | succ k ih => exact eb_succ.mpr ⟨ih (eb_succ.mp h).1 (eb_succ.mp g).1, fun c hc => ih ((eb_succ.mp h).2 c hc) ((eb_succ.mp g).2 c hc)⟩
theorem eb_row {k i j : Nat} : Eb flag lead m k i j = true ↔ ∀ w, Rw m w → w.length ≤ k → flag (run lead i w) = flag (run lead j w) := by
  induction k generalizing i j with
  | zero =>
    constructor
    · intro h w _ hl
      rw [List.length_eq_zero_iff.mp (Nat.le_zero.mp hl)]
      exact eq_of_beq h
    · intro h
      exact beq_iff_eq.mpr (h [] (fun _ h => nomatch h) (Nat.zero_le _))
  | succ k ih =>
    rw [eb_succ]
    constructor
    · rintro ⟨h1, h2⟩ w hw hl
      cases w with
      | nil => exact eb_zero h1
      | cons c u => exact ih.mp (h2 c (hw c List.mem_cons_self)) u (fun d hd => hw d (List.mem_cons_of_mem _ hd)) (by simpa using hl)
    · intro h
      refine ⟨ih.mpr fun w hw hl => h w hw (by omega), fun c hc => ih.mpr fun w hw hl => h (c :: w) (fun d hd => ?_) (by simpa using hl)⟩
      rcases List.mem_cons.mp hd with rfl | hd
      · exact hc
      · exact hw d hd
theorem eb_le {k l i j : Nat} (hkl : k ≤ l) (h : Eb flag lead m l i j = true) : Eb flag lead m k i j = true := eb_row.mpr fun w hw hl => eb_row.mp h w hw (by omega)
def Stb (flag : Nat → Bool) (lead : Nat → Nat → Nat) (m n k : Nat) : Prop := ∀ i j, i < n → j < n → Eb flag lead m k i j = true → Eb flag lead m (k + 1) i j = true
theorem stb_all (hl : ∀ i c, i < n → c < m → lead i c < n) {k : Nat} (h : Stb flag lead m n k) : ∀ t i j, i < n → j < n → Eb flag lead m k i j = true → Eb flag lead m (k + t) i j = true := by
  intro t
  induction t with
  | zero => intro i j _ _ e; exact e
  | succ t ih =>
    intro i j hi hj e
    exact eb_succ.mpr ⟨ih i j hi hj e, fun c hc => ih _ _ (hl i c hi hc) (hl j c hj hc) ((eb_succ.mp (h i j hi hj e)).2 c hc)⟩
def reps (flag : Nat → Bool) (lead : Nat → Nat → Nat) (m n k : Nat) : List Nat := (List.range n).filter fun i => (List.range i).all fun j => !Eb flag lead m k j i
theorem mem_reps {k i : Nat} : i ∈ reps flag lead m n k ↔ i < n ∧ ∀ j, j < i → Eb flag lead m k j i = false := by
  unfold reps
  rw [List.mem_filter, List.mem_range, List.all_eq_true]
  refine and_congr_right fun _ => ⟨fun h j hj => ?_, fun h j hj => ?_⟩
  · have := h j (List.mem_range.mpr hj); simpa using this
  · rw [h j (List.mem_range.mp hj)]; rfl
theorem filter_sub {α : Type} {p q : α → Bool} (h : ∀ a, p a = true → q a = true) : ∀ l : List α, (l.filter p).Sublist (l.filter q)
  | [] => .slnil
  | a :: l => by
    cases e : p a with
    | true => rw [List.filter_cons_of_pos e, List.filter_cons_of_pos (h a e)]; exact (filter_sub h l).cons₂ a
    | false =>
      rw [List.filter_cons_of_neg (by rw [e]; exact Bool.false_ne_true)]
      cases e2 : q a with
      | true => rw [List.filter_cons_of_pos e2]; exact (filter_sub h l).cons a
      | false => rw [List.filter_cons_of_neg (by rw [e2]; exact Bool.false_ne_true)]; exact filter_sub h l
theorem reps_sub (k : Nat) : (reps flag lead m n k).Sublist (reps flag lead m n (k + 1)) := by
  unfold reps
  refine filter_sub (fun i h => ?_) _
  rw [List.all_eq_true] at h ⊢
  intro j hj
  have := h j hj
  rw [Bool.not_eq_true'] at this ⊢
  cases e : Eb flag lead m (k + 1) j i with
  | false => rfl
  | true => rw [eb_le (Nat.le_succ k) e] at this; exact this
theorem has_rep (k : Nat) : ∀ i, i < n → ∃ r ∈ reps flag lead m n k, Eb flag lead m k r i = true := by
  intro i
  induction i using Nat.strongRecOn with
  | _ i ih =>
    intro hi
    by_cases h : i ∈ reps flag lead m n k
    · exact ⟨i, h, eb_refl k i⟩
    · rw [mem_reps] at h
      have : ∃ j, j < i ∧ Eb flag lead m k j i = true := by
        apply Classical.byContradiction
        intro hc
        refine h ⟨hi, fun j hj => ?_⟩
        cases e : Eb flag lead m k j i with
        | false => rfl
        | true => exact absurd ⟨j, hj, e⟩ hc
      obtain ⟨j, hj, e⟩ := this
      obtain ⟨r, hr, er⟩ := ih j hj (by omega)
      exact ⟨r, hr, eb_trans er e⟩
theorem rep_uniq {k r s : Nat} (hr : r ∈ reps flag lead m n k) (hs : s ∈ reps flag lead m n k) (h : Eb flag lead m k r s = true) : r = s := by
  rcases Nat.lt_trichotomy r s with l | l | l
  · rw [(mem_reps.mp hs).2 r l] at h; cases h
  · exact l
  · have := eb_symm h
    rw [(mem_reps.mp hr).2 s l] at this; cases this
theorem stb_of {k : Nat} (h : (reps flag lead m n k).length = (reps flag lead m n (k + 1)).length) : Stb flag lead m n k := by
  have e := (reps_sub (flag := flag) (lead := lead) (m := m) (n := n) k).eq_of_length h
  intro i j hi hj hij
  obtain ⟨r, hr, er⟩ := has_rep (flag := flag) (lead := lead) (m := m) (k + 1) i hi
  obtain ⟨s, hs, es⟩ := has_rep (flag := flag) (lead := lead) (m := m) (k + 1) j hj
  rw [← e] at hr hs
  have : r = s := rep_uniq hr hs (eb_trans (eb_le (Nat.le_succ k) er) (eb_trans hij (eb_symm (eb_le (Nat.le_succ k) es))))
  subst this
  exact eb_trans (eb_symm er) es
theorem reps_le (k : Nat) : (reps flag lead m n k).length ≤ n := by
  have := List.length_filter_le (fun i => (List.range i).all fun j => !Eb flag lead m k j i) (List.range n)
  rw [List.length_range] at this
  exact this
theorem reps_pos (k : Nat) (h : 0 < n) : 0 < (reps flag lead m n k).length := List.length_pos_of_mem (mem_reps.mpr ⟨h, fun j hj => by omega⟩)
theorem three (hl : ∀ i c, i < n → c < m → lead i c < n) (hn : n ≤ 4) {i j : Nat} (hi : i < n) (hj : j < n) (h : Eb flag lead m 3 i j = true) : ∀ w, Rw m w → flag (run lead i w) = flag (run lead j w) := by
  have key : ∃ k, k ≤ 3 ∧ Stb flag lead m n k := by
    apply Classical.byContradiction
    intro hc
    have up : ∀ k, k ≤ 3 → (reps flag lead m n k).length < (reps flag lead m n (k + 1)).length := fun k hk => by
      rcases Nat.lt_or_ge (reps flag lead m n k).length (reps flag lead m n (k + 1)).length with l | l
      · exact l
      · exact absurd ⟨k, hk, stb_of (Nat.le_antisymm (reps_sub k).length_le l)⟩ hc
    have h0 := reps_pos (flag := flag) (lead := lead) (m := m) 0 (show 0 < n by omega)
    have h1 : (reps flag lead m n 0).length < (reps flag lead m n 1).length := up 0 (by omega)
    have h2 : (reps flag lead m n 1).length < (reps flag lead m n 2).length := up 1 (by omega)
    have h3 : (reps flag lead m n 2).length < (reps flag lead m n 3).length := up 2 (by omega)
    have h4 : (reps flag lead m n 3).length < (reps flag lead m n 4).length := up 3 (by omega)
    have h5 := reps_le (flag := flag) (lead := lead) (m := m) (n := n) 4
    omega
  obtain ⟨k, hk, st⟩ := key
  intro w hw
  exact eb_row.mp (stb_all hl st w.length i j hi hj (eb_le hk h)) w hw (by omega)
end
end UW
set_option maxHeartbeats 1000000
namespace UW
section
variable {α : Type} [DecidableEq α]
theorem sub_len : ∀ (U l : List α), l.Nodup → (∀ x ∈ l, x ∈ U) → l.length ≤ U.length := by
  intro U
  induction U with
  | nil =>
    intro l _ h
    cases l with
    | nil => exact Nat.le_refl _
    | cons a l => exact absurd (h a List.mem_cons_self) (by intro z; cases z)
  | cons u U ih =>
    intro l nd h
    have := ih (l.erase u) (nd.erase u) fun x hx => by
      have h1 := (nd.mem_erase_iff).mp hx
      rcases List.mem_cons.mp (h x h1.2) with z | z
      · exact absurd z h1.1
      · exact z
    have e := List.length_erase (a := u) (l := l)
    rw [List.length_cons]
    split at e <;> omega
theorem same_len {l1 l2 : List α} (n1 : l1.Nodup) (n2 : l2.Nodup) (h : ∀ x, x ∈ l1 ↔ x ∈ l2) : l1.length = l2.length :=
  Nat.le_antisymm (sub_len l2 l1 n1 fun x hx => (h x).mp hx) (sub_len l1 l2 n2 fun x hx => (h x).mpr hx)
def ins (acc : List α) (x : α) : List α := if x ∈ acc then acc else acc ++ [x]
def firsts (xs : List α) : List α := xs.foldl ins []
theorem ins_mem {acc : List α} {x y : α} : y ∈ ins acc x ↔ y ∈ acc ∨ y = x := by
  unfold ins
  split
  · rename_i h
    exact ⟨.inl, fun k => k.elim id fun e => e ▸ h⟩
  · rw [List.mem_append, List.mem_singleton]
theorem ins_nodup {acc : List α} {x : α} (h : acc.Nodup) : (ins acc x).Nodup := by
  unfold ins
  split
  · exact h
  · rename_i hn
    rw [List.nodup_append]
    exact ⟨h, by simp, fun a ha b hb e => hn (by rw [List.mem_singleton] at hb; rw [← hb, ← e]; exact ha)⟩
theorem firsts_snoc (xs : List α) (x : α) : firsts (xs ++ [x]) = ins (firsts xs) x := by unfold firsts; rw [List.foldl_append]; rfl
theorem fold_mem (xs : List α) : ∀ (acc : List α) (y : α), y ∈ xs.foldl ins acc ↔ y ∈ acc ∨ y ∈ xs := by
  induction xs with
  | nil => intro acc y; simp
  | cons x xs ih =>
    intro acc y
    rw [List.foldl_cons, ih, ins_mem, List.mem_cons]
    exact ⟨fun h => h.elim (fun h => h.elim .inl fun e => .inr (.inl e)) fun h => .inr (.inr h), fun h => h.elim (fun h => .inl (.inl h)) fun h => h.elim (fun e => .inl (.inr e)) .inr⟩
theorem fold_nodup (xs : List α) : ∀ (acc : List α), acc.Nodup → (xs.foldl ins acc).Nodup := by
  induction xs with
  | nil => intro acc h; exact h
  | cons x xs ih => intro acc h; exact ih _ (ins_nodup h)
theorem firsts_mem {xs : List α} {y : α} : y ∈ firsts xs ↔ y ∈ xs := by unfold firsts; rw [fold_mem]; simp
theorem firsts_nodup (xs : List α) : (firsts xs).Nodup := fold_nodup xs [] List.nodup_nil
def num (xs : List α) : List Nat := xs.map fun x => (firsts xs).idxOf x
theorem num_len (xs : List α) : (num xs).length = xs.length := by unfold num; rw [List.length_map]
theorem idx_inj {l : List α} {x y : α} (hx : x ∈ l) (h : l.idxOf x = l.idxOf y) : x = y := by
  have h1 := List.idxOf_lt_length_of_mem hx
  have e1 : l[l.idxOf x]? = some x := by rw [List.getElem?_eq_getElem h1, List.getElem_idxOf]
  have h2 : l.idxOf y < l.length := by rw [← h]; exact h1
  have e2 : l[l.idxOf y]? = some y := by rw [List.getElem?_eq_getElem h2, List.getElem_idxOf]
  rw [h, e2] at e1
  exact (Option.some.inj e1).symm
theorem num_eq {xs : List α} {i j : Nat} {x y : α} (hi : xs[i]? = some x) (hj : xs[j]? = some y) : (num xs)[i]? = (num xs)[j]? ↔ x = y := by
  unfold num
  rw [List.getElem?_map, List.getElem?_map, hi, hj]
  constructor
  · intro h
    exact idx_inj (firsts_mem.mpr (List.mem_of_getElem? hi)) (Option.some.inj h)
  · intro h; rw [h]
theorem num_lt {xs : List α} {k : Nat} (h : k ∈ num xs) : k < (firsts xs).length := by
  obtain ⟨x, hx, rfl⟩ := List.mem_map.mp h
  exact List.idxOf_lt_length_of_mem (firsts_mem.mpr hx)
theorem num_all {xs : List α} {k : Nat} (h : k < (firsts xs).length) : k ∈ num xs := by
  refine List.mem_map.mpr ⟨(firsts xs)[k], firsts_mem.mp (List.getElem_mem h), ?_⟩
  exact (firsts_nodup xs).idxOf_getElem k h
end
section
variable {α : Type} [DecidableEq α] {flag : Nat → Bool} {lead : Nat → Nat → Nat} {m n : Nat}
theorem firsts_reps {xs : List α} {k : Nat} (hn : xs.length = n) (h : ∀ i j x y, xs[i]? = some x → xs[j]? = some y → (x = y ↔ Eb flag lead m k i j = true)) : (firsts xs).length = (reps flag lead m n k).length := by
  have hget : ∀ i ∈ reps flag lead m n k, ∃ x, xs[i]? = some x := fun i hi => ⟨_, List.getElem?_eq_getElem (by rw [hn]; exact (mem_reps.mp hi).1)⟩
  have key : ∀ l : List Nat, l.Nodup → (∀ i ∈ l, i ∈ reps flag lead m n k) → (l.filterMap fun i => xs[i]?).Nodup ∧ (l.filterMap fun i => xs[i]?).length = l.length := by
    intro l
    induction l with
    | nil => intro _ _; exact ⟨List.nodup_nil, rfl⟩
    | cons i l ih =>
      intro nd hl
      rw [List.nodup_cons] at nd
      obtain ⟨h1, h2⟩ := ih nd.2 fun j hj => hl j (List.mem_cons_of_mem _ hj)
      obtain ⟨x, hx⟩ := hget i (hl i List.mem_cons_self)
      rw [List.filterMap_cons, hx]
      refine ⟨List.nodup_cons.mpr ⟨fun hm => ?_, h1⟩, by rw [List.length_cons, List.length_cons, h2]⟩
      obtain ⟨j, hj, e⟩ := List.mem_filterMap.mp hm
      have := rep_uniq (hl i List.mem_cons_self) (hl j (List.mem_cons_of_mem _ hj)) ((h i j x x hx e).mp rfl)
      exact nd.1 (by rw [this]; exact hj)
  have ndr : (reps flag lead m n k).Nodup := by unfold reps; exact List.nodup_range.filter _
  obtain ⟨k1, k2⟩ := key _ ndr fun i hi => hi
  rw [← k2]
  refine same_len (firsts_nodup xs) k1 fun y => ?_
  rw [firsts_mem, List.mem_filterMap]
  constructor
  · intro hy
    obtain ⟨i, hi⟩ := List.getElem?_of_mem hy
    have hin : i < n := by rw [← hn]; exact (List.getElem?_eq_some_iff.mp hi).1
    obtain ⟨r, hr, er⟩ := has_rep (flag := flag) (lead := lead) (m := m) k i hin
    obtain ⟨x, hx⟩ := hget r hr
    have := (h r i x y hx hi).mpr er
    exact ⟨r, hr, by rw [hx, this]⟩
  · rintro ⟨i, _, e⟩
    exact List.mem_of_getElem? e
theorem next_eq {g : List Nat} {k : Nat} (hg : g.length = n) (hl : ∀ i c, i < n → c < m → lead i c < n) (h : ∀ i j, i < n → j < n → (g.getD i 0 = g.getD j 0 ↔ Eb flag lead m k i j = true)) (i j : Nat) (hi : i < n) (hj : j < n) :
    ((g.getD i 0, (List.range m).map fun c => g.getD (lead i c) 0) = (g.getD j 0, (List.range m).map fun c => g.getD (lead j c) 0)) ↔ Eb flag lead m (k + 1) i j = true := by
  rw [eb_succ, Prod.mk.injEq]
  constructor
  · rintro ⟨h1, h2⟩
    refine ⟨(h i j hi hj).mp h1, fun c hc => (h _ _ (hl i c hi hc) (hl j c hj hc)).mp ?_⟩
    have := congrArg (fun l : List Nat => l[c]?) h2
    simpa [hc] using this
  · rintro ⟨h1, h2⟩
    refine ⟨(h i j hi hj).mpr h1, List.map_congr_left fun c hc => (h _ _ (hl i c hi (List.mem_range.mp hc)) (hl j c hj (List.mem_range.mp hc))).mpr (h2 c (List.mem_range.mp hc))⟩
end
end UW
set_option maxHeartbeats 1000000
namespace Toy
open UW
section
variable {fl : Nat → Bool} {lc : Nat → Nat → Nat} {sg : List Nat}
def cntW (fl : Nat → Bool) (lc : Nat → Nat → Nat) (sg : List Nat) : Nat → Nat → Nat
  | 0, i => if fl i = true then 1 else 0
  | k + 1, i => (sg.map fun c => cntW fl lc sg k (lc i c)).sum
def accR (fl : Nat → Bool) (lc : Nat → Nat → Nat) (sg : List Nat) : Nat → Nat → List (List Nat)
  | 0, i => if fl i = true then [[]] else []
  | k + 1, i => sg.flatMap fun c => (accR fl lc sg k (lc i c)).map fun v => c :: v
def accF (fl : Nat → Bool) (lc : Nat → Nat → Nat) (sg : List Nat) (k i : Nat) (cs : List Nat) : List (List Nat) := cs.flatMap fun c => (accR fl lc sg k (lc i c)).map fun v => c :: v
theorem acc_len : ∀ k i, (accR fl lc sg k i).length = cntW fl lc sg k i
  | 0, i => by unfold accR cntW; split <;> rfl
  | k + 1, i => by
    unfold accR cntW
    rw [List.length_flatMap]
    congr 1
    refine List.map_congr_left fun c _ => ?_
    rw [List.length_map, acc_len k]
theorem accF_len (k i : Nat) (cs : List Nat) : (accF fl lc sg k i cs).length = (cs.map fun c => cntW fl lc sg k (lc i c)).sum := by
  unfold accF
  rw [List.length_flatMap]
  congr 1
  refine List.map_congr_left fun c _ => ?_
  rw [List.length_map, acc_len k]
theorem accF_hd {k i c n : Nat} {cs : List Nat} (h : n < cntW fl lc sg k (lc i c)) : (accF fl lc sg k i (c :: cs))[n]? = ((accR fl lc sg k (lc i c))[n]?).map fun v => c :: v := by
  unfold accF
  rw [List.flatMap_cons, List.getElem?_append_left (by rw [List.length_map, acc_len]; exact h), List.getElem?_map]
theorem accF_tl {k i c n : Nat} {cs : List Nat} (h : cntW fl lc sg k (lc i c) ≤ n) : (accF fl lc sg k i (c :: cs))[n]? = (accF fl lc sg k i cs)[n - cntW fl lc sg k (lc i c)]? := by
  unfold accF
  rw [List.flatMap_cons, List.getElem?_append_right (by rw [List.length_map, acc_len]; exact h), List.length_map, acc_len]
theorem acc_put {k i n j c : Nat} {v : List Nat} (hj : sg[j]? = some c) (h : (accR fl lc sg k (lc i c))[n]? = some v) : (accR fl lc sg (k + 1) i)[((sg.take j).map fun d => cntW fl lc sg k (lc i d)).sum + n]? = some (c :: v) := by
  have hlt := (List.getElem?_eq_some_iff.mp hj)
  have e : sg = sg.take j ++ c :: sg.drop (j + 1) := by rw [← hlt.2, ← List.drop_eq_getElem_cons hlt.1, List.take_append_drop]
  have hz : accR fl lc sg (k + 1) i = accF fl lc sg k i (sg.take j) ++ accF fl lc sg k i (c :: sg.drop (j + 1)) := by
    show accF fl lc sg k i sg = _
    unfold accF
    rw [← List.flatMap_append, ← e]
  rw [hz, List.getElem?_append_right (by rw [accF_len]; omega), accF_len, Nat.add_sub_cancel_left]
  rw [accF_hd (by rw [← acc_len]; exact (List.getElem?_eq_some_iff.mp h).1), h]
  rfl
theorem mem_acc : ∀ {k i : Nat} {w : List Nat}, w ∈ accR fl lc sg k i ↔ w.length = k ∧ Ov sg w ∧ fl (w.foldl lc i) = true
  | 0, i, w => by
    unfold accR
    constructor
    · intro h
      split at h
      · rename_i hf
        rw [List.mem_singleton.mp h]
        exact ⟨rfl, fun _ h => (nomatch h), hf⟩
      · cases h
    · rintro ⟨h1, h2, h3⟩
      obtain rfl := List.length_eq_zero_iff.mp h1
      rw [if_pos (show fl i = true from h3)]
      exact List.mem_singleton.mpr rfl
  | k + 1, i, w => by
    unfold accR
    rw [List.mem_flatMap]
    constructor
    · rintro ⟨c, hc, hw⟩
      obtain ⟨v, hv, rfl⟩ := List.mem_map.mp hw
      obtain ⟨h1, h2, h3⟩ := mem_acc.mp hv
      refine ⟨by rw [List.length_cons, h1], fun d hd => ?_, h3⟩
      rcases List.mem_cons.mp hd with rfl | hd
      · exact hc
      · exact h2 d hd
    · rintro ⟨h1, h2, h3⟩
      cases w with
      | nil => simp at h1
      | cons c v => exact ⟨c, h2 c List.mem_cons_self, List.mem_map.mpr ⟨v, mem_acc.mpr ⟨by simpa using h1, fun d hd => h2 d (List.mem_cons_of_mem _ hd), h3⟩, rfl⟩⟩
theorem level_cons : ∀ k, level sg (k + 1) = sg.flatMap fun c => (level sg k).map fun v => c :: v
  | 0 => by
    show ([[]] : List (List Nat)).flatMap _ = sg.flatMap fun c => [[c]]
    rw [List.flatMap_singleton]
    induction sg with
    | nil => rfl
    | cons c r ih => rw [List.map_cons, List.flatMap_cons, ih]; rfl
  | k + 1 => by
    show (level sg (k + 1)).flatMap (fun r => sg.map fun c => r ++ [c]) = _
    conv => lhs; rw [level_cons k]
    rw [List.flatMap_assoc]
    congr 1
    funext c
    rw [List.flatMap_map]
    show _ = ((level sg k).flatMap fun r => sg.map fun c => r ++ [c]).map _
    rw [List.map_flatMap]
    congr 1
    funext r
    rw [List.map_map]
    rfl
theorem acc_level : ∀ k i, accR fl lc sg k i = (level sg k).filter fun w => fl (w.foldl lc i)
  | 0, i => by
    unfold accR
    show _ = ([[]] : List (List Nat)).filter _
    cases h : fl i with
    | true => rw [if_pos rfl, List.filter_cons_of_pos (by simpa using h)]; rfl
    | false => rw [if_neg Bool.false_ne_true, List.filter_cons_of_neg (by simpa using h)]; rfl
  | k + 1, i => by
    rw [level_cons, List.filter_flatMap]
    unfold accR
    congr 1
    funext c
    rw [List.filter_map, acc_level k]
    rfl
def totW (fl : Nat → Bool) (lc : Nat → Nat → Nat) (sg : List Nat) (i : Nat) : Nat → Nat
  | 0 => 0
  | L + 1 => totW fl lc sg i L + cntW fl lc sg L i
def allR (fl : Nat → Bool) (lc : Nat → Nat → Nat) (sg : List Nat) (i : Nat) : Nat → List (List Nat)
  | 0 => []
  | L + 1 => allR fl lc sg i L ++ accR fl lc sg L i
theorem tot_sum (i : Nat) : ∀ L, totW fl lc sg i L = ((List.range L).map fun k => cntW fl lc sg k i).sum
  | 0 => rfl
  | L + 1 => by
    rw [List.range_succ, List.map_append, List.sum_append, ← tot_sum i L]
    show totW fl lc sg i L + cntW fl lc sg L i = _
    simp
def RkInv (fl : Nat → Bool) (lc : Nat → Nat → Nat) (sg v : List Nat) (i p r : Nat) : Prop := ∀ n, (accR fl lc sg (v.length - p) ((v.take p).foldl lc i))[n]? = some (v.drop p) → (accR fl lc sg v.length i)[r + n]? = some v
theorem rk_zero {v : List Nat} {i : Nat} : RkInv fl lc sg v i 0 0 := fun n h => by rw [Nat.zero_add]; exact h
theorem rk_step {v : List Nat} {i p r j c : Nat} (h : RkInv fl lc sg v i p r) (hc : v[p]? = some c) (hj : sg[j]? = some c) : RkInv fl lc sg v i (p + 1) (r + ((sg.take j).map fun d => cntW fl lc sg (v.length - p - 1) (lc ((v.take p).foldl lc i) d)).sum) := fun n e => by
  have hl := List.getElem?_eq_some_iff.mp hc
  have et : v.take (p + 1) = v.take p ++ [c] := by rw [List.take_succ, hc]; rfl
  have ed : v.drop p = c :: v.drop (p + 1) := by rw [List.drop_eq_getElem_cons hl.1, hl.2]
  rw [et, List.foldl_append, show v.length - (p + 1) = v.length - p - 1 by omega] at e
  rw [Nat.add_assoc]
  refine h _ ?_
  rw [ed, show v.length - p = (v.length - p - 1) + 1 by have := hl.1; omega]
  exact acc_put hj e
theorem all_len (i : Nat) : ∀ L, (allR fl lc sg i L).length = totW fl lc sg i L
  | 0 => rfl
  | L + 1 => by unfold allR totW; rw [List.length_append, all_len i L, acc_len]
theorem tot_le {i L M : Nat} (h : L ≤ M) : totW fl lc sg i L ≤ totW fl lc sg i M := by
  induction h with
  | refl => exact Nat.le_refl _
  | step _ ih => exact Nat.le_trans ih (Nat.le_add_right _ _)
theorem all_get {i L n : Nat} (h1 : totW fl lc sg i L ≤ n) : (allR fl lc sg i (L + 1))[n]? = (accR fl lc sg L i)[n - totW fl lc sg i L]? := by
  unfold allR
  rw [List.getElem?_append_right (by rw [all_len]; exact h1), all_len]
theorem rk_end {v : List Nat} {i r : Nat} (h : RkInv fl lc sg v i v.length r) (hf : fl (v.foldl lc i) = true) : (allR fl lc sg i (v.length + 1))[totW fl lc sg i v.length + r]? = some v := by
  rw [all_get (Nat.le_add_right _ _), Nat.add_sub_cancel_left]
  have := h 0 (by rw [Nat.sub_self, List.take_length, List.drop_length]; unfold accR; rw [if_pos hf]; rfl)
  exact this
theorem all_pre {i n : Nat} {w : List Nat} : ∀ {L M : Nat}, L ≤ M → (allR fl lc sg i L)[n]? = some w → (allR fl lc sg i M)[n]? = some w := by
  intro L M h
  induction h with
  | refl => exact id
  | step _ ih =>
    intro e
    have := ih e
    unfold allR
    rw [List.getElem?_append_left (List.getElem?_eq_some_iff.mp this).1]
    exact this
theorem all_same {i n L M : Nat} {w u : List Nat} (h1 : (allR fl lc sg i L)[n]? = some w) (h2 : (allR fl lc sg i M)[n]? = some u) : w = u := by
  rcases Nat.le_total L M with h | h
  · have := all_pre h h1; rw [this] at h2; exact Option.some.inj h2
  · have := all_pre h h2; rw [this] at h1; exact (Option.some.inj h1).symm
theorem all_level (i : Nat) : ∀ n, allR fl lc sg i (n + 1) = (upto sg n).filter fun w => fl (w.foldl lc i)
  | 0 => by
    show [] ++ accR fl lc sg 0 i = _
    rw [acc_level]
    rfl
  | n + 1 => by
    show allR fl lc sg i (n + 1) ++ accR fl lc sg (n + 1) i = (upto sg n ++ level sg (n + 1)).filter _
    rw [List.filter_append, all_level i n, acc_level]
theorem mem_all {i : Nat} {w : List Nat} : ∀ {L : Nat}, w ∈ allR fl lc sg i L ↔ w.length < L ∧ Ov sg w ∧ fl (w.foldl lc i) = true
  | 0 => ⟨fun h => (nomatch h), fun h => absurd h.1 (Nat.not_lt_zero _)⟩
  | L + 1 => by
    unfold allR
    rw [List.mem_append, mem_all, mem_acc]
    constructor
    · rintro (⟨h1, h2⟩ | ⟨h1, h2⟩)
      · exact ⟨by omega, h2⟩
      · exact ⟨by omega, h2⟩
    · rintro ⟨h1, h2⟩
      rcases Nat.lt_or_eq_of_le (Nat.le_of_lt_succ h1) with h | h
      · exact .inl ⟨h, h2⟩
      · exact .inr ⟨h, h2⟩
theorem cnt_pos {k i : Nat} : 0 < cntW fl lc sg k i ↔ ∃ w : List Nat, w.length = k ∧ Ov sg w ∧ fl (w.foldl lc i) = true := by
  rw [← acc_len, List.length_pos_iff_exists_mem]
  exact ⟨fun ⟨w, h⟩ => ⟨w, mem_acc.mp h⟩, fun ⟨w, h⟩ => ⟨w, mem_acc.mpr h⟩⟩
def Closed (lc : Nat → Nat → Nat) (sg : List Nat) (N : Nat) : Prop := ∀ t c, t < N → c ∈ sg → lc t c < N
theorem fold_lt {N : Nat} (hl : Closed lc sg N) : ∀ {w : List Nat} {i : Nat}, Ov sg w → i < N → w.foldl lc i < N
  | [], _, _, h => h
  | c :: w, i, ho, h => fold_lt hl (w := w) (fun d hd => ho d (List.mem_cons_of_mem _ hd)) (hl i c h (ho c List.mem_cons_self))
theorem pigeon {N : Nat} (hl : Closed lc sg N) {w : List Nat} {i : Nat} (ho : Ov sg w) (hi : i < N) (hw : N ≤ w.length) : ∃ p q, p < q ∧ q ≤ N ∧ (w.take p).foldl lc i = (w.take q).foldl lc i := by
  have ov : ∀ p, Ov sg (w.take p) := fun p d hd => ho d (List.mem_of_mem_take hd)
  have hnd : ¬ ((List.range (N + 1)).map fun p => (w.take p).foldl lc i).Nodup := fun nd => by
    have := sub_len (List.range N) _ nd fun x hx => by
      obtain ⟨p, _, rfl⟩ := List.mem_map.mp hx
      exact List.mem_range.mpr (fold_lt hl (ov p) hi)
    rw [List.length_map, List.length_range, List.length_range] at this
    omega
  rw [List.nodup_iff_pairwise_ne, List.pairwise_iff_getElem] at hnd
  simp only [List.length_map, List.length_range, List.getElem_map, List.getElem_range] at hnd
  apply Classical.byContradiction
  intro hc
  exact hnd fun p q hp hq hpq e => hc ⟨p, q, hpq, by omega, e⟩
theorem pump {N L i : Nat} (hl : Closed lc sg N) (hi : i < N) (hL : N ≤ L) (h : 0 < cntW fl lc sg L i) : ∃ d, 1 ≤ d ∧ d ≤ N ∧ 0 < cntW fl lc sg (L - d) i ∧ 0 < cntW fl lc sg (L + d) i := by
  obtain ⟨w, h1, h2, h3⟩ := cnt_pos.mp h
  obtain ⟨p, q, hpq, hq, e⟩ := pigeon hl h2 hi (by omega)
  have ov : ∀ {u : List Nat}, (∀ d ∈ u, d ∈ w) → Ov sg u := fun hu d hd => h2 d (hu d hd)
  have ew : (w.take q).foldl lc i = ((w.take q).drop p).foldl lc ((w.take p).foldl lc i) := by
    have : w.take q = w.take p ++ (w.take q).drop p := by
      conv => lhs; rw [← List.take_append_drop p (w.take q), List.take_take, Nat.min_eq_left (by omega)]
    conv => lhs; rw [this, List.foldl_append]
  have ed : w.foldl lc i = (w.drop q).foldl lc ((w.take q).foldl lc i) := by
    conv => lhs; rw [← List.take_append_drop q w, List.foldl_append]
  refine ⟨q - p, by omega, by omega, cnt_pos.mpr ⟨w.take p ++ w.drop q, ?_, ?_, ?_⟩, cnt_pos.mpr ⟨w.take q ++ ((w.take q).drop p ++ w.drop q), ?_, ?_, ?_⟩⟩
  · rw [List.length_append, List.length_take, List.length_drop]; omega
  · exact ov fun d hd => (List.mem_append.mp hd).elim List.mem_of_mem_take List.mem_of_mem_drop
  · rw [List.foldl_append, e, ← ed]; exact h3
  · rw [List.length_append, List.length_append, List.length_drop, List.length_drop, List.length_take]; omega
  · exact ov fun d hd => (List.mem_append.mp hd).elim List.mem_of_mem_take fun hd => (List.mem_append.mp hd).elim (fun h => List.mem_of_mem_take (List.mem_of_mem_drop h)) List.mem_of_mem_drop
  · rw [List.foldl_append, List.foldl_append, ← e, ← ew, ← ed]; exact h3
theorem pump_down {N i : Nat} (hl : Closed lc sg N) (hi : i < N) : ∀ {L : Nat}, N ≤ L → 0 < cntW fl lc sg L i → ∃ M, N ≤ M ∧ M < 2 * N ∧ M ≤ L ∧ 0 < cntW fl lc sg M i := by
  intro L
  induction L using Nat.strongRecOn with
  | ind L ih =>
    intro hL h
    by_cases h2 : L < 2 * N
    · exact ⟨L, hL, h2, Nat.le_refl _, h⟩
    · obtain ⟨d, h1, hd, hp, _⟩ := pump hl hi hL h
      obtain ⟨M, a, b, c, e⟩ := ih (L - d) (by omega) (by omega) hp
      exact ⟨M, a, b, by omega, e⟩
theorem pump_small {N i : Nat} (hl : Closed lc sg N) (hi : i < N) : ∀ {L : Nat}, 0 < cntW fl lc sg L i → ∃ M, M < N ∧ M ≤ L ∧ 0 < cntW fl lc sg M i := by
  intro L
  induction L using Nat.strongRecOn with
  | ind L ih =>
    intro h
    by_cases h2 : L < N
    · exact ⟨L, h2, Nat.le_refl _, h⟩
    · obtain ⟨d, h1, hd, hp, _⟩ := pump hl hi (by omega) h
      obtain ⟨M, a, b, c⟩ := ih (L - d) (by omega) hp
      exact ⟨M, a, by omega, c⟩
theorem pump_up {N i T : Nat} (hl : Closed lc sg N) (hi : i < N) {L : Nat} (hL : N ≤ L) (h : 0 < cntW fl lc sg L i) (hT : L < T + N) : ∃ M, T ≤ M ∧ M < T + N ∧ 0 < cntW fl lc sg M i := by
  have key : ∀ t L, T - L = t → N ≤ L → L < T + N → 0 < cntW fl lc sg L i → ∃ M, T ≤ M ∧ M < T + N ∧ 0 < cntW fl lc sg M i := by
    intro t
    induction t using Nat.strongRecOn with
    | ind t ih =>
      intro L ht hL hT h
      by_cases h2 : T ≤ L
      · exact ⟨L, h2, hT, h⟩
      · obtain ⟨d, h1, hd, _, hp⟩ := pump hl hi hL h
        exact ih (T - (L + d)) (by omega) (L + d) rfl (by omega) (by omega) hp
  exact key _ L rfl hL hT h
def lastW (fl : Nat → Bool) (lc : Nat → Nat → Nat) (sg : List Nat) (i : Nat) : Nat → Option Nat
  | 0 => none
  | L + 1 => if 0 < cntW fl lc sg L i then some L else lastW fl lc sg i L
theorem last_none {i : Nat} : ∀ {n : Nat}, lastW fl lc sg i n = none ↔ ∀ L, L < n → cntW fl lc sg L i = 0
  | 0 => ⟨fun _ _ h => absurd h (Nat.not_lt_zero _), fun _ => rfl⟩
  | n + 1 => by
    unfold lastW
    split
    · rename_i h
      exact ⟨fun h => (nomatch h), fun g => by have := g n (Nat.lt_succ_self _); omega⟩
    · rename_i h
      rw [last_none]
      refine ⟨fun g L hL => ?_, fun g L hL => g L (by omega)⟩
      rcases Nat.lt_or_eq_of_le (Nat.le_of_lt_succ hL) with h' | rfl
      · exact g L h'
      · omega
theorem last_some {i l : Nat} : ∀ {n : Nat}, lastW fl lc sg i n = some l ↔ l < n ∧ 0 < cntW fl lc sg l i ∧ ∀ L, l < L → L < n → cntW fl lc sg L i = 0
  | 0 => ⟨fun h => (nomatch h), fun h => absurd h.1 (Nat.not_lt_zero _)⟩
  | n + 1 => by
    unfold lastW
    split
    · rename_i h
      constructor
      · intro e
        cases e
        exact ⟨Nat.lt_succ_self _, h, fun L h1 h2 => by omega⟩
      · rintro ⟨h1, h2, h3⟩
        rcases Nat.lt_or_eq_of_le (Nat.le_of_lt_succ h1) with h' | rfl
        · have := h3 n h' (Nat.lt_succ_self _); omega
        · rfl
    · rename_i h
      rw [last_some]
      constructor
      · rintro ⟨h1, h2, h3⟩
        refine ⟨by omega, h2, fun L a b => ?_⟩
        rcases Nat.lt_or_eq_of_le (Nat.le_of_lt_succ b) with h' | rfl
        · exact h3 L a h'
        · omega
      · rintro ⟨h1, h2, h3⟩
        refine ⟨?_, h2, fun L a b => h3 L a (by omega)⟩
        rcases Nat.lt_or_eq_of_le (Nat.le_of_lt_succ h1) with h' | rfl
        · exact h'
        · omega
inductive Lng | no | fin (l : Nat) | inf
  deriving DecidableEq
def lngT (t : Nat) : Option Nat → Lng
  | none => .no
  | some l => if t ≤ l then .inf else .fin l
theorem lngT_no {t : Nat} {o : Option Nat} (h : lngT t o = .no) : o = none := by
  cases o with
  | none => rfl
  | some l =>
    have h : (if t ≤ l then Lng.inf else .fin l) = .no := h
    split at h <;> cases h
theorem lngT_fin {t l : Nat} {o : Option Nat} (h : lngT t o = .fin l) : o = some l ∧ l < t := by
  cases o with
  | none => cases h
  | some l' =>
    have h : (if t ≤ l' then Lng.inf else .fin l') = .fin l := h
    split at h
    · cases h
    · cases h; exact ⟨rfl, by omega⟩
theorem lngT_inf {t : Nat} {o : Option Nat} (h : lngT t o = .inf) : ∃ l, o = some l ∧ t ≤ l := by
  cases o with
  | none => cases h
  | some l =>
    have h : (if t ≤ l then Lng.inf else .fin l) = .inf := h
    split at h
    · exact ⟨l, rfl, by assumption⟩
    · cases h
def lngP (fl : Nat → Bool) (lc : Nat → Nat → Nat) (sg : List Nat) (N i : Nat) : Lng := lngT N (lastW fl lc sg i (2 * N))
def lngL (fl : Nat → Bool) (lc : Nat → Nat → Nat) (sg : List Nat) (i : Nat) : Lng := lngT 4 (lastW fl lc sg i 10)
theorem lng_no {N i : Nat} (hl : Closed lc sg N) (hi : i < N) : lngP fl lc sg N i = .no ↔ ∀ L, cntW fl lc sg L i = 0 := by
  unfold lngP
  constructor
  · intro h
    have e := lngT_no h
    rw [last_none] at e
    intro L
    rcases Nat.eq_zero_or_pos (cntW fl lc sg L i) with h0 | h0
    · exact h0
    · obtain ⟨M, h1, h2, h3⟩ := pump_small hl hi h0
      have := e M (by omega); omega
  · intro h
    rw [last_none.mpr fun L _ => h L]
    rfl
theorem lng_fin {N i l : Nat} (hl : Closed lc sg N) (hi : i < N) : lngP fl lc sg N i = .fin l ↔ l < N ∧ 0 < cntW fl lc sg l i ∧ ∀ L, l < L → cntW fl lc sg L i = 0 := by
  unfold lngP
  constructor
  · intro h
    have e := lngT_fin h
    obtain ⟨h1, h2, h3⟩ := last_some.mp e.1
    refine ⟨e.2, h2, fun L hL => ?_⟩
    rcases Nat.eq_zero_or_pos (cntW fl lc sg L i) with h0 | h0
    · exact h0
    · by_cases hN : N ≤ L
      · obtain ⟨M, a, b, c, d⟩ := pump_down hl hi hN h0
        have := h3 M (by omega) b; omega
      · have := h3 L hL (by omega); omega
  · rintro ⟨h1, h2, h3⟩
    rw [last_some.mpr ⟨by omega, h2, fun L a _ => h3 L a⟩]
    show (if N ≤ l then Lng.inf else .fin l) = _
    rw [if_neg (by omega)]
theorem tot_fin {N i l : Nat} (hl : Closed lc sg N) (hi : i < N) (h : lngP fl lc sg N i = .fin l) : ∀ M, totW fl lc sg i M ≤ totW fl lc sg i (l + 1) := by
  obtain ⟨_, _, h3⟩ := (lng_fin hl hi).mp h
  intro M
  rcases Nat.le_total M (l + 1) with hM | hM
  · exact tot_le hM
  · induction hM with
    | refl => exact Nat.le_refl _
    | @step m hm ih =>
      have e : cntW fl lc sg m i = 0 := h3 m (by have : l + 1 ≤ m := hm; omega)
      show totW fl lc sg i m + cntW fl lc sg m i ≤ _
      omega
theorem lng_ne_no {N i L n : Nat} {w : List Nat} (hl : Closed lc sg N) (hi : i < N) (h : (allR fl lc sg i L)[n]? = some w) : lngP fl lc sg N i ≠ .no := fun e => by
  have h0 := (lng_no hl hi).mp e
  obtain ⟨_, h2, h3⟩ := mem_all.mp (List.mem_of_getElem? h)
  have := cnt_pos.mpr ⟨w, rfl, h2, h3⟩
  rw [h0] at this
  exact absurd this (Nat.not_lt_zero _)
theorem all_lt {i L n : Nat} {w : List Nat} (h : (allR fl lc sg i L)[n]? = some w) : n < totW fl lc sg i L := by rw [← all_len]; exact (List.getElem?_eq_some_iff.mp h).1
theorem lng_eq {N i : Nat} (hl : Closed lc sg N) (hi : i < N) (h4 : N ≤ 4) : lngL fl lc sg i = lngP fl lc sg N i := by
  have hP : ∀ x, lngP fl lc sg N i = x → lngL fl lc sg i = x := by
    intro x hx
    unfold lngL
    cases x with
    | no =>
      rw [last_none.mpr fun L _ => (lng_no hl hi).mp hx L]; rfl
    | fin l =>
      obtain ⟨h1, h2, h3⟩ := (lng_fin hl hi).mp hx
      rw [last_some.mpr ⟨by omega, h2, fun L a _ => h3 L a⟩]
      show (if 4 ≤ l then Lng.inf else .fin l) = _
      rw [if_neg (by omega)]
    | inf =>
      unfold lngP at hx
      obtain ⟨l, e, hN⟩ := lngT_inf hx
      obtain ⟨h1, h2, _⟩ := last_some.mp e
      obtain ⟨M, a, b, c⟩ := pump_up (T := 4) hl hi hN h2 (by omega)
      cases e2 : lastW fl lc sg i 10 with
      | none => have := last_none.mp e2 M (by omega); omega
      | some l2 =>
        have h5 : 4 ≤ l2 := by
          rcases Nat.lt_or_ge l2 M with h | h
          · have := (last_some.mp e2).2.2 M h (by omega); omega
          · omega
        show (if 4 ≤ l2 then Lng.inf else .fin l2) = _
        rw [if_pos h5]
  exact hP _ rfl
end
end Toy
set_option maxHeartbeats 4000000
namespace Toy
open PySem L2 C8 SX LX
section
variable {P : Program} {w : World} {K : PySem.W.Frag} {mg : Str → Option Value} {base : Heap}
def flV (fl : Nat → Bool) (n : Nat) : List V := (List.range n).map fun i => V.bl (fl i)
structure TabN (m N : Nat) (lc : Nat → Nat → Nat) (tb : Addr) (tas : List Addr) (H : Hp) : Prop where
  few : N ≤ 900
  m3 : m ≤ 3
  len : tas.length = N
  tb : H tb = some (.lst (tas.map V.ref))
  row : ∀ (t : Nat) a, tas[t]? = some a → H a = some (.lst ((List.range m).map fun c => V.int (lc t c : Nat)))
  cl : Closed lc (List.range m) N
theorem TabN.same {m N : Nat} {lc : Nat → Nat → Nat} {tb : Addr} {tas : List Addr} {H H' : Hp} (h : TabN m N lc tb tas H) (s : Same H H') : TabN m N lc tb tas H' := ⟨h.few, h.m3, h.len, s _ _ h.tb, fun t a e => s _ _ (h.row t a e), h.cl⟩
def wRow (fl : Nat → Bool) (lc : Nat → Nat → Nat) (sg : List Nat) (N k : Nat) : List V := (List.range N).map fun t => V.int (cntW fl lc sg k t : Nat)
theorem wRow_len {fl : Nat → Bool} {lc : Nat → Nat → Nat} {sg : List Nat} {N k : Nat} : (wRow fl lc sg N k).length = N := by unfold wRow; rw [List.length_map, List.length_range]
theorem wRow_at {fl : Nat → Bool} {lc : Nat → Nat → Nat} {sg : List Nat} {N k t : Nat} (h : t < N) : (wRow fl lc sg N k)[t]? = some (.int (cntW fl lc sg k t : Nat)) := by unfold wRow; rw [List.getElem?_map, List.getElem?_range h]; rfl
theorem sum_cast (l : List Nat) : (l.map fun (k : Nat) => (k : Int)).sum = ((l.sum : Nat) : Int) := by
  induction l with
  | nil => rfl
  | cons a l ih => rw [List.map_cons, List.sum_cons, List.sum_cons, ih]; omega
abbrev s_ahead : Stmt := top 6
abbrev n_ahead : List Str := ["table", "ways", "targets", "target"]
theorem sc_ahead : FnScope n_ahead ["table", "ways"] (fnScope s_ahead) := fnScope_by (by decide +kernel)
def rArg : Stmt → Expr
  | .Return (some (.ListComp e _ _ _)) _ => (match e with | .Call _ [x] _ _ => x | _ => .Constant .none 0 ⟨0, 0, 0, 0⟩)
  | _ => .Constant .none 0 ⟨0, 0, 0, 0⟩
abbrev ncs_ahead : Scope := relS (outS (ofRet ((fnBody s_ahead).getD 0 (.Pass ⟨0, 0, 0, 0⟩)))) (fnScope s_ahead)
def spAhead : Sp := fun vs H Q _ => ∃ (pt pw : Addr) (m N : Nat) (lc : Nat → Nat → Nat) (tas : List Addr) (fl : Nat → Bool) (k : Nat), vs = [.ref pt, .ref pw] ∧ TabN m N lc pt tas H ∧ H pw = some (.lst (wRow fl lc (List.range m) N k)) ∧
  ∀ (D : Addr) (H' : Hp), Same H H' → H D = none → H' D = some (.lst (wRow fl lc (List.range m) N (k + 1))) → Q (.ref D) H'
theorem ok_ahead (T : BT mg) {f : Addr} {fd : FuncData} (F : Def K mg "_ways_ahead" s_ahead f fd) (b : Binds K fd ["table", "ways"] []) : Cal P w K mg base 1 "_ways_ahead" spAhead [] := by
  refine cal0 F b .nil sc_ahead (fun vs H Q E h => ?_) (fun cdv A outer s H vs Q E hr h => ?_)
  · obtain ⟨pt, pw, _, _, _, _, _, _, rfl, _⟩ := h; rfl
  · obtain ⟨pt, pw, m, N, lc, tas, fl, kk, rfl, ht, hw, k⟩ := h
    refine ⟨_, (pss_one (ps_ret (pe_lc (own := [("targets", 2)]) rfl sc_ahead.nd (pi_list (pv 0)) (blkOk_by (N := n_ahead) (sc := fnScope s_ahead) (by decide +kernel)) (fun _ _ _ _ _ => (pg_name (i := 2) sc_ahead.nd rfl (.inl rfl))) (fun _ _ _ _ _ => pts_nil) (fun _ _ _ _ _ => (pe_callB (sumK K rfl) (by rfl) T.m_sum PyProof.Rows.boot_sum (pa_cons (pe_lc (own := [("target", 3)]) rfl sc_ahead.nd (pi_listK K (pv 2)) (blkOk_by (N := n_ahead) (sc := ncs_ahead) (by decide +kernel)) (fun _ _ _ _ _ => (pg_name (i := 3) sc_ahead.nd rfl (.inl rfl))) (fun _ _ _ _ _ => pts_nil) (fun _ _ _ _ _ => (pe_ix (ixl K) (pv 1) (pv 3) (fun _ _ => rfl)))) pa_nil)))))
      ), ?_⟩
    have h9 := ht.few
    have hl3 := ht.m3
    have hcl := ht.cl
    have htn := ht.len
    have hlenr : (tas.map V.ref).length = N := by rw [List.length_map, htn]
    refine ⟨_, rfl, pt, rfl, ⟨_, SqL.of ht.tb⟩, fun D hD => ?_⟩
    refine lc_keep keep_same (walk_list (K := K) (a := pt) (xs := tas.map V.ref)) hD (by rw [hlenr]; exact small1000 (by omega)) (fun j y => y = .int (cntW fl lc (List.range m) (kk + 1) j : Nat)) (fun H r => SqL.of (r _ _ ht.tb)) (fun i x H2 H3 R hi r hy hR => ?_) (fun ys H2 hly hg r hDs => ?_)
    · obtain ⟨rfl, ex⟩ := hy
      rw [hlenr] at hi
      have hx : tas[i]? = some (tas.getD i 0) := by rw [List.getD_eq_getElem?_getD, List.getElem?_eq_getElem (by omega)]; rfl
      rw [List.getElem?_map, hx] at ex
      obtain rfl := Option.some.inj ex
      have hra := r _ _ (ht.row i _ hx)
      refine ⟨rfl, ?_⟩
      refine ⟨_, rfl, tas.getD i 0, rfl, ⟨_, SqL.of hra⟩, fun D2 hD2 => ?_⟩
      refine lc_keep keep_same (walk_list (K := K) (a := tas.getD i 0) (xs := (List.range m).map fun c => V.int (lc i c : Nat))) hD2 (by rw [List.length_map, List.length_range]; exact small1000 (by omega)) (fun j y => y = .int (cntW fl lc (List.range m) kk (lc i j) : Nat)) (fun H r => SqL.of (r _ _ hra)) (fun j z H4 H5 R2 hj r4 hy hR2 => ?_) (fun zs H4 hlz hgz r4 hDz => ?_)
      · obtain ⟨rfl, ex⟩ := hy
        rw [List.length_map, List.length_range] at hj
        rw [List.getElem?_map, List.getElem?_range hj] at ex
        obtain rfl := Option.some.inj ex
        have hlt : lc i j < N := hcl i _ hi (List.mem_range.mpr hj)
        refine ⟨rfl, ?_⟩
        refine ⟨_, rfl, _, rfl, pw, _, _, .int (cntW fl lc (List.range m) kk (lc i j) : Nat), rfl, rfl, SqL.of (r4 _ _ (r _ _ hw)), atI_nat (wRow_at hlt), ?_⟩
        exact hR2 _ _ (Same.refl _) rfl
      · have ez : zs = ((List.range m).map fun c => ((cntW fl lc (List.range m) kk (lc i c) : Nat) : Int)).map V.int := by
          rw [List.map_map]
          rw [List.length_map, List.length_range] at hlz
          refine list_map (by rw [hlz, List.length_range]) fun j y c e1 e2 => ?_
          have hj := (List.getElem?_eq_some_iff.mp e2).1
          rw [List.length_range] at hj
          rw [List.getElem?_range hj] at e2
          cases e2
          exact hgz j y e1
        subst ez
        refine ⟨D2, _, rfl, SqL.of hDz, ?_⟩
        rw [show ((List.range m).map fun c => ((cntW fl lc (List.range m) kk (lc i c) : Nat) : Int)).sum = ((cntW fl lc (List.range m) (kk + 1) i : Nat) : Int) from by
          show _ = ((((List.range m).map fun c => cntW fl lc (List.range m) kk (lc i c)).sum : Nat) : Int)
          rw [← sum_cast, List.map_map]; rfl]
        exact hR _ _ (r4) rfl
    · rw [hlenr] at hly
      have ey : ys = wRow fl lc (List.range m) N (kk + 1) := list_of hly hg
      subst ey
      exact k D H2 r hD hDs
structure WysAt (fl : Nat → Bool) (lc : Nat → Nat → Nat) (sg : List Nat) (N : Nat) (p : Addr) (was : List Addr) (H : Hp) : Prop where
  hp : H p = some (.lst (was.map V.ref))
  row : ∀ (k : Nat) a, was[k]? = some a → H a = some (.lst (wRow fl lc sg N k))
  off : ∀ a ∈ was, a ≠ p
theorem WysAt.same {fl : Nat → Bool} {lc : Nat → Nat → Nat} {sg : List Nat} {N : Nat} {p : Addr} {was : List Addr} {H H' : Hp} (h : WysAt fl lc sg N p was H) (s : Same H H') : WysAt fl lc sg N p was H' := ⟨s _ _ h.hp, fun k a e => s _ _ (h.row k a e), h.off⟩
theorem WysAt.more {fl : Nat → Bool} {lc : Nat → Nat → Nat} {sg : List Nat} {N : Nat} {p D : Addr} {was : List Addr} {H : Hp} (h : WysAt fl lc sg N p was H) (hD : H D = some (.lst (wRow fl lc sg N was.length))) (hn : D ≠ p) : WysAt fl lc sg N p (was ++ [D]) (upd H p (.lst (was.map V.ref ++ [V.ref D]))) := by
  refine ⟨by rw [upd_same, List.map_append]; rfl, fun k a e => ?_, fun a ha => ?_⟩
  · rcases Nat.lt_or_ge k was.length with hk | hk
    · rw [List.getElem?_append_left hk] at e
      rw [upd_ne (h.off a (List.mem_of_getElem? e))]
      exact h.row k a e
    · rw [List.getElem?_append_right hk] at e
      cases q : k - was.length with
      | zero =>
        rw [q] at e
        obtain rfl : D = a := Option.some.inj e
        rw [upd_ne hn, show k = was.length by omega]
        exact hD
      | succ j => rw [q] at e; cases e
  · rcases List.mem_append.mp ha with ha | ha
    · exact h.off a ha
    · rw [List.mem_singleton.mp ha]; exact hn
theorem wRow_zero {fl : Nat → Bool} {lc : Nat → Nat → Nat} {sg : List Nat} {N : Nat} : wRow fl lc sg N 0 = (List.range N).map fun t => V.int (if fl t = true then 1 else 0 : Int) := by
  unfold wRow
  refine List.map_congr_left fun t _ => ?_
  unfold cntW
  split <;> rfl
theorem getD_get {l : List Addr} {i : Nat} (h : i < l.length) : l[i]? = some (l.getD i 0) := by rw [List.getD_eq_getElem?_getD, List.getElem?_eq_getElem h]; rfl
abbrev s_ways : Stmt := top 5
abbrev n_ways : List Str := ["table", "flags", "length", "ways", "_", "flag"]
theorem sc_ways : FnScope n_ways ["table", "flags", "length"] (fnScope s_ways) := fnScope_by (by decide +kernel)
def spWays : Sp := fun vs H Q _ => ∃ (pt pf : Addr) (m N : Nat) (lc : Nat → Nat → Nat) (tas : List Addr) (fl : Nat → Bool) (n : Nat), vs = [.ref pt, .ref pf, .int n] ∧ TabN m N lc pt tas H ∧ H pf = some (.lst (flV fl N)) ∧ n ≤ 70 ∧
  ∀ (p : Addr) (was : List Addr) (H' : Hp), Same H H' → H p = none → WysAt fl lc (List.range m) N p was H' → was.length = n + 1 → Q (.ref p) H'
theorem ok_ways (T : BT mg) (c_ahead : Cal P w K mg base 1 "_ways_ahead" spAhead []) {f : Addr} {fd : FuncData} (F : Def K mg "ways_by_length" s_ways f fd) (b : Binds K fd ["table", "flags", "length"] []) : Cal P w K mg base 2 "ways_by_length" spWays [] := by
  refine cal0 F b .nil sc_ways (fun vs H Q E h => ?_) (fun cdv A outer s H vs Q E hr h => ?_)
  · obtain ⟨pt, pf, _, _, _, _, _, _, rfl, _⟩ := h; rfl
  · obtain ⟨pt, pf, m, N, lc, tas, fl, n, rfl, ht, hf, hn, k⟩ := h
    refine ⟨_, (pss_cons (ps_set (i := 3) sc_ways.nd rfl (.inl rfl) (pe_lst (pa_cons (pe_lc (own := [("flag", 5)]) rfl sc_ways.nd (pi_list (pv 1)) (blkOk_by (N := n_ways) (sc := fnScope s_ways) (by decide +kernel)) (fun _ _ _ _ _ => (pg_name (i := 5) sc_ways.nd rfl (.inl rfl))) (fun _ _ _ _ _ => pts_nil) (fun _ _ _ _ _ => (pe_callTy call_int1 (by rfl) T.m_int PyProof.Rows.boot_int (pa_cons (pv 5) pa_nil)))) pa_nil)))
      (pss_cons (ps_for PassesOwn.never rfl (pi_range1 (by rfl) T.m_range (pa_cons (pv 2) pa_nil)) (pg_name (i := 4) sc_ways.nd rfl (.inl rfl)) 
        (pss_one (ps_expr (pe_bm PySem.F.plainAttrs_list PySem.F.slot_list_append PySem.F.type_list_append mt_append (pv 3) (pa_cons (pe_c c_ahead hr (by first | decide | omega) (by rfl) (pa_cons (pv 0) (pa_cons (pe_ix (ixl K) (pv 3) (pe_un un_neg pe_int) (fun _ _ => rfl)) pa_nil))) pa_nil)))
        ))
      (pss_one (ps_ret (pv 3))
      ))), ?_⟩
    have h9 := ht.few
    have hlf : (flV fl N).length = N := by unfold flV; rw [List.length_map, List.length_range]
    refine ⟨_, rfl, pf, rfl, ⟨_, SqL.of hf⟩, fun D hD => ?_⟩
    refine lc_keep keep_same (walk_list (K := K) (a := pf) (xs := flV fl N)) hD (by rw [hlf]; exact small1000 (by omega)) (fun j y => y = .int (if fl j = true then 1 else 0 : Int)) (fun H r => SqL.of (r _ _ hf)) (fun i x H2 H3 R hi r hy hR => ?_) (fun ys H2 hly hg r hDs => ?_)
    · obtain ⟨rfl, ex⟩ := hy
      unfold flV at ex
      rw [hlf] at hi
      rw [List.getElem?_map, List.getElem?_range hi] at ex
      obtain rfl := Option.some.inj ex
      refine ⟨rfl, ?_⟩
      exact ⟨_, rfl, .inr ⟨_, rfl, hR _ _ (Same.refl _) rfl⟩⟩
    · rw [hlf] at hly
      have ey : ys = wRow fl lc (List.range m) N 0 := by rw [wRow_zero]; exact list_of hly hg
      subst ey
      refine ⟨by show 1 ≤ sizeLine; decide, fun p hp => ?_⟩
      have hDp : D ≠ p := fun e => by rw [← e, hDs] at hp; cases hp
      have hpH : H p = none := by
        cases e : H p with
        | none => rfl
        | some o => rw [r _ _ e] at hp; cases hp
      have w0 : WysAt fl lc (List.range m) N p [D] (upd H2 p (.lst [.ref D])) := by
        refine ⟨upd_same, fun k a e => ?_, fun a ha => ?_⟩
        · cases k with
          | zero =>
            obtain rfl : D = a := Option.some.inj e
            rw [upd_ne hDp]; exact hDs
          | succ k => cases e
        · rw [List.mem_singleton.mp ha]; exact hDp
      refine ⟨_, rfl, (n : Int), rfl, by omega, by omega, ?_⟩
      refine for_it (walk_range (lo := 0)) (fun i σ H' => ∃ (was : List Addr) (s4 s5 : Option V), σ = [some (.ref pt), some (.ref pf), some (.int n), some (.ref p), s4, s5] ∧ Same H H' ∧ WysAt fl lc (List.range m) N p was H' ∧ was.length = i + 1)
        ⟨[D], _, _, rfl, r.trans (sm_new hp), w0, rfl⟩ (fun _ _ _ _ _ => trivial) ?_ ?_
      · rintro i x σ H3 H3' hi ⟨was, s4, s5, rfl, s3, hw, hwl⟩ ⟨rfl, rfl⟩
        have hat : atI (was.map V.ref) (-1) = some (.ref (was.getD i 0)) := at_last (by rw [List.length_map, hwl]; omega) (by rw [List.length_map, hwl, Nat.add_sub_cancel, List.getElem?_map, getD_get (by omega)]; rfl)
        have hlast : was[i]? = some (was.getD i 0) := getD_get (by omega)
        refine ⟨_, rfl, .inl ⟨rfl, _, SqL.of hw.hp⟩, ?_⟩
        refine ⟨_, rfl, _, rfl, _, rfl, p, _, _, _, rfl, rfl, SqL.of hw.hp, hat, ?_⟩
        refine ⟨pt, was.getD i 0, m, N, lc, tas, fl, i, rfl, ht.same s3, hw.row _ _ hlast, fun D2 H4 s4 n4 hD4 => ?_⟩
        have hw4 := hw.same s4
        have hDp2 : D2 ≠ p := fun e => by rw [e, hw.hp] at n4; cases n4
        refine ⟨p, _, _, rfl, rfl, hw4.hp, by rw [List.length_map, hwl]; exact small1000 (by omega), ?_⟩
        have hpn : Same H (upd H4 p (.lst (was.map V.ref ++ [V.ref D2]))) := sm_put (s3.trans s4) hpH
        refine ⟨was ++ [D2], _, _, rfl, hpn, hw4.more (by rw [hwl]; exact hD4) hDp2, by rw [List.length_append, hwl]; rfl⟩
      · rintro σ H3 ⟨was, s4, s5, rfl, s3, hw, hwl⟩
        exact ⟨_, rfl, k p was H3 s3 hpH hw (by rw [hwl]; omega)⟩
end
end Toy
set_option maxHeartbeats 1000000
namespace Toy
open PySem L2 C8 SX LX
def bgL (ls : List K62.Tx) : List K62.Tx := [] :: ls.flatMap fun l => (List.range' 1 (l.length - 1)).map fun e => l.take e
def bgP (ls : List K62.Tx) (u : K62.Tx) : Bool := decide (u ∈ bgL ls)
theorem bgP_iff (ls : List K62.Tx) (u : K62.Tx) : bgP ls u = true ↔ K62.Bg ls u := by
  unfold bgP
  rw [decide_eq_true_eq]
  unfold bgL
  rw [List.mem_cons, List.mem_flatMap]
  constructor
  · rintro (h | ⟨l, hl, h⟩)
    · exact .inl h
    · obtain ⟨e, he, rfl⟩ := List.mem_map.mp h
      rw [List.mem_range'_1] at he
      refine .inr ⟨l, hl, l.drop e, fun z => ?_, (List.take_append_drop e l).symm⟩
      have := congrArg List.length z
      rw [List.length_drop, List.length_nil] at this
      omega
  · rintro (h | ⟨l, hl, z, hz, e⟩)
    · exact .inl h
    · by_cases hu : u = []
      · exact .inl hu
      · have h1 : 0 < u.length := List.length_pos_iff.mpr hu
        have h2 : 0 < z.length := List.length_pos_iff.mpr hz
        refine .inr ⟨l, hl, List.mem_map.mpr ⟨u.length, List.mem_range'_1.mpr ⟨h1, ?_⟩, by rw [e]; exact List.take_left' rfl⟩⟩
        rw [e, List.length_append]; omega
theorem bgP_nil (ls : List K62.Tx) : bgP ls [] = true := (bgP_iff ls []).mpr (.inl rfl)
def eo (o : Option K62.Tx) : OKey := o.map fun u => (.inr (S u) : Key)
def leadP (ls : List K62.Tx) (sg : List Nat) : OKey → Nat → OKey
  | some (.inr s), c => eo (K62.stepL ls (bgP ls) (some s.cps.toList) (sg.getD c 0))
  | _, _ => none
theorem leadP_eo (ls : List K62.Tx) (sg : List Nat) (o : Option K62.Tx) (c : Nat) : leadP ls sg (eo o) c = eo (K62.stepL ls (bgP ls) o (sg.getD c 0)) := by
  cases o with
  | none => rfl
  | some u =>
    show eo (K62.stepL ls (bgP ls) (some (S u).cps.toList) (sg.getD c 0)) = _
    rw [show (S u).cps.toList = u by simp [S]]
def UP (ls : List K62.Tx) (k : OKey) : Prop := (k = none ∧ ls ≠ []) ∨ ∃ u, u ∈ bgL ls ∧ k = eo (some u)
theorem leadP_U {ls : List K62.Tx} {sg : List Nat} {k : OKey} {c : Nat} (h : UP ls k) : UP ls (leadP ls sg k c) := by
  rcases h with ⟨rfl, h⟩ | ⟨u, hu, rfl⟩
  · exact .inl ⟨rfl, h⟩
  · rw [leadP_eo]
    show UP ls (eo (if (ls.any fun l => decide (l <:+ u ++ [sg.getD c 0])) = true then none else some (K62.lsuf (bgP ls) (u ++ [sg.getD c 0]))))
    by_cases ha : (ls.any fun l => decide (l <:+ u ++ [sg.getD c 0])) = true
    · rw [if_pos ha]
      refine .inl ⟨rfl, fun e => ?_⟩
      rw [e] at ha; cases ha
    · rw [if_neg ha]
      exact .inr ⟨_, of_decide_eq_true (K62.lsuf_p (bgP_nil ls) _), rfl⟩
theorem sub_lenG {α : Type} [DecidableEq α] : ∀ (B l : List α), l.Nodup → (∀ x ∈ l, x ∈ B) → l.length ≤ B.length
  | B, [], _, _ => Nat.zero_le _
  | B, x :: l, nd, h => by
    rw [List.nodup_cons] at nd
    have hx := h x List.mem_cons_self
    have ih := sub_lenG (B.erase x) l nd.2 fun y hy => (List.mem_erase_of_ne (fun e => nd.1 (by rw [← e]; exact hy))).mpr (h y (List.mem_cons_of_mem _ hy))
    rw [List.length_erase_of_mem hx] at ih
    have := List.length_pos_of_mem hx
    rw [List.length_cons]; omega
def dead (ls : List K62.Tx) : Nat := if ls = [] then 0 else 1
theorem UP_len {ls B : List K62.Tx} (hB : ∀ u ∈ bgL ls, u ∈ B) (l : List OKey) (nd : l.Nodup) (h : ∀ x ∈ l, UP ls x) : l.length ≤ dead ls + B.length := by
  have := sub_lenG ((if ls = [] then [] else [none]) ++ B.map fun u => eo (some u)) l nd fun x hx => by
    rcases h x hx with ⟨rfl, hn⟩ | ⟨u, hu, rfl⟩
    · rw [if_neg hn]; exact List.mem_append_left _ List.mem_cons_self
    · exact List.mem_append_right _ (List.mem_map.mpr ⟨u, hB u hu, rfl⟩)
  rw [List.length_append, List.length_map] at this
  unfold dead
  split at this <;> rename_i e
  · rw [if_pos e]; exact this
  · rw [if_neg e]; exact this
section
variable {ls : List K62.Tx} {sg : List Nat} {L : WLO} {m : Nat} {lead : OKey → Nat → OKey} {b : OKey}
def lcP (lead : OKey → Nat → OKey) (L : WLO) (t c : Nat) : Nat := noO (ths L) (lead ((ths L).getD t none) c)
def flP (L : WLO) (t : Nat) : Bool := ((ths L).getD t none).isSome
theorem noO_lt {ts : List OKey} {x : OKey} (h : x ∈ ts) : noO ts x < ts.length := by
  unfold noO
  exact List.findIdx_lt_length_of_exists ⟨x, h, decide_eq_true rfl⟩
theorem noO_at {ts : List OKey} {x : OKey} (h : x ∈ ts) : ts.getD (noO ts x) none = x := by
  have hl := noO_lt h
  have e := List.findIdx_getElem (xs := ts) (p := fun y => decide (y = x)) (w := hl)
  rw [List.getD_eq_getElem?_getD, List.getElem?_eq_getElem hl]
  exact of_decide_eq_true e
theorem ths_len : (ths L).length = L.length := by unfold ths; rw [List.length_map]
theorem st_lead (h : UW.St lead m (fun _ => False) b L L.length 0) {x : OKey} (hx : x ∈ ths L) {c : Nat} (hc : c < m) : lead x c ∈ ths L := by
  obtain ⟨p, hp, rfl⟩ := List.mem_map.mp hx
  obtain ⟨j, hj⟩ := List.getElem?_of_mem hp
  have hjl := (List.getElem?_eq_some_iff.mp hj).1
  obtain ⟨q, hq, e⟩ := h.done j p c hj hc (.inl hjl)
  exact List.mem_map.mpr ⟨q, hq, e⟩
theorem st_zero (h : UW.St lead m (fun _ => False) b L L.length 0) : (ths L)[0]? = some b := by
  unfold ths; rw [List.getElem?_map, h.zero]; rfl
theorem st_pos (h : UW.St lead m (fun _ => False) b L L.length 0) : 0 < L.length := (List.getElem?_eq_some_iff.mp h.zero).1
theorem lcP_closed (h : UW.St lead m (fun _ => False) b L L.length 0) : Closed (lcP lead L) (List.range m) L.length := fun t c ht hc => by
  unfold lcP
  rw [← ths_len]
  refine noO_lt (st_lead h ?_ (List.mem_range.mp hc))
  rw [List.getD_eq_getElem?_getD, List.getElem?_eq_getElem (by rw [ths_len]; exact ht)]
  exact List.getElem_mem _
theorem st_run (h : UW.St lead m (fun _ => False) b L L.length 0) : ∀ (n : Nat) (w : List Nat), w.length = n → Ov (List.range m) w → w.foldl lead b ∈ ths L ∧ (ths L).getD (w.foldl (lcP lead L) 0) none = w.foldl lead b := by
  intro n
  induction n with
  | zero =>
    intro w hw _
    rw [List.length_eq_zero_iff.mp hw]
    refine ⟨List.mem_of_getElem? (st_zero h), ?_⟩
    show (ths L).getD 0 none = b
    rw [List.getD_eq_getElem?_getD, st_zero h]; rfl
  | succ n ih =>
    intro w hw ho
    rcases List.eq_nil_or_concat w with rfl | ⟨u, c, rfl⟩
    · simp at hw
    · rw [List.concat_eq_append] at hw ho ⊢
      obtain ⟨i1, i2⟩ := ih u (by simpa using hw) fun d hd => ho d (List.mem_append_left _ hd)
      have hc := List.mem_range.mp (ho c (List.mem_append_right _ List.mem_cons_self))
      rw [List.foldl_append, List.foldl_append, List.foldl_cons, List.foldl_cons, List.foldl_nil, List.foldl_nil]
      have hm := st_lead h i1 hc
      refine ⟨hm, ?_⟩
      show (ths L).getD (noO (ths L) (lead ((ths L).getD (u.foldl (lcP lead L) 0) none) c)) none = _
      rw [i2]
      exact noO_at hm
end
theorem run_eo (ls : List K62.Tx) (sg : List Nat) : ∀ (w : List Nat) (o : Option K62.Tx), w.foldl (leadP ls sg) (eo o) = eo ((w.map fun c => sg.getD c 0).foldl (K62.stepL ls (bgP ls)) o)
  | [], o => rfl
  | c :: w, o => by
    rw [List.foldl_cons, leadP_eo, run_eo ls sg w, List.map_cons, List.foldl_cons]
theorem moves_plain {ps : Ps} (hne : ∀ p ∈ ps, p.1 ≠ []) (v : List Nat) : K60.movesL ps v = [] ↔ K62.Plain (ps.map (·.1)) v := by
  constructor
  · intro h l hl a z e
    obtain ⟨p, hp, rfl⟩ := List.mem_map.mp hl
    obtain ⟨n, hn⟩ := List.getElem?_of_mem hp
    have hnl := (List.getElem?_eq_some_iff.mp hn).1
    have hg : ps.getD n ([], []) = p := by rw [List.getD_eq_getElem?_getD, hn]; rfl
    have : (a.length, n) ∈ K60.movesL ps v := by
      refine K60.mem_moves.mpr ⟨?_, hnl, ?_⟩
      · have h1 : 0 < p.1.length := List.length_pos_iff.mpr (hne p hp)
        show a.length < v.length
        rw [e]; simp only [List.length_append]; omega
      · show decide ((v.drop a.length).take (ps.getD n ([], [])).1.length = (ps.getD n ([], [])).1) = true
        rw [hg, decide_eq_true_eq, e, List.append_assoc, List.drop_left, List.take_left]
    rw [h] at this; cases this
  · intro h
    refine List.eq_nil_iff_forall_not_mem.mpr fun m hm => ?_
    obtain ⟨h1, h2, h3⟩ := K60.mem_moves.mp hm
    have hp : ps.getD m.2 ([], []) ∈ ps := by rw [List.getD_eq_getElem?_getD, List.getElem?_eq_getElem h2]; exact List.getElem_mem h2
    exact h _ (List.mem_map.mpr ⟨_, hp, rfl⟩) _ _ (K60.hit_form h3)
theorem flP_plain {ps : Ps} {sg : List Nat} (hne : ∀ p ∈ ps, p.1 ≠ []) {L : WLO} (h : UW.St (leadP (ps.map (·.1)) sg) sg.length (fun _ => False) (eo (some [])) L L.length 0) {w : List Nat} (hw : Ov (List.range sg.length) w) :
    flP L (w.foldl (lcP (leadP (ps.map (·.1)) sg) L) 0) = decide (K60.movesL ps (w.map fun c => sg.getD c 0) = []) := by
  unfold flP
  rw [(st_run h _ w rfl hw).2, run_eo]
  have hall := K62.hold_all (ls := ps.map (·.1)) (bgP_iff _) (fun l hl => by obtain ⟨p, hp, rfl⟩ := List.mem_map.mp hl; exact hne p hp) (w.map fun c => sg.getD c 0)
  by_cases hp : K62.Plain (ps.map (·.1)) (w.map fun c => sg.getD c 0)
  · rw [hall.1 hp, decide_eq_true ((moves_plain hne _).mpr hp)]; rfl
  · rw [hall.2 hp, decide_eq_false fun e => hp ((moves_plain hne _).mp e)]; rfl
theorem ends_suf (r b : List Nat) : Txt.endswith (S r) (S b) = decide (b <:+ r) := by
  unfold Txt.endswith
  rw [PySem.StrLaws.subAt_eq]
  have e1 : (S r).cps.toList = r := by simp [S]
  have e2 : (S b).cps.toList = b := by simp [S]
  rw [e1, e2, S_len, S_len]
  by_cases h : b <:+ r
  · rw [decide_eq_true h]
    obtain ⟨a, rfl⟩ := h
    have : (a ++ b).length - b.length = a.length := by rw [List.length_append]; omega
    rw [this, List.drop_left, List.take_of_length_le (Nat.le_refl _)]
    simp
  · rw [decide_eq_false h]
    by_cases hb : b.length ≤ r.length
    · have : ((r.drop (r.length - b.length)).take b.length == b) = false := by
        rw [beq_eq_false_iff_ne]
        intro e
        rw [List.take_of_length_le (by rw [List.length_drop]; omega)] at e
        exact h ⟨r.take (r.length - b.length), by
          have e2 := List.take_append_drop (r.length - b.length) r
          rw [e] at e2; exact e2⟩
      rw [this, Bool.and_false]
    · rw [Nat.zero_add, decide_eq_false hb, Bool.false_and]
theorem lsuf_first {p : K62.Tx → Bool} (h0 : p [] = true) : ∀ v : K62.Tx, ∃ n, (takenN (fun n => p (v.drop n)) (v.length + 1))[0]? = some n ∧ n ≤ v.length ∧ v.drop n = K62.lsuf p v
  | [] => ⟨0, by show ((List.range 1).filter fun n => p (([] : K62.Tx).drop n))[0]? = some 0; rw [show List.range 1 = [0] from rfl, List.filter_cons_of_pos (by simpa using h0)]; rfl, Nat.le_refl _, rfl⟩
  | c :: r => by
    obtain ⟨n, h1, h2, h3⟩ := lsuf_first h0 r
    unfold takenN at h1 ⊢
    rw [List.length_cons, List.range_succ_eq_map]
    by_cases hp : p (c :: r) = true
    · refine ⟨0, ?_, Nat.zero_le _, ?_⟩
      · rw [List.filter_cons_of_pos (by simpa using hp)]; rfl
      · unfold K62.lsuf; rw [if_pos hp]; rfl
    · refine ⟨n + 1, ?_, by omega, ?_⟩
      · rw [List.filter_cons_of_neg (by simpa using hp), List.filter_map, List.getElem?_map]
        have e : ((fun n => p ((c :: r).drop n)) ∘ Nat.succ) = fun n => p (r.drop n) := by funext n; rfl
        rw [e, h1]; rfl
      · unfold K62.lsuf; rw [if_neg hp]; exact h3
end Toy
set_option maxHeartbeats 4000000
namespace LX
open PySem PySem.Spec PyProof.Rows L2 C8 SX
section
variable {P : Program} {w : World} {A : Around} {E : Value → Shared → Prop} {s : Shared} {a : Addr}
theorem sorted_setN {S : Int → Bool} {n : Nat} {Q : Value → Shared → Prop} (R : SetR w s.heap a S n) (calm : A.handled = none) (few : n ≤ 4096)
    (k : ∀ s2 p (out : List Value) (c : Nat) (ns : List Int), (∀ b o, s.heap.get? b = some o → s2.heap.get? b = some o) → s2.gens = s.gens → s2.os = s.os → s.heap.objs.size ≤ p →
      s2.heap.get? p = some (seqObj "list" out.toArray c) → IntsAre out ns → ns.Pairwise (· < ·) → (∀ j, j ∈ ns ↔ S j = true) → ns.length = n → Q (.ref p) s2) : wpAny (model P w) A (call (.builtin "sorted") [.ref a]) Q E s := by
  obtain ⟨ob, es, ep, tb, at0, ex, dat, good, nodup, mem, small, fit, many, ris, led⟩ := R
  refine Calls.call_function_entry kind_sorted plain_sorted entry_sorted (args_sorted1 _) (by
    unfold Builtin.«sorted»
    refine wpAny_bind (wpAny_pure (wpAny_bind (collect_set (A := A.in1) calm ⟨ob, at0, ex.1, dat⟩ fit small ris led fun s1 vs keep1 grow g1 o1 pm => ?_)))
    have len1 : vs.length = n := by rw [pm.length_eq, List.length_map, Array.length_toList]; exact many
    have are : IntsAre vs (vs.map Builtin.Re.reRawOf) := ints_of vs fun v hv => by
      obtain ⟨e, he, q⟩ := List.mem_map.mp (pm.mem_iff.mp hv)
      obtain ⟨i, t, e1, _⟩ := good e he
      exact ⟨i, t, q ▸ e1⟩
    have keys : (vs.map Builtin.Re.reRawOf).Perm (es.toList.map keyOf) := by
      have q := pm.map Builtin.Re.reRawOf
      rwa [List.map_map] at q
    have fits : vs.length ≤ sizeLine := by rw [len1, sizeLine_eq]; omega
    refine wpAny_bind (wpAny_newList ?_ fits)
    have new1 : (s1.heap.push (seqObj "list" vs.toArray 0)).get? s1.heap.objs.size = some (seqObj "list" vs.toArray 0) := Heap.get?_push_size _ rfl
    refine wpAny_bind (wpAny_holding (wpAny_call_entry slot_list_sort ⟨_, new1, rfl⟩ entry_list_sort (SrtO.list_sort_ord SrtO.swo_int new1 fits (fun h2 => SrtO.ints_sortable are h2) fun out srt stb => ⟨_, rfl, ?_⟩) (args_list_sort _)))
    obtain ⟨i1, i2, i3⟩ := SrtO.ints_out are srt stb
    obtain ⟨c, hc⟩ := sortedHeap_at (vs := vs) (out := out.toArray) new1
    have pn := i2.trans keys
    refine wpAny_pure ⟨_, rfl, k _ s1.heap.objs.size out c (out.map SrtO.iv) (fun b u e => ?_) g1 o1 grow hc i1 (lt_of_le_nodup _ i3 (pn.nodup_iff.mpr nodup)) (fun j => by rw [pn.mem_iff, ← mem j]) (by rw [pn.length_eq, List.length_map, Array.length_toList]; exact many)⟩
    have z := keep1 b u e
    have lt := Heap.lt_size z
    exact (sortedHeap_old (Nat.ne_of_lt lt) (by rw [size_push']; exact Nat.lt_succ_of_lt lt)).trans (Heap.get?_push_of_some _ z))
end
section
variable {X : Cx}
theorem sortN_run {pins : List (Addr × Obj)} {σ : L2.St} {H1 : Hp} {Q : VK} {s1 : Shared} {a : Addr} {ns : List Int} {c : Nat} (hc : X.calm = true) (I2 : Inv X pins σ H1 s1) (hS : SetR X.w s1.heap a (fun j => decide (j ∈ ns)) c) (hcn : c ≤ ns.length) (few : ns.length ≤ 4000)
    (q1 : ∀ (p : Addr) (ms : List Int), H1 p = none → ms.Pairwise (· < ·) → (∀ k, k ∈ ms ↔ k ∈ ns) → Q (.ref p) (upd H1 p (.lst (ms.map V.int)))) : wpAny (model X.prog X.w) X.A (call (.builtin "sorted") [.ref a]) (EP X pins σ Q) X.xe s1 := by
  refine sorted_setN hS (I2.ok.hd hc) (by omega) fun s' p out cc ms keep g o hp at0 are lt mem many => ?_
  have free0 : H1 p = none := I2.hok.fresh hp
  have fits : (ms.map V.int).length ≤ sizeLine := by rw [List.length_map, sizeLine_eq]; omega
  have J : Inv X pins σ (upd H1 p (.lst (ms.map V.int))) { s1 with heap := s'.heap, gens := s'.gens, drawn := s'.drawn, toks := s'.toks } :=
    I2.call (ch := []) (Un.laid keep hp free0) (I2.hok.laid keep hp ⟨fits, out, cc, vals_of_ints are, at0⟩) (by rw [g]; exact I2.bare) (fun _ z => nomatch z)
  have same : s' = { s1 with heap := s'.heap, gens := s'.gens, drawn := s'.drawn, toks := s'.toks } := by
    cases s'; cases s1; cases o; rfl
  rw [same]
  exact ⟨.ref p, _, J, rfl, q1 p ms free0 lt fun z => by rw [mem z, decide_eq_true_eq]⟩
def tSortSetN (K : PySem.W.Frag) (ta : TE) : TE := fun σ H Q => ta σ H fun x H1 => ∃ (l : Addr) (ns : List Int), x = .ref l ∧ SqL K H1 l (ns.map V.int) ∧ ns.length ≤ 4000 ∧ ∀ (p : Addr) (ms : List Int), H1 p = none → ms.Pairwise (· < ·) → (∀ k, k ∈ ms ↔ k ∈ ns) → Q (.ref p) (upd H1 p (.lst (ms.map V.int)))
theorem pe_sortSetN {a : Expr} {ta : TE} {p p2 q pos : Pos} (hc : X.calm = true) (hg : Gl X "sorted") (hm : X.mg "sorted" = none) (hg2 : Gl X "set") (hm2 : X.mg "set" = none) (ha : PE X a ta)
    (na : starEach [a] X.env = (false, eval a X.env) :: starEach [] X.env := by rfl) : PE X (.Call (.Name "sorted" p) [.Call (.Name "set" p2) [a] [] q] [] pos) (tSortSetN X.K ta) := by
  refine ⟨fun pins s σ H Q I h => ?_⟩
  refine Call_ (ld_blt I hg hm PyProof.Rows.boot_sorted (PyProof.Rows.callWith_builtin1 (PyProof.Rows.args_cons ?_ rfl) rfl rfl))
  refine Call_ (ld_blt I hg2 hm2 PyProof.Rows.boot_set (PyProof.Rows.callWith_type1 (PyProof.Rows.args_cons (thn (ha.run pins s σ H _ I h) fun v s1 ⟨x, H1, I1, r1, q1⟩ => PyProof.Rows.args_nil ?_) na) na rfl))
  obtain ⟨l, ns, rfl, hq, few, q1⟩ := q1
  cases r1
  obtain ⟨its, r, pl, hz⟩ := I1.list hq
  refine set_of_listI (ns := ns) (I1.ok.hd hc) pl.isList (by simpa using r.ints) (by unfold scanBound; omega) fun h' u c hS hcn keep => PyProof.Rows.args_nil ?_
  exact sortN_run (s1 := { s1 with heap := h', toks := u }) hc (I1.kept keep) hS hcn few q1
end
end LX
set_option maxHeartbeats 4000000
namespace Toy
open PySem L2 C8 SX LX
section
variable {P : Program} {w : World} {K : PySem.W.Frag} {mg : Str → Option Value} {base : Heap}
def Lyr (lc : Nat → Nat → Nat) (sg : List Nat) (i0 q : Nat) (xs : List Nat) : Prop := xs.Pairwise (· < ·) ∧ ∀ j, j ∈ xs ↔ ∃ w : List Nat, w.length = q ∧ Ov sg w ∧ w.foldl lc i0 = j
theorem lyr_zero {lc : Nat → Nat → Nat} {sg : List Nat} {i0 : Nat} : Lyr lc sg i0 0 [i0] := ⟨List.pairwise_singleton _ _, fun j => by
  rw [List.mem_singleton]
  constructor
  · rintro rfl; exact ⟨[], rfl, fun _ h => (nomatch h), rfl⟩
  · rintro ⟨w, h1, _, h3⟩
    rw [List.length_eq_zero_iff.mp h1] at h3
    exact h3.symm⟩
theorem lyr_next {lc : Nat → Nat → Nat} {sg : List Nat} {i0 q : Nat} {xs ys : List Nat} (h : Lyr lc sg i0 q xs) (hy : ys.Pairwise (· < ·)) (hm : ∀ j, j ∈ ys ↔ j ∈ xs.flatMap fun t => sg.map fun c => lc t c) : Lyr lc sg i0 (q + 1) ys := ⟨hy, fun j => by
  rw [hm, List.mem_flatMap]
  constructor
  · rintro ⟨t, ht, hj⟩
    obtain ⟨c, hc, rfl⟩ := List.mem_map.mp hj
    obtain ⟨w, h1, h2, rfl⟩ := (h.2 t).mp ht
    refine ⟨w ++ [c], by rw [List.length_append, h1]; rfl, fun d hd => ?_, by rw [List.foldl_append]; rfl⟩
    rcases List.mem_append.mp hd with hd | hd
    · exact h2 d hd
    · rw [List.mem_singleton.mp hd]; exact hc
  · rintro ⟨w, h1, h2, rfl⟩
    rcases List.eq_nil_or_concat w with rfl | ⟨u, c, rfl⟩
    · simp at h1
    · rw [List.concat_eq_append] at h1 h2 ⊢
      refine ⟨u.foldl lc i0, (h.2 _).mpr ⟨u, by simpa using h1, fun d hd => h2 d (List.mem_append_left _ hd), rfl⟩, List.mem_map.mpr ⟨c, h2 c (List.mem_append_right _ List.mem_cons_self), by rw [List.foldl_append]; rfl⟩⟩⟩
theorem lyr_any {fl : Nat → Bool} {lc : Nat → Nat → Nat} {sg : List Nat} {i0 q : Nat} {xs : List Nat} (h : Lyr lc sg i0 q xs) : (xs.map fl).any id = decide (0 < cntW fl lc sg q i0) := by
  rw [Bool.eq_iff_iff, decide_eq_true_eq, cnt_pos, List.any_eq_true]
  constructor
  · rintro ⟨b, hb, e⟩
    obtain ⟨j, hj, rfl⟩ := List.mem_map.mp hb
    obtain ⟨w, h1, h2, rfl⟩ := (h.2 j).mp hj
    exact ⟨w, h1, h2, e⟩
  · rintro ⟨w, h1, h2, h3⟩
    exact ⟨_, List.mem_map.mpr ⟨_, (h.2 _).mpr ⟨w, h1, h2, rfl⟩, rfl⟩, h3⟩
theorem lyr_lt {lc : Nat → Nat → Nat} {sg : List Nat} {N i0 q : Nat} {xs : List Nat} (hl : Closed lc sg N) (hi : i0 < N) (h : Lyr lc sg i0 q xs) : ∀ j ∈ xs, j < N := fun j hj => by
  obtain ⟨w, _, h2, rfl⟩ := (h.2 j).mp hj
  exact fold_lt hl h2 hi
theorem lyr_len {lc : Nat → Nat → Nat} {sg : List Nat} {N i0 q : Nat} {xs : List Nat} (hl : Closed lc sg N) (hi : i0 < N) (h : Lyr lc sg i0 q xs) : xs.length ≤ N := by
  have := UW.sub_len (List.range N) xs (h.1.imp fun h => Nat.ne_of_lt h) fun x hx => List.mem_range.mpr (lyr_lt hl hi h x hx)
  rwa [List.length_range] at this
def optI : Option Nat → V
  | none => .non
  | some l => .int (l : Nat)
def lngV : Lng → V
  | .no => .non
  | .fin l => .int (l : Nat)
  | .inf => .str (Str.ofString "endless")
theorem fm_len {g : Nat → Nat → Nat} (sg : List Nat) : ∀ l : List Nat, (l.flatMap fun t => sg.map fun c => g t c).length = l.length * sg.length
  | [] => by simp
  | r :: l => by rw [List.flatMap_cons, List.length_append, fm_len sg l, List.length_map, List.length_cons, Nat.add_mul]; omega
theorem ss_step {Ds : Ends} {pt m : Addr} {a1 a2 a4 a5 a6 a7 : Option V} {m0 N : Nat} {lc : Nat → Nat → Nat} {tas : List Addr} {H : Hp} {i0 q : Nat} {xs : List Nat} (ht : TabN m0 N lc pt tas H) (hi0 : i0 < N) (hm : H m = some (.lst (xs.map fun k => V.int (k : Nat)))) (hL : Lyr lc (List.range m0) i0 q xs)
    (k : ∀ (p : Addr) (ys : List Nat) (H' : Hp), Same H H' → H' p = some (.lst (ys.map fun k => V.int (k : Nat))) → Lyr lc (List.range m0) i0 (q + 1) ys → Ds.nx [some (.ref pt), a1, a2, some (.ref p), a4, a5, a6, a7] H') :
    tAsg (tSortSetN K (tLc2 (iList K (tVar 3)) (gName 6) tYes (iList K (tOp (rIxL K) (tVar 0) (tVar 6))) (gName 7) tYes (tVar 7) [6, 7] [7])) (gName 3) Ds [some (.ref pt), a1, a2, some (.ref m), a4, a5, a6, a7] H := by
  have hl3 := ht.m3
  have h9 := ht.few
  have hcl := ht.cl
  have htn := ht.len
  have hxl := lyr_len hcl hi0 hL
  have hlx : (xs.map fun k => V.int (k : Nat)).length = xs.length := List.length_map _
  refine ⟨_, rfl, m, rfl, ⟨_, SqL.of hm⟩, fun D hD => ?_⟩
  refine lc2_it (walk_list (K := K) (a := m) (xs := xs.map fun k => V.int (k : Nat))) (fun i H' => Same H H' ∧ H' D = some (.lst (((xs.take i).flatMap fun t => (List.range m0).map fun c => lc t c).map fun k => V.int (k : Nat))))
    ⟨sm_new hD, upd_same⟩ (fun i H' _ ⟨s, _⟩ => SqL.of (s _ _ hm)) (fun i x H2 H2' hi ⟨s2, e2⟩ hy => ?_) (fun H2 ⟨s2, e2⟩ => ?_)
  · obtain ⟨rfl, ex⟩ := hy
    rw [hlx] at hi
    have hx : xs[i]? = some xs[i] := List.getElem?_eq_getElem hi
    have ht' : xs[i] < N := lyr_lt hcl hi0 hL _ (List.getElem_mem hi)
    generalize xs[i] = t at hx ht'
    rw [List.getElem?_map, hx] at ex
    obtain rfl : V.int (t : Nat) = x := Option.some.inj ex
    have ht2 := ht.same s2
    have hmt : tas[t]? = some (tas.getD t 0) := by rw [List.getD_eq_getElem?_getD, List.getElem?_eq_getElem (by omega)]; rfl
    have hrow0 := ht.row t _ hmt
    have hrow := s2 _ _ hrow0
    have htat : (tas.map V.ref)[t]? = some (.ref (tas.getD t 0)) := by rw [List.getElem?_map, hmt]; rfl
    have hlen := fm_len (g := lc) (List.range m0) (xs.take i)
    rw [List.length_take] at hlen
    refine ⟨rfl, yesT ?_⟩
    refine ⟨_, rfl, _, rfl, pt, _, _, _, rfl, rfl, SqL.of ht2.tb, atI_nat htat, tas.getD t 0, rfl, ⟨_, SqL.of hrow⟩, ?_⟩
    refine li_it (walk_list (K := K) (a := tas.getD t 0) (xs := (List.range m0).map fun c => V.int (lc t c : Nat))) (fun j H' => Same H H' ∧ H' D = some (.lst ((((xs.take i).flatMap fun t => (List.range m0).map fun c => lc t c) ++ ((List.range m0).take j).map fun c => lc t c).map fun k => V.int (k : Nat))))
      ⟨s2, by rw [List.take_zero, List.map_nil, List.append_nil]; exact e2⟩ (fun j H' _ ⟨s, _⟩ => SqL.of (s _ _ hrow0)) (fun j y H3 H3' hj ⟨s3', e3⟩ hy => ?_) (fun H3 ⟨s3', e3⟩ => ?_)
    · obtain ⟨rfl, ey⟩ := hy
      rw [List.length_map] at hj
      rw [List.length_range] at hj
      have hc : (List.range m0)[j]? = some j := List.getElem?_range hj
      rw [List.getElem?_map, hc] at ey
      obtain rfl := Option.some.inj ey
      have htk : (List.range m0).take (j + 1) = (List.range m0).take j ++ [j] := take_more hc
      refine ⟨rfl, yesT ?_⟩
      refine ⟨_, rfl, _, e3, ?_, sm_put s3' hD, ?_⟩
      · rw [List.length_map, List.length_append, hlen, List.length_map, List.length_take]
        have : min i xs.length * (List.range m0).length ≤ 900 * 3 := Nat.mul_le_mul (by omega) (by rw [List.length_range]; exact hl3)
        exact Nat.lt_of_le_of_lt (show _ ≤ 2800 by omega) (by decide)
      · rw [upd_same, htk]
        simp only [List.map_append, List.map_cons, List.map_nil, List.append_assoc]
    · rw [List.length_map, List.take_length] at e3
      refine ⟨s3', ?_⟩
      rw [take_more hx, List.flatMap_append, List.flatMap_singleton]
      exact e3
  · rw [hlx, List.take_length] at e2
    have hlen := fm_len (g := lc) (List.range m0) xs
    generalize hfl : (xs.flatMap fun t => (List.range m0).map fun c => lc t c) = fx at e2 hlen
    have emap : (fx.map fun k => V.int (k : Nat)) = (fx.map fun (k : Nat) => (k : Int)).map V.int := by rw [List.map_map]; rfl
    refine ⟨D, fx.map fun (k : Nat) => (k : Int), rfl, SqL.of (by rw [← emap]; exact e2), ?_, fun p zs hp hs hmem => ?_⟩
    · rw [List.length_map, hlen]
      have : xs.length * (List.range m0).length ≤ 900 * 3 := Nat.mul_le_mul (by omega) (by rw [List.length_range]; exact hl3)
      omega
    · have hnn : ∀ z ∈ zs, z = ((z.toNat : Nat) : Int) := fun z hz => by
        obtain ⟨k, _, rfl⟩ := List.mem_map.mp ((hmem z).mp hz)
        rfl
      have ez : zs = (zs.map Int.toNat).map fun (k : Nat) => (k : Int) := by
        rw [List.map_map]
        conv => lhs; rw [← List.map_id zs]
        exact List.map_congr_left hnn
      have epz : (upd H2 p (.lst (zs.map V.int))) p = some (.lst ((zs.map Int.toNat).map fun k => V.int (k : Nat))) := by
        rw [upd_same]
        conv => lhs; rw [ez, List.map_map]
        rfl
      refine k p (zs.map Int.toNat) _ (s2.trans (sm_new hp)) epz (lyr_next hL ?_ fun j => ?_)
      · rw [List.pairwise_map]
        refine hs.imp_of_mem fun {a b} ha hb h => ?_
        have := hnn a ha
        have := hnn b hb
        omega
      · rw [hfl]
        constructor
        · intro hj
          obtain ⟨z, hz, rfl⟩ := List.mem_map.mp hj
          obtain ⟨k, hk, rfl⟩ := List.mem_map.mp ((hmem z).mp hz)
          exact hk
        · intro hj
          exact List.mem_map.mpr ⟨(j : Int), (hmem _).mpr (List.mem_map.mpr ⟨j, hj, rfl⟩), rfl⟩
abbrev s_lfrom : Stmt := top 7
abbrev n_lfrom : List Str := ["table", "first", "flags", "marks", "most", "length", "mark", "target"]
theorem sc_lfrom : FnScope n_lfrom ["table", "first", "flags"] (fnScope s_lfrom) := fnScope_by (by decide +kernel)
def spLFrom : Sp := fun vs H Q _ => ∃ (pt pf : Addr) (m0 N : Nat) (lc : Nat → Nat → Nat) (tas : List Addr) (fl : Nat → Bool) (i0 : Nat), vs = [.ref pt, .int i0, .ref pf] ∧ TabN m0 N lc pt tas H ∧ H pf = some (.lst (flV fl N)) ∧ i0 < N ∧
  ∀ (H' : Hp), Same H H' → Q (lngV (lngP fl lc (List.range m0) N i0)) H'
theorem ok_lfrom (T : BT mg) {f : Addr} {fd : FuncData} (F : Def K mg "longest_from" s_lfrom f fd) (b : Binds K fd ["table", "first", "flags"] []) : Cal P w K mg base 1 "longest_from" spLFrom [] := by
  refine cal0 F b .nil sc_lfrom (fun vs H Q E h => ?_) (fun cdv A outer s H vs Q E hr h => ?_)
  · obtain ⟨pt, pf, _, _, _, _, _, _, rfl, _⟩ := h; rfl
  · obtain ⟨pt, pf, m0, N, lc, tas, fl, i0, rfl, ht, hf, hi0, k⟩ := h
    refine ⟨_, (pss_cons (ps_set (i := 3) sc_lfrom.nd rfl (.inl rfl) (pe_lst (pa_cons (pv 1) pa_nil)))
      (pss_cons (ps_set (i := 4) sc_lfrom.nd rfl (.inl rfl) pe_non)
      (pss_cons (ps_for PassesOwn.never rfl (pi_range1 (by rfl) T.m_range (pa_cons (pe_op op_mul pe_int (pe_callB (lenK K) (by rfl) T.m_len PySem.boot_len (pa_cons (pv 0) pa_nil))) pa_nil)) (pg_name (i := 5) sc_lfrom.nd rfl (.inl rfl)) 
        (pss_cons (ps_if (pt_val (pe_callB (anyK K rfl) (by rfl) T.m_any PyProof.Rows.boot_any (pa_cons (pe_lc (own := [("mark", 6)]) rfl sc_lfrom.nd (pi_list (pv 3)) (blkOk_by (N := n_lfrom) (sc := fnScope s_lfrom) (by decide +kernel)) (fun _ _ _ _ _ => (pg_name (i := 6) sc_lfrom.nd rfl (.inl rfl))) (fun _ _ _ _ _ => pts_nil) (fun _ _ _ _ _ => (pe_ix (ixl K) (pv 2) (pv 6) (fun _ _ => rfl)))) pa_nil))) 
          (pss_one (ps_set (i := 4) sc_lfrom.nd rfl (.inl rfl) (pv 5))
          )
         pss_nil)
        (pss_one (ps_set (i := 3) sc_lfrom.nd rfl (.inl rfl) (pe_sortSetN rfl (by rfl) T.m_sorted (by rfl) T.m_set (pe_lc2 (own := [("mark", 6), ("target", 7)]) (vs1 := [7]) rfl sc_lfrom.nd (pi_list (pv 3)) (blkOk_by (N := n_lfrom) (sc := fnScope s_lfrom) (by decide +kernel)) (by decide) (fun _ _ _ _ _ => (pg_name (i := 6) sc_lfrom.nd rfl (.inl rfl))) (fun _ _ _ _ _ => pts_nil) (fun _ _ _ _ _ => (pi_listK K (pe_ix (ixl K) (pv 0) (pv 6) (fun _ _ => rfl)))) (fun _ _ _ _ _ => (pg_name (i := 7) sc_lfrom.nd rfl (.inl rfl))) (fun _ _ _ _ _ => pts_nil) (fun _ _ _ _ _ => (pv 7)))))
        )))
      (pss_cons (ps_if (PW.pt (pw_and (pt_cmpR op_notN (pv 4) pe_non (nomark _)) (pw_and1 (pt_cmpR op_ge (pv 4) (pe_callB (lenK K) (by rfl) T.m_len PySem.boot_len (pa_cons (pv 0) pa_nil)) (nomark _))))) 
        (pss_one (ps_ret pe_str)
        )
       pss_nil)
      (pss_one (ps_ret (pv 4))
      ))))), ?_⟩
    have hl3 := ht.m3
    have h9 := ht.few
    have hcl := ht.cl
    have htl := ht.len
    have hmapl : (tas.map V.ref).length = N := by rw [List.length_map, htl]
    have hlf : (flV fl N).length = N := by unfold flV; rw [List.length_map, List.length_range]
    refine ⟨_, rfl, by show 1 ≤ sizeLine; decide, fun p0 hp0 => ?_⟩
    have s0 : Same H (upd H p0 (.lst [.int (i0 : Nat)])) := sm_new hp0
    have e0 : (upd H p0 (.lst [.int (i0 : Nat)])) p0 = some (.lst [.int (i0 : Nat)]) := upd_same
    generalize upd H p0 (.lst [.int (i0 : Nat)]) = H0 at s0 e0 ⊢
    refine ⟨_, rfl, pt, _, rfl, .inl (SqL.of (s0 _ _ ht.tb)), _, _, rfl, rfl, ?_⟩
    rw [hmapl]
    refine ⟨.inl ⟨by decide, by decide⟩, (2 * (N : Int)), rfl, by omega, by omega, ?_⟩
    have htn : (2 * (N : Int)).toNat = 2 * N := by omega
    refine for_it (walk_range (lo := 0) (n := (2 * (N : Int)).toNat)) (fun q σ H' => ∃ (m : Addr) (xs : List Nat) (s5 s6 s7 : Option V), σ = [some (.ref pt), some (.int i0), some (.ref pf), some (.ref m), some (optI (lastW fl lc (List.range m0) i0 q)), s5, s6, s7] ∧ Same H H' ∧ H' m = some (.lst (xs.map fun k => V.int (k : Nat))) ∧ Lyr lc (List.range m0) i0 q xs)
      ⟨p0, [i0], _, _, _, rfl, s0, e0, lyr_zero⟩ (fun _ _ _ _ _ => trivial) ?_ ?_
    · rintro q x σ H1 H1' hq ⟨m, xs, s5, s6, s7, rfl, s1, hm, hL⟩ ⟨rfl, hxv⟩
      obtain rfl : x = V.int (q : Int) := hxv.trans (congrArg V.int (by omega))
      have hlx : (xs.map fun k => V.int (k : Nat)).length = xs.length := List.length_map _
      have hxl := lyr_len hcl hi0 hL
      refine ⟨_, rfl, m, rfl, ⟨_, SqL.of hm⟩, fun D hD => ?_⟩
      refine lc_keep keep_same (walk_list (K := K) (a := m) (xs := xs.map fun k => V.int (k : Nat))) hD (by rw [hlx]; exact small1000 (by omega)) (fun j y => ∀ t, xs[j]? = some t → y = .bl (fl t)) (fun H r => SqL.of (r _ _ hm)) (fun i x H2 H3 R hi r hy hR => ?_) (fun ys H2 hly hg r hDs => ?_)
      · obtain ⟨rfl, ex⟩ := hy
        rw [hlx] at hi
        have hx : xs[i]? = some xs[i] := List.getElem?_eq_getElem hi
        have ht' : xs[i] < N := lyr_lt hcl hi0 hL _ (List.getElem_mem hi)
        generalize xs[i] = t at hx ht'
        rw [List.getElem?_map, hx] at ex
        obtain rfl : V.int (t : Nat) = x := Option.some.inj ex
        refine ⟨rfl, ?_⟩
        refine ⟨_, rfl, _, rfl, pf, _, _, .bl (fl t), rfl, rfl, SqL.of (r _ _ (s1 _ _ hf)), atI_nat (by unfold flV; rw [List.getElem?_map, List.getElem?_range ht']; rfl), ?_⟩
        exact hR _ _ (Same.refl _) fun t' e => by rw [hx] at e; obtain rfl := Option.some.inj e; rfl
      · rw [hlx] at hly
        have ez : ys = (xs.map fl).map V.bl := by rw [List.map_map]; exact list_map hly fun j y t e1 e2 => hg j y e1 t e2
        subst ez
        refine ⟨D, xs.map fl, rfl, SqL.of hDs, ?_⟩
        rw [lyr_any hL]
        have s2 := s1.trans r
        have hm2 := r _ _ hm
        refine ⟨_, rfl, ?_⟩
        by_cases hz : 0 < cntW fl lc (List.range m0) q i0
        · refine iteB (decide_eq_true hz) ⟨_, rfl, ?_⟩
          have e1 : lastW fl lc (List.range m0) i0 (q + 1) = some q := by
            show (if 0 < cntW fl lc (List.range m0) q i0 then some q else lastW fl lc (List.range m0) i0 q) = _
            rw [if_pos hz]
          refine ss_step (ht.same s2) hi0 hm2 hL fun p ys H3 s3 hp hL' => ?_
          exact ⟨p, ys, _, _, _, by rw [e1]; rfl, s2.trans s3, hp, hL'⟩
        · refine iteN (decide_eq_false hz) ?_
          have e1 : lastW fl lc (List.range m0) i0 (q + 1) = lastW fl lc (List.range m0) i0 q := by
            show (if 0 < cntW fl lc (List.range m0) q i0 then some q else lastW fl lc (List.range m0) i0 q) = _
            rw [if_neg hz]
          refine ss_step (ht.same s2) hi0 hm2 hL fun p ys H3 s3 hp hL' => ?_
          exact ⟨p, ys, _, _, _, by rw [e1], s2.trans s3, hp, hL'⟩
    · rintro σ H1 ⟨m, xs, s5, s6, s7, rfl, s1, hm, hL⟩
      rw [htn]
      unfold lngP at k
      cases e : lastW fl lc (List.range m0) i0 (2 * N) with
      | none =>
        rw [e] at k
        refine ⟨_, rfl, rfl, false, rfl, iteN rfl (iteN rfl ?_)⟩
        exact ⟨_, rfl, k H1 s1⟩
      | some l =>
        rw [e] at k
        refine ⟨_, rfl, rfl, true, rfl, iteB rfl ?_⟩
        refine ⟨_, rfl, _, rfl, pt, _, rfl, .inl (SqL.of (s1 _ _ ht.tb)), _, _, rfl, rfl, _, rfl, ?_⟩
        rw [hmapl]
        have et : lngT N (some l) = if N ≤ l then .inf else .fin l := rfl
        rw [et] at k
        by_cases h : N ≤ l
        · rw [if_pos h] at k
          exact iteB (by rw [decide_eq_true_eq]; omega) (k H1 s1)
        · rw [if_neg h] at k
          refine iteN (by rw [decide_eq_false_iff_not]; omega) ?_
          exact ⟨_, rfl, k H1 s1⟩
end
end Toy
set_option maxHeartbeats 2000000
namespace LX
open PySem PySem.Spec PyProof.Rows L2 C8 SX NdefX
def CellO (c : Addr) (v : V) : HO := .ext fun h => ∃ u, RelV v u ∧ h.IsCell c (some u)
theorem cellO_ok {P : Program} {w : World} {H : Hp} {h : Heap} {c : Addr} {v : V} {u : Value} (r : RelV v u) (e : h.IsCell c (some u)) : ObjOk P w H h c (CellO c v) :=
  ⟨⟨u, r, e⟩, let ⟨o, ho, _⟩ := e; ⟨o, ho⟩, fun _ _ ⟨u', r', o, q, z⟩ k => ⟨u', r', o, k o q, z⟩⟩
theorem cellO_at {P : Program} {w : World} {H : Hp} {h : Heap} {c : Addr} {v : V} (x : HOk P w H h) (e : H c = some (CellO c v)) : ∃ u, RelV v u ∧ h.IsCell c (some u) := by
  have q : ObjOk P w H h c (.ext fun h => ∃ u, RelV v u ∧ h.IsCell c (some u)) := x c _ e
  exact q.1
theorem cellO_tup {c : Addr} {v : V} {xs : List V} : CellO c v ≠ .tup xs := fun z => by
  have z' : HO.ext _ = HO.tup xs := z
  cases z'
theorem cellO_own {c x : Addr} {v : V} : CellO c v ≠ .own x := fun z => by
  have z' : HO.ext _ = HO.own x := z
  cases z'
theorem cellO_frz {c : Addr} {v : V} {o : Obj} {u : HO} : CellO c v ≠ .frz o u := fun z => by
  have z' : HO.ext _ = HO.frz o u := z
  cases z'
theorem cellO_tbl {c : Addr} {v : V} {ps : Array Value} : CellO c v ≠ .tbl ps := fun z => by
  have z' : HO.ext _ = HO.tbl ps := z
  cases z'
theorem calE {P : Program} {w : World} {K : PySem.W.Frag} {mg : Str → Option Value} {base : Heap} {x y : Str} {st s0 : Stmt} {e0 : Expr} {p0 : Pos} {i : Nat} {f : Addr} {fd : FuncData} {N ps : List Str} {ds : List Value} {dvs : List V} {k : Nat} {sp : Sp} {cdv : Value} (F : C8.Def K mg x st f fd) (hc : fd.code = cdv) (b : Binds K fd ps ds) (d : Vals dvs ds) (S : FnScope N ps (C8.fnScope st)) (len : ∀ vs H Q E, sp vs H Q E → vs.length = ps.length)
    (hst : C8.fnBody st = [s0, .Return (some e0) p0]) (hi : N[i]? = some y) (hy : (C8.fnScope st).names.lookup y = some .cell)
    (hbody : ∀ (A : Around) (outer : List Env) (s : Shared) (H : Hp) (vs : List V) (Q : VK) (E : XK), Room k (A.deeper (envOfC x (C8.fnScope st) s.heap.objs.size f cdv)) → sp vs H Q E →
      ∃ t te, PS (cxOf C8.CX0 P w K mg base N x (C8.fnScope st) f cdv A outer s H E).nox s0 t ∧ PE (cxOf C8.CX0 P w K mg base N x (C8.fnScope st) f cdv A outer s H E).nox e0 te ∧
        t { nx := fun σ H' => te σ H' fun v H2 => ∃ w0, σ[i]? = some (some w0) ∧ ∀ c, (cellsFrom (s.heap.objs.size + 1) (C8.fnScope st).names []).lookup y = some c → H2 c = none → H c = none → Q v (upd H2 c (CellO c w0)), rt := fun _ _ => False } (start N vs) H) : C8.Cal P w K mg base (k + 1) x sp dvs := by
  refine ⟨f, fd, ps, ds, ?_, F.mgf, F.kp, b, d⟩
  obtain ⟨oc, od, dV, kV, doc, pm, an, cdv', ct, osl, rfl, lk, hcd⟩ := F.fn.ex
  obtain rfl : cdv' = cdv := hc
  refine ⟨len, fun A outer s H args us vs Q E hr e1 hb r hsp => ?_⟩
  have hl := len _ _ _ _ hsp
  have KX : K.In s.heap := e1.mod.kin.keeps fun b o e => (e1.bs b o e).1
  have lim : s.heap.NoLimit := e1.mod.nolimit.keeps fun b o e => (e1.bs b o e).1
  have hkind : ∀ y ∈ ps.zip us, (C8.fnScope st).names.lookup y.1 = some .local ∨ ((C8.fnScope st).names.lookup y.1 = some .cell ∧ ((cellsFrom (s.heap.objs.size + 1) (C8.fnScope st).names []).lookup y.1).isSome = true) := fun ⟨n, v⟩ hy => by
    rcases S.par n (List.of_mem_zip hy).1 with q | q
    · exact .inl q
    · exact .inr ⟨q, PySem.W.cellsFrom_some _ _ _ (.inl q)⟩
  refine codeAny_call_function hr.depth (KX _ _ lk) rfl S.co S.gen rfl (PySem.W.codeRec_of KX hcd) (hb _ _ _ _ ?_)
  refine wpAny_newFunctionEnv_cells S.kind hkind fun env he s1 xx => ?_
  subst he
  refine ⟨lim.keeps xx.toInCall.keep, codeAny_func ?_⟩
  obtain ⟨t, te, ht, hte, hq⟩ := hbody A outer s H vs Q E (hr.deeper _) hsp
  have I : Inv (cxOf C8.CX0 P w K mg base N x (C8.fnScope st) f cdv' A outer s H E) [] (start N vs) H s1 := inv_start S hr.hd e1 hl r xx
  obtain ⟨c0, hc0⟩ := cell_has (n := s.heap.objs.size + 1) hy
  have ht' : PS (cxOf C8.CX0 P w K mg base N x (C8.fnScope st) f cdv' A outer s H E) s0 t := ⟨fun pins s σ H D I hw => wpAny_mono (ht.run pins s σ H D (I.wish _) hw) (fun _ _ q => q.unwish) fun _ _ z => False.elim z⟩
  have hte' := hte.nox
  show wpAny _ _ (execs (C8.fnBody st) _) _ _ _
  rw [hst]
  refine wpAny_execs_cons (wpAny_mono (ht'.run [] s1 (start N vs) H _ I hq) (fun fl s' hs => ?_) fun e s' hs => hs)
  cases fl with
  | ret u =>
    obtain ⟨_, _, _, _, _, q⟩ := hs
    exact False.elim q
  | brk =>
    obtain ⟨_, _, _, q⟩ := hs
    exact False.elim q
  | cont =>
    obtain ⟨_, _, _, q⟩ := hs
    exact False.elim q
  | next =>
    obtain ⟨σ', H', J, q⟩ := hs
    refine wpAny_execs_cons (wpAny_Return_some (wpAny_mono (hte'.run [] s' σ' H' _ J q) (fun u s2 hu => ?_) fun e s' hs => hs))
    obtain ⟨v, H2, J2, rv, w0, hw, hQ⟩ := hu
    have hcN : H2 c0 = none := J2.freeC y c0 hc0
    have hge : s.heap.objs.size ≤ c0 := Nat.le_of_lt (xx.above y c0 (PySem.mem_of_lookup hc0))
    have hHc : H c0 = none := e1.hok.fresh hge
    have hsc : s.heap.get? c0 = none := Heap.get?_none_of_le hge
    obtain ⟨m, _, hloc⟩ := J2.loc
    obtain ⟨u0, ru, hlook⟩ := hloc i y w0 hi hw (.inr (.inl hy))
    have hcell : s2.heap.IsCell c0 (some u0) := by
      rcases hlook with ⟨hk, _⟩ | ⟨_, c, ec, hcell⟩
      · have hk : (C8.fnScope st).names.lookup y = some .local := hk
        rw [hy] at hk; cases hk
      · have ec : (cellsFrom (s.heap.objs.size + 1) (C8.fnScope st).names []).lookup y = some c := ec
        rw [hc0] at ec; cases ec
        exact hcell
    have B : Un (frs outer) [] H H2 s.heap s2.heap := J2.base
    have ne : ∀ b o, s.heap.get? b = some o → b ≠ c0 := fun b o e z => by rw [z, hsc] at e; cases e
    refine ⟨v, upd H2 c0 (CellO c0 w0), J2.os, J2.bare, ⟨B.keep, B.slot, fun b o e n hx => by rw [upd_ne (ne b o e)]; exact B.free b o e n hx, B.there, fun b xs e => ?_, fun b o u e => ?_, fun b ps e => ?_⟩, J2.hok.laidN (fun _ _ q => q) hcN (cellO_ok ru hcell), rv, hQ c0 hc0 hcN hHc⟩
    · rw [upd_ne (fun z => by rw [z, hHc] at e; cases e)]; exact B.tups b xs e
    · rw [upd_ne (fun z => by rw [z, hHc] at e; cases e)]; exact B.frzs b o u e
    · rw [upd_ne (fun z => by rw [z, hHc] at e; cases e)]; exact B.tbls b ps e
def tUpE (S : Addr → V → Sp → Prop) (t : TA) : TE := fun σ H Q => t σ H fun vs H1 => ∃ (c : Addr) (w0 : V) (sp : Sp), H1 c = some (CellO c w0) ∧ S c w0 sp ∧ sp vs (delH H1 c) (fun v H2 => H2 c = none → Q v (upd H2 c (CellO c w0))) C8.E0
theorem pe_cUpE {X : Cx} {k j : Nat} {g : Addr} {x y : Str} {p pos : Pos} {e : Expr} {es : List Expr} {t : TA} {S : Addr → V → Sp → Prop} (named : X.mg x = some (.ref g)) (kept : PySem.W.keepIn X.K (.ref g) = true)
    (hS : ∀ c w0 sp (base' : Heap), S c w0 sp → X.K.In base' → base'.Ns mainGlobals X.mg → BCells [(y, c)] [y] [some w0] base' → Cal X.prog X.w X.K X.mg base' k x sp []) (room : Room j X.A) (hk : k ≤ j) (hg : Gl X x) (ha : PA X (e :: es) t) (hdb : (x == ("__debug__" : Str)) = false := by decide)
    (he : starEach (e :: es) X.env = (false, eval e X.env) :: starEach es X.env := by rfl) (hpl : (backTo pos (starEach es X.env)).any (·.1) = false := by rfl) : PE X (.Call (.Name x p) (e :: es) [] pos) (tUpE S t) := by
  constructor
  intro pins s σ H Q I want
  refine wpAny_Call_Name_kw (ld_glob I hg named ?_ hdb)
  refine PySem.W.callWith_K (h₀ := X.base) I.ok.mod.kin kept (thn (ha.run pos pins s σ H _ I want) ?_) he hpl
  rintro us s1 ⟨vs, H1, I1, rel, c, w0, sp, ec, s0, q⟩
  refine ⟨I1.kIn, ?_⟩
  obtain ⟨u0, ru, hcell⟩ := cellO_at I1.hok ec
  have e0 := I1.env0
  have nfr : ∀ b ∈ frs X.stack, b ≠ c := fun b hb z => by
    have := e0.frf b hb
    rw [z, ec] at this; cases this
  have kk : ∀ b o, X.base.get? b = some o → (upB s1.heap X.base [c]).get? b = some o := fun b o e => upB_get (e0.bs b o e).1 (.inl (by rw [e]; rfl))
  obtain ⟨mb, b1, b2⟩ := e0.mod.blt
  have hdel : ∀ b, H1 b = none → delH H1 c b = none := fun b n => by
    by_cases z : b = c
    · rw [z]; exact delH_same
    · rw [delH_ne z]; exact n
  have hok2 : HOk X.prog X.w (delH H1 c) s1.heap := fun b u eb => by
    by_cases z : b = c
    · rw [z, delH_same] at eb; cases eb
    · rw [delH_ne z] at eb
      refine (I1.hok b u eb).stay (fun _ _ _ q => q) (fun d q => ?_) fun d xs q => ?_
      · rw [delH_ne (fun z => by rw [z, ec] at q; exact cellO_own (Option.some.inj q))]; exact q
      · rw [delH_ne (fun z => by rw [z, ec] at q; exact cellO_tup (Option.some.inj q))]; exact q
  have E1 : Env0 X.prog X.w X.K X.mg (upB s1.heap X.base [c]) X.A X.stack s1 (delH H1 c) := by
    refine ⟨e0.frames, ⟨fun b o e => kk b o (e0.mod.kin b o e), e0.mod.glob.keeps kk, ⟨mb, b1.keeps kk, b2⟩, e0.mod.nolimit.keeps kk⟩, fun b o e => ?_, Nat.le_of_eq (hidT_size _ _), funs_up e0.funs fun L hL hm => nfr L hL (List.mem_singleton.mp hm), fun b hb => hdel b (e0.frf b hb), hok2, e0.bare⟩
    obtain ⟨e1, n⟩ := of_upB e
    refine ⟨e1, ?_⟩
    rcases n with n | n
    · obtain ⟨o', q⟩ := Option.isSome_iff_exists.mp n
      exact hdel b (e0.bs b o' q).2
    · rw [List.mem_singleton.mp n]; exact delH_same
  have hcB : (upB s1.heap X.base [c]).IsCell c (some u0) := let ⟨o, h1, h2⟩ := hcell; ⟨o, upB_get h1 (.inr (List.mem_singleton.mpr rfl)), h2⟩
  have BC : BCells [(y, c)] [y] [some w0] (upB s1.heap X.base [c]) := by
    refine ⟨rfl, fun z c' e => ?_, fun a b c' h1 h2 => ?_, fun i z e => ?_⟩
    · have : c' = c := by
        by_cases hz : z = y
        · subst hz; rw [List.lookup_cons_self] at e; exact (Option.some.inj e).symm
        · rw [List.lookup_cons, beq_eq_false_iff_ne.mpr hz] at e; cases e
      subst this; exact ⟨_, hcB⟩
    · have one : ∀ z, [(y, c)].lookup z = some c' → z = y := fun z e => by
        by_cases hz : z = y
        · exact hz
        · rw [List.lookup_cons, beq_eq_false_iff_ne.mpr hz] at e; cases e
      rw [one a h1, one b h2]
    · cases i with
      | succ i => cases e
      | zero =>
        cases e
        exact ⟨c, List.lookup_cons_self .., fun v hv => by cases hv; exact ⟨u0, ru, hcB⟩⟩
  obtain ⟨f, fd, ps, ds, F, named', _, bd, dv⟩ := (hS c w0 sp _ s0 E1.mod.kin E1.mod.glob BC).ex
  rw [named] at named'
  cases named'
  cases dv
  have count : (us ++ []).length = ps.length := by rw [List.append_nil, ← rel.length]; exact F.len _ _ _ _ q
  have bs := bd s1 us I1.kIn count
  rw [List.append_nil] at bs
  refine wpAny_call (codeAny_mono (F.run X.A X.stack s1 (delH H1 c) ⟨us, []⟩ us vs (fun v H2 => H2 c = none → Q v (upd H2 c (CellO c w0))) C8.E0 (room.mono hk) E1 bs rel q) fun r t' got => ?_)
  match r, got with
  | .ok (.ret u), got =>
    obtain ⟨v, H', os, bare, un, hok, rv, qq⟩ := got
    obtain ⟨oc, hoc, hdc⟩ := hcell
    have hH' : H' c = none := un.free c oc hoc delH_same (fun z => nomatch z)
    have nc : c ∉ frs X.stack := fun z => nfr c z rfl
    have hc2 : t'.heap.IsCell c (some u0) := ⟨oc, un.keep c oc hoc delH_same nc (fun z => nomatch z), hdc⟩
    have nec : ∀ b, H1 b = none → b ≠ c := fun b n z => by rw [z, ec] at n; cases n
    refine I1.after ⟨v, upd H' c (CellO c w0), os, bare, ⟨fun b o h n => un.keep b o h (hdel b n), fun b o h n => un.slot b o h (hdel b n), fun b o h n hx => ?_, un.there, fun b xs h => ?_, fun b o u h => ?_, fun b ps h => ?_⟩, hok.laidN (fun _ _ q => q) hH' (cellO_ok ru hc2), rv, qq hH'⟩
    · rw [upd_ne (nec b n)]; exact un.free b o h (hdel b n) hx
    · have hb : b ≠ c := fun z => by rw [z, ec] at h; exact cellO_tup (Option.some.inj h)
      rw [upd_ne hb]; exact un.tups b xs (by rw [delH_ne hb]; exact h)
    · have hb : b ≠ c := fun z => by rw [z, ec] at h; exact cellO_frz (Option.some.inj h)
      rw [upd_ne hb]; exact un.frzs b o u (by rw [delH_ne hb]; exact h)
    · have hb : b ≠ c := fun z => by rw [z, ec] at h; exact cellO_tbl (Option.some.inj h)
      obtain ⟨more, e⟩ := un.tbls b ps (by rw [delH_ne hb]; exact h)
      exact ⟨more, by rw [upd_ne hb]; exact e⟩
end LX
set_option maxHeartbeats 2000000
namespace LX
open PySem PySem.Spec PyProof.Rows L2 C8 SX NdefX
theorem cellsFrom_app : ∀ (names : List (Str × NameKind)) (n : Nat) (acc : List (Str × Addr)), cellsFrom n names acc = cellsFrom n names [] ++ acc
  | [], _, _ => rfl
  | (name, kind) :: r, n, acc => by
    unfold cellsFrom
    split
    · rw [cellsFrom_app r (n + 1) ((name, n) :: acc), cellsFrom_app r (n + 1) [(name, n)], List.append_assoc]; rfl
    · exact cellsFrom_app r n acc
theorem cellsFrom_kind : ∀ {names : List (Str × NameKind)} {n : Nat} {y : Str} {c : Addr}, (y, c) ∈ cellsFrom n names [] → (y, NameKind.cell) ∈ names
  | [], _, _, _, h => by cases h
  | (name, kind) :: r, n, y, c, h => by
    unfold cellsFrom at h
    split at h
    · rename_i hk
      rw [cellsFrom_app] at h
      rcases List.mem_append.mp h with q | q
      · exact List.mem_cons_of_mem _ (cellsFrom_kind q)
      · cases List.mem_singleton.mp q
        rw [show kind = NameKind.cell from by cases kind <;> first | rfl | cases hk]
        exact List.mem_cons_self
    · exact List.mem_cons_of_mem _ (cellsFrom_kind h)
section
variable {M : Model} {A : Around} {E : Value → Shared → Prop} {s₀ s : Shared} {m cm : Str → Option Value} {env : Env} {own : List (Str × Addr)}
theorem stLF {n : Str} {v : Value} {Q : Unit → Shared → Prop} (x : InCallC s₀ env.locals m own cm s) (hk : env.scope.kind = .function) (hl : env.kindOf n = some .local)
    (h : ∀ s', InCallC s₀ env.locals (fun y => if y = n then some v else m y) own cm s' → Q () s') : wpAny M A (storeName env n v) Q E s := by
  refine wpAny_storeName_local hl x.toInCall.ns (fun h' hn' hs' => h _ ⟨⟨?_, hn', fun b o e => ?_, x.toInCall.fresh⟩, fun k c hc => ?_, x.apart, x.above⟩) (by rw [hk]; rfl)
  · obtain ⟨h₁, tk, rfl⟩ := x.toInCall.same
    exact ⟨h', _, rfl⟩
  · exact hs'.extBut b o (Nat.ne_of_lt (Nat.lt_of_lt_of_le (Heap.lt_size e) x.toInCall.fresh)) (x.toInCall.keep b o e)
  · exact (x.cell k c hc).sameBut hs' (Nat.ne_of_gt (x.above k c (PySem.mem_of_lookup hc)))
theorem stCF {n : Str} {c : Addr} {v : Value} {Q : Unit → Shared → Prop} (x : InCallC s₀ env.locals m own cm s) (hk : env.scope.kind = .function) (hl : env.kindOf n = some .cell) (ho : own.lookup n = some c) (hc : env.cells.lookup n = some c)
    (h : ∀ s', InCallC s₀ env.locals m own (fun y => if y = n then some v else cm y) s' → Q () s') : wpAny M A (storeName env n v) Q E s := by
  have hLc := x.above n c (PySem.mem_of_lookup ho)
  refine wpAny_storeName_cell hk hl hc (x.cell n c ho) fun h' hc' hs' => h _ ⟨⟨?_, x.toInCall.ns.sameBut hs' (Nat.ne_of_lt hLc), fun b o e => ?_, x.toInCall.fresh⟩, fun k c' hk' => ?_, x.apart, x.above⟩
  · obtain ⟨h₁, tk, rfl⟩ := x.toInCall.same
    exact ⟨h', _, rfl⟩
  · exact hs'.extBut b o (Nat.ne_of_lt (Nat.lt_trans (Nat.lt_of_lt_of_le (Heap.lt_size e) x.toInCall.fresh) hLc)) (x.toInCall.keep b o e)
  · by_cases hkn : k = n
    · subst hkn
      rw [ho] at hk'; cases hk'
      simpa using hc'
    · rw [if_neg hkn]
      exact (x.cell k c' hk').sameBut hs' fun e => hkn (name_of_addr x.apart (PySem.mem_of_lookup hk') (e ▸ PySem.mem_of_lookup ho))
theorem bindParamsF (f : Str × Value → PUnit → Sem (ForInStep PUnit)) (hf : ∀ n v u, f (n, v) u = (do storeName env n v; pure (.yield ⟨⟩))) (hk : env.scope.kind = .function) (hown : ∀ n c, own.lookup n = some c → env.cells.lookup n = some c) :
    ∀ (binds : List (Str × Value)) (m cm : Str → Option Value) (s : Shared) (Q : PUnit → Shared → Prop), InCallC s₀ env.locals m own cm s →
      (∀ x ∈ binds, env.kindOf x.1 = some .local ∨ (env.kindOf x.1 = some .cell ∧ (own.lookup x.1).isSome = true)) →
      (∀ s', InCallC s₀ env.locals (bindL env.kindOf binds m) own (bindC env.kindOf binds cm) s' → Q ⟨⟩ s') → wpAny M A (forIn binds ⟨⟩ f) Q E s
  | [], m, cm, s, Q, x, _, h => by rw [List.forIn_nil]; exact wpAny_pure (h s x)
  | (n, v) :: r, m, cm, s, Q, x, hkind, h => by
    rw [List.forIn_cons, hf]
    have hr : ∀ y ∈ r, env.kindOf y.1 = some .local ∨ (env.kindOf y.1 = some .cell ∧ (own.lookup y.1).isSome = true) := fun y hy => hkind y (List.mem_cons_of_mem _ hy)
    rcases hkind (n, v) List.mem_cons_self with hl | ⟨hl, hc⟩
    · refine wpAny_bind (wpAny_bind (stLF x hk hl fun s' x' => wpAny_pure (bindParamsF f hf hk hown r _ _ s' Q x' hr fun s'' x'' => h s'' ?_)))
      unfold bindL bindC; rw [if_pos hl, if_pos hl]; exact x''
    · obtain ⟨c, hc⟩ := Option.isSome_iff_exists.mp hc
      have hnl : ¬ env.kindOf n = some .local := by rw [hl]; decide
      refine wpAny_bind (wpAny_bind (stCF x hk hl hc (hown n c hc) fun s' x' => wpAny_pure (bindParamsF f hf hk hown r _ _ s' Q x' hr fun s'' x'' => h s'' ?_)))
      unfold bindL bindC; rw [if_neg hnl, if_neg hnl]; exact x''
end
section
variable {M : Model} {A : Around} {E : Value → Shared → Prop} {s : Shared}
theorem lookup_app {l r : List (Str × Addr)} {n : Str} {c : Addr} (h : l.lookup n = some c) : (l ++ r).lookup n = some c := by rw [List.lookup_append, h]; rfl
theorem newFunctionEnvF {scope : Scope} {globals : Addr} {cl : List (Str × Addr)} {binds : List (Str × Value)} {qual : Str} {func : Option Addr} {code : Value} {builtins : Addr} {Q : Env → Shared → Prop}
    (hk : scope.kind = .function)
    (hkind : ∀ x ∈ binds, scope.names.lookup x.1 = some .local ∨ (scope.names.lookup x.1 = some .cell ∧ ((cellsFrom (s.heap.objs.size + 1) scope.names []).lookup x.1).isSome = true))
    (hQ : ∀ env, env = newEnv scope s.heap.objs.size globals (cellsFrom (s.heap.objs.size + 1) scope.names [] ++ cl) qual func code none builtins →
      ∀ s', InCallC s env.locals (bindL env.kindOf binds fun _ => none) (cellsFrom (s.heap.objs.size + 1) scope.names []) (bindC env.kindOf binds fun _ => none) s' → Q env s') :
    wpAny M A (newFunctionEnv scope globals cl binds qual func code none builtins) Q E s := by
  simp only [newFunctionEnv, Option.isSome_none, Bool.false_eq_true, if_false]
  refine wpAny_bind (wpAny_alloc ?_)
  refine wpAny_bind (wpAny_layCells _ (fun name kind cells => by cases hkc : kind == NameKind.cell <;> simp [hkc]) _ _ _ _ ?_)
  have ok := cellsFrom_ok scope.names (s.heap.push { cls := .type "frame", data := .dict #[] }) (s.heap.objs.size + 1) [] ⟨fun _ _ hm => (nomatch hm), List.Pairwise.nil⟩ (by rw [Heap.size_push]; exact Nat.le_refl _)
  rw [Heap.size_push] at ok
  rw [show ({ s with heap := s.heap.push { cls := .type "frame", data := .dict #[] } } : Shared).heap.objs.size = s.heap.objs.size + 1 from Heap.size_push ..]
  rw [cellsFrom_app]
  refine wpAny_bind (bindParamsF (s₀ := s) (own := cellsFrom (s.heap.objs.size + 1) scope.names []) (env := newEnv scope s.heap.objs.size globals (cellsFrom (s.heap.objs.size + 1) scope.names [] ++ cl) qual func code none builtins)
    _ (fun _ _ _ => rfl) hk (fun n c h => lookup_app h) binds (fun _ => none) (fun _ => none) _ _
    ⟨⟨⟨_, _, rfl⟩, (Heap.Ns.new s.heap (.type "frame")).keeps (pushCells_keeps _ _), fun b o e => pushCells_keeps _ _ b o (Heap.get?_push_of_some _ e), Nat.le_refl _⟩,
      fun n c hc => (ok.empty n c (PySem.mem_of_lookup hc)).1, ok.apart, fun n c hm => (ok.empty n c hm).2⟩
    hkind fun s' x => wpAny_pure (hQ _ rfl s' x))
end
structure NScopeC (N ps fr : List Str) (sc : Scope) : Prop where
  kind : sc.kind = .function
  co : sc.isCoroutine = false
  gen : sc.isGenerator = false
  nd : N.Nodup
  pre : N.take (ps.length + fr.length) = ps ++ fr
  par : ∀ x ∈ ps, sc.names.lookup x = some .local ∨ sc.names.lookup x = some .cell
  free : ∀ y ∈ sc.names, y.2 = .free → y.1 ∈ fr
  frk : ∀ x ∈ fr, sc.names.lookup x = some .free
  frc : ∀ x ∈ fr, ∀ y ∈ sc.names, y.2 = .cell → y.1 ≠ x
def nscCB (N ps fr : List Str) (sc : Scope) : Bool :=
  decide (sc.kind = .function) && !sc.isCoroutine && !sc.isGenerator && decide N.Nodup && decide (N.take (ps.length + fr.length) = ps ++ fr) && ps.all (fun x => decide (sc.names.lookup x = some .local) || decide (sc.names.lookup x = some .cell)) && sc.names.all (fun y => !decide (y.2 = .free) || decide (y.1 ∈ fr)) && fr.all (fun x => decide (sc.names.lookup x = some .free)) && fr.all (fun x => sc.names.all fun y => !decide (y.2 = .cell) || !decide (y.1 = x))
theorem nscopeC_by {N ps fr : List Str} {sc : Scope} (h : nscCB N ps fr sc = true) : NScopeC N ps fr sc := by
  unfold nscCB at h
  simp only [Bool.and_eq_true, Bool.not_eq_true', decide_eq_true_eq, List.all_eq_true, Bool.or_eq_true, decide_eq_false_iff_not] at h
  obtain ⟨⟨⟨⟨⟨⟨⟨⟨h1, h2⟩, h3⟩, h4⟩, h5⟩, h6⟩, h8⟩, h9⟩, h10⟩ := h
  exact ⟨h1, h2, h3, h4, h5, h6, fun y hy e => (h8 y hy).elim (fun z => absurd e z) id, h9, fun x hx y hy e => (h10 x hx y hy).elim (fun z => absurd e z) id⟩
abbrev ownF (F : NF) (L : Addr) : List (Str × Addr) := cellsFrom (L + 1) F.scope.names []
abbrev envFC (F : NF) (f L : Addr) : Env := PySem.W.envX F.qual F.scope L f (.ref F.c) (ownF F L ++ F.cl)
def ncxC (CX : CXT) (P : Program) (w : World) (K : PySem.W.Frag) (mg : Str → Option Value) (base : Heap) (N : List Str) (F : NF) (f : Addr) (A : Around) (outer : List Env) (s : Shared) (H : Hp) (E : XK) : Cx where
  prog := P
  w := w
  K := K
  mg := mg
  base := base
  A := A.deeper (envFC F f s.heap.objs.size)
  N := N
  s_0 := s
  H_0 := H
  env := envFC F f s.heap.objs.size
  outer := outer
  stack := envFC F f s.heap.objs.size :: outer
  ex := []
  calm := true
  fn := fun y => decide (F.scope.names.lookup y = some .cell)
  pn := []
  xe := fun e s' => wpAny (model P w) (A.deeper (envFC F f s.heap.objs.size)) (leaving (envFC F f s.heap.objs.size) e) (fun _ s'' => CX outer H s E e s'') (fun e' s'' => CX outer H s E e' s'') s'
section
variable {CX : CXT} {P : Program} {w : World} {K : PySem.W.Frag} {mg : Str → Option Value} {base : Heap} {N ps fr : List Str} {F : NF} {f : Addr} {A : Around} {outer : List Env} {s s1 : Shared} {H : Hp} {E : XK} {us : List Value} {vs : List V} {ws : List (Option V)}
theorem own_none (S : NScopeC N ps fr F.scope) {y : Str} (h : y ∈ fr) {L : Addr} : (ownF F L).lookup y = none := by
  cases e : (ownF F L).lookup y with
  | none => rfl
  | some c => exact absurd rfl (S.frc y h _ (cellsFrom_kind (PySem.mem_of_lookup e)) rfl)
theorem inv_startNC (S : NScopeC N ps fr F.scope) (hd : A.handled = none) (e0 : Env0 P w K mg base A outer s H) (hl : vs.length = ps.length) (r : Vals vs us) (C : CellsAt F.cl fr ws s.heap H)
    (x : InCallC s s.heap.objs.size (bindL (envFC F f s.heap.objs.size).kindOf (ps.zip us) fun _ => none) (ownF F s.heap.objs.size) (bindC (envFC F f s.heap.objs.size).kindOf (ps.zip us) fun _ => none) s1) :
    Inv (ncxC CX P w K mg base N F f A outer s H E) [] (startF N vs ws) H s1 := by
  have hpl : ps.length + fr.length ≤ N.length := by
    have q := congrArg List.length S.pre
    rw [List.length_take, List.length_append] at q
    omega
  obtain ⟨h1, tk, rfl, hk⟩ := x.done
  have noA : ∀ b : Addr, b ∉ (ncxC CX P w K mg base N F f A outer s H E).ex := fun b z => absurd (show b ∈ ([] : List Addr) from z) (by simp)
  have cellK : ∀ {c : Addr} {v : Option Value}, s.heap.IsCell c v → h1.IsCell c v := fun {c v} ⟨o, ho, hd⟩ => ⟨o, hk _ _ ho, hd⟩
  have ownGe : ∀ {y c}, (ownF F s.heap.objs.size).lookup y = some c → s.heap.objs.size < c := fun h => x.above _ _ (PySem.mem_of_lookup h)
  have clLt : ∀ {y c}, F.cl.lookup y = some c → c < s.heap.objs.size := fun h => let ⟨_, z⟩ := (C.all _ _ h).2; z.lt
  have look : ∀ {y c}, (ownF F s.heap.objs.size ++ F.cl).lookup y = some c → (ownF F s.heap.objs.size).lookup y = some c ∨ ((ownF F s.heap.objs.size).lookup y = none ∧ F.cl.lookup y = some c) := fun {y c} h => by
    rw [List.lookup_append] at h
    cases e : (ownF F s.heap.objs.size).lookup y with
    | some d => rw [e] at h; exact .inl h
    | none => rw [e] at h; exact .inr ⟨rfl, h⟩
  refine ⟨⟨e0.mod, S.kind, rfl, rfl, Nat.le_refl _, fun y z c h1 h2 => ?_, fun y hy => ?_, fun y c hf h => ?_, fun _ => hd, Around.frames_deeper e0.frames, .inr ⟨rfl, rfl⟩, fun b z => absurd z (noA b), e0.bs, e0.bsz, fun b _ _ => noA b, fun b z => absurd z (noA b), e0.funs, e0.frf⟩,
    rfl, e0.bare, Un.kept hk, ⟨_, x.toInCall.ns, fun i y v e1 e2 e3 => ?_⟩, fun y c h => ?_, e0.hok.fresh (Nat.le_refl _), fun y c h => ?_, fun p hp => absurd (show p ∈ ([] : List (Addr × Obj)) from hp) (by simp), e0.hok.kept hk, ?_⟩
  · rcases look h1 with a | ⟨_, a⟩ <;> rcases look h2 with b | ⟨_, b⟩
    · exact name_of_addr x.apart (PySem.mem_of_lookup a) (PySem.mem_of_lookup b)
    · exact absurd (Nat.lt_trans (ownGe a) (clLt b)) (Nat.lt_irrefl _)
    · exact absurd (Nat.lt_trans (ownGe b) (clLt a)) (Nat.lt_irrefl _)
    · exact C.inj _ _ _ a b
  · have hy : F.scope.names.lookup y = some .cell ∨ F.scope.names.lookup y = some .free := hy
    rcases hy with hy | hy
    · obtain ⟨c, e⟩ := cell_has (n := s.heap.objs.size + 1) hy
      exact ⟨c, lookup_app e⟩
    · have hm := S.free _ (PySem.mem_of_lookup hy) rfl
      obtain ⟨i, hi⟩ := List.mem_iff_getElem?.mp hm
      obtain ⟨c, hc, _⟩ := C.has i y hi
      exact ⟨c, by show (ownF F s.heap.objs.size ++ F.cl).lookup y = _; rw [List.lookup_append, own_none S hm]; exact hc⟩
  · have hf : F.scope.names.lookup y = some .cell := of_decide_eq_true hf
    obtain ⟨c', e⟩ := cell_has (n := s.heap.objs.size + 1) hf
    have h : (ownF F s.heap.objs.size ++ F.cl).lookup y = some c := h
    rw [lookup_app e] at h
    cases h
    exact Nat.le_of_lt (ownGe e)
  · have e1 : N[i]? = some y := e1
    have clen := C.len
    unfold startF at e2
    by_cases h1 : i < ps.length
    · have hq : (ps ++ fr)[i]? = some y := by
        rw [← S.pre, List.getElem?_take_of_lt (by omega)]
        exact e1
      rw [List.getElem?_append_left h1] at hq
      rw [List.getElem?_append_left (by rw [List.length_map]; omega), List.getElem?_map] at e2
      have ha : vs[i]? = some v := by
        cases e : vs[i]? with
        | none => rw [e] at e2; cases e2
        | some a => rw [e] at e2; cases e2; rfl
      obtain ⟨u, hu, rv⟩ := r.get ha
      have ndP : ps.Nodup := by
        have q := S.nd.sublist (List.take_sublist (ps.length + fr.length) N)
        rw [S.pre] at q
        exact (List.nodup_append.mp q).1
      refine ⟨u, rv, ?_⟩
      rcases S.par y (List.mem_of_getElem? hq) with k | k
      · exact .inl ⟨k, bindL_get ndP hq hu k⟩
      · obtain ⟨c, e⟩ := cell_has (n := s.heap.objs.size + 1) k
        refine .inr ⟨.inl k, c, lookup_app e, ?_⟩
        have q := x.cell y c e
        rw [bindC_get ndP hq hu (by show F.scope.names.lookup y ≠ _; rw [k]; decide)] at q
        exact q
    · rw [List.getElem?_append_right (by rw [List.length_map]; omega), List.length_map] at e2
      by_cases h2 : i < ps.length + fr.length
      · have hq : (ps ++ fr)[i]? = some y := by
          rw [← S.pre, List.getElem?_take_of_lt (by omega)]
          exact e1
        rw [List.getElem?_append_right (by omega)] at hq
        rw [List.getElem?_append_left (by omega), hl] at e2
        obtain ⟨c, hc, hv⟩ := C.has (i - ps.length) y hq
        obtain ⟨u, ru, hu⟩ := hv v e2
        have hm := List.mem_of_getElem? hq
        exact ⟨u, ru, .inr ⟨.inr (S.frk y hm), c, by show (ownF F s.heap.objs.size ++ F.cl).lookup y = _; rw [List.lookup_append, own_none S hm]; exact hc, cellK hu⟩⟩
      · rw [List.getElem?_append_right (by omega), List.getElem?_replicate] at e2
        split at e2 <;> cases e2
  · rcases look h with a | ⟨_, a⟩
    · exact ⟨_, x.cell y c a⟩
    · obtain ⟨v, z⟩ := (C.all y c a).2
      exact ⟨v, cellK z⟩
  · rcases look h with a | ⟨_, a⟩
    · exact e0.hok.fresh (Nat.le_of_lt (ownGe a))
    · exact (C.all y c a).1
  · have clen := C.len
    unfold startF
    show _ = N.length
    rw [List.length_append, List.length_append, List.length_map, List.length_replicate]
    omega
variable {k : Nat} {sp : List (Option V) → Sp}
theorem nok_ofC (S : NScopeC N ps fr F.scope) (hb : ∀ (doc pm ctv : Value) (us : List Value), us.length = ps.length → bindArgs (F.fd doc pm ctv) ⟨us, []⟩ = pure (ps.zip us)) (len : ∀ ws vs H Q E, sp ws vs H Q E → vs.length = ps.length)
    (hbody : ∀ (A : Around) (outer : List Env) (s : Shared) (H : Hp) (vs : List V) (ws : List (Option V)) (Q : VK) (E : XK), Room k (A.deeper (envFC F f s.heap.objs.size)) → H f = some (FnO f F) → H F.c = some (LamX.CodeO F.c F.qual) → ws.length = fr.length → sp ws vs H Q E →
      ∃ t, PSs (ncxC CX P w K mg base N F f A outer s H E) F.body t ∧ t { nx := fun _ H' => Q .non H', rt := Q } (startF N vs ws) H) :
    NOk P w K mg base CX (k + 1) f F ps fr sp := by
  refine ⟨len, fun A outer s H us vs ws Q E hr e0 hf hc C r hsp => ?_⟩
  have hl := len _ _ _ _ _ hsp
  have lim : s.heap.NoLimit := e0.mod.nolimit.keeps fun b o e => (e0.bs b o e).1
  obtain ⟨od, sl, doc, pm, ctv, ho⟩ := fnO_at e0.hok hf
  have hkind : ∀ y ∈ ps.zip us, F.scope.names.lookup y.1 = some .local ∨ (F.scope.names.lookup y.1 = some .cell ∧ ((cellsFrom (s.heap.objs.size + 1) F.scope.names []).lookup y.1).isSome = true) := fun ⟨n, v⟩ hy => by
    rcases S.par n (List.of_mem_zip hy).1 with q | q
    · exact .inl q
    · exact .inr ⟨q, PySem.W.cellsFrom_some _ _ _ (.inl q)⟩
  refine codeAny_call_function hr.depth ho rfl S.co S.gen rfl (codeO_at e0.hok hc) ?_
  rw [hb doc pm ctv us (by rw [← r.length]; exact hl)]
  refine wpAny_pure (newFunctionEnvF S.kind hkind fun env he s1 xx => ?_)
  subst he
  refine ⟨lim.keeps xx.toInCall.keep, codeAny_func ?_⟩
  obtain ⟨t, ht, hq⟩ := hbody A outer s H vs ws Q E (hr.deeper _) hf hc C.len hsp
  have I : Inv (ncxC CX P w K mg base N F f A outer s H E) [] (startF N vs ws) H s1 := inv_startNC S hr.hd e0 hl r C xx
  refine wpAny_mono (ht.run [] s1 (startF N vs ws) H _ I hq) (fun fl s' hs => ?_) fun e s' hs => hs
  have fin : ∀ {σ' : L2.St} {H' : Hp} {v : V} {u : Value}, Inv (ncxC CX P w K mg base N F f A outer s H E) [] σ' H' s' → L2.RelV v u → Q v H' → CE outer P w H s Q u s' :=
    fun {σ' H' v u} J rv q => ⟨v, H', J.os, J.bare, J.base, J.hok, rv, q⟩
  cases fl with
  | ret u =>
    obtain ⟨v, σ', H', J, rv, q⟩ := hs
    exact fin J rv q
  | next =>
    obtain ⟨σ', H', J, q⟩ := hs
    exact fin (v := V.non) (u := Value.none) J rfl q
  | brk =>
    obtain ⟨_, _, _, q⟩ := hs
    exact False.elim q
  | cont =>
    obtain ⟨_, _, _, q⟩ := hs
    exact False.elim q
end
end LX
set_option maxHeartbeats 4000000
namespace Toy
open PySem L2 C8 SX LX
theorem extN_same {H H' : Hp} (s : Same H H') : LamX.ExtN H H' := fun b o h _ => s b o h
def lefts (ps : Ps) : List K62.Tx := ps.map (·.1)
def BegK (kvs : List (Key × V)) (ls : List K62.Tx) : Prop := ∀ u : K62.Tx, (valV kvs (.inr (S u))).isSome = bgP ls u
theorem bg_len {ls : List K62.Tx} {u : K62.Tx} {n : Nat} (hl : ∀ l ∈ ls, l.length ≤ n) (h : u ∈ bgL ls) : u.length ≤ n := by
  have := (bgP_iff ls u).mp (decide_eq_true h)
  rcases this with rfl | ⟨l, h1, z, _, e⟩
  · exact Nat.zero_le _
  · have := hl l h1
    rw [e, List.length_append] at this
    omega
section
variable {P : Program} {w : World} {K : PySem.W.Frag} {mg : Str → Option Value} {base : Heap}
abbrev s_ptab : Stmt := top 25
abbrev n_ptab : List Str := ["rules", "lefts", "begins", "first", "end", "lead", "states", "_", "table", "pair", "state"]
theorem sc_ptab : FnScope n_ptab ["rules"] (fnScope s_ptab) := fnScope_by (by decide +kernel)
abbrev s_plead : Stmt := (fnBody s_ptab).getD 3 (.Pass ⟨0, 0, 0, 0⟩)
abbrev n_plead : List Str := ["state", "at", "rules", "lefts", "begins", "row", "left", "begin"]
abbrev fr_plead : List Str := ["rules", "lefts", "begins"]
theorem sc_plead : LX.NScopeC n_plead ["state", "at"] fr_plead (fnScope s_plead) := LX.nscopeC_by (by decide +kernel)
theorem nd_plead : NdefX.ndefB (fnScope s_ptab) (fnScope s_plead) fr_plead = true := by decide +kernel
def nspPL (K : PySem.W.Frag) (C : Addr) (sg : List Nat) (ps : Ps) : List (Option V) → Sp := fun ws vs H Q _ => ∃ (a la bd : Addr) (kvs : List (Key × V)) (k : OKey) (i : Nat), ws = [some (.ref a), some (.ref la), some (.ref bd)] ∧ vs = [kO k, .int (i : Nat)] ∧
  Rul K C H a sg ps ∧ H la = some (.lst (txs (lefts ps))) ∧ H bd = some (.dK kvs) ∧ BegK kvs (lefts ps) ∧ UP (lefts ps) k ∧ i < sg.length ∧ (∀ l ∈ lefts ps, l.length ≤ 40) ∧ ps.length ≤ 40 ∧ sg.length ≤ 3 ∧
  ∀ H', Same H H' → Q (kO (leadP (lefts ps) sg k i)) H'
theorem nok_plead {C : Addr} {sg : List Nat} {ps : Ps} (T : BT mg) (CH : CC K C) {g c' : Addr} {cl : List (Str × Addr)} : NdefX.NOk P w K mg base C8.CX0 1 g (NdefX.NF.of s_plead "lead" "_plain_table.<locals>.lead" cl c') ["state", "at"] fr_plead (nspPL K C sg ps) := by
  refine LX.nok_ofC sc_plead (fun _ _ _ us hl => match us, hl with | [_, _], _ => rfl) (fun ws vs H Q E h => ?_) (fun A outer s H vs ws Q E hr hf hc hl h => ?_)
  · obtain ⟨a, la, bd, kvs, k, i, _, rfl, _⟩ := h; rfl
  · obtain ⟨a, la, bd, kvs, st, i, rfl, rfl, hru, hla, hbd, hB, hU, hi, h40, hp40, h3, k⟩ := h
    obtain ⟨dx, r, ha, hdp⟩ := id hru
    refine ⟨_, (pss_cons (ps_if (pt_cmpR op_isN (pv 0) pe_non (nomark _)) 
        (pss_one (ps_ret pe_non)
        )
       pss_nil)
      (pss_cons (ps_set (i := 5) sc_plead.nd rfl (.inr rfl) (pe_op op_add_str (pv 0) (pe_ix ix_str (fldK K (pv 2) rfl) (pv 1) (fun _ _ => rfl))))
      (pss_cons (ps_if (pt_val (pe_callB (anyK K rfl) (by rfl) T.m_any PyProof.Rows.boot_any (pa_cons (pe_lc (own := [("left", 6)]) rfl sc_plead.nd (pi_list (pv 3)) (blkOk_by (N := n_plead) (sc := fnScope s_plead) (by decide +kernel)) (fun _ _ _ _ _ => (pg_name (i := 6) sc_plead.nd rfl (.inl rfl))) (fun _ _ _ _ _ => pts_nil) (fun _ _ _ _ _ => (pe_bmK K PySem.F.plainAttrs_str PySem.F.slot_str_endswith PySem.F.type_str_endswith mt_endswith (pv 5) (pa_cons (pv 6) pa_nil)))) pa_nil))) 
        (pss_one (ps_ret pe_non)
        )
       pss_nil)
      (pss_one (ps_ret (pe_ix (ixl K) (pe_lc (own := [("begin", 7)]) rfl sc_plead.nd (pi_range1 (by rfl) T.m_range (pa_cons (pe_op op_add (pe_callB call_len_str (by rfl) T.m_len PySem.boot_len (pa_cons (pv 5) pa_nil)) pe_int) pa_nil)) (blkOk_by (N := n_plead) (sc := fnScope s_plead) (by decide +kernel)) (fun _ _ _ _ _ => (pg_name (i := 7) sc_plead.nd rfl (.inl rfl))) (fun _ _ _ _ _ => pts_one (pt_cmp (pc_din (hu_of hr) (pe_slice sl_txt (pv 5) (po_some (pv 7)) po_none) (pv 4)))) (fun _ _ _ _ _ => (pe_slice sl_txt (pv 5) (po_some (pv 7)) po_none))) pe_int (fun _ _ => rfl)))
      )))), ?_⟩
    rcases hU with ⟨rfl, hne⟩ | ⟨u, hu, rfl⟩
    · exact ⟨_, rfl, rfl, true, rfl, iteB rfl (k H (Same.refl H))⟩
    · have hul := bg_len h40 hu
      obtain ⟨c, hc⟩ : ∃ c, sg[i]? = some c := ⟨_, List.getElem?_eq_getElem hi⟩
      have hcd : sg.getD i 0 = c := by rw [List.getD_eq_getElem?_getD, hc]; rfl
      refine ⟨_, rfl, rfl, false, rfl, iteN rfl ?_⟩
      refine ⟨_, rfl, _, rfl, a, C, dx, _, _, rfl, ha, CH.cl, CH.nS, ruF_signs _ _, _, rfl, S sg, (i : Nat), c, rfl, rfl, ?_, atI_nat (by simpa [S] using hc), ?_⟩
      · rw [S_len]; exact sz h3 (by decide)
      have hkr : kO (eo (some u)) = .str (S u) := rfl
      rw [hkr]
      refine ⟨_, _, rfl, rfl, by show (S u).length + 1 ≤ sizeLine; rw [S_len]; exact sz (m := 41) (by omega) (by decide), ?_⟩
      rw [show (S u ++ { cps := #[c] } : Str) = S (u ++ [c]) from S_cat u [c]]
      have hrl : (u ++ [c]).length ≤ 41 := by rw [List.length_append, List.length_singleton]; omega
      rw [show leadP (lefts ps) sg (eo (some u)) i = eo (K62.stepL (lefts ps) (bgP (lefts ps)) (some u) (sg.getD i 0)) from leadP_eo _ _ _ _, hcd] at k
      generalize hrow : u ++ [c] = row at hrl k ⊢
      have hlt : (txs (lefts ps)).length = (lefts ps).length := txs_len _
      have hlp : (lefts ps).length ≤ 40 := by unfold lefts; rw [List.length_map]; exact hp40
      refine ⟨_, rfl, la, rfl, ⟨_, SqL.of hla⟩, fun D hD => ?_⟩
      refine lc_keep keep_same (walk_list (K := K) (a := la) (xs := txs (lefts ps))) hD (by rw [hlt]; exact small1000 (by omega)) (fun j y => ∀ l, (lefts ps)[j]? = some l → y = .bl (decide (l <:+ row))) (fun H r => SqL.of (r _ _ hla)) (fun j x H2 H3 R hj r2 hy hR => ?_) (fun ys H2 hly hg w2 hDs => ?_)
      · obtain ⟨rfl, ex⟩ := hy
        obtain ⟨l, hl, rfl⟩ := txs_get ex
        refine ⟨rfl, _, rfl, rfl, _, rfl, _, _, rfl, rfl, ?_⟩
        rw [ends_suf]
        exact hR _ _ (Same.refl _) fun l' e => by rw [hl] at e; cases e; rfl
      · have ey : ys = ((lefts ps).map fun l => decide (l <:+ row)).map V.bl := by
          rw [List.map_map]
          refine list_map (by rw [hly, hlt]) fun j y l e1 e2 => ?_
          exact hg j y e1 l e2
        subst ey
        refine ⟨D, _, rfl, SqL.of hDs, _, rfl, ?_⟩
        rw [List.any_map, show (id ∘ fun l => decide (l <:+ row)) = fun l => decide (l <:+ row) from rfl]
        have est : K62.stepL (lefts ps) (bgP (lefts ps)) (some u) c = if ((lefts ps).any fun l => decide (l <:+ row)) = true then none else some (K62.lsuf (bgP (lefts ps)) row) := by rw [← hrow]; rfl
        rw [est] at k
        by_cases ha : ((lefts ps).any fun l => decide (l <:+ row)) = true
        · rw [if_pos ha] at k
          exact iteB ha (k H2 w2)
        · rw [if_neg ha] at k
          refine iteN (by simpa using ha) ?_
          have en : ((((S row).length : Nat) : Int) + 1).toNat = row.length + 1 := by rw [S_len]; omega
          have br : (S row).length ≤ sizeLine := by rw [S_len]; exact sz hrl (by decide)
          refine ⟨_, rfl, S row, rfl, br, _, _, rfl, rfl, _, rfl, by omega, by rw [S_len]; omega, fun D2 hD2 => ?_⟩
          refine lc_keepF keep_same (walk_range (lo := 0) (n := ((((S row).length : Nat) : Int) + 1).toNat)) hD2 (by rw [en]; exact small1000 (by omega)) (fun n => bgP (lefts ps) (row.drop n)) (fun j y H => y = .str (S (row.drop j))) (fun _ _ => trivial)
            (fun _ _ _ _ _ _ h => h) (fun _ _ _ _ _ _ _ h => h) (fun j x H4 H5 acc N R hj r hDa hy hR hN => ?_) (fun ys H4 hly hg w4 hDs2 => ?_)
          · obtain ⟨rfl, rfl⟩ := hy
            rw [en] at hj
            have hcut : Txt.slice (S row) (some (0 + (j : Int))) none = S (row.drop j) := by rw [Int.zero_add]; exact cutn_from row j
            have hbd4 := r _ _ (w2 _ _ hbd)
            have hB4 := hB (row.drop j)
            refine ⟨rfl, _, rfl, _, rfl, _, rfl, S row, rfl, br, _, rfl, bd, valV kvs (.inr (S (row.drop j))), rfl, .inl ⟨kvs, .inr (S (row.drop j)), .inl hbd4, by rw [hcut]; rfl, rfl⟩, _, rfl, ?_⟩
            rw [hB4]
            cases hb : bgP (lefts ps) (row.drop j) with
            | true =>
              rw [if_pos rfl]
              refine ⟨_, rfl, _, rfl, _, rfl, S row, rfl, br, ?_⟩
              rw [hcut]
              exact hR hb _ _ (Same.refl _) rfl
            | false =>
              rw [if_neg Bool.false_ne_true]
              exact hN hb _ (Same.refl _)
          · rw [en] at hg
            obtain ⟨n, h1, h2, h3'⟩ := lsuf_first (bgP_nil (lefts ps)) row
            have hlen := (List.getElem?_eq_some_iff.mp h1).1
            rw [en] at hly
            obtain ⟨y, hy⟩ : ∃ y, ys[0]? = some y := ⟨_, List.getElem?_eq_getElem (by omega)⟩
            obtain rfl := hg 0 n y h1 hy
            rw [h3'] at hy
            exact ⟨D2, _, 0, _, rfl, rfl, SqL.of hDs2, at_of rfl hy, k H4 (w2.trans w4)⟩
def trP (cl : List (Str × Addr)) (gl c' : Addr) (K : PySem.W.Frag) (C : Addr) (sg : List Nat) (ps : Ps) (a la bd : Addr) (kvs : List (Key × V)) (H : Hp) : Prop :=
  H gl = some (NdefX.FnO gl (NdefX.NF.of s_plead "lead" "_plain_table.<locals>.lead" cl c')) ∧ H c' = some (LamX.CodeO c' "_plain_table.<locals>.lead") ∧ Rul K C H a sg ps ∧ H la = some (.lst (txs (lefts ps))) ∧ H bd = some (.dK kvs)
theorem trP_same {cl : List (Str × Addr)} {gl c' C a la bd : Addr} {sg : List Nat} {ps : Ps} {kvs : List (Key × V)} {H H' : Hp} (s : Same H H') (h : trP cl gl c' K C sg ps a la bd kvs H) : trP cl gl c' K C sg ps a la bd kvs H' :=
  ⟨s _ _ h.1, s _ _ h.2.1, h.2.2.1.same s, s _ _ h.2.2.2.1, s _ _ h.2.2.2.2⟩
structure Few (sg : List Nat) (ps : Ps) : Prop where
  ne : ∀ p ∈ ps, p.1 ≠ []
  l40 : ∀ l ∈ lefts ps, l.length ≤ 40
  p12 : ps.length ≤ 12
  m3 : sg.length ≤ 3
theorem bgL_len {ls : List K62.Tx} {n : Nat} (h : ∀ l ∈ ls, l.length ≤ n) : (bgL ls).length ≤ 1 + ls.length * n := by
  unfold bgL
  rw [List.length_cons]
  have : (ls.flatMap fun l => (List.range' 1 (l.length - 1)).map fun e => l.take e).length ≤ ls.length * n := by
    induction ls with
    | nil => simp
    | cons l ls ih =>
      rw [List.flatMap_cons, List.length_append, List.length_map, List.length_range', List.length_cons, Nat.add_mul]
      have := ih fun l hl => h l (List.mem_cons_of_mem _ hl)
      have := h l List.mem_cons_self
      omega
  omega
theorem few_len {sg : List Nat} {ps : Ps} (h : Few sg ps) : ∀ l : List OKey, l.Nodup → (∀ x ∈ l, UP (lefts ps) x) → l.length ≤ 900 := fun l nd hl => by
  have h1 := UP_len (ls := lefts ps) (B := bgL (lefts ps)) (fun _ h => h) l nd hl
  have h2 := bgL_len h.l40
  have h3 : dead (lefts ps) ≤ 1 := by unfold dead; split <;> omega
  have h4 : (lefts ps).length = ps.length := by unfold lefts; rw [List.length_map]
  have := h.p12
  omega
def SxP (K : PySem.W.Frag) (C : Addr) (cl : List (Str × Addr)) (ws : List (Option V)) (sp : Sp) : Prop := ∃ (sg : List Nat) (ps : Ps) (gl c' a la bd : Addr) (kvs : List (Key × V)), Few sg ps ∧ BegK kvs (lefts ps) ∧ ws = [some (.ref a), some (.ref la), some (.ref bd)] ∧
  sp = spWt gl (trP cl gl c' K C sg ps a la bd kvs) (UP (lefts ps)) (leadP (lefts ps) sg) sg
theorem up_plain {C : Addr} (T : BT mg) (CH : CC K C) {gw : Addr} {fw : FuncData} (F_wt : Def K mg "walked_table" s_wt gw fw) (b_wt : Binds K fw ["signs", "begin", "lead"] []) (cl : List (Str × Addr)) (ws : List (Option V)) (sp : Sp) (base' : Heap) (h : SxP K C cl ws sp) (_ : K.In base') (_ : base'.Ns mainGlobals mg) (B : BCells cl fr_plead ws base') : Cal P w K mg base' 2 "walked_table" sp [] := by
  obtain ⟨sg, ps, gl, c', a, la, bd, kvs, hf, hB, rfl, rfl⟩ := h
  refine ok_wt (Nat.le_refl _) (few_len hf) hf.m3 (fun t i h _ => leadP_U h) (fun _ _ s h => trP_same s h) T (.inr ⟨_, _, _, _, _, nok_plead (sg := sg) (ps := ps) T CH (c' := c') (cl := cl), fun vs H Q htr q => ?_, B, fun H htr => ⟨htr.1, htr.2.1⟩⟩) F_wt b_wt
  obtain ⟨t, i, rfl, ht, hi, k⟩ := q
  exact ⟨a, la, bd, kvs, t, i, rfl, rfl, htr.2.2.1, htr.2.2.2.1, htr.2.2.2.2, hB, ht, hi, hf.l40, Nat.le_trans hf.p12 (by decide), hf.m3, k⟩
mutual
theorem dp_ext {H H' : Hp} (s : LamX.ExtN H H') : ∀ (d : PyData) (v : V), Dp K H v d → Dp K H' v d
  | .none, _, h => by cases h; exact .non
  | .bool b, _, h => by cases h; exact .bl b
  | .int i, _, h => by cases h; exact .int i
  | .str x, _, h => by cases h; exact .str x
  | .list ds, _, h => by
    cases h with
    | lst hs ha =>
      refine .lst ?_ (dpa_ext s ds _ ha)
      rcases hs with (h | ⟨o', h⟩) | h
      · exact .inl (.inl (s _ _ h (by intro _ z; cases z)))
      · exact .inl (.inr ⟨o', s _ _ h (by intro _ z; cases z)⟩)
      · exact .inr h
  | .tuple ds, _, h => by
    cases h with
    | tup hs ha =>
      refine .tup ?_ (dpa_ext s ds _ ha)
      rcases hs with (h | ⟨o', h⟩) | h
      · exact .inl (.inl (s _ _ h (by intro _ z; cases z)))
      · exact .inl (.inr ⟨o', s _ _ h (by intro _ z; cases z)⟩)
      · exact .inr h
  | .dict _, _, h => by cases h
theorem dpa_ext {H H' : Hp} (s : LamX.ExtN H H') : ∀ (ds : List PyData) (vs : List V), DpAll K H vs ds → DpAll K H' vs ds
  | [], _, h => by cases h; exact .nil
  | d :: ds, _, h => by
    cases h with
    | cons h1 h2 => exact .cons (dp_ext s d _ h1) (dpa_ext s ds _ h2)
end
theorem Rul.ext {C a : Addr} {H H' : Hp} {sg : List Nat} {ps : Ps} (h : Rul K C H a sg ps) (s : LamX.ExtN H H') : Rul K C H' a sg ps := let ⟨dx, r, h1, h2⟩ := h; ⟨dx, r, s _ _ h1 (by intro _ z; cases z), dp_ext s _ _ h2⟩
structure PTab (sg : List Nat) (ps : Ps) (pt pf : Addr) (N : Nat) (lc : Nat → Nat → Nat) (tas : List Addr) (fl : Nat → Bool) (H : Hp) : Prop where
  tab : TabN sg.length N lc pt tas H
  flg : H pf = some (.lst (flV fl N))
  pos : 0 < N
  few : ∀ B : List K62.Tx, (∀ u ∈ bgL (lefts ps), u ∈ B) → N ≤ dead (lefts ps) + B.length
  run : ∀ w : List Nat, Ov (List.range sg.length) w → fl (w.foldl lc 0) = decide (K60.movesL ps (w.map fun c => sg.getD c 0) = [])
theorem PTab.same {sg : List Nat} {ps : Ps} {pt pf : Addr} {N : Nat} {lc : Nat → Nat → Nat} {tas : List Addr} {fl : Nat → Bool} {H H' : Hp} (h : PTab sg ps pt pf N lc tas fl H) (s : Same H H') : PTab sg ps pt pf N lc tas fl H' := ⟨h.tab.same s, s _ _ h.flg, h.pos, h.few, h.run⟩
def spPtab (K : PySem.W.Frag) (C : Addr) (TT : List NdefX.NTab) : Sp := fun vs H Q _ => ∃ (a : Addr) (sg : List Nat) (ps : Ps), vs = [.ref a] ∧ Rul K C H a sg ps ∧ Few sg ps ∧ NdefX.TabsN TT H ∧
  ∀ (r pt pf : Addr) (N : Nat) (lc : Nat → Nat → Nat) (tas : List Addr) (fl : Nat → Bool) (H' : Hp), LamX.ExtN H H' → NdefX.TabsN TT H' → H' r = some (.tup [.ref pt, .ref pf]) → PTab sg ps pt pf N lc tas fl H' → Q (.ref r) H'
theorem run_UP {ls : List K62.Tx} {sg : List Nat} : ∀ (w : List Nat) {k : OKey}, UP ls k → UP ls (w.foldl (leadP ls sg) k)
  | [], _, h => h
  | c :: w, _, h => run_UP w (leadP_U h)
theorem pr_at {α β : Type} {F : α → β → Prop} : ∀ {as : List α} {bs : List β}, Paired F as bs → ∀ (j : Nat) a b, as[j]? = some a → bs[j]? = some b → F a b
  | _, _, .nil, j, a, b, h, _ => by simp at h
  | _, _, .cons h _, 0, a, b, e1, e2 => by cases e1; cases e2; exact h
  | _, _, .cons _ t, j + 1, a, b, e1, e2 => pr_at t j a b e1 e2
theorem bgP_more {ls : List K62.Tx} {l u : K62.Tx} : bgP (ls ++ [l]) u = (bgP ls u || decide (u ∈ (List.range' 1 (l.length - 1)).map fun e => l.take e)) := by
  unfold bgP bgL
  rw [List.flatMap_append, List.flatMap_singleton, ← List.cons_append]
  rw [Bool.eq_iff_iff, decide_eq_true_eq, Bool.or_eq_true, decide_eq_true_eq, decide_eq_true_eq, List.mem_append]
theorem ok_ptab {C : Addr} (T : BT mg) (CH : CC K C) {TT : List NdefX.NTab} {nm : Nat → Nat → Str} {cc PP : Addr} (TB : LamX.TabB base mg cc PP) (hm : (PP, nm) ∈ TT) (hnm : nm = fun _ _ => ("_plain_table.<locals>.lead" : Str)) (hu : ∀ p ∈ TT, p.1 = PP → p.2 = nm)
    {gw : Addr} {fw : FuncData} (F_wt : Def K mg "walked_table" s_wt gw fw) (up_wt : ∀ (cl : List (Str × Addr)) (ws : List (Option V)) (sp : Sp) (base' : Heap), SxP K C cl ws sp → K.In base' → base'.Ns mainGlobals mg → BCells cl fr_plead ws base' → Cal P w K mg base' 2 "walked_table" sp [])
    {f : Addr} {fd : FuncData} (F : Def K mg "_plain_table" s_ptab f fd) (hc : fd.code = .ref cc) (b : Binds K fd ["rules"] []) : Cal P w K mg base 3 "_plain_table" (spPtab K C TT) [] := by
  subst hnm
  refine calC F hc b .nil sc_ptab (fun vs H Q E h => ?_) (fun A outer s H vs Q E hr h => ?_)
  · obtain ⟨a, sg, ps, rfl, _⟩ := h; rfl
  · obtain ⟨a, sg, ps, rfl, hru, hfw, hT, k⟩ := h
    obtain ⟨dx, r, ha, hdp⟩ := id hru
    obtain ⟨xs, hq, hxl, hat⟩ := pairs_at hdp
    have h12 := hfw.p12
    have hlp : (lefts ps).length = ps.length := by unfold lefts; rw [List.length_map]
    refine ⟨_, (pss_cons (ps_set (i := 1) sc_ptab.nd rfl (.inr rfl) (pe_lc (own := [("pair", 9)]) rfl sc_ptab.nd (pi_tup (fldK K (pv 0) rfl)) (blkOk_by (N := n_ptab) (sc := fnScope s_ptab) (by decide +kernel)) (fun _ _ _ _ _ => (pg_name (i := 9) sc_ptab.nd rfl (.inl rfl))) (fun _ _ _ _ _ => pts_nil) (fun _ _ _ _ _ => (pe_ix (ixt K) (pv 9) pe_int (fun _ _ => rfl)))))
      (pss_cons (ps_set (i := 2) sc_ptab.nd rfl (.inr rfl) (pe_disp (pps_cons pe_str pe_bl pps_nil) rfl rfl (by decide) (by decide)))
      (pss_cons (ps_for PassesOwn.never rfl (pi_list (pv 1)) (pg_name (i := 3) sc_ptab.nd rfl (.inl rfl)) 
        (pss_one (ps_for PassesOwn.never rfl (pi_range2 (by rfl) T.m_range (pa_cons pe_int (pa_cons (pe_callB call_len_str (by rfl) T.m_len PySem.boot_len (pa_cons (pv 3) pa_nil)) pa_nil))) (pg_name (i := 4) sc_ptab.nd rfl (.inl rfl)) 
          (pss_one (ps_dput (hu_of hr) (pv 2) (pe_slice sl_txt (pv 3) po_none (po_some (pv 4))) pe_bl rfl)
          ))
        ))
      (pss_cons (NdefX.ps_ndefS (st := s_plead) (i := 5) rfl TB rfl hm rfl hu (NdefX.ndef_free nd_plead) rfl rfl rfl sc_ptab.nd rfl (.inl rfl) (.inl rfl))
      (pss_cons (ps_asg (pe_cUp (js := [0, 1, 2]) F_wt.mgf F_wt.kp (fun ok => NdefX.Caps.made (scope := fnScope s_plead) ok (NdefX.ndef_free nd_plead) (NdefX.ndef_fr nd_plead) rfl) (fun _ _ _ => rfl) (up_wt _) hr (Nat.le_refl _) (by rfl) (pa_cons (fldK K (pv 0) rfl) (pa_cons pe_str (pa_cons (pv 5) pa_nil))) (by first | decide | exact (by decide : (["rules", "lefts", "begins"] : List Str).Nodup))) (tupK K 3 (pgs_cons (pg_name (i := 6) sc_ptab.nd rfl (.inl rfl)) (pgs_cons (pg_name (i := 7) sc_ptab.nd rfl (.inl rfl)) (pgs_cons (pg_name (i := 8) sc_ptab.nd rfl (.inl rfl)) pgs_nil)))))
      (pss_one (ps_ret (pe_tup (pa_cons (pv 8) (pa_cons (pe_lc (own := [("state", 10)]) rfl sc_ptab.nd (pi_list (pv 6)) (blkOk_by (N := n_ptab) (sc := fnScope s_ptab) (by decide +kernel)) (fun _ _ _ _ _ => (pg_name (i := 10) sc_ptab.nd rfl (.inl rfl))) (fun _ _ _ _ _ => pts_nil) (fun _ _ _ _ _ => (pe_cmpR op_notN (pv 10) pe_non (nomark _)))) pa_nil))))
      )))))), ?_⟩
    refine ⟨_, rfl, a, C, dx, _, _, rfl, ha, CH.cl, CH.nP, ruF_pairs _ _, r, rfl, ⟨_, hq⟩, fun D hD => ?_⟩
    refine lc_keep keep_same (walk_tup (K := K) (a := r) (xs := xs)) hD (by rw [hxl]; exact small1000 (by omega)) (fun j y => ∀ p, ps[j]? = some p → y = .str (S p.1)) (fun H r => sm_seqT r hq) (fun j x H2 H3 R hj r2 hy hR => ?_) (fun ys H2 hly hg w2 hDs => ?_)
    · obtain ⟨rfl, ex⟩ := hy
      rw [hxl] at hj
      obtain ⟨q, eq, hqq⟩ := hat j hj
      rw [eq] at ex
      obtain rfl := Option.some.inj ex
      refine ⟨rfl, _, rfl, q, _, 0, _, rfl, rfl, sm_seqT r2 hqq, rfl, ?_⟩
      exact hR _ _ (Same.refl _) fun p e => by rw [List.getD_eq_getElem?_getD, e]; rfl
    · have ey : ys = txs (lefts ps) := by
        unfold txs lefts
        rw [List.map_map]
        refine list_map (by rw [hly, hxl]) fun j y p e1 e2 => ?_
        exact hg j y e1 p e2
      subst ey
      clear hg hly
      refine fun d hd => ⟨upd_same, [(Sum.inr (Str.ofString ""), .bl true)], rfl, (by show 1 ≤ 15; decide), ?_⟩
      have hd0 : H2 d = none := hd
      have em : mergeK [] [((Sum.inr (Str.ofString "") : Key), V.bl true)] = [(Sum.inr (S []), V.bl true)] := by rw [s_nil]; rfl
      rw [em]
      generalize hH3 : upd (upd H2 d (.dK [])) d (.dK [(Sum.inr (S []), V.bl true)]) = H3
      have s3 : Same H2 H3 := by rw [← hH3]; exact sm_put (sm_put (Same.refl H2) hd0) hd0
      have e3 : H3 d = some (.dK [(Sum.inr (S []), V.bl true)]) := by rw [← hH3, upd_same]
      have nD : D ≠ d := fun e => by rw [← e, hDs] at hd0; cases hd0
      clear hH3 em hd
      have hB0 : BegK [(Sum.inr (S []), V.bl true)] [] := fun u => by
        unfold bgP bgL
        by_cases hu : u = []
        · subst hu; rw [valV_pos rfl]; rfl
        · rw [valV_neg (fun e => hu (by simpa [S] using (Sum.inr.inj e).symm)), show valV ([] : List (Key × V)) (Sum.inr (S u)) = none from rfl]
          simp [hu]
      refine ⟨_, rfl, D, rfl, ⟨_, SqL.of (s3 _ _ hDs)⟩, ?_⟩
      refine for_it (walk_list (K := K) (a := D) (xs := txs (lefts ps))) (fun i σ H' => ∃ (s3 s4 : Option V) (kvs : List (Key × V)), σ = [some (.ref a), some (.ref D), some (.ref d), s3, s4, none, none, none, none, none, none] ∧ Same H2 H' ∧ H' d = some (.dK kvs) ∧ kvs.length ≤ 1 + i * 40 ∧ BegK kvs ((lefts ps).take i))
        ⟨_, _, _, rfl, s3, e3, by decide, by rw [List.take_zero]; exact hB0⟩ (fun _ _ _ _ h => by obtain ⟨_, _, _, _, h, _⟩ := h; exact SqL.of (h _ _ hDs)) ?_ ?_
      · rintro i x σ H4 H4' hi ⟨s3', s4', kvs, rfl, s4, e4, hkl, hB⟩ ⟨rfl, ex⟩
        rw [txs_len, hlp] at hi
        obtain ⟨l, hl, rfl⟩ := txs_get ex
        have hl40 := hfw.l40 l (List.mem_of_getElem? hl)
        have br : (S l).length ≤ sizeLine := by rw [S_len]; exact sz hl40 (by decide)
        refine ⟨_, rfl, S l, rfl, br, ?_⟩
        refine ⟨_, _, rfl, ⟨by omega, by omega, by rw [S_len]; omega, by rw [S_len]; omega⟩, ?_⟩
        have en : ((((S l).length : Nat) : Int) - 1).toNat = l.length - 1 := by rw [S_len]; omega
        refine for_it (walk_range (lo := 1) (n := ((((S l).length : Nat) : Int) - 1).toNat)) (fun e σ H' => ∃ (s4 : Option V) (kvs : List (Key × V)), σ = [some (.ref a), some (.ref D), some (.ref d), some (.str (S l)), s4, none, none, none, none, none, none] ∧ Same H2 H' ∧ H' d = some (.dK kvs) ∧ kvs.length ≤ 1 + i * 40 + e ∧ ∀ u : K62.Tx, (valV kvs (.inr (S u))).isSome = (bgP ((lefts ps).take i) u || decide (u ∈ (List.range' 1 e).map fun e => l.take e)))
          ⟨_, kvs, rfl, s4, e4, hkl, fun u => by rw [hB u]; simp⟩ (fun _ _ _ _ _ => trivial) ?_ ?_
        · clear hB hkl e4 kvs
          rintro e x σ H5 H5' he ⟨s4'', kvs, rfl, s5, e5, hkl, hB⟩ ⟨rfl, rfl⟩
          rw [en] at he
          have hcut : Txt.slice (S l) none (some (1 + (e : Int))) = S (l.take (1 + e)) := by rw [show (1 + (e : Int)) = ((1 + e : Nat) : Int) by omega]; exact cutn_to l _
          refine ⟨_, rfl, _, rfl, _, rfl, _, rfl, S l, rfl, br, ?_⟩
          rw [hcut]
          refine ⟨d, _, rfl, DPut.k (k := Sum.inr (S (l.take (1 + e)))) e5 (Nat.lt_of_le_of_lt (show kvs.length ≤ 900 by omega) (by decide)), ?_⟩
          refine ⟨_, _, rfl, sm_put s5 ?_, upd_same, Nat.le_trans (length_putK _ _ _) (by omega), fun u => ?_⟩
          · cases q : H2 d with
            | none => rfl
            | some o => exact absurd hd0 (by rw [q]; intro z; cases z)
          · rw [valV_put, List.range'_concat, List.map_append]
            have hI : (Sum.inr (S u) : Key) = Sum.inr (S (l.take (1 + e))) ↔ u = l.take (1 + e) := ⟨fun z => by simpa [S] using Sum.inr.inj z, fun z => by rw [z]⟩
            by_cases hu : u = l.take (1 + e)
            · rw [if_pos (hI.mpr hu)]
              symm
              show _ = true
              rw [Bool.or_eq_true, decide_eq_true_eq, List.mem_append]
              exact .inr (.inr (by rw [hu, Nat.one_mul]; exact List.mem_cons_self))
            · rw [if_neg (fun z => hu (hI.mp z)), hB u]
              congr 1
              rw [decide_eq_decide, List.mem_append]
              exact ⟨.inl, fun z => z.elim id fun z => absurd (by rw [Nat.one_mul] at z; exact List.mem_singleton.mp z) hu⟩
        · clear hB hkl e4 kvs
          rintro σ H5 ⟨s4'', kvs, rfl, s5, e5, hkl, hB⟩
          rw [en] at hkl hB
          refine ⟨_, _, _, rfl, s5, e5, by rw [Nat.add_mul]; omega, fun u => ?_⟩
          rw [take_more hl, bgP_more]
          exact hB u
      · rintro σ H4 ⟨s3', s4', kvs, rfl, s4, e4, hkl, hB⟩
        rw [txs_len, List.take_length] at hB
        have wA := w2.trans (s4)
        refine ⟨hT.ext wA, fun g c' H5 e5 hT5 n5 hg hc' => ?_⟩
        have hru5 := (hru.same wA).ext e5
        have hla5 : H5 D = some (.lst (txs (lefts ps))) := e5 _ _ (s4 _ _ hDs) (by intro _ z; cases z)
        have hbd5 : H5 d = some (.dK kvs) := e5 _ _ e4 (by intro _ z; cases z)
        obtain ⟨dx5, r5, ha5, _⟩ := id hru5
        refine ⟨_, rfl, a, C, dx5, _, _, rfl, ha5, CH.cl, CH.nS, ruF_signs _ _, ?_⟩
        refine ⟨_, rfl, _, ⟨sg, ps, g, c', a, D, d, kvs, hfw, hB, rfl, rfl⟩, eo (some []), by rw [s_nil]; rfl, .inr ⟨[], List.mem_cons_self, rfl⟩, ⟨hg, hc', hru5, hla5, hbd5⟩, fun t pt pr tb tas L H6 s6 ht hpt hpr htb hrow hst => ?_⟩
        refine ⟨t, _, rfl, SqT.of ht, rfl, _, _, rfl, _, _, rfl, _, _, rfl, rfl, ?_⟩
        refine ⟨_, rfl, _, rfl, pt, rfl, ⟨_, SqL.of hpt⟩, fun D2 hD2 => ?_⟩
        have hUP : ∀ x ∈ ths L, UP (lefts ps) x := fun x hx => by
          obtain ⟨p, hp, rfl⟩ := List.mem_map.mp hx
          obtain ⟨j, hj⟩ := List.getElem?_of_mem hp
          obtain ⟨e, _⟩ := hst.row j p hj
          rw [← e]
          exact run_UP p.2 (.inr ⟨[], List.mem_cons_self, rfl⟩)
        have hLN : L.length ≤ 900 := by
          have := few_len hfw (ths L) hst.nd hUP
          rw [ths_len] at this; exact this
        have hkl6 : ((ths L).map kO).length = L.length := by rw [List.length_map, ths_len]
        refine lc_keep keep_same (walk_list (K := K) (a := pt) (xs := (ths L).map kO)) hD2 (by rw [hkl6]; exact small1000 (by omega)) (fun j y => y = .bl (flP L j)) (fun H r => SqL.of (r _ _ hpt)) (fun j x H7 H8 R hj r7 hy hR => ?_) (fun ys H7 hly hg7 w7 hDs7 => ?_)
        · obtain ⟨rfl, ex⟩ := hy
          rw [hkl6] at hj
          have hx : (ths L)[j]? = some ((ths L).getD j none) := by rw [List.getD_eq_getElem?_getD, List.getElem?_eq_getElem (by rw [ths_len]; exact hj)]; rfl
          rw [List.getElem?_map, hx] at ex
          obtain rfl := Option.some.inj ex
          refine ⟨rfl, _, rfl, rfl, ?_⟩
          refine hR _ _ (Same.refl _) ?_
          unfold flP
          cases (ths L).getD j none with
          | none => rfl
          | some kk => cases kk <;> rfl
        · rw [hkl6] at hly
          have ey : ys = flV (flP L) L.length := list_of hly hg7
          subst ey
          refine ⟨by show 2 ≤ sizeLine; decide, fun q hq => ?_⟩
          have w8 := sm_new (o := .tup [.ref tb, .ref D2]) hq
          have wB := s6.trans (w7.trans w8)
          refine k q tb D2 L.length (lcP (leadP (lefts ps) sg) L) tas (flP L) _ ((((extN_same wA).trans e5)).trans (extN_same wB)) (hT5.ext wB) upd_same ?_
          refine ⟨⟨hLN, hfw.m3, ?_, (w7.trans w8) _ _ htb, fun t a e => ?_, lcP_closed hst⟩, w8 _ _ hDs7, st_pos hst, fun B hB => ?_, fun w hw => flP_plain hfw.ne hst hw⟩
          · rw [paired_len3 hrow, ths_len]
          · have htl := paired_len3 hrow
            have hx : (ths L)[t]? = some ((ths L).getD t none) := by rw [List.getD_eq_getElem?_getD, List.getElem?_eq_getElem (by rw [← htl]; exact (List.getElem?_eq_some_iff.mp e).1)]; rfl
            exact (w7.trans w8) _ _ (pr_at hrow t _ _ e hx)
          · have := UP_len hB (ths L) hst.nd hUP
            rw [ths_len] at this; exact this
end
end Toy
set_option maxHeartbeats 4000000
namespace Toy
open PySem L2 C8 SX LX
def plB (ps : Ps) (v : List Nat) : Bool := decide (K60.movesL ps v = [])
def plN (ps : Ps) (sg : List Nat) (n : Nat) : List (List Nat) := (level sg n).filter (plB ps)
theorem level_map (f : Nat → Nat) (l : List Nat) : ∀ n, level (l.map f) n = (level l n).map (List.map f)
  | 0 => rfl
  | n + 1 => by
    show (level (l.map f) n).flatMap (fun r => (l.map f).map fun c => r ++ [c]) = ((level l n).flatMap fun r => l.map fun c => r ++ [c]).map (List.map f)
    rw [level_map f l n, List.flatMap_map, List.map_flatMap]
    congr 1
    funext r
    rw [List.map_map, List.map_map]
    refine List.map_congr_left fun c _ => ?_
    show r.map f ++ [f c] = (r ++ [c]).map f
    rw [List.map_append]; rfl
theorem sg_range (sg : List Nat) : (List.range sg.length).map (fun c => sg.getD c 0) = sg := by
  refine List.ext_getElem (by simp) fun i h1 h2 => ?_
  rw [List.getElem_map, List.getElem_range, List.getD_eq_getElem?_getD, List.getElem?_eq_getElem h2]; rfl
theorem level_range (sg : List Nat) (n : Nat) : level sg n = (level (List.range sg.length) n).map (List.map fun c => sg.getD c 0) := by
  conv => lhs; rw [← sg_range sg]
  exact level_map _ _ n
theorem level_ov {sg : List Nat} : ∀ {n : Nat} {w : List Nat}, w ∈ level sg n ↔ w.length = n ∧ Ov sg w
  | 0, w => by
    show w ∈ [[]] ↔ _
    rw [List.mem_singleton]
    constructor
    · rintro rfl; exact ⟨rfl, fun _ h => nomatch h⟩
    · rintro ⟨h, _⟩; exact List.length_eq_zero_iff.mp h
  | n + 1, w => by
    show w ∈ (level sg n).flatMap (fun r => sg.map fun c => r ++ [c]) ↔ _
    rw [List.mem_flatMap]
    constructor
    · rintro ⟨r, hr, h⟩
      obtain ⟨c, hc, rfl⟩ := List.mem_map.mp h
      obtain ⟨h1, h2⟩ := level_ov.mp hr
      refine ⟨by rw [List.length_append, h1]; rfl, fun d hd => ?_⟩
      rcases List.mem_append.mp hd with hd | hd
      · exact h2 d hd
      · rw [List.mem_singleton.mp hd]; exact hc
    · rintro ⟨h1, h2⟩
      rcases List.eq_nil_or_concat w with rfl | ⟨u, c, rfl⟩
      · simp at h1
      · rw [List.concat_eq_append] at h1 h2 ⊢
        exact ⟨u, level_ov.mpr ⟨by simpa using h1, fun d hd => h2 d (List.mem_append_left _ hd)⟩, List.mem_map.mpr ⟨c, h2 c (List.mem_append_right _ List.mem_cons_self), rfl⟩⟩
section
variable {sg : List Nat} {ps : Ps} {pt pf : Addr} {N : Nat} {lc : Nat → Nat → Nat} {tas : List Addr} {fl : Nat → Bool} {H : Hp}
theorem PTab.acc (h : PTab sg ps pt pf N lc tas fl H) (n : Nat) : accR fl lc (List.range sg.length) n 0 = (level (List.range sg.length) n).filter fun w => plB ps (w.map fun c => sg.getD c 0) := by
  rw [acc_level]
  refine List.filter_congr fun w hw => ?_
  exact h.run w (level_ov.mp hw).2
theorem PTab.rows (h : PTab sg ps pt pf N lc tas fl H) (n : Nat) : plN ps sg n = (accR fl lc (List.range sg.length) n 0).map (List.map fun c => sg.getD c 0) := by
  rw [h.acc, plN, level_range, List.filter_map]; rfl
theorem PTab.cnt (h : PTab sg ps pt pf N lc tas fl H) (n : Nat) : cntW fl lc (List.range sg.length) n 0 = (plN ps sg n).length := by
  rw [h.rows, List.length_map, acc_len]
end
section
variable {P : Program} {w : World} {K : PySem.W.Frag} {mg : Str → Option Value} {base : Heap}
abbrev s_many : Stmt := top 24
abbrev n_many : List Str := ["rules", "long", "table", "flags"]
theorem sc_many : FnScope n_many ["rules", "long"] (fnScope s_many) := fnScope_by (by decide +kernel)
def spMany (K : PySem.W.Frag) (C : Addr) (TT : List NdefX.NTab) : Sp := fun vs H Q _ => ∃ (a : Addr) (sg : List Nat) (ps : Ps) (n : Nat), vs = [.ref a, .int (n : Nat)] ∧ Rul K C H a sg ps ∧ Few sg ps ∧ n ≤ 70 ∧ NdefX.TabsN TT H ∧
  ∀ (H' : Hp), LamX.ExtN H H' → NdefX.TabsN TT H' → Q (.int ((plN ps sg n).length : Nat)) H'
theorem fn_many {C : Addr} (T : BT mg) {TT : List NdefX.NTab} (c_ptab : Cal P w K mg base 3 "_plain_table" (spPtab K C TT) []) (c_ways : Cal P w K mg base 2 "ways_by_length" spWays []) {f : Addr} {fd : FuncData} (F : Def K mg "many_plain" s_many f fd) : FnOk P w K mg base C8.CX0 4 f fd ["rules", "long"] (spMany K C TT) := by
  refine fn0 F.fn sc_many (fun vs H Q E h => ?_) (fun cdv A outer s H vs Q E hr h => ?_)
  · obtain ⟨a, sg, ps, n, rfl, _⟩ := h; rfl
  · obtain ⟨a, sg, ps, n, rfl, hru, hfw, hn, hT, k⟩ := h
    refine ⟨_, (pss_cons (ps_asg (pe_c c_ptab hr (by first | decide | omega) (by rfl) (pa_cons (pv 0) pa_nil)) (tupK K 2 (pgs_cons (pg_name (i := 2) sc_many.nd rfl (.inl rfl)) (pgs_cons (pg_name (i := 3) sc_many.nd rfl (.inl rfl)) pgs_nil))))
      (pss_one (ps_ret (pe_ix (ixl K) (pe_ix (ixl K) (pe_c c_ways hr (by first | decide | omega) (by rfl) (pa_cons (pv 2) (pa_cons (pv 3) (pa_cons (pv 1) pa_nil)))) (pv 1) (fun _ _ => rfl)) pe_int (fun _ _ => rfl)))
      )), ?_⟩
    refine ⟨_, rfl, a, sg, ps, rfl, hru, hfw, hT, fun r pt pf N lc tas fl H1 e1 hT1 hr1 hp => ?_⟩
    refine ⟨r, _, rfl, SqT.of hr1, rfl, _, _, rfl, _, _, rfl, rfl, ?_⟩
    refine ⟨_, rfl, _, rfl, _, rfl, pt, pf, sg.length, N, lc, tas, fl, n, rfl, hp.tab, hp.flg, hn, fun p was H2 s2 n2 hw hwl => ?_⟩
    have hwn : was[n]? = some (was.getD n 0) := getD_get (by omega)
    refine ⟨_, rfl, p, _, (n : Nat), _, rfl, rfl, SqL.of hw.hp, atI_nat (by rw [List.getElem?_map, hwn]; rfl), ?_⟩
    refine ⟨_, _, 0, _, rfl, rfl, SqL.of (hw.row n _ hwn), at_of rfl (wRow_at hp.pos), ?_⟩
    rw [hp.cnt]
    exact k H2 (e1.trans (extN_same s2)) (hT1.ext s2)
end
end Toy
set_option maxHeartbeats 4000000
namespace Toy
open PySem L2 C8 SX LX
def plU (ps : Ps) (sg : List Nat) (L : Nat) : List (List Nat) := (List.range L).flatMap (plN ps sg)
theorem plU_succ (ps : Ps) (sg : List Nat) (L : Nat) : plU ps sg (L + 1) = plU ps sg L ++ plN ps sg L := by
  unfold plU
  rw [List.range_succ, List.flatMap_append, List.flatMap_singleton]
theorem plain_pre {ps : Ps} (hne : ∀ p ∈ ps, p.1 ≠ []) {u z : List Nat} (h : K60.movesL ps (u ++ z) = []) : K60.movesL ps u = [] := by
  rw [moves_plain hne] at h ⊢
  intro l hl a b e
  exact h l hl a (b ++ z) (by rw [e]; simp only [List.append_assoc])
theorem plN_down {ps : Ps} {sg : List Nat} (hne : ∀ p ∈ ps, p.1 ≠ []) {j k : Nat} (hjk : j ≤ k) (h : plN ps sg k ≠ []) : plN ps sg j ≠ [] := by
  obtain ⟨v, hv⟩ := List.exists_mem_of_ne_nil _ h
  obtain ⟨hl, hp⟩ := List.mem_filter.mp hv
  obtain ⟨h1, h2⟩ := level_ov.mp hl
  refine List.ne_nil_of_mem (a := v.take j) (List.mem_filter.mpr ⟨level_ov.mpr ⟨by rw [List.length_take]; omega, fun c hc => h2 c (List.mem_of_mem_take hc)⟩, ?_⟩)
  have hp := of_decide_eq_true hp
  rw [← List.take_append_drop j v] at hp
  exact decide_eq_true (plain_pre hne hp)
theorem level_len (sg : List Nat) : ∀ k, (level sg k).length = sg.length ^ k
  | 0 => rfl
  | k + 1 => by
    show ((level sg k).flatMap fun r => sg.map fun c => r ++ [c]).length = _
    have : ∀ l : List (List Nat), (l.flatMap fun r => sg.map fun c => r ++ [c]).length = l.length * sg.length := by
      intro l
      induction l with
      | nil => simp
      | cons r l ih => rw [List.flatMap_cons, List.length_append, ih, List.length_map, List.length_cons, Nat.add_mul]; omega
    rw [this, level_len sg k, Nat.pow_succ]
section
variable {fl : Nat → Bool} {lc : Nat → Nat → Nat} {m : Nat}
def extR (fl : Nat → Bool) (lc : Nat → Nat → Nat) (m : Nat) (w : List Nat) : List (List Nat) := ((List.range m).filter fun c => fl (lc (w.foldl lc 0) c)).map fun c => w ++ [c]
theorem cnt_le (hm : m ≤ 3) (k : Nat) : cntW fl lc (List.range m) k 0 ≤ 3 ^ k := by
  rw [← acc_len, acc_level]
  refine Nat.le_trans (List.length_filter_le _ _) ?_
  rw [level_len, List.length_range]
  exact Nat.pow_le_pow_left hm k
theorem tot_le3 (hm : m ≤ 3) : ∀ L, 2 * totW fl lc (List.range m) 0 L + 1 ≤ 3 ^ L
  | 0 => Nat.le_refl _
  | L + 1 => by
    have h1 := tot_le3 hm L
    have h2 := cnt_le (fl := fl) (lc := lc) hm L
    show 2 * (totW fl lc (List.range m) 0 L + cntW fl lc (List.range m) L 0) + 1 ≤ 3 ^ (L + 1)
    rw [Nat.pow_succ]; omega
theorem acc_next (hpre : ∀ (w : List Nat) c, Ov (List.range m) w → c < m → fl (lc (w.foldl lc 0) c) = true → fl (w.foldl lc 0) = true) (q : Nat) : accR fl lc (List.range m) (q + 1) 0 = (accR fl lc (List.range m) q 0).flatMap (extR fl lc m) := by
  rw [acc_level, acc_level]
  show ((level (List.range m) q).flatMap fun r => (List.range m).map fun c => r ++ [c]).filter _ = _
  rw [List.filter_flatMap]
  have key : ∀ l : List (List Nat), (∀ w ∈ l, Ov (List.range m) w) → (l.flatMap fun a => ((List.range m).map fun c => a ++ [c]).filter fun w => fl (w.foldl lc 0)) = (l.filter fun w => fl (w.foldl lc 0)).flatMap (extR fl lc m) := by
    intro l
    induction l with
    | nil => intro _; rfl
    | cons r l ih =>
      intro h
      rw [List.flatMap_cons, ih fun w hw => h w (List.mem_cons_of_mem _ hw)]
      have e : (((List.range m).map fun c => r ++ [c]).filter fun w => fl (w.foldl lc 0)) = extR fl lc m r := by
        unfold extR
        rw [List.filter_map]
        congr 2
        funext c
        show fl ((r ++ [c]).foldl lc 0) = _
        rw [List.foldl_append]; rfl
      by_cases hr : fl (r.foldl lc 0) = true
      · rw [List.filter_cons_of_pos (p := fun w : List Nat => fl (w.foldl lc 0)) hr, List.flatMap_cons, e]
      · rw [List.filter_cons_of_neg (p := fun w : List Nat => fl (w.foldl lc 0)) hr, e]
        have : extR fl lc m r = [] := by
          unfold extR
          rw [List.map_eq_nil_iff, List.filter_eq_nil_iff]
          intro c hc hf
          exact hr (hpre r c (h r List.mem_cons_self) (List.mem_range.mp hc) hf)
        rw [this]; rfl
  exact key _ fun w hw => (level_ov.mp hw).2
def fnd (fl : Nat → Bool) (lc : Nat → Nat → Nat) (m q i : Nat) : List (List Nat) := allR fl lc (List.range m) 0 (q + 1) ++ ((accR fl lc (List.range m) q 0).take i).flatMap (extR fl lc m)
theorem fnd_full (hpre : ∀ (w : List Nat) c, Ov (List.range m) w → c < m → fl (lc (w.foldl lc 0) c) = true → fl (w.foldl lc 0) = true) (q : Nat) : fnd fl lc m q (accR fl lc (List.range m) q 0).length = allR fl lc (List.range m) 0 (q + 2) := by
  unfold fnd
  rw [List.take_length, ← acc_next hpre]; rfl
theorem fnd_zero (q : Nat) : fnd fl lc m q 0 = allR fl lc (List.range m) 0 (q + 1) := by
  unfold fnd; rw [List.take_zero]; exact List.append_nil _
theorem fnd_len (hpre : ∀ (w : List Nat) c, Ov (List.range m) w → c < m → fl (lc (w.foldl lc 0) c) = true → fl (w.foldl lc 0) = true) (q i : Nat) : (fnd fl lc m q i).length ≤ totW fl lc (List.range m) 0 (q + 2) := by
  rw [← all_len, ← fnd_full hpre]
  unfold fnd
  rw [List.length_append, List.length_append]
  refine Nat.add_le_add_left ?_ _
  rw [List.take_length]
  conv => rhs; rw [← List.take_append_drop i (accR fl lc (List.range m) q 0), List.flatMap_append, List.length_append]
  exact Nat.le_add_right _ _
theorem fnd_at {q i : Nat} {w : List Nat} (h : (accR fl lc (List.range m) q 0)[i]? = some w) : (fnd fl lc m q i)[(allR fl lc (List.range m) 0 q).length + i]? = some w := by
  unfold fnd
  have e : allR fl lc (List.range m) 0 (q + 1) = allR fl lc (List.range m) 0 q ++ accR fl lc (List.range m) q 0 := rfl
  have hl := (List.getElem?_eq_some_iff.mp h).1
  rw [e, List.getElem?_append_left (by rw [List.length_append]; omega), List.getElem?_append_right (by omega), Nat.add_sub_cancel_left]
  exact h
theorem fnd_next {q i : Nat} {w : List Nat} (h : (accR fl lc (List.range m) q 0)[i]? = some w) : fnd fl lc m q (i + 1) = fnd fl lc m q i ++ extR fl lc m w := by
  unfold fnd
  rw [take_more h, List.flatMap_append, List.flatMap_singleton, List.append_assoc]
end
section
variable {fl : Nat → Bool} {lc : Nat → Nat → Nat} {m : Nat}
theorem fnd_norm (hpre : ∀ (w : List Nat) c, Ov (List.range m) w → c < m → fl (lc (w.foldl lc 0) c) = true → fl (w.foldl lc 0) = true) {q i : Nat} (hi : i ≤ (accR fl lc (List.range m) q 0).length) (h : (allR fl lc (List.range m) 0 q).length + i < (fnd fl lc m q i).length) :
    ∃ q' i' w, (accR fl lc (List.range m) q' 0)[i']? = some w ∧ fnd fl lc m q' i' = fnd fl lc m q i ∧ (allR fl lc (List.range m) 0 q').length + i' = (allR fl lc (List.range m) 0 q).length + i := by
  by_cases hlt : i < (accR fl lc (List.range m) q 0).length
  · exact ⟨q, i, _, List.getElem?_eq_getElem hlt, rfl, rfl⟩
  · have e : i = (accR fl lc (List.range m) q 0).length := by omega
    subst e
    have e1 : (allR fl lc (List.range m) 0 (q + 1)).length = (allR fl lc (List.range m) 0 q).length + (accR fl lc (List.range m) q 0).length := List.length_append
    have e2 : (allR fl lc (List.range m) 0 (q + 2)).length = (allR fl lc (List.range m) 0 (q + 1)).length + (accR fl lc (List.range m) (q + 1) 0).length := List.length_append
    rw [fnd_full hpre] at h ⊢
    exact ⟨q + 1, 0, _, List.getElem?_eq_getElem (by omega), fnd_zero _, by omega⟩
theorem all_more {l : Nat} (hno : ∀ k, l < k → accR fl lc (List.range m) k 0 = []) : ∀ d, allR fl lc (List.range m) 0 (l + 1 + d) = allR fl lc (List.range m) 0 (l + 1)
  | 0 => rfl
  | d + 1 => by
    show allR fl lc (List.range m) 0 (l + 1 + d) ++ accR fl lc (List.range m) (l + 1 + d) 0 = _
    rw [hno _ (by omega), List.append_nil, all_more hno d]
theorem acc_stop (hpre : ∀ (w : List Nat) c, Ov (List.range m) w → c < m → fl (lc (w.foldl lc 0) c) = true → fl (w.foldl lc 0) = true) {q : Nat} (h : accR fl lc (List.range m) q 0 = []) : ∀ d, accR fl lc (List.range m) (q + d) 0 = []
  | 0 => h
  | d + 1 => by
    show accR fl lc (List.range m) (q + d + 1) 0 = []
    rw [acc_next hpre, acc_stop hpre h d]; rfl
theorem fnd_done (hpre : ∀ (w : List Nat) c, Ov (List.range m) w → c < m → fl (lc (w.foldl lc 0) c) = true → fl (w.foldl lc 0) = true) {q i l : Nat} (hi : i ≤ (accR fl lc (List.range m) q 0).length) (h : ¬ (allR fl lc (List.range m) 0 q).length + i < (fnd fl lc m q i).length) (hl : accR fl lc (List.range m) l 0 ≠ []) (hno : ∀ k, l < k → accR fl lc (List.range m) k 0 = []) :
    fnd fl lc m q i = allR fl lc (List.range m) 0 (l + 1) := by
  have e1 : (allR fl lc (List.range m) 0 (q + 1)).length = (allR fl lc (List.range m) 0 q).length + (accR fl lc (List.range m) q 0).length := List.length_append
  have hz : i = (accR fl lc (List.range m) q 0).length := by
    unfold fnd at h
    rw [List.length_append] at h
    omega
  subst hz
  rw [fnd_full hpre] at h ⊢
  have e2 : (allR fl lc (List.range m) 0 (q + 2)).length = (allR fl lc (List.range m) 0 (q + 1)).length + (accR fl lc (List.range m) (q + 1) 0).length := List.length_append
  have h0 : accR fl lc (List.range m) (q + 1) 0 = [] := List.length_eq_zero_iff.mp (by omega)
  have hql : l ≤ q := Nat.le_of_not_lt fun hlt => hl (by
    have := acc_stop hpre h0 (l - (q + 1))
    rwa [show q + 1 + (l - (q + 1)) = l by omega] at this)
  have := all_more hno (q + 1 - l)
  rwa [show l + 1 + (q + 1 - l) = q + 2 by omega] at this
end
section
variable {sg : List Nat} {ps : Ps} {pt pf : Addr} {N : Nat} {lc : Nat → Nat → Nat} {tas : List Addr} {fl : Nat → Bool} {H : Hp}
theorem PTab.pre (h : PTab sg ps pt pf N lc tas fl H) (hne : ∀ p ∈ ps, p.1 ≠ []) : ∀ (w : List Nat) c, Ov (List.range sg.length) w → c < sg.length → fl (lc (w.foldl lc 0) c) = true → fl (w.foldl lc 0) = true := fun w c hw hc hf => by
  have h1 := h.run (w ++ [c]) (fun d hd => by
    rcases List.mem_append.mp hd with hd | hd
    · exact hw d hd
    · rw [List.mem_singleton.mp hd]; exact List.mem_range.mpr hc)
  rw [List.foldl_append] at h1
  have h1 : fl (lc (w.foldl lc 0) c) = _ := h1
  rw [hf] at h1
  rw [h.run w hw, decide_eq_true_eq]
  have := of_decide_eq_true h1.symm
  rw [List.map_append] at this
  exact plain_pre hne this
theorem PTab.all (h : PTab sg ps pt pf N lc tas fl H) : ∀ L, plU ps sg L = (allR fl lc (List.range sg.length) 0 L).map (List.map fun c => sg.getD c 0)
  | 0 => rfl
  | L + 1 => by
    rw [plU_succ, h.all L, h.rows]
    show _ = (allR fl lc (List.range sg.length) 0 L ++ accR fl lc (List.range sg.length) L 0).map _
    rw [List.map_append]
theorem plN_zero {ps : Ps} {sg : List Nat} : plN ps sg 0 = [[]] := rfl
theorem PTab.lng (h : PTab sg ps pt pf N lc tas fl H) (hne : ∀ p ∈ ps, p.1 ≠ []) : (lngP fl lc (List.range sg.length) N 0 = .inf ∧ ∀ k, plN ps sg k ≠ []) ∨
    ∃ l, lngP fl lc (List.range sg.length) N 0 = .fin l ∧ l < N ∧ (accR fl lc (List.range sg.length) l 0 ≠ []) ∧ ∀ k, l < k → plN ps sg k = [] := by
  cases e : lngP fl lc (List.range sg.length) N 0 with
  | no =>
    have := (lng_no h.tab.cl h.pos).mp e 0
    rw [h.cnt, plN_zero] at this
    exact absurd this (by decide)
  | fin l =>
    obtain ⟨h1, h2, h3⟩ := (lng_fin h.tab.cl h.pos).mp e
    refine .inr ⟨l, rfl, h1, fun z => by rw [← acc_len, z] at h2; exact absurd h2 (by decide), fun k hk => ?_⟩
    have := h3 k hk
    rw [h.cnt] at this
    exact List.length_eq_zero_iff.mp this
  | inf =>
    refine .inl ⟨rfl, fun k => ?_⟩
    obtain ⟨l, h1, h2⟩ := lngT_inf e
    have h3 := (last_some.mp h1).2.1
    obtain ⟨M, hM, _, h4⟩ := pump_up (T := k + l) h.tab.cl h.pos h2 h3 (by have := h.pos; omega)
    rw [h.cnt] at h4
    exact plN_down hne (show k ≤ M by omega) fun z => by rw [z] at h4; exact absurd h4 (by decide)
end
end Toy
set_option maxHeartbeats 4000000
namespace Toy
open PySem L2 C8 SX LX
section
variable {P : Program} {w : World} {K : PySem.W.Frag} {mg : Str → Option Value} {base : Heap}
def FndAt (sg : List Nat) (lc : Nat → Nat → Nat) (ts : List Addr) (ws : List (List Nat)) (H : Hp) : Prop := Paired (fun t w => H t = some (.tup [.str (S (w.map fun c => sg.getD c 0)), .int ((w.foldl lc 0 : Nat) : Int)])) ts ws
theorem FndAt.same {sg : List Nat} {lc : Nat → Nat → Nat} {ts : List Addr} {ws : List (List Nat)} {H H' : Hp} (s : Same H H') (h : FndAt sg lc ts ws H) : FndAt sg lc ts ws H' := pr_mono (fun _ _ _ _ e => s _ _ e) h
theorem FndAt.put {sg : List Nat} {lc : Nat → Nat → Nat} {ts : List Addr} {ws : List (List Nat)} {H : Hp} {p : Addr} {xs : List V} (o : HO) (hp : H p = some (.lst xs)) (h : FndAt sg lc ts ws H) : FndAt sg lc ts ws (upd H p o) := pr_mono (fun a _ _ _ e => by rw [upd_ne (fun z => by rw [z, hp] at e; cases e)]; exact e) h
theorem pr_app {α β : Type} {F : α → β → Prop} : ∀ {as : List α} {bs : List β} {cs : List α} {ds : List β}, Paired F as bs → Paired F cs ds → Paired F (as ++ cs) (bs ++ ds)
  | _, _, _, _, .nil, h => h
  | _, _, _, _, .cons h1 h2, h => .cons h1 (pr_app h2 h)
theorem refs_of : ∀ {ys : List V}, (∀ (j : Nat) y, ys[j]? = some y → ∃ t, y = .ref t) → ∃ ps : List Addr, ys = ps.map V.ref
  | [], _ => ⟨[], rfl⟩
  | y :: ys, h => by
    obtain ⟨t, rfl⟩ := h 0 y rfl
    obtain ⟨ps, rfl⟩ := refs_of (ys := ys) fun j z e => h (j + 1) z e
    exact ⟨t :: ps, rfl⟩
theorem pr_idx {α β : Type} {F : α → β → Prop} : ∀ {as : List α} {bs : List β}, as.length = bs.length → (∀ (j : Nat) a b, as[j]? = some a → bs[j]? = some b → F a b) → Paired F as bs
  | [], [], _, _ => .nil
  | a :: as, b :: bs, e, h => .cons (h 0 a b rfl rfl) (pr_idx (by simpa using e) fun j a b h1 h2 => h (j + 1) a b h1 h2)
  | [], _ :: _, e, _ => by simp at e
  | _ :: _, [], e, _ => by simp at e
abbrev s_prows : Stmt := top 23
abbrev n_prows : List Str := ["rules", "table", "flags", "longest", "found", "at", "row", "state", "sign", "end"]
theorem sc_prows : FnScope n_prows ["rules"] (fnScope s_prows) := fnScope_by (by decide +kernel)
def spRows (K : PySem.W.Frag) (C : Addr) (TT : List NdefX.NTab) : Sp := fun vs H Q _ => ∃ (a : Addr) (sg : List Nat) (ps : Ps), vs = [.ref a] ∧ Rul K C H a sg ps ∧ Few sg ps ∧ NdefX.TabsN TT H ∧
  ((∀ k, plN ps sg k ≠ []) ∨ ∃ B : List K62.Tx, (∀ u ∈ bgL (lefts ps), u ∈ B) ∧ B.length ≤ 14) ∧
  (∀ H', LamX.ExtN H H' → NdefX.TabsN TT H' → (∀ k, plN ps sg k ≠ []) → Q .non H') ∧
  (∀ (p : Addr) (l : Nat) (H' : Hp), LamX.ExtN H H' → NdefX.TabsN TT H' → H' p = some (.tup (txs (plU ps sg (l + 1)))) → (∀ k, l < k → plN ps sg k = []) → l ≤ 14 → (∀ B : List K62.Tx, (∀ u ∈ bgL (lefts ps), u ∈ B) → l < dead (lefts ps) + B.length) → Q (.ref p) H')
theorem fn_rows {C : Addr} (T : BT mg) (CH : CC K C) {TT : List NdefX.NTab} (c_ptab : Cal P w K mg base 3 "_plain_table" (spPtab K C TT) []) (c_lfrom : Cal P w K mg base 1 "longest_from" spLFrom []) {f : Addr} {fd : FuncData} (F : Def K mg "plain_rows" s_prows f fd) : FnOk P w K mg base C8.CX0 4 f fd ["rules"] (spRows K C TT) := by
  refine fn0 F.fn sc_prows (fun vs H Q E h => ?_) (fun cdv A outer s H vs Q E hr h => ?_)
  · obtain ⟨a, sg, ps, rfl, _⟩ := h; rfl
  · obtain ⟨a, sg, ps, rfl, hru, hfw, hT, hfin, kN, kF⟩ := h
    refine ⟨_, (pss_cons (ps_asg (pe_c c_ptab hr (by first | decide | omega) (by rfl) (pa_cons (pv 0) pa_nil)) (tupK K 2 (pgs_cons (pg_name (i := 1) sc_prows.nd rfl (.inl rfl)) (pgs_cons (pg_name (i := 2) sc_prows.nd rfl (.inr rfl)) pgs_nil))))
      (pss_cons (ps_set (i := 3) sc_prows.nd rfl (.inl rfl) (pe_c c_lfrom hr (by first | decide | omega) (by rfl) (pa_cons (pv 1) (pa_cons pe_int (pa_cons (pv 2) pa_nil)))))
      (pss_cons (ps_if (pt_cmpR op_eq (pv 3) pe_str (nomark _)) 
        (pss_one (ps_ret pe_non)
        )
       pss_nil)
      (pss_cons (ps_set (i := 4) sc_prows.nd rfl (.inl rfl) (pe_lst (pa_cons (pe_tup (pa_cons pe_str (pa_cons pe_int pa_nil))) pa_nil)))
      (pss_cons (ps_set (i := 5) sc_prows.nd rfl (.inl rfl) pe_int)
      (pss_cons (ps_while PassesOwn.never (pt_cmpR op_lt (pv 5) (pe_callB (lenK K) (by rfl) T.m_len PySem.boot_len (pa_cons (pv 4) pa_nil)) (nomark _)) 
        (pss_cons (ps_asg (pe_ix (ixl K) (pv 4) (pv 5) (fun _ _ => rfl)) (tupK K 2 (pgs_cons (pg_name (i := 6) sc_prows.nd rfl (.inr rfl)) (pgs_cons (pg_name (i := 7) sc_prows.nd rfl (.inl rfl)) pgs_nil))))
        (pss_cons (ps_expr (pe_bm PySem.F.plainAttrs_list PySem.F.slot_list_extend PySem.F.type_list_extend mt_extend (pv 4) (pa_cons (pe_lc (own := [("sign", 8), ("end", 9)]) rfl sc_prows.nd (pi_zipX (by rfl) T.m_zip (pa_cons (fldK K (pv 0) rfl) (pa_cons (pe_ix (ixl K) (pv 1) (pv 7) (fun _ _ => rfl)) pa_nil))) (blkOk_by (N := n_prows) (sc := fnScope s_prows) (by decide +kernel)) (fun _ _ _ _ _ => (tupK K 2 (pgs_cons (pg_name (i := 8) sc_prows.nd rfl (.inl rfl)) (pgs_cons (pg_name (i := 9) sc_prows.nd rfl (.inl rfl)) pgs_nil)))) (fun _ _ _ _ _ => pts_one (pt_val (pe_ix (ixl K) (pv 2) (pv 9) (fun _ _ => rfl)))) (fun _ _ _ _ _ => (pe_tup (pa_cons (pe_op op_add_str (pv 6) (pv 8)) (pa_cons (pv 9) pa_nil))))) pa_nil)))
        (pss_one (ps_aug (i := 5) sc_prows.nd rfl (.inl rfl) pe_int ip_add)
        ))))
      (pss_one (ps_ret (pe_callTy (tupleK K) (by rfl) T.m_tuple PyProof.Rows.boot_tuple (pa_cons (pe_lc (own := [("row", 6), ("state", 7)]) rfl sc_prows.nd (pi_list (pv 4)) (blkOk_by (N := n_prows) (sc := fnScope s_prows) (by decide +kernel)) (fun _ _ _ _ _ => (tupK K 2 (pgs_cons (pg_name (i := 6) sc_prows.nd rfl (.inl rfl)) (pgs_cons (pg_name (i := 7) sc_prows.nd rfl (.inl rfl)) pgs_nil)))) (fun _ _ _ _ _ => pts_nil) (fun _ _ _ _ _ => (pv 6))) pa_nil)))
      ))))))), ?_⟩
    refine ⟨_, rfl, a, sg, ps, rfl, hru, hfw, hT, fun r pt pf N lc tas fl H1 e1 hT1 hr1 hp => ?_⟩
    refine ⟨r, _, rfl, SqT.of hr1, rfl, _, _, rfl, _, _, rfl, rfl, ?_⟩
    refine ⟨_, rfl, _, rfl, pt, pf, sg.length, N, lc, tas, fl, 0, rfl, hp.tab, hp.flg, hp.pos, fun H2 s2 => ?_⟩
    have hp2 := hp.same s2
    have e2 := e1.trans (extN_same s2)
    have hT2 := hT1.ext s2
    have hru2 := hru.ext e2
    rcases hp.lng hfw.ne with ⟨hL, hinf⟩ | ⟨l, hL, hlN, hne, hno⟩
    · rw [hL]
      exact ⟨_, rfl, rfl, _, rfl, iteB rfl (kN H2 e2 hT2 hinf)⟩
    · rw [hL]
      have hl14 : l ≤ 14 := by
        rcases hfin with hi | ⟨B, hB, h14⟩
        · exact absurd (hno (l + 1) (by omega)) (hi (l + 1))
        · have h1 := hp.few B hB
          have h2 : dead (lefts ps) ≤ 1 := by unfold dead; split <;> omega
          omega
      have kF' := fun p H' a b c => kF p l H' a b c hno hl14 fun B hB => Nat.lt_of_lt_of_le hlN (hp.few B hB)
      clear kF kN e1 hT1 hr1 hp s2 hru hT
      have hpre := hp2.pre hfw.ne
      have m3 := hfw.m3
      have hTot : ∀ M, totW fl lc (List.range sg.length) 0 M ≤ 7200000 := fun M => by
        have h1 := tot_fin hp2.tab.cl hp2.pos hL M
        have h2 := tot_le3 (fl := fl) (lc := lc) m3 (l + 1)
        have h3 : 3 ^ (l + 1) ≤ 3 ^ 15 := Nat.pow_le_pow_right (by decide) (by omega)
        have h4 : (3 : Nat) ^ 15 = 14348907 := by decide
        omega
      have bTot : ∀ n : Nat, n ≤ 7200000 → n < sizeLine := fun n h => Nat.lt_of_le_of_lt h (by decide)
      refine ⟨_, rfl, rfl, _, rfl, iteN rfl ?_⟩
      refine ⟨by show 2 ≤ sizeLine; decide, fun t0 ht0 => ?_⟩
      refine ⟨by show 1 ≤ sizeLine; decide, fun p hpn => ?_⟩
      have hnoA : ∀ k, l < k → accR fl lc (List.range sg.length) k 0 = [] := fun k hk => by
        have := hno k hk
        rw [hp2.rows] at this
        exact List.map_eq_nil_iff.mp this
      have hnp : H2 p = none := by
        by_cases z : p = t0
        · rw [z]; exact ht0
        · rw [upd_ne z] at hpn; exact hpn
      have hf0 : fl 0 = true := (hp2.run [] (fun _ h => nomatch h)).trans (decide_eq_true rfl)
      have hs0 : FndAt sg lc [t0] (fnd fl lc sg.length 0 0) (upd (upd H2 t0 (.tup [.str (Str.ofString ""), .int 0])) p (.lst [.ref t0])) := by
        have e : fnd fl lc sg.length 0 0 = [[]] := by
          rw [fnd_zero]
          show [] ++ (if fl 0 = true then [[]] else []) = _
          rw [if_pos hf0]; rfl
        rw [e]
        refine .cons ?_ .nil
        rw [upd_ne (fun z => by rw [← z, upd_same] at hpn; cases hpn), upd_same, s_nil]; rfl
      have sm0 := (sm_new (o := .tup [.str (Str.ofString ""), .int 0]) ht0).trans (sm_new (o := .lst [.ref t0]) hpn)
      refine ⟨fun mm σ H' => ∃ (q i : Nat) (ts : List Addr) (s6 s7 s8 s9 : Option V), mm = 7200001 - ((allR fl lc (List.range sg.length) 0 q).length + i) ∧ σ = [some (.ref a), some (.ref pt), some (.ref pf), some (.int (l : Nat)), some (.ref p), some (.int (((allR fl lc (List.range sg.length) 0 q).length + i : Nat) : Int)), s6, s7, s8, s9] ∧
        Same H2 H' ∧ H' p = some (.lst (ts.map V.ref)) ∧ FndAt sg lc ts (fnd fl lc sg.length q i) H' ∧ i ≤ (accR fl lc (List.range sg.length) q 0).length,
        ⟨_, 0, 0, [t0], none, none, none, none, rfl, rfl, sm0, upd_same, hs0, Nat.zero_le _⟩, ?_⟩
      clear hs0 sm0 hpn ht0
      rintro mm σ H3 ⟨q, i, ts, s6, s7, s8, s9, rfl, rfl, w3, hp3, hf3, hi⟩
      have htl := paired_len3 hf3
      have hfl := fnd_len hpre q i
      have hT2' := hTot (q + 2)
      have hmapl : (ts.map V.ref).length = (fnd fl lc sg.length q i).length := by rw [List.length_map, htl]
      refine ⟨_, rfl, _, rfl, p, _, rfl, .inl (SqL.of hp3), _, _, rfl, rfl, _, rfl, ?_⟩
      rw [hmapl]
      refine ite2 (fun hc => ?_) (fun hc => ?_)
      · rw [decide_eq_true_eq] at hc
        obtain ⟨q', i', w0, hw0, ef, ea⟩ := fnd_norm hpre hi (by omega)
        rw [← ea]
        rw [← ef] at hf3 hfl hmapl hc
        have hle' : i' < (accR fl lc (List.range sg.length) q' 0).length := (List.getElem?_eq_some_iff.mp hw0).1
        have hat : (fnd fl lc sg.length q' i')[(allR fl lc (List.range sg.length) 0 q').length + i']? = some w0 := fnd_at hw0
        have hal := (List.getElem?_eq_some_iff.mp hat).1
        refine ⟨fun σ' H' => ∃ (ts : List Addr) (s6 s7 s8 s9 : Option V), σ' = [some (.ref a), some (.ref pt), some (.ref pf), some (.int (l : Nat)), some (.ref p), some (.int (((allR fl lc (List.range sg.length) 0 q').length + (i' + 1) : Nat) : Int)), s6, s7, s8, s9] ∧
          Same H2 H' ∧ H' p = some (.lst (ts.map V.ref)) ∧ FndAt sg lc ts (fnd fl lc sg.length q' (i' + 1)) H',
          fun σ' H' ⟨ts, s6, s7, s8, s9, e1, e2, e3, e4⟩ => ⟨7200001 - ((allR fl lc (List.range sg.length) 0 q').length + (i' + 1)), by omega, q', i' + 1, ts, s6, s7, s8, s9, rfl, e1, e2, e3, e4, by omega⟩, ?_⟩
        obtain ⟨t, ht⟩ : ∃ t, ts[(allR fl lc (List.range sg.length) 0 q').length + i']? = some t := ⟨_, List.getElem?_eq_getElem (by rw [htl]; rw [ef] at hal; omega)⟩
        have hH3 := pr_at hf3 _ _ _ ht hat
        obtain ⟨hwl, hwo, hwf⟩ := mem_acc.mp (List.mem_of_getElem? hw0)
        have hql : q' ≤ l := Nat.le_of_not_lt fun h => by rw [hnoA q' h] at hle'; exact absurd hle' (Nat.not_lt_zero _)
        have hst : w0.foldl lc 0 < N := fold_lt hp2.tab.cl hwo hp2.pos
        have hp3' := hp2.same w3
        have hru3 := hru2.same w3
        obtain ⟨dx, r3, ha3, _⟩ := id hru3
        have htas : tas[w0.foldl lc 0]? = some (tas.getD (w0.foldl lc 0) 0) := getD_get (by rw [hp2.tab.len]; exact hst)
        have hrow := hp3'.tab.row _ _ htas
        have hrl : (S (w0.map fun c => sg.getD c 0)).length + 1 ≤ sizeLine := by rw [S_len, List.length_map, hwl]; exact sz (show q' + 1 ≤ 15 by omega) (by decide)
        have hatp : (ts.map V.ref)[(allR fl lc (List.range sg.length) 0 q').length + i']? = some (.ref t) := by rw [List.getElem?_map, ht]; rfl
        refine ⟨_, rfl, _, rfl, p, _, _, .ref t, rfl, rfl, SqL.of hp3, atI_nat hatp, ?_⟩
        refine ⟨t, _, rfl, SqT.of hH3, rfl, _, _, rfl, _, _, rfl, rfl, ?_⟩
        refine ⟨_, rfl, .inl ⟨rfl, _, SqL.of hp3⟩, ?_⟩
        generalize hrw : (w0.map fun c => sg.getD c 0) = row at hrl hH3 ⊢
        have hnx : fnd fl lc sg.length q' (i' + 1) = _ := fnd_next hw0
        have hext : extR fl lc sg.length w0 = ((List.range sg.length).filter fun c => fl (lc (w0.foldl lc 0) c)).map fun c => w0 ++ [c] := rfl
        generalize hstv : w0.foldl lc 0 = st at hst htas hrow hext ⊢
        have hpr3 : (tas.map V.ref)[st]? = some (.ref (tas.getD st 0)) := by rw [List.getElem?_map, htas]; rfl
        refine ⟨_, rfl, a, C, dx, _, _, rfl, ha3, CH.cl, CH.nS, ruF_signs _ _, _, rfl, _, rfl, pt, _, (st : Nat), .ref (tas.getD st 0), rfl, rfl, SqL.of hp3'.tab.tb, atI_nat hpr3, ?_⟩
        refine ⟨_, _, .txt (S sg), .lst (tas.getD st 0), rfl, rfl, rfl, trivial, ⟨_, SqL.of hrow⟩, fun D hD => ?_⟩
        have hl1 : (sg.map fun c => V.str (S [c])).length = sg.length := List.length_map _
        have hl2 : ((List.range sg.length).map fun c => V.int (lc st c : Nat)).length = sg.length := by rw [List.length_map, List.length_range]
        refine lc_keepF (n := min (sg.map fun c => V.str (S [c])).length ((List.range sg.length).map fun c => V.int (lc st c : Nat)).length) keep_same (walk_zipX (K := K) (S1 := .txt (S sg)) (S2 := .lst (tas.getD st 0)) (xs := sg.map fun c => V.str (S [c])) (ys := (List.range sg.length).map fun c => V.int (lc st c : Nat))) hD (by rw [hl1, hl2, Nat.min_self]; exact small1000 (by omega))
          (fun j => fl (lc st j)) (fun j y H => ∃ u, y = .ref u ∧ H u = some (.tup [.str (S (row ++ [sg.getD j 0])), .int (lc st j : Nat)])) (fun H r => ⟨by show (sg.map fun c => V.str (S [c])) = _; simp [S], SqL.of (r _ _ hrow)⟩) (fun _ _ _ _ _ r ⟨u, e, h⟩ => ⟨u, e, r _ _ h⟩)
          (fun _ _ _ _ _ _ hDa ⟨u, e, h⟩ => ⟨u, e, by rw [upd_ne (ne_of h hDa (by intro h; cases h))]; exact h⟩) (fun j x H4 H4' acc N R hj r4 hDa hy hR hN => ?_) (fun ys H4 hly hg w4 hDs => ?_)
        · rw [hl1, hl2, Nat.min_self] at hj
          obtain ⟨u0, x1, x2, rfl, hu0, rfl, e1, e2⟩ := hy
          have hcj : sg[j]? = some (sg.getD j 0) := by rw [List.getD_eq_getElem?_getD, List.getElem?_eq_getElem hj]; rfl
          have e1 : (sg.map fun c => V.str (S [c]))[j]? = some x1 := e1
          have e2 : ((List.range sg.length).map fun c => V.int (lc st c : Nat))[j]? = some x2 := e2
          rw [List.getElem?_map, hcj] at e1
          obtain rfl := Option.some.inj e1
          rw [List.getElem?_map, List.getElem?_range hj] at e2
          obtain rfl := Option.some.inj e2
          have sT := sm_new (o := .tup [.str (S [sg.getD j 0]), .int (lc st j : Nat)]) hu0
          have hlt : lc st j < _ := hp2.tab.cl st j hst (List.mem_range.mpr hj)
          refine ⟨u0, _, rfl, .inl (.inl upd_same), rfl, _, _, rfl, _, _, rfl, rfl, rfl, ?_⟩
          have hfl5 := (r4.trans sT) _ _ hp3'.flg
          generalize upd H4 u0 (.tup [.str (S [sg.getD j 0]), .int (lc st j : Nat)]) = H5 at sT hfl5 ⊢
          refine ⟨_, rfl, _, rfl, pf, _, (lc st j : Nat), .bl (fl (lc st j)), rfl, rfl, SqL.of hfl5, atI_nat (by unfold flV; rw [List.getElem?_map, List.getElem?_range hlt]; rfl), _, rfl, ?_⟩
          cases hb : fl (lc st j) with
          | true =>
            rw [if_pos rfl]
            refine ⟨_, rfl, _, rfl, _, _, rfl, rfl, by rw [S_len] at hrl ⊢; rw [S_len]; exact hrl, _, rfl, by show 2 ≤ sizeLine; decide, fun v hv => ?_⟩
            rw [S_cat]
            exact hR hb _ _ (sT.trans (sm_new hv)) ⟨v, rfl, upd_same⟩
          | false =>
            rw [if_neg Bool.false_ne_true]
            exact hN hb _ sT
        · rw [hl1, hl2, Nat.min_self] at hly hg
          obtain ⟨us, rfl⟩ := refs_of (ys := ys) fun j y e => by
            have hjl : j < (takenN (fun j => fl (lc st j)) sg.length).length := by rw [← hly]; exact (List.getElem?_eq_some_iff.mp e).1
            obtain ⟨u, eu, _⟩ := hg j _ y (List.getElem?_eq_getElem hjl) e
            exact ⟨u, eu⟩
          rw [List.length_map] at hly
          have hus : FndAt sg lc us (extR fl lc sg.length w0) H4 := by
            rw [hext]
            refine pr_idx (by rw [List.length_map, hly]; rfl) fun j u v h1 h2 => ?_
            rw [List.getElem?_map] at h2
            obtain ⟨c, hc', rfl⟩ := Option.map_eq_some_iff.mp h2
            obtain ⟨u', eu, hu'⟩ := hg j c (.ref u) hc' (by rw [List.getElem?_map, h1]; rfl)
            cases eu
            rw [hu', List.map_append, hrw, List.foldl_append, hstv]
            rfl
          have hnl : (ts ++ us).length = (fnd fl lc sg.length q' (i' + 1)).length := by
            rw [hnx, List.length_append, List.length_append, paired_len3 hus, htl, ef]
          have hb2 : (ts ++ us).length ≤ 7200000 := by
            rw [hnl]
            exact Nat.le_trans (fnd_len hpre q' (i' + 1)) (hTot _)
          refine ⟨p, D, ts.map V.ref, us.map V.ref, rfl, rfl, w4 _ _ hp3, hDs, by rw [← List.length_append, ← List.map_append, List.length_map]; exact Nat.le_of_lt (bTot _ hb2), ?_⟩
          refine ⟨_, rfl, _, _, rfl, rfl, ?_⟩
          refine ⟨ts ++ us, some (.str (S row)), some (.int (st : Nat)), s8, s9, ?_, sm_put (w3.trans w4) hnp, by rw [upd_same, List.map_append], ?_⟩
          · have eI : ((((allR fl lc (List.range sg.length) 0 q').length + i' : Nat) : Int) + 1) = (((allR fl lc (List.range sg.length) 0 q').length + (i' + 1) : Nat) : Int) := by omega
            show [some (V.ref a), some (.ref pt), some (.ref pf), some (.int (l : Nat)), some (.ref p), some (.int ((((allR fl lc (List.range sg.length) 0 q').length + i' : Nat) : Int) + 1)), some (.str (S row)), some (.int (st : Nat)), s8, s9] = _
            rw [eI]
          · rw [hnx]
            exact pr_app ((hf3.same w4).put _ (w4 _ _ hp3)) (hus.put _ (w4 _ _ hp3))
      · rw [Bool.not_eq_true, decide_eq_false_iff_not] at hc
        rw [fnd_done hpre hi (by omega) hne hnoA] at hf3 htl hmapl
        have hbl : (allR fl lc (List.range sg.length) 0 (l + 1)).length ≤ 7200000 := by rw [all_len]; exact hTot _
        refine ⟨_, rfl, p, rfl, ⟨_, SqL.of hp3⟩, fun D hD => ?_⟩
        refine lc_keep keep_same (walk_list (K := K) (a := p) (xs := ts.map V.ref)) hD (by rw [hmapl]; exact bTot _ hbl) (fun j y => ∀ v, (allR fl lc (List.range sg.length) 0 (l + 1))[j]? = some v → y = .str (S (v.map fun c => sg.getD c 0))) (fun H r => SqL.of (r _ _ hp3)) (fun j x H4 H5 R hj r4 hy hR => ?_) (fun ys H4 hly hg w4 hDs => ?_)
        · obtain ⟨rfl, ex⟩ := hy
          rw [List.getElem?_map] at ex
          obtain ⟨t, ht, rfl⟩ := Option.map_eq_some_iff.mp ex
          rw [hmapl] at hj
          obtain ⟨v, hv⟩ : ∃ v, (allR fl lc (List.range sg.length) 0 (l + 1))[j]? = some v := ⟨_, List.getElem?_eq_getElem hj⟩
          have hH := pr_at hf3 _ _ _ ht hv
          refine ⟨t, _, rfl, SqT.of (r4 _ _ hH), rfl, _, _, rfl, _, _, rfl, rfl, rfl, ?_⟩
          exact ⟨_, rfl, hR _ _ (Same.refl _) fun v' e => by rw [hv] at e; cases e; rfl⟩
        · have ey : ys = txs (plU ps sg (l + 1)) := by
            unfold txs
            rw [hp2.all, List.map_map]
            refine list_map (by rw [hly, hmapl]) fun j y v e1 e2 => ?_
            exact hg j y e1 v e2
          subst ey
          refine nil1 ⟨D, _, rfl, .inl ⟨SqL.of hDs, fun so hso => ?_⟩⟩
          have s10 := sm_new (o := .tup (txs (plU ps sg (l + 1)))) hso
          have wB := w3.trans (w4.trans s10)
          exact kF' so _ (e2.trans (extN_same wB)) (hT2.ext wB) upd_same
end
end Toy
set_option maxHeartbeats 2000000
namespace Toy
open PySem L2 C8 SX LX
def bothL (rs : List (List Nat)) (sg : List Nat) : List (List Nat × Nat) := rs.flatMap fun r => sg.map fun c => (r, c)
def BothAt (H : Hp) (qs : List Addr) (l : List (List Nat × Nat)) : Prop := Paired (fun q p => H q = some (.tup [.str (S p.1), .str (S [p.2])])) qs l
theorem BothAt.same {H H' : Hp} {qs : List Addr} {l : List (List Nat × Nat)} (s : Same H H') (h : BothAt H qs l) : BothAt H' qs l := pr_imp (fun _ _ e => s _ _ e) h
theorem BothAt.put {H : Hp} {D : Addr} {acc : List V} {o : HO} {qs : List Addr} {l : List (List Nat × Nat)} (hD : H D = some (.lst acc)) (h : BothAt H qs l) : BothAt (upd H D o) qs l := pr_imp (fun _ _ e => by rw [upd_ne (fun z => by rw [z, hD] at e; cases e)]; exact e) h
theorem both_len (rs : List (List Nat)) (sg : List Nat) : (bothL rs sg).length = rs.length * sg.length := by
  unfold bothL
  induction rs with
  | nil => simp
  | cons r l ih => rw [List.flatMap_cons, List.length_append, ih, List.length_map, List.length_cons, Nat.add_mul]; omega
theorem both_take {rs : List (List Nat)} {sg r : List Nat} {i : Nat} (h : rs[i]? = some r) : bothL (rs.take (i + 1)) sg = bothL (rs.take i) sg ++ sg.map fun c => (r, c) := by
  unfold bothL
  rw [take_more h, List.flatMap_append, List.flatMap_singleton]
section
variable {P : Program} {w : World} {K : PySem.W.Frag} {mg : Str → Option Value} {base : Heap}
abbrev s_both : Stmt := top 30
abbrev n_both : List Str := ["some", "others", "found", "one", "other"]
theorem sc_both : FnScope n_both ["some", "others"] (fnScope s_both) := fnScope_by (by decide +kernel)
def spBoth : Sp := fun vs H Q _ => ∃ (p : Addr) (rs : List (List Nat)) (sg : List Nat), vs = [.ref p, .str (S sg)] ∧ H p = some (.lst (txs rs)) ∧ (∀ r ∈ rs, r.length ≤ 40) ∧ rs.length ≤ 900 ∧ sg.length ≤ 3 ∧
  ∀ (q : Addr) (qs : List Addr) (H' : Hp), Same H H' → H' q = some (.lst (qs.map V.ref)) → BothAt H' qs (bothL rs sg) → Q (.ref q) H'
theorem ok_both (T : BT mg) {f : Addr} {fd : FuncData} (F : Def K mg "_law_both" s_both f fd) (b : Binds K fd ["some", "others"] []) : Cal P w K mg base 1 "_law_both" spBoth [] := by
  refine cal0 F b .nil sc_both (fun vs H Q E h => ?_) (fun cdv A outer s H vs Q E hr h => ?_)
  · obtain ⟨p, rs, sg, rfl, _⟩ := h; rfl
  · obtain ⟨p, rs, sg, rfl, hp, hr40, h900, h3, k⟩ := h
    refine ⟨_, (pss_cons (ps_set (i := 2) sc_both.nd rfl (.inl rfl) (pe_lst pa_nil))
      (pss_cons (ps_for PassesOwn.never rfl (pi_list (pv 0)) (pg_name (i := 3) sc_both.nd rfl (.inr rfl)) 
        (pss_one (ps_expr (pe_bm PySem.F.plainAttrs_list PySem.F.slot_list_extend PySem.F.type_list_extend mt_extend (pv 2) (pa_cons (pe_lc (own := [("other", 4)]) rfl sc_both.nd (pi_str (pv 1)) (blkOk_by (N := n_both) (sc := fnScope s_both) (by decide +kernel)) (fun _ _ _ _ _ => (pg_name (i := 4) sc_both.nd rfl (.inl rfl))) (fun _ _ _ _ _ => pts_nil) (fun _ _ _ _ _ => (pe_tup (pa_cons (pv 3) (pa_cons (pv 4) pa_nil))))) pa_nil)))
        ))
      (pss_one (ps_ret (pv 2))
      ))), ?_⟩
    refine ⟨by show 0 ≤ sizeLine; decide, fun fl hfl => ?_⟩
    have s0 := sm_new (o := .lst []) hfl
    refine ⟨_, rfl, p, rfl, ⟨_, SqL.of (s0 _ _ hp)⟩, ?_⟩
    refine for_it (walk_list (K := K) (a := p) (xs := txs rs)) (fun i σ H' => ∃ (s3 : Option V) (qs : List Addr), σ = [some (.ref p), some (.str (S sg)), some (.ref fl), s3, none] ∧ Same H H' ∧ H' fl = some (.lst (qs.map V.ref)) ∧ BothAt H' qs (bothL (rs.take i) sg))
      ⟨_, [], rfl, s0, upd_same, .nil⟩ (fun _ _ _ _ h => by obtain ⟨_, _, _, h, _⟩ := h; exact SqL.of (h _ _ hp)) ?_ ?_
    · rintro i x σ H1 H1' hi ⟨s3, qs, rfl, s1, e1, p1⟩ ⟨rfl, ex⟩
      obtain ⟨r, hx, rfl⟩ := txs_get ex
      rw [txs_len] at hi
      refine ⟨_, rfl, .inl ⟨rfl, _, SqL.of e1⟩, ?_⟩
      refine ⟨_, rfl, _, rfl, fun D hD => ?_⟩
      refine lc_keepH keep_same walk_str hD (by show sg.length < sizeLine; exact small1000 (by omega)) (fun j y H => ∃ q, y = .ref q ∧ ∀ c, sg[j]? = some c → H q = some (.tup [.str (S r), .str (S [c])])) (fun _ _ => trivial) (fun _ _ _ _ _ r ⟨q, e, h⟩ => ⟨q, e, fun c hc => r _ _ (h c hc)⟩)
        (fun j y H acc o _ hDa ⟨q, e, h⟩ => ⟨q, e, fun c hc => by rw [upd_ne (ne_of (h c hc) hDa (by intro h; cases h))]; exact h c hc⟩) (fun j x H3 H3' acc R hj r3 hDa hy hR => ?_) (fun ys H3 hly hg w3 hDs => ?_)
      · obtain ⟨rfl, c, hc, rfl⟩ := hy
        have hc : sg[j]? = some c := by simpa [S] using hc
        refine ⟨rfl, _, rfl, _, rfl, by show 2 ≤ sizeLine; decide, fun q hq => ?_⟩
        exact hR _ _ (sm_new hq) ⟨q, rfl, fun c' h => by rw [hc] at h; cases h; exact upd_same⟩
      · have hly : ys.length = sg.length := hly
        obtain ⟨us, rfl⟩ := refs_of (ys := ys) fun j y e => let ⟨q, e', _⟩ := hg j y e; ⟨q, e'⟩
        rw [List.length_map] at hly
        have hus : BothAt H3 us (sg.map fun c => (r, c)) := pr_idx (by rw [hly, List.length_map]) fun j u pc h1 h2 => by
          rw [List.getElem?_map] at h2
          obtain ⟨c, hc, rfl⟩ := Option.map_eq_some_iff.mp h2
          obtain ⟨q, eq, hq⟩ := hg j (.ref u) (by rw [List.getElem?_map, h1]; rfl)
          cases eq
          exact hq c hc
        have hql := paired_len3 p1
        have hb := both_len (rs.take i) sg
        have e3 := w3 _ _ e1
        refine ⟨fl, D, qs.map V.ref, us.map V.ref, rfl, rfl, e3, hDs, ?_, ?_⟩
        · rw [List.length_map, List.length_map, hql, hb, hly, List.length_take]
          have : min i rs.length * sg.length ≤ 900 * 3 := Nat.mul_le_mul (by omega) h3
          exact Nat.le_trans (show _ ≤ 2800 by omega) (by decide)
        · refine ⟨_, qs ++ us, rfl, sm_put (s1.trans w3) hfl, by rw [upd_same, List.map_append], ?_⟩
          rw [both_take hx]
          exact pr_app ((p1.same w3).put e3) (hus.put e3)
    · rintro σ H1 ⟨s3, qs, rfl, s1, e1, p1⟩
      rw [txs_len, List.take_length] at p1
      exact ⟨_, rfl, k fl qs H1 s1 e1 p1⟩
abbrev s_lrows : Stmt := top 34
abbrev n_lrows : List Str := ["signs", "long", "found", "layer", "turn", "row", "sign"]
theorem sc_lrows : FnScope n_lrows ["signs", "long"] (fnScope s_lrows) := fnScope_by (by decide +kernel)
def spLRows : Sp := fun vs H Q _ => ∃ (sg : List Nat) (n : Nat), vs = [.str (S sg), .int (n : Nat)] ∧ n ≤ 9 ∧ sg.length ≤ 3 ∧ sg.length ^ n ≤ 900 ∧ 0 < sg.length ∧
  ∀ (p : Addr) (H' : Hp), Same H H' → H' p = some (.lst (txs (upto sg n))) → Q (.ref p) H'
theorem ok_lrows (T : BT mg) (c_both : Cal P w K mg base 1 "_law_both" spBoth []) {f : Addr} {fd : FuncData} (F : Def K mg "_law_rows" s_lrows f fd) (b : Binds K fd ["signs", "long"] []) : Cal P w K mg base 2 "_law_rows" spLRows [] := by
  refine cal0 F b .nil sc_lrows (fun vs H Q E h => ?_) (fun cdv A outer s H vs Q E hr h => ?_)
  · obtain ⟨sg, n, rfl, _⟩ := h; rfl
  · obtain ⟨sg, n, rfl, h9, h3, hpow, h1, k⟩ := h
    refine ⟨_, (pss_cons (ps_par (i := 2) (j := 3) rfl sc_lrows.nd rfl rfl (by decide) rfl rfl (pa_cons (pe_lst (pa_cons pe_str pa_nil)) (pa_cons (pe_lst (pa_cons pe_str pa_nil)) pa_nil)) rfl)
      (pss_cons (ps_for PassesOwn.never rfl (pi_range1 (by rfl) T.m_range (pa_cons (pv 1) pa_nil)) (pg_name (i := 4) sc_lrows.nd rfl (.inl rfl)) 
        (pss_cons (ps_setLc (i := 3) (own := [("row", 5), ("sign", 6)]) rfl sc_lrows.nd rfl rfl rfl (pi_list (pe_c c_both hr (by first | decide | omega) (by rfl) (pa_cons (pv 3) (pa_cons (pv 0) pa_nil)))) (blkOk_by (N := n_lrows) (sc := fnScope s_lrows) (by decide +kernel)) (fun _ _ _ _ _ => (tupK K 2 (pgs_cons (pg_name (i := 5) sc_lrows.nd rfl (.inl rfl)) (pgs_cons (pg_name (i := 6) sc_lrows.nd rfl (.inl rfl)) pgs_nil)))) (fun _ _ _ _ _ => pts_nil) (fun _ _ _ _ _ => (pe_op op_add_str (pv 5) (pv 6))))
        (pss_one (ps_set (i := 2) sc_lrows.nd rfl (.inl rfl) (pe_op op_cat (pv 2) (pv 3)))
        )))
      (pss_one (ps_ret (pv 2))
      ))), ?_⟩
    refine ⟨by show 1 ≤ sizeLine; decide, fun p1 hp1 => ⟨by show 1 ≤ sizeLine; decide, fun p2 hp2 => ⟨_, _, rfl, ?_⟩⟩⟩
    have hn1 : H p2 = none := by
      by_cases z : p2 = p1
      · rw [z]; exact hp1
      · rw [upd_ne z] at hp2; exact hp2
    have ne12 : p1 ≠ p2 := fun z => by rw [← z, upd_same] at hp2; cases hp2
    have s12 := (sm_new (o := .lst [.str (Str.ofString "")]) hp1).trans (sm_new (o := .lst [.str (Str.ofString "")]) hp2)
    have hlv : ∀ j, j ≤ n → (level sg j).length ≤ 900 := fun j hj => by
      rw [level_len]
      exact Nat.le_trans (Nat.pow_le_pow_right h1 hj) hpow
    have hup : ∀ j, j ≤ n → (upto sg j).length ≤ (j + 1) * 900 := fun j => by
      induction j with
      | zero => intro _; show 1 ≤ _; decide
      | succ j ih =>
        intro hj
        show (upto sg j ++ level sg (j + 1)).length ≤ _
        rw [List.length_append]
        have := ih (by omega)
        have := hlv (j + 1) hj
        omega
    refine ⟨_, rfl, _, rfl, by omega, by omega, ?_⟩
    have en : ((n : Nat) : Int).toNat = n := by omega
    refine for_it (walk_range (lo := 0) (n := ((n : Nat) : Int).toNat)) (fun i σ H' => ∃ (p1 p2 : Addr) (s4 s5 s6 : Option V), σ = [some (.str (S sg)), some (.int (n : Nat)), some (.ref p1), some (.ref p2), s4, s5, s6] ∧ Same H H' ∧ H' p1 = some (.lst (txs (upto sg i))) ∧ H' p2 = some (.lst (txs (level sg i))))
      ⟨p1, p2, _, _, _, rfl, s12, by rw [upd_ne ne12, upd_same, s_nil]; rfl, by rw [upd_same, s_nil]; rfl⟩ (fun _ _ _ _ _ => trivial) ?_ ?_
    · clear hp1 hp2 hn1 ne12 s12 p1 p2
      rintro i x σ H1 H1' hi ⟨p1, p2, s4, s5, s6, rfl, s1, e1, e2⟩ ⟨rfl, rfl⟩
      rw [en] at hi
      refine ⟨_, rfl, _, rfl, p2, level sg i, sg, rfl, e2, fun r hr => ?_, hlv i (by omega), h3, fun q qs H2 s2 hq hqs => ?_⟩
      · have := (level_ov.mp hr).1; omega
      have hql := paired_len3 hqs
      have hbl := both_len (level sg i) sg
      have hb27 : (level sg i).length * sg.length ≤ 900 * 3 := Nat.mul_le_mul (hlv i (by omega)) h3
      refine ⟨q, rfl, ⟨_, SqL.of hq⟩, fun D hD => ?_⟩
      refine lc_keep keep_same (walk_list (K := K) (a := q) (xs := qs.map V.ref)) hD (by rw [List.length_map, hql, hbl]; exact Nat.lt_of_le_of_lt hb27 (by decide)) (fun j y => ∀ rc, (bothL (level sg i) sg)[j]? = some rc → y = .str (S (rc.1 ++ [rc.2]))) (fun H r => SqL.of (r _ _ hq)) (fun j x H3 H4 R hj r3 hy hR => ?_) (fun ys H3 hly hg w3 hDs => ?_)
      · obtain ⟨rfl, ex⟩ := hy
        rw [List.getElem?_map] at ex
        obtain ⟨u, hu, rfl⟩ := Option.map_eq_some_iff.mp ex
        obtain ⟨rc, hrc⟩ : ∃ rc, (bothL (level sg i) sg)[j]? = some rc := ⟨_, List.getElem?_eq_getElem (by rw [← hql]; exact (List.getElem?_eq_some_iff.mp hu).1)⟩
        have hH := pr_at hqs _ _ _ hu hrc
        have hr40 : rc.1.length ≤ 40 := by
          have hm := List.mem_of_getElem? hrc
          unfold bothL at hm
          obtain ⟨r, hr, h⟩ := List.mem_flatMap.mp hm
          obtain ⟨c, _, rfl⟩ := List.mem_map.mp h
          have := (level_ov.mp hr).1
          show r.length ≤ 40
          omega
        refine ⟨u, _, rfl, SqT.of (r3 _ _ hH), rfl, _, _, rfl, _, _, rfl, rfl, rfl, ?_⟩
        refine ⟨_, rfl, _, rfl, _, _, rfl, rfl, by rw [S_len, S_len]; exact sz (m := 41) (by show rc.1.length + 1 ≤ 41; omega) (by decide), ?_⟩
        rw [S_cat]
        exact hR _ _ (Same.refl _) fun rc' e => by rw [hrc] at e; cases e; rfl
      · have ey : ys = txs (level sg (i + 1)) := by
          have el : level sg (i + 1) = (bothL (level sg i) sg).map fun rc => rc.1 ++ [rc.2] := by
            unfold bothL
            rw [List.map_flatMap]
            show (level sg i).flatMap (fun r => sg.map fun c => r ++ [c]) = _
            congr 1
            funext r
            rw [List.map_map]; rfl
          unfold txs
          rw [el, List.map_map]
          refine list_map (by rw [hly, List.length_map, hql]) fun j y rc e1 e2 => ?_
          exact hg j y e1 rc e2
        subst ey
        have w := s2.trans w3
        refine ⟨_, rfl, _, rfl, p1, D, _, _, rfl, rfl, w _ _ e1, hDs, ?_, fun g hg' => ?_⟩
        · rw [txs_len, txs_len]
          have := hup i (by omega)
          have := hlv (i + 1) (by omega)
          exact Nat.le_trans (show _ ≤ 9900 by have : (i + 1) * 900 ≤ 9 * 900 := Nat.mul_le_mul (by omega) (Nat.le_refl _); omega) (by decide)
        · have wg := sm_new (o := .lst (txs (upto sg i) ++ txs (level sg (i + 1)))) hg'
          refine ⟨g, D, _, _, _, rfl, s1.trans (w.trans wg), ?_, wg _ _ hDs⟩
          rw [upd_same]
          unfold txs
          rw [← List.map_append]; rfl
    · rintro σ H1 ⟨p1, p2, s4, s5, s6, rfl, s1, e1, e2⟩
      rw [en] at e1
      exact ⟨_, rfl, k p1 H1 s1 e1⟩
end
end Toy
set_option maxHeartbeats 4000000
namespace LX
open PySem PySem.Spec PyProof.Rows L2 C8 SX
theorem fold_cps (l : List Nat) : ∀ (n : Nat) (acc : List Nat), ((List.replicate n (S l).cps).foldl (· ++ ·) acc.toArray) = (acc ++ (List.replicate n l).flatten).toArray
  | 0, acc => by simp
  | n + 1, acc => by
    rw [List.replicate_succ, List.replicate_succ, List.foldl_cons, List.flatten_cons]
    have e : acc.toArray ++ (S l).cps = (acc ++ l).toArray := by simp [S]
    rw [e, fold_cps l n (acc ++ l), List.append_assoc]
section
variable {X : Cx}
theorem op_mul_s3 : OpR X (binaryOp .Mult) (fun x y H Q => ∃ (l : List Nat) (k : Nat), x = .str (S l) ∧ y = .int (k : Nat) ∧ k ≤ 3 ∧ l.length ≤ 1000 ∧ Q (.str (S (List.replicate k l).flatten)) H) := by
  intro pins s σ H x y v u Q I rx ry h
  obtain ⟨l, k, rfl, rfl, hk, hl, q⟩ := h
  obtain ⟨t, rfl⟩ := rx
  obtain ⟨t', rfl⟩ := ry
  have hlen : (S l).length = l.length := S_len l
  by_cases h0 : k = 0
  · subst h0
    exact PySem.P.mul_str_none (by decide) (by decide) ⟨.str (S []), H, I.tok _, ⟨_, rfl⟩, q⟩
  have hk3 : k = 1 ∨ k = 2 ∨ k = 3 := by omega
  refine PySem.P.mul_str ?_ (fun _ _ => ?_) (fun _ _ => ?_) ?_
  · rcases hk3 with rfl | rfl | rfl <;> decide
  · rw [hlen]
    rcases hk3 with rfl | rfl | rfl
    · show ¬ ((l.length : Int) > (2 ^ 63 - 1) / 1); omega
    · show ¬ ((l.length : Int) > (2 ^ 63 - 1) / 2); omega
    · show ¬ ((l.length : Int) > (2 ^ 63 - 1) / 3); omega
  · rw [hlen]
    show decide _ = false
    refine decide_eq_false ?_
    have : l.length * (k : Int).toNat ≤ 3000 := by
      rw [Int.toNat_natCast]
      have := Nat.mul_le_mul hl hk
      omega
    have h2 : sizeLine = 16777216 := sizeLine_eq
    omega
  · rw [if_neg (by omega)]
    by_cases hc : ((k : Int) == 1 || (S l).length == 0) = true
    · rw [if_pos hc]
      have e : S (List.replicate k l).flatten = S l := by
        rcases Bool.or_eq_true_iff.mp hc with h | h
        · have : k = 1 := by have := eq_of_beq h; omega
          subst this; simp
        · have : l = [] := by
            have := eq_of_beq h
            rw [hlen] at this
            exact List.eq_nil_of_length_eq_zero this
          subst this; simp
      rw [e] at q
      exact ⟨.str (S l), H, I, ⟨t, rfl⟩, q⟩
    · rw [if_neg hc]
      have e : (⟨(List.replicate (k : Int).toNat (S l).cps).foldl (· ++ ·) #[]⟩ : Str) = S (List.replicate k l).flatten := by
        rw [Int.toNat_natCast]
        have := fold_cps l k []
        rw [List.nil_append] at this
        show Str.mk _ = Str.mk _
        exact congrArg Str.mk this
      rw [e]
      refine ⟨?_, .str _, H, I.tok _, ⟨_, rfl⟩, q⟩
      rw [S_len, List.length_flatten, List.map_replicate, List.sum_replicate_nat]
      have h2 : sizeLine = 16777216 := sizeLine_eq
      have := Nat.mul_le_mul hk hl
      omega
end
end LX
set_option maxHeartbeats 4000000
namespace LX
open PySem PySem.Spec PyProof.Rows L2 C8 SX
section
variable {X : Cx}
theorem op_mul_sN : OpR X (binaryOp .Mult) (fun x y H Q => ∃ (l : List Nat) (k : Nat), x = .str (S l) ∧ y = .int (k : Nat) ∧ k ≤ 1000 ∧ l.length ≤ 1000 ∧ Q (.str (S (List.replicate k l).flatten)) H) := by
  intro pins s σ H x y v u Q I rx ry h
  obtain ⟨l, k, rfl, rfl, hk, hl, q⟩ := h
  obtain ⟨t, rfl⟩ := rx
  obtain ⟨t', rfl⟩ := ry
  have hlen : (S l).length = l.length := S_len l
  by_cases h0 : k = 0
  · subst h0
    exact PySem.P.mul_str_none (by decide) (by decide) ⟨.str (S []), H, I.tok _, ⟨_, rfl⟩, q⟩
  have hk1 : 1 ≤ k := by omega
  refine PySem.P.mul_str ?_ (fun _ _ => ?_) (fun _ _ => ?_) ?_
  · rw [Bool.or_eq_false_iff, decide_eq_false_iff_not, decide_eq_false_iff_not]; omega
  · rw [hlen]
    have h1 : ((l.length : Nat) : Int) ≤ (2 ^ 63 - 1) / (k : Int) := by
      rw [Int.le_ediv_iff_mul_le (by omega)]
      have : l.length * k ≤ 1000 * 1000 := Nat.mul_le_mul hl hk
      have e : ((l.length : Nat) : Int) * (k : Int) = ((l.length * k : Nat) : Int) := by rw [Int.natCast_mul]
      rw [e]; omega
    omega
  · rw [hlen]
    show decide _ = false
    refine decide_eq_false ?_
    have : l.length * (k : Int).toNat ≤ 1000000 := by
      rw [Int.toNat_natCast]
      have := Nat.mul_le_mul hl hk
      omega
    have h2 : sizeLine = 16777216 := sizeLine_eq
    omega
  · rw [if_neg (by omega)]
    by_cases hc : ((k : Int) == 1 || (S l).length == 0) = true
    · rw [if_pos hc]
      have e : S (List.replicate k l).flatten = S l := by
        rcases Bool.or_eq_true_iff.mp hc with h | h
        · have : k = 1 := by have := eq_of_beq h; omega
          subst this; simp
        · have : l = [] := by
            have := eq_of_beq h
            rw [hlen] at this
            exact List.eq_nil_of_length_eq_zero this
          subst this; simp
      rw [e] at q
      exact ⟨.str (S l), H, I, ⟨t, rfl⟩, q⟩
    · rw [if_neg hc]
      have e : (⟨(List.replicate (k : Int).toNat (S l).cps).foldl (· ++ ·) #[]⟩ : Str) = S (List.replicate k l).flatten := by
        rw [Int.toNat_natCast]
        have := fold_cps l k []
        rw [List.nil_append] at this
        show Str.mk _ = Str.mk _
        exact congrArg Str.mk this
      rw [e]
      refine ⟨?_, .str _, H, I.tok _, ⟨_, rfl⟩, q⟩
      rw [S_len, List.length_flatten, List.map_replicate, List.sum_replicate_nat]
      have h2 : sizeLine = 16777216 := sizeLine_eq
      have := Nat.mul_le_mul hk hl
      omega
end
end LX
set_option maxHeartbeats 2000000
namespace Toy
open PySem L2 C8 SX LX
def cs1 (m : Nat) (sg : List Nat) : List K62.Tx := sg.map fun c => List.replicate (m + 1) c
def cs2 (ds : List Nat) (c : Nat) : List K62.Tx := (ds.filter fun d => decide (d ≠ c)).map fun d => [c, d]
def csL (m : Nat) (sg : List Nat) : List K62.Tx := cs1 m sg ++ sg.flatMap (cs2 sg)
def chk (m : Nat) (sg : List Nat) : Bool := decide (csL m sg).Nodup && (csL m sg).all (fun l => decide (l.length ≤ 4) && decide (l ≠ []) && l.all (fun c => decide (c ∈ sg))) && (csL m sg).all (fun l => (csL m sg).all fun k => decide (l = k) || !Sub l k) && decide ((bgL (csL m sg)).eraseDups.length ≤ 14) && decide ((csL m sg).length ≤ 9)
theorem rep1 (n c : Nat) : (List.replicate n [c]).flatten = List.replicate n c := by
  induction n with
  | zero => rfl
  | succ n ih => rw [List.replicate_succ, List.flatten_cons, ih]; rfl
theorem few_chk : (sgs.all fun sg => [1, 2, 3].all fun m => chk m sg) = true := by decide +kernel
theorem bgL_mono {a b : List K62.Tx} (h : ∀ l ∈ a, l ∈ b) : ∀ u ∈ bgL a, u ∈ bgL b := fun u hu => by
  unfold bgL at hu ⊢
  rcases List.mem_cons.mp hu with rfl | hu
  · exact List.mem_cons_self
  · obtain ⟨l, hl, h2⟩ := List.mem_flatMap.mp hu
    exact List.mem_cons_of_mem _ (List.mem_flatMap.mpr ⟨l, h l hl, h2⟩)
theorem few_drawn {sg : List Nat} {m : Nat} {ps : Ps} (hm : Menu sg) (h1 : 1 ≤ m) (h3 : m ≤ 3) (hs : (ps.map (·.1)).Sublist (csL m sg)) (hr : ∀ p ∈ ps, Ov sg p.2 ∧ OrdL p.2 p.1) : Drawn sg ps 9 ∧ (∀ p ∈ ps, p.1 ≠ []) ∧ ∃ B : List K62.Tx, (∀ u ∈ bgL (lefts ps), u ∈ B) ∧ B.length ≤ 14 := by
  have hc : chk m sg = true := List.all_eq_true.mp (List.all_eq_true.mp few_chk sg hm) m (by
    have : m = 1 ∨ m = 2 ∨ m = 3 := by omega
    rcases this with rfl | rfl | rfl <;> decide)
  unfold chk at hc
  simp only [Bool.and_eq_true, decide_eq_true_eq, List.all_eq_true, Bool.or_eq_true, Bool.not_eq_true'] at hc
  obtain ⟨⟨⟨⟨c1, c2⟩, c3⟩, c4⟩, c5⟩ := hc
  have hmem : ∀ p ∈ ps, p.1 ∈ csL m sg := fun p hp => hs.subset (List.mem_map.mpr ⟨p, hp, rfl⟩)
  refine ⟨⟨fun p hp => ⟨fun c hc => (c2 _ (hmem p hp)).2 c hc, hr p hp⟩, fun p hp => (c2 _ (hmem p hp)).1.1, ?_, ?_⟩, fun p hp => (c2 _ (hmem p hp)).1.2, _, fun u hu => List.mem_eraseDups.mpr (bgL_mono (fun l hl => hs.subset hl) u hu), c4⟩
  · have := hs.length_le
    rw [List.length_map] at this; omega
  · rw [noSub_iff]
    intro i j hi hj hji
    have nd := hs.nodup c1
    have e1 : ∀ i, i < (ps.map (·.1)).length → (ps.map (·.1)).getD i [] ∈ csL m sg := fun i hi => hs.subset (getD_mem hi)
    rcases c3 _ (e1 i hi) _ (e1 j hj) with e | e
    · exfalso
      rw [List.getD_eq_getElem?_getD, List.getD_eq_getElem?_getD, List.getElem?_eq_getElem hi, List.getElem?_eq_getElem hj] at e
      have e : (ps.map (·.1))[i] = (ps.map (·.1))[j] := e
      exact hji ((List.getElem_inj nd).mp e).symm
    · exact e
section
variable {P : Program} {w : World} {K : PySem.W.Frag} {mg : Str → Option Value} {base : Heap}
def FI (sg : List Nat) (st : List K62.Tx) (b fl : Addr) (H H' : Hp) : Prop := Bx b H H' ∧ ∃ (qs : List Addr) (ps : Ps), H' fl = some (.lst (qs.map V.ref)) ∧ PrAt H' qs ps ∧ (ps.map (·.1)).Sublist st ∧ (∀ p ∈ ps, Ov sg p.2 ∧ p.2.length ≤ 4)
theorem FI.skip {sg : List Nat} {st st' : List K62.Tx} {b fl : Addr} {H H' : Hp} (h : FI sg st b fl H H') (hs : st.Sublist st') : FI sg st' b fl H H' := let ⟨h0, qs, ps, h1, h2, h3, h4⟩ := h; ⟨h0, qs, ps, h1, h2, h3.trans hs, h4⟩
theorem FI.same {sg : List Nat} {st : List K62.Tx} {b fl : Addr} {H H' H2 : Hp} (h : FI sg st b fl H H') (s : Same H' H2) : FI sg st b fl H H2 := let ⟨h0, qs, ps, h1, h2, h3, h4⟩ := h; ⟨bxsm h0 s, qs, ps, s _ _ h1, h2.same s, h3, h4⟩
theorem FI.box {sg : List Nat} {st : List K62.Tx} {b fl : Addr} {H H' H2 : Hp} (h : FI sg st b fl H H') (hn : fl ≠ b) (hB : Bx b H' H2) : FI sg st b fl H H2 := let ⟨h0, qs, ps, h1, h2, h3, h4⟩ := h; ⟨⟨fun a o n e => hB.1 _ _ n (h0.1 _ _ n e), hB.2⟩, qs, ps, hB.1 _ _ hn h1, h2.bx h0.2 hB, h3, h4⟩
theorem FI.add {sg : List Nat} {st : List K62.Tx} {b fl q : Addr} {H H' : Hp} {p : List Nat × List Nat} (h : FI sg st b fl H H') (hfl : H fl = none) (hn : fl ≠ b) (hq : H' q = none) (ho : Ov sg p.2) (hl : p.2.length ≤ 4) {xs : List V} (hx : (upd H' q (.tup [.str (S p.1), .str (S p.2)])) fl = some (.lst xs)) :
    FI sg (st ++ [p.1]) b fl H (upd (upd H' q (.tup [.str (S p.1), .str (S p.2)])) fl (.lst (xs ++ [.ref q]))) := by
  obtain ⟨h0, qs, ps, h1, h2, h3, h4⟩ := h
  have sq := sm_new (o := .tup [.str (S p.1), .str (S p.2)]) hq
  have e1 := sq _ _ h1
  rw [e1] at hx
  cases hx
  refine ⟨⟨fun a o n e => ?_, ?_⟩, qs ++ [q], ps ++ [p], by rw [upd_same, List.map_append]; rfl, ?_, ?_, fun p' hp' => ?_⟩
  · rw [upd_ne (fun z => by rw [z, hfl] at e; cases e)]
    exact sq _ _ (h0.1 _ _ n e)
  · obtain ⟨o, e, hp⟩ := h0.2
    exact ⟨o, by rw [upd_ne hn.symm]; exact sq _ _ e, hp⟩
  · exact pr_app ((h2.same sq).put e1) (.cons (by rw [upd_ne (fun z => by rw [← z, upd_same] at e1; cases e1), upd_same]) .nil)
  · rw [List.map_append]
    exact h3.append (List.Sublist.refl _)
  · rcases List.mem_append.mp hp' with h | h
    · exact h4 p' h
    · rw [List.mem_singleton.mp h]; exact ⟨ho, hl⟩
theorem taken_filter {α : Type} (l : List α) (z : α) (f : α → Bool) : (takenN (fun j => f (l.getD j z)) l.length).map (fun j => l.getD j z) = l.filter f := by
  have e : (List.range l.length).map (fun j => l.getD j z) = l := by
    refine List.ext_getElem (by simp) fun i h1 h2 => ?_
    rw [List.getElem_map, List.getElem_range, List.getD_eq_getElem?_getD, List.getElem?_eq_getElem h2]; rfl
  conv => rhs; rw [← e]
  rw [List.filter_map]; rfl
abbrev s_few : Stmt := top 37
abbrev n_few : List Str := ["box", "signs", "many", "found", "sign", "one", "other", "pair"]
theorem sc_few : FnScope n_few ["box", "signs"] (fnScope s_few) := fnScope_by (by decide +kernel)
def spFew : Sp := fun vs H Q _ => ∃ (b : Addr) (sg : List Nat), vs = [.ref b, .str (S sg)] ∧ Menu sg ∧ BoxAt b H ∧
  ∀ (p : Addr) (qs : List Addr) (ps : Ps) (H' : Hp), Bx b H H' → H p = none → H' p = some (.lst (qs.map V.ref)) → PrAt H' qs ps → Drawn sg ps 9 → (∀ p ∈ ps, p.1 ≠ []) → (∃ B : List K62.Tx, (∀ u ∈ bgL (lefts ps), u ∈ B) ∧ B.length ≤ 14) → Q (.ref p) H'
theorem ok_few (T : BT mg) (c_take : Cal P w K mg base 1 "_law_take" spTake []) (c_pick : Cal P w K mg base 2 "_law_pick" (spPick K) []) (c_rank : Cal P w K mg base 1 "_law_rank" spOrd []) {f : Addr} {fd : FuncData} (F : Def K mg "_law_few" s_few f fd) (b : Binds K fd ["box", "signs"] []) : Cal P w K mg base 3 "_law_few" spFew [] := by
  refine cal0 F b .nil sc_few (fun vs H Q E h => ?_) (fun cdv A outer s H vs Q E hr h => ?_)
  · obtain ⟨b, sg, rfl, _⟩ := h; rfl
  · obtain ⟨b, sg, rfl, hm, hb, k⟩ := h
    have hsl := menu_len hm
    refine ⟨_, (pss_cons (ps_par (i := 2) (j := 3) rfl sc_few.nd rfl rfl (by decide) rfl rfl (pa_cons (pe_op op_add pe_int (pe_c c_take hr (by first | decide | omega) (by rfl) (pa_cons (pv 0) (pa_cons pe_int pa_nil)))) (pa_cons (pe_lst pa_nil) pa_nil)) rfl)
      (pss_cons (ps_for PassesOwn.never rfl (pi_str (pv 1)) (pg_name (i := 4) sc_few.nd rfl (.inl rfl)) 
        (pss_one (ps_expr (pe_bm PySem.F.plainAttrs_list PySem.F.slot_list_append PySem.F.type_list_append mt_append (pv 3) (pa_cons (pe_tup (pa_cons (pe_op op_mul_sN (pv 4) (pe_op op_add (pv 2) pe_int)) (pa_cons (pe_op op_mul_sN (pv 4) (pe_c c_take hr (by first | decide | omega) (by rfl) (pa_cons (pv 0) (pa_cons (pe_op op_add (pv 2) pe_int) pa_nil)))) pa_nil))) pa_nil)))
        ))
      (pss_cons (ps_for PassesOwn.never rfl (pi_str (pv 1)) (pg_name (i := 5) sc_few.nd rfl (.inl rfl)) 
        (pss_one (ps_for PassesOwn.never rfl (pi_str (pv 1)) (pg_name (i := 6) sc_few.nd rfl (.inl rfl)) 
          (pss_one (ps_if (PW.pt (pw_or (pt_cmpR op_gt_str (pv 5) (pv 6) (nomark _)) (pw_or1 (PW.pt (pw_and (pt_cmpR op_lt_str (pv 5) (pv 6) (nomark _)) (pw_and (pt_cmpR op_eq (pe_c c_take hr (by first | decide | omega) (by rfl) (pa_cons (pv 0) (pa_cons pe_int pa_nil))) pe_int (nomark _)) (pw_and1 (pt_cmpR op_gt (pv 2) pe_int (nomark _))))))))) 
            (pss_one (ps_expr (pe_bm PySem.F.plainAttrs_list PySem.F.slot_list_append PySem.F.type_list_append mt_append (pv 3) (pa_cons (pe_tup (pa_cons (pe_op op_add_str (pv 5) (pv 6)) (pa_cons (pe_c c_pick hr (by first | decide | omega) (by rfl) (pa_cons (pv 0) (pa_cons (pe_lst (pa_cons pe_str (pa_cons (pv 5) (pa_cons (pe_ix ix_str (pv 1) pe_int (fun _ _ => rfl)) pa_nil)))) pa_nil))) pa_nil))) pa_nil)))
            )
           pss_nil)
          ))
        ))
      (pss_one (ps_ret (pe_lc (own := [("pair", 7)]) rfl sc_few.nd (pi_list (pv 3)) (blkOk_by (N := n_few) (sc := fnScope s_few) (by decide +kernel)) (fun _ _ _ _ _ => (pg_name (i := 7) sc_few.nd rfl (.inl rfl))) (fun _ _ _ _ _ => pts_one (pt_cmpR (op_ltP hr.units0) (pe_c c_rank hr (by first | decide | omega) (by rfl) (pa_cons (pe_ix (ixt K) (pv 7) pe_int (fun _ _ => rfl)) pa_nil)) (pe_c c_rank hr (by first | decide | omega) (by rfl) (pa_cons (pe_ix (ixt K) (pv 7) pe_int (fun _ _ => rfl)) pa_nil)) (nomark _))) (fun _ _ _ _ _ => (pv 7))))
      )))), ?_⟩
    refine ⟨_, rfl, b, 3, rfl, hb, by decide, by decide, fun d H1 d0 d3 hB1 => ⟨_, _, rfl, rfl, ?_⟩⟩
    refine ⟨by show 0 ≤ sizeLine; decide, fun fl hfl1 => ⟨_, _, rfl, ?_⟩⟩
    obtain ⟨m, hmd, hm1, hm3⟩ : ∃ m : Nat, (1 : Int) + d = (m : Nat) ∧ 1 ≤ m ∧ m ≤ 3 := ⟨(1 + d).toNat, by omega, by omega, by omega⟩
    dsimp only
    rw [hmd]
    have hfl : H fl = none := by
      cases e : H fl with
      | none => rfl
      | some o =>
        exfalso
        by_cases z : fl = b
        · obtain ⟨o', e', _⟩ := hB1.2; rw [z, e'] at hfl1; cases hfl1
        · rw [hB1.1 _ _ z e] at hfl1; cases hfl1
    have nfb : fl ≠ b := box_ne hb hfl
    have I0 : FI sg [] b fl H (upd H1 fl (.lst [])) := ⟨⟨fun a o n e => by rw [upd_ne (fun z => by rw [z, hfl] at e; cases e)]; exact hB1.1 _ _ n e, let ⟨o, e, p⟩ := hB1.2; ⟨o, by rw [upd_ne nfb.symm]; exact e, p⟩⟩, [], [], upd_same, .nil, .slnil, fun _ h => nomatch h⟩
    generalize upd H1 fl (.lst []) = H2 at I0 ⊢
    refine ⟨_, rfl, _, rfl, for_it walk_str (fun i σ H' => ∃ s4 : Option V, σ = [some (.ref b), some (.str (S sg)), some (.int (m : Nat)), some (.ref fl), s4, none, none, none] ∧ FI sg (cs1 m (sg.take i)) b fl H H') ⟨_, rfl, I0⟩ (fun _ _ _ _ _ => trivial) ?_ ?_⟩
    · clear I0 hfl1 hB1
      rintro i x σ H3 H3' hi ⟨s4, rfl, I3⟩ ⟨rfl, c, hc, rfl⟩
      have hc : sg[i]? = some c := by simpa [S] using hc
      obtain ⟨⟨_, e0⟩, qs, ps, e1, hpp, hsb, _⟩ := id I3
      refine ⟨_, rfl, .inl ⟨rfl, _, SqL.of e1⟩, ?_⟩
      refine ⟨_, rfl, _, rfl, _, _, rfl, rfl, [c], m + 1, rfl, congrArg V.int (by omega), by omega, by show 1 ≤ 1000; decide, ?_⟩
      refine ⟨_, rfl, _, rfl, _, rfl, _, _, rfl, rfl, b, (m : Int) + 1, rfl, e0, by omega, by omega, fun d H4 d0 d4 hB4 => ⟨[c], d.toNat, rfl, congrArg V.int (by omega), by omega, by show 1 ≤ 1000; decide, by show 2 ≤ sizeLine; decide, fun q hq => ?_⟩⟩
      have I4 := I3.box nfb hB4
      have hcm : c ∈ sg := List.mem_of_getElem? hc
      have e4 : (upd H4 q (.tup [.str (S (List.replicate (m + 1) [c]).flatten), .str (S (List.replicate d.toNat [c]).flatten)])) fl = some (.lst (qs.map V.ref)) := sm_new hq _ _ (hB4.1 _ _ nfb e1)
      have hql : qs.length ≤ 9 := by
        have h1 := hpp.len
        have h2 := hsb.length_le
        rw [List.length_map] at h2
        unfold cs1 at h2
        rw [List.length_map, List.length_take] at h2
        omega
      refine ⟨fl, _, _, rfl, rfl, e4, by rw [List.length_map]; exact small1000 (by omega), ?_⟩
      have hA := I4.add (q := q) (p := ((List.replicate (m + 1) [c]).flatten, (List.replicate d.toNat [c]).flatten)) hfl nfb hq (fun y hy => ?_) ?_ e4
      · refine ⟨_, rfl, ?_⟩
        have : cs1 m (sg.take (i + 1)) = cs1 m (sg.take i) ++ [(List.replicate (m + 1) [c]).flatten] := by
          unfold cs1
          rw [take_more hc, List.map_append, rep1]; rfl
        rw [this]
        exact hA
      · have hy : y ∈ (List.replicate d.toNat [c]).flatten := hy
        rw [rep1] at hy
        rw [List.eq_of_mem_replicate hy]; exact hcm
      · show ((List.replicate d.toNat [c]).flatten).length ≤ 4
        rw [rep1, List.length_replicate]; omega
    · rintro σ H3 ⟨s4, rfl, I3⟩
      have I3 : FI sg (cs1 m sg ++ (sg.take 0).flatMap (cs2 sg)) b fl H H3 := by
        have e : (sg.take (S sg).cps.size) = sg := by simp [S]
        rw [e] at I3
        rw [List.take_zero, List.flatMap_nil, List.append_nil]; exact I3
      refine ⟨_, rfl, _, rfl, for_it walk_str (fun i σ H' => ∃ s4 s5 s6 : Option V, σ = [some (.ref b), some (.str (S sg)), some (.int (m : Nat)), some (.ref fl), s4, s5, s6, none] ∧ FI sg (cs1 m sg ++ (sg.take i).flatMap (cs2 sg)) b fl H H') ⟨_, _, _, rfl, I3⟩ (fun _ _ _ _ _ => trivial) ?_ ?_⟩
      · clear I3 s4
        rintro i x σ H4 H4' hi ⟨s4, s5, s6, rfl, I4⟩ ⟨rfl, c, hc, rfl⟩
        have hc : sg[i]? = some c := by simpa [S] using hc
        have I4 : FI sg (cs1 m sg ++ (sg.take i).flatMap (cs2 sg) ++ cs2 (sg.take 0) c) b fl H H4' := by
          rw [List.take_zero]; show FI sg (_ ++ []) b fl H H4'; rw [List.append_nil]; exact I4
        refine ⟨_, rfl, _, rfl, for_it walk_str (fun j σ H' => ∃ s4 s6 : Option V, σ = [some (.ref b), some (.str (S sg)), some (.int (m : Nat)), some (.ref fl), s4, some (.str (S [c])), s6, none] ∧ FI sg (cs1 m sg ++ (sg.take i).flatMap (cs2 sg) ++ cs2 (sg.take j) c) b fl H H') ⟨_, _, rfl, I4⟩ (fun _ _ _ _ _ => trivial) ?_ ?_⟩
        · clear I4 s4 s6 s5
          rintro j x σ H5 H5' hj ⟨s4, s6, rfl, I5⟩ ⟨rfl, d, hd, rfl⟩
          have hd : sg[j]? = some d := by simpa [S] using hd
          have hdm : d ∈ sg := List.mem_of_getElem? hd
          have hcm : c ∈ sg := List.mem_of_getElem? hc
          have hlt1 : ∀ x y : Nat, decide ((⟨#[x]⟩ : Str).cps.toList < (⟨#[y]⟩ : Str).cps.toList) = decide (x < y) := fun x y => by
            rw [decide_eq_decide]
            show [x] < [y] ↔ x < y
            rw [List.cons_lt_cons_iff]
            simp
          have fin : ∀ H6, FI sg (cs1 m sg ++ (sg.take i).flatMap (cs2 sg) ++ cs2 (sg.take j) c) b fl H H6 → FI sg (cs1 m sg ++ (sg.take i).flatMap (cs2 sg) ++ cs2 (sg.take (j + 1)) c) b fl H H6 := fun H6 h => h.skip (by
            refine List.Sublist.append (List.Sublist.refl _) ?_
            unfold cs2
            rw [take_more hd, List.filter_append, List.map_append]
            exact List.sublist_append_left _ _)
          refine ⟨_, rfl, _, rfl, _, _, rfl, rfl, _, rfl, ?_⟩
          have hs0 : ∃ c0, sg[0]? = some c0 ∧ c0 ∈ sg := ⟨_, List.getElem?_eq_getElem hsl.1, List.getElem_mem _⟩
          obtain ⟨c0, hc0, hc0m⟩ := hs0
          have hc0' : (S sg).cps.toList[0]? = some c0 := by simpa [S] using hc0
          have h12 : ∀ H6, FI sg (cs1 m sg ++ (sg.take i).flatMap (cs2 sg) ++ cs2 (sg.take j) c) b fl H H6 → ∀ qs : List Addr, H6 fl = some (.lst (qs.map V.ref)) → qs.length ≤ 12 := fun H6 h qs hq => by
            obtain ⟨_, qs', ps, e1, hpp, hsb, _⟩ := h
            rw [hq] at e1
            have e2 := congrArg List.length (HO.lst.inj (Option.some.inj e1))
            rw [List.length_map, List.length_map] at e2
            have h1 := hpp.len
            have h2 := hsb.length_le
            rw [List.length_map, List.length_append, List.length_append] at h2
            have h3 : (cs1 m sg).length ≤ 3 := by unfold cs1; rw [List.length_map]; omega
            have h4 : ∀ ds : List Nat, ∀ e, (cs2 ds e).length ≤ ds.length := fun ds e => by unfold cs2; rw [List.length_map]; exact List.length_filter_le _ _
            have h5 : ∀ l : List Nat, (l.flatMap (cs2 sg)).length ≤ l.length * 3 := fun l => by
              induction l with
              | nil => exact Nat.le_refl _
              | cons e l ih =>
                rw [List.flatMap_cons, List.length_append, List.length_cons, Nat.add_mul]
                have := h4 sg e
                omega
            have h6 := h5 (sg.take i)
            have h7 := h4 (sg.take j) c
            rw [List.length_take] at h6 h7
            have hil := (List.getElem?_eq_some_iff.mp hc).1
            have hjl := (List.getElem?_eq_some_iff.mp hd).1
            have : min i sg.length * 3 ≤ 2 * 3 := Nat.mul_le_mul (by omega) (Nat.le_refl _)
            omega
          by_cases h1 : d < c
          rotate_left
          refine iteN ((hlt1 d c).trans (decide_eq_false h1)) ?_
          refine ⟨_, rfl, _, rfl, _, _, rfl, rfl, _, rfl, ?_⟩
          by_cases h2 : ¬ c < d
          · refine iteN ((hlt1 c d).trans (decide_eq_false h2)) (iteN rfl ?_)
            exact ⟨_, _, rfl, fin _ I5⟩
          refine iteB ((hlt1 c d).trans (decide_eq_true (Decidable.not_not.mp h2))) ?_
          refine ⟨_, rfl, b, 4, rfl, I5.1.2, by decide, by decide, fun d4 H6 d40 d44 hB6 => ⟨rfl, _, rfl, ?_⟩⟩
          have I6 := I5.box nfb hB6
          have hne : d ≠ c := fun e => h2 (by omega)
          by_cases h3 : ¬ V.int d4 = V.int 0
          · refine iteN (decide_eq_false h3) (iteN rfl ?_)
            exact ⟨_, _, rfl, fin _ I6⟩
          refine iteB (decide_eq_true (Decidable.not_not.mp h3)) ?_
          refine ⟨_, rfl, _, _, rfl, rfl, _, rfl, ?_⟩
          by_cases h4 : ¬ (1 : Int) < (m : Int)
          · exact iteN (decide_eq_false h4) ⟨_, _, rfl, fin _ I6⟩
          refine iteB (decide_eq_true (Decidable.not_not.mp h4)) ?_
          clear h1 h2 h3 h4 hB6 d40 d44 I5
          rotate_left
          refine iteB ((hlt1 d c).trans (decide_eq_true h1)) (iteB rfl ?_)
          have hne : d ≠ c := by omega
          have I6 := I5
          clear h1 I5
          all_goals
            obtain ⟨⟨_, e0⟩, qs, ps, e1, hpp, hsb, _⟩ := id I6
            refine ⟨_, rfl, .inl ⟨rfl, _, SqL.of e1⟩, ?_⟩
            refine ⟨_, rfl, _, rfl, _, _, rfl, rfl, by show 1 + 1 ≤ sizeLine; decide, ?_⟩
            rw [show (S [c] ++ ({ cps := #[d] } : Str)) = S [c, d] from S_cat [c] [d]]
            refine ⟨_, rfl, _, rfl, _, rfl, S sg, 0, c0, rfl, rfl, by rw [S_len]; exact sz hsl.2 (by decide), by show atI (S sg).cps.toList ((0 : Nat) : Int) = some c0; exact atI_nat hc0', by show 3 ≤ sizeLine; decide, fun l hl => ?_⟩
            have nlb : V.ref l ≠ V.ref b := fun e => by obtain ⟨o, eo, _⟩ := e0; cases e; rw [eo] at hl; cases hl
            have sl := sm_new (o := .lst [.str (Str.ofString ""), .str (S [c]), .str ⟨#[c0]⟩]) hl
            refine ⟨b, .ref l, _, rfl, (bk_same sl e0).2, nlb, .inl ⟨l, rfl, .inl (SqL.of upd_same)⟩, by show 0 < 3; decide, by show 3 < 1000; decide, fun v H7 hv hB7 => ?_⟩
            obtain ⟨r, rfl, hro, hrl⟩ : ∃ r, v = .str (S r) ∧ Ov sg r ∧ r.length ≤ 4 := by
              simp only [List.mem_cons, List.not_mem_nil, or_false] at hv
              rcases hv with rfl | rfl | rfl
              · exact ⟨[], by rw [s_nil], fun _ h => (nomatch h), by decide⟩
              · exact ⟨[c], rfl, fun y hy => by rw [List.mem_singleton.mp hy]; exact hcm, by show 1 ≤ 4; decide⟩
              · exact ⟨[c0], rfl, fun y hy => by rw [List.mem_singleton.mp hy]; exact hc0m, by show 1 ≤ 4; decide⟩
            refine ⟨by show 2 ≤ sizeLine; decide, fun q hq => ?_⟩
            have I7 := (I6.same sl).box nfb hB7
            have e7 : (upd H7 q (.tup [.str (S [c, d]), .str (S r)])) fl = some (.lst (qs.map V.ref)) := sm_new hq _ _ (hB7.1 _ _ nfb (sl _ _ e1))
            refine ⟨fl, _, _, rfl, rfl, e7, by rw [List.length_map]; exact small1000 (by have := h12 _ I6 _ e1; omega), ?_⟩
            refine ⟨_, _, rfl, ?_⟩
            have hA := I7.add (q := q) (p := ([c, d], r)) hfl nfb hq hro hrl e7
            rw [show cs1 m sg ++ (sg.take i).flatMap (cs2 sg) ++ cs2 (sg.take (j + 1)) c = cs1 m sg ++ (sg.take i).flatMap (cs2 sg) ++ cs2 (sg.take j) c ++ [[c, d]] by
              unfold cs2
              rw [take_more hd, List.filter_append, List.map_append, List.filter_cons_of_pos (by simpa using hne)]
              simp only [List.append_assoc]; rfl]
            exact hA
        · rintro σ H5 ⟨s4, s6, rfl, I5⟩
          refine ⟨_, _, _, rfl, ?_⟩
          have e : (sg.take (S sg).cps.size) = sg := by simp [S]
          rw [e] at I5
          rw [take_more hc, List.flatMap_append, List.flatMap_singleton, ← List.append_assoc]
          exact I5
      · rintro σ H4 ⟨s4, s5, s6, rfl, I4⟩
        have e : (sg.take (S sg).cps.size) = sg := by simp [S]
        rw [e] at I4
        obtain ⟨hB, qs, ps, e1, hpp, hsb, hrt⟩ := I4
        have hql := hpp.len
        have hcl : (csL m sg).length ≤ 9 := by
          have hc : chk m sg = true := List.all_eq_true.mp (List.all_eq_true.mp few_chk sg hm) m (by
            have : m = 1 ∨ m = 2 ∨ m = 3 := by omega
            rcases this with rfl | rfl | rfl <;> decide)
          unfold chk at hc
          simp only [Bool.and_eq_true, decide_eq_true_eq] at hc
          exact hc.2
        have hcs4 : ∀ l ∈ csL m sg, l.length ≤ 4 := by
          have hc : chk m sg = true := List.all_eq_true.mp (List.all_eq_true.mp few_chk sg hm) m (by
            have : m = 1 ∨ m = 2 ∨ m = 3 := by omega
            rcases this with rfl | rfl | rfl <;> decide)
          unfold chk at hc
          simp only [Bool.and_eq_true, decide_eq_true_eq, List.all_eq_true] at hc
          exact fun l hl => (hc.1.1.1.2 l hl).1.1
        have hpl : ps.length ≤ 9 := by
          have := hsb.length_le
          rw [List.length_map] at this
          exact Nat.le_trans this hcl
        refine ⟨_, rfl, fl, rfl, ⟨_, SqL.of e1⟩, fun D hD => ?_⟩
        refine lc_keepF keep_same (walk_list (K := K) (a := fl) (xs := qs.map V.ref)) hD (by rw [List.length_map]; exact small1000 (by omega)) (fun j => decide (OrdL (ps.getD j ([], [])).2 (ps.getD j ([], [])).1)) (fun j y H => ∃ q, qs[j]? = some q ∧ y = .ref q) (fun H r => SqL.of (r _ _ e1))
          (fun _ _ _ _ _ _ h => h) (fun _ _ _ _ _ _ _ h => h) (fun j x H5 H6 acc N R hj r hDa hy hR hN => ?_) (fun ys H5 hly hg w5 hDs => ?_)
        · obtain ⟨rfl, ex⟩ := hy
          rw [List.length_map, hql] at hj
          obtain ⟨q, hq, hH⟩ := hpp.at j hj
          rw [List.getElem?_map, hq] at ex
          obtain rfl := Option.some.inj ex
          have hH5 := r _ _ hH
          have hpj : ps.getD j ([], []) ∈ ps := by rw [List.getD_eq_getElem?_getD, List.getElem?_eq_getElem hj]; exact List.getElem_mem hj
          have l1 : (ps.getD j ([], [])).1.length ≤ 4 := hcs4 _ (hsb.subset (List.mem_map.mpr ⟨_, hpj, rfl⟩))
          have l2 := (hrt _ hpj).2
          generalize ps.getD j ([], []) = p at hH5 hR hN l1 l2
          refine ⟨rfl, _, rfl, q, _, 1, _, rfl, rfl, SqT.of hH5, rfl, p.2, rfl, by omega, fun t H7 s7 ht7 => ⟨_, rfl, q, _, 0, _, rfl, rfl, SqT.of (s7 _ _ hH5), rfl, p.1, rfl, by omega, fun t2 H8 s8 ht8 => ⟨t, t2, _, _, rfl, rfl, s8 _ _ ht7, ht8, _, rfl, ?_⟩⟩⟩
          by_cases hord : OrdL p.2 p.1
          · exact iteB (decide_eq_true hord) ⟨_, rfl, hR (decide_eq_true hord) _ _ (s7.trans s8) ⟨q, hq, rfl⟩⟩
          · exact iteN (decide_eq_false hord) (hN (decide_eq_false hord) _ (s7.trans s8))
        · rw [List.length_map, hql] at hly hg
          have hf := taken_filter ps ([], []) (fun p => decide (OrdL p.2 p.1))
          generalize hT : takenN (fun j => decide (OrdL (ps.getD j ([], [])).2 (ps.getD j ([], [])).1)) ps.length = T0 at hly hg hf
          have ey : ys = (T0.map fun j => qs.getD j 0).map V.ref := by
            rw [List.map_map]
            refine list_map hly fun j y c e1 e2 => ?_
            obtain ⟨q, hq, rfl⟩ := hg j c y e2 e1
            show V.ref q = V.ref (qs.getD c 0)
            rw [List.getD_eq_getElem?_getD, hq]; rfl
          subst ey
          have w5' := hpp.same w5
          obtain ⟨d1, d2, d3⟩ := few_drawn (ps := ps.filter fun p => decide (OrdL p.2 p.1)) hm hm1 hm3 ((List.filter_sublist.map _).trans hsb) (fun p hp => ⟨(hrt p (List.mem_filter.mp hp).1).1, of_decide_eq_true (List.mem_filter.mp hp).2⟩)
          refine k D _ (ps.filter fun p => decide (OrdL p.2 p.1)) H5 (bxsm hB w5) ?_ hDs ?_ d1 d2 d3
          · cases e : H D with
            | none => rfl
            | some o =>
              exfalso
              by_cases z : D = b
              · obtain ⟨o', e', _⟩ := hB.2; rw [z, e'] at hD; cases hD
              · rw [hB.1 _ _ z e] at hD; cases hD
          · rw [← hf]
            refine pr_idx (by rw [List.length_map, List.length_map]) fun j u p h1 h2 => ?_
            rw [List.getElem?_map] at h1 h2
            obtain ⟨n, hn, rfl⟩ := Option.map_eq_some_iff.mp h1
            rw [hn] at h2
            obtain rfl := Option.some.inj h2
            have hnl : n < ps.length := by
              have hmn := List.mem_of_getElem? hn
              rw [← hT] at hmn
              exact List.mem_range.mp (List.mem_filter.mp hmn).1
            obtain ⟨q, hq, hH⟩ := w5'.at n hnl
            rw [show qs.getD n 0 = q by rw [List.getD_eq_getElem?_getD, hq]; rfl]
            exact hH
end
end Toy
set_option maxHeartbeats 4000000
namespace LX
open PySem PySem.Spec PyProof.Rows L2 C8 SX ClX
structure CalK (P : Program) (w : World) (K : PySem.W.Frag) (mg : Str → Option Value) (base : Heap) (k : Nat) (x : Str) (ks : List Str) (gV : List V → List V → List V) (sp : Sp) : Prop where
  ex : ∃ (f : Addr) (fd : FuncData) (ps : List Str) (g : List Value → List Value → List Value), FnOk P w K mg base C8.CX0 k f fd ps sp ∧ mg x = some (.ref f) ∧ PySem.W.keepIn K (.ref f) = true ∧ KBn K fd ps 0 ks g gV
def tCallK0 (n : Nat) (sp : Sp) (gV : List V → List V → List V) (tk : TA) : TE := fun σ H Q => tk σ H fun zs H2 => zs.length = n ∧ sp (gV [] zs) H2 Q C8.E0
structure MetK (P : Program) (w : World) (K : PySem.W.Frag) (mg : Str → Option Value) (base : Heap) (k : Nat) (C : Addr) (m : Str) (ks : List Str) (gV : List V → List V → List V) (sp : Sp) : Prop where
  ex : ∃ (f : Addr) (fd : FuncData) (ps : List Str) (g : List Value → List Value → List Value), Cls K C ∧ Meth K C m f ∧ FnOk P w K mg base C8.CX0 k f fd ps sp ∧ KBn K fd ps 1 ks g gV
def tMethK0 (C : Addr) (m : Str) (n : Nat) (sp : Sp) (gV : List V → List V → List V) (te tk : TA) (ta : TE) : TE := fun σ H Q => ta σ H fun x H1 => ∃ a dx fs, x = V.ref a ∧ H1 a = some (.ins C dx fs) ∧ fs.lookup m = none ∧ tk σ H1 fun zs H2 => zs.length = n ∧ sp (gV [.ref a] zs) H2 Q C8.E0
structure CMK (P : Program) (w : World) (K : PySem.W.Frag) (mg : Str → Option Value) (base : Heap) (k : Nat) (C : Addr) (m : Str) (ks : List Str) (gV : List V → List V → List V) (sp : Sp) : Prop where
  ex : ∃ (p g : Addr) (fd : FuncData) (ps : List Str) (mc : Value) (gg : List Value → List Value → List Value), CRead K C mc ∧ CMet K C mc m p g ∧ FnOk P w K mg base (L2.CX P w) k g fd ps sp ∧ KBn K fd ps 1 ks gg gV
def tCMK (C : Addr) (n : Nat) (sp : Sp) (gV : List V → List V → List V) (E : L2.St → XK) (ta : TE) (tk : TA) : TE := fun σ H Q => ta σ H fun x H1 => x = .ref C ∧ tk σ H1 fun zs H2 => zs.length = n ∧ sp (gV [.ref C] zs) H2 Q (E σ)
section
variable {X : Cx} {k j : Nat} {C : Addr} {sp : Sp} {x m : Str} {ks : List Str} {p pos apos : Pos} {tk : TA} {ta : TE} {kws : List Keyword} {W : WX} {gV : List V → List V → List V} {o : Expr} {pl : Sem Bool}
theorem pe_cK (c : CalK X.prog X.w X.K X.mg X.base k x ks gV sp) (hr : Room j X.A) (hk : k ≤ j) (hg : Gl X x) (hkw : PK X kws tk) (hall : (backToKw pos (keywordEach kws X.env)).all (·.1.isSome) = true := by rfl) (hks : (backToKw pos (keywordEach kws X.env)).filterMap (·.1) = ks := by rfl)
    (hdb : (x == ("__debug__" : Str)) = false := by decide)
    (hpl : ((backTo pos (starEach [] X.env)).any (·.1) || (backToKw pos (keywordEach kws X.env)).any (·.1.isNone)) = false := by rfl) : PE X (.Call (.Name x p) [] kws pos) (tCallK0 ks.length sp gV tk) := by
  obtain ⟨f, fd, ps, g, F, hm, kp, kb⟩ := c.ex
  refine ⟨fun pins s σ H Q I h => ?_⟩
  refine wpAny_Call_Name_kw (ld_glob I hg hm ?_ hdb)
  refine PySem.W.callWith_KW0 (h₀ := X.base) I.ok.mod.kin kp hall (thn (hkw.run pos pins s σ H _ I h) fun ws s2 ⟨zs, H2, I2, rz, hz, q2⟩ => ⟨I2.kIn, ?_⟩) hpl
  rw [hks]
  exact run_fnN F (hr.mono hk) kb C8.pass0 I2 .nil rz rfl hz q2
theorem pe_mtK (c : MetK X.prog X.w X.K X.mg X.base k C m ks gV sp) (hr : Room j X.A) (hk : k ≤ j) (he : PE X o ta) (hkw : PK X kws tk) (hall : (backToKw pos (keywordEach kws X.env)).all (·.1.isSome) = true := by rfl) (hks : (backToKw pos (keywordEach kws X.env)).filterMap (·.1) = ks := by rfl)
    (hpl : ((backTo pos (starEach [] X.env)).any (·.1) || (backToKw pos (keywordEach kws X.env)).any (·.1.isNone)) = false := by rfl)
    (ht : eval (.Call (.Attribute o m apos) [] kws pos) X.env = (do
      let ov ← eval o X.env
      standAt apos.atName
      let (f, first) ← holding [ov] (getMethod ov m pl)
      callWith pos f first (backTo pos (starEach [] X.env)) (backToKw pos (keywordEach kws X.env))) := by rfl) :
    PE X (.Call (.Attribute o m apos) [] kws pos) (tMethK0 C m ks.length sp gV tNil tk ta) := by
  obtain ⟨f, fd, ps, g, cl, me, F, kb⟩ := c.ex
  refine ⟨fun pins s σ H Q I h => ?_⟩
  refine PySem.W.methodCall_KW (pl := pl) (thn (he.run pins s σ H _ I h) fun u s1 ⟨x, H1, I1, rx, a, dx, fs, ex, ea, l, q⟩ => ?_) ht
  subst ex
  obtain rfl : u = Value.ref a := rx
  refine getmeth_ok I1 ea cl me l ?_
  refine PySem.W.callWith_KW0 (first := [.ref a]) (h₀ := X.base) I.ok.mod.kin me.kp hall (thn (hkw.run pos pins s1 σ H1 _ I1 q) fun ws s2 ⟨zs, H2, I2, rz, hz, q2⟩ => ⟨I2.kIn, ?_⟩) hpl
  rw [hks]
  exact run_fnN (us := [.ref a]) (vs := [.ref a]) F (hr.mono hk) kb C8.pass0 I2 (.cons rfl .nil) rz rfl hz q2
theorem pe_cmK (c : CMK X.prog X.w X.K X.mg X.base k C m ks gV sp) (tk' : Takes X W) (hr : Room j X.A) (hk : k ≤ j) (he : PE X o ta) (hkw : PK X kws tk) (hall : (backToKw pos (keywordEach kws X.env)).all (·.1.isSome) = true := by rfl) (hks : (backToKw pos (keywordEach kws X.env)).filterMap (·.1) = ks := by rfl)
    (hpl : ((backTo pos (starEach [] X.env)).any (·.1) || (backToKw pos (keywordEach kws X.env)).any (·.1.isNone)) = false := by rfl)
    (ht : eval (.Call (.Attribute o m apos) [] kws pos) X.env = (do
      let ov ← eval o X.env
      standAt apos.atName
      let (f, first) ← holding [ov] (getMethod ov m pl)
      callWith pos f first (backTo pos (starEach [] X.env)) (backToKw pos (keywordEach kws X.env))) := by rfl) :
    PE X (.Call (.Attribute o m apos) [] kws pos) (tCMK C ks.length sp gV (WE W) ta tk) := by
  obtain ⟨p, g, fd, ps, mc, gg, r, cm, F, kb⟩ := c.ex
  refine ⟨fun pins s σ H Q I h => ?_⟩
  refine PySem.W.methodCall_KW (pl := pl) (thn (he.run pins s σ H _ I h) fun u s1 ⟨x, H1, I1, rx, ex, q⟩ => ?_) ht
  subst ex
  obtain rfl : u = Value.ref C := rx
  refine getmethcm_ok I1 r cm fun s2 I2 => ?_
  refine PySem.W.callWith_of hpl (PySem.W.keeps_M cm.fi) (evalArgs_kw2_nil hall (thn (hkw.run pos _ s2 σ H1 _ I2 q) fun ws s3 ⟨zs, H2, I3, rz, hz, q2⟩ => ⟨⟨pin_at I3, I3.kIn⟩, ?_⟩))
  rw [hks]
  have r2 := kb.rel (vs := [V.ref C]) (us := [Value.ref C]) (.cons rfl .nil) rz
  have e2 : ws.length = ks.length := rz.length.symm.trans hz
  have z : wpAny (model X.prog X.w) X.A (call (.ref s1.heap.objs.size) ([] ++ []) (ks.zip ws)) (EP X ((s1.heap.objs.size, PySem.W.methodObj (.ref g) (.ref C)) :: pins) σ Q) X.xe s3 :=
    wpAny_call (PySem.W.method_call (pin_at I3) (codeAny_mono (F.run X.A X.stack s3 H2 ⟨[.ref C], ks.zip ws⟩ (gg [.ref C] ws) _ Q (WE W σ) (hr.mono hk) I3.env0 (kb.to _ [.ref C] ws I3.kIn rfl e2) r2 q2) fun r s' hq => by
      cases r with
      | error e => exact passAt tk' σ _ H2 s3 e s' I3 hq
      | ok fl =>
        cases fl with
        | ret u => exact I3.after hq
        | next => exact False.elim hq
        | brk => exact False.elim hq
        | cont => exact False.elim hq))
  exact thn z fun _ _ y => unpinE y
end
end LX
set_option maxHeartbeats 2000000
namespace Toy
open PySem L2 C8 SX LX
theorem rev_rel {vs zs : List V} {us ws : List Value} (h1 : Vals vs us) (h2 : Vals zs ws) : Vals (vs ++ zs.reverse) (us ++ ws.reverse) := by
  have app : ∀ {a b : List V} {c d : List Value}, Vals a c → Vals b d → Vals (a ++ b) (c ++ d) := fun {a b c d} h g => by
    induction h with
    | nil => exact g
    | cons e _ ih => exact .cons e ih
  have rev : ∀ {a : List V} {c : List Value}, Vals a c → Vals a.reverse c.reverse := fun {a c} h => by
    induction h with
    | nil => exact .nil
    | cons e _ ih => rw [List.reverse_cons, List.reverse_cons]; exact app ih (.cons e .nil)
  exact app h1 (rev h2)
def revV (vs zs : List V) : List V := vs ++ zs.reverse
def revL (us ws : List Value) : List Value := us ++ ws.reverse
theorem at_iff {a b : List Nat} {i : Nat} : StrLaws.At (S b) (S a) (S b).length i ↔ i + a.length ≤ b.length ∧ (b.drop i).take a.length = a := by
  unfold StrLaws.At
  rw [PySem.StrLaws.subAt_eq, S_len, S_len]
  have e1 : (S a).cps.toList = a := by simp [S]
  have e2 : (S b).cps.toList = b := by simp [S]
  rw [e1, e2, beq_iff_eq]
theorem sub_iff {a b : List Nat} : Sub a b = true ↔ ∃ i, i + a.length ≤ b.length ∧ (b.drop i).take a.length = a := by
  unfold LX.Sub
  rcases StrLaws.occ_head (S b) (S a) 1 (Nat.le_refl _) with ⟨e, hn⟩ | ⟨i, r, e, ha, _⟩
  · rw [e]
    refine ⟨fun h => (by cases h), fun ⟨i, h⟩ => absurd (at_iff.mpr h) (hn i)⟩
  · rw [e]
    exact ⟨fun _ => ⟨i, at_iff.mp ha⟩, fun _ => rfl⟩
theorem sub_self (a : List Nat) : Sub a a = true := sub_iff.mpr ⟨0, by simp, by simp⟩
theorem Drawn.nd {sg : List Nat} {ps : Ps} {n : Nat} (h : Drawn sg ps n) {i j : Nat} (hi : i < ps.length) (hj : j < ps.length) (hij : i ≠ j) : (ps.getD i ([], [])).1 ≠ (ps.getD j ([], [])).1 := fun e => by
  have := noSub_iff.mp h.ns i j (by simpa using hi) (by simpa using hj) (Ne.symm hij)
  have e1 : (ps.map (·.1)).getD i [] = (ps.getD i ([], [])).1 := by simp [List.getD_eq_getElem?_getD, List.getElem?_eq_getElem hi]
  have e2 : (ps.map (·.1)).getD j [] = (ps.getD j ([], [])).1 := by simp [List.getD_eq_getElem?_getD, List.getElem?_eq_getElem hj]
  rw [e1, e2, e, sub_self] at this
  cases this
theorem Drawn.rev {sg : List Nat} {ps : Ps} {n : Nat} (h : Drawn sg ps n) (hl : 1 < ps.length) : ps ≠ ps.reverse := fun e => by
  refine h.nd (i := 0) (j := ps.length - 1) (by omega) (by omega) (by omega) ?_
  have : ps.reverse[0]? = ps[ps.length - 1]? := by rw [List.getElem?_reverse (by omega)]; rfl
  rw [← e] at this
  rw [List.getD_eq_getElem?_getD, List.getD_eq_getElem?_getD, this]
theorem Drawn.revd {sg : List Nat} {ps : Ps} {n : Nat} (h : Drawn sg ps n) : Drawn sg ps.reverse n := ⟨fun p hp => h.dn p (List.mem_reverse.mp hp), fun p hp => h.short p (List.mem_reverse.mp hp), by rw [List.length_reverse]; exact h.few, noSub_iff.mpr fun i j hi hj hij => by
  rw [List.length_map, List.length_reverse] at hi hj
  have e : ∀ k, k < ps.length → (ps.reverse.map (·.1)).getD k [] = (ps.map (·.1)).getD (ps.length - 1 - k) [] := fun k hk => by
    rw [List.getD_eq_getElem?_getD, List.getD_eq_getElem?_getD, List.getElem?_map, List.getElem?_map, List.getElem?_reverse hk]
  rw [e i hi, e j hj]
  exact noSub_iff.mp h.ns _ _ (by rw [List.length_map]; omega) (by rw [List.length_map]; omega) (by omega)⟩
theorem menu_sg {sg : List Nat} (h : Menu sg) : Sg sg := by
  rcases menu_cases h with rfl | rfl | rfl | rfl <;> exact ⟨by decide, by decide, by decide, by decide⟩
theorem ordL_len {a b : List Nat} (h : OrdL a b) : a.length ≤ b.length := by
  unfold OrdL at h; omega
theorem okD_S {l : List Nat} (h1 : l.length ≤ 40) (h2 : ∀ c ∈ l, c < 1114112) : okD (.str (S l)) = true := by
  unfold okD
  rw [Bool.and_eq_true, decide_eq_true_eq, S_len]
  refine ⟨h1, List.all_eq_true.mpr fun c hc => decide_eq_true (h2 c (by simpa [S] using hc))⟩
section
variable {sg : List Nat} {ps : Ps} {n : Nat}
theorem Drawn.small (hm : Menu sg) (h : Drawn sg ps n) : SmallP ps := fun p hp => by
  obtain ⟨h1, h2, _⟩ := h.dn p hp
  exact ⟨fun c hc => by have := menu_small hm c (h1 c hc); omega, fun c hc => by have := menu_small hm c (h2 c hc); omega⟩
theorem Drawn.ok (hm : Menu sg) (hn : n ≤ 20) (h : Drawn sg ps n) (b : Bool) : okD (seqD b (ps.map prD)) = true := by
  have hs := h.small hm
  have : ∀ d ∈ ps.map prD, okD d = true := fun d hd => by
    obtain ⟨p, hp, rfl⟩ := List.mem_map.mp hd
    have h1 := h.short p hp
    have h2 := ordL_len (h.dn p hp).2.2
    refine okD_tup (by show 2 ≤ 20; decide) fun x hx => ?_
    rcases List.mem_cons.mp hx with rfl | hx
    · exact okD_S (by omega) (hs p hp).1
    · rw [List.mem_singleton.mp hx]; exact okD_S (by omega) (hs p hp).2
  have hf := h.few
  cases b
  · exact okD_tup (by rw [List.length_map]; omega) this
  · exact okD_lst (by rw [List.length_map]; omega) this
theorem Drawn.pairs (h : Drawn sg ps n) (b : Bool) : pairsD sg (seqD b (ps.map prD)) = true := by
  unfold pairsD
  rw [items_seq]
  show (((ps.map prD).map (pairD sg)).all id && noSub ((ps.map prD).map leftD)) = true
  rw [left_pr, h.ns, Bool.and_true, List.all_eq_true]
  intro x hx
  obtain ⟨d, hd, rfl⟩ := List.mem_map.mp hx
  obtain ⟨p, hp, rfl⟩ := List.mem_map.mp hd
  obtain ⟨h1, h2, h3⟩ := h.dn p hp
  show (rowO sg (txtO (.str (S p.1))) && (rowO sg (txtO (.str (S p.2))) && decide (OrdL ((txtO (.str (S p.2))).getD []) ((txtO (.str (S p.1))).getD [])))) = true
  rw [txt_S, txt_S]
  have e : ∀ l, Ov sg l → rowO sg (some l) = true := fun l hl => decide_eq_true hl
  rw [e _ h1, e _ h2]
  exact decide_eq_true h3
end
section
variable {P : Program} {w : World} {K : PySem.W.Frag} {mg : Str → Option Value} {base : Heap}
theorem make_use {C CI p q dx : Addr} {b : Bool} {H : Hp} {R : VK} {E : XK} {sg : List Nat} {ps : Ps} {n : Nat} (hm : Menu sg) (hn : n ≤ 20) (g : Drawn sg ps n) (hp : Dp K H (.ref p) (seqD b (ps.map prD))) (hq : H q = none) (hdx : H dx = none) (nx : dx ≠ q) (k : ∀ (H' : Hp), Same H H' → Rul K C H' q sg ps → R .non H') :
    spInitR K C CI (.ref q :: [.str (S sg), .ref p]) (upd (upd H dx (.own q)) q (.ins C dx [])) R E := by
  have s1 : Same H (upd (upd H dx (.own q)) q (.ins C dx [])) := fun b o e => by rw [upd_ne (ne_of_none e hq), upd_ne (ne_of_none e hdx)]; exact e
  have hsg := menu_sg hm
  have hdue := due_none hsg (g.pairs b)
  refine ⟨q, dx, .str (S sg), .ref p, .str (S sg), _, rfl, upd_same, .str _, dp_same s1 _ _ hp, okD_S (by have := hsg.2.2.1; omega) (fun c hc => by have := hsg.2.2.2 c hc; omega), g.ok hm hn b, fun wd hw => (by rw [hdue] at hw; cases hw), fun sg' ps' _ ex1 _ ex2 _ H8 hk hch => ?_⟩
  have es : sg = sg' := by simpa [S] using ex1
  rw [items_seq] at ex2
  have ei := map_prD_inj (Option.some.inj ex2)
  subst es ei
  exact k H8 (fun c o e => hk c o (ne_of_none e hq) (s1 _ _ e)) hch
theorem PrAt.lst {H : Hp} {pl : Addr} {qs : List Addr} {ps : Ps} (h : PrAt H qs ps) (e : H pl = some (.lst (qs.map V.ref))) : Dp K H (.ref pl) (seqD true (ps.map prD)) := .lst (SqL.of e) h.dp
theorem PrAt.tup {H : Hp} {pl : Addr} {qs : List Addr} {ps : Ps} (h : PrAt H qs ps) (e : H pl = some (.tup (qs.map V.ref))) : Dp K H (.ref pl) (seqD false (ps.map prD)) := .tup (SqT.of e) h.dp
theorem pr_rev {α β : Type} {F : α → β → Prop} {as : List α} {bs : List β} (h : Paired F as bs) : Paired F as.reverse bs.reverse := by
  induction h with
  | nil => exact .nil
  | cons h1 _ ih => rw [List.reverse_cons, List.reverse_cons]; exact pr_snoc ih h1
end
end Toy
set_option maxHeartbeats 2000000
namespace Toy
open PySem L2 C8 SX LX
abbrev abc : List Nat := [97, 98, 99]
abbrev bys : List Nat := [1, 3, 9, 27, 81, 243, 729, 2187]
def tw (n : Nat) : List Nat := bys.map fun by_ => abc.getD ((11 + 517 * n) / by_ % 3) 0
def lf12 : List (List Nat) := (List.range 12).map tw
def rt3 (l : List Nat) : List Nat := (l.drop 1).take 3
def ps12 : Ps := lf12.map fun l => (l, rt3 l)
theorem ps12_left : lefts ps12 = lf12 := by unfold lefts ps12; rw [List.map_map]; exact List.map_id _
theorem ps12_pairs : pairsD abc (seqD true (ps12.map prD)) = true := by decide +kernel
theorem ps12_ok : okD (seqD true (ps12.map prD)) = true := by decide +kernel
theorem ps12_gr : Gr abc ps12 := ⟨by decide, by decide, by decide, by decide, by unfold Down Ov; decide +kernel, by decide +kernel⟩
theorem ps12_few : Few abc ps12 := ⟨by decide +kernel, by rw [ps12_left]; decide +kernel, by decide, by decide⟩
theorem lf12_len : ∀ l ∈ lf12, l.length = 8 := by decide +kernel
theorem lf12_other : ∀ l ∈ lf12, l.all (fun c => decide (c = 97)) = false := by decide +kernel
theorem ps12_slice : ∀ l ∈ lf12, Txt.slice (S l) (some 1) (some 4) = S (rt3 l) := by decide +kernel
theorem ps12_moves : ∀ l ∈ lf12, K60.movesL ps12 l = [(0, lf12.idxOf l)] ∧ K60.afterL ps12 l (0, lf12.idxOf l) = rt3 l ∧ K60.movesL ps12 (rt3 l) = [] := by decide +kernel
theorem ps12_road (l : List Nat) (h : l ∈ lf12) : K60.Road ps12 l [(0, lf12.idxOf l)] (rt3 l) := by
  obtain ⟨h1, h2, h3⟩ := ps12_moves l h
  refine .go h1 ?_
  rw [h2]
  exact .stop h3
theorem ps12_plain {v : List Nat} (h : v.length ≤ 8) : K60.movesL ps12 v = [] ↔ v ∉ lf12 := by
  rw [moves_plain ps12_few.ne, show ps12.map (·.1) = lf12 from ps12_left]
  constructor
  · intro hp hm
    exact hp v hm [] [] (by simp)
  · intro hn l hl a z e
    have h8 := lf12_len l hl
    rw [e] at h
    simp only [List.length_append] at h
    have ha : a = [] := List.length_eq_zero_iff.mp (by omega)
    have hz : z = [] := List.length_eq_zero_iff.mp (by omega)
    subst ha hz
    rw [List.nil_append, List.append_nil] at e
    exact hn (e ▸ hl)
theorem ps12_eight : (plN ps12 abc 8).length = 6549 := by
  have e : plN ps12 abc 8 = (level abc 8).filter fun v => decide (v ∉ lf12) := by
    unfold plN plB
    refine List.filter_congr fun v hv => ?_
    rw [decide_eq_decide]
    exact ps12_plain (Nat.le_of_eq (level_ov.mp hv).1)
  rw [e]
  decide +kernel
theorem ps12_seven : (plN ps12 abc 7).length = 2187 := by
  have e : plN ps12 abc 7 = level abc 7 := by
    unfold plN plB
    rw [List.filter_eq_self]
    intro v hv
    have hl := (level_ov.mp hv).1
    exact decide_eq_true ((ps12_plain (by omega)).mpr fun hm => by have := lf12_len v hm; omega)
  rw [e, level_len]; rfl
theorem ps12_inf (k : Nat) : plN ps12 abc k ≠ [] := by
  refine List.ne_nil_of_mem (a := List.replicate k 97) (List.mem_filter.mpr ⟨level_ov.mpr ⟨List.length_replicate, fun c hc => by rw [List.eq_of_mem_replicate hc]; decide⟩, decide_eq_true ?_⟩)
  rw [moves_plain ps12_few.ne, show ps12.map (·.1) = lf12 from ps12_left]
  intro l hl a z e
  have h1 := lf12_other l hl
  have : l.all (fun c => decide (c = 97)) = true := List.all_eq_true.mpr fun c hc => decide_eq_true (by
    have : c ∈ List.replicate k 97 := by rw [e]; exact List.mem_append_left _ (List.mem_append_right _ hc)
    exact List.eq_of_mem_replicate this)
  rw [h1] at this; cases this
end Toy
set_option maxHeartbeats 2000000
namespace Toy
open PySem L2 C8 SX LX
section
variable {P : Program} {w : World} {K : PySem.W.Frag} {mg : Str → Option Value} {base : Heap}
theorem sum_one : ∀ l : List Nat, ((l.map fun c => S [c]).map (·.length)).sum = l.length
  | [] => rfl
  | c :: l => by rw [List.map_cons, List.map_cons, List.sum_cons, sum_one l, List.length_cons]; rw [S_len]; simp; omega
theorem make12 {C CI p q dx : Addr} {H : Hp} {R : VK} {E : XK} (hp : Dp K H (.ref p) (seqD true (ps12.map prD))) (hq : H q = none) (hdx : H dx = none) (nx : dx ≠ q) (k : ∀ (H' : Hp), Same H H' → Rul K C H' q abc ps12 → R .non H') :
    spInitR K C CI (.ref q :: [.str (S abc), .ref p]) (upd (upd H dx (.own q)) q (.ins C dx [])) R E := by
  have s1 : Same H (upd (upd H dx (.own q)) q (.ins C dx [])) := fun b o e => by rw [upd_ne (ne_of_none e hq), upd_ne (ne_of_none e hdx)]; exact e
  have hsg : Sg abc := menu_sg (by unfold Menu; decide)
  have hdue := due_none hsg ps12_pairs
  refine ⟨q, dx, .str (S abc), .ref p, .str (S abc), _, rfl, upd_same, .str _, dp_same s1 _ _ hp, okD_S (by decide) (by decide), ps12_ok, fun wd hw => (by rw [hdue] at hw; cases hw), fun sg' ps' _ ex1 _ ex2 _ H8 hk hch => ?_⟩
  have es : abc = sg' := by simpa [S] using ex1
  rw [items_seq] at ex2
  have ei := map_prD_inj (Option.some.inj ex2)
  subst es ei
  exact k H8 (fun c o e => hk c o (ne_of_none e hq) (s1 _ _ e)) hch
abbrev s_twelve : Stmt := top 38
abbrev n_twelve : List Str := ["lefts", "at", "number", "rules", "by", "left"]
theorem sc_twelve : FnScope n_twelve [] (fnScope s_twelve) := fnScope_by (by decide +kernel)
def spTwelve (TT : List NdefX.NTab) : Sp := fun vs H Q _ => vs = [] ∧ NdefX.TabsN TT H ∧ ∀ H', LamX.ExtN H H' → NdefX.TabsN TT H' → Q (.bl true) H'
theorem bys_ok : ∀ x ∈ bys, 1 ≤ x ∧ x ≤ 2187 := by decide
theorem ok_twelve {C CI : Addr} (T : BT mg) (CH : CC K C) {TT : List NdefX.NTab} (c_Rules : MakX P w K mg base 4 "Rules" C (spInitR K C CI)) (c_reduced : Met P w K mg base 3 C "reduced" (spReduced K C) []) (c_many : Cal P w K mg base 4 "many_plain" (spMany K C TT) []) (c_prows : Cal P w K mg base 4 "plain_rows" (spRows K C TT) [])
    {f : Addr} {fd : FuncData} (F : Def K mg "_law_twelve_right" s_twelve f fd) (b : Binds K fd [] []) : Cal P w K mg base 6 "_law_twelve_right" (spTwelve TT) [] := by
  refine cal0 F b .nil sc_twelve (fun vs H Q E h => ?_) (fun cdv A outer s H vs Q E hr h => ?_)
  · obtain ⟨rfl, _⟩ := h; rfl
  · obtain ⟨rfl, hT, k⟩ := h
    refine ⟨_, (pss_cons (ps_set (i := 0) sc_twelve.nd rfl (.inl rfl) (pe_lst pa_nil))
      (pss_cons (ps_for PassesOwn.never rfl (pi_range1 (by rfl) T.m_range (pa_cons pe_int pa_nil)) (pg_name (i := 1) sc_twelve.nd rfl (.inl rfl)) 
        (pss_cons (ps_set (i := 2) sc_twelve.nd rfl (.inr rfl) (pe_op op_add pe_int (pe_op op_mul pe_int (pv 1))))
        (pss_one (ps_expr (pe_bm PySem.F.plainAttrs_list PySem.F.slot_list_append PySem.F.type_list_append mt_append (pv 0) (pa_cons (pe_join pe_str (pe_lc (own := [("by", 4)]) rfl sc_twelve.nd (pi_tup (pe_tup (pa_cons pe_int (pa_cons pe_int (pa_cons pe_int (pa_cons pe_int (pa_cons pe_int (pa_cons pe_int (pa_cons pe_int (pa_cons pe_int pa_nil)))))))))) (blkOk_by (N := n_twelve) (sc := fnScope s_twelve) (by decide +kernel)) (fun _ _ _ _ _ => (pg_name (i := 4) sc_twelve.nd rfl (.inl rfl))) (fun _ _ _ _ _ => pts_nil) (fun _ _ _ _ _ => (pe_ix ix_str pe_str (pe_op op_mod (pe_op op_fdiv (pv 2) (pv 4)) pe_int) (fun _ _ => rfl))))) pa_nil)))
        )))
      (pss_cons (ps_set (i := 3) sc_twelve.nd rfl (.inr rfl) (pe_mkX c_Rules takes_none5 hr (by decide) (by rfl) (pa_cons pe_str (pa_cons (pe_lc (own := [("left", 5)]) rfl sc_twelve.nd (pi_list (pv 0)) (blkOk_by (N := n_twelve) (sc := fnScope s_twelve) (by decide +kernel)) (fun _ _ _ _ _ => (pg_name (i := 5) sc_twelve.nd rfl (.inl rfl))) (fun _ _ _ _ _ => pts_nil) (fun _ _ _ _ _ => (pe_tup (pa_cons (pv 5) (pa_cons (pe_slice sl_txt (pv 5) (po_some pe_int) (po_some pe_int)) pa_nil))))) pa_nil))))
      (pss_cons (ps_if (PW.pt (pw_or (pt_cmpR op_ne (pe_c c_many hr (by first | decide | omega) (by rfl) (pa_cons (pv 3) (pa_cons pe_int pa_nil))) (pe_op op_sub (pe_op op_pow pe_int pe_int) pe_int) (nomark _)) (pw_or (pt_cmpR op_ne (pe_c c_many hr (by first | decide | omega) (by rfl) (pa_cons (pv 3) (pa_cons pe_int pa_nil))) (pe_op op_pow pe_int pe_int) (nomark _)) (pw_or1 (pt_cmpR op_notN (pe_c c_prows hr (by first | decide | omega) (by rfl) (pa_cons (pv 3) pa_nil)) pe_non (nomark _)))))) 
        (pss_one (ps_ret pe_bl)
        )
       pss_nil)
      (pss_one (ps_ret (pe_cmpR (op_eqDK K hr) (pe_lc (own := [("left", 5)]) rfl sc_twelve.nd (pi_list (pv 0)) (blkOk_by (N := n_twelve) (sc := fnScope s_twelve) (by decide +kernel)) (fun _ _ _ _ _ => (pg_name (i := 5) sc_twelve.nd rfl (.inl rfl))) (fun _ _ _ _ _ => pts_nil) (fun _ _ _ _ _ => (pe_mt c_reduced hr (by decide) (pv 3) (pa_cons (pv 5) pa_nil)))) (pe_lc (own := [("left", 5)]) rfl sc_twelve.nd (pi_list (pv 0)) (blkOk_by (N := n_twelve) (sc := fnScope s_twelve) (by decide +kernel)) (fun _ _ _ _ _ => (pg_name (i := 5) sc_twelve.nd rfl (.inl rfl))) (fun _ _ _ _ _ => pts_nil) (fun _ _ _ _ _ => (pe_slice sl_txt (pv 5) (po_some pe_int) (po_some pe_int)))) (nomark _)))
      ))))), ?_⟩
    refine ⟨by show 0 ≤ sizeLine; decide, fun fl hfl => ?_⟩
    refine ⟨_, rfl, by decide, by decide, ?_⟩
    refine for_it (walk_range (lo := 0) (n := (12 : Int).toNat)) (fun i σ H' => ∃ s1 s2 : Option V, σ = [some (.ref fl), s1, s2, none, none, none] ∧ Same H H' ∧ H' fl = some (.lst (txs ((List.range i).map tw))))
      ⟨_, _, rfl, sm_new hfl, upd_same⟩ (fun _ _ _ _ _ => trivial) ?_ ?_
    · rintro i x σ H1 H1' hi ⟨s1, s2, rfl, w1, e1⟩ ⟨rfl, rfl⟩
      have hi : i < 12 := hi
      refine ⟨_, rfl, _, _, rfl, rfl, .inl ⟨by decide, by decide⟩, _, _, rfl, rfl, ?_⟩
      have en : (11 + 517 * (0 + (i : Int))) = ((11 + 517 * i : Nat) : Int) := by omega
      dsimp only
      rw [en]
      refine ⟨_, rfl, .inl ⟨rfl, _, SqL.of e1⟩, ?_⟩
      refine ⟨⟨_, rfl⟩, by show 8 ≤ sizeLine; decide, fun tb htb => ⟨tb, rfl, ⟨_, SqT.of upd_same⟩, fun D hD => ?_⟩⟩
      have sb := sm_new (o := .tup (bys.map fun x => V.int (x : Nat))) htb
      have eb : (upd H1' tb (.tup (bys.map fun x => V.int (x : Nat)))) tb = some (.tup (bys.map fun x => V.int (x : Nat))) := upd_same
      have hD : (upd H1' tb (.tup (bys.map fun x => V.int (x : Nat)))) D = none := hD
      refine lc_keep keep_same (walk_tup (K := K) (a := tb) (xs := bys.map fun x => V.int (x : Nat))) hD (by show 8 < sizeLine; decide) (fun j y => ∀ x, bys[j]? = some x → y = .str (S [abc.getD ((11 + 517 * i) / x % 3) 0])) (fun H r => sm_seqT r (SqT.of eb)) (fun j x H3 H4 R hj r3 hy hR => ?_) (fun ys H3 hly hg w3 hDs => ?_)
      · obtain ⟨rfl, ex⟩ := hy
        rw [List.getElem?_map] at ex
        obtain ⟨y, hy, rfl⟩ := Option.map_eq_some_iff.mp ex
        obtain ⟨y1, y2⟩ := bys_ok y (List.mem_of_getElem? hy)
        refine ⟨rfl, _, rfl, _, rfl, _, _, rfl, rfl, ⟨by omega, by omega⟩, _, _, rfl, rfl, by show (0 : Int) < 3; decide, ?_⟩
        have hm3 : (11 + 517 * i) / y % 3 < 3 := Nat.mod_lt _ (by decide)
        have ei : (((11 + 517 * i : Nat) : Int) / (y : Int)) % 3 = (((11 + 517 * i) / y % 3 : Nat) : Int) := by
          rw [Int.natCast_emod, Int.natCast_ediv]; rfl
        have hat : (S abc).cps.toList[(11 + 517 * i) / y % 3]? = some (abc.getD ((11 + 517 * i) / y % 3) 0) := by
          show abc[(11 + 517 * i) / y % 3]? = _
          rw [List.getD_eq_getElem?_getD, List.getElem?_eq_getElem hm3]; rfl
        dsimp only
        rw [ei]
        refine ⟨S abc, _, _, rfl, rfl, by rw [S_len]; decide, atI_nat hat, ?_⟩
        exact hR _ _ (Same.refl _) fun x' e => by rw [hy] at e; cases e; rfl
      · have ey : ys = (tw i).map fun c => V.str (S [c]) := by
          unfold tw
          rw [List.map_map]
          refine list_map (by rw [hly, List.length_map]) fun j y x e1 e2 => ?_
          exact hg j y e1 x e2
        subst ey
        have el : ((tw i).map fun c => S [c]) = ((tw i).map fun c => [c]).map S := by rw [List.map_map]; rfl
        have h8 : (tw i).length = 8 := by unfold tw; rw [List.length_map]; rfl
        refine ⟨_, D, (tw i).map (fun c => S [c]), rfl, rfl, .inl (SqL.of (by rw [List.map_map]; exact hDs)), ?_, ?_⟩
        · rw [s_nil, S_len, sum_one, List.length_nil, h8]; show 8 + _ * 0 ≤ _; omega
        · rw [show Txt.join (Str.ofString "") ((tw i).map fun c => S [c]) = S (tw i) by rw [s_nil, el, join_txs, flat_singles]]
          have e3 := w3 _ _ (sb _ _ e1)
          refine ⟨fl, _, _, rfl, rfl, e3, by rw [txs_len, List.length_map, List.length_range]; exact small1000 (by omega), ?_⟩
          refine ⟨_, _, rfl, sm_put ((w1.trans sb).trans w3) hfl, ?_⟩
          rw [upd_same, List.range_succ, List.map_append]
          unfold txs
          rw [List.map_append]; rfl
    · rintro σ H1 ⟨s1, s2, rfl, w1, e1⟩
      have e1 : H1 fl = some (.lst (txs lf12)) := e1
      have hl12 : (txs lf12).length = 12 := by rw [txs_len]; rfl
      refine ⟨_, rfl, fl, rfl, ⟨_, SqL.of e1⟩, fun D hD => ?_⟩
      refine lc_keepH keep_same (walk_list (K := K) (a := fl) (xs := txs lf12)) hD (by rw [hl12]; decide) (fun j y H => ∃ q, y = .ref q ∧ ∀ l, lf12[j]? = some l → H q = some (.tup [.str (S l), .str (S (rt3 l))])) (fun H r => SqL.of (r _ _ e1)) (fun _ _ _ _ _ r ⟨q, e, h⟩ => ⟨q, e, fun c hc => r _ _ (h c hc)⟩)
        (fun j y H acc o _ hDa ⟨q, e, h⟩ => ⟨q, e, fun c hc => by
          rw [upd_ne (ne_of (h c hc) hDa (by intro h; cases h))]; exact h c hc⟩) (fun j x H3 H3' acc R hj r3 hDa hy hR => ?_) (fun ys H3 hly hg w3 hDs => ?_)
      · obtain ⟨rfl, ex⟩ := hy
        obtain ⟨l, hl, rfl⟩ := txs_get ex
        have hm := List.mem_of_getElem? hl
        refine ⟨rfl, _, rfl, _, rfl, _, rfl, _, rfl, S l, rfl, by rw [S_len, lf12_len l hm]; decide, ?_⟩
        rw [ps12_slice l hm]
        refine ⟨by show 2 ≤ sizeLine; decide, fun q hq => hR _ _ (sm_new hq) ⟨q, rfl, fun l' e => by rw [hl] at e; cases e; exact upd_same⟩⟩
      · obtain ⟨us, rfl⟩ := refs_of (ys := ys) fun j y e => let ⟨q, e', _⟩ := hg j y e; ⟨q, e'⟩
        rw [List.length_map, hl12] at hly
        have hus : PrAt H3 us ps12 := pr_idx (by rw [hly]; rfl) fun j u p h1 h2 => by
          unfold ps12 at h2
          rw [List.getElem?_map] at h2
          obtain ⟨l, hl, rfl⟩ := Option.map_eq_some_iff.mp h2
          obtain ⟨q, eq, hq⟩ := hg j (.ref u) (by rw [List.getElem?_map, h1]; rfl)
          cases eq
          exact hq l hl
        have e3 := w3 _ _ e1
        have w13 := w1.trans w3
        refine fun rl dx hq hdx nx => ?_
        rw [s_abc]
        refine make12 (hus.lst hDs) hq hdx nx fun H6 w6 hru => ⟨rfl, ?_⟩
        have wH := w13.trans w6
        have e6 := w6 _ _ e3
        have hT6 := hT.ext wH
        clear hg hly hq hdx hus hDs e3 w3 w13 e1 w1
        refine ⟨_, rfl, rl, abc, ps12, 8, rfl, hru, ps12_few, by decide, hT6, fun H7 x7 hT7 => ?_⟩
        rw [ps12_eight]
        refine ⟨_, _, rfl, rfl, ⟨by decide, by decide, by decide⟩, _, _, rfl, rfl, rfl, _, rfl, iteN (by decide) ?_⟩
        refine ⟨_, rfl, rl, abc, ps12, 7, rfl, hru.ext x7, ps12_few, by decide, hT7, fun H8 x8 hT8 => ?_⟩
        rw [ps12_seven]
        refine ⟨_, _, rfl, rfl, ⟨by decide, by decide, by decide⟩, rfl, _, rfl, iteN (by decide) ?_⟩
        refine ⟨_, rfl, rl, abc, ps12, rfl, (hru.ext x7).ext x8, ps12_few, hT8, .inl ps12_inf, fun H9 x9 hT9 _ => ?_, fun p l H9 _ _ _ hno _ _ => absurd (hno (l + 1) (by omega)) (ps12_inf _)⟩
        refine ⟨rfl, _, rfl, iteN rfl ?_⟩
        have x69 := (x7.trans x8).trans x9
        have hr9 := hru.ext x69
        have e9 : H9 fl = some (.lst (txs lf12)) := x69 _ _ e6 (by intro _ z; cases z)
        clear e6 hT6 hru
        have hrts : ∀ ys : List V, ys.length = (txs lf12).length → (∀ (j : Nat) y, ys[j]? = some y → ∀ l, lf12[j]? = some l → y = .str (S (rt3 l))) → ys = txs (lf12.map rt3) := fun ys h1 h2 => by
          unfold txs
          rw [List.map_map]
          refine list_map (by rw [h1, hl12]; rfl) fun j y l e1 e2 => ?_
          exact h2 j y e1 l e2
        have hlo : ∀ l ∈ lf12, Ov abc l := fun l hl => by
          have : (l, rt3 l) ∈ ps12 := List.mem_map.mpr ⟨l, hl, rfl⟩
          exact (ps12_gr.dn _ this).1
        refine ⟨_, rfl, fl, rfl, ⟨_, SqL.of e9⟩, fun D1 hD1 => ?_⟩
        refine lc_keep keep_same (walk_list (K := K) (a := fl) (xs := txs lf12)) hD1 (by rw [hl12]; decide) (fun j y => ∀ l, lf12[j]? = some l → y = .str (S (rt3 l))) (fun H r => SqL.of (r _ _ e9)) (fun j x HA HB R hj rA hy hR => ?_) (fun ys HA hly hg wA hDA => ?_)
        · obtain ⟨rfl, ex⟩ := hy
          obtain ⟨l, hl, rfl⟩ := txs_get ex
          have hm := List.mem_of_getElem? hl
          have hrA := hr9.same rA
          obtain ⟨dx2, r2, ha2, _⟩ := id hrA
          refine ⟨rfl, _, rfl, rl, dx2, _, rfl, ha2, ruF_no _ _ (by decide +kernel) (by decide +kernel), _, rfl, rl, abc, ps12, l, rfl, hrA, ps12_gr, hlo l hm, by rw [lf12_len l hm]; decide, fun ms e HC sC hroad _ _ => ?_⟩
          obtain ⟨_, he⟩ := (ps12_road l hm).uniq hroad
          rw [← he]
          exact hR _ _ sC fun l' e' => by rw [hl] at e'; cases e'; rfl
        obtain rfl := hrts ys hly hg
        have eA := wA _ _ e9
        refine ⟨_, rfl, fl, rfl, ⟨_, SqL.of eA⟩, fun D2 hD2 => ?_⟩
        refine lc_keep keep_same (walk_list (K := K) (a := fl) (xs := txs lf12)) hD2 (by rw [hl12]; decide) (fun j y => ∀ l, lf12[j]? = some l → y = .str (S (rt3 l))) (fun H r => SqL.of (r _ _ eA)) (fun j x HB HC R hj rB hy hR => ?_) (fun ys HB hlyB hgB wB hDB => ?_)
        · obtain ⟨rfl, ex⟩ := hy
          obtain ⟨l, hl, rfl⟩ := txs_get ex
          have hm := List.mem_of_getElem? hl
          refine ⟨rfl, _, rfl, _, rfl, _, rfl, S l, rfl, by rw [S_len, lf12_len l hm]; decide, ?_⟩
          rw [ps12_slice l hm]
          exact hR _ _ (Same.refl _) fun l' e' => by rw [hl] at e'; cases e'; rfl
        obtain rfl := hrts ys hlyB hgB
        have hsm : Small (lf12.map rt3) := fun l hl c hc => by
          obtain ⟨l', hl', rfl⟩ := List.mem_map.mp hl
          exact ps12_gr.sm c (hlo l' hl' c (List.mem_of_mem_drop (List.mem_of_mem_take hc)))
        refine ⟨.list ((lf12.map rt3).map fun l => .str (S l)), .list ((lf12.map rt3).map fun l => .str (S l)), .lst (SqL.of (wB _ _ hDA)) (dp_strs _), .lst (SqL.of hDB) (dp_strs _), shaped_lst hsm, shaped_lst hsm, ?_⟩
        rw [show PyData.eqv (.list ((lf12.map rt3).map fun l => .str (S l))) (.list ((lf12.map rt3).map fun l => .str (S l))) = _ from eqv_strs _ _, decide_eq_true rfl]
        have sF := wA.trans wB
        exact k HB (((extN_same wH).trans x69).trans (extN_same sF)) (hT9.ext sF)
end
end Toy
set_option maxHeartbeats 4000000
namespace LX
open PySem PySem.W PySem.Spec PyProof.Rows L2 C8 SX
section
variable {X : Cx} {j : Nat}
theorem each_of {K : PySem.W.Frag} {H : Hp} {β : Type} {enc : β → PyData} : ∀ {xs : List V} {bs : List β} {its : List Value}, Paired (fun x b => Dp K H x (enc b)) xs bs → Vals xs its → EachIs (fun v b => ∃ x, RelV x v ∧ Dp K H x (enc b)) its bs
  | _, _, _, .nil, .nil => .nil
  | _, _, _, .cons h t, .cons r rs => .cons ⟨_, r, h⟩ (each_of t rs)
theorem of_each {K : PySem.W.Frag} {H : Hp} {β : Type} {enc : β → PyData} : ∀ {bs : List β} {its : List Value}, EachIs (fun v b => ∃ x, RelV x v ∧ Dp K H x (enc b)) its bs → ∃ xs, Vals xs its ∧ Paired (fun x b => Dp K H x (enc b)) xs bs
  | _, _, .nil => ⟨[], .nil, .nil⟩
  | _, _, .cons ⟨x, r, h⟩ t => by
    obtain ⟨xs, a, b⟩ := of_each t
    exact ⟨x :: xs, .cons r a, .cons h b⟩
theorem paired_len {α β : Type} {F : α → β → Prop} : ∀ {as : List α} {bs : List β}, Paired F as bs → as.length = bs.length
  | _, _, .nil => rfl
  | _, _, .cons _ t => by rw [List.length_cons, List.length_cons, paired_len t]
theorem Paired.app {α β : Type} {F : α → β → Prop} : ∀ {as : List α} {bs : List β} {cs : List α} {ds : List β}, Paired F as bs → Paired F cs ds → Paired F (as ++ cs) (bs ++ ds)
  | _, _, _, _, .nil, h => h
  | _, _, _, _, .cons h t, g => .cons h (Paired.app t g)
theorem pr_imp2 {α β : Type} {F G : α → β → Prop} (k : ∀ a b, F a b → G a b) : ∀ {as : List α} {bs : List β}, Paired F as bs → Paired G as bs
  | _, _, .nil => .nil
  | _, _, .cons h1 h2 => .cons (k _ _ h1) (pr_imp2 k h2)
def rSortD (K : PySem.W.Frag) {β : Type} (enc : β → PyData) : List V → Hp → VK → Prop := fun vs H Q => ∃ (a : Addr) (xs : List V) (bs : List β), vs = [V.ref a] ∧ SqL K H a xs ∧ Paired (fun x b => Dp K H x (enc b)) xs bs ∧ AllAlike (bs.map enc) ∧ Sortable (bs.map enc) ∧ (∀ b ∈ bs, (enc b).depth ≤ 8) ∧
  ∀ (p : Addr) (ys : List V), H p = none → Paired (fun x b => Dp K H x (enc b)) ys (bs.mergeSort (dataLe false enc)) → Q (.ref p) (upd H p (.lst ys))
theorem cr_sortedD {β : Type} (enc : β → PyData) (hu : X.A.units + 64 < cLine) : CallR X (.builtin "sorted") (rSortD X.K enc) := by
  intro pins s σ H vs us Q I r h
  obtain ⟨a, xs, bs, rfl, hs, hd, hal, hk, hdep, q⟩ := h
  obtain ⟨its, rv, hl, hz⟩ := I.list hs
  rw [Vals.ref1 r]
  have e := each_of hd rv
  have er : EachIs (fun v b => ∃ as, Reads s.heap v (enc b) as) its bs := e.mono fun v b ⟨x, rx, hx⟩ => Dp.reads I _ _ _ hx rx
  have hL : bs.length ≤ sizeLine := by rw [← paired_len hd]; exact hz
  refine sorted_data hl.isList e er hal hk hL (fun b hb => by have := hdep b hb; omega) fun out ho eo => ?_
  obtain ⟨ys, rvy, hdy⟩ := of_each eo
  obtain ⟨ep, he'⟩ := PyProof.Rows.sortedAll_at s.heap its out.toArray
  refine ⟨.ref _, upd H (s.heap.objs.size + 1) (.lst ys), I.laid (t' := s.toks) (fun _ _ => PyProof.Rows.sortedAll_old) (Nat.le_succ _) ⟨?_, out, ep, rvy, he'⟩, rfl, q _ _ (I.hok.fresh (Nat.le_succ _)) hdy⟩
  rw [rvy.length, ho]
  exact hL
end
theorem invTrack {X : Cx} {pins : List (Addr × Obj)} {σ : L2.St} {H : Hp} {s : Shared} {g : Heap} {t' : Nat} {ch : List Addr} {T : Addr} {ob : HO} (I : Inv X pins σ H s) (same : ∀ c o, c ∉ ch → s.heap.get? c = some o → g.get? c = some o) (own : ∀ c ∈ ch, FpOk X pins H c) (hT : T ∈ ch)
    (good : ObjOk X.prog X.w (upd H T ob) g T ob) : Inv X pins σ (upd H T ob) { s with heap := g, toks := t' } := by
  have free0 : H T = none := (own T hT).1
  have away : ∀ c o, H c = some o → c ∉ ch := fun c o e m => by have z := (own c m).1; rw [z] at e; cases e
  have ne : ∀ c o, H c = some o → c ≠ T := fun c o e z => by rw [z, free0] at e; cases e
  have old : ∀ c o, H c = some o → upd H T ob c = some o := fun c o e => (upd_ne (ne c o e)).trans e
  refine I.step (g' := s.gens) (d' := s.drawn) (ch := ch) ?mine ?keep ?slot ?free ?there ?tups ?frzs ?tbls ?ns ?hok I.bare
  case mine =>
    intro c m
    obtain ⟨_, p2, _, p4, p5, p6⟩ := own c m
    exact ⟨p4, p2, p5, p6⟩
  case keep => exact fun c o _ _ n e _ => same c o n e
  case slot => exact fun c o _ _ n e _ => ⟨o.slots, same c o n e⟩
  case free => exact fun c o n e f => (upd_ne (fun z => n (by rw [z]; exact hT))).trans f
  case there => exact fun c o n e => ⟨o, same c o n e⟩
  case tups => exact fun c xs e => old c _ e
  case frzs => exact fun c o u e => old c _ e
  case tbls => exact fun c ps e => ⟨#[], by rw [old c _ e, Array.append_empty]⟩
  case ns =>
    rintro m ⟨o, es, ep, at0, r⟩
    exact ⟨o, es, ep, same _ o (fun z => (own _ z).2.1 rfl) at0, r⟩
  case hok =>
    intro c u e
    by_cases z : c = T
    · subst z
      rw [upd_same] at e
      cases e
      exact good
    · rw [upd_ne z] at e
      refine (I.hok c u e).stay (fun d v hd q => same d v ?_ q) (fun d q => old d _ q) fun d xs q => old d _ q
      rcases hd with y | y
      · rw [y]; exact away c u e
      · exact away d _ y
theorem OwnA.fp {X : Cx} {pins : List (Addr × Obj)} {H : Hp} {a : Addr} (O : OwnA X pins a) (hn : H a = none) : FpOk X pins H a := ⟨hn, O.loc, O.fs, O.hi, O.cell, O.pin⟩
def kD (x : List Nat) : PyData := .tuple [.int (x.length : Nat), .str (S x)]
theorem kD_alike (a b : List Nat) : alike (kD a) (kD b) = true := by unfold kD; simp [alike, alikeAll]
theorem kD_lt (a b : List Nat) : dataLt (kD a) (kD b) = decide (OrdL a b) := by
  unfold kD
  rw [dataLt_pair (by simp [alike]) (by simp [alike]), dataLt_int, dataLt_str]
  have ea : (S a).cps.toList = a := by simp [S]
  have eb : (S b).cps.toList = b := by simp [S]
  have e1 : PyData.eqv (.int ((a.length : Nat) : Int)) (.int ((b.length : Nat) : Int)) = decide (a.length = b.length) := by
    rw [PyData.eqv]
    by_cases h : a.length = b.length
    · rw [h, decide_eq_true rfl]; simp
    · rw [decide_eq_false h, beq_eq_false_iff_ne]
      exact fun e => h (by omega)
  have e2 : PyData.eqv (.str (S a)) (.str (S b)) = decide (a = b) := by
    rw [PyData.eqv]
    by_cases h : a = b
    · rw [h, decide_eq_true rfl]; simp
    · rw [decide_eq_false h, beq_eq_false_iff_ne]
      exact fun e => h (by rw [← ea, ← eb, e])
  rw [e1, e2, ea, eb]
  unfold OrdL
  by_cases h : a.length = b.length
  · simp only [decide_eq_true_eq, if_pos h]
    by_cases h2 : a = b
    · subst h2
      rw [if_pos rfl]
      exact (decide_eq_false fun q => q.elim (Nat.lt_irrefl _) fun q => List.lt_irrefl a q.2).symm
    · rw [if_neg h2]
      exact decide_eq_decide.mpr ⟨fun q => .inr ⟨h, q⟩, fun q => q.elim (fun q => absurd q (by omega)) (·.2)⟩
  · simp only [decide_eq_true_eq, if_neg h]
    exact decide_eq_decide.mpr ⟨fun q => .inl (by omega), fun q => q.elim (fun q => by omega) fun q => absurd q.1 h⟩
def ordSort (xs : List (List Nat)) : List (List Nat) := xs.mergeSort (dataLe false kD)
section
variable {X : Cx} {pins : List (Addr × Obj)} {σ : L2.St} {H : Hp} {s : Shared} {kf : Nat} {q : Addr} {fd : FuncData} {ps : List Str} {It Sc : Addr}
theorem key_call2 {o1 o2 : Obj} {x : List Nat} {tk : Tok} {E : Value → Shared → Prop} {Q : Value → Shared → Prop} (F : FnOk X.prog X.w X.K X.mg X.base C8.CX0 kf q fd ps spOrd) (hr : Room (kf + 2) X.A) (hb : Binds X.K fd ps []) (oI : OwnA X pins It) (oS : OwnA X pins Sc)
    (I : Inv X pins σ H s) (nI : H It = none) (nS : H Sc = none) (h1 : s.heap.get? It = some o1) (h2 : s.heap.get? Sc = some o2) (d1 : ∀ v, o1.data ≠ .cell v) (d2 : ∀ v, o2.data ≠ .cell v) (hx : x.length ≤ 1000)
    (k : ∀ (t : Addr) (H' : Hp) (s' : Shared), Inv X pins σ H' s' → Same H H' → H' t = some (.tup [.int (x.length : Nat), .str (S x)]) → s'.heap.get? It = some o1 → s'.heap.get? Sc = some o2 → H' It = none → H' Sc = none → Q (.ref t) s') :
    wpAny (model X.prog X.w) X.A.in1.in1 (call (.ref q) [.str (S x) tk]) Q E s := by
  have I2 : Inv X ((It, o1) :: (Sc, o2) :: pins) σ H s := I.pins_of fun p hp => by
    rcases List.mem_cons.mp hp with rfl | hp
    · exact ⟨h1, nI, oI.loc, oI.fs, d1⟩
    rcases List.mem_cons.mp hp with rfl | hp
    · exact ⟨h2, nS, oS.loc, oS.fs, d2⟩
    · exact I.pin p (List.mem_append_right _ hp)
  have want : spOrd [.str (S x)] H (fun y H' => ∃ t, y = .ref t ∧ Same H H' ∧ H' t = some (.tup [.int (x.length : Nat), .str (S x)])) C8.E0 := ⟨x, rfl, hx, fun t H' sm ht => ⟨t, rfl, sm, ht⟩⟩
  have bs := hb s [Value.str (S x) tk] I2.kIn (by rw [List.append_nil]; exact F.len _ _ _ _ want)
  rw [List.append_nil] at bs
  refine wpAny_call (codeAny_mono (F.run X.A.in1.in1 X.stack s H ⟨[.str (S x) tk], []⟩ _ [.str (S x)] _ C8.E0 hr.in1.in1 I2.env0.in1.in1 bs (.cons ⟨tk, rfl⟩ .nil) want) fun r s' got => ?_)
  match r, got with
  | .ok (.ret u), got =>
    obtain ⟨y, H', I3, rv, t, rfl, sm, ht⟩ := I2.after got
    cases rv
    obtain ⟨a1, a2, _⟩ := I3.pin (It, o1) (List.mem_append_right _ List.mem_cons_self)
    obtain ⟨b1, b2, _⟩ := I3.pin (Sc, o2) (List.mem_append_right _ (List.mem_cons_of_mem _ List.mem_cons_self))
    exact k t H' s' (I3.pins_of fun p hp => I3.pin p (List.mem_append_right _ (List.mem_cons_of_mem _ (List.mem_cons_of_mem _ hp)))) sm ht a1 b1 a2 b2
theorem heap_less (h : Heap) (c : Addr) : ∃ g : Heap, g.get? c = none ∧ ∀ b, b ≠ c → g.get? b = h.get? b := by
  refine ⟨{ h with objs := h.objs.modify c fun o => { o with data := .freed } }, ?_, fun b hb => ?_⟩
  · unfold Heap.get?
    show (match (h.objs.modify c fun o => { o with data := .freed })[c]? with | some ⟨_, _, .freed, _⟩ => none | o => o) = none
    rw [Array.getElem?_modify, if_pos rfl]
    cases h.objs[c]? <;> rfl
  · unfold Heap.get?
    show (match (h.objs.modify c fun o => { o with data := .freed })[b]? with | some ⟨_, _, .freed, _⟩ => none | o => o) = _
    rw [Array.getElem?_modify, if_neg (Ne.symm hb)]
    cases h.objs[b]? with
    | none => rfl
    | some o =>
      obtain ⟨c1, c2, d, c4⟩ := o
      cases d <;> rfl
theorem vals_texts : ∀ {out : List Value} {xs : List (List Nat)}, EachIs (fun v x => ∃ tk, v = Value.str (S x) tk) out xs → Vals (txs xs) out
  | _, _, .nil => .nil
  | _, _, .cons h t => .cons h (vals_texts t)
theorem texts_vals : ∀ {out : List Value} {xs : List (List Nat)}, Vals (txs xs) out → EachIs (fun v x => ∃ tk, v = Value.str (S x) tk) out xs
  | [], [], _ => .nil
  | _ :: _, _ :: _, .cons h t => .cons h (texts_vals t)
  | [], _ :: _, h => nomatch h
  | _ :: _, [], h => nomatch h
theorem each_keys_reads {H : Hp} (I : Inv X pins σ H s) : ∀ {ts : List Addr} {xs : List (List Nat)}, Paired (fun t x => H t = some (.tup [.int (List.length x : Nat), .str (S x)])) ts xs → EachIs (fun v k => ∃ as, Reads s.heap v k as) (ts.map Value.ref) (xs.map kD)
  | _, _, .nil => .nil
  | _, _, .cons h t => .cons (Dp.reads I _ _ _ (.tup (SqT.of h) (.cons (.int _) (.cons (.str _) .nil))) rfl) (each_keys_reads I t)
def rSortKey (K : PySem.W.Frag) (q : Addr) : List V → List V → Hp → VK → Prop := fun vs zs H Q => ∃ (l : Addr) (xs : List (List Nat)), vs = [V.ref l] ∧ zs = [V.ref q] ∧ SqL K H l (txs xs) ∧ (∀ x ∈ xs, x.length ≤ 1000) ∧
  ∀ (p : Addr) (H' : Hp), Same H H' → H p = none → H' p = some (.lst (txs (ordSort xs))) → Q (.ref p) H'
theorem cr_sortedKey2 (Fk : FnOk X.prog X.w X.K X.mg X.base C8.CX0 kf q fd ps spOrd) (hr : Room (kf + 2) X.A) (hb : Binds X.K fd ps []) : CallRK X (.builtin "sorted") [Str.ofString "key"] (rSortKey X.K q) := by
  intro pins s σ H vs zs us ws Q I rv0 rz h
  obtain ⟨l, xs, rfl, rfl, hs, hxs, kQ⟩ := h
  obtain ⟨u, rfl, ru⟩ := vals1 rv0
  obtain ⟨u2, rfl, ru2⟩ := vals1 rz
  obtain rfl : u = Value.ref l := ru
  obtain rfl : u2 = Value.ref q := ru2
  obtain ⟨its, rv, pl, hz0⟩ := I.list hs
  have hn : its.length = xs.length := by rw [← rv.length, txs_len]
  have few : its.length ≤ sizeLine := by rw [← rv.length]; exact hz0
  have hu : X.A.units + 64 < cLine := by have := hr.un; omega
  show wpAny _ _ (call (.builtin "sorted") [Value.ref l] [(Str.ofString "key", .ref q)]) _ _ s
  refine sorted_of_sort pl.isList few (ksk_s1 _ _) (fun _ => ksk_l1 _ _) fun E' => ?_
  rw [ksk_t1]
  have oa : OwnA X pins (s.heap.objs.size + 1) := OwnA.new I (Nat.le_succ _)
  have I1 : Inv X pins σ H { s with heap := copyHeap s.heap its, toks := s.toks } := I.kept fun b o e => copyHeap_old e
  have na0 : H (s.heap.objs.size + 1) = none := I.hok.fresh (Nat.le_succ _)
  have at0 : (copyHeap s.heap its).get? (s.heap.objs.size + 1) = some (seqObj "list" its.toArray 0) := copyHeap_at s.heap its
  have kQ' := fun H' h1 h2 => kQ (s.heap.objs.size + 1) H' h1 na0 h2
  clear kQ
  generalize s.heap.objs.size + 1 = a at oa na0 at0 kQ' ⊢
  generalize copyHeap s.heap its = h0 at I1 at0 ⊢
  have ha : a < h0.objs.size := Heap.lt_size at0
  obtain ⟨e1, at1⟩ : ∃ e1, (h0.update a (Obj.mapSeq fun _ => (#[] : Array Value))).get? a = some (seqObj "list" #[] e1) := ⟨_, get?_update_seq at0 fun _ => #[]⟩
  have hup : ∀ b o, b ≠ a → h0.get? b = some o → (h0.update a (Obj.mapSeq fun _ => (#[] : Array Value))).get? b = some o := fun b o hb e => (Heap.get?_update_ne _ _ _ _ hb).trans e
  unfold ksk_tree
  refine wpAny_bind (listItems_at at0 rfl ?_)
  refine wpAny_bind (listUpdate_at at0 rfl ?_ (by rw [List.size_toArray]; exact few) (Nat.zero_le _))
  refine wpAny_bind (seqEpoch_at at1 rfl ?_)
  refine wpAny_bind (wpAny_newTuple ?_ (by show its.length ≤ _; exact few))
  refine wpAny_bind (wpAny_newList ?_ (Nat.zero_le _))
  refine wpAny_holding ?_
  have Im : Inv X pins σ H { s with heap := (h0.update a (Obj.mapSeq fun _ => (#[] : Array Value))).push (seqObj "tuple" its.toArray 0), toks := s.toks } := oa.turn I1 na0 fun b o hb e => Heap.get?_push_of_some _ (hup b o hb e)
  have oS : OwnA X pins ((h0.update a (Obj.mapSeq fun _ => (#[] : Array Value))).push (seqObj "tuple" its.toArray 0)).objs.size := OwnA.new Im (Nat.le_refl _)
  have nS0 : H ((h0.update a (Obj.mapSeq fun _ => (#[] : Array Value))).push (seqObj "tuple" its.toArray 0)).objs.size = none := Im.hok.fresh (Nat.le_refl _)
  have hka : ((h0.update a (Obj.mapSeq fun _ => (#[] : Array Value))).push (seqObj "tuple" its.toArray 0)).objs.size ≠ a := by
    rw [size_push', Heap.size_update]; omega
  have I2 : Inv X pins σ H { s with heap := ((h0.update a (Obj.mapSeq fun _ => (#[] : Array Value))).push (seqObj "tuple" its.toArray 0)).push (seqObj "list" #[] 0), toks := s.toks } := Im.kept fun b o e => Heap.get?_push_of_some _ e
  have nk : (((h0.update a (Obj.mapSeq fun _ => (#[] : Array Value))).push (seqObj "tuple" its.toArray 0)).push (seqObj "list" #[] 0)).get? ((h0.update a (Obj.mapSeq fun _ => (#[] : Array Value))).push (seqObj "tuple" its.toArray 0)).objs.size = some (seqObj "list" #[] 0) := Heap.get?_push_size _ rfl
  have na : (((h0.update a (Obj.mapSeq fun _ => (#[] : Array Value))).push (seqObj "tuple" its.toArray 0)).push (seqObj "list" #[] 0)).get? a = some (seqObj "list" #[] e1) := Heap.get?_push_of_some _ (Heap.get?_push_of_some _ at1)
  clear Im
  show wpAny _ _ (ksk_rest a (.ref q) false its.toArray _ (.ref _)) _ _ { s with heap := ((h0.update a (Obj.mapSeq fun _ => (#[] : Array Value))).push (seqObj "tuple" its.toArray 0)).push (seqObj "list" #[] 0), toks := s.toks }
  generalize ((h0.update a (Obj.mapSeq fun _ => (#[] : Array Value))).push (seqObj "tuple" its.toArray 0)).push (seqObj "list" #[] 0) = h2 at I2 nk na ⊢
  generalize ((h0.update a (Obj.mapSeq fun _ => (#[] : Array Value))).push (seqObj "tuple" its.toArray 0)).objs.size = kS at oS nS0 hka nk ⊢
  have hal : AllAlike (xs.map kD) := AllAlike.of kD_alike
  have hsk : Sortable (xs.map kD) := Sortable.tuples fun b => ⟨_, _, rfl⟩
  unfold ksk_rest
  refine wpAny_bind (wpAny_rule ?_)
  rw [List.forIn_toArray]
  refine wpAny_bind (ksk_fold (fun i s' => ∃ (H' : Hp) (kA : Array Value) (e : Nat) (ts : List Addr), Inv X pins σ H' s' ∧ Same H H' ∧ H' a = none ∧ H' kS = none ∧ s'.heap.get? kS = some (seqObj "list" kA e) ∧ s'.heap.get? a = some (seqObj "list" #[] e1) ∧ kA.toList = ts.map Value.ref ∧
      Paired (fun t x => H' t = some (.tup [.int (List.length x : Nat), .str (S x)])) ts (xs.take i)) its 0 _
    ⟨H, #[], 0, [], I2, Same.refl H, na0, nS0, nk, na, rfl, by rw [List.take_zero]; exact .nil⟩ ?step ?done)
  case step =>
    rintro j x s' hx ⟨H', kA, e, ts, I3, sm, na3, nS3, nk3, ha3, hts, hp⟩
    simp only [Nat.zero_add] at hp ⊢
    have hj : j < its.length := (List.getElem?_eq_some_iff.mp hx).1
    have hxj : xs[j]? = some (xs.getD j []) := by rw [List.getD_eq_getElem?_getD, List.getElem?_eq_getElem (by omega)]; rfl
    obtain ⟨tk, rfl⟩ : ∃ tk, x = .str (S (xs.getD j [])) tk := by
      have e1 : (txs xs)[j]? = some (.str (S (xs.getD j []))) := by unfold txs; rw [List.getElem?_map, hxj]; rfl
      obtain ⟨u, eu, ru⟩ := rv.get e1
      rw [hx] at eu
      obtain ⟨tv, rfl⟩ := ru
      exact ⟨tv, Option.some.inj eu⟩
    have hkl : kA.size ≤ its.length := by
      have h1 := congrArg List.length hts
      have h2 := paired_len hp
      rw [Array.length_toList, List.length_map] at h1
      rw [List.length_take] at h2
      omega
    refine wpAny_bind (wpAny_attempt (key_call2 (o1 := seqObj "list" #[] e1) (o2 := seqObj "list" kA e) Fk hr hb oa oS I3 na3 nS3 ha3 nk3 (fun v e => nomatch e) (fun v e => nomatch e) (hxs _ (List.mem_of_getElem? hxj)) fun t H4 s4 I4 sm4 ht4 ha4 nk4 na4 nS4 => ?_))
    have s1 := Heap.SameBut.update s4.heap kS (Obj.mapSeq (·.push (Value.ref t)))
    obtain ⟨c2, hc2⟩ : ∃ c2, (s4.heap.update kS (Obj.mapSeq (·.push (Value.ref t)))).get? kS = some (seqObj "list" (kA.push (.ref t)) c2) := ⟨_, get?_update_seq nk4 (·.push (Value.ref t))⟩
    refine wpAny_bind (listUpdate_at nk4 rfl ?_ (Nat.le_trans hkl few) (Nat.le_trans (Nat.le_of_eq (Array.size_push ..)) (Nat.succ_le_succ (Nat.le_trans hkl few))))
    refine wpAny_pure ⟨rfl, H4, kA.push (.ref t), c2, ts ++ [t], oS.turn (tk := s4.toks) I4 nS4 fun b o n e => (s1.2 b n).trans e, sm.trans sm4, na4, nS4, hc2, (s1.2 a hka.symm).trans ha4, by rw [Array.toList_push, hts, List.map_append]; rfl, ?_⟩
    rw [List.take_succ, hxj]
    exact Paired.app (pr_imp2 (fun _ _ e => sm4 _ _ e) hp) (.cons ht4 .nil)
  case done =>
    rintro s' ⟨H', kA, e, ts, I3, sm, na3, nS3, nk3, ha3, hts, hp⟩
    rw [Nat.zero_add, hn, List.take_length] at hp
    have hk' : EachIs (fun v k => ∃ as, Reads s'.heap v k as) kA.toList (xs.map kD) := by rw [hts]; exact each_keys_reads I3 hp
    have hsz : kA.size = its.length := by
      have h1 := hk'.length
      rw [Array.length_toList, List.length_map] at h1
      omega
    obtain ⟨g, hg0, hg⟩ := heap_less s'.heap kS
    have kp : KeepsBut a g s'.heap := fun b o hb e => by
      have hb2 : b ≠ kS := fun z => by rw [z, hg0] at e; cases e
      rw [← hg b hb2]; exact e
    try dsimp only
    refine wpAny_bind (listItems_at nk3 rfl ?_)
    refine keyH_end (κ := dataKind s'.heap (xs.map kD)) (h₁ := g) kp hg0 nk3 ha3 hka (SortsAt.data hk' hal hsk fun d hd => ?_) hsz few fun h3 tk3 c k3 n3 => ?_
    · obtain ⟨x, _, rfl⟩ := List.mem_map.mp hd
      have e : (kD x).depth = 1 := by unfold kD; simp [PyData.depth, PyData.depthAll]
      have : X.A.in1.in1.units = X.A.units + 2 := rfl
      omega
    · have eo := keyedOut_each (rev := false) (out := sortVals (dataKind s'.heap (xs.map kD)) false kA.toList its) kD ⟨s'.heap, kA.toList, hal, rfl, hk'⟩ (texts_vals rv)
      have hv := vals_texts eo
      refine ⟨rfl, .ref a, upd H' a (.lst (txs (ordSort xs))), invTrack I3 (ch := [a, kS]) (t' := tk3) (fun b o hb e => ?_) (fun b hb => ?_) (by simp) ⟨?_, _, c, hv, n3⟩, rfl, kQ' _ (sm.trans (sm_new na3)) upd_same⟩
      · have h1 : b ≠ a := fun z => hb (by simp [z])
        have h2 : b ≠ kS := fun z => hb (by simp [z])
        exact k3 b o h1 (by rw [hg b h2]; exact e)
      · rcases List.mem_cons.mp hb with rfl | hb
        · exact oa.fp na3
        · rw [List.mem_singleton.mp hb]; exact oS.fp nS3
      · rw [txs_len]
        unfold ordSort
        rw [List.length_mergeSort, ← hn]
        exact few
end
end LX
set_option maxHeartbeats 4000000
namespace LX
open PySem PySem.W PySem.Spec PyProof.Rows L2 C8 SX
section
variable {prog : Program} {w : World} {A : Around} {E : Value → Shared → Prop} {s : Shared}
theorem wpAny_ite_yes {α : Type} {c : Prop} [Decidable c] {t u : Sem α} {R : α → Shared → Prop} (yes : c) (k : wpAny (model prog w) A t R E s) : wpAny (model prog w) A (if c then t else u) R E s := by
  rw [if_pos yes]; exact k
theorem wpAny_ite_no {α : Type} {c : Prop} [Decidable c] {t u : Sem α} {R : α → Shared → Prop} (no : ¬ c) (k : wpAny (model prog w) A u R E s) : wpAny (model prog w) A (if c then t else u) R E s := by
  rw [if_neg no]; exact k
theorem collect_tup {tp : Addr} {us : List Value} {R : List Value → Shared → Prop} (it : IsTup s.heap tp us.toArray) (few : us.length ≤ sizeLine)
    (k : R us { s with heap := (s.heap.push (seqObj "list" #[] 0)).update s.heap.objs.size (Obj.mapSeq (· ++ us.toArray)) }) : wpAny (model prog w) A (collect (.ref tp)) R E s := by
  obtain ⟨ob, at1, cls, ep, dat⟩ := it
  have at2 : (s.heap.push (seqObj "list" #[] 0)).get? tp = some ob := Heap.get?_push_of_some _ at1
  have new0 : (s.heap.push (seqObj "list" #[] 0)).get? s.heap.objs.size = some (seqObj "list" #[] 0) := Heap.get?_push_size _ rfl
  have nil_app : ((#[] : Array Value) ++ us.toArray).toList = us := by simp
  have fits : ((#[] : Array Value) ++ us.toArray).size ≤ sizeLine + 1 := by
    rw [← Array.length_toList, nil_app]
    exact Nat.le_succ_of_le few
  have isT : (Value.type "tuple" == Value.type "tuple") = true := by rfl
  unfold collect
  exact wpAny_bind (wpAny_runValue (codeAny_builtin entry_proto_collect' (wpAny_bind (wpAny_newList (wpAny_pure ⟨Code.quiet_builtin _ (by decide +kernel), codeAny_builtin entry_list_iadd' (by
    unfold Builtin.«list.__iadd__»
    refine wpAny_bind (wpAny_pure ?_)
    unfold Builtin.List.listExtendWith
    refine wpAny_bind (wpAny_typeOf (T := "tuple") ⟨ob, at2, cls⟩ (wpAny_ite_yes (by rw [isT, Bool.or_true]) ?_))
    refine wpAny_bind (listItems_at at2 dat (wpAny_bind (listItems_at new0 rfl ?_)))
    dsimp only
    refine wpAny_ite_no (by simp) (wpAny_bind (listUpdate_at new0 rfl ?_ (Nat.zero_le _) fits))
    refine wpAny_pure ?_
    dsimp only
    refine wpAny_bind (wpAny_load (get?_update_seq new0 _) ?_)
    dsimp only [seqObj]
    rw [nil_app]
    exact wpAny_pure k)⟩)))))
theorem sorted_of_sortT {tp : Addr} {us : List Value} {R : Value → Shared → Prop} (it : IsTup s.heap tp us.toArray) (few : us.length ≤ sizeLine)
    (sorts : ∀ E2 : Value → Shared → Prop, wpAny (model prog w) A.in1.in1 (Builtin.«list.sort» ⟨[.ref (s.heap.objs.size + 1)], []⟩) (fun e s2 => e = .done (.ret .none) ∧ R (.ref (s.heap.objs.size + 1)) s2) E2 { s with heap := copyHeap s.heap us }) :
    wpAny (model prog w) A (call (.builtin "sorted") [.ref tp]) R E s := by
  have size1 : ((s.heap.push (seqObj "list" #[] 0)).update s.heap.objs.size (Obj.mapSeq (· ++ us.toArray))).objs.size = s.heap.objs.size + 1 := (Heap.size_update ..).trans (size_push' _ _)
  refine Calls.call_function_entry kind_sorted plain_sorted entry_sorted (args_sorted1 _) (by
    unfold Builtin.«sorted»
    refine wpAny_bind (wpAny_pure (wpAny_bind (collect_tup it few (wpAny_bind (wpAny_newList ?_ few)))))
    rw [size1]
    refine wpAny_bind (wpAny_holding (wpAny_call_entry slot_list_sort ⟨_, copyHeap_at s.heap us, rfl⟩ entry_list_sort (wpAny_mono (sorts _) (fun e s2 ⟨ee, got⟩ => ?_) fun _ _ no => no) (args_list_sort _)))
    subst ee
    exact ⟨.none, rfl, wpAny_pure ⟨_, rfl, got⟩⟩)
theorem sorted_dataT {β : Type} {us : List Value} {bs : List β} {enc : β → PyData} {R : Value → β → Prop} {tp : Addr} {Q : Value → Shared → Prop} (it : IsTup s.heap tp us.toArray) (are : EachIs R us bs) (read : EachIs (fun v b => ∃ as, Reads s.heap v (enc b) as) us bs) (al : AllAlike (bs.map enc)) (so : Sortable (bs.map enc)) (few : bs.length ≤ sizeLine)
    (deep : ∀ b, b ∈ bs → A.units + 2 + (enc b).depth < cLine) (k : ∀ out, out.length = bs.length → EachIs R out (bs.mergeSort (dataLe false enc)) → Q (.ref (s.heap.objs.size + 1)) { s with heap := sortedAll s.heap us (List.toArray out) }) : wpAny (model prog w) A (call (.builtin "sorted") [.ref tp]) Q E s := by
  have few2 : us.length ≤ sizeLine := by rw [are.length]; exact few
  have read2 : EachIs (fun v b => ∃ as, Reads (sortingHeap (copyHeap s.heap us) (s.heap.objs.size + 1) us) v (enc b) as) us bs := read.mono fun v b h => let ⟨as, r⟩ := h; ⟨as, PyProof.Rows.Reads.keeps (fun _ _ => sorting_copy_old) r⟩
  have out := sortVals_data false are read2 al
  have can := SortsAt.data (prog := prog) (w := w) (A := A.in1.in1) (s := { s with heap := sortingHeap (copyHeap s.heap us) (s.heap.objs.size + 1) us }) (each_map (R := fun v d => ∃ as, Reads (sortingHeap (copyHeap s.heap us) (s.heap.objs.size + 1) us) v d as) enc read2) al so (bound_map deep)
  refine sorted_of_sortT it few2 fun _ => list_sort_vals (s := { s with heap := copyHeap s.heap us }) (copyHeap_at s.heap us) can few2 ⟨rfl, k _ ?_ out⟩
  rw [sortVals_length false rfl]
  exact are.length
end
section
variable {X : Cx}
def rSortDT (K : PySem.W.Frag) {β : Type} (enc : β → PyData) : List V → Hp → VK → Prop := fun vs H Q => ∃ (a : Addr) (xs : List V) (bs : List β), vs = [V.ref a] ∧ SqT K H a xs ∧ Paired (fun x b => Dp K H x (enc b)) xs bs ∧ AllAlike (bs.map enc) ∧ Sortable (bs.map enc) ∧ (∀ b ∈ bs, (enc b).depth ≤ 8) ∧
  ∀ (p : Addr) (ys : List V), H p = none → Paired (fun x b => Dp K H x (enc b)) ys (bs.mergeSort (dataLe false enc)) → Q (.ref p) (upd H p (.lst ys))
theorem cr_sortedDT {β : Type} (enc : β → PyData) (hu : X.A.units + 64 < cLine) : CallR X (.builtin "sorted") (rSortDT X.K enc) := by
  intro pins s σ H vs us Q I r h
  obtain ⟨a, xs, bs, rfl, hs, hd, hal, hk, hdep, q⟩ := h
  obtain ⟨its, rv, hl, hz⟩ := I.tuple hs
  rw [Vals.ref1 r]
  have e := each_of hd rv
  have er : EachIs (fun v b => ∃ as, Reads s.heap v (enc b) as) its bs := e.mono fun v b ⟨x, rx, hx⟩ => Dp.reads I _ _ _ hx rx
  have hL : bs.length ≤ sizeLine := by rw [← paired_len hd]; exact hz
  refine sorted_dataT hl e er hal hk hL (fun b hb => by have := hdep b hb; omega) fun out ho eo => ?_
  obtain ⟨ys, rvy, hdy⟩ := of_each eo
  obtain ⟨ep, he'⟩ := PyProof.Rows.sortedAll_at s.heap its out.toArray
  refine ⟨.ref _, upd H (s.heap.objs.size + 1) (.lst ys), I.laid (t' := s.toks) (fun _ _ => PyProof.Rows.sortedAll_old) (Nat.le_succ _) ⟨?_, out, ep, rvy, he'⟩, rfl, q _ _ (I.hok.fresh (Nat.le_succ _)) hdy⟩
  rw [rvy.length, ho]
  exact hL
end
end LX
set_option maxHeartbeats 4000000
namespace LX
open PySem PySem.W PySem.Spec PyProof.Rows L2 C8 SX
section
variable {prog : Program} {w : World} {A : Around} {E : Value → Shared → Prop} {s : Shared}
theorem sorted_of_sortTK {tp : Addr} {us : List Value} {kws : List (Str × Value)} {R : Value → Shared → Prop} (it : IsTup s.heap tp us.toArray) (few : us.length ≤ sizeLine) (ok1 : argsOk "sorted" ⟨[.ref tp], kws⟩) (ok2 : ∀ x, argsOk "list.sort" ⟨[.ref x], kws⟩)
    (sorts : ∀ E2 : Value → Shared → Prop, wpAny (model prog w) A.in1.in1 (Builtin.«list.sort» ⟨[.ref (s.heap.objs.size + 1)], kws⟩) (fun e s2 => e = .done (.ret .none) ∧ R (.ref (s.heap.objs.size + 1)) s2) E2 { s with heap := copyHeap s.heap us }) :
    wpAny (model prog w) A (call (.builtin "sorted") [.ref tp] kws) R E s := by
  have size1 : ((s.heap.push (seqObj "list" #[] 0)).update s.heap.objs.size (Obj.mapSeq (· ++ us.toArray))).objs.size = s.heap.objs.size + 1 := (Heap.size_update ..).trans (size_push' _ _)
  refine call_function_entry_kw kind_sorted plain_sorted entry_sorted ok1 (by
    unfold Builtin.«sorted»
    refine wpAny_bind (wpAny_pure (wpAny_bind (collect_tup it few (wpAny_bind (wpAny_newList ?_ few)))))
    rw [size1]
    refine wpAny_bind (wpAny_holding (wpAny_call_entry_kw slot_list_sort ⟨_, copyHeap_at s.heap us, rfl⟩ entry_list_sort (wpAny_mono (sorts _) (fun e s2 ⟨ee, got⟩ => ?_) fun _ _ no => no) (ok2 _)))
    subst ee
    exact ⟨.none, rfl, wpAny_pure ⟨_, rfl, got⟩⟩)
end
section
variable {X : Cx} {pins : List (Addr × Obj)} {σ : L2.St} {H : Hp} {s : Shared} {kf : Nat} {q : Addr} {fd : FuncData} {ps : List Str} {It Sc : Addr}
def rSortKeyT (K : PySem.W.Frag) (q : Addr) : List V → List V → Hp → VK → Prop := fun vs zs H Q => ∃ (l : Addr) (xs : List (List Nat)), vs = [V.ref l] ∧ zs = [V.ref q] ∧ SqT K H l (txs xs) ∧ (∀ x ∈ xs, x.length ≤ 1000) ∧
  ∀ (p : Addr) (H' : Hp), Same H H' → H p = none → H' p = some (.lst (txs (ordSort xs))) → Q (.ref p) H'
theorem cr_sortedKey2T (Fk : FnOk X.prog X.w X.K X.mg X.base C8.CX0 kf q fd ps spOrd) (hr : Room (kf + 2) X.A) (hb : Binds X.K fd ps []) : CallRK X (.builtin "sorted") [Str.ofString "key"] (rSortKeyT X.K q) := by
  intro pins s σ H vs zs us ws Q I rv0 rz h
  obtain ⟨l, xs, rfl, rfl, hs, hxs, kQ⟩ := h
  obtain ⟨u, rfl, ru⟩ := vals1 rv0
  obtain ⟨u2, rfl, ru2⟩ := vals1 rz
  obtain rfl : u = Value.ref l := ru
  obtain rfl : u2 = Value.ref q := ru2
  obtain ⟨its, rv, pl, hz0⟩ := I.tuple hs
  have hn : its.length = xs.length := by rw [← rv.length, txs_len]
  have few : its.length ≤ sizeLine := by rw [← rv.length]; exact hz0
  have hu : X.A.units + 64 < cLine := by have := hr.un; omega
  show wpAny _ _ (call (.builtin "sorted") [Value.ref l] [(Str.ofString "key", .ref q)]) _ _ s
  refine sorted_of_sortTK pl few (ksk_s1 _ _) (fun _ => ksk_l1 _ _) fun E' => ?_
  rw [ksk_t1]
  have oa : OwnA X pins (s.heap.objs.size + 1) := OwnA.new I (Nat.le_succ _)
  have I1 : Inv X pins σ H { s with heap := copyHeap s.heap its, toks := s.toks } := I.kept fun b o e => copyHeap_old e
  have na0 : H (s.heap.objs.size + 1) = none := I.hok.fresh (Nat.le_succ _)
  have at0 : (copyHeap s.heap its).get? (s.heap.objs.size + 1) = some (seqObj "list" its.toArray 0) := copyHeap_at s.heap its
  have kQ' := fun H' h1 h2 => kQ (s.heap.objs.size + 1) H' h1 na0 h2
  clear kQ
  generalize s.heap.objs.size + 1 = a at oa na0 at0 kQ' ⊢
  generalize copyHeap s.heap its = h0 at I1 at0 ⊢
  have ha : a < h0.objs.size := Heap.lt_size at0
  obtain ⟨e1, at1⟩ : ∃ e1, (h0.update a (Obj.mapSeq fun _ => (#[] : Array Value))).get? a = some (seqObj "list" #[] e1) := ⟨_, get?_update_seq at0 fun _ => #[]⟩
  have hup : ∀ b o, b ≠ a → h0.get? b = some o → (h0.update a (Obj.mapSeq fun _ => (#[] : Array Value))).get? b = some o := fun b o hb e => (Heap.get?_update_ne _ _ _ _ hb).trans e
  unfold ksk_tree
  refine wpAny_bind (listItems_at at0 rfl ?_)
  refine wpAny_bind (listUpdate_at at0 rfl ?_ (by rw [List.size_toArray]; exact few) (Nat.zero_le _))
  refine wpAny_bind (seqEpoch_at at1 rfl ?_)
  refine wpAny_bind (wpAny_newTuple ?_ (by show its.length ≤ _; exact few))
  refine wpAny_bind (wpAny_newList ?_ (Nat.zero_le _))
  refine wpAny_holding ?_
  have Im : Inv X pins σ H { s with heap := (h0.update a (Obj.mapSeq fun _ => (#[] : Array Value))).push (seqObj "tuple" its.toArray 0), toks := s.toks } := oa.turn I1 na0 fun b o hb e => Heap.get?_push_of_some _ (hup b o hb e)
  have oS : OwnA X pins ((h0.update a (Obj.mapSeq fun _ => (#[] : Array Value))).push (seqObj "tuple" its.toArray 0)).objs.size := OwnA.new Im (Nat.le_refl _)
  have nS0 : H ((h0.update a (Obj.mapSeq fun _ => (#[] : Array Value))).push (seqObj "tuple" its.toArray 0)).objs.size = none := Im.hok.fresh (Nat.le_refl _)
  have hka : ((h0.update a (Obj.mapSeq fun _ => (#[] : Array Value))).push (seqObj "tuple" its.toArray 0)).objs.size ≠ a := by
    rw [size_push', Heap.size_update]; omega
  have I2 : Inv X pins σ H { s with heap := ((h0.update a (Obj.mapSeq fun _ => (#[] : Array Value))).push (seqObj "tuple" its.toArray 0)).push (seqObj "list" #[] 0), toks := s.toks } := Im.kept fun b o e => Heap.get?_push_of_some _ e
  have nk : (((h0.update a (Obj.mapSeq fun _ => (#[] : Array Value))).push (seqObj "tuple" its.toArray 0)).push (seqObj "list" #[] 0)).get? ((h0.update a (Obj.mapSeq fun _ => (#[] : Array Value))).push (seqObj "tuple" its.toArray 0)).objs.size = some (seqObj "list" #[] 0) := Heap.get?_push_size _ rfl
  have na : (((h0.update a (Obj.mapSeq fun _ => (#[] : Array Value))).push (seqObj "tuple" its.toArray 0)).push (seqObj "list" #[] 0)).get? a = some (seqObj "list" #[] e1) := Heap.get?_push_of_some _ (Heap.get?_push_of_some _ at1)
  clear Im
  show wpAny _ _ (ksk_rest a (.ref q) false its.toArray _ (.ref _)) _ _ { s with heap := ((h0.update a (Obj.mapSeq fun _ => (#[] : Array Value))).push (seqObj "tuple" its.toArray 0)).push (seqObj "list" #[] 0), toks := s.toks }
  generalize ((h0.update a (Obj.mapSeq fun _ => (#[] : Array Value))).push (seqObj "tuple" its.toArray 0)).push (seqObj "list" #[] 0) = h2 at I2 nk na ⊢
  generalize ((h0.update a (Obj.mapSeq fun _ => (#[] : Array Value))).push (seqObj "tuple" its.toArray 0)).objs.size = kS at oS nS0 hka nk ⊢
  have hal : AllAlike (xs.map kD) := AllAlike.of kD_alike
  have hsk : Sortable (xs.map kD) := Sortable.tuples fun b => ⟨_, _, rfl⟩
  unfold ksk_rest
  refine wpAny_bind (wpAny_rule ?_)
  rw [List.forIn_toArray]
  refine wpAny_bind (ksk_fold (fun i s' => ∃ (H' : Hp) (kA : Array Value) (e : Nat) (ts : List Addr), Inv X pins σ H' s' ∧ Same H H' ∧ H' a = none ∧ H' kS = none ∧ s'.heap.get? kS = some (seqObj "list" kA e) ∧ s'.heap.get? a = some (seqObj "list" #[] e1) ∧ kA.toList = ts.map Value.ref ∧
      Paired (fun t x => H' t = some (.tup [.int (List.length x : Nat), .str (S x)])) ts (xs.take i)) its 0 _
    ⟨H, #[], 0, [], I2, Same.refl H, na0, nS0, nk, na, rfl, by rw [List.take_zero]; exact .nil⟩ ?step ?done)
  case step =>
    rintro j x s' hx ⟨H', kA, e, ts, I3, sm, na3, nS3, nk3, ha3, hts, hp⟩
    simp only [Nat.zero_add] at hp ⊢
    have hj : j < its.length := (List.getElem?_eq_some_iff.mp hx).1
    have hxj : xs[j]? = some (xs.getD j []) := by rw [List.getD_eq_getElem?_getD, List.getElem?_eq_getElem (by omega)]; rfl
    obtain ⟨tk, rfl⟩ : ∃ tk, x = .str (S (xs.getD j [])) tk := by
      have e1 : (txs xs)[j]? = some (.str (S (xs.getD j []))) := by unfold txs; rw [List.getElem?_map, hxj]; rfl
      obtain ⟨u, eu, ru⟩ := rv.get e1
      rw [hx] at eu
      obtain ⟨tv, rfl⟩ := ru
      exact ⟨tv, Option.some.inj eu⟩
    have hkl : kA.size ≤ its.length := by
      have h1 := congrArg List.length hts
      have h2 := paired_len hp
      rw [Array.length_toList, List.length_map] at h1
      rw [List.length_take] at h2
      omega
    refine wpAny_bind (wpAny_attempt (key_call2 (o1 := seqObj "list" #[] e1) (o2 := seqObj "list" kA e) Fk hr hb oa oS I3 na3 nS3 ha3 nk3 (fun v e => nomatch e) (fun v e => nomatch e) (hxs _ (List.mem_of_getElem? hxj)) fun t H4 s4 I4 sm4 ht4 ha4 nk4 na4 nS4 => ?_))
    have s1 := Heap.SameBut.update s4.heap kS (Obj.mapSeq (·.push (Value.ref t)))
    obtain ⟨c2, hc2⟩ : ∃ c2, (s4.heap.update kS (Obj.mapSeq (·.push (Value.ref t)))).get? kS = some (seqObj "list" (kA.push (.ref t)) c2) := ⟨_, get?_update_seq nk4 (·.push (Value.ref t))⟩
    refine wpAny_bind (listUpdate_at nk4 rfl ?_ (Nat.le_trans hkl few) (Nat.le_trans (Nat.le_of_eq (Array.size_push ..)) (Nat.succ_le_succ (Nat.le_trans hkl few))))
    refine wpAny_pure ⟨rfl, H4, kA.push (.ref t), c2, ts ++ [t], oS.turn (tk := s4.toks) I4 nS4 fun b o n e => (s1.2 b n).trans e, sm.trans sm4, na4, nS4, hc2, (s1.2 a hka.symm).trans ha4, by rw [Array.toList_push, hts, List.map_append]; rfl, ?_⟩
    rw [List.take_succ, hxj]
    exact Paired.app (pr_imp2 (fun _ _ e => sm4 _ _ e) hp) (.cons ht4 .nil)
  case done =>
    rintro s' ⟨H', kA, e, ts, I3, sm, na3, nS3, nk3, ha3, hts, hp⟩
    rw [Nat.zero_add, hn, List.take_length] at hp
    have hk' : EachIs (fun v k => ∃ as, Reads s'.heap v k as) kA.toList (xs.map kD) := by rw [hts]; exact each_keys_reads I3 hp
    have hsz : kA.size = its.length := by
      have h1 := hk'.length
      rw [Array.length_toList, List.length_map] at h1
      omega
    obtain ⟨g, hg0, hg⟩ := heap_less s'.heap kS
    have kp : KeepsBut a g s'.heap := fun b o hb e => by
      have hb2 : b ≠ kS := fun z => by rw [z, hg0] at e; cases e
      rw [← hg b hb2]; exact e
    try dsimp only
    refine wpAny_bind (listItems_at nk3 rfl ?_)
    refine keyH_end (κ := dataKind s'.heap (xs.map kD)) (h₁ := g) kp hg0 nk3 ha3 hka (SortsAt.data hk' hal hsk fun d hd => ?_) hsz few fun h3 tk3 c k3 n3 => ?_
    · obtain ⟨x, _, rfl⟩ := List.mem_map.mp hd
      have e : (kD x).depth = 1 := by unfold kD; simp [PyData.depth, PyData.depthAll]
      have : X.A.in1.in1.units = X.A.units + 2 := rfl
      omega
    · have eo := keyedOut_each (rev := false) (out := sortVals (dataKind s'.heap (xs.map kD)) false kA.toList its) kD ⟨s'.heap, kA.toList, hal, rfl, hk'⟩ (texts_vals rv)
      have hv := vals_texts eo
      refine ⟨rfl, .ref a, upd H' a (.lst (txs (ordSort xs))), invTrack I3 (ch := [a, kS]) (t' := tk3) (fun b o hb e => ?_) (fun b hb => ?_) (by simp) ⟨?_, _, c, hv, n3⟩, rfl, kQ' _ (sm.trans (sm_new na3)) upd_same⟩
      · have h1 : b ≠ a := fun z => hb (by simp [z])
        have h2 : b ≠ kS := fun z => hb (by simp [z])
        exact k3 b o h1 (by rw [hg b h2]; exact e)
      · rcases List.mem_cons.mp hb with rfl | hb
        · exact oa.fp na3
        · rw [List.mem_singleton.mp hb]; exact oS.fp nS3
      · rw [txs_len]
        unfold ordSort
        rw [List.length_mergeSort, ← hn]
        exact few
end
end LX
set_option maxHeartbeats 1000000
namespace Toy
open PySem L2 C8 SX LX
section
variable {ps : Ps} {sg : List Nat}
theorem plN_len {n : Nat} {v : List Nat} (h : v ∈ plN ps sg n) : v.length = n ∧ Ov sg v ∧ K60.movesL ps v = [] := by
  obtain ⟨h1, h2⟩ := List.mem_filter.mp h
  obtain ⟨h3, h4⟩ := level_ov.mp h1
  exact ⟨h3, h4, of_decide_eq_true h2⟩
theorem plU_mem {L : Nat} {v : List Nat} (h : v ∈ plU ps sg L) : v.length < L ∧ Ov sg v ∧ K60.movesL ps v = [] := by
  unfold plU at h
  obtain ⟨n, hn, hv⟩ := List.mem_flatMap.mp h
  obtain ⟨h1, h2, h3⟩ := plN_len hv
  have := List.mem_range.mp hn
  exact ⟨by omega, h2, h3⟩
theorem upto_plain (n : Nat) : (upto sg n).filter (plB ps) = plU ps sg (n + 1) := by
  induction n with
  | zero => rfl
  | succ n ih =>
    show (upto sg n ++ level sg (n + 1)).filter _ = _
    rw [List.filter_append, ih, plU_succ ps sg (n + 1)]; rfl
theorem plU_at {L n : Nat} (h : n < L) : (plU ps sg L).filter (fun v => decide (v.length = n)) = plN ps sg n := by
  induction L with
  | zero => omega
  | succ L ih =>
    rw [plU_succ, List.filter_append]
    have e : (plN ps sg L).filter (fun v => decide (v.length = n)) = if L = n then plN ps sg L else [] := by
      by_cases q : L = n
      · rw [if_pos q, List.filter_eq_self]
        exact fun v hv => decide_eq_true (by rw [(plN_len hv).1, q])
      · rw [if_neg q, List.filter_eq_nil_iff]
        intro v hv
        rw [decide_eq_true_eq, (plN_len hv).1]; exact q
    rw [e]
    by_cases q : L = n
    · subst q
      rw [if_pos rfl]
      have : (plU ps sg L).filter (fun v => decide (v.length = L)) = [] := by
        rw [List.filter_eq_nil_iff]
        intro v hv
        have := (plU_mem hv).1
        rw [decide_eq_true_eq]; omega
      rw [this]; rfl
    · rw [if_neg q, List.append_nil, ih (by omega)]
theorem plU_more {l : Nat} (h : ∀ k, l < k → plN ps sg k = []) : ∀ d, plU ps sg (l + 1 + d) = plU ps sg (l + 1)
  | 0 => rfl
  | d + 1 => by rw [show l + 1 + (d + 1) = l + 1 + d + 1 by omega, plU_succ, h _ (by omega), List.append_nil, plU_more h d]
theorem plU_cut {M n : Nat} : (plU ps sg M).filter (fun v => decide (v.length ≤ n)) = plU ps sg (min M (n + 1)) := by
  induction M with
  | zero => rw [Nat.zero_min]; rfl
  | succ M ih =>
    rw [plU_succ, List.filter_append, ih]
    by_cases q : M ≤ n
    · have : (plN ps sg M).filter (fun v => decide (v.length ≤ n)) = plN ps sg M := by
        rw [List.filter_eq_self]
        exact fun v hv => decide_eq_true (by rw [(plN_len hv).1]; exact q)
      rw [this, Nat.min_eq_left (show M ≤ n + 1 by omega), Nat.min_eq_left (show M + 1 ≤ n + 1 by omega), plU_succ]
    · have : (plN ps sg M).filter (fun v => decide (v.length ≤ n)) = [] := by
        rw [List.filter_eq_nil_iff]
        intro v hv
        rw [decide_eq_true_eq, (plN_len hv).1]; exact q
      rw [this, List.append_nil, Nat.min_eq_right (show n + 1 ≤ M by omega), Nat.min_eq_right (show n + 1 ≤ M + 1 by omega)]
theorem plU_short {l n : Nat} (h : ∀ k, l < k → plN ps sg k = []) : (plU ps sg (l + 1)).filter (fun v => decide (v.length ≤ n)) = plU ps sg (n + 1) := by
  rw [plU_cut]
  by_cases q : l ≤ n
  · rw [Nat.min_eq_left (show l + 1 ≤ n + 1 by omega)]
    have := plU_more h (n - l)
    rw [show l + 1 + (n - l) = n + 1 by omega] at this
    exact this.symm
  · rw [Nat.min_eq_right (show n + 1 ≤ l + 1 by omega)]
theorem plU_sum (L : Nat) : ((List.range L).map fun k => (plN ps sg k).length).sum = (plU ps sg L).length := by
  unfold plU
  rw [List.length_flatMap]
theorem level_pw (hs : sg.Pairwise (· < ·)) : ∀ n, (level sg n).Pairwise (· < ·)
  | 0 => List.pairwise_singleton _ _
  | n + 1 => by
    show ((level sg n).flatMap fun r => sg.map fun c => r ++ [c]).Pairwise _
    rw [List.pairwise_flatMap]
    refine ⟨fun r _ => ?_, ?_⟩
    · rw [List.pairwise_map]
      exact hs.imp fun h => K60.pre_lt (by rw [List.cons_lt_cons_iff]; exact .inl h)
    · refine (level_pw hs n).imp_of_mem fun {a b} ha hb hab x hx y hy => ?_
      obtain ⟨c, _, rfl⟩ := List.mem_map.mp hx
      obtain ⟨d, _, rfl⟩ := List.mem_map.mp hy
      exact K60.suf_lt hab ((level_ov.mp ha).1.trans (level_ov.mp hb).1.symm)
theorem plU_pw (hs : sg.Pairwise (· < ·)) : ∀ L, (plU ps sg L).Pairwise K60.Ord
  | 0 => .nil
  | L + 1 => by
    rw [plU_succ, List.pairwise_append]
    refine ⟨plU_pw hs L, ?_, fun a ha b hb => .inl (by rw [(plN_len hb).1]; exact (plU_mem ha).1)⟩
    refine ((level_pw hs L).sublist List.filter_sublist).imp_of_mem fun {a b} ha hb hab => .inr ⟨?_, hab⟩
    exact (plN_len ha).1.trans (plN_len hb).1.symm
theorem sum_left : ∀ ps : Ps, (lefts ps).map List.length = ps.map fun p => p.1.length
  | [] => rfl
  | p :: ps => by
    show p.1.length :: (lefts ps).map List.length = _
    rw [sum_left ps]; rfl
theorem bgL_sum {ls : List K62.Tx} (hne : ∀ l ∈ ls, l ≠ []) : dead ls + (bgL ls).length ≤ 1 + (ls.map List.length).sum := by
  have key : ∀ ls : List K62.Tx, (∀ l ∈ ls, l ≠ []) → (ls.flatMap fun l => (List.range' 1 (l.length - 1)).map fun e => l.take e).length + ls.length = (ls.map List.length).sum := by
    intro ls
    induction ls with
    | nil => intro _; rfl
    | cons l ls ih =>
      intro h
      have := ih fun l hl => h l (List.mem_cons_of_mem _ hl)
      have h0 : 0 < l.length := List.length_pos_iff.mpr (h l List.mem_cons_self)
      rw [List.flatMap_cons, List.length_append, List.length_map, List.length_range', List.map_cons, List.sum_cons, List.length_cons]
      omega
  have := key ls hne
  unfold bgL dead
  rw [List.length_cons]
  by_cases q : ls = []
  · rw [if_pos q]; subst q; simp
  · rw [if_neg q]
    have := List.length_pos_iff.mpr q
    omega
end
end Toy
set_option maxHeartbeats 8000000
namespace Toy
open PySem L2 C8 SX LX
theorem op_orR {X : Cx} {f : Value → Value → Sem Value} {r1 r2 : R2} (h1 : OpR X f r1) (h2 : OpR X f r2) : OpR X f (fun x y H Q => r1 x y H Q ∨ r2 x y H Q) := by
  intro pins s σ H x y v u Q I rx ry h
  exact h.elim (h1 pins s σ H x y v u Q I rx ry) (h2 pins s σ H x y v u Q I rx ry)
structure LPs (sg : List Nat) (ps : Ps) : Prop where
  dr : Drawn sg ps 9
  ne : ∀ p ∈ ps, p.1 ≠ []
  few : ∃ B : List K62.Tx, (∀ u ∈ bgL (lefts ps), u ∈ B) ∧ B.length ≤ 14
theorem pairs_lps {sg : List Nat} {ps : Ps} {n : Nat} (hm : Menu sg) (h : Drawn sg ps n) (hn : n ≤ 5) : LPs sg ps := by
  refine ⟨⟨h.dn, h.short, Nat.le_trans h.few (by omega), h.ns⟩, fun p hp e => ?_, [] :: (sg.map fun c => [c]) ++ ps.flatMap (fun p => [p.1.take 2, p.1.take 3]), fun u hu => ?_, ?_⟩
  · have := (h.dn p hp).2.2
    rw [e] at this
    rcases this with h | ⟨_, h⟩
    · simp at h
    · exact absurd h (by simp)
  · unfold bgL at hu
    rcases List.mem_cons.mp hu with rfl | hu
    · exact List.mem_append_left _ List.mem_cons_self
    · obtain ⟨l, hl, h2⟩ := List.mem_flatMap.mp hu
      obtain ⟨p, hp, rfl⟩ := List.mem_map.mp hl
      obtain ⟨e, he, rfl⟩ := List.mem_map.mp h2
      rw [List.mem_range'_1] at he
      have h4 := h.short p hp
      have hc : e = 1 ∨ e = 2 ∨ e = 3 := by omega
      rcases hc with rfl | rfl | rfl
      · refine List.mem_append_left _ (List.mem_cons_of_mem _ ?_)
        cases hp1 : p.1 with
        | nil => rw [hp1] at he; simp at he
        | cons c r =>
          have hcm : c ∈ sg := (h.dn p hp).1 c (by rw [hp1]; exact List.mem_cons_self)
          exact List.mem_map.mpr ⟨c, hcm, rfl⟩
      · exact List.mem_append_right _ (List.mem_flatMap.mpr ⟨p, hp, List.mem_cons_self⟩)
      · exact List.mem_append_right _ (List.mem_flatMap.mpr ⟨p, hp, List.mem_cons_of_mem _ List.mem_cons_self⟩)
  · have hs := (menu_len hm).2
    have hf := h.few
    have : ∀ l : Ps, (l.flatMap fun p => [p.1.take 2, p.1.take 3]).length = l.length * 2 := fun l => by
      induction l with
      | nil => rfl
      | cons p l ih => rw [List.flatMap_cons, List.length_append, ih, List.length_cons]; simp; omega
    rw [List.length_append, this, List.length_cons, List.length_map]
    omega
theorem LPs.fw {sg : List Nat} {ps : Ps} (hm : Menu sg) (h : LPs sg ps) : Few sg ps := ⟨h.ne, fun l hl => by
  obtain ⟨p, hp, rfl⟩ := List.mem_map.mp hl
  exact Nat.le_trans (h.dr.short p hp) (by decide), Nat.le_trans h.dr.few (by decide), (menu_len hm).2⟩
theorem sort_plU {sg : List Nat} {ps : Ps} (hs : sg.Pairwise (· < ·)) (L : Nat) : ordSort (plU ps sg L) = plU ps sg L := by
  unfold ordSort
  refine List.mergeSort_of_pairwise ((plU_pw hs L).imp fun {a b} h => ?_)
  have e : PySem.W.dataLe false kD a b = !PySem.W.dataLt (kD b) (kD a) := rfl
  rw [e, kD_lt, Bool.not_eq_true', decide_eq_false_iff_not]
  unfold OrdL
  unfold K60.Ord at h
  rintro (h2 | ⟨h2, h3⟩)
  · rcases h with h | ⟨h, _⟩ <;> omega
  · rcases h with h | ⟨_, h⟩
    · omega
    · exact List.lt_irrefl _ (List.lt_trans h h3)
theorem ext_seq {K : PySem.W.Frag} {H H' : Hp} {a : Addr} {xs : List V} (s : LamX.ExtN H H') (h : SqL K H a xs) : SqL K H' a xs := by
  rcases h with (h | ⟨o, h⟩) | h
  · exact .inl (.inl (s _ _ h (by intro _ z; cases z)))
  · exact .inl (.inr ⟨o, s _ _ h (by intro _ z; cases z)⟩)
  · exact .inr h
theorem PrAt.ext {H H' : Hp} {qs : List Addr} {l : Ps} (s : LamX.ExtN H H') (h : PrAt H qs l) : PrAt H' qs l := pr_imp (fun _ _ e => s _ _ e (by intro _ z; cases z)) h
section
variable {TT : List NdefX.NTab} {H H' H2 : Hp} {b : Addr}
theorem ext_bx (s : LamX.ExtN H H') (nb : H b = none) (q : Bx b H' H2) : LamX.ExtN H H2 := fun a o e n => q.1 a o (ne_of_none e nb) (s a o e n)
theorem tabs_bx (t : NdefX.TabsN TT H) (hb : BoxAt b H) (s : Bx b H H') : NdefX.TabsN TT H' := fun p hp => by
  have nl : ∀ a o, H a = some o → (∀ xs, o ≠ HO.lst xs) → H' a = some o := fun a o e n => s.1 a o (fun z => by
    obtain ⟨o2, e2, x, y, w, rfl⟩ := hb
    rw [z, e2] at e
    exact n _ (Option.some.inj e).symm) e
  obtain ⟨ps, h1, h2, h3⟩ := t p hp
  refine ⟨ps, nl _ _ h1 (by intro _ z; cases z), h2, fun pos cv hc => ?_⟩
  obtain ⟨c, e1, e2⟩ := h3 pos cv hc
  exact ⟨c, e1, nl _ _ e2 (by intro _ z; cases z)⟩
end
theorem tabs_lset {TT : List NdefX.NTab} {H : Hp} {a : Addr} {xs ys : List V} (h : H a = some (.lst xs)) (t : NdefX.TabsN TT H) : NdefX.TabsN TT (upd H a (.lst ys)) := fun p hp => by
  obtain ⟨ps, h1, h2, h3⟩ := t p hp
  refine ⟨ps, by rw [upd_ne (ne_of h1 h (by intro z; cases z))]; exact h1, h2, fun pos cv hc => ?_⟩
  obtain ⟨c, e1, e2⟩ := h3 pos cv hc
  exact ⟨c, e1, by rw [upd_ne (ne_of e2 h (by intro z; cases z))]; exact e2⟩
theorem ext_put {H H' : Hp} {a : Addr} {o : HO} (s : LamX.ExtN H H') (n : H a = none) : LamX.ExtN H (upd H' a o) := fun b u e m => by rw [upd_ne (ne_of_none e n)]; exact s b u e m
structure Lw (K : PySem.W.Frag) (C : Addr) (TT : List NdefX.NTab) (pl : Addr) (qs : List Addr) (sg : List Nat) (ps : Ps) (rl : Addr) (H0 H : Hp) : Prop where
  ex : LamX.ExtN H0 H
  tb : NdefX.TabsN TT H
  pl : H pl = some (.lst (qs.map V.ref))
  pr : PrAt H qs ps
  ru : Rul K C H rl sg ps
theorem Lw.more {K : PySem.W.Frag} {C pl rl : Addr} {TT : List NdefX.NTab} {qs : List Addr} {sg : List Nat} {ps : Ps} {H0 H H' : Hp} (h : Lw K C TT pl qs sg ps rl H0 H) (x : LamX.ExtN H H') (t : NdefX.TabsN TT H') : Lw K C TT pl qs sg ps rl H0 H' := ⟨h.ex.trans x, t, x _ _ h.pl (by intro _ z; cases z), h.pr.ext x, h.ru.ext x⟩
theorem Lw.same {K : PySem.W.Frag} {C pl rl : Addr} {TT : List NdefX.NTab} {qs : List Addr} {sg : List Nat} {ps : Ps} {H0 H H' : Hp} (h : Lw K C TT pl qs sg ps rl H0 H) (s : Same H H') : Lw K C TT pl qs sg ps rl H0 H' := h.more (extN_same s) (h.tb.ext s)
section
variable {P : Program} {w : World} {K : PySem.W.Frag} {mg : Str → Option Value} {base : Heap}
theorem s_one : Str.ofString "a" = S [97] := by decide +kernel
theorem few_nil {sg : List Nat} (h : sg.length ≤ 3) : Few sg [] := ⟨fun _ h => (nomatch h), fun _ h => (nomatch h), by decide, h⟩
theorem plN_nil (sg : List Nat) (k : Nat) : plN [] sg k = level sg k := by
  unfold plN
  rw [List.filter_eq_self]
  intro v _
  refine decide_eq_true ?_
  rw [moves_plain (fun _ h => by cases h)]
  exact fun _ h => by cases h
def Tl (sg : List Nat) (ps : Ps) (st : Nat) (tv : V) (H : Hp) : Prop := (tv = .non ∧ ∀ k, plN ps sg k ≠ []) ∨ ∃ (tp : Addr) (l : Nat), tv = .ref tp ∧ H tp = some (.tup (txs (plU ps sg (l + 1)))) ∧ (∀ k, l < k → plN ps sg k = []) ∧ l ≤ 14 ∧ l < st
theorem Tl.ext {sg : List Nat} {ps : Ps} {st : Nat} {tv : V} {H H' : Hp} (h : Tl sg ps st tv H) (x : LamX.ExtN H H') : Tl sg ps st tv H' := h.imp id fun ⟨tp, l, h1, h2, h3⟩ => ⟨tp, l, h1, x _ _ h2 (by intro _ z; cases z), h3⟩
theorem plU_uniq {sg : List Nat} {ps : Ps} {l l2 : Nat} (h : ∀ k, l < k → plN ps sg k = []) (h2 : ∀ k, l2 < k → plN ps sg k = []) : plU ps sg (l + 1) = plU ps sg (l2 + 1) := by
  rcases Nat.le_total l l2 with q | q
  · have := plU_more h (l2 - l)
    rw [show l + 1 + (l2 - l) = l2 + 1 by omega] at this
    exact this.symm
  · have := plU_more h2 (l - l2)
    rw [show l2 + 1 + (l - l2) = l + 1 by omega] at this
    exact this
def stN (ps : Ps) : Nat := 1 + (ps.map fun p => p.1.length).sum
theorem stN_le {sg : List Nat} {ps : Ps} (h : LPs sg ps) : stN ps ≤ 37 := by
  unfold stN
  have : ∀ l : Ps, (∀ p ∈ l, p.1.length ≤ 4) → (l.map fun p => p.1.length).sum ≤ l.length * 4 := fun l => by
    induction l with
    | nil => intro _; exact Nat.le_refl _
    | cons p l ih =>
      intro h
      rw [List.map_cons, List.sum_cons, List.length_cons, Nat.add_mul]
      have h1 := ih fun q hq => h q (List.mem_cons_of_mem _ hq)
      have h2 := h p List.mem_cons_self
      omega
  have h1 := this ps h.dr.short
  have h2 := h.dr.few
  have : ps.length * 4 ≤ 9 * 4 := Nat.mul_le_mul h2 (Nat.le_refl _)
  omega
theorem stN_bg {sg : List Nat} {ps : Ps} (h : LPs sg ps) : dead (lefts ps) + (bgL (lefts ps)).length ≤ stN ps := by
  have := bgL_sum (ls := lefts ps) fun l hl => by
    obtain ⟨p, hp, rfl⟩ := List.mem_map.mp hl
    exact h.ne p hp
  rw [sum_left] at this
  exact this
abbrev s_law : Stmt := top 39
abbrev n_law : List Str := ["script", "k", "box", "signs", "pairs", "rules", "long", "plain", "size", "told", "states", "row", "left", "right"]
theorem sc_law : FnScope n_law ["script"] (fnScope s_law) := fnScope_by (by decide +kernel)
def spLaw (TT : List NdefX.NTab) (K : PySem.W.Frag) : Sp := fun vs H Q _ => ∃ (a : Addr) (ns : List Int), vs = [.ref a] ∧ SqL K H a (ns.map V.int) ∧ ns.length ≤ 63 ∧ NdefX.TabsN TT H ∧ ∀ H', Q (.bl true) H'
theorem ok_law {C CI : Addr} {TT : List NdefX.NTab} (T : BT mg) (CH : CC K C)
  (c_box : Cal P w K mg base 1 "_law_box" (spBox K) []) (c_take : Cal P w K mg base 1 "_law_take" spTake []) (c_signs : Cal P w K mg base 3 "_law_signs" spSigns []) (c_pairs : Cal P w K mg base 4 "_law_pairs" spLPairs []) (c_few : Cal P w K mg base 3 "_law_few" spFew []) (c_lrows : Cal P w K mg base 2 "_law_rows" spLRows [])
  (c_lmoves : Cal P w K mg base 1 "_law_moves" spLMoves []) (c_Rules : MakX P w K mg base 4 "Rules" C (spInitR K C CI)) (c_many : Cal P w K mg base 4 "many_plain" (spMany K C TT) []) (c_prows : Cal P w K mg base 4 "plain_rows" (spRows K C TT) [])
  (ck_many : CalK P w K mg base 4 "many_plain" ["long", "rules"] revV (spMany K C TT)) (ck_prows : CalK P w K mg base 4 "plain_rows" ["rules"] revV (spRows K C TT)) (c_twelve : Cal P w K mg base 6 "_law_twelve_right" (spTwelve TT) [])
  {f_rank : Addr} {fd_rank : FuncData} (mg_rank : mg "_law_rank" = some (.ref f_rank)) (Fk_rank : FnOk P w K mg base C8.CX0 1 f_rank fd_rank ["row"] spOrd) (hb_rank : Binds K fd_rank ["row"] [])
  {f : Addr} {fd : FuncData} (F : Def K mg "law" s_law f fd) : FnG P w K mg base 8 f fd ["script"] (spLaw TT K) := by
  refine fnG0 F.fn sc_law (fun vs H Q E h => ?_) (fun cdv A outer s H vs Q E gd hr h => ?_)
  · obtain ⟨a, ns, rfl, _⟩ := h; rfl
  · obtain ⟨a, ns, rfl, ha, hl, hT, kk⟩ := h
    refine ⟨_, (pss_cons (ps_for PassesOwn.never rfl (pi_range1 (by rfl) T.m_range (pa_cons (pe_callB (call_max2 rfl) (by rfl) T.m_max PyProof.Rows.boot_max (pa_cons pe_int (pa_cons (pe_callB (call_min2 rfl) (by rfl) T.m_min PyProof.Rows.boot_min (pa_cons pe_int (pa_cons (pe_callB (lenK K) (by rfl) T.m_len PySem.boot_len (pa_cons (pv 0) pa_nil)) pa_nil))) pa_nil))) pa_nil)) (pg_name (i := 1) sc_law.nd rfl (.inl rfl)) 
        (pss_cons (ps_set (i := 2) sc_law.nd rfl (.inl rfl) (pe_c c_box hr (by first | decide | omega) (by rfl) (pa_cons (pv 0) (pa_cons (pv 1) pa_nil))))
        (pss_cons (ps_set (i := 3) sc_law.nd rfl (.inl rfl) (pe_c c_signs hr (by first | decide | omega) (by rfl) (pa_cons (pv 2) pa_nil)))
        (pss_cons (ps_set (i := 4) sc_law.nd rfl (.inr rfl) (pe_c c_few hr (by first | decide | omega) (by rfl) (pa_cons (pv 2) (pa_cons (pv 3) pa_nil))))
        (C8.pss_cut (ps_if (pt_cmpR op_eq (pe_c c_take hr (by first | decide | omega) (by rfl) (pa_cons (pv 2) (pa_cons pe_int pa_nil))) pe_int (nomark _)) 
          (pss_one (ps_set (i := 4) sc_law.nd rfl (.inr rfl) (pe_c c_pairs hr (by first | decide | omega) (by rfl) (pa_cons (pv 2) (pa_cons (pv 3) (pa_cons (pe_op op_add pe_int (pe_c c_take hr (by first | decide | omega) (by rfl) (pa_cons (pv 2) (pa_cons pe_int pa_nil)))) pa_nil)))))
          )
         pss_nil)
        (pss_cons (ps_asg (pe_tup (pa_cons (pe_mkX c_Rules takes_none5 hr (by decide) (by rfl) (pa_cons (pv 3) (pa_cons (pv 4) pa_nil))) (pa_cons (pe_ix (ixl K) (pe_lst (pa_cons pe_int (pa_cons pe_int (pa_cons pe_int pa_nil)))) (pe_op op_sub (pe_callB call_len_str (by rfl) T.m_len PySem.boot_len (pa_cons (pv 3) pa_nil)) pe_int) (fun _ _ => rfl)) pa_nil))) (tupK K 2 (pgs_cons (pg_name (i := 5) sc_law.nd rfl (.inr rfl)) (pgs_cons (pg_name (i := 6) sc_law.nd rfl (.inr rfl)) pgs_nil))))
        (C8.pss_cut (ps_setLc (i := 7) (own := [("row", 11)]) rfl sc_law.nd rfl rfl rfl (pi_list (pe_c c_lrows hr (by first | decide | omega) (by rfl) (pa_cons (pv 3) (pa_cons (pv 6) pa_nil)))) (blkOk_by (N := n_law) (sc := fnScope s_law) (by decide +kernel)) (fun _ _ _ _ _ => (pg_name (i := 11) sc_law.nd rfl (.inl rfl))) (fun _ _ _ _ _ => pts_one (pt_cmpR (op_eqDK K hr) (pe_c c_lmoves hr (by first | decide | omega) (by rfl) (pa_cons (pv 4) (pa_cons (pv 11) pa_nil))) (pe_lst pa_nil) (nomark _))) (fun _ _ _ _ _ => (pv 11)))
        (pss_cons (ps_for PassesOwn.never rfl (pi_range1 (by rfl) T.m_range (pa_cons (pe_op op_add (pv 6) pe_int) pa_nil)) (pg_name (i := 8) sc_law.nd rfl (.inr rfl)) 
          (pss_one (ps_if (pt_cmpR op_ne (pe_c c_many hr (by first | decide | omega) (by rfl) (pa_cons (pv 5) (pa_cons (pv 8) pa_nil))) (pe_callB (lenK K) (by rfl) T.m_len PySem.boot_len (pa_cons (pe_lc (own := [("row", 11)]) rfl sc_law.nd (pi_list (pv 7)) (blkOk_by (N := n_law) (sc := fnScope s_law) (by decide +kernel)) (fun _ _ _ _ _ => (pg_name (i := 11) sc_law.nd rfl (.inl rfl))) (fun _ _ _ _ _ => pts_one (pt_cmpR op_eq (pe_callB call_len_str (by rfl) T.m_len PySem.boot_len (pa_cons (pv 11) pa_nil)) (pv 8) (nomark _))) (fun _ _ _ _ _ => (pv 11))) pa_nil)) (nomark _)) 
            (pss_one (ps_ret pe_bl)
            )
           pss_nil)
          ))
        (C8.pss_cut (ps_par (i := 9) (j := 10) rfl sc_law.nd rfl rfl (by decide) rfl rfl (pa_cons (pe_c c_prows hr (by first | decide | omega) (by rfl) (pa_cons (pv 5) pa_nil)) (pa_cons (pe_op op_add pe_int (pe_callB (sumK K rfl) (by rfl) T.m_sum PyProof.Rows.boot_sum (pa_cons (pe_lc (own := [("left", 12), ("right", 13)]) rfl sc_law.nd (pi_list (pv 4)) (blkOk_by (N := n_law) (sc := fnScope s_law) (by decide +kernel)) (fun _ _ _ _ _ => (tupK K 2 (pgs_cons (pg_name (i := 12) sc_law.nd rfl (.inl rfl)) (pgs_cons (pg_name (i := 13) sc_law.nd rfl (.inl rfl)) pgs_nil)))) (fun _ _ _ _ _ => pts_nil) (fun _ _ _ _ _ => (pe_callB call_len_str (by rfl) T.m_len PySem.boot_len (pa_cons (pv 12) pa_nil)))) pa_nil))) pa_nil)) rfl)
        (C8.pss_cut (ps_if (PW.pt (pw_or (pt_cmpR op_ne (pe_cmpR op_isN (pv 9) pe_non (nomark _)) (pe_cmpR op_gt (pe_c c_many hr (by first | decide | omega) (by rfl) (pa_cons (pv 5) (pa_cons (pe_op op_add (pv 10) pe_int) pa_nil))) pe_int (nomark _)) (nomark _)) (pw_or1 (pt_cmpR (op_orR op_ne (op_neDK K hr)) (pe_cK ck_prows hr (by first | decide | omega) (by rfl) (pk_cons (pv 5) pk_nil)) (pv 9) (nomark _))))) 
          (pss_one (ps_ret pe_bl)
          )
         pss_nil)
        (pss_one (ps_if (pt_cmpR op_notN (pv 9) pe_non (nomark _)) 
          (C8.pss_cut (ps_if (pt_cmpR (op_neDK K hr) (pe_lc (own := [("row", 11)]) rfl sc_law.nd (pi_tup (pv 9)) (blkOk_by (N := n_law) (sc := fnScope s_law) (by decide +kernel)) (fun _ _ _ _ _ => (pg_name (i := 11) sc_law.nd rfl (.inl rfl))) (fun _ _ _ _ _ => pts_one (pt_cmpR (op_neDK K hr) (pe_c c_lmoves hr (by first | decide | omega) (by rfl) (pa_cons (pv 4) (pa_cons (pv 11) pa_nil))) (pe_lst pa_nil) (nomark _))) (fun _ _ _ _ _ => (pv 11))) (pe_lst pa_nil) (nomark _)) 
            (pss_one (ps_ret pe_bl)
            )
           pss_nil)
          (C8.pss_cut (ps_if (pt_cmpR (op_neDK K hr) (pe_callTy (listK K) (by rfl) T.m_list PyProof.Rows.boot_list (pa_cons (pv 9) pa_nil)) (pe_callBK (cr_sortedKey2T Fk_rank (hr.mono (by decide)) hb_rank) (by rfl) T.m_sorted PyProof.Rows.boot_sorted (pa_cons (pv 9) pa_nil) (pk_cons (pe_glob (v := .ref f_rank) (by rfl) mg_rank rfl) pk_nil)) (nomark _)) 
            (pss_one (ps_ret pe_bl)
            )
           pss_nil)
          (C8.pss_cut (ps_if (pt_cmpR (op_neDK K hr) (pe_lc (own := [("row", 11)]) rfl sc_law.nd (pi_tup (pv 9)) (blkOk_by (N := n_law) (sc := fnScope s_law) (by decide +kernel)) (fun _ _ _ _ _ => (pg_name (i := 11) sc_law.nd rfl (.inl rfl))) (fun _ _ _ _ _ => pts_one (pt_cmpR op_le (pe_callB call_len_str (by rfl) T.m_len PySem.boot_len (pa_cons (pv 11) pa_nil)) (pv 6) (nomark _))) (fun _ _ _ _ _ => (pv 11))) (pv 7) (nomark _)) 
            (pss_one (ps_ret pe_bl)
            )
           pss_nil)
          (pss_one (ps_if (pt_cmpR op_ne (pe_callB (sumK K rfl) (by rfl) T.m_sum PyProof.Rows.boot_sum (pa_cons (pe_lc (own := [("size", 8)]) rfl sc_law.nd (pi_range1 (by rfl) T.m_range (pa_cons (pe_op op_add (pv 10) pe_int) pa_nil)) (blkOk_by (N := n_law) (sc := fnScope s_law) (by decide +kernel)) (fun _ _ _ _ _ => (pg_name (i := 8) sc_law.nd rfl (.inl rfl))) (fun _ _ _ _ _ => pts_nil) (fun _ _ _ _ _ => (pe_cK ck_many hr (by first | decide | omega) (by rfl) (pk_cons (pv 8) (pk_cons (pv 5) pk_nil))))) pa_nil)) (pe_callB (lenK K) (by rfl) T.m_len PySem.boot_len (pa_cons (pv 9) pa_nil)) (nomark _)) 
            (pss_one (ps_ret pe_bl)
            )
           pss_nil)
          ))))
         pss_nil)
        )))))))))))
      (pss_cons (ps_if (pt_not (pt_val (pe_c0 c_twelve hr (by first | decide | omega) (by rfl)))) 
        (pss_one (ps_ret pe_bl)
        )
       pss_nil)
      (pss_one (ps_ret (pe_and (pe_cmpR op_isN (pe_c c_prows hr (by first | decide | omega) (by rfl) (pa_cons (pe_mkX c_Rules takes_none5 hr (by decide) (by rfl) (pa_cons pe_str (pa_cons (pe_lst pa_nil) pa_nil))) pa_nil)) pe_non (nomark _)) (pe_one (pe_cmpR op_eq (pe_c c_many hr (by first | decide | omega) (by rfl) (pa_cons (pe_mkX c_Rules takes_none5 hr (by decide) (by rfl) (pa_cons pe_str (pa_cons (pe_lst pa_nil) pa_nil))) (pa_cons pe_int pa_nil))) (pe_op op_pow pe_int pe_int) (nomark _)))))
      ))), ?_⟩
    refine ⟨_, rfl, a, _, rfl, .inl ha, _, _, rfl, _, _, rfl, _, rfl, ?_⟩
    rw [List.length_map]
    have hM : 0 ≤ (if (if (ns.length : Int) < 3 then (ns.length : Int) else 3) > 1 then (if (ns.length : Int) < 3 then (ns.length : Int) else 3) else 1) ∧ (if (if (ns.length : Int) < 3 then (ns.length : Int) else 3) > 1 then (if (ns.length : Int) < 3 then (ns.length : Int) else 3) else 1) ≤ 3 := by
      split <;> split <;> omega
    generalize (if (if (ns.length : Int) < 3 then (ns.length : Int) else 3) > 1 then (if (ns.length : Int) < 3 then (ns.length : Int) else 3) else 1) = M at hM ⊢
    refine ⟨by omega, by omega, ?_⟩
    refine for_it (walk_range (lo := 0)) (fun i σ H' => (∃ s1 s2 s3 s4 s5 s6 s7 s8 s9 s10 s11 s12 s13 : Option V, σ = [some (.ref a), s1, s2, s3, s4, s5, s6, s7, s8, s9, s10, s11, s12, s13]) ∧ LamX.ExtN H H' ∧ NdefX.TabsN TT H')
      ⟨⟨_, _, _, _, _, _, _, _, _, _, _, _, _, rfl⟩, LamX.ExtN.refl _, hT⟩ (fun _ _ _ _ _ => trivial) ?_ ?_
    · rintro i x σ H1 H1' hi ⟨⟨s1, s2, s3, s4, s5, s6, s7, s8, s9, s10, s11, s12, s13, rfl⟩, e1, hT1⟩ ⟨rfl, rfl⟩
      clear hi hM
      refine ⟨_, rfl, _, rfl, a, i, ns, by show [V.ref a, V.int (0 + (i : Int))] = _; rw [Int.zero_add], ext_seq e1 ha, hl, fun b H2 h2 nb hB => ?_⟩
      refine ⟨_, rfl, b, rfl, hB, fun sg H3 hm hB3 => ?_⟩
      refine ⟨_, rfl, _, rfl, b, sg, rfl, hm, hB3.2, fun pl qs ps H4 hB4 hpl0 hpl hpr hd4 hne4 hB4' => ?_⟩
      have hsl := menu_len hm
      have npb : pl ≠ b := box_ne hB3.2 hpl0
      have hl4 : LPs sg ps := ⟨hd4, hne4, hB4'⟩
      have hB24 := hB3.trans hB4
      have eb4 : LamX.ExtN H1' H4 := ext_bx (extN_same h2) nb hB24
      have tb4 : NdefX.TabsN TT H4 := tabs_bx (hT1.ext h2) hB hB24
      refine ⟨fun σ H' => ∃ (pl : Addr) (qs : List Addr) (ps : Ps), σ = [some (.ref a), some (.int (0 + (i : Int))), some (.ref b), some (.str (S sg)), some (.ref pl), s5, s6, s7, s8, s9, s10, s11, s12, s13] ∧ LamX.ExtN H1' H' ∧ NdefX.TabsN TT H' ∧ H' pl = some (.lst (qs.map V.ref)) ∧ PrAt H' qs ps ∧ LPs sg ps, ?_, ?_⟩
      · refine ⟨_, rfl, b, 2, rfl, hB4.2, by decide, by decide, fun d H5 d0 d2 hB5 => ⟨rfl, _, rfl, ?_⟩⟩
        have e5 := ext_bx eb4 nb hB5
        have t5 := tabs_bx tb4 hB4.2 hB5
        by_cases h0 : V.int d = V.int 0
        · refine iteB (decide_eq_true h0) ?_
          refine ⟨_, rfl, _, rfl, _, rfl, b, 5, rfl, hB5.2, by decide, by decide, fun d H6 d0 d5 hB6 => ⟨_, _, rfl, rfl, ?_⟩⟩
          have hcast : (1 : Int) + d = ((1 + d.toNat : Nat) : Int) := by omega
          refine ⟨b, sg, 1 + d.toNat, by show [V.ref b, V.str (S sg), V.int (1 + d)] = _; rw [hcast], hm, by omega, hB6.2, fun pl qs ps H7 hB7 hpl0 hpl hpr hdr => ?_⟩
          exact ⟨pl, qs, ps, rfl, ext_bx (ext_bx e5 nb hB6) nb hB7, tabs_bx (tabs_bx t5 hB5.2 hB6) hB6.2 hB7, hpl, hpr, pairs_lps hm hdr (by omega)⟩
        · refine iteN (decide_eq_false h0) ?_
          exact ⟨pl, qs, ps, rfl, e5, t5, hB5.1 _ _ npb hpl, hpr.bx hB4.2 hB5, hl4⟩
      clear hB4' hne4 hd4 hl4 hpr hpl hpl0 npb eb4 tb4 hB24 hB4 hB3
      clear pl qs ps
      rintro σ H5 ⟨pl, qs, ps, rfl, e5, t5, hpl, hpr, hlp⟩
      have hfw := hlp.fw hm
      have hgr := hlp.dr.gr hm (by decide)
      have hasc := menu_asc hm
      refine ⟨_, rfl, _, rfl, fun rl dx hq hdx nx => ?_⟩
      refine make_use hm (by decide) hlp.dr (b := true) (hpr.lst hpl) hq hdx nx fun H6 w6 hru => ⟨rfl, ?_⟩
      have L6 : Lw K C TT pl qs sg ps rl H1' H6 := ⟨e5.trans (extN_same w6), t5.ext w6, w6 _ _ hpl, hpr.same w6, hru⟩
      clear hq hdx nx hru w6 e5 t5 hpl hpr
      obtain ⟨lg, hlg, hlg9, hpow⟩ : ∃ lg : Nat, ([V.int 9, V.int 7, V.int 5] : List V)[sg.length - 1]? = some (.int (lg : Nat)) ∧ lg ≤ 9 ∧ sg.length ^ lg ≤ 900 := by
        have h : sg.length = 1 ∨ sg.length = 2 ∨ sg.length = 3 := by omega
        rcases h with h | h | h
        · exact ⟨9, by rw [h]; rfl, by decide, by rw [h]; decide⟩
        · exact ⟨7, by rw [h]; rfl, by decide, by rw [h]; decide⟩
        · exact ⟨5, by rw [h]; rfl, by decide, by rw [h]; decide⟩
      refine ⟨by show 3 ≤ sizeLine; decide, fun t ht => ⟨_, rfl, S sg, rfl, by rw [S_len]; exact sz hsl.2 (by decide), _, _, rfl, rfl, t, _, _, .int (lg : Nat), rfl, rfl, SqL.of upd_same, ?_, by show 2 ≤ sizeLine; decide, fun q hq => ?_⟩⟩
      · rw [S_len]
        show atI _ (((sg.length : Nat) : Int) - 1) = _
        rw [show ((sg.length : Nat) : Int) - 1 = ((sg.length - 1 : Nat) : Int) by omega]
        exact atI_nat hlg
      refine ⟨q, _, rfl, SqT.of upd_same, rfl, _, _, rfl, _, _, rfl, rfl, ?_⟩
      have L7 := (L6.same (sm_new (o := .lst [.int 9, .int 7, .int 5]) ht)).same (sm_new (o := .tup [.ref rl, .int (lg : Nat)]) hq)
      generalize upd (upd H6 t (.lst [.int 9, .int 7, .int 5])) q (.tup [.ref rl, .int (lg : Nat)]) = H7 at L7 ⊢
      clear L6 ht hq hlg H6
      refine ⟨fun σ H' => ∃ pp : Addr, σ = [some (.ref a), some (.int (0 + (i : Int))), some (.ref b), some (.str (S sg)), some (.ref pl), some (.ref rl), some (.int (lg : Nat)), some (.ref pp), s8, s9, s10, s11, s12, s13] ∧ Lw K C TT pl qs sg ps rl H1' H' ∧ H' pp = some (.lst (txs (plU ps sg (lg + 1)))), ?_, ?_⟩
      · refine ⟨_, rfl, _, rfl, sg, lg, rfl, hlg9, hsl.2, hpow, hsl.1, fun p H8 s8' hp => ?_⟩
        have L8 := L7.same s8'
        refine ⟨p, rfl, ⟨_, SqL.of hp⟩, fun D hD => ?_⟩
        have hup : (upto sg lg).length ≤ 9900 := by
          have hlv : ∀ j, j ≤ lg → (level sg j).length ≤ 900 := fun j hj => by
            rw [level_len]
            exact Nat.le_trans (Nat.pow_le_pow_right hsl.1 hj) hpow
          have : ∀ j, j ≤ lg → (upto sg j).length ≤ (j + 1) * 900 := fun j => by
            induction j with
            | zero => intro _; show 1 ≤ _; decide
            | succ j ih =>
              intro hj
              show (upto sg j ++ level sg (j + 1)).length ≤ _
              rw [List.length_append]
              have := ih (by omega)
              have := hlv (j + 1) hj
              omega
          have := this lg (Nat.le_refl _)
          omega
        refine lc_keepF keep_same (walk_list (K := K) (a := p) (xs := txs (upto sg lg))) hD (by rw [txs_len]; exact Nat.lt_of_le_of_lt hup (by decide)) (fun j => plB ps ((upto sg lg).getD j [])) (fun j y H => y = .str (S ((upto sg lg).getD j []))) (fun H r => SqL.of (r _ _ hp))
          (fun _ _ _ _ _ _ h => h) (fun _ _ _ _ _ _ _ h => h) (fun j x H9 H9' acc N R hj r hDa hy hR hN => ?_) (fun ys H9 hly hg w9 hDs => ?_)
        · obtain ⟨rfl, ex⟩ := hy
          obtain ⟨v, hv, rfl⟩ := txs_get ex
          have hvd : (upto sg lg).getD j [] = v := by rw [List.getD_eq_getElem?_getD, hv]; rfl
          rw [hvd] at hR hN
          have hv40 : v.length ≤ 40 := by
            have : ∀ n, ∀ v ∈ upto sg n, v.length ≤ n := fun n => by
              induction n with
              | zero => intro v hv; rw [List.mem_singleton.mp hv]; exact Nat.le_refl _
              | succ n ih =>
                intro v hv
                rcases List.mem_append.mp hv with h | h
                · exact Nat.le_succ_of_le (ih v h)
                · exact Nat.le_of_eq (level_ov.mp h).1
            have := this lg v (List.mem_of_getElem? hv)
            omega
          have L9 := L8.same r
          refine ⟨rfl, _, rfl, _, rfl, pl, qs, sg, ps, v, rfl, L9.pl, L9.pr, hgr, hv40, fun so us HA sA _ hso hmv => ?_⟩
          refine ⟨by show 0 ≤ sizeLine; decide, fun e he => ?_⟩
          have se := sm_new (o := .lst []) he
          refine ⟨.list ((K60.movesL ps v).map mvD), .list [], .lst (SqL.of (se _ _ hso)) (hmv.same se).dp, .lst (SqL.of upd_same) .nil, shaped_mvs _, shaped_lst (xs := []) (fun _ h => nomatch h), _, rfl, ?_⟩
          rw [eqv_mv_nil]
          by_cases hmz : K60.movesL ps v = []
          · refine iteB (decide_eq_true hmz) ?_
            exact ⟨_, rfl, hR (decide_eq_true hmz) _ _ (sA.trans se) rfl⟩
          · refine iteN (decide_eq_false hmz) ?_
            exact hN (decide_eq_false hmz) _ (sA.trans se)
        · rw [txs_len] at hly hg
          have hf := taken_filter (upto sg lg) [] (plB ps)
          generalize takenN (fun j => plB ps ((upto sg lg).getD j [])) (upto sg lg).length = T0 at hly hg hf
          have ey : ys = txs (plU ps sg (lg + 1)) := by
            rw [← upto_plain, ← hf]
            unfold txs
            rw [List.map_map]
            refine list_map hly fun j y c e1 e2 => ?_
            exact hg j c y e2 e1
          subst ey
          exact ⟨D, rfl, L8.same w9, hDs⟩
      clear L7 hpow
      rintro σ H8 ⟨pp, rfl, L8, hpp⟩
      have hU : (plU ps sg (lg + 1)).length ≤ 900000 := by
        unfold plU
        rw [List.length_flatMap]
        have : ∀ l : List Nat, (∀ k ∈ l, k ≤ lg) → (l.map fun k => (plN ps sg k).length).sum ≤ l.length * 3 ^ 9 := fun l => by
          induction l with
          | nil => intro _; exact Nat.le_refl _
          | cons k l ih =>
            intro h
            rw [List.map_cons, List.sum_cons, List.length_cons, Nat.add_mul]
            have h1 := ih fun k hk => h k (List.mem_cons_of_mem _ hk)
            have h2 : (plN ps sg k).length ≤ 3 ^ 9 := by
              refine Nat.le_trans (List.length_filter_le _ _) ?_
              rw [level_len]
              exact Nat.le_trans (Nat.pow_le_pow_left hsl.2 k) (Nat.pow_le_pow_right (by decide) (by have := h k List.mem_cons_self; omega))
            omega
        have h1 := this (List.range (lg + 1)) fun k hk => by have := List.mem_range.mp hk; omega
        rw [List.length_range] at h1
        have h3 : (3 : Nat) ^ 9 = 19683 := by decide
        have : (lg + 1) * 3 ^ 9 ≤ 10 * 3 ^ 9 := Nat.mul_le_mul (by omega) (Nat.le_refl _)
        omega
      refine ⟨_, rfl, _, _, rfl, rfl, _, rfl, by omega, by omega, ?_⟩
      have en : (((lg : Nat) : Int) + 1).toNat = lg + 1 := by omega
      refine for_it (walk_range (lo := 0) (n := (((lg : Nat) : Int) + 1).toNat)) (fun j σ H' => ∃ s8 : Option V, σ = [some (.ref a), some (.int (0 + (i : Int))), some (.ref b), some (.str (S sg)), some (.ref pl), some (.ref rl), some (.int (lg : Nat)), some (.ref pp), s8, s9, s10, s11, s12, s13] ∧ Lw K C TT pl qs sg ps rl H1' H' ∧ H' pp = some (.lst (txs (plU ps sg (lg + 1)))))
        ⟨_, rfl, L8, hpp⟩ (fun _ _ _ _ _ => trivial) ?_ ?_
      · clear L8 hpp s8
        rintro j x σ H9 H9' hj ⟨s8, rfl, L9, hpp⟩ ⟨rfl, rfl⟩
        rw [en] at hj
        refine ⟨_, rfl, _, rfl, rl, sg, ps, j, by show [V.ref rl, V.int (0 + (j : Int))] = _; rw [Int.zero_add], L9.ru, hfw, by omega, L9.tb, fun HA xA tA => ?_⟩
        have LA := L9.more xA tA
        have hpA := xA _ _ hpp (by intro _ z; cases z)
        refine ⟨_, rfl, pp, rfl, ⟨_, SqL.of hpA⟩, fun D hD => ?_⟩
        refine lc_keepF keep_same (walk_list (K := K) (a := pp) (xs := txs (plU ps sg (lg + 1)))) hD (by rw [txs_len]; exact Nat.lt_of_le_of_lt hU (by decide)) (fun n => decide (((plU ps sg (lg + 1)).getD n []).length = j)) (fun n y H => y = .str (S ((plU ps sg (lg + 1)).getD n []))) (fun H r => SqL.of (r _ _ hpA))
          (fun _ _ _ _ _ _ h => h) (fun _ _ _ _ _ _ _ h => h) (fun n x HB HB' acc N R hn r hDa hy hR hN => ?_) (fun ys HB hly hg wB hDs => ?_)
        · obtain ⟨rfl, ex⟩ := hy
          obtain ⟨v, hv, rfl⟩ := txs_get ex
          have hvd : (plU ps sg (lg + 1)).getD n [] = v := by rw [List.getD_eq_getElem?_getD, hv]; rfl
          rw [hvd] at hR hN
          have hvl := (plU_mem (List.mem_of_getElem? hv)).1
          refine ⟨rfl, _, rfl, S v, rfl, by rw [S_len]; exact sz (m := 10) (by omega) (by decide), _, rfl, rfl, _, rfl, ?_⟩
          rw [S_len]
          by_cases hz : v.length = j
          · refine iteB (decide_eq_true (by show V.int (v.length : Int) = V.int (0 + (j : Int)); rw [hz, Int.zero_add])) ?_
            exact ⟨_, rfl, hR (decide_eq_true hz) _ _ (Same.refl _) rfl⟩
          · refine iteN (decide_eq_false fun e => hz (by have := V.int.inj e; omega)) ?_
            exact hN (decide_eq_false hz) _ (Same.refl _)
        · rw [txs_len] at hly
          have hf := taken_filter (plU ps sg (lg + 1)) [] (fun v => decide (v.length = j))
          rw [plU_at hj] at hf
          have hlen : ys.length = (plN ps sg j).length := by rw [hly, ← hf, List.length_map]
          refine ⟨D, ys, rfl, .inl (SqL.of hDs), ?_⟩
          rw [hlen]
          refine ⟨rfl, _, rfl, iteN (by simp) ?_⟩
          exact ⟨_, rfl, LA.same wB, wB _ _ hpA⟩
      clear L8 hpp s8
      rintro σ H9 ⟨s8, rfl, L9, hpp⟩
      refine ⟨fun σ H' => ∃ tv : V, σ = [some (.ref a), some (.int (0 + (i : Int))), some (.ref b), some (.str (S sg)), some (.ref pl), some (.ref rl), some (.int (lg : Nat)), some (.ref pp), s8, some tv, some (.int (stN ps : Nat)), s11, s12, s13] ∧ Lw K C TT pl qs sg ps rl H1' H' ∧ H' pp = some (.lst (txs (plU ps sg (lg + 1)))) ∧ Tl sg ps (stN ps) tv H', ?_, ?_⟩
      · refine ⟨_, rfl, rl, sg, ps, rfl, L9.ru, hfw, L9.tb, .inr hlp.few, fun HA xA tA hinf => ?_, fun tp l HA xA tA htp hno h14 hB => ?_⟩
        have hTl : Tl sg ps (stN ps) .non HA := .inl ⟨rfl, hinf⟩
        clear hinf
        rotate_left
        have hTl : Tl sg ps (stN ps) (.ref tp) HA := .inr ⟨tp, l, rfl, htp, hno, h14, Nat.lt_of_lt_of_le (hB _ fun _ h => h) (stN_bg hlp)⟩
        clear hB h14 hno htp
        all_goals
          have LA := L9.more xA tA
          have hpA := xA _ _ hpp (by intro _ z; cases z)
          have hql := LA.pr.len
          have hf9 := hlp.dr.few
          refine ⟨_, rfl, pl, rfl, ⟨_, SqL.of LA.pl⟩, fun D hD => ?_⟩
          refine lc_keep keep_same (walk_list (K := K) (a := pl) (xs := qs.map V.ref)) hD (by rw [List.length_map]; exact small1000 (by omega)) (fun j y => ∀ p, ps[j]? = some p → y = .int ((p.1.length : Nat) : Int)) (fun H r => SqL.of (r _ _ LA.pl)) (fun j x HB HB' R hj rB hy hR => ?_) (fun ys HB hly hg wB hDs => ?_)
          · obtain ⟨rfl, ex⟩ := hy
            rw [List.length_map, hql] at hj
            obtain ⟨q, hq, hH⟩ := (LA.pr.same rB).at j hj
            rw [List.getElem?_map, hq] at ex
            obtain rfl := Option.some.inj ex
            have hpj : ps[j]? = some (ps.getD j ([], [])) := by rw [List.getD_eq_getElem?_getD, List.getElem?_eq_getElem hj]; rfl
            refine ⟨q, _, rfl, SqT.of hH, rfl, _, _, rfl, _, _, rfl, rfl, rfl, ?_⟩
            refine ⟨_, rfl, S (ps.getD j ([], [])).1, rfl, by rw [S_len]; exact sz (hlp.dr.short _ (List.mem_of_getElem? hpj)) (by decide), ?_⟩
            rw [S_len]
            exact hR _ _ (Same.refl _) fun p e => by rw [hpj] at e; cases e; rfl
          · have ey : ys = (ps.map fun p => ((p.1.length : Nat) : Int)).map V.int := by
              rw [List.map_map]
              refine list_map (by rw [hly, List.length_map, hql]) fun j y p e1 e2 => ?_
              exact hg j y e1 p e2
            subst ey
            refine ⟨D, _, rfl, SqL.of hDs, ?_⟩
            refine ⟨_, _, rfl, rfl, ?_⟩
            have es : (1 : Int) + (ps.map fun p => ((p.1.length : Nat) : Int)).sum = ((stN ps : Nat) : Int) := by
              have : (ps.map fun p => ((p.1.length : Nat) : Int)) = (ps.map fun p => p.1.length).map fun (k : Nat) => (k : Int) := by rw [List.map_map]; rfl
              rw [this, sum_cast]
              unfold stN; omega
            dsimp only
            rw [es]
            refine ⟨_, _, rfl, ?_⟩
            exact ⟨_, rfl, LA.same wB, wB _ _ hpA, hTl.ext (extN_same wB)⟩
      clear L9 hpp
      rintro σ H9 ⟨tv, rfl, L9, hpp, hTl⟩
      have hst := stN_le hlp
      refine ⟨fun σ H' => σ = [some (.ref a), some (.int (0 + (i : Int))), some (.ref b), some (.str (S sg)), some (.ref pl), some (.ref rl), some (.int (lg : Nat)), some (.ref pp), s8, some tv, some (.int (stN ps : Nat)), s11, s12, s13] ∧ Lw K C TT pl qs sg ps rl H1' H' ∧ H' pp = some (.lst (txs (plU ps sg (lg + 1)))) ∧ Tl sg ps (stN ps) tv H', ?_, ?_⟩
      · refine ⟨_, rfl, rfl, _, rfl, _, rfl, _, _, rfl, rfl, rl, sg, ps, stN ps + 1, rfl, L9.ru, hfw, by omega, L9.tb, fun HA xA tA => ?_⟩
        have LA := L9.more xA tA
        have hpA := xA _ _ hpp (by intro _ z; cases z)
        have hTA := hTl.ext xA
        have key : decide (tv = V.non) = decide ((0 : Int) < (((plN ps sg (stN ps + 1)).length : Nat) : Int)) := by
          rw [decide_eq_decide]
          rcases hTl with ⟨rfl, h⟩ | ⟨tp, l, rfl, _, h, _, hl⟩
          · have := List.length_pos_iff.mpr (h (stN ps + 1))
            exact ⟨fun _ => by omega, fun _ => rfl⟩
          · rw [h _ (by omega)]
            exact ⟨fun e => (nomatch e), fun e => absurd e (by decide)⟩
        refine ⟨_, _, rfl, rfl, rfl, _, rfl, iteN (by rw [key]; simp) ?_⟩
        clear key L9 hpp hTl
        refine ⟨_, rfl, rfl, ?_⟩
        have fin : ∀ HB, LamX.ExtN HA HB → NdefX.TabsN TT HB → Lw K C TT pl qs sg ps rl H1' HB ∧ HB pp = some (.lst (txs (plU ps sg (lg + 1)))) ∧ Tl sg ps (stN ps) tv HB := fun HB xB tB => ⟨LA.more xB tB, xB _ _ hpA (by intro _ z; cases z), hTA.ext xB⟩
        refine ⟨rl, sg, ps, rfl, LA.ru, hfw, LA.tb, .inr hlp.few, fun HB xB tB hinf => ?_, fun tp l HB xB tB htp hno h14 _ => ?_⟩
        · rcases hTA with ⟨rfl, h⟩ | ⟨tp, l, rfl, _, h, _, hl⟩
          · refine ⟨_, rfl, .inl ⟨rfl, _, rfl, iteN rfl ?_⟩⟩
            exact ⟨rfl, fin HB xB tB⟩
          · exact absurd (h (l + 1) (by omega)) (hinf _)
        · rcases hTA with ⟨rfl, h⟩ | ⟨tp2, l2, rfl, htp2, h2, _, hl2⟩
          · exact absurd (hno (l + 1) (by omega)) (h _)
          · have e : plU ps sg (l + 1) = plU ps sg (l2 + 1) := plU_uniq hno h2
            rw [e] at htp
            have hsm : Small (plU ps sg (l2 + 1)) := fun v hv c hc => hgr.sm c ((plU_mem hv).2.1 c hc)
            refine ⟨_, rfl, .inr ⟨.tuple ((plU ps sg (l2 + 1)).map fun l => .str (S l)), .tuple ((plU ps sg (l2 + 1)).map fun l => .str (S l)), .tup (SqT.of htp) (dp_strs _), .tup (SqT.of (xB _ _ htp2 (by intro _ z; cases z))) (dp_strs _), shaped_tup hsm, shaped_tup hsm, _, rfl, ?_⟩⟩
            refine iteN (by rw [show PyData.eqv (.tuple ((plU ps sg (l2 + 1)).map fun l => .str (S l))) (.tuple ((plU ps sg (l2 + 1)).map fun l => .str (S l))) = _ from eqv_strs _ _, decide_eq_true rfl]; rfl) ?_
            exact ⟨rfl, fin HB xB tB⟩
      clear L9 hpp hTl
      rintro σ H9 ⟨rfl, L9, hpp, hTl⟩
      refine ⟨_, rfl, rfl, _, rfl, ?_⟩
      rcases hTl with ⟨rfl, hinf⟩ | ⟨tp, l, rfl, htp, hno, h14, hls⟩
      · refine iteN rfl ?_
        exact ⟨⟨_, _, _, _, _, _, _, _, _, _, _, _, _, rfl⟩, e1.trans L9.ex, L9.tb⟩
      refine iteB rfl ?_
      have hbt : (plU ps sg (l + 1)).length ≤ 7200000 := by
        have h1 : 2 * (plU ps sg (l + 1)).length + 1 ≤ 3 ^ (l + 1) := by
          have : ∀ L, 2 * (plU ps sg L).length + 1 ≤ 3 ^ L := fun L => by
            induction L with
            | zero => exact Nat.le_refl _
            | succ L ih =>
              rw [plU_succ, List.length_append, Nat.pow_succ]
              have : (plN ps sg L).length ≤ 3 ^ L := by
                refine Nat.le_trans (List.length_filter_le _ _) ?_
                rw [level_len]
                exact Nat.pow_le_pow_left hsl.2 L
              omega
          exact this (l + 1)
        have h3 : 3 ^ (l + 1) ≤ 3 ^ 15 := Nat.pow_le_pow_right (by decide) (by omega)
        have h4 : (3 : Nat) ^ 15 = 14348907 := by decide
        omega
      have bT : (txs (plU ps sg (l + 1))).length < sizeLine := by rw [txs_len]; exact Nat.lt_of_le_of_lt hbt (by decide)
      have hsm : ∀ L, Small (plU ps sg L) := fun L v hv c hc => hgr.sm c ((plU_mem hv).2.1 c hc)
      have hv40 : ∀ v ∈ plU ps sg (l + 1), v.length ≤ 40 := fun v hv => by have := (plU_mem hv).1; omega
      refine ⟨fun σ H' => σ = [some (.ref a), some (.int (0 + (i : Int))), some (.ref b), some (.str (S sg)), some (.ref pl), some (.ref rl), some (.int (lg : Nat)), some (.ref pp), s8, some (.ref tp), some (.int (stN ps : Nat)), s11, s12, s13] ∧ Same H9 H', ?_, ?_⟩
      · refine ⟨_, rfl, tp, rfl, ⟨_, SqT.of htp⟩, fun D hD => ?_⟩
        refine lc_keepF keep_same (walk_tup (K := K) (a := tp) (xs := txs (plU ps sg (l + 1)))) hD bT (fun _ => false) (fun j y H => True) (fun H r => sm_seqT r (SqT.of htp))
          (fun _ _ _ _ _ _ h => h) (fun _ _ _ _ _ _ _ h => h) (fun n x HB HB' acc N R hn r hDa hy hR hN => ?_) (fun ys HB hly hg wB hDs => ?_)
        · obtain ⟨rfl, ex⟩ := hy
          obtain ⟨v, hv, rfl⟩ := txs_get ex
          have hvm := List.mem_of_getElem? hv
          have LB := L9.same r
          refine ⟨rfl, _, rfl, _, rfl, pl, qs, sg, ps, v, rfl, LB.pl, LB.pr, hgr, hv40 v hvm, fun so us HA sA _ hso hmv => ?_⟩
          refine ⟨by show 0 ≤ sizeLine; decide, fun e he => ?_⟩
          have se := sm_new (o := .lst []) he
          refine ⟨.list ((K60.movesL ps v).map mvD), .list [], .lst (SqL.of (se _ _ hso)) (hmv.same se).dp, .lst (SqL.of upd_same) .nil, shaped_mvs _, shaped_lst (xs := []) (fun _ h => nomatch h), _, rfl, ?_⟩
          rw [eqv_mv_nil]
          refine iteN (by rw [(plU_mem hvm).2.2]; rfl) ?_
          exact hN rfl _ (sA.trans se)
        · have hz : takenN (fun _ => false) (txs (plU ps sg (l + 1))).length = [] := by
            unfold takenN
            rw [List.filter_eq_nil_iff]
            intro _ _; decide
          rw [hz] at hly
          obtain rfl := List.length_eq_zero_iff.mp hly
          refine ⟨by show 0 ≤ sizeLine; decide, fun e he => ?_⟩
          have se := sm_new (o := .lst []) he
          refine ⟨.list [], .list [], .lst (SqL.of (se _ _ hDs)) .nil, .lst (SqL.of upd_same) .nil, shaped_lst (xs := []) (fun _ h => nomatch h), shaped_lst (xs := []) (fun _ h => nomatch h), _, rfl, iteN rfl ?_⟩
          exact ⟨rfl, wB.trans se⟩
      rintro σ HA ⟨rfl, wA⟩
      have LA := L9.same wA
      have hpA := wA _ _ hpp
      have htA := wA _ _ htp
      clear L9 hpp htp wA
      refine ⟨fun σ H' => σ = [some (.ref a), some (.int (0 + (i : Int))), some (.ref b), some (.str (S sg)), some (.ref pl), some (.ref rl), some (.int (lg : Nat)), some (.ref pp), s8, some (.ref tp), some (.int (stN ps : Nat)), s11, s12, s13] ∧ Same HA H', ?_, ?_⟩
      · refine ⟨_, rfl, tp, _, rfl, .inr (SqT.of htA), fun ll hll => ?_⟩
        have sl := sm_new (o := .lst (txs (plU ps sg (l + 1)))) hll
        refine ⟨_, rfl, tp, plU ps sg (l + 1), rfl, rfl, SqT.of (sl _ _ htA), fun v hv => Nat.le_trans (hv40 v hv) (by decide), fun p HB sB _ hpB => ?_⟩
        rw [sort_plU hasc] at hpB
        refine ⟨.list ((plU ps sg (l + 1)).map fun l => .str (S l)), .list ((plU ps sg (l + 1)).map fun l => .str (S l)), .lst (SqL.of (sB _ _ upd_same)) (dp_strs _), .lst (SqL.of hpB) (dp_strs _), shaped_lst (hsm _), shaped_lst (hsm _), _, rfl, ?_⟩
        refine iteN (by rw [show PyData.eqv (.list ((plU ps sg (l + 1)).map fun l => .str (S l))) (.list ((plU ps sg (l + 1)).map fun l => .str (S l))) = _ from eqv_strs _ _, decide_eq_true rfl]; rfl) ?_
        exact ⟨rfl, sl.trans sB⟩
      rintro σ HB ⟨rfl, wB⟩
      have LB := LA.same wB
      have hpB := wB _ _ hpA
      have htB := wB _ _ htA
      clear LA hpA htA wB
      refine ⟨fun σ H' => σ = [some (.ref a), some (.int (0 + (i : Int))), some (.ref b), some (.str (S sg)), some (.ref pl), some (.ref rl), some (.int (lg : Nat)), some (.ref pp), s8, some (.ref tp), some (.int (stN ps : Nat)), s11, s12, s13] ∧ Same HB H', ?_, ?_⟩
      · refine ⟨_, rfl, tp, rfl, ⟨_, SqT.of htB⟩, fun D hD => ?_⟩
        refine lc_keepF keep_same (walk_tup (K := K) (a := tp) (xs := txs (plU ps sg (l + 1)))) hD bT (fun n => decide (((plU ps sg (l + 1)).getD n []).length ≤ lg)) (fun n y H => y = .str (S ((plU ps sg (l + 1)).getD n []))) (fun H r => sm_seqT r (SqT.of htB))
          (fun _ _ _ _ _ _ h => h) (fun _ _ _ _ _ _ _ h => h) (fun n x HC HC' acc N R hn r hDa hy hR hN => ?_) (fun ys HC hly hg wC hDs => ?_)
        · obtain ⟨rfl, ex⟩ := hy
          obtain ⟨v, hv, rfl⟩ := txs_get ex
          have hvd : (plU ps sg (l + 1)).getD n [] = v := by rw [List.getD_eq_getElem?_getD, hv]; rfl
          rw [hvd] at hR hN
          have hvl := hv40 v (List.mem_of_getElem? hv)
          refine ⟨rfl, _, rfl, S v, rfl, by rw [S_len]; exact sz hvl (by decide), _, rfl, _, _, rfl, rfl, _, rfl, ?_⟩
          rw [S_len]
          by_cases hz : v.length ≤ lg
          · refine iteB (decide_eq_true (by omega)) ?_
            exact ⟨_, rfl, hR (decide_eq_true hz) _ _ (Same.refl _) rfl⟩
          · refine iteN (decide_eq_false (by omega)) ?_
            exact hN (decide_eq_false hz) _ (Same.refl _)
        · rw [txs_len] at hly hg
          have hf := taken_filter (plU ps sg (l + 1)) [] (fun v => decide (v.length ≤ lg))
          rw [plU_short hno] at hf
          generalize takenN (fun n => decide (((plU ps sg (l + 1)).getD n []).length ≤ lg)) (plU ps sg (l + 1)).length = T0 at hly hg hf
          have ey : ys = txs (plU ps sg (lg + 1)) := by
            rw [← hf]
            unfold txs
            rw [List.map_map]
            refine list_map hly fun j y c e1 e2 => ?_
            exact hg j c y e2 e1
          subst ey
          refine ⟨_, rfl, .list ((plU ps sg (lg + 1)).map fun l => .str (S l)), .list ((plU ps sg (lg + 1)).map fun l => .str (S l)), .lst (SqL.of hDs) (dp_strs _), .lst (SqL.of (wC _ _ hpB)) (dp_strs _), shaped_lst (hsm _), shaped_lst (hsm _), _, rfl, ?_⟩
          refine iteN (by rw [show PyData.eqv (.list ((plU ps sg (lg + 1)).map fun l => .str (S l))) (.list ((plU ps sg (lg + 1)).map fun l => .str (S l))) = _ from eqv_strs _ _, decide_eq_true rfl]; rfl) ?_
          exact ⟨rfl, wC⟩
      rintro σ HC ⟨rfl, wC⟩
      have LC := LB.same wC
      have htC := wC _ _ htB
      clear LB hpB htB wC
      have eI : (((stN ps : Nat) : Int) + 1).toNat = stN ps + 1 := by omega
      refine ⟨_, rfl, _, _, rfl, rfl, _, rfl, by omega, by omega, fun D hD => ?_⟩
      refine lc_it (walk_range (lo := 0) (n := (((stN ps : Nat) : Int) + 1).toNat)) (fun j H' => LamX.ExtN HC H' ∧ NdefX.TabsN TT H' ∧ H' D = some (.lst ((List.range j).map fun k => V.int ((plN ps sg k).length : Nat))))
        ⟨extN_same (sm_new hD), LC.tb.ext (sm_new hD), upd_same⟩ (fun _ _ _ _ => trivial) (fun j x HD HD' hj ⟨xD, tD, eD⟩ hy => ?_) (fun HD ⟨xD, tD, eD⟩ => ?_)
      · obtain ⟨rfl, rfl⟩ := hy
        rw [eI] at hj
        refine ⟨rfl, yesT ?_⟩
        refine ⟨_, rfl, _, rfl, rfl, rl, sg, ps, j, by show [V.ref rl, V.int (0 + (j : Int))] = _; rw [Int.zero_add], LC.ru.ext xD, hfw, by omega, tD, fun HE xE tE => ?_⟩
        have eE := xE _ _ eD (by intro _ z; cases z)
        refine ⟨_, eE, by rw [List.length_map, List.length_range]; exact small1000 (by omega), ext_put (xD.trans xE) hD, tabs_lset eE tE, ?_⟩
        rw [upd_same, List.range_succ, List.map_append]; rfl
      · rw [eI] at eD
        have eS : ((List.range (stN ps + 1)).map fun k => V.int ((plN ps sg k).length : Nat)) = (((List.range (stN ps + 1)).map fun k => (plN ps sg k).length).map fun (k : Nat) => (k : Int)).map V.int := by
          rw [List.map_map, List.map_map]; rfl
        have htD := xD _ _ htC (by intro _ z; cases z)
        refine ⟨D, _, rfl, SqL.of (by rw [← eS]; exact eD), ?_⟩
        rw [sum_cast, plU_sum]
        refine ⟨_, rfl, tp, _, rfl, .inr (SqT.of htD), rfl, _, rfl, ?_⟩
        have e2 : plU ps sg (stN ps + 1) = plU ps sg (l + 1) := by
          have := plU_more hno (stN ps - l)
          rwa [show l + 1 + (stN ps - l) = stN ps + 1 by omega] at this
        rw [e2, txs_len]
        refine iteN (by simp) ?_
        exact ⟨⟨_, _, _, _, _, _, _, _, _, _, _, _, _, rfl⟩, e1.trans (LC.ex.trans xD), tD⟩
    · rintro σ H1 ⟨⟨s1, s2, s3, s4, s5, s6, s7, s8, s9, s10, s11, s12, s13, rfl⟩, e1, hT1⟩
      refine ⟨rfl, hT1, fun H2 x2 t2 => ⟨_, rfl, iteN rfl ?_⟩⟩
      refine ⟨by show 0 ≤ sizeLine; decide, fun d1 hd1 => fun q dx hq hdx nx => ?_⟩
      have s1' := sm_new (o := .lst []) hd1
      rw [s_one]
      refine make_use (ps := []) (n := 0) (by unfold Menu; decide) (by decide) (drawn_nil _ _) (b := true) (.lst (SqL.of upd_same) .nil) hq hdx nx fun H3 w3 hru => ⟨rfl, ?_⟩
      have t3 := (t2.ext s1').ext w3
      refine ⟨q, [97], [], rfl, hru, few_nil (by decide), t3, .inl (fun k e => ?_), fun H4 x4 t4 _ => ?_, fun p l H4 _ _ _ hno _ _ => ?_⟩
      · rw [plN_nil] at e
        have := congrArg List.length e
        rw [level_len] at this
        simp at this
      · refine ⟨rfl, ?_⟩
        refine ⟨_, rfl, iteB rfl ?_⟩
        refine ⟨by show 0 ≤ sizeLine; decide, fun d2 hd2 => fun q2 dx2 hq2 hdx2 nx2 => ?_⟩
        have s5' := sm_new (o := .lst []) hd2
        rw [s_abc]
        refine make_use (ps := []) (n := 0) (by unfold Menu; decide) (by decide) (drawn_nil _ _) (b := true) (.lst (SqL.of upd_same) .nil) hq2 hdx2 nx2 fun H5 w5 hru2 => ⟨rfl, ?_⟩
        have t5 := (t4.ext s5').ext w5
        refine ⟨q2, abc, [], 40, rfl, hru2, few_nil (by decide), by decide, t5, fun H6 x6 t6 => ?_⟩
        refine ⟨_, _, rfl, rfl, ⟨by decide, by decide, by decide⟩, rfl, ?_⟩
        have e40 : V.int (((plN [] abc 40).length : Nat) : Int) = V.int (((3 : Int) ^ (40 : Int).toNat)) := by
          rw [plN_nil, level_len]
          show V.int (((3 ^ 40 : Nat)) : Int) = _
          congr 1
        rw [decide_eq_true e40]
        exact kk H6
      · have := hno (l + 1) (by omega)
        rw [plN_nil] at this
        have := congrArg List.length this
        rw [level_len] at this
        simp at this
end
end Toy
set_option maxHeartbeats 2000000
namespace Toy
open PySem L2 C8 SX LX
section
variable {P : Program} {w : World} {K : PySem.W.Frag} {mg : Str → Option Value} {base : Heap}
theorem fn_rank2 (T : BT mg) {f : Addr} {fd : FuncData} (F : Def K mg "_law_rank" s_rank f fd) : FnOk P w K mg base C8.CX0 1 f fd ["row"] spOrd := by
  refine fn0 F.fn sc_rank (fun vs H Q E h => ?_) (fun cdv A outer s H vs Q E hr h => ?_)
  · obtain ⟨l, rfl, _⟩ := h; rfl
  · obtain ⟨l, rfl, hl, k⟩ := h
    refine ⟨_, (pss_one (ps_ret (pe_tup (pa_cons (pe_callB call_len_str (by rfl) T.m_len PySem.boot_len (pa_cons (pv 0) pa_nil)) (pa_cons (pv 0) pa_nil))))
      ), ?_⟩
    refine ⟨_, rfl, S l, rfl, by rw [S_len]; exact sz hl (by decide), _, rfl, by show 2 ≤ sizeLine; decide, fun t ht => ?_⟩
    rw [S_len]
    exact k t _ (sm_new ht) upd_same
end
end Toy
set_option maxHeartbeats 4000000
namespace LX
open PySem PySem.Spec PyProof.Rows L2 C8 SX
abbrev NoCode : Obj := { cls := .none, data := .fields #[] }
abbrev ListO (vs : List Value) : Obj := { cls := .type "list", data := .seq vs.toArray }
structure Tabbing (K : PySem.W.Frag) (mg : Str → Option Value) (h : Heap) (tt : List (Addr × Addr)) : Prop where
  empty : ∀ p ∈ tt, h.get? p.2 = some NoCode
  loose : ∀ p ∈ tt, K.lookup p.2 = none
  code : ∀ p ∈ tt, PySem.W.CodeHd h p.1 p.2
  bm : ∃ (m : Addr) (o : Obj), mg "__builtins__" = some (.ref m) ∧ m ≠ builtinsNs ∧ h.get? m = some o ∧ o.cls = .type "module" ∧ o.dict = some builtinsNs ∧ o.data = .plain
section
variable {P : Program} {w : World} {K : PySem.W.Frag} {mg mb : Str → Option Value} {k : Nat} {fa a : Addr} {fd : FuncData} {x : Str} {sp : Sp} {s : Shared} {vs : List Value} {ns : List Int} {tt : List (Addr × Addr)}
theorem lawGT_at {H : Hp} (tb : Tabbing K mg s.heap tt) (KX : K.In s.heap) (names : s.heap.Ns mainGlobals mg) (bnames : s.heap.Ns builtinsNs mb) (boot : ∀ x : Str, x ≠ "__name__" → mb x = bootBuiltins x) (lim : s.heap.NoLimit) (gens : s.gens = #[])
    (script : s.heap.get? a = some (ListO vs)) (room : Room k callerA) (F : ∀ base : Heap, K.In base → base.Ns mainGlobals mg → (∀ p ∈ tt, LamX.TabB base mg p.1 p.2) → FnG P w K mg base k fa fd [x] sp)
    (binds : ∀ (s : Shared) (u : Value), BindsTo s fd ⟨[u], []⟩ [(x, u)]) (want : sp [.ref a] H (fun v _ => v = .bl true) C8.E0) (ok : HOk P w H s.heap) (tabs : ∀ p ∈ tt, H p.2 = some (.tbl #[]))
    (here : ∀ b u, H b = some u → (b = a ∧ ∃ o xs, u = .frz o (.lst xs)) ∨ ∃ p ∈ tt, p.2 = b) (notK : H a ≠ none → K.lookup a = none) :
    codeAny (model P w) callerA (.call (.ref fa) ⟨[.ref a], []⟩) (fun r s' => Done s s' r) s := by
  have off_script : ∀ p ∈ tt, p.2 ≠ a := fun p hp e => by
    have q := tb.empty p hp
    rw [e, script] at q
    have q2 : Data.seq vs.toArray _ = Data.fields #[] := congrArg Obj.data (Option.some.inj q)
    cases q2
  have clear_of : ∀ {b : Addr} {o : Obj}, s.heap.get? b = some o → o ≠ ListO vs → o ≠ NoCode → H b = none := fun {b o} e n1 n2 => by
    cases q : H b with
    | none => rfl
    | some u =>
      rcases here b u q with ⟨rfl, _⟩ | ⟨p, hp, rfl⟩
      · rw [script] at e; exact absurd (Option.some.inj e).symm n1
      · rw [tb.empty p hp] at e; exact absurd (Option.some.inj e).symm n2
  have see : ∀ {b : Addr} {o : Obj}, s.heap.get? b = some o → o ≠ ListO vs → o ≠ NoCode → (hidT s.heap H).get? b = some o := fun e n1 n2 => hidT_get e (clear_of e n1 n2)
  have names_see : ∀ {b : Addr} {m : Str → Option Value}, s.heap.Ns b m → (hidT s.heap H).Ns b m := fun {b m} ⟨o, es, ep, e, d, r⟩ =>
    ⟨o, es, ep, see e (fun z => by rw [z] at d; cases d) (fun z => by rw [z] at d; cases d), d, r⟩
  have KH : K.In (hidT s.heap H) := fun b o e => hidT_get (KX b o e) (by
    cases q : H b with
    | none => rfl
    | some u =>
      rcases here b u q with ⟨rfl, _⟩ | ⟨p, hp, rfl⟩
      · rw [notK (by rw [q]; simp)] at e; cases e
      · rw [tb.loose p hp] at e; cases e)
  have md : Mod K mg (hidT s.heap H) := by
    obtain ⟨mc, c1, c2⟩ := lim
    exact ⟨KH, names_see names, ⟨mb, names_see bnames, boot⟩, mc, names_see c1, c2⟩
  have based : ∀ p ∈ tt, LamX.TabB (hidT s.heap H) mg p.1 p.2 := fun p hp => by
    have none_at : ∀ {o : Obj}, s.heap.get? p.2 = some o → o = NoCode := fun e => by rw [tb.empty p hp] at e; exact (Option.some.inj e).symm
    constructor
    · obtain ⟨o, us, fl, t1, fg, t2, bf, tx, t3, e, cls, dat, at11, rest⟩ := tb.code p hp
      exact ⟨o, us, fl, t1, fg, t2, bf, tx, t3, see e (fun z => by rw [z] at dat; cases dat) (fun z => by rw [z] at dat; cases dat; simp at at11), cls, dat, at11, rest⟩
    · obtain ⟨m, o, named, apart, e, cls, dct, dat⟩ := tb.bm
      refine ⟨m, o, named, apart, fun z => ?_, fun z => ?_, see e (fun z => by rw [z] at dat; cases dat) (fun z => by rw [z] at dat; cases dat), cls, dct, dat⟩
      · obtain ⟨o2, es, ep, e2, d2, _⟩ := names
        rw [z, e2] at e
        cases e
        rw [d2] at dat
        cases dat
      · rw [z] at e
        rw [none_at e] at dat
        cases dat
    · intro z
      obtain ⟨o2, es, ep, e2, d2, _⟩ := names
      rw [z] at e2
      rw [none_at e2] at d2
      cases d2
  have e0 : Env0 P w K mg (hidT s.heap H) callerA [] s H := ⟨rfl, md, fun _ _ e => of_hidT e, Nat.le_of_eq (hidT_size _ _), trivial, fun _ hm => absurd hm (List.not_mem_nil), ok, .of_eq gens⟩
  refine codeAny_mono ((F _ KH (names_see names) based).goes callerA [] s H ⟨[.ref a], []⟩ [.ref a] [.ref a] _ _ rfl room e0 (binds s (.ref a)) (.cons rfl .nil) want) fun r t got => ?_
  match r, got with
  | .ok (.ret u), got =>
    obtain ⟨v, H2, os, bare, un, ok2, rel, is_true⟩ := got
    obtain rfl : v = V.bl true := is_true
    obtain rfl : u = Value.bool true := rel
    have stays : ∀ b o, (∀ p ∈ tt, p.2 ≠ b) → s.heap.get? b = some o → t.heap.get? b = some o := fun b o away e => by
      cases q : H b with
      | none => exact un.keep b o e q (fun z => absurd z List.not_mem_nil) (by simp)
      | some u =>
        rcases here b u q with ⟨_, ob, xs, rfl⟩ | ⟨p, hp, z⟩
        · obtain ⟨e1, _⟩ := ok b _ q
          obtain ⟨e2, _⟩ := ok2 b _ (un.frzs b ob _ q)
          rw [e] at e1
          cases e1
          exact e2
        · exact absurd z (away p hp)
    have more : ∀ p ∈ tt, ∃ us : Array Value, t.heap.get? p.2 = some { cls := .none, data := .fields us } := fun p hp => by
      obtain ⟨us, z⟩ := un.tbls p.2 #[] (tabs p hp)
      exact ⟨_, ok2 p.2 _ z⟩
    refine ⟨rfl, ⟨fun b o e => ?_, fun b o e => ?_⟩, os, bare⟩
    · by_cases q : ∃ p ∈ tt, p.2 = b
      · obtain ⟨p, hp, rfl⟩ := q
        obtain ⟨us, eu⟩ := more p hp
        have e1 := tb.empty p hp
        rw [e] at e1
        cases e1
        exact .inr (.inl ⟨((tb.code p hp).tab (tb.empty p hp)).isCodeTable, rfl, #[], us, rfl, by rw [Array.empty_append]; exact eu⟩)
      · exact .inl (stays b o (fun p hp z => q ⟨p, hp, z⟩) e)
    · by_cases q : ∃ p ∈ tt, p.2 = b
      · obtain ⟨p, hp, rfl⟩ := q
        obtain ⟨us, eu⟩ := more p hp
        exact ⟨_, eu⟩
      · exact ⟨o, stays b o (fun p hp z => q ⟨p, hp, z⟩) e⟩
open Classical in
theorem lawGT_call (tb : Tabbing K mg s.heap tt) (KX : K.In s.heap) (names : s.heap.Ns mainGlobals mg) (bnames : s.heap.Ns builtinsNs mb) (boot : ∀ x : Str, x ≠ "__name__" → mb x = bootBuiltins x) (lim : s.heap.NoLimit) (gens : s.gens = #[])
    (script : s.heap.get? a = some (ListO vs)) (nums : IntsAre vs ns) (few : ns.length ≤ sizeLine) (room : Room k callerA) (F : ∀ base : Heap, K.In base → base.Ns mainGlobals mg → (∀ p ∈ tt, LamX.TabB base mg p.1 p.2) → FnG P w K mg base k fa fd [x] sp)
    (binds : ∀ (s : Shared) (u : Value), BindsTo s fd ⟨[u], []⟩ [(x, u)]) (want : ∀ H : Hp, (∀ p ∈ tt, H p.2 = some (.tbl #[])) → SqL K H a (ns.map V.int) → sp [.ref a] H (fun v _ => v = .bl true) C8.E0) :
    codeAny (model P w) callerA (.call (.ref fa) ⟨[.ref a], []⟩) (fun r s' => Done s s' r) s := by
  have rel := vals_ints nums
  have isT : ∀ b, (∃ p ∈ tt, p.2 = b) → s.heap.get? b = some NoCode := fun b ⟨p, hp, e⟩ => e ▸ tb.empty p hp
  let T : Hp := fun b => if ∃ p ∈ tt, p.2 = b then some (.tbl #[]) else none
  have T_in : ∀ {b u}, T b = some u → (∃ p ∈ tt, p.2 = b) ∧ u = .tbl #[] := fun {b u} z => by
    by_cases q : ∃ p ∈ tt, p.2 = b
    · exact ⟨q, (Option.some.inj ((if_pos q).symm.trans z)).symm⟩
    · cases (if_neg q).symm.trans z
  have T_at : ∀ p ∈ tt, T p.2 = some (.tbl #[]) := fun p hp => if_pos ⟨p, hp, rfl⟩
  have a_off : ¬ ∃ p ∈ tt, p.2 = a := fun q => by
    have z := isT a q
    rw [script] at z
    have z2 : Data.seq vs.toArray _ = Data.fields #[] := congrArg Obj.data (Option.some.inj z)
    cases z2
  have T_ok : HOk P w T s.heap := fun b u z => by
    obtain ⟨q, rfl⟩ := T_in z
    exact isT b q
  cases own : K.lookup a with
  | some o =>
    have e := KX a o own
    rw [script] at e
    cases e
    exact lawGT_at tb KX names bnames boot lim gens script room F binds (want T T_at (.inr ⟨_, vs.toArray, _, own, rfl, rfl, rfl, by rw [List.size_toArray, nums.length]; exact few, by simpa using rel⟩)) T_ok T_at (fun b u z => .inr (T_in z).1)
      fun z => absurd (if_neg a_off : T a = none) z
  | none =>
    let one : HO := .frz (ListO vs) (.lst (ns.map V.int))
    let H : Hp := fun b => if b = a then some one else T b
    have at_a : H a = some one := if_pos rfl
    have off : ∀ {b}, b ≠ a → H b = T b := fun n => if_neg n
    refine lawGT_at tb KX names bnames boot lim gens script room F binds (want H (fun p hp => (off fun z => a_off ⟨p, hp, z⟩).trans (T_at p hp)) (.inl (.inr ⟨_, at_a⟩))) (fun b u z => ?_) (fun p hp => (off fun z => a_off ⟨p, hp, z⟩).trans (T_at p hp)) (fun b u z => ?_) fun _ => own
    · by_cases e : b = a
      · subst e
        rw [at_a] at z
        cases z
        exact ⟨script, by rw [List.length_map]; exact few, vs, _, rel, script⟩
      · rw [off e] at z
        obtain ⟨q, rfl⟩ := T_in z
        exact isT b q
    · by_cases e : b = a
      · subst e
        rw [at_a] at z
        exact .inl ⟨rfl, _, _, (Option.some.inj z).symm⟩
      · rw [off e] at z
        exact .inr (T_in z).1
end
theorem walkGT {l : PySem.W.OpenLaw} {n k : Nat} {q : Program} {loose : List Str} {XP : (Str → Option Value) → Heap → Prop} {YP : World → Heap → Prop} {d : DefRec} {K : Params → PySem.W.Frag} {sp : PySem.W.Frag → List (Addr × Addr) → Sp} {x : Str} (hn : l.most = some n) (hn2 : n ≤ sizeLine)
    (hdf : d.params.defaults = []) (room : Room k callerA) (hY : ∀ (w : World) (h : Heap), YP w h → (K w.params).In h)
    (F : ∀ (w : World) (mg : Str → Option Value) (fa : Addr) (h : Heap), (K w.params).In h → h.Ns mainGlobals mg → mg d.name = some (.ref fa) →
      ∃ (fd : FuncData) (tt : List (Addr × Addr)), (∀ p ∈ tt, (∃ (nm : Str) (e : DefRec), PySem.W.tabIn (K w.params) nm = some p ∧ (recsOf q).find? (fun e => e.name == nm) = some e) ∧ (K w.params).lookup p.2 = none) ∧
        (∀ (s : Shared) (u : Value), BindsTo s fd ⟨[u], []⟩ [(x, u)]) ∧ ∀ base : Heap, (K w.params).In base → base.Ns mainGlobals mg → (∀ p ∈ tt, LamX.TabB base mg p.1 p.2) → FnG l.prog w (K w.params) mg base k fa fd [x] (sp (K w.params) tt))
    (want : ∀ (K : PySem.W.Frag) (tt : List (Addr × Addr)) (H : Hp) (a : Addr) (ns : List Int), ns.length ≤ n → (∀ p ∈ tt, H p.2 = some (.tbl #[])) → SqL K H a (ns.map V.int) → sp K tt [.ref a] H (fun v _ => v = .bl true) C8.E0) : PySem.W.WalkO q loose XP YP l.row.toRowW d [] (fun f vs => PySem.call f vs) := by
  refine Att.attach_call hn hdf ?_
  intro w s0 s1 mg mb fa o pm cd doc a vs ns G Y _ _ _ named list_ nums few gens
  have KX := hY w _ Y
  obtain ⟨fd, tt, ht, bd, F1⟩ := F w mg fa _ KX G.T.g named
  have tb : Tabbing (K w.params) mg s1.heap tt := ⟨fun p hp => let ⟨⟨nm, e, t1, r1⟩, _⟩ := ht p hp; (PySem.W.tab_of G.T KX r1 t1).2, fun p hp => (ht p hp).2, fun p hp => let ⟨⟨nm, e, t1, r1⟩, _⟩ := ht p hp; (PySem.W.tab_of G.T KX r1 t1).1, G.T.bmain⟩
  exact lawGT_call tb KX G.T.g G.T.b G.T.builtins G.T.nolimit gens list_ nums (Nat.le_trans few hn2) room F1 bd fun H ht hs => want _ _ H a ns few ht hs
end LX
set_option maxHeartbeats 8000000
namespace Toy
open PySem L2 C8 SX LX
def ttOf (tt : List (Addr × Addr)) : List NdefX.NTab := tt.map fun p => (p.2, fun _ _ => ("_plain_table.<locals>.lead" : Str))
theorem all_mk {l : PySem.W.OpenLaw} {qp : Program} {w : World} {K : PySem.W.Frag} {h : Heap} {mg : Str → Option Value} {fa : Addr} {f_box f_take f_pick f_both f_rank f_signs f_row f_lrows f_pairs f_lmoves f_few f_twelve f_isseq f_tupof f_isletters f_issigns f_isrow f_order f_xir f_init f_after f_reduced f_steps f_least f_ispairs f_ispair f_wt f_ahead f_ways f_lfrom f_ptab f_many f_prows f_law C_Rules C_InvalidRules : Addr} (X : K.In h) (G : h.Ns mainGlobals mg) (hfa : mg "law" = some (.ref fa))
    {od_box an_box : Option Addr} {sl_box : Array (Option Value)} {oc_box kV_box dc_box pm_box cd_box ct_box : Value}
    {od_take an_take : Option Addr} {sl_take : Array (Option Value)} {oc_take kV_take dc_take pm_take cd_take ct_take : Value}
    {od_pick an_pick : Option Addr} {sl_pick : Array (Option Value)} {oc_pick kV_pick dc_pick pm_pick cd_pick ct_pick : Value}
    {od_both an_both : Option Addr} {sl_both : Array (Option Value)} {oc_both kV_both dc_both pm_both cd_both ct_both : Value}
    {od_rank an_rank : Option Addr} {sl_rank : Array (Option Value)} {oc_rank kV_rank dc_rank pm_rank cd_rank ct_rank : Value}
    {od_signs an_signs : Option Addr} {sl_signs : Array (Option Value)} {oc_signs kV_signs dc_signs pm_signs cd_signs ct_signs : Value}
    {od_row an_row : Option Addr} {sl_row : Array (Option Value)} {oc_row kV_row dc_row pm_row cd_row ct_row : Value}
    {od_lrows an_lrows : Option Addr} {sl_lrows : Array (Option Value)} {oc_lrows kV_lrows dc_lrows pm_lrows cd_lrows ct_lrows : Value}
    {od_pairs an_pairs : Option Addr} {sl_pairs : Array (Option Value)} {oc_pairs kV_pairs dc_pairs pm_pairs cd_pairs ct_pairs : Value}
    {od_lmoves an_lmoves : Option Addr} {sl_lmoves : Array (Option Value)} {oc_lmoves kV_lmoves dc_lmoves pm_lmoves cd_lmoves ct_lmoves : Value}
    {od_few an_few : Option Addr} {sl_few : Array (Option Value)} {oc_few kV_few dc_few pm_few cd_few ct_few : Value}
    {od_twelve an_twelve : Option Addr} {sl_twelve : Array (Option Value)} {oc_twelve kV_twelve dc_twelve pm_twelve cd_twelve ct_twelve : Value}
    {od_isseq an_isseq : Option Addr} {sl_isseq : Array (Option Value)} {oc_isseq kV_isseq dc_isseq pm_isseq cd_isseq ct_isseq : Value}
    {od_tupof an_tupof : Option Addr} {sl_tupof : Array (Option Value)} {oc_tupof kV_tupof dc_tupof pm_tupof cd_tupof ct_tupof : Value}
    {od_isletters an_isletters : Option Addr} {sl_isletters : Array (Option Value)} {oc_isletters kV_isletters dc_isletters pm_isletters cd_isletters ct_isletters : Value}
    {od_issigns an_issigns : Option Addr} {sl_issigns : Array (Option Value)} {oc_issigns kV_issigns dc_issigns pm_issigns cd_issigns ct_issigns : Value}
    {od_isrow an_isrow : Option Addr} {sl_isrow : Array (Option Value)} {oc_isrow kV_isrow dc_isrow pm_isrow cd_isrow ct_isrow : Value}
    {od_order an_order : Option Addr} {sl_order : Array (Option Value)} {oc_order kV_order dc_order pm_order cd_order ct_order : Value}
    {od_xir an_xir : Option Addr} {sl_xir : Array (Option Value)} {oc_xir kV_xir dc_xir pm_xir cd_xir ct_xir : Value}
    {od_init an_init : Option Addr} {sl_init : Array (Option Value)} {oc_init kV_init dc_init pm_init cd_init ct_init : Value}
    {od_after an_after : Option Addr} {sl_after : Array (Option Value)} {oc_after kV_after dc_after pm_after cd_after ct_after : Value}
    {od_reduced an_reduced : Option Addr} {sl_reduced : Array (Option Value)} {oc_reduced kV_reduced dc_reduced pm_reduced cd_reduced ct_reduced : Value}
    {od_steps an_steps : Option Addr} {sl_steps : Array (Option Value)} {oc_steps kV_steps dc_steps pm_steps cd_steps ct_steps : Value}
    {od_least an_least : Option Addr} {sl_least : Array (Option Value)} {oc_least kV_least dc_least pm_least cd_least ct_least : Value}
    {od_ispairs an_ispairs : Option Addr} {sl_ispairs : Array (Option Value)} {oc_ispairs kV_ispairs dc_ispairs pm_ispairs cd_ispairs ct_ispairs : Value}
    {od_ispair an_ispair : Option Addr} {sl_ispair : Array (Option Value)} {oc_ispair kV_ispair dc_ispair pm_ispair cd_ispair ct_ispair : Value}
    {od_wt an_wt : Option Addr} {sl_wt : Array (Option Value)} {oc_wt kV_wt dc_wt pm_wt cd_wt ct_wt : Value}
    {od_ahead an_ahead : Option Addr} {sl_ahead : Array (Option Value)} {oc_ahead kV_ahead dc_ahead pm_ahead cd_ahead ct_ahead : Value}
    {od_ways an_ways : Option Addr} {sl_ways : Array (Option Value)} {oc_ways kV_ways dc_ways pm_ways cd_ways ct_ways : Value}
    {od_lfrom an_lfrom : Option Addr} {sl_lfrom : Array (Option Value)} {oc_lfrom kV_lfrom dc_lfrom pm_lfrom cd_lfrom ct_lfrom : Value}
    {od_ptab an_ptab : Option Addr} {sl_ptab : Array (Option Value)} {oc_ptab kV_ptab dc_ptab pm_ptab ct_ptab : Value}
    {od_many an_many : Option Addr} {sl_many : Array (Option Value)} {oc_many kV_many dc_many pm_many cd_many ct_many : Value}
    {od_prows an_prows : Option Addr} {sl_prows : Array (Option Value)} {oc_prows kV_prows dc_prows pm_prows cd_prows ct_prows : Value}
    {od_law an_law : Option Addr} {sl_law : Array (Option Value)} {oc_law kV_law dc_law pm_law cd_law ct_law : Value}
    {cc_ptab PP_ptab : Addr} {oe_ptab : Option Addr} {oc2_ptab : Value} {vs_ptab : Array Value} {sl2_ptab : Array (Option Value)}
    (tr_ptab : ∃ e, (PyProof.Rows.recsOf qp).find? (fun e => e.name == ("_plain_table" : Str)) = some e)
    {tk_az : Tok}
    (q_az : PySem.W.nsIn K mainGlobals "_LETTERS" = some (some (.str (S az) tk_az)))
    (g_Rules : PySem.W.nsIn K mainGlobals "Rules" = some (some (.ref C_Rules)))
    (pg_Rules : PySem.W.plainGet K C_Rules Str.empty = true)
    (hd_Rules : PySem.W.hasDictIn K C_Rules = true)
    (po_Rules : PySem.W.plainOver K C_Rules = true)
    (sa_Rules : PySem.W.findIn K (.ref C_Rules) "__setattr__" = some (some (.builtin "object.__setattr__")))
    (kc_Rules : PySem.W.keepIn K (.ref C_Rules) = true)
    (n_Rules_signs : PySem.W.findIn K (.ref C_Rules) "signs" = some none)
    (n_Rules_pairs : PySem.W.findIn K (.ref C_Rules) "pairs" = some none)
    (mk_Rules : PySem.W.makesIn K C_Rules = true)
    (xg_InvalidRules : PySem.W.nsIn K mainGlobals "InvalidRules" = some (some (.ref C_InvalidRules)))
    (xc_InvalidRules : XC K C_InvalidRules)
    (xf_InvalidRules : PySem.W.findIn K (.ref C_InvalidRules) "word" = some none)
    (a_box : PySem.W.nsIn K mainGlobals "_law_box" = some (some (.ref f_box)))
    (l_box : K.lookup f_box = some ⟨oc_box, od_box, .func (PySem.W.fnOf "_law_box" "_law_box" (C8.fnArgs s_box) (C8.fnBody s_box) (C8.fnScope s_box) .none kV_box dc_box pm_box an_box cd_box ct_box), sl_box⟩)
    (c_box : PySem.W.codeIn K cd_box "_law_box" = true)
    (k_box : PySem.W.keepIn K (.ref f_box) = true)
    (a_take : PySem.W.nsIn K mainGlobals "_law_take" = some (some (.ref f_take)))
    (l_take : K.lookup f_take = some ⟨oc_take, od_take, .func (PySem.W.fnOf "_law_take" "_law_take" (C8.fnArgs s_take) (C8.fnBody s_take) (C8.fnScope s_take) .none kV_take dc_take pm_take an_take cd_take ct_take), sl_take⟩)
    (c_take : PySem.W.codeIn K cd_take "_law_take" = true)
    (k_take : PySem.W.keepIn K (.ref f_take) = true)
    (a_pick : PySem.W.nsIn K mainGlobals "_law_pick" = some (some (.ref f_pick)))
    (l_pick : K.lookup f_pick = some ⟨oc_pick, od_pick, .func (PySem.W.fnOf "_law_pick" "_law_pick" (C8.fnArgs s_pick) (C8.fnBody s_pick) (C8.fnScope s_pick) .none kV_pick dc_pick pm_pick an_pick cd_pick ct_pick), sl_pick⟩)
    (c_pick : PySem.W.codeIn K cd_pick "_law_pick" = true)
    (k_pick : PySem.W.keepIn K (.ref f_pick) = true)
    (a_both : PySem.W.nsIn K mainGlobals "_law_both" = some (some (.ref f_both)))
    (l_both : K.lookup f_both = some ⟨oc_both, od_both, .func (PySem.W.fnOf "_law_both" "_law_both" (C8.fnArgs s_both) (C8.fnBody s_both) (C8.fnScope s_both) .none kV_both dc_both pm_both an_both cd_both ct_both), sl_both⟩)
    (c_both : PySem.W.codeIn K cd_both "_law_both" = true)
    (k_both : PySem.W.keepIn K (.ref f_both) = true)
    (a_rank : PySem.W.nsIn K mainGlobals "_law_rank" = some (some (.ref f_rank)))
    (l_rank : K.lookup f_rank = some ⟨oc_rank, od_rank, .func (PySem.W.fnOf "_law_rank" "_law_rank" (C8.fnArgs s_rank) (C8.fnBody s_rank) (C8.fnScope s_rank) .none kV_rank dc_rank pm_rank an_rank cd_rank ct_rank), sl_rank⟩)
    (c_rank : PySem.W.codeIn K cd_rank "_law_rank" = true)
    (k_rank : PySem.W.keepIn K (.ref f_rank) = true)
    (a_signs : PySem.W.nsIn K mainGlobals "_law_signs" = some (some (.ref f_signs)))
    (l_signs : K.lookup f_signs = some ⟨oc_signs, od_signs, .func (PySem.W.fnOf "_law_signs" "_law_signs" (C8.fnArgs s_signs) (C8.fnBody s_signs) (C8.fnScope s_signs) .none kV_signs dc_signs pm_signs an_signs cd_signs ct_signs), sl_signs⟩)
    (c_signs : PySem.W.codeIn K cd_signs "_law_signs" = true)
    (k_signs : PySem.W.keepIn K (.ref f_signs) = true)
    (a_row : PySem.W.nsIn K mainGlobals "_law_row" = some (some (.ref f_row)))
    (l_row : K.lookup f_row = some ⟨oc_row, od_row, .func (PySem.W.fnOf "_law_row" "_law_row" (C8.fnArgs s_row) (C8.fnBody s_row) (C8.fnScope s_row) .none kV_row dc_row pm_row an_row cd_row ct_row), sl_row⟩)
    (c_row : PySem.W.codeIn K cd_row "_law_row" = true)
    (k_row : PySem.W.keepIn K (.ref f_row) = true)
    (a_lrows : PySem.W.nsIn K mainGlobals "_law_rows" = some (some (.ref f_lrows)))
    (l_lrows : K.lookup f_lrows = some ⟨oc_lrows, od_lrows, .func (PySem.W.fnOf "_law_rows" "_law_rows" (C8.fnArgs s_lrows) (C8.fnBody s_lrows) (C8.fnScope s_lrows) .none kV_lrows dc_lrows pm_lrows an_lrows cd_lrows ct_lrows), sl_lrows⟩)
    (c_lrows : PySem.W.codeIn K cd_lrows "_law_rows" = true)
    (k_lrows : PySem.W.keepIn K (.ref f_lrows) = true)
    (a_pairs : PySem.W.nsIn K mainGlobals "_law_pairs" = some (some (.ref f_pairs)))
    (l_pairs : K.lookup f_pairs = some ⟨oc_pairs, od_pairs, .func (PySem.W.fnOf "_law_pairs" "_law_pairs" (C8.fnArgs s_pairs) (C8.fnBody s_pairs) (C8.fnScope s_pairs) .none kV_pairs dc_pairs pm_pairs an_pairs cd_pairs ct_pairs), sl_pairs⟩)
    (c_pairs : PySem.W.codeIn K cd_pairs "_law_pairs" = true)
    (k_pairs : PySem.W.keepIn K (.ref f_pairs) = true)
    (a_lmoves : PySem.W.nsIn K mainGlobals "_law_moves" = some (some (.ref f_lmoves)))
    (l_lmoves : K.lookup f_lmoves = some ⟨oc_lmoves, od_lmoves, .func (PySem.W.fnOf "_law_moves" "_law_moves" (C8.fnArgs s_lmoves) (C8.fnBody s_lmoves) (C8.fnScope s_lmoves) .none kV_lmoves dc_lmoves pm_lmoves an_lmoves cd_lmoves ct_lmoves), sl_lmoves⟩)
    (c_lmoves : PySem.W.codeIn K cd_lmoves "_law_moves" = true)
    (k_lmoves : PySem.W.keepIn K (.ref f_lmoves) = true)
    (a_few : PySem.W.nsIn K mainGlobals "_law_few" = some (some (.ref f_few)))
    (l_few : K.lookup f_few = some ⟨oc_few, od_few, .func (PySem.W.fnOf "_law_few" "_law_few" (C8.fnArgs s_few) (C8.fnBody s_few) (C8.fnScope s_few) .none kV_few dc_few pm_few an_few cd_few ct_few), sl_few⟩)
    (c_few : PySem.W.codeIn K cd_few "_law_few" = true)
    (k_few : PySem.W.keepIn K (.ref f_few) = true)
    (a_twelve : PySem.W.nsIn K mainGlobals "_law_twelve_right" = some (some (.ref f_twelve)))
    (l_twelve : K.lookup f_twelve = some ⟨oc_twelve, od_twelve, .func (PySem.W.fnOf "_law_twelve_right" "_law_twelve_right" (C8.fnArgs s_twelve) (C8.fnBody s_twelve) (C8.fnScope s_twelve) .none kV_twelve dc_twelve pm_twelve an_twelve cd_twelve ct_twelve), sl_twelve⟩)
    (c_twelve : PySem.W.codeIn K cd_twelve "_law_twelve_right" = true)
    (k_twelve : PySem.W.keepIn K (.ref f_twelve) = true)
    (a_isseq : PySem.W.nsIn K mainGlobals "is_sequence" = some (some (.ref f_isseq)))
    (l_isseq : K.lookup f_isseq = some ⟨oc_isseq, od_isseq, .func (PySem.W.fnOf "is_sequence" "is_sequence" (C8.fnArgs s_isseq) (C8.fnBody s_isseq) (C8.fnScope s_isseq) .none kV_isseq dc_isseq pm_isseq an_isseq cd_isseq ct_isseq), sl_isseq⟩)
    (c_isseq : PySem.W.codeIn K cd_isseq "is_sequence" = true)
    (k_isseq : PySem.W.keepIn K (.ref f_isseq) = true)
    (a_tupof : PySem.W.nsIn K mainGlobals "is_tuple_of" = some (some (.ref f_tupof)))
    (l_tupof : K.lookup f_tupof = some ⟨oc_tupof, od_tupof, .func (PySem.W.fnOf "is_tuple_of" "is_tuple_of" (C8.fnArgs s_tupof) (C8.fnBody s_tupof) (C8.fnScope s_tupof) .none kV_tupof dc_tupof pm_tupof an_tupof cd_tupof ct_tupof), sl_tupof⟩)
    (c_tupof : PySem.W.codeIn K cd_tupof "is_tuple_of" = true)
    (k_tupof : PySem.W.keepIn K (.ref f_tupof) = true)
    (a_isletters : PySem.W.nsIn K mainGlobals "is_letters" = some (some (.ref f_isletters)))
    (l_isletters : K.lookup f_isletters = some ⟨oc_isletters, od_isletters, .func (PySem.W.fnOf "is_letters" "is_letters" (C8.fnArgs s_isletters) (C8.fnBody s_isletters) (C8.fnScope s_isletters) .none kV_isletters dc_isletters pm_isletters an_isletters cd_isletters ct_isletters), sl_isletters⟩)
    (c_isletters : PySem.W.codeIn K cd_isletters "is_letters" = true)
    (k_isletters : PySem.W.keepIn K (.ref f_isletters) = true)
    (a_issigns : PySem.W.nsIn K mainGlobals "is_signs" = some (some (.ref f_issigns)))
    (l_issigns : K.lookup f_issigns = some ⟨oc_issigns, od_issigns, .func (PySem.W.fnOf "is_signs" "is_signs" (C8.fnArgs s_issigns) (C8.fnBody s_issigns) (C8.fnScope s_issigns) .none kV_issigns dc_issigns pm_issigns an_issigns cd_issigns ct_issigns), sl_issigns⟩)
    (c_issigns : PySem.W.codeIn K cd_issigns "is_signs" = true)
    (k_issigns : PySem.W.keepIn K (.ref f_issigns) = true)
    (a_isrow : PySem.W.nsIn K mainGlobals "is_row" = some (some (.ref f_isrow)))
    (l_isrow : K.lookup f_isrow = some ⟨oc_isrow, od_isrow, .func (PySem.W.fnOf "is_row" "is_row" (C8.fnArgs s_isrow) (C8.fnBody s_isrow) (C8.fnScope s_isrow) .none kV_isrow dc_isrow pm_isrow an_isrow cd_isrow ct_isrow), sl_isrow⟩)
    (c_isrow : PySem.W.codeIn K cd_isrow "is_row" = true)
    (k_isrow : PySem.W.keepIn K (.ref f_isrow) = true)
    (a_order : PySem.W.nsIn K mainGlobals "row_order" = some (some (.ref f_order)))
    (l_order : K.lookup f_order = some ⟨oc_order, od_order, .func (PySem.W.fnOf "row_order" "row_order" (C8.fnArgs s_order) (C8.fnBody s_order) (C8.fnScope s_order) .none kV_order dc_order pm_order an_order cd_order ct_order), sl_order⟩)
    (c_order : PySem.W.codeIn K cd_order "row_order" = true)
    (k_order : PySem.W.keepIn K (.ref f_order) = true)
    (a_xir : PySem.W.findIn K (.ref C_InvalidRules) "__init__" = some (some (.ref f_xir)))
    (i_xir : PySem.W.isFn K (.ref f_xir) = true)
    (l_xir : K.lookup f_xir = some ⟨oc_xir, od_xir, .func (PySem.W.fnOf "__init__" "InvalidRules.__init__" (C8.fnArgs s_xir) (C8.fnBody s_xir) (C8.fnScope s_xir) .none kV_xir dc_xir pm_xir an_xir cd_xir ct_xir), sl_xir⟩)
    (c_xir : PySem.W.codeIn K cd_xir "InvalidRules.__init__" = true)
    (k_xir : PySem.W.keepIn K (.ref f_xir) = true)
    (a_init : PySem.W.findIn K (.ref C_Rules) "__init__" = some (some (.ref f_init)))
    (i_init : PySem.W.isFn K (.ref f_init) = true)
    (l_init : K.lookup f_init = some ⟨oc_init, od_init, .func (PySem.W.fnOf "__init__" "Rules.__init__" (C8.fnArgs s_init) (C8.fnBody s_init) (C8.fnScope s_init) .none kV_init dc_init pm_init an_init cd_init ct_init), sl_init⟩)
    (c_init : PySem.W.codeIn K cd_init "Rules.__init__" = true)
    (k_init : PySem.W.keepIn K (.ref f_init) = true)
    (a_after : PySem.W.findIn K (.ref C_Rules) "after" = some (some (.ref f_after)))
    (i_after : PySem.W.isFn K (.ref f_after) = true)
    (l_after : K.lookup f_after = some ⟨oc_after, od_after, .func (PySem.W.fnOf "after" "Rules.after" (C8.fnArgs s_after) (C8.fnBody s_after) (C8.fnScope s_after) .none kV_after dc_after pm_after an_after cd_after ct_after), sl_after⟩)
    (c_after : PySem.W.codeIn K cd_after "Rules.after" = true)
    (k_after : PySem.W.keepIn K (.ref f_after) = true)
    (a_reduced : PySem.W.findIn K (.ref C_Rules) "reduced" = some (some (.ref f_reduced)))
    (i_reduced : PySem.W.isFn K (.ref f_reduced) = true)
    (l_reduced : K.lookup f_reduced = some ⟨oc_reduced, od_reduced, .func (PySem.W.fnOf "reduced" "Rules.reduced" (C8.fnArgs s_reduced) (C8.fnBody s_reduced) (C8.fnScope s_reduced) .none kV_reduced dc_reduced pm_reduced an_reduced cd_reduced ct_reduced), sl_reduced⟩)
    (c_reduced : PySem.W.codeIn K cd_reduced "Rules.reduced" = true)
    (k_reduced : PySem.W.keepIn K (.ref f_reduced) = true)
    (a_steps : PySem.W.findIn K (.ref C_Rules) "steps_down" = some (some (.ref f_steps)))
    (i_steps : PySem.W.isFn K (.ref f_steps) = true)
    (l_steps : K.lookup f_steps = some ⟨oc_steps, od_steps, .func (PySem.W.fnOf "steps_down" "Rules.steps_down" (C8.fnArgs s_steps) (C8.fnBody s_steps) (C8.fnScope s_steps) .none kV_steps dc_steps pm_steps an_steps cd_steps ct_steps), sl_steps⟩)
    (c_steps : PySem.W.codeIn K cd_steps "Rules.steps_down" = true)
    (k_steps : PySem.W.keepIn K (.ref f_steps) = true)
    (a_least : PySem.W.nsIn K mainGlobals "_least_move" = some (some (.ref f_least)))
    (l_least : K.lookup f_least = some ⟨oc_least, od_least, .func (PySem.W.fnOf "_least_move" "_least_move" (C8.fnArgs s_least) (C8.fnBody s_least) (C8.fnScope s_least) .none kV_least dc_least pm_least an_least cd_least ct_least), sl_least⟩)
    (c_least : PySem.W.codeIn K cd_least "_least_move" = true)
    (k_least : PySem.W.keepIn K (.ref f_least) = true)
    (a_ispairs : PySem.W.nsIn K mainGlobals "_is_pairs" = some (some (.ref f_ispairs)))
    (l_ispairs : K.lookup f_ispairs = some ⟨oc_ispairs, od_ispairs, .func (PySem.W.fnOf "_is_pairs" "_is_pairs" (C8.fnArgs s_ispairs) (C8.fnBody s_ispairs) (C8.fnScope s_ispairs) .none kV_ispairs dc_ispairs pm_ispairs an_ispairs cd_ispairs ct_ispairs), sl_ispairs⟩)
    (c_ispairs : PySem.W.codeIn K cd_ispairs "_is_pairs" = true)
    (k_ispairs : PySem.W.keepIn K (.ref f_ispairs) = true)
    (a_ispair : PySem.W.nsIn K mainGlobals "_is_pair" = some (some (.ref f_ispair)))
    (l_ispair : K.lookup f_ispair = some ⟨oc_ispair, od_ispair, .func (PySem.W.fnOf "_is_pair" "_is_pair" (C8.fnArgs s_ispair) (C8.fnBody s_ispair) (C8.fnScope s_ispair) .none kV_ispair dc_ispair pm_ispair an_ispair cd_ispair ct_ispair), sl_ispair⟩)
    (c_ispair : PySem.W.codeIn K cd_ispair "_is_pair" = true)
    (k_ispair : PySem.W.keepIn K (.ref f_ispair) = true)
    (a_wt : PySem.W.nsIn K mainGlobals "walked_table" = some (some (.ref f_wt)))
    (l_wt : K.lookup f_wt = some ⟨oc_wt, od_wt, .func (PySem.W.fnOf "walked_table" "walked_table" (C8.fnArgs s_wt) (C8.fnBody s_wt) (C8.fnScope s_wt) .none kV_wt dc_wt pm_wt an_wt cd_wt ct_wt), sl_wt⟩)
    (c_wt : PySem.W.codeIn K cd_wt "walked_table" = true)
    (k_wt : PySem.W.keepIn K (.ref f_wt) = true)
    (a_ahead : PySem.W.nsIn K mainGlobals "_ways_ahead" = some (some (.ref f_ahead)))
    (l_ahead : K.lookup f_ahead = some ⟨oc_ahead, od_ahead, .func (PySem.W.fnOf "_ways_ahead" "_ways_ahead" (C8.fnArgs s_ahead) (C8.fnBody s_ahead) (C8.fnScope s_ahead) .none kV_ahead dc_ahead pm_ahead an_ahead cd_ahead ct_ahead), sl_ahead⟩)
    (c_ahead : PySem.W.codeIn K cd_ahead "_ways_ahead" = true)
    (k_ahead : PySem.W.keepIn K (.ref f_ahead) = true)
    (a_ways : PySem.W.nsIn K mainGlobals "ways_by_length" = some (some (.ref f_ways)))
    (l_ways : K.lookup f_ways = some ⟨oc_ways, od_ways, .func (PySem.W.fnOf "ways_by_length" "ways_by_length" (C8.fnArgs s_ways) (C8.fnBody s_ways) (C8.fnScope s_ways) .none kV_ways dc_ways pm_ways an_ways cd_ways ct_ways), sl_ways⟩)
    (c_ways : PySem.W.codeIn K cd_ways "ways_by_length" = true)
    (k_ways : PySem.W.keepIn K (.ref f_ways) = true)
    (a_lfrom : PySem.W.nsIn K mainGlobals "longest_from" = some (some (.ref f_lfrom)))
    (l_lfrom : K.lookup f_lfrom = some ⟨oc_lfrom, od_lfrom, .func (PySem.W.fnOf "longest_from" "longest_from" (C8.fnArgs s_lfrom) (C8.fnBody s_lfrom) (C8.fnScope s_lfrom) .none kV_lfrom dc_lfrom pm_lfrom an_lfrom cd_lfrom ct_lfrom), sl_lfrom⟩)
    (c_lfrom : PySem.W.codeIn K cd_lfrom "longest_from" = true)
    (k_lfrom : PySem.W.keepIn K (.ref f_lfrom) = true)
    (a_ptab : PySem.W.nsIn K mainGlobals "_plain_table" = some (some (.ref f_ptab)))
    (l_ptab : K.lookup f_ptab = some ⟨oc_ptab, od_ptab, .func (PySem.W.fnOf "_plain_table" "_plain_table" (C8.fnArgs s_ptab) (C8.fnBody s_ptab) (C8.fnScope s_ptab) .none kV_ptab dc_ptab pm_ptab an_ptab (.ref cc_ptab) ct_ptab), sl_ptab⟩)
    (lc_ptab : K.lookup cc_ptab = some ⟨oc2_ptab, oe_ptab, .fields vs_ptab, sl2_ptab⟩)
    (pv_ptab : (vs_ptab[11]? : Option Value) = some (.ref PP_ptab))
    (tn_ptab : K.lookup PP_ptab = none)
    (c_ptab : PySem.W.codeIn K (.ref cc_ptab) "_plain_table" = true)
    (k_ptab : PySem.W.keepIn K (.ref f_ptab) = true)
    (a_many : PySem.W.nsIn K mainGlobals "many_plain" = some (some (.ref f_many)))
    (l_many : K.lookup f_many = some ⟨oc_many, od_many, .func (PySem.W.fnOf "many_plain" "many_plain" (C8.fnArgs s_many) (C8.fnBody s_many) (C8.fnScope s_many) .none kV_many dc_many pm_many an_many cd_many ct_many), sl_many⟩)
    (c_many : PySem.W.codeIn K cd_many "many_plain" = true)
    (k_many : PySem.W.keepIn K (.ref f_many) = true)
    (a_prows : PySem.W.nsIn K mainGlobals "plain_rows" = some (some (.ref f_prows)))
    (l_prows : K.lookup f_prows = some ⟨oc_prows, od_prows, .func (PySem.W.fnOf "plain_rows" "plain_rows" (C8.fnArgs s_prows) (C8.fnBody s_prows) (C8.fnScope s_prows) .none kV_prows dc_prows pm_prows an_prows cd_prows ct_prows), sl_prows⟩)
    (c_prows : PySem.W.codeIn K cd_prows "plain_rows" = true)
    (k_prows : PySem.W.keepIn K (.ref f_prows) = true)
    (a_law : PySem.W.nsIn K mainGlobals "law" = some (some (.ref f_law)))
    (l_law : K.lookup f_law = some ⟨oc_law, od_law, .func (PySem.W.fnOf "law" "law" (C8.fnArgs s_law) (C8.fnBody s_law) (C8.fnScope s_law) .none kV_law dc_law pm_law an_law cd_law ct_law), sl_law⟩)
    (c_law : PySem.W.codeIn K cd_law "law" = true)
    (k_law : PySem.W.keepIn K (.ref f_law) = true)
    (z_int : PySem.W.nsIn K mainGlobals "int" = some none)
    (z_len : PySem.W.nsIn K mainGlobals "len" = some none)
    (z_abs : PySem.W.nsIn K mainGlobals "abs" = some none)
    (z_str : PySem.W.nsIn K mainGlobals "str" = some none)
    (z_list : PySem.W.nsIn K mainGlobals "list" = some none)
    (z_tuple : PySem.W.nsIn K mainGlobals "tuple" = some none)
    (z_isinstance : PySem.W.nsIn K mainGlobals "isinstance" = some none)
    (z_all : PySem.W.nsIn K mainGlobals "all" = some none)
    (z_any : PySem.W.nsIn K mainGlobals "any" = some none)
    (z_zip : PySem.W.nsIn K mainGlobals "zip" = some none)
    (z_range : PySem.W.nsIn K mainGlobals "range" = some none)
    (z_max : PySem.W.nsIn K mainGlobals "max" = some none)
    (z_min : PySem.W.nsIn K mainGlobals "min" = some none)
    (z_enumerate : PySem.W.nsIn K mainGlobals "enumerate" = some none)
    (z_sorted : PySem.W.nsIn K mainGlobals "sorted" = some none)
    (z_set : PySem.W.nsIn K mainGlobals "set" = some none)
    (z_sum : PySem.W.nsIn K mainGlobals "sum" = some none) :
    ∃ (fd : FuncData) (tt : List (Addr × Addr)), (∀ p ∈ tt, (∃ (nm : Str) (e : DefRec), PySem.W.tabIn K nm = some p ∧ (PyProof.Rows.recsOf qp).find? (fun e => e.name == nm) = some e) ∧ K.lookup p.2 = none) ∧ (∀ (s : Shared) (v : Value), BindsTo s fd ⟨[v], []⟩ [("script", v)]) ∧ ∀ base : Heap, K.In base → base.Ns mainGlobals mg → (∀ p ∈ tt, LamX.TabB base mg p.1 p.2) → FnG l.prog w K mg base 8 fa fd ["script"] (spLaw (ttOf tt) K) := by
  have e := hfa.symm.trans (PySem.W.mg_of X G a_law)
  cases e
  have T : BT mg := ⟨PySem.W.mg_none_of X G z_int, PySem.W.mg_none_of X G z_len, PySem.W.mg_none_of X G z_abs, PySem.W.mg_none_of X G z_str, PySem.W.mg_none_of X G z_list, PySem.W.mg_none_of X G z_tuple, PySem.W.mg_none_of X G z_isinstance, PySem.W.mg_none_of X G z_all, PySem.W.mg_none_of X G z_any, PySem.W.mg_none_of X G z_zip, PySem.W.mg_none_of X G z_range, PySem.W.mg_none_of X G z_max, PySem.W.mg_none_of X G z_min, PySem.W.mg_none_of X G z_enumerate, PySem.W.mg_none_of X G z_sorted, PySem.W.mg_none_of X G z_set, PySem.W.mg_none_of X G z_sum⟩
  have mg_az := PySem.W.mg_of X G q_az
  have U_box : C8.Fun K "_law_box" "_law_box" s_box f_box (PySem.W.fnOf "_law_box" "_law_box" (C8.fnArgs s_box) (C8.fnBody s_box) (C8.fnScope s_box) .none kV_box dc_box pm_box an_box cd_box ct_box) := ⟨oc_box, od_box, .none, kV_box, dc_box, pm_box, an_box, cd_box, ct_box, sl_box, rfl, l_box, c_box⟩
  have F_box : C8.Def K mg "_law_box" s_box f_box _ := ⟨U_box, PySem.W.mg_of X G a_box, k_box⟩
  have b_box := U_box.binds rfl (ps := ["script", "k"]) fun _ _ _ _ _ _ us hl => match us, hl with | [_, _], _ => rfl
  have U_take : C8.Fun K "_law_take" "_law_take" s_take f_take (PySem.W.fnOf "_law_take" "_law_take" (C8.fnArgs s_take) (C8.fnBody s_take) (C8.fnScope s_take) .none kV_take dc_take pm_take an_take cd_take ct_take) := ⟨oc_take, od_take, .none, kV_take, dc_take, pm_take, an_take, cd_take, ct_take, sl_take, rfl, l_take, c_take⟩
  have F_take : C8.Def K mg "_law_take" s_take f_take _ := ⟨U_take, PySem.W.mg_of X G a_take, k_take⟩
  have b_take := U_take.binds rfl (ps := ["box", "many"]) fun _ _ _ _ _ _ us hl => match us, hl with | [_, _], _ => rfl
  have U_pick : C8.Fun K "_law_pick" "_law_pick" s_pick f_pick (PySem.W.fnOf "_law_pick" "_law_pick" (C8.fnArgs s_pick) (C8.fnBody s_pick) (C8.fnScope s_pick) .none kV_pick dc_pick pm_pick an_pick cd_pick ct_pick) := ⟨oc_pick, od_pick, .none, kV_pick, dc_pick, pm_pick, an_pick, cd_pick, ct_pick, sl_pick, rfl, l_pick, c_pick⟩
  have F_pick : C8.Def K mg "_law_pick" s_pick f_pick _ := ⟨U_pick, PySem.W.mg_of X G a_pick, k_pick⟩
  have b_pick := U_pick.binds rfl (ps := ["box", "some"]) fun _ _ _ _ _ _ us hl => match us, hl with | [_, _], _ => rfl
  have U_both : C8.Fun K "_law_both" "_law_both" s_both f_both (PySem.W.fnOf "_law_both" "_law_both" (C8.fnArgs s_both) (C8.fnBody s_both) (C8.fnScope s_both) .none kV_both dc_both pm_both an_both cd_both ct_both) := ⟨oc_both, od_both, .none, kV_both, dc_both, pm_both, an_both, cd_both, ct_both, sl_both, rfl, l_both, c_both⟩
  have F_both : C8.Def K mg "_law_both" s_both f_both _ := ⟨U_both, PySem.W.mg_of X G a_both, k_both⟩
  have b_both := U_both.binds rfl (ps := ["some", "others"]) fun _ _ _ _ _ _ us hl => match us, hl with | [_, _], _ => rfl
  have U_rank : C8.Fun K "_law_rank" "_law_rank" s_rank f_rank (PySem.W.fnOf "_law_rank" "_law_rank" (C8.fnArgs s_rank) (C8.fnBody s_rank) (C8.fnScope s_rank) .none kV_rank dc_rank pm_rank an_rank cd_rank ct_rank) := ⟨oc_rank, od_rank, .none, kV_rank, dc_rank, pm_rank, an_rank, cd_rank, ct_rank, sl_rank, rfl, l_rank, c_rank⟩
  have F_rank : C8.Def K mg "_law_rank" s_rank f_rank _ := ⟨U_rank, PySem.W.mg_of X G a_rank, k_rank⟩
  have b_rank := U_rank.binds rfl (ps := ["row"]) fun _ _ _ _ _ _ us hl => match us, hl with | [_], _ => rfl
  have U_signs : C8.Fun K "_law_signs" "_law_signs" s_signs f_signs (PySem.W.fnOf "_law_signs" "_law_signs" (C8.fnArgs s_signs) (C8.fnBody s_signs) (C8.fnScope s_signs) .none kV_signs dc_signs pm_signs an_signs cd_signs ct_signs) := ⟨oc_signs, od_signs, .none, kV_signs, dc_signs, pm_signs, an_signs, cd_signs, ct_signs, sl_signs, rfl, l_signs, c_signs⟩
  have F_signs : C8.Def K mg "_law_signs" s_signs f_signs _ := ⟨U_signs, PySem.W.mg_of X G a_signs, k_signs⟩
  have b_signs := U_signs.binds rfl (ps := ["box"]) fun _ _ _ _ _ _ us hl => match us, hl with | [_], _ => rfl
  have U_row : C8.Fun K "_law_row" "_law_row" s_row f_row (PySem.W.fnOf "_law_row" "_law_row" (C8.fnArgs s_row) (C8.fnBody s_row) (C8.fnScope s_row) .none kV_row dc_row pm_row an_row cd_row ct_row) := ⟨oc_row, od_row, .none, kV_row, dc_row, pm_row, an_row, cd_row, ct_row, sl_row, rfl, l_row, c_row⟩
  have F_row : C8.Def K mg "_law_row" s_row f_row _ := ⟨U_row, PySem.W.mg_of X G a_row, k_row⟩
  have b_row := U_row.binds rfl (ps := ["box", "signs", "long"]) fun _ _ _ _ _ _ us hl => match us, hl with | [_, _, _], _ => rfl
  have U_lrows : C8.Fun K "_law_rows" "_law_rows" s_lrows f_lrows (PySem.W.fnOf "_law_rows" "_law_rows" (C8.fnArgs s_lrows) (C8.fnBody s_lrows) (C8.fnScope s_lrows) .none kV_lrows dc_lrows pm_lrows an_lrows cd_lrows ct_lrows) := ⟨oc_lrows, od_lrows, .none, kV_lrows, dc_lrows, pm_lrows, an_lrows, cd_lrows, ct_lrows, sl_lrows, rfl, l_lrows, c_lrows⟩
  have F_lrows : C8.Def K mg "_law_rows" s_lrows f_lrows _ := ⟨U_lrows, PySem.W.mg_of X G a_lrows, k_lrows⟩
  have b_lrows := U_lrows.binds rfl (ps := ["signs", "long"]) fun _ _ _ _ _ _ us hl => match us, hl with | [_, _], _ => rfl
  have U_pairs : C8.Fun K "_law_pairs" "_law_pairs" s_pairs f_pairs (PySem.W.fnOf "_law_pairs" "_law_pairs" (C8.fnArgs s_pairs) (C8.fnBody s_pairs) (C8.fnScope s_pairs) .none kV_pairs dc_pairs pm_pairs an_pairs cd_pairs ct_pairs) := ⟨oc_pairs, od_pairs, .none, kV_pairs, dc_pairs, pm_pairs, an_pairs, cd_pairs, ct_pairs, sl_pairs, rfl, l_pairs, c_pairs⟩
  have F_pairs : C8.Def K mg "_law_pairs" s_pairs f_pairs _ := ⟨U_pairs, PySem.W.mg_of X G a_pairs, k_pairs⟩
  have b_pairs := U_pairs.binds rfl (ps := ["box", "signs", "many"]) fun _ _ _ _ _ _ us hl => match us, hl with | [_, _, _], _ => rfl
  have U_lmoves : C8.Fun K "_law_moves" "_law_moves" s_lmoves f_lmoves (PySem.W.fnOf "_law_moves" "_law_moves" (C8.fnArgs s_lmoves) (C8.fnBody s_lmoves) (C8.fnScope s_lmoves) .none kV_lmoves dc_lmoves pm_lmoves an_lmoves cd_lmoves ct_lmoves) := ⟨oc_lmoves, od_lmoves, .none, kV_lmoves, dc_lmoves, pm_lmoves, an_lmoves, cd_lmoves, ct_lmoves, sl_lmoves, rfl, l_lmoves, c_lmoves⟩
  have F_lmoves : C8.Def K mg "_law_moves" s_lmoves f_lmoves _ := ⟨U_lmoves, PySem.W.mg_of X G a_lmoves, k_lmoves⟩
  have b_lmoves := U_lmoves.binds rfl (ps := ["pairs", "row"]) fun _ _ _ _ _ _ us hl => match us, hl with | [_, _], _ => rfl
  have U_few : C8.Fun K "_law_few" "_law_few" s_few f_few (PySem.W.fnOf "_law_few" "_law_few" (C8.fnArgs s_few) (C8.fnBody s_few) (C8.fnScope s_few) .none kV_few dc_few pm_few an_few cd_few ct_few) := ⟨oc_few, od_few, .none, kV_few, dc_few, pm_few, an_few, cd_few, ct_few, sl_few, rfl, l_few, c_few⟩
  have F_few : C8.Def K mg "_law_few" s_few f_few _ := ⟨U_few, PySem.W.mg_of X G a_few, k_few⟩
  have b_few := U_few.binds rfl (ps := ["box", "signs"]) fun _ _ _ _ _ _ us hl => match us, hl with | [_, _], _ => rfl
  have U_twelve : C8.Fun K "_law_twelve_right" "_law_twelve_right" s_twelve f_twelve (PySem.W.fnOf "_law_twelve_right" "_law_twelve_right" (C8.fnArgs s_twelve) (C8.fnBody s_twelve) (C8.fnScope s_twelve) .none kV_twelve dc_twelve pm_twelve an_twelve cd_twelve ct_twelve) := ⟨oc_twelve, od_twelve, .none, kV_twelve, dc_twelve, pm_twelve, an_twelve, cd_twelve, ct_twelve, sl_twelve, rfl, l_twelve, c_twelve⟩
  have F_twelve : C8.Def K mg "_law_twelve_right" s_twelve f_twelve _ := ⟨U_twelve, PySem.W.mg_of X G a_twelve, k_twelve⟩
  have b_twelve := U_twelve.binds rfl (ps := []) fun _ _ _ _ _ _ us hl => match us, hl with | [], _ => rfl
  have U_isseq : C8.Fun K "is_sequence" "is_sequence" s_isseq f_isseq (PySem.W.fnOf "is_sequence" "is_sequence" (C8.fnArgs s_isseq) (C8.fnBody s_isseq) (C8.fnScope s_isseq) .none kV_isseq dc_isseq pm_isseq an_isseq cd_isseq ct_isseq) := ⟨oc_isseq, od_isseq, .none, kV_isseq, dc_isseq, pm_isseq, an_isseq, cd_isseq, ct_isseq, sl_isseq, rfl, l_isseq, c_isseq⟩
  have F_isseq : C8.Def K mg "is_sequence" s_isseq f_isseq _ := ⟨U_isseq, PySem.W.mg_of X G a_isseq, k_isseq⟩
  have b_isseq := U_isseq.binds rfl (ps := ["value"]) fun _ _ _ _ _ _ us hl => match us, hl with | [_], _ => rfl
  have U_tupof : C8.Fun K "is_tuple_of" "is_tuple_of" s_tupof f_tupof (PySem.W.fnOf "is_tuple_of" "is_tuple_of" (C8.fnArgs s_tupof) (C8.fnBody s_tupof) (C8.fnScope s_tupof) .none kV_tupof dc_tupof pm_tupof an_tupof cd_tupof ct_tupof) := ⟨oc_tupof, od_tupof, .none, kV_tupof, dc_tupof, pm_tupof, an_tupof, cd_tupof, ct_tupof, sl_tupof, rfl, l_tupof, c_tupof⟩
  have F_tupof : C8.Def K mg "is_tuple_of" s_tupof f_tupof _ := ⟨U_tupof, PySem.W.mg_of X G a_tupof, k_tupof⟩
  have b_tupof := U_tupof.binds rfl (ps := ["value", "many"]) fun _ _ _ _ _ _ us hl => match us, hl with | [_, _], _ => rfl
  have U_isletters : C8.Fun K "is_letters" "is_letters" s_isletters f_isletters (PySem.W.fnOf "is_letters" "is_letters" (C8.fnArgs s_isletters) (C8.fnBody s_isletters) (C8.fnScope s_isletters) .none kV_isletters dc_isletters pm_isletters an_isletters cd_isletters ct_isletters) := ⟨oc_isletters, od_isletters, .none, kV_isletters, dc_isletters, pm_isletters, an_isletters, cd_isletters, ct_isletters, sl_isletters, rfl, l_isletters, c_isletters⟩
  have F_isletters : C8.Def K mg "is_letters" s_isletters f_isletters _ := ⟨U_isletters, PySem.W.mg_of X G a_isletters, k_isletters⟩
  have b_isletters := U_isletters.binds rfl (ps := ["value"]) fun _ _ _ _ _ _ us hl => match us, hl with | [_], _ => rfl
  have U_issigns : C8.Fun K "is_signs" "is_signs" s_issigns f_issigns (PySem.W.fnOf "is_signs" "is_signs" (C8.fnArgs s_issigns) (C8.fnBody s_issigns) (C8.fnScope s_issigns) .none kV_issigns dc_issigns pm_issigns an_issigns cd_issigns ct_issigns) := ⟨oc_issigns, od_issigns, .none, kV_issigns, dc_issigns, pm_issigns, an_issigns, cd_issigns, ct_issigns, sl_issigns, rfl, l_issigns, c_issigns⟩
  have F_issigns : C8.Def K mg "is_signs" s_issigns f_issigns _ := ⟨U_issigns, PySem.W.mg_of X G a_issigns, k_issigns⟩
  have b_issigns := U_issigns.binds rfl (ps := ["value"]) fun _ _ _ _ _ _ us hl => match us, hl with | [_], _ => rfl
  have U_isrow : C8.Fun K "is_row" "is_row" s_isrow f_isrow (PySem.W.fnOf "is_row" "is_row" (C8.fnArgs s_isrow) (C8.fnBody s_isrow) (C8.fnScope s_isrow) .none kV_isrow dc_isrow pm_isrow an_isrow cd_isrow ct_isrow) := ⟨oc_isrow, od_isrow, .none, kV_isrow, dc_isrow, pm_isrow, an_isrow, cd_isrow, ct_isrow, sl_isrow, rfl, l_isrow, c_isrow⟩
  have F_isrow : C8.Def K mg "is_row" s_isrow f_isrow _ := ⟨U_isrow, PySem.W.mg_of X G a_isrow, k_isrow⟩
  have b_isrow := U_isrow.binds rfl (ps := ["value", "signs"]) fun _ _ _ _ _ _ us hl => match us, hl with | [_, _], _ => rfl
  have U_order : C8.Fun K "row_order" "row_order" s_order f_order (PySem.W.fnOf "row_order" "row_order" (C8.fnArgs s_order) (C8.fnBody s_order) (C8.fnScope s_order) .none kV_order dc_order pm_order an_order cd_order ct_order) := ⟨oc_order, od_order, .none, kV_order, dc_order, pm_order, an_order, cd_order, ct_order, sl_order, rfl, l_order, c_order⟩
  have F_order : C8.Def K mg "row_order" s_order f_order _ := ⟨U_order, PySem.W.mg_of X G a_order, k_order⟩
  have b_order := U_order.binds rfl (ps := ["row"]) fun _ _ _ _ _ _ us hl => match us, hl with | [_], _ => rfl
  have U_xir : C8.Fun K "__init__" "InvalidRules.__init__" s_xir f_xir (PySem.W.fnOf "__init__" "InvalidRules.__init__" (C8.fnArgs s_xir) (C8.fnBody s_xir) (C8.fnScope s_xir) .none kV_xir dc_xir pm_xir an_xir cd_xir ct_xir) := ⟨oc_xir, od_xir, .none, kV_xir, dc_xir, pm_xir, an_xir, cd_xir, ct_xir, sl_xir, rfl, l_xir, c_xir⟩
  have me_xir : Meth K C_InvalidRules "__init__" f_xir := ⟨a_xir, i_xir, k_xir⟩
  have b_xir := U_xir.binds rfl (ps := ["self", "word"]) fun _ _ _ _ _ _ us hl => match us, hl with | [_, _], _ => rfl
  have U_init : C8.Fun K "__init__" "Rules.__init__" s_init f_init (PySem.W.fnOf "__init__" "Rules.__init__" (C8.fnArgs s_init) (C8.fnBody s_init) (C8.fnScope s_init) .none kV_init dc_init pm_init an_init cd_init ct_init) := ⟨oc_init, od_init, .none, kV_init, dc_init, pm_init, an_init, cd_init, ct_init, sl_init, rfl, l_init, c_init⟩
  have me_init : Meth K C_Rules "__init__" f_init := ⟨a_init, i_init, k_init⟩
  have b_init := U_init.binds rfl (ps := ["self", "signs", "pairs"]) fun _ _ _ _ _ _ us hl => match us, hl with | [_, _, _], _ => rfl
  have U_after : C8.Fun K "after" "Rules.after" s_after f_after (PySem.W.fnOf "after" "Rules.after" (C8.fnArgs s_after) (C8.fnBody s_after) (C8.fnScope s_after) .none kV_after dc_after pm_after an_after cd_after ct_after) := ⟨oc_after, od_after, .none, kV_after, dc_after, pm_after, an_after, cd_after, ct_after, sl_after, rfl, l_after, c_after⟩
  have me_after : Meth K C_Rules "after" f_after := ⟨a_after, i_after, k_after⟩
  have b_after := U_after.binds rfl (ps := ["self", "row", "move"]) fun _ _ _ _ _ _ us hl => match us, hl with | [_, _, _], _ => rfl
  have U_reduced : C8.Fun K "reduced" "Rules.reduced" s_reduced f_reduced (PySem.W.fnOf "reduced" "Rules.reduced" (C8.fnArgs s_reduced) (C8.fnBody s_reduced) (C8.fnScope s_reduced) .none kV_reduced dc_reduced pm_reduced an_reduced cd_reduced ct_reduced) := ⟨oc_reduced, od_reduced, .none, kV_reduced, dc_reduced, pm_reduced, an_reduced, cd_reduced, ct_reduced, sl_reduced, rfl, l_reduced, c_reduced⟩
  have me_reduced : Meth K C_Rules "reduced" f_reduced := ⟨a_reduced, i_reduced, k_reduced⟩
  have b_reduced := U_reduced.binds rfl (ps := ["self", "row"]) fun _ _ _ _ _ _ us hl => match us, hl with | [_, _], _ => rfl
  have U_steps : C8.Fun K "steps_down" "Rules.steps_down" s_steps f_steps (PySem.W.fnOf "steps_down" "Rules.steps_down" (C8.fnArgs s_steps) (C8.fnBody s_steps) (C8.fnScope s_steps) .none kV_steps dc_steps pm_steps an_steps cd_steps ct_steps) := ⟨oc_steps, od_steps, .none, kV_steps, dc_steps, pm_steps, an_steps, cd_steps, ct_steps, sl_steps, rfl, l_steps, c_steps⟩
  have me_steps : Meth K C_Rules "steps_down" f_steps := ⟨a_steps, i_steps, k_steps⟩
  have b_steps := U_steps.binds rfl (ps := ["self", "row"]) fun _ _ _ _ _ _ us hl => match us, hl with | [_, _], _ => rfl
  have U_least : C8.Fun K "_least_move" "_least_move" s_least f_least (PySem.W.fnOf "_least_move" "_least_move" (C8.fnArgs s_least) (C8.fnBody s_least) (C8.fnScope s_least) .none kV_least dc_least pm_least an_least cd_least ct_least) := ⟨oc_least, od_least, .none, kV_least, dc_least, pm_least, an_least, cd_least, ct_least, sl_least, rfl, l_least, c_least⟩
  have F_least : C8.Def K mg "_least_move" s_least f_least _ := ⟨U_least, PySem.W.mg_of X G a_least, k_least⟩
  have b_least := U_least.binds rfl (ps := ["rules", "row", "begin"]) fun _ _ _ _ _ _ us hl => match us, hl with | [_, _, _], _ => rfl
  have U_ispairs : C8.Fun K "_is_pairs" "_is_pairs" s_ispairs f_ispairs (PySem.W.fnOf "_is_pairs" "_is_pairs" (C8.fnArgs s_ispairs) (C8.fnBody s_ispairs) (C8.fnScope s_ispairs) .none kV_ispairs dc_ispairs pm_ispairs an_ispairs cd_ispairs ct_ispairs) := ⟨oc_ispairs, od_ispairs, .none, kV_ispairs, dc_ispairs, pm_ispairs, an_ispairs, cd_ispairs, ct_ispairs, sl_ispairs, rfl, l_ispairs, c_ispairs⟩
  have F_ispairs : C8.Def K mg "_is_pairs" s_ispairs f_ispairs _ := ⟨U_ispairs, PySem.W.mg_of X G a_ispairs, k_ispairs⟩
  have b_ispairs := U_ispairs.binds rfl (ps := ["value", "signs"]) fun _ _ _ _ _ _ us hl => match us, hl with | [_, _], _ => rfl
  have U_ispair : C8.Fun K "_is_pair" "_is_pair" s_ispair f_ispair (PySem.W.fnOf "_is_pair" "_is_pair" (C8.fnArgs s_ispair) (C8.fnBody s_ispair) (C8.fnScope s_ispair) .none kV_ispair dc_ispair pm_ispair an_ispair cd_ispair ct_ispair) := ⟨oc_ispair, od_ispair, .none, kV_ispair, dc_ispair, pm_ispair, an_ispair, cd_ispair, ct_ispair, sl_ispair, rfl, l_ispair, c_ispair⟩
  have F_ispair : C8.Def K mg "_is_pair" s_ispair f_ispair _ := ⟨U_ispair, PySem.W.mg_of X G a_ispair, k_ispair⟩
  have b_ispair := U_ispair.binds rfl (ps := ["value", "signs"]) fun _ _ _ _ _ _ us hl => match us, hl with | [_, _], _ => rfl
  have U_wt : C8.Fun K "walked_table" "walked_table" s_wt f_wt (PySem.W.fnOf "walked_table" "walked_table" (C8.fnArgs s_wt) (C8.fnBody s_wt) (C8.fnScope s_wt) .none kV_wt dc_wt pm_wt an_wt cd_wt ct_wt) := ⟨oc_wt, od_wt, .none, kV_wt, dc_wt, pm_wt, an_wt, cd_wt, ct_wt, sl_wt, rfl, l_wt, c_wt⟩
  have F_wt : C8.Def K mg "walked_table" s_wt f_wt _ := ⟨U_wt, PySem.W.mg_of X G a_wt, k_wt⟩
  have b_wt := U_wt.binds rfl (ps := ["signs", "begin", "lead"]) fun _ _ _ _ _ _ us hl => match us, hl with | [_, _, _], _ => rfl
  have U_ahead : C8.Fun K "_ways_ahead" "_ways_ahead" s_ahead f_ahead (PySem.W.fnOf "_ways_ahead" "_ways_ahead" (C8.fnArgs s_ahead) (C8.fnBody s_ahead) (C8.fnScope s_ahead) .none kV_ahead dc_ahead pm_ahead an_ahead cd_ahead ct_ahead) := ⟨oc_ahead, od_ahead, .none, kV_ahead, dc_ahead, pm_ahead, an_ahead, cd_ahead, ct_ahead, sl_ahead, rfl, l_ahead, c_ahead⟩
  have F_ahead : C8.Def K mg "_ways_ahead" s_ahead f_ahead _ := ⟨U_ahead, PySem.W.mg_of X G a_ahead, k_ahead⟩
  have b_ahead := U_ahead.binds rfl (ps := ["table", "ways"]) fun _ _ _ _ _ _ us hl => match us, hl with | [_, _], _ => rfl
  have U_ways : C8.Fun K "ways_by_length" "ways_by_length" s_ways f_ways (PySem.W.fnOf "ways_by_length" "ways_by_length" (C8.fnArgs s_ways) (C8.fnBody s_ways) (C8.fnScope s_ways) .none kV_ways dc_ways pm_ways an_ways cd_ways ct_ways) := ⟨oc_ways, od_ways, .none, kV_ways, dc_ways, pm_ways, an_ways, cd_ways, ct_ways, sl_ways, rfl, l_ways, c_ways⟩
  have F_ways : C8.Def K mg "ways_by_length" s_ways f_ways _ := ⟨U_ways, PySem.W.mg_of X G a_ways, k_ways⟩
  have b_ways := U_ways.binds rfl (ps := ["table", "flags", "length"]) fun _ _ _ _ _ _ us hl => match us, hl with | [_, _, _], _ => rfl
  have U_lfrom : C8.Fun K "longest_from" "longest_from" s_lfrom f_lfrom (PySem.W.fnOf "longest_from" "longest_from" (C8.fnArgs s_lfrom) (C8.fnBody s_lfrom) (C8.fnScope s_lfrom) .none kV_lfrom dc_lfrom pm_lfrom an_lfrom cd_lfrom ct_lfrom) := ⟨oc_lfrom, od_lfrom, .none, kV_lfrom, dc_lfrom, pm_lfrom, an_lfrom, cd_lfrom, ct_lfrom, sl_lfrom, rfl, l_lfrom, c_lfrom⟩
  have F_lfrom : C8.Def K mg "longest_from" s_lfrom f_lfrom _ := ⟨U_lfrom, PySem.W.mg_of X G a_lfrom, k_lfrom⟩
  have b_lfrom := U_lfrom.binds rfl (ps := ["table", "first", "flags"]) fun _ _ _ _ _ _ us hl => match us, hl with | [_, _, _], _ => rfl
  have U_ptab : C8.Fun K "_plain_table" "_plain_table" s_ptab f_ptab (PySem.W.fnOf "_plain_table" "_plain_table" (C8.fnArgs s_ptab) (C8.fnBody s_ptab) (C8.fnScope s_ptab) .none kV_ptab dc_ptab pm_ptab an_ptab (.ref cc_ptab) ct_ptab) := ⟨oc_ptab, od_ptab, .none, kV_ptab, dc_ptab, pm_ptab, an_ptab, (.ref cc_ptab), ct_ptab, sl_ptab, rfl, l_ptab, c_ptab⟩
  have F_ptab : C8.Def K mg "_plain_table" s_ptab f_ptab _ := ⟨U_ptab, PySem.W.mg_of X G a_ptab, k_ptab⟩
  have b_ptab := U_ptab.binds rfl (ps := ["rules"]) fun _ _ _ _ _ _ us hl => match us, hl with | [_], _ => rfl
  have U_many : C8.Fun K "many_plain" "many_plain" s_many f_many (PySem.W.fnOf "many_plain" "many_plain" (C8.fnArgs s_many) (C8.fnBody s_many) (C8.fnScope s_many) .none kV_many dc_many pm_many an_many cd_many ct_many) := ⟨oc_many, od_many, .none, kV_many, dc_many, pm_many, an_many, cd_many, ct_many, sl_many, rfl, l_many, c_many⟩
  have F_many : C8.Def K mg "many_plain" s_many f_many _ := ⟨U_many, PySem.W.mg_of X G a_many, k_many⟩
  have b_many := U_many.binds rfl (ps := ["rules", "long"]) fun _ _ _ _ _ _ us hl => match us, hl with | [_, _], _ => rfl
  have U_prows : C8.Fun K "plain_rows" "plain_rows" s_prows f_prows (PySem.W.fnOf "plain_rows" "plain_rows" (C8.fnArgs s_prows) (C8.fnBody s_prows) (C8.fnScope s_prows) .none kV_prows dc_prows pm_prows an_prows cd_prows ct_prows) := ⟨oc_prows, od_prows, .none, kV_prows, dc_prows, pm_prows, an_prows, cd_prows, ct_prows, sl_prows, rfl, l_prows, c_prows⟩
  have F_prows : C8.Def K mg "plain_rows" s_prows f_prows _ := ⟨U_prows, PySem.W.mg_of X G a_prows, k_prows⟩
  have b_prows := U_prows.binds rfl (ps := ["rules"]) fun _ _ _ _ _ _ us hl => match us, hl with | [_], _ => rfl
  have U_law : C8.Fun K "law" "law" s_law fa (PySem.W.fnOf "law" "law" (C8.fnArgs s_law) (C8.fnBody s_law) (C8.fnScope s_law) .none kV_law dc_law pm_law an_law cd_law ct_law) := ⟨oc_law, od_law, .none, kV_law, dc_law, pm_law, an_law, cd_law, ct_law, sl_law, rfl, l_law, c_law⟩
  have F_law : C8.Def K mg "law" s_law fa _ := ⟨U_law, PySem.W.mg_of X G a_law, k_law⟩
  have b_law := U_law.binds rfl (ps := ["script"]) fun _ _ _ _ _ _ us hl => match us, hl with | [_], _ => rfl
  have Cl_Rules : Cls K C_Rules := ⟨pg_Rules, hd_Rules, po_Rules, sa_Rules⟩
  have mg_Rules := PySem.W.mg_of X G g_Rules
  have M_Rules : Mk K C_Rules f_init := ⟨mk_Rules, a_init, i_init, kc_Rules⟩
  have tt_ptab : PySem.W.tabIn K "_plain_table" = some (cc_ptab, PP_ptab) := by simp only [PySem.W.tabIn, a_ptab, l_ptab, PySem.W.fnOf, lc_ptab, pv_ptab]
  obtain ⟨er_ptab, hr_ptab⟩ := tr_ptab
  refine ⟨PySem.W.fnOf "law" "law" (C8.fnArgs s_law) (C8.fnBody s_law) (C8.fnScope s_law) .none kV_law dc_law pm_law an_law cd_law ct_law, [(cc_ptab, PP_ptab)], fun p hp => ?_, fun s v => .of_eq rfl, fun base hKb hNb hTB => ?_⟩
  · rw [List.mem_singleton.mp hp]; exact ⟨⟨_, _, tt_ptab, hr_ptab⟩, tn_ptab⟩
  have TB_ptab : LamX.TabB base mg cc_ptab PP_ptab := hTB (cc_ptab, PP_ptab) (by simp)
  have CH : CC K C_Rules := ⟨Cl_Rules, n_Rules_signs, n_Rules_pairs⟩
  have c_take := ok_take (P := l.prog) (w := w) (base := base) T F_take b_take
  have c_pick := ok_pick T c_take F_pick b_pick
  have c_signs := ok_signs T c_pick F_signs b_signs
  have c_row := ok_row T c_take c_pick F_row b_row
  have c_box := ok_box (P := l.prog) (w := w) (base := base) T F_box b_box
  have c_isseq := ok_isseqD (P := l.prog) (w := w) (base := base) T F_isseq b_isseq
  have c_isrow := ok_isrowD (P := l.prog) (w := w) (base := base) T F_isrow b_isrow
  have c_isletters := ok_islettersD T mg_az c_isrow F_isletters b_isletters
  have c_issigns := ok_issignsD T c_isletters F_issigns b_issigns
  have x_IR : XQ K mg "InvalidRules" C_InvalidRules := ⟨xc_InvalidRules, PySem.W.mg_of X G xg_InvalidRules⟩
  have c_IR := ok_xir (P := l.prog) (w := w) (base := base) x_IR xf_InvalidRules a_xir (beq_iff_eq.mp i_xir) U_xir b_xir
  have c_tupof := ok_tupof (P := l.prog) (w := w) (base := base) T F_tupof b_tupof
  have c_order := ok_order (P := l.prog) (w := w) (base := base) T F_order b_order
  have c_ispair := ok_ispair T c_tupof c_isrow c_order F_ispair b_ispair
  have c_ispairs := ok_ispairs T c_isseq c_ispair F_ispairs b_ispairs
  have c_Rules := ok_makeR T CH c_IR c_issigns c_ispairs M_Rules mg_Rules U_init b_init
  have c_after := ok_after (P := l.prog) (w := w) (base := base) T CH me_after U_after b_after
  have c_least := ok_least (P := l.prog) (w := w) (base := base) T CH F_least b_least
  have c_steps := ok_steps T CH c_after c_least me_steps U_steps b_steps
  have c_reduced := ok_reduced T CH c_steps me_reduced U_reduced b_reduced
  have c_rank := ok_rank (P := l.prog) (w := w) (base := base) T F_rank b_rank
  have c_lmoves := ok_lmoves (P := l.prog) (w := w) (base := base) T F_lmoves b_lmoves
  have c_pairs := ok_pairs T c_row c_pick c_rank F_pairs b_pairs
  have c_few := ok_few T c_take c_pick c_rank F_few b_few
  have c_both := ok_both (P := l.prog) (w := w) (base := base) T F_both b_both
  have c_lrows := ok_lrows T c_both F_lrows b_lrows
  have c_ahead := ok_ahead (P := l.prog) (w := w) (base := base) T F_ahead b_ahead
  have c_ways := ok_ways T c_ahead F_ways b_ways
  have c_lfrom := ok_lfrom (P := l.prog) (w := w) (base := base) T F_lfrom b_lfrom
  have up := fun cl ws sp base' => up_plain (P := l.prog) (w := w) T CH F_wt b_wt cl ws sp base'
  have c_ptab := ok_ptab (TT := ttOf [(cc_ptab, PP_ptab)]) T CH TB_ptab (List.mem_singleton.mpr rfl) rfl (fun p hp _ => by rw [List.mem_singleton.mp hp]) F_wt up F_ptab rfl b_ptab
  have c_many : Cal l.prog w K mg base 4 "many_plain" (spMany K C_Rules (ttOf [(cc_ptab, PP_ptab)])) [] := ⟨⟨f_many, _, _, [], fn_many T c_ptab c_ways F_many, F_many.mgf, F_many.kp, b_many, .nil⟩⟩
  have ck_many : CalK l.prog w K mg base 4 "many_plain" ["long", "rules"] revV (spMany K C_Rules (ttOf [(cc_ptab, PP_ptab)])) := ⟨⟨f_many, _, _, revL, fn_many T c_ptab c_ways F_many, F_many.mgf, F_many.kp, ⟨fun s us ws X l1 l2 => match us, ws, l1, l2 with | [], [_, _], _, _ => .of_eq rfl, fun r1 r2 => rev_rel r1 r2⟩⟩⟩
  have c_prows : Cal l.prog w K mg base 4 "plain_rows" (spRows K C_Rules (ttOf [(cc_ptab, PP_ptab)])) [] := ⟨⟨f_prows, _, _, [], fn_rows T CH c_ptab c_lfrom F_prows, F_prows.mgf, F_prows.kp, b_prows, .nil⟩⟩
  have ck_prows : CalK l.prog w K mg base 4 "plain_rows" ["rules"] revV (spRows K C_Rules (ttOf [(cc_ptab, PP_ptab)])) := ⟨⟨f_prows, _, _, revL, fn_rows T CH c_ptab c_lfrom F_prows, F_prows.mgf, F_prows.kp, ⟨fun s us ws X l1 l2 => match us, ws, l1, l2 with | [], [_], _, _ => .of_eq rfl, fun r1 r2 => rev_rel r1 r2⟩⟩⟩
  have c_twelve := ok_twelve T CH c_Rules c_reduced c_many c_prows F_twelve b_twelve
  exact ok_law T CH c_box c_take c_signs c_pairs c_few c_lrows c_lmoves c_Rules c_many c_prows ck_many ck_prows c_twelve F_rank.mgf (fn_rank2 T F_rank) b_rank F_law
theorem walk {l : PySem.W.OpenLaw} {q : Program} {loose : List Str} {XP : (Str → Option Value) → Heap → Prop} {YP : World → Heap → Prop} {d : DefRec} {K : Params → PySem.W.Frag} (hn : l.most = some 63) (hdf : d.params.defaults = [])
    (hY : ∀ (w : World) (h : Heap), YP w h → (K w.params).In h)
    (F : ∀ (w : World) (mg : Str → Option Value) (fa : Addr) (h : Heap), (K w.params).In h → h.Ns mainGlobals mg → mg d.name = some (.ref fa) →
      ∃ (fd : FuncData) (tt : List (Addr × Addr)), (∀ p ∈ tt, (∃ (nm : Str) (e : DefRec), PySem.W.tabIn (K w.params) nm = some p ∧ (PyProof.Rows.recsOf q).find? (fun e => e.name == nm) = some e) ∧ (K w.params).lookup p.2 = none) ∧ (∀ (s : Shared) (u : Value), BindsTo s fd ⟨[u], []⟩ [("script", u)]) ∧ ∀ base : Heap, (K w.params).In base → base.Ns mainGlobals mg → (∀ p ∈ tt, LamX.TabB base mg p.1 p.2) → FnG l.prog w (K w.params) mg base 8 fa fd ["script"] (spLaw (ttOf tt) (K w.params))) :
    PySem.W.WalkO q loose XP YP l.row.toRowW d [] (fun f vs => PySem.call f vs) :=
  walkGT (n := 63) (k := 8) (x := "script") (sp := fun K tt => spLaw (ttOf tt) K) hn (by decide) hdf ⟨rfl, by decide, by decide⟩ hY F fun K tt H a ns hl ht hS => ⟨a, ns, rfl, hS, hl, fun p hp => by
    obtain ⟨e, he, rfl⟩ := List.mem_map.mp hp
    exact NdefX.TabN.nil (ht e he), fun _ => rfl⟩
end Toy
open PySem PySem.W PyProof.Rows in
set_option maxRecDepth 100000 in
set_option maxHeartbeats 0 in
theorem PySem.Challenge.cw_allrows_k62_plain_rows_counted_holds : PySem.Challenge.rw_allrows_k62_plain_rows_counted.Holds := by
  w_on; o_law; k_head; (case hw => w_witness2)
  k_fill
  refine Toy.walk (l := PySem.Challenge.rw_allrows_k62_plain_rows_counted) rfl rfl (fun w h Y => Y.1) ?F
  case F =>
    intro w mg fa h KX G hmg
    refine' Toy.all_mk KX G hmg ?tr_ptab ?q_az ?g_Rules ?pg_Rules ?hd_Rules ?po_Rules ?sa_Rules ?kc_Rules ?n_Rules_signs ?n_Rules_pairs ?mk_Rules ?xg_InvalidRules ?xc_InvalidRules ?xf_InvalidRules ?a_box ?l_box ?c_box ?k_box ?a_take ?l_take ?c_take ?k_take ?a_pick ?l_pick ?c_pick ?k_pick ?a_both ?l_both ?c_both ?k_both ?a_rank ?l_rank ?c_rank ?k_rank ?a_signs ?l_signs ?c_signs ?k_signs ?a_row ?l_row ?c_row ?k_row ?a_lrows ?l_lrows ?c_lrows ?k_lrows ?a_pairs ?l_pairs ?c_pairs ?k_pairs ?a_lmoves ?l_lmoves ?c_lmoves ?k_lmoves ?a_few ?l_few ?c_few ?k_few ?a_twelve ?l_twelve ?c_twelve ?k_twelve ?a_isseq ?l_isseq ?c_isseq ?k_isseq ?a_tupof ?l_tupof ?c_tupof ?k_tupof ?a_isletters ?l_isletters ?c_isletters ?k_isletters ?a_issigns ?l_issigns ?c_issigns ?k_issigns ?a_isrow ?l_isrow ?c_isrow ?k_isrow ?a_order ?l_order ?c_order ?k_order ?a_xir ?i_xir ?l_xir ?c_xir ?k_xir ?a_init ?i_init ?l_init ?c_init ?k_init ?a_after ?i_after ?l_after ?c_after ?k_after ?a_reduced ?i_reduced ?l_reduced ?c_reduced ?k_reduced ?a_steps ?i_steps ?l_steps ?c_steps ?k_steps ?a_least ?l_least ?c_least ?k_least ?a_ispairs ?l_ispairs ?c_ispairs ?k_ispairs ?a_ispair ?l_ispair ?c_ispair ?k_ispair ?a_wt ?l_wt ?c_wt ?k_wt ?a_ahead ?l_ahead ?c_ahead ?k_ahead ?a_ways ?l_ways ?c_ways ?k_ways ?a_lfrom ?l_lfrom ?c_lfrom ?k_lfrom ?a_ptab ?l_ptab ?lc_ptab ?pv_ptab ?tn_ptab ?c_ptab ?k_ptab ?a_many ?l_many ?c_many ?k_many ?a_prows ?l_prows ?c_prows ?k_prows ?a_law ?l_law ?c_law ?k_law ?z_int ?z_len ?z_abs ?z_str ?z_list ?z_tuple ?z_isinstance ?z_all ?z_any ?z_zip ?z_range ?z_max ?z_min ?z_enumerate ?z_sorted ?z_set ?z_sum
    (case tr_ptab => exact ⟨_, rfl⟩)
    (case q_az => k_is)
    (case g_Rules => k_is)
    (case pg_Rules => k_is)
    (case hd_Rules => k_is)
    (case po_Rules => k_is)
    (case sa_Rules => k_is)
    (case kc_Rules => k_is)
    (case n_Rules_signs => k_is)
    (case n_Rules_pairs => k_is)
    (case mk_Rules => k_is)
    (case xg_InvalidRules => k_is)
    (case xc_InvalidRules => exact LX.XC.ve (by show PySem.W.excInitIn _ _ [.type "ValueError", .type "Exception", .type "BaseException", .type "object"] "ValueError.__new__" = true; kx_is) (by k_is) (by k_is) (by k_is) (by k_is) (by k_is) (by k_is) (by k_is) (by k_is) (by k_is) (by k_is) (by k_is))
    (case xf_InvalidRules => k_is)
    (case a_box => k_is)
    (case l_box => k_is)
    (case c_box => k_is)
    (case k_box => k_is)
    (case a_take => k_is)
    (case l_take => k_is)
    (case c_take => k_is)
    (case k_take => k_is)
    (case a_pick => k_is)
    (case l_pick => k_is)
    (case c_pick => k_is)
    (case k_pick => k_is)
    (case a_both => k_is)
    (case l_both => k_is)
    (case c_both => k_is)
    (case k_both => k_is)
    (case a_rank => k_is)
    (case l_rank => k_is)
    (case c_rank => k_is)
    (case k_rank => k_is)
    (case a_signs => k_is)
    (case l_signs => k_is)
    (case c_signs => k_is)
    (case k_signs => k_is)
    (case a_row => k_is)
    (case l_row => k_is)
    (case c_row => k_is)
    (case k_row => k_is)
    (case a_lrows => k_is)
    (case l_lrows => k_is)
    (case c_lrows => k_is)
    (case k_lrows => k_is)
    (case a_pairs => k_is)
    (case l_pairs => k_is)
    (case c_pairs => k_is)
    (case k_pairs => k_is)
    (case a_lmoves => k_is)
    (case l_lmoves => k_is)
    (case c_lmoves => k_is)
    (case k_lmoves => k_is)
    (case a_few => k_is)
    (case l_few => k_is)
    (case c_few => k_is)
    (case k_few => k_is)
    (case a_twelve => k_is)
    (case l_twelve => k_is)
    (case c_twelve => k_is)
    (case k_twelve => k_is)
    (case a_isseq => k_is)
    (case l_isseq => k_is)
    (case c_isseq => k_is)
    (case k_isseq => k_is)
    (case a_tupof => k_is)
    (case l_tupof => k_is)
    (case c_tupof => k_is)
    (case k_tupof => k_is)
    (case a_isletters => k_is)
    (case l_isletters => k_is)
    (case c_isletters => k_is)
    (case k_isletters => k_is)
    (case a_issigns => k_is)
    (case l_issigns => k_is)
    (case c_issigns => k_is)
    (case k_issigns => k_is)
    (case a_isrow => k_is)
    (case l_isrow => k_is)
    (case c_isrow => k_is)
    (case k_isrow => k_is)
    (case a_order => k_is)
    (case l_order => k_is)
    (case c_order => k_is)
    (case k_order => k_is)
    (case a_xir => k_is)
    (case i_xir => k_is)
    (case l_xir => k_is)
    (case c_xir => k_is)
    (case k_xir => k_is)
    (case a_init => k_is)
    (case i_init => k_is)
    (case l_init => k_is)
    (case c_init => k_is)
    (case k_init => k_is)
    (case a_after => k_is)
    (case i_after => k_is)
    (case l_after => k_is)
    (case c_after => k_is)
    (case k_after => k_is)
    (case a_reduced => k_is)
    (case i_reduced => k_is)
    (case l_reduced => k_is)
    (case c_reduced => k_is)
    (case k_reduced => k_is)
    (case a_steps => k_is)
    (case i_steps => k_is)
    (case l_steps => k_is)
    (case c_steps => k_is)
    (case k_steps => k_is)
    (case a_least => k_is)
    (case l_least => k_is)
    (case c_least => k_is)
    (case k_least => k_is)
    (case a_ispairs => k_is)
    (case l_ispairs => k_is)
    (case c_ispairs => k_is)
    (case k_ispairs => k_is)
    (case a_ispair => k_is)
    (case l_ispair => k_is)
    (case c_ispair => k_is)
    (case k_ispair => k_is)
    (case a_wt => k_is)
    (case l_wt => k_is)
    (case c_wt => k_is)
    (case k_wt => k_is)
    (case a_ahead => k_is)
    (case l_ahead => k_is)
    (case c_ahead => k_is)
    (case k_ahead => k_is)
    (case a_ways => k_is)
    (case l_ways => k_is)
    (case c_ways => k_is)
    (case k_ways => k_is)
    (case a_lfrom => k_is)
    (case l_lfrom => k_is)
    (case c_lfrom => k_is)
    (case k_lfrom => k_is)
    (case a_ptab => k_is)
    (case l_ptab => k_is)
    (case lc_ptab => k_is)
    (case pv_ptab => rfl)
    (case tn_ptab => kernel_rfl)
    (case c_ptab => k_is)
    (case k_ptab => k_is)
    (case a_many => k_is)
    (case l_many => k_is)
    (case c_many => k_is)
    (case k_many => k_is)
    (case a_prows => k_is)
    (case l_prows => k_is)
    (case c_prows => k_is)
    (case k_prows => k_is)
    (case a_law => k_is)
    (case l_law => k_is)
    (case c_law => k_is)
    (case k_law => k_is)
    (case z_int => k_is)
    (case z_len => k_is)
    (case z_abs => k_is)
    (case z_str => k_is)
    (case z_list => k_is)
    (case z_tuple => k_is)
    (case z_isinstance => k_is)
    (case z_all => k_is)
    (case z_any => k_is)
    (case z_zip => k_is)
    (case z_range => k_is)
    (case z_max => k_is)
    (case z_min => k_is)
    (case z_enumerate => k_is)
    (case z_sorted => k_is)
    (case z_set => k_is)
    (case z_sum => k_is)
