import PyProof.Rows.All
import Wide.All
import OpenK.AllK
import Wide.FinOn
import Lean
import PyProof.EqAt
import PyProof.EqKinds
import PyProof.TupleCall
import PyProof.AttrMissHeap
import PySem.Challenge.RW_sealchain_k46_whole_known_then_and_now
set_option Elab.async false
set_option linter.all false
set_option maxRecDepth 100000
set_option bootstrap.genMatcherCode false
set_option compiler.extract_closed false
set_option backward.eqns.nonrecursive false
set_option genSizeOf false
set_option genInjectivity false
set_option maxHeartbeats 40000000
namespace Lake
def rr {α:Sort _}{a:α}:a=a:=rfl
def N9 {p:Prop}(h:p:=by lia):p:=h
def H9 {p:Prop}(h:p:=by simp):p:=h
def P9 {p:Prop}(h:p:=by decide):p:=h
def O9 {p:Prop}(h:p:=by decide +kernel):p:=h
def I9 {p:Prop}(h:p:=by rfl):p:=h
def s9 {p:Prop}(h:p:=by simp;lia):p:=h
def u9 {p:Prop}(h:p:=by simp[sizeLine]):p:=h
def w9 {p:Prop}(h:p:=by kernel_rfl):p:=h
def q9 {p:Prop}(h:p:=by size_fits):p:=h
def mY {α:Type _}{a:α}(l:List α){k:List α}(h:a∈k):a∈l++k:=List.mem_append_right l h
def mZ {α:Type _}(b:α){a:α}{l:List α}(h:a∈l):a∈b::l:=List.mem_cons_of_mem b h
theorem mX {α:Type _}{a:α}{l:List α}:a∈a::l:=List.mem_cons_self
def cX {p:Prop}(h:∀q:Prop,(p->q)->q):p:=h p id
def oX {α M:Type _}{o:Option α}{f:α->Option M}{b:M}(h:o.bind f=some b):∃a,o=some a/\f a=some b:=Option.bind_eq_some_iff.mp h
def oY {α M:Type _}{f:α->M}{o:Option α}{b:M}(h:o.map f=some b):∃a,o=some a/\f a=b:=Option.map_eq_some_iff.mp h
def wX:=@PySem.wpAny_bind
def wY:=@PySem.wpAny_pure
def vZ:=@PySem.Heap.get?_push_of_some
def vY:=@PySem.Heap.get?_push_size
def vX:=@PySem.Heap.lt_size
def vW:=@PySem.Heap.SameBut.update
def vV {α:Type _}{l:List α}{i:Nat}{a:α}(h:l[i]? = some a):∃h:i<l.length,l[i]=a:=List.getElem?_eq_some_iff.mp h
def vU {α:Type _}{l:List α}{i:Nat}(h:i<l.length):l[i]? = some l[i]:=List.getElem?_eq_getElem h
def vT (n:Nat):n<=n:=Nat.le_refl n
def vS {a b:Nat}(h:a<b):a≠b:=Nat.ne_of_lt h
def vR {n m k:Nat}:n<=m->m<=k->n<=k:=Nat.le_trans
def vQ {n m k:Nat}:n<m->m<=k->n<k:=Nat.lt_of_lt_of_le
def vP {α:Type _}{a b:α}{l:List α}(h:b∈a::l):b=a\/b∈l:=List.mem_cons.mp h
def vO {α M:Type _}{b:M}{f:α->M}{l:List α}(h:b∈l.map f):∃a,a∈l/\f a=b:=List.mem_map.mp h
def eX {α M:Type _}{o:Option α}{f:α->Option M}{b:M}{G:Prop}(h:o.bind f=some b)(k:∀a,o=some a->f a=some b->G):G:=(oX h).elim λa x=>k a x.1 x.2
def eB {α M:Type _}{f:α->M}{o:Option α}{b:M}{G:Prop}(h:o.map f=some b)(k:∀a,o=some a->f a=b->G):G:=(oY h).elim λa x=>k a x.1 x.2
def vN {α:Type _}{a:α}{p:α->Bool}{l:List α}(h:a∈l.filter p):a∈l/\p a=true:=List.mem_filter.mp h
def vM {α:Type _}(p:α->Bool)(l:List α):(l.filter p).length<=l.length:=List.length_filter_le p l
def vL {α:Type _}{l:List α}{i:Nat}{a:α}(h:l[i]? = some a):a∈l:=List.mem_of_getElem? h
def vK {α:Type _}{a b:α}(h:some a=some b):a=b:=Option.some.inj h
def vJ {α M:Type _}(a:α)(f:α->Option M):(some a).bind f=f a:=rfl
def vI {α M:Type _}{as:List α}(f:α->M):(as.map f).length=as.length:=List.length_map f
def vH {α:Type _}{l:List α}:l.toArray.size=l.length:=rfl
def vG {α:Type _}{xs:Array α}:xs.toList.length=xs.size:=rfl
def vF {α:Type _}{l:List α}{i:Nat}{a:α}:l.getD i a=l[i]?.getD a:=List.getD_eq_getElem?_getD
def vE {α:Type _}{a:α}{as:List α}:(a::as).length=as.length+1:=rfl
def vC (a b:Bool):((a && b)=true)=(a=true/\b=true):=Bool.and_eq_true a b
def vB {α:Type _}{i j:Nat}{a:α}{l:List α}(h:i≠j):(l.set i a)[j]? = l[j]?:=List.getElem?_set_ne h
def vA {α M:Type _}{f:α->M}{l:List α}{i:Nat}:(l.map f)[i]? = Option.map f l[i]?:=List.getElem?_map
def uZ {α:Type _}{as bs:List α}:(as++bs).length=as.length+bs.length:=List.length_append
def uY {α M:Type _}{f:α->M}{a:α}{l:List α}:(a::l).map f=f a::l.map f:=rfl
def uX:false≠true:=Bool.false_ne_true
def uW {α O:Type _}{f:α->O}{l M:List α}:(l++M).map f=l.map f++M.map f:=List.map_append
def uV:(false=true)=False:=Bool.false_eq_true
def uU {α:Type _}{x:Option α}(h:x.isSome=true):∃a,x=some a:=Option.isSome_iff_exists.mp h
def uT {α:Type _}{a b:α}(h:a∈[b]):a=b:=List.mem_singleton.mp h
def uS {α M:Type _}{b:M}{f:α->M}{l:List α}(h:∃a,a∈l/\f a=b):b∈l.map f:=List.mem_map.mpr h
def uQ {α:Type _}(as:List α):as++[]=as:=List.append_nil as
def uP {α M O:Type _}{g:M->O}{f:α->M}{l:List α}:(l.map f).map g=l.map (g ∘ f):=List.map_map
def uN (n:Nat):0<=n:=Nat.zero_le n
def yc {p:Prop}[Decidable p](h:p):decide p=true:=decide_eq_true h
def ye {p:Prop}[Decidable p](h:¬p):decide p=false:=decide_eq_false h
def ET {p:Prop}[Decidable p](h:decide p=true):p:=of_decide_eq_true h
noncomputable section
abbrev _root_.PySem.Shared.z (s:PySem.Shared):=s.heap.objs.size
open PySem.W (Frag kia_one fnOf nsIn mg_of)
open List (mem_append mem_append_left getElem?_set_self mem_filterMap nodup_cons of_mem_zip getElem?_append_right getElem?_append_left take_sublist length_take length_drop length_set all_cons any_cons nodup_nil lookup_cons length_replicate append_assoc not_mem_nil length_range getElem_range all_eq_true mem_singleton find?_cons getElem_mem nodup_append take_add_one mem_range getElem?_eq_none ext_getElem? not_lt pairwise_cons lt_irrefl lt_trans nil_perm cons_lt_cons_iff cons_append mem_iff_getElem? getElem?_zip_eq_some length_zip zip_cons_cons foldl_cons take_length length_singleton length_zipIdx zip_map' mem_zipIdx_iff_getElem? filter_sublist pairwise_map mem_of_mem_take mem_filter flatMap_cons map_id mem_cons length_nil filter_map filter_congr map_drop forall_mem_cons)
open Nat (le_of_lt ne_of_gt le_succ_of_le le_succ le_of_eq lt_of_le_of_lt lt_succ_of_lt zero_add sub_self)
open PySem.F (slot_tuple_add entry_tuple_add args_tuple_add_2 slot_dict_get entry_dict_get plainAttrs_dict plainAttrs_list slot_tuple_iterator_next slot_zip_next entry_zip_next args_zip_next_1 called_set slot_set_iter plain_extend_loop slot_tuple_lt slot_tuple_gt slot_list_getattribute)
abbrev QV:=PySem.Value->PySem.Shared->Prop
abbrev AO:=List (PySem.Addr×PySem.Obj)
abbrev SV:=PySem.Str->Option PySem.Value
abbrev LU:=List PySem.Value
abbrev AV:=Array PySem.Value
abbrev LS:=List PySem.Str
abbrev QD:=List PySem.Expr
abbrev LN:=List Nat
abbrev LI:=List Int
abbrev OI:=Option Int
namespace L2
open PySem PySem.Spec PyProof.Rows
abbrev cQ (e:Expr)(es:QD)(v:PySem.Env):Prop:=starEach (e::es) v=(false,eval e v)::starEach es v
abbrev cL (e:Expr)(v:PySem.Env):Prop:=starEach [e] v=[(false,eval e v)]
abbrev j9 (p:Pos)(es:QD)(v:PySem.Env):Prop:=(backTo p (starEach es v)).any (·.1)=false
abbrev bf (x:Str):Prop:=(x == ("__debug__" : Str))=false
abbrev jI (x:Str):Prop:=(x == ("__classdict__" : Str))=false
abbrev ph (p:Pos)(e:Expr)(v:PySem.Env):Prop:=((backTo p (starEach [e] v)).all (λx=>!x.1) && (backToKw p (keywordEach [] v)).all (λx=>x.1.isSome)
  && decide (([e]:QD).length+([]:List Keyword).length+(if([]:List Keyword).isEmpty then 0 else 1)<30))=true
abbrev dA:=Sum Int Str
noncomputable def tS:dA->Value->Bool
 |.inl k,v=>Value.isInt k v
 |.inr x,v=>Value.isStrOf x v
noncomputable def Za (w:World):dA->Int
 |.inl k=>hashInt k
 |.inr x=>hashStr w x
theorem cR:∀ {k:dA}{v:Value},tS k v=true->(∃i t,k=Sum.inl i/\v=Value.int i t)\/(∃x t,k=Sum.inr x/\v=Value.str x t)
 |.inl i,v,h=>by
  obtain⟨t,e⟩:=Value.isInt_shape h;exact .inl ⟨i,t,rr,e⟩
 |.inr x,v,h=>by
  obtain⟨t,e⟩:=Value.isStrOf_shape h;exact .inr ⟨x,t,rr,e⟩
def EV (i:Int)(t:Tok):tS (.inl i) (.int i t)=true:=by simp[tS,Value.isInt]
def EW (x:Str)(t:Tok):tS (.inr x) (.str x t)=true:=by simp[tS,Value.isStrOf]
def PD (a b:Int):decide ((Sum.inl a:dA)=Sum.inl b)=(a == b):=by
 lia
def PF (a b:Str):decide ((Sum.inr a:dA)=Sum.inr b)=decide (a=b):=by
 simp
def PH (a:Int)(b:Str):decide ((Sum.inl a:dA)=Sum.inr b)=false:=I9
def PJ (a:Str)(b:Int):decide ((Sum.inr a:dA)=Sum.inl b)=false:=I9
def cr (prog:Program)(w:World):PySem.KeyKind prog w dA where
 is:=tS
 hash:=Za w
 inj:=λv a b ha hb=>by
  grind[cR]
 byValue:=λk v h=>by
  rcases cR h with⟨i,t,rfl,rfl⟩|⟨x,t,rfl,rfl⟩<;>rfl
 pyHash:=λhv h=>by
  rcases cR hv with⟨i,t,rfl,rfl⟩|⟨x,t,rfl,rfl⟩
  .exact wpAny_pyHash_int h
  .exact wpAny_pyHash_str h
 eqBool:=λhu hv h=>by
  rcases cR hu with⟨i,t,rfl,rfl⟩|⟨x,t,rfl,rfl⟩
  .rcases cR hv with⟨j,u,rfl,rfl⟩|⟨y,u,rfl,rfl⟩
   .rw[PD]at h;exact wpAny_eqBool_int h
   .rw[PH]at h;exact SeqAt.EqAt.int_str i t y u _ _ _ _ h
  .rcases cR hv with⟨j,u,rfl,rfl⟩|⟨y,u,rfl,rfl⟩
   .rw[PJ]at h;exact SeqAt.EqAt.str_int x t j u _ _ _ _ h
   .rw[PF]at h;exact wpAny_eqBool_str h
 «strs»:=λk x t v h=>by
  rcases cR h with⟨i,u,rfl,e⟩|⟨y,u,rfl,e⟩
  .exact nomatch e
  .injection e with M _;subst M;cases v<;>rfl
def yg (prog:Program)(w:World)(i:Int)(t:Tok):(cr prog w).is (.inl i) (.int i t)=true:=EV i t
def yh (prog:Program)(w:World)(x:Str)(t:Tok):(cr prog w).is (.inr x) (.str x t)=true:=EW x t
set_option genInjectivity true in
inductive V where
 |non|bl (b:Bool)|int (i:Int)|str (x:Str)|byt (b:Array UInt8)|flt (b:UInt64)|ref (a:Addr)|ty (n:String)
def aE:V->Value->Prop
 |.non,u=>u=Value.none
 |.bl b,u=>u=Value.bool b
 |.int i,u=>∃t,u=Value.int i t
 |.str x,u=>∃t,u=Value.str x t
 |.byt b,u=>∃t,u=Value.bytes b t
 |.flt b,u=>∃t,u=Value.float b t
 |.ref a,u=>u=Value.ref a
 |.ty n,u=>u=Value.type n
abbrev aL:List V->LU->Prop:=Paired aE
def aL.length (r:aL xs us):xs.length=us.length:=Paired.length r
theorem aL.get:∀ {xs:List V}{us:LU}{i:Nat}{x:V},aL xs us->xs[i]? = some x->∃u,us[i]? = some u/\aE x u
 |_,_,_,_,.nil,e=>by simp at e
 |_,_,0,_,.cons r _,e=>by simp_all
 |_,_,i+1,x,.cons _ t,e=>by
  obtain⟨u,h1,h2⟩:=aL.get t (by simpa using e);simp_all
theorem aL.set (r:aE x u):∀ {xs:List V}{us:LU}(i:Nat),aL xs us->aL (xs.set i x) (us.set i u)
 |_,_,_,.nil=>.nil
 |_,_,0,.cons _ t=>.cons r t
 |_,_,i+1,.cons q t=>.cons q (aL.set r i t)
theorem aL.append:∀ {xs ys:List V}{us ws:LU},aL xs us->aL ys ws->aL (xs++ys) (us++ws)
 |_,_,_,_,.nil,s=>s
 |_,_,_,_,.cons r t,s=>.cons r (aL.append t s)
theorem aL.take:∀ {xs:List V}{us:LU}(n:Nat),aL xs us->aL (xs.take n) (us.take n)
 |_,_,0,_=>.nil
 |_,_,_+1,.nil=>.nil
 |_,_,n+1,.cons r t=>.cons r (aL.take n t)
theorem aL.drop:∀ {xs:List V}{us:LU}(n:Nat),aL xs us->aL (xs.drop n) (us.drop n)
 |_,_,0,r=>r
 |_,_,_+1,.nil=>.nil
 |_,_,n+1,.cons _ t=>aL.drop n t
def pO:Option V->Option Value->Prop
 |some v,some u=>aE v u
 |none,none=>True
 |_,_=>False
def KV {κ:Type}:List (κ×V)->List (κ×Value)->Prop:=Paired λ(p:κ×V) (q:κ×Value)=>p.1=q.1/\aE p.2 q.2
noncomputable def kV:dA->V
 |.inl i=>.int i
 |.inr x=>.str x
set_option genInjectivity true in
inductive HO where
  |lst (xs:List V)
  |tup (xs:List V)
  |dK (aC:List (dA×V)) (ob:Obj)|dT (aC:List (List dA×V))
  |set (S:Int->Bool) (n:Nat)
  |ins (C dx:Addr) (fs:List (Str×V))
  |own (x:Addr)
  |xd (fs:List (Str×V))
  |met (f x:Addr)
  |rng (lo hi:Int)
  |frz (o:Obj) (u:HO)
  |tbl (q:Str)
  |ext (φ:Heap->Prop)
abbrev Hp:=Addr->Option HO
noncomputable def upd (H:Hp)(a:Addr)(o:HO):Hp:=λb=>if b=a then some o else H b
def au:upd H a o a=some o:=by unfold upd;rw[if_pos rr]
theorem a7 (h:b≠a):upd H a o b=H b:=by unfold upd;rw[if_neg h]
def mD:upd (upd H a o) a u=upd H a u:=by
 grind[upd]
def TV {H:Hp}{a b:Addr}{o u:HO}(h:H a=some o)(h':H b=some u)(d:o≠u):a≠b:=by
 lia
def aM {H:Hp}{a b:Addr}{o:HO}(h:H a=some o)(h':H b=none):a≠b:=by
 lia
section
variable (P:Program) (w:World)
def bg (H:Hp)(h:Heap)(a:Addr):HO->Prop
 |.lst xs=>xs.length<=sizeLine/\∃(its:LU)(n:Nat),aL xs its/\h.get? a=some { cls:=.type "list",data:=.seq its.toArray n }
 |.tup xs=>xs.length<=sizeLine/\∃its:LU,aL xs its/\IsTup h a its.toArray
 |.dK aC ob=>h.get? a=some ob/\aC.length<=sizeLine/\(a == sysModules)=false/\∃vs,KV aC vs/\h.DictOf (cr P w) a vs
 |.dT aC=>aC.length<=sizeLine/\(a == sysModules)=false/\∃xs:List (List dA×Addr×Value),
   Paired (λ(p:List dA×V) (q:List dA×Addr×Value)=>p.1=q.1/\H q.2.1=some (.tup (p.1.map kV))/\aE p.2 q.2.2) aC xs /\
   ∃o es U,h.get? a=some o/\o.ExactDict/\o.data=.dict es U/\es.toList=xs.map (entryOfKey (tupleKind (cr P w)))/\(xs.map (·.1)).Nodup
 |.set S n=>h.SetOf (intKind P w) a S n
 |.ins C dx fs=>H dx=some (.own a)/\fs.length<=1000/\dx≠a/\h.get? a=some (PySem.W.instObj C dx) /\
   ∃mA,h.Ns1 dx mA/\(∀f,pO (fs.lookup f) (mA f))/\PySem.Within mA (fs.map (·.1))
 |.own _=>∃o,h.get? a=some o
 |.xd fs=>∃mA,h.Ns1 a mA/\∀f,pO (fs.lookup f) (mA f)
 |.rng lo hi=>∃t u v,h.get? a=some { cls:=.type "range",data:=.fields #[.int lo t,.int hi u,.int 1 v] }
 |.frz o u=>h.get? a=some o/\bg H h a u
 |.tbl q=>∃ps:AV,h.get? a=some { cls:=.none,data:=.fields ps }/\TriplesOk ps.toList/\∀M O,codeAmong M ps.toList=some O->∃(c:Addr)(oc:Obj)(u:HO)(vs:AV)(t:Tok),O=.ref c/\H c=some (.frz oc u)/\oc.data=.fields vs/\vs[1]? = some (.str q t)
 |.met f x=>h.get? a=some (PySem.W.methodObj (.ref f) (.ref x))
 |.ext φ=>φ h/\(∃o,h.get? a=some o)/\∀h1 h2:Heap,φ h1->(∀o,h1.get? a=some o->h2.get? a=some o)->φ h2
def l8 (H:Hp)(h:Heap):Prop:=∀a o,H a=some o->bg P w H h a o
end
section
variable {P:Program}{w:World}{H H':Hp}{h h':Heap}{a:Addr}{o:HO}
def bg.lt (x:bg P w H h a o):a<h.objs.size:=by
 cases o with
 |lst xs=>obtain⟨_,_,_,_,e⟩:=x;exact vX e
 |tup xs=>obtain⟨_,_,_,p⟩:=x;exact p.lt
 |dK aC ob=>exact vX (And.left x)
 |dT aC=>obtain⟨_,_,_,_,o,_,_,e,_⟩:=x;exact vX e
 |set S n=>obtain⟨o,_,_,_,e,_⟩:=x;exact vX e
 |ins C dx fs=>obtain⟨_,_,_,e,_⟩:=x;exact vX e
 |own y=>obtain⟨_,e⟩:=x;exact vX e
 |xd fs=>obtain⟨_,⟨_,_,_,e,_⟩,_⟩:=x;exact vX e
 |rng lo hi=>obtain⟨_,_,_,e⟩:=x;exact vX e
 |frz ob u=>obtain⟨e,_⟩:=x;exact vX e
 |tbl q=>obtain⟨_,e,_⟩:=x;exact vX e
 |met f y=>exact vX (show h.get? a=some _ from x)
 |ext φ=>obtain⟨_,⟨_,e⟩,_⟩:=x;exact vX e
theorem Paired.mapP {α U:Type}{F G:α->U->Prop}:∀ {M:List α}{O:List U},Paired F M O->(∀a b,F a b->G a b)->Paired G M O
 |_,_,.nil,_=>.nil
 |_,_,.cons r t,f=>.cons (f _ _ r) (Paired.mapP t f)
def bg.stay (x:bg P w H h a o)(k:∀b u,(b=a\/H b=some (.own a))->h.get? b=some u->h'.get? b=some u)
  (U:∀b,H b=some (.own a)->H' b=some (.own a)) (i:∀b xs,H b=some (.tup xs)->H' b=some (.tup xs)) (hf:∀b o u,H b=some (.frz o u)->H' b=some (.frz o u)):bg P w H' h' a o:=by
 induction o with
 |lst xs=>obtain⟨z,its,n,r,e⟩:=x;exact⟨z,its,n,r,k _ _ (.inl rr) e⟩
 |tup xs=>obtain⟨z,its,r,ob,e,c⟩:=x;exact⟨z,its,r,ob,k _ _ (.inl rr) e,c⟩
 |dK aC j=>obtain⟨g,z,y,vs,r,ob,es,M,e,c⟩:=x;exact⟨k _ _ (.inl rr) g,z,y,vs,r,ob,es,M,k _ _ (.inl rr) e,c⟩
 |dT aC=>
  refine cX λG K=>?_;obtain⟨z,y,xs,r,ob,es,M,e,c⟩:=x;apply K;exact⟨z,y,xs,Paired.mapP r λp q z=>⟨z.1,i _ _ z.2.1,z.2.2⟩,ob,es,M,k _ _ (.inl rr) e,c⟩
 |set S n=>obtain⟨ob,es,M,t,e,c⟩:=x;exact⟨ob,es,M,t,k _ _ (.inl rr) e,c⟩
 |ins C dx fs=>
  refine cX λG K=>?_;obtain⟨d,z,ne,e,mA,⟨od,es,M,e2,c⟩,r⟩:=x;apply K;exact⟨U _ d,z,ne,k _ _ (.inl rr) e,mA,⟨od,es,M,k _ _ (.inr d) e2,c⟩,r⟩
 |own y=>obtain⟨ob,e⟩:=x;exact⟨ob,k _ _ (.inl rr) e⟩
 |xd fs=>obtain⟨mA,⟨od,es,M,e,c⟩,r⟩:=x;exact⟨mA,⟨od,es,M,k _ _ (.inl rr) e,c⟩,r⟩
 |rng lo hi=>obtain⟨t,u,v,e⟩:=x;exact⟨t,u,v,k _ _ (.inl rr) e⟩
 |frz ob u ih=>obtain⟨e,q⟩:=x;exact⟨k _ _ (.inl rr) e,ih q⟩
 |tbl q=>obtain⟨ps,e,t,c⟩:=x;exact⟨ps,k a _ (.inl rr) e,t,λO l z=>let ⟨d,oc,u,vs,tk,m,s,A⟩:=c O l z;⟨d,oc,u,vs,tk,m,hf _ _ _ s,A⟩⟩
 |met f y=>
  have e:=x;exact k a _ (.inl rr) e
 |ext φ=>obtain⟨p,⟨o,e⟩,st⟩:=x;exact⟨st _ _ p λo q=>k _ _ (.inl rr) q,⟨o,k _ _ (.inl rr) e⟩,st⟩
def l8.lt (x:l8 P w H h)(e:H a=some o):a<h.objs.size:=(x a o e).lt
def l8.fresh (x:l8 P w H h)(e:h.objs.size<=a):H a=none:=by
 cases q:H a with
 |none=>rfl
 |some u=>exact absurd (vQ (x.lt q) e) (Nat.lt_irrefl _)
def l8.kept (x:l8 P w H h)(k:∀b u,h.get? b=some u->h'.get? b=some u):l8 P w H h':=λa o e=>
 (x a o e).stay (λb u _ q=>k b u q) (λ_ q=>q) (λ_ _ q=>q) λ_ _ _ q=>q
def l8.laid (x:l8 P w H h)(k:∀b u,h.get? b=some u->h'.get? b=some u)(hp:h.objs.size<=a)(new:bg P w (upd H a o) h' a o):l8 P w (upd H a o) h':=λb u e=>by
 have hn:=x.fresh hp;by_cases hb:b=a
 .simp_all[au]
 .rw[a7 hb]at e;exact(x b u e).stay (λc v _ q=>k c v q) (λc q=>by rw[a7 (aM q hn)];exact q) (λc xs q=>by rw[a7 (aM q hn)];exact q) λc o xs q=>by rw[a7 (aM q hn)];exact q
end
def Rd (H:Hp)(a:Addr)(u:HO):Prop:=H a=some u\/∃o,H a=some (.frz o u)
def Rd.ok (r:Rd H a u)(x:l8 P w H h):bg P w H h a u:=by
 rcases r with r|⟨o,r⟩
 .exact x a u r
 .obtain⟨_,q⟩:=x a _ r;exact q
def TW:Option HO->Prop
 |some (.lst _)=>True
 |some (.dK _ _)=>True
 |some (.dT _)=>True
 |some (.set _ _)=>True
 |some (.ins _ _ _)=>True
 |some (.ext _)=>True
 |_=>False
section
variable {P:Program}{w:World}{H:Hp}{h h':Heap}{x e:Addr}{o':HO}
def l8.write (ok:l8 P w H h)(M:TW (H x))(he:e=x\/H e=some (.own x))(k:∀b u,b≠e->h.get? b=some u->h'.get? b=some u)(a:∃u,h'.get? e=some u)
  (new:bg P w (upd H x o') h' x o'):l8 P w (upd H x o') h':=λb u q=>by
 have O:∀c y,H c=some (.own y)->c≠x:=λc y r z=>by subst z;rw[r]at M;exact M
 have U:∀c xs,H c=some (.tup xs)->c≠x:=λc xs r z=>by subst z;rw[r]at M;exact M
 by_cases hb:b=x
 .simp_all[au]
 .rw[a7 hb]at q;by_cases d:b=e
  .have f:H b=some (.own x):=by
    lia
   rw[q]at f;cases f;obtain⟨v,hv⟩:=a;exact⟨v,by rw[d];exact hv⟩
  .refine(ok b u q).stay (λc v hc r=>k c v ?_ r) (λc r=>by rw[a7 (O c b r)];exact r) (λc xs r=>by rw[a7 (U c xs r)];exact r) λc o xs r=>by rw[a7 (λz=>by subst z;rw[r]at M;exact M)];exact r
   grind
end
structure Un (fs ex:List Addr)(H H':Hp)(h h':Heap):Prop where
 keep:∀b o,h.get? b=some o->H b=none->b∉fs->b∉ex->h'.get? b=some o
 slot:∀b o,h.get? b=some o->H b=none->b∈fs->b∉ex->∃sl,h'.get? b=some { o with slots:=sl }
 free:∀b o,h.get? b=some o->H b=none->b∉ex->H' b=none
 there:∀b o,h.get? b=some o->b∉ex->∃o',h'.get? b=some o'
 tups:∀b xs,H b=some (.tup xs)->H' b=some (.tup xs)
 frzs:∀b o u,H b=some (.frz o u)->H' b=some (.frz o u)
 tbls:∀b q,H b=some (.tbl q)->H' b=some (.tbl q)
section
variable {fs fs' ex ex':List Addr}{H H1 H2:Hp}{h h1 h2 h':Heap}{a x e:Addr}{o:HO}
def Un.any (u:Un fs ex H H1 h h1)(q:h.get? b=some ob)(n:H b=none)(hx:b∉ex):∃sl,h1.get? b=some { ob with slots:=sl }:=by
 by_cases hb:b∈fs
 .exact u.slot b ob q n hb hx
 .exact⟨ob.slots,u.keep b ob q n hb hx⟩
def Un.trans (a:Un fs ex H H1 h h1)(b:Un fs ex H1 H2 h1 h2):Un fs ex H H2 h h2 where
 keep:=λc ob q n hc hx=>b.keep c ob (a.keep c ob q n hc hx) (a.free c ob q n hx) hc hx
 slot:=λc ob q n hc hx=>by
  obtain⟨sl,M⟩:=a.slot c ob q n hc hx;obtain⟨O,e2⟩:=b.slot c _ M (a.free c ob q n hx) hc hx;exact⟨O,e2⟩
 free:=λc ob q n hx=>by
  obtain⟨o',M⟩:=a.there c ob q hx;exact b.free c o' M (a.free c ob q n hx) hx
 there:=λc ob q hx=>by
  obtain⟨o',M⟩:=a.there c ob q hx;exact b.there c o' M hx
 tups:=λc xs q=>b.tups c xs (a.tups c xs q)
 frzs:=λc ob xs q=>b.frzs c ob xs (a.frzs c ob xs q)
 tbls:=λc ps q=>b.tbls c ps (a.tbls c ps q)
def Un.kept (k:∀b u,h.get? b=some u->h'.get? b=some u):Un fs ex H H h h':=
 ⟨λb ob q _ _ _=>k b ob q,λb ob q _ _ _=>⟨ob.slots,k b ob q⟩,λ_ _ _ n _=>n,λb ob q _=>⟨ob,k b ob q⟩,λ_ _ q=>q,λ_ _ _ q=>q,λ_ _ q=>q⟩
def Un.refl:Un fs ex H H h h:=Un.kept λ_ _ q=>q
def Un.laid (k:∀b u,h.get? b=some u->h'.get? b=some u)(hp:h.objs.size<=a)(hn:H a=none):Un fs ex H (upd H a o) h h' where
 keep:=λb u q _ _ _=>k b u q
 slot:=λb u q _ _ _=>⟨u.slots,k b u q⟩
 free:=λb u q n _=>by rw[a7 (vS (vQ (vX q) hp))];exact n
 there:=λb u q _=>⟨u,k b u q⟩
 tups:=λb xs q=>by rw[a7 (aM q hn)];exact q
 frzs:=λb u xs q=>by rw[a7 (aM q hn)];exact q
 tbls:=λb ps q=>by rw[a7 (aM q hn)];exact q
def Un.write (M:TW (H x))(he:e=x\/H e=some (.own x))(k:∀b u,b≠e->h.get? b=some u->h'.get? b=some u)(O:∃u,h'.get? e=some u):Un fs ex H (upd H x o) h h':=by
 have hx:∀b,H b=none->b≠x:=λb n z=>by subst z;rw[n]at M;exact M
 have hb:∀b,H b=none->b≠e:=λb n z=>by
  simp_all
 have hm:∀b u,H b=some u->¬TW (some u)->b≠x:=λb u q nm z=>by simp_all
 refine⟨λb u q n _ _=>k b u (hb b n) q,λb u q n _ _=>⟨u.slots,k b u (hb b n) q⟩,λb u q n _=>by rw[a7 (hx b n)];exact n,λb u q _=>?_,
  λb xs q=>by rw[a7 (hm b _ q λz=>z)];exact q,λb u xs q=>by rw[a7 (hm b _ q λz=>z)];exact q,λb ps q=>by rw[a7 (hm b _ q λz=>z)];exact q⟩
 grind
end
noncomputable def trk (h:Heap)(H:Hp):List Addr:=(List.range h.objs.size).filter λa=>(H a).isSome
def yi (h:Heap)(H:Hp):Heap:=PySem.W.hideAll h (trk h H)
def EX (h:Heap)(H:Hp):(yi h H).objs.size=h.objs.size:=PySem.W.hideAll_size _ _
theorem qz (e:h.get? b=some o)(n:H b=none):(yi h H).get? b=some o:=
 PySem.W.hideAll_get _ e λhm=>by
  have q:=(vN hm).2;simp_all
def LA (e:(yi h H).get? b=some o):h.get? b=some o/\H b=none:=by
 have M:=PySem.W.of_hideAll _ e;refine⟨M,?_⟩;cases q:H b with
 |none=>rfl
 |some x=>
  simp_all[trk,vX,yi,PySem.W.hideAll_none]
noncomputable def LB (g h:Heap)(L:Addr):AO:=(List.range h.objs.size).filterMap λa=>if a=L\/(g.get? a).isSome=true then none else (h.get? a).map λo=>(a,o)
def ai (g h:Heap)(L d:Addr):AO:=(LB g h L).filter λp=>decide (p.1≠d)
structure Mod (K:Frag)(mg:Str->Option Value)(base:Heap):Prop where
 kin:K.In base
 glob:base.Ns mainGlobals mg
 blt:∃mb,base.Ns builtinsNs mb/\∀x:Str,x ≠ "__name__"->mb x=bootBuiltins x
 nolimit:base.NoLimit
 bmain:∃bm ob,mg "__builtins__" = some (.ref bm)/\bm≠builtinsNs/\base.get? bm=some ob/\ob.cls=.type "module"/\ob.dict=some builtinsNs/\ob.data=.plain
structure Cx where
 prog:Program
 w:World
 K:Frag
 mg:Str->Option Value
 base:Heap
 A:Around
 N:List Str
 s₀:Shared
 H₀:Hp
 env:Env
 outer:List Env
 stack:List Env
 ex:List Addr
 fn:Str->Bool
 calm:Bool
 pn:List (Addr×Obj)
 xe:Value->Shared->Prop
noncomputable def GO (l:List Env):List Addr:=l.filterMap (·.frame)
abbrev Cx.fs (X:Cx):List Addr:=GO X.outer
def GP (sc:Scope)(x:Str):Prop:=sc.names.lookup x=some .local\/sc.names.lookup x=some .cell\/sc.names.lookup x=some .free
def Ly (sc:Scope)(x:Str):Prop:=sc.names.lookup x=some .local\/sc.names.lookup x=some .cell
def Zb (env:Env)(h:Heap)(m:SV)(x:Str)(u:Value):Prop:=
 (env.kindOf x=some .local/\m x=some u)\/((env.kindOf x=some .cell\/env.kindOf x=some .free)/\∃c,env.cells.lookup x=some c/\h.IsCell c (some u))
abbrev wq {α:Type}(X:Cx):Sem α->(α->Shared->Prop)->(Value->Shared->Prop)->Shared->Prop:=wpAny (model X.prog X.w) X.A
structure Cx.Ok (X:Cx):Prop where
 mod:Mod X.K X.mg X.base
 kind:X.env.scope.kind=.function
 glob:X.env.globals=mainGlobals
 blt:X.env.builtins=builtinsNs
 above:X.s₀.z<=X.env.locals
 inj:∀x y c,X.env.cells.lookup x=some c->X.env.cells.lookup y=some c->x=y
 has:∀x,(X.env.kindOf x=some .cell\/X.env.kindOf x=some .free)->∃c,X.env.cells.lookup x=some c
 cab:∀x c,X.fn x=true->X.env.cells.lookup x=some c->X.s₀.z<=c
 hd:X.calm=true->X.A.handled=none
 frames:X.A.frames=some X.stack
 stk:X.stack=X.outer\/(X.stack=X.env::X.outer/\X.env.frame=some X.env.locals)
 exf:∀b∈X.ex,b≠X.env.locals/\∀x c,X.env.cells.lookup x=some c->c≠b
 bs:∀b o,X.base.get? b=some o->X.s₀.heap.get? b=some o/\X.H₀ b=none
 bsz:X.base.objs.size<=X.s₀.z
 noex:∀b o,X.base.get? b=some o->b∉X.ex
 exfs:∀b∈X.ex,b∉X.fs
 funs:X.s₀.heap.FunFrames X.base X.outer
 frf:∀b∈X.fs,X.H₀ b=none
structure Inv (X:Cx)(af:List (Addr×Obj))(σ:List (Option V))(H:Hp)(s:Shared):Prop where
 ok:X.Ok
 os:s.os=X.s₀.os
 bare:AllBare s.gens
 base:Un X.fs X.ex X.H₀ H X.s₀.heap s.heap
 loc:∃m,s.heap.Ns X.env.locals m/\∀(i:Nat)(x:Str)(v:V),X.N[i]? = some x->σ[i]? = some (some v)->GP X.env.scope x->∃u,aE v u/\Zb X.env s.heap m x u
 cell:∀x c,X.env.cells.lookup x=some c->∃v,s.heap.IsCell c v
 free:H X.env.locals=none
 freeC:∀x c,X.env.cells.lookup x=some c->H c=none
 pin:∀p∈X.pn++af,s.heap.get? p.1=some p.2/\H p.1=none/\p.1≠X.env.locals/\p.1∉X.fs/\∀v,p.2.data≠.cell v
 hok:l8 X.prog X.w H s.heap
 len:σ.length=X.N.length
section
variable {X:Cx}{af:AO}{σ:List (Option V)}{H H':Hp}{s:Shared}{h':Heap}
def Cx.Ok.nofr (ok:X.Ok)(e:X.base.get? b=some o):b∉X.fs:=λhb=>by
 have:=(ok.funs.mem hb).1;simp_all
def Inv.bs (I:Inv X af σ H s):∀b o,X.base.get? b=some o->s.heap.get? b=some o/\H b=none:=λb o e=>
 ⟨I.base.keep b o (I.ok.bs b o e).1 (I.ok.bs b o e).2 (I.ok.nofr e) (I.ok.noex b o e),I.base.free b o (I.ok.bs b o e).1 (I.ok.bs b o e).2 (I.ok.noex b o e)⟩
def Inv.bk (I:Inv X af σ H s):∀b o,X.base.get? b=some o->s.heap.get? b=some o:=λb o e=>(I.bs b o e).1
def Inv.mod (I:Inv X af σ H s):Mod X.K X.mg X.base:=I.ok.mod
def Inv.kIn (I:Inv X af σ H s):X.K.In s.heap:=I.ok.mod.kin.keeps I.bk
def Inv.nolimit (I:Inv X af σ H s):s.heap.NoLimit:=I.ok.mod.nolimit.keeps I.bk
def Inv.lt (I:Inv X af σ H s):X.env.locals<s.z:=let ⟨_,hn,_⟩:=I.loc;hn.lt
def Inv.sz (I:Inv X af σ H s):X.s₀.z<=s.z:=vR I.ok.above (le_of_lt I.lt)
def Inv.nofs (I:Inv X af σ H s)(h:s.z<=a):a∉X.fs:=λhb=>by
 obtain⟨_,o,M,_⟩:=I.ok.funs.mem hb;exact absurd (vQ (vX M) (vR I.sz h)) (Nat.lt_irrefl _)
def Inv.cne (I:Inv X af σ H s):∀x c,X.env.cells.lookup x=some c->c≠X.env.locals:=λx c e z=>by
 refine cX λG g=>?_;obtain⟨v,o,U,hd⟩:=I.cell x c e;obtain⟨m,⟨o',es,a,M,O,_⟩,_⟩:=I.loc;apply g;clear g;simp_all
def Inv.funs (I:Inv X af σ H s):s.heap.FunFrames X.base X.outer:=by
 have all:∀(l:List _),(∀b∈GO l,b∈X.fs)->X.s₀.heap.FunFrames X.base l->s.heap.FunFrames X.base l:=by
  intro l;induction l with
  |nil=>intro _ _;trivial
  |cons env r ih=>
   intro hs hl;refine cX λG g=>?_;obtain⟨hk,⟨L,o,hf,hn,O,hd⟩,U⟩:=hl;have M:=hs L (by simp_all[GO]);obtain⟨sl,e⟩:=I.base.slot L o O (I.ok.frf L M) M λz=>I.ok.exfs L z M;apply g;clear g;exact⟨hk,⟨L,_,hf,hn,e,hd⟩,ih (λb hb=>hs b (by simp_all[GO])) U⟩
 exact all _ (λ_ hb=>hb) I.ok.funs
def Inv.stack (I:Inv X af σ H s):s.heap.FunFrames X.base X.stack:=by
 rcases I.ok.stk with e|⟨e,hf⟩
 .rw[e];exact I.funs
 .rw[e];obtain⟨m,hn,_⟩:=I.loc;refine .cons (by rw[I.ok.kind];decide) hf hn ?_ I.funs;exact Heap.get?_none_of_le (vR I.ok.bsz I.ok.above)
def Inv.stkSub (I:Inv X af σ H s):∀b∈GO X.stack,b∈X.env.locals::X.fs:=λb hb=>by
 rcases I.ok.stk with e|⟨e,hf⟩
 .simp_all
 simp_all[GO]
def Inv.stkFree (I:Inv X af σ H s):∀b∈GO X.stack,H b=none:=λb hb=>by
 rcases vP (I.stkSub b hb)with e|hb
 .rw[e];exact I.free
 .obtain⟨_,o,M,_⟩:=I.ok.funs.mem hb;exact I.base.free b o M (I.ok.frf b hb) λz=>I.ok.exfs b z hb
def Inv.step {g':Array GenState}{t':Nat}{d':Drawn}{ch:List Addr}(I:Inv X af σ H s)
  (M:∀b∈ch,(b∈X.ex\/X.s₀.z<=b)/\b≠X.env.locals/\(∀x c,X.env.cells.lookup x=some c->c≠b)/\∀p∈X.pn++af,p.1≠b)
  (keep:∀b o,b≠X.env.locals->b∉X.fs->b∉ch->s.heap.get? b=some o->H b=none->h'.get? b=some o)
  (slot:∀b o,b≠X.env.locals->b∈X.fs->b∉ch->s.heap.get? b=some o->H b=none->∃sl,h'.get? b=some { o with slots:=sl }) (free:∀b o,b∉ch->s.heap.get? b=some o->H b=none->H' b=none)
  (there:∀b o,b∉ch->s.heap.get? b=some o->∃o',h'.get? b=some o')
  (tups:∀b xs,H b=some (.tup xs)->H' b=some (.tup xs)) (frzs:∀b o u,H b=some (.frz o u)->H' b=some (.frz o u)) (tbls:∀b q,H b=some (.tbl q)->H' b=some (.tbl q))
  (ns:∀m,s.heap.Ns X.env.locals m->h'.Ns X.env.locals m) (hok:l8 X.prog X.w H' h') (y:AllBare g'):
  Inv X af σ H' { s with heap:=h',gens:=g',drawn:=d',toks:=t' }:=by
 have g:∀b o,X.s₀.heap.get? b=some o->b≠X.env.locals:=λb o e=>vS (vQ (vX e) I.ok.above);have h:∀b o,X.s₀.heap.get? b=some o->b∉X.ex->b∉ch:=λb o e hx hb=>by
  rcases (M b hb).1 with z|z
  .exact hx z
  .exact absurd (vQ (vX e) z) (Nat.lt_irrefl _)
 have O:∀x c,X.env.cells.lookup x=some c->∀v,s.heap.IsCell c v->h'.IsCell c v:=λx c e v ⟨o,f,hd⟩=>by
  have U:c∉ch:=λz=>(M c z).2.2.1 x c e rr;by_cases hc:c∈X.fs
  .obtain⟨sl,q⟩:=slot c o (I.cne x c e) hc U f (I.freeC x c e);exact⟨_,q,hd⟩
  .exact⟨o,keep c o (I.cne x c e) hc U f (I.freeC x c e),hd⟩
 refine⟨I.ok,I.os,y,⟨λb o e n hb hx=>?_,λb o e n hb hx=>?_,λb o e n hx=>?_,λb o e hx=>?_,λb xs e=>tups b xs (I.base.tups b xs e),λb o xs e=>frzs b o xs (I.base.frzs b o xs e),λb ps e=>?_⟩,?_,λx c e=>?_,?_,λx c e=>?_,λp hp=>?_,hok,I.len⟩
 .exact keep b o (g b o e) hb (h b o e hx) (I.base.keep b o e n hb hx) (I.base.free b o e n hx)
 .obtain⟨sl,a⟩:=I.base.slot b o e n hb hx;obtain⟨j,e2⟩:=slot b _ (g b o e) hb (h b o e hx) a (I.base.free b o e n hx);exact⟨j,e2⟩
 .obtain⟨o',a⟩:=I.base.there b o e hx;exact free b o' (h b o e hx) a (I.base.free b o e n hx)
 .obtain⟨o',a⟩:=I.base.there b o e hx;exact there b o' (h b o e hx) a
 .exact tbls b _ (I.base.tbls b ps e)
 .obtain⟨m,hn,hl⟩:=I.loc;refine⟨m,ns m hn,λi x v a e2 A=>?_⟩;obtain⟨u,r,l⟩:=hl i x v a e2 A;refine⟨u,r,?_⟩;rcases l with l|⟨k,c,e,z⟩
  .exact .inl l
  .exact .inr ⟨k,c,e,O x c e _ z⟩
 .obtain⟨v,z⟩:=I.cell x c e;exact⟨v,O x c e v z⟩
 .obtain⟨m,⟨o,_,_,f,_⟩,_⟩:=I.loc;exact free _ o (λz=>(M _ z).2.1 rr) f I.free
 .obtain⟨v,o,f,hd⟩:=I.cell x c e;exact free c o (λz=>(M c z).2.2.1 x c e rr) f (I.freeC x c e)
 .obtain⟨e,n,ne,t,d⟩:=I.pin p hp;have U:p.1∉ch:=λz=>(M p.1 z).2.2.2 p hp rr;exact⟨keep p.1 p.2 ne t U e n,free p.1 p.2 U e n,ne,t,d⟩
def Inv.un {t':Nat}(I:Inv X af σ H s)(u:Un X.fs [] H H' s.heap h')(hok:l8 X.prog X.w H' h'):Inv X af σ H' { s with heap:=h',toks:=t' }:=by
 obtain⟨m,⟨o,es,f,a,r⟩,_⟩:=id I.loc;obtain⟨sl,c⟩:=u.any a I.free H9;exact I.step (ch:=[]) (λ_ z=>nomatch z) (λb o _ hb _ e n=>u.keep b o e n hb H9) (λb o _ hb _ e n=>u.slot b o e n hb H9) (λb o _ e n=>u.free b o e n H9) (λb o _ e=>u.there b o e H9) u.tups u.frzs u.tbls (λg hm=>by
  obtain⟨o',O,U,M,d⟩:=hm;rw[a]at M;cases M;exact⟨_,O,U,c,d⟩) hok I.bare
def Inv.call {g':Array GenState}{t':Nat}{d':Drawn}{ch:List Addr}(I:Inv X af σ H s)(u:Un (GO X.stack) ch H H' s.heap h')(hok:l8 X.prog X.w H' h')(g:AllBare g')
  (M:∀b∈ch,(b∈X.ex\/X.s₀.z<=b)/\b≠X.env.locals/\(∀x c,X.env.cells.lookup x=some c->c≠b)/\∀p∈X.pn++af,p.1≠b):
  Inv X af σ H' { s with heap:=h',gens:=g',drawn:=d',toks:=t' }:=by
 obtain⟨m,⟨o,es,i,f,r⟩,_⟩:=id I.loc;obtain⟨sl,U⟩:=u.any f I.free λz=>(M _ z).2.1 rr;exact I.step M (λb o U hb hc e n=>u.keep b o e n (λz=>(vP (I.stkSub b z)).elim U hb) hc) (λb o _ _ hc e n=>u.any e n hc) (λb o hc e n=>u.free b o e n hc) (λb o hc e=>u.there b o e hc) u.tups u.frzs u.tbls (λj hm=>by
  obtain⟨o',a,d,O,h⟩:=hm;rw[f]at O;cases O;exact⟨_,a,d,U,h⟩) hok g
def Inv.turned {t':Nat}{it:Addr}(I:Inv X af σ H s)(k:∀b o,b≠it->s.heap.get? b=some o->h'.get? b=some o)(hn:H it=none)(M:it≠X.env.locals)
  (h1:it∈X.ex\/X.s₀.z<=it) (h2:∀x c,X.env.cells.lookup x=some c->c≠it) (h3:∀p∈X.pn++af,p.1≠it):Inv X af σ H { s with heap:=h',toks:=t' }:=by
 refine I.step (ch:=[it]) (λb hb=>?_) (λb o _ _ hc e _=>k b o (λz=>hc (by simp[z])) e) (λb o _ _ hc e _=>⟨o.slots,k b o (λz=>hc (by simp[z])) e⟩) (λ_ _ _ _ n=>n)
  (λb o hc e=>⟨o,k b o (λz=>hc (by simp[z])) e⟩) (λ_ _ e=>e) (λ_ _ _ e=>e) (λ_ _ e=>e) (λm hm=>?_) (λb u e=>?_) I.bare
 .have e:=by simpa using hb
  subst e;exact⟨h1,M,h2,h3⟩
 .obtain⟨o,es,O,U,r⟩:=hm;exact⟨o,es,O,k _ o (Ne.symm M) U,r⟩
 .refine(I.hok b u e).stay (λc v hc q=>k c v ?_ q) (λ_ q=>q) (λ_ _ q=>q) λ_ _ _ q=>q;lia
def Inv.tok (I:Inv X af σ H s)(t:Nat):Inv X af σ H { s with toks:=t }:=I.un Un.refl I.hok
def Inv.kept (I:Inv X af σ H s)(k:∀b u,s.heap.get? b=some u->h'.get? b=some u):Inv X af σ H { s with heap:=h',toks:=t' }:=I.un (Un.kept k) (I.hok.kept k)
def Inv.laid (I:Inv X af σ H s)(k:∀b u,s.heap.get? b=some u->h'.get? b=some u)(hp:s.z<=a)(new:bg X.prog X.w (upd H a o) h' a o):
  Inv X af σ (upd H a o) { s with heap:=h',toks:=t' }:=I.un (Un.laid k hp (I.hok.fresh hp)) (I.hok.laid k hp new)
def Inv.write (I:Inv X af σ H s)(O:TW (H x))(he:e=x\/H e=some (.own x))(k:∀b u,b≠e->s.heap.get? b=some u->h'.get? b=some u)(M:∃u,h'.get? e=some u)
  (new:bg X.prog X.w (upd H x o) h' x o):Inv X af σ (upd H x o) { s with heap:=h',toks:=t' }:=I.un (Un.write O he k M) (I.hok.write O he k M new)
def Inv.pins_of (I:Inv X af σ H s)(h:∀p∈M,s.heap.get? p.1=some p.2/\H p.1=none/\p.1≠X.env.locals/\p.1∉X.fs/\∀v,p.2.data≠.cell v):Inv X M σ H s:=
 ⟨I.ok,I.os,I.bare,I.base,I.loc,I.cell,I.free,I.freeC,λp hp=>(mem_append.mp hp).elim (λz=>I.pin p (mem_append_left _ z)) (h p),I.hok,I.len⟩
def yj {N:LS}(M:N.Nodup){i j:Nat}{x:Str}(a:N[i]? = some x)(b:N[j]? = some x):i=j:=by
 obtain⟨h1,O⟩:=vV a;obtain⟨h2,e2⟩:=vV b;exact(List.getElem_inj M).mp (O.trans e2.symm)
def tU {M:Model}{A:Around}{E:QV}{i:Nat}{x:Str}{v:V}{u:Value}{Q:Unit->Shared->Prop}(I:Inv X af σ H s)(K:X.N.Nodup)(hi:X.N[i]? = some x)(hx:Ly X.env.scope x)(r:aE v u)
  (h:∀s',Inv X af (σ.set i (some v)) H s'->(∃a,Heap.SameBut a s.heap s'.heap/\(a=X.env.locals\/X.env.cells.lookup x=some a))->Q () s') (hf:X.fn x=true\/X.env.scope.names.lookup x=some .local:=by first|exact .inl rr|exact .inr rr|assumption):wpAny M A (storeName X.env x u) Q E s:=by
 obtain⟨m,hn,hl⟩:=id I.loc;have t:(X.env.scope.kind == .class || (X.env.scope.kind == .module && X.env.locals != X.env.globals))=false:=by rw[I.ok.kind];rfl
 have L:i<σ.length:=by rw[I.len];exact(vV hi).1
 have cne:=I.cne;have O:∀ {a:Addr}{h':Heap},(∃o,s.heap.get? a=some o/\H a=none)->Heap.SameBut a s.heap h'->l8 X.prog X.w H h':=λ{a h'} ha hs b ob e=>by
  obtain⟨_,_,R⟩:=ha;refine(I.hok b ob e).stay (λc B hc q=>(hs.2 c ?_).trans q) (λ_ q=>q) (λ_ _ q=>q) λ_ _ _ q=>q;lia
 rcases hx with hk|hk
 .refine wpAny_storeName_local hk hn (λh' C hs=>?_) t;obtain⟨S,_,_,T,_⟩:=id hn;refine h _ ⟨I.ok,I.os,I.bare,⟨λb o e n hb hx=>?_,λb o e n hb hx=>?_,I.base.free,λb o e hx=>?_,I.base.tups,I.base.frzs,I.base.tbls⟩,⟨_,C,λj y D U e2 F=>?_⟩,λy c e=>?_,I.free,I.freeC,λp hp=>?_,O ⟨S,T,I.free⟩ hs,by simpa using I.len⟩ ⟨_,hs,.inl rr⟩
  .exact(hs.2 b (vS (vQ (vX e) I.ok.above))).trans (I.base.keep b o e n hb hx)
  .obtain⟨sl,U⟩:=I.base.slot b o e n hb hx;exact⟨sl,(hs.2 b (vS (vQ (vX e) I.ok.above))).trans U⟩
  .obtain⟨o',U⟩:=I.base.there b o e hx;exact⟨o',(hs.2 b (vS (vQ (vX e) I.ok.above))).trans U⟩
  .by_cases hj:j=i
   .subst hj;rw[hi]at U;cases U;rw[getElem?_set_self L]at e2;cases e2
    exact⟨u,r,.inl ⟨hk,H9⟩⟩
   .rw[vB (Ne.symm hj)]at e2;obtain⟨u',G,q⟩:=hl j y D U e2 F;refine⟨u',G,?_⟩;rcases q with⟨k,e⟩|⟨k,c,e,z⟩
    .refine .inl ⟨k,?_⟩;have:y≠x:=λe=>hj (yj K U (e ▸ hi));simp[this,e]
    .exact .inr ⟨k,c,e,z.sameBut hs (cne y c e)⟩
  .obtain⟨B,z⟩:=I.cell y c e;exact⟨B,z.sameBut hs (cne y c e)⟩
  .obtain⟨e,n,ne,J,d⟩:=I.pin p hp;exact⟨(hs.2 p.1 ne).trans e,n,ne,J,d⟩
 .have f:X.fn x=true:=by
   simp_all<;>lia
  obtain⟨c,hc⟩:=I.ok.has x (.inl hk);obtain⟨B,z⟩:=I.cell x c hc;refine wpAny_storeName_cell I.ok.kind hk hc z (λh' P hs=>?_);obtain⟨oc,W,Y⟩:=id z;refine h { s with heap:=h' } ⟨I.ok,I.os,I.bare,⟨λb o e n hb hx=>?_,λb o e n hb hx=>?_,I.base.free,λb o e hx=>?_,I.base.tups,I.base.frzs,I.base.tbls⟩,⟨m,hn.sameBut hs (Ne.symm (cne x c hc)),λj y D U e2 F=>?_⟩,λy l e=>?_,I.free,I.freeC,λp hp=>?_,O ⟨oc,W,I.freeC x c hc⟩ hs,by simpa using I.len⟩ ⟨c,hs,.inr hc⟩
  .exact(hs.2 b (vS (vQ (vX e) (I.ok.cab x c f hc)))).trans (I.base.keep b o e n hb hx)
  .obtain⟨sl,U⟩:=I.base.slot b o e n hb hx;exact⟨sl,(hs.2 b (vS (vQ (vX e) (I.ok.cab x c f hc)))).trans U⟩
  .obtain⟨o',U⟩:=I.base.there b o e hx;exact⟨o',(hs.2 b (vS (vQ (vX e) (I.ok.cab x c f hc)))).trans U⟩
  .by_cases hj:j=i
   .subst hj;rw[hi]at U;cases U;rw[getElem?_set_self L]at e2;cases e2
    exact⟨u,r,.inr ⟨.inl hk,c,hc,P⟩⟩
   .rw[vB (Ne.symm hj)]at e2;obtain⟨u',G,q⟩:=hl j y D U e2 F;refine⟨u',G,?_⟩;rcases q with q|⟨k,l,e,Z⟩
    .exact .inl q
    .refine .inr ⟨k,l,e,Z.sameBut hs ?_⟩;rintro rfl;exact hj (yj K U (I.ok.inj _ _ _ e hc ▸ hi))
  .by_cases g:l=c
   .subst g;exact⟨_,P⟩
   .obtain⟨w2,z2⟩:=I.cell y l e;exact⟨w2,z2.sameBut hs g⟩
  .obtain⟨e,n,ne,J,d⟩:=I.pin p hp;refine⟨(hs.2 p.1 ?_).trans e,n,ne,J,d⟩;grind
def yk {M:Model}{A:Around}{E:QV}{i:Nat}{x:Str}{v:V}{u:Value}{Q:Unit->Shared->Prop}(I:Inv X af σ H s)(O:X.N.Nodup)(hi:X.N[i]? = some x)(hx:Ly X.env.scope x)(r:aE v u)
  (h:∀s',Inv X af (σ.set i (some v)) H s'->Q () s') (hf:X.fn x=true\/X.env.scope.names.lookup x=some .local:=by first|exact .inl rr|exact .inr rr|assumption):wpAny M A (storeName X.env x u) Q E s:=
 tU I O hi hx r (λs' U _=>h s' U) hf
def Inv.call' (I:Inv X af σ H s)(O:s'.os=s.os)(u:Un (GO X.stack) ch H H' s.heap s'.heap)(hok:l8 X.prog X.w H' s'.heap)(U:AllBare s'.gens)
  (M:∀b∈ch,(b∈X.ex\/X.s₀.z<=b)/\b≠X.env.locals/\(∀x c,X.env.cells.lookup x=some c->c≠b)/\∀p∈X.pn++af,p.1≠b):Inv X af σ H' s':=by
 obtain⟨h',g',d',t',o'⟩:=s';have e:=O;subst e;exact I.call u hok U M
end
abbrev XK:=Value->Option Addr->Hp->Prop
abbrev St:=List (Option V)
abbrev VK:=V->Hp->Prop
abbrev TE:=St->Hp->VK->Prop
abbrev TT:=St->Hp->(Bool->Hp->Prop)->Prop
abbrev TA:=St->Hp->(List V->Hp->Prop)->Prop
structure Ends where
 nx:St->Hp->Prop
 rt:VK
 bk:St->Hp->Prop:=λ_ _=>False
 ct:St->Hp->Prop:=λ_ _=>False
abbrev TS:=Ends->St->Hp->Prop
def EP (X:Cx)(af:AO)(σ:St)(Q:VK)(u:Value)(s':Shared):Prop:=∃v H',Inv X af σ H' s'/\aE v u/\Q v H'
def TP (X:Cx)(af:AO)(σ:St)(Q:Bool->Hp->Prop)(b:Bool)(s':Shared):Prop:=∃H',Inv X af σ H' s'/\Q b H'
def AP (X:Cx)(af:AO)(σ:St)(Q:List V->Hp->Prop)(us:LU)(s':Shared):Prop:=∃vs H',Inv X af σ H' s'/\aL vs us/\Q vs H'
def SP (X:Cx)(af:AO)(D:Ends)(f:Flow)(s':Shared):Prop:=
 match f with
 |.next=>∃M H',Inv X af M H' s'/\D.nx M H'
 |.brk=>∃M H',Inv X af M H' s'/\D.bk M H'
 |.cont=>∃M H',Inv X af M H' s'/\D.ct M H'
 |.ret u=>∃v M H',Inv X af M H' s'/\aE v u/\D.rt v H'
def PE (X:Cx)(e:Expr)(t:TE):Prop:=
 ∀(af:AO)(s:Shared)(σ:St)(H:Hp)(Q:VK),Inv X af σ H s->t σ H Q->wq X (eval e X.env) (EP X af σ Q) X.xe s
def PT (X:Cx)(e:Expr)(t:TT):Prop:=
 ∀(af:AO)(s:Shared)(σ:St)(H:Hp)(Q:Bool->Hp->Prop),Inv X af σ H s->t σ H Q->wq X (isTrue e X.env (eval e X.env)) (TP X af σ Q) X.xe s
def PW (X:Cx)(e:Expr)(t:TT):Prop:=
 ∀(M:Sem Value)(af:AO)(s:Shared)(σ:St)(H:Hp)(Q:Bool->Hp->Prop),Inv X af σ H s->t σ H Q->wq X (isTrue e X.env M) (TP X af σ Q) X.xe s
def PW.pt (h:PW X e t):PT X e t:=h _
def PA (X:Cx)(es:QD)(t:TA):Prop:=
 ∀(M:Pos)(af:AO)(s:Shared)(σ:St)(H:Hp)(Q:List V->Hp->Prop),Inv X af σ H s->t σ H Q->wq X (spliced (backTo M (starEach es X.env))) (AP X af σ Q) X.xe s
def PS (X:Cx)(st:Stmt)(t:TS):Prop:=
 ∀(af:AO)(s:Shared)(σ:St)(H:Hp)(D:Ends),Inv X af σ H s->t D σ H->wq X (exec st X.env) (SP X af D) X.xe s
def tE (X:Cx)(st:List Stmt)(t:TS):Prop:=
 ∀(af:AO)(s:Shared)(σ:St)(H:Hp)(D:Ends),Inv X af σ H s->t D σ H->wq X (execs st X.env) (SP X af D) X.xe s
def bG {α:Type}{t:Sem α}{Q O:α->Shared->Prop}{M:Model}{A:Around}{E:QV}{s:Shared}(h:wpAny M A t Q E s)(U:∀a s,Q a s->O a s):wpAny M A t O E s:=wpAny_mono h U λ_ _ x=>x
section
variable {X:Cx}
def GQ (i:Nat):TE:=λσ H Q=>∃v,σ[i]? = some (some v)/\Q v H
def tC (v:V):TE:=λ_ H Q=>Q v H
def jg (U:X.N[i]? = some x)(hv:GP X.env.scope x)(hd:bf x:=by decide)(O:jI x:=by decide):PE X (.Name x pos) (GQ i):=by
 intro af s σ H Q I h;obtain⟨v,e,h⟩:=h;obtain⟨m,hn,hl⟩:=I.loc;obtain⟨u,r,l⟩:=hl i x v U e hv;have dX:EP X _ σ Q u s:=⟨v,H,I,r,h⟩;rcases l with⟨hk,hm⟩|⟨hk,c,hc,M⟩
 .exact wpAny_Name (wpAny_loadName_local I.ok.kind hk hn hm dX) hd
 .rcases hk with hk|hk
  .exact wpAny_Name (wpAny_loadName_cell I.ok.kind hk hc M dX) hd
  .exact wpAny_Name (wpAny_loadName_free I.ok.kind hk hc M dX O) hd
def PK {i j M}:PE X (.Constant (.int i) j M) (tC (.int i)):=λ_ _ _ H _ I h=>wpAny_Constant_int ⟨.int i,H,I.tok _,⟨_,rr⟩,h⟩
def TX {b j M}:PE X (.Constant (.bool b) j M) (tC (.bl b)):=λ_ _ _ H _ I h=>Constant_bool ⟨.bl b,H,I,rr,h⟩
def PL {j M}:PE X (.Constant .none j M) (tC .non):=λ_ _ _ H _ I h=>Constant_none ⟨.non,H,I,rr,h⟩
def PM {x j M}:PE X (.Constant (.str x) j M) (tC (.str x)):=λ_ _ _ H _ I h=>Calls.Constant_str ⟨.str x,H,I.tok _,⟨_,rr⟩,h⟩
def Gl (X:Cx)(x:Str):Prop:=X.env.kindOf x=some .globalImplicit
def wn {E:QV}{af:AO}{s:Shared}{σ:St}{H:Hp}{x:Str}{u:Value}{M:Pos}{Q:QV}(I:Inv X af σ H s)(O:Gl X x)(hm:X.mg x=some u)(h:Q u s)
  (hd:bf x:=by decide):wq X (eval (.Name x M) X.env) Q E s:=
 Calls.Name_function_global I.ok.kind O (Calls.loadGlobal_global (by rw[I.ok.glob];exact I.mod.glob.keeps I.bk) hm h) hd
def fG {E:QV}{af:AO}{s:Shared}{σ:St}{H:Hp}{x:Str}{u:Value}{M:Pos}{Q:QV}(I:Inv X af σ H s)(O:Gl X x)(hm:X.mg x=none)(hv:bootBuiltins x=some u)(h:Q u s)
  (hn:x ≠ "__name__":=by decide) (hd:bf x:=by decide):wq X (eval (.Name x M) X.env) Q E s:=by
 obtain⟨mb,h1,h2⟩:=I.mod.blt;exact Calls.Name_function_global I.ok.kind O (Calls.loadGlobal_builtin (by rw[I.ok.glob];exact I.mod.glob.keeps I.bk) hm (by rw[I.ok.blt];exact h1.keeps I.bk) ((h2 x hn).trans hv) h) hd
def pZ (M:Gl X x)(hm:X.mg x=some u)(r:aE v u)(hd:bf x:=by decide):PE X (.Name x O) (tC v):=
 λ_ _ _ H _ I h=>wn I M hm ⟨v,H,I,r,h⟩ hd
def LC (M:Gl X x)(hm:X.mg x=none)(hv:bootBuiltins x=some u)(r:aE v u)(hn:x ≠ "__name__":=by decide)(hd:bf x:=by decide):PE X (.Name x O) (tC v):=
 λ_ _ _ H _ I h=>fG I M hm hv ⟨v,H,I,r,h⟩ hn hd
def t2I (ta tb:TE)(k:Int->Int->Hp->Prop):St->Hp->Prop:=λσ H=>ta σ H λx M=>tb σ M λy H2=>∃i j,x=.int i/\y=.int j/\k i j H2
variable {a b:Expr}{ta tb:TE}{pos:Pos}
def PC (X:Cx)(op:CmpOp)(a b:Expr)(t:TE):Prop:=
 ∀(af:AO)(s:Shared)(σ:St)(H:Hp)(Q:VK),Inv X af σ H s->t σ H Q ->
  wq X (eval a X.env) (λv M=>wq X (eval b X.env) (λu O=>wq X (compareOp op v u) (EP X af σ Q) X.xe O) X.xe M) X.xe s
def Zc (p:Int->Int->Bool)(ta tb:TE):TE:=λσ H Q=>t2I ta tb (λi j H2=>Q (.bl (p i j)) H2) σ H
abbrev Zd:TE->TE->TE:=Zc λi j=>decide (i<j)
def tB (t:TE):TT:=λσ H Q=>t σ H λx M=>∃c,x=.bl c/\Q c M
def PP (h:PC X op a b t)(h1:behindInMarks op b=false:=by rfl):PE X (.Compare a [op] [b] pos) t:=λaf s σ H Q I hw=>wpAny_Compare1 (h _ s σ H Q I hw) h1
def PQ {e:Expr}{t:TE}(h:PE X e t)(he:∀M,isTrue e X.env M=(do let v <-M;standAt e.pos;holding [v] (truthy v)):=by intro _;rfl):PT X e (tB t):=by
 intro af s σ H Q I hw;refine isTrue_plain (bG (h _ s σ H _ I hw) λv s1 ⟨x,O,U,c,f⟩=>?_) (he _);obtain⟨d,rfl,q⟩:=f;cases c
 exact wpAny_truthy_bool ⟨O,U,q⟩
variable {tA YF:TT}{ai:QD}
def TY (t u:TT):TT:=λσ H Q=>t σ H λc M=>if c=true then u σ M Q else Q false M
def tOr (t u:TT):TT:=λσ H Q=>t σ H λc M=>if c=true then Q true M else u σ M Q
def TZ (t:TT):TT:=λσ H Q=>t σ H λc M=>Q (!c) M
def LF (ha:PT X a tA):PW X (.BoolOp .And [a] pos) tA:=by
 intro wh af s σ H Q I h;refine isTrue_and (bG (ha _ s σ H Q I h) λc s1 e=>?_);grind[isTrue_and_nil]
def PR (ha:PT X a tA):PW X (.BoolOp .Or [a] pos) tA:=by
 intro wh af s σ H Q I h;refine isTrue_or (bG (ha _ s σ H Q I h) λc s1 e=>?_);grind[isTrue_or_nil]
def PU (ha:PT X a tA)(hb:PW X (.BoolOp .And (b::ai) pos) YF):PW X (.BoolOp .And (a::b::ai) pos) (TY tA YF):=by
 intro wh af s σ H Q I h;refine isTrue_and (bG (ha _ s σ H _ I h) λc s1 ⟨M,O,U⟩=>?_);cases c with
 |true=>exact hb wh _ s1 σ M Q O U
 |false=>exact⟨M,O,U⟩
def Ua (ha:PT X a tA)(hb:PW X (.BoolOp .Or (b::ai) pos) YF):PW X (.BoolOp .Or (a::b::ai) pos) (tOr tA YF):=by
 intro wh af s σ H Q I h;refine isTrue_or (bG (ha _ s σ H _ I h) λc s1 ⟨M,O,U⟩=>?_);cases c with
 |true=>exact⟨M,O,U⟩
 |false=>exact hb wh _ s1 σ M Q O U
def PX (ha:PT X a tA):PT X (.UnaryOp .Not a pos) (TZ tA):=by
 intro af s σ H Q I h;exact isTrue_not (ha _ s σ H _ I h)
def Ub (ta tb:TE):TE:=λσ H Q=>ta σ H λx M=>∃c,x=.bl c/\if c=true then tb σ M Q else Q (.bl false) M
def Zf (ta tb:TE):TE:=λσ H Q=>ta σ H λx M=>∃c,x=.bl c/\if c=true then Q (.bl true) M else tb σ M Q
def Uc (ta:TE):TE:=λσ H Q=>ta σ H λx M=>∃c,x=.bl c/\Q (.bl (!c)) M
def PY {op}(h:PE X a t):PE X (.BoolOp op [a] pos) t:=λaf s σ H Q I hw=>BoolOp_one (h _ s σ H Q I hw)
def PZ (ha:PE X a ta)(hb:PE X (.BoolOp .And (b::ai) pos) tb):PE X (.BoolOp .And (a::b::ai) pos) (Ub ta tb):=by
 intro af s σ H Q I h;refine BoolOp_and (bG (ha _ s σ H _ I h) λv s1 ⟨x,O,U,d,M⟩=>?_);obtain⟨c,rfl,M⟩:=M;cases d
 refine wpAny_truthy_bool ?_;cases c with
 |true=>exact hb _ s1 σ O Q U M
 |false=>exact⟨.bl _,O,U,rr,M⟩
def Ud (ha:PE X a ta)(hb:PE X (.BoolOp .Or (b::ai) pos) tb):PE X (.BoolOp .Or (a::b::ai) pos) (Zf ta tb):=by
 intro af s σ H Q I h;refine BoolOp_or (bG (ha _ s σ H _ I h) λv s1 ⟨x,O,U,d,M⟩=>?_);obtain⟨c,rfl,M⟩:=M;cases d
 refine wpAny_truthy_bool ?_;cases c with
 |false=>exact hb _ s1 σ O Q U M
 |true=>exact⟨.bl _,O,U,rr,M⟩
def Qa (ha:PE X a ta):PE X (.UnaryOp .Not a pos) (Uc ta):=by
 intro af s σ H Q I h;refine UnaryOp_ (bG (ha _ s σ H _ I h) λv s1 ⟨x,O,U,d,M⟩=>?_);obtain⟨c,rfl,M⟩:=M;cases d
 exact not_of (wpAny_truthy_bool ⟨.bl _,O,U,rr,M⟩)
end
def eN (K:Frag)(H:Hp)(a:Addr)(xs:List V):Prop:=
 Rd H a (.lst xs) \/
  ∃(o:Obj)(its:AV)(n:Nat),K.lookup a=some o/\o.cls=.type "list"/\o.dict=none/\o.data=.seq its n/\its.size<=sizeLine/\aL xs its.toList
def hV (K:Frag)(H:Hp)(a:Addr)(xs:List V):Prop:=
 Rd H a (.tup xs) \/
  ∃(o:Obj)(its:AV)(n:Nat),K.lookup a=some o/\o.cls=.type "tuple"/\o.data=.seq its n/\its.size<=sizeLine/\aL xs its.toList
noncomputable def Zg:Value->Option V
 |.none=>some .non
 |.bool b=>some (.bl b)
 |.int i _=>some (.int i)
 |.str x _=>some (.str x)
 |.bytes b _=>some (.byt b)
 |.float b _=>some (.flt b)
 |.ref a=>some (.ref a)
 |.type n=>some (.ty n)
 |_=>none
def aE.abs (r:aE x u):Zg u=some x:=by
 cases x with
 |non=>cases r;rfl
 |bl _=>cases r;rfl
 |int _=>obtain⟨t,rfl⟩:=r;rfl
 |str _=>obtain⟨t,rfl⟩:=r;rfl
 |byt _=>obtain⟨t,rfl⟩:=r;rfl
 |flt _=>obtain⟨t,rfl⟩:=r;rfl
 |ref _=>cases r;rfl
 |ty _=>cases r;rfl
def aE.inj (r:aE x u)(q:aE y u):x=y:=vK (r.abs.symm.trans q.abs)
theorem aL.inj:∀ {xs ys:List V}{us:LU},aL xs us->aL ys us->xs=ys
 |_,_,_,.nil,.nil=>rr
 |_,_,_,.cons r t,.cons M t'=>by rw[r.inj M,aL.inj t t']
section
variable {X:Cx}{af:AO}{σ:St}{H:Hp}{s:Shared}{a:Addr}{xs ys:List V}
def eN.of {K:Frag}(h:H a=some (.lst xs)):eN K H a xs:=.inl (.inl h)
def hV.of {K:Frag}(h:H a=some (.tup xs)):hV K H a xs:=.inl (.inl h)
def Inv.list (I:Inv X af σ H s)(h:eN X.K H a xs):∃its:LU,aL xs its/\PlainL s.heap a its.toArray/\xs.length<=sizeLine:=by
 rcases h with h|⟨o,its,n,hk,hc,hd,hs,hz,r⟩
 .obtain⟨z,its,n,r,e⟩:=h.ok I.hok;exact⟨its,r,⟨_,n,e,rr,rr,rr⟩,z⟩
 .refine⟨its.toList,r,⟨o,n,I.kIn a o hk,hc,hd,by simpa using hs⟩,?_⟩;have e:=r.length;simp_all
def Inv.lisE {G:Prop}(I:Inv X af σ H s)(h:eN X.K H a xs)(k:∀its:LU,aL xs its->PlainL s.heap a its.toArray->xs.length<=sizeLine->G):G:=let⟨i,d,p,z⟩:=I.list h;k i d p z
def Inv.tuple (I:Inv X af σ H s)(h:hV X.K H a xs):∃its:LU,aL xs its/\IsTup s.heap a its.toArray/\xs.length<=sizeLine:=by
 rcases h with h|⟨o,its,n,hk,hc,hs,hz,r⟩
 .obtain⟨z,its,r,p⟩:=h.ok I.hok;exact⟨its,r,p,z⟩
 .refine⟨its.toList,r,⟨o,I.kIn a o hk,hc,n,by simpa using hs⟩,?_⟩;have e:=r.length;simp_all
def Inv.tupE {G:Prop}(I:Inv X af σ H s)(h:hV X.K H a xs)(k:∀its:LU,aL xs its->IsTup s.heap a its.toArray->xs.length<=sizeLine->G):G:=let⟨i,d,p,z⟩:=I.tuple h;k i d p z
def Inv.list_inj (I:Inv X af σ H s)(h:eN X.K H a xs)(h':eN X.K H a ys):xs=ys:=by
 refine cX λG g=>?_;obtain⟨its,r,⟨o,n,e,_,_,d⟩,_⟩:=I.list h;obtain⟨its',M,⟨o',U,O,_,_,d'⟩,_⟩:=I.list h';apply g;clear g;rw[e]at O;have:its=its':=by simp_all
 subst this;exact r.inj M
def Inv.tuple_inj (I:Inv X af σ H s)(h:hV X.K H a xs)(h':hV X.K H a ys):xs=ys:=by
 refine cX λG g=>?_;obtain⟨its,r,⟨o,e,_,n,d⟩,_⟩:=I.tuple h;obtain⟨its',M,⟨o',O,_,U,d'⟩,_⟩:=I.tuple h';apply g;clear g;rw[e]at O;have:its=its':=by simp_all
 subst this;exact r.inj M
end
noncomputable abbrev Cx.wish (X:Cx)(E:QV):Cx:={ X with xe:=E }
abbrev Cx.nox (X:Cx):Cx:=X.wish λ_ _=>False
def Cx.Ok.wish {X:Cx}(ok:X.Ok)(E:QV):(X.wish E).Ok:=
 ⟨ok.mod,ok.kind,ok.glob,ok.blt,ok.above,ok.inj,ok.has,ok.cab,ok.hd,ok.frames,ok.stk,ok.exf,ok.bs,ok.bsz,ok.noex,ok.exfs,ok.funs,ok.frf⟩
def Cx.Ok.unwish {X:Cx}{E:QV}(ok:(X.wish E).Ok):X.Ok:=
 ⟨ok.mod,ok.kind,ok.glob,ok.blt,ok.above,ok.inj,ok.has,ok.cab,ok.hd,ok.frames,ok.stk,ok.exf,ok.bs,ok.bsz,ok.noex,ok.exfs,ok.funs,ok.frf⟩
section
variable {X:Cx}{af:AO}{σ:St}{H:Hp}{s:Shared}{E:QV}
def Inv.wish (I:Inv X af σ H s)(E:QV):Inv (X.wish E) af σ H s:=⟨I.ok.wish E,I.os,I.bare,I.base,I.loc,I.cell,I.free,I.freeC,I.pin,I.hok,I.len⟩
def Inv.unwish (I:Inv (X.wish E) af σ H s):Inv X af σ H s:=⟨I.ok.unwish,I.os,I.bare,I.base,I.loc,I.cell,I.free,I.freeC,I.pin,I.hok,I.len⟩
def SP.unwish (h:SP (X.wish E) af D f s'):SP X af D f s':=by
 cases f with
 |next=>obtain⟨M,H',I,q⟩:=h;exact⟨M,H',I.unwish,q⟩
 |brk=>obtain⟨M,H',I,q⟩:=h;exact⟨M,H',I.unwish,q⟩
 |cont=>obtain⟨M,H',I,q⟩:=h;exact⟨M,H',I.unwish,q⟩
 |ret u=>obtain⟨v,M,H',I,r,q⟩:=h;exact⟨v,M,H',I.unwish,r,q⟩
def tE.nox {st:List Stmt}{t:TS}(h:tE X.nox st t):tE X st t:=λaf s σ H D I hw=>
 wpAny_mono (h _ s σ H D (I.wish _) hw) (λ_ _ q=>q.unwish) λ_ _ z=>False.elim z
end
section
variable {X:Cx}{st:Stmt}{ai:List Stmt}{t u:TS}{e:Expr}{te:TE}{pos:Pos}
def OG:TS:=λD σ H=>D.nx σ H
def Ue (t u:TS):TS:=λD σ H=>t { D with nx:=u D } σ H
def LG:tE X [] OG:=λ_ _ σ H _ I h=>wpAny_execs_nil ⟨σ,H,I,h⟩
def GS (h1:PS X st t)(h2:tE X ai u):tE X (st::ai) (Ue t u):=by
 intro af s σ H D I h;refine wpAny_execs_cons (bG (h1 _ s σ H _ I h) λf s1 q=>?_);cases f with
 |next=>
  obtain⟨M,H',O,q⟩:=q;exact h2 _ s1 _ H' D O q
 |ret v=>exact q
 |brk=>exact q
 |cont=>exact q
def LH (h1:PS X st t):tE X [st] t:=by
 intro af s σ H D I h;refine wpAny_execs_cons (bG (h1 _ s σ H D I h) λf s1 q=>?_);cases f with
 |next=>exact wpAny_execs_nil q
 |ret v=>exact q
 |brk=>exact q
 |cont=>exact q
def Uf:TS:=λD σ H=>D.ct σ H
def ym:PS X (.Continue pos) Uf:=λ_ _ σ H _ I h=>wpAny_Continue ⟨σ,H,I,h⟩
def Inv.quiet (I:Inv X af σ H s):interactive X.env=false:=by simp[interactive,I.ok.kind]
def Ug (te:TE):TS:=λD σ H=>te σ H λ_ M=>D.nx σ M
def wo (he:PE X e te)(hs:swapsWith e none pos.line X.env=pure false:=by rfl):PS X (.Expr e pos) (Ug te):=by
 intro af s σ H D I h;exact wpAny_Expr_any (bG (he _ s σ H _ I h) λv s1 ⟨x,M,O,a,U⟩=>⟨σ,M,O,U⟩) I.quiet hs
def Qb (te:TE):TS:=λD σ H=>te σ H D.rt
def GU (he:PE X e te):PS X (.Return (some e) pos) (Qb te):=by
 intro af s σ H D I h;exact wpAny_Return_some (bG (he _ s σ H _ I h) λv s1 ⟨x,M,O,U,a⟩=>⟨x,σ,M,O,U,a⟩)
def Uh (c:TT)(t u:TS):TS:=λD σ H=>c σ H λb M=>if b=true then t D σ M else u D σ M
def Ui {c:Expr}{a b:List Stmt}{M:TT}(hc:PT X c M)(ha:tE X a t)(hb:tE X b u):PS X (.If c a b pos) (Uh M t u):=by
 intro af s σ H D I h;refine wpAny_If (bG (hc _ s σ H _ I h) λd s1 ⟨O,U,f⟩=>?_);cases d with
 |true=>exact ha _ s1 σ O D U f
 |false=>exact hb _ s1 σ O D U f
end
abbrev TG:=V->St->Hp->(St->Hp->Prop)->Prop
abbrev OH:=List V->St->Hp->(St->Hp->Prop)->Prop
def PG (X:Cx)(M:Expr)(t:TG):Prop:=
 ∀(af:AO)(s:Shared)(σ:St)(H:Hp)(v:V)(u:Value)(Q:St->Hp->Prop),Inv X af σ H s->aE v u->t v σ H Q ->
  wq X (assign M X.env u) (λ_ s'=>∃O H',Inv X af O H' s'/\Q O H') X.xe s
def Uj (X:Cx)(O:QD)(t:OH):Prop:=
 ∀(af:AO)(s:Shared)(σ:St)(H:Hp)(vs:List V)(us:LU)(Q:St->Hp->Prop),Inv X af σ H s->aL vs us->t vs σ H Q ->
  wq X (assignInOrder ((assignEach O X.env).map (·.2)) us) (λ_ s'=>∃M H',Inv X af M H' s'/\Q M H') X.xe s
abbrev Qc:=V->V->V->Hp->(Hp->Prop)->Prop
def Uk (X:Cx)(t:Qc):Prop:=
 ∀(af:AO)(s:Shared)(σ:St)(H:Hp)(o i v:V)(M iv u:Value)(Q:Hp->Prop),Inv X af σ H s->aE o M->aE i iv->aE v u->t o i v H Q ->
  wq X (setItem M iv u) (λ_ s'=>∃H',Inv X af σ H' s'/\Q H') X.xe s
section
variable {X:Cx}{pos:Pos}
def iN (i:Nat):TG:=λv σ H Q=>Q (σ.set i (some v)) H
def Ce (M:X.N.Nodup)(hi:X.N[i]? = some x)(hx:Ly X.env.scope x)(hf:X.fn x=true\/X.env.scope.names.lookup x=some .local:=by first|exact .inl rr|exact .inr rr|assumption):PG X (.Name x pos) (iN i):=by
 intro af s σ H v u Q I r h;exact wpAny_assign_Name (yk I M hi hx r (λs' O=>⟨_,H,O,h⟩) hf)
def Ul:OH:=λvs σ H Q=>vs=[]/\Q σ H
def OJ (t:TG)(u:OH):OH:=λvs σ H Q=>∃v r,vs=v::r/\t v σ H λM H'=>u r M H' Q
def qc:Uj X [] Ul:=by
 intro af s σ H vs us Q I r h;obtain⟨e,h⟩:=h;exact assignInOrder_nil ⟨σ,H,I,h⟩
def f6 {e:Expr}{es:QD}{t:TG}{u:OH}(h1:PG X e t)(h2:Uj X es u)
  (hs:(assignEach (e::es) X.env).map (·.2)=assign e X.env::(assignEach es X.env).map (·.2):=by rfl):Uj X (e::es) (OJ t u):=by
 intro af s σ H vs us Q I r h;obtain⟨v,d,M,h⟩:=h;subst M;cases r with
 |cons r O=>
  rw[hs];refine assignInOrder_cons (bG (h1 _ s σ H _ _ _ I r h) λ_ s1 ⟨U,a,b,c⟩=>?_);exact h2 _ s1 _ a _ _ Q b O c
def GV (K:Frag)(n:Nat)(t:OH):TG:=λv σ H Q=>∃a xs,v=.ref a/\hV K H a xs/\xs.length=n/\t xs σ H Q
def AD (hc:X.calm=true)(h:Uj X es t)
  (hn:(assignEach es X.env).length=n:=by rfl) (M:(assignEach es X.env).findIdx? (·.1)=none:=by rfl):PG X (.Tuple es k pos) (GV X.K n t):=by
 intro af s σ H v u Q I r hw;obtain⟨a,xs,U,hq,hl,hw⟩:=hw;subst U;cases r
 refine I.tupE hq λits O c hz=>?_;refine assign_Tuple_tuple (I.ok.hd hc) c (by simp[hn,<-hl,O.length]) M λh' hx=>?_;have d:=I.kept (t':=s.toks) λb o e=>hx b o (vS (vX e)) e;exact h _ _ σ H xs _ Q d (by simpa using O) hw
def Zh (to ti:TE)(t:Qc):TG:=λv σ H Q=>to σ H λo M=>ti σ M λi H2=>t o i v H2 λO=>Q σ O
def Qd {o i:Expr}{to ti:TE}{t:Qc}(O:PE X o to)(hi:PE X i ti)(hs:Uk X t)
  (ha:∀v,assign (.Subscript o i pos) X.env v=(do
   let M <-holding [v] (eval o X.env)
   let iv <-holding [v,M] (eval i X.env)
   standAt pos
   holding [v,M,iv] (setItem M iv v)
   release [v,M,iv] []):=by intro _;rfl):PG X (.Subscript o i pos) (Zh to ti t):=by
 intro af s σ H v u Q I r h;refine wX (wpAny_holding (bG (O _ s σ H _ I h) λM s1 ⟨x,U,a,b,c⟩=>?_));refine wX (wpAny_holding (bG (hi _ s1 σ U _ a c) λiv s2 ⟨y,H2,d,e,q2⟩=>?_));refine wX (wpAny_standAt (wX (wpAny_holding (bG (hs _ s2 σ H2 x y v M iv u _ d b e r q2) λ_ k ⟨f,g,j⟩=>?_))));exact wpAny_release ⟨σ,f,g,j⟩
def AE (M:TE)(g:TG):TS:=λD σ H=>M σ H λx O=>g x σ O D.nx
def GW {tg e:Expr}{M:TE}{g:TG}(he:PE X e M)(O:PG X tg g)(hs:swapsWithSole [tg] e pos.line X.env=pure false:=by rfl)(hw:swappedStores [tg] e X.env=pure none:=by rfl)
  (h1:(assignEach [tg] X.env).map (·.2)=[assign tg X.env]:=by rfl):PS X (.Assign [tg] e pos) (AE M g):=by
 intro af s σ H D I h;refine wpAny_Assign_stores (bG (he _ s σ H _ I h) λv s1 ⟨x,U,a,b,c⟩=>?_) hs hw;rw[h1];exact bG (O _ s1 σ U x v _ a b c) λ_ s2 q=>q
def wt {i:Nat}{x:Str}{e:Expr}{O:TE}{M:Pos}(U:X.N.Nodup)(hi:X.N[i]? = some x)(hx:Ly X.env.scope x)(he:PE X e O)(hs:swapsWith e (some (.Name x M)) pos.line X.env=pure false:=by rfl)(hf:X.fn x=true\/X.env.scope.names.lookup x=some .local:=by first|exact .inl rr|exact .inr rr|assumption):
  PS X (.Assign [.Name x M] e pos) (AE O (iN i)):=by
 intro af s σ H D I h;refine wpAny_Assign_Name (bG (he _ s σ H _ I h) λv s1 ⟨y,a,b,c,d⟩=>?_) hs;exact yk b U hi hx c (λs2 f=>⟨_,a,f,d⟩) hf
end
section
variable {X:Cx}{pos:Pos}
def GX (c:TT)(tb:TS):TS:=λD σ H=>∃W:Nat->St->Hp->Prop,(∃m,W m σ H)/\∀m σ H,W m σ H ->
 c σ H λb O=>if b=true then ∃N:St->Hp->Prop,(∀M H',N M H'->∃U,U<m/\W U M H')/\tb { D with nx:=N,ct:=N,bk:=D.nx } σ O else D.nx σ O
def GY {c:Expr}{M:List Stmt}{l:TT}{tb:TS}(hp:PassesOwn (model X.prog X.w) X.A X.env X.xe)(hc:PT X c l)(hb:tE X M tb):PS X (.While c M [] pos) (GX l tb):=by
 intro af s σ H D I h;obtain⟨W,⟨q,r⟩,U⟩:=h;refine wpAny_While (codeAny_whileLoop (λn s'=>∃a H',Inv X _ a H' s'/\W n a H') ?_ q ⟨σ,H,I,r⟩);rintro n s1 ⟨g,m,t,u⟩;refine wpAny_passesOwn hp (bG (hc _ s1 _ m _ t (U n _ m u)) λb s2 ⟨H2,o,q2⟩=>?_);cases b with
 |true=>
  obtain⟨N,p,q2⟩:=q2;refine wpAny_passesOwn hp (bG (hb _ s2 _ H2 _ o q2) λf x e=>?_);cases f with
  |next=>
   obtain⟨O,d,i,n3⟩:=e;obtain⟨j,hm,k⟩:=p _ d n3;exact⟨j,hm,O,d,i,k⟩
  |cont=>
   obtain⟨O,d,i,n3⟩:=e;obtain⟨j,hm,k⟩:=p _ d n3;exact⟨j,hm,O,d,i,k⟩
  |brk=>exact e
  |ret v=>exact e
 |false=>
  exact wpAny_execs_nil ⟨g,H2,o,q2⟩
end
structure It where
 go:Nat->Hp->Prop
 yld:Nat->Hp->V->Hp->Prop
 stop:Nat->Hp->Prop
def lC (X:Cx)(af:AO)(H:Hp)(b:Addr):Prop:=
 H b=none/\b≠X.env.locals/\b∉X.fs/\(b∈X.ex\/X.s₀.z<=b)/\(∀x c,X.env.cells.lookup x=some c->c≠b)/\∀p∈X.pn++af,p.1≠b
def Inv.fpOk (I:Inv X af σ H s)(hb:s.z<=b)(hn:H' b=none):lC X af H' b:=by
 refine⟨hn,ne_of_gt (vQ I.lt hb),I.nofs hb,.inr (vR I.sz hb),λx c e z=>?_,λp hp z=>?_⟩
 .obtain⟨v,q⟩:=I.cell x c e;exact absurd (vQ q.lt (by rw[z];exact hb)) (Nat.lt_irrefl _)
 .exact absurd (vQ (vX (I.pin p hp).1) (by rw[z];exact hb)) (Nat.lt_irrefl _)
structure Turn (P:Program)(w:World)(K:Frag)(tg:Expr)(J:It)(fp:List Addr)(it:Addr)(tn:Nat->Heap->Prop):Prop where
 mem:it∈fp
 obj:∀i h,tn i h->∀b∈fp,∃o,h.get? b=some o/\∀v,o.data≠.cell v
 keep:∀i h h',tn i h->(∀b∈fp,∀o,h.get? b=some o->h'.get? b=some o)->tn i h'
 item:∀(X:Cx),X.prog=P->X.w=w->X.K=K->X.calm=true->∀(i:Nat)(af:List (Addr×Obj))(s:Shared)(σ:St)(H:Hp)(E:Value->Shared->Prop),Inv X af σ H s->(∀b∈fp,lC X af H b)->tn i s.heap->J.go i H ->
  wpAny (model P w) X.A (pyNext (.ref it)) (λr s1=>∃u,r=some u /\
   wpAny (model P w) X.A (letOwnedTupleGo tg (.ref it) u) (λ_ s2=>∃x H',Inv X af σ H' s2/\aE x u/\J.yld i H x H'/\tn (i+1) s2.heap/\∀b∈fp,H' b=none) E s1) E s
 done:∀(X:Cx),X.prog=P->X.w=w->X.K=K->X.calm=true->∀(i:Nat)(af:List (Addr×Obj))(s:Shared)(σ:St)(H:Hp)(E:Value->Shared->Prop),Inv X af σ H s->(∀b∈fp,lC X af H b)->tn i s.heap->J.stop i H ->
  wpAny (model P w) X.A (pyNext (.ref it)) (λr s1=>r=none/\Inv X af σ H s1) E s
 self:∀(A:Around)(i:Nat)(s:Shared)(Q:Value->Shared->Prop)(E:Value->Shared->Prop),tn i s.heap->Q (.ref it) s->wpAny (model P w) A (pyIter (.ref it)) Q E s
abbrev TI:=St->Hp->(It->Hp->Prop)->Prop
def PIE (X:Cx)(af:AO)(σ:St)(tg:Expr)(R:It->Hp->Prop)(M:Value)(s2:Shared):Prop:=
 ∃(it:Addr)(fp:List Addr)(tn:Nat->Heap->Prop)(J:It)(H':Hp),M=.ref it/\Inv X af σ H' s2/\Turn X.prog X.w X.K tg J fp it tn/\tn 0 s2.heap/\(∀b∈fp,lC X af H' b)/\R J H'
def PI (X:Cx)(tg M:Expr)(O:TI):Prop:=
 ∀(af:AO)(s:Shared)(σ:St)(H:Hp)(R:It->Hp->Prop),Inv X af σ H s->O σ H R ->
  wq X (eval M X.env) (λv s1=>wq X (pyIter v) (PIE X af σ tg R) X.xe s1) X.xe s
def q8 (U:s.heap.get? it=some o)(hc:o.cls=.type n)(hd:o.data=.fields vs)
    (hn:["enumerate","zip","dict_itemiterator","dict_reverseitemiterator","odict_iterator","itertools.zip_longest","itertools.pairwise"].contains n=false) (O:Q () s):wpAny M A (letOwnedTupleGo tg (.ref it) u) Q E s:=by
  cases tg<;>first
    |exact wY O
    | (cases u<;>first
        |exact wY O
        | (refine wX (wpAny_load U ?_)
           rw[hc,hd]
           show wpAny M A (if(["enumerate","zip","dict_itemiterator","dict_reverseitemiterator","odict_iterator","itertools.zip_longest","itertools.pairwise"].contains n && vs[0]? == some _)=true then _ else _) Q E s
           rw[if_neg (by intro h;rw[hn]at h;cases h)]
           exact wY O))
noncomputable def Itl (K:Frag)(a:Addr):It:=
 ⟨λi H=>∃xs x,eN K H a xs/\xs[i]? = some x,λi H x H'=>H'=H/\∀xs,eN K H a xs->xs[i]? = some x,λi H=>∃xs,eN K H a xs/\xs.length<=i⟩
noncomputable def Itt (K:Frag)(a:Addr):It:=
 ⟨λi H=>∃xs x,hV K H a xs/\xs[i]? = some x,λi H x H'=>H'=H/\∀xs,hV K H a xs->xs[i]? = some x,λi H=>∃xs,hV K H a xs/\xs.length<=i⟩
noncomputable def Y2 (lo:Int)(n:Nat):It:=⟨λi _=>i<n,λi H x H'=>H'=H/\x=.int (lo+i),λi _=>n<=i⟩
def EY {P:Program}{w:World}{K:Frag}{tg:Expr}(a it:Addr):Turn P w K tg (Itl K a) [it] it (λi h=>h.IsListIter it a i) where
 mem:=H9
 obj:=λi h st b hb=>by
  have e:=by simpa using hb
  obtain⟨o,e,c,d⟩:=st;simp_all
 keep:=λi h h' st k=>st.at λo e=>k it H9 o e
 item:=by
  intro X O hw U hc i af s σ H E I hf st f;subst O hw U;refine cX λG W=>?_;obtain⟨xs,x,hq,hx⟩:=f;refine I.lisE hq λits g p hz=>?_;obtain⟨u,hu,ru⟩:=g.get hx;obtain⟨j,f1,f2,l,m,n⟩:=hf it H9;apply W;clear W;refine wpAny_pyNext_list_item st p.isList (by simpa using hu) λh' M q=>?_;have r:=I.turned (t':=s.toks) (λb o hb e=>(q.2 b hb).trans e) j f1 l m n;obtain⟨o,e,c,d⟩:=id M;exact⟨u,rr,q8 e c d P9 ⟨x,H,r,ru,⟨rr,λys hy=>by rw[I.list_inj hy hq];exact hx⟩,M,λb hb=>(hf b hb).1⟩⟩
 done:=by
  intro X O hw U hc i af s σ H E I hf st f;subst O hw U;refine cX λG W=>?_;obtain⟨xs,hq,hx⟩:=f;refine I.lisE hq λits g p hz=>?_;obtain⟨j,f1,f2,l,m,n⟩:=hf it H9;apply W;clear W;have hl:=g.length;exact wpAny_pyNext_list_end (I.ok.hd hc) st p.isList s9 λh' t=>⟨rr,I.turned (λb o hb e=>t b o hb e) j f1 l m n⟩
 self:=λ_ _ _ _ _ st h=>wpAny_pyIter_listiter st h
def AF {P:Program}{w:World}{K:Frag}{tg:Expr}(a it:Addr):Turn P w K tg (Itt K a) [it] it (λi h=>h.IsTupleIter it a i) where
 mem:=H9
 obj:=λi h st b hb=>by
  have e:=by simpa using hb
  obtain⟨o,e,c,d⟩:=st;simp_all
 keep:=λi h h' st k=>st.at λo e=>k it H9 o e
 item:=by
  intro X O hw U hc i af s σ H E I hf st f;subst O hw U;refine cX λG W=>?_;obtain⟨xs,x,hq,hx⟩:=f;refine I.tupE hq λits g p hz=>?_;obtain⟨u,hu,ru⟩:=g.get hx;obtain⟨j,f1,f2,l,m,n⟩:=hf it H9;apply W;clear W;refine wpAny_pyNext_tuple_item st (show s.heap.IsTuple a _ from p) (by simpa using hu) λh' M q=>?_;have r:=I.turned (t':=s.toks) (λb o hb e=>(q.2 b hb).trans e) j f1 l m n;obtain⟨o,e,c,d⟩:=id M;exact⟨u,rr,q8 e c d P9 ⟨x,H,r,ru,⟨rr,λys hy=>by rw[I.tuple_inj hy hq];exact hx⟩,M,λb hb=>(hf b hb).1⟩⟩
 done:=by
  intro X O hw U hc i af s σ H E I hf st f;subst O hw U;refine cX λG W=>?_;obtain⟨xs,hq,hx⟩:=f;refine I.tupE hq λits g p hz=>?_;obtain⟨j,f1,f2,l,m,n⟩:=hf it H9;apply W;clear W;have hl:=g.length;exact wpAny_pyNext_tuple_end (I.ok.hd hc) st (show s.heap.IsTuple a _ from p) s9 λh' t=>⟨rr,I.turned (λb o hb e=>t b o hb e) j f1 l m n⟩
 self:=λ_ _ _ _ _ st h=>wpAny_pyIter_tupleiter st h
def AG {P:Program}{w:World}{K:Frag}{tg:Expr}(it:Addr)(lo:Int)(n:Nat):Turn P w K tg (Y2 lo n) [it] it (λi h=>IsRangeIter h it (lo+(i:Nat)*1) ((n:Int) - (i:Nat)) 1) where
 mem:=H9
 obj:=λi h st b hb=>by
  simp_all
 keep:=λi h h' st k=>k it H9 _ st
 item:=by
  intro X f hw g hc i af s σ H E I hf st O;subst f hw g;obtain⟨U,f1,f2,a,c,d⟩:=hf it H9;have W:=Walks.range (prog:=X.prog) (w:=X.w) (I.ok.hd hc) it lo 1 n;refine W.item i s _ _ O st λv h' tk hv M j=>?_;obtain⟨t,rfl⟩:=hv;have l:Inv X _ σ H { s with heap:=h',toks:=tk }:=I.turned (λb o hb e=>j b o (by simpa using hb) e) U f1 a c d;refine⟨_,rr,q8 M rr rr P9 ⟨.int _,H,l,⟨t,?_⟩,⟨rr,rr⟩,M,λb hb=>(hf b hb).1⟩⟩;simp
 done:=by
  intro X f hw g hc i af s σ H E I hf st O;obtain⟨U,f1,f2,a,c,d⟩:=hf it H9;exact wpAny_pyNext_range_end (I.ok.hd hc) st (by have:n<=i:=O;lia) λh' m=>⟨rr,I.turned (λb o hb e=>m b o hb e) U f1 a c d⟩
 self:=λ_ _ _ _ _ st h=>wpAny_pyIter_rangeiter st h
section
variable {X:Cx}{tg:Expr}
def Um (K:Frag)(tl:TE):TI:=λσ H R=>tl σ H λx M=>∃a,x=.ref a/\(∃xs,eN K M a xs)/\R (Itl K a) M
def Zi (K:Frag)(tl:TE):TI:=λσ H R=>tl σ H λx M=>∃a,x=.ref a/\(∃xs,hV K M a xs)/\R (Itt K a) M
def LJ {l:Expr}{tl:TE}(hl:PE X l tl):PI X tg l (Um X.K tl):=by
 intro af s σ H R I h;refine bG (hl _ s σ H _ I h) λv s1 ⟨x,O,M,U,c⟩=>?_;obtain⟨a,e,⟨xs,hq⟩,q⟩:=c;subst e;cases U
 refine M.lisE hq λits d p hz=>?_;refine wpAny_pyIter_list p.isList ?_;refine⟨s1.z,[s1.z],_,_,O,rr,M.kept λb o e=>vZ _ e,EY a _,⟨_,vY _ rr,rr,rr⟩,λb hb=>?_,q⟩;have e:=by simpa using hb
 subst e;exact M.fpOk (vT _) (M.hok.fresh (vT _))
def Qe {l:Expr}{tl:TE}(hl:PE X l tl):PI X tg l (Zi X.K tl):=by
 intro af s σ H R I h;refine bG (hl _ s σ H _ I h) λv s1 ⟨x,O,M,U,c⟩=>?_;obtain⟨a,e,⟨xs,hq⟩,q⟩:=c;subst e;cases U
 refine M.tupE hq λits d p hz=>?_;refine wpAny_pyIter_tuple (show s1.heap.IsTuple a _ from p) ?_;refine⟨s1.z,[s1.z],_,_,O,rr,M.kept λb o e=>vZ _ e,AF a _,⟨_,vY _ rr,rr,rr⟩,λb hb=>?_,q⟩;have e:=by simpa using hb
 subst e;exact M.fpOk (vT _) (M.hok.fresh (vT _))
def GZ {af:AO}{σ:St}{H:Hp}{s:Shared}{R:It->Hp->Prop}{E:QV}{lo hi:Int}{t u v:Tok}{tk:Nat}(I:Inv X af σ H s)(h1 : -(2 ^ 62)<=lo)(h2:lo<2 ^ 62)(h3 : -(2 ^ 62)<=hi)(h4:hi<2 ^ 62)
  (q:R (Y2 lo (hi - lo).toNat) H):wq X (pyIter (.ref s.z)) (PIE X af σ tg R) E { s with heap:=s.heap.push { cls:=.type "range",data:=.fields #[.int lo t,.int hi u,.int 1 v] },toks:=tk }:=by
 refine wpAny_pyIter_range (IsRange.new ..) (small_one h1 h2 h3 h4) ?_;have M:Inv X _ σ H { s with heap:=s.heap.push { cls:=.type "range",data:=.fields #[.int lo t,.int hi u,.int 1 v] },toks:=tk }:=I.kept λb o e=>vZ _ e;refine⟨(s.heap.push _).objs.size,[(s.heap.push _).objs.size],_,_,H,rr,
  M.kept λb o e=>vZ _ e,AG _ lo _,?_,λb hb=>?_,q⟩
 .have O:lo+((0:Nat):Int)*1=lo:=H9
  have e2:(((hi - lo).toNat:Nat):Int) - ((0:Nat):Int)=Builtin.Range.rangeSize lo hi 1:=by rw[rangeSize_one];split<;>lia
  rw[O,e2];exact vY _ rr
 .have e:b=(s.heap.push { cls:=.type "range",data:=.fields #[.int lo t,.int hi u,.int 1 v] }).objs.size:=by simpa using hb
  subst e;exact M.fpOk (vT _) (M.hok.fresh (vT _))
def Uo (ta:TA):TI:=λσ H R=>ta σ H λvs M=>∃j:Int,vs=[.int j]/\-(2 ^ 62)<=j/\j<2 ^ 62/\R (Y2 0 j.toNat) M
def EZ {a:Expr}{ta:TA}{p M:Pos}(U:Gl X "range")(hm:X.mg "range" = none)(ha:PA X [a] ta)(hs:cL a X.env:=by rfl):PI X tg (.Call (.Name "range" p) [a] [] M) (Uo ta):=by
 intro af s σ H R I h;refine Call_ (fG I U hm boot_range (PyProof.Rows.callWith_type1 (bG (ha _ _ s σ H _ I h) λus s1 ⟨vs,f,b,c,O⟩=>?_) hs rr));obtain⟨j,e,O,q2,q⟩:=O;subst e;cases c with
 |cons r d=>
  cases d
  obtain⟨t,rfl⟩:=r;exact call_range_1 (GZ b N9 N9 O q2 (by simpa using q))
def Qf (a:TI)(g:TG)(tb:TS):TS:=λD σ H=>a σ H λJ b=>∃W:Nat->Nat->St->Hp->Prop,(∃m,W 0 m σ b)/\∀i m σ H,W i m σ H ->
 (J.stop i H/\D.nx σ H)\/(J.go i H/\∃N:St->Hp->Prop,(∀M H',N M H'->∃U,U<m/\W (i+1) U M H')/\∀x H',J.yld i H x H'->g x σ H' λO H2=>tb { D with nx:=N,ct:=N,bk:=D.nx } O H2)
def qA (fp:List Addr)(h:Heap):AO:=fp.filterMap λb=>(h.get? b).map λo=>(b,o)
def jh {fp:List Addr}{h:Heap}{b:Addr}{o:Obj}(hb:b∈fp)(e:h.get? b=some o):(b,o)∈qA fp h:=mem_filterMap.mpr ⟨b,hb,by rw[e];rfl⟩
def Fa (hp:p∈qA fp h):p.1∈fp/\h.get? p.1=some p.2:=by
 obtain⟨b,hb,e⟩:=mem_filterMap.mp hp;simp_all<;>lia
def Inv.pinned (I:Inv X af σ H s)(hf:∀b∈fp,lC X af H b)(M:∀b∈fp,∃o,s.heap.get? b=some o/\∀v,o.data≠.cell v):Inv X (af++qA fp s.heap) σ H s:=
 I.pins_of λp hp=>(mem_append.mp hp).elim (λz=>I.pin p (mY _ z)) λz=>by
  obtain⟨hb,e⟩:=Fa z;obtain⟨O,f1,f2,_⟩:=hf _ hb;grind
def Inv.unpinned (I:Inv X (af++pl) σ H s):Inv X af σ H s:=I.pins_of λp hp=>I.pin p (mY _ (mem_append_left _ hp))
def Ha {O:Expr}{l:List Stmt}{K:TI}{g:TG}{tb:TS}{z:Pos}(hp:PassesOwn (model X.prog X.w) X.A X.env X.xe)(hc:X.calm=true)(hi:PI X tg O K)(S:PG X tg g)(hb:tE X l tb)
  (hs:∀x,foldedSetIterable O X.env x=pure x:=by intro _;rfl):PS X (.For tg O l [] z) (Qf K g tb):=by
 intro af s σ H D I h;refine wpAny_For (bG (hi af s σ H _ I h) λv s1 h1=>bG h1 λV s2 h2=>?_) hs;refine cX λr V=>?_;obtain⟨it,fp,tn,J,H2,e,Y,T,Z,f2,W,⟨m0,w0⟩,SN⟩:=h2;apply V;subst e
 -- what stays true of the iterator's objects through the loop
 have U:∀ {H':Hp},(∀b∈fp,H' b=none)->∀b∈fp,lC X af H' b:=λhn b hb=>⟨hn b hb,(f2 b hb).2⟩;refine codeAny_forLoop_any (λn s'=>∃i a H',Inv X af a H' s'/\tn i s'.heap/\(∀b∈fp,H' b=none)/\W i n a H') ?_ m0 ⟨0,σ,H2,Y,Z,λb hb=>(f2 b hb).1,w0⟩;rintro n L ⟨i,c,y,P,Q,t,w3⟩;rcases SN i n c y w3 with⟨stop,qn⟩|⟨go,N,hN,step⟩
 .refine wpAny_passesOwn hp (bG (T.done X rr rr rr hc i af L c y X.xe P (U t) Q stop) λr s4 ⟨B,I4⟩=>?_);subst B;exact wpAny_execs_nil ⟨c,y,I4,qn⟩
 .refine wpAny_passesOwn hp (bG (T.item X rr rr rr hc i af L c y X.xe P (U t) Q go) λr s4 ⟨u,B,h4⟩=>?_);subst B;refine wpAny_passesOwn hp (bG h4 λ_ s5 ⟨x,R,I5,r5,y5,q,C⟩=>?_);have E:=I5.pinned (U C) (T.obj _ _ q);refine wpAny_passesOwn hp (bG (S _ s5 c R x u _ E r5 (step x R y5)) λ_ s6 ⟨F,H6,I6,q6⟩=>?_);refine wpAny_passesOwn hp (bG (hb _ s6 F H6 _ I6 q6) λf G p=>?_);have again:∀ {M:St}{j:Hp},Inv X _ M j G->N M j->∃m,m<n/\∃i a H',Inv X af a H' G/\tn i G.heap/\(∀b∈fp,H' b=none)/\W i m a H':=λ{M j} k n7=>by
   obtain⟨m',hm,w7⟩:=hN M j n7;refine⟨m',hm,i+1,M,j,k.unpinned,T.keep _ _ _ q λb hb o e=>(k.pin (b,o) (mY _ (mY _ (jh hb e)))).1,λb hb=>?_,w7⟩;obtain⟨o,e,d⟩:=T.obj _ _ q b hb;exact(k.pin (b,o) (mY _ (mY _ (jh hb e)))).2.1
  cases f with
  |next=>obtain⟨M,j,k,n7⟩:=p;exact again k n7
  |cont=>obtain⟨M,j,k,n7⟩:=p;exact again k n7
  |brk=>obtain⟨M,j,k,p⟩:=p;exact⟨M,j,k.unpinned,p⟩
  |ret v=>obtain⟨x7,M,j,k,r7,p⟩:=p;exact⟨x7,M,j,k.unpinned,r7,p⟩
end
abbrev R2:=V->V->Hp->VK->Prop
def cJ (X:Cx)(f:Value->Value->Sem Value)(r:R2):Prop:=
 ∀(af:AO)(s:Shared)(σ:St)(H:Hp)(x y:V)(v u:Value)(Q:VK),Inv X af σ H s->aE x v->aE y u->r x y H Q ->
  wq X (f v u) (EP X af σ Q) X.xe s
def Ur (X:Cx)(f:Value->Sem Value)(r:V->Hp->VK->Prop):Prop:=
 ∀(af:AO)(s:Shared)(σ:St)(H:Hp)(x:V)(v:Value)(Q:VK),Inv X af σ H s->aE x v->r x H Q ->
  wq X (f v) (EP X af σ Q) X.xe s
def b7 (X:Cx)(f:Value)(r:List V->Hp->VK->Prop):Prop:=
 ∀(af:AO)(s:Shared)(σ:St)(H:Hp)(xs:List V)(us:LU)(Q:VK),Inv X af σ H s->aL xs us->r xs H Q ->
  wq X (call f us) (EP X af σ Q) X.xe s
def Y3 (r:R2)(ta tb:TE):TE:=λσ H Q=>ta σ H λx M=>tb σ M λy H2=>r x y H2 Q
def tUn (r:V->Hp->VK->Prop)(ta:TE):TE:=λσ H Q=>ta σ H λx M=>r x M Q
def rI (C:Int->Int->Prop)(g:Int->Int->V):R2:=λx y H Q=>∃i j,x=.int i/\y=.int j/\C i j/\Q (g i j) H
def Lz (g:Int->Int->V):R2:=λx y H Q=>∃i j,x=.int i/\y=.int j/\Q (g i j) H
def rU (g:Int->V):V->Hp->VK->Prop:=λx H Q=>∃i,x=.int i/\Q (g i) H
section
variable {X:Cx}{a b c:Expr}{ta tb tc:TE}{pos:Pos}
def Qg (ha:PE X a ta)(hb:PE X b tb){af:AO}{s:Shared}{σ:St}{H:Hp}{R:V->V->Hp->Prop}(I:Inv X af σ H s)
  (h:ta σ H λx U=>tb σ U λy H2=>R x y H2) {Q:QV}{f:Value->Value->Sem Value}
  (hf:∀v u s2 x y H2,Inv X af σ H2 s2->aE x v->aE y u->R x y H2->wq X (f v u) Q X.xe s2):
  wq X (eval a X.env) (λv M=>wq X (eval b X.env) (λu O=>wq X (f v u) Q X.xe O) X.xe M) X.xe s:=by
 refine bG (ha _ s σ H _ I h) λv s1 ⟨x,U,d,e,g⟩=>?_;refine bG (hb _ s1 σ U _ d g) λu s2 ⟨y,H2,i,j,q2⟩=>?_;exact hf v u s2 x y H2 i e j q2
def Us {op:Operator}{r:R2}(M:cJ X (binaryOp op) r)(ha:PE X a ta)(hb:PE X b tb):PE X (.BinOp a op b pos) (Y3 r ta tb):=by
 intro af s σ H Q I h;exact wpAny_BinOp (Qg ha hb I h λv u s2 x y H2 O U d q=>M _ s2 σ H2 x y v u Q O U d q)
def Ut {op:UnaryOp}{r:V->Hp->VK->Prop}(M:Ur X (unaryOp op) r)(ha:PE X a ta):PE X (.UnaryOp op a pos) (tUn r ta):=by
 intro af s σ H Q I h;exact UnaryOp_ (bG (ha _ s σ H _ I h) λv s1 ⟨x,O,U,d,e⟩=>M _ s1 σ O x v Q U d e)
def Uu {f:Value->Value->Sem Value}{C:Int->Int->Prop}{g:Int->Int->Int}
  (rule:∀(i j:Int)(t u:Tok)(s:Shared)(Q:QV)(E:QV),C i j->Q (.int (g i j) s.toks) { s with toks:=s.toks+1 }->wq X (f (.int i t) (.int j u)) Q E s):
  cJ X f (rI C λi j=>.int (g i j)):=by
 intro af s σ H x y v u Q I M O h;obtain⟨i,j,rfl,rfl,hc,q⟩:=h;obtain⟨t,rfl⟩:=M;obtain⟨t',rfl⟩:=O;exact rule i j t t' s _ _ hc ⟨.int _,H,I.tok _,⟨_,rr⟩,q⟩
def Qh {f:Value->Value->Sem Value}{g:Int->Int->Int}
  (rule:∀(i j:Int)(t u:Tok)(s:Shared)(Q:QV)(E:QV),Q (.int (g i j) s.toks) { s with toks:=s.toks+1 }->wq X (f (.int i t) (.int j u)) Q E s):
  cJ X f (Lz λi j=>.int (g i j)):=by
 intro af s σ H x y v u Q I M O h;obtain⟨i,j,rfl,rfl,q⟩:=h;obtain⟨t,rfl⟩:=M;obtain⟨t',rfl⟩:=O;exact rule i j t t' s _ _ ⟨.int _,H,I.tok _,⟨_,rr⟩,q⟩
def LL {f:Value->Value->Sem Value}{g:Int->Int->Bool}
  (rule:∀(i j:Int)(t u:Tok)(s:Shared)(Q:QV)(E:QV),Q (.bool (g i j)) s->wq X (f (.int i t) (.int j u)) Q E s):
  cJ X f (Lz λi j=>.bl (g i j)):=by
 intro af s σ H x y v u Q I M O h;obtain⟨i,j,rfl,rfl,q⟩:=h;obtain⟨t,rfl⟩:=M;obtain⟨t',rfl⟩:=O;exact rule i j t t' s _ _ ⟨.bl _,H,I,rr,q⟩
def Uv (i j:Int):Prop:=0<j/\j<1073741824
def Uw (i j:Int):Prop:=0<=j/\j<=1000000/\i.natAbs<2 ^ 64
def LM (i j:Int):Prop:=(-(2 ^ 64)<i/\i<2 ^ 64)\/(-(2 ^ 64)<j/\j<2 ^ 64)
def LM.ok (h:LM i j):IntMulOk i j:=by
 rcases h with⟨h1,h2⟩|⟨h1,h2⟩
 .exact .of_left (intBits_le_64 h1 h2)
 .exact .of_right (intBits_le_64 h1 h2)
def Qi:cJ X (binaryOp .Add) (Lz λi j=>.int (i+j)):=Qh λ_ _ _ _ _ _ _ q=>add_int q
def Qj:cJ X (binaryOp .Sub) (Lz λi j=>.int (i - j)):=Qh λ_ _ _ _ _ _ _ q=>sub_int q
def Qk:cJ X (binaryOp .Mult) (rI LM λi j=>.int (i*j)):=Uu λ_ _ _ _ _ _ _ hc q=>mul_int q hc.ok
def LO:cJ X (binaryOp .FloorDiv) (rI Uv λi j=>.int (i / j)):=Uu λi j _ _ _ _ _ hc q=>by
 have h1:=hc.1;have h2:=hc.2;grind[floordiv_int,PyProof.noPylong_small]
def Ql:cJ X (binaryOp .Mod) (rI (λ_ j=>0<j) λi j=>.int (i % j)):=Uu λi j _ _ _ _ _ hc q=>by
 exact mod_int' N9 (by rw[Int.fmod_eq_emod_of_nonneg i N9];exact q)
def Qm:cJ X (binaryOp .Pow) (rI Uw λi j=>.int (i ^ j.toNat)):=Uu λ_ _ _ _ _ _ _ hc q=>pow_int_small hc.1 hc.2.1 hc.2.2 q
def Qn:cJ X (binaryOp .BitAnd) (Lz λi j=>.int (Builtin.bitAnd i j)):=Qh λ_ _ _ _ _ _ _ q=>and_int q
def unI {f:Value->Sem Value}{g:Int->Int}
  (rule:∀(i:Int)(t:Tok)(s:Shared)(Q:QV)(E:QV),Q (.int (g i) s.toks) { s with toks:=s.toks+1 }->wq X (f (.int i t)) Q E s):
  Ur X f (rU λi=>.int (g i)):=by
 intro af s σ H x v Q I M h;obtain⟨i,rfl,q⟩:=h;obtain⟨t,rfl⟩:=M;exact rule i t s _ _ ⟨.int _,H,I.tok _,⟨_,rr⟩,q⟩
def Qo:Ur X (unaryOp .USub) (rU λi=>.int (-i)):=unI λ_ _ _ _ _ q=>neg_int q
def Fb:cJ X (binaryOp .Add) (λx y H Q=>∃i k,x=.int i/\y=.bl k/\Q (.int (i+b2i k)) H):=by
 intro af s σ H x y v u Q I M O h;obtain⟨i,k,rfl,rfl,q⟩:=h;obtain⟨t,rfl⟩:=M;cases O
 exact add_int_bool ⟨.int _,H,I.tok _,⟨_,rr⟩,q⟩
end
section
variable {X:Cx}{a b c:Expr}{ta tb tc:TE}{pos:Pos}
def Ux:cJ X (compareOp .Lt) (Lz λi j=>.bl (decide (i<j))):=LL λ_ _ _ _ _ _ _ q=>lt_int q
def Uy:cJ X (compareOp .LtE) (Lz λi j=>.bl (decide (i<=j))):=LL λ_ _ _ _ _ _ _ q=>le_int q
def Uz:cJ X (compareOp .Gt) (Lz λi j=>.bl (decide (j<i))):=LL λ_ _ _ _ _ _ _ q=>gt_int q
def U0:cJ X (compareOp .GtE) (Lz λi j=>.bl (decide (j<=i))):=LL λ_ _ _ _ _ _ _ q=>ge_int q
def LP (M:cJ X (compareOp op) r)(ha:PE X a ta)(hb:PE X b tb)(hm:behindInMarks op b=false):PE X (.Compare a [op] [b] pos) (Y3 r ta tb):=by
 intro af s σ H Q I h;exact wpAny_Compare1 (Qg ha hb I h λv u s2 x y H2 O U d q=>M _ s2 σ H2 x y v u Q O U d q) hm
def OK (t:TE):TT:=λσ H Q=>t σ H λx H'=>∃k,x=.bl k/\Q k H'
def Cf {op:CmpOp}{r:R2}(M:cJ X (compareOp op) r)(ha:PE X a ta)(hb:PE X b tb)(hm:behindInMarks op b=false):PT X (.Compare a [op] [b] pos) (OK (Y3 r ta tb)):=by
 intro af s σ H Q I h;refine wpAny_isTrue_Compare1 (bG (ha _ s σ H _ I h) λv s1 ⟨x,O,U,d,f⟩=>bG (hb _ s1 σ O _ U f) λu s2 ⟨y,H2,g,i,q2⟩=>
  bG (M _ s2 σ H2 x y v u _ g d i q2) λc o ⟨z,j,l,m,k,e,n⟩=>?_) hm
 subst e;cases m
 exact wpAny_truthy_bool ⟨j,l,n⟩
def AH (r O:R2)(ta tb tc:TE):TE:=λσ H Q=>ta σ H λx U=>tb σ U λy H2=>r x y H2 λz M=>∃k,z=.bl k /\
 (if k=true then tc σ M λd e=>O y d e Q else Q (.bl false) M)
def Hb {op M:CmpOp}{r U:R2}(l:cJ X (compareOp op) r)(O:cJ X (compareOp M) U)(ha:PE X a ta)(hb:PE X b tb)(hc:PE X c tc)
  (hm:lastMarks [op,M] [b,c]=false:=by with_unfolding_all rfl):PE X (.Compare a [op,M] [b,c] pos) (AH r U ta tb tc):=by
 intro af s σ H Q I h;refine Compare_chain (bG (ha _ s σ H _ I h) λv s1 ⟨x,m,n,o,p⟩=>chain_link (bG (hb _ s1 σ m _ n p) λu s2 ⟨y,H2,q,f,q2⟩=>
  bG (l _ s2 σ H2 x y v u _ q o f q2) λd t ⟨z,g,i,w,k,e,j⟩=>?_)) hm
 subst e;cases w
 refine wpAny_truthy_bool ?_;cases k with
 |false=>exact ite_ff ⟨.bl _,g,i,rr,j⟩
 |true=>exact ite_tt (chain_last (bG (hc _ t σ g _ i j) λA B ⟨C,D,E,F,G⟩=>O _ B σ D y C u A Q E f F G))
def Hd {op M:CmpOp}{r U:R2}(l:cJ X (compareOp op) r)(O:cJ X (compareOp M) U)(ha:PE X a ta)(hb:PE X b tb)(hc:PE X c tc)
  (hm:lastMarks [op,M] [b,c]=false:=by with_unfolding_all rfl):PT X (.Compare a [op,M] [b,c] pos) (OK (AH r U ta tb tc)):=by
 intro af s σ H Q I h;refine isTrue_chain (bG (ha _ s σ H _ I h) λv s1 ⟨x,m,n,o,p⟩=>test_link (bG (hb _ s1 σ m _ n p) λu s2 ⟨y,H2,q,f,q2⟩=>
  bG (l _ s2 σ H2 x y v u _ q o f q2) λd t ⟨z,g,i,w,k,e,j⟩=>?_)) hm
 subst e;cases w
 refine wpAny_truthy_bool ?_;cases k with
 |false=>
  obtain⟨k',A,B⟩:=j;cases A
  exact ite_ff ⟨g,i,B⟩
 |true=>
  refine ite_tt (test_last (bG (hc _ t σ g _ i j) λC D ⟨E,F,G,J,K⟩=>bG (O _ D σ F y E u C _ G f J K) λd' S ⟨T,L,N,P,k2,e2,R⟩=>?_));subst e2;cases P
  exact wpAny_truthy_bool ⟨L,N,R⟩
def nZ:(sizeLine:Nat)<2 ^ 63:=P9
def AI:cJ X (binaryOp .Add) (λx y H Q=>∃i j,x=.str i/\y=.str j/\i.length+j.length<=sizeLine/\Q (.str (i++j)) H):=by
 intro af s σ H x y v u Q I M O h;obtain⟨i,j,rfl,rfl,hz,q⟩:=h;obtain⟨t,rfl⟩:=M;obtain⟨t',rfl⟩:=O;exact add_str (λt' tk=>⟨.str _,H,I.tok _,⟨_,rr⟩,q⟩) hz
def gh (r:aL [x] us):∃u,us=[u]/\aE x u:=by
 cases r with
 |cons M O=>cases O;exact⟨_,rr,M⟩
def He (r:aL [x,y] us):∃u M,us=[u,M]/\aE x u/\aE y M:=by
 cases r with
 |cons O U=>
  cases U with
  |cons d e=>cases e;exact⟨_,_,rr,O,d⟩
def Fc (hc:X.calm=true):b7 X (.builtin "min") (λxs H Q=>∃i j,xs=[.int i,.int j]/\Q (.int (if j<i then j else i)) H):=by
 intro af s σ H xs us Q I r h;obtain⟨i,j,rfl,q⟩:=h;obtain⟨u,M,rfl,⟨t,rfl⟩,⟨t',rfl⟩⟩:=He r;refine min_two_ints (I.ok.hd hc) λh' tk k=>⟨_,H,I.kept k,?_,q⟩;by_cases hj:j<i
 .rw[if_pos hj,if_pos hj];exact⟨_,rr⟩
 .rw[if_neg hj,if_neg hj];exact⟨_,rr⟩
end
structure O5 (h:Heap)(x dx C:Addr)(mA:Str->Option Value):Prop where
 obj:h.get? x=some (PySem.W.instObj C dx)
 ns:h.Ns1 dx mA
 ne:dx≠x
def Fd {h:Heap}{dx:Addr}{mA:SV}(n:h.Ns1 dx mA):∃od,h.get? dx=some od/\∀name,PySem.W.lookIn name od=some (mA name):=by
 obtain⟨o,es,U,O,hd,hk,_,hm⟩:=n;refine⟨o,O,λname=>?_⟩;have e:=hm name;unfold nsFind findBy at e;rw[<-Array.find?_toList]at e;unfold PySem.W.lookIn;rw[hd];dsimp;split
 .simp_all
 .have a:es.toList.any (·.refKey)=false:=by
   rw[List.any_eq_false];intro y hy;obtain⟨z,t,M⟩:=hk y (Array.mem_toList_iff.mp hy);simp[DictEntry.refKey,M]
  split<;>simp_all
def O5.look (I:O5 h x dx C mA):∃od,PySem.W.InstAt h x (PySem.W.instObj C dx) C (some od)/\∀name,PySem.W.lookIn name od=some (mA name):=
 let ⟨od,M,hl⟩:=Fd I.ns
 ⟨od,⟨I.obj,rr,rr,M⟩,hl⟩
section
variable {prog:Program}{w:World}{A:Around}{E:QV}{s:Shared}{K:Frag}{x dx C f:Addr}{mA:SV}{name:Str}{v:Value}
end
section
variable {P:Program}{w:World}{H H':Hp}{h h':Heap}{a C dx:Addr}{fs fs':List (Str×V)}
def Cg (hok:l8 P w H h)(e:H a=some (.ins C dx fs)):∃mA,O5 h a dx C mA/\(∀f,pO (fs.lookup f) (mA f))/\PySem.Within mA (fs.map (·.1))/\fs.length<=1000/\H dx=some (.own a):=by
 obtain⟨d,z,ne,ob,mA,n,r,q⟩:=(show bg P w H h a _ from hok a _ e);exact⟨mA,⟨ob,n,ne⟩,r,q,z,d⟩
end
structure Cls (K:Frag)(C:Addr):Prop where
 pg:PySem.W.plainGet K C Str.empty=true
 hd:PySem.W.hasDictIn K C=true
 po:PySem.W.plainOver K C=true
 sa:PySem.W.findIn K (.ref C) "__setattr__" = some (some (.builtin "object.__setattr__"))
def Cls.get {K:Frag}{C:Addr}(c:Cls K C)(f:Str):PySem.W.plainGet K C f=true:=c.pg
structure Meth (K:Frag)(C:Addr)(m:Str)(f:Addr):Prop where
 at_:PySem.W.findIn K (.ref C) m=some (some (.ref f))
 fn:PySem.W.isFn K (.ref f)=true
 kp:PySem.W.keepIn K (.ref f)=true
section
variable {X:Cx}{af:AO}{σ:St}{H:Hp}{s:Shared}{a C dx:Addr}{fs:List (Str×V)}{f:Str}{v:V}{A:Around}{E:QV}
end
section
variable {X:Cx}{o e value:Expr}{f:Str}{pos A1 SO:Pos}{ta tv:TE}
end
section
variable {X:Cx}{af:AO}{σ:St}{H:Hp}{s:Shared}{A:Around}{E:QV}{Q:QV}{c:Value}{b:Bool}
inductive TyOf (K:Frag)(H:Hp):V->Value->Prop where
 |non:TyOf K H .non (.type "NoneType")
 |bl (x:Bool):TyOf K H (.bl x) (.type "bool")
 |int (i:Int):TyOf K H (.int i) (.type "int")
 |str (x:Str):TyOf K H (.str x) (.type "str")
 |flt (x:UInt64):TyOf K H (.flt x) (.type "float")
 |lst {a:Addr}{xs:List V}(e:H a=some (.lst xs)):TyOf K H (.ref a) (.type "list")
 |frz {a:Addr}{o:Obj}{xs:List V}(e:H a=some (.frz o (.lst xs))):TyOf K H (.ref a) (.type "list")
 |tup {a:Addr}{xs:List V}(e:H a=some (.tup xs)):TyOf K H (.ref a) (.type "tuple")
 |dK {a:Addr}{aC:List (dA×V)}{ob:Obj}(e:H a=some (.dK aC ob)):TyOf K H (.ref a) (.type "dict")
 |dT {a:Addr}{aC:List (List dA×V)}(e:H a=some (.dT aC)):TyOf K H (.ref a) (.type "dict")
 |ins {a C dx:Addr}{fs:List (Str×V)}(e:H a=some (.ins C dx fs)) (cl:Cls K C) (ha:PySem.W.findIn K (.ref C) "__class__" = some (some (.builtin "object.__class__")))
   (hn:PySem.W.specialIn K (.builtin "object.__class__") "__get__" = some (some (.builtin "getset_descriptor.__get__"))) (htk:PySem.W.takesIn K (.builtin "object.__class__")=some true)
   (hm:PySem.W.mroIn K C (.type "object")=some true):TyOf K H (.ref a) (.ref C)
def fZ (I:Inv X af σ H s)(M:aE x u)(ty:TyOf X.K H x t)(e:PySem.W.kitOne X.K t c=some b)(h:∀tk,Q (.bool b) { s with toks:=tk }):
  wpAny (model X.prog X.w) A (call (.builtin "isinstance") [u,c]) Q E s:=by
 cases ty with
 |non=>cases (show u=Value.none from M);exact kia_one PySem.W.kitx_none I.kIn True.intro e (λz=>nomatch z) h
 |bl y=>cases (show u=Value.bool y from M);exact kia_one PySem.W.kitx_bool I.kIn True.intro e (λz=>nomatch z) h
 |int i=>obtain⟨t,q⟩:=(show ∃t,u=Value.int i t from M);cases q;exact kia_one PySem.W.kitx_int I.kIn True.intro e (λz=>nomatch z) h
 |str y=>obtain⟨t,q⟩:=(show ∃t,u=Value.str y t from M);cases q;exact kia_one PySem.W.kitx_str I.kIn True.intro e (λz=>nomatch z) h
 |flt y=>obtain⟨t,q⟩:=(show ∃t,u=Value.float y t from M);cases q;exact kia_one PySem.W.kitx_float I.kIn True.intro e (λz=>nomatch z) h
 |@lst a xs U=>
  cases (show u=Value.ref a from M)
  obtain⟨_,_,n,_,h1⟩:=(show bg X.prog X.w H s.heap a (.lst xs)from I.hok a _ U);exact kia_one PySem.W.kitx_list I.kIn ⟨_,h1,rr⟩ e (λz=>nomatch z) h
 |@frz a ob xs U=>
  cases (show u=Value.ref a from M)
  obtain⟨_,_,_,n,_,h1⟩:=(show bg X.prog X.w H s.heap a (.frz ob (.lst xs))from I.hok a _ U);exact kia_one PySem.W.kitx_list I.kIn ⟨_,h1,rr⟩ e (λz=>nomatch z) h
 |@tup a xs U=>
  cases (show u=Value.ref a from M)
  obtain⟨_,_,_,p⟩:=(show bg X.prog X.w H s.heap a (.tup xs)from I.hok a _ U);obtain⟨o,h1,h2,_⟩:=p;exact kia_one PySem.W.kitx_tuple I.kIn ⟨o,h1,h2⟩ e (λz=>nomatch z) h
 |@dK a aC ob U=>
  cases (show u=Value.ref a from M)
  refine cX λG g=>?_;obtain⟨_,_,_,vs,_,p⟩:=(show bg X.prog X.w H s.heap a (.dK aC ob)from I.hok a _ U);obtain⟨o,es,d,h1,h2,_⟩:=p;apply g;exact kia_one PySem.W.kitx_dict I.kIn ⟨o,h1,h2.1⟩ e (λz=>nomatch z) h
 |@dT a aC U=>
  cases (show u=Value.ref a from M)
  refine cX λG g=>?_;obtain⟨_,_,xs,_,o,es,d,h1,h2,_⟩:=(show bg X.prog X.w H s.heap a (.dT aC)from I.hok a _ U);apply g;exact kia_one PySem.W.kitx_dict I.kIn ⟨o,h1,h2.1⟩ e (λz=>nomatch z) h
 |@ins a C dx fs U cl ha hn htk hm=>
  cases (show u=Value.ref a from M)
  obtain⟨mA,O,_⟩:=Cg I.hok U;obtain⟨od,J,_⟩:=O.look;exact kia_one (PySem.W.kitx_own (cl.get _) cl.hd ha hn htk hm) I.kIn J e (λz=>nomatch z) h
end
structure dn (k:Nat)(A:Around):Prop where
 hd:A.handled=none
 dp:A.depth+3*k+5<recursionLimit
 un:A.units+16*k+200<cLine
def dn.mono (r:dn k A)(h:j<=k):dn j A:=⟨r.hd,by have:=r.dp;lia,by have:=r.un;lia⟩
def dn.deeper (r:dn (k+1) A)(env:Env):dn k (A.deeper env):=
 ⟨r.hd,by have:=r.dp;show A.depth+1+3*k+5<_;lia,by have:=r.un;simp<;>lia⟩
def dn.in1 (r:dn (k+1) A):dn k A.in1:=
 ⟨r.hd,by have:=r.dp;lia,by have:=r.un;lia⟩
def dn.depth (r:dn k A):A.depth<recursionLimit:=by have:=r.dp;lia
def U2:TA:=λ_ H Q=>Q [] H
def OM (ta:TE)(tr:TA):TA:=λσ H Q=>ta σ H λx M=>tr σ M λxs H2=>Q (x::xs) H2
section
variable {X:Cx}{e:Expr}{es:QD}{te:TE}{t:TA}{pos:Pos}
def fH:PA X [] U2:=λ_ _ _ _ H Q I h=>Calls.spliced_nil ⟨[],H,I,.nil,h⟩
def de (ha:PE X e te)(M:PA X es t)(hs:cQ e es X.env:=by rfl):PA X (e::es) (OM te t):=by
 intro pos af s σ H Q I h;rw[hs];refine Calls.spliced_cons (bG (ha _ s σ H _ I h) λu s1 ⟨x,O,U,a,b⟩=>?_);exact bG (M _ _ s1 σ O _ U b) λus s2 ⟨xs,H2,c,d,q2⟩=>⟨x::xs,H2,c,.cons a d,q2⟩
def U3 (t:TA):TE:=λσ H Q=>t σ H λxs M=>xs.length<=sizeLine/\∀p,M p=none->Q (.ref p) (upd M p (.tup xs))
def Zk (t:TA):TE:=λσ H Q=>t σ H λxs M=>xs.length<=sizeLine/\∀p,M p=none->Q (.ref p) (upd M p (.lst xs))
def wu {U}(h:PA X es t):PE X (.Tuple es U pos) (U3 t):=by
 intro af s σ H Q I hq;refine wpAny_Tuple_spliced (bG (h _ _ s σ H _ I hq) λus s1 ⟨xs,O,M,r,z,q⟩=>⟨by rw[<-r.length];exact z,?_⟩);have hf:=M.hok.fresh (vT _);refine⟨.ref _,upd O _ _,M.laid (λb u e=>vZ _ e) (vT _) ?_,rr,q _ hf⟩;exact⟨z,us,r,⟨_,vY _ rr,rr,_,rr⟩⟩
def Qq (h:PA X es t):PE X (.List es pos) (Zk t):=by
 intro af s σ H Q I hq;refine wpAny_List_spliced (bG (h _ _ s σ H _ I hq) λus s1 ⟨xs,O,M,r,z,q⟩=>⟨by rw[<-r.length];exact z,?_⟩);have hf:=M.hok.fresh (vT _);refine⟨.ref _,upd O _ _,M.laid (λb u e=>vZ _ e) (vT _) ?_,rr,q _ hf⟩;exact⟨z,us,0,r,vY _ rr⟩
end
abbrev Sp:=List V->Hp->VK->XK->Prop
abbrev ON:=List Env->Hp->Shared->XK->QV
structure Env0 (P:Program)(w:World)(K:Frag)(mg:Str->Option Value)(base:Heap)(A:Around)(outer:List Env)(s:Shared)(H:Hp):Prop where
 frames:A.frames=some outer
 mod:Mod K mg base
 bs:∀b o,base.get? b=some o->s.heap.get? b=some o/\H b=none
 bsz:base.objs.size<=s.z
 funs:s.heap.FunFrames base outer
 frf:∀b∈GO outer,H b=none
 hok:l8 P w H s.heap
 bare:AllBare s.gens
def CE (outer:List Env)(P:Program)(w:World)(H:Hp)(s:Shared)(Q:VK)(u:Value)(s':Shared):Prop:=
 ∃v H',s'.os=s.os/\AllBare s'.gens/\Un (GO outer) [] H H' s.heap s'.heap/\l8 P w H' s'.heap/\aE v u/\Q v H'
def CR (CX:ON)(outer:List Env)(P:Program)(w:World)(H:Hp)(s:Shared)(Q:VK)(E:XK)(r:Result)(s':Shared):Prop:=
 match r with
 |.ok (.ret u)=>CE outer P w H s Q u s'
 |.ok _=>False
 |.error e=>CX outer H s E e s'
structure t8 (P:Program)(w:World)(K:Frag)(mg:Str->Option Value)(base:Heap)(CX:ON)(k:Nat)(f:Addr)(fd:FuncData)(ps:List Str)(sp:Sp):Prop where
 len:∀vs H Q E,sp vs H Q E->vs.length=ps.length
 run:∀(A:Around)(outer:List Env)(s:Shared)(H:Hp)(args:Args)(us:List Value)(vs:List V)(Q:VK)(E:XK),dn k A->Env0 P w K mg base A outer s H->BindsTo s fd args (ps.zip us)->aL vs us->sp vs H Q E ->
  codeAny (model P w) A (.call (.ref f) args) (CR CX outer P w H s Q E) s
section
variable {X:Cx}{af:AO}{σ:St}{H:Hp}{s s':Shared}
def Inv.env0 (I:Inv X af σ H s):Env0 X.prog X.w X.K X.mg X.base X.A X.stack s H:=
 ⟨I.ok.frames,I.ok.mod,I.bs,vR I.ok.bsz I.sz,I.stack,I.stkFree,I.hok,I.bare⟩
def Inv.after (I:Inv X af σ H s)(h:CE X.stack X.prog X.w H s Q u s'):EP X af σ Q u s':=by
 refine cX λG K=>?_;obtain⟨v,H',os,bare,un,hok,r,q⟩:=h;obtain⟨hh,g,d,t,M⟩:=s';apply K;obtain rfl:M=s.os:=os;exact⟨v,H',I.call un hok bare (λb z=>absurd z H9),r,q⟩
end
def U4 (sp:Sp)(M:List V)(E:XK)(t:TA):TE:=λσ H Q=>t σ H λvs O=>sp (vs++M) O Q E
def pi (K:Frag)(fd:FuncData)(ps:LS)(ds:LU):Prop:=
 ∀(s:Shared)(us:LU),K.In s.heap->(us++ds).length=ps.length->BindsTo s fd ⟨us,[]⟩ (ps.zip (us++ds))
def pi.all {K:Frag}{fd:FuncData}{ps:LS}(h:∀us:LU,us.length=ps.length->bindArgs fd ⟨us,[]⟩=pure (ps.zip us)):pi K fd ps []:=λs us _ hl=>by
 rw[uQ]at hl |-;exact .of_eq (h us hl)
def AK (CX:ON)(X:Cx)(E:XK):Prop:=∀(af:AO)(σ:St)(H:Hp)(s:Shared)(e:Value)(s':Shared),Inv X af σ H s->CX X.stack H s E e s'->X.xe e s'
section
variable {X:Cx}{CX:ON}{k:Nat}{f C:Addr}{fd:FuncData}{ps:LS}{sp:Sp}{XF:List V}{ds:LU}{E:XK}{x m:Str}{p pos bV:Pos}{e o:Expr}{es:QD}{ta:TE}{t:TA}
def Qr {af:AO}{σ:St}{H:Hp}{s:Shared}{Q:VK}{us:LU}{vs:List V}(F:t8 X.prog X.w X.K X.mg X.base CX k f fd ps sp)(O:dn k X.A)(hb:pi X.K fd ps ds)(hd:aL XF ds)(hx:AK CX X E)
  (I:Inv X af σ H s) (r:aL vs us) (h:sp (vs++XF) H Q E):wq X (call (.ref f) us) (EP X af σ Q) X.xe s:=by
 have M:=r.append hd;have hl:(us++ds).length=ps.length:=by rw[<-M.length];exact F.len _ _ _ _ h
 refine wpAny_call (codeAny_mono (F.run _ _ s H _ _ _ Q E O I.env0 (hb s us I.kIn hl) M h) λr s' hq=>?_);cases r with
 |error e=>exact hx _ σ H s e s' I hq
 |ok fl=>
  cases fl with
  |ret u=>exact I.after hq
  |next=>exact False.elim hq
  |brk=>exact False.elim hq
  |cont=>exact False.elim hq
def Ch (F:t8 X.prog X.w X.K X.mg X.base CX k f fd ps sp)(a:dn k X.A)(b:Gl X x)(hm:X.mg x=some (.ref f))(hk:PySem.W.keepIn X.K (.ref f)=true)(hb:pi X.K fd ps ds)(hd:aL XF ds)(hx:AK CX X E)
  (ha:PA X (e::es) t) (M:bf x:=by decide) (he:cQ e es X.env:=by rfl) (O:j9 pos es X.env:=by rfl):
  PE X (.Call (.Name x p) (e::es) [] pos) (U4 sp XF E t):=by
 intro af s σ H Q I h;refine wpAny_Call_Name_kw (wn I b hm ?_ M);refine PySem.W.callWith_K I.ok.mod.kin hk (bG (ha _ _ s σ H _ I h) λus s1 ⟨vs,c,U,r,q⟩=>⟨U.kIn,?_⟩) he O;exact Qr F a hb hd hx U r q
end
structure FnScope (N P:List Str)(sc:Scope):Prop where
 kind:sc.kind=.function
 co:sc.isCoroutine=false
 gen:sc.isGenerator=false
 nd:N.Nodup
 pre:N.take P.length=P
 par:∀x∈P,sc.names.lookup x=some .local\/sc.names.lookup x=some .cell
 nofree:∀y∈sc.names,y.2≠.free
theorem tV {kindOf:Str->Option NameKind}{x:Str}:∀ {binds:List (Str×Value)}{m:SV},(∀v,(x,v)∉binds)->bindL kindOf binds m x=m x
 |[],_,_=>rr
 | (n,v)::r,m,h=>by
  unfold bindL;rw[tV λw hw=>h w (mZ _ hw)];split
  .grind
  .rfl
theorem tW {kindOf:Str->Option NameKind}{x:Str}:∀ {binds:List (Str×Value)}{m:SV},(∀v,(x,v)∉binds)->bindC kindOf binds m x=m x
 |[],_,_=>rr
 | (n,v)::r,m,h=>by
  unfold bindC;rw[tW λw hw=>h w (mZ _ hw)];split
  .rfl
  grind
theorem tX {kindOf:Str->Option NameKind}{x:Str}{v:Value}:∀ {P:LS}{vs:LU}{i:Nat}{m:SV},P.Nodup->P[i]? = some x->vs[i]? = some v->kindOf x=some .local ->
  bindL kindOf (P.zip vs) m x=some v
 |[],_,_,_,_,h,_,_=>by simp at h
 |_::_,[],_,_,_,_,h,_=>by simp at h
 |p::P,w::vs,0,m,nd,h1,h2,hk=>by
  simp at h1 h2;subst h1;subst h2;show bindL _ ((p,w)::P.zip vs) m p=_;unfold bindL;rw[tV λv hv=>(nodup_cons.mp nd).1 (of_mem_zip hv).1,if_pos hk];simp
 |p::P,w::vs,i+1,m,nd,h1,h2,hk=>by
  unfold bindL;exact tX (nodup_cons.mp nd).2 (by simpa using h1) (by simpa using h2) hk
theorem tY {kindOf:Str->Option NameKind}{x:Str}{v:Value}:∀ {P:LS}{vs:LU}{i:Nat}{m:SV},P.Nodup->P[i]? = some x->vs[i]? = some v->kindOf x≠some .local ->
  bindC kindOf (P.zip vs) m x=some v
 |[],_,_,_,_,h,_,_=>by simp at h
 |_::_,[],_,_,_,_,h,_=>by simp at h
 |p::P,w::vs,0,m,nd,h1,h2,hk=>by
  simp at h1 h2;subst h1;subst h2;show bindC _ ((p,w)::P.zip vs) m p=_;unfold bindC;rw[tW λv hv=>(nodup_cons.mp nd).1 (of_mem_zip hv).1,if_neg hk];simp
 |p::P,w::vs,i+1,m,nd,h1,h2,hk=>by
  unfold bindC;exact tY (nodup_cons.mp nd).2 (by simpa using h1) (by simpa using h2) hk
noncomputable def lG (N:LS)(vs:List V):St:=vs.map some++List.replicate (N.length - vs.length) none
noncomputable def pP (CX:ON)(P:Program)(w:World)(K:Frag)(mg:SV)(base:Heap)(N:LS)(qual:Str)(scope:Scope)(f:Addr)(cd:Value)(A:Around)(outer:List Env)(s:Shared)(H:Hp)(E:XK):Cx where
 prog:=P
 w:=w
 K:=K
 mg:=mg
 base:=base
 A:=A.deeper (envOfC qual scope s.z f cd)
 N:=N
 s₀:=s
 H₀:=H
 env:=envOfC qual scope s.z f cd
 outer:=outer
 stack:=envOfC qual scope s.z f cd::outer
 ex:=[]
 calm:=true
 fn:=λ_=>true
 pn:=[]
 xe:=λe s'=>wpAny (model P w) (A.deeper (envOfC qual scope s.z f cd)) (leaving (envOfC qual scope s.z f cd) e) (λ_ M=>CX outer H s E e M) (λO M=>CX outer H s E O M) s'
def qB {sc:Scope}{n:Nat}{x:Str}(h:sc.names.lookup x=some .cell):∃c,(cellsFrom n sc.names []).lookup x=some c:=by
 have q:=PySem.W.cellsFrom_some _ n [] (.inl h);exact uU q
def Fe {CX:ON}{P:Program}{w:World}{K:Frag}{mg:SV}{base:Heap}{N ps:LS}{qual:Str}{scope:Scope}{f:Addr}{cd:Value}{A:Around}{outer:List Env}{s s1:Shared}{H:Hp}{E:XK}{us:LU}{vs:List V}
  (S:FnScope N ps scope) (hd:A.handled=none) (M:Env0 P w K mg base A outer s H) (hl:vs.length=ps.length) (r:aL vs us)
  (x:InCallC s s.z (bindL (envOfC qual scope s.z f cd).kindOf (ps.zip us) λ_=>none) (cellsFrom (s.z+1) scope.names []) (bindC (envOfC qual scope s.z f cd).kindOf (ps.zip us) λ_=>none) s1):
  Inv (pP CX P w K mg base N qual scope f cd A outer s H E) [] (lG N vs) H s1:=by
 have d:ps.length<=N.length:=by have:=congrArg List.length S.pre;grind
 obtain⟨h1,tk,rfl,hk⟩:=x.done;have O:∀b:Addr,b∉(pP CX P w K mg base N qual scope f cd A outer s H E).ex:=λb z=>absurd (show b∈([]:List Addr)from z) H9;refine⟨⟨M.mod,S.kind,rr,rr,vT _,λy z c h1 h2=>?_,λy hy=>?_,λy c _ h=>?_,λ_=>hd,Around.frames_deeper M.frames,.inr ⟨rr,rr⟩,λb z=>absurd z (O b),M.bs,M.bsz,λb _ _=>O b,λb z=>absurd z (O b),M.funs,M.frf⟩,
  rr,M.bare,Un.kept hk,⟨_,x.toInCall.ns,λi y v h1 h2 h3=>?_⟩,λy c h=>⟨_,x.cell y c h⟩,M.hok.fresh (vT _),λy c h=>?_,λp hp=>absurd (show p∈([]:AO)from hp) H9,M.hok.kept hk,?_⟩
 .exact name_of_addr x.apart (PySem.mem_of_lookup h1) (PySem.mem_of_lookup h2)
 .rcases hy with hy|hy
  .exact qB hy
  .exact absurd rr (S.nofree _ (PySem.mem_of_lookup hy))
 .exact le_of_lt (x.above y c (PySem.mem_of_lookup h))
 .have hi:i<vs.length:=by
   unfold lG at h2;by_cases hi:i<vs.length
   .exact hi
   .rw[getElem?_append_right (by simpa using hi)]at h2;rw[List.getElem?_replicate]at h2;split at h2<;>cases h2
  have ha:vs[i]? = some v:=by
   simp_all[lG,getElem?_append_left]
  obtain⟨u,hu,a⟩:=r.get ha;have hp:ps[i]? = some y:=by
   rw[<-S.pre,List.getElem?_take_of_lt N9];exact h1
  have U:ps.Nodup:=by rw[<-S.pre];exact S.nd.sublist (take_sublist _ _)
  refine⟨u,a,?_⟩;rcases S.par y (vL hp)with k|k
  .exact .inl ⟨k,tX U hp hu k⟩
  .obtain⟨c,e⟩:=qB (n:=s.z+1) k;refine .inr ⟨.inl k,c,e,?_⟩;have q:=x.cell y c e;rw[tY U hp hu (by show scope.names.lookup y≠_;rw[k];decide)]at q;exact q
 .exact M.hok.fresh (le_of_lt (x.above y c (PySem.mem_of_lookup h)))
 .unfold lG;show _=N.length;simp_all
def Hg {CX:ON}{P:Program}{w:World}{K:Frag}{mg:SV}{base:Heap}{k:Nat}{f:Addr}{name qual:Str}{params:Arguments}{M:List Stmt}{scope:Scope}{h kV doc pm c9 ct oc:Value}{an od:Option Addr}
  {l7:Array (Option Value)}{N ps:LS}{sp:Sp}(l:K.lookup f=some ⟨oc,od,.func (fnOf name qual params M scope h kV doc pm an c9 ct),l7⟩) (m:PySem.W.codeIn K c9 qual=true) (S:FnScope N ps scope)
  (len:∀vs H Q E,sp vs H Q E->vs.length=ps.length)
  (U:∀(A:Around)(outer:List Env)(s:Shared)(H:Hp)(vs:List V)(Q:VK)(E:XK),dn k (A.deeper (envOfC qual scope s.z f c9))->sp vs H Q E ->
   ∃t,tE (pP CX P w K mg base N qual scope f c9 A outer s H E) M t/\t { nx:=λ_ H'=>Q .non H',rt:=Q } (lG N vs) H):
  t8 P w K mg base CX (k+1) f (fnOf name qual params M scope h kV doc pm an c9 ct) ps sp:=by
 refine⟨len,λA outer s H args us vs Q E c a hb r i=>?_⟩;have hl:=len _ _ _ _ i;have j:=a.mod.kin.keeps λb o e=>(a.bs b o e).1;have d:=a.mod.nolimit.keeps λb o e=>(a.bs b o e).1;have p:∀y∈ps.zip us,scope.names.lookup y.1=some _\/(scope.names.lookup y.1=some .cell/\((cellsFrom (s.z+1) _ []).lookup y.1).isSome=true):=λ⟨n,v⟩ hy=>by
  rcases S.par n (of_mem_zip hy).1 with q|q
  .exact .inl q
  .exact .inr ⟨q,PySem.W.cellsFrom_some _ _ _ (.inl q)⟩
 refine codeAny_call_function c.depth (j _ _ l) rr S.co S.gen rr (PySem.W.codeRec_of j m) (hb _ _ _ _ ?_);refine wpAny_newFunctionEnv_cells S.kind p λenv he s1 x=>?_;subst he;refine⟨d.keeps x.toInCall.keep,codeAny_func ?_⟩;obtain⟨t,z,hq⟩:=U A outer s H vs Q E (c.deeper _) i;have I:Inv (pP CX P w K mg base N qual scope f c9 A outer s H E) [] _ H s1:=Fe S c.hd a hl r x;refine wpAny_mono (z [] s1 _ H _ I hq) (λfl s' hs=>?_) λe s' hs=>hs;have dX:∀ {O:St}{H':Hp}{v:V}{u:Value},Inv (pP CX P w K mg base N qual scope f c9 A outer s H E) [] O H' s'->aE v u->Q v H'->CE outer P w H s Q u s':=
  λ{O H' v u} J g q=>⟨v,H',J.os,J.bare,J.base,J.hok,g,q⟩
 cases fl with
 |ret u=>
  obtain⟨v,O,H',J,g,q⟩:=hs;exact dX J g q
 |next=>
  obtain⟨O,H',J,q⟩:=hs;exact dX (v:=V.non) J rr q
 |brk=>
  obtain⟨_,_,_,q⟩:=hs;simp_all
 |cont=>
  obtain⟨_,_,_,q⟩:=hs;simp_all
section
variable {X:Cx}{x:Str}{p pos:Pos}{e:Expr}{es:QD}{t:TA}{id T:String}{r:List V->Hp->VK->Prop}
def tCB (r:List V->Hp->VK->Prop)(t:TA):TE:=λσ H Q=>t σ H λvs M=>r vs M Q
def qC (hc:b7 X (.builtin id) r)(U:Gl X x)(hm:X.mg x=none)(hv:bootBuiltins x=some (.builtin id))(ha:PA X (e::es) t)(hn:x ≠ "__name__":=by decide)(M:bf x:=by decide)
  (he:cQ e es X.env:=by rfl) (O:j9 pos es X.env:=by rfl):PE X (.Call (.Name x p) (e::es) [] pos) (tCB r t):=by
 intro af s σ H Q I h;refine wpAny_Call_Name_kw (fG I U hm hv ?_ hn M);exact PyProof.Rows.callWith_builtin1 (bG (ha _ _ s σ H _ I h) λus s1 ⟨vs,a,b,c,d⟩=>hc _ s1 σ a vs us Q b c d) he O
def oe (hc:b7 X (.type T) r)(U:Gl X x)(hm:X.mg x=none)(hv:bootBuiltins x=some (.type T))(ha:PA X (e::es) t)(hn:x ≠ "__name__":=by decide)(M:bf x:=by decide)
  (he:cQ e es X.env:=by rfl) (O:j9 pos es X.env:=by rfl):PE X (.Call (.Name x p) (e::es) [] pos) (tCB r t):=by
 intro af s σ H Q I h;refine wpAny_Call_Name_kw (fG I U hm hv ?_ hn M);exact PyProof.Rows.callWith_type1 (bG (ha _ _ s σ H _ I h) λus s1 ⟨vs,a,b,c,d⟩=>hc _ s1 σ a vs us Q b c d) he O
end
end L2
namespace HT
open PySem PyProof.Rows
section
open PySem.SeqAt
open PySem.AutoSeq1 (wpAny_loadPart')
open PySem.MeetsSeq PySem.MeetsSeq2 PySem.MeetsSeq3
end
section
variable {prog:Program}{w:World}{A:Around}{E:QV}{s:Shared}
def LQ (f:IsTup s.heap t vs.toArray)(hb:IsTup s.heap b ws.toArray)(hv:vs≠[])
  (h1:ws=[]->Q (.ref t) s) (h2:ws≠[]->Q (.ref s.z) { s with heap:=s.heap.push { cls:=.type "tuple",data:=.seq (vs++ws).toArray } })
  (hsz:vs.length+ws.length<=sizeLine):wpAny (model prog w) A (binaryOp .Add (.ref t) (.ref b)) Q E s:=by
 refine cX λG K=>?_;obtain⟨⟨cls,dd,data,sl⟩,a,hc,n,hd⟩:=id f;obtain⟨⟨g,O,data2,U⟩,M,c,n2,d⟩:=id hb;apply K;clear K;simp only at hc hd c d;subst hc hd c d;have e:vs.toArray++ws.toArray=(vs++ws).toArray:=H9
 by_cases hw:ws=[]
 .exact concat_meets ⟨_,a,rr⟩ ⟨_,M,rr⟩ noFill_tuple_add seq_tuple_add slot_tuple_add entry_tuple_add (args_tuple_add_2 _ _)
   (tuple_addW1 t b vs.toArray ws.toArray n n2 dd O sl U (by simpa using hv) (by simp[hw])) ⟨a,M,h1 hw⟩
 .refine concat_meets ⟨_,a,rr⟩ ⟨_,M,rr⟩ noFill_tuple_add seq_tuple_add slot_tuple_add entry_tuple_add (args_tuple_add_2 _ _)
   (tuple_addW2 t b vs.toArray ws.toArray n n2 dd O sl U (by simpa using hv) (by simpa using hw) (by simp_all)) ⟨a,M,?_⟩
  rw[e];exact h2 hw
noncomputable def dq (n d:Nat):OI->Nat
 |none=>d
 |some v=>if v<0 then (v+(n:Int)).toNat else min v.toNat n
def Hh (n d:Nat):dq n d none=d:=rfl
def LR (n d k:Nat):dq n d (some (k:Int))=min k n:=by
 rfl
def Qs (n d:Nat)(hd:d<=n)(o:OI):dq n d o<=n:=by
 cases o with
 |none=>exact hd
 |some v=>
  show(if v<0 then (v+(n:Int)).toNat else min v.toNat n)<=n;by_cases hv:v<0
  .rw[if_pos hv];lia
  .rw[if_neg hv];exact Nat.min_le_right _ _
def Ci (v:Int)(n d:Nat):(if v<0 then max (v+(n:Int)) 0 else min v (n:Int))=((dq n d (some v):Nat):Int):=by
 show(if v<0 then max (v+(n:Int)) 0 else min v (n:Int))=(((if v<0 then (v+(n:Int)).toNat else min v.toNat n):Nat):Int);grind
def AL (lo hi:OI)(n:Nat):Builtin.Slice.sliceAdjust lo hi 1 (n:Int)=(((dq n 0 lo:Nat):Int),((dq n n hi:Nat):Int)):=by
 have h1:¬((1:Int)<0):=N9
 unfold Builtin.Slice.sliceAdjust;simp only[h1,if_false];refine Prod.ext ?_ ?_
 .cases lo with
  |none=>rfl
  |some v=>exact Ci v n 0
 .cases hi with
  |none=>rfl
  |some v=>exact Ci v n n
def AM (i j:Nat):Builtin.Slice.slicePlaces (i:Int) (j:Int) 1=j - i:=by
 unfold Builtin.Slice.slicePlaces;simp<;>lia
def qD (p:IsPart v o)(h:Q o s):wpAny (model prog w) A (Builtin.Slice.slicePartIndex v) Q E s:=by
 cases p with
 |none=>exact slicePart_none h
 |int i t=>exact slicePart_int h
def iO {sl:Addr}{vl U:Value}{lo hi:OI}{n:Nat}{Q:Int×Int×Nat->Shared->Prop}(hs:s.heap.IsSliceOf sl vl U .none)(pl:IsPart vl lo)(a:IsPart U hi)
  (h:Q (((dq n 0 lo:Nat):Int),1,dq n n hi - dq n 0 lo) s):wpAny (model prog w) A (Builtin.Slice.sliceApplied (.ref sl) (pure (n:Int))) Q E s:=by
 obtain⟨os,M,b,O⟩:=id hs;unfold Builtin.Slice.sliceApplied Builtin.Slice.sliceFields;refine wX (wX (wpAny_field M O (x:=vl) rr (wX (wpAny_field M O (x:=U) rr (wX (wpAny_field M O (x:=.none) rr (wY ?_)))))));refine wX (slicePart_none ?_);show wpAny _ _ (if((1:Int) == 0)=true then _ else _) _ _ s;rw[if_neg P9];refine wX (qD pl (wX (qD a (wX (wY ?_)))));show wpAny _ _ (match Builtin.Slice.sliceAdjust lo hi 1 (n:Int) with|(lo,hi)=>pure (lo,(1:Int),Builtin.Slice.slicePlaces lo hi 1)) _ _ s;rw[AL lo hi n];show wpAny _ _ (pure (((dq n 0 lo:Nat):Int),(1:Int),Builtin.Slice.slicePlaces ((dq n 0 lo:Nat):Int) ((dq n n hi:Nat):Int) 1)) _ _ s;rw[AM];exact wY h
def Hi (xs:AV)(i k:Nat):((List.range k).filterMap λ(m:Nat)=>xs[((i:Int)+(m:Int)*1).toNat]?).toArray=((xs.toList.drop i).take k).toArray:=by
 have e:(λ(m:Nat)=>xs[((i:Int)+(m:Int)*1).toNat]?)=λm=>xs[i+m]?:=by
  funext m;have:((i:Int)+(m:Int)*1).toNat=i+m:=N9
  rw[this]
 rw[e];have:=pick_run xs i k;rw[List.filterMap_map]at this;have e2:((λx=>xs[x]?) ∘ λx=>i+x)=λm=>xs[i+m]?:=rr;simp_all
def mE {t sl:Addr}{items:AV}{vl c:Value}{lo hi:OI}{Q:QV}(O:IsTup s.heap t items)(hs:s.heap.IsSliceOf sl vl c .none)(pl:IsPart vl lo)(d:IsPart c hi)
  (hw:¬(dq items.size 0 lo=0/\dq items.size items.size hi=items.size))
  (h:Q (.ref s.z) { s with heap:=s.heap.push { cls:=.type "tuple",data:=.seq ((items.toList.drop (dq items.size 0 lo)).take (dq items.size items.size hi - dq items.size 0 lo)).toArray } })
  (hsz:items.size<=sizeLine):wpAny (model prog w) A (getItem (.ref t) (.ref sl)) Q E s:=by
 have M:sizeOk (.seq ((items.toList.drop (dq items.size 0 lo)).take (dq items.size items.size hi - dq items.size 0 lo)).toArray):=by
  show((items.toList.drop (dq items.size 0 lo)).take (dq items.size items.size hi - dq items.size 0 lo)).toArray.size<=sizeLine
  exact Nat.le_trans (((items.toList.drop _).take_sublist _).trans (items.toList.drop_sublist _)).length_le hsz
 have hj:dq items.size items.size hi<=items.size:=Qs _ _ (vT _) hi
 obtain⟨os,U,e,f⟩:=id hs
 have a:s.TypeIs (.ref sl) "slice":=⟨os,U,e⟩
 unfold getItem
 try with_reducible refine wpAny_holding ?_
 first|refine wX (wY ?_)|skip
 refine wX (wpAny_sequenceKey O.typeIs P9 ?_)
 refine wX (wpAny_callSpecial?_slot (name:=Str.ofString "__getitem__") O.typeIs PyProof.Rows.slot_tuple_getitem
  (wpAny_call_entry PyProof.Rows.slot_tuple_getitem O.typeIs entry_tuple_getitem ?_ (args_tuple_getitem _ _)))
 show wpAny _ _ (Builtin.Tuple.tupleItemsOf (.ref t)>>=_) _ _ s
 refine wX (tupleItemsOf_ O ?_)
 refine wX (wpAny_typeOf a ?_)
 rw[if_pos P9]
 refine wX (iO hs pl d ?_)
 have b:¬((((dq items.size 0 lo:Nat):Int) == 0 && (1:Int) == 1 && (dq items.size items.size hi - dq items.size 0 lo) == items.size)=true):=by
  simp_all
 show wpAny _ _ (if(((dq items.size 0 lo:Nat):Int) == 0 && (1:Int) == 1 && (dq items.size items.size hi - dq items.size 0 lo) == items.size)=true then _ else _) _ _ s
 rw[if_neg b,Hi]
 first
  |exact wX (m:=Builtin.Tuple.tupleExact _) (wpAny_newObj_type (wY ⟨_,rr,wY h⟩) M)
  |exact wX (m:=Builtin.Tuple.tupleExact _) (wpAny_newObj_type (wX (wY (wY ⟨_,rr,wY h⟩))) M)
  |exact wX (wX (m:=Builtin.Tuple.tupleExact _) (wpAny_newObj_type (wY (wY ⟨_,rr,wY h⟩)) M))
  |exact wX (wX (m:=Builtin.Tuple.tupleExact _) (wpAny_newObj_type (wY ⟨_,rr,wY h⟩) M))
end
end HT
namespace L2
open PySem PySem.Spec PyProof.Rows
abbrev TO:=St->Hp->(OI->Hp->Prop)->Prop
def PO (X:Cx)(e:Option Expr)(t:TO):Prop:=
 ∀(af:AO)(s:Shared)(σ:St)(H:Hp)(Q:OI->Hp->Prop),Inv X af σ H s->t σ H Q ->
  wq X (evalPart e X.env) (λu s'=>∃o H',Inv X af σ H' s'/\IsPart u o/\Q o H') X.xe s
def LW:TO:=λ_ H Q=>Q none H
def U5 (t:TE):TO:=λσ H Q=>t σ H λx M=>∃i,x=.int i/\Q (some i) M
section
variable {X:Cx}{e:Expr}{te:TE}{lo hi:Option Expr}{tl th:TO}{pos p2:Pos}
def LX:PO X none LW:=by
 intro af s σ H Q I h;rw[evalPart_none];exact wY ⟨none,H,I,.none,h⟩
def LY (h:PE X e te):PO X (some e) (U5 te):=by
 intro af s σ H Q I hw;rw[evalPart_some];refine bG (h af s σ H _ I hw) λu s1 ⟨x,M,O,U,a⟩=>?_;obtain⟨i,rfl,q⟩:=a;obtain⟨t,rfl⟩:=U;exact⟨some i,M,O,.int i t,q⟩
def GH (X:Cx)(r:V->OI->OI->Hp->VK->Prop):Prop:=
 ∀(af:AO)(s:Shared)(σ:St)(H:Hp)(x:V)(v vl M:Value)(lo hi:OI)(sl:Addr)(Q:VK),Inv X af σ H s->aE x v->s.heap.IsSliceOf sl vl M .none->IsPart vl lo->IsPart M hi->r x lo hi H Q ->
  ∃T id,typeLookup (.type T) "__getitem__" = pure (some (.builtin id))/\s.TypeIs v T/\wq X (getItem v (.ref sl)) (EP X af σ Q) X.xe s
def GH.or (h:GH X r)(h':GH X r'):GH X (λx lo hi H Q=>r x lo hi H Q\/r' x lo hi H Q):=by
 intro af s σ H x v vl M lo hi sl Q I O hs pl U q;rcases q with q|q
 .exact h af s σ H x v vl M lo hi sl Q I O hs pl U q
 .exact h' af s σ H x v vl M lo hi sl Q I O hs pl U q
def tSl (r:V->OI->OI->Hp->VK->Prop)(te:TE)(tl th:TO):TE:=λσ H Q=>te σ H λx M=>tl σ M λl H2=>th σ H2 λu O=>r x l u O Q
def Hj (a:GH X r)(he:PE X e te)(hl:PO X lo tl)(hu:PO X hi th):PE X (.Subscript e (.Slice lo hi none p2) pos) (tSl r te tl th):=by
 intro af s σ H Q I h;refine Subscript_ (bG (he af s σ H _ I h) λv s1 ⟨x,c,d,f,g⟩=>?_);refine wpAny_Slice (bG (hl af s1 σ c _ d g) λvl s2 ⟨l,H2,i,pl,q2⟩=>bG (hu af s2 σ H2 _ i q2) λO M ⟨u,U,j,k,m⟩=>?_);rw[evalPart_none];refine wY ?_;have n:Inv X af σ U { M with heap:=M.heap.push { cls:=.type "slice",data:=.fields #[vl,O,.none] } }:=j.kept (t':=M.toks) λb ob q=>vZ _ q;obtain⟨T,id,o,p,t⟩:=a af { M with heap:=M.heap.push { cls:=.type "slice",data:=.fields #[vl,O,.none] } } σ U x v vl O l u M.z Q n f (Heap.IsSliceOf.new ..) pl k m;show wq X (subscriptTail e (.Slice lo hi none p2) v (.ref M.z)) (EP X af σ Q) X.xe { M with heap:=M.heap.push { cls:=.type "slice",data:=.fields #[vl,O,.none] } };exact tail_any (ops:=[.ref M.z,v]) p o t (by with_unfolding_all rfl)
def tF (xs:List V)(lo hi:OI):List V:=(xs.drop (HT.dq xs.length 0 lo)).take (HT.dq xs.length xs.length hi - HT.dq xs.length 0 lo)
def pj (xs:List V)(lo hi:OI):(tF xs lo hi).length<=xs.length:=by
 unfold tF;rw[length_take,length_drop];lia
def Zl (K:Frag):V->OI->OI->Hp->VK->Prop:=λx lo hi H Q=>∃a xs,x=.ref a/\hV K H a xs /\
 ¬(HT.dq xs.length 0 lo=0/\HT.dq xs.length xs.length hi=xs.length)/\∀p,H p=none->Q (.ref p) (upd H p (.tup (tF xs lo hi)))
def Qt:GH X (Zl X.K):=by
 intro af s σ H x v vl d lo hi sl Q I U hs pl c h;obtain⟨a,xs,rfl,hx,hw,q⟩:=h;cases U
 refine I.tupE hx λits r O hz=>?_;have M:its.toArray.size=xs.length:=by rw[vH];exact r.length.symm
 refine⟨"tuple",_,PyProof.Rows.slot_tuple_getitem.lookup,O.typeIs,?_⟩;refine HT.mE O hs pl c (by rw[M];exact hw) ?_ (by rw[M];exact hz);rw[M];refine⟨.ref s.z,_,I.laid (t':=s.toks) (o:=.tup (tF xs lo hi)) (λb ob q=>vZ _ q) (vT _) ?_,rr,q _ (I.hok.fresh (vT _))⟩;exact⟨vR (pj xs lo hi) hz,_,(r.drop (HT.dq xs.length 0 lo)).take (HT.dq xs.length xs.length hi - HT.dq xs.length 0 lo),IsTup.new _ _⟩
def U6 (K:Frag):R2:=λx y H Q=>∃a b xs ys,x=.ref a/\y=.ref b/\hV K H a xs/\hV K H b ys/\xs≠[]/\xs.length+ys.length<=sizeLine /\
 (ys=[]->Q (.ref a) H)/\(ys≠[]->∀p,H p=none->Q (.ref p) (upd H p (.tup (xs++ys))))
def aL.nil_iff (r:aL xs us):us=[]↔xs=[]:=by
 cases r with
 |nil=>simp
 |cons _ _=>simp
def LZ:cJ X (binaryOp .Add) (U6 X.K):=by
 intro af s σ H x y v u Q I c d h;obtain⟨a,b,xs,ys,rfl,rfl,ha,hb,hx,hz,f,q2⟩:=h;cases c
 cases d
 refine I.tupE ha λits O g _=>?_;refine I.tupE hb λU M p2 _=>?_;refine HT.LQ g p2 (λz=>hx (O.nil_iff.mp z)) (λz=>⟨.ref a,H,I,rr,f (M.nil_iff.mp z)⟩) (λz=>?_) (by rw[<-O.length,<-M.length];exact hz);refine⟨.ref s.z,_,I.laid (t':=s.toks) (o:=.tup (xs++ys)) (λb ob q=>vZ _ q) (vT _) ?_,rr,q2 (λw=>z (M.nil_iff.mpr w)) _ (I.hok.fresh (vT _))⟩;exact⟨by rw[uZ];exact hz,_,O.append M,IsTup.new _ _⟩
end
noncomputable def GI (n:Nat)(i:Int):Option Nat:=if 0<=i then (if i<n then some i.toNat else none)else if -(n:Int)<=i then some (i+n).toNat else none
def lD {α:Type}(xs:List α)(i:Int):Option α:=(GI xs.length i).bind λj=>xs[j]?
def Cj (h:GI n i=some j):seqIndex? i n=some j/\j<n/\-(n:Int)<=i/\i<n:=by
 unfold GI at h;by_cases h0:0<=i
 .rw[if_pos h0]at h;by_cases h1:i<n
  .rw[if_pos h1]at h;have e:i.toNat=j:=vK h;exact⟨by rw[seqIndex_of h0 h1,e],N9,N9,h1⟩
  simp_all
 .rw[if_neg h0]at h;by_cases h1 : -(n:Int)<=i
  .rw[if_pos h1]at h;have e:(i+n).toNat=j:=vK h;exact⟨by rw[seqIndex_neg N9 h1,e],N9,h1,N9⟩
  simp_all
def wv {α:Type}{xs:List α}{i:Int}{v:α}(h:lD xs i=some v):∃j,seqIndex? i xs.length=some j/\xs[j]? = some v/\j<xs.length/\-(xs.length:Int)<=i/\i<xs.length:=by
 unfold lD at h;cases e:GI xs.length i with
 |none=>rw[e]at h;cases h
 |some j=>
  rw[e]at h;obtain⟨h1,h2,h3,h4⟩:=Cj e;exact⟨j,h1,h,h2,h3,h4⟩
def Ma {α:Type}{xs:List α}{j:Nat}{v:α}(h:xs[j]? = some v):lD xs (j:Int)=some v:=by
 have hj:j<xs.length:=(vV h).1;simp_all[GI,lD]
def mF (b:Expr):Prop:=∀o i,subscripted b false o i=operate [o,i] (getItem o i)
def Qu (X:Cx)(r:R2):Prop:=
 ∀(O M:Expr)(af:AO)(s:Shared)(σ:St)(H:Hp)(x y:V)(v u:Value)(Q:VK),Inv X af σ H s->aE x v->aE y u->r x y H Q ->
  subscripted M false v u=operate [v,u] (getItem v u)->wq X (subscriptTail O M v u) (EP X af σ Q) X.xe s
def Tk (X:Cx)(id:String)(r:V->List V->Hp->VK->Prop):Prop:=
 ∀(af:AO)(s:Shared)(σ:St)(H:Hp)(x:V)(xs:List V)(v:Value)(us:LU)(Q:VK),Inv X af σ H s->aE x v->aL xs us->r x xs H Q ->
  wq X (call (.builtin id) (v::us)) (EP X af σ Q) X.xe s
section
variable {X:Cx}{a b:Expr}{ta tb:TE}{pos:Pos}
def Hk (M:Qu X r)(ha:PE X a ta)(hb:PE X b tb)(hs:mF b):PE X (.Subscript a b pos) (Y3 r ta tb):=by
 intro af s σ H Q I h;exact Subscript_ (Qg ha hb I h λv u s2 x y H2 O U c q=>M a b af s2 σ H2 x y v u Q O U c q (hs _ _))
def Zm (K:Frag):R2:=λx y H Q=>∃p xs i v,x=.ref p/\y=.int i/\eN K H p xs/\lD xs i=some v/\Q v H
def Zn (K:Frag):R2:=λx y H Q=>∃p xs i v,x=.ref p/\y=.int i/\hV K H p xs/\lD xs i=some v/\Q v H
def Zo:R2:=λx y H Q=>∃z i c,x=.str z/\y=.int i/\z.length<=sizeLine/\lD z.cps.toList i=some c/\Q (.str ⟨#[c]⟩) H
def Mb:Qu X (Zm X.K):=by
 intro M O af s σ H x y v u Q I d e h hs;obtain⟨p,xs,i,z,rfl,rfl,hq,he,q⟩:=h;cases d
 obtain⟨t,rfl⟩:=e;refine cX λG g=>?_;refine I.lisE hq λits r pl hz=>?_;obtain⟨j,h1,h2,h3,h4,h5⟩:=wv he;obtain⟨w,c,U⟩:=r.get h2;apply g;have hl:=r.length;have hn:=nZ;have dX:EP X af σ Q w s:=⟨z,H,I,U,q⟩;by_cases h0:0<=i
 .have hj:i.toNat=j:=by
   rw[seqIndex_of h0 h5]at h1;exact vK h1
  exact item_listR pl.isList h0 N9 (by rw[hj];simpa using c) dX hs
 .have hj:(i+(its.toArray.size:Int)).toNat=j:=by
   rw[seqIndex_neg N9 h4]at h1;rw[vH,<-hl];exact vK h1
  exact subscriptTail_builtinR (x:=w) pl.isList.typeIs slot_list_getitem.lookup
   (wpAny_getItem_list_neg (Q:=λr s'=>r=w/\EP X af σ Q r s') pl.isList N9 (by rw[vH]<;>lia) N9 (by rw[hj];simpa using c) ⟨rr,dX⟩) hs
def Hl:Qu X (Zn X.K):=by
 intro M O af s σ H x y v u Q I c d h hs;obtain⟨p,xs,i,z,rfl,rfl,hq,he,q⟩:=h;cases c
 obtain⟨t,rfl⟩:=d;refine cX λG g=>?_;refine I.tupE hq λits r pl hz=>?_;obtain⟨j,h1,h2,h3,h4,h5⟩:=wv he;obtain⟨w,e,U⟩:=r.get h2;apply g;clear g;have hl:=r.length;have hn:=nZ;have dX:EP X af σ Q w s:=⟨z,H,I,U,q⟩;exact subscriptTail_builtinR (x:=w) pl.typeIs slot_tuple_getitem.lookup
  (getItem_tuple (j:=j) (Q:=λr s'=>r=w/\EP X af σ Q r s') pl N9 N9 (by simp_all) (by simpa using e) ⟨rr,dX⟩) hs
def AN:Qu X Zo:=by
 intro M O af s σ H x y v u Q I U d h hs;obtain⟨z,i,c,rfl,rfl,hz,he,q⟩:=h;obtain⟨t,rfl⟩:=U;obtain⟨t',rfl⟩:=d;obtain⟨j,h1,h2,h3,h4,h5⟩:=wv he;have hl:z.cps.toList.length=z.length:=by simp[Str.length]
 rw[hl]at h1 h4 h5;have hn:=nZ;exact tail_any (typeIs_str s z t) slot_str_getitem.lookup (getItem_str (c:=c) (by
  lia) (by rw[h1];simpa using h2) ⟨.str ⟨#[c]⟩,H,I.tok _,⟨_,rr⟩,q⟩) hs
def AQ (its:LU)(n j:Nat)(u:Value):Obj.mapSeq (·.setIfInBounds j u) { cls:=.type "list",data:=.seq its.toArray n }={ cls:=.type "list",data:=.seq (its.set j u).toArray n }:=by
 simp[Obj.mapSeq]
def Inv.lst (I:Inv X af σ H s)(h:H p=some (.lst xs)):
  ∃(its:LU)(n:Nat),aL xs its/\s.heap.get? p=some { cls:=.type "list",data:=.seq its.toArray n }/\xs.length<=sizeLine:=by
 obtain⟨z,its,n,r,e⟩:=I.hok p _ h;exact⟨its,n,r,e,z⟩
def Inv.lstUpd {af:AO}{σ:St}{H:Hp}{s:Shared}{p:Addr}{xs ys:List V}{its its':LU}{n M:Nat}{f:Obj->Obj}(I:Inv X af σ H s)(h:H p=some (.lst xs))
  (O:s.heap.get? p=some { cls:=.type "list",data:=.seq its.toArray n }) (hf:f { cls:=.type "list",data:=.seq its.toArray n }={ cls:=.type "list",data:=.seq its'.toArray M }) (r:aL ys its') (hz:ys.length<=sizeLine) (t:Nat):
  Inv X af σ (upd H p (.lst ys)) { s with heap:=s.heap.update p f,toks:=t }:=by
 have e:(s.heap.update p f).get? p=some { cls:=.type "list",data:=.seq its'.toArray M }:=by
  rw[Heap.get?_update_self f O (by rw[hf]<;>rfl),hf]
 refine I.write (x:=p) (e:=p) (by rw[h];trivial) (.inl rr) (λb u hb q=>(Heap.get?_update_other _ _ (Ne.symm hb)).trans q) ⟨_,e⟩ ?_;exact⟨hz,its',M,r,e⟩
def U7:V->V->V->Hp->(Hp->Prop)->Prop:=λo i v H Q=>∃p xs k j,o=.ref p/\i=.int k/\H p=some (.lst xs)/\GI xs.length k=some j/\Q (upd H p (.lst (xs.set j v)))
def Hm:Uk X U7:=by
 intro af s σ H o i v e iv u Q I U c d h;obtain⟨p,xs,k,j,rfl,rfl,hp,hj,q⟩:=h;cases U
 obtain⟨t,rfl⟩:=c;obtain⟨its,n,r,M,hz⟩:=I.lst hp;obtain⟨h1,h2,h3,h4⟩:=Cj hj;have hl:=r.length;have hn:=nZ;have O:Inv X af σ (upd H p (.lst (xs.set j v))) { s with heap:=s.heap.update p (Obj.mapSeq (·.setIfInBounds j u)) } :=
  I.lstUpd hp M (AQ its n j u) (r.set d j) (by rw[length_set];exact hz) s.toks
 by_cases h0:0<=k
 .have hk:k.toNat=j:=by
   rw[seqIndex_of h0 h4]at h1;exact vK h1
  exact PySem.W.ki_setAt M h0 N9 (by rw[vH,<-hl];exact h4) (by rw[hk];exact⟨_,O,q⟩)
 .have hk:(k+(its.toArray.size:Int)).toNat=j:=by
   rw[seqIndex_neg N9 h3]at h1;rw[vH,<-hl];exact vK h1
  exact PySem.W.ki_setBack M N9 (by rw[vH,<-hl];exact h3) N9 (by rw[hk];exact⟨_,O,q⟩)
def xx10 (i:Int)(n:Nat):max 0 (min (if i<0 then i+n else i) n)=(((if i<0 then (i+n).toNat else min i.toNat n):Nat):Int):=by
 split
 .rw[Int.min_eq_left (by lia),Int.ofNat_toNat,Int.max_comm]
 .rename_i h;obtain⟨k,rfl⟩:=Int.eq_ofNat_of_zero_le (Int.not_lt.mp h);rw[Int.toNat_natCast,Int.max_eq_right (Int.le_min.mpr ⟨Int.not_lt.mp h,Int.natCast_nonneg n⟩)];rcases Nat.le_total k n with z|z
  .rw[Nat.min_eq_left z,Int.min_eq_left (Int.ofNat_le.mpr z)]
  .rw[Nat.min_eq_right z,Int.min_eq_right (Int.ofNat_le.mpr z)]
def ww (lo hi:OI)(n:Nat):(sliceBounds lo hi none n).1=((HT.dq n 0 lo:Nat):Int)/\(sliceBounds lo hi none n).2.1=((HT.dq n n hi:Nat):Int)/\(sliceBounds lo hi none n).2.2=1:=by
 refine⟨?_,?_,rr⟩
 .cases lo with
  |none=>rfl
  |some i=>exact xx10 i n
 .cases hi with
  |none=>rfl
  |some i=>exact xx10 i n
def tG (its:LU)(lo hi:OI):slicePick its.toArray lo hi none=((its.drop (HT.dq its.length 0 lo)).take (HT.dq its.length its.length hi - HT.dq its.length 0 lo)).toArray:=by
 obtain⟨h1,h2,h3⟩:=ww lo hi its.toArray.size;unfold slicePick;rw[h1,h2,h3];simp only[sliceRange_one,pick_run,vH]<;>rfl
def Zp (K:Frag):V->OI->OI->Hp->VK->Prop:=λx lo hi H Q=>∃a xs,x=.ref a/\eN K H a xs/\∀p,H p=none->Q (.ref p) (upd H p (.lst (tF xs lo hi)))
def Mc:GH X (Zp X.K):=by
 intro af s σ H x v vl d lo hi sl Q I U hs pl c h;obtain⟨a,xs,rfl,hx,q⟩:=h;cases U
 refine I.lisE hx λits r O hz=>?_;have M:=r.length;refine⟨"list",_,slot_list_getitem.lookup,O.isList.typeIs,?_⟩;refine wpAny_getItem_list_slice O.isList hs pl c .none H9 ?_ (by rw[vH]<;>lia)
 rw[tG,<-M];refine⟨.ref s.z,_,I.laid (t':=s.toks) (o:=.lst (tF xs lo hi)) (λb ob q=>vZ _ q) (vT _) ?_,rr,q _ (I.hok.fresh (vT _))⟩;exact⟨vR (pj xs lo hi) hz,_,0,(r.drop (HT.dq xs.length 0 lo)).take (HT.dq xs.length xs.length hi - HT.dq xs.length 0 lo),vY _ rr⟩
noncomputable def lH:V->Bool
 |.non=>true
 |.bl _=>true
 |.int _=>true
 |.str _=>true
 |_=>false
noncomputable def Md:V->V->Bool
 |.non,.non=>true
 |.bl a,.bl b=>a == b
 |.bl a,.int b=>(if a then 1 else 0) == b
 |.int a,.bl b=>a == (if b then 1 else 0)
 |.int a,.int b=>a == b
 |.str a,.str b=>a == b
 |_,_=>false
def Qv (O:aE y u)(M:aE x v)(U:lH y=true)(fx:lH x=true):SeqAt.EqAt A s u v (Md y x):=by
 cases y with
 |non=>
  cases O
  cases x with
  |non=>cases M;exact SeqAt.EqAt.same _
  |bl b=>cases M;exact SeqAt.EqAt.none_bool b
  |int b=>obtain⟨t,rfl⟩:=M;exact SeqAt.EqAt.none_int b t
  |str b=>obtain⟨t,rfl⟩:=M;exact SeqAt.EqAt.none_str b t
  |_=>exact absurd (show false=true from fx) uX
 |bl a=>
  cases O
  cases x with
  |non=>cases M;exact SeqAt.EqAt.bool_none a
  |bl b=>cases M;exact SeqAt.EqAt.bool_bool a b
  |int b=>obtain⟨t,rfl⟩:=M;exact SeqAt.EqAt.bool_int a b t
  |str b=>obtain⟨t,rfl⟩:=M;exact SeqAt.EqAt.bool_str a b t
  |_=>exact absurd (show false=true from fx) uX
 |int a=>
  obtain⟨t',rfl⟩:=O;cases x with
  |non=>cases M;exact SeqAt.EqAt.int_none a t'
  |bl b=>cases M;exact SeqAt.EqAt.int_bool a t' b
  |int b=>obtain⟨t,rfl⟩:=M;exact SeqAt.EqAt.int_int a t' b t
  |str b=>obtain⟨t,rfl⟩:=M;exact SeqAt.EqAt.int_str a t' b t
  |_=>exact absurd (show false=true from fx) uX
 |str a=>
  obtain⟨t',rfl⟩:=O;cases x with
  |non=>cases M;exact SeqAt.EqAt.str_none a t'
  |bl b=>cases M;exact SeqAt.EqAt.str_bool a t' b
  |int b=>obtain⟨t,rfl⟩:=M;exact SeqAt.EqAt.str_int a t' b t
  |str b=>obtain⟨t,rfl⟩:=M;exact SeqAt.EqAt.str_str a t' b t
  |_=>exact absurd (show false=true from fx) uX
 |_=>exact absurd (show false=true from U) uX
noncomputable def AR (x:V)(u:Value):Bool:=match u with
 |.none=>Md .non x
 |.bool b=>Md (.bl b) x
 |.int i _=>Md (.int i) x
 |.str z _=>Md (.str z) x
 |_=>false
def Hn (r:aE y u)(f:lH y=true):AR x u=Md y x:=by
 cases y with
 |non=>cases r;rfl
 |bl b=>cases r;rfl
 |int i=>obtain⟨t,rfl⟩:=r;rfl
 |str z=>obtain⟨t,rfl⟩:=r;rfl
 |_=>exact absurd (show false=true from f) uX
theorem mG:∀ {xs:List V}{us:LU},aL xs us->xs.all lH=true->us.any (AR x)=xs.any λy=>Md y x
 |_,_,.nil,_=>rr
 |y::xs,u::us,.cons r t,f=>by
  rw[all_cons,vC]at f;rw[any_cons,any_cons,Hn r f.1,mG t f.2]
theorem jK (M:aE x v)(fx:lH x=true):∀ {xs:List V}{us:LU},aL xs us->xs.all lH=true->∀u∈us,SeqAt.EqAt A s u v (AR x u)
 |_,_,.nil,_=>λu hu=>by cases hu
 |y::xs,u::us,.cons r t,f=>λu' hu=>by
  rw[all_cons,vC]at f;rcases vP hu with rfl|hu
  .rw[Hn r f.1];exact Qv r M f.1 fx
  .exact jK M fx t f.2 u' hu
noncomputable def Y4 (x:V)(xs:List V):Bool:=xs.any λy=>Md y x
def rIn (K:Frag)(M:Bool):R2:=λx y H Q=>∃p xs,y=.ref p/\(eN K H p xs\/hV K H p xs)/\lH x=true/\xs.all lH=true/\Q (.bl (if M then !Y4 x xs else Y4 x xs)) H
def Ff:cJ X (compareOp .In) (rIn X.K false):=by
 intro af s σ H x y v u Q I M O h;obtain⟨p,xs,rfl,hq,fx,fs,q⟩:=h;cases O
 rcases hq with hq|hq
 .refine I.lisE hq λits r pl hz=>?_;refine SeqAt.in_listAt (AR x) pl.isList (λw hw=>jK M fx r fs w (by simpa using hw)) ⟨.bl _,H,I,rr,?_⟩;rw[show its.toArray.any (AR x)=its.any (AR x) by simp,mG r fs];exact q
 .refine I.tupE hq λits r pl hz=>?_;refine SeqAt.in_tupleAt (AR x) pl (λw hw=>jK M fx r fs w (by simpa using hw)) ⟨.bl _,H,I,rr,?_⟩;rw[show its.toArray.any (AR x)=its.any (AR x) by simp,mG r fs];exact q
def wx:cJ X (compareOp .NotIn) (rIn X.K true):=by
 intro af s σ H x y v u Q I M O h;obtain⟨p,xs,rfl,hq,fx,fs,q⟩:=h;cases O
 rcases hq with hq|hq
 .refine I.lisE hq λits r pl hz=>?_;refine SeqAt.notIn_listAt (AR x) pl.isList (λw hw=>jK M fx r fs w (by simpa using hw)) ⟨.bl _,H,I,rr,?_⟩;rw[show its.toArray.any (AR x)=its.any (AR x) by simp,mG r fs];exact q
 .refine I.tupE hq λits r pl hz=>?_;refine SeqAt.notIn_tupleAt (AR x) pl (λw hw=>jK M fx r fs w (by simpa using hw)) ⟨.bl _,H,I,rr,?_⟩;rw[show its.toArray.any (AR x)=its.any (AR x) by simp,mG r fs];exact q
def wy:b7 X (.builtin "len") (λxs H Q=>∃p ys,xs=[.ref p]/\(eN X.K H p ys\/hV X.K H p ys)/\Q (.int ys.length) H):=by
 intro af s σ H xs us Q I r h;obtain⟨p,ys,rfl,hq,q⟩:=h;obtain⟨u,rfl,U⟩:=gh r;cases U
 have hn:=nZ;rcases hq with hq|hq
 .refine I.lisE hq λits O pl hz=>?_;have M:=O.length;exact Calls.call_len_list pl.isList (by grind) ⟨.int ys.length,H,I.tok _,⟨s.toks+1,by rw[vH,M]⟩,q⟩
 .refine I.tupE hq λits O pl hz=>?_;have M:=O.length;exact len_tuple pl (by grind) ⟨.int ys.length,H,I.tok _,⟨s.toks+1,by rw[vH,M]⟩,q⟩
def wz:b7 X (.builtin "len") (λxs H Q=>∃z,xs=[.str z]/\z.length<=sizeLine/\Q (.int z.length) H):=by
 intro af s σ H xs us Q I r h;obtain⟨z,rfl,hz,q⟩:=h;obtain⟨u,rfl,t,rfl⟩:=gh r;have hn:=nZ;exact len_str N9 ⟨.int z.length,H,I.tok _,⟨_,rr⟩,q⟩
def b7.or (h:b7 X f r)(h':b7 X f O):b7 X f (λxs H Q=>r xs H Q\/O xs H Q):=by
 intro af s σ H xs us Q I M q;rcases q with q|q
 .exact h af s σ H xs us Q I M q
 .exact h' af s σ H xs us Q I M q
def w4:b7 X (.type "list") (λxs H Q=>∃p ys,xs=[.ref p]/\(eN X.K H p ys\/hV X.K H p ys)/\∀l,H l=none->Q (.ref l) (upd H l (.lst ys))):=by
 intro af s σ H xs us Q I r h;obtain⟨p,ys,rfl,hq,q⟩:=h;obtain⟨u,rfl,d⟩:=gh r;cases d
 have dX:∀(its:LU),aL ys its->ys.length<=sizeLine->∀(h':Heap)(M:Nat),(∀b o',s.heap.get? b=some o'->h'.get? b=some o') ->
   h'.get? s.z=some { cls:=.type "list",dict:=none,data:=.seq its.toArray M,slots:=#[] }->EP X af σ Q (.ref s.z) { s with heap:=h' }:=λits O hz h' M kp e=>
  ⟨.ref s.z,_,I.laid (t':=s.toks) kp (vT _) (show bg X.prog X.w _ h' _ (.lst ys)from ⟨hz,its,M,O,e⟩),rr,q _ (I.hok.fresh (vT _))⟩
 rcases hq with hq|hq
 .refine I.lisE hq λits O pl hz=>?_;have U:=O.length;obtain⟨o,c,hc,n,hd⟩:=pl.isList;exact call_list_seq p (.inl rr) c hc hd (λh' M kp e=>dX its O hz h' M kp e) (by simp_all)
 .refine I.tupE hq λits O pl hz=>?_;have U:=O.length;obtain⟨o,c,hc,n,hd⟩:=pl;exact call_list_seq p (.inr rr) c hc hd (λh' M kp e=>dX its O hz h' M kp e) (by simp_all)
def tH:b7 X (.type "tuple") (λxs H Q=>∃p ys,xs=[.ref p]/\((eN X.K H p ys/\∀l,H l=none->Q (.ref l) (upd H l (.tup ys)))\/(hV X.K H p ys/\Q (.ref p) H))):=by
 intro af s σ H xs us Q I r h;obtain⟨p,ys,rfl,h⟩:=h;obtain⟨u,rfl,c⟩:=gh r;cases c
 rcases h with⟨hq,q⟩|⟨hq,q⟩
 .refine I.lisE hq λits M pl hz=>?_;have O:=M.length;refine call_tuple_list pl.isList (λh' kp=>?_) (by simp_all);have U:Inv X af σ H { s with heap:=h' }:=I.kept (t':=s.toks) kp;have d:Inv X af σ (upd H h'.objs.size (.tup ys)) { s with heap:=h'.push { cls:=.type "tuple",data:=.seq its.toArray } } :=
   U.laid (t':=s.toks) (λb o e=>vZ _ e) (vT _) (show bg X.prog X.w _ _ _ (.tup ys)from ⟨hz,its,M,IsTup.new _ _⟩)
  exact⟨.ref h'.objs.size,_,d,rr,q _ (U.hok.fresh (vT _))⟩
 .refine I.tupE hq λits M pl hz=>?_;exact call_tuple_same pl ⟨.ref p,H,I,rr,q⟩
def Zq (K:Frag)(T:String)(x:V)(H:Hp):Prop:=match x with
 |.str _=>T = "str"
 |.int _=>T = "int"
 |.ref p=>(T = "list"/\∃xs,eN K H p xs)\/(T = "tuple"/\∃o,K.lookup p=some o/\o.cls=.type "tuple"/\o.dict=none) \/
   (T = "dict"/\((∃aC ob,H p=some (.dK aC ob))\/∃aC,H p=some (.dT aC)))\/(T = "set"/\∃S n,H p=some (.set S n))
 |_=>False
def wA (I:Inv X af σ H s)(r:aE x v)(ty:Zq X.K T x H):
  s.TypeIs v T/\∀a,v=.ref a->∃ob,s.heap.get? a=some ob/\ob.dict=none:=by
 cases x with
 |str z=>
  obtain⟨t,rfl⟩:=r;cases (show T = "str" from ty)
  simp_all[typeIs_str]
 |int i=>
  obtain⟨t,rfl⟩:=r;cases (show T = "int" from ty)
  simp_all[typeIs_int]
 |ref p=>
  cases r
  rcases ty with⟨rfl,xs,hq⟩|⟨rfl,o,hk,hc,hd⟩|⟨rfl,hk⟩|⟨rfl,S,n,hk⟩
  .refine I.lisE hq λits _ pl _=>?_;refine⟨pl.isList.typeIs,λa e=>?_⟩;cases e
   obtain⟨o,n,e,c,hd,_⟩:=pl;exact⟨o,e,hd⟩
  .refine⟨⟨o,I.kIn p o hk,hc⟩,λa e=>?_⟩;cases e
   exact⟨o,I.kIn _ o hk,hd⟩
  .have z:∃o,s.heap.get? p=some o/\o.ExactDict:=by
    rcases hk with⟨aC,M,hk⟩|⟨aC,hk⟩
    .refine cX λG g=>?_;obtain⟨_,_,_,_,_,o,_,_,e,ex,_⟩:=I.hok p _ hk;apply g;clear g;exact⟨o,e,ex⟩
    .refine cX λG g=>?_;obtain⟨_,_,_,_,o,_,_,e,ex,_⟩:=I.hok p _ hk;apply g;clear g;exact⟨o,e,ex⟩
   obtain⟨o,e,ex⟩:=z;refine⟨⟨o,e,ex.1⟩,λa e2=>?_⟩;cases e2
   exact⟨o,e,ex.2.1⟩
  .obtain⟨o,_,_,_,e,ex,_⟩:=I.hok p _ hk;refine⟨⟨o,e,ex.1⟩,λa e2=>?_⟩;cases e2
   exact⟨o,e,ex.2.1⟩
 |_=>exact False.elim ty
def Zr (K:Frag)(T:String)(r:V->List V->Hp->VK->Prop)(to:TE):TE:=λσ H Q=>to σ H λx M=>Zq K T x M/\r x [] M Q
def tBM (K:Frag)(T:String)(r:V->List V->Hp->VK->Prop)(to:TE)(t:TA):TE:=λσ H Q=>to σ H λx M=>Zq K T x M/\t σ M λxs H2=>r x xs H2 Q
variable {o e:Expr}{es:QD}{to:TE}{t:TA}{name:Str}{bV b9:Pos}{T id:String}{r:V->List V->Hp->VK->Prop}
def Qw (f:PlainAttrs T)(slot:Slot T name id)(U:typeOf (.builtin id)=pure (.type "method_descriptor"))(hm:Tk X id r)(g:PE X o to)
  (M:attributeBase o name X.env (eval o X.env)=eval o X.env:=by rfl) (O:(bV.endLine == b9.line)=true:=by rfl):PE X (.Call (.Attribute o name bV) [] [] b9) (Zr X.K T r to):=by
 intro af s σ H Q I h;refine wpAny_Call_method0_late M O (bG (g af s σ H _ I h) λv s1 ⟨x,i,c,d,ty,j⟩=>?_);obtain⟨h1,h2⟩:=wA c d ty;exact⟨T,id,f,slot,U,h1,h2,Calls.callWith_builtin rr (PySem.evalArgs_none (hm af s1 σ i x [] v [] Q c d .nil j))⟩
def yn (i:PlainAttrs T)(slot:Slot T name id)(c:typeOf (.builtin id)=pure (.type "method_descriptor"))(hm:Tk X id r)(j:PE X o to)(ha:PA X (e::es) t)
  (O:attributeBase o name X.env (eval o X.env)=eval o X.env:=by rfl)
  (k:((backTo b9 (starEach (e::es) X.env)).all (λx=>!x.1) && (backToKw b9 (keywordEach [] X.env)).all (λx=>x.1.isSome)
   && decide ((e::es).length+([]:List Keyword).length+(if([]:List Keyword).isEmpty then 0 else 1)<30))=true:=by rfl)
  (U:(bV.endLine == b9.line)=true:=by rfl) (hs:cQ e es X.env:=by rfl) (M:j9 b9 es X.env:=by rfl):
  PE X (.Call (.Attribute o name bV) (e::es) [] b9) (tBM X.K T r to t):=by
 intro af s σ H Q I h;refine wpAny_Call_method_late O k U rr (bG (j af s σ H _ I h) λv s1 ⟨x,l,d,f,ty,m⟩=>?_);obtain⟨h1,h2⟩:=wA d f ty;refine⟨T,id,i,slot,c,h1,h2,?_⟩;have g:=ha b9 af s1 σ l _ d m;rw[hs]at g |-;refine Calls.callWith_builtin (by show(false || (backTo b9 (starEach es X.env)).any (·.1))=false;rw[M]<;>rfl) (Calls.evalArgs_plain ?_)
 exact bG g λus s2 ⟨vs,H2,n,p,q2⟩=>hm af s2 σ H2 x vs v us Q n f p q2
/- xs.append(e),list.index on a module's tuple .. are Tk facts of 06m -/
end
def Y5 (X:Cx)(id:String)(r:V->List V->Hp->VK->Prop):Prop:=
 ∀(af:AO)(s:Shared)(σ:St)(H:Hp)(x:V)(xs:List V)(v:Value)(us:LU)(Q:VK),Inv X af σ H s->aE x v->aL xs us->r x xs H Q ->
  wq X (call (.builtin id) (v::us)) (EP X af σ Q) X.xe s
theorem aL.one {x:V}{us:LU}(h:aL [x] us):∃u,us=[u]/\aE x u:=by
 cases h with
 |cons r h=>cases h;exact⟨_,rr,r⟩
def aL.two {x y:V}{us:LU}(h:aL [x,y] us):∃u v,us=[u,v]/\aE x u/\aE y v:=by
 cases h with
 |cons r h=>
  grind[aL.one]
theorem aL.zero:∀ {us:LU},aL [] us->us=[]
 |_,.nil=>rr
def aL.dropLast (h:aL xs us):aL xs.dropLast us.dropLast:=by
 induction h with
 |nil=>exact .nil
 |cons r t ih=>
  cases t with
  |nil=>exact .nil
  |cons q t'=>exact .cons r ih
section
variable {X:Cx}{af:AO}{σ:St}{H:Hp}{s:Shared}{l b:Addr}{xs ys zs:List V}
def Inv.lset {its its':LU}{n:Nat}{f:AV->AV}{t':Nat}(I:Inv X af σ H s)(M:H l=some (.lst xs))
  (e:s.heap.get? l=some { cls:=.type "list",data:=.seq its.toArray n }) (hf:f its.toArray=its'.toArray) (hv:aL ys its') (hz:ys.length<=sizeLine):
  Inv X af σ (upd H l (.lst ys)) { s with heap:=s.heap.update l (Obj.mapSeq f),toks:=t' }:=by
 have q:=PySem.IsL.update e f;rw[hf]at q;refine I.write (x:=l) (e:=l) (by rw[M];exact trivial) (.inl rr) (λb' u hb hu=>(Heap.get?_update_other s.heap (Obj.mapSeq f) (Ne.symm hb)).trans hu) ⟨_,q⟩ ?_;exact⟨hz,its',_,hv,q⟩
def Inv.lnew (I:Inv X af σ H s)(hv:aL ys its)(hz:ys.length<=sizeLine):
  Inv X af σ (upd H s.z (.lst ys)) { s with heap:=s.heap.push { cls:=.type "list",data:=.seq its.toArray },toks:=t' } :=
 I.laid (λ_ _ q=>vZ _ q) (vT _) ⟨hz,its,0,hv,vY _ rr⟩
def Inv.fresh (I:Inv X af σ H s):H s.z=none:=I.hok.fresh (vT _)
def Inv.lstM (I:Inv X af σ H s)(M:H l=some (.lst xs)):xs.length<=sizeLine/\∃(its:LU)(n:Nat),aL xs its/\xs.length=its.length/\s.heap.get? l=some { cls:=.type "list",data:=.seq its.toArray n }:=by
 obtain⟨z,its,n,r,e⟩:=I.hok l _ M;exact⟨z,its,n,r,r.length,e⟩
def Ho (h:n<=sizeLine):Builtin.List.listTooLong n=false:=by
 simp_all[Builtin.List.listTooLong]
end
section
variable {X:Cx}
def Ck:V->List V->Hp->VK->Prop:=λx vs H Q=>∃l xs y,x=.ref l/\vs=[y]/\H l=some (.lst xs)/\xs.length<sizeLine/\Q .non (upd H l (.lst (xs++[y])))
def tZ:Y5 X "list.append" Ck:=by
 intro af s σ H x vs v us Q I O U h;obtain⟨l,xs,y,rfl,rfl,M,hz,q⟩:=h;cases O
 obtain⟨u,rfl,ru⟩:=U.one;obtain⟨z,its,n,r,hl,e⟩:=I.lstM M;refine call_meets F.slot_list_append ⟨_,e,rr⟩ F.entry_list_append (F.args_list_append_2 _ _) (PySem.list_append l its.toArray n u (by rw[vH];lia)) ⟨e,?_⟩;refine⟨.non,_,I.lset (its':=its++[u]) M e H9 (r.append (.cons ru .nil)) ?_,rr,q⟩;simp<;>lia
def Me:V->List V->Hp->VK->Prop:=λx vs H Q=>∃l b xs zs,x=.ref l/\vs=[.ref b]/\H l=some (.lst xs)/\H b=some (.lst zs)/\xs.length+zs.length<=sizeLine/\Q .non (upd H l (.lst (xs++zs)))
def Fg:Y5 X "list.extend" Me:=by
 intro af s σ H x vs v us Q I a c h;obtain⟨l,b,xs,zs,rfl,rfl,U,hB,hz,q⟩:=h;cases a
 obtain⟨u,rfl,ru⟩:=c.one;cases ru
 refine cX λG K=>?_;obtain⟨z,its,n,r,hl,e⟩:=I.lstM U;obtain⟨f,M,n2,d,g,e2⟩:=I.lstM hB;apply K;clear K;have hsz:its.toArray.size+M.toArray.size<=sizeLine:=by simp_all
 have O:¬(!its.toArray.isEmpty && Builtin.List.listTooLong (its.toArray.size+M.toArray.size))=true:=by
  simp_all[Ho]
 refine call_meets F.slot_list_extend ⟨_,e,rr⟩ F.entry_list_extend (F.args_list_extend_2 _ _)
  (AutoSeq1.list_extend_list_list_0 l its.toArray n b M.toArray n2 O (by rw[vH];lia) N9) ⟨e,e2,?_⟩
 refine⟨.non,_,I.lset (its':=its++M) U e H9 (r.append d) ?_,rr,q⟩;simp_all
def Zs:V->List V->Hp->VK->Prop:=λx vs H Q=>∃l xs y,x=.ref l/\vs=[]/\H l=some (.lst xs)/\xs[xs.length - 1]? = some y/\Q y (upd H l (.lst xs.dropLast))
def Qx:Y5 X "list.pop" Zs:=by
 intro af s σ H x vs v us Q I a b h;obtain⟨l,xs,y,rfl,rfl,U,hy,q⟩:=h;cases a
 have M:=b.zero;subst M;obtain⟨z,its,n,r,hl,e⟩:=I.lstM U;obtain⟨u,hu,ru⟩:=r.get hy;have O:its.toArray[its.toArray.size - 1]? = some u:=by
  simp_all
 refine call_meets F.slot_list_pop ⟨_,e,rr⟩ F.entry_list_pop (F.args_list_pop_1 _) (MeetsSeq.list_pop_last l its.toArray n u O (by rw[vH];lia)) ⟨e,?_⟩;refine⟨y,_,I.lset (its':=its.dropLast) U e ?_ r.dropLast ?_,ru,q⟩
 .simp
 simp<;>lia
end
end L2
namespace Att
open PySem PySem.W PySem.Calls PyProof.Rows
def pQ:∀(ns:LI)(vs:LU),WellAll P h vs (ns.map WData.int)->IntsAre vs ns:=by
 intro ns;induction ns with
 |nil=>
  intro vs w;rw[List.map_nil]at w;cases w
  exact .nil
 |cons n ns ih=>
  intro vs w;rw[uY]at w;cases w with
  |cons a b=>
   cases a
   exact .cons _ _ (ih _ b)
def Fh {l:OpenLaw}{n:Nat}(hn:l.most=some n){P:Params}{h:Heap}{args:List WData}{vals:LU}
  (M:l.row.toRowW.claim.pre args=true) (b:WellAll P h vals args):
  ∃a vs ns,vals=[Value.ref a]/\args=[WData.list (ns.map WData.int)]/\h.get? a=some { cls:=.type "list",data:=.seq vs.toArray }/\IntsAre vs ns/\ns.length<=n:=by
 have c:WShape.hasAll [] args [.list .int]=true:=(pre_splitW M).1;have hc:l.pre.holds [] { args:=args }=true:=(pre_splitW M).2;obtain⟨d,r,rfl,h1,h2⟩:=hasAllW_cons c;obtain rfl:=hasAllW_nil h2;obtain⟨xs,rfl,h3⟩:=hasW_list h1;obtain⟨ns,rfl⟩:=items_int h3;have O:ns.length<=n:=by
  unfold OpenLaw.pre at hc;have h4:(WTm.not (.lt (.lit (.int (n:Int))) (.len (.arg 0)))).holds [] { args:=[.list (ns.map .int)] }=true:=by
   have h4:=(holds_andW hc).1;rw[hn]at h4;exact h4
  have h5:=condW_of h4 (w_not (w_lt w_lit (w_len_list (w_arg rr))));simp_all
 cases b with
 |cons e f=>
  cases f
  cases e with
  |list g U=>exact⟨_,_,ns,rr,rr,g,pQ ns _ U,O⟩
def Fi (l:OpenLaw)(args:List WData):l.row.toRowW.claim.post args (.bool true) args=true:=
 postW_of (r:=l.row.toRowW) (X:=(true == true))
  (show WShape.has [] (.bool true) .bool=true by rfl)
  (show(WTm.eq .res (.lit (.bool true))).value [] { args:=args,res:=some (.bool true),after:=args }=some (.bool (true == true))from w_eq_bool (w_res rr) w_lit) rr
section
variable {prog:Program}{w:World}{A:Around}{E:QV}{s:Shared}{K:Frag}
end
end Att
namespace L2
open PySem PySem.Spec PyProof.Rows
theorem ga:∀ {vs:LU}{ns:LI},IntsAre vs ns->aL (ns.map V.int) vs
 |_,_,.nil=>.nil
 |_,_,.cons n t h=>.cons ⟨t,rr⟩ (ga h)
noncomputable def df (s:Stmt):Arguments:=match s with
 |.FunctionDef _ a _ _ _ _ _ _ _ _=>a
 |_=>{ posonlyargs:=[],args:=[],vararg:=none,kwonlyargs:=[],kw_defaults:=[],kwarg:=none,defaults:=[] }
noncomputable def bq (s:Stmt):List Stmt:=match s with
 |.FunctionDef _ _ b _ _ _ _ _ _ _=>b
 |_=>[]
noncomputable def a9 (s:Stmt):Scope:=match s with
 |.FunctionDef _ _ _ _ _ _ sc _ _ _=>sc
 |_=>{ kind:=.function,names:=[],isGenerator:=false,isCoroutine:=false }
abbrev yo:ON:=λ_ _ _ _ _ _=>False
abbrev E0:XK:=λ_ _ _=>False
def OO:AK yo X E0:=λ_ _ _ _ _ _ _ h=>h.elim
structure SQ (K:Frag)(x qual:Str)(st:Stmt)(f:Addr)(fd:FuncData):Prop where
 ex:∃(oc:Value)(od:Option Addr)(kV doc pm:Value)(an:Option Addr)(c9 ct:Value)(l7:Array (Option Value)),
  fd=fnOf x qual (df st) (bq st) (a9 st) .none kV doc pm an c9 ct/\K.lookup f=some ⟨oc,od,.func fd,l7⟩/\PySem.W.codeIn K c9 qual=true
 kp:PySem.W.keepIn K (.ref f)=true
section
variable {P:Program}{w:World}{K:Frag}{mg:SV}{base:Heap}
def SQ.ok {x qual:Str}{st:Stmt}{f:Addr}{fd:FuncData}{N ps:LS}{k:Nat}{sp:Sp}(F:SQ K x qual st f fd)(S:FnScope N ps (a9 st))(len:∀vs H Q E,sp vs H Q E->vs.length=ps.length)
  (M:∀(c9:Value)(A:Around)(outer:List Env)(s:Shared)(H:Hp)(vs:List V)(Q:VK)(E:XK),dn k (A.deeper (envOfC qual (a9 st) s.z f c9))->sp vs H Q E ->
   ∃t,tE (pP yo P w K mg base N qual (a9 st) f c9 A outer s H E).nox (bq st) t/\t { nx:=λ_ H'=>Q .non H',rt:=Q } (lG N vs) H):t8 P w K mg base yo (k+1) f fd ps sp:=by
 obtain⟨oc,od,kV,doc,pm,an,c9,ct,l7,rfl,a,O⟩:=F.ex;refine Hg a O S len λA outer s H vs Q E b U=>?_;obtain⟨t,h,q⟩:=M c9 A outer s H vs Q E b U;exact⟨t,h.nox,q⟩
def SQ.binds {x qual:Str}{st:Stmt}{f:Addr}{fd:FuncData}{ps:LS}(F:SQ K x qual st f fd)
  (h:∀(kV doc pm:Value)(an:Option Addr)(c9 ct:Value)(us:LU),us.length=ps.length->bindArgs (fnOf x qual (df st) (bq st) (a9 st) .none kV doc pm an c9 ct) ⟨us,[]⟩=pure (ps.zip us)):pi K fd ps []:=by
 obtain⟨oc,od,kV,doc,pm,an,c9,ct,l7,rfl,O,M⟩:=F.ex;exact .all (h kV doc pm an c9 ct)
def Qy {x qual:Str}{st:Stmt}{f:Addr}{oc:Value}{od an:Option Addr}{l7:Array (Option Value)}{kV doc pm c9 ct:Value}(l:K.lookup f=some ⟨oc,od,.func (fnOf x qual (df st) (bq st) (a9 st) .none kV doc pm an c9 ct),l7⟩)
  (c:PySem.W.codeIn K c9 qual=true) (k:PySem.W.keepIn K (.ref f)=true):SQ K x qual st f (fnOf x qual (df st) (bq st) (a9 st) .none kV doc pm an c9 ct):=⟨⟨oc,od,kV,doc,pm,an,c9,ct,l7,rr,l,c⟩,k⟩
end
def aI (H H':Hp):Prop:=∀b o,H b=some o->H' b=some o
def aI.refl (H:Hp):aI H H:=λ_ _ h=>h
def aI.trans (a:aI H M)(b:aI M H2):aI H H2:=λc o h=>b c o (a c o h)
def aI.free (e:aI H H')(h:H' l=Option.none):H l=Option.none:=by
 cases q:H l with
 |none=>rfl
 |some o=>
  rw[e l o q]at h;cases h
def aI.seq {K:Frag}{H H':Hp}{a:Addr}{xs:List V}(e:aI H H')(h:eN K H a xs):eN K H' a xs:=by
 rcases h with (h|⟨o,h⟩)|h
 .exact .inl (.inl (e _ _ h))
 .exact .inl (.inr ⟨o,e _ _ h⟩)
 .exact .inr h
section
variable {κ:Type}[DecidableEq κ]
noncomputable def lF (aC:List (κ×V))(k:κ):Option V:=(aC.find? λkv=>decide (kv.1=k)).map (·.2)
noncomputable def oh (aC:List (κ×V))(k:κ)(v:V):List (κ×V):=
 if(aC.any λkv=>decide (kv.1=k))=true then aC.map (λkv=>if kv.1=k then (kv.1,v)else kv)else aC++[(k,v)]
def mH {p:κ×V}{r:List (κ×V)}{k:κ}(e:p.1=k):lF (p::r) k=some p.2:=by simp[lF,e]
def mI {p:κ×V}{r:List (κ×V)}{k:κ}(e:¬p.1=k):lF (p::r) k=lF r k:=by simp[lF,e]
theorem yp (k:κ):∀aC:List (κ×V),(aC.any λkv=>decide (kv.1=k))=(lF aC k).isSome
 |[]=>rr
 |p::r=>by
  rw[any_cons];by_cases e:p.1=k
  .simp_all[mH]
  .rw[mI e,ye e];exact yp k r
theorem jL (aC:List (κ×V))(k:κ)(v:V):(oh aC k v).length<=aC.length+1:=by
 grind[oh]
def pO.isSome_eq (r:pO o u):o.isSome=u.isSome:=by
 cases o with
 |none=>cases u with
  |none=>rfl
  |some _=>exact(show False from r).elim
 |some _=>cases u with
  |none=>exact(show False from r).elim
  |some _=>rfl
def pO.getD (r:pO o u)(M:aE d d'):aE (o.getD d) (u.getD d'):=by
 cases o with
 |none=>cases u with
  |none=>exact M
  |some _=>exact(show False from r).elim
 |some _=>cases u with
  |none=>exact(show False from r).elim
  |some _=>exact r
def KV.val {aC:List (κ×V)}{vs:List (κ×Value)}(r:KV aC vs)(k:κ):pO (lF aC k) (valueAt vs k):=by
 induction r with
 |nil=>exact True.intro
 |@cons p q ps M h t ih=>
  obtain⟨h1,h2⟩:=h;by_cases e:p.1=k
  .have b:valueAt (q::M) k=some q.2:=by simp_all[valueAt]
   rw[mH e,b];exact h2
  simp_all[valueAt,mI]
def KV.any (r:KV aC vs)(k:κ):(aC.any λkv=>decide (kv.1=k))=vs.any λkv=>decide (kv.1=k):=by
 induction r with
 |nil=>rfl
 |cons h t ih=>simp_all
def KV.repl (r:KV aC vs)(k:κ)(M:aE y u):
  KV (aC.map λkv=>if kv.1=k then (kv.1,y)else kv) (vs.map λkv=>if kv.1=k then (kv.1,u)else kv):=by
 induction r with
 |nil=>exact .nil
 |@cons p q ps O h t ih=>
  rw[uY];refine .cons ?_ ih;split<;>simp_all
def KV.put (r:KV aC vs)(k:κ)(M:aE y u):KV (oh aC k y) (stored vs k u):=by
 unfold oh stored;rw[r.any k];by_cases e:(vs.any λkv=>decide (kv.1=k))=true
 .rw[if_pos e,if_pos e];exact r.repl k M
 .rw[if_neg e,if_neg e];exact Paired.snoc r ⟨rr,M⟩
def KV.length (r:KV aC vs):aC.length=vs.length:=Paired.length r
end
def yq (r:aE (kV k) u):(cr P w).is k u=true:=by
 cases k with
 |inl i=>obtain⟨t,e⟩:=(show ∃t,u=Value.int i t from r);simp_all[yg]
 |inr x=>obtain⟨t,e⟩:=(show ∃t,u=Value.str x t from r);simp_all[yh]
theorem ua:∀ {ks:List dA}{us:LU},aL (ks.map kV) us->ItemsAre (cr P w) ks us
 |[],_,r=>by cases r;exact .nil
 |k::ks,_,r=>by
  cases r with
  |cons h t=>exact .cons (yq h) (ua t)
abbrev KT (H:Hp):List (List dA×V)->List (List dA×Addr×Value)->Prop:=Paired λp q=>p.1=q.1/\H q.2.1=some (.tup (p.1.map kV))/\aE p.2 q.2.2
def KT.val {H:Hp}{aC:List (List dA×V)}{xs:List (List dA×Addr×Value)}(r:KT H aC xs)(k:List dA):pO (lF aC k) ((atKey xs k).map (·.2)):=by
 induction r with
 |nil=>exact True.intro
 |@cons p q ps M h t ih=>
  obtain⟨h1,_,h2⟩:=h;by_cases e:p.1=k
  .have O:=h1.symm.trans e;have b:atKey (q::M) k=some q.2:=by simp[atKey,O]
   rw[mH e,b];exact h2
  simp_all[atKey,mI]
def KT.repl (r:KT H aC xs)(k:List dA)(M:aE y u):
  KT H (aC.map λkv=>if kv.1=k then (kv.1,y)else kv) (xs.map (putAt k u)):=by
 induction r with
 |nil=>exact .nil
 |@cons p q ps O h t ih=>
  refine .cons ?_ ih;unfold putAt;split<;>simp_all
def KT.put (r:KT H aC xs)(k:List dA)(hb:H b=some (.tup (k.map kV)))(M:aE y u):
  KT H (oh aC k y) (storedH xs k b u):=by
 have e:(aC.any λkv=>decide (kv.1=k))=(atKey xs k).isSome:=by
  rw[yp,(r.val k).isSome_eq,Option.isSome_map]
 unfold oh storedH;rw[e];by_cases q:(atKey xs k).isSome=true
 .rw[if_pos q,if_pos q];exact r.repl k M
 .rw[if_neg q,if_neg q];exact Paired.snoc r ⟨rr,hb,M⟩
def KT.keeps (r:KT H aC xs)(M:∀b ys,H b=some (.tup ys)->H' b=some (.tup ys)):KT H' aC xs:=
 Paired.mapP r λ_ _ z=>⟨z.1,M _ _ z.2.1,z.2.2⟩
section
variable {P:Program}{w:World}{H:Hp}{h:Heap}{a:Addr}
def OP (ok:l8 P w H h)(e:Rd H a u):bg P w H h a u:=e.ok ok
def AS (ok:l8 P w H h)(e:H a=some (.dK aC ob)):h.get? a=some ob:=And.left (show bg P w H h a _ from ok a _ e)
def Cm (ok:l8 P w H h)(e:Rd H a (.dK aC ob)):aC.length<=sizeLine/\(a == sysModules)=false/\∃vs,KV aC vs/\h.DictOf (cr P w) a vs:=
 And.right (show bg P w H h a _ from OP ok e)
def qE (ok:l8 P w H h)(e:H a=some (.dK aC ob)):aC.length<=sizeLine/\(a == sysModules)=false/\∃vs,KV aC vs/\h.DictOf (cr P w) a vs:=Cm ok (.inl e)
theorem wB (ok:l8 P w H h)(e:H a=some (.tup (ks.map kV))):(tupleKind (cr P w)).is h ks a:=by
 obtain⟨_,its,r,o,h1,h2,n,h3⟩:=(show bg P w H h a _ from ok a _ e);exact⟨o,its.toArray,n,h1,h2,h3,by simpa using ua r⟩
def Cn (ok:l8 P w H h)(e:Rd H a (.dT aC)):aC.length<=sizeLine/\(a == sysModules)=false /\
  ∃xs,KT H aC xs/\h.DictOfH (tupleKind (cr P w)) a xs:=by
 refine cX λG g=>?_;obtain⟨z,y,xs,r,o,es,M,h1,h2,h3,h4,h5⟩:=(show bg P w H h a _ from OP ok e);apply g;clear g;refine⟨z,y,xs,r,o,es,M,h1,h2,h3,h4,λx hx=>?_,h5⟩;have all:∀ {l:List _}{m:List _},KT H l m->∀x∈m,(tupleKind (cr P w)).is h x.1 x.2.1:=by
  intro l m q;induction q with
  |nil=>intro x hx;exact nomatch hx
  |@cons p q ps O hq t ih=>
   grind[wB]
 exact all r x hx
def U9 (ok:l8 P w H h)(e:H a=some (.dT aC)):aC.length<=sizeLine/\(a == sysModules)=false /\
  ∃xs,KT H aC xs/\h.DictOfH (tupleKind (cr P w)) a xs:=Cn ok (.inl e)
end
def Mf (H:Hp)(a:Addr)(y:V)(r:Option V):Prop:=
 (∃aC k ob,Rd H a (.dK aC ob)/\y=kV k/\r=lF aC k)\/∃aC k b,Rd H a (.dT aC)/\y=.ref b/\H b=some (.tup (k.map kV))/\r=lF aC k
def UA (H:Hp)(a:Addr)(y v:V)(Q:Hp->Prop):Prop:=
 (∃aC k ob,H a=some (.dK aC ob)/\y=kV k/\aC.length<sizeLine/\∀M,Q (upd H a (.dK (oh aC k v) M))) \/
 ∃aC k b,H a=some (.dT aC)/\y=.ref b/\H b=some (.tup (k.map kV))/\aC.length<sizeLine/\Q (upd H a (.dT (oh aC k v)))
section
variable {X:Cx}{af:AO}{σ:St}{H:Hp}{s:Shared}{a:Addr}{y v:V}{u r:Value}{o:Option V}{A:Around}{E:QV}
def Inv.big (I:Inv X af σ H s):sysModules<s.z:=by
 have h:=(I.mod.glob.keeps I.bk).lt;exact Nat.lt_trans P9 h
def Zu (hu:A.units+1<cLine)(I:Inv X af σ H s)(g:Mf H a y o)(O:aE y u)(h:∀s',Inv X af σ H s'->Q (.bool o.isSome) s'):
  wpAny (model X.prog X.w) A (compareOp .In u (.ref a)) Q E s:=by
 rcases g with⟨aC,k,ob,e,M,l⟩|⟨aC,k,b,e,M,U,l⟩
 .subst M;obtain⟨z,hd,vs,rel,dd⟩:=Cm I.hok e;refine wpAny_in_of (yq O) hd dd.mapOf ?_;rw[<-(rel.val k).isSome_eq,<-l];exact h _ (I.tok _)
 .subst M;cases (show u=Value.ref b from O)
  obtain⟨z,hd,xs,rel,dd⟩:=Cn I.hok e;refine wpAny_in_heap (tupleKind_room_in1 hu) (wB I.hok U) hd dd ?_;have q:=(rel.val k).isSome_eq;rw[Option.isSome_map]at q;rw[<-q,<-l];exact h _ (I.tok _)
def wD (I:Inv X af σ H s)(M:TW (H a))(hs:Heap.SameBut a s.heap h')(he:∃q,h'.get? a=some q)(new:bg X.prog X.w (upd H a ob) h' a ob):
  Inv X af σ (upd H a ob) { s with heap:=h',toks:=t' } :=
 I.write M (.inl rr) (λb q hb z=>(hs.2 b hb).trans z) he new
def Hq (z:aC.length<=sizeLine)(hd:(a == sysModules)=false)(rel:KV aC vs)(dd:h'.DictOf (cr P w) a vs)(M:h'.get? a=some ob):
  bg P w H' h' a (.dK aC ob):=⟨M,z,hd,vs,rel,dd⟩
def Fj (hu:A.units+1<cLine)(I:Inv X af σ H s)(g:UA H a y v R)(d:aE y u)(f:aE v r)(h:∀H' s',R H'->Inv X af σ H' s'->Q () s'):
  wpAny (model X.prog X.w) A (setItem (.ref a) u r) Q E s:=by
 rcases g with⟨aC,k,ob,e,O,l,U⟩|⟨aC,k,b,e,O,i,l,U⟩
 .subst O;obtain⟨z,hd,vs,rel,dd⟩:=qE I.hok e;have hz:vs.length<=sizeLine:=by rw[<-rel.length];exact z
  have hl:(oh aC k v).length<=sizeLine:=by have:=jL aC k v;lia
  refine wpAny_setItem_pairs (hsz:=hz) (yq d) dd λh' M hs=>?_;obtain⟨q,hq⟩:∃q,h'.get? a=some q:=let ⟨q,_,_,hq,_⟩:=M;⟨q,hq⟩;exact h _ _ (U q) (wD I (by rw[e];exact True.intro) hs ⟨q,hq⟩ (Hq hl hd (rel.put k f) M hq))
 .subst O;cases (show u=Value.ref b from d)
  obtain⟨z,hd,xs,rel,dd⟩:=U9 I.hok e;have hz:xs.length<=sizeLine:=by rw[<-Paired.length rel];exact z
  have hl:(oh aC k v).length<=sizeLine:=by have:=jL aC k v;lia
  refine wpAny_setItem_heap (hsz:=hz) (tupleKind_room_in1 hu) (wB I.hok i) dd λh' M hs=>h _ _ U ?_;refine cX λG K=>?_;obtain⟨q,es,m,hq,h2,h3,h4,_,h5⟩:=M;apply K;refine wD I (by rw[e];exact True.intro) hs ⟨q,hq⟩ ⟨hl,hd,_,(rel.put k i f).keeps λc ys j=>?_,q,es,m,hq,h2,h3,h4,h5⟩;rw[a7 (TV j e (λz=>nomatch z))];exact j
end
def Zv (ty M:TE):TE:=λσ H Q=>ty σ H λy O=>M σ O λx H2=>∃a o,x=.ref a/\Mf H2 a y o/\Q (.bl o.isSome) H2
def Co (M ty O:TE):TS:=λD σ H=>O σ H λv U=>M σ U λx H2=>ty σ H2 λy b=>∃a,x=.ref a/\UA b a y v (D.nx σ)
section
variable {X:Cx}{o i e value:Expr}{pos A1 SO:Pos}{td ty tv:TE}
def Qz (hu:X.A.units+1<cLine)(hi:PE X i ty)(M:PE X o td):PC X .In i o (Zv ty td):=by
 intro af s σ H Q I h;refine bG (hi _ s σ H _ I h) λiv s1 ⟨y,O,U,b,c⟩=>bG (M _ s1 σ O _ U c) λu s2 ⟨x,H2,d,f,a,k,ex,g,q2⟩=>?_;subst ex;obtain rfl:u=Value.ref a:=f;exact Zu hu d g b λl j=>⟨.bl _,H2,j,rr,q2⟩
def wF (hu:X.A.units+1<cLine)(M:PE X o td)(hi:PE X i ty)(hv:PE X value tv)(hs:swapsWith value (some (.Subscript o i A1)) pos.line X.env=pure false):
  PS X (.Assign [.Subscript o i A1] value pos) (Co td ty tv):=by
 intro af s σ H D I h;refine wpAny_Assign_Subscript (bG (hv _ s σ H _ I h) λr s1 ⟨v,O,U,b,c⟩=>bG (M _ s1 σ O _ U c) λu s2 ⟨x,H2,d,f,q2⟩=>bG (hi _ s2 σ H2 _ d q2) λiv p ⟨y,q,j,k,a,ex,g⟩=>?_) hs;subst ex;obtain rfl:u=Value.ref a:=f;exact Fj hu j g k b λl t m n=>⟨σ,l,n,m⟩
end
def yr (h:Heap)(hb:sysModules<h.objs.size):bg P w H (h.push { cls:=.type "dict",data:=.dict #[] }) h.objs.size (.dK [] { cls:=.type "dict",data:=.dict #[] }):=
 ⟨vY _ rr,uN _,beq_eq_false_iff_ne.mpr (Ne.symm (vS hb)),[],.nil,Heap.DictOf.new h⟩
def Hr (h:Heap)(hb:sysModules<h.objs.size):bg P w H (h.push { cls:=.type "dict",data:=.dict #[] }) h.objs.size (.dT []):=
 ⟨uN _,beq_eq_false_iff_ne.mpr (Ne.symm (vS hb)),[],.nil,_,#[],0,vY _ rr,⟨rr,rr,rr⟩,rr,rr,nodup_nil⟩
def Hs:TE:=λ_ H Q=>∀p ob,H p=none->Q (.ref p) (upd H p (.dK [] ob))
def Ht:TE:=λ_ H Q=>∀p,H p=none->Q (.ref p) (upd H p (.dT []))
section
variable {X:Cx}{pos:Pos}
def Hu:PE X (.Dict [] [] pos) Hs:=λaf s σ H Q I h=>
 wpAny_Dict_empty ⟨.ref _,_,I.laid (λ_ _ q=>vZ _ q) (vT _) (yr _ I.big),rr,h _ _ (I.hok.fresh (vT _))⟩
def Hv:PE X (.Dict [] [] pos) Ht:=λaf s σ H Q I h=>
 wpAny_Dict_empty ⟨.ref _,_,I.laid (λ_ _ q=>vZ _ q) (vT _) (Hr _ I.big),rr,h _ (I.hok.fresh (vT _))⟩
end
structure M1 (X:Cx)(o:Expr)(m:Str)(bV:Pos)(e:Expr)(b9:Pos):Prop where
 base:attributeBase o m X.env (eval o X.env)=eval o X.env
 few:ph b9 e X.env
 line:(bV.endLine == b9.line)=true
 trees:backTo b9 (starEach [e] X.env)=[(false,eval e X.env)]
def IsD (H:Hp)(a:Addr):Prop:=(∃aC ob,Rd H a (.dK aC ob))\/∃aC,Rd H a (.dT aC)
def Q0 (I:Inv X af σ H s)(d:IsD H a):
  s.TypeIs (.ref a) "dict"/\(∀b,Value.ref a=.ref b->∃ob,s.heap.get? b=some ob/\ob.dict=none)/\(a == sysModules)=false:=by
 rcases d with⟨aC,M,e⟩|⟨aC,e⟩
 .obtain⟨_,hd,vs,_,dd⟩:=Cm I.hok e;refine⟨dd.typeIs,λb q=>?_,hd⟩;cases q
  obtain⟨ob,_,_,h1,h2,_⟩:=dd;exact⟨ob,h1,h2.2.1⟩
 .obtain⟨_,hd,xs,_,dd⟩:=Cn I.hok e;refine⟨dd.typeIs,λb q=>?_,hd⟩;cases q
  obtain⟨ob,_,_,h1,h2,_⟩:=dd;exact⟨ob,h1,h2.2.1⟩
section
variable {X:Cx}{af:AO}{σ:St}{H:Hp}{s:Shared}{a:Addr}{y d:V}{u r:Value}{o:Option V}{A:Around}{E:QV}
def Q1 (hu:A.units+1<cLine)(I:Inv X af σ H s)(g:Mf H a y o)(O:aE y u)(h:∀U s',Inv X af σ H s'->aE (o.getD .non) U->Q U s'):
  wpAny (model X.prog X.w) A (call (.builtin "dict.get") [.ref a,u]) Q E s:=by
 rcases g with⟨aC,k,ob,e,M,l⟩|⟨aC,k,b,e,M,c,l⟩
 .subst M;obtain⟨z,hd,vs,rel,dd⟩:=Cm I.hok e;refine call_meetsIn slot_dict_get dd.typeIs entry_dict_get (PySem.F.args_dict_get_2 _ _) (meets_dict_get _ a (yq O) hd) ⟨_,dd.mapOf,h _ _ (I.tok _) ?_⟩;rw[l];exact(rel.val k).getD rr
 .subst M;cases (show u=Value.ref b from O)
  obtain⟨z,hd,xs,rel,dd⟩:=Cn I.hok e;refine call_meetsIn slot_dict_get dd.typeIs entry_dict_get (PySem.F.args_dict_get_2 _ _) (meetsH_dict_get _ a b hd) ⟨tupleKind_room_in1 hu,k,xs,wB I.hok c,dd,h _ _ (I.tok _) ?_⟩;rw[l];exact(rel.val k).getD rr
end
def Q2 (O ty:TE):TE:=λσ H Q=>O σ H λx M=>∃a,x=.ref a/\IsD M a/\ty σ M λy H2=>∃o,Mf H2 a y o/\Q (o.getD .non) H2
section
variable {X:Cx}{o e f:Expr}{bV b9:Pos}{td ty tx:TE}
def yt (hu:X.A.units+1<cLine)(U:PE X o td)(he:PE X e ty)(m:M1 X o "get" bV e b9):PE X (.Call (.Attribute o "get" bV) [e] [] b9) (Q2 td ty):=by
 intro af s σ H Q I h;refine wpAny_Call_method m.base m.few m.line plainAttrs_dict slot_dict_get PySem.F.type_dict_get (bG (U _ s σ H _ I h) λu s1 ⟨x,b,O,c,a,ex,d,i⟩=>?_);subst ex;obtain rfl:u=Value.ref a:=c;obtain⟨j,k,_⟩:=Q0 O d;refine⟨j,k,?_⟩;rw[m.trees];refine Calls.callWith_builtin rr (Calls.evalArgs_plain (Calls.spliced_cons (bG (he _ s1 σ b _ O i) λiv s2 ⟨y,H2,l,n,q,g,q2⟩=>Calls.spliced_nil ?_)));exact Q1 hu l g n λr t p M=>⟨_,H2,p,M,q2⟩
end
end L2
namespace DL
open PySem L2
abbrev St:=L2.St
set_option genInjectivity true in
inductive D where
 |non|bl (b:Bool)|int (i:Int)|str (x:Str)|ty (n:String)|tup (ds:List D)|lst (ds:List D)
  |dk (ks:List dA) (vs:List D)|dt (ks:List (List dA)) (vs:List D)
abbrev LD:=List D
abbrev LV:=List V
abbrev LK:=List dA
abbrev OB:=Option (D×Bool)
mutual
inductive Is (K:Frag)(H:Hp):V->D->Prop where
 |non:Is K H .non .non
 |bl (b:Bool):Is K H (.bl b) (.bl b)
 |int (i:Int):Is K H (.int i) (.int i)
 |str (x:Str):Is K H (.str x) (.str x)
 |ty (n:String):Is K H (.ty n) (.ty n)
 |tup {a:Addr}{vs:List V}{ds:List D}(h:hV K H a vs) (hs:IsL K H vs ds):Is K H (.ref a) (.tup ds)
 |lst {a:Addr}{vs:List V}{ds:List D}(h:eN K H a vs) (hs:IsL K H vs ds):Is K H (.ref a) (.lst ds)
 |dk {a:Addr}{ks:List dA}{vs:List V}{ds:List D}{ob:Obj}(h:H a=some (.dK (ks.zip vs) ob)) (hl:ks.length=vs.length) (hs:IsL K H vs ds):Is K H (.ref a) (.dk ks ds)
 |dt {a:Addr}{ks:List (List dA)}{vs:List V}{ds:List D}(h:H a=some (.dT (ks.zip vs))) (hl:ks.length=vs.length) (hs:IsL K H vs ds):Is K H (.ref a) (.dt ks ds)
inductive IsL (K:Frag)(H:Hp):List V->List D->Prop where
 |nil:IsL K H [] []
 |cons {v:V}{d:D}{vs:List V}{ds:List D}(h:Is K H v d) (hs:IsL K H vs ds):IsL K H (v::vs) (d::ds)
end
mutual
def aQ:D->Bool
 |.lst _=>false
 |.dk _ _=>false
 |.dt _ _=>false
 |.tup ds=>aN ds
 |_=>true
def aN:LD->Bool
 |[]=>true
 |d::ds=>aQ d && aN ds
end
@[simp] def Tn:aQ .non=true:=by simp only[aQ]
@[simp] def UB (b:Bool):aQ (.bl b)=true:=by simp only[aQ]
@[simp] def To (i:Int):aQ (.int i)=true:=by simp only[aQ]
@[simp] def Tp (x:Str):aQ (.str x)=true:=by simp only[aQ]
@[simp] def UC (x:String):aQ (.ty x)=true:=by simp only[aQ]
@[simp] def Tr (ds:LD):aQ (.tup ds)=aN ds:=by rw[aQ]
@[simp] def Ts (ds:LD):aQ (.lst ds)=false:=by rw[aQ]
@[simp] def UD (ks:LK)(ds:LD):aQ (.dk ks ds)=false:=by rw[aQ]
@[simp] def UE (ks:List LK)(ds:LD):aQ (.dt ks ds)=false:=by rw[aQ]
@[simp] def Q3:aN []=true:=by rw[aN]
@[simp] def OQ (d:D)(ds:LD):aN (d::ds)=(aQ d && aN ds):=by rw[aN]
section
variable {K:Frag}{H H':Hp}
mutual
theorem Is.keep (M:∀a vs,hV K H a vs->hV K H' a vs)(O:∀a vs,eN K H a vs->eN K H' a vs)(U:∀a aC ob,H a=some (.dK aC ob)->H' a=some (.dK aC ob))(c:∀a aC,H a=some (.dT aC)->H' a=some (.dT aC)):∀ {v:V}{d:D},Is K H v d->Is K H' v d
 |_,_,.non=>.non
 |_,_,.bl b=>.bl b
 |_,_,.int i=>.int i
 |_,_,.str x=>.str x
 |_,_,.ty x=>.ty x
 |_,_,.tup h hs=>.tup (M _ _ h) (IsL.keep M O U c hs)
 |_,_,.lst h hs=>.lst (O _ _ h) (IsL.keep M O U c hs)
 |_,_,.dk h hl hs=>.dk (U _ _ _ h) hl (IsL.keep M O U c hs)
 |_,_,.dt h hl hs=>.dt (c _ _ h) hl (IsL.keep M O U c hs)
theorem IsL.keep (M:∀a vs,hV K H a vs->hV K H' a vs)(O:∀a vs,eN K H a vs->eN K H' a vs)(U:∀a aC ob,H a=some (.dK aC ob)->H' a=some (.dK aC ob))(b:∀a aC,H a=some (.dT aC)->H' a=some (.dT aC)):∀ {vs:LV}{ds:LD},IsL K H vs ds->IsL K H' vs ds
 |_,_,.nil=>.nil
 |_,_,.cons h hs=>.cons (Is.keep M O U b h) (IsL.keep M O U b hs)
end
mutual
theorem Is.keepT (M:∀a vs,hV K H a vs->hV K H' a vs):∀ {v:V}{d:D},Is K H v d->aQ d=true->Is K H' v d
 |_,_,.non,_=>.non
 |_,_,.bl b,_=>.bl b
 |_,_,.int i,_=>.int i
 |_,_,.str x,_=>.str x
 |_,_,.ty x,_=>.ty x
 |_,_,.tup h hs,n=>.tup (M _ _ h) (IsL.keepT M hs (by simpa using n))
 |_,_,.lst h hs,n=>by simp at n
 |_,_,.dk h hl hs,n=>by simp at n
 |_,_,.dt h hl hs,n=>by simp at n
theorem IsL.keepT (M:∀a vs,hV K H a vs->hV K H' a vs):∀ {vs:LV}{ds:LD},IsL K H vs ds->aN ds=true->IsL K H' vs ds
 |_,_,.nil,_=>.nil
 |_,_,.cons h hs,n=>by
  simp at n;exact .cons (Is.keepT M h n.1) (IsL.keepT M hs n.2)
end
def aS (e:aI H H')(h:hV K H a xs):hV K H' a xs:=by
 rcases h with (h|⟨o,h⟩)|h
 .exact .inl (.inl (e _ _ h))
 .exact .inl (.inr ⟨o,e _ _ h⟩)
 .exact .inr h
def Is.mono (h:Is K H v d)(e:aI H H'):Is K H' v d:=h.keep (λ_ _=>aS e) (λ_ _=>e.seq) (λ_ _ _ q=>e _ _ q) λ_ _ q=>e _ _ q
def IsL.mono (h:IsL K H v d)(e:aI H H'):IsL K H' v d:=h.keep (λ_ _=>aS e) (λ_ _=>e.seq) (λ_ _ _ q=>e _ _ q) λ_ _ q=>e _ _ q
theorem IsL.length:∀ {vs:LV}{ds:LD},IsL K H vs ds->vs.length=ds.length
 |_,_,.nil=>rr
 |_,_,.cons _ t=>congrArg _ t.length
theorem IsL.get:∀ {vs:LV}{ds:LD}{i:Nat}{d:D},IsL K H vs ds->ds[i]? = some d->∃v,vs[i]? = some v/\Is K H v d
 |_,_,_,_,.nil,e=>by simp at e
 |_,_,0,_,.cons h _,e=>by simp_all
 |_,_,i+1,d,.cons _ t,e=>by
  obtain⟨u,h1,h2⟩:=t.get (by simpa using e);simp_all
theorem IsL.append:∀ {vs ws:LV}{ds es:LD},IsL K H vs ds->IsL K H ws es->IsL K H (vs++ws) (ds++es)
 |_,_,_,_,.nil,s=>s
 |_,_,_,_,.cons r t,s=>.cons r (t.append s)
theorem IsL.take:∀ {vs:LV}{ds:LD}(n:Nat),IsL K H vs ds->IsL K H (vs.take n) (ds.take n)
 |_,_,0,_=>by simpa using IsL.nil
 |_,_,_+1,.nil=>.nil
 |_,_,n+1,.cons r t=>.cons r (t.take n)
theorem IsL.drop:∀ {vs:LV}{ds:LD}(n:Nat),IsL K H vs ds->IsL K H (vs.drop n) (ds.drop n)
 |_,_,0,r=>r
 |_,_,_+1,.nil=>.nil
 |_,_,n+1,.cons _ t=>t.drop n
theorem IsL.set (h:Is K H v d):∀ {vs:LV}{ds:LD}(i:Nat),IsL K H vs ds->IsL K H (vs.set i v) (ds.set i d)
 |_,_,_,.nil=>.nil
 |_,_,0,.cons _ t=>.cons h t
 |_,_,i+1,.cons r t=>.cons r (IsL.set h i t)
def IsL.flat {vs:LV}{ns:LI}(h:vs=ns.map V.int):IsL K H vs (ns.map D.int):=by
 subst h;induction ns with
 |nil=>exact .nil
 |cons n ns ih=>exact .cons (.int n) ih
end
structure Ext (B N H H':Hp):Prop where
 hh:aI H H'
 bn:aI B N
 nh:aI N H'
 new:∀a o,N a=some o->B a=some o\/H a=none
def Ext.refl (h:aI B H):Ext B B H H:=⟨.refl _,.refl _,h,λ_ _ e=>.inl e⟩
def Ext.trans (x:Ext B N H M)(y:Ext N N2 M H2):Ext B N2 H H2:=
 ⟨x.hh.trans y.hh,x.bn.trans y.bn,y.nh,λa o e=>(y.new a o e).elim (λq=>x.new a o q) λq=>.inr (x.hh.free q)⟩
def Ext.laid (h:aI B H)(hp:H p=none):Ext B (upd B p o) H (upd H p o):=by
 have hB:=h.free hp;refine⟨λa u e=>?_,λa u e=>?_,λa u e=>?_,λa u e=>?_⟩
 .grind[a7]
 .grind[a7]
 .by_cases q:a=p
  .simp_all[au]
  .rw[a7 q]at e |-;exact h _ _ e
 grind[a7]
def Ext.grow (h:aI B H)(hh:aI H H'):Ext B B H H':=⟨hh,.refl _,h.trans hh,λ_ _ e=>.inl e⟩
abbrev Env:=List OB
abbrev FE:=Env->OB
abbrev FA:=Env->Option LD
abbrev FT:=Env->Option Bool
def Tt (K:Frag)(H N:Hp)(v:V):D->Prop
 |.tup ds=>∃(a:Addr)(vs:LV),v=.ref a/\hV K N a vs/\IsL K N vs ds/\∀(i:Nat)(es:LD),ds[i]? = some (.lst es)->∃(b:Addr)(us:LV),vs[i]? = some (.ref b)/\H b=none/\N b=some (.lst us)/\IsL K N us es
 |d=>∃(a:Addr)(vs:LV)(ds:LD),v=.ref a/\d=.lst ds/\H a=none/\N a=some (.lst vs)/\IsL K N vs ds
def Tt.back (h:Tt K H' N v d)(e:aI H H'):Tt K H N v d:=by
 cases d
 case tup=>exact let ⟨a,vs,q,y,z,r⟩:=h;⟨a,vs,q,y,z,λi es g=>let ⟨b,us,g1,M,O⟩:=r i es g;⟨b,us,g1,e.free M,O⟩⟩
 all_goals exact let ⟨a,vs,ds,q,y,z,r⟩:=h;⟨a,vs,ds,q,y,e.free z,r⟩
noncomputable def jM:LS:=["in_order","has_seal","is_first_death","bases_by","as_heard"]
noncomputable def tI (x:Str):Str:=x ++ ".<locals>." ++ "<lambda>"
def Tb (K:Frag)(B:Hp):Prop:=∀x∈jM,∀c P,PySem.W.tabIn K x=some (c,P)->B P=some (.tbl (tI x))
def Tb.mono (h:Tb K B)(e:aI B M):Tb K M:=λx hx c P q=>e _ _ (h x hx c P q)
structure eM (K:Frag)(B:Hp)(σ:St)(ρ:Env):Prop where
 tb:Tb K B
 at':∀(i:Nat)(d:D)(b:Bool),ρ[i]? = some (some (d,b))->∃v,σ[i]? = some (some v)/\Is K B v d
def eM.mono (h:eM K B σ ρ)(e:aI B M):eM K M σ ρ:=⟨h.tb.mono e,λi d b q=>let ⟨v,h1,h2⟩:=h.at' i d b q;⟨v,h1,h2.mono e⟩⟩
def Fin (K:Frag)(B H:Hp)(d:D)(b:Bool)(Q:VK):Prop:=∀(v:V)(H' N:Hp),Ext B N H H'->Is K N v d->(b=true->Tt K H N v d)->Q v H'
def tD (K:Frag)(f:FE):TE:=λσ H Q=>∃(B:Hp)(ρ:Env)(d:D)(b:Bool),aI B H/\eM K B σ ρ/\f ρ=some (d,b)/\Fin K B H d b Q
def Cp (K:Frag)(f:FT):TT:=λσ H Q=>∃(B:Hp)(ρ:Env)(c:Bool),aI B H/\eM K B σ ρ/\f ρ=some c/\∀H',aI H H'->Q c H'
def Tu (K:Frag)(f:FA):TA:=λσ H Q=>∃(B:Hp)(ρ:Env)(ds:LD),aI B H/\eM K B σ ρ/\f ρ=some ds/\∀(vs:LV)(H' N:Hp),Ext B N H H'->IsL K N vs ds->Q vs H'
def rD (K:Frag)(op:D->D->OB):R2:=λx y H Q=>∃(B:Hp)(dx M d:D)(b:Bool),aI B H/\Is K B x dx/\Is K B y M/\op dx M=some (d,b)/\Fin K B H d b Q
def eR {K:Frag}{op:D->D->OB}{x y:V}{H:Hp}{Q:VK}{G:Prop}(q:rD K op x y H Q)(k:∀(B:Hp)(c e d:D)(b:Bool),aI B H->Is K B x c->Is K B y e->op c e=some (d,b)->Fin K B H d b Q->G):G:=let⟨B,c,e,d,b,M,i,j,f,g⟩:=q;k B c e d b M i j f g
def Zw (K:Frag)(op:D->OB):V->Hp->VK->Prop:=λx H Q=>∃(B:Hp)(dx d:D)(b:Bool),aI B H/\Is K B x dx/\op dx=some (d,b)/\Fin K B H d b Q
def A6 (K:Frag)(op:LD->OB):LV->Hp->VK->Prop:=λxs H Q=>∃(B:Hp)(ds:LD)(d:D)(b:Bool),aI B H/\IsL K B xs ds/\op ds=some (d,b)/\Fin K B H d b Q
def eS {K:Frag}{op:LD->OB}{xs:LV}{H:Hp}{Q:VK}{G:Prop}(q:A6 K op xs H Q)(k:∀(B:Hp)(ds:LD)(d:D)(b:Bool),aI B H->IsL K B xs ds->op ds=some (d,b)->Fin K B H d b Q->G):G:=let⟨B,ds,d,b,M,i,e,f⟩:=q;k B ds d b M i e f
theorem Fin.one (h:Fin K B H d false Q)(s:aI B H)(i:Is K B v d):Q v H:=h v H B (.refl s) i H9
def Fin.into (h:Fin K B H d b Q)(x:Ext B N H O):Fin K N O d b Q:=λv H' N' y i M=>h v H' N' (x.trans y) i λe=>(M e).back x.hh
@[simp] def fC (d:D):FE:=λ_=>some (d,false)
@[simp] noncomputable def am (i:Nat):FE:=λρ=>match ρ[i]? with|some (some (d,_))=>some (d,false)|_=>none
@[simp] noncomputable def f2 (op:D->D->OB)(fa M:FE):FE:=λρ=>(fa ρ).bind λx=>(M ρ).bind λy=>op x.1 y.1
@[simp] noncomputable def f1 (op:D->OB)(fa:FE):FE:=λρ=>(fa ρ).bind λx=>op x.1
@[simp] def a0:FA:=λ_=>some []
@[simp] noncomputable def ak (fa:FE)(M:FA):FA:=λρ=>(fa ρ).bind λx=>(M ρ).bind λxs=>some (x.1::xs)
@[simp] noncomputable def fA (op:LD->OB)(fa:FA):FE:=λρ=>(fa ρ).bind op
def Q4 (h:tD K (am i) σ H Q):∃v,σ[i]? = some (some v)/\Q v H:=by
 obtain⟨B,ρ,d,b,s,r,e,q⟩:=h;unfold am at e;split at e
 .rename_i d' b' M;cases e
  obtain⟨v,h1,h2⟩:=r.at' i _ _ M;exact⟨v,h1,q.one s h2⟩
 simp_all
def Mg (h:tD K (f2 op fa fb) σ H Q):tD K fa σ H λx U=>tD K fb σ U λy H2=>rD K op x y H2 Q:=by
 refine cX λG g=>?_;obtain⟨B,ρ,d,b,s,r,e,q⟩:=h;refine eX e λx ex e=>?_;refine eX e λy a e=>?_;apply g;refine⟨B,ρ,x.1,x.2,s,r,ex,λv U N M i1 _=>⟨N,ρ,y.1,y.2,M.nh,r.mono M.bn,a,λc H2 N2 O i2 _=>⟨N2,x.1,y.1,d,b,O.nh,i1.mono O.bn,i2,e,?_⟩⟩⟩;exact q.into (M.trans O)
def Zx (h:tD K (f1 op fa) σ H Q):tD K fa σ H λx M=>Zw K op x M Q:=by
 refine cX λG g=>?_;obtain⟨B,ρ,d,b,s,r,e,q⟩:=h;refine eX e λx ex e=>?_;apply g;exact⟨B,ρ,x.1,x.2,s,r,ex,λv M N O i1 _=>⟨N,x.1,d,b,O.nh,i1,e,q.into O⟩⟩
def Mh (h:tD K (fA op fa) σ H Q):Tu K fa σ H λxs M=>A6 K op xs M Q:=by
 refine cX λG g=>?_;obtain⟨B,ρ,d,b,s,r,e,q⟩:=h;refine eX e λx ex e=>?_;apply g;exact⟨B,ρ,x,s,r,ex,λv M N O i1=>⟨N,x,d,b,O.nh,i1,e,q.into O⟩⟩
def Mi (h:Tu K a0 σ H Q):Q [] H:=by
 obtain⟨B,ρ,ds,s,r,e,q⟩:=h;cases e
 exact q [] H B (.refl s) .nil
def Hw (h:Tu K (ak fa fr) σ H Q):tD K fa σ H λx O=>Tu K fr σ O λxs H2=>Q (x::xs) H2:=by
 refine cX λG g=>?_;obtain⟨B,ρ,ds,s,r,e,q⟩:=h;refine eX e λx ex e=>?_;refine eX e λy a e=>?_;apply g;cases e
 exact⟨B,ρ,x.1,x.2,s,r,ex,λv O N M i1 _=>⟨N,ρ,y,M.nh,r.mono M.bn,a,λvs H2 N2 U i2=>q _ H2 N2 (M.trans U) (.cons (i1.mono U.bn) i2)⟩⟩
@[simp] noncomputable def bW (f:FE):FT:=λρ=>match f ρ with|some (.bl c,_)=>some c|_=>none
@[simp] noncomputable def gm (f g:FT):FT:=λρ=>match f ρ with|some true=>g ρ|some false=>some false|none=>none
@[simp] noncomputable def lQ (f g:FT):FT:=λρ=>match f ρ with|some true=>some true|some false=>g ρ|none=>none
@[simp] noncomputable def mJ (f:FT):FT:=λρ=>(f ρ).map (!·)
open Classical in
noncomputable def dB (H:Hp)(P:Addr->Prop):Hp:=λa=>if P a then none else H a
theorem cm (h:¬P a):dB H P a=H a:=by unfold dB;rw[if_neg h]
theorem AT (h:P a):dB H P a=none:=by unfold dB;rw[if_pos h]
theorem qF (h:dB H P a=some o):¬P a/\H a=some o:=by
 grind[AT,cm]
def br:aI (dB H P) H:=λ_ _ e=>(qF e).2
def dC (e:∀a o,H a=some o->¬P a->H' a=some o/\¬M a):aI (dB H P) (dB H' M):=λa o q=>by
 grind[qF,cm]
noncomputable def join (N N':Hp):Hp:=λa=>match N a with|some o=>some o|none=>N' a
def dY:aI N (join N N'):=λa o e=>by unfold join;rw[e]
def dh (e:N a=none):join N N' a=N' a:=by unfold join;rw[e]
def own (σ:St)(ρ:Env)(a:Addr):Prop:=∃(i:Nat)(d:D),ρ[i]? = some (some (d,true))/\σ[i]? = some (some (V.ref a))
inductive Bx (K:Frag)(C:Hp):HO->D->Prop where
 |lst {vs:List V}{ds:List D}(h:IsL K C vs ds):Bx K C (.lst vs) (.lst ds)
 |dk {ks:List dA}{vs:List V}{ds:List D}(hl:ks.length=vs.length) (h:IsL K C vs ds) {ob:Obj}:Bx K C (.dK (ks.zip vs) ob) (.dk ks ds)
 |dt {ks:List (List dA)}{vs:List V}{ds:List D}(hl:ks.length=vs.length) (h:IsL K C vs ds):Bx K C (.dT (ks.zip vs)) (.dt ks ds)
def Bx.mono (h:Bx K C o d)(e:aI C M):Bx K M o d:=by
 cases h with
 |lst h=>exact .lst (h.mono e)
 |dk hl h=>exact .dk hl (h.mono e)
 |dt hl h=>exact .dt hl (h.mono e)
def Bx.is (h:Bx K C o d)(e:C a=some o):Is K C (.ref a) d:=by
 cases h with
 |lst h=>exact .lst (eN.of e) h
 |dk hl h=>exact .dk e hl h
 |dt hl h=>exact .dt e hl h
structure dc (K:Frag)(B0 H0 N H:Hp)(σ:St)(ρ:Env):Prop where
 bh:aI B0 H0
 tb:Tb K B0
 ext:Ext B0 N H0 H
 len:ρ.length=σ.length
 sh:∀(i:Nat)(d:D),ρ[i]? = some (some (d,false))->∃v,σ[i]? = some (some v)/\Is K (dB N (own σ ρ)) v d
 ow:∀(i:Nat)(d:D),ρ[i]? = some (some (d,true))->∃(a:Addr)(o:HO),σ[i]? = some (some (V.ref a))/\N a=some o/\H0 a=none/\Bx K (dB N (own σ ρ)) o d
 inj:∀(i j:Nat)(a:Addr)(d e:D),ρ[i]? = some (some (d,true))->ρ[j]? = some (some (e,true))->σ[i]? = some (some (V.ref a))->σ[j]? = some (some (V.ref a))->i=j
def wG (K:Frag)(B0 H0 H:Hp)(σ:St)(ρ:Env):Prop:=∃N,dc K B0 H0 N H σ ρ
section
variable {K:Frag}{B0 H0 N H H':Hp}{σ:St}{ρ:Env}
def dc.owL (s:dc K B0 H0 N H σ ρ)(i:Nat)(d:D)(q:ρ[i]? = some (some (.lst es,true)))(hd:d=.lst es:=by rfl):∃(a:Addr)(vs:LV)(ds:LD),d=.lst ds/\σ[i]? = some (some (V.ref a))/\N a=some (.lst vs)/\H0 a=none/\IsL K (dB N (own σ ρ)) vs ds:=by
 obtain⟨a,o,h1,h2,h3,h4⟩:=s.ow i _ q;cases h4 with
 |lst h4=>exact⟨a,_,es,hd,h1,h2,h3,h4⟩
def boxed:HO->Prop
 |.lst _|.dK _ _|.dT _=>True
 |_=>False
def Bx.boxed (h:Bx K C o d):boxed o:=by cases h<;>exact trivial
def dc.owned (s:dc K B0 H0 N H σ ρ)(h:own σ ρ a):∃o,(N a=some o/\boxed o)/\H0 a=none:=by
 refine cX λG g=>?_;obtain⟨i,d,h1,h2⟩:=h;obtain⟨O,o,h3,h4,h5,M⟩:=s.ow i d h1;apply g;rw[h2]at h3;cases h3;exact⟨o,⟨h4,M.boxed⟩,h5⟩
def dc.rep (s:dc K B0 H0 N H σ ρ):eM K N σ ρ:=⟨s.tb.mono s.ext.bn,λi d b q=>by
 cases b with
 |false=>obtain⟨v,h1,h2⟩:=s.sh i d q;exact⟨v,h1,h2.mono br⟩
 |true=>
  obtain⟨a,o,h2,h3,_,h4⟩:=s.ow i d q;exact⟨_,h2,(h4.mono br).is h3⟩⟩
noncomputable def iP (ρ:Env):Env:=ρ.map λx=>match x with|some (d,false)=>some (d,false)|_=>none
def Hx {i:Nat}{d:D}{b:Bool}(h:(iP ρ)[i]? = some (some (d,b))):b=false/\ρ[i]? = some (some (d,false)):=by
 unfold iP at h;rw[vA]at h;cases e:ρ[i]? with
 |none=>rw[e]at h;cases h
 |some x=>
  rw[e]at h;match x,h with
  |some (d',false),h=>cases h;exact⟨rr,rr⟩
  |some (d',true),h=>cases h
  |none,h=>cases h
def dc.tbC (s:dc K B0 H0 N H σ ρ):Tb K (dB N (own σ ρ)):=λx hx c P q=>by
 have z:=s.tb.mono s.ext.bn x hx c P q;rw[cm]
 .exact z
 .intro y;obtain⟨o,⟨y,M⟩,_⟩:=s.owned y;rw[z]at y;cases y;exact M
def dc.repH (s:dc K B0 H0 N H σ ρ):eM K (dB N (own σ ρ)) σ (iP ρ):=⟨s.tbC,λi d b q=>by
 obtain⟨rfl,q2⟩:=Hx q;exact s.sh i d q2⟩
def dc.grow (s:dc K B0 H0 N H σ ρ)(x:Ext N N' H H'):dc K B0 H0 N' H' σ ρ:=by
 have c:aI (dB N (own σ ρ)) _:=dC λa o e q=>⟨x.bn a o e,q⟩;refine⟨s.bh,s.tb,s.ext.trans x,s.len,λi d q=>?_,λi d q=>?_,s.inj⟩
 .obtain⟨v,h1,h2⟩:=s.sh i d q;exact⟨v,h1,h2.mono c⟩
 .obtain⟨a,o,h2,h3,h4,h5⟩:=s.ow i d q;exact⟨a,o,h2,x.bn _ _ h3,h4,h5.mono c⟩
def dc.growH (s:dc K B0 H0 N H σ ρ)(x:Ext (dB N (own σ ρ)) N' H H'):dc K B0 H0 (join N N') H' σ ρ/\aI N' (dB (join N N') (own σ ρ)):=by
 have M:Ext N (join N N') H H':=by
  refine⟨x.hh,dY,λa o e=>?_,λa o e=>?_⟩
  .cases q:N a with
   |some u=>
    have:join N N' a=some u:=dY _ _ q;rw[this]at e;cases e;exact x.hh _ _ (s.ext.nh _ _ q)
   |none=>rw[dh q]at e;exact x.nh _ _ e
  .cases q:N a with
   |some u=>
    simp_all[join]
   |none=>
    rw[dh q]at e;rcases x.new a o e with z|z
    .have:=br _ _ z;simp_all
    .exact .inr z
 refine⟨s.grow M,λa o e=>?_⟩;rcases x.new a o e with z|z
 .obtain⟨O,U⟩:=qF z;rw[cm O];exact dY _ _ U
 .have b:=s.ext.nh.free z;have:¬own σ ρ a:=λq=>by obtain⟨vs,⟨q,_⟩,_⟩:=s.owned q;lia
  simp_all[cm,dh]
noncomputable def unown (ρ:Env):Env:=ρ.map λx=>x.map λy=>(y.1,false)
def kT {i:Nat}{d:D}{b:Bool}(h:(unown ρ)[i]? = some (some (d,b))):b=false/\∃c,ρ[i]? = some (some (d,c)):=by
 unfold unown at h;simp_all<;>lia
def oi {a:Addr}:¬own σ (unown ρ) a:=λ⟨i,d,h,_⟩=>by
 obtain⟨z,_⟩:=kT h;cases z
def dc.unown (s:dc K B0 H0 N H σ ρ):dc K B0 H0 N H σ (unown ρ):=by
 refine⟨s.bh,s.tb,s.ext,by unfold DL.unown;rw[vI];exact s.len,λi d q=>?_,λi d q=>?_,λi j a d e q=>?_⟩
 .obtain⟨_,c,q⟩:=kT q;obtain⟨v,h1,h2⟩:=s.rep.at' i d c q;exact⟨v,h1,h2.mono λa o e=>by rw[cm oi];exact e⟩
 .obtain⟨z,_⟩:=kT q;cases z
 .obtain⟨z,_⟩:=kT q;cases z
def bB {α:Type}{l:List α}{i j:Nat}{x y:α}(h:(l.set i x)[j]? = some y):(i=j/\x=y)\/(i≠j/\l[j]? = some y):=by
 by_cases e:i=j
 .subst e;rw[List.getElem?_set]at h;split at h
  .split at h
   .exact .inl ⟨rr,vK h⟩
   .cases h
  .contradiction
 .rw[vB e]at h;exact .inr ⟨e,h⟩
def ub {α M:Type}{l:List α}{m:List M}{i:Nat}{x y:α}(h:(l.set i x)[i]? = some y)(e:l.length=m.length):i<m.length:=by
 obtain⟨h,_⟩:=vV h;rw[length_set]at h;lia
def wH {i:Nat}{v:V}{x:OB}{a:Addr}(h:own (σ.set i (some v)) (ρ.set i x) a):(v=.ref a/\∃d,x=some (d,true))\/∃j,j≠i/\∃d,ρ[j]? = some (some (d,true))/\σ[j]? = some (some (V.ref a)):=by
 obtain⟨j,d,h1,h2⟩:=h;rcases bB h1 with⟨e,q⟩|⟨e,q⟩
 .rcases bB h2 with⟨e2,q2⟩|⟨e2,q2⟩
  .cases q2;exact .inl ⟨rr,d,q⟩
  .exact absurd e e2
 .rcases bB h2 with⟨e2,q2⟩|⟨e2,q2⟩
  .exact absurd e2 e
  .exact .inr ⟨j,λz=>e z.symm,d,q,q2⟩
def dc.bind (s:dc K B0 H0 N H σ ρ){i:Nat}{v:V}{d:D}(h:Is K (dB N (own σ ρ)) v d):dc K B0 H0 N H (σ.set i (some v)) (ρ.set i (some (d,false))):=by
 have o:∀a,own (σ.set i (some v)) (ρ.set i (some (d,false))) a->own σ ρ a:=λa q=>by
  rcases wH q with⟨_,d',p⟩|⟨j,_,d',U,q2⟩
  .cases p
  .exact⟨j,d',U,q2⟩
 have c:aI (dB N _) _:=dC λa u e q=>⟨e,λz=>q (o a z)⟩;refine⟨s.bh,s.tb,s.ext,by simp[s.len],λj e q=>?_,λj e q=>?_,λj k a e f q b h1 h2=>?_⟩
 .rcases bB q with⟨rfl,p⟩|⟨ne,p⟩
  .cases p
   have hi:=ub q s.len;exact⟨v,by simp[hi],h.mono c⟩
  .obtain⟨w,h1,h2⟩:=s.sh j e p;exact⟨w,by simp_all,h2.mono c⟩
 .rcases bB q with⟨rfl,p⟩|⟨ne,p⟩
  .cases p
  .obtain⟨a,o,h1,h2,h3,h4⟩:=s.ow j e p;exact⟨a,o,by simp_all,h2,h3,h4.mono c⟩
 .rcases bB q with⟨rfl,p⟩|⟨ne,p⟩
  .cases p
  .rcases bB b with⟨rfl,M⟩|⟨O,M⟩
   .cases M
   .rw[vB ne]at h1;rw[vB O]at h2;exact s.inj j k a e f p M h1 h2
def dc.bindOwn (s:dc K B0 H0 N H σ ρ){i:Nat}{a:Addr}{ob:HO}{dd:D}(t:N a=some ob)(h0:H0 a=none)(O:∀(j:Nat)(d:D),ρ[j]? = some (some (d,true))->σ[j]? ≠ some (some (V.ref a)))
  (h:∀(j:Nat)(d:D),j≠i->ρ[j]? = some (some (d,false))->∃v,σ[j]? = some (some v)/\Is K (dB N (λb=>own σ ρ b\/b=a)) v d) (l:∀(j:Nat)(d:D),j≠i->ρ[j]? = some (some (d,true))->∃(U:Addr)(o:HO),σ[j]? = some (some (V.ref U))/\N U=some o/\Bx K (dB N (λb=>own σ ρ b\/b=a)) o d)
  (m:Bx K (dB N (λb=>own σ ρ b\/b=a)) ob dd):dc K B0 H0 N H (σ.set i (some (.ref a))) (ρ.set i (some (dd,true))):=by
 have o:∀b,own (σ.set i (some (V.ref a))) (ρ.set i (some (dd,true))) b->own σ ρ b\/b=a:=λb q=>by
  rcases wH q with⟨p,_⟩|⟨j,_,d',x,q2⟩
  .cases p;exact .inr rr
  .exact .inl ⟨j,d',x,q2⟩
 have c:aI (dB N _) _:=dC λb u e q=>⟨e,λz=>q (o b z)⟩;refine⟨s.bh,s.tb,s.ext,by simp[s.len],λj e q=>?_,λj e q=>?_,λj k b e f q r h1 h2=>?_⟩
 .rcases bB q with⟨rfl,p⟩|⟨ne,p⟩
  .cases p
  .obtain⟨w,h1,h2⟩:=h j e (Ne.symm ne) p;exact⟨w,by simp_all,h2.mono c⟩
 .rcases bB q with⟨rfl,p⟩|⟨ne,p⟩
  .cases p
   have hi:=ub q s.len;exact⟨a,ob,by simp[hi],t,h0,m.mono c⟩
  .obtain⟨U,o',h1,h2,h4⟩:=l j e (Ne.symm ne) p;have h3:H0 U=none:=by
    obtain⟨A,_,k1,_,k3,_⟩:=s.ow j e p;simp_all
   exact⟨U,o',by simp_all,h2,h3,h4.mono c⟩
 .rcases bB q with⟨rfl,p⟩|⟨ne,p⟩
  .rcases bB r with⟨rfl,g⟩|⟨M,g⟩
   .rfl
   .rw[vB M]at h2;have y:V.ref a=V.ref b:=by
     rcases bB h1 with⟨_,z⟩|⟨z,_⟩
     .exact vK z
     .exact absurd rr z
    cases y
    exact absurd h2 (O k f g)
  .rcases bB r with⟨rfl,g⟩|⟨M,g⟩
   .rw[vB ne]at h1;have n:V.ref a=V.ref b:=by
     rcases bB h2 with⟨_,z⟩|⟨z,_⟩
     .exact vK z
     .exact absurd rr z
    cases n
    exact absurd h1 (O j e p)
   .rw[vB ne]at h1;rw[vB M]at h2;exact s.inj j k b e f p g h1 h2
end
set_option genInjectivity true in
inductive Res where
 |nx (ρ:Env)|rt (d:D) (b:Bool)|bk (ρ:Env)|ct (ρ:Env)
abbrev FS:=Env->Option Res
def UF (K:Frag)(B0 H0:Hp)(E:Ends):Res->Prop
 |.nx ρ=>∀σ H,wG K B0 H0 H σ ρ->E.nx σ H
 |.rt d b=>∀v H N,Ext B0 N H0 H->Is K N v d->(b=true->Tt K H0 N v d)->E.rt v H
 |.bk ρ=>∀σ H,wG K B0 H0 H σ ρ->E.bk σ H
 |.ct ρ=>∀σ H,wG K B0 H0 H σ ρ->E.ct σ H
def mK (K:Frag)(g:FS):TS:=λE σ H=>∃(B0 H0:Hp)(ρ:Env)(r:Res),wG K B0 H0 H σ ρ/\g ρ=some r/\UF K B0 H0 E r
section
variable {K:Frag}{B0 H0 N H H':Hp}{σ:St}{ρ:Env}{E:Ends}
def dc.writeB (s:dc K B0 H0 N H σ ρ)(hi:ρ[i]? = some (some (d,true)))(M:σ[i]? = some (some (V.ref a)))(h:Bx K (dB N (own σ ρ)) ob dd):
  dc K B0 H0 (upd N a ob) (upd H a ob) σ (ρ.set i (some (dd,true))):=by
 have oa:own σ ρ a:=⟨i,d,hi,M⟩;obtain⟨ws,hw,h0⟩:=s.owned oa;have l:B0 a=none:=s.bh.free h0;have o:∀b,own σ (ρ.set i (some (dd,true))) b↔own σ ρ b:=λb=>by
  constructor
  .rintro⟨j,e,O,q2⟩;rcases bB O with⟨rfl,p⟩|⟨_,p⟩
   .exact⟨i,d,hi,q2⟩
   .exact⟨j,e,p,q2⟩
  .rintro⟨j,e,O,q2⟩;by_cases z:i=j
   .subst z;exact⟨i,dd,by rw[getElem?_set_self (vV hi).1],q2⟩
   .exact⟨j,e,by simp_all,q2⟩
 have c:aI (dB N (own σ ρ)) (dB (upd N a ob) (own σ (ρ.set i (some (dd,true))))):=dC λb u e q=>by
  have ne:b≠a:=λz=>q (z ▸ oa);exact⟨by rw[a7 ne];exact e,λz=>q ((o b).mp z)⟩
 refine⟨s.bh,s.tb,⟨λb u e=>?_,λb u e=>?_,λb u e=>?_,λb u e=>?_⟩,by rw[length_set];exact s.len,λj e q=>?_,λj e q=>?_,λj k b e f q m h1 h2=>?_⟩
 .rw[a7 (λz=>by subst z;rw[h0]at e;cases e)];exact s.ext.hh _ _ e
 .rw[a7 (λz=>by subst z;rw[l]at e;cases e)];exact s.ext.bn _ _ e
 .by_cases z:b=a
  .simp_all[au]
  .rw[a7 z]at e |-;exact s.ext.nh _ _ e
 .by_cases z:b=a
  .subst z;exact .inr h0
  .rw[a7 z]at e;exact s.ext.new _ _ e
 .rcases bB q with⟨rfl,p⟩|⟨ne,p⟩
  .cases p
  .obtain⟨v,h1,h2⟩:=s.sh j e p;exact⟨v,h1,h2.mono c⟩
 .rcases bB q with⟨rfl,p⟩|⟨ne,p⟩
  .cases p
   exact⟨a,ob,M,au,h0,h.mono c⟩
  .obtain⟨g,o',h1,h2,h3,h4⟩:=s.ow j e p;have n:g≠a:=λz=>by subst z;exact ne (s.inj i j _ d e hi p M h1)
   exact⟨g,o',h1,by rw[a7 n];exact h2,h3,h4.mono c⟩
 .have get:∀ {j:Nat}{e:D},(ρ.set i (some (dd,true)))[j]? = some (some (e,true))->∃U,ρ[j]? = some (some (U,true)):=λ{j e} q=>by
   rcases bB q with⟨rfl,p⟩|⟨ne,p⟩
   .exact⟨d,hi⟩
   .exact⟨e,p⟩
  obtain⟨U,O⟩:=get q;obtain⟨r,q2⟩:=get m;exact s.inj j k b U r O q2 h1 h2
def dc.write (s:dc K B0 H0 N H σ ρ)(hi:ρ[i]? = some (some (d,true)))(M:σ[i]? = some (some (V.ref a)))(h:IsL K (dB N (own σ ρ)) vs ds):
  dc K B0 H0 (upd N a (.lst vs)) (upd H a (.lst vs)) σ (ρ.set i (some (.lst ds,true))):=s.writeB hi M (.lst h)
def dc.tups (s:dc K B0 H0 N H σ ρ):∀a vs,hV K N a vs->hV K (dB N (own σ ρ)) a vs:=λa vs h=>by
 have M:∀u,N a=some u->¬boxed u->dB N (own σ ρ) a=some u:=λu e hu=>by
  rw[cm λz=>?_];exact e;obtain⟨ws,⟨q,O⟩,_⟩:=s.owned z;simp_all
 rcases h with (h|⟨o,h⟩)|h
 .exact .inl (.inl (M _ h (λq=>q)))
 .exact .inl (.inr ⟨o,M _ h (λq=>q)⟩)
 .exact .inr h
def dc.flat (s:dc K B0 H0 N H σ ρ)(h:Is K N v d)(n:aQ d=true):Is K (dB N (own σ ρ)) v d:=h.keepT s.tups n
def dc.flats (s:dc K B0 H0 N H σ ρ)(h:IsL K N v d)(n:aN d=true):IsL K (dB N (own σ ρ)) v d:=h.keepT s.tups n
def dc.rebase (s:dc K B0 H0 N H σ ρ):dc K (dB N (own σ ρ)) (dB H (own σ ρ)) N H σ ρ:=
 ⟨dC λa o e q=>⟨s.ext.nh _ _ e,q⟩,s.tbC,⟨br,br,s.ext.nh,λa o e=>by
  grind[AT,cm]⟩,s.len,s.sh,λi d q=>by
   obtain⟨a,o,h1,h2,_,h4⟩:=s.ow i d q;exact⟨a,o,h1,h2,AT ⟨i,d,q,h1⟩,h4⟩,s.inj⟩
def dc.unbase (s:dc K B0 H0 N H σ ρ)(t:dc K (dB N (own σ ρ)) (dB H (own σ ρ)) N' H' O ρ'):dc K B0 H0 N' H' O ρ':=by
 have h0:aI H0 (dB H (own σ ρ)):=λa o e=>by
  rw[cm λz=>?_];exact s.ext.hh _ _ e;obtain⟨_,_,q⟩:=s.owned z;lia
 have M:aI B0 (dB N (own σ ρ)):=λa o e=>by
  rw[cm λz=>?_];exact s.ext.bn _ _ e;obtain⟨_,_,q⟩:=s.owned z;rw[s.bh _ _ e]at q;cases q
 refine⟨s.bh,s.tb,⟨h0.trans t.ext.hh,M.trans t.ext.bn,t.ext.nh,λa o e=>?_⟩,t.len,t.sh,λi d q=>?_,t.inj⟩
 .rcases t.ext.new a o e with z|z
  .exact s.ext.new a o (br _ _ z)
  .exact .inr (h0.free z)
 .obtain⟨a,o,h1,h2,h3,h4⟩:=t.ow i d q;exact⟨a,o,h1,h2,h0.free h3,h4⟩
def dc.based (t:dc K B0 H0 N H σ ρ):aI B0 (dB N (own σ ρ)):=λa o e=>by
 rw[cm λz=>?_];exact t.ext.bn _ _ e;obtain⟨_,_,q⟩:=t.owned z;rw[t.bh _ _ e]at q;cases q
@[simp] noncomputable def cb (g h:FS):FS:=λρ=>match g ρ with|some (.nx ρ')=>h ρ'|r=>r
@[simp] def qG:FS:=λρ=>some (.nx ρ)
@[simp] noncomputable def A7 (c:FT)(g h:FS):FS:=λρ=>match c ρ with|some true=>g ρ|some false=>h ρ|none=>none
@[simp] noncomputable def AU (f:FE):FS:=λρ=>(f ρ).map λx=>.rt x.1 x.2
@[simp] noncomputable def Hy:D->Bool
 |.dk _ _=>true
 |.dt _ _=>true
 |_=>false
@[simp] def pq (i:Nat):FS:=λρ=>match ρ[i]? with|some (some (d,b))=>some (.rt d (b && !Hy d))|_=>none
@[simp] def OR:D->Bool
 |.lst ds=>aN ds
 |_=>false
@[simp] def setE (ρ:Env)(i:Nat)(d:D)(b:Bool):Env:=
 if aQ d=true then ρ.set i (some (d,false))else if b=true/\OR d=true then ρ.set i (some (d,true))else (unown ρ).set i (some (d,false))
@[simp] def eQ (i:Nat)(f:FE):FS:=λρ=>(f ρ).map λx=>.nx (setE ρ i x.1 x.2)
@[simp] def Cr (i:Nat)(f:FE):FS:=λρ=>(f (iP ρ)).map λx=>.nx (ρ.set i (some (x.1,false)))
@[simp] noncomputable def tJ (i:Nat)(f:FE):FS:=λρ=>match ρ[i]? with
 |some (some (.lst ds,true))=>(f ρ).bind λx=>if aQ x.1=true/\ds.length<sizeLine then some (.nx (ρ.set i (some (.lst (ds++[x.1]),true))))else none
 |_=>none
def Mj (q:mK K (cb g h) E σ H):Ue (mK K g) (mK K h) E σ H:=by
 obtain⟨B0,H0,ρ,r,s,e,p⟩:=q;unfold cb at e;cases M:g ρ with
 |none=>rw[M]at e;cases e
 |some O=>
  rw[M]at e;cases O with
  |nx ρ'=>exact⟨B0,H0,ρ,.nx ρ',s,M,λU H' s'=>⟨B0,H0,ρ',r,s',e,p⟩⟩
  |rt d b=>cases e;exact⟨B0,H0,ρ,_,s,M,p⟩
  |bk ρ'=>cases e;exact⟨B0,H0,ρ,_,s,M,p⟩
  |ct ρ'=>cases e;exact⟨B0,H0,ρ,_,s,M,p⟩
def Hz (q:mK K qG E σ H):OG E σ H:=by
 obtain⟨B0,H0,ρ,r,s,e,p⟩:=q;cases e
 exact p σ H s
def wG.grown (s:dc K B0 H0 N H σ ρ)(h:aI H H'):wG K B0 H0 H' σ ρ:=⟨N,s.grow (.grow s.ext.nh h)⟩
def Q5 (q:mK K (A7 c g h) E σ H):Uh (Cp K c) (mK K g) (mK K h) E σ H:=by
 obtain⟨B0,H0,ρ,r,⟨N,s⟩,e,p⟩:=q;unfold A7 at e;cases M:c ρ with
 |none=>rw[M]at e;cases e
 |some b=>
  rw[M]at e;refine⟨N,ρ,b,s.ext.nh,s.rep,M,λO h1=>?_⟩;cases b with
  |true=>rw[if_pos rr];exact⟨B0,H0,ρ,r,.grown s h1,e,p⟩
  |false=>rw[if_neg P9];exact⟨B0,H0,ρ,r,.grown s h1,e,p⟩
def Mk (q:mK K (AU f) E σ H):Qb (tD K f) E σ H:=by
 obtain⟨B0,H0,ρ,r,⟨N,s⟩,e,p⟩:=q;refine eB e λx ex e=>?_;subst e;exact⟨N,ρ,x.1,x.2,s.ext.nh,s.rep,ex,λv M N1 O i1 f1=>p v M N1 (s.ext.trans O) i1 λb=>(f1 b).back s.ext.hh⟩
def HA (q:mK K (pq i) E σ H):Qb (GQ i) E σ H:=by
 obtain⟨B0,H0,ρ,r,⟨N,s⟩,e,p⟩:=q;unfold pq at e;split at e
 .rename_i d b ei;cases e
  cases b with
  |false=>
   obtain⟨v,h1,h2⟩:=s.sh i d ei;exact⟨v,h1,p v H N s.ext (h2.mono br) H9⟩
  |true=>
   obtain⟨a,o,h1,h2,h3,h4⟩:=s.ow i d ei;cases h4 with
   |lst h4=>exact⟨_,h1,p _ H N s.ext (.lst (eN.of h2) (h4.mono br)) λ_=>⟨a,_,_,rr,rr,h3,h2,h4.mono br⟩⟩
   |dk hl h4=>exact⟨_,h1,p _ H N s.ext (.dk h2 hl (h4.mono br)) H9⟩
   |dt hl h4=>exact⟨_,h1,p _ H N s.ext (.dt h2 hl (h4.mono br)) H9⟩
 simp_all
def dc.setE (s:dc K B0 H0 N H σ ρ)(x:Ext N N1 H H1)(h:Is K N1 v d)(f:b=true->Tt K H N1 v d):dc K B0 H0 N1 H1 (σ.set i (some v)) (setE ρ i d b):=by
 have s1:=s.grow x;unfold DL.setE;by_cases hn:aQ d=true
 .rw[if_pos hn];exact s1.bind (s1.flat h hn)
 .rw[if_neg hn];by_cases hb:b=true/\OR d=true
  .rw[if_pos hb];obtain⟨es,rfl⟩:∃es,d=.lst es:=by cases d<;>first|exact⟨_,rr⟩|(simp at hb)
   obtain⟨a,vs,ds,rfl,z,ha,O,hs⟩:=f hb.1;cases z
   have U:N a=none:=s.ext.nh.free ha;have g:¬own σ ρ a:=λz=>by obtain⟨ws,⟨q,_⟩,_⟩:=s.owned z;lia
   have c:aI (dB N (own σ ρ)) (dB N1 (λb=>own σ ρ b\/b=a)):=dC λb u e q=>⟨x.bn _ _ e,λz=>z.elim q λz=>by subst z;rw[U]at e;cases e⟩;refine s1.bindOwn O (s.ext.hh.free ha) (λj e q z=>g ⟨j,e,q,z⟩) (λj e _ q=>?_) (λj e _ q=>?_) (.lst (hs.keepT (λt l st=>?_) hb.2))
   .obtain⟨w,h1,h2⟩:=s.sh j e q;exact⟨w,h1,h2.mono c⟩
   .obtain⟨k,o',h1,h2,_,h4⟩:=s.ow j e q;exact⟨k,o',h1,x.bn _ _ h2,h4.mono c⟩
   .have M:∀u,N1 t=some u->¬boxed u->dB N1 (λb=>own σ ρ b\/b=a) t=some u:=λu e hu=>by
     rw[cm λz=>?_];exact e;rcases z with z|z
     .obtain⟨ws,⟨q,m⟩,_⟩:=s1.owned z;simp_all
     .subst z;rw[e]at O;cases O;exact hu trivial
    rcases st with (st|⟨o,st⟩)|st
    .exact .inl (.inl (M _ st (λq=>q)))
    .exact .inl (.inr ⟨o,M _ st (λq=>q)⟩)
    .exact .inr st
  .rw[if_neg hb];exact s1.unown.bind (h.mono λa o e=>by rw[cm oi];exact e)
def Cs (q:mK K (eQ i f) E σ H):AE (tD K f) (iN i) E σ H:=by
 obtain⟨B0,H0,ρ,r,⟨N,s⟩,e,p⟩:=q;refine eB e λx ex e=>?_;subst e;exact⟨N,ρ,x.1,x.2,s.ext.nh,s.rep,ex,λv M N1 O i1 f1=>p _ M ⟨N1,s.setE O i1 f1⟩⟩
def HB (q:mK K (Cr i f) E σ H):AE (tD K f) (iN i) E σ H:=by
 obtain⟨B0,H0,ρ,r,⟨N,s⟩,e,p⟩:=q;refine eB e λx ex e=>?_;subst e;refine⟨dB N (own σ ρ),iP ρ,x.1,x.2,br.trans s.ext.nh,s.repH,ex,λv M N1 O i1 f1=>?_⟩;obtain⟨s1,c⟩:=s.growH O;exact p _ M ⟨_,s1.bind (i1.mono c)⟩
def Ml (q:mK K (tJ i f) E σ H):∃(a:Addr)(us:LV),σ[i]? = some (some (V.ref a))/\H a=some (.lst us)/\OM (tD K f) U2 σ H λxs H2=>Ck (.ref a) xs H2 λ_ U=>E.nx σ U:=by
 obtain⟨B0,H0,ρ,r,⟨N,s⟩,e,p⟩:=q;unfold tJ at e;split at e
 .rename_i ds ei;refine eX e λx ex e=>?_;split at e
  .rename_i hx;cases e
   obtain⟨a,vs,M,z,h1,h2,h3,h4⟩:=s.owL i _ ei;cases z
   refine⟨a,vs,h1,s.ext.nh _ _ h2,N,ρ,x.1,x.2,s.ext.nh,s.rep,ex,λv b N1 O i1 f1=>⟨a,vs,v,rr,rr,O.hh _ _ (s.ext.nh _ _ h2),by rw[h4.length];exact hx.2,?_⟩⟩;have s1:=s.grow O;obtain⟨c,d,M,z,k1,k2,_,k4⟩:=s1.owL i _ ei;cases z
   rw[h1]at k1;cases k1;rw[O.bn _ _ h2]at k2;cases k2;exact p σ _ ⟨_,s1.write ei h1 (k4.append (.cons (s1.flat i1 hx.1) .nil))⟩
  simp_all
 simp_all
end
noncomputable def cn (c:FT)(g:FS):Nat->Env->Option Res
 |0,_=>none
 |n+1,ρ=>match c ρ with
  |some true=>match g ρ with
   |some (.nx ρ')=>cn c g n ρ'
   |some (.ct ρ')=>cn c g n ρ'
   |some (.bk ρ')=>some (.nx ρ')
   |r=>r
  |some false=>some (.nx ρ)
  |none=>none
def Fk (q:mK K (cn c g n) E σ H):GX (Cp K c) (mK K g) E σ H:=by
 obtain⟨B0,H0,ρ,r,s,e,p⟩:=q;refine⟨λm σ H=>∃ρ,wG K B0 H0 H σ ρ/\cn c g m ρ=some r,⟨n,ρ,s,e⟩,?_⟩;rintro m σ H ⟨ρ,⟨N,s⟩,e⟩;cases m with
 |zero=>cases e
 |succ m=>
  unfold cn at e;cases O:c ρ with
  |none=>rw[O]at e;cases e
  |some b=>
   rw[O]at e;refine⟨N,ρ,b,s.ext.nh,s.rep,O,λf h1=>?_⟩;cases b with
   |false=>rw[if_neg P9];cases e;exact p σ f (.grown s h1)
   |true=>
    rw[if_pos rr];refine⟨λσ H=>∃ρ,wG K B0 H0 H σ ρ/\cn c g m ρ=some r,λM H' w=>⟨m,Nat.lt_succ_self m,w⟩,?_⟩;cases U:g ρ with
    |none=>rw[U]at e;cases e
    |some a=>
     rw[U]at e;refine⟨B0,H0,ρ,a,.grown s h1,U,?_⟩;cases a with
     |nx ρ'=>exact λM H' s'=>⟨ρ',s',e⟩
     |ct ρ'=>exact λM H' s'=>⟨ρ',s',e⟩
     |bk ρ'=>cases e;exact λM H' s'=>p M H' s'
     |rt d b=>cases e;exact p
def mL (K:Frag)(J:It)(B:Hp)(ds:LD):Prop:=∀(i:Nat)(H:Hp),aI B H ->
 (∀d,ds[i]? = some d->J.go i H/\∀x H',J.yld i H x H'->∃N,Ext B N H H'/\Is K N x d)/\(ds.length<=i->J.stop i H)
def tDI (K:Frag)(f:FA):TI:=λσ H R=>∃(B:Hp)(ρ:Env)(ds:LD),aI B H/\eM K B σ ρ/\f ρ=some ds/\∀(J:It)(H' N:Hp),Ext B N H H'->mL K J N ds->R J H'
abbrev FG:=D->Env->Option Env
def L0 (K:Frag)(tg:FG)(g:TG):Prop:=∀(B0 H0 N H:Hp)(σ:St)(ρ ρ':Env)(v:V)(d:D)(Q:St->Hp->Prop),dc K B0 H0 N H σ ρ->Is K (dB N (own σ ρ)) v d->tg d ρ=some ρ' ->
 (∀M H',wG K B0 H0 H' M ρ'->Q M H')->g v σ H Q
@[simp] noncomputable def gn (i:Nat):FG:=λd ρ=>some (ρ.set i (some (d,false)))
def HC:L0 K (gn i) (iN i):=by
 intro B0 H0 N H σ ρ ρ' v d Q s h e k;cases e
 exact k _ H ⟨N,s.bind h⟩
noncomputable def f7 (tg:FG)(g:FS):LD->Env->Option Res
 |[],ρ=>some (.nx ρ)
 |d::ds,ρ=>(tg d ρ).bind λM=>match g M with
  |some (.nx ρ')=>f7 tg g ds ρ'
  |some (.ct ρ')=>f7 tg g ds ρ'
  |some (.bk ρ')=>some (.nx ρ')
  |r=>r
@[simp] def HD (tg:FG)(g:FS)(ρ:Env):f7 tg g [] ρ=some (.nx ρ):=by rw[f7]
@[simp] theorem uc (tg:FG)(g:FS)(d:D)(ds:LD)(ρ:Env):f7 tg g (d::ds) ρ=(tg d ρ).bind λM=>match g M with
  |some (.nx ρ')=>f7 tg g ds ρ'
  |some (.ct ρ')=>f7 tg g ds ρ'
  |some (.bk ρ')=>some (.nx ρ')
  |r=>r:=by rw[f7]
@[simp] def AW (f:FA)(tg:FG)(g:FS):FS:=λρ=>(f (iP ρ)).bind λds=>f7 tg g ds ρ
def yu (w:L0 K tg t)(s1:dc K B0 H0 N H1 σ ρ)(c:aI N1 (dB N (own σ ρ)))(J1:mL K J N1 ds)(e:f7 tg g ds ρ=some r)(p:UF K B0 H0 E r):
  ∃W:Nat->Nat->St->Hp->Prop,(∃m,W 0 m σ H1)/\∀i m σ H,W i m σ H->(J.stop i H/\E.nx σ H)\/(J.go i H/\∃N:St->Hp->Prop,(∀M H',N M H'->∃l,l<m/\W (i+1) l M H')/\∀x H',J.yld i H x H'->t x σ H' λf H2=>mK K g { E with nx:=N,ct:=N,bk:=E.nx } f H2):=by
 refine⟨λi m σ H=>∃(N:Hp)(ρ:Env),dc K B0 H0 N H σ ρ/\aI N1 (dB N (own σ ρ))/\m=ds.length - i/\i<=ds.length/\f7 tg g (ds.drop i) ρ=some r,⟨ds.length,_,ρ,s1,c,rr,uN _,e⟩,?_⟩;clear e s1 c;rintro i m σ H ⟨N,ρ,s,c,rfl,hi,e⟩;have hs:aI N1 H:=c.trans (br.trans s.ext.nh);obtain⟨A,B⟩:=J1 i H hs;by_cases O:i<ds.length
 .obtain⟨go,C⟩:=A ds[i] (by simp[O]);rw[List.drop_eq_getElem_cons O]at e;refine eX e λh D e=>?_;refine .inr ⟨go,λM H'=>∃(N:Hp)(ρ:Env),dc K B0 H0 N H' M ρ/\aI N1 (dB N (own M ρ))/\f7 tg g (ds.drop (i+1)) ρ=some r,λM H' ⟨N',ρ',s',F,G⟩=>⟨_,N9,N',ρ',s',F,rr,O,G⟩,λx H' y=>?_⟩;obtain⟨N2,U,i2⟩:=C x H' y;have I:Ext (dB N (own σ ρ)) (join (dB N (own σ ρ)) N2) H H':=by
   refine⟨U.hh,dY,λa o e=>?_,λa o e=>?_⟩
   .cases q:dB N (own σ ρ) a with
    |some u=>rw[dY _ _ q]at e;cases e;exact U.hh _ _ (s.ext.nh _ _ (br _ _ q))
    |none=>rw[dh q]at e;exact U.nh _ _ e
   .cases q:dB N (own σ ρ) a with
    |some u=>rw[dY _ _ q]at e;simp_all
    |none=>
     rw[dh q]at e;rcases U.new a o e with z|z
     .rw[c _ _ z]at q;cases q
     .exact .inr z
  obtain⟨s2,c2⟩:=s.growH I;have c3:aI N2 (join (dB N (own σ ρ)) N2):=λa o e=>by
   rcases U.new a o e with z|z
   .exact dY _ _ (c _ _ z)
   .rw[dh ((br.trans s.ext.nh).free z)];exact e
  have L:=i2.mono (c3.trans c2);have P:aI N1 (dB (join N (join (dB N (own σ ρ)) N2)) (own σ ρ)):=(U.bn.trans c3).trans c2;refine w _ _ _ _ _ _ _ _ _ _ s2.rebase L D λf H2 ⟨Q,R⟩=>?_;cases k:g h with
  |none=>rw[k]at e;cases e
  |some n=>
   rw[k]at e;refine⟨_,_,h,n,⟨Q,R⟩,k,?_⟩;have back:∀ {M:St}{H':Hp}{ρ':Env}{N':Hp},dc K _ _ N' H' M ρ'->dc K B0 H0 N' H' M ρ'/\aI N1 (dB N' (own M ρ')):=λt=>⟨s2.unbase t,P.trans t.based⟩;cases n with
   |nx ρ'=>exact λM H' ⟨N',t⟩=>⟨N',ρ',(back t).1,(back t).2,e⟩
   |ct ρ'=>exact λM H' ⟨N',t⟩=>⟨N',ρ',(back t).1,(back t).2,e⟩
   |bk ρ'=>cases e;exact λM H' ⟨N',t⟩=>p M H' ⟨N',(back t).1⟩
   |rt d b=>
    cases e
    intro v H' N' j S T;have y:=s2.rebase.ext;have h0:aI H0 (dB H' (λ_=>False)):=λa o e=>by rw[cm (λz=>z)];exact j.hh _ _ (by
     rw[cm λz=>?_];exact s2.ext.hh _ _ e;obtain⟨_,_,q⟩:=s2.owned z;lia)
    have V:aI H0 (dB H' (λ_=>False)):=h0;have X:aI H0 (dB H' (λ_=>False)):=h0;have hc:∀a,dB H' (λ_=>False) a=H' a:=λa=>cm (λz=>z);have hb:aI H0 (dB _ (own σ ρ)):=λa o e=>by
     rw[cm λz=>?_];exact s2.ext.hh _ _ e;obtain⟨_,_,q⟩:=s2.owned z;lia
    have bb:aI B0 (dB _ (own σ ρ)):=λa o e=>by
     rw[cm λz=>?_];exact s2.ext.bn _ _ e;obtain⟨_,_,q⟩:=s2.owned z;rw[s2.bh _ _ e]at q;cases q
    refine p v H' N' ⟨hb.trans j.hh,bb.trans j.bn,j.nh,λa o e=>?_⟩ S λz=>(T z).back hb;rcases j.new a o e with z|z
    .exact s2.ext.new a o (br _ _ z)
    .exact .inr (hb.free z)
 .have ei:i=ds.length:=N9
  subst ei;rw[List.drop_eq_nil_of_le (vT _)]at e;cases e
  exact .inl ⟨B (vT _),p σ H ⟨N,s⟩⟩
def Mm (M:L0 K tg t)(q:mK K (AW f tg g) E σ H):Qf (tDI K f) t (mK K g) E σ H:=by
 refine cX λG k=>?_;obtain⟨B0,H0,ρ,r,⟨N,s⟩,e,p⟩:=q;refine eX e λds O e=>?_;apply k;refine⟨dB N (own σ ρ),iP ρ,ds,br.trans s.ext.nh,s.repH,O,λJ a N1 U J1=>?_⟩;obtain⟨s1,c⟩:=s.growH U;exact yu M s1 c J1 e p
def UG (K:Frag)(f:FA):TI:=λσ H R=>∃(B:Hp)(ρ:Env)(ds:LD),aI B H/\eM K B σ ρ/\f ρ=some ds/\∀(J:It)(H' N:Hp),Ext B N H H'->(∀M,mL K J M ds)->R J H'
@[simp] def ud (f:FA)(tg:FG)(g:FS):FS:=λρ=>(f ρ).bind λds=>f7 tg g ds ρ
def HE (M:L0 K tg t)(q:mK K (ud f tg g) E σ H):Qf (UG K f) t (mK K g) E σ H:=by
 refine cX λG k=>?_;obtain⟨B0,H0,ρ,r,⟨N,s⟩,e,p⟩:=q;refine eX e λds O e=>?_;apply k;refine⟨N,ρ,ds,s.ext.nh,s.rep,O,λJ a N1 U J1=>?_⟩;exact yu M (s.grow U) (aI.refl _) (J1 _) e p
end DL
namespace DL
open PySem PySem.Spec PyProof.Rows L2
abbrev JE (X:Cx)(e:Expr)(f:FE):Prop:=PE X e (tD X.K f)
abbrev JT (X:Cx)(e:Expr)(f:FT):Prop:=PT X e (Cp X.K f)
abbrev JW (X:Cx)(e:Expr)(f:FT):Prop:=PW X e (Cp X.K f)
abbrev JA (X:Cx)(es:QD)(f:FA):Prop:=PA X es (Tu X.K f)
abbrev JS (X:Cx)(st:Stmt)(g:FS):Prop:=PS X st (mK X.K g)
abbrev yf (X:Cx)(st:List Stmt)(g:FS):Prop:=tE X st (mK X.K g)
abbrev JI (X:Cx)(tg M:Expr)(f:FA):Prop:=PI X tg M (tDI X.K f)
def Q6 (M:Model)(A:Around)(U:QD)(a:Expr)(env:PySem.Env)(b:Value)(E:QV)(P:Shared->Prop):Shared->Prop:=
 wpAny M A (forIn U true λc r=>if r=true then do let ok <-isTrue c env (eval c env);pure (ForInStep.yield ok)else pure (ForInStep.yield r))
  (λok O=>if ok=true then wpAny M A (eval a env) (λx=>wpAny M A (call (.builtin "list.append") [b,x]) (λ_=>P) E) E O else P O) E
def wI {E:QV}(i:∀x s,¬E x s)(I:Nat->Shared->Prop)
  (j:∀n s,I n s->wpAny (model prog w) A (pyNext it) (λr M=>match r with
   |none=>R (.ok .next) M
   |some v=>wpAny (model prog w) A (letOwnedTupleGo Ln it v) (λ_=>wpAny (model prog w) A (assign Ln env v) (λ_=>Q6 (model prog w) A wj ya env GK E λs=>∃m,m<n/\I m s) E) E M) E s)
  (n:Nat) (h:I n s):codeAny (model prog w) A (.compLoop (.ListComp ya [⟨Ln,dW,wj,0⟩] scope pos) 0 it GK env) R s:=by
 refine codeAny_loop rr I (λn s k=>?_) n h;refine wpAny_noted (wpAny_mono (E:=E) ?_ (λ_ _ q=>q) λ_ _ z=>(i _ _ z).elim);rw[compTurn_list];refine wX (wpAny_standAt (wX (bG (j n s k) λr M O=>?_)));cases r with
 |none=>exact wY O
 |some v=>
  refine wX (bG O λ_ M O=>wX (bG O λ_ d a=>wX (bG a λok e U=>?_)));cases ok with
  |false=>exact wY ⟨rr,U⟩
  |true=>exact wX (wX (bG U λx f b=>wX (bG b λ_ g c=>wY (wY ⟨rr,c⟩))))
theorem Ext.upd (x:Ext B N H H')(h:H a=none)(M:N a=none):Ext B N H (upd H' a o):=
 ⟨λb u e=>by rw[a7 (λz=>by subst z;rw[h]at e;cases e)];exact x.hh _ _ e,x.bn,λb u e=>by rw[a7 (λz=>by subst z;rw[M]at e;cases e)];exact x.nh _ _ e,x.new⟩
noncomputable abbrev iA (X:Cx)(N':LS)(scope:Scope)(cl:List (Str×Addr))(C:Addr)(M:Shared)(O:Hp)(fp:List Addr):Cx:=
 { X with N:=N',s₀:=M,H₀:=O,env:=compEnvC scope cl C X.env,outer:=X.stack,stack:=X.stack,ex:=fp,fn:=λ_=>false,pn:=[],xe:=λ_ _=>False }
inductive mC (X:Cx)(N':List Str)(scope:Scope)(cl:List (Str×Addr)):Nat->List Nat->Prop where
 |nil {j:Nat}(h:N'.length=j):mC X N' scope cl j []
 |cons {j i:Nat}{r:List Nat}{x:Str}(h1:N'[j]? = some x) (h2:X.N[i]? = some x) (h3:X.env.kindOf x=some .cell\/X.env.kindOf x=some .free)
   (h4:(relabel scope X.env).names.lookup x=some .cell\/(relabel scope X.env).names.lookup x=some .free) (h5:cl.lookup x=X.env.cells.lookup x) (t:mC X N' scope cl (j+1) r):mC X N' scope cl j (i::r)
theorem mC.len:∀ {j:Nat}{cap:LN},mC X N' scope cl j cap->N'.length=j+cap.length
 |_,_,.nil h=>by rw[h];rfl
 |j,i::r,.cons _ _ _ _ _ t=>by rw[t.len,vE];lia
theorem mC.get:∀ {j:Nat}{cap:LN}{k i:Nat},mC X N' scope cl j cap->cap[k]? = some i->∃x,N'[j+k]? = some x/\X.N[i]? = some x/\(X.env.kindOf x=some .cell\/X.env.kindOf x=some .free) /\
  ((relabel scope X.env).names.lookup x=some .cell\/(relabel scope X.env).names.lookup x=some .free)/\cl.lookup x=X.env.cells.lookup x
 |_,_,_,_,.nil _,e=>by simp at e
 |j,_,0,_,.cons h1 h2 h3 h4 h5 _,e=>by simp at e;subst e;exact⟨_,h1,h2,h3,h4,h5⟩
 |j,_,k+1,i,.cons _ _ _ _ _ t,e=>by
  obtain⟨x,q,r⟩:=t.get (by simpa using e);exact⟨x,N9,r⟩
structure CompSc (X:Cx)(scope:Scope)(cl:List (Str×Addr)):Prop where
 clos:closureFor scope X.env=pure cl
 nocell:∀y∈scope.names,y.2≠.cell
 kind:scope.kind=.function
 names:∀y∈scope.names,y.2=.local->scope.names.lookup y.1=some .local
 sub:∀x c,cl.lookup x=some c->X.env.cells.lookup x=some c
 has:∀x,((relabel scope X.env).names.lookup x=some .cell\/(relabel scope X.env).names.lookup x=some .free)->∃c,cl.lookup x=some c
noncomputable def dD:List (Str×NameKind)->List (Str×Addr)->List (Str×Addr)->List (Str×Addr)
 |[],_,cs=>cs
 | (n,k)::r,cells,cs=>dD r cells (if k == .free then (match cells.lookup n with|some c=>(n,c)::cs|none=>cs)else cs)
def ue:∀(names:List (Str×NameKind))(cs:List (Str×Addr)),(∀y∈names,y.2=.free->(env.cells.lookup y.1).isSome=true) ->
    (do let mut cs:=cs
        for (name,kind)in names do
          if kind == .free then cs:=(name,<-cellOf env name)::cs
        return cs:Sem (List (Str×Addr)))=pure (dD names env.cells cs):=by
  intro names;induction names with
  |nil=>intro cs _;rfl
  |cons y r ih=>
    intro cs h;grind[dD,cellOf]
theorem mM:∀(names:List (Str×NameKind))(cs:List (Str×Addr)),(∀y d,cs.lookup y=some d->cells.lookup y=some d)->(dD names cells cs).lookup x=some c->cells.lookup x=some c
 |[],cs,h,e=>h x c e
 | (n,k)::r,cs,h,e=>by
  refine mM r _ (λy d q=>?_) e;split at q
  .split at q
   .rename_i O M;rw[lookup_cons]at q;split at q
    .rename_i hy;cases q
     rw[eq_of_beq hy];exact M
    .exact h y d q
   .exact h y d q
  .exact h y d q
theorem ug:∀(names:List (Str×NameKind))(cs:List (Str×Addr)),(cs.lookup x).isSome=true->((dD names cells cs).lookup x).isSome=true
 |[],cs,h=>h
 | (n,k)::r,cs,h=>by
  refine ug r _ ?_;split
  .split
   .rw[lookup_cons];split
    .rfl
    .exact h
   .exact h
  .exact h
theorem mN:∀(names:List (Str×NameKind))(cs:List (Str×Addr)),(x,NameKind.free)∈names->(cells.lookup x).isSome=true->((dD names cells cs).lookup x).isSome=true
 | (n,k)::r,cs,hm,hc=>by
  rcases vP hm with e|e
  .cases e
   refine ug r _ ?_;grind
  .exact mN r _ e hc
theorem gp {α:Type}{x:Str}{k:α}:∀ {l:List (Str×α)},l.lookup x=some k->(x,k)∈l
 | (n,j)::r,h=>by
  rw[lookup_cons]at h;split at h
  .simp_all
  .exact mZ _ (gp h)
def Q7 {X:Cx}{scope:Scope}(h1:∀y∈scope.names,y.2≠.cell)(h2:scope.kind=.function)(h3:∀y∈scope.names,y.2=.local->scope.names.lookup y.1=some .local)(M:(scope.names.all λy=>!(y.2 == NameKind.free) || (X.env.cells.lookup y.1).isSome)=true):
  CompSc X scope (dD scope.names X.env.cells []):=by
 have h4:∀y∈scope.names,y.2=.free->(X.env.cells.lookup y.1).isSome=true:=λy hy e=>by
  grind
 have frees:∀x,((relabel scope X.env).names.lookup x=some .cell\/(relabel scope X.env).names.lookup x=some .free)->(x,NameKind.free)∈scope.names:=λx h=>by
  have:∃k,(x,k)∈(relabel scope X.env).names/\(k=.cell\/k=.free):=by
   grind[gp]
  grind[relabel]
 exact⟨ue _ [] h4,h1,h2,h3,λx c e=>mM _ [] (λy d q=>by cases q) e,λx h=>by
  have:=mN _ [] (frees x h) (h4 _ (frees x h) rr);exact uU this⟩
def qd {scope:Scope}{cells:List (Str×Addr)}{x:Str}(h:(x,NameKind.free)∈scope.names)(hc:(cells.lookup x).isSome=true):(dD scope.names cells []).lookup x=cells.lookup x:=by
 obtain⟨c,e⟩:=uU (mN _ [] h hc);grind[mM]
noncomputable def yv (nT:Nat)(cap:LN)(σ:St):St:=List.replicate nT none++cap.map λi=>(σ[i]?).join
noncomputable def cc (nT:Nat)(cap:LN)(ρ:Env):Env:=List.replicate nT none++cap.map λi=>match ρ[i]? with|some (some (d,_))=>some (d,false)|_=>none
def wJ {α:Type}{nT:Nat}{cap:LN}{f:Nat->Option α}{j:Nat}{v:α}(h:(List.replicate nT none++cap.map f)[j]? = some (some v)):∃k i,j=nT+k/\cap[k]? = some i/\f i=some v:=by
 by_cases hj:j<nT
 .rw[getElem?_append_left (by simpa using hj),List.getElem?_replicate,if_pos hj]at h;cases h
 .rw[getElem?_append_right (by simpa using Nat.not_lt.mp hj),length_replicate,vA]at h;refine eB h λi h1 h2=>?_;exact⟨j - nT,i,N9,h1,h2⟩
def Mn {α:Type}{nT:Nat}{cap:LN}{f:Nat->Option α}{k i:Nat}{v:α}(h1:cap[k]? = some i)(h2:f i=some v):(List.replicate nT none++cap.map f)[nT+k]? = some (some v):=by
 rw[getElem?_append_right H9,length_replicate,vA,Nat.add_sub_cancel_left,h1];simp[h2]
def eM.caps {K:Frag}{B:Hp}{σ:St}{ρ:Env}{nT:Nat}{cap:LN}(h:eM K B σ ρ):eM K B (yv nT cap σ) (cc nT cap ρ):=⟨h.tb,λj d b q=>by
 obtain⟨k,i,rfl,h1,h2⟩:=wJ q;split at h2
 .rename_i d' b' e;cases h2
  obtain⟨v,g1,M⟩:=h.at' i _ _ e;exact⟨v,Mn h1 (by rw[g1];rfl),M⟩
 simp_all⟩
noncomputable def fL (tg:FG)(c:FT)(fe:FE)(ρ:Env):LD->Option LD
 |[]=>some []
 |d::r=>(tg d ρ).bind λM=>(c M).bind λb=>if b=true then (fe M).bind λx=>(fL tg c fe ρ r).map (x.1 :: ·)else fL tg c fe ρ r
@[simp] def Tv (tg:FG)(c:FT)(fe:FE)(ρ:Env):fL tg c fe ρ []=some []:=by rw[fL]
@[simp] theorem AX (tg:FG)(c:FT)(fe:FE)(ρ:Env)(d:D)(r:LD):fL tg c fe ρ (d::r)=(tg d ρ).bind λM=>(c M).bind λb=>if b=true then (fe M).bind λx=>(fL tg c fe ρ r).map (x.1 :: ·)else fL tg c fe ρ r:=by rw[fL]
@[simp] def jN (fi:FA)(nT:Nat)(cap:LN)(tg:FG)(c:FT)(fe:FE):FE:=λρ=>(fi ρ).bind λitems=>if items.length<=sizeLine then (fL tg c fe (cc nT cap ρ) items).map λds=>(.lst ds,true)else none
def Mo (K:Frag)(n:Nat)(tg:FG)(g:TG):Prop:=∀(B H:Hp)(σ:St)(ρ O:Env)(v:V)(d:D)(Q:St->Hp->Prop),(∀i,i<n->ρ[i]? = some none)->eM K B σ ρ->aI B H->Is K B v d->tg d ρ=some O ->
 ρ.length=σ.length->(∀M,eM K B M O->(∀U,eM K U σ ρ->eM K U M ρ)->ρ.length=M.length->Q M H)->g v σ H Q
def qH {K:Frag}{n i:Nat}(hi:i<n):Mo K n (gn i) (iN i):=by
 intro B H σ ρ U v d Q cl rep s h e hl k;cases e
 have O:i<σ.length:=by
  grind
 refine k _ ⟨rep.tb,λj e b q=>?_⟩ ?_ (by simpa using hl)
 .rcases bB q with⟨rfl,p⟩|⟨ne,p⟩
  .simp_all
  .obtain⟨w,h1,h2⟩:=rep.at' j e b p;simp_all
 .intro a M;refine⟨M.tb,λj e b q=>?_⟩;obtain⟨w,h1,h2⟩:=M.at' j e b q;have ne:i≠j:=λz=>by grind
  exact⟨w,by simp_all,h2⟩
def JC (X:Cx)(M:QD)(c:FT):Prop:=∀(af:AO)(s:Shared)(σ:St)(H:Hp)(Q:Bool->Hp->Prop),Inv X af σ H s->Cp X.K c σ H Q ->
 wq X (forIn M true λc r=>if r=true then do let ok <-isTrue c X.env (eval c X.env);pure (ForInStep.yield ok)else pure (ForInStep.yield r)) (TP X af σ Q) X.xe s
@[simp] def yw:FT:=λ_=>some true
def Q8:JC X [] yw:=by
 intro af s σ H Q I h;obtain⟨B,ρ,c,M,rep,e,q⟩:=h;cases e
 exact wpAny_tests_nil ⟨H,I,q H (.refl H)⟩
def Q9 (h:JT X e f):JC X [e] f:=λaf s σ H Q I q=>wpAny_tests_one (h _ s σ H Q I q)
inductive CI (Y:Cx)(tn:Nat->Heap->Prop)(fp:List Addr)(N1 H2:Hp)(κ:Env)(a:Addr)(l:List D->Option (List D))(items ds:List D)(s:Shared):Nat->Prop
 |mk (i:Nat) (N:Hp) (vs:List V) (es r:List D) (σ:St) (H:Hp) (I:Inv Y [] σ H s) (ti:tn i s.heap) (hn:∀b∈fp,H b=none) (hi:i<=items.length) (rp:eM Y.K N1 σ κ) (hl:κ.length=σ.length)
   (x:Ext N1 N H2 H) (n0:N a=none) (h0:H a=some (.lst vs)) (vl:vs.length<=i) (iv:IsL Y.K N vs es) (er:l (items.drop i)=some r) (ed:es++r=ds):CI Y tn fp N1 H2 κ a l items ds s (items.length - i)
def Ext.both (x:Ext N1 N H2 H)(y:Ext N1 N' H H'):Ext N (join N N') H H'/\aI N' (join N N'):=by
 refine⟨⟨y.hh,dY,λa o e=>?_,λa o e=>?_⟩,λa o e=>?_⟩
 .cases z:N a with
  |some u'=>rw[dY _ _ z]at e;cases e;exact y.hh _ _ (x.nh _ _ z)
  |none=>rw[dh z]at e;exact y.nh _ _ e
 .cases z:N a with
  |some u'=>rw[dY _ _ z]at e;simp_all
  |none=>
   rw[dh z]at e;exact(y.new a o e).elim (λM=>by rw[x.bn _ _ M]at z;cases z) .inr
 .exact(y.new a o e).elim (λz=>dY _ _ (x.bn _ _ z)) λz=>by rw[dh (x.nh.free z)];exact e
def Ext.off (x:Ext B N H H')(h:B a=none)(h':H a=some o):N a=none:=by
 cases z:N a with
 |none=>rfl
 |some u=>
  rcases x.new _ _ z with z|z
  .rw[h]at z;cases z
  simp_all
def Fl {Y:Cx}(U:Y.calm=true)(hE:∀x s,¬Y.xe x s)(hg:PG Y tg g)(XH:Mo Y.K nT t9 g)(hc:JC Y wj fc)(he:JE Y ya fe)(T:Turn Y.prog Y.w Y.K tg J fp it tn)(XI:∀i,i<nT->κ[i]? = some none)
  (J1:mL Y.K J N1 items) (hsz:items.length<=sizeLine) (hD:H2 a=none) (t:∀H',(∀b∈fp,H' b=none)->∀b∈fp,lC Y [] H' b)
  (hR:∀G O H' N vs,Inv Y [] O H' G->Ext N1 N H2 H'->N a=none->H' a=some (.lst vs)->IsL Y.K N vs ds->R (.ok .next) G) (h:CI Y tn fp N1 H2 κ a (fL t9 fc fe κ) items ds s items.length):
  codeAny (model Y.prog Y.w) Y.A (.compLoop (.ListComp ya [⟨tg,dW,wj,0⟩] scope pos) 0 (.ref it) (.ref a) Y.env) R s:=by
 refine wI hE (λn s=>CI Y tn fp N1 H2 κ a (fL t9 fc fe κ) items ds s n) (λn s' h=>?_) _ h;refine cX λp q=>?_;obtain⟨i,N,vs,es,r,O,H',I',ti,hn,hi,rp,j8,x,H,YJ,Cb,XJ,er,YK⟩:=h;apply q;clear q;have sH:aI N1 H':=x.bn.trans x.nh;by_cases pf:i<items.length
 .obtain⟨go,yl⟩:=(J1 i H' sH).1 items[i] (by simp[pf]);refine bG (T.item Y rr rr rr U i [] s' O H' Y.xe I' (t _ hn) ti go) λq G ⟨u,eu,hq⟩=>?_;subst eu;refine bG hq λ_ s5 ⟨xv,I,I5,rx,y5,t5,fr5⟩=>?_;obtain⟨j,x5,i5⟩:=yl xv I y5;obtain⟨x6,c5⟩:=x.both x5;have L:(join N j) a=none:=x6.off H YJ;have YL:aI (join N j) I:=x6.nh;rw[List.drop_eq_getElem_cons pf]at er;unfold fL at er;refine eX er λk e1 er=>?_;refine eX er λb e2 er=>?_;have dX:∀(P:Shared)(f:St)(l Q:Hp)(S:LV)(YM r9:LD),Inv Y (qA fp s5.heap) f l P->eM Y.K N1 f κ->κ.length=f.length->Ext N1 Q H2 l->Q a=none->l a=some (.lst S) ->
    S.length<=i+1->IsL Y.K Q S YM->fL t9 fc fe κ (items.drop (i+1))=some r9->YM++r9=ds->∃m,m<items.length - i/\CI Y tn fp N1 H2 κ a (fL t9 fc fe κ) items ds P m:=λP f l Q S YM r9 z rp9 l9 x9 n9 h9 v9 i9 er9 ed9=>
   ⟨_,N9,i+1,Q,S,YM,r9,f,l,z.pins_of λp hp=>by simp at hp,T.keep _ _ _ t5 λb hb o e=>(z.pin (b,o) (mY _ (jh hb e))).1,λb hb=>by
    obtain⟨o,e,d⟩:=T.obj _ _ t5 b hb;exact(z.pin (b,o) (mY _ (jh hb e))).2.1,pf,rp9,l9,x9,n9,h9,v9,i9,er9,ed9⟩
  refine bG (hg (qA fp s5.heap) s5 O I xv u (λM V=>V=I/\eM Y.K (join N j) M k/\eM Y.K N1 M κ/\κ.length=M.length) (I5.pinned (t _ fr5) (T.obj _ _ t5)) rx
   (XH (join N j) I O κ k xv items[i] _ XI (rp.mono (x.bn.trans dY)) YL (i5.mono c5) e1 j8 λσ1 r1 r2 l1=>⟨rr,r1,r2 N1 rp,l1⟩)) λ_ s6 ⟨M,V,I6,eH,W,X,l6⟩=>?_
  subst eH;have B:V a=some (.lst vs):=x5.hh _ _ YJ;refine bG (hc _ s6 M V (λc C=>c=b/\aI V C) I6 ⟨join N j,k,b,YL,W,e2,λC D=>⟨rr,D⟩⟩) λok s7 ⟨C,I7,eb,D⟩=>?_;subst eb;have x7:Ext N1 (join N j) H2 C:=(x.trans x6).trans (.grow YL D);cases ok with
  |false=>
   exact dX s7 M C (join N j) vs es r I7 X l6 x7 L (D _ _ B) (le_succ_of_le Cb) (XJ.mono dY) er YK
  |true=>
   rw[if_pos rr]at er |-;refine eX er λy e3 er=>?_;refine eB er λr' e4 er=>?_;subst er;refine bG (he _ s7 M C (λv Z=>∃E,Ext (join N j) E C Z/\Is Y.K E v y.1) I7 ⟨join N j,k,y.1,y.2,YL.trans D,W,e3,λv Z E F i8 _=>⟨E,F,i8⟩⟩) λw8 s8 ⟨v8,Z,I8,r8,E,F,i8⟩=>?_;refine bG (tZ _ s8 M Z (.ref a) [v8] (.ref a) [w8] (λ_ l=>l=upd Z a (.lst (vs++[v8]))) I8 rr (.cons r8 .nil) ⟨_,vs,v8,rr,rr,F.hh _ _ (D _ _ B),N9,rr⟩) λ_ P ⟨_,l,z,_,e9⟩=>?_;subst e9;have hN8:=F.off L (D _ _ B);exact dX P M _ E (vs++[v8]) (es++[y.1]) r' z X l6 ((x7.trans F).upd hD hN8) hN8 au (by simp_all) ((XJ.mono (dY.trans F.bn)).append (.cons i8 .nil)) e4 (by rw[append_assoc];exact YK)
 .obtain rfl:i=items.length:=N9
  rw[List.drop_eq_nil_of_le (vT _)]at er;cases er
  rw[uQ]at YK;subst YK;refine bG (T.done Y rr rr rr U items.length [] s' O H' Y.xe I' (t _ hn) ti ((J1 _ H' sH).2 (vT _))) λq G ⟨hq,z⟩=>?_;subst hq;exact hR G O H' N vs z x H YJ XJ
def qI {X:Cx}(XO:X.calm=true){tg dW Z:Expr}{wj:QD}{scope:Scope}{I:Pos}{cl:List (Str×Addr)}{N':LS}{nT:Nat}{cap:LN}{t9:FG}{g:TG}{fc:FT}{fe:FE}
  (S:CompSc X scope cl) (cp:mC X N' scope cl nT cap)
  (hg:∀C s H fp,PG (iA X N' scope cl C s H fp) tg g) (XH:Mo X.K nT t9 g) (hc:∀C s H fp,JC (iA X N' scope cl C s H fp) wj fc) (he:∀C s H fp,JE (iA X N' scope cl C s H fp) Z fe)
  {af:AO}{σ:St}{H2:Hp}{s2:Shared}{it:Addr}{fp:List Addr}{tn:Nat->Heap->Prop}{J:It}{N1:Hp}{ρ:Env}{items ds:LD}{E:QV}
  (f:Inv X af σ H2 s2) (T:Turn X.prog X.w X.K tg J fp it tn) (O4:tn 0 s2.heap) (f2:∀b∈fp,lC X af H2 b)
  (rep:eM X.K N1 σ ρ) (sN:aI N1 H2) (J1:mL X.K J N1 items) (hsz:items.length<=sizeLine) (ec:fL t9 fc fe (cc nT cap ρ) items=some ds) {RR:Value->Addr->Result->Shared->Prop}
  (hRR:∀(Dd C:Addr)(s':Shared)(H' N:Hp)(vs:LV)(m:SV),H2 Dd=none->Inv X af σ H' s'->s'.heap.Ns C m->lC X af H' C->Ext N1 N H2 H'->N Dd=some (.lst vs)->IsL X.K N vs ds->RR (.ref Dd) C (.ok .next) s'):
  wq X (newList []) (λGK d=>wq X (newFunctionEnv scope X.env.globals cl [] X.env.qual none .none (some X.env)) (λXQ L=>
   codeAny (model X.prog X.w) X.A (.compStart (.ListComp Z [⟨tg,dW,wj,0⟩] scope I) 0 (.ref it) GK { XQ with scope:=relabel scope X.env }) (RR GK XQ.locals) L) E d) E s2:=by
 refine wpAny_newObj_type (wpAny_newFunctionEnv S.nocell (by intro y hy;simp at hy) (λn O U=>?_) S.kind);dsimp only at O U |-;have F:H2 s2.z=none:=f.fresh;have t:=f.lnew (t':=s2.toks) (ys:=[]) (its:=[]) .nil (uN _);generalize P:s2.heap.push _=B at O U t |-;have hC:B.objs.size=s2.z+1:=by rw[<-P,Heap.size_push]
 have W:∀b o,s2.heap.get? b=some o->B.get? b=some o:=λb o e=>P ▸ vZ _ e;have M:∀b o,B.get? b=some o->n.get? b=some o:=λb o e=>U.extBut b o (vS (vX e)) (vZ _ e);have TC:∀b o,B.get? b=some o->b≠B.objs.size:=λb o e=>vS (vX e);have Q:∀b∈fp,∃o,s2.heap.get? b=some o:=λb hb=>let ⟨o,e,_⟩:=T.obj 0 s2.heap O4 b hb;⟨o,e⟩;have fpD:∀b∈fp,b≠s2.z:=λb hb=>let ⟨o,e⟩:=Q b hb;vS (vX e);have R:∀b∈fp,b≠B.objs.size:=λb hb=>let ⟨o,e⟩:=Q b hb;TC b o (W b o e);have hHC:=t.hok.fresh (vT _);let Y:Cx:=iA X N' scope cl B.objs.size { s2 with heap:=B } (upd H2 s2.z (.lst [])) fp;have ok:Y.Ok:=by
  refine⟨f.ok.mod,?_,f.ok.glob,f.ok.blt,vT _,λx y c e1 e2=>f.ok.inj x y c (S.sub x c e1) (S.sub y c e2),λx h=>S.has x h,λx c h=>absurd h uX,f.ok.hd,f.ok.frames,.inl rr,λb hb=>⟨R b hb,λx c e=>(f2 b hb).2.2.2.2.1 x c (S.sub x c e)⟩,λb o e=>?_,?_,λb o e hb=>?_,λb hb hz=>?_,t.stack,λb hb=>t.stkFree b hb⟩
  .show(relabel scope X.env).kind=.function;exact S.kind
  .exact t.bs b o e
  .exact vR t.ok.bsz t.sz
  .have h1:=(f2 b hb).2.2.2.1;rcases h1 with z|z
   .exact f.ok.noex b o e z
   .exact absurd (vQ (vX e) (vR f.ok.bsz z)) (Nat.lt_irrefl _)
  .rcases vP (f.stkSub b hz)with z|z
   .exact(f2 b hb).2.1 z
   .exact(f2 b hb).2.2.1 z
 have I4:Inv Y [] (yv nT cap σ) (upd H2 s2.z (.lst [])) { s2 with heap:=n,toks:=s2.toks+([]:List (Str×Value)).length }:=by
  refine⟨ok,rr,f.bare,Un.kept M,⟨_,O,λj x v e1 e2 e3=>?_⟩,λx c e=>?_,hHC,λx c e=>t.freeC x c (S.sub x c e),λp hp=>absurd (show p∈[]from hp) not_mem_nil,t.hok.kept M,?_⟩
  .obtain⟨k,i,rfl,h1,h2⟩:=wJ e2;obtain⟨y,g1,g2,g3',g4,g5⟩:=cp.get h1;have V:N'[nT+k]? = some x:=e1;rw[g1]at V;cases V;have h2':σ[i]? = some (some v):=by
    cases q:σ[i]? with
    |none=>rw[q]at h2;cases h2
    |some z=>rw[q]at h2;have:z=some v:=h2;rw[this]
   obtain⟨m,_,hl⟩:=t.loc;obtain⟨u,r,l⟩:=hl i _ v g2 h2' (g3'.elim (λz=>.inr (.inl z)) λz=>.inr (.inr z));refine⟨u,r,?_⟩;rcases l with⟨l,_⟩|⟨_,c,lc,ic⟩
   .simp_all
   .refine .inr ⟨g4,c,by show cl.lookup _=some c;simp_all,?_⟩;obtain⟨o,ho,hd⟩:=ic;exact⟨o,M _ _ ho,hd⟩
  .obtain⟨v,o,ho,hd⟩:=t.cell x c (S.sub x c e);exact⟨v,o,M _ _ ho,hd⟩
  .show(yv nT cap σ).length=N'.length;unfold yv;rw[cp.len];simp
 have D:∀d:Shared,d={ s2 with heap:=n,toks:=s2.toks+([]:List (Str×Value)).length }->codeAny (model Y.prog Y.w) Y.A (.compLoop (.ListComp Z [⟨tg,dW,wj,0⟩] scope I) 0 (.ref it) (.ref s2.z) Y.env) (RR (.ref s2.z) B.objs.size) d:=by
  rintro d rfl;refine Fl (Y:=Y) XO (λ_ _ z=>z) (hg _ _ _ _) XH (hc _ _ _ _) (he _ _ _ _) T (λi hi=>?_) J1 hsz F (λH' hn b hb=>⟨hn b hb,R b hb,ok.exfs b hb,.inl hb,λx c e=>(f2 b hb).2.2.2.2.1 x c (S.sub x c e),λp hp=>absurd (show p∈[]from hp) not_mem_nil⟩) (λs4 σ' H' N vs G x hN0 YJ XJ=>?_)
   ⟨0,N1,[],[],ds,yv nT cap σ,_,I4,T.keep _ _ _ O4 λb hb o e=>M _ _ (W _ _ e),λb hb=>?_,uN _,rep.caps,?_,(Ext.refl sN).upd F (sN.free F),sN.free F,au,uN _,.nil,by simpa using ec,rr⟩
  .simp_all[cc,getElem?_append_left]
  .obtain⟨m,hm,_⟩:=G.loc;have k:aI N (upd N s2.z (.lst vs)):=λa o e=>by grind[a7]
   refine hRR s2.z B.objs.size s4 H' (upd N s2.z (.lst vs)) vs m F (f.call' (ch:=fp) G.os ((Un.laid W (vT _) F).trans G.base) G.hok G.bare λb hb=>⟨(f2 b hb).2.2.2.1,(f2 b hb).2.1,(f2 b hb).2.2.2.2.1,(f2 b hb).2.2.2.2.2⟩) hm (f.fpOk (by rw[hC];exact le_succ _) G.free) ⟨x.hh,x.bn.trans k,λa o e=>?_,λa o e=>?_⟩ au (XJ.mono k)
   .by_cases z:a=s2.z
    .simp_all[au]
    .rw[a7 z]at e;exact x.nh _ _ e
   .by_cases z:a=s2.z
    .subst z;exact .inr F
    .rw[a7 z]at e;exact x.new _ _ e
  .rw[a7 (fpD b hb)];exact(f2 b hb).1
  .unfold cc yv;simp
 exact codeAny_compStart_list (D _ rr) (T.self _ 0 _ _ _ (T.keep _ _ _ O4 λb hb o e=>M _ _ (W _ _ e)) (D _ rr))
def Mp (M:X.calm=true)
  (S:CompSc X scope cl) (cp:mC X N' scope cl nT cap) (hi:JI X tg dW fi)
  (i:∀C s H fp,PG (iA X N' scope cl C s H fp) tg g) (U:Mo X.K nT t9 g) (hc:∀C s H fp,JC (iA X N' scope cl C s H fp) wj fc) (he:∀C s H fp,JE (iA X N' scope cl C s H fp) ya fe)
  (hs:∀x,foldedSetIterable dW X.env x=pure x:=by intro _;rfl):
  JE X (.ListComp ya [⟨tg,dW,wj,0⟩] scope pos) (jN fi nT cap t9 fc fe):=by
 intro af s σ H Q I h;refine cX λG W=>?_;obtain⟨B,ρ,d,b,j,rep,e,q⟩:=h;refine eX e λitems ei e=>?_;apply W;have hsz:=Decidable.byContradiction λz=>by rw[if_neg z]at e;cases e
 rw[if_pos hsz]at e;refine eB e λds k e=>?_;cases e
 refine wpAny_comprehension_free rr hs S.clos S.kind S.names (bG (hi _ s σ H (λJ H2=>∃N1,Ext B N1 H H2/\mL X.K J N1 _) I ⟨B,ρ,items,j,rep,ei,λJ H2 N1 O a=>⟨N1,O,a⟩⟩) λv s1 h1=>bG h1 λl s2 h2=>?_);refine cX λG W=>?_;obtain⟨it,fp,tn,J,H2,e,n,T,p,f2,N1,O,a⟩:=h2;apply W;subst e;refine qI M S cp i U hc he n T p f2 (rep.mono O.bn) O.nh a hsz k ?_;intro Dd C s' H' N vs m r t hm fC x f hl;refine⟨m,hm,λh' c=>⟨.ref Dd,H',?_,rr,q _ H' N (O.trans x) (.lst (eN.of f) hl) λ_=>⟨Dd,vs,ds,rr,rr,O.hh.free r,f,hl⟩⟩⟩;obtain⟨u,w,c2,c3,y,A⟩:=fC;exact t.turned (λb o hb e=>(c.2 b hb).trans e) u w c3 y A
def Mr (M:X.calm=true)
  (n:X.N.Nodup) (c:X.N[i]? = some y) (hy:X.env.kindOf y=some .local)
  (p:swapsWith (.ListComp ya [⟨tg,dW,wj,0⟩] scope pos) (some (.Name y py)) spos.line X.env=pure true)
  (S:CompSc X scope cl) (cp:mC X N' scope cl nT cap) (hi:JI X tg dW fi)
  (t:∀C s H fp,PG (iA X N' scope cl C s H fp) tg g) (u:Mo X.K nT t9 g) (hc:∀C s H fp,JC (iA X N' scope cl C s H fp) wj fc) (he:∀C s H fp,JE (iA X N' scope cl C s H fp) ya fe)
  (hs:∀x,foldedSetIterable dW X.env x=pure x:=by intro _;rfl):
  JS X (.Assign [.Name y py] (.ListComp ya [⟨tg,dW,wj,0⟩] scope pos) spos) (eQ i (jN fi nT cap t9 fc fe)):=by
 intro af s σ H E I h;have h2:=Cs h;refine cX λv F=>?_;obtain⟨B,ρ,d,b,A,rep,e,q⟩:=h2;refine eX e λitems ei e=>?_;apply F;have hsz:=Decidable.byContradiction λz=>by rw[if_neg z]at e;cases e
 rw[if_pos hsz]at e;refine eB e λds D e=>?_;cases e
 rw[exec_Assign_Name_used _ _ _ _ p];refine wX (wpAny_standAt (wX ?_));refine wX (wpAny_mono (wpAny_comprehension_free rr hs S.clos S.kind S.names
  (bG (hi af s σ H (λJ H2=>∃N1,Ext B N1 H H2/\mL X.K J N1 items) I ⟨B,ρ,items,A,rep,ei,λJ H2 N1 O f=>⟨N1,O,f⟩⟩) λv s1 h1=>bG h1 λF s2 h2=>?_)) (λ_ s' hq=>wY (wY hq)) λ_ _ e=>e)
 refine cX λv F=>?_;obtain⟨it,fp,tn,J,H2,e,G,T,L,f2,N1,O,f⟩:=h2;apply F;subst e;refine qI M S cp t u hc he G T L f2 (rep.mono O.bn) O.nh f hsz D ?_;intro Dd C s' H' N vs m P Q hm fC x U hl;obtain⟨R,k,c2,c3,l,V⟩:=fC;refine wpAny_assign_Name (tU Q n c (.inl hy) (r:=show aE (.ref Dd) (.ref Dd)from rr) (λW Y ⟨a,Z,ha⟩=>?_) (.inr hy));have nC:C≠a:=by
  rcases ha with z|z
  .rw[z];exact k
  .exact λw=>l y a z w.symm
 refine⟨m,hm.sameBut Z nC,λh' j=>⟨_,H',?_,q _ H' N (O.trans x) (.lst (eN.of U) hl) λ_=>⟨Dd,vs,ds,rr,rr,O.hh.free P,U,hl⟩⟩⟩;exact Y.turned (t':=W.toks) (λb o hb e=>(j.2 b hb).trans e) R k c3 l V
section
variable {X:Cx}{a b c e:Expr}{pos:Pos}
def PE.to (h:PE X e t)(k:∀σ H Q,t' σ H Q->t σ H Q):PE X e t':=λaf s σ H Q I q=>h _ s σ H Q I (k σ H Q q)
def PT.to (h:PT X e t)(k:∀σ H Q,t' σ H Q->t σ H Q):PT X e t':=λaf s σ H Q I q=>h _ s σ H Q I (k σ H Q q)
def PW.to (h:PW X e t)(k:∀σ H Q,t' σ H Q->t σ H Q):PW X e t':=λwh af s σ H Q I q=>h wh _ s σ H Q I (k σ H Q q)
def PA.to (h:PA X es t)(k:∀σ H Q,t' σ H Q->t σ H Q):PA X es t':=λpos af s σ H Q I q=>h _ _ s σ H Q I (k σ H Q q)
def PS.to {st:Stmt}{t t':TS}(h:PS X st t)(k:∀E σ H,t' E σ H->t E σ H):PS X st t':=λaf s σ H E I q=>h _ s σ H E I (k E σ H q)
def tE.to {st:List Stmt}{t t':TS}(h:tE X st t)(k:∀E σ H,t' E σ H->t E σ H):tE X st t':=λaf s σ H E I q=>h _ s σ H E I (k E σ H q)
def PI.to (h:PI X tg it t)(k:∀σ H Q,t' σ H Q->t σ H Q):PI X tg it t':=λaf s σ H Q I q=>h _ s σ H Q I (k σ H Q q)
def Fm {K:Frag}{d:D}{v:V}(i:∀B,Is K B v d){σ:St}{H:Hp}{Q:VK}(h:tD K (fC d) σ H Q):tC v σ H Q:=by
 obtain⟨B,ρ,d',b,s,r,e,q⟩:=h;cases e
 exact q.one s (i B)
def QA (i:Nat)(O:X.N[i]? = some x)(hv:GP X.env.scope x)(hd:bf x)
  (M:jI x):JE X (.Name x pos) (am i):=PE.to (jg O hv hd M) λ_ _ _ h=>Q4 h
def QB:JE X (.Constant (.int i) j pos) (fC (.int i)):=PE.to PK λ_ _ _ h=>Fm (λ_=>.int i) h
def UH:JE X (.Constant (.bool i) j pos) (fC (.bl i)):=PE.to TX λ_ _ _ h=>Fm (λ_=>.bl i) h
def QC:JE X (.Constant .none j pos) (fC .non):=PE.to PL λ_ _ _ h=>Fm (λ_=>.non) h
def QE:JE X (.Constant (.str x) j pos) (fC (.str x)):=PE.to PM λ_ _ _ h=>Fm (λ_=>.str x) h
def Ms (M:Gl X x)(hm:X.mg x=some u)(r:aE v u)(i:∀B,Is X.K B v d)(hd:bf x:=by decide):JE X (.Name x pos) (fC d):=PE.to (pZ M hm r hd) λ_ _ _ h=>Fm i h
def UI (M:cJ X (binaryOp op) (rD X.K f))(ha:JE X a fa)(hb:JE X b O):JE X (.BinOp a op b pos) (f2 f fa O):=PE.to (Us M ha hb) λ_ _ _ h=>Mg h
def UJ (M:Ur X (unaryOp op) (Zw X.K f))(ha:JE X a fa):JE X (.UnaryOp op a pos) (f1 f fa):=PE.to (Ut M ha) λ_ _ _ h=>Zx h
def QF (M:cJ X (compareOp op) (rD X.K f))(ha:JE X a fa)(hb:JE X b O)(hm:behindInMarks op b=false):JE X (.Compare a [op] [b] pos) (f2 f fa O):=PE.to (LP M ha hb hm) λ_ _ _ h=>Mg h
def wK {K:Frag}{f:FE}{σ:St}{H:Hp}{Q:Bool->Hp->Prop}(h:Cp K (bW f) σ H Q):tD K f σ H λx H'=>∃k,x=.bl k/\Q k H':=by
 obtain⟨B,ρ,c,s,r,e,q⟩:=h;unfold bW at e;split at e
 .rename_i O b' M;cases e
  refine⟨B,ρ,.bl c,b',s,r,M,λv H' N x i _=>?_⟩;cases i
  exact⟨c,rr,q H' x.hh⟩
 simp_all
def QG (M:cJ X (compareOp op) (rD X.K f))(ha:JE X a fa)(hb:JE X b O)(hm:behindInMarks op b=false):JT X (.Compare a [op] [b] pos) (bW (f2 f fa O)):=
 PT.to (Cf M ha hb hm) λ_ _ _ h=>Mg (wK h)
def QH (h:JE X e f)(he:∀M,isTrue e X.env M=(do let v <-M;standAt e.pos;holding [v] (truthy v))):JT X e (bW f):=PT.to (PQ h he) λ_ _ _ q=>wK q
@[simp] noncomputable def jO (f g:D->D->OB)(fa M O:FE):FE:=λρ=>(fa ρ).bind λx=>(M ρ).bind λy=>match f x.1 y.1 with
 |some (.bl true,_)=>(O ρ).bind λz=>g y.1 z.1
 |some (.bl false,_)=>some (.bl false,false)
 |_=>none
def yx {K:Frag}{f g:D->D->OB}{fa l m:FE}{σ:St}{H:Hp}{Q:VK}(h:tD K (jO f g fa l m) σ H Q):AH (rD K f) (rD K g) (tD K fa) (tD K l) (tD K m) σ H Q:=by
 refine cX λW Y=>?_;obtain⟨B,ρ,d,b,s,r,e,q⟩:=h;refine eX e λx ex e=>?_;refine eX e λy o e=>?_;apply Y;clear Y;refine⟨B,ρ,x.1,x.2,s,r,ex,λv C N1 U i1 _=>⟨N1,ρ,y.1,y.2,U.nh,r.mono U.bn,o,λE H2 N2 M i2 _=>?_⟩⟩;split at e
 .rename_i b' i;refine eX e λz p e=>?_;refine⟨N2,x.1,y.1,.bl _,b',M.nh,i1.mono M.bn,i2,i,λt u n O j _=>?_⟩;cases j
  refine⟨true,rr,?_⟩;refine⟨n,ρ,z.1,z.2,O.nh,r.mono (U.bn.trans (M.bn.trans O.bn)),p,λF G w k A _=>⟨w,y.1,z.1,d,b,k.nh,i2.mono (O.bn.trans k.bn),A,e,?_⟩⟩;exact q.into ((U.trans M).trans (O.trans k))
 .rename_i b' i;cases e
  refine⟨N2,x.1,y.1,.bl _,b',M.nh,i1.mono M.bn,i2,i,λt u n O j _=>?_⟩;cases j
  refine⟨false,rr,?_⟩;exact(q.into ((U.trans M).trans O)).one O.nh (.bl _)
 simp_all
def HF (O:cJ X (compareOp op) (rD X.K f))(M:cJ X (compareOp U) (rD X.K g))(ha:JE X a fa)(hb:JE X b fb)(hc:JE X c fc)
  (hm:lastMarks [op,U] [b,c]=false):JE X (.Compare a [op,U] [b,c] pos) (jO f g fa fb fc):=PE.to (Hb O M ha hb hc hm) λ_ _ _ h=>yx h
def HG (O:cJ X (compareOp op) (rD X.K f))(M:cJ X (compareOp U) (rD X.K g))(ha:JE X a fa)(hb:JE X b fb)(hc:JE X c fc)
  (hm:lastMarks [op,U] [b,c]=false):JT X (.Compare a [op,U] [b,c] pos) (bW (jO f g fa fb fc)):=PT.to (Hd O M ha hb hc hm) λ_ _ _ h=>yx (wK h)
def Mt {K:Frag}{f g:FT}{σ:St}{H:Hp}{Q:Bool->Hp->Prop}(h:Cp K (gm f g) σ H Q):TY (Cp K f) (Cp K g) σ H Q:=by
 obtain⟨B,ρ,c,s,r,e,q⟩:=h;unfold gm at e;cases M:f ρ with
 |none=>rw[M]at e;cases e
 |some k=>
  rw[M]at e;refine⟨B,ρ,k,s,r,M,λO h1=>?_⟩;cases k with
  |true=>exact⟨B,ρ,c,s.trans h1,r,e,λH2 h2=>q H2 (h1.trans h2)⟩
  |false=>simp_all
def QI {K:Frag}{f g:FT}{σ:St}{H:Hp}{Q:Bool->Hp->Prop}(h:Cp K (lQ f g) σ H Q):tOr (Cp K f) (Cp K g) σ H Q:=by
 obtain⟨B,ρ,c,s,r,e,q⟩:=h;unfold lQ at e;cases M:f ρ with
 |none=>rw[M]at e;cases e
 |some k=>
  rw[M]at e;refine⟨B,ρ,k,s,r,M,λO h1=>?_⟩;cases k with
  |false=>exact⟨B,ρ,c,s.trans h1,r,e,λH2 h2=>q H2 (h1.trans h2)⟩
  |true=>simp_all
def Mu {K:Frag}{f:FT}{σ:St}{H:Hp}{Q:Bool->Hp->Prop}(h:Cp K (mJ f) σ H Q):TZ (Cp K f) σ H Q:=by
 obtain⟨B,ρ,c,s,r,e,q⟩:=h;refine eB e λk ek e=>?_;subst e;exact⟨B,ρ,k,s,r,ek,λM h1=>q M h1⟩
variable {ai:QD}
def Mv (ha:JT X a f):JW X (.BoolOp .And [a] pos) f:=LF ha
def QJ (ha:JT X a f):JW X (.BoolOp .Or [a] pos) f:=PR ha
def QK (ha:JT X a f)(hb:JW X (.BoolOp .And (b::ai) pos) g):JW X (.BoolOp .And (a::b::ai) pos) (gm f g):=PW.to (PU ha hb) λ_ _ _ h=>Mt h
def UK (ha:JT X a f)(hb:JW X (.BoolOp .Or (b::ai) pos) g):JW X (.BoolOp .Or (a::b::ai) pos) (lQ f g):=PW.to (Ua ha hb) λ_ _ _ h=>QI h
def Zy (h:JW X e f):JT X e f:=h.pt
def QL (ha:JT X a f):JT X (.UnaryOp .Not a pos) (mJ f):=PT.to (PX ha) λ_ _ _ h=>Mu h
@[simp] noncomputable def HH (f g:FE):FE:=λρ=>match f ρ with|some (.bl true,_)=>g ρ|some (.bl false,_)=>some (.bl false,false)|_=>none
@[simp] noncomputable def UL (f g:FE):FE:=λρ=>match f ρ with|some (.bl true,_)=>some (.bl true,false)|some (.bl false,_)=>g ρ|_=>none
@[simp] noncomputable def HI (f:FE):FE:=λρ=>match f ρ with|some (.bl c,_)=>some (.bl (!c),false)|_=>none
def QM (ha:JE X a f)(hb:JE X (.BoolOp .And (b::ai) pos) g):JE X (.BoolOp .And (a::b::ai) pos) (HH f g):=PE.to (PZ ha hb) λσ H Q h=>by
 obtain⟨B,ρ,d,k,s,r,e,q⟩:=h;unfold HH at e;split at e
 .rename_i b' O;refine⟨B,ρ,_,_,s,r,O,λv U N1 M i1 _=>?_⟩;cases i1
  refine⟨true,rr,?_⟩;exact⟨N1,ρ,d,k,M.nh,r.mono M.bn,e,q.into M⟩
 .rename_i b' O;cases e
  refine⟨B,ρ,_,_,s,r,O,λv U N1 M i1 _=>?_⟩;cases i1
  refine⟨false,rr,?_⟩;exact(q.into M).one M.nh (.bl _)
 simp_all
def UM (ha:JE X a f)(hb:JE X (.BoolOp .Or (b::ai) pos) g):JE X (.BoolOp .Or (a::b::ai) pos) (UL f g):=PE.to (Ud ha hb) λσ H Q h=>by
 refine cX λG K=>?_;obtain⟨B,ρ,d,k,s,r,e,q⟩:=h;apply K;clear K;unfold UL at e;split at e
 .rename_i b' O;cases e
  refine⟨B,ρ,_,_,s,r,O,λv U N1 M i1 _=>?_⟩;cases i1
  refine⟨true,rr,?_⟩;exact(q.into M).one M.nh (.bl _)
 .rename_i b' O;refine⟨B,ρ,_,_,s,r,O,λv U N1 M i1 _=>?_⟩;cases i1
  refine⟨false,rr,?_⟩;exact⟨N1,ρ,d,k,M.nh,r.mono M.bn,e,q.into M⟩
 simp_all
def QN (h:JE X a f):JE X (.BoolOp op [a] pos) f:=PY h
def QO (ha:JE X a f):JE X (.UnaryOp .Not a pos) (HI f):=PE.to (Qa ha) λσ H Q h=>by
 refine cX λG g=>?_;obtain⟨B,ρ,d,k,s,r,e,q⟩:=h;apply g;clear g;unfold HI at e;split at e
 .rename_i c b' O;cases e
  refine⟨B,ρ,_,_,s,r,O,λv U N1 M i1 _=>?_⟩;cases i1
  exact⟨c,rr,(q.into M).one M.nh (.bl _)⟩
 simp_all
variable {es:QD}
def lR:JA X [] a0:=PA.to fH λ_ _ _ h=>Mi h
def fU (ha:JE X e f)(M:JA X es g)(hs:cQ e es X.env:=by rfl):JA X (e::es) (ak f g):=PA.to (de ha M hs) λ_ _ _ h=>Hw h
@[simp] noncomputable def cG:LD->OB:=λds=>if ds.length<=sizeLine then some (.tup ds,false)else none
@[simp] noncomputable def gu:LD->OB:=λds=>if ds.length<=sizeLine then some (.lst ds,true)else none
def QP {M}(h:JA X es f):JE X (.Tuple es M pos) (fA cG f):=PE.to (wu h) λσ H Q q=>by
 obtain⟨B,ρ,ds,s,r,e,k⟩:=Mh q;refine⟨B,ρ,ds,s,r,e,λvs O N1 M i1=>?_⟩;refine cX λG K=>?_;obtain⟨g,U,d,b,s2,i2,e2,k2⟩:=k vs O N1 M i1;apply K;clear K;unfold cG at e2;split at e2
 .rename_i hz;cases e2
  refine⟨by rw[i2.length];exact hz,λp hp=>k2 _ _ _ (.laid s2 hp) (.tup (hV.of au) (i2.mono (Ext.laid s2 hp).bn)) H9⟩
 simp_all
def QQ (h:JA X es f):JE X (.List es pos) (fA gu f):=PE.to (Qq h) λσ H Q q=>by
 obtain⟨B,ρ,ds,s,r,e,k⟩:=Mh q;refine⟨B,ρ,ds,s,r,e,λvs O N1 U i1=>?_⟩;refine cX λG K=>?_;obtain⟨g,M,d,b,s2,i2,e2,k2⟩:=k vs O N1 U i1;apply K;clear K;unfold gu at e2;split at e2
 .rename_i hz;cases e2
  refine⟨by rw[i2.length];exact hz,λp hp=>k2 _ _ _ (.laid s2 hp) (.lst (eN.of au) (i2.mono (Ext.laid s2 hp).bn)) λ_=>⟨p,vs,M,rr,rr,hp,au,i2.mono (Ext.laid s2 hp).bn⟩⟩
 simp_all
end
section
variable {X:Cx}
def iB (h:cJ X f r)(k:∀x y H Q,U x y H Q->r x y H Q):cJ X f U:=λaf s σ H x y v u Q I M O q=>h _ s σ H x y v u Q I M O (k x y H Q q)
noncomputable def Tw (f g:D->D->OB):D->D->OB:=λx y=>match f x y with|some r=>some r|none=>g x y
def oj (h:cJ X s (rD X.K f))(h':cJ X s (rD X.K g)):cJ X s (rD X.K (Tw f g)):=by
 intro af st σ H x y v u Q I M O q;refine eR q λB dx U d b a c i e q=>?_;unfold Tw at e;split at e
 .rename_i r j;cases e
  exact h _ st σ H x y v u Q I M O ⟨B,dx,U,_,_,a,c,i,j,q⟩
 .exact h' _ st σ H x y v u Q I M O ⟨B,dx,U,_,_,a,c,i,e,q⟩
@[simp] noncomputable def AY (C:Int->Int->Bool)(g:Int->Int->D):D->D->OB
 |.int i,.int j=>if C i j=true then some (g i j,false)else none
 |_,_=>none
def mO (h:cJ X s (rI C g))(M:∀i j,C' i j=true->C i j)(O:∀i j B,Is X.K B (g i j) (g' i j)):cJ X s (rD X.K (AY C' g')):=by
 refine iB h λx y H Q q=>?_;refine eR q λB dx f d b U a c e q=>?_;cases a<;>try (cases e)
 cases c<;>try (cases e)
 rename_i i j;simp only[AY]at e;split at e
 .rename_i hc;cases e
  exact⟨i,j,rr,rr,M i j hc,q.one U (O i j B)⟩
 simp_all
def gy (h:cJ X s (Lz g))(M:∀i j B,Is X.K B (g i j) (g' i j)):cJ X s (rD X.K (AY (λ_ _=>true) g')):=by
 refine iB h λx y H Q q=>?_;refine eR q λB dx c d b O U a e q=>?_;cases U<;>try (cases e)
 cases a<;>try (cases e;done)
 rename_i i j;cases e
 exact⟨i,j,rr,rr,q.one O (M i j B)⟩
abbrev Zz:D->D->OB:=AY (λ_ _=>true) λi j=>.int (i+j)
abbrev Z0:D->D->OB:=AY (λ_ _=>true) λi j=>.int (i - j)
abbrev UN:D->D->OB:=AY (λi j=>decide ((-18446744073709551616<i/\i<18446744073709551616)\/(-18446744073709551616<j/\j<18446744073709551616))) λi j=>.int (i*j)
abbrev fJ:D->D->OB:=AY (λ_ j=>decide (0<j/\j<1073741824)) λi j=>.int (i / j)
abbrev ji:D->D->OB:=AY (λ_ j=>decide (0<j)) λi j=>.int (i % j)
abbrev Z1:D->D->OB:=AY (λi j=>decide (0<=j/\j<=1000000/\i.natAbs<18446744073709551616)) λi j=>.int (i ^ j.toNat)
abbrev Z2:D->D->OB:=AY (λ_ _=>true) λi j=>.int (Builtin.bitAnd i j)
abbrev iLt:D->D->OB:=AY (λ_ _=>true) λi j=>.bl (decide (i<j))
abbrev iLe:D->D->OB:=AY (λ_ _=>true) λi j=>.bl (decide (i<=j))
abbrev OS:D->D->OB:=AY (λ_ _=>true) λi j=>.bl (decide (j<i))
abbrev iGe:D->D->OB:=AY (λ_ _=>true) λi j=>.bl (decide (j<=i))
def UO:cJ X (binaryOp .Add) (rD X.K Zz):=gy Qi λ_ _ _=>.int _
def UP:cJ X (binaryOp .Sub) (rD X.K Z0):=gy Qj λ_ _ _=>.int _
def UQ:cJ X (binaryOp .Mult) (rD X.K UN):=mO Qk (λi j h=>by simp_all[LM]) λ_ _ _=>.int _
def QR:cJ X (binaryOp .FloorDiv) (rD X.K fJ):=mO LO (λi j h=>by simp_all[Uv]) λ_ _ _=>.int _
def UR:cJ X (binaryOp .Mod) (rD X.K ji):=mO Ql (λ_ _ h=>ET h) λ_ _ _=>.int _
def US:cJ X (binaryOp .Pow) (rD X.K Z1):=mO Qm (λi j h=>by simp_all[Uw]) λ_ _ _=>.int _
def UT:cJ X (binaryOp .BitAnd) (rD X.K Z2):=gy Qn λ_ _ _=>.int _
def Z3:cJ X (compareOp .Lt) (rD X.K iLt):=gy Ux λ_ _ _=>.bl _
def Z4:cJ X (compareOp .LtE) (rD X.K iLe):=gy Uy λ_ _ _=>.bl _
def Z5:cJ X (compareOp .Gt) (rD X.K OS):=gy Uz λ_ _ _=>.bl _
def Z6:cJ X (compareOp .GtE) (rD X.K iGe):=gy U0 λ_ _ _=>.bl _
@[simp] noncomputable def Z7 (C:Str->Str->Bool)(g:Str->Str->D):D->D->OB
 |.str i,.str j=>if C i j=true then some (g i j,false)else none
 |_,_=>none
abbrev Z8:D->D->OB:=Z7 (λi j=>decide (i.length+j.length<=sizeLine)) λi j=>.str (i++j)
abbrev sLe:D->D->OB:=Z7 (λ_ _=>true) λi j=>.bl (!decide (j.cps.toList<i.cps.toList))
def QS:cJ X (binaryOp .Add) (rD X.K Z8):=by
 refine iB AI λx y H Q q=>?_;refine eR q λB dx a d b M O U e q=>?_;cases O<;>try (cases e)
 cases U<;>try (cases e)
 rename_i i j;simp only[Z7]at e;split at e
 .rename_i hc;cases e
  exact⟨i,j,rr,rr,ET hc,q.one M (.str _)⟩
 simp_all
def UU:cJ X (compareOp .LtE) (rD X.K sLe):=by
 intro af s σ H x y v u Q I M O q;refine eR q λB dx f d b U a c e q=>?_;cases a<;>try (cases e)
 cases c<;>try (cases e;done)
 cases e
 obtain⟨t,rfl⟩:=M;obtain⟨t',rfl⟩:=O;exact PySem.P.le_str ⟨.bl _,H,I,rr,q.one U (.bl _)⟩
end
section
variable {X:Cx}{a b c e:Expr}{pos:Pos}{st:Stmt}{ai:List Stmt}
def QT:yf X [] qG:=tE.to LG λ_ _ _ h=>Hz h
def Mw (h1:JS X st g)(h2:yf X ai h):yf X (st::ai) (cb g h):=tE.to (GS h1 h2) λ_ _ _ q=>Mj q
def QU (h1:JS X st g):yf X [st] g:=LH h1
def UV {c:Expr}{a b:List Stmt}{M:FT}{g h:FS}(hc:JT X c M)(ha:yf X a g)(hb:yf X b h):JS X (.If c a b pos) (A7 M g h):=PS.to (Ui hc ha hb) λ_ _ _ q=>Q5 q
def HJ (he:JE X e f):JS X (.Return (some e) pos) (AU f):=PS.to (GU he) λ_ _ _ q=>Mk q
def Mx (i:Nat)(O:X.N[i]? = some x)(hv:GP X.env.scope x)(hd:bf x)
  (M:jI x):JS X (.Return (some (.Name x p)) pos) (pq i):=PS.to (GU (jg O hv hd M)) λ_ _ _ q=>HA q
def QW (M:X.N.Nodup)(he:JE X e f)(hi:X.N[i]? = some x)(hx:Ly X.env.scope x)(hs:swapsWith e (some (.Name x p)) pos.line X.env=pure false)
  (hf:X.fn x=true\/X.env.scope.names.lookup x=some .local):JS X (.Assign [.Name x p] e pos) (eQ i f):=PS.to (wt M hi hx he hs hf) λ_ _ _ q=>Cs q
def My (M:X.N.Nodup)(he:JE X e f)(hi:X.N[i]? = some x)(hx:Ly X.env.scope x)(hs:swapsWith e (some (.Name x p)) pos.line X.env=pure false)
  (hf:X.fn x=true\/X.env.scope.names.lookup x=some .local):JS X (.Assign [.Name x p] e pos) (Cr i f):=PS.to (wt M hi hx he hs hf) λ_ _ _ q=>HB q
def HK (n:Nat)(hp:PassesOwn (model X.prog X.w) X.A X.env X.xe)(hc:JT X c O)(hb:yf X M g):JS X (.While c M [] pos) (cn O g n):=PS.to (GY hp hc hb) λ_ _ _ q=>Fk q
def QX (hp:PassesOwn (model X.prog X.w) X.A X.env X.xe)(hc:X.calm=true)(hi:JI X tg dW fi)(M:PG X tg t)(O:L0 X.K t9 t)(hb:yf X U g)
  (hs:∀x,foldedSetIterable dW X.env x=pure x:=by intro _;rfl):JS X (.For tg dW U [] pos) (AW fi t9 g):=PS.to (Ha hp hc hi M hb hs) λ_ _ _ q=>Mm O q
def Mz (hp:PassesOwn (model X.prog X.w) X.A X.env X.xe)(hc:X.calm=true)(hi:PI X tg dW (UG X.K fi))(M:PG X tg t)(O:L0 X.K t9 t)(hb:yf X U g)
  (hs:∀x,foldedSetIterable dW X.env x=pure x:=by intro _;rfl):JS X (.For tg dW U [] pos) (ud fi t9 g):=PS.to (Ha hp hc hi M hb hs) λ_ _ _ q=>HE O q
def QY (he:JE X e f)(d:X.N[i]? = some x)(hv:GP X.env.scope x)(hd:bf x)
  (g:jI x)
  (M:attributeBase (.Name x p) "append" X.env (eval (.Name x p) X.env)=eval (.Name x p) X.env)
  (U:ph b9 e X.env)
  (O:(bV.endLine == b9.line)=true) (hs:cL e X.env) (h:swapsWith (.Call (.Attribute (.Name x p) "append" bV) [e] [] b9) none pos.line X.env=pure false):
  JS X (.Expr (.Call (.Attribute (.Name x p) "append" bV) [e] [] b9) pos) (tJ i f):=by
 refine PS.to (wo (yn plainAttrs_list PySem.F.slot_list_append PySem.F.type_list_append tZ (jg d hv hd g) (de he fH hs) M U O hs rr) h) λE σ H q=>?_;obtain⟨a,us,h1,h2,k⟩:=Ml q;exact⟨_,h1,.inl ⟨rr,us,eN.of h2⟩,k⟩
end
@[simp] noncomputable def ax (g:FS)(n k:Nat):LD->OB:=λds=>if ds.length=n then
 match g (ds.map (λd=>some (d,false))++List.replicate k none) with
 |some (.rt d b)=>some (d,b)
 |some (.nx _)=>some (.non,false)
 |_=>none
 else none
def HL (K:Frag)(f:LD->OB):Sp:=λvs H Q _=>∃(B:Hp)(ds:LD)(d:D)(b:Bool),(aI B H/\Tb K B)/\IsL K B vs ds/\f ds=some (d,b)/\Fin K B H d b Q
def qJ {K:Frag}{B H:Hp}{vs:LV}{ds:LD}{N:LS}(O:aI B H)(tb:Tb K B)(i:IsL K B vs ds):dc K B H B H (L2.lG N vs) (ds.map (λd=>some (d,false))++List.replicate (N.length - vs.length) none):=by
 have M:∀(j:Nat)(d:D)(b:Bool),(ds.map (λd=>some (d,false))++List.replicate (N.length - vs.length) none:Env)[j]? = some (some (d,b))->b=false/\ds[j]? = some d:=λj d b e=>by
  by_cases hj:j<ds.length
  .rw[getElem?_append_left (by simpa using hj),vA]at e;refine eB e λd' h1 h2=>?_;cases h2
   exact⟨rr,h1⟩
  .rw[getElem?_append_right (by simpa using Nat.not_lt.mp hj),List.getElem?_replicate]at e;split at e<;>cases e
 have no:∀a,¬own (L2.lG N vs) (ds.map (λd=>some (d,false))++List.replicate (N.length - vs.length) none) a:=λa ⟨j,d,h,_⟩=>by
  obtain⟨z,_⟩:=M j d true h;cases z
 refine⟨O,tb,.refl O,?_,λj d e=>?_,λj d e=>?_,λj k a d e h=>?_⟩
 .unfold L2.lG;rw[uZ,uZ,vI,vI,length_replicate,length_replicate,i.length]
 .obtain⟨_,U⟩:=M j d false e;obtain⟨v,h1,h2⟩:=i.get U;refine⟨v,?_,h2.mono λa o e=>by rw[cm (no a)];exact e⟩;unfold L2.lG;have hj:=(vV h1).1;rw[getElem?_append_left (by simpa using hj),vA,h1]<;>rfl
 .obtain⟨z,_⟩:=M j d true e;cases z
 .obtain⟨z,_⟩:=M j d true h;cases z
section
variable {P:Program}{w:World}{K:Frag}{mg:SV}{base:Heap}
def Z9 {x qual:Str}{st:Stmt}{f:Addr}{fd:FuncData}{N ps:LS}{k:Nat}{g:FS}(F:SQ K x qual st f fd)(S:FnScope N ps (a9 st))
  (hb:∀(c9:Value)(A:Around)(outer:List PySem.Env)(s:Shared)(H:Hp)(E:XK),dn k (A.deeper (envOfC qual (a9 st) s.z f c9))->yf (pP yo P w K mg base N qual (a9 st) f c9 A outer s H E).nox (bq st) g):
  t8 P w K mg base yo (k+1) f fd ps (HL K (ax g ps.length (N.length - ps.length))):=by
 have len:∀vs H Q E,HL K (ax g _ (N.length - ps.length)) vs H Q E->vs.length=ps.length:=λvs H Q E h=>by
  refine cX λG W=>?_;obtain⟨B,ds,d,b,O,i,e,q⟩:=h;apply W;clear W;unfold ax at e;split at e
  .rename_i hl;rw[i.length];exact hl
  simp_all
 refine F.ok S len λc9 A outer s H vs Q E c h=>⟨_,hb _ A _ s H E c,?_⟩;have M:=len vs H Q E h;refine cX λG W=>?_;obtain⟨B,ds,d,b,O,i,e,q⟩:=h;apply W;clear W;unfold ax at e;rw[if_pos (by rw[<-i.length];exact M)]at e;have U:=qJ (N:=N) O.1 O.2 i;rw[M]at U;split at e
 .rename_i d' b' a;cases e
  exact⟨B,H,_,_,⟨B,U⟩,a,λv H' N' j l m=>q v H' N' j l m⟩
 .rename_i ρ' a;cases e
  exact⟨B,H,_,_,⟨B,U⟩,a,λn H' ⟨N',s'⟩=>q _ H' N' s'.ext .non H9⟩
 simp_all
structure Fn (P:Program)(w:World)(K:Frag)(mg:Str->Option Value)(base:Heap)(k:Nat)(x:Str)(f:List D->OB):Prop where
 ex:∃(ad:Addr)(fd:FuncData)(ps:List Str),t8 P w K mg base yo k ad fd ps (HL K f)/\mg x=some (.ref ad)/\PySem.W.keepIn K (.ref ad)=true/\pi K fd ps []
end
def M0 (F:Fn X.prog X.w X.K X.mg X.base k x f)(a:dn k X.A)(ha:JA X (e::es) fa)(c:Gl X x:=by rfl)
  (M:bf x:=by decide) (he:cQ e es X.env:=by rfl) (O:j9 pos es X.env:=by rfl):
  JE X (.Call (.Name x p) (e::es) [] pos) (fA f fa):=by
 obtain⟨ad,fd,ps,g,hm,hk,hb⟩:=F.ex;refine PE.to (Ch g a c hm hk hb .nil OO ha M he O) λσ H Q q=>?_;refine cX λG W=>?_;obtain⟨B,ρ,d,b,s,r,e,q⟩:=q;refine eX e λds ex e=>?_;apply W;exact⟨B,ρ,ds,s,r,ex,λvs h N1 U i1=>by
  show HL _ f _ h Q _;rw[uQ];exact⟨N1,ds,d,b,⟨U.nh,r.tb.mono U.bn⟩,i1,e,q.into U⟩⟩
mutual
noncomputable def iQ:D->D->Bool
 |.non,.non=>true
 |.bl a,.bl b=>a == b
 |.bl a,.int b=>decide ((if a then 1 else 0)=b)
 |.int a,.bl b=>decide (a=(if b then 1 else 0))
 |.int a,.int b=>decide (a=b)
 |.str a,.str b=>decide (a=b)
 |.tup xs,.tup ys=>jP xs ys
 |.lst xs,.lst ys=>jP xs ys
 |_,_=>false
@[simp] noncomputable def jP:LD->LD->Bool
 |[],[]=>true
 |x::xs,y::ys=>iQ x y && jP xs ys
 |_,_=>false
end
@[simp] theorem yy (a b:Str):iQ (.str a) (.str b)=decide (a=b):=rfl
@[simp] def xx0:iQ .non .non=true:=rfl
@[simp] def xx1 (a b:Bool):iQ (.bl a) (.bl b)=(a == b):=rfl
@[simp] def xx2 (a b:Int):iQ (.int a) (.int b)=decide (a=b):=rfl
@[simp] def xx3 (a b:LD):iQ (.tup a) (.tup b)=jP a b:=rfl
@[simp] def xx4 (a b:LD):iQ (.lst a) (.lst b)=jP a b:=rfl
@[simp] def xx5 (a:Str)(b:Int):iQ (.str a) (.int b)=false:=rfl
@[simp] def xx6 (a:Int)(b:Str):iQ (.int a) (.str b)=false:=rfl
@[simp] def xx12 (a:LD)(b:Str):iQ (.lst a) (.str b)=false:=rfl
@[simp] noncomputable def aG:Nat->D->Bool
 |_,.non=>true
 |_,.bl _=>true
 |_,.int _=>true
 |_,.str _=>true
 |_,.ty _=>false
 |_,.dk _ _=>false
 |_,.dt _ _=>false
 |0,.tup _=>false
 |0,.lst _=>false
 |n+1,.tup ds=>ds.all (aG n)
 |n+1,.lst ds=>ds.all (aG n)
theorem yz:∀ {xs ys:LD},jP xs ys=true->xs.length=ys.length
 |[],[],_=>rr
 |x::xs,y::ys,h=>by
  simp [jP,vC]at h;rw[vE,vE,yz h.2]
 |[],_::_,h=>by simp at h
 |_::_,[],h=>by simp at h
def wL (h:xs.length≠ys.length):jP xs ys=false:=by
 grind[yz]
theorem jj (f:Nat->Bool):∀ {xs ys:LD},xs.length=ys.length->(∀(j:Nat) x y,xs[j]? = some x->ys[j]? = some y->f j=iQ x y)->(List.range xs.length).all f=jP xs ys
 |[],[],_,_=>by simp
 |x::xs,y::ys,hl,h=>by
  have e:=jj _ (by simpa using hl) λj a b h1 h2=>h (j+1) a b (by simpa using h1) (by simpa using h2);rw[vE,List.range_succ_eq_map,all_cons,List.all_map,jP,<-h 0 x y rr rr,<-e];rfl
 |[],_::_,hl,_=>by simp at hl
 |_::_,[],hl,_=>by simp at hl
section
variable {X:Cx}{af:AO}{σ:St}{H:Hp}{s:Shared}
def Ct (I:Inv X af σ H s)(h1:hV X.K H a vs)(h2:eN X.K H a ws):False:=by
 refine cX λG g=>?_;obtain⟨its,_,⟨o,e,c,_⟩,_⟩:=I.tuple h1;obtain⟨its',_,⟨o',M,O,U,_⟩,_⟩:=I.list h2;apply g;lia
def Cu (I:Inv X af σ H s)(e:s.heap.get? a=some o)(d:o.data=.seq its n):(∀aC ob,H a≠some (.dK aC ob))/\∀aC,H a≠some (.dT aC):=by
 refine⟨λaC ob h=>?_,λaC h=>?_⟩
 .refine cX λG g=>?_;obtain⟨_,_,_,_,_,o',es,M,O,_,d',_⟩:=(show bg _ _ H _ a _ from I.hok a _ h);apply g;clear g;simp_all
 .refine cX λG g=>?_;obtain⟨_,_,_,_,o',es,M,O,_,d',_⟩:=(show bg _ _ H _ a _ from I.hok a _ h);apply g;clear g;simp_all
def y0 (I:Inv X af σ H s)(h1:hV X.K H a vs):(∀aC ob,H a≠some (.dK aC ob))/\∀aC,H a≠some (.dT aC):=by
 refine cX λG g=>?_;obtain⟨its,_,⟨o,e,c,n,d⟩,_⟩:=I.tuple h1;apply g;exact Cu I e d
def y4 (I:Inv X af σ H s)(h1:eN X.K H a vs):(∀aC ob,H a≠some (.dK aC ob))/\∀aC,H a≠some (.dT aC):=by
 refine I.lisE h1 λits _ p _=>?_;obtain⟨o,e,c,n,d⟩:=p.isList;exact Cu I e d
def Cv (I:Inv X af σ H s):∀(n:Nat){v:V}{d d':D},Is X.K H v d->Is X.K H v d'->aG n d=true->iQ d d'=true:=by
 have M:∀ {p:D->Bool}(ih:∀ {v:V}{d d':D},Is X.K H v d->Is X.K H v d'->p d=true->iQ d d'=true) {vs:LV}{ds O:LD},IsL X.K H vs ds->IsL X.K H vs O->ds.all p=true->jP ds O=true:=by
  intro p ih vs;induction vs with
  |nil=>intro ds O h h' _;cases h;cases h';rfl
  |cons v vs U=>
   intro ds O h h' hp;cases h with
   |cons h1 h2=>
    cases h' with
    |cons h3 h4=>
     rw[all_cons,vC]at hp;rw[jP,ih h1 h3 hp.1,U h2 h4 hp.2];rfl
 intro n;induction n with
 |zero=>
  intro v d d' h h' hp;cases h<;>cases h'<;>first|(simp at hp;done)|simp
 |succ n ih=>
  intro v d d' h h' hp;cases h with
  |tup h1 h2=>
   cases h' with
   |tup h3 h4=>
    rw[I.tuple_inj h3 h1]at h4;exact M ih h2 h4 (by simpa [aG]using hp)
   |lst h3 h4=>exact(Ct I h1 h3).elim
   |dk h3 _ _=>exact((y0 I h1).1 _ _ h3).elim
   |dt h3 _ _=>exact((y0 I h1).2 _ h3).elim
  |lst h1 h2=>
   cases h' with
   |lst h3 h4=>
    rw[I.list_inj h3 h1]at h4;exact M ih h2 h4 (by simpa [aG]using hp)
   |tup h3 h4=>exact(Ct I h3 h1).elim
   |dk h3 _ _=>exact((y4 I h1).1 _ _ h3).elim
   |dt h3 _ _=>exact((y4 I h1).2 _ h3).elim
  |ty=>simp at hp
  |dk=>simp at hp
  |dt=>simp at hp
  |_=>cases h'<;>simp
def y6 {A:Around}{p:D->Bool}(ih:∀ {O U:V}{d1 d2:D}{a b:Value},p d1=true->p d2=true->Is X.K H O d1->Is X.K H U d2->aE O a->aE U b->SeqAt.EqAt A s a b (iQ d1 d2))
  {vs ws:LV}{ds es:LD}{its M:LU}(i1:IsL X.K H vs ds) (i2:IsL X.K H ws es) (c:aL vs its) (e:aL ws M) (f:ds.all p=true) (p2:es.all p=true):
  ∀j (h1:j<its.toArray.size) (h2:j<M.toArray.size),SeqAt.EqAt A s its.toArray[j] M.toArray[j] (iQ (ds.getD j .non) (es.getD j .non)):=by
 intro j h1 h2;rw[vH]at h1 h2;have l1:=c.length;have l2:=e.length;have g:=i1.length;have h:=i2.length;have hv:j<vs.length:=N9
 have hw:j<ws.length:=N9
 have hd:j<ds.length:=N9
 have he:j<es.length:=N9
 refine cX λG W=>?_;obtain⟨u,k,l⟩:=c.get (i:=j) (x:=vs[j]) (by simp );obtain⟨u',e2,q2⟩:=e.get (i:=j) (x:=ws[j]) (by simp );obtain⟨v,m,n⟩:=i1.get (i:=j) (d:=ds[j]) (by simp );obtain⟨w,o,q⟩:=i2.get (i:=j) (d:=es[j]) (by simp );apply W;clear W;grind
def wM {xs ys:LD}(j:Nat)(x y:D)(h1:xs[j]? = some x)(h2:ys[j]? = some y):iQ (xs.getD j .non) (ys.getD j .non)=iQ x y:=by
 simp[h1,h2]
abbrev UW (A:Around)(s:Shared)(M O:Value)(b:Bool):Prop:=SeqAt.RcAt A s M O b/\SeqAt.EqAt A s M O b/\SeqAt.RcNeAt A s M O (!b)
def Cw {M O:Addr}(rc:SeqAt.RcAt A s (.ref M) (.ref O) b)(U:SeqAt.RcNeAt A s (.ref M) (.ref O) (!b))(h:M=O->b=true):UW A s (.ref M) (.ref O) b:=by
 grind[SeqAt.EqAt.same,SeqAt.EqAt.of_refs]
def jQ:Bool->Heap->Addr->AV->Prop
 |true,h,a,items=>h.IsList a items
 |false,h,a,items=>h.IsTuple a items
def y7 (U:aG 0 d1=true)(p2:aG 0 d2=true)(i1:Is X.K H v1 d1)(i2:Is X.K H v2 d2)(M:aE v1 u1)(O:aE v2 u2):UW A s u1 u2 (iQ d1 d2):=by
 cases i1<;>try (cases U;done)
 all_goals (first|(cases M;done)|obtain⟨t,rfl⟩:=M)
 all_goals (cases i2<;>try (cases p2;done))
 all_goals (first|(cases O;done)|obtain⟨t',rfl⟩:=O)
 all_goals (refine⟨?_,?_,?_⟩)
 exact .none_none;exact .same _;exact .none_none;iterate 3 exact .none_bool _
 iterate 3 exact .none_int _ _
 iterate 3 exact .none_str _ _
 iterate 3 exact .bool_none _
 iterate 3 exact .bool_bool _ _
 iterate 3 exact .bool_int _ _ _
 iterate 3 exact .bool_str _ _ _
 iterate 3 exact .int_none _ _
 iterate 3 exact .int_bool _ _ _
 iterate 3 exact .int_int _ _ _ _
 iterate 3 exact .int_str _ _ _ _
 iterate 3 exact .str_none _ _
 iterate 3 exact .str_bool _ _ _
 iterate 3 exact .str_int _ _ _ _
 iterate 3 exact .str_str _ _ _ _
def qe (M:A.units<cLine)(h1:jQ k s.heap a its)(p2:aG 0 d2=true)(i2:Is X.K H v2 d2)(O:aE v2 U):UW A s (.ref a) U false/\UW A s U (.ref a) false:=by
 cases i2<;>try (cases p2;done)
 all_goals (first|(cases O;done)|obtain⟨t,rfl⟩:=O)
 all_goals (cases k<;>refine⟨⟨?_,?_,?_⟩,?_,?_,?_⟩)
 iterate 3 exact .tuple_none h1 M
 iterate 3 exact .none_tuple h1 M
 iterate 3 exact .list_none h1 M
 iterate 3 exact .none_list h1 M
 iterate 3 exact .tuple_bool _ h1 M
 iterate 3 exact .bool_tuple _ h1 M
 iterate 3 exact .list_bool _ h1 M
 iterate 3 exact .bool_list _ h1 M
 iterate 3 exact .tuple_int _ _ h1 M
 iterate 3 exact .int_tuple _ _ h1 M
 iterate 3 exact .list_int _ _ h1 M
 iterate 3 exact .int_list _ _ h1 M
 iterate 3 exact .tuple_str _ _ h1 M
 iterate 3 exact .str_tuple _ _ h1 M
 iterate 3 exact .list_str _ _ h1 M
 iterate 3 exact .str_list _ _ h1 M
def OT (I:Inv X af σ H s):∀(n:Nat){A:Around}{i l:V}{d1 d2:D}{m o:Value},A.units+n<cLine->aG n d1=true->aG n d2=true->Is X.K H i d1->Is X.K H l d2->aE i m->aE l o->UW A s m o (iQ d1 d2):=by
 intro n;induction n with
 |zero=>exact λ_ d p2 i1 i2 c f=>y7 d p2 i1 i2 c f
 |succ n ih=>
  intro A i l d1 d2 m o hu d p2 i1 i2 c f;have M:A.units<cLine:=N9
  have q:∀ {i l:V}{d1 d2:D}{m o:Value},aG n d1=true->aG n d2=true->Is X.K H i d1->Is X.K H l d2->aE i m->aE l o->SeqAt.EqAt A.in1 s m o (iQ d1 d2):=λd p2 i1 i2 c f=>(ih (A:=A.in1) (by show A.units+1+n<cLine;lia) d p2 i1 i2 c f).2.1;have off:∀ {a b:D},aG 0 a=true->¬aG 0 b=true->iQ a b=false/\iQ b a=false:=λ{a b} h h'=>by
   cases a<;>try (cases h;done)
   all_goals (cases b<;>first|exact(h' rr).elim|exact⟨rfl,rfl⟩)
  by_cases f2:aG 0 d2=true
  .by_cases f1:aG 0 d1=true
   .exact y7 f1 f2 i1 i2 c f
   .rw[(off f2 f1).2];cases i1 with
    |tup h1=>
     cases c
     refine I.tupE h1 λits _ O _=>?_;exact(qe (k:=false) M O f2 i2 f).1
    |lst h1=>
     cases c
     refine I.lisE h1 λits _ O _=>?_;exact(qe (k:=true) M O.isList f2 i2 f).1
    |_=>simp at f1 d
  .by_cases f1:aG 0 d1=true
   .rw[(off f1 f2).1];cases i2 with
    |tup h1=>
     cases f
     refine I.tupE h1 λits _ O _=>?_;exact(qe (k:=false) M O f1 i1 c).2
    |lst h1=>
     cases f
     refine I.lisE h1 λits _ O _=>?_;exact(qe (k:=true) M O.isList f1 i1 c).2
    |_=>simp at f2 p2
   .cases i2 with
    |tup h2 k2=>
     cases f
     refine I.tupE h2 λr t g E=>?_;cases i1 with
     |tup h1 k1=>
      cases c
      refine I.tupE h1 λits U O v=>?_;rename_i w ws es z vs ds;have he:=y6 (A:=A.in1) (p:=aG n) q k1 k2 U t (by simpa using d) (by simpa using p2);have B:((List.range (min its.toArray.size r.toArray.size)).all (λj=>iQ (ds.getD j .non) (es.getD j .non)) && its.toArray.size == r.toArray.size)=iQ (.tup ds) (.tup es):=by
       show _=jP ds es;rw[vH,vH,<-U.length,<-t.length,k1.length,k2.length];by_cases hl:ds.length=es.length
       .rw[<-hl,Nat.min_self,beq_self_eq_true,Bool.and_true];exact jj _ hl λj x y C e2=>wM j x y C e2
       simp_all[wL]
      have rc:=SeqAt.RcAt.tuples O g M he;have u:=SeqAt.RcNeAt.tuples O g M he;rw[B]at rc u;exact Cw rc u λe=>by subst e;exact Cv I (n+1) (.tup h1 k1) (.tup h2 k2) d
     |lst h1 k1=>
      cases c
      refine I.lisE h1 λits U O v=>?_;refine⟨?_,?_,?_⟩<;>exact .list_tuple O.isList g M
     |_=>simp at f1 d
    |lst h2 k2=>
     cases f
     refine I.lisE h2 λr t g E=>?_;replace g:=g.isList;cases i1 with
     |lst h1 k1=>
      cases c
      refine I.lisE h1 λits U O v=>?_;replace O:=O.isList;rename_i w ws es z vs ds;have he:=y6 (A:=A.in1) (p:=aG n) q k1 k2 U t (by simpa using d) (by simpa using p2);have both:SeqAt.RcAt A s (.ref z) (.ref w) (iQ (.lst ds) (.lst es))/\SeqAt.RcNeAt A s (.ref z) (.ref w) (!iQ (.lst ds) (.lst es)):=by
       have hz:its.toArray.size=ds.length/\r.toArray.size=es.length:=by rw[vH,vH,<-U.length,<-t.length,k1.length,k2.length];simp
       by_cases hl:ds.length=es.length
       .have B:(List.range its.toArray.size).all (λj=>iQ (ds.getD j .non) (es.getD j .non))=iQ (.lst ds) (.lst es):=by
         show _=jP ds es;rw[hz.1];exact jj _ hl λj x y C e2=>wM j x y C e2
        have hs:=(hz.1.trans hl).trans hz.2.symm;have rc:=SeqAt.RcAt.lists O g hs M he;have u:=SeqAt.RcNeAt.lists O g hs M he;rw[B]at rc u;exact⟨rc,u⟩
       .have hs:(its.toArray.size != r.toArray.size)=true:=by simp_all
        rw[show iQ (.lst ds) (.lst es)=false from wL hl];exact⟨.lists_lengths O g hs M,.lists_lengths O g hs M⟩
      exact Cw both.1 both.2 λe=>by subst e;exact Cv I (n+1) (.lst h1 k1) (.lst h2 k2) d
     |tup h1 k1=>
      cases c
      refine I.tupE h1 λits U O v=>?_;refine⟨?_,?_,?_⟩<;>exact .tuple_list O g M
     |_=>simp at f1 d
    |_=>simp at f2 p2
@[simp] def kU:D->D->OB:=λx y=>if aG 40 x=true/\aG 40 y=true then some (.bl (iQ x y),false)else none
@[simp] def HM:D->D->OB:=λx y=>if aG 40 x=true/\aG 40 y=true then some (.bl (!iQ x y),false)else none
def ZB (hu:X.A.units+40<cLine):cJ X (compareOp .Eq) (rD X.K kU):=by
 intro af s σ H x y v u Q I O U q;refine eR q λB dx f d b M a c e q=>?_;unfold kU at e;split at e
 .rename_i hp;cases e
  exact(OT I 40 hu hp.1 hp.2 (a.mono M) (c.mono M) O U).1 _ _ _ _ ⟨.bl _,H,I,rr,q.one M (.bl _)⟩
 simp_all
def ZC (hu:X.A.units+40<cLine):cJ X (compareOp .NotEq) (rD X.K HM):=by
 intro af s σ H x y v u Q I O U q;refine eR q λB dx f d b M a c e q=>?_;unfold HM at e;split at e
 .rename_i hp;cases e
  exact(OT I 40 hu hp.1 hp.2 (a.mono M) (c.mono M) O U).2.2 _ _ _ _ ⟨.bl _,H,I,rr,q.one M (.bl _)⟩
 simp_all
end
section
variable {X:Cx}{a b e:Expr}{pos:Pos}
def Cy {K:Frag}{H:Hp}{vs:LV}{ds:LD}{i:Int}{d:D}(h:IsL K H vs ds)(e:lD ds i=some d):∃v,lD vs i=some v/\Is K H v d:=by
 unfold lD at e |-;rw[h.length];cases q:GI _ i with
 |none=>rw[q]at e;cases e
 |some j=>rw[q]at e;exact h.get e
@[simp] noncomputable def dM:D->D->OB
 |.lst ds,.int i=>(lD ds i).map λd=>(d,false)
 |.tup ds,.int i=>(lD ds i).map λd=>(d,false)
 |.str z,.int i=>if z.length<=sizeLine then (lD z.cps.toList i).map λc=>(.str ⟨#[c]⟩,false)else none
 |_,_=>none
def ZD:Qu X (rD X.K dM):=by
 intro U f af s σ H x y v u Q I g j q hs;refine eR q λB dx m d b M k l e q=>?_;cases k<;>try (cases e)
 all_goals (cases l<;>try (cases e))
 .simp only[dM]at e;split at e
  .rename_i hz;refine eB e λc O e2=>?_;cases e2
   exact AN _ _ _ s σ H _ _ v u Q I g j ⟨_,_,c,rr,rr,hz,O,q.one M (.str _)⟩ hs
  simp_all
 .rename_i h hl i;refine eB e λc O e2=>?_;cases e2
  obtain⟨w,h1,h2⟩:=Cy hl O;exact Hl _ _ _ s σ H _ _ v u Q I g j ⟨_,_,_,w,rr,rr,aS M h,h1,q.one M h2⟩ hs
 .rename_i h hl i;refine eB e λc O e2=>?_;cases e2
  obtain⟨w,h1,h2⟩:=Cy hl O;exact Mb _ _ _ s σ H _ _ v u Q I g j ⟨_,_,_,w,rr,rr,M.seq h,h1,q.one M h2⟩ hs
def UX (ha:JE X a fa)(hb:JE X b M)(hs:mF b):JE X (.Subscript a b pos) (f2 dM fa M):=PE.to (Hk ZD ha hb hs) λ_ _ _ h=>Mg h
abbrev FO:=Env->Option OI
def tDO (K:Frag)(f:FO):TO:=λσ H Q=>∃(B:Hp)(ρ:Env)(o:OI),aI B H/\eM K B σ ρ/\f ρ=some o/\∀H',aI H H'->Q o H'
abbrev JO (X:Cx)(e:Option Expr)(f:FO):Prop:=PO X e (tDO X.K f)
@[simp] def mP:FO:=λ_=>some none
@[simp] noncomputable def jA (f:FE):FO:=λρ=>match f ρ with|some (.int i,_)=>some (some i)|_=>none
def M2:JO X none mP:=λaf s σ H Q I h=>LX _ s σ H Q I (by
 obtain⟨B,ρ,o,M,r,e,q⟩:=h;cases e
 exact q H (.refl H))
def M3 (h:JE X e f):JO X (some e) (jA f):=λaf s σ H Q I q=>LY h _ s σ H Q I (by
 obtain⟨B,ρ,o,M,r,e,q⟩:=q;unfold jA at e;split at e
 .rename_i i b' O;cases e
  refine⟨B,ρ,_,_,M,r,O,λv U N1 c i1 _=>?_⟩;cases i1
  exact⟨i,rr,q U c.hh⟩
 simp_all)
def lS (ds:LD)(lo hi:OI):LD:=(ds.drop (HT.dq ds.length 0 lo)).take (HT.dq ds.length ds.length hi - HT.dq ds.length 0 lo)
def wN {K:Frag}{H:Hp}{vs:LV}{ds:LD}{lo hi:OI}(h:IsL K H vs ds):IsL K H (tF vs lo hi) (lS ds lo hi):=by
 unfold tF lS;rw[h.length];exact(h.drop _).take _
def b7.to (h:b7 X f r)(k:∀xs H Q,O xs H Q->r xs H Q):b7 X f O:=λaf s σ H xs us Q I M q=>h _ s σ H xs us Q I M (k xs H Q q)
variable {es:QD}{x:Str}{p:Pos}{id T:String}
def HN (hc:b7 X (.builtin id) (A6 X.K f))(hm:X.mg x=none)(hv:bootBuiltins x=some (.builtin id))(ha:JA X (e::es) fa)(U:Gl X x)(hn:x ≠ "__name__")(M:bf x)
  (he:cQ e es X.env) (O:j9 pos es X.env):JE X (.Call (.Name x p) (e::es) [] pos) (fA f fa):=PE.to (qC hc U hm hv ha hn M he O) λ_ _ _ h=>Mh h
def Fo (hc:b7 X (.type T) (A6 X.K f))(hm:X.mg x=none)(hv:bootBuiltins x=some (.type T))(ha:JA X (e::es) fa)(U:Gl X x)(hn:x ≠ "__name__")(M:bf x)
  (he:cQ e es X.env) (O:j9 pos es X.env):JE X (.Call (.Name x p) (e::es) [] pos) (fA f fa):=PE.to (oe hc U hm hv ha hn M he O) λ_ _ _ h=>Mh h
@[simp] noncomputable def jR:LD->OB
 |[.lst ds]=>some (.int ds.length,false)
 |[.tup ds]=>some (.int ds.length,false)
 |[.str z]=>if z.length<=sizeLine then some (.int z.length,false)else none
 |_=>none
def UY:b7 X (.builtin "len") (A6 X.K jR):=by
 refine b7.to (b7.or wy wz) λxs H Q q=>?_;refine eS q λB ds d b M i e q=>?_;cases i with
 |nil=>simp at e
 |cons i1 i2=>
  cases i2 with
  |cons _ _=>cases i1<;>simp at e
  |nil=>
   cases i1<;>try (simp at e;done)
   .simp only[jR]at e;split at e
    .rename_i hz;cases e
     exact .inr ⟨_,rr,hz,q.one M (.int _)⟩
    simp_all
   .rename_i h hl;cases e
    refine .inl ⟨_,_,rr,.inr (aS M h),?_⟩;rw[hl.length];exact q.one M (.int _)
   .rename_i h hl;cases e
    refine .inl ⟨_,_,rr,.inl (M.seq h),?_⟩;rw[hl.length];exact q.one M (.int _)
def UZ (hm:X.mg x=none)(hv:bootBuiltins x=some (.type n))(M:Gl X x)(hn:x ≠ "__name__")(hd:bf x):JE X (.Name x pos) (fC (.ty n)):=
 PE.to (LC M hm hv (v:=.ty n) rr hn hd) λ_ _ _ h=>Fm (λ_=>.ty n) h
end
def lU (M:dn k A):A.units+40<cLine:=by have:=M.un;lia
section
variable {X:Cx}{a b e:Expr}{pos:Pos}{x:Str}{p:Pos}
def HP (h:∃u v,X.mg x=some u/\aE v u/\∀B,Is X.K B v d)(M:Gl X x)(hd:bf x):JE X (.Name x pos) (fC d):=by
 obtain⟨u,v,hm,r,i⟩:=h;exact Ms M hm r i hd
@[simp] noncomputable def Va:D->D->OB
 |.int i,.int j=>some (.int (i+j),false)
 |.str i,.str j=>if i.length+j.length<=sizeLine then some (.str (i++j),false)else none
 |_,_=>none
def M4:cJ X (binaryOp .Add) (rD X.K Va):=by
 refine iB (oj UO QS) λx y H Q q=>?_;refine eR q λB dx M d b O U c e q=>?_;refine⟨B,dx,M,d,b,O,U,c,?_,q⟩;cases dx<;>try (cases e)
 all_goals (cases M<;>try (done))
 all_goals simp_all[Tw]
@[simp] def wO:D->D->OB:=UN
def QZ:cJ X (binaryOp .Mult) (rD X.K wO):=UQ
@[simp] def Y6:D->D->OB:=iLt
def Vb:cJ X (compareOp .Lt) (rD X.K Y6):=Z3
@[simp] noncomputable def L1:D->D->OB
 |.int i,.int j=>some (.bl (decide (i<=j)),false)
 |.str i,.str j=>some (.bl (!decide (j.cps.toList<i.cps.toList)),false)
 |_,_=>none
def Vc:cJ X (compareOp .LtE) (rD X.K L1):=by
 refine iB (oj Z4 UU) λx y H Q q=>?_;refine eR q λB dx M d b O U c e q=>?_;refine⟨B,dx,M,d,b,O,U,c,?_,q⟩;cases dx<;>try (cases e)
 all_goals (cases M<;>try (done))
 all_goals simp_all[Tw]
@[simp] noncomputable def Fp:D->OB
 |.int i=>some (.int (-i),false)
 |_=>none
def Vd:Ur X (unaryOp .USub) (Zw X.K Fp):=by
 intro af s σ H x v Q I M q;refine cX λG g=>?_;obtain⟨B,dx,d,b,O,U,e,q⟩:=q;apply g;cases U<;>try (simp at e;done)
 cases e
 exact Qo _ s σ H _ v Q I M ⟨_,rr,q.one O (.int _)⟩
@[simp] noncomputable def Fs:D->D->Option Bool
 |x,.non=>some (match x with|.non=>true|_=>false)
 |x,.bl b=>some (match x with|.bl a=>a == b|_=>false)
 |_,_=>none
@[simp] def Tz:D->D->OB:=λx y=>(Fs x y).map λb=>(.bl b,false)
@[simp] def qK:D->D->OB:=λx y=>(Fs x y).map λb=>(.bl (!b),false)
def Cz {K:Frag}{B:Hp}{x y:V}{v u:Value}{dx M:D}{k:Bool}(U:Is K B x dx)(f:Is K B y M)(O:aE x v)(g:aE y u)(e:Fs dx M=some k):plainIs v u=true/\(v == u)=k:=by
 cases f<;>(first|(cases e;done)|skip)
 all_goals (cases U)
 all_goals (first|(obtain⟨t,rfl⟩:=O)|cases O)
 all_goals (cases g)
 all_goals (cases e)
 all_goals (first|exact⟨rr,rr⟩|skip)
 all_goals (rename_i c d;cases c<;>cases d<;>exact⟨rr,rr⟩)
def ZE:cJ X (compareOp .Is) (rD X.K Tz):=by
 intro af s σ H x y v u Q I M O q;refine eR q λB dx g d b U c f e q=>?_;refine eB e λk ek e=>?_;cases e
 obtain⟨h1,h2⟩:=Cz c f M O ek;refine wpAny_is_plain h1 ⟨.bl k,H,I,by rw[h2];rfl,q.one U (.bl _)⟩
def M5:cJ X (compareOp .IsNot) (rD X.K qK):=by
 intro af s σ H x y v u Q I M O q;refine eR q λB dx g d b U c f e q=>?_;refine eB e λk ek e=>?_;cases e
 obtain⟨h1,h2⟩:=Cz c f M O ek;refine wpAny_isNot_plain h1 ⟨.bl _,H,I,by rw[h2];rfl,q.one U (.bl _)⟩
@[simp] noncomputable def iR:D->Bool
 |.non=>true|.bl _=>true|.int _=>true|.str _=>true
 |_=>false
def L3 (x:D)(ds:LD):Bool:=ds.any λy=>iQ y x
@[simp] noncomputable def fM:D->Option LD
 |.lst ds=>some ds
 |.tup ds=>some ds
 |_=>none
@[simp] def OU:D->D->OB:=λx y=>(fM y).bind λds=>if iR x=true/\ds.all iR=true then some (.bl (L3 x ds),false)else none
@[simp] def gz:D->D->OB:=λx y=>(fM y).bind λds=>if iR x=true/\ds.all iR=true then some (.bl (!L3 x ds),false)else none
def qL {K:Frag}{B:Hp}{v:V}{d:D}(i:Is K B v d)(h:iR d=true):lH v=true:=by
 cases i<;>first|rfl|(simp at h)
def ZF {K:Frag}{B:Hp}{v w:V}{d e:D}(i:Is K B v d)(j:Is K B w e)(h:iR d=true)(h':iR e=true):Md v w=iQ d e:=by
 cases i<;>(first|(simp at h)|skip)
 all_goals (cases j<;>(first|(done)|skip))
 all_goals rfl
theorem y8 {K:Frag}{B:Hp}:∀ {vs:LV}{ds:LD},IsL K B vs ds->ds.all iR=true->vs.all lH=true
 |_,_,.nil,_=>rr
 |_,_,.cons i t,h=>by
  rw[all_cons,vC]at h;rw[all_cons,qL i h.1,y8 t h.2];rfl
theorem HQ {K:Frag}{B:Hp}{v:V}{d:D}(j:Is K B v d)(hd:iR d=true):∀ {vs:LV}{ds:LD},IsL K B vs ds->ds.all iR=true->Y4 v vs=L3 d ds
 |_,_,.nil,_=>rr
 |_,_,.cons i t,h=>by
  rw[all_cons,vC]at h;have e:=HQ j hd t h.2;unfold Y4 L3 at *;rw[any_cons,any_cons,e,ZF i j h.1 hd]
def Ve:cJ X (compareOp .In) (rD X.K OU):=by
 refine iB Ff λx y H Q q=>?_;refine cX λG g=>?_;obtain⟨B,dx,c,d,b,M,O,U,e,q⟩:=q;refine eX e λds es e=>?_;apply g;clear g;split at e
 .rename_i hf;cases e
  cases U<;>simp [fM]at es<;>try (cases es;done)
  .rename_i h hl;cases es
   exact⟨_,_,rr,.inr (aS M h),qL O hf.1,y8 hl hf.2,by rw[HQ O hf.1 hl hf.2];exact q.one M (.bl _)⟩
  .rename_i h hl;cases es
   exact⟨_,_,rr,.inl (M.seq h),qL O hf.1,y8 hl hf.2,by rw[HQ O hf.1 hl hf.2];exact q.one M (.bl _)⟩
 simp_all
def HR:cJ X (compareOp .NotIn) (rD X.K gz):=by
 refine iB wx λx y H Q q=>?_;refine cX λG g=>?_;obtain⟨B,dx,c,d,b,M,O,U,e,q⟩:=q;refine eX e λds es e=>?_;apply g;clear g;split at e
 .rename_i hf;cases e
  cases U<;>simp [fM]at es<;>try (cases es;done)
  .rename_i h hl;cases es
   exact⟨_,_,rr,.inr (aS M h),qL O hf.1,y8 hl hf.2,by rw[HQ O hf.1 hl hf.2];exact q.one M (.bl _)⟩
  .rename_i h hl;cases es
   exact⟨_,_,rr,.inl (M.seq h),qL O hf.1,y8 hl hf.2,by rw[HQ O hf.1 hl hf.2];exact q.one M (.bl _)⟩
 simp_all
def OV:bootBuiltins "len" = some (.builtin "len"):=PySem.boot_len
def mQ:bootBuiltins "isinstance" = some (.builtin "isinstance"):=O9
def Vf:bootBuiltins "min" = some (.builtin "min"):=O9
def Vg:bootBuiltins "all" = some (.builtin "all"):=O9
def Vh:bootBuiltins "int" = some (.type "int"):=O9
def Ra:bootBuiltins "bool" = some (.type "bool"):=O9
def Vi:bootBuiltins "str" = some (.type "str"):=O9
def AZ:bootBuiltins "list" = some (.type "list"):=O9
def C0:bootBuiltins "tuple" = some (.type "tuple"):=O9
@[simp] noncomputable def Vj:LD->OB
 |[.int i,.int j]=>some (.int (if j<i then j else i),false)
 |_=>none
def HS {K:Frag}{B:Hp}{xs:LV}{i j:Int}(h:IsL K B xs [.int i,.int j]):xs=[.int i,.int j]:=by
 cases h with
 |cons h1 h2=>cases h1;cases h2 with|cons h3 h4=>cases h3;cases h4;rfl
def Vk (hc:X.calm=true):b7 X (.builtin "min") (A6 X.K Vj):=by
 refine b7.to (Fc hc) λxs H Q q=>?_;refine eS q λB ds d b M i e q=>?_;match ds,e with
 |[.int O,.int U],e=>cases e;exact⟨O,U,HS i,q.one M (.int _)⟩
@[simp] noncomputable def iC:D->String
 |.non=>"NoneType" | .bl _=>"bool" | .int _=>"int" | .str _=>"str" | .ty _=>"type" | .tup _=>"tuple" | .lst _=>"list" | .dk _ _=>"dict" | .dt _ _=>"dict"
@[simp] noncomputable def Ft:D->Bool
 |.ty _=>true
 |_=>false
@[simp] noncomputable def C1 (t n:String):OB:=
 if n = "int" then some (.bl (t == "int" || t == "bool"),false)else if n = "bool" then some (.bl (t == "bool"),false)else if n = "str" then some (.bl (t == "str"),false)
 else if n = "list" then some (.bl (t == "list"),false)else if n = "tuple" then some (.bl (t == "tuple"),false)else none
@[simp] def pv:LD->OB
 |[d,.ty n]=>if Ft d=true then none else C1 (iC d) n
 |_=>none
def M6 {af:AO}{σ:St}{H:Hp}{s:Shared}{A:Around}{E:QV}{Q:QV}{c:Value}{b:Bool}{v:V}{d:D}{u:Value}(I:Inv X af σ H s)(i:Is X.K H v d)(hd:∀n,d≠.ty n)(M:aE v u)(e:PySem.W.kitOne X.K (.type (iC d)) c=some b)(h:∀tk,Q (.bool b) { s with toks:=tk }):
  wpAny (model X.prog X.w) A (call (.builtin "isinstance") [u,c]) Q E s:=by
 cases i with
 |non=>exact fZ I M .non e h
 |bl y=>exact fZ I M (.bl y) e h
 |int y=>exact fZ I M (.int y) e h
 |str y=>exact fZ I M (.str y) e h
 |ty n=>exact absurd rr (hd n)
 |dk h1 _ _=>exact fZ I M (.dK h1) e h
 |dt h1 _ _=>exact fZ I M (.dT h1) e h
 |tup O _=>
  cases M
  obtain⟨its,_,⟨o,h1,h2,_⟩,_⟩:=I.tuple O;exact kia_one PySem.W.kitx_tuple I.kIn ⟨o,h1,h2⟩ e (λz=>nomatch z) h
 |lst hl _=>
  cases M
  refine cX λG g=>?_;obtain⟨its,_,⟨o,n,h1,h2,_⟩,_⟩:=I.list hl;apply g;exact kia_one PySem.W.kitx_list I.kIn ⟨o,h1,h2⟩ e (λz=>nomatch z) h
def HU (K:Frag)(d:D)(hd:∀n,d≠.ty n):
  PySem.W.kitOne K (.type (iC d)) (.type "int")=some (iC d == "int" || iC d == "bool")/\PySem.W.kitOne K (.type (iC d)) (.type "bool")=some (iC d == "bool")/\PySem.W.kitOne K (.type (iC d)) (.type "str")=some (iC d == "str") /\
   PySem.W.kitOne K (.type (iC d)) (.type "list")=some (iC d == "list")/\PySem.W.kitOne K (.type (iC d)) (.type "tuple")=some (iC d == "tuple"):=by
 cases d<;>(first|exact absurd _ _|skip)
 all_goals (refine⟨?_,?_,?_,?_,?_⟩<;>kernel_rfl)
def wP:b7 X (.builtin "isinstance") (A6 X.K pv):=by
 intro af s σ H xs us Q I O q;refine eS q λB ds d b M i e q=>?_;cases i with
 |nil=>cases e
 |cons i1 i=>cases i with
 |nil=>cases e
 |cons i2 i=>
  cases i2<;>try (cases e)
  cases i<;>try (cases e)
  rename_i dx n;obtain⟨g,h,rfl,U,c⟩:=He O;cases c
  simp only[pv]at e;split at e
  .cases e
  .rename_i f;have hd:∀n,dx≠.ty n:=λn z=>by subst z;exact f rr
   obtain⟨k1,k2,k3,k4,k5⟩:=HU X.K dx hd;have dX:∀ {k:Bool},PySem.W.kitOne _ _ (.type n)=some k->Fin X.K B H _ _ Q->wpAny _ X.A _ (EP X _ σ Q) X.xe s:=λ{k} hk q=>
    M6 I (i1.mono M) hd U hk λtk=>⟨.bl k,H,I.tok tk,rr,q.one M (.bl k)⟩
   unfold C1 at e;grind
@[simp] def HV (f:FE):FA:=λρ=>(f ρ).bind λx=>fM x.1
def C2 (h:JE X e f):JI X tg e (HV f):=by
 intro af s σ H R I q;refine cX λG K=>?_;obtain⟨B,ρ,ds,g,r,j,q⟩:=q;refine eX j λx ex es=>?_;obtain⟨xd,l⟩:=x;apply K;cases xd<;>simp [fM]at es<;>try (cases es;done)
 .cases es
  refine Qe h _ s σ H R I ⟨B,ρ,_,_,g,r,ex,λv c N1 U i1 _=>?_⟩;cases i1 with
  |@tup a vs _ O hl=>
   refine⟨a,rr,⟨vs,aS U.nh O⟩,q _ c N1 U λi H2 s2=>⟨λd ed=>?_,λM=>⟨vs,aS s2 O,by rw[hl.length];exact M⟩⟩⟩;obtain⟨v,ev,iv⟩:=hl.get ed;refine⟨⟨vs,v,aS s2 O,ev⟩,λy k hy=>?_⟩;obtain⟨rfl,hy⟩:=hy;have:=hy vs (aS s2 O);rw[ev]at this;cases this;exact⟨N1,.refl s2,iv⟩
 .cases es
  refine LJ h _ s σ H R I ⟨B,ρ,_,_,g,r,ex,λv c N1 U i1 _=>?_⟩;cases i1 with
  |@lst a vs _ O hl=>
   refine⟨a,rr,⟨vs,U.nh.seq O⟩,q _ c N1 U λi H2 s2=>⟨λd ed=>?_,λM=>⟨vs,s2.seq O,by rw[hl.length];exact M⟩⟩⟩;obtain⟨v,ev,iv⟩:=hl.get ed;refine⟨⟨vs,v,s2.seq O,ev⟩,λy k hy=>?_⟩;obtain⟨rfl,hy⟩:=hy;have:=hy vs (s2.seq O);rw[ev]at this;cases this;exact⟨N1,.refl s2,iv⟩
noncomputable def cS (lo:Int)(n:Nat):LD:=(List.range n).map λ(k:Nat)=>.int (lo+(k:Int))
def HW {K:Frag}{B:Hp}(lo:Int)(n:Nat):mL K (Y2 lo n) B (cS lo n):=by
 intro i H s;unfold cS;refine⟨λd ed=>?_,λhl=>by rw[vI,length_range]at hl;exact hl⟩;rw[vA]at ed;refine eB ed λk ek ed=>?_;have hk:=vV ek;obtain⟨M,hk⟩:=hk;rw[length_range]at M;rw[getElem_range]at hk;subst hk;subst ed;refine⟨M,λx H' hy=>?_⟩;obtain⟨rfl,rfl⟩:=hy;exact⟨B,.refl s,.int _⟩
@[simp] def lV (f:FE):FA:=λρ=>match f ρ with
 |some (.int j,_)=>if -1000<=j/\j<=1000 then some (cS 0 j.toNat)else none
 |_=>none
def y9 (hm:X.mg "range" = none)(h:JE X a f)(O:Gl X "range":=by rfl)(hs:cL a X.env:=by rfl):PI X tg (.Call (.Name "range" p) [a] [] pos) (UG X.K (lV f)):=by
 refine PI.to (EZ O hm (fU h lR hs) hs) λσ H R q=>?_;obtain⟨B,ρ,ds,U,r,M,q⟩:=q;unfold lV at M;split at M
 .rename_i j b' c;split at M
  .cases M
   refine⟨B,ρ,[.int j],U,r,by simp[c],λvs d N1 g i1=>?_⟩;cases i1 with
   |cons i1 i2=>
    cases i1;cases i2
    exact⟨j,rr,N9,N9,q _ d N1 g λ_=>HW 0 _⟩
  simp_all
 simp_all
def HX (hm:X.mg "range" = none)(h:JE X a f)(M:Gl X "range")(hs:cL a X.env):JI X tg (.Call (.Name "range" p) [a] [] pos) (lV f):=
 PI.to (y9 hm h M hs) λσ H R ⟨B,ρ,ds,O,r,U,q⟩=>⟨B,ρ,ds,O,r,U,λJ H' N x h=>q J H' N x (h _)⟩
end
def bL (K:Frag)(x:Str)(st:Stmt):Prop:=∃(f:Addr)(fd:FuncData),SQ K x x st f fd/\nsIn K mainGlobals x=some (some (.ref f))
def def_mk {K:Frag}{x:Str}{st:Stmt}{f:Addr}{oc:Value}{od an:Option Addr}{l7:Array (Option Value)}{kV doc pm c9 ct:Value}(a:nsIn K mainGlobals x=some (some (.ref f)))
  (l:K.lookup f=some ⟨oc,od,.func (fnOf x x (df st) (bq st) (a9 st) .none kV doc pm an c9 ct),l7⟩) (c:PySem.W.codeIn K c9 x=true) (k:PySem.W.keepIn K (.ref f)=true):bL K x st:=⟨f,_,Qy l c k,a⟩
section
variable {P:Program}{w:World}{K:Frag}{mg:SV}{base:Heap}
end
def Vl (H:Hp):Prop:=∀b,H b=none\/(∃o xs,H b=some (.frz o (.lst xs)))\/∃q,H b=some (.tbl q)
noncomputable def qM (M:List (Addr×Str))(G:Hp):Hp:=λb=>match M.lookup b with|some q=>some (.tbl q)|none=>G b
def f8 (e:M.lookup b=some q):qM M G b=some (.tbl q):=by unfold qM;rw[e]
def iS (e:M.lookup b=none):qM M G b=G b:=by unfold qM;rw[e]
def Fu {P:Program}{w:World}{K:Frag}{mg mb:SV}{k:Nat}{fa a:Addr}{fd:FuncData}{x:Str}{sp:Sp}{M:Shared}{vs:LU}{ns:LI}(O:List (Addr×Str))
  (N:∀b q,O.lookup b=some q->M.heap.get? b=some (PySem.W.tabObj #[])/\isCodeTable M.heap b) (t:PySem.W.noTabs K=true)
  (y:K.In M.heap) (D:M.heap.Ns mainGlobals mg) (hb:M.heap.Ns builtinsNs mb) (A:∀x:Str,x ≠ "__name__"->mb x=bootBuiltins x) (B:M.heap.NoLimit)
  (Q:∃bm ob,mg "__builtins__" = some (.ref bm)/\bm≠builtinsNs/\M.heap.get? bm=some ob/\ob.cls=.type "module"/\ob.dict=some builtinsNs/\ob.data=.plain) (R:M.gens=#[])
  (ha:M.heap.get? a=some { cls:=.type "list",data:=.seq vs.toArray }) (hi:IntsAre vs ns) (hl:ns.length<=sizeLine) (S:dn k callerA)
  (F:∀base:Heap,K.In base->base.Ns mainGlobals mg->t8 P w K mg base yo k fa fd [x] sp) (T:∀(s:Shared)(u:Value),BindsTo s fd ⟨[u],[]⟩ [(x,u)])
  (X:∀H:Hp,(∀b q,O.lookup b=some q->H b=some (.tbl q))->eN K H a (ns.map V.int)->sp [.ref a] H (λv _=>v=.bl true) λ_ _ _=>False):
  codeAny (model P w) callerA (.call (.ref fa) ⟨[.ref a],[]⟩) (λr s'=>r=.ok (.ret (.bool true))/\OldK M.heap s'.heap/\s'.os=M.os/\AllBare s'.gens) M:=by
 have E:=L2.ga hi;have Y:=hi.length;have I:∀H:Hp,Vl H->(∀b q,O.lookup b=some q->H b=some (.tbl q))->eN K H a (ns.map V.int)->l8 P w H M.heap->(∀b q,H b=some (.tbl q)->M.heap.get? b=some (PySem.W.tabObj #[])/\isCodeTable M.heap b) ->
   (∀b o u,H b=some (.frz o u)->b=a)->(∀b o u,H b=some (.frz o u)->K.lookup b=none) ->
   codeAny (model P w) callerA (.call (.ref fa) ⟨[.ref a],[]⟩) (λr s'=>r=.ok (.ret (.bool true))/\OldK M.heap s'.heap/\s'.os=M.os/\AllBare s'.gens) M:=by
  intro H j Z hS hok J hB hK;have noA:∀ {b:Addr}{o:Obj},M.heap.get? b=some o->(o.cls≠.none)->(o.cls≠.type "list")->H b=none:=λ{b o} e d d'=>by
   rcases j b with q|⟨ob,xs,q⟩|⟨u,q⟩
   .exact q
   .grind
   simp_all<;>lia
  have C:∀ {b:Addr}{o:Obj}{es:Array DictEntry}{l:Nat},M.heap.get? b=some o->o.data=.dict es l->H b=none:=λ{b o es l} e d=>by
   rcases j b with q|⟨ob,xs,q⟩|⟨u,q⟩
   .exact q
   .grind
   grind
  have p:∀ {b:Addr}{m:SV},M.heap.Ns b m->(yi M.heap H).Ns b m:=λ{b m} ⟨o,es,l,e,d,r⟩=>⟨o,es,l,qz e (C e d),d,r⟩;have f:K.In (yi M.heap H):=λb o e=>qz (y b o e) (by
   rcases j b with q|⟨ob,xs,q⟩|⟨u,q⟩
   .exact q
   .rw[hK b _ _ q]at e;cases e
   .have z:=(J b u q).1;rw[y b o e]at z;cases z
    have:=all_eq_true.mp t _ (PySem.W.mem_of_lookupK e);simp at this)
  have hM:Mod K mg (yi M.heap H):=⟨f,p D,⟨mb,p hb,A⟩,let ⟨mc,h1,h2⟩:=B;⟨mc,p h1,h2⟩,by
   grind[qz]⟩
  have e0:Env0 P w K mg (yi M.heap H) callerA [] M H:=⟨rr,hM,λb o e=>LA e,le_of_eq (EX _ _),trivial,λb hb=>absurd (show b∈([]:List Addr)from hb) H9,hok,.of_eq R⟩;refine codeAny_mono ((F _ f (p D)).run callerA [] M H ⟨[.ref a],[]⟩ [.ref a] [.ref a] _ _ S e0 (T M (.ref a)) (.cons rr .nil) (X H Z hS)) λr s' h=>?_;cases r with
  |error e=>exact False.elim h
  |ok fl=>
   cases fl with
   |next=>exact False.elim h
   |brk=>exact False.elim h
   |cont=>exact False.elim h
   |ret u=>
    obtain⟨v,H',os,bare,un,L,r',q⟩:=h;have g:v=.bl true:=q;subst g;obtain rfl:u=Value.bool true:=r';have kp:=λb o n e=>un.keep b o e n (by intro z;exact absurd (show b∈([]:List Addr)from z) H9) H9;refine⟨rr,⟨λb o e=>?_,λb o e=>un.there b o e H9⟩,os,bare⟩;rcases j b with z|⟨ob,xs,z⟩|⟨u,z⟩
    .exact .inl (kp b o z e)
    .have z2:=un.frzs b ob _ z;obtain⟨i,_⟩:=hok b _ z;obtain⟨e2,_⟩:=L b _ z2;rw[e]at i;cases i;exact .inl e2
    .obtain⟨i,e2⟩:=J b u z;rw[e]at i;cases i;obtain⟨ps,e3,_⟩:=L b _ (un.tbls b u z);exact .inr (.inl ⟨e2,rr,#[],ps,rr,by simpa using e3⟩)
 have SS:∀q,O.lookup a≠some q:=λq z=>by
  simp_all
 have ta:O.lookup a=none:=by
  cases z:O.lookup a with
  |none=>rfl
  |some q=>exact absurd z (SS q)
 have ach:∀(G:Hp) b q,O.lookup b=some q->bg P w (qM O G) M.heap b (.tbl q):=λG b q z=>⟨#[],(N b q z).1,trivial,λpos cv c=>by cases c⟩;cases hk:K.lookup a with
 |some o=>
  have e:=y a o hk;rw[ha]at e;cases e
  refine I (qM O λ_=>none) (λb=>?_) (λb q z=>f8 z) (.inr ⟨_,vs.toArray,_,hk,rr,rr,rr,by simp_all,by simpa using E⟩) (λb u z=>?_) (λb q z=>?_) (λb o u z=>?_) λb o u z=>?_
  all_goals cases U:O.lookup b with
   |none=>first|exact .inl (iS U)|(rw[iS U]at z;cases z)
   |some g=>first|exact .inr (.inr ⟨g,f8 U⟩)|(rw[f8 U]at z;cases z;done)|(rw[f8 U]at z;grind)
 |none=>
  refine I (qM O λb=>if b=a then some _ else none) (λb=>?_) (λb q z=>f8 z) (.inl (.inr ⟨{ cls:=.type "list",data:=.seq vs.toArray },by rw[iS ta,if_pos rr]⟩)) (λb u z=>?_) (λb q z=>?_) (λb o u z=>?_) λb o u z=>?_
  all_goals cases U:O.lookup b with
   |some g=>first|exact .inr (.inr ⟨g,f8 U⟩)|(rw[f8 U]at z;cases z;done)|(rw[f8 U]at z;grind)
   |none=>
    first
    |rw[iS U]at z
    |rw[iS U]
    by_cases hb:b=a
    .first
     |rw[if_pos hb]at z
     |rw[if_pos hb]
     first
     |exact .inr (.inl ⟨_,_,rr⟩)
     | (cases z;subst hb;exact⟨ha,by rw[vI];exact hl,vs,_,E,ha⟩)
     |exact hb
     | (rw[hb];exact hk)
     |cases z
    .simp_all
noncomputable def wQ (L:List (Str×Option (Addr×Addr))):List (Addr×Str):=L.filterMap λp=>p.2.map λq=>(q.2,tI p.1)
structure qy (K:Frag)(L:List (Str×Option (Addr×Addr))):Prop where
 names:L=jM.map λx=>(x,PySem.W.tabIn K x)
 apart:((wQ L).map (·.1)).Nodup
 none:PySem.W.noTabs K=true
theorem lI {α M:Type}[BEq α][LawfulBEq α]:∀ {l:List (α×M)}{a:α}{b:M},(l.map (·.1)).Nodup->(a,b)∈l->l.lookup a=some b
 | (c,d)::l,a,b,nd,h=>by
  rw[lookup_cons];rcases vP h with e|h
  .cases e;simp
  .have ne:a≠c:=λz=>(nodup_cons.mp nd).1 (by grind);rw[show(a == c)=false by simpa using ne];exact lI (nodup_cons.mp nd).2 h
theorem jS {α M:Type}[BEq α][LawfulBEq α]:∀ {l:List (α×M)}{a:α}{b:M},l.lookup a=some b->(a,b)∈l
 | (c,d)::l,a,b,h=>by
  rw[lookup_cons]at h;cases e:a == c with
  |true=>simp_all
  |false=>rw[e]at h;exact mZ _ (jS h)
def qy.tb {K:Frag}{L:List (Str×Option (Addr×Addr))}(F:qy K L){H:Hp}(h:∀b q,(wQ L).lookup b=some q->H b=some (.tbl q)):Tb K H:=λx hx c P e=>by
 refine h P _ (lI F.apart ?_);rw[F.names];exact mem_filterMap.mpr ⟨(x,PySem.W.tabIn K x),uS ⟨x,hx,rr⟩,by rw[e];rfl⟩
def tab_yes {K:Frag}{x:Str}{f c P:Addr}{oc O:Value}{od U:Option Addr}{l7 M:Array (Option Value)}{fd:FuncData}{vs:AV}(a:nsIn K mainGlobals x=some (some (.ref f)))(e2:K.lookup f=some ⟨oc,od,.func fd,l7⟩)(b:fd.code=.ref c)
  (d:K.lookup c=some ⟨O,U,.fields vs,M⟩) (e:vs[11]? = some (.ref P)):PySem.W.tabIn K x=some (c,P):=by simp_all[PySem.W.tabIn]
def tabs_fit {K:Frag}{M O U a b:Option (Addr×Addr)}(h0:PySem.W.tabIn K "in_order" = M)(h1:PySem.W.tabIn K "has_seal" = O)(h2:PySem.W.tabIn K "is_first_death" = U)(h3:PySem.W.tabIn K "bases_by" = a)(h4:PySem.W.tabIn K "as_heard" = b)
  (ap:((wQ [("in_order",M),("has_seal",O),("is_first_death",U),("bases_by",a),("as_heard",b)]).map (·.1)).Nodup) (nt:PySem.W.noTabs K=true):qy K [("in_order",M),("has_seal",O),("is_first_death",U),("bases_by",a),("as_heard",b)]:=
 ⟨by subst h0;subst h1;subst h2;subst h3;subst h4;rfl,ap,nt⟩
def bL.law {P:Program}{w:World}{K:Frag}{mg:SV}{x y:Str}{st:Stmt}{N:LS}{k:Nat}{g:FS}{h:Heap}{fa:Addr}(F:bL K x st)(X:K.In h)(G:h.Ns mainGlobals mg)(M:mg x=some (.ref fa))(S:FnScope N [y] (a9 st))
  (O:∀(kV doc pm:Value)(an:Option Addr)(c9 ct:Value)(u:Value),bindArgs (fnOf x x (df st) (bq st) (a9 st) .none kV doc pm an c9 ct) ⟨[u],[]⟩=pure [(y,u)])
  (hb:∀(base:Heap),K.In base->base.Ns mainGlobals mg->∀(f:Addr)(c9:Value)(A:Around)(outer:List PySem.Env)(s:Shared)(H:Hp)(E:XK),dn k (A.deeper (envOfC x (a9 st) s.z f c9))->yf (pP yo P w K mg base N x (a9 st) f c9 A outer s H E).nox (bq st) g):
  ∃fd:FuncData,(∀(s:Shared)(u:Value),BindsTo s fd ⟨[u],[]⟩ [(y,u)])/\∀base:Heap,K.In base->base.Ns mainGlobals mg->t8 P w K mg base yo (k+1) fa fd [y] (HL K (ax g 1 (N.length - 1))):=by
 obtain⟨f,fd,U,a⟩:=F;have e:=M.symm.trans (mg_of X G a);cases e
 refine⟨fd,λs u=>?_,λbase b c=>Z9 U S (hb _ b c _)⟩;obtain⟨oc,od,kV,doc,pm,an,c9,ct,l7,rfl,d,i⟩:=U.ex;exact .of_eq (O kV _ pm an _ ct u)
section
variable {X:Cx}{a b e:Expr}{pos:Pos}{x:Str}{p:Pos}
@[simp] noncomputable def Vm:D->D->OB
 |.lst xs,.lst ys=>if xs.length+ys.length<=sizeLine then some (.lst (xs++ys),true)else none
 |_,_=>none
def Rb:cJ X (binaryOp .Add) (rD X.K Vm):=by
 intro af s σ H x y v u Q I n r q;refine eR q λB dx E d bb c t w U q=>?_;cases t<;>try (cases U;done)
 all_goals (cases w<;>try (cases U;done))
 rename_i l vs ds h hl z ws es h' O;simp only[Vm]at U;split at U
 .rename_i hz;cases U
  cases n
  cases r
  refine cX λW Y=>?_;refine I.lisE (c.seq h) λits f A G=>?_;refine I.lisE (c.seq h') λM g p2 J=>?_;obtain⟨⟨L,d1,N,s1⟩,i,C,n1,k1⟩:=A.isList;obtain⟨⟨c2,d2,P,s2⟩,j,e2,n2,k2⟩:=p2.isList;apply Y;clear Y;subst C;subst k1;subst e2;subst k2;have hsz:its.toArray.size+M.toArray.size<=sizeLine:=by
   rw[vH,vH,<-f.length,<-g.length,hl.length,O.length];exact hz
  have D:its.toArray++M.toArray=(its++M).toArray:=H9
  refine concat_meets ⟨_,i,rr⟩ ⟨_,j,rr⟩ noFill_list_add seq_list_add PySem.F.slot_list_add PySem.F.entry_list_add (PySem.F.args_list_add_2 _ _) (list_addW l z its.toArray M.toArray n1 n2 d1 d2 s1 s2 hsz) ⟨i,j,?_⟩;rw[D];have k:=Ext.laid (o:=.lst (vs++ws)) c I.fresh;have m:=(hl.append O).mono k.bn;exact⟨.ref _,_,I.lnew (f.append g) (by rw[uZ,hl.length,O.length];exact hz),rr,q _ _ _ k (.lst (eN.of au) m) λ_=>⟨_,_,_,rr,rr,I.fresh,au,m⟩⟩
 simp_all
@[simp] noncomputable def Ba:D->D->OB
 |.tup xs,.tup ys=>if xs.length+ys.length<=sizeLine/\xs.isEmpty=false then some (.tup (xs++ys),false)else none
 |_,_=>none
def HY:cJ X (binaryOp .Add) (rD X.K Ba):=by
 refine iB LZ λx y H Q q=>?_;refine eR q λB dx j d bb U f g O q=>?_;cases f<;>try (cases O)
 all_goals (cases g<;>try (cases O))
 rename_i l vs ds h hl i ws es h' M;simp only[Ba]at O;split at O
 .cases O
  have l1:=hl.length;have l2:=M.length;refine⟨l,i,vs,ws,rr,rr,aS U h,aS U h',λz=>?_,N9,λz=>?_,λ_ pp hp=>?_⟩
  .grind
  .subst z;cases M
   rw[uQ]at q;exact q.one U (.tup h hl)
  .have c:=Ext.laid (o:=.tup (vs++ws)) U hp;exact q _ _ _ c (.tup (hV.of au) ((hl.append M).mono c.bn)) H9
 simp_all
@[simp] noncomputable def ZG:D->D->OB
 |.bl i,.int j=>some (.int ((if i=true then 1 else 0)+j),false)
 |.int i,.bl j=>some (.int (i+b2i j),false)
 |_,_=>none
def Rc:cJ X (binaryOp .Add) (rD X.K ZG):=by
 intro af s σ H x y v u Q I O U q;refine eR q λB dx h d bb c f g M q=>?_;cases f<;>try (cases M)
 all_goals (cases g<;>try (cases M;done))
 .cases M
  cases O
  obtain⟨t,rfl⟩:=U;exact IntBool.add_bool_int ⟨.int _,H,I.tok _,⟨_,rr⟩,q.one c (.int _)⟩
 .cases M
  exact Fb _ s σ H _ _ v u Q I O U ⟨_,_,rr,rr,q.one c (.int _)⟩
noncomputable def iD:D->D->OB
 |.int i,.int j=>some (.int (i+j),false)
 |.str i,.str j=>if i.length+j.length<=sizeLine then some (.str (i++j),false)else none
 |.lst xs,.lst ys=>if xs.length+ys.length<=sizeLine then some (.lst (xs++ys),true)else none
 |.tup xs,.tup ys=>if xs.length+ys.length<=sizeLine/\xs.isEmpty=false then some (.tup (xs++ys),false)else none
 |.bl i,.int j=>some (.int ((if i=true then 1 else 0)+j),false)
 |.int i,.bl j=>some (.int (i+b2i j),false)
 |_,_=>none
@[simp] def zz0 (i j:Int):iD (.int i) (.int j)=some (.int (i+j),false):=rfl
@[simp] def zz1 (i j:Str):iD (.str i) (.str j)=if i.length+j.length<=sizeLine then some (.str (i++j),false)else none:=rfl
@[simp] def zz2 (i j:LD):iD (.lst i) (.lst j)=if i.length+j.length<=sizeLine then some (.lst (i++j),true)else none:=rfl
@[simp] def zz3 (i j:LD):iD (.tup i) (.tup j)=if i.length+j.length<=sizeLine/\i.isEmpty=false then some (.tup (i++j),false)else none:=rfl
@[simp] def zz4 (i:Bool)(j:Int):iD (.bl i) (.int j)=some (.int ((if i=true then 1 else 0)+j),false):=rfl
@[simp] def zz5 (i:Int)(j:Bool):iD (.int i) (.bl j)=some (.int (i+b2i j),false):=rfl
def Re:cJ X (binaryOp .Add) (rD X.K iD):=by
 refine iB (oj M4 (oj Rb (oj HY Rc))) λx y H Q q=>?_;refine eR q λB dx M d bb O U c f q=>?_;refine⟨B,dx,M,d,bb,O,U,c,?_,q⟩;cases dx<;>try (cases f)
 all_goals (cases M<;>try (cases f;done))
 all_goals simp_all[Tw]
@[simp] noncomputable def ZH:D->Option Bool
 |.bl b=>some b
 |_=>none
def wR:LD->Option (List Bool)
 |[]=>some []
 |d::ds=>(ZH d).bind λb=>(wR ds).map (b :: ·)
@[simp] def Vn:wR []=some []:=rfl
@[simp] def T1 (d:D)(ds:LD):wR (d::ds)=(ZH d).bind λb=>(wR ds).map (b :: ·):=rfl
theorem wS {K:Frag}{B:Hp}:∀ {vs:LV}{ds:LD}{bs:List Bool}{its:LU},L2.aL vs its->IsL K B vs ds->wR ds=some bs->its=bs.map Value.bool
 |_,_,_,_,.nil,.nil,e=>by cases e;rfl
 |_,_,_,_,.cons r O,.cons i U,e=>by
  refine eX e λb M e=>?_;refine eB e λbs e2 e=>?_;subst e;cases i<;>simp [ZH]at M<;>try (cases M;done)
  cases M
  cases r
  rw[wS O U e2];rfl
@[simp] def Vo:LD->OB
 |[.lst ds]=>(wR ds).map λbs=>(.bl (bs.all id),false)
 |_=>none
@[simp] def Rf:LD->OB
 |[.lst ds]=>(wR ds).map λbs=>(.bl (bs.any id),false)
 |_=>none
def Vp (hc:X.calm=true):b7 X (.builtin "all") (A6 X.K Vo):=by
 intro af s σ H xs us Q I m q;refine eS q λB ds d bb k i M q=>?_;cases i with
 |nil=>cases M
 |cons i1 i=>
  cases i with
  |cons _ _=>cases i1<;>cases M
  |nil=>
   cases i1<;>try (cases M;done)
   rename_i l vs es h hl;refine eB M λbs n M=>?_;cases M
   obtain⟨C,rfl,r⟩:=gh m;cases r
   refine I.lisE (k.seq h) λits t f D=>?_;have ei:=wS t hl n;have u:l<s.z:=by obtain⟨_,O,_⟩:=f.isList;exact vX O
   refine call_all_walk (wpAny_pyIter_list f.isList ⟨_,_,_,_,_,_,λj=>(bs[j]?).getD true,rr,Walks.list (A:=X.A.in1) (I.ok.hd hc) _ l (vS u) _,⟨⟨_,vY _ rr,rr,rr⟩,f.isList.push _⟩,λj v s' E F w g=>?_,λh' tk hk=>?_⟩)
   .have U:=by simpa using w
    rw[ei,vA]at U;refine eB U λc y e2=>?_;subst e2;dsimp only at g;rw[y]at g;exact wpAny_truthy_bool g
   .have z:((List.range its.toArray.size).all λj=>(bs[j]?).getD true)=bs.all id:=by
     simp_all[LSm.range_all]
    rw[z];refine⟨.bl _,H,I.kept λc o O=>?_,rr,q.one k (.bl _)⟩;exact hk c o (λhm=>by rw[uT hm]at O;exact Nat.lt_irrefl _ (vX O)) (vZ _ O)
def Vq (hc:X.calm=true):b7 X (.builtin "any") (A6 X.K Rf):=by
 intro af s σ H xs us Q I m q;refine eS q λB ds d bb k i M q=>?_;cases i with
 |nil=>cases M
 |cons i1 i=>
  cases i with
  |cons _ _=>cases i1<;>cases M
  |nil=>
   cases i1<;>try (cases M;done)
   rename_i l vs es h hl;refine eB M λbs n M=>?_;cases M
   obtain⟨C,rfl,r⟩:=gh m;cases r
   refine I.lisE (k.seq h) λits t f D=>?_;have ei:=wS t hl n;have u:l<s.z:=by obtain⟨_,O,_⟩:=f.isList;exact vX O
   refine call_any_walk (wpAny_pyIter_list f.isList ⟨_,_,_,_,_,_,λj=>(bs[j]?).getD false,rr,Walks.list (A:=X.A.in1) (I.ok.hd hc) _ l (vS u) _,⟨⟨_,vY _ rr,rr,rr⟩,f.isList.push _⟩,λj v s' E F w g=>?_,λh' tk hk=>?_⟩)
   .have U:=by simpa using w
    rw[ei,vA]at U;refine eB U λc y e2=>?_;subst e2;dsimp only at g;rw[y]at g;exact wpAny_truthy_bool g
   .have z:((List.range its.toArray.size).any λj=>(bs[j]?).getD false)=bs.any id:=by
     simp_all[LSm.range_any]
    rw[z];refine⟨.bl _,H,I.kept λc o O=>?_,rr,q.one k (.bl _)⟩;exact hk c o (λhm=>by rw[uT hm]at O;exact Nat.lt_irrefl _ (vX O)) (vZ _ O)
def Vr:bootBuiltins "any" = some (.builtin "any"):=O9
end
noncomputable def Y7 (z:Str):It:=⟨λi _=>i<z.cps.size,λi H v H'=>H'=H/\∃c,z.cps[i]? = some c/\v=.str ⟨#[c]⟩,λi _=>z.cps.size<=i⟩
def yA {P:Program}{w:World}{K:Frag}{tg:Expr}(z:Str)(t:Tok)(it:Addr):Turn P w K tg (Y7 z) [it] it (λi h=>h.IsStrIter it "str_ascii_iterator" z t i) where
 mem:=mem_singleton.mpr rr
 obj:=λi h st b hb=>by
  have g:=uT hb;obtain⟨o,O,_,d1⟩:=st;simp_all
 keep:=λi h h' st k=>let ⟨o,O,r⟩:=st;⟨o,k it (mem_singleton.mpr rr) o O,r⟩
 item:=by
  intro X j hw l hc i af s σ H E I hf st U;have m:i<z.cps.size:=U;obtain⟨a,f1,f2,d,e,f⟩:=hf it (mem_singleton.mpr rr);refine wpAny_pyNext_ascii_item st (c:=z.cps[i]) (by simp ) λh' M n=>?_;obtain⟨o,O,p,d1⟩:=id M;exact⟨_,rr,q8 O p d1 P9 ⟨.str _,H,I.turned (λb o hb e2=>(n.2 b hb).trans e2) a f1 d e f,⟨_,rr⟩,⟨rr,_,by simp ,rr⟩,M,λb hb=>(hf b hb).1⟩⟩
 done:=by
  intro X j hw l hc i af s σ H E I hf st U;have m:z.cps.size<=i:=U;obtain⟨a,f1,f2,d,e,f⟩:=hf it (mem_singleton.mpr rr);exact wpAny_pyNext_ascii_end (I.ok.hd hc) st s9 λh' g=>⟨rr,I.turned (λb o hb e2=>g b o hb e2) a f1 d e f⟩
 self:=λ_ _ _ _ _ st h=>wpAny_pyIter_striter_ascii st h
def yB {P:Program}{w:World}{K:Frag}{tg:Expr}(z:Str)(t:Tok)(it:Addr):Turn P w K tg (Y7 z) [it] it (λi h=>h.IsStrIter it "str_iterator" z t i) where
 mem:=mem_singleton.mpr rr
 obj:=λi h st b hb=>by
  have g:=uT hb;obtain⟨o,O,_,d1⟩:=st;simp_all
 keep:=λi h h' st k=>let ⟨o,O,r⟩:=st;⟨o,k it (mem_singleton.mpr rr) o O,r⟩
 item:=by
  intro X j hw l hc i af s σ H E I hf st U;have m:i<z.cps.size:=U;obtain⟨a,f1,f2,d,e,f⟩:=hf it (mem_singleton.mpr rr);refine wpAny_pyNext_wide_item st (c:=z.cps[i]) (by simp ) λh' M n=>?_;obtain⟨o,O,p,d1⟩:=id M;exact⟨_,rr,q8 O p d1 P9 ⟨.str _,H,I.turned (λb o hb e2=>(n.2 b hb).trans e2) a f1 d e f,⟨_,rr⟩,⟨rr,_,by simp ,rr⟩,M,λb hb=>(hf b hb).1⟩⟩
 done:=by
  intro X j hw l hc i af s σ H E I hf st U;have m:z.cps.size<=i:=U;obtain⟨a,f1,f2,d,e,f⟩:=hf it (mem_singleton.mpr rr);exact wpAny_pyNext_wide_end (I.ok.hd hc) st s9 λh' g=>⟨rr,I.turned (λb o hb e2=>g b o hb e2) a f1 d e f⟩
 self:=λ_ _ _ _ _ st h=>wpAny_pyIter_striter_wide st h
section
variable {X:Cx}{a b e:Expr}{pos:Pos}{x:Str}{p:Pos}{tg:Expr}
def HZ {l:Expr}{tl:TE}(hl:PE X l tl):PI X tg l (λσ H R=>tl σ H λx M=>∃z,x=.str z/\R (Y7 z) M):=by
 intro af s σ H R I h;refine bG (hl _ s σ H _ I h) λv s1 ⟨x,M,O,U,c⟩=>?_;obtain⟨z,rfl,q⟩:=c;obtain⟨t,rfl⟩:=U;have fp:∀b∈[s1.z],lC X _ M b:=λb hb=>by
  rw[uT hb];exact O.fpOk (vT _) (O.hok.fresh (vT _))
 cases ha:z.cps.all _ with
 |true=>exact wpAny_pyIter_ascii ha ⟨_,[s1.z],_,_,M,rr,O.kept λb o e=>vZ _ e,yA z t _,⟨_,vY _ rr,rr,rr⟩,fp,q⟩
 |false=>exact wpAny_pyIter_wide ha ⟨_,[s1.z],_,_,M,rr,O.kept λb o e=>vZ _ e,yB z t _,⟨_,vY _ rr,rr,rr⟩,fp,q⟩
noncomputable def yC (z:Str):LD:=z.cps.toList.map λc=>.str ⟨#[c]⟩
def Ia {K:Frag}{B:Hp}(z:Str):mL K (Y7 z) B (yC z):=by
 intro i H s;refine⟨λd ed=>?_,λhl=>by unfold yC at hl;show z.cps.size<=i;simp_all⟩;unfold yC at ed;rw[vA]at ed;obtain⟨c,U,rfl⟩:=oY ed;have M:=by simpa using U
 refine⟨(Array.getElem?_eq_some_iff.mp M).1,λv H' hy=>?_⟩;obtain⟨rfl,f,O,rfl⟩:=hy;rw[M]at O;cases O;exact⟨B,.refl s,.str _⟩
@[simp] def Rh:D->Option LD
 |.lst ds=>some ds
 |.tup ds=>some ds
 |.str z=>some (yC z)
 |_=>none
@[simp] def dE (f:FE):FA:=λρ=>(f ρ).bind λx=>Rh x.1
def Ri (h:JE X e f):JI X tg e (dE f):=by
 intro af s σ H R I q;refine cX λG K=>?_;obtain⟨B,ρ,ds,M,r,O,q⟩:=q;refine eX O λU ex es=>?_;obtain⟨xd,g⟩:=U;apply K;cases xd with
 |lst l=>exact C2 h _ s σ H R I ⟨B,ρ,ds,M,r,by unfold HV;rw[ex];exact es,q⟩
 |tup l=>exact C2 h _ s σ H R I ⟨B,ρ,ds,M,r,by unfold HV;rw[ex];exact es,q⟩
 |str z=>
  cases es
  refine HZ h _ s σ H R I ⟨B,ρ,_,_,M,r,ex,λv c N1 d i1 _=>?_⟩;cases i1
  exact⟨z,rr,q _ c N1 d (Ia z)⟩
 |_=>cases es
def M7:GH X (λx lo hi H Q=>∃z,x=.str z/\z.length<=sizeLine/\Q (.str (Txt.slice z lo hi)) H):=by
 intro af s σ H x v vl c lo hi sl Q I U hs pl O h;obtain⟨z,rfl,hz,q⟩:=h;obtain⟨t,rfl⟩:=U;have dX:∀lo hi,Q (.str (Txt.slice z lo hi)) H->(Txt.slice z lo hi).length<=sizeLine/\∀t' k,EP X af σ Q _ _:=λlo hi q=>
  ⟨vR (Txt.slice_le z _ _) hz,λt' k=>⟨.str _,H,I.tok k,⟨t',rr⟩,q⟩⟩
 refine⟨"str",_,PySem.F.slot_str_getitem.lookup,typeIs_str _ _ _,?_⟩;cases pl with
 |none=>
  cases O with
  |none=>exact wpAny_getItem_str_slice (l:=none) (u:=none) (st:=none) hs rr (post_val_or_str (dX _ _ q))
  |int j M=>exact wpAny_getItem_str_slice (l:=none) (u:=some (j,M)) (st:=none) hs rr (post_val_or_str (dX _ _ q))
 |int i ti=>
  cases O with
  |none=>exact wpAny_getItem_str_slice (l:=some (i,ti)) (u:=none) (st:=none) hs rr (post_val_or_str (dX _ _ q))
  |int j M=>exact wpAny_getItem_str_slice (l:=some (i,ti)) (u:=some (j,M)) (st:=none) hs rr (post_val_or_str (dX _ _ q))
def Fv {A:Around}{E:QV}{s:Shared}{prog:Program}{w:World}{t sl:Addr}{items:AV}{vl d:Value}{lo hi:OI}{Q:QV}(M:IsTup s.heap t items)(hs:s.heap.IsSliceOf sl vl d .none)(pl:IsPart vl lo)(f:IsPart d hi)
  (h0:HT.dq items.size 0 lo=0) (h1:HT.dq items.size items.size hi=items.size) (h:Q (.ref t) s):wpAny (model prog w) A (getItem (.ref t) (.ref sl)) Q E s:=by
 obtain⟨os,O,U,g⟩:=id hs
 have i:s.TypeIs (.ref sl) _:=⟨os,O,U⟩
 unfold getItem
 try with_reducible refine wpAny_holding ?_
 refine wX (wpAny_sequenceKey M.typeIs P9 ?_)
 refine wX (wpAny_callSpecial?_slot M.typeIs PyProof.Rows.slot_tuple_getitem (wpAny_call_entry PyProof.Rows.slot_tuple_getitem M.typeIs entry_tuple_getitem ?_ (args_tuple_getitem _ _)))
 show wpAny _ _ (Builtin.Tuple.tupleItemsOf _>>=_) _ _ s
 refine wX (tupleItemsOf_ M ?_)
 refine wX (wpAny_typeOf i ?_)
 refine wX (HT.iO hs pl f ?_)
 have c:(((HT.dq items.size 0 lo:Nat):Int) == 0 && (1:Int) == 1 && (HT.dq items.size items.size hi - HT.dq items.size 0 lo) == items.size)=true:=by
  rw[h0,h1];simp
 show wpAny _ _ (if(((HT.dq _ 0 lo:Nat):Int) == 0 && (1:Int) == 1 && (HT.dq _ _ hi - HT.dq _ 0 lo) == items.size)=true then _ else _) _ _ s
 rw[if_pos c]
 refine wX ?_
 refine wX (wpAny_typeOf M.typeIs (wY ?_))
 refine wX (wpAny_rule ?_)
 exact wY ⟨_,rr,wY h⟩
def M8:GH X (λx lo hi H Q=>∃a xs,x=.ref a/\hV X.K H a xs/\HT.dq xs.length 0 lo=0/\HT.dq xs.length xs.length hi=xs.length/\Q (.ref a) H):=by
 intro af s σ H x v vl d lo hi sl Q I U hs pl c h;obtain⟨a,xs,rfl,hx,h0,h1,q⟩:=h;cases U
 refine I.tupE hx λits r O hz=>?_;have M:its.toArray.size=xs.length:=by exact r.length.symm
 refine⟨"tuple",_,PyProof.Rows.slot_tuple_getitem.lookup,O.typeIs,?_⟩;exact Fv O hs pl c (by rw[M];exact h0) (by rw[M];exact h1) ⟨.ref a,H,I,rr,q⟩
@[simp] def GJ (fa:FE)(fl M:FO):FE:=λρ=>(fa ρ).bind λx=>(fl ρ).bind λl=>(M ρ).bind λh=>match x.1 with
 |.lst ds=>some (.lst (lS ds l h),true)
 |.tup ds=>some (.tup (lS ds l h),false)
 |.str z=>if z.length<=sizeLine then some (.str (Txt.slice z l h),false)else none
 |_=>none
def Bb {ds:LD}{lo hi:OI}(h0:HT.dq ds.length 0 lo=0)(h1:HT.dq ds.length ds.length hi=ds.length):lS ds lo hi=ds:=by
 unfold lS;rw[h0,h1];simp
def Ib {lo hi:Option Expr}{p2:Pos}{fa:FE}{fl g:FO}(ha:JE X e fa)(hl:JO X lo fl)(hh:JO X hi g):JE X (.Subscript e (.Slice lo hi none p2) pos) (GJ fa fl g):=by
 refine PE.to (Hj (GH.or (GH.or Mc Qt) (GH.or M7 M8)) ha hl hh) λσ H Q q=>?_;refine cX λG K=>?_;obtain⟨B,ρ,d,b,i,r,e,q⟩:=q;refine eX e λx ex e=>?_;refine eX e λl j e=>?_;refine eX e λh k e=>?_;apply K;clear K;refine⟨B,ρ,x.1,x.2,i,r,ex,λv n N1 M i1 _=>⟨N1,ρ,l,M.nh,r.mono M.bn,j,λH2 h2=>⟨N1,ρ,h,M.nh.trans h2,r.mono M.bn,k,λm h3=>?_⟩⟩⟩;have O:aI N1 m:=M.nh.trans (h2.trans h3);have c:=q.into (M.trans (.grow M.nh (h2.trans h3)));obtain⟨xd,s⟩:=x;cases i1 with
 |@tup f vs ds hs hv=>
  cases e
  by_cases hw:HT.dq ds.length 0 l=0/\HT.dq ds.length ds.length h=ds.length
  .rw[Bb hw.1 hw.2]at c;exact .inr (.inr ⟨f,vs,rr,aS O hs,by rw[hv.length];exact hw.1,by rw[hv.length];exact hw.2,c.one O (.tup hs hv)⟩)
  .refine .inl (.inr ⟨f,vs,rr,aS O hs,by rw[hv.length];exact hw,λp hp=>?_⟩);have U:=Ext.laid (o:=.tup (tF vs l h)) O hp;exact c _ _ _ U (.tup (hV.of au) ((wN hv).mono U.bn)) H9
 |@lst f vs ds hs hv=>
  cases e
  refine .inl (.inl ⟨f,vs,rr,O.seq hs,λp hp=>?_⟩);have U:=Ext.laid (o:=.lst (tF vs l h)) O hp;exact c _ _ _ U (.lst (eN.of au) ((wN hv).mono U.bn)) λ_=>⟨p,_,_,rr,rr,hp,au,(wN hv).mono U.bn⟩
 |str z=>
  dsimp only at e;split at e
  .rename_i hz;cases e
   exact .inr (.inl ⟨z,rr,hz,c.one O (.str _)⟩)
  simp_all
 |_=>cases e
def const_int {K:Frag}{y:Str}{i:Int}{t:Tok}(e:nsIn K mainGlobals y=some (some (.int i t))):∃u v,nsIn K mainGlobals y=some (some u)/\aE v u/\∀B,Is K B v (.int i):=⟨_,.int i,e,⟨t,rr⟩,λ_=>.int i⟩
noncomputable def wT:Value->D->Bool
 |.none,.non=>true
 |.bool a,.bl b=>a == b
 |.int i _,.int j=>decide (i=j)
 |.str i _,.str j=>decide (i=j)
 |_,_=>false
def jk:LU->LD->Bool
 |[],[]=>true
 |u::us,d::ds=>wT u d && jk us ds
 |_,_=>false
theorem kW {K:Frag}{B:Hp}:∀ {u:Value}{d:D},wT u d=true->∃v,aE v u/\Is K B v d
 |.none,.non,_=>⟨.non,rr,.non⟩
 |.bool a,.bl b,h=>by
  have:=eq_of_beq h;subst this;exact⟨.bl a,rr,.bl a⟩
 |.int i t,.int j,h=>by
  have:=ET h;subst this;exact⟨.int i,⟨t,rr⟩,.int i⟩
 |.str i t,.str j,h=>by
  have:=ET h;subst this;exact⟨.str i,⟨t,rr⟩,.str i⟩
theorem jl {K:Frag}:∀ {us:LU}{ds:LD},jk us ds=true->∃vs,L2.aL vs us/\∀B,IsL K B vs ds
 |[],[],_=>⟨[],.nil,λ_=>.nil⟩
 |u::us,d::ds,h=>by
  rw[jk,vC]at h;obtain⟨vs,r,i⟩:=jl h.2;obtain⟨v,O,_⟩:=kW (K:=K) (B:=λ_=>none) h.1;refine⟨v::vs,.cons O r,λB=>?_⟩;obtain⟨U,M,c⟩:=kW h.1;have:U=v:=by have f:=O.abs;rw[M.abs]at f;simp_all
  subst this;exact .cons c (i B)
def const_tup {K:Frag}{y:Str}{a:Addr}{od:Option Addr}{its:AV}{n:Nat}{l7:Array (Option Value)}{ds:LD}(e:nsIn K mainGlobals y=some (some (.ref a)))
  (l:K.lookup a=some ⟨.type "tuple",od,.seq its n,l7⟩) (h:(decide (its.size<=1000) && jk its.toList ds)=true):∃u v,nsIn K mainGlobals y=some (some u)/\aE v u/\∀B,Is K B v (.tup ds):=by
 rw[vC]at h;obtain⟨vs,r,i⟩:=jl h.2;exact⟨_,.ref a,e,rr,λB=>.tup (.inr ⟨_,its,n,l,rr,rr,le_of_lt (lt_of_le_of_lt (ET h.1) P9),r⟩) (i B)⟩
end
section
variable {X:Cx}{a b o e:Expr}{pos:Pos}{x:Str}{p:Pos}{tg:Expr}
def Rk {name:Str}{id:String}{bV b9:Pos}{op:D->D->OB}{fo fe:FE}(slot:Slot "str" name id)(f:typeOf (.builtin id)=pure (.type "method_descriptor"))
  (hm:Tk X id (λx xs H Q=>∃y,xs=[y]/\rD X.K op x y H Q)) (j:∀dx k r,op dx k=some r->∃z,dx=.str z) (l:JE X o fo) (he:JE X e fe)
  (M:attributeBase o name X.env (eval o X.env)=eval o X.env)
  (m:ph b9 e X.env)
  (O:(bV.endLine == b9.line)=true) (hs:cL e X.env):
  JE X (.Call (.Attribute o name bV) [e] [] b9) (f2 op fo fe):=by
 refine PE.to (yn PySem.F.plainAttrs_str slot f hm l (de he fH hs) M m O hs rr) λσ H Q q=>?_;refine cX λG W=>?_;obtain⟨B,ρ,d,bb,n,r,c,q⟩:=q;refine eX c λh ex c=>?_;refine eX c λg s c=>?_;obtain⟨z,hz⟩:=j _ _ _ c;apply W;refine⟨B,ρ,h.1,h.2,n,r,ex,λv u N1 U i1 _=>?_⟩;rw[hz]at i1;cases i1
 refine⟨show "str" = "str" from rr,N1,ρ,g.1,g.2,U.nh,r.mono U.bn,s,λt H2 N2 i i2 _=>⟨t,rr,N2,.str z,g.1,d,bb,i.nh,.str z,i2,by rw[<-hz];exact c,q.into (U.trans i)⟩⟩
@[simp] noncomputable def Rm:D->Option Str
 |.str z=>some z
 |_=>none
def eO:LD->Option LS
 |[]=>some []
 |d::ds=>(Rm d).bind λz=>(eO ds).map (z :: ·)
@[simp] def T2:eO []=some []:=rfl
@[simp] def Rn (d:D)(ds:LD):eO (d::ds)=(Rm d).bind λz=>(eO ds).map (z :: ·):=rfl
@[simp] def T3 (zs:LS):eO (zs.map D.str)=some zs:=by
 induction zs with
 |nil=>rfl
 |cons z zs ih=>simp[ih]
theorem iT {K:Frag}{B:Hp}:∀ {vs:LV}{ds:LD}{zs:LS}{its:LU},L2.aL vs its->IsL K B vs ds->eO ds=some zs->StrsAre its zs
 |_,_,_,_,.nil,.nil,e=>by cases e;exact .nil
 |_,_,_,_,.cons r O,.cons i U,e=>by
  refine eX e λz M e=>?_;refine eB e λzs e2 e=>?_;subst e;cases i<;>simp [Rm]at M<;>try (cases M;done)
  cases M
  obtain⟨t,rfl⟩:=r;exact .cons _ t (iT O U e2)
@[simp] def Ic:D->D->OB
 |.str M,.lst ds=>(eO ds).bind λzs=>if(zs.map (·.length)).sum+zs.length*M.length<=16777216 then some (.str (Txt.join M zs),false)else none
 |.str M,.tup ds=>(eO ds).bind λzs=>if(zs.map (·.length)).sum+zs.length*M.length<=16777216 then some (.str (Txt.join M zs),false)else none
 |_,_=>none
def Rp:Tk X "str.join" (λx xs H Q=>∃y,xs=[y]/\rD X.K Ic x y H Q):=by
 intro af s σ H x xs v us Q I i j h;obtain⟨y,rfl,B,dx,r,d,bb,O,l,m,M,q⟩:=h;obtain⟨u,rfl,g⟩:=gh j;cases l<;>(try (simp at M))
 obtain⟨t,rfl⟩:=i;cases m<;>(try (simp at M;done))
 .rename_i h hl;refine eX M λzs U M=>?_;split at M
  .rename_i hok;cases M
   cases g
   refine I.tupE (aS O h) λits c f n=>?_;exact join_tuple f (by simpa using iT c hl U) hok λt' k=>⟨.str _,H,I.tok k,⟨t',rr⟩,q.one O (.str _)⟩
  simp_all
 .rename_i h hl;refine eX M λzs U M=>?_;split at M
  .rename_i hok;cases M
   cases g
   refine I.lisE (O.seq h) λits c f n=>?_;exact join_list f.isList (by simpa using iT c hl U) hok λt' k=>⟨.str _,H,I.tok k,⟨t',rr⟩,q.one O (.str _)⟩
  simp_all
def Ie (dx M:D)(r:D×Bool)(h:Ic dx M=some r):∃z,dx=.str z:=by
 cases dx<;>first|exact⟨_,rr⟩|(cases M<;>simp at h)
noncomputable def g9:LN->LD->Env->Option Env
 |[],[],ρ=>some ρ
 |i::is,d::ds,ρ=>g9 is ds (ρ.set i (some (d,false)))
 |_,_,_=>none
@[simp] def T4 (ρ:Env):g9 [] [] ρ=some ρ:=by rw[g9]
@[simp] def Bc (i:Nat)(is:LN)(d:D)(ds:LD)(ρ:Env):g9 (i::is) (d::ds) ρ=g9 is ds (ρ.set i (some (d,false))):=by rw[g9]
@[simp] def Vs (d:D)(ds:LD)(ρ:Env):g9 [] (d::ds) ρ=none:=by simp only[g9]
@[simp] def Vt (i:Nat)(is:LN)(ρ:Env):g9 (i::is) [] ρ=none:=by simp only[g9]
@[simp] def C3 (is:LN):FG:=λd ρ=>match d with|.tup ds=>g9 is ds ρ|_=>none
def jm:LN->OH
 |[]=>Ul
 |i::is=>OJ (iN i) (jm is)
def Ig:aI (dB N (own σ ρ)) (dB N (own (σ.set i (some v)) (ρ.set i (some (d,false))))):=dC λa u e q=>⟨e,λz=>q (by
 rcases wH z with⟨_,d',p⟩|⟨j,_,d',M,q2⟩
 .cases p
 .exact⟨j,d',M,q2⟩)⟩
theorem kX {K:Frag}:∀ {is:LN}{vs:LV}{ds:LD}{B0 H0 N H:Hp}{σ:St}{ρ ρ':Env}{Q:St->Hp->Prop},dc K B0 H0 N H σ ρ->IsL K (dB N (own σ ρ)) vs ds->g9 is ds ρ=some ρ'->(∀M,dc K B0 H0 N H M ρ'->Q M H)->jm is vs σ H Q
 |[],_,_,_,_,_,_,_,_,_,_,s,.nil,e,k=>by
  cases e
  exact⟨rr,k _ s⟩
 |[],_,_,_,_,_,_,_,_,_,_,_,.cons _ _,e,_=>by simp at e
 |_::_,_,_,_,_,_,_,_,_,_,_,_,.nil,e,_=>by simp at e
 |i::is,_,_,_,_,_,_,_,_,_,_,s,.cons h hs,e,k=>by
  exact⟨_,_,rr,kX (s.bind h) (hs.mono Ig) e k⟩
theorem kY:∀ {is:LN}{ds:LD}{ρ ρ':Env},g9 is ds ρ=some ρ'->ds.length=is.length
 |[],[],_,_,_=>rr
 |_::_,_::_,_,_,e=>by rw[Bc]at e;simp[kY e]
 |[],_::_,_,_,e=>by simp at e
 |_::_,[],_,_,e=>by simp at e
def Vu {K:Frag}{is:LN}:L0 K (C3 is) (GV K is.length (jm is)):=by
 intro B0 H0 N H σ ρ ρ' v d Q s h e k;cases h with
 |@tup a vs ds O hl=>
  have M:=e;exact⟨a,vs,rr,aS (br.trans s.ext.nh) O,by rw[hl.length];exact kY M,kX s hl M λU s'=>k _ H ⟨N,s'⟩⟩
 |_=>cases e
theorem uh {K:Frag}{n:Nat}{B H:Hp}{M:Env}{Q:St->Hp->Prop}(cl:∀i,i<n->M[i]? = some none):∀ {is:LN}{vs:LV}{ds:LD}{σ:St}{ρ U:Env},(∀i∈is,i<n)->eM K B σ ρ->IsL K B vs ds->g9 is ds ρ=some U->ρ.length=σ.length->ρ.length=M.length ->
  (∀O,eM K B O U->(∀c,eM K c σ M->eM K c O M)->M.length=O.length->Q O H)->jm is vs σ H Q
 |[],_,_,_,_,_,_,rp,.nil,e,l1,l2,k=>by
  cases e
  exact⟨rr,k _ rp (λ_ z=>z) N9⟩
 |[],_,_,_,_,_,_,_,.cons _ _,e,_,_,_=>by simp at e
 |_::_,_,_,_,_,_,_,_,.nil,e,_,_,_=>by simp at e
 |i::is,_,_,σ,ρ,_,hn,rp,.cons h hs,e,l1,l2,k=>by
  have hi:=hn i mX;have m:i<σ.length:=by
   grind
  refine⟨_,_,rr,uh cl (λj hj=>hn j (mZ _ hj)) ⟨rp.tb,λj d b q=>?_⟩ hs e (by simpa using l1) (by simpa using l2) λO f g l=>k _ f (λc z=>g c ⟨z.tb,λj d b q=>?_⟩) l⟩
  .rcases bB q with⟨rfl,pp⟩|⟨ne,pp⟩
   .simp_all
   .obtain⟨w,h1,h2⟩:=rp.at' j d b pp;simp_all
  .obtain⟨w,h1,h2⟩:=z.at' j d b q;have ne:i≠j:=λz=>by grind
   exact⟨w,by simp_all,h2⟩
def Ih {K:Frag}{n:Nat}{is:LN}(hn:∀i∈is,i<n):Mo K n (C3 is) (GV K is.length (jm is)):=by
 intro B H σ ρ O v d Q cl rep s h e hl k;cases h with
 |@tup a vs ds U hv=>
  have M:=e;exact⟨a,vs,rr,aS s U,by rw[hv.length];exact kY M,uh cl hn rep hv M hl rr k⟩
 |_=>cases e
end
section
variable {prog:Program}{w:World}{A:Around}{E:QV}{s:Shared}
def Bd (st:s.heap.IsTupleIter it l i)(M:s.heap.IsTuple l items)(hv:items[i]? = some v)
  (k:∀h',h'.IsTupleIter it l (i+1)->Heap.SameBut it s.heap h'->Q v { s with heap:=h' }):wpAny (model prog w) A (Builtin.SmallTypes.nextOf (.ref it)) Q E s:=by
 refine cX λG g=>?_;obtain⟨a,g1,O,d1⟩:=id st;obtain⟨b,U,_,n2,d2⟩:=M;apply g;refine wX (wpAny_callSpecial?_slot st.typeIs slot_tuple_iterator_next (wpAny_call_entry slot_tuple_iterator_next st.typeIs PySem.F.entry_tuple_iterator_next ?_ (PySem.F.args_tuple_iterator_next_1 _)));show wpAny _ _ (field _ 0>>=_) _ _ _;refine wX (wpAny_field g1 d1 rr ?_);refine wX (wpAny_field g1 d1 rr ?_);refine wX (wpAny_seqItems U d2 ?_);simp [hv,Int.toNat_natCast];refine wX (wpAny_setField g1 d1 H9 (wY ⟨v,rr,wY (k _ ?_ (vW ..))⟩));exact⟨_,Heap.get?_update_self _ g1 (Obj.isFreed_of_fields (Obj.data_mapFields d1 _)),(Obj.cls_mapFields ..).trans O,by rw[Obj.data_mapFields d1];simp[rawInt]⟩
def Fw (M:A.handled=none)(st:s.heap.IsTupleIter it l i)(O:s.heap.IsTuple l items)(hv:items[i]? = none)
  (k:∀h' x,Heap.ExtBut it s.heap h'->(∃o,h'.get? x=some o/\o.cls=.type "StopIteration")->E (.ref x) { s with heap:=h' }):wpAny (model prog w) A (Builtin.SmallTypes.nextOf (.ref it)) Q E s:=by
 refine cX λG g=>?_;obtain⟨a,g1,b,d1⟩:=id st;obtain⟨c,U,_,n2,d2⟩:=O;apply g;refine wX (wpAny_callSpecial?_slot st.typeIs slot_tuple_iterator_next (wpAny_call_entry slot_tuple_iterator_next st.typeIs PySem.F.entry_tuple_iterator_next ?_ (PySem.F.args_tuple_iterator_next_1 _)));show wpAny _ _ (field _ 0>>=_) _ _ _;refine wX (wpAny_field g1 d1 rr ?_);refine wX (wpAny_field g1 d1 rr ?_);refine wX (wpAny_seqItems U d2 ?_);simp [hv,Int.toNat_natCast];refine wX (wpAny_rule (wX (wpAny_setField g1 d1 H9 ?_)));refine wX ?_;refine wX (m:=firstArgMember _ _) (wpAny_of_eq I9 ?_);refine wpAny_newObj_type ?_ q9;refine wX (wpAny_handled ?_);first|rw[M]|rw[show A.in1.handled=none from M]
 exact wX (wY (wpAny_throw (k _ _ (((vW ..).extBut.push _).push _) ⟨_,vY _ rr,rr⟩)))
end
def jG:Bool->Heap->Addr->Addr->Nat->Prop
 |true,h,it,a,i=>h.IsListIter it a i
 |false,h,it,a,i=>h.IsTupleIter it a i
def kZ (k:Bool)(K:Frag)(H:Hp)(a:Addr)(xs:LV):Prop:=match k with|true=>eN K H a xs|false=>hV K H a xs
def jG.ob (st:jG k h it a i):∃o,h.get? it=some o/\∀v,o.data≠.cell v:=by
 cases k<;>(obtain⟨o,g,_,d⟩:=st;simp_all)
def jG.upon (st:jG k h it a i)(g:∀o,h.get? it=some o->h'.get? it=some o):jG k h' it a i:=by
 cases k<;>(obtain⟨o,e,r⟩:=st;exact⟨o,g o e,r⟩)
def jQ.upon (st:jQ k h a items)(g:∀o,h.get? a=some o->h'.get? a=some o):jQ k h' a items:=by
 cases k<;>(obtain⟨o,e,r⟩:=st;exact⟨o,g o e,r⟩)
def jQ.lt (st:jQ k h a items):a<h.objs.size:=by
 cases k<;>(obtain⟨o,e,r⟩:=st;exact vX e)
theorem kZ.same {k:Bool}{K:Frag}{H H':Hp}{a:Addr}{xs:LV}(h:kZ k K H a xs)(e:aI H H'):kZ k K H' a xs:=by
 cases k
 .exact aS e h
 .exact e.seq h
def kZ.vals (I:Inv X af σ H s)(h:kZ k X.K H a xs):∃its:LU,aL xs its/\jQ k s.heap a its.toArray/\xs.length<=sizeLine:=by
 cases k
 .exact I.tuple h
 .refine I.lisE h λits r p z=>?_;exact⟨its,r,p.isList,z⟩
def kZ.inj (I:Inv X af σ H s)(h:kZ k X.K H a xs)(h':kZ k X.K H a ys):xs=ys:=by
 cases k
 .exact I.tuple_inj h h'
 .exact I.list_inj h h'
section
variable {prog:Program}{w:World}{A:Around}{E:QV}{s:Shared}
def eU (st:jG k s.heap it l i)(M:jQ k s.heap l items)(hv:items[i]? = some v)
  (q:∀h',jG k h' it l (i+1)->Heap.SameBut it s.heap h'->Q v { s with heap:=h' }):wpAny (model prog w) A (Builtin.SmallTypes.nextOf (.ref it)) Q E s:=by
 cases k
 .exact Bd st M hv q
 .exact wpAny_nextOf_list_item st M hv q
def iU (M:A.handled=none)(st:jG k s.heap it l i)(O:jQ k s.heap l items)(hv:items[i]? = none)
  (q:∀h' x,Heap.ExtBut it s.heap h'->(∃o,h'.get? x=some o/\o.cls=.type "StopIteration")->E (.ref x) { s with heap:=h' }):wpAny (model prog w) A (Builtin.SmallTypes.nextOf (.ref it)) Q E s:=by
 cases k
 .exact Fw M st O hv q
 .exact wpAny_nextOf_list_end M st O hv q
end
noncomputable def M9 (k:Bool)(l:Addr):Obj:={ cls:=.type (if k=true then "list_iterator" else "tuple_iterator"),data:=.fields #[.ref l,.int 0 0] }
def mR (M:jQ k s.heap l items)
  (q:Q (.ref s.z) { s with heap:=s.heap.push (M9 k l) }):wpAny (model prog w) A (pyIter (.ref l)) Q E s:=by
 cases k
 .exact wpAny_pyIter_tuple M q
 .exact wpAny_pyIter_list M q
def jQ.push (st:jQ k h a items)(o:Obj):jQ k (h.push o) a items:=st.upon λ_ e=>vZ _ e
section
variable (k1 k2:Bool) (h:Heap) (l1 l2:Addr)
abbrev zA:Heap:=h.push (M9 k1 l1)
abbrev zB:Heap:=(zA k1 h l1).push (M9 k2 l2)
abbrev zC:Heap:=(zB k1 k2 h l1 l2).push { cls:=.type "tuple",data:=.seq #[.ref h.objs.size,.ref (zA k1 h l1).objs.size] }
abbrev zD:Heap:=(zC k1 k2 h l1 l2).push { cls:=.type "tuple",data:=.seq #[.none,.none] }
abbrev zE:Heap:=(zD k1 k2 h l1 l2).push { cls:=.type "zip",data:=.fields #[.none,.bool false,.bool false,.ref (zB k1 k2 h l1 l2).objs.size,.ref (zC k1 k2 h l1 l2).objs.size] }
end
def Be (k1 k2:Bool)(l1 l2:Addr)(xs ys:AV):Meets (Builtin.«zip.__new__» ⟨[.type "zip",.ref l1,.ref l2],[]⟩) (λ_ R s=>jQ k1 s.heap l1 xs/\jQ k2 s.heap l2 ys /\
   R (.ok (.ret (.ref (zD k1 k2 s.heap l1 l2).objs.size))) { s with heap:=zE k1 k2 s.heap l1 l2 }):=
 .of_wp λprog w A R s hs=>by
  obtain⟨hp,g,d,tk,os⟩:=s;obtain⟨O,q2,hs⟩:=hs;have M:=sub_zip;have U:=O;have p2:jQ k2 (Shared.heap ⟨hp.push (M9 k1 l1),g,d,tk,os⟩) l2 ys:=jQ.push q2 _;wp_walk using mR U,mR p2;exact⟨_,rr,hs⟩
section
variable {prog:Program}{w:World}{A:Around}{E:QV}{s:Shared}
def MA (h:jQ k1 s.heap l1 xs)(q2:jQ k2 s.heap l2 ys)
  (q:∀h',IsZip h' (s.z+4) (s.z+2) (s.z+3) .none->IsPair h' (s.z+2) (.ref s.z) (.ref (s.z+1))->IsPair h' (s.z+3) .none .none ->
   jG k1 h' s.z l1 0->jG k2 h' (s.z+1) l2 0->(∀c o,s.heap.get? c=some o->h'.get? c=some o)->Q (.ref (s.z+4)) { s with heap:=h' }):
  wpAny (model prog w) A (call (.type "zip") [.ref l1,.ref l2]) Q E s:=by
 refine callType_new PySem.F.called_zip P9 (PySem.F.typeCall_zip_2 _ _) (PySem.F.newCall_zip_2 _ _) (λobj=>PySem.F.args_object_init_3 obj _ _) PySem.F.entry_zip_new (Be k1 k2 l1 l2 xs ys) ⟨h,q2,?_⟩;have n1:(zA k1 s.heap l1).objs.size=s.z+1:=Heap.size_push ..;have n2:(zB k1 k2 s.heap l1 l2).objs.size=s.z+2:=by rw[Heap.size_push,n1]
 have n3:(zC k1 k2 s.heap l1 l2).objs.size=s.z+3:=by rw[Heap.size_push,n2]
 have n4:(zD k1 k2 s.heap l1 l2).objs.size=s.z+4:=by rw[Heap.size_push,n3]
 have O:∀ {c o},(zD k1 k2 s.heap l1 l2).get? c=some o->(zE k1 k2 s.heap l1 l2).get? c=some o:=λe=>vZ _ e;have U:∀ {c o},(zC k1 k2 s.heap l1 l2).get? c=some o->(zE k1 k2 s.heap l1 l2).get? c=some o:=λe=>O (vZ _ e);have a:∀ {c o},(zB k1 k2 s.heap l1 l2).get? c=some o->(zE k1 k2 s.heap l1 l2).get? c=some o:=λe=>U (vZ _ e);have b:∀ {c o},(zA k1 s.heap l1).get? c=some o->(zE k1 k2 s.heap l1 l2).get? c=some o:=λe=>a (vZ _ e);have i:∀ {c o},s.heap.get? c=some o->(zE k1 k2 s.heap l1 l2).get? c=some o:=λe=>b (vZ _ e);have M:(zE k1 k2 s.heap l1 l2).get? _=some _:=vY _ rr;have d:=O (vY _ rr);have f:=U (vY _ rr);have g:=a (vY _ (by cases k2<;>rfl))
 have g1:=b (vY _ (by cases k1<;>rfl))
 rw[n2,n3,n4]at M;rw[n1,n2]at f;rw[n3]at d;rw[n1]at g;show _/\_;rw[n4];refine⟨⟨_,M,rr⟩,q _ M f d ?_ ?_ λc o e=>i e⟩
 .cases k1<;>exact⟨_,g1,rr,rr⟩
 .cases k2<;>exact⟨_,g,rr,rr⟩
structure ZApart (z TI TO i1 i2:Addr):Prop where
 tz:TI≠z
 oz:TO≠z
 az:i1≠z
 bz:i2≠z
 oa:TO≠i1
 ob:TO≠i2
 to:TI≠TO
 ta:TI≠i1
 tb:TI≠i2
 ab:i1≠i2
structure ZA (z TI TO i1 i2 l1 l2:Addr):Prop where
 D:ZApart z TI TO i1 i2
 m1:l1≠z/\l1≠TO/\l1≠i1
 m2:l2≠z/\l2≠TO/\l2≠i1/\l2≠i2
def yD {k1 k2:Bool}{z TI TO i1 i2 l1 l2:Addr}{j:Nat}{xs ys:AV}{x y a b:Value}{Q:QV}(Z:ZA z TI TO i1 i2 l1 l2)
  (hz:IsZip s.heap z TI TO .none) (R:IsPair s.heap TI (.ref i1) (.ref i2)) (T:IsPair s.heap TO a b) (V:jG k1 s.heap i1 l1 j) (W:jG k2 s.heap i2 l2 j) (X:jQ k1 s.heap l1 xs) (q2:jQ k2 s.heap l2 ys) (hx:xs[j]? = some x) (hy:ys[j]? = some y)
  (q:∀h',IsZip h' z TI TO (rawInt s.z)->IsPair h' TO x y->jG k1 h' i1 l1 (j+1)->jG k2 h' i2 l2 (j+1)->IsPair h' s.z x y->h'.objs.size=s.z+1->IsPair h' TI (.ref i1) (.ref i2) ->
   (∀c o,c∉[z,TI,TO,i1,i2]->s.heap.get? c=some o->h'.get? c=some o)->Q (.ref s.z) { s with heap:=h' }):
  wpAny (model prog w) A (Builtin.«zip.__next__» ⟨[.ref z],[]⟩) (λdX s'=>∃v,dX=.done (.ret v)/\Q v s') E s:=by
 obtain⟨D,m1,m2⟩:=Z;show wpAny _ _ (field (.ref z) 2>>=_) _ _ s;refine wX (wpAny_field hz rr (x:=.bool false) rr ?_);show wpAny _ _ (field (.ref z) 3>>=_) _ _ s;refine wX (wpAny_field hz rr (x:=.ref TI) rr (wX (wpAny_seqItems R rr ?_)));refine wX ?_;unfold Builtin.SmallTypes.ownedTupleIsFree;refine wX (wpAny_field hz rr (x:=.none) rr (wY ?_));simp only[if_true];refine wX (wpAny_rule (wX (wpAny_field hz rr (x:=.ref TO) rr (wX (wpAny_setField_rec hz H9 λg1 d s1=>?_)))));replace d:IsZip g1 z TI TO .ellipsis:=d;refine wX ?_;refine wX (wX (wpAny_onRaise ?_));refine wX (eU (s:={ s with heap:=g1 }) (V.upon λo e=>s1.extBut _ _ D.az e) (X.upon λo e=>s1.extBut _ _ m1.1 e) hx λY F s2=>wY ?_);have S:IsPair Y TO a b:=s2.extBut _ _ D.oa (s1.extBut _ _ D.oz T);refine wX (wpAny_seqItems S rr (wX (wpAny_updateSeq_pair S λG f B=>?_)));replace f:IsPair G TO x b:=f;refine wX (wpAny_letGo (wY (wX (wX (wpAny_onRaise ?_)))));have g:∀ {c o},c≠z->c≠TO->c≠i1->s.heap.get? c=some o->G.get? c=some o:=λh c2 c3 e=>B.extBut _ _ c2 (s2.extBut _ _ c3 (s1.extBut _ _ h e));refine wX (eU (s:={ s with heap:=G }) (W.upon λo e=>g D.bz D.ob.symm D.ab.symm e) (q2.upon λo e=>g m2.1 m2.2.1 m2.2.2.1 e) hy λg4 H i=>wY ?_);have k:IsPair g4 TO x b:=i.extBut _ _ D.ob f;refine wX (wpAny_seqItems k rr (wX (wpAny_updateSeq_pair k λM U l=>?_)));replace U:IsPair M TO x y:=U;refine wX (wpAny_letGo (wY (wY (wX (wpAny_seqItems U rr (wX (wpAny_newTuple ?_)))))));have sz:M.objs.size=s.z:=by rw[l.1,i.1,B.1,s2.1,s1.1]
 have m:∀c o,c≠z->c≠TO->c≠i1->c≠i2->s.heap.get? c=some o->M.get? c=some o:=λc o h c2 c3 c4 e=>l.extBut _ _ c2 (i.extBut _ _ c4 (g h c2 c3 e));have n:IsZip M z TI TO .ellipsis:=l.extBut _ _ D.oz.symm (i.extBut _ _ D.bz.symm (B.extBut _ _ D.oz.symm (s2.extBut _ _ D.az.symm d)));have I:jG k1 M i1 l1 (j+1):=F.upon λo e=>l.extBut _ _ D.oa.symm (i.extBut _ _ D.ab (B.extBut _ _ D.oa.symm e));have J:jG k2 M i2 l2 (j+1):=H.upon λo e=>l.extBut _ _ D.ob.symm e;have p:z<M.objs.size:=vX n;refine wX ?_;unfold Builtin.SmallTypes.ownedTupleHandOut;have K:IsZip (M.push { cls:=.type "tuple",data:=.seq #[x,y] }) z TI TO .ellipsis:=vZ _ n;refine wX (wpAny_setField_rec K H9 λg7 L N=>?_);refine wpAny_setField_rec L H9 λC r P=>?_;have O:∀c o,c≠z->M.get? c=some o->C.get? c=some o:=λc o h e=>P.extBut _ _ h (N.extBut _ _ h (vZ _ e));have t:IsPair C M.objs.size x y:=P.extBut _ _ (ne_of_gt p) (N.extBut _ _ (ne_of_gt p) (vY _ rr));have u:C.objs.size=M.objs.size+1:=by rw[P.1,N.1,Heap.size_push]
 rw[sz]at r t u;refine wY ⟨_,rr,?_⟩;show Q (.ref M.objs.size) _;rw[sz];exact q C r (O _ _ D.oz U) (I.upon λo e=>O _ o D.az e) (J.upon λo e=>O _ o D.bz e) t u (O _ _ D.tz (m _ _ D.tz D.to D.ta D.tb R)) λc o hc e=>by
  simp at hc;exact O c o hc.1 (m c o hc.1 hc.2.2.1 hc.2.2.2.1 hc.2.2.2.2 e)
end
section
variable {prog:Program}{w:World}{A:Around}{E:QV}{s:Shared}
def C4 {k1 k2:Bool}{z TI TO i1 i2 l1 l2:Addr}{j:Nat}{xs ys:AV}{a b:Value}{Q:PySem.Fin->Shared->Prop}(m:A.handled=none)(Z:ZA z TI TO i1 i2 l1 l2)
  (hz:IsZip s.heap z TI TO .none) (y:IsPair s.heap TI (.ref i1) (.ref i2)) (B:IsPair s.heap TO a b) (n:jG k1 s.heap i1 l1 j) (C:jG k2 s.heap i2 l2 j) (p:jQ k1 s.heap l1 xs) (q2:jQ k2 s.heap l2 ys) (he:xs[j]? = none\/ys[j]? = none)
  (q:∀h' x,(∀c o,c∉[z,TI,TO,i1,i2]->s.heap.get? c=some o->h'.get? c=some o)->(∃o,h'.get? x=some o/\o.cls=.type "StopIteration")->E (.ref x) { s with heap:=h' }):
  wpAny (model prog w) A (Builtin.«zip.__next__» ⟨[.ref z],[]⟩) Q E s:=by
 obtain⟨D,m1,m2⟩:=Z;show wpAny _ _ (field (.ref z) 2>>=_) _ _ s;refine wX (wpAny_field hz rr (x:=.bool false) rr ?_);refine wX (wpAny_field hz rr (x:=.ref TI) rr (wX (wpAny_seqItems y rr ?_)));refine wX ?_;refine wX (wpAny_field hz rr (x:=.none) rr (wY ?_));simp only[if_true];refine wX (wpAny_rule (wX (wpAny_field hz rr (x:=.ref TO) rr (wX (wpAny_setField_rec hz H9 λg1 O s1=>?_)))));refine wX ?_;refine wX (wX (wpAny_onRaise ?_));cases hx:xs[j]? with
 |none=>
  refine wX (iU (s:={ s with heap:=g1 }) m (n.upon λo e=>s1.extBut _ _ D.az e) (p.upon λo e=>s1.extBut _ _ m1.1 e) hx λf x s2 hX=>?_);obtain⟨g,h,i⟩:=hX;have k:IsZip f z TI TO .ellipsis:=s2 _ _ D.az.symm O;have nz:x≠z:=λF=>by lia
  exact wpAny_setField_rec k H9 λd _ U=>q d x (λc o hc e=>by simp at hc;exact U.extBut _ _ hc.1 (s2 _ _ hc.2.2.2.1 (s1.extBut _ _ hc.1 e))) ⟨g,U.extBut _ _ nz h,i⟩
 |some v=>
  have hy:ys[j]? = none:=by
   lia
  refine wX (eU (s:={ s with heap:=g1 }) (n.upon λo e=>s1.extBut _ _ D.az e) (p.upon λo e=>s1.extBut _ _ m1.1 e) hx λf G s2=>wY ?_);have r:IsPair f TO a b:=s2.extBut _ _ D.oa (s1.extBut _ _ D.oz B);refine wX (wpAny_seqItems r rr (wX (wpAny_updateSeq_pair r λd H U=>?_)));refine wX (wpAny_letGo (wY (wX (wX (wpAny_onRaise ?_)))));have M:∀ {c o},c≠z->c≠TO->c≠i1->s.heap.get? c=some o->d.get? c=some o:=λI c2 c3 e=>U.extBut _ _ c2 (s2.extBut _ _ c3 (s1.extBut _ _ I e));refine wX (iU (s:={ s with heap:=d }) m (C.upon λo e=>M D.bz D.ob.symm D.ab.symm e) (q2.upon λo e=>M m2.1 m2.2.1 m2.2.2.1 e) hy λJ x t hX=>?_);obtain⟨g,h,i⟩:=hX;have l:IsZip J z TI TO .ellipsis:=t _ _ D.bz.symm (U.extBut _ _ D.oz.symm (s2.extBut _ _ D.az.symm O));have nz:x≠z:=λF=>by lia
  exact wpAny_setField_rec l H9 λK _ u=>q K x (λc o hc e=>by simp at hc;exact u.extBut _ _ hc.1 (t _ _ hc.2.2.2.2 (M hc.1 hc.2.2.1 hc.2.2.2.1 e))) ⟨g,u.extBut _ _ nz h,i⟩
end
def lb {X:Cx}{af:AO}{σ:St}{H:Hp}{s:Shared}{h':Heap}{t':Nat}{ch:List Addr}(I:Inv X af σ H s)(f:∀b∈ch,lC X af H b)(k:∀b o,b∉ch->s.heap.get? b=some o->h'.get? b=some o):Inv X af σ H { s with heap:=h',toks:=t' }:=by
 have M:∀b u,H b=some u->b∉ch:=λb u e z=>by rw[(f b z).1]at e;cases e
 refine I.step (λb hb=>?_) (λb o _ _ hc e _=>k b o hc e) (λb o _ _ hc e _=>⟨o.slots,k b o hc e⟩) (λ_ _ _ _ n=>n)
  (λb o hc e=>⟨o,k b o hc e⟩) (λ_ _ e=>e) (λ_ _ _ e=>e) (λ_ _ e=>e) (λm hm=>?_) (λb u e=>?_) I.bare
 .obtain⟨_,f1,_,O,U,a⟩:=f b hb;exact⟨O,f1,U,a⟩
 .obtain⟨o,es,d,g,r⟩:=hm;exact⟨o,es,d,k _ o (λz=>(f _ z).2.1 rr) g,r⟩
 .refine(I.hok b u e).stay (λc v hc q=>k c v ?_ q) (λ_ q=>q) (λ_ _ q=>q) λ_ _ _ q=>q;grind
def C5 {X:Cx}{af:AO}{σ:St}{H:Hp}{s:Shared}{h':Heap}{t':Nat}{ch:List Addr}{a:Addr}{ob:HO}(I:Inv X af σ H s)(f:∀b∈ch,lC X af H b)(k:∀b o,b∉ch->s.heap.get? b=some o->h'.get? b=some o)(ha:s.z<=a)
  (new:bg X.prog X.w (upd H a ob) h' a ob):Inv X af σ (upd H a ob) { s with heap:=h',toks:=t' }:=by
 have hn:H a=none:=I.hok.fresh ha;have M:∀b u,H b=some u->b∉ch:=λb u e z=>by rw[(f b z).1]at e;cases e
 have O:∀b o,s.heap.get? b=some o->b≠a:=λb o e=>vS (vQ (vX e) ha);refine I.step (ch:=ch) (λb hb=>?_) (λb o _ _ hc e _=>k b o hc e) (λb o _ _ hc e _=>⟨o.slots,k b o hc e⟩) (λb o _ e n=>by rw[a7 (O b o e)];exact n)
  (λb o hc e=>⟨o,k b o hc e⟩) (λb xs e=>by rw[a7 (aM e hn)];exact e) (λb o u e=>by rw[a7 (aM e hn)];exact e) (λb ps e=>by rw[a7 (aM e hn)];exact e) (λm hm=>?_) (λb u e=>?_) I.bare
 .obtain⟨_,f1,_,U,d,g⟩:=f b hb;exact⟨U,f1,d,g⟩
 .obtain⟨o,es,h,i,r⟩:=hm;exact⟨o,es,h,k _ o (λz=>(f _ z).2.1 rr) i,r⟩
 .by_cases hb:b=a
  .simp_all[au]
  .rw[a7 hb]at e;refine(I.hok b u e).stay (λc v hc q=>k c v ?_ q) (λc q=>?_) (λc xs q=>?_) λc o xs q=>?_
   .grind
   .rw[a7 (aM q hn)];exact q
   .rw[a7 (aM q hn)];exact q
   .rw[a7 (aM q hn)];exact q
noncomputable def ZI (K:Frag)(k1 k2:Bool)(M O:Addr):It:=
  ⟨λi H=>∃xs ys x y,kZ k1 K H M xs/\kZ k2 K H O ys/\xs[i]? = some x/\ys[i]? = some y,
   λi H v H'=>∃T x y,v=.ref T/\H T=none/\H'=upd H T (.tup [x,y])/\(∀xs,kZ k1 K H M xs->xs[i]? = some x)/\(∀ys,kZ k2 K H O ys->ys[i]? = some y),
   λi H=>∃xs ys,kZ k1 K H M xs/\kZ k2 K H O ys/\(xs.length<=i\/ys.length<=i)⟩
def Ii {P:Program}{w:World}{K:Frag}{es:QD}{C:Nat}{pt:Pos}{k1 k2:Bool}{l m z TI TO i1 i2:Addr}(Z:ZA z TI TO i1 i2 l m):
  Turn P w K (.Tuple es C pt) (ZI K k1 k2 l m) [z,TI,TO,i1,i2] z (λi h=>IsZip h z TI TO .none/\IsPair h TI (.ref i1) (.ref i2)/\(∃a b,IsPair h TO a b)/\jG k1 h i1 l i/\jG k2 h i2 m i) where
 mem:=H9
 obj:=λi h st b hb=>by
  obtain⟨hz,d,⟨a,c,f⟩,O,U⟩:=st;simp at hb;rcases hb with rfl|rfl|rfl|rfl|rfl
  .simp_all
  .simp_all
  .simp_all
  .exact O.ob
  .exact U.ob
 keep:=λi h h' st k=>by
  obtain⟨hz,d,⟨a,c,f⟩,O,U⟩:=st;exact⟨k z H9 _ hz,k TI H9 _ d,⟨a,c,k TO H9 _ f⟩,O.upon λo e=>k i1 H9 o e,U.upon λo e=>k i2 H9 o e⟩
 item:=by
  intro X n hw p hc i af s σ H E I hf st r;subst n hw p;obtain⟨hz,d,⟨a,c,f⟩,O,U⟩:=st;obtain⟨xs,ys,x,y,j,q2,hx,hy⟩:=r;obtain⟨its,t,A,F⟩:=j.vals I;obtain⟨G,B,p2,J⟩:=q2.vals I;obtain⟨u,hu,ru⟩:=t.get hx;obtain⟨v,hv,L⟩:=B.get hy;have g:s.TypeIs (.ref z) "zip":=⟨_,hz,rr⟩;have fresh:H s.z=none:=I.hok.fresh (vT _);have lt:∀ {c o},s.heap.get? c=some o->c≠s.z:=λe=>vS (vX e);have l1:i1≠s.z:=by obtain⟨o,e,_⟩:=O.ob;exact lt e
  have l2:i2≠s.z:=by obtain⟨o,e,_⟩:=U.ob;exact lt e
  unfold pyNext;refine wX (wpAny_attempt (wpAny_callSpecial?_slot (name:=Str.ofString "__next__") g slot_zip_next (wpAny_call_entry slot_zip_next g entry_zip_next (yD Z hz d f O U A p2 (by simpa using hu) (by simpa using hv) λh' b1 b2 b3 b4 N b6 Q bk=>wY ?_) (args_zip_next_1 _))));refine⟨_,rr,wpAny_letOwnedTupleGo_zip (s:={ s with heap:=h' }) b1 λh2 R s2=>?_⟩;have M:Heap.SameBut z h' h2:=s2;have S:∀b o,b∉[z,TI,TO,i1,i2]->s.heap.get? b=some o->h2.get? b=some o:=λb o hb e=>
   M.extBut _ _ (λq=>hb (by simp[q])) (bk b o hb e)
  have V:s.z≠z:=(lt hz).symm;have new:bg X.prog X.w (upd H s.z (.tup [x,y])) h2 s.z (.tup [x,y]):=⟨by show 2<=sizeLine;decide,[u,v],.cons ru (.cons L .nil),⟨_,M.extBut _ _ V N,rr,_,rr⟩⟩;refine⟨.ref s.z,upd H s.z (.tup [x,y]),?_,rr,⟨_,x,y,rr,fresh,rr,λzs hq=>by rw[kZ.inj I hq j];exact hx,λzs hq=>by rw[kZ.inj I hq q2];exact hy⟩,?_,λb hb=>?_⟩
  .exact C5 (s:=s) (t':=s.toks) I hf S (vT _) new
  .exact⟨R,M.extBut _ _ Z.D.tz Q,⟨_,_,M.extBut _ _ Z.D.oz b2⟩,b3.upon λo e=>M.extBut _ _ Z.D.az e,b4.upon λo e=>M.extBut _ _ Z.D.bz e⟩
  .have W:b≠s.z:=by
    simp at hb;rcases hb with rfl|rfl|rfl|rfl|rfl
    .exact lt hz
    .exact lt d
    .exact lt f
    .exact l1
    .exact l2
   rw[a7 W];exact(hf b hb).1
 done:=by
  intro X n hw p hc i af s σ H E I hf st r;subst n hw p;obtain⟨hz,d,⟨a,c,f⟩,O,U⟩:=st;obtain⟨xs,ys,j,q2,hl⟩:=r;obtain⟨its,t,A,F⟩:=j.vals I;obtain⟨G,B,p2,J⟩:=q2.vals I;have g:s.TypeIs (.ref z) "zip":=⟨_,hz,rr⟩;have n1:=t.length;have n2:=B.length;unfold pyNext;refine wX (wpAny_attempt (wpAny_callSpecial?_slot (name:=Str.ofString "__next__") g slot_zip_next (wpAny_call_entry slot_zip_next g entry_zip_next (C4 (I.ok.hd hc) Z hz d f O U A p2 (hl.imp (λq=>by simp;lia) λq=>by simp;lia) λh' x hk hX=>?_) (args_zip_next_1 _))));obtain⟨o,Y,co⟩:=hX;refine wX (wpAny_isInstance (T:="StopIteration") (b:=true) ⟨o,Y,co⟩ isSubtype_stop (wY ⟨rr,?_⟩));exact lb (t':=s.toks) I hf hk
 self:=λ_ _ _ _ _ st h=>wpAny_pyIter_zip st.1 h
section
variable {X:Cx}{a b e:Expr}{pos:Pos}{p:Pos}
def OW:bootBuiltins "zip" = some (.type "zip"):=O9
def Vv (K:Frag)(ta:TA):TI:=λσ H R=>ta σ H λvs M=>∃(k1 k2:Bool)(l1 l2:Addr)(xs ys:LV),vs=[.ref l1,.ref l2]/\kZ k1 K M l1 xs/\kZ k2 K M l2 ys/\R (ZI K k1 k2 l1 l2) M
def yE {Q:QV}{E:QV}{A:Around}(M:Inv X af σ H1 s1)(h1:kZ k1 X.K H1 l1 xs)(h2:kZ k2 X.K H1 l2 ys)
  (q:∀h' z TI TO i1 i2,Inv X af σ H1 { s1 with heap:=h' }->ZA z TI TO i1 i2 l1 l2->IsZip h' z TI TO .none->IsPair h' TI (.ref i1) (.ref i2)->IsPair h' TO .none .none->jG k1 h' i1 l1 0->jG k2 h' i2 l2 0->(∀b∈[z,TI,TO,i1,i2],lC X af H1 b)->Q (.ref z) { s1 with heap:=h' }):
  wpAny (model X.prog X.w) A (call (.type "zip") [.ref l1,.ref l2]) Q E s1:=by
 obtain⟨its,i,U,j⟩:=h1.vals M;obtain⟨k,l,p2,m⟩:=h2.vals M;have VP:=U.lt;have c:=p2.lt;refine MA U p2 λh' d c2 c3 f g h=>q h' _ _ _ _ _ (M.kept (t':=s1.toks) h) ⟨by constructor<;>simp,N9,N9⟩ d c2 c3 f g λb hb=>?_
 have O:s1.z<=b:=by
  grind
 exact M.fpOk O (M.hok.fresh O)
def Rr {es:QD}{d:Nat}{pt:Pos}{ta:TA}(f:Gl X "zip")(hm:X.mg "zip" = none)(ha:PA X [a,b] ta)(hs:starEach [a,b] X.env=[(false,eval a X.env),(false,eval b X.env)]:=by rfl)(M:cL b X.env:=by rfl):
  PI X (.Tuple es d pt) (.Call (.Name "zip" p) [a,b] [] pos) (Vv X.K ta):=by
 intro af s σ H R I h;refine Call_ (fG I f hm OW (PyProof.Rows.callWith_type1 (bG (ha _ _ s σ H _ I h) λus s1 ⟨vs,g,i,j,k⟩=>?_) (by rw[hs,M]) (by rw[M];rfl)));obtain⟨k1,k2,l1,l2,xs,ys,rfl,h1,h2,q⟩:=k;obtain⟨n,o,rfl,O,U⟩:=j.two;cases O
 cases U
 exact yE i h1 h2 λh' z TI TO i1 i2 J Z c c2 c3 l m fp=>wpAny_pyIter_zip c ⟨_,_,_,_,g,rr,J,Ii Z,⟨c,c2,⟨_,_,c3⟩,l,m⟩,fp,q⟩
noncomputable def iV (xs ys:LD):LD:=List.zipWith (λx y=>.tup [x,y]) xs ys
@[simp] def Ij (fa M:FE):FA:=λρ=>(fa ρ).bind λx=>(M ρ).bind λy=>(fM x.1).bind λxs=>(fM y.1).map λys=>iV xs ys
def ui {K:Frag}{B:Hp}{v:V}{d:D}{ds:LD}(h:Is K B v d)(e:fM d=some ds):∃k a vs,v=.ref a/\kZ k K B a vs/\IsL K B vs ds:=by
 cases h with
 |tup M hl=>cases e;exact⟨false,_,_,rr,M,hl⟩
 |lst M hl=>cases e;exact⟨true,_,_,rr,M,hl⟩
 |_=>cases e
def Rt {H s}(I:Inv X af σ H s)(h1:kZ k1 X.K N l1 vs)(i1:IsL X.K N vs ds)(h2:kZ k2 X.K N l2 ws)(i2:IsL X.K N ws es):mL X.K (ZI X.K k1 k2 l1 l2) N (iV ds es):=by
 intro i H' M;have n1:=i1.length;have n2:=i2.length;refine⟨λd ed=>?_,λhl=>⟨vs,ws,h1.same M,h2.same M,?_⟩⟩
 .unfold iV at ed;rw[List.getElem?_zipWith]at ed;cases O:ds[i]? with
  |none=>rw[O]at ed;simp at ed
  |some x=>
   cases e2:es[i]? with
   |none=>rw[O,e2]at ed;simp at ed
   |some y=>
    rw[O,e2]at ed;simp at ed;subst ed;obtain⟨v,ev,iv⟩:=i1.get O;obtain⟨w,c,h⟩:=i2.get e2;refine⟨⟨vs,ws,v,w,h1.same M,h2.same M,ev,c⟩,λr H2 hy=>?_⟩;obtain⟨T,k,l,rfl,j,rfl,f1,f2⟩:=hy;have f:=f1 vs (h1.same M);have g:=f2 ws (h2.same M);rw[ev]at f;cases f;rw[c]at g;cases g;have U:=Ext.laid (o:=.tup [v,w]) M j;exact⟨_,U,.tup (hV.of au) (.cons (iv.mono U.bn) (.cons (h.mono U.bn) .nil))⟩
 grind[iV]
def Ru {es:QD}{h:Nat}{pt:Pos}{fa g:FE}(hm:X.mg "zip" = none)(ha:JE X a fa)(hb:JE X b g)(i:Gl X "zip")(hs:starEach [a,b] X.env=[(false,eval a X.env),(false,eval b X.env)])(O:cL b X.env):
  JI X (.Tuple es h pt) (.Call (.Name "zip" p) [a,b] [] pos) (Ij fa g):=by
 intro af s σ H R I q;refine Rr i hm (fU ha (fU hb lR O) (by rw[cQ,hs,O])) hs O _ s σ H R I ?_;refine cX λG K=>?_;obtain⟨B,ρ,ds,j,r,M,q⟩:=q;refine eX M λk ex M=>?_;refine eX M λl m M=>?_;refine eX M λxs U M=>?_;apply K;refine eB M λys c M=>?_;subst M;refine⟨B,ρ,[k.1,l.1],j,r,by simp[ex,m],λvs n N1 d i1=>?_⟩;cases i1 with
 |cons o f=>
  cases f with
  |cons f t=>
   cases t
   obtain⟨k1,l1,us,rfl,s1,m1⟩:=ui o U;obtain⟨k2,l2,ws,rfl,s2,m2⟩:=ui f c;exact⟨k1,k2,l1,l2,us,ws,rr,s1.same d.nh,s2.same d.nh,q _ n N1 d (Rt I s1 m1 s2 m2)⟩
end
noncomputable def unown1 (ρ:Env)(i:Nat):Env:=match ρ[i]? with
 |some (some (d,true))=>ρ.set i (some (d,false))
 |_=>ρ
def dc.unown1 {K:Frag}{B0 H0 N H:Hp}{σ:St}{ρ:Env}(s:dc K B0 H0 N H σ ρ)(i:Nat):dc K B0 H0 N H σ (unown1 ρ i):=by
 unfold DL.unown1;split
 .rename_i d hd;obtain⟨a,ob,h1,h2,h3,h4⟩:=s.ow i d hd;have get:∀ {j:Nat}{e:D}{b:Bool},(ρ.set i (some (d,false)))[j]? = some (some (e,b))->(i=j/\e=d/\b=false)\/(i≠j/\ρ[j]? = some _):=λq=>by
   rcases bB q with⟨z,p⟩|⟨z,p⟩
   .cases p;exact .inl ⟨z,rr,rr⟩
   .exact .inr ⟨z,p⟩
  have o:∀c,own σ (ρ.set i (some (d,false))) c->own σ ρ c/\c≠a:=λc ⟨j,e,O,q2⟩=>by
   rcases get O with⟨_,_,z⟩|⟨ne,q⟩
   .cases z
   .exact⟨⟨j,e,q,q2⟩,λz=>by subst z;exact ne (s.inj i j _ _ _ hd q h1 q2)⟩
  have c:aI (dB N (own σ ρ)) _:=dC λb u e q=>⟨e,λz=>q (o b z).1⟩;have U:=λz=>(o a z).2 rr;refine⟨s.bh,s.tb,s.ext,by rw[length_set];exact s.len,λj e q=>?_,λj e q=>?_,λj k b e f q M g h=>?_⟩
  .rcases get q with⟨rfl,rfl,_⟩|⟨_,q⟩
   .exact⟨_,h1,(h4.mono c).is (by rw[cm U];exact h2)⟩
   .obtain⟨v,k1,k2⟩:=s.sh j e q;exact⟨v,k1,k2.mono c⟩
  .rcases get q with⟨_,_,z⟩|⟨_,q⟩
   .cases z
   .obtain⟨l,o',k1,k2,k3,k4⟩:=s.ow j e q;exact⟨l,o',k1,k2,k3,k4.mono c⟩
  .rcases get q with⟨_,_,z⟩|⟨_,q⟩
   .cases z
   .rcases get M with⟨_,_,z⟩|⟨_,M⟩
    .cases z
    .exact s.inj j k b e f q M g h
 .exact s
@[simp] noncomputable def Y8 (is:LN)(g:FS):FS:=λρ=>g (is.foldl unown1 ρ)
theorem dc.unowns {K:Frag}{B0 H0 N H:Hp}{σ:St}:∀(is:LN){ρ:Env},dc K B0 H0 N H σ ρ->dc K B0 H0 N H σ (is.foldl DL.unown1 ρ)
 |[],_,s=>s
 |i::is,_,s=>dc.unowns is (s.unown1 i)
def Rv {K:Frag}{is:LN}{g:FS}{E:Ends}{σ:St}{H:Hp}(q:mK K (Y8 is g) E σ H):mK K g E σ H:=by
 refine cX λG k=>?_;obtain⟨B0,H0,ρ,r,⟨N,s⟩,e,p⟩:=q;apply k;exact⟨B0,H0,_,r,⟨N,s.unowns is⟩,e,p⟩
def Vw {X:Cx}{st:Stmt}{g:FS}(is:LN)(h:JS X st g):JS X st (Y8 is g):=PS.to h λ_ _ _ q=>Rv q
@[simp] def Ik:FS:=λρ=>some (.ct ρ)
@[simp] def qN:FS:=λ_=>none
section
variable {X:Cx}{pos:Pos}
def MB:JS X (.Continue pos) Ik:=PS.to ym λE σ H q=>by
 obtain⟨B0,H0,ρ,r,s,e,p⟩:=q;cases e
 exact p σ H s
def Il {st:Stmt}:JS X st qN:=λaf s σ H E I q=>by
 obtain⟨B0,H0,ρ,r,_,e,_⟩:=q;cases e
end
inductive CRows (K:Frag)(P:Params):List DictEntry->List (Str×D)->Prop where
 |nil:CRows K P [] []
 |tup {x:Str}{t:Tok}{h:Int}{a:Addr}{its:Array Value}{n:Nat}{l7:Array (Option Value)}{ds:List D}{r:List DictEntry}{aC:List (Str×D)}(hh:h=PyData.keyHash P x)
   (l:K.lookup a=some ⟨.type "tuple",none,.seq its n,l7⟩) (f:(decide (its.size<=1000) && jk its.toList ds)=true) (tl:CRows K P r aC):CRows K P (⟨h,.str x t,.ref a⟩::r) ((x,.tup ds)::aC)
 |flat {x:Str}{t:Tok}{h:Int}{u:Value}{d:D}{r:List DictEntry}{aC:List (Str×D)}(hh:h=PyData.keyHash P x) (f:wT u d=true) (tl:CRows K P r aC):CRows K P (⟨h,.str x t,u⟩::r) ((x,d)::aC)
theorem CRows.lit {K:Frag}{P:Params}:∀ {es:List DictEntry}{aC:List (Str×D)},CRows K P es aC->PySem.W.KeysLit P es
 |_,_,.nil=>trivial
 |_,_,.tup hh _ _ tl=>⟨⟨_,_,rr,hh⟩,tl.lit⟩
 |_,_,.flat hh _ tl=>⟨⟨_,_,rr,hh⟩,tl.lit⟩
theorem CRows.find {K:Frag}{P:Params}(y:Str):∀ {es:List DictEntry}{aC:List (Str×D)},CRows K P es aC->match aC.lookup y with
  |none=>es.find? (λe=>Value.isStrOf y e.key)=none
  |some d=>∃e v,es.find? (λe=>Value.isStrOf y e.key)=some e/\aE v e.val/\∀B,Is K B v d
 |_,_,.nil=>rr
 |_,_,.tup (x:=x) (t:=t) (a:=a) (ds:=ds) hh l f tl=>by
  by_cases e:y=x
  .subst e;rw[List.lookup_cons_self];rw[vC]at f;obtain⟨vs,r,i⟩:=jl (K:=K) f.2;exact⟨_,.ref a,List.find?_cons_of_pos (by simp[Value.isStrOf]),rr,λB=>.tup (.inr ⟨_,_,_,l,rr,rr,le_of_lt (lt_of_le_of_lt (ET f.1) P9),r⟩) (i B)⟩
  .have ih:=tl.find y;rw[lookup_cons,beq_eq_false_iff_ne.mpr e];have M:Value.isStrOf y (Value.str x t)=false:=by
    rw[Bool.eq_false_iff];intro z;obtain⟨t',q⟩:=Value.isStrOf_shape z;simp_all
   simp only[find?_cons,M];exact ih
 |_,_,.flat (x:=x) (t:=t) (u:=u) (d:=d) hh f tl=>by
  by_cases e:y=x
  .subst e;rw[List.lookup_cons_self];obtain⟨v,U,_⟩:=kW (K:=K) (B:=λ_=>none) f;refine⟨_,v,List.find?_cons_of_pos (by simp[Value.isStrOf]),U,λB=>?_⟩;obtain⟨b,O,g⟩:=kW (K:=K) (B:=B) f;have:b=v:=by have c:=U.abs;rw[O.abs]at c;simp_all
   simp_all
  .have ih:=tl.find y;rw[lookup_cons,beq_eq_false_iff_ne.mpr e];have M:Value.isStrOf y (Value.str x t)=false:=by
    rw[Bool.eq_false_iff];intro z;obtain⟨t',q⟩:=Value.isStrOf_shape z;simp_all
   simp only[find?_cons,M];exact ih
def mS (K:Frag)(P:Params)(a:Addr)(aC:List (Str×D)):Prop:=∃es n,K.lookup a=some ⟨.type "dict",none,.dict es n,#[]⟩/\CRows K P es.toList aC/\(a == sysModules)=false
def const_dict {K:Frag}{P:Params}{y:Str}{a:Addr}{es:Array DictEntry}{n:Nat}{aC:List (Str×D)}(e:nsIn K mainGlobals y=some (some (.ref a)))(l:K.lookup a=some ⟨.type "dict",none,.dict es n,#[]⟩)(r:CRows K P es.toList aC)(s:(a == sysModules)=false):
  ∃a,nsIn K mainGlobals y=some (some (.ref a))/\mS K P a aC:=⟨a,e,es,n,l,r,s⟩
section
variable {X:Cx}{a b e:Expr}{pos:Pos}{x:Str}{p:Pos}
def mS.map {af:AO}{σ:St}{H:Hp}{s:Shared}{d:Addr}{aC:List (Str×D)}(I:Inv X af σ H s)(h:mS X.K X.w.params d aC):∃f:SV,s.heap.MapOf (strKind X.prog X.w) d f/\(d == sysModules)=false /\
  ∀y,match aC.lookup y with|none=>f y=none|some dd=>∃u v,f y=some u/\aE v u/\∀B,Is X.K B v dd:=by
 obtain⟨es,n,l,r,M⟩:=h;refine⟨_,PySem.W.mapOf_K I.kIn l r.lit,M,λy=>?_⟩;have:=r.find y;have O:findBy Value.isStrOf es y=(es.toList.find? λe=>Value.isStrOf y e.key).map (·.val):=by
  simp_all[findBy]
 cases hl:aC.lookup y with
 |none=>simp_all
 |some dd=>
  rw[hl]at this;obtain⟨en,v,U,e2,c⟩:=this;exact⟨en.val,v,by rw[O,U];rfl,e2,c⟩
@[simp] noncomputable def yF (aC:List (Str×D)):D->OB
 |.str y=>(aC.lookup y).map λd=>(d,false)
 |_=>none
@[simp] noncomputable def Bf (aC:List (Str×D)):D->OB
 |.str y=>some (.bl (!(aC.lookup y).isSome),false)
 |_=>none
def MC (h:∃d,X.mg x=some (.ref d)/\mS X.K X.w.params d aC)(hb:JE X b f)(k:Gl X x)(hd:bf x)(hs:mF b):JE X (.Subscript (.Name x p) b pos) (f1 (yF aC) f):=by
 obtain⟨d,hm,cd⟩:=h;have l:Qu X (λx y H Q=>∃z dd,x=.ref d/\y=.str z/\aC.lookup z=some dd/\∀v,(∀B,Is X.K B v dd)->Q v H):=by
  intro O U af s σ H x y v u Q I m n q hs;obtain⟨z,dd,rfl,rfl,o,q⟩:=q;cases m
  obtain⟨t,rfl⟩:=n;obtain⟨f,i,D,hf⟩:=cd.map I;have:=hf z;rw[o]at this;obtain⟨u,v,c,e2,A⟩:=this;exact tail_any i.typeIs slot_dict_getitem.lookup (wpAny_getItem_of (strKind_is X.prog X.w z t) i c ⟨v,H,I.tok _,e2,q v A⟩) hs
 refine PE.to (Hk l (pZ (v:=.ref d) k hm rr hd) hb hs) λσ H Q q=>?_;refine cX λG W=>?_;obtain⟨B,ρ,d',bb,C,r,M,q⟩:=q;refine eX M λg ex M=>?_;apply W;refine⟨B,ρ,g.1,g.2,C,r,ex,λv E N1 j i1 _=>?_⟩;obtain⟨xd,F⟩:=g;cases i1<;>try (simp[yF]at M;done)
 rename_i z _;refine eB M λdd c e2=>?_;cases e2
 exact⟨z,_,rr,rr,c,λv hv=>(q.into j).one j.nh (hv _)⟩
@[simp] noncomputable def MD:LD->OB
 |[.lst ds]=>some (.lst ds,true)
 |[.tup ds]=>some (.lst ds,true)
 |_=>none
@[simp] noncomputable def Im:LD->OB
 |[.lst ds]=>some (.tup ds,false)
 |[.tup ds]=>some (.tup ds,false)
 |_=>none
def Rw:b7 X (.type "list") (A6 X.K MD):=by
 refine b7.to w4 λxs H Q q=>?_;refine eS q λB ds d bb U i O q=>?_;cases i with
 |nil=>simp at O
 |cons i1 i2=>
  cases i2 with
  |cons _ _=>cases i1<;>simp at O
  |nil=>
   cases i1<;>try (simp at O;done)
   .rename_i c vs es h hl;cases O
    refine⟨_,_,rr,.inr (aS U h),λl hp=>?_⟩;have M:=Ext.laid (o:=.lst vs) U hp;exact q _ _ _ M (.lst (eN.of au) (hl.mono M.bn)) λ_=>⟨_,_,_,rr,rr,hp,au,hl.mono M.bn⟩
   .rename_i c vs es h hl;cases O
    refine⟨_,_,rr,.inl (U.seq h),λl hp=>?_⟩;have M:=Ext.laid (o:=.lst vs) U hp;exact q _ _ _ M (.lst (eN.of au) (hl.mono M.bn)) λ_=>⟨_,_,_,rr,rr,hp,au,hl.mono M.bn⟩
def ME:b7 X (.type "tuple") (A6 X.K Im):=by
 refine b7.to tH λxs H Q q=>?_;refine eS q λB ds d bb M i O q=>?_;cases i with
 |nil=>simp at O
 |cons i1 i2=>
  cases i2 with
  |cons _ _=>simp_all
  |nil=>
   cases i1<;>try (simp at O;done)
   .rename_i c vs es h hl;cases O
    exact⟨_,_,rr,.inr ⟨aS M h,q.one M (.tup h hl)⟩⟩
   .rename_i c vs es h hl;cases O
    refine⟨_,_,rr,.inl ⟨M.seq h,λl hp=>?_⟩⟩;have U:=Ext.laid (o:=.tup vs) M hp;exact q _ _ _ U (.tup (hV.of au) (hl.mono U.bn)) H9
end
section
variable {X:Cx}{a b e:Expr}{pos:Pos}{x:Str}{p:Pos}
def Io (K:Frag)(n:Nat)(t:OH):TG:=λv σ H Q=>∃k a xs,v=.ref a/\kZ k K H a xs/\xs.length=n/\t xs σ H Q
def Rx (hc:X.calm=true)(h:Uj X es t)(hn:(assignEach es X.env).length=n)(M:(assignEach es X.env).findIdx? (·.1)=none):PG X (.Tuple es kt pos) (Io X.K n t):=by
 intro af s σ H v u Q I r hw;obtain⟨k,l,xs,rfl,hq,hl,hw⟩:=hw;cases r
 cases k with
 |false=>
  refine I.tupE hq λits O U hz=>?_;refine assign_Tuple_tuple (I.ok.hd hc) U (by simp[hn,<-hl,O.length]) M λh' hx=>?_;have c:=I.kept (t':=s.toks) λb o e=>hx b o (vS (vX e)) e;exact h af _ σ H xs _ Q c (by simpa using O) hw
 |true=>
  refine I.lisE hq λits O U hz=>?_;refine wX (wpAny_standAt ?_);unfold unpack;have hsz:(assignEach es X.env).length=its.toArray.size:=by simp[hn,<-hl,O.length]
  rw[hsz,M];refine wX (wpAny_holding (PySem.W.kun_itemsOf (I.ok.hd hc) U.isList λh' hx=>?_));have c:=I.kept (t':=s.toks) λb o e=>hx b o (vS (vX e)) e;exact h af _ σ H xs _ Q c (by simpa using O) hw
@[simp] def yG (is:LN)(f:FE):FS:=λρ=>(f ρ).bind λx=>(fM x.1).bind λds=>(g9 is ds (if aN ds=true then ρ else unown ρ)).map .nx
def Ip {K:Frag}{is:LN}{f:FE}{E:Ends}{σ:St}{H:Hp}(q:mK K (yG is f) E σ H):AE (tD K f) (Io K is.length (jm is)) E σ H:=by
 refine cX λG W=>?_;obtain⟨B0,H0,ρ,r,⟨N,s⟩,e,p⟩:=q;refine eX e λx ex e=>?_;refine eX e λds es e=>?_;apply W;refine eB e λρ' M e=>?_;subst e;refine⟨N,ρ,x.1,x.2,s.ext.nh,s.rep,ex,λv c N1 d i1 _=>?_⟩;obtain⟨k,a,vs,rfl,g,O⟩:=ui i1 es;have s1:=s.grow d;refine⟨k,a,vs,rr,g.same d.nh,by rw[O.length];exact kY M,?_⟩;by_cases hn:aN ds=true
 .rw[if_pos hn]at M;exact kX s1 (s1.flats O hn) M λU s'=>p _ c ⟨N1,s'⟩
 .rw[if_neg hn]at M;exact kX s1.unown (O.mono λa o e=>by rw[cm oi];exact e) M λU s'=>p _ c ⟨N1,s'⟩
def MF (he:JE X e f)(M:PG X (.Tuple es O p2) (Io X.K is.length (jm is)))(hs:swapsWithSole [.Tuple es O p2] e pos.line X.env=pure false)(hw:swappedStores [.Tuple es O p2] e X.env=pure none)
  (h1:(assignEach [.Tuple es O p2] X.env).map (·.2)=[assign (.Tuple es O p2) X.env]):JS X (.Assign [.Tuple es O p2] e pos) (yG is f):=PS.to (GW he M hs hw h1) λ_ _ _ q=>Ip q
@[simp] noncomputable def MG (i:Nat)(M O:FE):FS:=λρ=>match ρ[i]? with
 |some (some (.lst ds,true))=>(O ρ).bind λv=>(M ρ).bind λk=>match k.1 with
  |.int j=>(GI ds.length j).bind λn=>if aQ v.1=true then some (.nx (ρ.set i (some (.lst (ds.set n v.1),true))))else none
  |_=>none
 |_=>none
def Ry (hv:JE X e fv)(hk:JE X k fk)(d:X.N[i]? = some y)(O:GP X.env.scope y)(hd:bf y)
  (f:jI y)
  (ha:∀v,assign (.Subscript (.Name y py) k pt) X.env v=(do
   let U <-holding [v] (eval (.Name y py) X.env)
   let iv <-holding [v,U] (eval k X.env)
   standAt pt
   holding [v,U,iv] (setItem U iv v)
   release [v,U,iv] []))
  (hs:swapsWithSole [.Subscript (.Name y py) k pt] e pos.line X.env=pure false) (hw:swappedStores [.Subscript (.Name y py) k pt] e X.env=pure none)
  (h1:(assignEach [.Subscript (.Name y py) k pt] X.env).map (·.2)=[assign (.Subscript (.Name y py) k pt) X.env]):JS X (.Assign [.Subscript (.Name y py) k pt] e pos) (MG i fk fv):=by
 refine PS.to (GW hv (Qd (jg d O hd f) hk Hm ha) hs hw h1) λE σ H q=>?_;refine cX λG K=>?_;obtain⟨B0,H0,ρ,r,⟨N,s⟩,M,p⟩:=q;apply K;clear K;unfold MG at M;split at M
 .rename_i ds ei;refine eX M λv ev M=>?_;refine eX M λg ek M=>?_;obtain⟨kd,t⟩:=g;cases kd with
  |int j=>
   refine eX M λn en M=>?_;split at M
   .rename_i hn;cases M
    refine⟨N,ρ,v.1,v.2,s.ext.nh,s.rep,ev,λu w N1 h i1 _=>?_⟩;have s1:=s.grow h;refine cX λG K=>?_;obtain⟨l,vs,m,z,h1,h2,h3,h4⟩:=s1.owL i _ ei;apply K;clear K;refine⟨_,h1,N1,ρ,_,_,s1.ext.nh,s1.rep,ek,λkv H2 N2 c i2 _=>?_⟩;cases i2
    have s2:=s1.grow c;refine cX λG K=>?_;obtain⟨A,o,m,z,k1,k2,k3,k4⟩:=s2.owL i _ ei;apply K;clear K;cases z
    rw[h1]at k1;cases k1;exact⟨l,o,j,n,rr,rr,s2.ext.nh _ _ k2,by rw[k4.length];exact en,p σ _ ⟨_,s2.write ei h1 (IsL.set (s2.flat (i1.mono c.bn) hn) n k4)⟩⟩
   .cases M
  |_=>cases M
 simp_all
@[simp] noncomputable def Iq (i:Nat)(g:LD->Option LD):FS:=λρ=>match ρ[i]? with
 |some (some (.lst ds,true))=>(g ds).map λes=>.nx (ρ.set i (some (.lst es,true)))
 |_=>none
@[simp] noncomputable def Ir (i:Nat)(f:FE):FS:=λρ=>match ρ[i]? with
 |some (some (.lst ds,true))=>(f ρ).bind λx=>match x.1 with
  |.lst es=>if x.2=true/\aN es=true/\ds.length+es.length<=sizeLine then some (.nx (ρ.set i (some (.lst (ds++es),true))))else none
  |_=>none
 |_=>none
def Rz (he:JE X e f)(g:X.N[i]? = some y)(hv:GP X.env.scope y)(hd:bf y)
  (h:jI y)
  (O:attributeBase (.Name y py) "extend" X.env (eval (.Name y py) X.env)=eval (.Name y py) X.env)
  (j:ph b9 e X.env)
  (U:(bV.endLine == b9.line)=true) (hs:cL e X.env) (k:swapsWith (.Call (.Attribute (.Name y py) "extend" bV) [e] [] b9) none pos.line X.env=pure false):
  JS X (.Expr (.Call (.Attribute (.Name y py) "extend" bV) [e] [] b9) pos) (Ir i f):=by
 refine PS.to (wo (yn plainAttrs_list PySem.F.slot_list_extend PySem.F.type_list_extend Fg (jg g hv hd h) (de he fH hs) O j U hs rr) k) λE σ H q=>?_;refine cX λG K=>?_;obtain⟨B0,H0,ρ,r,⟨N,s⟩,M,p⟩:=q;apply K;clear K;unfold Ir at M;split at M
 .rename_i ds ei;refine eX M λv ev M=>?_;obtain⟨m,w⟩:=v;cases m with
  |lst es=>
   dsimp at M;split at M
   .rename_i hc;cases M
    refine cX λG K=>?_;obtain⟨l,vs,n,z,h1,h2,h3,h4⟩:=s.owL i _ ei;apply K;clear K;refine⟨_,h1,.inl ⟨rr,vs,eN.of (s.ext.nh _ _ h2)⟩,N,ρ,_,_,s.ext.nh,s.rep,ev,λA B N1 c i1 f1=>?_⟩;obtain⟨l2,ws,o,rfl,z,g1,t,d⟩:=f1 hc.1;cases z
    have s1:=s.grow c;refine cX λG K=>?_;obtain⟨C,u,n,z,k1,k2,_,k4⟩:=s1.owL i _ ei;apply K;clear K;cases z
    rw[h1]at k1;cases k1;exact⟨l,l2,u,ws,rr,rr,s1.ext.nh _ _ k2,c.nh _ _ t,by rw[k4.length,d.length];exact hc.2.2,p σ _ ⟨_,s1.write ei h1 (k4.append (s1.flats d hc.2.1))⟩⟩
   .cases M
  |_=>cases M
 simp_all
end
open AutoSeq1 (wpAny_loadPart')
noncomputable def sqT (k:Bool):String:=if k=true then "list" else "tuple"
def yH (k:Bool)(l:Addr)(items:AV)(n:Nat)(M:Option Addr)(sl:Array (Option Value)):
  Meets (Builtin.«enumerate.__new__» ⟨[.type "enumerate",.ref l],[]⟩) (λ_ R s=>s.heap.get? l=some { cls:=.type (sqT k),dict:=M,data:=.seq items n,slots:=sl } /\
   R (.ok (.ret (.ref (s.heap.push (M9 k l)).objs.size))) { s with heap:=(s.heap.push (M9 k l)).push { cls:=.type "enumerate",data:=.fields #[.none,.bool false,.ref s.z,rawInt 0,.none,.none] } }):=
 .of_wp λprog w A R s hs=>by
  obtain⟨hp,g,d,tk,os⟩:=s;obtain⟨hl,hs⟩:=hs;have U:=sub_enumerate;have O:jQ k (Shared.heap ⟨hp,g,d,tk,os⟩) l items:=by cases k<;>exact⟨_,hl,rr,n,rr⟩
  wp_walk using wpAny_loadPart' hl;refine wpAny_stack_any λst=>wY ?_;split
  .rename_i c _ _ _ _ _;cases (c == Value.type _)
   .wp_walk using wpAny_loadPart' hl,mR O;exact⟨_,rr,hs⟩
   .wp_walk using wpAny_loadPart' hl,mR O;exact⟨_,rr,hs⟩
  .wp_walk using wpAny_loadPart' hl,mR O;exact⟨_,rr,hs⟩
section
variable {prog:Program}{w:World}{A:Around}{E:QV}{s:Shared}
def Iu (U:jQ k s.heap l items)
  (q:∀h',IsEnum h' (s.z+1) s.z 0 .none->jG k h' s.z l 0->(∀b o,s.heap.get? b=some o->h'.get? b=some o)->Q (.ref (s.z+1)) { s with heap:=h' }):
  wpAny (model prog w) A (call (.type "enumerate") [.ref l]) Q E s:=by
 have hh:∃(M:Option Addr)(sl:Array _)(n:Nat),s.heap.get? l=some { cls:=.type (sqT k),dict:=M,data:=.seq items n,slots:=sl }:=by
  cases k<;>(obtain⟨⟨c,M,dt,sl⟩,hl,hc,n,hd⟩:=U;subst hc;subst hd;exact⟨M,sl,n,hl⟩)
 obtain⟨M,sl,n,hl⟩:=hh;refine callType_new PySem.F.called_enumerate P9 (PySem.F.typeCall_enumerate_1 _) (PySem.F.newCall_enumerate_1 _) (λobj=>PySem.F.args_object_init_2 obj _) PySem.F.entry_enumerate_new (yH k l items n M sl) ⟨hl,?_⟩;have n1:(s.heap.push (M9 k l)).objs.size=s.z+1:=Heap.size_push ..;have O:((s.heap.push (M9 k l)).push { cls:=.type "enumerate",data:=.fields #[.none,.bool false,.ref s.z,rawInt 0,.none,.none] }).get? _=some _:=vY _ rr;have g1:((s.heap.push (M9 k l)).push { cls:=.type "enumerate",data:=.fields #[.none,.bool false,.ref s.z,rawInt 0,.none,.none] }).get? _=some _:=vZ _ (vY _ (by cases k<;>rfl))
 rw[n1]at O;rw[n1];refine⟨⟨_,O,rr⟩,q _ O ?_ λb o e=>vZ _ (vZ _ e)⟩;cases k<;>exact⟨_,g1,rr,rr⟩
def R0 (b:A.handled=none)(it l:Addr)(M:l≠it)(items:AV):Draws prog w A it [it,l] items.size (λi v=>items[i]? = some v) (λi h=>jG k h it l i/\jQ k h l items) where
 live:=λi h st=>let ⟨o,e,_⟩:=st.1.ob;⟨o,e⟩
 frame:=λi h h' st U=>⟨st.1.upon λo e=>U it H9 o e,st.2.upon λo e=>U l H9 o e⟩
 item:=λi s Q E hi st q=>eU st.1 st.2 (v:=items[i]) (by simp ) λh' O a=>q _ h' _ (by simp ) ⟨O,st.2.upon λo e=>a.extBut _ _ M e⟩ a
 done:=λs Q E st q=>iU b st.1 st.2 H9 q
def R1 (O:A.handled=none)(it l:Addr)(items:AV)(n:Nat)(hn:items[n]? = none):Draws prog w A it [it,l] n (λ_ _=>True) (λi h=>(jG k h it l i/\jQ k h l items)/\i=n) where
 live:=λi h st=>let ⟨o,e,_⟩:=st.1.1.ob;⟨o,e⟩
 frame:=λi h h' st M=>⟨⟨st.1.1.upon λo e=>M it H9 o e,st.1.2.upon λo e=>M l H9 o e⟩,st.2⟩
 item:=λi s Q E hi st q=>absurd st.2 (vS hi)
 done:=λs Q E st q=>iU O st.1.1 st.1.2 hn q
end
noncomputable def ZJ (K:Frag)(k:Bool)(a:Addr):It:=
  ⟨λi H=>∃xs x,kZ k K H a xs/\xs[i]? = some x,
   λi H v H'=>∃T x,v=.ref T/\H T=none/\H'=upd H T (.tup [.int i,x])/\∀xs,kZ k K H a xs->xs[i]? = some x,
   λi H=>∃xs,kZ k K H a xs/\xs.length<=i⟩
def Fx {P:Program}{w:World}{K:Frag}{es:QD}{C:Nat}{pt:Pos}{k:Bool}{a e it:Addr}(U:e≠it)(f:a≠e)(g:a≠it):
  Turn P w K (.Tuple es C pt) (ZJ K k a) [e,it] e (λi h=>(∃M,IsEnum h e it i M)/\jG k h it a i) where
 mem:=H9
 obj:=λi h st b hb=>by
  obtain⟨⟨M,he⟩,O⟩:=st;simp at hb;rcases hb with rfl|rfl
  .simp_all
  .exact O.ob
 keep:=λi h h' st c=>by
  obtain⟨⟨M,he⟩,O⟩:=st;exact⟨⟨M,c e H9 _ he⟩,O.upon λo q=>c it H9 o q⟩
 item:=by
  intro X j hw l hc i af s σ H E I hf st m;subst j hw l;refine cX λW Y=>?_;obtain⟨⟨M,he⟩,O⟩:=st;obtain⟨xs,x,d,hx⟩:=m;obtain⟨its,n,p,D⟩:=d.vals I;obtain⟨u,hu,ru⟩:=n.get hx;apply Y;clear Y;have fresh:=I.hok.fresh (vT _);have r:i<its.toArray.size:=by rw[vH];exact(vV hu).1
  have B:e≠s.z:=vS (vX he);have t:it≠s.z:=by obtain⟨o,q,_⟩:=O.ob;exact vS (vX q)
  refine wpAny_pyNext_enum_itemD (R0 (A:=X.A.in1) (I.ok.hd hc) it a g its.toArray) he ⟨O,p⟩ r U (by simp[U,f.symm]) λv h' tk hv F G J hsz hk=>?_;have ev:v=u:=by
   simp_all
  subst ev;refine⟨_,rr,wpAny_letOwnedTupleGo_enum F λh2 L s2=>?_⟩;have y:Heap.SameBut e h' h2:=s2;have c:∀b o,b∉[e,it]->s.heap.get? b=some o->h2.get? b=some o:=λb o hb q=>y.extBut _ _ (λz=>hb (by simp[z])) (hk b o (λz=>hb (by simp[z])) (λz=>hb (by simp[z])) q);have new:bg X.prog X.w (upd H s.z (.tup [.int i,x])) h2 s.z (.tup [.int i,x]):=⟨by show 2<=sizeLine;decide,[.int i tk,v],.cons ⟨tk,rr⟩ (.cons ru .nil),⟨_,y.extBut _ _ B.symm J,rr,_,rr⟩⟩;refine⟨.ref s.z,upd H s.z (.tup [.int i,x]),C5 (s:=s) (t':=tk+1) I hf c (vT _) new,rr,⟨_,x,rr,fresh,rr,λzs hq=>by rw[kZ.inj I hq d];exact hx⟩,?_,λb hb=>?_⟩
  .exact⟨⟨_,by have:=L;exact this⟩,G.1.upon λo q=>y.extBut _ _ U.symm q⟩
  .have N:b≠s.z:=by
    simp at hb;rcases hb with rfl|rfl
    .exact B
    .exact t
   rw[a7 N];exact(hf b hb).1
 done:=by
  intro X j hw l hc i af s σ H E I hf st m;subst j hw l;refine cX λW Y=>?_;obtain⟨⟨M,he⟩,O⟩:=st;obtain⟨xs,d,hl⟩:=m;obtain⟨its,n,p,D⟩:=d.vals I;apply Y;clear Y;have n1:=n.length;refine wpAny_pyNext_enum_endD (R1 (A:=X.A.in1) (I.ok.hd hc) it a its.toArray i s9) he ⟨⟨O,p⟩,rr⟩ λh' hk=>⟨rr,?_⟩;exact lb (t':=s.toks) I hf λb o hb q=>hk b o (λz=>hb (by simp[z])) q
 self:=λ_ _ _ _ _ st h=>let ⟨⟨_,he⟩,_⟩:=st;wpAny_pyIter_enum he h
section
variable {X:Cx}{a b e:Expr}{pos:Pos}{p:Pos}
def yI:bootBuiltins "enumerate" = some (.type "enumerate"):=O9
noncomputable def qO (ds:LD):LD:=ds.mapIdx λi d=>.tup [.int i,d]
@[simp] def yJ (fa:FE):FA:=λρ=>(fa ρ).bind λx=>(fM x.1).map qO
def MH {K:Frag}{N:Hp}{k:Bool}{l:Addr}{vs:LV}{ds:LD}(h1:kZ k K N l vs)(i1:IsL K N vs ds):mL K (ZJ K k l) N (qO ds):=by
 intro i H' M;have n1:=i1.length;refine⟨λd ed=>?_,λhl=>⟨vs,h1.same M,?_⟩⟩
 .unfold qO at ed;rw[List.getElem?_mapIdx]at ed;obtain⟨x,c,rfl⟩:=oY ed;obtain⟨v,ev,iv⟩:=i1.get c;refine⟨⟨vs,v,h1.same M,ev⟩,λr H2 hy=>?_⟩;obtain⟨T,g,rfl,f,rfl,f1⟩:=hy;have O:=f1 vs (h1.same M);rw[ev]at O;cases O;have U:=Ext.laid (o:=.tup [.int i,v]) M f;exact⟨_,U,.tup (hV.of au) (.cons (.int _) (.cons (iv.mono U.bn) .nil))⟩
 simp_all[qO]
def MI {es:QD}{i:Nat}{pt:Pos}{fa:FE}(hm:X.mg "enumerate" = none)(ha:JE X a fa)(j:Gl X "enumerate")(hs:cL a X.env):
  JI X (.Tuple es i pt) (.Call (.Name "enumerate" p) [a] [] pos) (yJ fa):=by
 intro af s σ H R I q;refine Call_ (fG I j hm yI (PyProof.Rows.callWith_type1 (bG (fU ha lR hs _ _ s σ H (λvs M=>∃(k:Bool)(l:Addr)(us:LV),vs=[.ref l]/\kZ k X.K M l us/\R (ZJ X.K k l) M) I ?_) λus s1 ⟨vs,M,c,m,n⟩=>?_) hs rr))
 .refine cX λG W=>?_;obtain⟨B,ρ,ds,o,r,O,q⟩:=q;refine eX O λt ex O=>?_;apply W;clear W;refine eB O λxs d O=>?_;subst O;refine⟨B,ρ,[t.1],o,r,by simp[ex],λvs M N1 f i1=>?_⟩;cases i1 with
  |cons u v=>
   cases v
   obtain⟨k1,l1,us,rfl,s1,m1⟩:=ui u d;exact⟨k1,l1,us,rr,s1.same f.nh,q _ M N1 f (MH s1 m1)⟩
 .obtain⟨k,l,ws,rfl,h1,q⟩:=n;obtain⟨y,rfl,w⟩:=m.one;cases w
  obtain⟨its,z,g,A⟩:=h1.vals c;have VP:=g.lt;refine Iu g λh' h c2 x=>?_;refine wpAny_pyIter_enum h ⟨s1.z+1,[s1.z+1,s1.z],_,_,M,rr,c.kept x,
   Fx (Nat.succ_ne_self _) (vS (lt_succ_of_lt VP)) (vS VP),⟨⟨_,h⟩,c2⟩,λb hb=>?_,q⟩
  have U:s1.z<=b:=by
   grind
  exact c.fpOk U (c.hok.fresh U)
end
end DL
namespace DL
open PySem PySem.Spec PyProof.Rows
def Fy (t:SetTable)(es:Array (Int×Value))(n:Nat):(relayAll t es n).2.1.led=t.led:=by
 unfold relayAll;split
 .rename_i t' M h;refine eX h λow _ h=>?_;cases h
  dsimp ;split<;>rfl
 .rfl
def yK (t:SetTable)(es:Array (Int×Value))(n:Nat)(hp:t.plain=false):(relayAll t es n).2.1.plain=false:=by
 unfold relayAll;split
 .rename_i t' M h;refine eX h λow _ h=>?_;cases h
  dsimp ;split
  .exact hp
  .rfl
 .rfl
def MJ (t:SetTable)(es:Array (Int×Value))(h:Int)(x:Value):(layNew t es h x).2.1.led=t.led:=by
 unfold layNew;split
 .dsimp [SetTable.orStandIn];repeat' (first|rfl|split)
 .rfl
structure TabT (w:World)(es:Array (Int×Value))(t:SetTable):Prop where
 fits:t.fits es.size=true
 led:t.led = !w.params.followText "set-order"
 plain:es.size≠0->t.plain=false
def jn (prog:Program)(w:World)(h:Heap)(a:Addr)(M:LS):Prop:=
 ∃o es O t,h.get? a=some o/\o.ExactSet/\o.data=.set es O t/\ElemsOf (PySem.strKind prog w) es.toList/\(es.toList.map (λe=>strOf e.2)).Perm M/\M.Nodup/\M.length<scanBound/\TabT w es t
noncomputable def jE (M:LS)(x:Str):LS:=if x∈M then M else M++[x]
theorem Iv (M:LS)(x:Str):(jE M x).length<=M.length+1:=by unfold jE;split<;>simp
theorem yL (h:Value.isStrOf k v=true):strOf v=k:=by obtain⟨t,rfl⟩:=Value.isStrOf_shape h;rfl
section
variable {prog:Program}{w:World}{A:Around}{E:QV}{s:Shared}
def uj {es:Array (Int×Value)}{O:LS}(M:ElemsOf (PySem.strKind prog w) es.toList)(hp:(es.toList.map (λe=>strOf e.2)).Perm O)(k:Str):k∈O ↔ ∃e∈es.toList,(PySem.strKind prog w).is k e.2=true:=by
 rw[<-hp.mem_iff,List.mem_map];constructor
 .rintro⟨e,he,rfl⟩;obtain⟨⟨k',hk,_⟩,_⟩:=M e he;have U:Value.isStrOf k' _=true:=hk;grind[yL]
 .rintro⟨e,he,hk⟩;exact⟨e,he,yL hk⟩
def ul {h:Heap}{a:Addr}{o:Obj}{es:Array (Int×Value)}{O:Nat}{t:SetTable}(U:h.get? a=some o)(hd:o.data=.set es O t)(M:Array (Int×Value))(t':SetTable):
  (h.update a (Obj.putSet M t')).get? a=some { o with data:=.set M (O+1) t' }:=by
 have:=Heap.get?_update_self (Obj.putSet _ t') U (by rw[putSet_of M t' hd];rfl);rw[putSet_of _ t' hd]at this;exact this
def yM {g:Bool->Sem Unit}(F:∀(b:Bool)(c:Shared)(r:Unit->Shared->Prop),r () c->wpAny (model prog w) A (g b) r E c)
  {a:Addr}{o:Obj}{es:Array (Int×Value)}{G:Nat}{t:SetTable}(u:s.heap.get? a=some o) (v:o.ExactSet) (hd:o.data=.set es G t)
  {M:Array (Int×Value)}{O:SetTable}{f:LS}(x:ElemsOf (PySem.strKind prog w) M.toList) (l:(M.toList.map (λe=>strOf e.2)).Perm f) (nd:f.Nodup)
  (hb1:f.length<scanBound) (m:O.fits M.size=true) (y:O.led = !w.params.followText "set-order") (z:O.plain=false) {U:Bool}{R:Option Bool->Shared->Prop}
  (h:∀h',Heap.SameBut a s.heap h'->jn prog w h' a f->R (some true) { s with heap:=h' }):
  wpAny (model prog w) A (do
    storeSet a M O
    if(!U && O.tooFull)=true then do
      g (relayAll O M (SetTable.grown M.size)).2.2
      storeSet a (relayAll O M (SetTable.grown M.size)).1 (relayAll O M (SetTable.grown M.size)).2.1
      pure (some true)
     else pure (some true)) R E s:=by
 have i:M.size=f.length:=by rw[<-l.length_eq,vI,vG]
 refine wX (wpAny_storeSet_of u hd ?_ (fits_of_scanBound (by rw[i];exact hb1)));have n:=ul u hd M O;have B:=vW s.heap a (Obj.putSet M O);split
 .have hp:=relayAll_perm O M (SetTable.grown M.size);have j:=relayAll_fits O M (SetTable.grown M.size);have C:=Fy O M (SetTable.grown M.size);have k:=yK O M (SetTable.grown M.size) z;generalize H:relayAll O M _=Rl at hp j C k |-;obtain⟨d,D,I⟩:=Rl;have p:=x.perm hp;have hsz:d.size=M.size:=by rw[<-vG,hp.length_eq,vG]
  refine wX (F _ _ _ ?_);refine wX (wpAny_storeSet_of n rr ?_ (fits_of_scanBound (by rw[hsz,i];exact hb1)));have q:=ul n rr d D;exact wY (h _ (B.trans (vW _ a _)) ⟨_,d,_,D,q,v,rr,p,(hp.map _).trans l,nd,hb1,j,C.trans y,λ_=>k⟩)
 .exact wY (h _ B ⟨_,M,_,O,n,v,rr,x,l,nd,hb1,m,y,λ_=>z⟩)
def Bg {a:Addr}{d:LS}{k:Str}{tk:Tok}{Q:Bool->Shared->Prop}(v:jn prog w s.heap a d)(I:d.length+1<scanBound)
  (h:∀b h',Heap.SameBut a s.heap h'->jn prog w h' a (jE d k)->Q b { s with heap:=h' }):
  wpAny (model prog w) A (setAddHashed a (.str k tk) ((PySem.strKind prog w).hash k)) Q E s:=by
 have hS0:=v;refine cX λY Z=>?_;obtain⟨o,es,R,t,n,B,hd,g,M,nd,hb,hf,C,S⟩:=v;apply Z;clear Z;have D:=strKind_is prog w k tk;have sz:es.size=d.length:=by rw[<-M.length_eq,vI,vG]
 refine wpAny_holding (wX (wpAny_setState_of n hd hf ?_));dsimp only;rw[byScan_of (x:=.str k tk) rr (by rw[sz];exact hb) g];simp only[↓reduceIte];unfold setAddByScan;refine wX ?_;refine wX (wpAny_rule ?_);refine wX (wpAny_setScan_of D n hd hf g ?_);cases J:List.findIdx? _ es.toList with
 |some j=>
  dsimp only;obtain⟨hj,q,_⟩:=List.findIdx?_eq_some_iff_getElem.mp J;have hm:k∈d:=(uj g M k).mpr ⟨es.toList[j],getElem_mem hj,q⟩;refine wY (wY ?_);simp_all[jE,Heap.SameBut.refl]
 |none=>
  dsimp only;have hm:k∉d:=λz=>by
   obtain⟨e,he,hp⟩:=(uj g M k).mp z;grind
  have K:jE d k=d++[k]:=by unfold jE;rw[if_neg hm]
  have r:∀(b:Bool){c:Shared}{i:Unit->Shared->Prop},i () c->wpAny (model prog w) A (match b with|true=>rule "set.scan.the-table-gave-way" | false=>pure ()) i E c:=
   λb c i hq=>by cases b<;>first|exact wY hq|exact wpAny_rule hq
  have O:=layNew_perm t es ((PySem.strKind prog w).hash k) (.str k tk);have U:=layNew_fits t es ((PySem.strKind prog w).hash k) (.str k tk);have p:=MJ t es ((PySem.strKind prog w).hash k) (.str k tk);generalize T:layNew t es ((PySem.strKind prog w).hash k) (.str k tk)=L at O U p |-;obtain⟨u,V,W,N⟩:=L;dsimp only at O U p |-;rw[Array.toList_push]at O;have F:=(g.push D rr).perm O;have G:(u.toList.map (λe=>strOf e.2)).Perm (d++[k]):=(O.map _).trans (by rw[uW];exact M.append_right _);have l:(d++[k]).Nodup:=by
   rw[nodup_append];refine⟨nd,H9,λx hx y hy=>?_⟩;rw[mem_singleton]at hy;subst hy;exact λz=>hm (z ▸ hx)
  have hb1:(d++[k]).length<scanBound:=by rw[uZ];exact I
  refine wX (r _ ?_);have H:=λh' f m=>h true h' f (by rw[K];exact m);split
  .refine wX ?_;refine wY ?_;refine yM ?_ n B hd F G l hb1 ?_ ?_ ?_ ?_
   .intro b c i hq;cases b<;>first|exact wY hq|exact wpAny_rule hq
   .exact SetTable.fits_plain_off U
   .exact p.trans C
   .rfl
   .intro h' f m;dsimp only;exact wY (H h' f m)
  .rename_i P;refine wX (wY ?_);simp only[↓reduceIte];refine yM ?_ n B hd F G l hb1 U (p.trans C) (by simpa using P) ?_
   .intro b c i hq;cases b<;>first|exact wY hq|exact wpAny_rule hq
   .intro h' f m;dsimp only;exact wY (H h' f m)
end
def f9 (ss:LS):LS:=ss.foldl jE []
def qP (h:M.Nodup)(x:Str):(jE M x).Nodup:=by
 grind[jE]
def yN:y∈jE M x↔y∈M\/y=x:=by
 unfold jE;split
 .rename_i hm;exact⟨.inl,λz=>z.elim id λe=>e ▸ hm⟩
 .simp
def wU (ss:LS):∀M:LS,(ss.foldl jE M).length<=M.length+ss.length:=by
 induction ss with
 |nil=>simp
 |cons x r ih=>grind[Iv]
def mT (ss:LS):(f9 ss).length<=ss.length:=by have:=wU ss [];simpa [f9]using this
def Fz (ss:LS)(x:Str):f9 (ss++[x])=jE (f9 ss) x:=by simp_all[f9]
theorem StrsAre.at:∀ {vs:LU}{ss:LS},StrsAre vs ss->∀(i:Nat)(v:Value),vs[i]? = some v->∃x t,v=.str x t/\ss[i]? = some x
 |_,_,.nil,i,v,h=>by simp at h
 |_,_,.cons x t M,0,v,h=>by simp at h;exact⟨x,t,h.symm,rr⟩
 |_,_,.cons x t M,i+1,v,h=>by
  exact StrsAre.at M i v h
def jn.at (x:jn prog w h a U)(k:∀o,h.get? a=some o->h'.get? a=some o):jn prog w h' a U:=by
 obtain⟨o,es,M,t,O,r⟩:=x;exact⟨o,es,M,t,k o O,r⟩
section
variable {prog:Program}{w:World}{A:Around}{R:Result->Shared->Prop}{I:Addr}{fp wr:List Addr}{G:Array GenState->Array GenState->Prop}{n:Nat}{P:Nat->Value->Prop}{St:Nat->Shared->Prop}
def wV (W:WalksS prog w A.in1 I fp wr G n P St)(S:Addr)(U:S∉fp)(ss:LS)(hn:ss.length=n)
  (m:∀i v,P i v->∃x t,v=.str x t/\ss[i]? = some x) (hb:n+1<scanBound):
  ∀(k i:Nat)(s:Shared),n - i=k->i<=n->St i s->jn prog w s.heap S (f9 (ss.take i)) ->
   (∀s',Moved (S::wr) G s s'->jn prog w s'.heap S (f9 ss)->R (.ok (.ret .none)) s') ->
   codeAny (model prog w) A (.builtin "set.update.loop" ⟨[.ref S,.ref I],[]⟩) R s:=by
 have a:S∉wr:=λh=>U (W.sub _ h);have M:∀b∈wr,b∈S::wr:=λb hb=>mZ _ hb;intro k;induction k with
 |zero=>
  intro i s hk hi O j hR;have p:i=n:=N9
  subst p;refine codeAny_builtin PyProof.Rows.F.entry_set_update_loop ?_;refine wX (W.done s _ _ O λs' hm=>?_);refine wY (hR s' (hm.mono M) ?_);rw[List.take_of_length_le N9]at j;exact j.at λo e=>hm.heap S _ a e
 |succ k ih=>
  intro i s hk hi O j hR;have l:i<n:=N9
  refine codeAny_builtin PyProof.Rows.F.entry_set_update_loop ?_;refine wX (W.item i s _ _ l O λv s' q c hm=>?_);obtain⟨x,t,rfl,hx⟩:=m i v q;have r:jn prog w s'.heap S (f9 (ss.take i)):=j.at λo e=>hm.heap S _ a e;refine wX (wpAny_holding ?_);unfold setAdd;refine wpAny_holding ?_;refine wX ((PySem.strKind prog w).pyHash (k:=x) (strKind_is prog w x t) ?_);have hl:(f9 (ss.take i)).length+1<scanBound:=by have:=mT (ss.take i);rw[length_take]at this;lia
  refine Bg (s:={ s' with toks:=s'.toks+1 }) r hl λb h' d z=>?_;have u:jn prog w h' S (f9 (ss.take (i+1))):=by
   simp_all[take_add_one,Fz]
  refine wY ⟨plainId_quiet PyProof.Rows.F.plain_set_update_loop _,ih (i+1) _ N9 l (W.frame _ s' _ _ c (le_succ _) λb hb o e=>?_) u λy f g=>?_⟩
  .rw[d.2 b (λh:b=S=>U (by rw[<-h];exact hb))];exact e
  .refine hR y (Moved.trans W.gtrans ((hm.mono M).then_heap (le_succ _) λb o hb e=>?_) f) g;rw[d.2 b (λh:b=S=>hb (by rw[h];exact mX))];exact e
end
section
variable {prog:Program}{w:World}{A:Around}{E:QV}{s:Shared}
noncomputable abbrev dL (w:World):Obj:={ cls:=.type "set",dict:=none,data:=.set #[] 0 (.fresh 0 0 (!w.params.followText "set-order")) }
def yO (a:Value)
  (h:Q₁ (.ref s.z) { s with heap:=s.heap.push (dL w) }):
  codeAny (model prog w) A (.call (.builtin "set.__new__") ⟨[.type "set",a],[]⟩) (wants Q₁ E) s:=by
 refine codeAny_of_tree ?_;refine wX (wpAny_of_eq (PySem.F.newCall_set_1 a) (wY ⟨plainId_quiet PySem.F.plain_set_new _,codeAny_builtin PySem.F.entry_set_new ?_⟩));unfold Builtin.«set.__new__» Builtin.Frozenset.newClass;have M:=sub_set_self;wp_walk;refine wpAny_askSetting (wY ?_);refine wX (wpAny_alloc (wY ?_));exact wY h
set_option maxHeartbeats 3200000 in
def qQ
  (hh:A.handled=none) (hl:s.heap.IsList l items) (hi:StrsAre items.toList ss) (hb:items.size+1<scanBound)
  (h:∀(h':Heap)(tk:Nat),jn prog w h' s.z (f9 ss) ->
   (∀b o,b<s.z->s.heap.get? b=some o->h'.get? b=some o)->Q (.ref s.z) { s with heap:=h',toks:=tk }):
  wpAny (model prog w) A (call (.type "set") [.ref l]) Q E s:=by
 obtain⟨c,tl,I⟩:=called_set.mro;have J:=called_set.made;have K:=called_set.sub;refine wpAny_call (codeAny_of_tree ?_);show wpAny _ _ (callAny (.type "set") _) _ _ _;refine wY ⟨Code.quiet_builtin _ O9,codeAny_builtin PySem.F.entry_type_call ?_⟩;rw[Around.under_plain (weight_type_call_type "set" [.ref l] []) rr];have h1:=called_set.notType;have h2:=called_set.canCreate;have L:=PySem.F.typeCall_set_1 (.ref l);have N:ss.length=items.size:=by have:=hi.strs;grind
 repeat (any_goals (first|assumption|wp_step))
 refine codeAny_mono (yO (.ref l) (E:=E) (Q₁:=λobj U=>obj=.ref s.z/\U={ s with heap:=s.heap.push (dL w) }) ⟨rr,rr⟩) λr U g=>?_;cases r with
 |error e=>exact g
 |ok fl=>
  cases fl with
  |ret obj=>
   obtain⟨rfl,rfl⟩:=g;have y:(s.heap.push (dL w)).get? s.z=some (dL w):=vY _ rr;have P:Shared.TypeIs { s with heap:=s.heap.push (dL w) } (.ref s.z) "set":=⟨_,y,rr⟩;have S:=called_set.init.lookup;have T:=called_set.init.bind (.ref s.z);repeat (any_goals (first|assumption|wp_step))
   refine codeAny_mono (codeAny_call_builtin (R:=wants (λr a=>r=.none/\∃h' tk,a={ s with heap:=h',toks:=tk } /\
     jn prog w h' s.z (f9 ss) /\
     (∀b o,b<s.z->s.heap.get? b=some o->h'.get? b=some o)) E) called_set.init.plain PySem.F.entry_set_init (check_set_init_1 P ?_)) λf a M=>?_
   .obtain⟨V,B,C,D,G⟩:=hl;obtain⟨W,X,Y,O⟩:=V;simp only at C G;subst C;subst G;have j:(s.heap.push (dL w)).get? l=some { cls:=.type "list",dict:=X,data:=.seq items D,slots:=O }:=vZ _ B;have Z:=PySem.F.sub_list_set;have aeo:=PySem.F.sub_list_frozenset;have A3:(Value.type "list" == Value.type "dict")=false:=P9
    have H:(s.heap.push (dL w)).IsList l items:=⟨_,j,rr,D,rr⟩;unfold Builtin.«set.__init__» noKeywords Builtin.Frozenset.updateFrom;generalize k:pyIter=PI;wp_walk;subst k;refine wpAny_pyIter_list H ?_;refine wX (wpAny_runValue ?_);have hlS:l<s.z:=vX B;have m:A.in1.in1.in1.handled=none:=by simp[hh]
    have n:l≠(s.heap.push (dL w)).objs.size:=by
     simp_all[vS,lt_succ_of_lt]
    have YR:s.z∉[(s.heap.push (dL w)).objs.size,l]:=by
     simp_all[ne_of_gt]
    have SU:∀(i:Nat)(v:Value),items[i]? = some v->∃x t,v=.str x t/\ss[i]? = some x:=λi v hv=>
     StrsAre.at hi i v (by simp_all)
    refine wV ((Walks.list m _ l n items).toS) s.z
     YR ss N SU hb (items.size - 0) 0 _ N9 (uN _)
     ⟨⟨_,vY _ rr,rr,rr⟩,(H.push _)⟩ ?hS0 ?hR
    case hS0=>
     have p:((s.heap.push (dL w)).push { cls:=.type "list_iterator",data:=.fields #[.ref l,.int 0 0] }).get? s.z
       = some (dL w):=vZ _ y
     exact⟨_,#[],0,_,p,⟨rr,rr,rr⟩,rr,λe he=>by simp at he,List.Perm.refl _,nodup_nil,(by show(0:Nat)<scanBound;decide),rr,rr,λz=>absurd rr z⟩
    case hR=>
     intro s' hm q
     obtain⟨h',g',d',Yi,u⟩:=s'
     have eg:g'=s.gens:=hm.gens
     have ed:d'=s.drawn:=hm.drawn
     have eo:u=s.os:=hm.os
     subst eg;subst ed;subst eo
     show wpAny _ _ _ _ _ _
     refine wY ?_
     show wpAny _ _ (ret Value.none) _ _ _
     refine wY ⟨rr,h',Yi,rr,q,λb o hb e=>?_⟩
     have hb1:b≠s.z:=vS hb
     have hb2:b≠(s.heap.push (dL w)).objs.size:=by
      simp_all[vS,lt_succ_of_lt]
     exact hm.heap b o (by simp_all) (vZ _ (vZ _ e))
   .cases f with
    |error e=>exact M
    |ok d=>
     cases d with
     |ret r=>
      obtain⟨rfl,h',tk,rfl,q,PB⟩:=M;repeat (any_goals (first|assumption|wp_step))
      exact h _ _ q PB
     |_=>exact M.elim
  |_=>exact g.elim
end
open Sem (wp)
section
variable {M:Model}{A:Around}{E:QV}{s:Shared}
def ML (hn:n≠0)(h:∀k d,k<n->Q k { s with drawn:=d }):wpAny M A (choose src n) Q E s:=by
 intro O p U;refine⟨hn,?_⟩;have:=h _ (s.drawn.bump src) (Nat.mod_lt (M.w.draws src (s.drawn.get src)) (Nat.pos_of_ne_zero hn));simp_all
end
def mU {α:Type}:∀(l:List α)(i:Nat),i<l.length->(l.eraseIdx i).length=l.length - 1:=by grind
theorem lW {α:Type}:∀(l:List α)(i:Nat)(x:α),l[i]? = some x->(x::l.eraseIdx i).Perm l
 |[],i,x,h=>by simp at h
 |a::l,0,x,h=>by simp_all
 |a::l,i+1,x,h=>by
  exact(List.Perm.swap a x _).trans ((lW l i x h).cons a)
theorem C6 {α:Type}:∀(n:Nat)(xs:List α)(s:Shared)(Q:List α->Shared->Prop),xs.length=n->(∀ys d,ys.Perm xs->Q ys { s with drawn:=d })->wpAny M A (drawOrder n xs) Q E s
 |0,xs,s,Q,hl,h=>by
  have:=List.eq_nil_of_length_eq_zero hl;subst this;exact wY (h [] _ (List.Perm.refl _))
 |n+1,[],s,Q,hl,h=>by simp at hl
 |n+1,x::r,s,Q,hl,h=>by
  refine wX (ML H9 λk d hk=>?_);obtain⟨y,hy⟩:∃y,(x::r)[k]? = some y:=⟨_,vU hk⟩;rw[hy];refine wX (C6 n _ _ _ (by rw[mU _ _ hk,hl];rfl) λys d' hp=>wY (h _ _ ((hp.cons y).trans (lW _ _ _ hy))))
theorem C7 {α:Type}(next:Nat->Nat):∀(fuel k:Nat)(left:List α)(out:Array α),left.length=fuel->(pickOrder.go next fuel k left out).toList.Perm (out.toList++left)
 |0,k,left,out,hl=>by
  simp_all[pickOrder.go]
 |fuel+1,k,left,out,hl=>by
  unfold pickOrder.go;have hk:next k % left.length<left.length:=Nat.mod_lt _ N9;obtain⟨y,hy⟩:∃y,left[next k % left.length]? = some y:=⟨_,vU hk⟩;rw[hy];refine(C7 _ _ _ _ _ (by rw[mU _ _ hk];lia)).trans ?_;rw[Array.toList_push,append_assoc];exact(lW _ _ _ hy).append_left _
def F0 {α:Type}(next:Nat->Nat)(xs:Array α):(pickOrder next xs).toList.Perm xs.toList:=by
 grind[C7,pickOrder]
def be:Slot "set_iterator" "__next__" "set_iterator.__next__" :=
 .of (owner:="set_iterator") (n:="__next__") I9 O9 O9 O9
  (by first|exact .inl O9|exact .inr _) w9
def dZ:entryFor table "set_iterator.__next__" = some Builtin.«set_iterator.__next__»:=entryFor_of_tree w9
def fy (a:Value):argsOk "set_iterator.__next__" ⟨[a],[]⟩:=w9
def lJ:Slot "set_iterator" "__iter__" "set_iterator.__iter__" :=
 .of (owner:="set_iterator") (n:="__iter__") I9 O9 O9 O9
  (by first|exact .inl O9|exact .inr _) w9
def qR:entryFor table "set_iterator.__iter__" = some Builtin.«dict_keyiterator.__iter__» :=
 entryFor_alias (id':="dict_keyiterator.__iter__") w9 rr O9 w9
def tK (a:Value):argsOk "set_iterator.__iter__" ⟨[a],[]⟩:=w9
def pR:entryFor table "set.__iter__" = some Builtin.«frozenset.__iter__» :=
 entryFor_alias (id':="frozenset.__iter__") w9 rr O9 w9
noncomputable abbrev lX (M:Value)(i:Nat)(S:Addr)(n O:Nat):Obj:={ cls:=.type "set_iterator",data:=.fields #[M,.int i 0,.ref S,.int n 0,.int O 0] }
section
variable {prog:Program}{w:World}{A:Around}{E:QV}{s:Shared}{it S:Addr}{i ep:Nat}{o:Obj}{es:Array (Int×Value)}{t:SetTable}
def cU (M:s.heap.get? it=some (lX O i S n ep)):s.TypeIs (.ref it) "set_iterator":=⟨_,M,rr⟩
def wW {k k':Nat}{x:Value}{Q:Option Value->Shared->Prop}(M:s.heap.get? it=some (lX (.int k 0) i S es.size ep))
  (U:s.heap.get? S=some o) (hd:o.data=.set es ep t) (hf:t.fits es.size=true)
  (a:∀(b:Around)(c:QV)(O:Option (Value×Nat)->Shared->Prop),O (some (x,k')) s->wpAny (model prog w) b (setNext S k i ep) O c s)
  (d:∀h',h'.get? it=some (lX (.int k' 0) (i+1) S es.size ep)->Heap.SameBut it s.heap h'->Q (some x) { s with heap:=h' }):
  wpAny (model prog w) A (pyNext (.ref it)) Q E s:=by
 refine wX (wpAny_attempt (wpAny_callSpecial?_slot (cU M) be
  (wpAny_call_entry be (cU M) dZ ?_ (fy _))))
 show wpAny _ _ (fieldsOf _>>=_) _ _ s;refine wX (wpAny_fieldsOf M rr ?_);refine wX (wpAny_setEntries_of U hd hf ?_);rw[if_neg H9];refine wX (a _ _ _ ?_);refine wX (wpAny_setField_rec M H9 λh1 e b1=>?_);refine wX (wpAny_setField_rec e H9 λh2 e2 b2=>?_);exact wY ⟨x,rr,wY (d h2 (by simpa [rawInt,lX]using e2) (b1.trans b2))⟩
def wZ {k:Nat}{Q:Option Value->Shared->Prop}(hh:A.handled=none)(M:s.heap.get? it=some (lX (.int k 0) i S es.size ep))
  (U:s.heap.get? S=some o) (hd:o.data=.set es ep t) (hf:t.fits es.size=true)
  (a:∀(b:Around)(c:QV)(O:Option (Value×Nat)->Shared->Prop),O none s->wpAny (model prog w) b (setNext S k i ep) O c s)
  (d:∀h',Heap.ExtBut it s.heap h'->Q none { s with heap:=h' }):
  wpAny (model prog w) A (pyNext (.ref it)) Q E s:=by
 refine wX (wpAny_attempt (wpAny_callSpecial?_slot (cU M) be
  (wpAny_call_entry be (cU M) dZ ?_ (fy _))))
 show wpAny _ _ (fieldsOf _>>=_) _ _ s;refine wX (wpAny_fieldsOf M rr ?_);refine wX (wpAny_setEntries_of U hd hf ?_);rw[if_neg H9];refine wX (a _ _ _ ?_);refine wX (wpAny_setField_rec M H9 λh1 e b1=>?_);refine wX ?_;refine wX (m:=firstArgMember _ _) (wpAny_of_eq I9 ?_);refine wpAny_newObj_type ?_ q9;refine wX (wpAny_handled ?_);rw[show A.in1.handled=none from hh];refine wX (wY (wpAny_throw ?_));refine wX (wpAny_isInstance ⟨_,vY _ rr,rr⟩ isSubtype_stop ?_);exact wY (d _ ((b1.extBut.push _).push _))
def tL {T:Addr}{pl:LN}{p:Nat}{x:Int×Value}{nt:Nat}{Q:Option Value->Shared->Prop}(M:s.heap.get? it=some (lX (.ref T) i S es.size ep))
  (a:s.heap.get? T=some (seqObj "tuple" (pl.map λ(p:Nat)=>Value.int p 0).toArray nt))
  (U:s.heap.get? S=some o) (hd:o.data=.set es ep t) (hf:t.fits es.size=true) (hp:pl[i]? = some p) (hx:es[p]? = some x)
  (b:∀h',h'.get? it=some (lX (.ref T) (i+1) S es.size ep)->Heap.SameBut it s.heap h'->Q (some x.2) { s with heap:=h' }):
  wpAny (model prog w) A (pyNext (.ref it)) Q E s:=by
 refine wX (wpAny_attempt (wpAny_callSpecial?_slot (cU M) be
  (wpAny_call_entry be (cU M) dZ ?_ (fy _))))
 show wpAny _ _ (fieldsOf (.ref it)>>=_) _ _ s;refine wX (wpAny_fieldsOf M rr ?_);refine wX (wpAny_setEntries_of U hd hf ?_);rw[if_neg H9];refine wX (wpAny_seqItems a rr ?_);have O:(pl.map λ(p:Nat)=>Value.int p 0).toArray[(i:Int).toNat]? = some (.int p 0):=by simp[hp]
 dsimp only;rw[O];have e2:wpAny (model prog w) A.in1 (setNextDrawn S (p:Int).toNat (ep:Int).toNat) (λy s'=>y=x.2/\s'=s) (λ_ _=>False) s:=by
  refine wX (wpAny_setState_of U hd hf ?_);simp_all[wY]
 refine wX (wpAny_mono e2 (λy s' hy=>?_) λ_ _ z=>z.elim);obtain⟨rfl,rfl⟩:=hy;refine wX (wpAny_setField_rec M H9 λh1 O b1=>?_);exact wY ⟨_,rr,wY (b h1 (by simpa [rawInt,lX]using O) b1)⟩
def tM {T:Addr}{pl:LN}{nt:Nat}{Q:Option Value->Shared->Prop}(hh:A.handled=none)(M:s.heap.get? it=some (lX (.ref T) i S es.size ep))
  (U:s.heap.get? T=some (seqObj "tuple" (pl.map λ(p:Nat)=>Value.int p 0).toArray nt))
  (a:s.heap.get? S=some o) (hd:o.data=.set es ep t) (hf:t.fits es.size=true) (hp:pl[i]? = none)
  (b:∀h',Heap.ExtBut it s.heap h'->Q none { s with heap:=h' }):
  wpAny (model prog w) A (pyNext (.ref it)) Q E s:=by
 refine wX (wpAny_attempt (wpAny_callSpecial?_slot (cU M) be
  (wpAny_call_entry be (cU M) dZ ?_ (fy _))))
 show wpAny _ _ (fieldsOf _>>=_) _ _ s;refine wX (wpAny_fieldsOf M rr ?_);refine wX (wpAny_setEntries_of a hd hf ?_);rw[if_neg H9];refine wX (wpAny_seqItems U rr ?_);have O:(pl.map λ(p:Nat)=>Value.int p 0).toArray[(i:Int).toNat]? = none:=by simpa using hp
 dsimp only;rw[O];refine wX (wpAny_setField_rec M H9 λh0 c d=>?_);refine wX (wpAny_setField_rec c H9 λh1 O b1=>?_);refine wX ?_;refine wX (m:=firstArgMember _ _) (wpAny_of_eq I9 ?_);refine wpAny_newObj_type ?_ q9;refine wX (wpAny_handled ?_);rw[show A.in1.handled=none from hh];refine wX (wY (wpAny_throw ?_));refine wX (wpAny_isInstance ⟨_,vY _ rr,rr⟩ isSubtype_stop ?_);exact wY (b _ (((d.trans b1).extBut.push _).push _))
def yP (M:s.heap.get? it=some (lX O i S n ep))(h:Q (.ref it) s):wpAny (model prog w) A (pyIter (.ref it)) Q E s:=by
 refine wpAny_pyIter_slot (cU M) lJ (wpAny_call_entry lJ (cU M) qR ?_ (tK _));exact wY ⟨_,rr,"set_iterator",_,cU M,be.lookup,h⟩
end
section
variable {prog:Program}{w:World}{A:Around}{E:QV}{s:Shared}{it S:Addr}{i k ep:Nat}{o:Obj}{es:Array (Int×Value)}{t:SetTable}
def um (M:s.heap.get? S=some o)(hd:o.data=.set es ep t)(hf:t.fits es.size=true)(hb:w.params.followText "set-order" = true)
  (h:Q (((pickOrder (w.params.setOrder S ep) es)[i]?).map λe=>(e.2,k)) s):wpAny (model prog w) A (setNext S k i ep) Q E s:=by
 refine wX (wpAny_setState_of M hd hf ?_);show wpAny _ _ (if w.params.followText _=true then _ else _) _ _ _;rw[if_pos hb,if_neg H9];refine wX (wX (wpAny_setState_of M hd hf ?_));show wpAny _ _ (if w.params.followText _=true then _ else _) _ _ _;rw[if_pos hb];refine wX (wpAny_askSetting (wY ?_));exact wY h
def qS (M:s.heap.get? S=some o)(hd:o.data=.set es ep t)(hf:t.fits es.size=true)(hb:w.params.followText "set-order" = false)(hl:t.led=true)(hz:es.size<=1)
  (h:Q (match es[SetTable.below t.place k]?,t.place[SetTable.below t.place k]? with
   |some (_,x),some j=>some (x,j+1)
   |_,_=>none) s):wpAny (model prog w) A (setNext S k i ep) Q E s:=by
 refine wX (wpAny_setState_of M hd hf ?_);show wpAny _ _ (if w.params.followText _=true then _ else _) _ _ _;rw[if_neg (by rw[hb];simp)];show wpAny _ _ (if(!t.plain && decide _)=true then _ else _) _ _ _;rw[if_neg (by simp_all)];show wpAny _ _ ((if(!t.led && !es.isEmpty)=true then unsupported _ else pure ())>>=_) _ _ _;rw[hl];exact wY h
def uo (hh:A.handled=none)(hd:o.data=.set es ep t)(hf:t.fits es.size=true)(c:S≠it)(vs:LU)(hv:vs.length=es.size)(sl:Nat->Nat)
  (d:∀i x,vs[i]? = some x->∀(O:Around)(U:QV)(s:Shared)(M:Option (Value×Nat)->Shared->Prop),s.heap.get? S=some o->M (some (x,sl (i+1))) s->wpAny (model prog w) O (setNext S (sl i) i ep) M U s)
  (f:∀(O:Around)(U:QV)(s:Shared)(M:Option (Value×Nat)->Shared->Prop),s.heap.get? S=some o->M none s->wpAny (model prog w) O (setNext S (sl es.size) es.size ep) M U s):
  Walks prog w A it [it,S] [it] es.size (λi v=>vs[i]? = some v) (λi h=>h.get? it=some (lX (.int (sl i) 0) i S es.size ep)/\h.get? S=some o) where
 sub:=λb hb=>by simp at hb;simp[hb]
 frame:=λ_ _ _ st hk=>⟨hk it H9 _ st.1,hk S H9 _ st.2⟩
 item:=λi s Q E hi st a=>by
  obtain⟨x,hx⟩:∃x,vs[i]? = some x:=⟨_,vU N9⟩;refine wW st.1 st.2 hd hf (λO U M q=>d i x hx O U s M st.2 q) λh' h1 h2=>?_;exact a x h' _ hx ⟨h1,h2.extBut S _ c st.2⟩ λb u hb e=>h2.extBut b u (λz=>hb (by simp[z])) e
 done:=λs Q E st a=>wZ hh st.1 st.2 hd hf (λO U M q=>f O U s M st.2 q) λh' h1=>a h' _ λb u hb e=>h1 b u (λz=>hb (by simp[z])) e
 self:=λ_ _ _ _ st a=>yP st.1 a
def Bh {T:Addr}{pl:LN}{nt:Nat}(hh:A.handled=none)(hd:o.data=.set es ep t)(hf:t.fits es.size=true)(U:S≠it)(a:T≠it)(hp:pl.Perm (List.range es.size)):
  Walks prog w A it [it,S,T] [it] es.size (λi v=>(pl.map λp=>(es.getD p (0,.none)).2)[i]? = some v)
   (λi h=>h.get? it=some (lX (.ref T) i S es.size ep)/\h.get? S=some o/\h.get? T=some (seqObj "tuple" (pl.map λ(p:Nat)=>Value.int p 0).toArray nt)) where
 sub:=λb hb=>by simp at hb;simp[hb]
 frame:=λ_ _ _ st hk=>⟨hk it H9 _ st.1,hk S H9 _ st.2.1,hk T H9 _ st.2.2⟩
 item:=λi s Q E hi st M=>by
  have O:pl.length=es.size:=by rw[hp.length_eq,length_range]
  obtain⟨p,hx⟩:∃p,pl[i]? = some p:=⟨_,vU N9⟩;have c:=mem_range.mp (hp.mem_iff.mp (vL hx));have he:es[p]? = some (es.getD p (0,.none)):=by simp_all
  refine tL st.1 st.2.2 st.2.1 hd hf hx he λh' h1 h2=>?_;exact M _ h' s.toks (by simp[hx]) ⟨h1,h2.extBut S _ U st.2.1,h2.extBut T _ a st.2.2⟩ λb u hb e=>h2.extBut b u (λz=>hb (by simp[z])) e
 done:=λs Q E st M=>by
  have O:pl.length=es.size:=by rw[hp.length_eq,length_range]
  exact tM hh st.1 st.2.2 st.2.1 hd hf (getElem?_eq_none N9) λh' h1=>M h' s.toks λb u hb e=>h1 b u (λz=>hb (by simp[z])) e
 self:=λ_ _ _ _ st M=>yP st.1 M
end
def Bi {α:Type}(es:Array α)(d:α):(List.range es.size).map (λp=>es.getD p d)=es.toList:=by
 apply ext_getElem?;intro i;by_cases h:i<es.size
 .simp_all
 simp_all
section
variable {prog:Program}{w:World}{A:Around}{E:QV}{s:Shared}
def uq (h:xs=#[j]):SetTable.below xs k=if j<k then 1 else 0:=by
 simp_all[SetTable.below,SetTable.below.go]
def Iw {S:Addr}{f:LS}{Q:QV}(H:jn prog w s.heap S f)
  (n:∀(h':Heap)(d:Drawn)(it:Addr)(vs:LU)(fp:List Addr)(St:Nat->Heap->Prop),(∀a,a.handled=none->Walks prog w a it fp [it] f.length (λi v=>vs[i]? = some v) St)->St 0 h' ->
   (∀b u,s.heap.get? b=some u->h'.get? b=some u)->s.z<=it->(∀b∈fp,b=S\/s.z<=b)->vs.length=f.length->(vs.map strOf).Perm f->(∀v∈vs,∃x t,v=.str x t) ->
   Q (.ref it) { s with heap:=h',drawn:=d }):wpAny (model prog w) A (pyIter (.ref S)) Q E s:=by
 refine cX λW Y=>?_;obtain⟨o,es,c,t,U,I,hd,J,hp,nd,hb,hf,K,L⟩:=H;apply Y;clear Y;have sz:es.size=f.length:=by rw[<-hp.length_eq,vI,vG]
 have C:S<s.z:=vX U;have g:s.TypeIs (.ref S) "set":=⟨_,U,I.1⟩;have N:∀e∈es.toList,∃x t,e.2=.str x t:=λe he=>by
  obtain⟨⟨k,hk,_⟩,_⟩:=J e he;obtain⟨t,q⟩:=Value.isStrOf_shape (show Value.isStrOf k e.2=true from hk);exact⟨k,t,q⟩
 refine wpAny_pyIter_slot g slot_set_iter (wpAny_call_entry slot_set_iter g pR ?_ (PySem.F.args_set_iter_1 _));show wpAny _ _ (Builtin.Frozenset.sizeOf S>>=_) _ _ s;unfold Builtin.Frozenset.sizeOf;refine wX (wX (wpAny_setEntries_of U hd hf (wY ?_)));unfold setDrawn setsByText;refine wX (wX (wpAny_setState_of U hd hf ?_));dsimp only;refine wX (wX (wpAny_askSetting (wY (wY ?_))));show wpAny _ _ (if(!w.params.followText "set-order" && (!t.plain && decide (es.size > 1)))=true then _ else _) _ _ _;have D:(es.toList.map (·.2)).map strOf=es.toList.map (λe=>strOf e.2):=by rw[uP];rfl
 by_cases M:w.params.followText "set-order" = true
 .rw[if_neg (by rw[M];simp)];refine wX (wY ?_);refine wX (wpAny_setEpoch_of U hd hf ?_);have pp:=F0 (w.params.setOrder S c) es;have G:((pickOrder (w.params.setOrder S c) es).toList.map (·.2)).length=es.size:=by rw[vI,pp.length_eq,vG]
  refine wX (wpAny_newObj_type (wY ⟨_,rr,"set_iterator",_,⟨_,vY _ rr,rr⟩,be.lookup,?_⟩));refine n _ s.drawn s.z ((pickOrder (w.params.setOrder S c) es).toList.map (·.2)) [s.z,S] (λi h=>h.get? s.z=some (lX (.int ((λ_=>0:Nat->Nat) i:Nat) 0) i S es.size c)/\h.get? S=some o) (λa l=>?_) ?_ (λb u e=>vZ _ e) (vT _) (λb hb=>?_) (G.trans sz) ?_ ?_
  .rw[<-sz];exact uo l hd hf (vS C) _ G (λ_=>0) (λi x hx a r s y h1 h2=>um h1 hd hf M (by
    rw[vA,Array.getElem?_toList]at hx;obtain⟨e,he,rfl⟩:=oY hx;rw[he];exact h2)) (λa r s y h1 h2=>um h1 hd hf M (by
    simp_all))
  .exact⟨vY _ rr,vZ _ U⟩
  .grind
  .grind
  grind
 .rw[Bool.not_eq_true]at M;have hl:t.led=true:=by rw[K,M];rfl
  by_cases h1:es.size<=1
  .rw[if_neg (by simp_all)];refine wX (wY ?_);refine wX (wpAny_setEpoch_of U hd hf ?_);refine wX (wpAny_newObj_type (wY ⟨_,rr,"set_iterator",_,⟨_,vY _ rr,rr⟩,be.lookup,?_⟩));have P:t.place.size=es.size:=by
    simp_all[SetTable.fits]
   refine n _ s.drawn s.z (es.toList.map (·.2)) [s.z,S] (λi h=>h.get? s.z=some (lX (.int ((λi=>if i=0 then 0 else t.place.getD 0 0+1:Nat->Nat) i:Nat) 0) i S es.size c)/\h.get? S=some o) (λa l=>?_) ?_ (λb u e=>vZ _ e) (vT _) (λb hb=>?_) (by simp_all) (by rw[D];exact hp) ?_
   .rw[<-sz];refine uo l hd hf (vS C) _ H9 (λi=>if i=0 then 0 else t.place.getD 0 0+1) (λi x hx a r s y z q2=>qS z hd hf M hl h1 ?_) (λa r s y z q2=>qS z hd hf M hl h1 ?_)
    .have hi:i<es.size:=by have:=(vV hx).1;simpa using this
     have R:i=0:=N9
     subst R;obtain⟨j,hj⟩:∃j,t.place=#[j]:=Array.size_eq_one_iff.mp N9;rw[if_pos rr,uq hj,if_neg N9];rw[vA,Array.getElem?_toList]at hx;obtain⟨e,he,rfl⟩:=oY hx;rw[he];simp only[hj]at q2 |-;simpa using q2
    .by_cases h0:es.size=0
     .have m:t.place=#[]:=Array.eq_empty_of_size_eq_zero N9;have B:es=#[]:=Array.eq_empty_of_size_eq_zero h0;rw[m,B];simpa using q2
     .obtain⟨j,hj⟩:∃j,t.place=#[j]:=Array.size_eq_one_iff.mp N9;rw[if_neg h0,uq hj];have:t.place.getD 0 0=j:=by rw[hj];rfl
      rw[this,if_pos N9,Array.getElem?_eq_none N9];exact q2
   .exact⟨vY _ rr,vZ _ U⟩
   .grind
   grind
  .have m:t.plain=false:=L N9;rw[if_pos (by simp_all)];refine wX (C6 es.size (List.range es.size) _ _ H9 λpl d pp=>?_);refine wX (wpAny_newTuple ?_ (by rw[vI,pp.length_eq,length_range,sz];exact fits_of_scanBound hb));refine wX (wpAny_setEpoch_of (vZ _ U) hd hf ?_);refine wX (wpAny_newObj_type (wY ⟨_,rr,"set_iterator",_,⟨_,vY _ rr,rr⟩,be.lookup,?_⟩));have hsz:(s.heap.push (seqObj "tuple" (pl.map λ(p:Nat)=>Value.int p 0).toArray 0)).objs.size=s.z+1:=size_push' _ _;have O:((pl.map λp=>(es.getD p (0,.none)).2)).Perm (es.toList.map (·.2)):=by
    have:=(pp.map λp=>es.getD p (0,Value.none)).map (·.2);rw[Bi]at this;rw[uP]at this;exact this
   refine n _ d _ (pl.map λp=>(es.getD p (0,.none)).2) [(s.heap.push (seqObj "tuple" (pl.map λ(p:Nat)=>Value.int p 0).toArray 0)).objs.size,S,s.z] (λi h=>h.get? (s.heap.push (seqObj "tuple" (pl.map λ(p:Nat)=>Value.int p 0).toArray 0)).objs.size=some (lX (.ref s.z) i S es.size c)/\h.get? S=some o/\h.get? s.z=some (seqObj "tuple" (pl.map λ(p:Nat)=>Value.int p 0).toArray 0)) (λa l=>?_) ?_ (λb u e=>vZ _ (vZ _ e)) ?_ (λb hb=>?_) ?_ ?_ ?_
   .rw[<-sz];exact Bh (nt:=0) l hd hf (by simp_all[vS,lt_succ_of_lt]) H9 pp
   .exact⟨vY _ rr,vZ _ (vZ _ U),vZ _ (vY _ rr)⟩
   .simp
   .grind
   .rw[O.length_eq,vI,vG,sz]
   .exact((O.map strOf).trans (by rw[D])).trans hp
   .intro v hv;obtain⟨e,he,rfl⟩:=vO (O.mem_iff.mp hv);exact N e he
end
def F3 (h:ItemsOf (λi v=>vs[i]? = some v) M vs.length):M.toList=vs:=by
 apply ext_getElem?;intro i;by_cases hi:i<M.size
 .have e:=Array.getElem?_eq_getElem hi;rw[Array.getElem?_toList,e,h.2 i _ e]
 .rw[getElem?_eq_none (by rw[vG];lia),getElem?_eq_none (by rw[<-h.1];lia)]
section
variable {prog:Program}{w:World}{A:Around}{E:QV}{s:Shared}
def yQ (hh:A.handled=none)(j:jn prog w s.heap S ts)
  (B:∀s' vs,(∀b u,s.heap.get? b=some u->s'.heap.get? b=some u)->s'.gens=s.gens->s'.os=s.os->vs.length=ts.length->(vs.map strOf).Perm ts->(∀v∈vs,∃x t,v=.str x t)->Q vs s'):
  wpAny (model prog w) A (collect (.ref S)) Q E s:=by
 have M:∀(s1:Shared),jn prog w s1.heap S ts->s1.TypeIs (.ref S) "set":=λs1 h=>by
  obtain⟨o,_,_,_,k,C,_⟩:=h;exact⟨o,k,C.1⟩
 have D:S<s.z:=by obtain⟨o,_,_,_,k,_⟩:=j;exact vX k
 have U:ts.length<scanBound:=by obtain⟨_,_,_,_,_,_,_,_,_,_,h,_⟩:=j;exact h
 unfold collect;refine wX (wpAny_runValue (codeAny_builtin PySem.F.entry_proto_collect ?_));refine wX (wpAny_newObj_type ?_);refine wY ⟨plainId_quiet PySem.F.plain_list_iadd _,codeAny_builtin PySem.F.entry_list_iadd ?_⟩;show wpAny _ A.in1 (Builtin.List.listExtendWith (.ref s.z) (.ref S) (.ref s.z)) _ _ _;unfold Builtin.List.listExtendWith;have a:jn prog w (s.heap.push { cls:=.type "list",data:=.seq ([]:LU).toArray }) S ts:=j.at λo e=>vZ _ e;refine wX (wpAny_typeOf (M _ a) ?_);have G:s.z≠S:=ne_of_gt D;have h1:Builtin.List.listSameRef (.ref s.z) (.ref S)=false:=by simp[Builtin.List.listSameRef,G]
 have h2:(Value.type "set" == Value.type "list")=false:=P9
 have h3:(Value.type "set" == Value.type "tuple")=false:=P9
 simp only[h1,h2,h3,Bool.or_false,uV,if_false];refine wX (Iw a λh' d it vs fp St W H hk wl I p c J=>?_);have l:jn prog w h' S ts:=a.at λo e=>hk _ _ e;refine wX (wpAny_holding ?_);unfold Builtin.List.listLengthHint;refine wX (wpAny_specialOf (M _ l) PySem.F.slot_set_len.lookup ?_);wp_delta;refine wX (wpAny_isInstance (M _ l) sub_set_self ?_);refine wX (wpAny_typeOf (M _ l) ?_);refine wY ?_;rw[if_pos P9];refine wX (wpAny_rule ?_);refine wX ?_;have K:(s.heap.push { cls:=.type "list",data:=.seq ([]:LU).toArray }).objs.size=s.z+1:=size_push' _ _;have f:=hk _ _ (vY _ rr);refine wX (wpAny_updateSeq f rr ?_);have g:=Heap.get?_update_self (Obj.mapSeq (·.push Value.none)) f rr;refine wpAny_updateSeq g rr ?_;have m:=Heap.get?_update_self (Obj.mapSeq (·.pop)) g rr;have q:s.z∉fp:=λhm=>by
  grind
 have r:∀b u,b≠s.z->h'.get? b=some u ->
   ((h'.update s.z (Obj.mapSeq (·.push Value.none))).update s.z (Obj.mapSeq (·.pop))).get? b=some u:=
  λb u hb e=>(Heap.get?_update_other _ _ (Ne.symm hb)).trans ((Heap.get?_update_other _ _ (Ne.symm hb)).trans e)
 have y:=W A.in1 hh;refine wY ⟨plainId_quiet plain_extend_loop _,codeAny_extend_loopS y.toS (fits_of_scanBound U) _ q _ ts.length 0 _ _ _ rr (uN _)
  (y.frame 0 _ _ H λb hb u e=>r b u (λz=>q (z ▸ hb)) e) m (ItemsOf.nil _) λs' i L hm n O=>?_⟩
 refine wX (wpAny_load n ?_);rw[<-p]at O;refine wY ?_;show Q i.toList s';rw[F3 O];refine B s' vs (λb u e=>hm.heap b u (λhb=>?_) (r b u (vS (vX e)) (hk _ _ (vZ _ e)))) hm.gens hm.os p c J;have hl:=vX e;simp_all<;>lia
def Bj (hh:A.handled=none)(i:jn prog w s.heap S ts)(j:ts.length<64)
  (k:∀(s1:Shared)(h':Heap)(a:Addr)(out:AV)(n:Nat)(M:LS),(∀b u,s.heap.get? b=some u->s1.heap.get? b=some u)->s1.os=s.os->s1.gens=s.gens->(∀b u,s1.heap.get? b=some u->h'.get? b=some u)->s1.z<=a->h'.get? a=some (seqObj "list" out n) ->
   StrsAre out.toList M->M.Perm ts->sortedS M=true->Q (.ref a) { s1 with heap:=h' }):
  wpAny (model prog w) A (call (.builtin "sorted") [.ref S]) Q E s:=by
 refine Calls.call_function_entry kind_sorted plain_sorted entry_sorted (args_sorted1 _) ?_;refine wX (wY ?_);refine wX (yQ (by exact hh) i λs1 vs hk l c f O m=>?_);have U:=strsAre_map vs m;refine wX (wpAny_newList ?_ (by rw[f,sizeLine_eq];lia));have d:(s1.heap.push _).get? _=some (seqObj "list" vs.toArray 0):=vY _ rr;refine wX (wpAny_holding (wpAny_call_entry slot_list_sort ⟨_,d,rr⟩ entry_list_sort (list_sort_treeK strKind_oneLt d U.keysOf (λg h ai e=>keyKind_strs (by rw[<-e];exact U)) (by rw[f];exact j) λr o p=>⟨_,rr,?_⟩) (args_list_sort _)));obtain⟨M,b1,b2,b3⟩:=sorted_out_str U o p;obtain⟨e,he⟩:=sortedHeap_at d;refine wY ⟨_,rr,k s1 _ _ _ e M hk c l (λb u q=>?_) (vT _) he b1 (b2.trans O) b3⟩;have hl:=vX q;rw[sortedHeap_old (vS hl) (by simp_all[lt_succ_of_lt])];exact vZ _ q
end
end DL
namespace DL
open PySem PySem.Spec PyProof.Rows L2
def yR (a b:Str):Prop:=¬b.cps.toList<a.cps.toList
def C8:ltCps b.cps.toList a.cps.toList=false↔yR a b:=by rw[ltCps_eq,decide_eq_false_iff_not];rfl
def ur (h:yR a b)(k:yR b c):yR a c:=by
 grind[yR]
def Ix (h:yR a b)(k:yR b a):a=b:=by
 have e:=List.le_antisymm (not_lt.mp h) (not_lt.mp k);obtain⟨a⟩:=a;simp_all
noncomputable def Bk (x:Str):LS->LS
 |[]=>[x]
 |y::r=>if ltCps y.cps.toList x.cps.toList then y::Bk x r else x::y::r
def mV (l:LS):LS:=l.foldr Bk []
theorem om (x:Str):∀l,(Bk x l).Perm (x::l)
 |[]=>List.Perm.refl _
 |y::r=>by
  unfold Bk;split
  .exact((om x r).cons y).trans (List.Perm.swap x y r)
  rfl
theorem cV:∀l,(mV l).Perm l
 |[]=>List.Perm.refl _
 |x::l=>(om x _).trans ((cV l).cons x)
theorem ut (x:Str):∀l,l.Pairwise yR->(Bk x l).Pairwise yR
 |[],_=>by simp[Bk]
 |y::r,h=>by
  obtain⟨h1,h2⟩:=pairwise_cons.mp h;unfold Bk;split
  .rename_i hl;refine pairwise_cons.mpr ⟨λz hz=>?_,ut x r h2⟩;rcases vP ((om x r).mem_iff.mp hz)with rfl|hz
   .rw[ltCps_eq,decide_eq_true_eq]at hl;exact λk=>lt_irrefl _ (lt_trans hl k)
   simp_all
  .rename_i hl;rw[Bool.not_eq_true]at hl;have M:=C8.mp hl;refine pairwise_cons.mpr ⟨λz hz=>?_,h⟩;rcases vP hz with rfl|hz
   .exact M
   .exact ur M (h1 z hz)
theorem qT:∀l,(mV l).Pairwise yR
 |[]=>List.Pairwise.nil
 |x::l=>ut x _ (qT l)
theorem pw:∀(l:LS)(p:Str),risingS p l=true->(p::l).Pairwise yR
 |[],p,_=>List.pairwise_singleton _ _
 |x::r,p,h=>by
  have h':(!ltCps _ _ && risingS x r)=true:=h;rw[vC]at h';have M:=C8.mp (by simpa using h'.1);have ih:=pw r x h'.2;refine pairwise_cons.mpr ⟨λz hz=>?_,ih⟩;rcases vP hz with rfl|hz
  .exact M
  .exact ur M ((pairwise_cons.mp ih).1 z hz)
theorem yS:∀(l:LS),sortedS l=true->l.Pairwise yR
 |[],_=>List.Pairwise.nil
 |x::r,h=>pw r x h
def yT (a:Str):yR a a:=lt_irrefl _
theorem qU:∀(l1 l2:LS),l1.Perm l2->l1.Pairwise yR->l2.Pairwise yR->l1=l2
 |[],l2,p,_,_=>(nil_perm.mp p).symm
 |x::U,[],p,_,_=>absurd p.length_eq H9
 |x::U,y::a,p,h1,h2=>by
  have M:yR x y:=by
   rcases vP (p.mem_iff.mpr (mX ..))with z|z
   .rw[z];exact yT _
   simp_all
  have O:yR y x:=by
   rcases vP (p.mem_iff.mp (mX ..))with z|z
   .rw[z];exact yT _
   simp_all
  have e:=Ix M O;subst e;rw[qU U a (List.Perm.cons_inv p) (pairwise_cons.mp h1).2 (pairwise_cons.mp h2).2]
def F4 (p:M.Perm l)(h:sortedS M=true):M=mV l:=qU _ _ (p.trans (cV l).symm) (yS _ h) (qT l)
section
variable {X:Cx}
noncomputable def yU (X:Cx)(S:Addr)(M:LS):HO:=.ext λh=>jn X.prog X.w h S M
def uu (I:Inv X af σ H s)(k:∀b u,s.heap.get? b=some u->s1.heap.get? b=some u)(M:s1.os=s.os)(U:s1.gens=s.gens):Inv X af σ H s1:=by
 have a:=I.step (d':=s1.drawn) (t':=s1.toks) (ch:=[]) (λ_ z=>nomatch z) (λb o _ _ _ e _=>k b o e) (λb o _ _ _ e _=>⟨o.slots,k b o e⟩) (λ_ _ _ _ n=>n)
  (λb o _ e=>⟨o,k b o e⟩) (λ_ _ e=>e) (λ_ _ _ e=>e) (λ_ _ e=>e) (λm hm=>?_) (I.hok.kept k) I.bare
 .obtain⟨h1,g1,d1,c,d⟩:=s1;simp_all
 .obtain⟨o,es,O,M,r⟩:=hm;exact⟨o,es,O,k _ o M,r⟩
def px (hc:X.calm=true):b7 X (.type "set") (λxs H Q=>∃p ys ss,xs=[.ref p]/\eN X.K H p ys/\(∀its,aL ys its->StrsAre its ss)/\ss.length<4000/\∀S,H S=none->Q (.ref S) (upd H S (yU X S (f9 ss)))):=by
 intro af s σ H xs us Q I r h;obtain⟨p,ys,ss,rfl,hq,hs,f,q⟩:=h;obtain⟨u,rfl,a⟩:=gh r;cases a
 refine I.lisE hq λits c pl hz=>?_;have M:=hs _ c;have O:its.length=ss.length:=by rw[<-M.strs,vI]
 refine qQ (I.ok.hd hc) pl.isList (by simpa using M) (by simp [vH];unfold scanBound;lia) λh' tk U hk=>?_;refine⟨.ref _,_,I.laid (λb u e=>hk b u (vX e) e) (vT _) ?_,rr,q _ (I.hok.fresh (vT _))⟩;refine⟨U,?_,λh1 h2 z k=>z.at k⟩;obtain⟨o,_,_,_,d,_⟩:=U;exact⟨o,d⟩
def pT (hc:X.calm=true):b7 X (.builtin "sorted") (λxs H Q=>∃S O,xs=[.ref S]/\H S=some (yU X S O)/\O.length<64/\∀l,H l=none->Q (.ref l) (upd H l (.lst ((mV O).map .str)))):=by
 intro af s σ H xs us Q I r h;obtain⟨S,O,rfl,c,U,q⟩:=h;obtain⟨u,rfl,d⟩:=gh r;cases d
 have f:=(I.hok S _ c).1;refine Bj (I.ok.hd hc) f U λs1 h' a out n g k1 i j k2 hp he k M m=>?_;have e:=F4 M m;subst e;have b:=uu I k1 i j;have hv:∀ {its:List _}{zs:List _},StrsAre its zs->aL (zs.map V.str) its:=λz=>by
  induction z with
  |nil=>exact .nil
  |cons x t _ ih=>exact .cons ⟨t,rr⟩ ih
 refine⟨.ref a,_,b.laid k2 hp (show bg _ _ _ h' _ (.lst _)from ⟨?_,out.toList,n,hv k,he⟩),rr,q _ (b.hok.fresh hp)⟩;rw[vI,(cV O).length_eq,sizeLine_eq];lia
end
@[simp] def jT:D->OB
 |.lst ds=>(eO ds).bind λss=>if ss.length<64 then some (.lst ((mV (f9 ss)).map .str),true)else none
 |_=>none
@[simp] def MN:D->OB
 |.lst ds=>(eO ds).bind λss=>if ss.length<4000 then some (.int ((f9 ss).length:Nat),false)else none
 |_=>none
def qV:bootBuiltins "sorted" = some (.builtin "sorted"):=O9
def OX:bootBuiltins "set" = some (.type "set"):=O9
theorem qW {K:Frag}{N:Hp}:∀(zs:LS),IsL K N (zs.map V.str) (zs.map D.str)
 |[]=>.nil
 |z::zs=>.cons (.str z) (qW zs)
section
variable {X:Cx}{e:Expr}{pos pos2 p p2:Pos}
def Bl (hc:X.calm=true)(m1:X.mg "sorted" = none)(m2:X.mg "set" = none)(he:JE X e f)(g1:Gl X "sorted")(c:Gl X "set")
  (h1:cQ e [] X.env):JE X (.Call (.Name "sorted" p) [.Call (.Name "set" p2) [e] [] pos2] [] pos) (f1 jT f):=by
 refine PE.to (qC (pT hc) g1 m1 qV (de (oe (px hc) c m2 OX (de he fH h1) (he:=h1)) fH)) λσ H Q q=>?_;refine cX λG K=>?_;obtain⟨B,ρ,d',bb,d,r,M,q⟩:=q;refine eX M λa ex M=>?_;apply K;clear K;refine⟨B,ρ,a.1,a.2,d,r,ex,λv s N1 U i1 t=>?_⟩;obtain⟨xd,u⟩:=a;cases i1<;>try (simp[jT]at M;done)
 rename_i w vs ds h hl;refine eX M λss g M=>?_;split at M
 .rename_i i;cases M
  refine⟨_,_,ss,rr,U.nh.seq h,λits j=>iT j hl g,N9,λS k=>⟨S,_,rr,au,lt_of_le_of_lt (mT ss) i,λl O=>?_⟩⟩;have b:=Ext.laid (o:=yU X S (f9 ss)) U.nh k;have m:=Ext.laid (o:=.lst ((mV (f9 ss)).map V.str)) b.nh O;have n:H l=none:=((U.trans b).hh).free O;exact q _ _ _ ((U.trans b).trans m) (.lst (eN.of au) (qW _)) λ_=>⟨_,_,_,rr,rr,n,au,qW _⟩
 simp_all
end
end DL
namespace DL
open PySem PySem.Spec PySem.W PyProof.Rows
inductive Run (n:Nat)(lt:Nat->Nat->Bool){α:Type}:KasT α->α->Prop where
 |ret (a:α):Run n lt (.ret a) a
 |ask {i j:Nat}{k:Bool->KasT α}{a:α}(hi:i<n) (hj:j<n) (h:Run n lt (k (lt i j)) a):Run n lt (.ask i j k) a
def Run.bind {n:Nat}{lt:Nat->Nat->Bool}{α M:Type}{t:KasT α}{f:α->KasT M}{a:α}{b:M}(h:Run n lt t a)(k:Run n lt (f a) b):Run n lt (t.bind f) b:=by
 induction h with
 |ret a=>exact k
 |ask hi hj _ ih=>exact .ask hi hj (ih k)
def Run.wp {n:Nat}{lt:Nat->Nat->Bool}{α:Type}{M:Nat->Nat->(Bool->Shared->Prop)->Shared->Prop}{Q:α->Shared->Prop}{t:KasT α}{a:α}(J:Shared->Prop)
  (hc:∀i j C s,i<n->j<n->J s->(∀s',J s'->C (lt i j) s')->M i j C s) (h:Run n lt t a):∀ {s:Shared},J s->(∀s',J s'->Q a s')->t.kasWp M Q s:=by
 induction h with
 |ret a=>intro s O U;exact U s O
 |ask hi hj _ ih=>intro s O U;exact hc _ _ _ _ hi hj O λs' b=>ih b U
section
variable {n:Nat}{rk:Nat->Int}
noncomputable abbrev qX (rk:Nat->Int)(i j:Nat):Bool:=decide (rk i<rk j)
noncomputable def bM (rk:Nat->Int)(p:Array Nat)(k:Nat):Int:=rk (p.getD k 0)
structure pY (n:Nat)(p:Array Nat):Prop where
 size:p.size=n
 perm:p.toList.Perm (List.range n)
def pY.lt {p:Array Nat}(h:pY n p){k:Nat}(hk:k<n):p.getD k 0<n:=by
 have M:k<p.size:=by rw[h.size];exact hk
 have:p.getD k 0=p[k]:=by simp_all
 rw[this];exact mem_range.mp (h.perm.mem_iff.mp H9)
def pY.rev {p:Array Nat}(h:pY n p)(i j:Nat):pY n (kas_rev p i j):=
 ⟨(mirror_size _ _ _ _).trans h.size,(Array.perm_iff_toList_perm.mp (mirror_perm p i j _)).trans h.perm⟩
def pY.bub {p:Array Nat}(h:pY n p)(k d:Nat):pY n (bubble p k d):=
 ⟨(bubble_size _ _ _).trans h.size,(Array.perm_iff_toList_perm.mp (bubble_perm p k d)).trans h.perm⟩
def xa {p:Array Nat}{i j:Nat}(hj:j<=p.size)(k:Nat):bM rk (kas_rev p i j) k=if i<=k/\k<j then bM rk p (i+j - 1 - k)else bM rk p k:=by
 unfold bM kas_rev;rw[Array.getD_eq_getD_getElem?,getElem?_mirror_all hj];split<;>simp_all
def Iy {p:Array Nat}{M d:Nat}(hs:M<p.size)(hd:d<=M)(k:Nat):bM rk (bubble p M d) k=if k=M - d then bM rk p M else if M - d<k/\k<=M then bM rk p (k - 1)else bM rk p k:=by
 unfold bM;simp [Array.getD_eq_getD_getElem?];rw[getElem?_bubble hs d hd];repeat' split
 all_goals rfl
def Up (rk:Nat->Int)(p:Array Nat)(m:Nat):Prop:=∀i j,i<=j->j<m->bM rk p i<=bM rk p j
def xc (rk:Nat->Int)(p:Array Nat)(m:Nat):Prop:=∀i j,i<=j->j<m->bM rk p j<=bM rk p i
def R3 (p:Array Nat):Up rk p 1:=λi j h1 h2=>by
 simp_all
theorem xf {p:Array Nat}(h:pY n p){r:Nat}(c:r<=n):∀(f m:Nat),r - m=f->1<=m->m<=r->Up rk p m->∃M,Run n (qX rk) (kas_asc p f m) M/\m<=M/\M<=r/\Up rk p M/\(M<r->bM rk p M<bM rk p (M - 1))
 |0,m,hf,h1,hm,hu=>⟨m,.ret m,vT _,hm,hu,λz=>by lia⟩
 |f+1,m,hf,h1,hm,hu=>by
  have a:=h.lt (k:=m) N9;have b:=h.lt (k:=m - 1) N9;by_cases hc:bM rk p m<bM rk p (m - 1)
  .refine⟨m,.ask a b ?_,vT _,hm,hu,λ_=>hc⟩;have:qX rk _ _=true:=yc hc;rw[this];exact .ret m
  .have O:Up rk p (m+1):=λi j U hj=>by
    by_cases e:j=m
    .subst e;by_cases e2:i=j
     .subst e2;exact Int.le_refl _
     .have:=hu i (j - 1) N9 N9;lia
    .exact hu i j U N9
   obtain⟨M,d,q2,g,l,o⟩:=xf h c f _ N9 N9 N9 O;refine⟨M,.ask a b ?_,N9,g,l,o⟩;have:qX rk _ _=false:=ye hc;rw[this];exact d
def MO (rk:Nat->Int)(p:Array Nat)(m q:Nat):Prop:=q+1<=m/\∀k,m - (q+1)<=k->k<m->bM rk p k=bM rk p (m - 1)
def yV {p:Array Nat}{m q:Nat}(hs:m<=p.size)(hf:MO rk p m q)(k:Nat):bM rk (kas_rev p (m - (q+1)) m) k=bM rk p k:=by
 rw[xa hs];split
 .rename_i hk;rw[hf.2 k hk.1 hk.2,hf.2 _ N9 N9]
 .rfl
def C9 {p M:Array Nat}{m:Nat}(e:∀k,bM rk M k=bM rk p k)(h:xc rk p m):xc rk M m:=λi j h1 h2=>by rw[e,e];exact h i j h1 h2
def qY (p:Array Nat){m:Nat}(h:1<=m):MO rk p m 0:=⟨h,λk h1 h2=>by
 grind⟩
theorem mW {r:Nat}(t:r<=n):∀(f:Nat)(p:Array Nat)(m q:Nat),pY n p->r - m=f->1<=m->m<=r->xc rk p m->MO rk p m q->∃M O a,Run n (qX rk) (kas_desc f p m q) (M,O,a)/\pY n M/\m<=O/\O<=r/\xc rk M O/\MO rk M O a
 |0,p,m,q,h,hf,h1,hm,hd,hq=>⟨p,m,q,.ret _,h,vT _,hm,hd,hq⟩
 |f+1,p,m,q,h,hf,h1,hm,hd,hq=>by
  have b:=h.lt (k:=m) N9;have c:=h.lt (k:=m - 1) N9;have step:∀M:Array Nat,(∀k,bM rk M k=bM rk p k)->bM rk p m<=bM rk p (m - 1)->xc rk M (m+1):=λM e A i j u hj=>by
   rw[e,e];by_cases z:j=m
   .subst z;by_cases y:i=j
    .subst y;exact Int.le_refl _
    .have:=hd i (j - 1) N9 N9;lia
   .exact hd i j u N9
  by_cases hc:bM rk p m<bM rk p (m - 1)
  .have U:qX rk (p.getD m 0) (p.getD (m - 1) 0)=true:=yc hc;by_cases d:q > 0
   .have e:=yV (p:=p) (by rw[h.size];lia) hq;refine cX λG K=>?_;obtain⟨M,O,a,g1,g,w,l,o,s⟩:=mW t f (kas_rev p (m - (q+1)) m) (m+1) 0 (h.rev _ _) N9 N9 N9 (step _ e N9) (qY _ N9);apply K;refine⟨M,O,a,.ask b c ?_,g,N9,l,o,s⟩;rw[U,if_pos rr,if_pos d];exact g1
   .refine cX λG K=>?_;obtain⟨M,O,a,g1,g,w,l,o,s⟩:=mW t f p (m+1) 0 h N9 N9 N9 (step _ (λ_=>rr) N9) (qY _ N9);apply K;refine⟨M,O,a,.ask b c ?_,g,N9,l,o,s⟩;rw[U,if_pos rr,if_neg d];exact g1
  .have U:qX rk (p.getD m 0) (p.getD (m - 1) 0)=false:=ye hc;by_cases x:bM rk p (m - 1)<bM rk p m
   .have v:qX rk (p.getD (m - 1) 0) (p.getD m 0)=true:=yc x;refine⟨p,m,q,.ask b c ?_,h,vT _,hm,hd,hq⟩;rw[U,if_neg uX];refine .ask c b ?_;rw[v,if_pos rr];exact .ret _
   .have v:qX rk (p.getD (m - 1) 0) (p.getD m 0)=false:=ye x;have he:bM rk p m=bM rk p (m - 1):=N9
    obtain⟨M,O,a,g1,g,w,l,o,s⟩:=mW t f p (m+1) (q+1) h N9 N9 N9 (step _ (λ_=>rr) N9) ⟨by have:=hq.1;lia,λk k1 k2=>by
     rw[Nat.add_sub_cancel];by_cases z:k=m
     .rw[z]
     .rw[hq.2 k N9 N9,he]⟩
    refine⟨M,O,a,.ask b c ?_,g,N9,l,o,s⟩;rw[U,if_neg uX];refine .ask c b ?_;rw[v,if_neg uX];exact g1
def yW {r:Nat}(U:r<=n){p:Array Nat}(h:pY n p){m:Nat}(h1:1<=m)(hm:m<=r)(hd:xc rk p m):∃M O,Run n (qX rk) (kas_tail3 m r p) (M,O)/\pY n O/\1<=M/\M<=r/\Up rk O M:=by
 have hu:Up rk (kas_rev p 0 m) m:=λi j a hj=>by
  rw[xa (by rw[h.size];lia),xa (by rw[h.size];lia),if_pos N9,if_pos N9];exact hd _ _ N9 N9
 obtain⟨M,b,q2,c,d,_⟩:=xf (h.rev 0 m) U _ m rr h1 hm hu;exact⟨M,_,b.bind (.ret _),h.rev 0 m,N9,c,d⟩
def yX {r:Nat}(U:r<=n){p:Array Nat}(h:pY n p){m:Nat}(hm:m+1<=r)(hd:xc rk p (m+1)):∃M O,Run n (qX rk) (kas_descPart m r p) (M,O)/\pY n O/\1<=M/\M<=r/\Up rk O M:=by
 refine cX λG K=>?_;obtain⟨f,m1,d,g1,a,g,b,c,e⟩:=mW U _ p _ 0 h rr N9 hm hd (qY _ N9);apply K;clear K;by_cases hq:d > 0
 .obtain⟨M,O,k1,k2,k3,k4,k5⟩:=yW U (a.rev _ m1) N9 b (C9 (yV (by rw[a.size];lia) e) c);exact⟨M,O,g1.bind (by simp_all),k2,k3,k4,k5⟩
 .obtain⟨M,O,k1,k2,k3,k4,k5⟩:=yW U a N9 b c;exact⟨M,O,g1.bind (by simp_all),k2,k3,k4,k5⟩
def F5 {p:Array Nat}(h:pY n p)(hn:1<=n):∃M U,Run n (qX rk) (kas_count n p) (M,U)/\pY n U/\1<=M/\M<=n/\Up rk U M:=by
 obtain⟨m,b,q2,f,c,l⟩:=xf h (vT n) (n - 1) 1 rr (vT 1) hn (R3 (rk:=rk) p);by_cases e:m=n
 .exact⟨m,p,b.bind (by rw[if_pos (by simp[e])];exact .ret _),h,q2,f,c⟩
 .have q:=l N9;have g:¬(m == n)=true:=by simp[e]
  by_cases a:m > 1
  .by_cases hc:bM rk p 0<bM rk p (m - 1)
   .refine⟨m,p,b.bind ?_,h,q2,f,c⟩;rw[if_neg g,if_pos a];refine .ask (h.lt N9) (h.lt N9) ?_;have:qX rk (p.getD 0 0) _=true:=yc hc;rw[this,if_pos rr];exact .ret _
   .have O:∀k,k<m->bM rk p k=bM rk p 0:=λk hk=>by
     have r:=c 0 k N9 hk;have s:=c k (m - 1) N9 N9;simp_all<;>lia
    have er:∀k,bM rk (kas_rev p 0 m) k=bM rk p k:=λk=>by
     rw[xa (by rw[h.size];lia)];split
     .rename_i z;rw[O _ N9,O k z.2]
     .rfl
    have hd:xc rk p (m+1):=λi j d hj=>by
     grind
    obtain⟨M,U,k1,k2,k3,k4,k5⟩:=yX (vT n) (h.rev 0 m) (m:=m) N9 (C9 er hd);refine⟨M,U,b.bind ?_,k2,k3,k4,k5⟩;rw[if_neg g,if_pos a];refine .ask (h.lt N9) (h.lt N9) ?_;have:qX rk (p.getD 0 0) _=false:=ye hc;rw[this];exact k1
  .have o:m=1:=N9
   subst o;have hd:xc rk p 2:=λi j d hj=>by
    grind
   obtain⟨M,U,k1,k2,k3,k4,k5⟩:=yX (vT n) h (m:=1) N9 hd;refine⟨M,U,b.bind ?_,k2,k3,k4,k5⟩;simp_all
theorem oq {p:Array Nat}(h:pY n p){k:Nat}(hk:k<n)(hu:Up rk p k):∀(f l r:Nat),r - l<=f->l<=r->r<=k->(∀i,i<l->bM rk p i<=bM rk p k)->(∀i,r<=i->i<k->bM rk p k<bM rk p i) ->
  ∃M,Run n (qX rk) (kas_place p k f l r) M/\M<=k/\(∀i,i<M->bM rk p i<=bM rk p k)/\(∀i,M<=i->i<k->bM rk p k<bM rk p i)
 |0,l,r,hf,hl,e,h1,h2=>⟨l,.ret l,N9,h1,λi a b=>h2 i N9 b⟩
 |f+1,l,r,hf,hl,e,h1,h2=>by
  by_cases O:l ≥ r
  .refine⟨l,?_,N9,h1,λi a b=>h2 i N9 b⟩;unfold kas_place;rw[if_pos O];exact .ret l
  .by_cases hc:bM rk p k<bM rk p ((l+r) / 2)
   .obtain⟨M,U,q2,c,d⟩:=oq h hk hu f l ((l+r) / 2) N9 N9 N9 h1 λi a b=>by
     have:=hu _ i a b;lia
    refine⟨M,?_,q2,c,d⟩;unfold kas_place;rw[if_neg O];refine .ask (h.lt N9) (h.lt N9) ?_;have:qX rk _ _=true:=yc hc;rw[this];exact U
   .obtain⟨M,U,q2,c,d⟩:=oq h hk hu f ((l+r) / 2+1) r N9 N9 e (λi a=>by
     have:=hu i ((l+r) / 2) N9 N9;lia) h2
    refine⟨M,?_,q2,c,d⟩;unfold kas_place;rw[if_neg O];refine .ask (h.lt N9) (h.lt N9) ?_;have:qX rk _ _=false:=ye hc;rw[this];exact U
theorem CA:∀(f:Nat)(p:Array Nat)(k:Nat),pY n p->n - k=f->k<=n->Up rk p k->∃M,Run n (qX rk) (kas_bin f p k) M/\pY n M/\Up rk M n
 |0,p,k,h,hf,hk,hu=>⟨p,.ret p,h,(show k=n by lia) ▸ hu⟩
 |f+1,p,k,h,hf,hk,hu=>by
  have O:k<n:=N9
  obtain⟨l,g,q2,m,q⟩:=oq h O hu k 0 k N9 N9 (vT _) (λi z=>by lia) (λi a b=>by lia);have hsz:k<p.size:=by rw[h.size];exact O
  have U:Up rk (bubble p k (k - l)) (k+1):=λi j c hj=>by
   rw[Iy hsz N9,Iy hsz N9];have e:k - (k - l)=l:=N9
   rw[e];by_cases i1:i=l
   .grind
   .rw[if_neg i1];by_cases i2:l<i/\i<=k
    .rw[if_pos i2,if_neg N9,if_pos N9];exact hu _ _ N9 N9
    .rw[if_neg i2];by_cases d:j=l
     .rw[if_pos d];exact m i N9
     .rw[if_neg d];by_cases o:l<j/\j<=k
      .grind
      .rw[if_neg o];exact hu _ _ c N9
  obtain⟨M,k1,k2,k3⟩:=CA f _ (k+1) (h.bub _ _) N9 N9 U;exact⟨M,g.bind k1,k2,k3⟩
def Iz (hn:1<=n):∃p,Run n (qX rk) (kas_sort n) p/\pY n p/\Up rk p n:=by
 have h0:pY n (List.toArray (List.range n)):=⟨H9,H9⟩;obtain⟨m,p,O,q2,b,c,U⟩:=F5 h0 hn;by_cases e:m<n
 .have M:max m 1=m:=N9
  obtain⟨a,k1,k2,k3⟩:=CA _ p (max m 1) q2 rr N9 (by rw[M];exact U);exact⟨a,O.bind (by simp_all),k2,k3⟩
 .have:m=n:=N9
  subst this;exact⟨p,O.bind (by rw[if_neg e];exact .ret _),q2,U⟩
end
def F6 {a b c:LI}(h:a<b)(k:b<c):a<c:=lt_trans h k
def F7 {a b c:LI}(h:¬b<a)(k:¬c<b):¬c<a:=by grind
def IA {a b:LI}(h:¬b<a)(k:¬a<b):a=b:=by grind
section
variable {α:Type}(f:α->LI)
def L4 (a b:α):Prop:=¬f b<f a
noncomputable def ot (x:α):List α->List α
 |[]=>[x]
 |y::r=>if f y<f x then y::ot x r else x::y::r
noncomputable def dr (l:List α):List α:=l.foldr (ot f) []
theorem ou (x:α):∀l,(ot f x l).Perm (x::l)
 |[]=>List.Perm.refl _
 |y::r=>by
  unfold ot;split
  .exact((ou x r).cons y).trans (List.Perm.swap x y r)
  rfl
theorem aH:∀l,(dr f l).Perm l
 |[]=>List.Perm.refl _
 |x::l=>(ou f x _).trans ((aH l).cons x)
theorem uw (x:α):∀l,l.Pairwise (L4 f)->(ot f x l).Pairwise (L4 f)
 |[],_=>by simp[ot]
 |y::r,h=>by
  obtain⟨h1,h2⟩:=pairwise_cons.mp h;unfold ot;split
  .rename_i hl;refine pairwise_cons.mpr ⟨λz hz=>?_,uw x r h2⟩;rcases vP ((ou f x r).mem_iff.mp hz)with rfl|hz
   .exact λk=>lt_irrefl _ (F6 hl k)
   simp_all
  .rename_i hl;refine pairwise_cons.mpr ⟨λz hz=>?_,h⟩;rcases vP hz with rfl|hz
   .exact hl
   .exact F7 hl (h1 z hz)
theorem eV:∀l,(dr f l).Pairwise (L4 f)
 |[]=>List.Pairwise.nil
 |x::l=>uw f x _ (eV l)
theorem ux:∀(l1 l2:List α),(∀x∈l1,∀y∈l1,f x=f y->x=y)->l1.Perm l2->l1.Pairwise (L4 f)->l2.Pairwise (L4 f)->l1=l2
 |[],l2,_,p,_,_=>(nil_perm.mp p).symm
 |x::U,[],_,p,_,_=>absurd p.length_eq H9
 |x::U,y::c,hi,p,h1,h2=>by
  have hy:=p.mem_iff.mpr (mX ..);have M:L4 f x y:=by
   rcases vP hy with z|z
   .rw[z];exact lt_irrefl _
   simp_all
  have O:L4 f y x:=by
   rcases vP (p.mem_iff.mp (mX ..))with z|z
   .rw[z];exact lt_irrefl _
   simp_all
  have e:=hi x (mX ..) y hy (IA M O);subst e;rw[ux U c (λa ha b hb=>hi a (mZ _ ha) b (mZ _ hb)) (List.Perm.cons_inv p) (pairwise_cons.mp h1).2 (pairwise_cons.mp h2).2]
theorem jU (hi:∀x∈l,∀y∈l,f x=f y->x=y)(p:M.Perm l)(h:M.Pairwise (L4 f)):M=dr f l:=
 ux f _ _ (λx hx y hy=>hi x (p.mem_iff.mp hx) y (p.mem_iff.mp hy)) (p.trans (aH f l).symm) h (eV f l)
end
theorem lY {α:Type}{p q:α->Bool}(h:∀x,p x=true->q x=true):∀l:List α,(l.filter p).length<=(l.filter q).length
 |[]=>vT _
 |x::l=>by
  have ih:=lY h l;grind
noncomputable def qZ (cs:List LI)(c:LI):Int:=((cs.filter λx=>decide (x<c)).length:Nat)
def MP {cs:List LI}{a b:LI}(h:¬b<a):qZ cs a<=qZ cs b:=by
 refine Int.ofNat_le.mpr (lY (λx hx=>?_) cs);grind
def CB {cs:List LI}{a b:LI}(ha:a∈cs)(h:a<b):qZ cs a<qZ cs b:=by
 apply Int.ofNat_lt.mpr;induction cs with
 |nil=>simp at ha
 |cons c cs ih=>
  have M:∀l:List _,(l.filter λx=>decide (x<a)).length<=(l.filter λx=>decide (x<b)).length:=λl=>
   lY (λx hx=>by grind) l
  grind
def yY (ha:a∈cs):decide (qZ cs a<qZ cs b)=decide (a<b):=by
 by_cases h:a<b
 .simp_all[CB]
 simp_all[ye,MP]
set_option genInjectivity true in
inductive At where
 |i (n:Int)
 |s (z:Str)
noncomputable def R4:At->LI
 |.i n=>[n]
 |.s z=>z.cps.toList.map (λ(c:Nat)=>(c:Int)+1)++[0]
def bU (xs:List At):LI:=xs.flatMap R4
noncomputable def aW:List At->List At->Option Bool
 |[],ys=>some (!ys.isEmpty)
 |_::_,[]=>some false
 |.i a::xs,.i b::ys=>if a=b then aW xs ys else some (decide (a<b))
 |.s a::xs,.s b::ys=>if a=b then aW xs ys else some (decide (a.cps.toList<b.cps.toList))
 |_::_,_::_=>none
theorem xg:∀(a b:LN)(r M:LI),(a.map (λ(c:Nat)=>(c:Int)+1)++0::r)<(b.map (λ(c:Nat)=>(c:Int)+1)++0::M)↔a<b\/(a=b/\r<M)
 |[],[],r,M=>by simp
 |[],y::b,r,M=>by simp[cons_lt_cons_iff]
 |x::a,[],r,M=>by simp[cons_lt_cons_iff];lia
 |x::a,y::b,r,M=>by
  rw[uY,uY,cons_append,cons_append,cons_lt_cons_iff,xg a b r M,cons_lt_cons_iff,Int.add_lt_add_iff_right,Int.ofNat_lt,Int.add_left_inj,Int.ofNat_inj,List.cons.injEq,and_or_left,or_assoc,and_assoc]
def oy (x:At)(xs:List At):bU (x::xs)=R4 x++bU xs:=I9
def R5 (x:At):R4 x≠[]:=by cases x<;>simp[R4]
theorem CC {a b:Str}:a.cps.toList=b.cps.toList↔a=b:=by
 constructor
 .obtain⟨a⟩:=a;simp_all
 lia
theorem qg:∀(xs ys:List At)(b:Bool),aW xs ys=some b->b=decide (bU xs<bU ys)
 |[],[],b,h=>by simp_all[aW]
 |[],y::ys,b,h=>by
  simp[aW]at h;subst h;rw[oy];cases e:R4 y with
  |nil=>exact absurd e (R5 y)
  |cons c cs=>simp[bU]
 |x::xs,[],b,h=>by simp_all[aW,bU]
 |.i a::xs,.i c::ys,b,h=>by
  rw[aW]at h;show b=decide (a::bU xs<c::bU ys);split at h
  .rename_i e;subst e;rw[qg xs ys b h];simp
  .simp_all[cons_lt_cons_iff]
 |.s a::xs,.s c::ys,b,h=>by
  rw[aW]at h;rw[oy,oy];have M:∀(z:Str)(r:List _),R4 (.s z)++r=z.cps.toList.map (λ(c:Nat)=>(c:Int)+1)++0::r:=λz r=>by simp[R4]
  rw[M,M];split at h
  .rename_i e;rw[qg xs ys b h];grind[xg]
  grind[xg,CC]
 |.i _::_,.s _::_,b,h=>by simp[aW]at h
 |.s _::_,.i _::_,b,h=>by simp[aW]at h
theorem Bm:∀(xs ys:List At),aW xs ys=some false->aW ys xs=some false->xs=ys
 |[],[],_,_=>rr
 |[],y::ys,h,_=>by simp[aW]at h
 |x::xs,[],_,h=>by simp[aW]at h
 |.i a::xs,.i c::ys,h,k=>by
  rw[aW]at h k;by_cases e:a=c
  .subst e;rw[if_pos rr]at h k;rw[Bm xs ys h k]
  lia
 |.s a::xs,.s c::ys,h,k=>by
  rw[aW]at h k;by_cases e:a=c
  .subst e;rw[if_pos rr]at h k;rw[Bm xs ys h k]
  .rw[if_neg e]at h;rw[if_neg (Ne.symm e)]at k;simp only[Option.some.injEq,decide_eq_false_iff_not]at h k;exact absurd (CC.mp (List.le_antisymm (not_lt.mp k) (not_lt.mp h))) e
 |.i _::_,.s _::_,h,_=>by simp[aW]at h
 |.s _::_,.i _::_,h,_=>by simp[aW]at h
noncomputable def cy (ks:List (List At)):Bool:=ks.all λx=>ks.all λy=>(aW x y).isSome
theorem gb (h:cy ks=true)(hx:x∈ks)(hy:y∈ks):aW x y=some (decide (bU x<bU y)):=by
 have:=all_eq_true.mp (all_eq_true.mp h x hx) y hy;obtain⟨b,e⟩:=uU this;rw[e,qg _ _ _ e]
theorem o3 (h:cy ks=true)(hx:x∈ks)(hy:y∈ks)(e:bU x=bU y):x=y:=by
 refine Bm _ _ ?_ ?_
 .grind[gb]
 grind[gb]
def A8:At->Value->Prop
 |.i n,v=>∃t,v=.int n t
 |.s z,v=>∃t,v=.str z t
def gE (h:Heap)(xs:List At)(v:Value):Prop:=∃a o its n,v=.ref a/\h.get? a=some o/\o.cls=.type "tuple"/\o.data=.seq its n/\Paired A8 xs its.toList
noncomputable def cH (ks:List (List At)):Bool:=ks.all (λx=>match x with|.i _::_=>true|_=>false) || ks.all (λx=>match x with|.s _::_=>true|_=>false)
section
variable {prog:Program}{w:World}{A:Around}{E:QV}{s:Shared}
def IB (xs ys:List At)(its M:LU)(i:Nat)(U:Paired A8 xs its)(d:Paired A8 ys M)(h:aW xs ys=some b)(hf:dX=decide (xs.length<ys.length))(q:Q b s):KatLex prog w A true dX Q (its.zip M) i s:=by
 induction U generalizing ys M i with
 |nil=>
  refine kat_nil ?_;cases ys with
  |nil=>simp_all[aW]
  |cons y ys=>simp_all[aW]
 |@cons x v xs its U f ih=>
  cases d with
  |nil=>
   simp_all[kat_nil,aW]
  |@cons y u ys M d O=>
   cases x with
   |i a=>
    cases y with
    |s _=>simp[aW]at h
    |i c=>
     obtain⟨t,rfl⟩:=U;obtain⟨u,rfl⟩:=d;refine kat_cons (wpAny_eqBool_int ?_);rw[aW]at h;by_cases e:a=c
     .rw[if_pos e]at h;rw[show(a == c)=true by simp[e]];exact kat_yes (ih ys M (i+1) O h (by rw[hf];simp))
     .rw[if_neg e]at h;cases h
      rw[show(a == c)=false by simp[e]];refine kat_no ?_;cases hb:(true && i == 0) with
      |true=>exact oneLt_int q
      |false=>exact kat_one _ _ (PyProof.Rows.lt_int q)
   |s a=>
    cases y with
    |i _=>simp[aW]at h
    |s c=>
     obtain⟨t,rfl⟩:=U;obtain⟨u,rfl⟩:=d;refine kat_cons (wpAny_eqBool_str ?_);rw[aW]at h;by_cases e:a=c
     .rw[if_pos e]at h;rw[yc e];exact kat_yes (ih ys M (i+1) O h (by rw[hf];simp))
     .rw[if_neg e]at h;cases h
      rw[ye e];refine kat_no ?_;cases hb:(true && i == 0) with
      |true=>exact oneLt_str q
      |false=>exact kat_one _ _ (PySem.P.lt_str q)
theorem eW {α U:Type}{F:α->U->Prop}:∀ {M:List α}{O:List U},Paired F M O->M.length=O.length
 |_,_,.nil=>rr
 |_,_,.cons _ t=>by simp[eW t]
def R6 {Q:Bool->Shared->Prop}{xs ys:List At}{x y:Value}{b:Bool}(hx:gE s.heap xs x)(hy:gE s.heap ys y)(h:aW xs ys=some b)(q:Q b s):wpAny (model prog w) A (keyLt' (tuples' true) x y) Q E s:=by
 obtain⟨a,o,its,n,rfl,c,_,hd,r⟩:=hx;obtain⟨d,o',its',e,rfl,M,_,O,U⟩:=hy;refine kat_lt c hd M O (IB xs ys _ _ 0 r U h ?_ q);rw[<-vG,<-vG,eW r,eW U]
theorem pz:∀ {ks:List (List At)}{vs:LU},Paired (gE h) ks vs->(∀k∈ks,k≠[])->∃fs,KatTups h vs fs/\fs.length=ks.length/\∀v∈fs,∃k r,(k::r)∈ks/\A8 k v
 |_,_,.nil,_=>⟨[],trivial,rr,H9⟩
 |k::ks,_,.cons x t,M=>by
  obtain⟨fs,h1,h2,h3⟩:=pz t λz hz=>M z (mZ _ hz);obtain⟨a,o,its,n,rfl,U,hc,hd,r⟩:=x;cases O:its.toList with
  |nil=>
   rw[O]at r;cases r
   simp_all
  |cons v vs=>
   rw[O]at r;obtain⟨p,b⟩:∃p,its[0]? = some v:=⟨(),by rw[<-Array.getElem?_toList,O];rfl⟩;cases r with
   |cons q c=>
    refine⟨v::fs,KatTups.cons U hc hd b h1,by simp[h2],λu hu=>?_⟩;grind
def IC (hp:Paired (gE s.heap) ks vs)(hf:cH ks=true)(hn:0<ks.length)(q:Q (tuples' true) s):wpAny (model prog w) A (keyKind' vs.toArray) Q E s:=by
 have M:∀k∈ks,k≠[]:=λk hk z=>by
  subst z;unfold cH at hf;rw[Bool.or_eq_true]at hf;rcases hf with hf|hf
  .have:=all_eq_true.mp hf [] hk;simp at this
  .have:=all_eq_true.mp hf [] hk;simp at this
 obtain⟨fs,h1,h2,h3⟩:=pz hp M;unfold cH at hf;rw[Bool.or_eq_true]at hf;rcases hf with hf|hf
 .refine kat_kind (T:=.type "int") h1 N9 (λv hv=>?_) P9 q;obtain⟨k,r,m,z⟩:=h3 v hv;have:=all_eq_true.mp hf _ m;cases k with
  |i n=>obtain⟨t,rfl⟩:=z;exact .now
  |s O=>simp at this
 .refine kat_kind (T:=.type "str") h1 N9 (λv hv=>?_) P9 q;obtain⟨k,r,m,z⟩:=h3 v hv;have:=all_eq_true.mp hf _ m;cases k with
  |s O=>obtain⟨t,rfl⟩:=z;exact .now
  |i n=>simp at this
end
section
variable {prog:Program}{w:World}{A:Around}{E:QV}{s:Shared}
theorem dN {α U:Type}{F:α->U->Prop}(d:α)(e:U):∀ {M:List α}{O:List U},Paired F M O->∀ {i:Nat},i<M.length->F (M.getD i d) (O.getD i e)
 |_,_,.cons r t,0,_=>r
 |_,_,.cons r t,i+1,h=>by
  exact dN d e t (by simpa using h)
 |_,_,.nil,i,h=>by simp at h
def L5 (ks:List (List At))(i:Nat):Int:=qZ (ks.map bU) (bU (ks.getD i []))
def MQ {ks:List (List At)}{vs:LU}(hc:cy ks=true)(hp:Paired (gE s.heap) ks vs):∀(i j:Nat)(C:Bool->Shared->Prop)(s1:Shared),i<ks.length->j<ks.length->s1=s->(∀s',s'=s->C (qX (L5 ks) i j) s')->kas_ask prog w A (tuples' true) vs i j C s1:=by
 intro i j C s1 hi hj e O;subst e;have M:ks.getD i []∈ks:=by simp_all
 have U:ks.getD j []∈ks:=by simp_all
 refine R6 (dN [] _ hp hi) (dN [] _ hp hj) (gb hc M U) ?_;have:=O s1 rr;unfold qX L5 at this;rw[yY (uS ⟨_,M,rr⟩)]at this;exact this
end
end DL
namespace DL
open PySem PySem.Spec PySem.W PyProof.Rows L2
noncomputable def OY:D->Option At
 |.int n=>some (.i n)
 |.str z=>some (.s z)
 |_=>none
def lZ:LD->Option (List At)
 |[]=>some []
 |d::ds=>(OY d).bind λa=>(lZ ds).map (a :: ·)
def Bn:D->Option (List At)
 |.tup es=>lZ es
 |_=>none
def du:LD->Option (List (List At))
 |[]=>some []
 |d::ds=>(Bn d).bind λa=>(du ds).map (a :: ·)
noncomputable def fD:LD->Option LI
 |[]=>some []
 |.int n::ds=>(fD ds).map (n :: ·)
 |_::_=>none
def p0 (ns:LI):LI:=dr (λn=>[n]) ns
def hZ:LD->OB
 |[.lst ds]=>(fD ds).bind λns=>if ns.length<64 then some (.lst ((p0 ns).map .int),true)else none
 |_=>none
theorem o4:∀ {ds:LD}{ks:List (List At)},du ds=some ks->ks.length=ds.length
 |[],_,h=>by simp_all[du]
 |d::ds,_,h=>by
  refine eX h λa h1 h=>?_;refine eB h λr h2 h=>?_;subst h;simp[o4 h2]
theorem uy:∀ {ds:LD}{ks:List (List At)},du ds=some ks->∀ {i:Nat},i<ds.length->Bn (ds.getD i .non)=some (ks.getD i [])
 |[],_,h,i,hi=>by simp at hi
 |d::ds,_,h,0,hi=>by
  refine eX h λa h1 h=>?_;refine eB h λr h2 h=>?_;subst h;exact h1
 |d::ds,_,h,i+1,hi=>by
  refine eX h λa h1 h=>?_;refine eB h λr h2 h=>?_;subst h;exact uy h2 (by simpa using hi)
section
variable {X:Cx}
theorem yZ {K:Frag}{B:Hp}:∀ {vs:LV}{es:LD}{k:List At}{its:LU},aL vs its->IsL K B vs es->lZ es=some k->Paired A8 k its
 |_,_,_,_,.nil,.nil,h=>by cases h;exact .nil
 |_,_,_,_,.cons r M,.cons i O,h=>by
  refine eX h λa h1 h=>?_;refine eB h λt h2 h=>?_;subst h;refine .cons ?_ (yZ M O h2);cases i<;>simp [OY]at h1<;>cases h1
  .exact r
  .exact r
theorem qh {af:AO}{σ:St}{H:Hp}{s:Shared}(I:Inv X af σ H s):∀ {ys:LV}{ds:LD}{ks:List (List At)}{its:LU},aL ys its->IsL X.K H ys ds->du ds=some ks->Paired (gE s.heap) ks its
 |_,_,_,_,.nil,.nil,h=>by cases h;exact .nil
 |_,_,_,_,.cons r M,.cons i O,h=>by
  refine eX h λa h1 h=>?_;refine eB h λt h2 h=>?_;subst h;refine .cons ?_ (qh I M O h2);cases i<;>simp [Bn]at h1<;>try (cases h1)
  rename_i hq hl;cases r
  refine cX λG g=>?_;obtain⟨its',U,⟨o,b,hc,n,hd⟩,_⟩:=I.tuple hq;apply g;exact⟨_,o,_,n,rr,b,hc,hd,by simpa using yZ U hl h1⟩
theorem CD {K:Frag}{B:Hp}:∀ {vs:LV}{ds:LD},IsL K B vs ds->∀ {i:Nat},i<ds.length->Is K B (vs.getD i .non) (ds.getD i .non)
 |_,_,.cons h _,0,_=>h
 |_,_,.cons _ t,i+1,hi=>by
  exact CD t (by simpa using hi)
 |_,_,.nil,i,hi=>by simp at hi
theorem za:∀ {vs:LV}{us:LU},aL vs us->∀ {i:Nat},i<vs.length->aE (vs.getD i .non) (us.getD i Value.none)
 |_,_,.cons h _,0,_=>h
 |_,_,.cons _ t,i+1,hi=>by
  exact za t (by simpa using hi)
 |_,_,.nil,i,hi=>by simp at hi
theorem zb {K:Frag}{B:Hp}{vs:LV}{ds:LD}(h:IsL K B vs ds):∀(l:LN),(∀i∈l,i<ds.length)->IsL K B (l.map λi=>vs.getD i .non) (l.map λi=>ds.getD i .non)
 |[],_=>.nil
 |i::l,hl=>.cons (CD h (hl i (mX ..))) (zb h l λj hj=>hl j (mZ _ hj))
theorem uz (h:aL vs us):∀(l:LN),(∀i∈l,i<vs.length)->aL (l.map λi=>vs.getD i .non) (l.map λi=>us.getD i Value.none)
 |[],_=>.nil
 |i::l,hl=>.cons (za h (hl i (mX ..))) (uz h l λj hj=>hl j (mZ _ hj))
end
section
variable {X:Cx}
theorem CF {K:Frag}{B:Hp}:∀ {vs:LV}{ds:LD}{ns:LI}{its:LU},aL vs its->IsL K B vs ds->fD ds=some ns->IntsAre its ns
 |_,_,_,_,.nil,.nil,h=>by cases h;exact .nil
 |_,_,_,_,.cons r M,.cons i O,h=>by
  cases i<;>simp only[fD]at h<;>try (cases h)
  refine eB h λt h2 h=>?_;subst h;obtain⟨u,rfl⟩:=r;exact .cons _ u (CF M O h2)
theorem ga:∀ {its:LU}{zs:LI},IntsAre its zs->aL (zs.map V.int) its
 |_,_,.nil=>.nil
 |_,_,.cons x t r=>.cons ⟨t,rr⟩ (ga r)
theorem nc {K:Frag}{N:Hp}:∀(zs:LI),IsL K N (zs.map V.int) (zs.map D.int)
 |[]=>.nil
 |z::zs=>.cons (.int z) (nc zs)
def zc (p:M.Perm l)(h:M.Pairwise (·<=·)):M=p0 l:=by
 refine jU _ (λx _ y _ e=>by injection e) p (h.imp λ{a b} O=>?_);grind[L4,cons_lt_cons_iff]
def Bo (I:Inv X af σ H s)(O:aI B H)(q:Fin X.K B H (.lst ds) true Q)(hv:aL ys out.toList)(hl:IsL X.K B ys ds)(hz:ys.length<=sizeLine):
  EP X af σ Q (.ref (s.z+1)) { s with heap:=sortedAll s.heap its out }:=by
 obtain⟨e,he⟩:=sortedAll_at _ _ _;have hp:=I.hok.fresh (le_succ _);have M:=Ext.laid (o:=.lst ys) O hp;exact⟨.ref _,_,I.laid (λb o=>sortedAll_old) (le_succ _) (show bg _ _ _ _ _ (.lst ys)from ⟨hz,out.toList,e,hv,he⟩),rr,
  q _ _ _ M (.lst (eN.of au) (hl.mono M.bn)) λ_=>⟨_,_,_,rr,rr,hp,au,hl.mono M.bn⟩⟩
def ID:b7 X (.builtin "sorted") (A6 X.K hZ):=by
 intro af s σ H xs us Q I r h;refine cX λG W=>?_;obtain⟨B,dl,d,bb,U,i,M,q⟩:=h;apply W;cases i with
 |nil=>simp[hZ]at M
 |cons i1 i2=>
  cases i2 with
  |cons _ _=>cases i1<;>simp[hZ]at M
  |nil=>
   cases i1<;>try (simp[hZ]at M;done)
   rename_i l vs ds h hl;obtain⟨u,rfl,b⟩:=gh r;cases b
   refine I.lisE (U.seq h) λits a pl hz=>?_;have m:vs.length=its.length:=a.length;have n:ds.length=vs.length:=hl.length.symm;refine eX M λns es M=>?_;split at M
   .rename_i o;cases M
    have O:=CF a hl es;have c:its.length=ns.length:=IntsAre.length O;refine sorted_ints pl.isList (by simpa using O) N9 λout f g j k=>?_;have e:=zc j k;subst e;exact Bo I U q (ga g) (nc _) (by rw[vI];unfold p0;rw[(aH _ ns).length_eq,sizeLine_eq];lia)
   .cases M
end
end DL
namespace DL
open PySem PySem.Spec PyProof.Rows L2
section
variable {X:Cx}{e:Expr}{pos pos2 p p2:Pos}
def tN:b7 X (.builtin "len") (λxs H Q=>∃S M,xs=[.ref S]/\H S=some (yU X S M)/\Q (.int (M.length:Nat)) H):=by
 intro af s σ H xs us Q I r h;obtain⟨S,M,rfl,U,q⟩:=h;obtain⟨u,rfl,a⟩:=gh r;cases a
 have b:=(I.hok S _ U).1;refine cX λG K=>?_;obtain⟨o,es,f,t,c,O,hd,g,hp,nd,hb,hf,_⟩:=b;apply K;have sz:es.size=M.length:=by rw[<-hp.length_eq,vI,vG]
 have d:M.length<4096:=hb;exact PySem.call_len_set c O hd hf (by rw[sz];lia) ⟨.int _,H,I.tok _,⟨_,by rw[sz]⟩,q⟩
def F8 (hc:X.calm=true)(m1:X.mg "len" = none)(m2:X.mg "set" = none)(he:JE X e f)(g1:Gl X "len")(b:Gl X "set")
  (h1:cQ e [] X.env):JE X (.Call (.Name "len" p) [.Call (.Name "set" p2) [e] [] pos2] [] pos) (f1 MN f):=by
 refine PE.to (qC tN g1 m1 OV (de (oe (px hc) b m2 OX (de he fH h1) (he:=h1)) fH)) λσ H Q q=>?_;refine cX λG K=>?_;obtain⟨B,ρ,d',bb,c,r,M,q⟩:=q;refine eX M λU ex M=>?_;apply K;refine⟨B,ρ,U.1,U.2,c,r,ex,λv k N1 O i1 l=>?_⟩;obtain⟨xd,m⟩:=U;cases i1<;>try (simp at M)
 rename_i n vs ds h hl;refine eX M λss d M=>?_;split at M
 .rename_i g;cases M
  refine⟨_,_,ss,rr,O.nh.seq h,λits i=>iT i hl d,g,λS j=>⟨S,_,rr,au,?_⟩⟩;have a:=Ext.laid (o:=yU X S (f9 ss)) O.nh j;exact(q.into (O.trans a)).one (O.trans a).nh (.int _)
 .cases M
end
section
variable {X:Cx}{pos:Pos}
theorem IE {K:Frag}{B:Hp}:∀ {vs:LV}{ds:LD}{ns:LI},IsL K B vs ds->fD ds=some ns->vs=ns.map V.int
 |_,_,_,.nil,h=>by simp_all[fD]
 |_,_,_,.cons i M,h=>by
  cases i<;>simp only[fD]at h<;>try (cases h)
  refine eB h λt h2 h=>?_;subst h;rw[IE M h2];rfl
end
section
variable {X:Cx}{a:Expr}{pos:Pos}{x:Str}{p:Pos}{d:Addr}{aC:List (Str×D)}
def F9 (cd:mS X.K X.w.params d aC):cJ X (compareOp .NotIn) (λx y H Q=>∃z,x=.str z/\y=.ref d/\Q (.bl (!(aC.lookup z).isSome)) H):=by
 rintro af s σ H _ _ v u Q I O U ⟨z,rfl,rfl,q⟩;cases U
 obtain⟨t,rfl⟩:=O;obtain⟨f,b,c,hf⟩:=cd.map I;refine wpAny_notIn_of (strKind_is _ _ z t) c b ⟨.bl _,H,I.tok _,?_,q⟩;have:=hf z;cases M:aC.lookup z with
 |none=>rw[M]at this;rw[this];rfl
 |some dd=>rw[M]at this;obtain⟨_,_,e,_⟩:=this;rw[e];rfl
def FC (h:∃d,X.mg x=some (.ref d)/\mS X.K X.w.params d aC)(ha:JE X a f)(c:Gl X x)(hd:bf x)(hm:behindInMarks .NotIn (.Name x p)=false):JT X (.Compare a [.NotIn] [.Name x p] pos) (bW (f1 (Bf aC) f)):=by
 obtain⟨d,O,cd⟩:=h;refine PT.to (Cf (F9 cd) ha (pZ (v:=.ref d) c O rr hd) hm) λσ H Q q=>?_;refine cX λG k=>?_;obtain⟨B,ρ,d',bb,e,r,M,q⟩:=wK q;refine eX M λU ex M=>?_;apply k;refine⟨B,ρ,U.1,U.2,e,r,ex,λv g N1 b i1 i=>?_⟩;obtain⟨xd,j⟩:=U;cases i1<;>try (simp at M;done)
 rename_i z;cases M
 exact⟨z,rr,rr,(q.into b).one b.nh (.bl _)⟩
end
section
variable {prog:Program}{w:World}{A:Around}{E:QV}{s:Shared}
def Bp {a:Addr}{o:Obj}{its:AV}{n:Nat}{x:Value}{e:Value->Bool}{j:Nat}{P:PySem.Fin->Shared->Prop}(b:s.heap.get? a=some o)(hd:o.data=.seq its n)
  (he:∀y∈its,MeetsSeq.EqGives y x (e y)) (hj:j<its.size) (wl:e its[j]=true) (M:∀m (hm:m<its.size),m<j->e its[m]=false)
  (h:P (.done (.ret (.int j s.toks))) { s with toks:=s.toks+1 }):wpAny (model prog w) A (Builtin.«tuple.index» ⟨[.ref a,x],[]⟩) P E s:=by
 show wpAny _ _ (Builtin.Tuple.tupleItemsOf _>>=_) _ _ s;refine wX (wpAny_tupleItemsOf b hd ?_);refine wX (wY (wX (wY (wX ?_))));rw[Std.Legacy.Range.forIn_eq_forIn_range'];refine wpAny_forIn_list _
  (λai r s'=>r.1=none/\s'=s/\∃i,i<=j/\ai=List.range' i (its.size - i))
  _ ?_ ?_ _ _ ⟨rr,rr,0,uN _,?_⟩
 .rintro k ai r s' ⟨d,rfl,i,hi,hz⟩;have f:i<its.size:=N9
  obtain⟨m,hm⟩:∃m,its.size - i=m+1:=⟨its.size - i - 1,N9⟩;rw[hm]at hz;injection hz with O g;have O:=O.symm;subst O;have c:its[i]? = some its[i]:=H9
  simp only[c];refine wX (he _ (Array.getElem_mem _) _ w _ _ _ _ ?_);by_cases U:i=j
  .subst U;rw[wl];refine wX ?_;exact wX (wpAny_mkInt (wY (wY (wY h))))
  .rw[M i _ N9];exact wY ⟨rr,rr,i+1,N9,by grind⟩
 .grind
 .simp
end
theorem CRows.findT {K:Frag}{P:Params}(y:Str){ds:LD}:∀ {es:List DictEntry}{aC:List (Str×D)},CRows K P es aC->aC.lookup y=some (.tup ds) ->
  ∃e a its n l7,es.find? (λe=>Value.isStrOf y e.key)=some e/\e.val=.ref a/\K.lookup a=some ⟨.type "tuple",none,.seq its n,l7⟩/\jk its.toList ds=true
 |_,_,.nil,h=>by simp at h
 |_,_,.tup (x:=x) (t:=t) (a:=a) (ds:=O) hh l f tl,h=>by
  by_cases e:y=x
  .subst e;rw[List.lookup_cons_self]at h;cases h
   rw[vC]at f;exact⟨_,a,_,_,_,List.find?_cons_of_pos (by simp[Value.isStrOf]),rr,l,f.2⟩
  .rw[lookup_cons,beq_eq_false_iff_ne.mpr e]at h;have M:Value.isStrOf y (Value.str x t)=false:=by
    rw[Bool.eq_false_iff];intro z;obtain⟨t',q⟩:=Value.isStrOf_shape z;simp_all
   simp only[find?_cons,M];exact tl.findT y h
 |_,_,.flat (x:=x) (t:=t) (u:=u) (d:=d) hh f tl,h=>by
  by_cases e:y=x
  .subst e;rw[lookup_cons,beq_self_eq_true]at h;cases h;cases u<;>cases f
  .rw[lookup_cons,beq_eq_false_iff_ne.mpr e]at h;have M:Value.isStrOf y (Value.str x t)=false:=by
    rw[Bool.eq_false_iff];intro z;obtain⟨t',q⟩:=Value.isStrOf_shape z;simp_all
   simp only[find?_cons,M];exact tl.findT y h
section
variable {X:Cx}{b e:Expr}{pos:Pos}{x:Str}{p:Pos}
def ZK (K:Frag):V->LV->Hp->VK->Prop:=λx xs H Q=>∃(a:Addr)(o:Obj)(its:AV)(n:Nat)(zs:LS)(y:Str),x=.ref a/\xs=[.str y]/\K.lookup a=some o/\o.cls=.type "tuple"/\o.data=.seq its n/\StrsAre its.toList zs/\zs.findIdx (· == y)<zs.length/\Q (.int (zs.findIdx (· == y):Nat)) H
noncomputable def OZ (y:Str):Value->Bool
 |.str z _=>z == y
 |_=>false
theorem CG:∀ {its:LU}{zs:LS},StrsAre its zs->∀(i:Nat)(hi:i<its.length),∃(h:i<zs.length)(t:Tok),its[i]=.str zs[i] t
 |_,_,.cons z t h,0,_=>⟨H9,t,rr⟩
 |_,_,.cons z t h,i+1,hi=>by
  obtain⟨h',t',e⟩:=CG h i (by simpa using hi);simp_all
 |_,_,.nil,i,hi=>by simp at hi
theorem zd:∀ {its:LU}{zs:LS},StrsAre its zs->its.length=zs.length
 |_,_,.nil=>rr
 |_,_,.cons _ _ h=>by rw[vE,vE,zd h]
def IF:Tk X "tuple.index" (ZK X.K):=by
 intro af s σ H x xs v us Q I c d h;obtain⟨a,o,its,n,zs,y,rfl,rfl,f,hc,hd,hz,hk,q⟩:=h;cases c
 obtain⟨u,rfl,⟨t,rfl⟩⟩:=d.one;have U:=I.kIn a o f;have hl:=zd hz;rw[vG]at hl;have at':∀(i:Nat)(hi:i<its.size),∃(h:i<zs.length)(t:Tok),its[i]=.str zs[i] t:=λi hi=>by
  obtain⟨h',t',e⟩:=CG hz i (by simpa using hi);exact⟨h',t',by simpa using e⟩
 refine wpAny_call_entry PySem.F.slot_tuple_index ⟨o,U,hc⟩ PySem.F.entry_tuple_index (Bp (e:=OZ y) U hd (λz hm=>?_) N9 ?_ (λm hm O=>?_) ⟨_,rr,.int _,H,I.tok _,⟨_,rr⟩,q⟩) (PySem.F.args_tuple_index_2 _ _)
 .obtain⟨i,hi,rfl⟩:=Array.mem_iff_getElem.mp hm;obtain⟨_,t',M⟩:=at' i hi;rw[M];exact eqGives_str _ _ _ _
 .obtain⟨_,t',M⟩:=at' (zs.findIdx (· == y)) N9;rw[M];exact List.findIdx_getElem (w:=hk)
 .obtain⟨_,t',M⟩:=at' m hm;rw[M];have:=List.not_of_lt_findIdx O;simpa [OZ]using this
@[simp] def ma (aC:List (Str×D)):D->D->OB
 |.str y,.str z=>match aC.lookup y with
  |some (.tup ds)=>(eO ds).bind λzs=>if zs.findIdx (· == z)<zs.length then some (.int (zs.findIdx (· == z):Nat),false)else none
  |_=>none
 |_,_=>none
def MT {aC:List (Str×D)}{f g:FE}{bV b9:Pos}(h:∃d,X.mg x=some (.ref d)/\mS X.K X.w.params d aC)(hb:JE X b f)(he:JE X e g)(E:Gl X x)(c:bf x)(hs:mF b)
  (O:attributeBase (.Subscript (.Name x p) b pos) "index" X.env (eval (.Subscript (.Name x p) b pos) X.env)=eval (.Subscript (.Name x p) b pos) X.env)
  (G:ph b9 e X.env)
  (U:(bV.endLine == b9.line)=true) (o:cL e X.env):
  JE X (.Call (.Attribute (.Subscript (.Name x p) b pos) "index" bV) [e] [] b9) (f2 (ma aC) f g):=by
 obtain⟨d,hm,cd⟩:=h;have J:Qu X (λx y H Q=>∃z ds,x=.ref d/\y=.str z/\aC.lookup z=some (.tup ds)/\∀a its n l7,X.K.lookup a=some ⟨.type "tuple",none,.seq its n,l7⟩->jk its.toList ds=true->Q (.ref a) H):=by
  intro i j af s σ H x y v u Q I L N q hs;obtain⟨z,ds,rfl,rfl,k,q⟩:=q;cases L
  obtain⟨t,rfl⟩:=N;obtain⟨es,n,l,r,sm⟩:=cd;have A:=PySem.W.mapOf_K (prog:=X.prog) I.kIn l r.lit;obtain⟨en,a,its,n',l7,e1,e2,P,R⟩:=r.findT z k;have S:findBy Value.isStrOf es z=some (.ref a):=by
   simp_all[findBy]
  exact tail_any A.typeIs slot_dict_getitem.lookup (wpAny_getItem_of (strKind_is X.prog X.w z t) A S ⟨.ref a,H,I.tok _,rr,q a _ _ _ P R⟩) hs
 refine PE.to (yn PySem.F.plainAttrs_tuple PySem.F.slot_tuple_index PySem.F.type_tuple_index IF (Hk J (pZ (v:=.ref d) E hm rr c) hb hs) (de he fH o) O G U o rr) λσ H Q q=>?_;obtain⟨B,ρ,d',bb,T,r,M,q⟩:=q;refine eX M λV ex M=>?_;refine eX M λY Z M=>?_;obtain⟨xd,xb⟩:=V;obtain⟨yd,yb⟩:=Y;cases xd with
 |str z=>
  cases yd with
  |str y=>
   refine⟨B,ρ,_,xb,T,r,ex,λv H1 N1 m i1 _=>?_⟩;cases i1
   simp only[ma]at M;split at M
   .rename_i ds k;refine eX M λzs ez M=>?_;split at M
    .rename_i hk;cases M
     refine⟨z,ds,rr,rr,k,λa its n l7 l fl=>⟨.inr (.inl ⟨rr,_,l,rr,rr⟩),N1,ρ,_,yb,m.nh,r.mono m.bn,Z,λv2 H2 N2 C i2 _=>?_⟩⟩;cases i2
     obtain⟨vs,rv,iv⟩:=jl (K:=X.K) fl;exact⟨a,_,its,n,zs,y,rr,rr,l,rr,rr,iT rv (iv N2) ez,hk,(q.into (m.trans C)).one C.nh (.int _)⟩
    simp_all
   simp_all
  |_=>simp[ma]at M
 |_=>simp[ma]at M
end
open PySem.W (tabIn tabObj CodeHd kla_fn kla_obj kla_eval kla_makeFunction kla_makeFunctionHit kla_callFunE kla_codeExpr envX)
def Vx (K:Frag)(c P:Addr):Prop:=∃o vs O a M tg b U d,K.lookup c=some o/\o.cls=.type "code"/\o.data=.fields vs/\vs[11]? = some (.ref P)/\vs.getD 11 .none=.ref P/\vs.getD 18 .none=.str O a /\
 vs.getD 7 .none=.int M tg/\vs.getD 9 .none=.bool b/\vs.getD 10 .none=.int U d/\c≠P
def xh (K:Frag)(x:Str):Prop:=∃c P,tabIn K x=some (c,P)/\Vx K c P
def IG (H:Hp)(f:Addr)(q:Str)(params:Arguments)(M:Expr)(scope:Scope)(cl:List (Str×Addr)):Prop:=
 ∃pm c O u oc u' vs t,H f=some (.frz (kla_obj "<lambda>" q params M scope cl pm c O) u)/\H c=some (.frz oc u')/\oc.data=.fields vs/\vs[1]? = some (.str q t)
def IG.mono (h:IG H f q params O scope cl)(e:aI H H'):IG H' f q params O scope cl:=
 let ⟨pm,c,M,u,oc,u',vs,t,h1,h2,h3,h4⟩:=h;⟨pm,c,M,u,oc,u',vs,t,e _ _ h1,e _ _ h2,h3,h4⟩
def lam_mk {K:Frag}{x:Str}{f c P:Addr}{oc:Value}{od b:Option Addr}{l7 d:Array (Option Value)}{fd:FuncData}{vs:AV}{O:Str}{g tg h:Tok}{M U:Int}{i:Bool}(l:nsIn K mainGlobals x=some (some (.ref f)))(e2:K.lookup f=some ⟨oc,od,.func fd,l7⟩)
  (m:fd.code=.ref c) (j:K.lookup c=some ⟨.type "code",b,.fields vs,d⟩) (k:vs[11]? = some (.ref P)) (n:vs.getD 11 .none=.ref P) (o:vs.getD 18 .none=.str O g) (p:vs.getD 7 .none=.int M tg) (q:vs.getD 9 .none=.bool i) (e:vs.getD 10 .none=.int U h) (a:(c == P)=false):xh K x:=
 ⟨c,P,tab_yes l e2 m j k,_,vs,O,g,M,tg,i,U,h,j,rr,rr,k,n,o,p,q,e,λz=>by rw[z]at a;simp at a⟩
def Br (l:LU)(h:TriplesOk l)(e:codeAmong O (l++[rawInt a,rawInt b,c])=some U):codeAmong O l=some U\/U=c:=by
 fun_induction TriplesOk l with
 |case1=>
  simp_all[rawInt,codeAmong]
 |case2 M t b' u x ai ih=>
  simp only[cons_append,codeAmong]at e |-;split<;>simp_all
 |case3 l h1 h2=>exact h.elim
section
variable {X:Cx}{af:AO}{σ:St}{H:Hp}{s:Shared}
def IH
  (hx:x∈jM) (L:xh X.K x) (hc:∀c P,tabIn X.K x=some (c,P)->X.env.code=.ref c) (hq:X.env.qual ++ "<lambda>" = tI x) (y:defaultsOf params X.env=([],[])) (W:closureFor scope X.env=pure cl)
  (I:Inv X af σ H s) (tb:Tb X.K H) (k:∀f H' s',Inv X af σ H' s'->aI H H'->IG H' f (tI x) params body scope cl->Q (.ref f) s'):
  wq X (eval (.Lambda params body scope pos) X.env) Q E s:=by
 refine kla_eval y ?_;rw[hq];obtain⟨c,P,Y,o,vs,A,tf,Ym,tg,TQ,B,tt,lk,ck⟩:=L;have O:=hc c P Y;have D:=tb x hx c P Y;obtain⟨ps,e,tr,co⟩:=I.hok P _ D;have C:CodeHd s.heap c P:=⟨o,vs,A,tf,Ym,tg,TQ,B,tt,I.kIn c o lk,ck⟩;have Z:s.heap.Ns mainGlobals X.mg:=I.mod.glob.keeps I.bk;have l:∀b,H b=none->b≠P:=λb n z=>by rw[z,D]at n;cases n
 have F:mainGlobals≠P:=by
  obtain⟨og,_,_,eg,_⟩:=I.mod.glob;exact l _ (I.bs _ _ eg).2
 have hb:s.heap.BuiltinsAt X.mg P:=by
  obtain⟨bm,ob,b1,b2,b3,b4,b5,b6⟩:=I.mod.bmain;refine⟨bm,ob,b1,b2,λz=>?_,l _ (I.bs _ _ b3).2,I.bk _ _ b3,b4,b5,b6⟩;obtain⟨og,es,ep,eg,dg,_⟩:=I.mod.glob;simp_all
 cases hf:codeAmong pos ps.toList with
 |some cv=>
  obtain⟨M,oc,u,ws,t,rfl,hH,hd,hv⟩:=co pos cv hf;refine kla_makeFunctionHit (mg:=X.mg) W I.ok.glob Z O C e tr hf hb λU h' tk hk hsz=>?_;have hn:H h'.objs.size=none:=I.hok.fresh hsz;have a:aI H (upd H h'.objs.size (.frz (kla_obj "<lambda>" (tI x) params body scope cl ((X.mg "__name__").getD .none) M U) (.own h'.objs.size))):=λb u q=>by rw[a7 (aM q hn)];exact q
  refine k _ _ _ (I.laid (t':=tk) (λb u q=>vZ _ (hk b u q)) hsz (show bg X.prog X.w _ _ _ (.frz _ (.own h'.objs.size))from ⟨vY _ rr,_,vY _ rr⟩)) a ?_;exact⟨_,M,U,_,oc,u,ws,t,au,a _ _ hH,hd,hv⟩
 |none=>
  refine kla_makeFunction (mg:=X.mg) W I.ok.glob Z O C e tr hf F hb λM U h' tk hx' g pf i G=>?_;obtain⟨c2,oc,ws,t,e2,P7,hd,hv⟩:=i;cases e2
  have J:H M=none:=I.hok.fresh g;have hsz:s.z<=h'.objs.size:=vR g (le_of_lt pf);have N:H h'.objs.size=none:=I.hok.fresh hsz;have R:M≠h'.objs.size:=vS pf;let fo:Obj:=kla_obj "<lambda>" (tI x) params body scope cl ((X.mg "__name__").getD .none) M U;let m:Hp:=upd (upd H M (.frz oc (.own M))) h'.objs.size (.frz fo (.own h'.objs.size));have a:aI H m:=λb u q=>by
   show upd _ _ _ b=_;rw[a7 (aM q N),a7 (aM q J)];exact q
  have h:m M=some (.frz oc (.own M)):=by show upd _ _ _ M=_;rw[a7 R,au]
  have keep:∀b u,b≠P->s.heap.get? b=some u->(h'.push fo).get? b=some u:=λb u n q=>vZ _ (hx' b u n q);have lt:∀b u,s.heap.get? b=some u->b≠M/\b≠h'.objs.size:=λb u q=>⟨vS (vQ (vX q) g),vS (vQ (vX q) hsz)⟩;have Yn:(h'.push fo).get? P=some (tabObj (ps++#[rawInt pos.line,rawInt pos.col,.ref M])):=vZ _ G;refine k _ m _ (I.un (t':=tk) (h':=h'.push fo) ⟨λb u q n _ _=>keep b u (l b n) q,λb u q n _ _=>⟨u.slots,keep b u (l b n) q⟩,λb u q n _=>?_,λb u q _=>?_,λb xs q=>a _ _ q,λb ob u q=>a _ _ q,λb u q=>a _ _ q⟩ λb u q=>?_) a ⟨_,M,U,_,oc,_,ws,t,au,h,hd,hv⟩
  .show upd _ _ _ b=_;rw[a7 (lt b u q).2,a7 (lt b u q).1];exact n
  .by_cases z:b=P
   .subst z;exact⟨_,Yn⟩
   .exact⟨u,keep b u z q⟩
  .by_cases z1:b=h'.objs.size
   .subst z1;have j:some (HO.frz fo (.own h'.objs.size))=some u:=by rw[<-q];exact au.symm
    cases j
    exact⟨vY _ rr,_,vY _ rr⟩
   .by_cases z2:b=M
    .subst z2;rw[h]at q;cases q;exact⟨vZ _ P7,_,vZ _ P7⟩
    .have j:H b=some u:=by
      have:m b=H b:=by show upd _ _ _ b=_;rw[a7 z1,a7 z2]
      rw[<-this];exact q
     by_cases z3:b=P
     .subst z3;rw[D]at j;cases j;refine⟨_,Yn,?_,λA1 S p=>?_⟩
      .simp_all[TriplesOk_snoc]
      .rw[Array.toList_append]at p;rcases Br _ tr p with p|rfl
       .obtain⟨c3,T,u3,V,t3,y1,y2,y3⟩:=co A1 S p;exact⟨c3,T,u3,V,t3,y1,a _ _ y2,y3⟩
       .exact⟨M,oc,_,ws,t,rr,h,hd,hv⟩
     .refine(I.hok b u j).stay (λd v YT r=>keep d v ?_ r) (λd r=>a _ _ r) (λd xs r=>a _ _ r) λd ob v r=>a _ _ r;simp_all<;>lia
end
section
variable {P:Program}{w:World}{K:Frag}{mg:SV}{base:Heap}
def bL.fnL {x:Str}{st:Stmt}{N ps:LS}{k:Nat}{g:FS}{h:Heap}(F:bL K x st)(X:K.In h)(G:h.Ns mainGlobals mg)(S:FnScope N ps (a9 st))
  (O:∀(kV doc pm:Value)(an:Option Addr)(c9 ct:Value)(us:LU),us.length=ps.length->bindArgs (fnOf x x (df st) (bq st) (a9 st) .none kV doc pm an c9 ct) ⟨us,[]⟩=pure (ps.zip us))
  (hb:∀(f:Addr)(c9:Value)(A:Around)(outer:List PySem.Env)(s:Shared)(H:Hp)(E:XK),(∀c P,tabIn K x=some (c,P)->c9=.ref c)->dn k (A.deeper (envOfC x (a9 st) s.z f c9))->yf (pP yo P w K mg base N x (a9 st) f c9 A outer s H E).nox (bq st) g):
  Fn P w K mg base (k+1) x (ax g ps.length (N.length - ps.length)):=by
 obtain⟨f,fd,U,a⟩:=F;have o:=U;obtain⟨oc,od,kV,doc,pm,an,c9,ct,l7,rfl,n,p⟩:=o.ex;have hc:∀c P,tabIn K x=some (c,P)->c9=.ref c:=λc P e=>by
  unfold tabIn at e;simp only[a,n]at e;split at e
  .split at e
   .split at e
    .cases e;rfl
    .cases e
   .cases e
  .cases e
 have len:∀vs H Q E,HL K (ax g ps.length (N.length - ps.length)) vs H Q E->vs.length=ps.length:=λvs H Q E h=>by
  refine cX λW Y=>?_;obtain⟨B,ds,d,b,j,i,e,q⟩:=h;apply Y;clear Y;unfold ax at e;split at e
  .rename_i hl;rw[i.length];exact hl
  simp_all
 refine⟨f,_,ps,Hg n p S len λA outer s H vs Q E r h=>⟨_,tE.nox (hb f c9 A outer s H E hc r),?_⟩,mg_of X G a,U.kp,U.binds O⟩;have M:=len vs H Q E h;refine cX λW Y=>?_;obtain⟨B,ds,d,b,j,i,e,q⟩:=h;apply Y;clear Y;unfold ax at e;rw[if_pos (by rw[<-i.length];exact M)]at e;have l:=qJ (N:=N) j.1 j.2 i;rw[M]at l;split at e
 .rename_i d' b' m;cases e
  exact⟨B,H,_,_,⟨B,l⟩,m,λv H' N' t u y=>q v H' N' t u y⟩
 .rename_i ρ' m;cases e
  exact⟨B,H,_,_,⟨B,l⟩,m,λz H' ⟨N',s'⟩=>q .non H' N' s'.ext .non H9⟩
 simp_all
end
inductive kR (X:Cx)(N':List Str)(scope:Scope)(cl:List (Str×Addr)):Nat->List Nat->Prop where
 |nil {j:Nat}(h:N'.length=j):kR X N' scope cl j []
 |cons {j i:Nat}{r:List Nat}{x:Str}(h1:N'[j]? = some x) (h2:X.N[i]? = some x) (h3:X.env.kindOf x=some .cell\/X.env.kindOf x=some .free)
   (h4:scope.names.lookup x=some .free) (h5:cl.lookup x=X.env.cells.lookup x) (t:kR X N' scope cl (j+1) r):kR X N' scope cl j (i::r)
theorem kR.len:∀ {j:Nat}{cap:LN},kR X N' scope cl j cap->N'.length=j+cap.length
 |_,_,.nil h=>by rw[h];rfl
 |j,i::r,.cons _ _ _ _ _ t=>by rw[t.len,vE];lia
theorem kR.get:∀ {j:Nat}{cap:LN}{k i:Nat},kR X N' scope cl j cap->cap[k]? = some i->∃x,N'[j+k]? = some x/\X.N[i]? = some x/\(X.env.kindOf x=some .cell\/X.env.kindOf x=some .free) /\
  scope.names.lookup x=some .free/\cl.lookup x=X.env.cells.lookup x
 |_,_,_,_,.nil _,e=>by simp at e
 |j,_,0,_,.cons h1 h2 h3 h4 h5 _,e=>by simp at e;subst e;exact⟨_,h1,h2,h3,h4,h5⟩
 |j,_,k+1,i,.cons _ _ _ _ _ t,e=>by
  obtain⟨x,q,r⟩:=t.get (by simpa using e);exact⟨x,N9,r⟩
noncomputable abbrev ze (X:Cx)(N':LS)(scope:Scope)(cl:List (Str×Addr))(q:Str)(A:Around)(f c:Addr)(s:Shared)(H:Hp):Cx:=
 { X with A:=A.deeper (envX q scope s.z f (.ref c) cl),N:=N',s₀:=s,H₀:=H,env:=envX q scope s.z f (.ref c) cl,outer:=X.stack,stack:=envX q scope s.z f (.ref c) cl::X.stack,ex:=[],fn:=λ_=>false,calm:=true,pn:=[],xe:=λ_ _=>False }
structure LamSc (X:Cx)(scope:Scope)(cl:List (Str×Addr))(y:Str):Prop where
 clos:closureFor scope X.env=pure cl
 nocell:∀z∈scope.names,z.2≠.cell
 kind:scope.kind=.function
 co:scope.isCoroutine=false
 gen:scope.isGenerator=false
 par:scope.names.lookup y=some .local
 sub:∀x c,cl.lookup x=some c->X.env.cells.lookup x=some c
 has:∀x,scope.names.lookup x=some .free->∃c,cl.lookup x=some c
def Vy (h1:∀z∈scope.names,z.2≠.cell)(h2:scope.kind=.function)(h3:scope.isCoroutine=false)(M:scope.isGenerator=false)(hp:scope.names.lookup y=some .local)
  (O:(scope.names.all λz=>!(z.2 == NameKind.free) || (X.env.cells.lookup z.1).isSome)=true):LamSc X scope (dD scope.names X.env.cells []) y:=by
 have h4:∀z∈scope.names,z.2=.free->(X.env.cells.lookup z.1).isSome=true:=λz hz e=>by
  grind
 exact⟨ue _ [] h4,h1,h2,h3,M,hp,λx c e=>mM _ [] (λy d q=>by cases q) e,λx h=>by
  have:=mN _ [] (gp h) (h4 _ (gp h) rr);exact uU this⟩
section
variable {X:Cx}{af:AO}{σ:St}{H:Hp}{s:Shared}{A:Around}{N':LS}{scope:Scope}{cl:List (Str×Addr)}{q y:Str}{cap:LN}
def MU (S:LamSc X scope cl y)(B:N'[0]? = some y)(cp:kR X N' scope cl 1 cap)(I:Inv X af σ H s)(C:A.frames=some X.stack)(hh:A.handled=none)(r:aE v u)
  (D:h₁.Ns s.z (λx=>[(y,u)].reverse.lookup x)) (hk:∀b o,s.heap.get? b=some o->h₁.get? b=some o):
  Inv (ze X N' scope cl q A f c s H) [] (some v::yv 0 cap σ) H { s with heap:=h₁,toks:=tk }:=by
 have M:∀b:Addr,b∉(ze X N' scope cl q A f c s H).ex:=λb z=>absurd (show b∈([]:List Addr)from z) H9;refine⟨⟨I.ok.mod,S.kind,rr,rr,vT _,λx z d g e2=>I.ok.inj x z d (S.sub _ _ g) (S.sub _ _ e2),λx hx=>?_,(λx d e=>by cases e),λ_=>hh,Around.frames_deeper C,.inr ⟨rr,rr⟩,λb z=>absurd z (M b),I.bs,vR I.ok.bsz I.sz,λb _ _=>M b,λb z=>absurd z (M b),I.stack,I.stkFree⟩,
  rr,I.bare,Un.kept hk,⟨_,D,λi x n g e2 G=>?_⟩,λx d e=>?_,I.hok.fresh (vT _),λx d e=>I.freeC x d (S.sub _ _ e),λp hp=>absurd (show p∈([]:AO)from hp) H9,I.hok.kept hk,?_⟩
 .have hx':=hx;rcases hx' with hx'|hx'
  .exact absurd rr (S.nocell _ (gp hx'))
  .exact S.has x hx'
 .cases i with
  |zero=>
   have U:=g;rw[B]at U;cases U;have O:=by simpa using e2
   cases O
   exact⟨u,r,.inl ⟨S.par,H9⟩⟩
  |succ k=>
   have O:=by simpa using e2
   obtain⟨k',h,J,g1,a⟩:=wJ O;have:k=k':=N9
   subst this;obtain⟨t,n1,n2,n3,n4,n5⟩:=cp.get g1;have:t=x:=by
    lia
   subst this;have j:σ[h]? = some (some n):=by
    cases z:σ[h]? with
    |none=>rw[z]at a;cases a
    |some w=>rw[z]at a;cases w with
     |none=>cases a
     |some w=>cases a;rfl
   obtain⟨m,_,hl⟩:=I.loc;obtain⟨u',ru,E⟩:=hl h t n n2 j (by
    rcases n3 with n3|n3
    .exact .inr (.inl n3)
    .exact .inr (.inr n3))
   refine⟨u',ru,.inr ⟨.inr n4,?_⟩⟩;rcases E with⟨l1,_⟩|⟨_,d,l2,F⟩
   .lia
   .obtain⟨ob,l,hd⟩:=F;exact⟨d,by rw[n5];exact l2,ob,hk _ _ l,hd⟩
 .obtain⟨w,ob,l,hd⟩:=I.cell x d (S.sub _ _ e);exact⟨w,ob,hk _ _ l,hd⟩
 .have:=cp.len;unfold yv;rw[this];simp;lia
def MV (S:LamSc X scope cl y)(l:N'[0]? = some y)(cp:kR X N' scope cl 1 cap)(I:Inv X af σ H s)
  (m:A.frames=some X.stack) (hh:A.handled=none) (M:A.depth<recursionLimit) (n:IG H f q params body scope cl)
  (O:∀pm c h u,bindArgs (kla_fn "<lambda>" q params body scope cl pm (.ref c) h) ⟨[u],[]⟩=pure [(y,u)])
  (hb:∀(f c:Addr)(s:Shared)(H:Hp),JE (ze X N' scope cl q A f c s H) body fb)
  (rep:eM X.K B σ ρ) (p:aI B H) (r:aE v u) (i:Is X.K B v d) (e:fb (some (d,false)::cc 0 cap ρ)=some (d',b')) (x:Fin X.K B H d' b' Q):
  wpAny (model X.prog X.w) A (call (.ref f) [u]) (EP X af σ Q) (λ_ _=>False) s:=by
 refine cX λk W=>?_;obtain⟨pm,c,h,T,oc,u',ws,t,hf,hc,hd,hv⟩:=n;apply W;clear W;have C:=(I.hok f _ hf).1;have D:=(I.hok c _ hc).1;refine wpAny_call (codeAny_mono (R:=λr s'=>CR yo X.stack X.prog X.w H s Q (λ_ _ _=>False) r s') ?_ λr s' hq=>?_)
 .refine kla_callFunE M C rr S.co S.gen rr ⟨c,oc,ws,t,rr,D,hd,hv⟩ ?_;rw[O];refine wY (wpAny_newFunctionEnv S.nocell (λz hz=>by rw[uT hz];exact S.par) (λk E a=>⟨I.nolimit.fresh _ a,?_⟩) S.kind);have U:=λb o e=>a.extBut b o (vS (vX e)) (vZ _ e);have J:=MU (f:=f) (c:=c) (q:=q) (tk:=s.toks+1) S l cp I m hh r E U;refine kla_codeExpr (wpAny_mono (hb f c s H [] _ _ H Q J ⟨B,_,d',b',p,⟨rep.tb,λj F G z=>?_⟩,e,x⟩) (λw s' hw=>?_) λ_ _ z=>z.elim)
  .cases j with
   |zero=>
    simp_all
   |succ j=>
    obtain⟨w,h1,h2⟩:=(rep.caps ).at' j F G (by simpa using z);simp_all
  .obtain⟨L,H',g,N,P⟩:=hw;exact⟨L,H',g.os,g.bare,g.base,g.hok,N,P⟩
 .cases r with
  |error e=>exact False.elim hq
  |ok fl=>
   cases fl with
   |ret w=>exact I.after hq
   |next=>exact False.elim hq
   |brk=>exact False.elim hq
   |cont=>exact False.elim hq
end
end DL
namespace DL
open PySem PySem.Spec PySem.W PyProof.Rows L2
section
variable {X:Cx}{af:AO}{σ:St}{H:Hp}{s:Shared}{h':Heap}{t':Nat}
def o5 (I:Inv X ((p,o)::af) σ H s):∀x c,X.env.cells.lookup x=some c->c≠p:=λx c e z=>by
 have M:=I.pin _ (mY _ mX);obtain⟨v,ob,O,hd⟩:=I.cell x c e;simp_all
def iW (I:Inv X (p::af) σ H s):Inv X af σ H s:=I.pins_of λq hq=>I.pin q (mY _ (mZ _ hq))
def gF (I:Inv X ((p,o)::af) σ H s)(h0:X.s₀.z<=p)(hp:∀q∈X.pn++af,q.1≠p)(k:∀b u,b≠p->s.heap.get? b=some u->h'.get? b=some u)(O:h'.get? p=some o')(U:∀v,o'.data≠.cell v):
  Inv X ((p,o')::af) σ H { s with heap:=h',toks:=t' }:=by
 have M:=I.pin _ (mY _ mX);have J:=(iW I).turned (t':=t') k M.2.1 M.2.2.1 (.inr h0) (o5 I) hp;refine J.pins_of λq hq=>?_;rcases vP hq with rfl|hq
 .simp_all
 .exact J.pin q (mY _ hq)
def ng (I:Inv X af σ H s)(k:∀b u,s.heap.get? b=some u->h'.get? b=some u)(hs:s.z<=p)(M:h'.get? p=some o)(O:∀v,o.data≠.cell v):Inv X ((p,o)::af) σ H { s with heap:=h',toks:=t' }:=by
 have J:=I.kept (t':=t') k;refine J.pins_of λq hq=>?_;rcases vP hq with rfl|hq
 .exact⟨M,I.hok.fresh hs,ne_of_gt (vQ I.lt hs),I.nofs hs,O⟩
 .exact J.pin q (mY _ hq)
def MW (I:Inv X ((p,o)::af) σ H s)(h0:X.s₀.z<=p)(hp:∀q∈X.pn++af,q.1≠p)(k:∀b u,b≠p->s.heap.get? b=some u->h'.get? b=some u)(d:∃u,h'.get? p=some u)
  (new:bg X.prog X.w (upd H p ob) h' p ob):Inv X af σ (upd H p ob) { s with heap:=h',toks:=t' }:=by
 have M:=I.pin (p,o) (mY _ mX);have hn:=M.2.1;have cs:=o5 I;refine(iW I).step (g':=s.gens) (d':=s.drawn) (ch:=[p]) (λb hb=>?_) (λb u _ _ hc e _=>k b u (λz=>hc (by simp[z])) e) (λb u _ _ hc e _=>⟨u.slots,k b u (λz=>hc (by simp[z])) e⟩) (λb u hc _ n=>by simp_all[a7])
  (λb u hc e=>⟨u,k b u (λz=>hc (by simp[z])) e⟩) (λb xs e=>by rw[a7 (aM e hn)];exact e) (λb u w e=>by rw[a7 (aM e hn)];exact e) (λb q e=>by rw[a7 (aM e hn)];exact e) (λm hm=>?_) (λb u e=>?_) I.bare
 .have z:b=p:=by simpa using hb
  subst z;exact⟨.inr h0,M.2.2.1,cs,hp⟩
 .obtain⟨O,es,U,a,r⟩:=hm;exact⟨O,es,U,k _ O (λz=>M.2.2.1 z.symm) a,r⟩
 .by_cases z:b=p
  .simp_all[au]
  .rw[a7 z]at e;refine(I.hok b u e).stay (λc v hc q=>k c v ?_ q) (λc q=>?_) (λc xs q=>?_) λc w xs q=>?_
   .lia
   .rw[a7 (aM q hn)];exact q
   .rw[a7 (aM q hn)];exact q
   .rw[a7 (aM q hn)];exact q
end
def u0 (X:Cx)(A:Around)(σ:St)(M:Value)(B O:Hp)(U:D->Option D):Prop:=
 ∀(af:AO)(s:Shared)(H N:Hp)(v:V)(u:Value)(d d':D),Inv X af σ H s->aI O H->aI B N->aI N H->Is X.K N v d->aE v u->U d=some d' ->
  wpAny (model X.prog X.w) A (call M [u]) (EP X af σ λa H'=>∃N',Ext N N' H H'/\Is X.K N' a d') (λ_ _=>False) s
def JK (X:Cx)(A:Around)(e:Expr)(U:Env->D->Option D):Prop:=∀(af:AO)(s:Shared)(σ:St)(H B:Hp)(ρ:Env)(Q:QV)(E:QV),Inv X af σ H s->aI B H->eM X.K B σ ρ ->
 (∀O M s1,Inv X af σ M s1->aI H M->u0 X A σ (.ref O) B M (U ρ)->Q (.ref O) s1)->wq X (eval e X.env) Q E s
section
variable {X:Cx}{A:Around}
@[simp] def xi (cap:LN)(M:FE):Env->D->Option D:=λρ d=>(M (some (d,false)::cc 0 cap ρ)).map (·.1)
def R7 (hx:x∈jM)(L:xh X.K x)(hc:∀c P,tabIn X.K x=some (c,P)->X.env.code=.ref c)(hq:X.env.qual ++ "<lambda>" = tI x)
  (O:defaultsOf params X.env=([],[])) (S:LamSc X scope (dD scope.names X.env.cells []) y) (b:N'[0]? = some y) (cp:kR X N' scope (dD scope.names X.env.cells []) 1 cap) (g:A.frames=X.A.frames) (U:dn (k+1) A)
  (M:∀pm c h u,bindArgs (kla_fn "<lambda>" (tI x) params body scope (dD scope.names X.env.cells []) pm (.ref c) h) ⟨[u],[]⟩=pure [(y,u)])
  (hb:∀(f c:Addr)(s:Shared)(H:Hp),dn k (ze X N' scope (dD scope.names X.env.cells []) (tI x) A f c s H).A->JE (ze X N' scope (dD scope.names X.env.cells []) (tI x) A f c s H) body fb):JK X A (.Lambda params body scope pos) (xi cap fb):=by
 intro af s σ H B ρ Q E I i rep j;refine IH hx L hc hq O S.clos I (rep.tb.mono i) λf l s1 m n o=>j f l s1 m n ?_;intro w s' H' N v u d d' a m1 m2 p iv r e;obtain⟨⟨d2,b2⟩,q,e2⟩:=oY e;cases e2
 exact MV S b cp a (g.trans a.ok.frames) U.hd U.depth (o.mono m1) M (λf c s H=>hb f c s H (U.deeper _)) (rep.mono m2) p r iv q λz H2 N2 t i2 _=>⟨N2,t,i2⟩
@[simp] noncomputable def FD (g:LD->OB):Env->D->Option D:=λ_ d=>(g [d]).map (·.1)
def Pa (F:Fn X.prog X.w X.K X.mg X.base k x g)(f:dn k A)(h:A.frames=X.A.frames)(i:Gl X x)(O:bf x):JK X A (.Name x p) (FD g):=by
 intro af s σ H B ρ Q E I o rep j;obtain⟨ad,fd,ps,b,hm,hk,hb⟩:=F.ex;refine wn I i hm ?_ O;refine j ad H s I (.refl H) ?_;intro U s' H' N v u d d' a m1 m2 l iv r e;obtain⟨⟨d2,b2⟩,m,e2⟩:=oY e;cases e2
 have sp:HL _ g _ H' (λc H2=>∃N',Ext N N' H' H2/\Is _ N' c d2) (λ_ _ _=>False):=⟨N,[d],d2,b2,⟨l,rep.tb.mono m2⟩,.cons iv .nil,m,λc H2 N2 n i2 _=>⟨N2,n,i2⟩⟩;have hl:[u].length=ps.length:=by have:=b.len _ _ _ _ sp;simp_all
 have M:=a.env0;have bb:=hb s' [u] a.kIn (by simpa using hl);refine wpAny_call (codeAny_mono (b.run A _ s' H' _ _ _ _ _ f ⟨h.trans M.frames,M.mod,M.bs,M.bsz,M.funs,M.frf,M.hok,M.bare⟩ bb (.cons r .nil) sp) λr s' hq=>?_);cases r with
 |error e=>exact False.elim hq
 |ok fl=>
  cases fl with
  |ret w=>exact a.after hq
  |next=>exact False.elim hq
  |brk=>exact False.elim hq
  |cont=>exact False.elim hq
end
noncomputable def hW (f:D->Option D):LD->Option LD
 |[]=>some []
 |d::ds=>(f d).bind λx=>(hW f ds).map (x :: ·)
theorem jV:∀ {ds ks:LD},hW f ds=some ks->ks.length=ds.length
 |[],_,h=>by simp_all[hW]
 |d::ds,_,h=>by
  refine eX h λa h1 h=>?_;refine eB h λr h2 h=>?_;subst h;simp[jV h2]
theorem ra:∀ {ds ks:LD},hW f ds=some ks->∀ {i:Nat}{d:D},ds[i]? = some d->∃k,ks[i]? = some k/\f d=some k
 |[],_,h,i,d,e=>by simp at e
 |d::ds,_,h,0,e,q=>by
  refine eX h λa h1 h=>?_;refine eB h λr h2 h=>?_;grind
 |d::ds,_,h,i+1,e,q=>by
  refine eX h λa h1 h=>?_;refine eB h λr h2 h=>?_;subst h;obtain⟨k,M,O⟩:=ra h2 (by simpa using q);simp_all
structure KK (X:Cx)(A:Around)(kd:List D->Option (List (List At)))(ok:List (List At)->Bool):Prop where
 len:∀ {ds:List D}{ks:List (List At)},kd ds=some ks->ks.length=ds.length
 ask:∀ {af:List (Addr×Obj)}{σ:St}{H:Hp}{s:Shared}(_:Inv X af σ H s) {ys:List V}{ds:List D}{ks:List (List At)}{its:List Value},aL ys its->IsL X.K H ys ds->kd ds=some ks->ok ks=true->cy ks=true ->
  (0<ks.length->∀ {E:Value->Shared->Prop}{Q:SortKind->Shared->Prop},Q (tuples' true) s->wpAny (model X.prog X.w) A (keyKind' its.toArray) Q E s) /\
  ∀(i j:Nat)(C:Bool->Shared->Prop)(s1:Shared),i<ks.length->j<ks.length->s1=s->(∀s',s'=s->C (qX (L5 ks) i j) s')->kas_ask X.prog X.w A (tuples' true) its i j C s1
def II:KK X A du cH:=⟨o4,λI _ _ _ _ r i e hf hc=>have hp:=qh I r i e;⟨λhn _ _ q=>IC hp hf hn q,MQ hc hp⟩⟩
section
variable {X:Cx}{af:AO}{σ:St}{s:Shared}
theorem u6 (r:aE x u):∀ {vs:LV}{us:LU},aL vs us->aL (vs++[x]) (us++[u])
 |_,_,.nil=>.cons r .nil
 |_,_,.cons h t=>.cons h (u6 r t)
def cA:∀v,(Obj.mk c od (.seq its n) sl).data≠.cell v:=λv z=>by cases z
def Bt
  (I:Inv X ((a,seqObj "list" its.toArray n)::af) σ H s) (h0:X.s₀.z<=a) (hp:∀q∈X.pn++af,q.1≠a) (AB:u0 X A σ qv B H kf) (x:aL vs its) (iv:IsL X.K B vs ds) (sB:aI B H)
  (M:KK X A kd ok) (em:hW kf ds=some iM) (ek:kd iM=some ks) (hc:cy ks=true) (hf:ok ks=true) (GN:its.length<64)
  (h:∀(p:Array Nat)(s':Shared)(H' N:Hp),pY its.length p->Up (L5 ks) p its.length->Inv X af σ (upd H' a (.lst (p.toList.map λi=>vs.getD i .non))) s'->Ext B N H H'->H' a=none->P (.done (.ret .none)) s'):
  wpAny (model X.prog X.w) A (ksk_tree a qv false) P E s:=by
 have t:=I.pin (a,seqObj "list" its.toArray n) (mY _ mX)
 have Cb:vs.length=its.length:=x.length
 have SX:ds.length=vs.length:=iv.length.symm
 have hkd:iM.length=ds.length:=jV em
 have hks:ks.length=iM.length:=M.len ek
 have hz:its.length<=sizeLine:=by rw[sizeLine_eq];lia
 have hna:H a=none:=t.2.1
 obtain⟨U,TK⟩:∃U,(s.heap.update a (Obj.mapSeq λ_=>(#[]:AV))).get? a=some (seqObj "list" #[] U):=⟨_,get?_update_seq t.1 λ_=>#[]⟩
 have u1:=vW s.heap a (Obj.mapSeq λ_=>(#[]:AV))
 have I1:=gF (t':=s.toks) I h0 hp (λb u n q=>(u1.2 b n).trans q) TK cA
 let h2:Heap:=(s.heap.update a (Obj.mapSeq λ_=>(#[]:AV))).push (seqObj "tuple" its.toArray 0)
 have y:Inv X ((a,seqObj "list" #[] U)::af) σ H { s with heap:=h2 }:=I1.kept (t':=s.toks) λb u q=>vZ _ q
 let kS:Addr:=h2.objs.size
 have I3:Inv X ((kS,seqObj "list" #[] 0)::(a,seqObj "list" #[] U)::af) σ H { s with heap:=h2.push (seqObj "list" #[] 0) }:=ng (s:={ s with heap:=h2 }) (t':=s.toks) y (λb u q=>vZ _ q) (vT _) (vY _ rr) cA
 have k0:X.s₀.z<=kS:=y.sz
 have kp:∀q∈X.pn++((a,seqObj "list" #[] U)::af),q.1≠kS:=λq hq=>vS (vX (y.pin q hq).1)
 unfold ksk_tree
 refine wX (listItems_at t.1 rr ?_)
 refine wX (listUpdate_at t.1 rr ?_ (by simpa using hz) (uN _))
 refine wX (seqEpoch_at TK rr ?_)
 refine wX (wpAny_newTuple ?_ (by simp_all))
 refine wX (wpAny_newList ?_ (uN _))
 refine wpAny_holding ?_
 show wpAny (model X.prog X.w) A (ksk_rest a qv false its.toArray U (.ref kS)) P E { s with heap:=h2.push (seqObj "list" #[] 0) }
 unfold ksk_rest
 refine wX (wpAny_rule ?_)
 rw[List.forIn_toArray]
 refine wX (ksk_fold (λi s'=>∃(H' N:Hp)(kA:AV)(e:Nat)(aC:LV),Inv X ((kS,seqObj "list" kA e)::(a,seqObj "list" #[] U)::af) σ H' s'/\Ext B N H H'/\aL aC kA.toList/\IsL X.K N aC (iM.take i)) its 0 _
  ⟨H,B,#[],0,[],I3,.refl sB,.nil,by simpa using IsL.nil⟩ ?step ?done)
 case step=>
  rintro j u s' hu ⟨H',N,kA,e,aC,J,c,rk,ik⟩
  simp only[zero_add]at ik |-
  have hj:j<its.length:=(vV hu).1
  obtain⟨d,hd⟩:∃d,ds[j]? = some d:=⟨_,vU N9⟩
  obtain⟨v,hv,Yo⟩:=iv.get hd
  obtain⟨kd,YV,D⟩:=ra em hd
  obtain⟨u',Yp,ru⟩:=x.get hv
  rw[hu]at Yp;cases Yp
  have kl:kA.size=j:=by
   have z1:=rk.length
   have z2:=ik.length
   simp_all<;>lia
  refine wX (wpAny_attempt (wpAny_mono (AB _ s' H' N v u d kd J c.hh c.bn c.nh (Yo.mono c.bn) ru D) (λw F hw=>?_) λ_ _ hF=>hF.elim))
  obtain⟨v',L,J',rv',N',x2,i2⟩:=hw
  have g:=J'.pin (kS,seqObj "list" kA e) (mY _ mX)
  obtain⟨c2,GC⟩:∃c2,(F.heap.update kS (Obj.mapSeq (·.push w))).get? kS=some (seqObj "list" (kA.push w) c2):=⟨_,get?_update_seq g.1 (·.push w)⟩
  have u2:=vW F.heap kS (Obj.mapSeq (·.push w))
  refine wX (listUpdate_at g.1 rr ?_ (by rw[sizeLine_eq];lia) (vR (le_of_eq (Array.size_push ..)) (by rw[sizeLine_eq];lia)))
  refine wY ⟨rr,L,N',kA.push w,c2,aC++[v'],gF (t':=F.toks) J' k0 kp (λb q n z=>(u2.2 b n).trans z) GC cA,c.trans x2,?_,?_⟩
  .simp_all[u6]
  .rw[take_add_one,YV];exact(ik.mono x2.bn).append (.cons i2 .nil)
 case done=>
  rintro s' ⟨H',N,kA,e,aC,J,c,rk,ik⟩
  have k:IsL X.K N aC iM:=by
   grind
  have g:=J.pin (kS,seqObj "list" kA e) (mY _ mX)
  have R:=J.pin (a,seqObj "list" #[] U) (mY _ (mZ _ mX))
  have S:H' a=none:=R.2.1
  have kz:kA.toList.length=its.length:=by rw[<-rk.length,k.length];lia
  have l:kA.size=its.length:=by simp_all
  refine wX (listItems_at g.1 rr ?_)
  have m:=M.ask J rk (k.mono c.nh) ek hf hc
  -- the end of the sort,for a permutation p
  have T:∀(st:SortSt)(p:Array Nat),arrOf st=p.map (kas_item (kA.toList.toArray.zip its.toArray))->failedOf st=none->pY its.length p->Up (L5 ks) p its.length ->
    wpAny (model X.prog X.w) A (ksk_tail a false U (.ref kS) st) P E s':=λst p ea ef ap up=>by
   have eo:(arrOf st).map (·.2)=List.toArray (p.toList.map λi=>its.getD i Value.none):=kat_snds kz ea
   have AA:∀i∈p.toList,i<vs.length:=λi hi=>by
    have:=mem_range.mp (ap.perm.mem_iff.mp hi)
    simp_all
   obtain⟨c3,V⟩:∃c3,(s'.heap.update kS (Obj.mapSeq λ_=>(#[]:AV))).get? kS=some (seqObj "list" #[] c3):=⟨_,get?_update_seq g.1 λ_=>#[]⟩
   have u3:=vW s'.heap kS (Obj.mapSeq λ_=>(#[]:AV))
   have J3:=iW (gF (t':=s'.toks) J k0 kp (λb q n z=>(u3.2 b n).trans z) V cA)
   have f:=J3.pin (a,seqObj "list" #[] U) (mY _ mX)
   obtain⟨W,o⟩:∃W,((s'.heap.update kS (Obj.mapSeq λ_=>(#[]:AV))).update a (Obj.mapSeq λ_=>(arrOf st).map (·.2))).get? a=some (seqObj "list" ((arrOf st).map (·.2)) W):=⟨_,get?_update_seq f.1 λ_=>(arrOf st).map (·.2)⟩
   have u4:=vW (s'.heap.update kS (Obj.mapSeq λ_=>(#[]:AV))) a (Obj.mapSeq λ_=>(arrOf st).map (·.2))
   have so:((arrOf st).map (·.2)).size=its.length:=by rw[eo];simp only[vH,vI,vG,ap.size]
   unfold ksk_tail
   try dsimp only
   refine wX (listUpdate_at g.1 rr ?_ (by rw[l,sizeLine_eq];lia) (uN _))
   refine wX (wpAny_letGo ?_)
   refine wX (seqEpoch_at f.1 rr ?_)
   refine wX (listUpdate_at f.1 rr ?_ (uN _) N9)
   rw[ef]
   simp only[bne_self_eq_false,uV,if_false]
   refine wY (h p _ H' N ap up (MW (s:={ s' with heap:=s'.heap.update kS (Obj.mapSeq λ_=>(#[]:AV)) }) (t':=s'.toks) J3 h0 hp (λb q n z=>(u4.2 b n).trans z) ⟨_,o⟩ ?_) c S)
   refine⟨by rw[vI,vG,ap.size];exact hz,p.toList.map λi=>its.getD i Value.none,W,uz x p.toList AA,?_⟩
   rw[<-eo];exact o
  unfold ksk_end
  try dsimp only
  simp only[uV,if_false]
  have Y:kA=kA.toList.toArray:=H9
  by_cases O:its.toArray.size<2
  .rw[if_pos O,if_pos O]
   refine wX (wY ?_)
   rw[StateT.run_pure]
   refine wX (wY ?_)
   have hsm:its.length<2:=by simpa using O
   refine T _ (List.toArray (List.range its.length)) ?_ rr ⟨H9,H9⟩ ?_
   .show kA.zip its.toArray=_
    have:=kas_range (kA.toList.toArray.zip its.toArray)
    rw[show(kA.toList.toArray.zip its.toArray).size=its.length by simp[l]]at this
    rw[this]
   .intro i j hij hj
    grind
  .rw[if_neg O,if_neg O]
   have Z:2<=its.length:=by simp at O;lia
   rw[Y]
   refine wX (m.1 N9 ?_)
   obtain⟨p,r1,r2,r3⟩:=Iz (n:=its.length) (rk:=L5 ks) N9
   refine wX (wpAny_mono (kat_run (E:=E) (ks:=kA.toList) (vs:=its) (κ:=tuples' true) (s:=s') (Q:=λGL s2=>s2=s'/\arrOf GL=p.map (kas_item (kA.toList.toArray.zip its.toArray))/\failedOf GL=none)
    (G:=λp' s2=>p'=p/\s2=s') kz Z GN (λp' GL s2 _ e2 e3 e4=>by
     lia) (Run.wp (λs2=>s2=s') (λi j C s2 hi hj e hC=>m.2 i j C s2 N9 N9 e hC) r1 rr λs2 e=>⟨rr,e⟩)) (λr s2 hr=>?_) λ_ _ z=>z)
   grind
end
theorem zf {α M:Type}{f:α->M}:∀ {l:List α},(l.map f).Nodup->l.Nodup
 |[],_=>nodup_nil
 |a::l,h=>by
  rw[uY,nodup_cons]at h;exact nodup_cons.mpr ⟨λz=>h.1 (uS ⟨a,z,rr⟩),zf h.2⟩
def dF (ks:List (List At))(ds:LD):LD:=(dr (λp:List At×D=>bU p.1) (ks.zip ds)).map (·.2)
def IJ {α U:Type}(d:α)(e:U):∀ {O:List α}{M:List U},O.length=M.length->(List.range M.length).map (λi=>(O.getD i d,M.getD i e))=O.zip M:=λ{O M} h=>by
 apply ext_getElem?;intro i;by_cases hi:i<M.length
 .simp_all
 .simp[hi,h]
theorem MX {α U:Type}{M:List α}{O:List U}(nd:M.Nodup){a:α}{b c:U}(h1:(a,b)∈M.zip O)(h2:(a,c)∈M.zip O):b=c:=by
 obtain⟨i,hi⟩:=mem_iff_getElem?.mp h1;obtain⟨j,hj⟩:=mem_iff_getElem?.mp h2;grind[List.getElem_inj]
def Bu {ds:LD}{ks:List (List At)}{p:Array Nat}(hl:ks.length=ds.length)(hc:cy ks=true)(nd:ks.Nodup)(ap:pY ds.length p)(O:Up (L5 ks) p ds.length):p.toList.map (λi=>ds.getD i .non)=dF ks ds:=by
 unfold dF;have e:p.toList.map (λi=>(ks.getD i [],ds.getD i .non))=dr (λp:List At×D=>bU p.1) (ks.zip ds):=by
  apply jU
  .intro x hx y hy e;have mx:=(of_mem_zip hx).1;have g:=(of_mem_zip hy).1;grind[o3,MX]
  .have:=ap.perm.map (λi=>(ks.getD i [],ds.getD i D.non));rw[IJ [] D.non hl]at this;exact this
  .rw[List.pairwise_iff_getElem];intro i j hi hj M;have hsz:=ap.size;have U:i<p.size:=by simpa using hi
   have a:j<p.size:=by simpa using hj
   have:=O i j (le_of_lt M) N9;unfold bM L5 at this;have b:p.getD i 0=p[i]:=by simp_all
   have c:p.getD j 0=p[j]:=by simp_all
   have h:=ap.lt (k:=j) N9;have d:ks.getD (p.getD j 0) []∈ks:=by
    simp_all
   have f:¬bU (ks.getD (p.getD j 0) [])<bU (ks.getD (p.getD i 0) []):=λz=>by
    have:=CB (cs:=ks.map bU) (uS ⟨_,d,rr⟩) z;lia
   simp only[List.getElem_map,Array.getElem_toList];unfold L4;rw[<-b,<-c];exact f
 rw[<-e,uP];rfl
@[simp] def xj (kd:LD->Option (List (List At)))(ok:List (List At)->Bool)(f:FE)(O:Env->D->Option D):FE:=λρ=>(f ρ).bind λx=>match x.1 with
 |.lst ds=>(hW (O ρ) ds).bind λM=>(kd M).bind λks=>if ks.length<64/\cy ks=true/\ok ks=true/\(ks.map bU).Nodup then some (.lst (dF ks ds),true)else none
 |_=>none
@[simp] abbrev xl:FE->(Env->D->Option D)->FE:=xj du cH
noncomputable def ZL (g:(D->Option D)->LD->OB)(f:FE)(M:Env->D->Option D):FE:=λρ=>(f ρ).bind λx=>match x.1 with
 |.lst ds=>g (M ρ) ds
 |_=>none
section
variable {X:Cx}{e ke:Expr}{p pos kp:Pos}{kd:LD->Option (List (List At))}{ok:List (List At)->Bool}
def uA {s2:Shared}{tk:Nat}{h1:Heap}{Q:V->Hp->Prop}(M:KK X X.A.in1.in1 kd ok)(U:Inv X af σ H2 { s2 with heap:=h1,toks:=tk })(l:u0 X X.A.in1.in1 σ (.ref qa) N H2 kf)(g:aL vs its)(a:IsL X.K N vs ds)(c:Ext B N H H2)(h:hW kf ds=some iM)(ek:kd iM=some ks)
  (hh:ks.length<64/\cy ks=true/\ok ks=true/\(ks.map bU).Nodup) (q:Fin X.K B H (.lst (dF ks ds)) true Q):
  wpAny (model X.prog X.w) X.A.in1 (do let _ <-holding [.ref h1.objs.size] (call (.builtin "list.sort") [.ref h1.objs.size] [(("key" : Str),.ref qa)]);ret (.ref h1.objs.size)) (λdX s'=>∃v,dX=.done (.ret v)/\EP X af σ Q v s') X.xe { s2 with heap:=h1.push (seqObj "list" its.toArray 0),toks:=tk }:=by
 obtain⟨x,hc,hf,nd⟩:=hh;have y:vs.length=its.length:=g.length;have z:ds.length=vs.length:=a.length.symm;have m:iM.length=ds.length:=jV h;have n:ks.length=iM.length:=M.len ek;have j:Inv X ((h1.objs.size,seqObj "list" its.toArray 0)::af) σ H2 _:=
  ng (s:={ s2 with heap:=h1,toks:=tk }) (t':=tk) U (λb u q=>vZ _ q) (vT _) (vY _ rr) cA
 have r:=j.pin _ (mY _ mX);refine wX (wpAny_holding (wpAny_call_entry_kw slot_list_sort ⟨_,r.1,rr⟩ entry_list_sort ?_ (ksk_l1 _ _)));rw[ksk_t1];refine Bt j U.sz (λq hq=>vS (vX (U.pin q hq).1)) l g a c.nh M h ek hc hf N9 λpm s' H' N' ap k J O hn=>⟨_,rr,wY ⟨_,rr,?_⟩⟩;have t:its.length=ds.length:=N9
 rw[t]at ap k;have d:=zb (a.mono O.bn) pm.toList λi hi=>mem_range.mp (ap.perm.mem_iff.mp hi);rw[Bu N9 hc (zf nd) ap k]at d;have f:=Ext.laid (o:=.lst (pm.toList.map λi=>vs.getD i .non)) O.nh hn;exact⟨.ref h1.objs.size,_,J,rr,q _ _ _ ((c.trans O).trans f) (.lst (eN.of au) (d.mono f.bn)) λ_=>⟨_,_,_,rr,rr,(c.trans O).hh.free hn,au,d.mono f.bn⟩⟩
def IK {nm:String}{ns:Str}{A:Around}{g:(D->Option D)->LD->OB}(bt:bootBuiltins ns=some (.builtin nm))(n1:ns ≠ "__name__")(n2:bf ns)(hm:X.mg ns=none)(he:JE X e f)(hk:JK X A ke a)(m:Gl X ns)
  (M:cL e X.env)
  (U:∀ {af σ H2 s2 j} {B N H:Hp}{a:D->Option D}{l vs its ds d b Q},Inv X af σ H2 s2->u0 X A σ (.ref j) N H2 a->eN X.K N l vs->IsL X.K N vs ds->aL vs its->s2.heap.IsList l its.toArray->Ext B N H H2->g a ds=some (d,b)->Fin X.K B H d b Q->wq X (call (.builtin nm) [.ref l] [(("key" : Str),.ref j)]) (EP X af σ Q) X.xe s2):
  JE X (.Call (.Name ns p) [e] [⟨some "key",ke,kp⟩] pos) (ZL g f a):=by
 intro af s σ H Q I h;refine cX λG W=>?_;obtain⟨B,ρ,d,b,n,rep,c,q⟩:=h;obtain⟨⟨xd,C⟩,ex,c⟩:=oX c;apply W;cases xd<;>try (cases c;done)
 rename_i ds;refine wpAny_Call_Name_kw (fG I m hm bt ?_ n1 n2);refine callWith_kw (bG ((de he fH M) pos af s σ H (λvs i=>∃v N,vs=[v]/\Ext B N H i/\Is X.K N v (.lst ds)) I ⟨B,ρ,_,_,n,rep,ex,λv i N O i1 _=>⟨v,N,rr,O,i1⟩⟩) λus s1 o=>?_) (by rw[M];rfl) (by rw[M];rfl) rr rr;obtain⟨r,i,t,w,v,N,rfl,O,i1⟩:=o;obtain⟨u,rfl,ru⟩:=gh w;refine kws_cons (hk af s1 σ i N ρ _ _ t O.nh (rep.mono O.bn) λj H2 s2 k m2 x=>kws_nil ?_);cases i1
 rename_i l vs hq y;cases ru
 obtain⟨its,z,pl,_⟩:=k.list ((O.nh.trans m2).seq hq);exact U k x hq y z pl.isList (O.trans (.grow O.nh m2)) c q
def Pc (M:KK X X.A.in1.in1 kd ok){f:FE}{c:Env->D->Option D}(hm:X.mg "sorted" = none)(he:JE X e f)(hk:JK X X.A.in1.in1 ke c)(i:Gl X "sorted")
  (a:cL e X.env):
  JE X (.Call (.Name "sorted" p) [e] [⟨some "key",ke,kp⟩] pos) (xj kd ok f c):=by
 refine IK (nm:="sorted") (g:=λk ds=>(hW k ds).bind λU=>(kd U).bind λks=>if ks.length<64/\cy ks=true/\ok ks=true/\(ks.map bU).Nodup then some (.lst (dF ks ds),true)else none) rr P9 P9 hm he hk i a λ{af σ H2 s2 qa B N H k l vs its ds d b Q} I2 AB hq il rv pl x1 O q=>?_;refine eX O λU h O=>?_;refine eX O λks ek O=>?_;split at O
 .rename_i hh;cases O
  have hz:its.length<=sizeLine:=by rw[<-rv.length,il.length,<-jV h,<-M.len ek,sizeLine_eq];lia
  refine call_function_entry_kw kind_sorted plain_sorted entry_sorted (ksk_s1 _ _) ?_;unfold Builtin.«sorted»;refine wX (m:=checkCount "sorted" 1 1 _) (wY (wX (collect_list pl (wX (wpAny_newList ?_ hz)) (by simpa using hz))));exact uA (tk:=s2.toks) M (I2.kept λb o q=>(Heap.get?_update_ne _ _ _ _ (vS (vX q))).trans (vZ _ q)) AB rv il x1 h ek hh q
 .cases O
end
noncomputable def cmP {f:String->CmpOp->Builtin}(_:f "__lt__" .Lt=Builtin.«tuple.__lt__»):=f
def cmF:String->CmpOp->Builtin:=cmP rr
section
variable {prog:Program}{w:World}{A:Around}{E:QV}{s:Shared}{op:CmpOp}
def gE.type (h:gE s.heap xs v):s.TypeIs v "tuple":=by
 obtain⟨a,o,its,n,rfl,M,hc,_⟩:=h;exact⟨o,M,hc⟩
inductive GeW (prog:Program)(w:World)(A:Around)(s:Shared)(op:CmpOp)(dX r:Bool):List (Value×Value)->Prop
 |nil (h:dX=r):GeW prog w A s op dX r []
 |eq {u v:Value}{l:List (Value×Value)}(h:SeqAt.EqAt A s u v true) (t:GeW prog w A s op dX r l):GeW prog w A s op dX r ((u,v)::l)
 |ne {u v:Value}{l:List (Value×Value)}(h:SeqAt.EqAt A s u v false) (t:∀(Q E:Value->Shared->Prop),Q (.bool r) s->wpAny (model prog w) A (richCompare op u v) Q E s):GeW prog w A s op dX r ((u,v)::l)
def MY {nm:String}(O:s.TypeIs (.ref b) "tuple")(U:s.heap.get? a=some oa)(c:oa.data=.seq its na)(d:s.heap.get? b=some ob)(e:ob.data=.seq GF nb)
  (W:GeW prog w A s op dX r (its.toList.zip GF.toList)) (hz:Builtin.Tuple.tupleCompareSizes op its.size GF.size=.bool dX) (f:op=.Lt\/op=.Gt\/op=.GtE) (q:P (.done (.ret (.bool r))) s):wpAny (model prog w) A (cmF nm op ⟨[.ref a,.ref b],[]⟩) P E s:=by
 show wpAny _ _ (isInstance _ _>>=_) _ _ s;refine wX (wpAny_isInstance O isSubtype_tuple_tuple ?_);refine wX (wpAny_tupleItemsOf U c ?_);refine wX (wpAny_tupleItemsOf d e ?_);refine wX ?_;refine wpAny_forIn_list _ (λai z s'=>z.1=none/\s'=s/\GeW _ w A s op _ r ai) _ ?_ ?_ _ _ ⟨rr,rr,W⟩
 .rintro⟨u,v⟩ ai z s' ⟨hz,rfl,W⟩;cases W with
  |eq h t=>
   refine wX (h _ _ _ _ ?_);simp_all[wY]
  |ne h t=>
   refine wX (h _ _ _ _ ?_);have t:=t (λv M=>v=.bool r/\M=s') E ⟨rr,rr⟩;rcases f with rfl|rfl|rfl<;>exact wX (wpAny_rule (wX (wpAny_mono t (λv M hv=>by obtain⟨rfl,rfl⟩:=hv;exact wX (wY (wY (wY q)))) λ_ _ z=>z)))
 .rintro⟨i,j⟩ s' ⟨g,rfl,W⟩;subst g;refine wY ?_;cases W with
  |nil h=>
   simp_all
structure CmR (prog:Program)(w:World)(A:Around)(s:Shared)(op:CmpOp)(R:List At->List At->Bool->Prop)(fl:Nat->Nat->Bool):Prop where
 ei:∀ {a xs ys r},R (.i a::xs) (.i a::ys) r->R xs ys r
 es:∀ {a xs ys r},R (.s a::xs) (.s a::ys) r->R xs ys r
 ni:∀ {a c xs ys r},a≠c->R (.i a::xs) (.i c::ys) r->∀t u (Q E:Value->Shared->Prop),Q (.bool r) s->wpAny (model prog w) A (richCompare op (.int a t) (.int c u)) Q E s
 ns:∀ {a c xs ys r},a≠c->R (.s a::xs) (.s c::ys) r->∀t u (Q E:Value->Shared->Prop),Q (.bool r) s->wpAny (model prog w) A (richCompare op (.str a t) (.str c u)) Q E s
 mx:∀ {a c xs ys r},¬R (.i a::xs) (.s c::ys) r/\¬R (.s c::xs) (.i a::ys) r
 en:∀ {xs r},(R [] xs r->fl 0 xs.length=r)/\(R xs [] r->fl xs.length 0=r)
 fs:∀ {m n},fl (m+1) (n+1)=fl m n
def IL (C:CmR prog w A s op R fl)(xs ys:List At)(its M:LU)(U:Paired A8 xs its)(b:Paired A8 ys M)(h:R xs ys r):GeW prog w A s op (fl xs.length ys.length) r (its.zip M):=by
 induction U generalizing ys M with
 |nil=>exact .nil (C.en.1 h)
 |@cons x v xs its U d ih=>
  cases b with
  |nil=>exact .nil (C.en.2 h)
  |@cons y u ys M b O=>
   cases x with
   |i a=>
    cases y with
    |s _=>exact absurd h C.mx.1
    |i c=>
     obtain⟨t,rfl⟩:=U;obtain⟨u,rfl⟩:=b;have he:=SeqAt.EqAt.int_int (A:=A) (s:=s) a t c u;rw[vE,vE,C.fs];by_cases e:a=c
     .subst e;rw[show(a == a)=true by simp]at he;exact .eq he (ih ys M O (C.ei h))
     .rw[show(a == c)=false by simp[e]]at he;exact .ne he (C.ni e h t u)
   |s a=>
    cases y with
    |i _=>exact absurd h C.mx.2
    |s c=>
     obtain⟨t,rfl⟩:=U;obtain⟨u,rfl⟩:=b;have he:=SeqAt.EqAt.str_str (A:=A) (s:=s) a t c u;rw[vE,vE,C.fs];by_cases e:a=c
     .subst e;rw[show(a == a)=true by simp]at he;exact .eq he (ih ys M O (C.es h))
     .rw[show(a == c)=false by simp[e]]at he;exact .ne he (C.ns e h t u)
def Vz:CmR prog w A s .Lt (λxs ys r=>aW xs ys=some r) (λm n=>decide (m<n)) where
 ei h:=by rwa [aW,if_pos rr]at h
 es h:=by rwa [aW,if_pos rr]at h
 ni e h _ _ _ _ q:=by rw[aW,if_neg e]at h;cases h;exact PyProof.Rows.lt_int q
 ns e h _ _ _ _ q:=by rw[aW,if_neg e]at h;cases h;exact PySem.P.lt_str q
 mx:=by simp[aW]
 en:=λ{xs}=>by cases xs<;>simp[aW]
 fs:=H9
def V0:CmR prog w A s .Gt (λxs ys r=>aW ys xs=some r) (λm n=>decide (n<m)) where
 ei h:=by rwa [aW,if_pos rr]at h
 es h:=by rwa [aW,if_pos rr]at h
 ni e h _ _ _ _ q:=by rw[aW,if_neg (Ne.symm e)]at h;cases h;exact PyProof.Rows.gt_int q
 ns e h _ _ _ _ q:=by rw[aW,if_neg (Ne.symm e)]at h;cases h;exact PySem.P.gt_str q
 mx:=by simp[aW]
 en:=λ{xs}=>by cases xs<;>simp[aW]
 fs:=H9
def IM (hx:gE s.heap xs (.ref a)):∃o its n,s.heap.get? a=some o/\o.data=.seq its n/\Paired A8 xs its.toList/\xs.length=its.size:=by
 refine cX λG g=>?_;obtain⟨O,o,its,n,e,M,hc,hd,p⟩:=hx;apply g;cases e
 exact⟨o,its,n,M,hd,p,by exact eW p⟩
def Pd {nm:String}(C:CmR prog w A s op R fl)(hz:∀m n,Builtin.Tuple.tupleCompareSizes op m n=.bool (fl m n))(M:op=.Lt\/op=.Gt\/op=.GtE)(hx:gE s.heap xs (.ref a))(hy:gE s.heap ys (.ref b))(h:R xs ys r)(q:P (.done (.ret (.bool r))) s):wpAny (model prog w) A (cmF nm op ⟨[.ref a,.ref b],[]⟩) P E s:=by
 have hb:=hy.type;refine cX λG g=>?_;obtain⟨_,_,_,c,hd,p,l1⟩:=IM hx;obtain⟨_,_,_,O,U,d,l2⟩:=IM hy;apply g;exact MY hb c hd O U (IL C _ _ _ _ p d h) (by rw[l1,l2];exact hz _ _) M q
def IN (hx:gE s.heap xs x)(hy:gE s.heap ys y)(h:aW xs ys=some r)(hu:A.units<cLine)(q:Q (.bool r) s):wpAny (model prog w) A (richCompare .Lt x y) Q E s:=by
 have M:=hx.type;have ty:=hy.type;obtain⟨a,_,_,_,rfl,_⟩:=id hx;obtain⟨b,_,_,_,rfl,_⟩:=id hy;exact wpAny_richCompare_same_room M ty slot_tuple_lt (wpAny_call_entry slot_tuple_lt M PySem.F.entry_tuple_lt (Pd Vz (λ_ _=>rr) (.inl rr) hx hy h ⟨_,rr,(λe=>nomatch e),q⟩) (PySem.F.args_tuple_lt_2 _ _)) hu
def V1 (hx:gE s.heap xs x)(hy:gE s.heap ys y)(h:aW ys xs=some r)(hu:A.units<cLine)(q:Q (.bool r) s):wpAny (model prog w) A (richCompare .Gt x y) Q E s:=by
 have M:=hx.type;have ty:=hy.type;obtain⟨a,_,_,_,rfl,_⟩:=id hx;obtain⟨b,_,_,_,rfl,_⟩:=id hy;exact wpAny_richCompare_same_room M ty slot_tuple_gt (wpAny_call_entry slot_tuple_gt M PySem.F.entry_tuple_gt (Pd V0 (λ_ _=>rr) (.inr (.inl rr)) hx hy h ⟨_,rr,(λe=>nomatch e),q⟩) (PySem.F.args_tuple_gt_2 _ _)) hu
end
def p4:List At×D->List (List At×D)->D
 |b,[]=>b.2
 |b,x::r=>if aW b.1 x.1=some true then p4 x r else p4 b r
def p5:List At×D->List (List At×D)->D
 |b,[]=>b.2
 |b,x::r=>if aW x.1 b.1=some true then p5 x r else p5 b r
noncomputable def mmP {f:String->CmpOp->Builtin}(_:f "max" .Gt=Builtin.«max.loop»):=f
def mmL:String->CmpOp->Builtin:=mmP rr
noncomputable def mmQ {f:String->Builtin}(_:f "max" = Builtin.«max»):=f
def mmF:String->Builtin:=mmQ rr
structure MM (nm lp:String)(ns:Str)(op:CmpOp)(lt:List At->List At->Option Bool)(go:List At×D->List (List At×D)->D):Prop where
 hn:(toString nm++toString ".loop" : String)=lp
 en:entryFor table lp=some (mmL nm op)
 pl:plainId lp=true
 k2:builtinKind nm=none
 p2:plainId nm=true
 e2:entryFor table nm=some (mmF nm)
 ka:∀a v:Value,argsOk nm ⟨[a],[(Str.ofString "key",v)]⟩
 bt:bootBuiltins ns=some (.builtin nm)
 n1:ns ≠ "__name__"
 n2:bf ns
 g0:∀b,go b []=b.2
 g1:∀b x r,go b (x::r)=if lt b.1 x.1=some true then go x r else go b r
 cg:∀ {ks:List (List At)},cy ks=true->∀ {a b},a∈ks->b∈ks->∃r,lt a b=some r
 rc:∀ {prog:Program}{w:World}{A:Around}{E:Value->Shared->Prop}{s:Shared}{xs ys:List At}{x y:Value}{r:Bool}{Q:Value->Shared->Prop},gE s.heap xs x->gE s.heap ys y->lt ys xs=some r->A.units<cLine->Q (.bool r) s->wpAny (model prog w) A (richCompare op x y) Q E s
def mmx:MM "max" "max.loop" "max" .Gt aW p4:=
 ⟨P9,PySem.F.entry_max_loop,PySem.F.plain_max_loop,PySem.F.kind_max,PySem.F.plain_max,PySem.F.entry_max,λ_ _=>by kernel_rfl,rr,P9,P9,λ_=>rr,λ_ _ _=>rr,λh _ _ a b=>⟨_,gb h a b⟩,V1⟩
def mmn:MM "min" "min.loop" "min" .Lt (λa b=>aW b a) p5:=
 ⟨P9,PySem.F.entry_min_loop,PySem.F.plain_min_loop,PySem.F.kind_min,PySem.F.plain_min,PySem.F.entry_min,λ_ _=>by kernel_rfl,rr,P9,P9,λ_=>rr,λ_ _ _=>rr,λh _ _ a b=>⟨_,gb h b a⟩,IN⟩
section
variable {X:Cx}{af:AO}{σ:St}
def Bv (J:Inv X ((M,O)::(U,o2)::af) σ H' s'):Inv X ((U,o2)::(M,O)::af) σ H' s':=
 J.pins_of λq hq=>J.pin q (by
  grind)
def rb (hp:∀q∈X.pn++af,q.1≠a)(h:S≠a):∀q∈X.pn++((S,o)::af),q.1≠a:=λq hq=>by
 grind
def qi (I:Inv X af σ H s)(r:aE v u)(i:Is X.K H v d)(e:Bn d=some k):gE s.heap k u:=by
 have:=qh I (.cons r .nil) (.cons i .nil) (by simp [du,e];rfl);cases this;assumption
inductive MK (X:Cx)(af:List (Addr×Obj))(σ:St)(S It l:Addr)(o:Obj)(j:Nat)(N H:Hp)(y:List At×D)(u ku:Value)(s:Shared):Prop
 |mk (H2 N2:Hp) (v kv:V) (kd:D) (oI:Obj) (J:Inv X ((S,o)::(It,oI)::af) σ H2 s) (wl:s.heap.IsListIter It l (j+1)) (x:Ext N N2 H H2) (ru:aE v u) (iv:Is X.K N2 v y.2) (rk:aE kv ku) (ik:Is X.K N2 kv kd) (ek:Bn kd=some y.1)
def IP {E:QV}{It:Addr}(hh:X.A.handled=none)(p:u0 X X.A.in1 σ (.ref qa) B H1 kf)(hq:eN X.K B l vs)(iv:IsL X.K B vs ds)(t:hW kf ds=some iM)(ek:du iM=some ks)(x:X.s₀.z<=It)(C:∀q∈X.pn++((S,o)::af),q.1≠It)
  (D:l≠It) (hz:(ks.zip ds)[j]? = some y) (I:Inv X ((S,o)::(It,oI)::af) σ H s) (wl:s.heap.IsListIter It l j) (M:Ext B N H1 H):
  wpAny (model X.prog X.w) X.A.in1 (pyNext (.ref It)) (λr s1=>∃u,r=some u/\wpAny (model X.prog X.w) X.A.in1 (call (.ref qa) [u]) (MK X af σ S It l o j N H y u) (λ_ _=>False) s1) E s:=by
 refine cX λW Y=>?_;obtain⟨its,F,pl,_⟩:=I.list ((M.bn.trans M.nh).seq hq);obtain⟨hk,hd⟩:=getElem?_zip_eq_some.mp hz;obtain⟨v,hv,U⟩:=iv.get hd;obtain⟨kd,g,d⟩:=ra t hd;obtain⟨u,hu,ru⟩:=F.get hv;apply Y;have G:=by
  have:=uy ek (i:=j) (vV g).1;rw[vF,g,vF,hk]at this;exact this
 refine(Walks.list (A:=X.A.in1) hh It l D _).item j _ _ _ (by simpa using(vV hu).1) ⟨wl,pl.isList⟩ λu' h' Q J a L=>?_;have h:=by simpa using J
 rw[hu]at h;cases h;obtain⟨O,f,P,c⟩:=id a.1;exact⟨u,rr,bG (p _ _ H N v u y.2 kd (Bv (gF (Bv I) x C (λb o n e=>L b o (by simpa using n) e) f (λv z=>by rw[c]at z;cases z))) M.hh M.bn M.nh (U.mono M.bn) ru d) λku s2 ⟨kv,H2,k,rk,N2,m,ik⟩=>
  ⟨H2,N2,v,kv,kd,O,k,⟨O,(k.pin (It,O) (mY _ (mZ _ mX))).1,P,c⟩,m,ru,U.mono (M.bn.trans m.bn),rk,ik,G⟩⟩
def MZ {nm lp:String}{ns:Str}{op:CmpOp}{lt:List At->List At->Option Bool}{go:List At×D->List (List At×D)->D}(M:MM nm lp ns op lt go){G:Value}{l S It:Addr}{vs:LV}{ds Z:LD}{ks:List (List At)}{B J:Hp}{kf:D->Option D}{d0:D}{R:Result->Shared->Prop}(hh:X.A.handled=none)(hu:X.A.in1.units<cLine)(AB:u0 X X.A.in1 σ G B J kf)(L:∃a,G=.ref a)(hq:eN X.K B l vs)(iv:IsL X.K B vs ds)
  (em:hW kf ds=some Z) (ek:du Z=some ks) (hc:cy ks=true) (S0:X.s₀.z<=S) (I0:X.s₀.z<=It) (Yr:∀q∈X.pn++af,q.1≠S) (Ta:∀q∈X.pn++af,q.1≠It) (E:S≠It) (Td:S≠l) (Tc:l≠It)
  (hR:∀(s':Shared)(H' N:Hp)(v:V)(u:Value),Inv X af σ H' s'->Ext B N J H'->aE v u->Is X.K N v d0->R (.ok (.ret u)) s'):
  ∀(r j:Nat)(s:Shared)(H N:Hp)(U O:Value)(i p:V)(k t:D)(m:List At)(c:Nat)(oI:Obj),vs.length - j=r->j<=vs.length->Inv X ((S,seqObj "list" #[U,O] c)::(It,oI)::af) σ H s->s.heap.IsListIter It l j->Ext B N J H ->
   aE i U->Is X.K N i k->aE p O->Is X.K N p t->Bn t=some m->m∈ks->go (m,k) ((ks.zip ds).drop j)=d0 ->
   codeAny (model X.prog X.w) X.A (.builtin lp ⟨[.ref It,G,.ref S],[]⟩) R s:=by
 obtain⟨qa,rfl⟩:=L;intro r;induction r with
 |zero=>
  intro j s H N U O i p k t m c oI hr hj I wl d P i1 Q i2 f mk hd;have T:=I.pin (S,seqObj "list" #[U,O] c) (mY _ mX);have sB:aI B H:=d.bn.trans d.nh;refine I.lisE (sB.seq hq) λits rv pl _=>?_;have hl:=pl.isList;have W:=Walks.list (prog:=X.prog) (w:=X.w) (A:=X.A.in1) hh It l Tc its.toArray;have hsz:its.toArray.size=its.length:=vH ..;have Cb:vs.length=its.length:=rv.length;have SX:ds.length=its.length:=by rw[<-iv.length];exact rv.length
  have YT:k=d0:=by
   rw[List.drop_of_length_le (by rw[length_zip];lia)]at hd;rw[M.g0]at hd;exact hd
  subst YT;refine codeAny_builtin M.en ?_;rw[Around.under_plainId M.pl _];show wpAny _ X.A.in1 (seqItems? (.ref S)>>=_) _ _ _;refine wX (wpAny_seqItems T.1 rr ?_);show wpAny _ X.A.in1 (tryCatch (pyNext (.ref It)) _>>=_) _ _ _;refine wX (wpAny_tryCatch (W.done _ _ _ ⟨by grind,hl⟩ λh' Yi PB=>?_));have J1:Inv X ((It,oI)::(S,seqObj "list" #[U,O] c)::af) σ H s:=Bv I;have Y:∀q∈X.pn++((S,seqObj "list" #[U,O] c)::af),q.1≠It:=rb Ta E;have J2:=
   (iW J1).turned (t':=Yi) (λb o n e=>PB b o (by simpa using n) e) (J1.pin (It,oI) (mY _ mX)).2.1 (J1.pin (It,oI) (mY _ mX)).2.2.1 (.inr I0) (o5 J1) Y
  have x:=J2.pin (S,seqObj "list" #[U,O] c) (mY _ mX);obtain⟨c2,GC⟩:∃c2,(h'.update S (Obj.mapSeq λ_=>(#[]:AV))).get? S=some (seqObj "list" #[] c2):=⟨_,get?_update_seq x.1 λ_=>#[]⟩;have F:=vW h' S (Obj.mapSeq λ_=>(#[]:AV));show wpAny _ X.A.in1 (updateSeq S (λ_=>#[])>>=_) _ _ _;refine wX ?_;refine wpAny_updateSeq x.1 rr (wX (wpAny_letGo (wY ?_)));exact hR _ H N i U (iW (gF (t':=Yi) J2 S0 Yr (λb o n e=>(F.2 b n).trans e) GC cA)) d P i1
 |succ r ih=>
  intro j s H N U O i p k t m c oI hr hj I wl d P i1 Q i2 f mk hd;have pf:j<(ks.zip ds).length:=by rw[length_zip,o4 ek,jV em,<-iv.length];simp<;>lia
  have T:=I.pin (S,seqObj "list" #[U,O] c) (mY _ mX);have hz:=vU pf;rw[List.drop_eq_getElem_cons pf,M.g1]at hd;generalize (ks.zip ds)[j]=y at hz hd;have hm:y.1∈ks:=vL (getElem?_zip_eq_some.mp hz).1;obtain⟨r,g⟩:=M.cg hc mk hm;refine codeAny_builtin M.en ?_;rw[Around.under_plainId M.pl _];show wpAny _ X.A.in1 (seqItems? (.ref S)>>=_) _ _ _;refine wX (wpAny_seqItems T.1 rr ?_);show wpAny _ X.A.in1 (tryCatch (pyNext (.ref It)) _>>=_) _ _ _;refine wX (wpAny_tryCatch (bG (IP hh AB hq iv em ek I0 (rb Ta E) Tc hz I wl d) λ_ s1 ⟨u,e,h1⟩=>?_));subst e;refine wX (wpAny_tryCatch (wpAny_holding (wpAny_mono h1 (λku s2 ⟨H2,N2,v,kv,kd,YW,C,Yu,h,ru,Yo,rk,ik,TR⟩=>?_) λ_ _ z=>z.elim)));have t1:=qi C rk (ik.mono h.nh) TR;have t2:=qi C Q (i2.mono (h.bn.trans h.nh)) f;refine wX (wpAny_tryCatch (wpAny_holding (wX (M.rc t1 t2 g hu ?_))));refine wX (wpAny_holding (wpAny_truthy_bool ?_));refine wX (wpAny_letGo (wY ?_));cases r with
  |true=>
   rw[if_pos g]at hd;have F:=vW s2.heap S (Obj.mapSeq λ_=>#[u,ku]);simp only[if_true];have Yv:=C.pin (S,seqObj "list" #[U,O] c) (mY _ mX);refine wX (wpAny_updateSeq Yv.1 rr (wX (wpAny_letGo ?_)));rw[M.hn];obtain⟨o,g1,g2⟩:=Yu;exact wY ⟨plainId_quiet M.pl _,ih (j+1) _ H2 N2 u ku v kv y.2 kd y.1 _ YW N9 N9 (gF (t':=s2.toks) C S0 (rb Yr E.symm) (λb o n e=>(F.2 b n).trans e) (get?_update_seq Yv.1 λ_=>#[u,ku]) cA) ⟨o,(F.2 It E.symm).trans g1,g2⟩ (d.trans h) ru Yo rk ik TR hm hd⟩
  |false=>
   rw[if_neg (by rw[g];simp)]at hd;simp only[uV,if_false];refine wX (wpAny_letGo ?_);rw[M.hn];exact wY ⟨plainId_quiet M.pl _,ih (j+1) _ H2 N2 U O i p k t m c YW N9 N9 C Yu (d.trans h) P (i1.mono h.bn) Q (i2.mono h.bn) f mk hd⟩
end
@[simp] def R8 (go:List At×D->List (List At×D)->D)(f:FE)(O:Env->D->Option D):FE:=λρ=>(f ρ).bind λx=>match x.1 with
 |.lst ds=>(hW (O ρ) ds).bind λM=>(du M).bind λks=>if cy ks=true then match ks.zip ds with
  |[]=>none
  |y::r=>some (go y r,false)
  else none
 |_=>none
@[simp] def CH:=R8 p4
@[simp] def CJ:=R8 p5
section
variable {X:Cx}{e ke:Expr}{p pos kp:Pos}
def Pe {nm lp:String}{ns:Str}{op:CmpOp}{lt:List At->List At->Option Bool}{go:List At×D->List (List At×D)->D}(M:MM nm lp ns op lt go){f:FE}{m:Env->D->Option D}{k:Nat}(hm:X.mg ns=none)(he:JE X e f)(hk:JK X X.A.in1 ke m)(t:dn k X.A)(V:Gl X ns)
  (c:cL e X.env):
  JE X (.Call (.Name ns p) [e] [⟨some "key",ke,kp⟩] pos) (R8 go f m):=by
 refine IK (g:=λk ds=>(hW k ds).bind λw=>(du w).bind λks=>if cy ks=true then match ks.zip ds with
  |[]=>none
  |y::r=>some (go y r,false)
  else none) M.bt M.n1 M.n2 hm he hk V c λ{af σ H2 s2 qa B N H k l vs its ds d b Q} I2 AB hq il rv pl x1 O q=>?_
 refine eX O λw x O=>?_;refine eX O λks ek O=>?_;split at O
 .rename_i hc;split at O
  .cases O
  rename_i y ai h;cases O
  have C:l<s2.z:=by
   obtain⟨ol,W,_⟩:=pl;exact vX W
  have E:(ks.zip ds)[0]? = some y:=by rw[h];rfl
  have i:=vL (getElem?_zip_eq_some.mp E).1;refine kmk_tree M.k2 M.p2 M.e2 (M.ka _ _) ?_;refine wX (wpAny_of_eq (show Builtin.Builtins.bindParams nm ["key","default"] 0 ⟨[],[(Str.ofString "key",.ref qa)]⟩=pure [some (.ref qa),none]from rr) ?_);refine wX (wY ?_);refine wX (wpAny_pyIter_list pl ?_);refine wX (wpAny_newList ?_ (uN _));rw[M.hn];let It:Addr:=s2.z;let oI:Obj:={ cls:=.type "list_iterator",data:=.fields #[.ref l,.int 0 0] };let S:Addr:=(s2.heap.push oI).objs.size;have a:S=s2.z+1:=size_push' ..;have U:S≠It:=by rw[a];exact ne_of_gt (Nat.lt_succ_self _)
  have J1:Inv X ((It,oI)::af) σ H2 { s2 with heap:=s2.heap.push oI }:=ng (t':=s2.toks) I2 (λb u q=>vZ _ q) (vT _) (vY _ rr) (λv z=>by cases z);have J2:Inv X ((S,seqObj "list" #[] 0)::(It,oI)::af) σ H2 _:=ng (s:={ s2 with heap:=s2.heap.push oI }) (t':=s2.toks) J1 (λb u q=>vZ _ q) (vT _) (vY _ rr) cA;have F:X.s₀.z<=It:=I2.sz;have G:X.s₀.z<=S:=by rw[a];exact le_succ_of_le I2.sz
  have I:∀q∈X.pn++af,q.1≠It:=λq hq=>vS (vX (I2.pin q hq).1);have J:∀q∈X.pn++af,q.1≠S:=λq hq=>by rw[a];exact vS (lt_succ_of_lt (vX (I2.pin q hq).1))
  have K:l≠It:=vS C;have Y:S≠l:=by rw[a];exact ne_of_gt (lt_succ_of_lt C)
  have hh:X.A.handled=none:=t.hd;have hu:X.A.in1.units<cLine:=by have:=t.un;lia
  have Z:=J2.pin (S,seqObj "list" #[] 0) (mY _ mX);have pI:=J2.pin (It,oI) (mY _ (mZ _ mX));refine wY ⟨plainId_quiet M.pl _,?_⟩;refine codeAny_builtin M.en ?_;rw[Around.under_plainId M.pl _];refine wX (wpAny_seqItems Z.1 rr ?_);refine wX (wpAny_tryCatch (bG (IP hh AB hq il x ek F (rb I U) K E J2 ⟨oI,pI.1,rr,rr⟩ (.refl x1.nh)) λ_ s1 ⟨u,e,h1⟩=>?_));subst e;refine wX (wpAny_tryCatch (wpAny_holding (wpAny_mono h1 (λku L ⟨H3,N3,v,kv,kd,YW,P,⟨o,g1,g2⟩,x3,ru,Yo,rk,ik,TR⟩=>?_) λ_ _ z=>z.elim)));have R:=P.pin (S,seqObj "list" #[] 0) (mY _ mX);have T:=vW L.heap S (Obj.mapSeq λ_=>#[u,ku]);refine wX (wpAny_updateSeq R.1 rr ?_);rw[M.hn];have j:1<=vs.length:=by
   have:=congrArg List.length h;rw[length_zip,vE,<-il.length]at this;grind
  exact wY ⟨plainId_quiet M.pl _,MZ M (S:=S) (It:=It) hh hu AB ⟨qa,rr⟩ hq il x ek hc G F J I U Y K (λs' H' N' v' u' J' x' r' i'=>⟨v',H',J',r',q _ _ _ (x1.trans x') i' H9⟩) _ 1 _ H3 N3 u ku v kv y.2 kd y.1 _ YW rr j
   (gF (t':=L.toks) P G (rb J U.symm) (λb o n e=>(T.2 b n).trans e) (get?_update_seq R.1 λ_=>#[u,ku]) cA) ⟨o,(T.2 It U.symm).trans g1,g2⟩ x3 ru Yo rk ik TR i (by rw[h];rfl)⟩
 .cases O
end
section
variable {X:Cx}
@[simp] def Zd:D->D->OB
 |.tup xs,.tup ys=>(lZ xs).bind λas=>(lZ ys).bind λbs=>(aW as bs).map λr=>(.bl r,false)
 |_,_=>none
def V2 (hu:X.A.units+40<cLine):cJ X (compareOp .Lt) (rD X.K Zd):=by
 intro af s σ H x y v u Q I O U q;refine eR q λB dx a d b M c f e q=>?_;cases dx<;>try (simp at e)
 cases a<;>try (simp at e)
 refine eX e λas g e=>?_;refine eX e λbs e2 e=>?_;refine eB e λr h e=>?_;cases e
 exact IN (qi I O (c.mono M) g) (qi I U (f.mono M) e2) h N9 ⟨.bl r,H,I,rr,q.one M (.bl r)⟩
end
end DL
namespace DL
open PySem PySem.Spec PyProof.Rows L2
section
variable {X:Cx}
noncomputable def zg:D->D->OB
 |.tup xs,.tup ys=>if xs.isEmpty=true then some (.tup ys,false)else none
 |_,_=>none
def Na:cJ X (binaryOp .Add) (rD X.K zg):=by
 intro af s σ H x y v u Q I f g q;refine eR q λB dx z d bb U i j M q=>?_;cases i<;>try (cases M;done)
 cases j<;>try (cases M;done)
 rename_i l vs ds h hl c ws es h' a;simp only[zg]at M;split at M
 .cases M
  cases f
  cases g
  refine I.tupE (aS U h) λits k m _=>?_;refine I.tupE (aS U h') λo A p2 _=>?_;have he:its.toArray.isEmpty=true:=by
   have C:=hl.length;have e2:=k.length;simp_all
  refine cX λG W=>?_;obtain⟨⟨cls,dd,data,sl⟩,e,hc,n,hd⟩:=id m;obtain⟨⟨p,r,data2,b⟩,O,t,n2,w⟩:=id p2;apply W;clear W;subst hc;subst hd;subst t;subst w;exact concat_meets ⟨_,e,rr⟩ ⟨_,O,rr⟩ noFill_tuple_add seq_tuple_add slot_tuple_add entry_tuple_add (args_tuple_add_2 _ _)
   (tuple_addW0 l c _ _ n n2 dd r sl b he) ⟨e,O,⟨.ref c,H,I,rr,q.one U (.tup h' a)⟩⟩
 simp_all
@[simp] noncomputable def Pf:D->D->OB
 |.tup xs,.tup ys=>if xs.length+ys.length<=sizeLine then some (.tup (xs++ys),false)else none
 |_,_=>none
theorem Nb (xs ys:LD)(z:xs.length+ys.length<=sizeLine):Tw Ba zg (.tup xs) (.tup ys)=some (.tup (xs++ys),false):=by
 cases xs with
 |nil=>
  have:Ba (.tup []) (.tup ys)=none:=if_neg (λh=>by cases h.2);show(match Ba _ _ with|some z=>some z|none=>zg _ _)=_;rw[this];rfl
 |cons a l=>
  have:Ba (.tup _) (.tup ys)=some _:=if_pos ⟨z,rr⟩;show(match Ba _ _ with|some z=>some z|none=>zg _ _)=_;rw[this]
def R9:cJ X (binaryOp .Add) (rD X.K Pf):=by
 refine iB (oj HY Na) λx y H Q q=>?_;refine eR q λB dx a d bb b O U M q=>?_;refine⟨B,dx,a,d,bb,b,O,U,?_,q⟩;cases O<;>try (cases M)
 cases U<;>try (cases M)
 simp only[Pf]at M;split at M
 .grind[Nb]
 .cases M
end
section
variable {X:Cx}
@[simp] def xx9:D->D->OB
 |d,.tup [.ty n,.ty m]=>if Ft d=true then none else if n = "list"/\m = "tuple" then some (.bl (iC d == "list" || iC d == "tuple"),false)else none
 |_,_=>none
@[simp] def CK:LD->OB
 |[d,e]=>xx9 d e
 |_=>none
def FF (K:Frag)(d:D)(hd:∀n,d≠.ty n):PySem.W.kitAny K (.type (iC d)) [.type "list",.type "tuple"]=some (iC d == "list" || iC d == "tuple"):=by
 obtain⟨_,_,_,k4,k5⟩:=HU K d hd;unfold PySem.W.kitAny;rw[k4];cases iC d == "list" with
 |true=>rfl
 |false=>
  unfold PySem.W.kitAny;rw[k5];cases iC d == "tuple" with
  |true=>rfl
  |false=>rfl
def IQ (I:Inv X af σ H s)(i:Is X.K H v d)(hd:∀n,d≠.ty n)(M:aE v u)(U:IsTup s.heap tp its.toArray)(e:PySem.W.kitAny X.K (.type (iC d)) its=some b)(h:∀tk,Q (.bool b) { s with toks:=tk }):
  wpAny (model X.prog X.w) A (call (.builtin "isinstance") [u,.ref tp]) Q E s:=by
 refine cX λG g=>?_;obtain⟨⟨cls,dd,data,sl⟩,O,hc,n,a⟩:=id U;apply g;subst hc;subst a;cases i with
 |non=>cases (show u=Value.none from M);exact PySem.W.kia_tup PySem.W.kitx_none I.kIn True.intro O e (λz=>nomatch z) h
 |bl y=>cases (show u=Value.bool y from M);exact PySem.W.kia_tup PySem.W.kitx_bool I.kIn True.intro O e (λz=>nomatch z) h
 |int i=>obtain⟨t,q⟩:=(show ∃t,u=Value.int i t from M);cases q;exact PySem.W.kia_tup PySem.W.kitx_int I.kIn True.intro O e (λz=>nomatch z) h
 |str y=>obtain⟨t,q⟩:=(show ∃t,u=Value.str y t from M);cases q;exact PySem.W.kia_tup PySem.W.kitx_str I.kIn True.intro O e (λz=>nomatch z) h
 |ty n=>exact absurd rr (hd n)
 |dk h1 _ _=>
  cases M
  refine cX λG g=>?_;obtain⟨_,_,_,vs,_,o,es,f,c,e2,_⟩:=(show bg X.prog X.w H s.heap _ (.dK _ _)from I.hok _ _ h1);apply g;exact PySem.W.kia_tup PySem.W.kitx_dict I.kIn ⟨o,c,e2.1⟩ O e (λz=>nomatch z) h
 |dt h1 _ _=>
  cases M
  refine cX λG g=>?_;obtain⟨_,_,xs,_,o,es,f,c,e2,_⟩:=(show bg X.prog X.w H s.heap _ (.dT _)from I.hok _ _ h1);apply g;exact PySem.W.kia_tup PySem.W.kitx_dict I.kIn ⟨o,c,e2.1⟩ O e (λz=>nomatch z) h
 |tup U _=>
  cases M
  obtain⟨its,_,⟨o,h1,h2,_⟩,_⟩:=I.tuple U;exact PySem.W.kia_tup PySem.W.kitx_tuple I.kIn ⟨o,h1,h2⟩ O e (λz=>nomatch z) h
 |lst hl _=>
  cases M
  refine cX λG g=>?_;obtain⟨its,_,⟨o,n,h1,h2,_⟩,_⟩:=I.list hl;apply g;exact PySem.W.kia_tup PySem.W.kitx_list I.kIn ⟨o,h1,h2⟩ O e (λz=>nomatch z) h
def FH:b7 X (.builtin "isinstance") (A6 X.K CK):=by
 intro af s σ H xs us Q I a q;refine eS q λB ds d b M i e q=>?_;cases i with
 |nil=>cases e
 |@cons _ dx _ _ i1 i=>
  cases i with
  |nil=>cases e
  |cons i2 i=>
   cases i with
   |cons _ _=>cases e
   |nil=>
    cases i2<;>try (cases e)
    rename_i hs hl;cases hl with
    |nil=>cases e
    |cons c hl=>
     cases c<;>try (cases e)
     cases hl with
     |nil=>cases e
     |cons f hl=>
      cases f<;>try (cases e)
      cases hl with
      |cons _ _=>cases e
      |nil=>
       obtain⟨l,m,rfl,g,h⟩:=He a;change(if _ then _ else _)=_ at e;split at e
       .cases e
       .rename_i j;have hd:∀n,dx≠.ty n:=λn z=>by subst z;exact j rr
        split at e
        .rename_i hh;obtain⟨rfl,rfl⟩:=hh;cases e
         cases h
         refine I.tupE (aS M hs) λits k p _=>?_;obtain⟨o,r,rfl,O,U⟩:=k.two;cases O
         cases U
         exact IQ I (i1.mono M) hd g p (FF X.K dx hd) λtk=>⟨.bl _,H,I.tok tk,rr,q.one M (.bl _)⟩
        .cases e
end
@[simp] noncomputable def lK:D->Option dA
 |.int i=>some (.inl i)
 |.str x=>some (.inr x)
 |_=>none
def uB {K:Frag}{B:Hp}{v:V}{d:D}{k:dA}(i:Is K B v d)(e:lK d=some k):v=kV k:=by
 cases i<;>simp [lK]at e<;>cases e<;>rfl
noncomputable def bN {κ:Type}[DecidableEq κ]:List κ->LD->κ->Option D
 |k'::ks,d::ds,k=>if k'=k then some d else bN ks ds k
 |_,_,_=>none
theorem xm {κ:Type}[DecidableEq κ]{K:Frag}{B:Hp}(k:κ):∀ {ks:List κ}{vs:LV}{ds:LD},ks.length=vs.length->IsL K B vs ds ->
  (∃v d,lF (ks.zip vs) k=some v/\bN ks ds k=some d/\Is K B v d)\/(lF (ks.zip vs) k=none/\bN ks ds k=none)
 |[],vs,ds,_,_=>.inr ⟨by cases vs<;>rfl,by cases ds<;>rfl⟩
 |k'::ks,[],_,h,_=>by simp at h
 |k'::ks,v::vs,_,h,.cons i is=>by
  rw[zip_cons_cons];unfold bN;by_cases e:k'=k
  .rw[if_pos e];exact .inl ⟨v,_,mH e,rr,i⟩
  .rw[if_neg e,mI e];exact xm k (by simpa using h) is
section
variable {X:Cx}{o e i:Expr}{pos:Pos}
@[simp] def V3:D->D->OB
 |.dk ks vs,y=>(lK y).map λk=>((bN ks vs k).getD .non,false)
 |_,_=>none
def IS {bV b9:Pos}{fo fe:FE}(hu:X.A.units+1<cLine)(c:JE X o fo)(he:JE X e fe)(m:M1 X o "get" bV e b9):JE X (.Call (.Attribute o "get" bV) [e] [] b9) (f2 V3 fo fe):=by
 refine PE.to (yt hu c he m) λσ H Q q=>?_;refine cX λG K=>?_;obtain⟨B,ρ,d,bb,f,r,M,q⟩:=q;refine eX M λx ex M=>?_;refine eX M λy g M=>?_;apply K;refine⟨B,ρ,x.1,x.2,f,r,ex,λv n N1 U i1 p=>?_⟩;obtain⟨xd,s⟩:=x;cases i1 with
 |@dk a ks vs ds ob h hl hs=>
  refine eB M λk hk M=>?_;cases M
  refine⟨a,rr,.inl ⟨_,_,.inl (U.nh _ _ h)⟩,N1,ρ,y.1,y.2,U.nh,r.mono U.bn,g,λt H2 N2 O i2 _=>?_⟩;have hv:=uB i2 hk;subst hv;refine⟨lF _ k,.inl ⟨_,k,_,.inl (O.nh _ _ (O.bn _ _ h)),rr,rr⟩,?_⟩;have j:=hs.mono O.bn;rcases xm k hl j with⟨v,d',b,e2,l⟩|⟨b,e2⟩
  .rw[b];rw[e2]at q;exact(q.into (U.trans O)).one O.nh l
  .rw[b];rw[e2]at q;exact(q.into (U.trans O)).one O.nh .non
 |_=>simp at M
@[simp] def inK:D->D->OB
 |y,.dk ks vs=>(lK y).map λk=>(.bl (bN ks vs k).isSome,false)
 |_,_=>none
def FI {κ:Type}[DecidableEq κ]{K:Frag}{B:Hp}{k:κ}{ks:List κ}{vs:LV}{ds:LD}(hl:ks.length=vs.length)(hs:IsL K B vs ds):(lF (ks.zip vs) k).isSome=(bN ks ds k).isSome:=by
 grind[xm]
end
noncomputable def dv {κ:Type}[DecidableEq κ](ks:List κ)(k:κ):List κ:=if k∈ks then ks else ks++[k]
noncomputable def cz {κ α:Type}[DecidableEq κ](ks:List κ)(xs:List α)(k:κ)(x:α):List α:=if k∈ks then List.zipWith (λk' M=>if k'=k then x else M) ks xs else xs++[x]
theorem CL {κ:Type}[DecidableEq κ](k:κ):∀ {ks:List κ}{vs:LV},ks.length=vs.length->((ks.zip vs).any λkv=>decide (kv.1=k))=decide (k∈ks)
 |[],_,_=>by simp
 |k'::ks,[],h=>by simp at h
 |k'::ks,v::vs,h=>by
  have ih:=CL k (by simpa using h);simp_all<;>lia
theorem CM {κ:Type}[DecidableEq κ](k:κ)(v:V):∀(ks:List κ)(vs:LV),(ks.zip vs).map (λkv=>if kv.1=k then (kv.1,v)else kv)=ks.zip (List.zipWith (λk' M=>if k'=k then v else M) ks vs)
 |[],_=>by simp
 |_::_,[]=>by simp
 |k'::ks,w::vs=>by
  rw[zip_cons_cons,uY,CM k v ks vs,List.zipWith_cons_cons,zip_cons_cons];lia
def qj {κ:Type}[DecidableEq κ]{ks:List κ}{vs:LV}(hl:ks.length=vs.length)(k:κ)(v:V):oh (ks.zip vs) k v=(dv ks k).zip (cz ks vs k v):=by
 unfold oh dv cz;rw[CL k hl];by_cases h:k∈ks
 .rw[if_pos (yc h),if_pos h,if_pos h,CM]
 simp_all[List.zip_append]
def nj {κ α:Type}[DecidableEq κ]{ks:List κ}{xs:List α}(hl:ks.length=xs.length)(k:κ)(x:α):(dv ks k).length=(cz ks xs k x).length:=by
 unfold dv cz;split<;>simp[hl]
theorem IsL.zipWith {κ:Type}[DecidableEq κ]{K:Frag}{B:Hp}{k:κ}{v:V}{d:D}(i:Is K B v d):∀ {ks:List κ}{vs:LV}{ds:LD},IsL K B vs ds->IsL K B (List.zipWith (λk' M=>if k'=k then v else M) ks vs) (List.zipWith (λk' M=>if k'=k then d else M) ks ds)
 |[],_,_,_=>by simpa using IsL.nil
 |_::_,_,_,.nil=>by simpa using IsL.nil
 |k'::ks,_,_,.cons h t=>by
  rw[List.zipWith_cons_cons];refine .cons ?_ (IsL.zipWith i t);split<;>simp_all
def IsL.put {κ:Type}[DecidableEq κ]{K:Frag}{B:Hp}{k:κ}{v:V}{d:D}(i:Is K B v d){ks:List κ}{vs:LV}{ds:LD}(h:IsL K B vs ds):IsL K B (cz ks vs k v) (cz ks ds k d):=by
 unfold cz;split
 .exact h.zipWith i
 .exact h.append (.cons i .nil)
section
variable {K:Frag}{E:Ends}{σ:St}{H:Hp}
noncomputable def IT (i:Nat):FS:=λρ=>some (.nx (ρ.set i (some (.dk [] [],true))))
noncomputable def IU (i:Nat):FS:=λρ=>some (.nx (ρ.set i (some (.dt [] [],true))))
def dc.newBox (s:dc K B0 H0 N H σ ρ)(i:Nat)(hp:H p=none)(hb:∀C,Bx K C ob dd):dc K B0 H0 (upd N p ob) (upd H p ob) (σ.set i (some (.ref p))) (ρ.set i (some (dd,true))):=by
 have x:=Ext.laid (o:=ob) s.ext.nh hp;have s1:=s.grow x;have M:=s.ext.nh.free hp;have O:¬own σ ρ p:=λz=>by obtain⟨ws,⟨q,_⟩,_⟩:=s.owned z;lia
 have c:aI _ (dB (upd N p ob) (λb=>own σ ρ b\/b=p)):=dC λb u e q=>⟨x.bn _ _ e,λz=>z.elim q λz=>by subst z;rw[M]at e;cases e⟩;refine s1.bindOwn au (s.ext.hh.free hp) (λj e q z=>O ⟨j,e,q,z⟩) (λj e _ q=>?_) (λj e _ q=>?_) (hb _)
 .obtain⟨w,h1,h2⟩:=s.sh j e q;exact⟨w,h1,h2.mono c⟩
 .obtain⟨U,o',h1,h2,_,h4⟩:=s.ow j e q;exact⟨U,o',h1,x.bn _ _ h2,h4.mono c⟩
def IV (q:mK K (IT i) E σ H):AE Hs (iN i) E σ H:=by
 refine cX λG g=>?_;obtain⟨B0,H0,ρ,r,⟨N,s⟩,e,p⟩:=q;apply g;cases e
 exact λa ob ha=>p _ _ ⟨_,s.newBox i ha λ_=>.dk (ks:=[]) rr .nil⟩
def IW (q:mK K (IU i) E σ H):AE Ht (iN i) E σ H:=by
 refine cX λG g=>?_;obtain⟨B0,H0,ρ,r,⟨N,s⟩,e,p⟩:=q;apply g;cases e
 exact λa ha=>p _ _ ⟨_,s.newBox i ha λ_=>.dt (ks:=[]) rr .nil⟩
def zh (i:Nat)(O U:FE):FS:=λρ=>match ρ[i]? with
 |some (some (.dk ks vs,true))=>(U ρ).bind λv=>(O ρ).bind λk=>(lK k.1).bind λM=>if aQ v.1=true/\ks.length<sizeLine then some (.nx (ρ.set i (some (.dk (dv ks M) (cz ks vs M v.1),true))))else none
 |_=>none
def IX {i:Nat}{M O:FE}(q:mK K (zh i M O) E σ H):Co (GQ i) (tD K M) (tD K O) E σ H:=by
 refine cX λG W=>?_;obtain⟨B0,H0,ρ,r,⟨N,s⟩,e,p⟩:=q;apply W;clear W;unfold zh at e;split at e
 .rename_i ks ds ei;refine eX e λv ev e=>?_;refine eX e λk ek e=>?_;refine eX e λb hk e=>?_;split at e
  .rename_i hx;cases e
   refine⟨N,ρ,v.1,v.2,s.ext.nh,s.rep,ev,λf g N1 c i1 _=>?_⟩;have s1:=s.grow c;obtain⟨a,o,h1,h2,h3,h4⟩:=s1.ow i _ ei;refine⟨.ref a,h1,N1,ρ,k.1,k.2,s1.ext.nh,s1.rep,ek,λh H2 N2 U i2 _=>?_⟩;have s2:=s1.grow U;have hv:=uB i2 hk;subst hv;obtain⟨j,o',k1,k2,k3,k4⟩:=s2.ow i _ ei;rw[h1]at k1;cases k1
   cases k4 with
   |@dk ks vs ds hl h5 ob=>
    refine⟨a,rr,.inl ⟨_,b,_,s2.ext.nh _ _ k2,rr,?_,λd=>?_⟩⟩
    .rw[length_zip];lia
    .rw[qj hl];exact p σ _ ⟨_,s2.writeB ei h1 (.dk (nj hl _ _) (h5.put (s2.flat (i1.mono U.bn) hx.1)))⟩
  .cases e
 simp_all
end
section
variable {X:Cx}{pos:Pos}{e k:Expr}
def Nc (M:X.N.Nodup)(hi:X.N[i]? = some x)(hx:Ly X.env.scope x)(hs:swapsWith (.Dict [] [] dp) (some (.Name x p)) pos.line X.env=pure false)
  (hf:X.fn x=true\/X.env.scope.names.lookup x=some .local):JS X (.Assign [.Name x p] (.Dict [] [] dp) pos) (IT i):=PS.to (wt M hi hx Hu hs hf) λ_ _ _ q=>IV q
def Nd (M:X.N.Nodup)(hi:X.N[i]? = some x)(hx:Ly X.env.scope x)(hs:swapsWith (.Dict [] [] dp) (some (.Name x p)) pos.line X.env=pure false)
  (hf:X.fn x=true\/X.env.scope.names.lookup x=some .local):JS X (.Assign [.Name x p] (.Dict [] [] dp) pos) (IU i):=PS.to (wt M hi hx Hv hs hf) λ_ _ _ q=>IW q
def Nf (hu:X.A.units+1<cLine)(hv:JE X e fv)(hk:JE X k fk)(U:X.N[i]? = some y)(M:GP X.env.scope y)(hd:bf y)
  (O:jI y) (hs:swapsWith e (some (.Subscript (.Name y py) k pt)) pos.line X.env=pure false):JS X (.Assign [.Subscript (.Name y py) k pt] e pos) (zh i fk fv):=
 PS.to (wF hu (jg U M hd O) hk hv hs) λ_ _ _ q=>IX q
end
section
variable {prog:Program}{w:World}{A:Around}{E:QV}{s:Shared}
abbrev o6 (h:Heap)(z TI TO M:Addr)(f:Bool):Prop:=h.get? z=some { cls:=.type "zip",dict:=none,data:=.fields #[rawInt M,.bool f,.bool false,.ref TI,.ref TO],slots:=#[] }
def IY (e:s.heap.get? a=some o)(h:Q (some o) s):wpAny (model prog w) A (loadIfAlive a) Q E s:=by
 intro O p M;simp_all[loadIfAlive]
def uC {z TI TO M:Addr}{f:Bool}{U:Obj}{Q:Bool->Shared->Prop}(hz:o6 s.heap z TI TO M f)(a:s.heap.get? M=some U)
  (q:∀h',o6 h' z TI TO M true->Heap.SameBut z s.heap h'->Q false { s with heap:=h' }):wpAny (model prog w) A (Builtin.SmallTypes.ownedTupleIsFree (.ref z)) Q E s:=by
 refine wX (wpAny_field hz rr rr ?_);show wpAny _ _ (loadIfAlive _>>=_) _ _ _;refine wX (IY a ?_);refine wX (wpAny_field hz rr rr ?_);cases f with
 |true=>
  exact wY (q _ hz (.refl _ _))
 |false=>
  refine wX (wpAny_setField_rec hz H9 λh' O s'=>wY (q h' O s'))
end
section
variable {prog:Program}{w:World}{A:Around}{E:QV}{s:Shared}
def FJ {k1 k2:Bool}{z TI TO a i1 i2 l1 l2:Addr}{f:Bool}{m:Obj}{j:Nat}{xs ys:AV}{x y:Value}{Q:QV}(Z:ZA z TI TO i1 i2 l1 l2)
  (hz:o6 s.heap z TI TO a f) (n:s.heap.get? a=some m) (k:IsPair s.heap TI (.ref i1) (.ref i2)) (p:jG k1 s.heap i1 l1 j) (r:jG k2 s.heap i2 l2 j) (t:jQ k1 s.heap l1 xs) (q2:jQ k2 s.heap l2 ys) (hx:xs[j]? = some x) (hy:ys[j]? = some y)
  (q:∀h',o6 h' z TI TO a true->jG k1 h' i1 l1 (j+1)->jG k2 h' i2 l2 (j+1)->IsPair h' s.z x y ->
   IsPair h' TI (.ref i1) (.ref i2)->(∀o,s.heap.get? TO=some o->h'.get? TO=some o)->(∀c o,c∉[z,TI,TO,i1,i2]->s.heap.get? c=some o->h'.get? c=some o)->Q (.ref s.z) { s with heap:=h' }):
  wpAny (model prog w) A (Builtin.«zip.__next__» ⟨[.ref z],[]⟩) (λdX s'=>∃v,dX=.done (.ret v)/\Q v s') E s:=by
 obtain⟨D,m1,m2⟩:=Z;show wpAny _ _ (field (.ref z) 2>>=_) _ _ s;refine wX (wpAny_field hz rr (x:=.bool false) rr ?_);refine wX (wpAny_field hz rr (x:=.ref TI) rr (wX (wpAny_seqItems k rr ?_)));refine wX (uC hz n λg1 b s1=>?_);simp only[uV,if_false];refine wX ?_;refine wX (wX (wpAny_holding ?_));refine wX (eU (s:={ s with heap:=g1 }) (p.upon λo e=>s1.extBut _ _ D.az e) (t.upon λo e=>s1.extBut _ _ m1.1 e) hx λl d s2=>wY ?_);refine wY (wX (wX (wpAny_holding ?_)));have M:∀ {c o},c≠z->c≠i1->s.heap.get? c=some o->l.get? c=some o:=λg c3 e=>s2.extBut _ _ c3 (s1.extBut _ _ g e);refine wX (eU (s:={ s with heap:=l }) (r.upon λo e=>M D.bz D.ab.symm e) (q2.upon λo e=>M m2.1 m2.2.2.1 e) hy λh i U=>wY ?_);refine wY (wY ?_);refine wX (wpAny_newTuple (hsz:=(by decide:2<=sizeLine)) ?_);have sz:h.objs.size=s.z:=by rw[U.1,s2.1,s1.1]
 have O:∀c o,c≠z->c≠i1->c≠i2->s.heap.get? c=some o->h.get? c=some o:=λc o g c3 u e=>U.extBut _ _ u (M g c3 e);refine wY ⟨_,rr,?_⟩;have hp:IsPair _ h.objs.size x y:=vY _ rr;rw[sz]at hp |-;exact q _ (vZ _ (U.extBut _ _ D.bz.symm (s2.extBut _ _ D.az.symm b))) (d.upon λo e=>vZ _ (U.extBut _ _ D.ab e)) (i.upon λo e=>vZ _ e) hp (vZ _ (O _ _ D.tz D.ta D.tb k)) (λo e=>vZ _ (O _ _ D.oz D.oa D.ob e)) λc o hc e=>by
  simp at hc;exact vZ _ (O c o hc.1 hc.2.2.2.1 hc.2.2.2.2 e)
def IZ {k1 k2:Bool}{z TI TO U i1 i2 l1 l2:Addr}{f:Bool}{g:Obj}{j:Nat}{xs ys:AV}{Q:PySem.Fin->Shared->Prop}(a:A.handled=none)(Z:ZA z TI TO i1 i2 l1 l2)
  (hz:o6 s.heap z TI TO U f) (h:s.heap.get? U=some g) (i:IsPair s.heap TI (.ref i1) (.ref i2)) (b:jG k1 s.heap i1 l1 j) (k:jG k2 s.heap i2 l2 j) (d:jQ k1 s.heap l1 xs) (q2:jQ k2 s.heap l2 ys) (he:xs[j]? = none\/ys[j]? = none)
  (q:∀h' x,(∀c o,c∉[z,TI,TO,i1,i2]->s.heap.get? c=some o->h'.get? c=some o)->(∃o,h'.get? x=some o/\o.cls=.type "StopIteration")->E (.ref x) { s with heap:=h' }):
  wpAny (model prog w) A (Builtin.«zip.__next__» ⟨[.ref z],[]⟩) Q E s:=by
 obtain⟨D,m1,m2⟩:=Z;show wpAny _ _ (field (.ref z) 2>>=_) _ _ s;refine wX (wpAny_field hz rr (x:=.bool false) rr ?_);refine wX (wpAny_field hz rr (x:=.ref TI) rr (wX (wpAny_seqItems i rr ?_)));refine wX (uC hz h λg1 l s1=>?_);refine wX ?_;refine wX (wX (wpAny_holding ?_));cases hx:xs[j]? with
 |none=>
  exact wX (iU (s:={ s with heap:=g1 }) a (b.upon λo e=>s1.extBut _ _ D.az e) (d.upon λo e=>s1.extBut _ _ m1.1 e) hx λO x s2 hX=>q O x (λc o hc e=>by simp at hc;exact s2 _ _ hc.2.2.2.1 (s1.extBut _ _ hc.1 e)) hX)
 |some v=>
  have hy:ys[j]? = none:=by
   lia
  refine wX (eU (s:={ s with heap:=g1 }) (b.upon λo e=>s1.extBut _ _ D.az e) (d.upon λo e=>s1.extBut _ _ m1.1 e) hx λO m s2=>wY ?_);refine wY (wX (wX (wpAny_holding ?_)));have M:∀ {c o},c≠z->c≠i1->s.heap.get? c=some o->O.get? c=some o:=λn c3 e=>s2.extBut _ _ c3 (s1.extBut _ _ n e);exact wX (iU (s:={ s with heap:=O }) a (k.upon λo e=>M D.bz D.ab.symm e) (q2.upon λo e=>M m2.1 m2.2.2.1 e) hy λp x r hX=>q p x (λc o hc e=>by simp at hc;exact r _ _ hc.2.2.2.2 (M hc.1 hc.2.2.2.1 e)) hX)
end
def Ja (k1 k2:Bool)(z TI TO i1 i2 l1 l2 S:Addr)(i:Nat)(h:Heap):Prop:=
 IsPair h TI (.ref i1) (.ref i2)/\jG k1 h i1 l1 i/\jG k2 h i2 l2 i/\((IsZip h z TI TO .none/\∃a b,IsPair h TO a b)\/∃M f O U,o6 h z TI TO M f/\h.get? M=some O/\M∉[z,TI,TO,i1,i2]/\M≠S/\h.get? TO=some U)
def Ja.keep {k1 k2:Bool}{z TI TO i1 i2 l1 l2 S:Addr}{i:Nat}{h h':Heap}(st:Ja k1 k2 z TI TO i1 i2 l1 l2 S i h)(M:S∉[z,TI,TO,i1,i2])(k:∀b o,b≠S->h.get? b=some o->h'.get? b=some o):Ja k1 k2 z TI TO i1 i2 l1 l2 S i h':=by
 obtain⟨O,U,c,d⟩:=st;have n:∀ {b},b∈[z,TI,TO,i1,i2]->b≠S:=λhb e=>M (e ▸ hb);refine⟨k _ _ (n H9) O,U.upon λo e=>k _ o (n H9) e,c.upon λo e=>k _ o (n H9) e,?_⟩;rcases d with⟨b1,a,b,b2⟩|⟨g,f,j,l,b1,b2,b3,b4,m⟩
 .exact .inl ⟨k _ _ (n H9) b1,a,b,k _ _ (n H9) b2⟩
 .exact .inr ⟨g,f,j,l,k _ _ (n H9) b1,k _ _ b4 b2,b3,b4,k _ _ (n H9) m⟩
section
variable {prog:Program}{w:World}{A:Around}{E:QV}{s:Shared}{k1 k2:Bool}{z TI TO i1 i2 l1 l2 S:Addr}{j:Nat}{xs ys:AV}
def Ja.ty (st:Ja k1 k2 z TI TO i1 i2 l1 l2 S j h):∃o,h.get? z=some o/\o.cls=.type "zip":=by
 obtain⟨_,_,_,M⟩:=st;rcases M with⟨b1,_⟩|⟨O,f,U,a,b1,_⟩
 .exact⟨_,b1,rr⟩
 .exact⟨_,b1,rr⟩
def Jb (Z:ZA z TI TO i1 i2 l1 l2)(l:S<s.z)(st:Ja k1 k2 z TI TO i1 i2 l1 l2 S j s.heap)(i:jQ k1 s.heap l1 xs)(q2:jQ k2 s.heap l2 ys)(hx:xs[j]? = some x)(hy:ys[j]? = some y)
  (q:∀h',Ja k1 k2 z TI TO i1 i2 l1 l2 S (j+1) h'->IsPair h' s.z x y->(∀c o,c∉[z,TI,TO,i1,i2]->s.heap.get? c=some o->h'.get? c=some o)->Q (some (.ref s.z)) { s with heap:=h' }):
  wpAny (model prog w) A (pyNext (.ref z)) Q E s:=by
 have M:=st.ty;obtain⟨k,U,d,m⟩:=st;have lt:∀ {c o},s.heap.get? c=some o->s.z≠c:=λe=>ne_of_gt (vX e);obtain⟨v,B,_⟩:=U.ob;obtain⟨C,e2,_⟩:=d.ob;rcases m with⟨hz,a,b,g⟩|⟨n,f,p,r,hz,h0,n0,t,g⟩
 .refine wX (wpAny_attempt (wpAny_callSpecial?_slot M slot_zip_next (wpAny_call_entry slot_zip_next M entry_zip_next (yD Z hz k g U d i q2 hx hy λh' b1 b2 b3 b4 O D h bk=>wY ?_) (args_zip_next_1 _))));refine q h' ⟨h,b3,b4,.inr ⟨_,false,_,_,b1,O,?_,ne_of_gt l,b2⟩⟩ O bk;simp_all
 .refine wX (wpAny_attempt (wpAny_callSpecial?_slot M slot_zip_next (wpAny_call_entry slot_zip_next M entry_zip_next (FJ Z hz h0 k U d i q2 hx hy λh' b1 b3 b4 O h u bk=>wY ?_) (args_zip_next_1 _))));exact q h' ⟨h,b3,b4,.inr ⟨n,true,p,r,b1,bk _ _ n0 h0,n0,t,u _ g⟩⟩ O bk
def Jc (U:A.handled=none)(Z:ZA z TI TO i1 i2 l1 l2)(st:Ja k1 k2 z TI TO i1 i2 l1 l2 S j s.heap)(d:jQ k1 s.heap l1 xs)(q2:jQ k2 s.heap l2 ys)(he:xs[j]? = none\/ys[j]? = none)
  (q:∀h',(∀c o,c∉[z,TI,TO,i1,i2]->s.heap.get? c=some o->h'.get? c=some o)->Q none { s with heap:=h' }):wpAny (model prog w) A (pyNext (.ref z)) Q E s:=by
 have M:=st.ty;obtain⟨e,g,h,k⟩:=st;unfold pyNext;rcases k with⟨hz,a,b,i⟩|⟨l,f,m,n,hz,h0,n0,p,i⟩
 .refine wX (wpAny_attempt (wpAny_callSpecial?_slot M slot_zip_next (wpAny_call_entry slot_zip_next M entry_zip_next (C4 U Z hz e i g h d q2 he λh' x hk hX=>?_) (args_zip_next_1 _))));obtain⟨o,O,co⟩:=hX;exact wX (wpAny_isInstance (b:=true) ⟨o,O,co⟩ isSubtype_stop (wY (q h' hk)))
 .refine wX (wpAny_attempt (wpAny_callSpecial?_slot M slot_zip_next (wpAny_call_entry slot_zip_next M entry_zip_next (IZ U Z hz h0 e g h d q2 he λh' x hk hX=>?_) (args_zip_next_1 _))));obtain⟨o,O,co⟩:=hX;exact wX (wpAny_isInstance (b:=true) ⟨o,O,co⟩ isSubtype_stop (wY (q h' hk)))
end
def Jd (h:a≠b):upd (upd H a o) b u=upd (upd H b u) a o:=by
 funext c;unfold upd;lia
def jW (h:H a=none):aI H (upd H a o):=λb u e=>by rw[a7 (aM e h)];exact e
def FK (h:(iV ds es)[i]? = some d):(iV ds es).take (i+1)=(iV ds es).take i++[d]:=by
 rw[take_add_one,h];rfl
def Bw:typeLookup (.type "zip") "__len__" = pure none:=I9
def zi:typeLookup (.type "zip") "__length_hint__" = pure none:=I9
section
variable {X:Cx}{af:AO}{σ:St}{B H0:Hp}{A:Around}{R:Result->Shared->Prop}{k1 k2:Bool}{z TI TO i1 i2 l1 l2 S:Addr}{us ws:LV}{ds es:LD}
def FL (T:A.handled=none)(Z:ZA z TI TO i1 i2 l1 l2)(h:S∉[z,TI,TO,i1,i2])(h1:kZ k1 X.K B l1 us)(C:IsL X.K B us ds)(h2:kZ k2 X.K B l2 ws)(D:IsL X.K B ws es)
  (hR:∀M N vs s',Inv X af σ (upd M S (.lst vs)) s'->M S=none->Ext B N H0 M->IsL X.K N vs (iV ds es)->R (.ok (.ret .none)) s'):
  ∀(k i:Nat)(s:Shared)(M N:Hp)(vs:LV),(iV ds es).length - i=k->i<=(iV ds es).length->Inv X af σ (upd M S (.lst vs)) s->M S=none->Ext B N H0 M->(∀b∈[z,TI,TO,i1,i2],lC X af (upd M S (.lst vs)) b) ->
   Ja k1 k2 z TI TO i1 i2 l1 l2 S i s.heap->IsL X.K N vs ((iV ds es).take i) ->
   codeAny (model X.prog X.w) A (.builtin "list.extend.loop" ⟨[.ref S,.ref z,.none],[]⟩) R s:=by
 have n1:=C.length;have n2:=D.length;have nz:(iV ds es).length=min ds.length es.length:=by simp_all[iV]
 intro k;induction k with
 |zero=>
  intro i s M N vs hk hi I hc O fp st j;have AA:i=(iV ds es).length:=N9
  have a:aI B (upd M S (.lst vs)):=(O.bn.trans O.nh).trans (jW hc);obtain⟨its,l,m,E⟩:=(h1.same a).vals I;obtain⟨W,n,p2,Y⟩:=(h2.same a).vals I;have e1:=l.length;have e2:=n.length;refine codeAny_builtin PySem.F.entry_extend_loop ?_;rw[Around.under_plainId plain_extend_loop _];show wpAny _ A.in1 (pyNext (.ref z)>>=_) _ _ s;refine wX (Jc (A:=A.in1) T Z st m p2 ?_ λh' U=>?_)
  .by_cases q:ds.length<=es.length
   .left;simp;lia
   .right;simp;lia
  .refine wY (hR M N vs _ (lb (t':=s.toks) I fp U) hc O ?_);grind
 |succ k ih=>
  intro i s M N vs hk hi I hc O fp st j;have pf:i<(iV ds es).length:=N9
  have a:aI B (upd M S (.lst vs)):=(O.bn.trans O.nh).trans (jW hc);obtain⟨its,l,m,E⟩:=(h1.same a).vals I;obtain⟨W,n,p2,Y⟩:=(h2.same a).vals I;have d1:i<ds.length:=N9
  have d2:i<es.length:=N9
  obtain⟨x,hx,ix⟩:=C.get (vU d1);obtain⟨y,hy,iy⟩:=D.get (vU d2);obtain⟨u,hu,ru⟩:=l.get hx;obtain⟨v,hv,rv⟩:=n.get hy;have el:(iV ds es)[i]? = some (.tup [ds[i],es[i]]):=by
   simp_all[iV]
  obtain⟨zl,GK,c,p,ev0,G⟩:=I.lstM au;have H:S<s.z:=vX G;refine codeAny_builtin PySem.F.entry_extend_loop ?_;show wpAny _ A.in1 (pyNext (.ref z)>>=_) _ _ s;refine wX (Jb (A:=A.in1) Z H st m p2 (by simpa using hu) (by simpa using hv) λh' GL hp U=>?_);have J:upd M S (.lst vs) s.z=none:=I.hok.fresh (vT _);have r:s.z≠S:=ne_of_gt H;have d:M s.z=none:=by rw[a7 r]at J;exact J
  have new:bg X.prog X.w (upd (upd M S (.lst vs)) s.z (.tup [x,y])) h' s.z (.tup [x,y]):=⟨by show 2<=sizeLine;decide,[u,v],.cons ru (.cons rv .nil),⟨_,hp,rr,_,rr⟩⟩;have L:=C5 (s:=s) (t':=s.toks) I fp U (vT _) new;rw[Jd r.symm]at L;have g:=U S _ h G;have t:Ext B (upd N s.z (.tup [x,y])) H0 (upd M s.z (.tup [x,y])):=O.trans (Ext.laid O.nh d);have vl:vs.length=i:=by rw[j.length,length_take];lia
  have zs:=zl;refine wX ?_;have lz:(vs++[V.ref s.z]).length<=sizeLine:=by
   rw[uZ,vl];have a1:=E;show i+1<=sizeLine;lia
  have P:=L.lset (t':=s.toks) (ys:=vs++[.ref s.z]) (its':=GK++[.ref s.z]) (f:=(·.push (Value.ref s.z))) au g H9 (p.append (.cons (show aE (.ref _) (.ref _)from rr) .nil)) lz;rw[mD]at P;refine wpAny_updateSeq g rr (wY ⟨plainId_quiet plain_extend_loop _,ih (i+1) _ _ _ (vs++[.ref s.z]) N9 pf P (by rw[a7 r.symm];exact hc) t (λb hb=>?_) (GL.keep h λb o hb e=>(Heap.get?_update_other _ _ (Ne.symm hb)).trans e) ?_⟩) s9 s9
  .obtain⟨Q,f1,f2,f3,f4,f5⟩:=fp b hb;refine⟨?_,f1,f2,f3,f4,f5⟩;have nb:b≠S:=λe=>h (e ▸ hb);rw[a7 nb]at Q |-;have nT:b≠s.z:=by
    obtain⟨hI,t1,t2,a4⟩:=st;obtain⟨o1,e1,_⟩:=t1.ob;obtain⟨o2,e2,_⟩:=t2.ob;have lt:∀ {c o},s.heap.get? c=some o->c≠s.z:=λe=>vS (vX e);grind
   rw[a7 nT];exact Q
  .rw[FK el];exact(j.mono (Ext.laid O.nh d).bn).append (.cons (.tup (hV.of au) (.cons (ix.mono t.bn) (.cons (iy.mono t.bn) .nil))) .nil)
end
section
variable {X:Cx}{af:AO}{σ:St}{B H:Hp}{s:Shared}{k1 k2:Bool}{z TI TO i1 i2 l1 l2:Addr}{us ws:LV}{ds es:LD}
def tO (C:X.A.handled=none)(I:Inv X af σ H s)(Z:ZA z TI TO i1 i2 l1 l2)(fp:∀b∈[z,TI,TO,i1,i2],lC X af H b)
  (D:IsPair s.heap TI (.ref i1) (.ref i2)) (t:jG k1 s.heap i1 l1 0) (u:jG k2 s.heap i2 l2 0) (hz:IsZip s.heap z TI TO .none) (E:IsPair s.heap TO a b)
  (G:aI B H) (h1:kZ k1 X.K B l1 us) (J:IsL X.K B us ds) (h2:kZ k2 X.K B l2 ws) (L:IsL X.K B ws es)
  (q:∀(S:Addr)(d N:Hp)(vs:LV),d S=none->Ext B N H d->IsL X.K N vs (iV ds es)->Q (.ref S) (upd d S (.lst vs))):
  wq X (call (.type "list") [.ref z]) (EP X af σ Q) X.xe s:=by
 have lt:∀ {c o},s.heap.get? c=some o->s.z≠c:=λe=>ne_of_gt (vX e);have M:s.z∉[z,TI,TO,i1,i2]:=by
  obtain⟨o1,e1,_⟩:=t.ob;obtain⟨o2,e2,_⟩:=u.ob;simp_all
 have nz:s.z≠z:=lt hz;have k:Ja k1 k2 z TI TO i1 i2 l1 l2 s.z 0 s.heap:=⟨D,t,u,.inl ⟨hz,a,b,E⟩⟩;have hc:H s.z=none:=I.fresh;refine callType_codes (Q₁:=λobj U=>obj=.ref s.z/\U={ s with heap:=s.heap.push { cls:=.type "list",data:=.seq #[] } }) PySem.F.called_list (PySem.F.typeCall_list_1 _) PySem.F.entry_list_init
  (code_list_new _ ⟨rr,rr⟩) λobj U g=>?_
 obtain⟨rfl,rfl⟩:=g;have h:(s.heap.push { cls:=.type "list",data:=.seq #[] }).get? s.z=some _:=vY _ rr;have P:=I.lnew (t':=s.toks) (its:=[]) .nil (uN _);have l:Ja k1 k2 z TI TO i1 i2 l1 l2 s.z 0 (s.heap.push { cls:=.type "list",data:=.seq #[] }):=k.keep M λb o _ e=>vZ _ e;refine⟨⟨_,h,rr⟩,PySem.F.args_list_init_2 _ _,?_⟩;refine wX ?_;unfold Builtin.List.listItems;refine wX (wpAny_seqItems h rr (wY ?_));refine wX (wpAny_updateSeq h rr ?_);have i:=P.lset (t':=s.toks) (ys:=[]) (its':=[]) (f:=λ_=>#[]) au h rr .nil (uN _);have O:=l.keep (h':=(s.heap.push { cls:=.type "list",data:=.seq #[] }).update s.z (Obj.mapSeq λ_=>(#[]:AV))) M λb o hb e=>(Heap.get?_update_other _ _ (Ne.symm hb)).trans e;rw[mD]at i;generalize m:(s.heap.push { cls:=.type "list",data:=.seq #[] }).update s.z (Obj.mapSeq λ_=>(#[]:AV))=g2 at i O |-;obtain⟨_,R,c2,V,_,v⟩:=i.lstM au;have e2:=V.zero;subst e2;refine wX (wpAny_letGo ?_);unfold Builtin.List.listExtendWith;refine wX (wpAny_typeOf (T:="zip") O.ty ?_);have n:Builtin.List.listSameRef (.ref s.z) (.ref z)=false:=by simp[Builtin.List.listSameRef,nz]
 have W:(Value.type "zip" == Value.type "list")=false:=P9
 have Y:(Value.type "zip" == Value.type "tuple")=false:=P9
 simp only[n,W,Y,Bool.or_false,uV,if_false];have p:IsZip g2 z TI TO .none:=by
  rw[<-m];exact(Heap.get?_update_other _ _ nz).trans (vZ _ hz)
 refine wX (wpAny_pyIter_zip p ?_);refine wX (wpAny_holding ?_);unfold Builtin.List.listLengthHint;refine wX (wpAny_specialOf (T:="zip") O.ty Bw ?_);refine wX (wpAny_specialOf (T:="zip") O.ty zi ?_);refine wY ?_;refine wX (wpAny_rule ?_);refine wX ?_;refine wX (wpAny_updateSeq v rr ?_);have j:=i.lset (t':=s.toks) (ys:=[.non]) (its':=[.none]) (f:=(·.push .none)) au v rr (.cons (show aE .non .none from rr) .nil) (by show 1<=sizeLine;decide);have w:=O.keep (h':=g2.update s.z (Obj.mapSeq (·.push .none))) M λb o hb e=>(Heap.get?_update_other _ _ (Ne.symm hb)).trans e;rw[mD]at j;generalize hg3:g2.update s.z (Obj.mapSeq (·.push .none))=g3 at j w |-;obtain⟨_,aeL,c3,v3,_,x⟩:=j.lstM au;obtain⟨n3,rfl,r3⟩:=v3.one;cases r3
 refine wpAny_updateSeq (hz:=by simp<;>decide) x rr ?_
 have y:=j.lset (t':=s.toks) (ys:=[]) (its':=[]) (f:=(·.pop)) au x rr .nil (uN _);have r:=w.keep (h':=g3.update s.z (Obj.mapSeq (·.pop))) M λb o hb e=>(Heap.get?_update_other _ _ (Ne.symm hb)).trans e;rw[mD]at y;refine wY ⟨plainId_quiet plain_extend_loop _,FL (A:=X.A.in1) (B:=B) (H0:=H) C Z M h1 J h2 L (λd N vs s' I' O3 xt il=>?_) _ 0 _ H B [] rr (uN _) y hc (Ext.refl G) (λb hb=>?_) r .nil⟩
 .exact⟨rr,.ref s.z,_,I',rr,q _ d N vs O3 xt il⟩
 .obtain⟨f0,f1⟩:=fp b hb;refine⟨?_,f1⟩;grind[a7]
end
@[simp] def fLZ (fa M:FE):FE:=λρ=>(Ij fa M ρ).map λds=>(.lst ds,true)
section
variable {X:Cx}{a b:Expr}{pos p pos2 p2:Pos}
def By (x:X.calm=true)(hl:X.mg "list" = none)(hm:X.mg "zip" = none)(ha:JE X a fa)(hb:JE X b fb)(g:Gl X "list")(y:Gl X "zip")
  (hs:starEach [a,b] X.env=[(false,eval a X.env),(false,eval b X.env)]) (O:cL b X.env)
  (t:starEach [.Call (.Name "zip" p2) [a,b] [] pos2] X.env=[(false,eval (.Call (.Name "zip" p2) [a,b] [] pos2) X.env)]):
  JE X (.Call (.Name "list" p) [.Call (.Name "zip" p2) [a,b] [] pos2] [] pos) (fLZ fa fb):=by
 intro af s σ H Q I q;obtain⟨B,ρ,d,bb,A,r,M,dX⟩:=q;refine eB M λzs e e2=>?_;cases e2
 clear M;have M:=e;clear e;refine eX M λu ex M=>?_;refine eX M λv C M=>?_;refine eX M λxs h M=>?_;refine eB M λys i M=>?_;subst M;refine wpAny_Call_Name_kw (fG I g hl AZ ?_ P9 P9);refine PyProof.Rows.callWith_type1 ?_ (by rw[t];rfl) rr;rw[t];refine Calls.spliced_cons ?_;refine wpAny_Call_Name_kw (fG I y hm OW ?_ P9 P9);refine PyProof.Rows.callWith_type1 (bG (fU ha (fU hb lR O) (by rw[cQ,hs,O]) pos2 af s σ H (λvs j=>∃N1,Ext B N1 H j/\IsL X.K N1 vs [u.1,v.1]) I ⟨B,ρ,[u.1,v.1],A,r,by simp[ak,a0,ex,C],λvs j N1 c i1=>⟨N1,c,i1⟩⟩) λus s1 ⟨vs,j,w,D,N1,c,E⟩=>?_) (by rw[hs,O]) (by rw[O];rfl);cases E with
 |cons F k=>
  cases k with
  |cons k G=>
   cases G
   obtain⟨k1,l1,L,rfl,h1,m1⟩:=ui F h;obtain⟨k2,l2,P,rfl,h2,m2⟩:=ui k i;obtain⟨u1,u2,rfl,R,l⟩:=D.two;cases R
   cases l
   refine yE w (h1.same c.nh) (h2.same c.nh) λh' z TI TO i1 i2 J Z T c2 c3 V W fp=>Calls.spliced_nil (tO (B:=N1) (w.ok.hd x) J Z fp c2 V W T c3 c.nh h1 m1 h2 m2 λS Hc N vs m U n=>?_);have Y:=(c.trans U).trans (Ext.laid (o:=.lst vs) U.nh m);have f:=n.mono (Ext.laid (o:=.lst vs) U.nh m).bn;exact dX _ _ _ Y (.lst (eN.of au) f) λ_=>⟨_,_,_,rr,rr,(c.trans U).hh.free m,au,f⟩
end
end DL
namespace DL
open PySem PySem.Spec PyProof.Rows
def xn:typeLookup (.type "list") "keys" = pure none:=I9
def FM
  (hx:s.heap.get? a=some { cls:=.type "list",dict:=none,data:=.seq xs k,slots:=sl }) (U:A.handled=none)
  (h:∀h' tk,(∀b o,s.heap.get? b=some o->h'.get? b=some o)->Q none { s with heap:=h',toks:=tk }):
  wpAny (model prog w) A (getAttr? (.ref a) "keys") Q E s:=by
 obtain⟨hp,g,d,tk,os⟩:=s;have O:∀M,(⟨hp,g,d,M,os⟩:Shared).TypeIs (.ref a) "list":=λ_=>⟨_,hx,rr⟩;have f1:=sub_AttributeError;have c:=slot_list_getattribute.lookup;have f:=slot_list_getattribute.bind (.ref a);have i:=am_list_getattr_none;unfold getAttr? getAttrBy? getAttrBy;repeat (any_goals (first|assumption|exact O _|((with_reducible show wpAny _ _ (call (Value.builtin "list.__getattribute__") _ _) _ _ _);refine call_meets slot_list_getattribute (O _) am_entry_list_getattribute (PySem.F.args_list_getattribute_2 _ _) (meets_getattribute_miss_list a xs k sl "keys" _ xn P9 P9) ⟨hx,U,λh' M e hx'=>?_⟩)|wp_step))
 obtain⟨t',u',he⟩:=hx'.there;show wpAny _ _ (getattributeRaised _ _ _ _ _ _ _) _ _ _;unfold getattributeRaised;repeat (any_goals (first|assumption|wp_step))
 exact h _ _ hx'.of.keeps
end DL
namespace DL
open PySem PySem.Spec PyProof.Rows L2
def gG:LD->Option (List (dA×D))
 |[]=>some []
 |.tup [k,v]::r=>(lK k).bind λM=>(gG r).map λl=>(M,v)::l
 |_=>none
noncomputable def md (a:LK×LD)(p:dA×D):LK×LD:=(dv a.1 p.1,cz a.1 a.2 p.1 p.2)
noncomputable def bA (l:List (dA×D)):LK×LD:=l.foldl md ([],[])
def rd (l:List (dA×D))(p:dA×D):bA (l++[p])=md (bA l) p:=by simp_all[bA]
def xy1 {d:D}{r:LD}{l:List (dA×D)}(h:gG (d::r)=some l):∃k v,d=.tup [k,v]:=by
 cases d with
 |tup ds=>rcases ds with _|⟨a,_|⟨b,_|⟨c,ds⟩⟩⟩<;>first|exact⟨_,_,rfl⟩|cases h
 |_=>cases h
theorem re:∀ {ds:LD}{l:List (dA×D)},gG ds=some l->l.length=ds.length
 |[],l,h=>by cases h;rfl
 |d::r,l,h=>by
  obtain⟨k,v,rfl⟩:=xy1 h;refine eX h λO _ h=>?_;obtain⟨U,h1,rfl⟩:=oY h;simp[re h1]
theorem rf:∀ {ds:LD}{l:List (dA×D)}{i:Nat}{d:D},gG ds=some l->ds[i]? = some d->∃k v M,d=.tup [k,v]/\lK k=some M/\l[i]? = some (M,v)
 |[],l,i,d,_,h=>by simp at h
 |d0::r,l,i,d,h,hi=>by
  obtain⟨k,v,rfl⟩:=xy1 h;refine eX h λM h2 h=>?_;obtain⟨U,h1,rfl⟩:=oY h;cases i with
  |zero=>simp at hi;subst hi;exact⟨k,v,M,rr,h2,rr⟩
  |succ i=>simp only[List.getElem?_cons_succ]at hi |-;exact rf h1 hi
def Je (l:List (dA×D)):∀a:LK×LD,a.1.length=a.2.length->(l.foldl md a).1.length=(l.foldl md a).2.length/\(l.foldl md a).1.length<=a.1.length+l.length:=by
 induction l with
 |nil=>simp
 |cons p l ih=>
  intro a h;have h1:(md a p).1.length<=a.1.length+1:=by
   show(dv _ _).length<=_;unfold dv;split<;>simp
  have:=ih (md a p) (nj h _ _);rw[foldl_cons,vE];exact⟨this.1,N9⟩
theorem FN (l:List (dA×D)):(bA l).1.length=(bA l).2.length/\(bA l).1.length<=l.length:=by
 have:=Je l ([],[]) rr;exact⟨this.1,vR this.2 H9⟩
def uE:entryFor table "dict.update.loop" = some Builtin.«dict.update.loop»:=entryFor_of_tree w9
def lf:plainId "dict.update.loop" = true:=O9
section
variable {X:Cx}{af:AO}{σ:St}{B H0:Hp}{A:Around}{R:Result->Shared->Prop}{it l d:Addr}{us:LV}{ds:LD}{iM:List (dA×D)}
def Bz (Z:A.handled=none)(nl:l≠it)(nd:d≠it)(hl:eN X.K B l us)(G:IsL X.K B us ds)(hp:gG ds=some iM)
  (hR:∀M N vs ob s',Inv X af σ (upd M d (.dK ((bA iM).1.zip vs) ob)) s'->M d=none->Ext B N H0 M->(bA iM).1.length=vs.length->IsL X.K N vs (bA iM).2->R (.ok (.ret .none)) s'):
  ∀(k i:Nat)(tk:Nat)(s:Shared)(M N:Hp)(vs:LV)(ob:Obj),ds.length - i=k->i<=ds.length->Inv X af σ (upd M d (.dK ((bA (iM.take i)).1.zip vs) ob)) s->M d=none->Ext B N H0 M->lC X af (upd M d (.dK ((bA (iM.take i)).1.zip vs) ob)) it ->
   s.heap.IsListIter it l i->(bA (iM.take i)).1.length=vs.length->IsL X.K N vs (bA (iM.take i)).2 ->
   codeAny (model X.prog X.w) A (.builtin "dict.update.loop" ⟨[.ref d,.ref it,.int i tk,.none],[]⟩) R s:=by
 have n1:=G.length;have n2:=re hp;intro k;induction k with
 |zero=>
  intro i tk s M N vs ob hk hi I hc O fp st hz hv;have AA:i=ds.length:=N9
  have j:aI B (upd M d (.dK ((bA (iM.take i)).1.zip vs) ob)):=(O.bn.trans O.nh).trans (jW hc);refine I.lisE (j.seq hl) λits m n z1=>?_;have e1:=m.length;refine codeAny_builtin uE ?_;rw[Around.under_plainId lf _];refine wX (wpAny_pyNext_list_end (A:=A.in1) Z st n.isList s9 λh' PB=>?_);refine wX (wY (wY ?_));have f:=lb (t':=s.toks) (h':=h') (ch:=[it]) I (λb hb=>by rw[uT hb];exact fp) λb o hb e=>PB b o (λq=>hb (by simp[q])) e;rw[AA,<-n2,take_length]at f hz hv;exact hR M N vs ob _ f hc O hz hv
 |succ k ih=>
  intro i tk s M N vs ob hk hi I hc O fp st hz hv;have U:i<ds.length:=N9
  have j:aI B (upd M d (.dK ((bA (iM.take i)).1.zip vs) ob)):=(O.bn.trans O.nh).trans (jW hc);refine I.lisE (j.seq hl) λits m n z1=>?_;obtain⟨kd,H,g,ed,ek,el⟩:=rf hp (vU U);obtain⟨x,hx,J⟩:=G.get (vU U);rw[ed]at J;cases J with
  |@tup T xs _ hT p=>
   cases p with
   |cons ik r=>
    cases r with
    |cons iv r=>
     cases r
     rename_i xk L;have t:=uB ik ek;subst t;obtain⟨u,hu,ru⟩:=m.get hx;cases (show u=Value.ref T from ru)
     refine codeAny_builtin uE ?_;rw[Around.under_plainId lf _];refine wX (wpAny_pyNext_list_item (A:=A.in1) st n.isList (x:=.ref T) (by simpa using hu) λh' GL hs=>?_);have f:=lb (t':=s.toks) (h':=h') (ch:=[it]) I (λb hb=>by rw[uT hb];exact fp) λb o hb e=>hs.extBut b o (λq=>hb (by simp[q])) e;refine f.tupE (aS j hT) λps r2 p2 z2=>?_;obtain⟨uk,uv,rfl,rk,rv⟩:=r2.two;have v:Shared.TypeIs { s with heap:=h' } (.ref T) "tuple":=by obtain⟨o,e,c,_⟩:=p2;exact⟨o,e,c⟩
     dsimp only;refine wX (wpAny_holding (wX (wpAny_tryCatch ?_)));unfold Builtin.Dict.pairItems;refine wX (wpAny_typeOf v ?_);obtain⟨oT,eT,cT,nT,dT⟩:=p2;rw[if_pos P9];refine wX (wpAny_seqItems eT dT (wY ?_));obtain⟨zz,y,z,rel,dd⟩:=qE f.hok (a:=d) au;have C:z.length<=sizeLine:=by rw[<-rel.length];exact zz
     have nk:((bA (iM.take i)).1.zip vs).length<sizeLine:=by
      grind[FN]
     refine wpAny_holding (wpAny_dictSet_pairs (hsz:=C) (yq rk) dd λh2 P Q=>?_);have L9:(oh ((bA (iM.take i)).1.zip vs) g L).length<=sizeLine:=by grind[jL]
     obtain⟨E,S⟩:∃q,h2.get? d=some q:=let ⟨q,_,_,hq,_⟩:=P;⟨q,hq⟩;have V:=wD (t':=s.toks+1) f (a:=d) (by rw[au];exact True.intro) Q ⟨_,S⟩ (Hq L9 y (rel.put g rv) P S);rw[mD,qj hz]at V;have W:iM.take (i+1)=iM.take i++[(g,H)]:=by rw[take_add_one,el];rfl
     have h:(bA (iM.take (i+1))).1=dv (bA (iM.take i)).1 g:=by rw[W,rd];rfl
     have F:(bA (iM.take (i+1))).2=cz (bA (iM.take i)).1 (bA (iM.take i)).2 g H:=by rw[W,rd];rfl
     refine wY ⟨plainId_quiet lf _,?_⟩;refine ih (i+1) 0 _ M N (cz (bA (iM.take i)).1 vs g L) E N9 U (by rw[h];exact V) hc O ?_ ?_ ?_ ?_
     .obtain⟨Y,f1⟩:=fp;refine⟨?_,f1⟩;rw[a7 nd.symm]at Y |-;exact Y
     .exact GL.at λo e=>(Q.2 it nd.symm).trans e
     .rw[h];exact nj hz _ _
     .rw[F];exact hv.put (iv.mono O.bn)
end
@[simp] def nn:LD->OB
 |[.lst ds]=>(gG ds).map λM=>(.dk (bA M).1 (bA M).2,false)
 |_=>none
def RA:bootBuiltins "dict" = some (.type "dict"):=O9
section
variable {X:Cx}
def RB (x:X.calm=true):b7 X (.type "dict") (A6 X.K nn):=by
 intro af s σ H xs us Q I r h;refine cX λW Y=>?_;obtain⟨B,y,d0,bb,j,z,U,q⟩:=h;apply Y;cases z with
 |nil=>simp[nn]at U
 |cons i1 i2=>
  cases i2 with
  |cons _ _=>cases i1<;>simp[nn]at U
  |nil=>
   cases i1<;>try (simp[nn]at U;done)
   rename_i l ws ds hl C;simp only[nn]at U;refine eB U λk hp U=>?_;cases U
   obtain⟨u,rfl,D⟩:=gh r;cases D
   have m:X.A.handled=none:=I.ok.hd x;refine callType_codes (Q₁:=λobj O=>obj=.ref s.z/\O={ s with heap:=s.heap.push _ }) PySem.F.kt_called_dict (PySem.F.kt_typeCall_dict_1 _) PySem.F.entry_dict_init (kt_code_dict_new _ ⟨rr,rr⟩) ?_;rintro obj O ⟨rfl,rfl⟩;have n:=I.laid (t':=s.toks) (λb o e=>vZ _ e) (vT _) (yr s.heap I.big);have a:H s.z=none:=I.fresh;have p:Shared.TypeIs { s with heap:=s.heap.push { cls:=.type "dict",data:=.dict #[] } } (.ref s.z) "dict":=⟨_,vY _ rr,rr⟩;refine⟨p,PySem.F.args_dict_init_2 _ _,?_⟩;unfold Builtin.«dict.__init__»;refine wX ?_;unfold Builtin.Dict.selfAndRest;refine wX (wpAny_notOrdered_dict p ?_);refine wY ?_;show wpAny _ _ (Builtin.Dict.updateFrom "dict.__init__" s.z (.ref l) [] .none) _ _ _;unfold Builtin.Dict.updateFrom;have E:aI B (upd H s.z (.dK [] { cls:=.type "dict",data:=.dict #[] })):=j.trans (jW a);refine n.lisE (E.seq hl) λits S t T=>?_;have pl:=t.isList;obtain⟨v,G,M,cl,c,dl⟩:=t;have f:Shared.TypeIs _ (.ref l) "list":=⟨v,M,cl⟩;refine wX (wpAny_typeOf f ?_);rw[if_pos P9];obtain⟨oc,od,V,os⟩:=v;simp only at cl c dl;subst cl c dl;refine wX (FM M (by exact m) λh' tk hk=>?_);dsimp only[Option.isNone_none];rw[if_pos rr];have g:=n.kept (t':=tk) hk;refine wX (wpAny_rule ?_);refine wX (wpAny_pyIter_list (items:=its.toArray) ⟨_,hk _ _ M,rr,G,rr⟩ ?_);have J:Inv X af σ _ { s with heap:=h'.push { cls:=.type "list_iterator",data:=.fields #[.ref l,.int 0 0] },toks:=tk }:=g.kept (t':=tk) λb o e=>vZ _ e;have ld:s.z<h'.objs.size:=vX (hk _ _ (vY _ rr));have L:l<h'.objs.size:=vX (hk _ _ M);refine wY ⟨plainId_quiet lf _,Bz (A:=X.A.in1) (B:=B) (H0:=H) (l:=l) (d:=s.z) (it:=h'.objs.size) m (vS L) (vS ld) hl C hp (λW N vs ob s' P w i hz hv=>?_) _ 0 0 _ H B [] _ rr (uN _) J a (Ext.refl j) (g.fpOk (vT _) (g.hok.fresh (vT _))) ⟨_,vY _ rr,rr,rr⟩ rr .nil⟩;refine⟨rr,.ref s.z,_,P,rr,?_⟩;have R:=i.trans (Ext.laid (o:=.dK ((bA k).1.zip vs) ob) i.nh w);exact q _ _ _ R (.dk au hz (hv.mono (Ext.laid (o:=.dK ((bA k).1.zip vs) ob) i.nh w).bn)) H9
end
def T5 (h:n+40<cLine):n+1<cLine:=N9
def jo:LD->Option LK
 |[]=>some []
 |d::ds=>(lK d).bind λk=>(jo ds).map (k :: ·)
theorem B1 {K:Frag}{B:Hp}:∀ {vs:LV}{ds:LD}{ks:LK},IsL K B vs ds->jo ds=some ks->vs=ks.map kV
 |_,_,ks,.nil,e=>by simp[jo]at e;subst e;rfl
 |_,_,ks,.cons i is,e=>by
  refine eX e λk h1 e=>?_;obtain⟨r,h2,rfl⟩:=oY e;rw[uB i h1,B1 is h2];rfl
@[simp] def Jf (fo:FE)(fa:FA):FE:=λρ=>(fo ρ).bind λx=>(fa ρ).bind λds=>match x.1 with
 |.dt M vs=>if ds.length<=sizeLine then (jo ds).map λk=>((bN M vs k).getD .non,false)else none
 |_=>none
section
variable {X:Cx}{o:Expr}{es:QD}{pos:Pos}
def Jg {bV b9 O:Pos}{U:Nat}{fo:FE}{fa:FA}(hu:X.A.units+1<cLine)(i:JE X o fo)(ha:JA X es fa)(m:M1 X o "get" bV (.Tuple es U O) b9):JE X (.Call (.Attribute o "get" bV) [.Tuple es U O] [] b9) (Jf fo fa):=by
 refine PE.to (yt hu i (wu ha) m) λσ H Q q=>?_;refine cX λG K=>?_;obtain⟨B,ρ,d,bb,j,r,M,q⟩:=q;refine eX M λx ex M=>?_;refine eX M λds l M=>?_;apply K;refine⟨B,ρ,x.1,x.2,j,r,ex,λv t N1 U i1 u=>?_⟩;obtain⟨xd,w⟩:=x;cases i1 with
 |@dt a ks vs y h hl hs=>
  simp only at M;split at M
  .rename_i hz;refine eB M λk hk M=>?_;cases M
   refine⟨a,rr,.inr ⟨_,.inl (U.nh _ _ h)⟩,N1,ρ,ds,U.nh,r.mono U.bn,l,λus H2 N2 c i2=>?_⟩;have hv:=B1 i2 hk;have e:us.length<=sizeLine:=by rw[i2.length];exact hz
   refine⟨e,λp hp=>?_⟩;have b:=Ext.laid (o:=.tup us) c.nh hp;have f:=c.bn _ _ h;refine⟨lF _ k,.inr ⟨_,k,p,.inl (b.nh _ _ (b.bn _ _ f)),rr,by rw[au,hv],rr⟩,?_⟩;have n:=(hs.mono c.bn).mono b.bn;rcases xm k hl n with⟨v,d',g,e2,s⟩|⟨g,e2⟩
   .rw[g];rw[e2]at q;exact(q.into ((U.trans c).trans b)).one b.nh s
   .rw[g];rw[e2]at q;exact(q.into ((U.trans c).trans b)).one b.nh .non
  .cases M
 |_=>simp at M
end
section
variable {K:Frag}{E:Ends}{σ:St}{H:Hp}
def uF (i:Nat)(O:FA)(U:FE):FS:=λρ=>match ρ[i]? with
 |some (some (.dt ks vs,true))=>(U ρ).bind λv=>(O ρ).bind λkd=>(jo kd).bind λM=>if aQ v.1=true/\ks.length<sizeLine/\kd.length<=sizeLine then some (.nx (ρ.set i (some (.dt (dv ks M) (cz ks vs M v.1),true))))else none
 |_=>none
def Jh {i:Nat}{O:FA}{U:FE}(q:mK K (uF i O U) E σ H):Co (GQ i) (U3 (Tu K O)) (tD K U) E σ H:=by
 refine cX λG g=>?_;obtain⟨B0,H0,ρ,r,⟨N,s⟩,e,p⟩:=q;apply g;clear g;unfold uF at e;split at e
 .rename_i ks ds ei;refine eX e λv ev e=>?_;refine eX e λkd ek e=>?_;refine eX e λd hk e=>?_;split at e
  .rename_i hx;cases e
   refine⟨N,ρ,v.1,v.2,s.ext.nh,s.rep,ev,λg h N1 f i1 _=>?_⟩;have s1:=s.grow f;obtain⟨a,o,h1,h2,h3,h4⟩:=s1.ow i _ ei;refine⟨.ref a,h1,N1,ρ,kd,s1.ext.nh,s1.rep,ek,λus H2 N2 b i2=>?_⟩;have s2:=s1.grow b;have hv:=B1 i2 hk;refine⟨by rw[i2.length];exact hx.2.2,λpp hp=>?_⟩;have c:=Ext.laid (o:=.tup us) s2.ext.nh hp;have M:=s2.grow c;obtain⟨j,o',k1,k2,k3,k4⟩:=M.ow i _ ei;rw[h1]at k1;cases k1
   cases k4 with
   |@dt ks vs ds hl h5=>
    refine⟨a,rr,.inr ⟨_,d,pp,M.ext.nh _ _ k2,rr,by rw[au,hv],?_,?_⟩⟩
    .rw[length_zip];lia
    .rw[qj hl];exact p σ _ ⟨_,M.writeB ei h1 (.dt (nj hl _ _) (h5.put (M.flat ((i1.mono b.bn).mono c.bn) hx.1)))⟩
  simp_all
 simp_all
end
section
variable {X:Cx}{pos:Pos}{e:Expr}{es:QD}
def Ng (hu:X.A.units+1<cLine)(hv:JE X e fv)(hk:JA X es fk)(U:X.N[i]? = some y)(M:GP X.env.scope y)(hd:bf y)
  (O:jI y) (hs:swapsWith e (some (.Subscript (.Name y py) (.Tuple es x1 SO) pt)) pos.line X.env=pure false):JS X (.Assign [.Subscript (.Name y py) (.Tuple es x1 SO) pt] e pos) (uF i fk fv):=
 PS.to (wF hu (jg U M hd O) (wu hk) hv hs) λ_ _ _ q=>Jh q
end
end DL
namespace L2
open PySem PySem.Spec PyProof.Rows
noncomputable def ZM (a:Addr)(aC:List (dA×V))(ob:Obj):It:=⟨λi H=>H a=some (.dK aC ob)/\i<aC.length,λi H x H'=>H'=H/\∃k,aC[i]? = some (k,x),λi H=>H a=some (.dK aC ob)/\aC.length<=i⟩
def KV.get {aC:List (dA×V)}{vs:List (dA×Value)}(r:KV aC vs){i:Nat}{k:dA}{x:V}(h:aC[i]? = some (k,x)):∃u,vs[i]? = some (k,u)/\aE x u:=by
 induction r generalizing i with
 |nil=>simp at h
 |@cons p q ps O hq t ih=>
  cases i with
  |zero=>
   cases (show p=(k,x)from vK h)
   obtain⟨M,q2⟩:=q;exact⟨q2,by rw[show k=M from hq.1];rfl,hq.2⟩
  |succ i=>exact ih h
def V4 (h:(cr P w).is k u=true):aE (kV k) u:=by
 cases k with
 |inl i=>exact Value.isInt_shape h
 |inr z=>exact Value.isStrOf_shape h
section
variable {P:Program}{w:World}{H:Hp}{h:Heap}{a:Addr}
def rg (ok:l8 P w H h)(e:H a=some (.dK aC ob))(hd:ob.data=.dict es U):∃vs,KV aC vs/\h.DictAt (cr P w) a vs U:=by
 refine cX λG g=>?_;obtain⟨_,_,vs,r,o,M,O,h1,h2,h3,h4⟩:=qE ok e;apply g;rw[AS ok e]at h1;cases h1
 rw[hd]at h3;cases h3
 exact⟨vs,r,ob,es,AS ok e,h2,hd,h4⟩
def xo (ok:l8 P w H h)(e:H a=some (.dK aC ob)):∃es M,ob.data=.dict es M:=by
 refine cX λG g=>?_;obtain⟨_,_,vs,r,o,O,U,h1,h2,h3,h4⟩:=qE ok e;apply g;clear g;rw[AS ok e]at h1;grind
end
def FP {P:Program}{w:World}{K:Frag}{tg:Expr}(a it:Addr)(aC:List (dA×V))(ob:Obj){es:Array DictEntry}{t:Nat}(hd:ob.data=.dict es t):Turn P w K tg (ZM a aC ob) [it] it (λi h=>h.IsValIter it a i aC.length t) where
 mem:=H9
 obj:=λi h st b hb=>by
  have e:b=it:=by simpa using hb
  subst e;obtain⟨o,e,c,d⟩:=st;simp_all
 keep:=λi h h' st k=>st.at λo e=>k it H9 o e
 item:=by
  intro X U hw f hc i af s σ H E I hf st g;subst U hw f;refine cX λG W=>?_;obtain⟨j,O⟩:=g;obtain⟨vs,r,m⟩:=rg I.hok j hd;obtain⟨l,f1,f2,n,p,q⟩:=hf it H9;apply W;clear W;have hl:vs.length=aC.length:=(Paired.length r).symm;obtain⟨u,hu,ru⟩:=r.get (k:=aC[i].1) (x:=aC[i].2) (vU O);refine wpAny_pyNext_values_item (by rw[hl];exact st) m hu λh' M v=>?_;rw[hl]at M;have y:=I.turned (t':=s.toks) (λb o hb e=>(v.2 b hb).trans e) l f1 n p q;obtain⟨o,e,c,d⟩:=id M;exact⟨u,rr,q8 (s:={ s with heap:=h' }) e c d P9 ⟨aC[i].2,H,y,ru,⟨rr,aC[i].1,vU O⟩,M,λb hb=>(hf b hb).1⟩⟩
 done:=by
  intro X U hw f hc i af s σ H E I hf st g;subst U hw f;refine cX λG W=>?_;obtain⟨j,A⟩:=g;obtain⟨vs,r,m⟩:=rg I.hok j hd;obtain⟨l,f1,f2,n,p,q⟩:=hf it H9;apply W;clear W;have hl:vs.length=aC.length:=(Paired.length r).symm;exact wpAny_pyNext_values_end (I.ok.hd hc) (by rw[hl];exact st) m (getElem?_eq_none N9) λh' z=>⟨rr,I.turned (t':=s.toks) (λb o hb e=>z b o hb e) l f1 n p q⟩
 self:=λ_ _ _ _ _ st h=>wpAny_pyIter_valiter st h
section
variable {X:Cx}{tg:Expr}
def V5 (O:TE):TI:=λσ H R=>O σ H λx M=>∃a aC ob,x=.ref a/\M a=some (.dK aC ob)/\R (ZM a aC ob) M
def Nh {o:Expr}{f:TE}{bV b9:Pos}(j:PE X o f)(M:attributeBase o "values" X.env (eval o X.env)=eval o X.env:=by rfl)(O:(bV.endLine == b9.line)=true:=by rfl):PI X tg (.Call (.Attribute o "values" bV) [] [] b9) (V5 f):=by
 intro af s σ H R I h;refine wpAny_Call_method0_late M O (bG (j af s σ H _ I h) λv s1 ⟨x,g,U,i,a,aC,ob,ex,c,q⟩=>?_);subst ex;obtain⟨h1,h2⟩:=wA U i (T:="dict") (.inr (.inr (.inl ⟨rr,.inl ⟨aC,ob,c⟩⟩)));cases i
 obtain⟨es,k,hd⟩:=xo U.hok c;obtain⟨vs,r,m⟩:=rg U.hok c hd;have hl:=(Paired.length r).symm;refine⟨"dict","dict.values",plainAttrs_dict,PySem.F.slot_dict_values,PySem.F.type_dict_values,h1,h2,Calls.callWith_builtin rr (PySem.evalArgs_none ?_)⟩;refine call_meetsIn PySem.F.slot_dict_values h1 PySem.F.entry_dict_values (PySem.F.args_dict_values_1 _) (meets_dict_values _ a (qE U.hok c).2.1) ⟨⟨vs,m.dictOf⟩,?_⟩;have d:Inv X af σ g { s1 with heap:=s1.heap.push { cls:=.type "dict_values",data:=.fields #[.ref a] } }:=U.kept λb o e=>vZ _ e;refine wpAny_pyIter_values ⟨_,vY _ rr,rr,rr⟩ (m.keep λb o e=>vZ _ e) ?_;rw[hl];refine⟨(s1.heap.push _).objs.size,[(s1.heap.push _).objs.size],_,_,g,rr,d.kept λb o e=>vZ _ e,FP a _ aC ob hd,⟨_,vY _ rr,rr,rr⟩,λb hb=>?_,q⟩;have e:b=(s1.heap.push { cls:=.type "dict_values",data:=.fields #[.ref a] }).objs.size:=by simpa using hb
 subst e;exact d.fpOk (vT _) (d.hok.fresh (vT _))
end
end L2
namespace DL
open PySem PySem.Spec PySem.W PyProof.Rows L2
noncomputable def kD:dA->D
 |.inl i=>.int i
 |.inr z=>.str z
def V6 {K:Frag}{B:Hp}(k:dA):Is K B (kV k) (kD k):=by
 cases k with
 |inl i=>exact .int i
 |inr z=>exact .str z
section
variable {K:Frag}{B:Hp}
def Ni {a:Addr}{ks:LK}{vs:LV}{ds:LD}{ob:Obj}(h:B a=some (.dK (ks.zip vs) ob))(hl:ks.length=vs.length)(hs:IsL K B vs ds):mL K (ZM a (ks.zip vs) ob) B ds:=by
 intro i H s;have hz:(ks.zip vs).length=vs.length:=by rw[length_zip];lia
 refine⟨λd ed=>?_,λM=>⟨s _ _ h,by rw[hz,hs.length];exact M⟩⟩;obtain⟨v,ev,iv⟩:=hs.get ed;have O:=(vV ev).1;refine⟨⟨s _ _ h,by rw[hz];exact O⟩,λy U hy=>?_⟩;obtain⟨rfl,k,e⟩:=hy;have:=(getElem?_zip_eq_some.mp e).2;rw[ev]at this;cases this
 exact⟨B,.refl s,iv⟩
end
section
variable {X:Cx}{e:Expr}{tg:Expr}
@[simp] noncomputable def xp (f:FE):FA:=λρ=>(f ρ).bind λx=>match x.1 with|.dk _ ds=>some ds|_=>none
def Nj (h:JE X e f)(M:attributeBase e "values" X.env (eval e X.env)=eval e X.env)(O:(bV.endLine == b9.line)=true):JI X tg (.Call (.Attribute e "values" bV) [] [] b9) (xp f):=by
 intro af s σ H R I q;refine cX λG K=>?_;obtain⟨B,ρ,ds,b,r,c,q⟩:=q;obtain⟨⟨xd,g⟩,ex,es⟩:=oX c;apply K;cases xd<;>try (cases es;done)
 cases es
 refine Nh h M O _ s σ H R I ⟨B,ρ,_,_,b,r,ex,λv d N1 U i1 _=>?_⟩;cases i1 with
 |@dk a ks vs ds ob hd hl hs=>exact⟨a,_,ob,rr,U.nh _ _ hd,q _ d N1 U (Ni hd hl hs)⟩
end
end DL
namespace DL
open PySem PySem.Spec PyProof.Rows L2
@[simp] abbrev nY (i:Nat)(j:Int):FE:=f2 dM (am i) (fC (.int j))
def V7 (F:Fn X.prog X.w X.K X.mg X.base k x f)(U:dn j X.A)(ha:JA X (e::es) fa)(hj:k<=j)(a:Gl X x)(M:bf x)(he:cQ e es X.env)(O:j9 pos es X.env):JE X (.Call (.Name x p) (e::es) [] pos) (fA f fa):=M0 F (U.mono hj) ha a M he O
def Nk (h1:∀y∈scope.names,y.2≠.cell:=by decide +kernel)(h2:scope.kind=.function:=by rfl)(h3:∀y∈scope.names,y.2=.local->scope.names.lookup y.1=some .local:=by decide +kernel)(M:(scope.names.all λy=>!(y.2 == NameKind.free) || (X.env.cells.lookup y.1).isSome)=true:=by rfl):CompSc X scope (dD scope.names X.env.cells []):=Q7 h1 h2 h3 M
end DL
namespace DL
open PySem PySem.Spec PySem.W PyProof.Rows L2
def rh:At->D
 |.i n=>.int n
 |.s z=>.str z
section
variable {prog:Program}{w:World}{A:Around}{E:QV}{s:Shared}
def V8 (hx:A8 x u)(hy:A8 y v):SeqAt.EqAt A s u v (iQ (rh x) (rh y)):=by
 cases x with
 |i a=>
  obtain⟨t,rfl⟩:=hx;cases y with
  |i c=>obtain⟨t',rfl⟩:=hy;exact SeqAt.EqAt.int_int _ _ _ _
  |s c=>obtain⟨t',rfl⟩:=hy;exact SeqAt.EqAt.int_str _ _ _ _
 |s a=>
  obtain⟨t,rfl⟩:=hx;cases y with
  |i c=>obtain⟨t',rfl⟩:=hy;exact SeqAt.EqAt.str_int _ _ _ _
  |s c=>obtain⟨t',rfl⟩:=hy;exact SeqAt.EqAt.str_str _ _ _ _
theorem CN:∀ {xs ys:List At}{vs:LU},Paired A8 xs vs->Paired A8 ys vs->xs=ys
 |_,_,_,.nil,.nil=>rr
 |x::xs,y::ys,_,.cons p ps,.cons q M=>by
  rw[CN ps M];cases x with
  |i a=>
   obtain⟨t,rfl⟩:=p;cases y with
   |i c=>obtain⟨t',e⟩:=q;cases e;rfl
   |s c=>obtain⟨t',e⟩:=q;cases e
  |s a=>
   obtain⟨t,rfl⟩:=p;cases y with
   |i c=>obtain⟨t',e⟩:=q;cases e
   |s c=>obtain⟨t',e⟩:=q;cases e;rfl
def RC (x y:At):iQ (rh x) (rh y)=true↔x=y:=by
 cases x<;>cases y<;>simp[rh]
theorem qk:∀xs ys:List At,jP (xs.map rh) (ys.map rh)=true↔xs=ys
 |[],[]=>by simp
 |[],_::_=>by simp
 |_::_,[]=>by simp
 |x::xs,y::ys=>by
  rw[uY,uY,jP,vC,RC,qk xs ys];simp
def RD (hx:gE s.heap xs x)(hy:gE s.heap ys y)(hu:A.units<cLine):SeqAt.EqAt A s x y (jP (xs.map rh) (ys.map rh)):=by
 obtain⟨a,o,its,n,rfl,f,hc,hd,r⟩:=hx;obtain⟨b,o',M,m,rfl,O,U,g,e⟩:=hy;by_cases c:a=b
 .grind[CN,qk,SeqAt.EqAt.same]
 .have h:s.heap.IsTuple a its:=⟨o,f,hc,n,hd⟩;have k:s.heap.IsTuple b M:=⟨o',O,U,m,g⟩;have l1:xs.length=its.size:=by exact eW r
  have l2:ys.length=M.size:=by exact eW e
  have he:∀j (h1:j<its.size) (h2:j<M.size),SeqAt.EqAt A.in1 s its[j] M[j] (iQ ((xs.map rh).getD j .non) ((ys.map rh).getD j .non)):=λj h1 h2=>by
   have p:=dN (.i 0) Value.none r (i:=j) N9;have q:=dN (.i 0) Value.none e (i:=j) N9;have d:its.toList.getD j Value.none=its[j]:=by simp_all
   have e2:M.toList.getD j Value.none=M[j]:=by simp_all
   rw[d]at p;rw[e2]at q;have l:(xs.map rh).getD j .non=rh (xs.getD j (.i 0)):=by simp_all
   have t:(ys.map rh).getD j .non=rh (ys.getD j (.i 0)):=by simp_all
   rw[l,t];exact V8 p q
  have rc:=SeqAt.RcAt.tuples h k hu he;have u:((List.range (min its.size M.size)).all (λj=>iQ ((xs.map rh).getD j .non) ((ys.map rh).getD j .non)) && its.size == M.size)=jP (xs.map rh) (ys.map rh):=by
   rw[<-l1,<-l2];by_cases hl:xs.length=ys.length
   .rw[<-hl,Nat.min_self,beq_self_eq_true,Bool.and_true];have:=jj _ (xs:=xs.map rh) (ys:=ys.map rh) (by simpa using hl) λj x y d e2=>wM j x y d e2;rwa [vI]at this
   .rw[wL (by simpa using hl),beq_eq_false_iff_ne.mpr hl,Bool.and_false]
  rw[u]at rc;exact SeqAt.EqAt.of_refs c rc
theorem FQ (xs:List At):aW xs xs=some false:=by
 induction xs with
 |nil=>rfl
 |cons x xs ih=>cases x<;>rw[aW,if_pos rr,ih]
def Ji (hx:gE s.heap xs x)(hy:gE s.heap ys y)(h:aW (.i n::xs) (.i m::ys)=some b)(hu:A.units<cLine)(q:Q b s)(hn:A8 (.i n) u)(hm:A8 (.i m) v):KatLex prog w A true false Q [(u,v),(x,y)] 0 s:=by
 obtain⟨t,rfl⟩:=hn;obtain⟨t',rfl⟩:=hm;refine kat_cons (wpAny_eqBool_int ?_);rw[aW]at h;by_cases e:n=m
 .rw[if_pos e]at h;rw[show(n == m)=true by simp[e]];refine kat_yes (kat_cons (RD hx hy hu _ _ _ _ ?_));by_cases e2:xs=ys
  .grind[qk,FQ,kat_yes,kat_nil]
  .rw[Bool.eq_false_iff.mpr λz=>e2 ((qk xs ys).mp z)];refine kat_no (kat_one _ _ ?_);exact IN hx hy h hu (by first|exact q|exact⟨b,rr,q⟩)
 .rw[if_neg e]at h;cases h
  rw[show(n == m)=false by simp[e]];exact kat_no (oneLt_int q)
end
def FR (h:Heap)(xs:List At)(v:Value):Prop:=∃n k a o its m u x,xs=.i n::k/\v=.ref a/\h.get? a=some o/\o.cls=.type "tuple"/\o.data=.seq its m/\its.toList=[u,x]/\A8 (.i n) u/\gE h k x
section
variable {prog:Program}{w:World}{A:Around}{E:QV}{s:Shared}
def Nl (hx:FR s.heap xs x)(hy:FR s.heap ys y)(h:aW xs ys=some b)(hu:A.units<cLine)(q:Q b s):wpAny (model prog w) A (keyLt' (tuples' true) x y) Q E s:=by
 obtain⟨n,k,a,o,its,m,u,f,rfl,rfl,d,_,hd,ei,an,e⟩:=hx;obtain⟨g,k',i,o',its',j,u',l,rfl,rfl,O,_,U,M,c,ty⟩:=hy;refine kat_lt d hd O U ?_;rw[ei,M];have hf:decide (its.size<its'.size)=false:=by
  rw[<-vG,<-vG,ei,M];rfl
 rw[hf];exact Ji e ty h hu q an c
theorem p6:∀ {ks:List (List At)}{vs:LU},Paired (FR h) ks vs->∃fs,KatTups h vs fs/\fs.length=ks.length/\∀v∈fs,∃n,A8 (.i n) v
 |_,_,.nil=>⟨[],trivial,rr,H9⟩
 |k::ks,_,.cons x t=>by
  obtain⟨fs,h1,h2,h3⟩:=p6 t;obtain⟨n,k,a,o,its,m,u,O,rfl,rfl,M,hc,hd,ei,an,_⟩:=x;refine⟨u::fs,KatTups.cons M hc hd (by rw[<-Array.getElem?_toList,ei];rfl) h1,by simp[h2],λv hv=>?_⟩;grind
def FU (hp:Paired (FR s.heap) ks vs)(hn:0<ks.length)(q:Q (tuples' true) s):wpAny (model prog w) A (keyKind' vs.toArray) Q E s:=by
 obtain⟨fs,h1,h2,h3⟩:=p6 hp;refine kat_kind (T:=.type "int") h1 N9 (λv hv=>?_) P9 q;obtain⟨n,t,rfl⟩:=h3 v hv;exact .now
def Jj (hc:cy ks=true)(hu:A.units<cLine)(hp:Paired (FR s.heap) ks vs):∀(i j:Nat)(C:Bool->Shared->Prop)(s1:Shared),i<ks.length->j<ks.length->s1=s->(∀s',s'=s->C (qX (L5 ks) i j) s')->kas_ask prog w A (tuples' true) vs i j C s1:=by
 intro i j C s1 hi hj e O;subst e;have M:ks.getD i []∈ks:=by simp_all
 have U:ks.getD j []∈ks:=by simp_all
 refine Nl (dN [] _ hp hi) (dN [] _ hp hj) (gb hc M U) hu ?_;have:=O s1 rr;unfold qX L5 at this;rw[yY (uS ⟨_,M,rr⟩)]at this;exact this
end
def RE:D->Option (List At)
 |.tup [.int n,.tup es]=>(lZ es).map (.i n :: ·)
 |_=>none
def lL:LD->Option (List (List At))
 |[]=>some []
 |d::ds=>(RE d).bind λa=>(lL ds).map (a :: ·)
theorem uG:∀ {ds:LD}{ks:List (List At)},lL ds=some ks->ks.length=ds.length
 |[],_,h=>by simp_all[lL]
 |d::ds,_,h=>by
  refine eX h λa h1 h=>?_;refine eB h λr h2 h=>?_;subst h;simp[uG h2]
theorem zj (I:Inv X af σ H s):∀ {ys:LV}{ds:LD}{ks:List (List At)}{its:LU},aL ys its->IsL X.K H ys ds->lL ds=some ks->Paired (FR s.heap) ks its
 |_,_,_,_,.nil,.nil,h=>by cases h;exact .nil
 |_,_,_,_,.cons r b,.cons i c,h=>by
  refine eX h λa h1 h=>?_;refine eB h λt h2 h=>?_;subst h;refine .cons ?_ (zj I b c h2);unfold RE at h1;split at h1
  .rename_i n es;obtain⟨k,O,rfl⟩:=oY h1;cases i with
   |tup hq hl=>
    cases r
    refine cX λG g=>?_;obtain⟨its',M,⟨o,d,hc,m,hd⟩,_⟩:=I.tuple hq;apply g;clear g;cases hl with
    |cons i1 hl=>
     cases hl with
     |cons i2 hl=>
      cases hl
      cases M with
      |cons e M=>
       cases M with
       |cons f M=>
        cases M
        cases i1
        have hk:du [D.tup es]=some [k]:=by show(lZ es).bind _=_;rw[O];rfl
        have U:=qh I (.cons f .nil) (.cons i2 .nil) hk;cases U with
        |cons U _=>exact⟨n,k,_,o,_,m,_,_,rr,rr,d,hc,hd,rr,e,U⟩
  simp_all
def Nm (hu:A.units<cLine):KK X A lL λ_=>true:=⟨uG,λI _ _ _ _ r i e _ hc=>have hp:=zj I r i e;⟨λhn _ _ q=>FU hp hn q,Jj hc hu hp⟩⟩
def Jk (hu:X.A.units+40<cLine):KK X X.A.in1.in1 lL λ_=>true:=Nm N9
@[simp] abbrev B3:FE->(Env->D->Option D)->FE:=xj lL λ_=>true
end DL
namespace DL
open PySem PySem.Spec PyProof.Rows L2
def V9:Nat->(LU->Prop)->Prop
 |0,P=>P []
 |n+1,P=>∀a,V9 n λl=>P (a::l)
theorem Jl:∀n P,V9 n P->∀us:LU,us.length=n->P us
 |0,_,h,[],_=>h
 |n+1,_,h,a::us,e=>Jl n _ (h a) us (Nat.succ.inj e)
section
variable {P:Program}{w:World}{K:Frag}{mg:SV}{base:Heap}
def KC (K:Frag)(mg:SV)(x:Str)(c:D):Prop:=∃u v,mg x=some u/\aE v u/\∀B,Is K B v c
def KD (w:World)(K:Frag)(mg:SV)(x:Str)(c:List (Str×D)):Prop:=∃d,mg x=some (.ref d)/\mS K w.params d c
def kc_of {x:Str}{c:D}{h:Heap}(X:K.In h)(G:h.Ns mainGlobals mg)(k:∃u v,nsIn K mainGlobals x=some (some u)/\aE v u/\∀B,Is K B v c):KC K mg x c:=let ⟨u,v,e,r⟩:=k;⟨u,v,mg_of X G e,r⟩
def kd_of {x:Str}{c:List (Str×D)}{h:Heap}(X:K.In h)(G:h.Ns mainGlobals mg)(k:∃d,nsIn K mainGlobals x=some (some (.ref d))/\mS K w.params d c):KD w K mg x c:=let ⟨d,e,r⟩:=k;⟨d,mg_of X G e,r⟩
def bL.fqL {x:Str}{st:Stmt}{k:Nat}{O:LD->OB}(F:bL K x st)(B:∃h,K.In h/\h.Ns mainGlobals mg)(g:FS)(N:LS)(n:Nat)
  (hb:∀ {f:Addr}{c9:Value}{A:Around}{outer:List PySem.Env}{s:Shared}{H:Hp}{E:XK},N.Nodup->dn k (A.deeper (envOfC x (a9 st) s.z f c9))->(A.deeper (envOfC x (a9 st) s.z f c9)).units+40<cLine->(∀c P,PySem.W.tabIn K x=some (c,P)->c9=.ref c)->yf (pP yo P w K mg base N x (a9 st) f c9 A outer s H E).nox (bq st) g)
  (S:FnScope N (N.take n) (a9 st):=by refine⟨rr,rr,rr,?_,rr,?_,?_⟩<;>decide +kernel)
  (M:∀(kV doc pm:Value)(an:Option Addr)(c9 ct:Value)(us:LU),us.length=(N.take n).length->bindArgs (fnOf x x (df st) (bq st) (a9 st) .none kV doc pm an c9 ct) ⟨us,[]⟩=pure ((N.take n).zip us):=by
   exact λ_ _ _ _ _ _=>Jl _ _ (by(repeat intro);rfl))
  (e:ax g (N.take n).length (N.length - (N.take n).length)=O:=by rfl):
  Fn P w K mg base (k+1) x O:=let ⟨_,X,G⟩:=B;e ▸ F.fnL X G S M λ_ _ _ _ _ _ _ hc U=>hb S.nd U (lU U) hc
end
section
variable {X:Cx}{x:Str}{pos:Pos}
def pgV (i:Nat)(M:X.N.Nodup)(hi:X.N[i]? = some x)(hx:Ly X.env.scope x)(hf:X.fn x=true\/X.env.scope.names.lookup x=some .local):PG X (.Name x pos) (iN i):=Ce M hi hx hf
def VA (N':LS)(hi:JI X tg dW fi)(hc:∀ {C s H fp},JC (iA X N' scope (dD scope.names X.env.cells []) C s H fp) wj fc)(he:∀ {C s H fp},JE (iA X N' scope (dD scope.names X.env.cells []) C s H fp) ya fe)
  (O:Mo X.K nT t9 g) (U:∀ {C s H fp},PG (iA X N' scope (dD scope.names X.env.cells []) C s H fp) tg g)
  (cp:mC X N' scope (dD scope.names X.env.cells []) nT cap)
  (S:CompSc X scope (dD scope.names X.env.cells [])) (M:X.calm=true)
  (hs:∀x,foldedSetIterable dW X.env x=pure x):
  JE X (.ListComp ya [⟨tg,dW,wj,0⟩] scope pos) (jN fi nT cap t9 fc fe):=Mp M S cp hi (λ_ _ _ _=>U) O (λ_ _ _ _=>hc) (λ_ _ _ _=>he) hs
def VB (N':LS)(a:X.N.Nodup)(hi:JI X tg dW fi)(hc:∀ {C s H fp},JC (iA X N' scope (dD scope.names X.env.cells []) C s H fp) wj fc)(he:∀ {C s H fp},JE (iA X N' scope (dD scope.names X.env.cells []) C s H fp) ya fe)
  (O:Mo X.K nT t9 g) (b:∀ {C s H fp},PG (iA X N' scope (dD scope.names X.env.cells []) C s H fp) tg g)
  (cp:mC X N' scope (dD scope.names X.env.cells []) nT cap)
  (U:X.N[i]? = some y) (hy:X.env.kindOf y=some .local)
  (c:swapsWith (.ListComp ya [⟨tg,dW,wj,0⟩] scope pos) (some (.Name y py)) spos.line X.env=pure true)
  (S:CompSc X scope (dD scope.names X.env.cells [])) (M:X.calm=true)
  (hs:∀x,foldedSetIterable dW X.env x=pure x):
  JS X (.Assign [.Name y py] (.ListComp ya [⟨tg,dW,wj,0⟩] scope pos) spos) (eQ i (jN fi nT cap t9 fc fe)):=Mr M a U hy c S cp hi (λ_ _ _ _=>b) O (λ_ _ _ _=>hc) (λ_ _ _ _=>he) hs
def VC (hi:JI X tg dW fi)(M:PG X tg t)(O:L0 X.K t9 t)(hb:yf X U g)(hp:PassesOwn (model X.prog X.w) X.A X.env X.xe)(hc:X.calm=true)
  (hs:∀x,foldedSetIterable dW X.env x=pure x):JS X (.For tg dW U [] pos) (AW fi t9 g):=QX hp hc hi M O hb hs
def VD (hi:PI X tg dW (UG X.K fi))(M:PG X tg t)(O:L0 X.K t9 t)(hb:yf X U g)(hp:PassesOwn (model X.prog X.w) X.A X.env X.xe)(hc:X.calm=true)
  (hs:∀x,foldedSetIterable dW X.env x=pure x):JS X (.For tg dW U [] pos) (ud fi t9 g):=Mz hp hc hi M O hb hs
end
end DL
namespace DL
open PySem PySem.Spec PySem.W PyProof.Rows L2
def rj:entryFor table "dict_itemiterator.__iter__" = some Builtin.«dict_keyiterator.__iter__»:=entryFor_alias (id':="dict_keyiterator.__iter__") w9 rr O9 w9
def xq (he:IsItemIter s.heap it d i n O ok U)(h:Q (.ref it) s):wpAny (model prog w) A (pyIter (.ref it)) Q E s:=by
 have M:s.TypeIs (.ref it) _:=⟨_,he,rr⟩;refine wpAny_pyIter_slot M PySem.F.slot_dict_itemiterator_iter (wpAny_call_entry PySem.F.slot_dict_itemiterator_iter M rj ?_ (PySem.F.args_dict_itemiterator_iter_1 _));exact wY ⟨_,rr,"dict_itemiterator",_,M,PySem.F.slot_dict_itemiterator_next.lookup,h⟩
noncomputable def ZN (a:Addr)(aC:List (dA×V))(ob:Obj):It:=⟨λi H=>H a=some (.dK aC ob)/\i<aC.length,λi H y H'=>∃T k v,y=.ref T/\H T=none/\H'=upd H T (.tup [kV k,v])/\aC[i]? = some (k,v),λi H=>H a=some (.dK aC ob)/\aC.length<=i⟩
def B4 {P:Program}{w:World}{K:Frag}{es:QD}{v:Nat}{pt:Pos}(a it:Addr)(aC:List (dA×V))(ob:Obj){ds:Array DictEntry}{n:Nat}(hd:ob.data=.dict ds n):Turn P w K (.Tuple es v pt) (ZN a aC ob) [it] it (λi h=>∃ok M,IsItemIter h it a i aC.length n ok M) where
 mem:=H9
 obj:=λi h st b hb=>by
  grind
 keep:=λi h h' st k=>let ⟨ok,M,e⟩:=st;⟨ok,M,k it H9 _ e⟩
 item:=by
  intro X c hw d hc i af s σ H E I hf st f;subst c hw d;refine cX λG W=>?_;obtain⟨ok,M,he⟩:=st;obtain⟨g,O⟩:=f;obtain⟨vs,r,m⟩:=rg I.hok g hd;have hl:=(Paired.length r).symm;obtain⟨u,hu,ru⟩:=r.get (k:=aC[i].1) (x:=aC[i].2) (vU O);apply W;clear W;have fresh:=I.hok.fresh (vT _);have j:=vS (vX he);refine wpAny_pyNext_items_item (by rw[hl];exact he) m hu λl h' U p y hsz hk=>?_;rw[hl]at p;refine⟨_,rr,wpAny_letOwnedTupleGo_items p λh2 A s2=>?_⟩;have t:Heap.SameBut it h' h2:=s2;have B:∀b o,b∉[it]->s.heap.get? b=some o->h2.get? b=some o:=λb o hb q=>t.extBut _ _ (λz=>hb (by simp[z])) (hk b o (λz=>hb (by simp[z])) q);have new:bg X.prog X.w (upd H s.z (.tup [kV aC[i].1,aC[i].2])) h2 s.z (.tup _):=⟨by show 2<=sizeLine;decide,[l,u],.cons (V4 U) (.cons ru .nil),⟨_,t.extBut _ _ j.symm y,rr,_,rr⟩⟩;refine⟨.ref s.z,upd H s.z _,C5 (s:=s) (t':=s.toks) I hf B (vT _) new,rr,⟨_,aC[i].1,aC[i].2,rr,fresh,rr,vU O⟩,⟨_,_,A⟩,λb hb=>?_⟩;have C:b≠s.z:=by
   simp_all
  rw[a7 C];exact(hf b hb).1
 done:=by
  intro X c hw d hc i af s σ H E I hf st f;subst c hw d;obtain⟨ok,M,he⟩:=st;obtain⟨g,D⟩:=f;obtain⟨vs,r,m⟩:=rg I.hok g hd;have hl:=(Paired.length r).symm;exact wpAny_pyNext_items_end (I.ok.hd hc) (by rw[hl];exact he) m (getElem?_eq_none N9) λh' hk=>⟨rr,lb (t':=s.toks) I hf λb o hb q=>hk b o (λz=>hb (by simp[z])) q⟩
 self:=λ_ _ _ _ _ st h=>let ⟨_,_,he⟩:=st;xq he h
section
variable {X:Cx}{es:QD}{kt:Nat}{pt:Pos}{e:Expr}
def ZO (O:TE):TI:=λσ H R=>O σ H λx M=>∃a aC ob,x=.ref a/\M a=some (.dK aC ob)/\R (ZN a aC ob) M
def Jm {o:Expr}{f:TE}{bV b9:Pos}(j:PE X o f)(M:attributeBase o "items" X.env (eval o X.env)=eval o X.env:=by rfl)(O:(bV.endLine == b9.line)=true:=by rfl):PI X (.Tuple es kt pt) (.Call (.Attribute o "items" bV) [] [] b9) (ZO f):=by
 intro af s σ H R I h;refine wpAny_Call_method0_late M O (bG (j _ s σ H _ I h) λv s1 ⟨x,g,U,i,a,aC,ob,ex,c,q⟩=>?_);subst ex;obtain⟨h1,h2⟩:=wA U i (.inr (.inr (.inl ⟨rr,.inl ⟨aC,ob,c⟩⟩)));cases i
 obtain⟨es,k,hd⟩:=xo U.hok c;obtain⟨vs,r,m⟩:=rg U.hok c hd;have hl:=(Paired.length r).symm;refine⟨"dict","dict.items",plainAttrs_dict,PySem.F.slot_dict_items,PySem.F.type_dict_items,h1,h2,Calls.callWith_builtin rr (PySem.evalArgs_none ?_)⟩;refine call_meetsIn PySem.F.slot_dict_items h1 PySem.F.entry_dict_items (PySem.F.args_dict_items_1 _) (meets_dict_items _ a (qE U.hok c).2.1) ⟨⟨vs,m.dictOf⟩,?_⟩;have d:Inv X af σ g { s1 with heap:=s1.heap.push { cls:=.type "dict_items",data:=.fields #[.ref a] } }:=U.kept λb o e=>vZ _ e;refine wpAny_pyIter_items ⟨_,vY _ rr,rr,rr⟩ (m.keep λb o e=>vZ _ e) ?_;rw[hl];refine⟨(s1.heap.push _).objs.size,[(s1.heap.push _).objs.size],_,_,g,rr,d.kept λb o e=>vZ _ e,B4 a _ aC ob hd,⟨_,_,vY _ rr⟩,λb hb=>?_,q⟩;have e:b=(s1.heap.push { cls:=.type "dict_items",data:=.fields #[.ref a] }).objs.size:=by simpa using hb
 subst e;exact d.fpOk (vT _) (d.hok.fresh (vT _))
noncomputable def mf (ks:LK)(ds:LD):LD:=(ks.zip ds).map λx=>.tup [kD x.1,x.2]
def Jn {K:Frag}{B:Hp}{a:Addr}{ks:LK}{vs:LV}{ds:LD}{ob:Obj}(h:B a=some (.dK (ks.zip vs) ob))(hl:ks.length=vs.length)(hs:IsL K B vs ds):mL K (ZN a (ks.zip vs) ob) B (mf ks ds):=by
 intro i H s;have hz:(ks.zip vs).length=vs.length:=by rw[length_zip];lia
 have hn:=hs.length;refine⟨λd ed=>?_,λO=>⟨s _ _ h,by simp_all[mf]⟩⟩;unfold mf at ed;rw[vA]at ed;obtain⟨⟨k0,d0⟩,ek,rfl⟩:=oY ed;obtain⟨c,e2⟩:=getElem?_zip_eq_some.mp ek;obtain⟨v,ev,iv⟩:=hs.get e2;have M:=(vV ev).1;refine⟨⟨s _ _ h,by rw[hz];exact M⟩,λy j hy=>?_⟩;obtain⟨T,k,f,rfl,g,rfl,e⟩:=hy;obtain⟨g1,U⟩:=getElem?_zip_eq_some.mp e;rw[c]at g1;cases g1;rw[ev]at U;cases U;have b:=Ext.laid (o:=.tup [kV k0,f]) s g;exact⟨_,b,.tup (hV.of au) (.cons (V6 _) (.cons (iv.mono b.bn) .nil))⟩
@[simp] def CO (f:FE):FA:=λρ=>(f ρ).bind λx=>match x.1 with|.dk ks ds=>some (mf ks ds)|_=>none
def Jo (h:JE X e f)(M:attributeBase e "items" X.env (eval e X.env)=eval e X.env)(O:(bV.endLine == b9.line)=true):JI X (.Tuple es kt pt) (.Call (.Attribute e "items" bV) [] [] b9) (CO f):=by
 intro af s σ H R I q;refine cX λG K=>?_;obtain⟨B,ρ,ds,b,r,c,q⟩:=q;obtain⟨⟨xd,g⟩,ex,es⟩:=oX c;apply K;cases xd<;>try (cases es;done)
 cases es
 refine Jm h M O _ s σ H R I ⟨B,ρ,_,_,b,r,ex,λv d N1 U i1 _=>?_⟩;cases i1 with
 |@dk a ks vs ds ob hd hl hs=>exact⟨a,_,ob,rr,U.nh _ _ hd,q _ d N1 U (Jn hd hl hs)⟩
end
section
variable {K:Frag}{E:Ends}{σ:St}{H:Hp}
def rq (i:Nat)(O U:FE):FS:=λρ=>match ρ[i]? with
 |some (some (.dk ks vs,true))=>(U (iP ρ)).bind λv=>(O ρ).bind λk=>(lK k.1).bind λM=>if ks.length<sizeLine then some (.nx (ρ.set i (some (.dk (dv ks M) (cz ks vs M v.1),true))))else none
 |_=>none
def FV (q:mK K (rq i fk fv) E σ H):Co (GQ i) (tD K fk) (tD K fv) E σ H:=by
 refine cX λG g=>?_;obtain⟨B0,H0,ρ,r,⟨N,s⟩,e,p⟩:=q;apply g;clear g;unfold rq at e;split at e
 .rename_i ks ds ei;refine eX e λv ev e=>?_;refine eX e λk ek e=>?_;refine eX e λO hk e=>?_;split at e
  .cases e
   refine⟨dB N _,iP ρ,v.1,v.2,br.trans s.ext.nh,s.repH,ev,λd f N1 U i1 _=>?_⟩;obtain⟨s1,c⟩:=s.growH U;obtain⟨a,o,h1,h2,h3,h4⟩:=s1.ow i _ ei;refine⟨.ref a,h1,_,ρ,k.1,k.2,s1.ext.nh,s1.rep,ek,λg H2 N2 M i2 _=>?_⟩;have s2:=s1.grow M;have hv:=uB i2 hk;subst hv;obtain⟨h,o',k1,k2,k3,k4⟩:=s2.ow i _ ei;rw[h1]at k1;cases k1
   cases k4 with
   |@dk ks vs ds hl h5 ob=>
    refine⟨a,rr,.inl ⟨_,O,_,s2.ext.nh _ _ k2,rr,?_,λb=>?_⟩⟩
    .rw[length_zip];lia
    .rw[qj hl];exact p σ _ ⟨_,s2.writeB ei h1 (.dk (nj hl _ _) (h5.put ((i1.mono c).mono (dC λa o e q=>⟨M.bn a o e,q⟩))))⟩
  .cases e
 simp_all
end
section
variable {X:Cx}{pos:Pos}{e k:Expr}
def Jp (hu:X.A.units+1<cLine)(hv:JE X e fv)(hk:JE X k fk)(U:X.N[i]? = some y)(M:GP X.env.scope y)(hd:bf y)
  (O:jI y) (hs:swapsWith e (some (.Subscript (.Name y py) k pt)) pos.line X.env=pure false):JS X (.Assign [.Subscript (.Name y py) k pt] e pos) (rq i fk fv):=
 PS.to (wF hu (jg U M hd O) hk hv hs) λ_ _ _ q=>FV q
end
section
variable {prog:Program}{w:World}{A:Around}{E:QV}{s:Shared}
theorem CP:∀(vs:LU)(ns:LI),vs.length=ns.length->(∀(i:Nat)(v:Value),vs[i]? = some v->∃(m:Int)(t:Tok),ns[i]? = some m/\v=Value.int m t)->IntsAre vs ns
 |[],[],_,_=>.nil
 |v::vs,n::ns,h,k=>by
  obtain⟨m,t,e,rfl⟩:=k 0 v rr;cases (show some n=some m from e)
  exact .cons n t (CP vs ns (by simpa using h) λi v hv=>k (i+1) v hv)
def zk (hh:A.handled=none)(lo:(a == sysModules)=false)(hm:s.heap.DictAt (cr prog w) a aC ep)(hk:aC.map (·.1)=ns.map .inl)(j:ns.length<64)
  (l:∀(h1 h':Heap)(tk:Nat)(b:Addr)(out:AV)(n:Nat)(M:LI),(∀c u,s.heap.get? c=some u->h1.get? c=some u)->(∀c u,h1.get? c=some u->h'.get? c=some u)->h1.objs.size<=b->h'.get? b=some (seqObj "list" out n) ->
   IntsAre out.toList M->M.Perm ns->M.Pairwise (·<=·)->Q (.ref b) { s with heap:=h',toks:=tk }):
  wpAny (model prog w) A (call (.builtin "sorted") [.ref a]) Q E s:=by
 refine Calls.call_function_entry kind_sorted plain_sorted entry_sorted (args_sorted1 _) ?_;refine wX (wY ?_);have e:=by have:=congrArg List.length hk;simpa using this
 refine wX (kdu_collect (A:=A.in1) (kdl_dict lo) (by exact hh) hm (by rw[sizeLine_eq];lia) λh1 tk U d O=>?_);have f:U.toList.length=ns.length:=by rw[vG,O.1,e]
 have o:=CP U.toList ns f λi v hv=>by
  obtain⟨k,x,p,e2⟩:=O.2 i v (by simpa using hv);have h:(aC.map (·.1))[i]? = some k:=by rw[vA,p];rfl
  rw[hk,vA]at h;obtain⟨m,r,rfl⟩:=oY h;obtain⟨t,rfl⟩:=Value.isInt_shape (k:=m) (v:=v) e2;exact⟨m,t,r,rr⟩
 refine wX (wpAny_newList ?_ (by rw[f,sizeLine_eq];lia));have g:(h1.push (seqObj "list" U.toList.toArray 0)).get? h1.objs.size=some _:=vY _ rr;refine wX (wpAny_holding (wpAny_call_entry slot_list_sort ⟨_,g,rr⟩ entry_list_sort (list_sort_tree g o (by rw[f];exact j) λout M y z B=>⟨_,rr,?_⟩) (args_list_sort _)));obtain⟨n,he⟩:=sortedHeap_at (out:=out) g;refine wY ⟨_,rr,l h1 _ _ _ out n M d (λb u q=>?_) (vT _) he y z B⟩;have hl:=vX q;rw[sortedHeap_old (vS hl) (by simp_all[lt_succ_of_lt])];exact vZ _ q
end
noncomputable def uH:LK->Option LI
 |[]=>some []
 |.inl n::ks=>(uH ks).map (n :: ·)
 |.inr _::_=>none
theorem zm:∀ {ks:LK}{ns:LI},uH ks=some ns->ks=ns.map .inl
 |[],_,h=>by cases h;rfl
 |.inl n::ks,_,h=>by
  obtain⟨r,h1,rfl⟩:=oY h;rw[zm h1];rfl
 |.inr _::_,_,h=>by cases h
def Nn {aC:List (dA×V)}{vs:List (dA×Value)}(r:KV aC vs):vs.map (·.1)=aC.map (·.1):=by
 induction r with
 |nil=>rfl
 |cons h t ih=>simp_all
@[simp] def Jq:LD->OB
 |[.dk ks _]=>(uH ks).bind λns=>if ns.length<64 then some (.lst ((p0 ns).map .int),true)else none
 |_=>none
section
variable {X:Cx}
def FW (hc:X.calm=true):b7 X (.builtin "sorted") (A6 X.K Jq):=by
 intro af s σ H xs us Q I r h;refine cX λG W=>?_;obtain⟨B,dl,d,bb,j,i,O,q⟩:=h;apply W;clear W;cases i with
 |nil=>simp at O
 |cons i1 i2=>
  cases i2 with
  |cons _ _=>simp_all
  |nil=>
   cases i1 with
   |@dk a ks vs ds ob hd hl hs=>
    obtain⟨u,rfl,l⟩:=gh r;cases l
    refine eX O λns en O=>?_;split at O
    .rename_i U;cases O
     have c:=j _ _ hd;obtain⟨es,A,f⟩:=xo I.hok c;obtain⟨p,t,m⟩:=rg I.hok c f;have g:p.map (·.1)=ns.map .inl:=by rw[Nn t,List.map_fst_zip N9,zm en]
     refine zk (I.ok.hd hc) (qE I.hok c).2.1 m g U λh1 h' tk b out n v k1 k2 hb he x M y=>?_;have e:=zc M y;subst e;have k:Inv X _ σ H { s with heap:=h1,toks:=tk }:=uu I k1 rr rr;have hf:=k.hok.fresh hb;have z:=Ext.laid (o:=.lst ((p0 ns).map V.int)) j hf;exact⟨.ref b,_,k.laid k2 hb (show bg _ X.w _ h' _ (.lst _)from ⟨by rw[vI];unfold p0;rw[(aH _ ns).length_eq,sizeLine_eq];lia,out.toList,n,ga x,he⟩),rr,q _ _ _ z (.lst (eN.of au) (nc _)) λ_=>⟨_,_,_,rr,rr,hf,au,nc _⟩⟩
    simp_all
   |_=>simp at O
def RF (hu:X.A.units+1<cLine)(hi:JE X i fi)(b:JE X o fo)(hm:behindInMarks .In o=false):JE X (.Compare i [.In] [o] pos) (f2 inK fi fo):=by
 refine PE.to (PP (Qz hu hi b) hm) λσ H Q q=>?_;refine cX λG K=>?_;obtain⟨B,ρ,d,bb,c,r,M,q⟩:=q;refine eX M λy e M=>?_;refine eX M λx ex M=>?_;apply K;refine⟨B,ρ,y.1,y.2,c,r,e,λf g N1 O i2 _=>⟨N1,ρ,x.1,x.2,O.nh,r.mono O.bn,ex,λv H2 N2 U i1 j=>?_⟩⟩;obtain⟨xd,l⟩:=x;cases i1 with
 |@dk a ks vs ds ob h hl hs=>
  refine eB M λk hk M=>?_;cases M
  have hv:=uB i2 hk;subst hv;refine⟨a,lF _ k,rr,.inl ⟨_,k,_,.inl (U.nh _ _ h),rr,rr⟩,?_⟩;rw[FI hl hs];exact(q.into (O.trans U)).one U.nh (.bl _)
 |_=>simp at M
end
end DL
namespace DL
open PySem PySem.Spec PyProof.Rows L2
@[simp] abbrev fV (i:Nat)(g:FA):FA:=ak (am i) g
@[simp] abbrev fI (n:Int):FE:=fC (.int n)
@[simp] abbrev fS (s:PySem.Str):FE:=fC (.str s)
def B5:bootBuiltins "reversed" = some (.type "reversed"):=O9
@[simp] def Jr (f g:FE):FE:=λρ=>(f ρ).bind λx=>(g ρ).bind λy=>match y with
 | (.lst ds,true)=>if aQ x.1=true then some (.tup [x.1,.lst ds],true)else none
 |_=>none
def No {X:Cx}{e U:Expr}{b}(he:JE X e f)(k:JE X U g)(hs:starEach [e,U] X.env=(false,eval e X.env)::starEach [U] X.env)(l:starEach [U] X.env=(false,eval U X.env)::starEach [] X.env):JE X (.Tuple [e,U] b pos) (Jr f g):=by
 refine PE.to (wu (de he (de k fH l) hs)) λσ H Q q=>?_;refine cX λG W=>?_;obtain⟨B,ρ,d',bb,m,r,M,q⟩:=q;refine eX M λx ex M=>?_;refine eX M λy n M=>?_;apply W;clear W;split at M
 .rename_i ds;split at M
  .rename_i hx;cases M
   refine⟨B,ρ,x.1,x.2,m,r,ex,λv s N1 b i1 _=>⟨N1,ρ,_,_,b.nh,r.mono b.bn,n,λw H2 N2 d i2 f2=>⟨(by decide:2<=sizeLine),λt p=>?_⟩⟩⟩;obtain⟨a,vs,u,rfl,z,h3,h4,h5⟩:=f2 rr;cases z
   have c:=Ext.laid (o:=HO.tup [v,.ref a]) d.nh p;have h:=h5.mono c.bn;have n4:=c.bn _ _ h4;have i:IsL X.K (upd N2 t (.tup [v,.ref a])) [v,.ref a] [x.1,.lst ds]:=.cons (i1.mono (d.bn.trans c.bn)) (.cons (.lst (eN.of n4) h) .nil);refine q _ _ _ (b.trans (d.trans c)) (.tup (hV.of au) i) λ_=>⟨t,_,rr,hV.of au,i,λj es O=>?_⟩;match j,O with
   |0,O=>simp at O;rw[O]at hx;simp at hx
   |1,O=>simp at O;subst O;exact⟨a,vs,rr,b.hh.free h3,n4,h⟩
  simp_all
 simp_all
end DL
namespace L2
open PySem PySem.Spec PyProof.Rows
noncomputable def ZP (K:Frag)(a:Addr)(xs:List V):It:=⟨λi H=>eN K H a xs/\i<xs.length,λi H v H'=>H'=H/\xs[xs.length - 1 - i]? = some v,λi H=>eN K H a xs/\xs.length<=i⟩
def Js {P:Program}{w:World}{K:Frag}{tg:Expr}(a it:Addr)(xs:List V):Turn P w K tg (ZP K a xs) [it] it (λi h=>i<=xs.length/\h.IsRevIter it a ((xs.length:Int) - 1 - (i:Int))) where
 mem:=H9
 obj:=λi h st b hb=>by
  have e:b=it:=by simpa using hb
  obtain⟨_,o,e,c,d⟩:=st;simp_all
 keep:=λi h h' st k=>⟨st.1,st.2.at λo e=>k it H9 o e⟩
 item:=by
  intro X j hw l hc i af s σ H E I hf st M;subst j hw l;obtain⟨hq,hi⟩:=M;obtain⟨x,hx⟩:∃x,xs[xs.length - 1 - i]? = some x:=⟨_,vU N9⟩;refine cX λG W=>?_;refine I.lisE hq λits m p hz=>?_;obtain⟨u,hu,ru⟩:=m.get hx;obtain⟨O,f1,f2,U,f,g⟩:=hf it H9;apply W;clear W;have wl:=st.2;rw[show(xs.length:Int) - 1 - (i:Int)=((xs.length - 1 - i:Nat):Int) by lia]at wl;refine wpAny_pyNext_rev_item wl p.isList (by simpa using hu) λh' n q=>?_;have r:=I.turned (t':=s.toks) (λb o hb e=>(q.2 b hb).trans e) O f1 U f g;obtain⟨o,e,c,d⟩:=id n;refine⟨u,rr,q8 e c d P9 ⟨x,H,r,ru,⟨rr,hx⟩,⟨N9,?_⟩,λb hb=>(hf b hb).1⟩⟩;grind
 done:=by
  intro X j hw l hc i af s σ H E I hf st M;obtain⟨hq,hx⟩:=M;obtain⟨O,f1,f2,U,f,g⟩:=hf it H9;have wl:=st.2;rw[show(xs.length:Int) - 1 - (i:Int) = -1 by lia]at wl;exact wpAny_pyNext_rev_end (I.ok.hd hc) wl λh' t=>⟨rr,I.turned (λb o hb e=>t b o hb e) O f1 U f g⟩
 self:=λ_ _ _ _ _ st h=>wpAny_pyIter_revIter st.2 h
end L2
namespace DL
open PySem PySem.Spec PyProof.Rows L2
@[simp] noncomputable def Np (fa:FE):FA:=λρ=>(fa ρ).bind λx=>match x.1 with
 |.lst ds=>some ds.reverse
 |_=>none
def RG {K:Frag}{N:Hp}{l:Addr}{vs:LV}{ds:LD}(h1:eN K N l vs)(i1:IsL K N vs ds):mL K (ZP K l vs) N ds.reverse:=by
 intro i H' M;have n1:=i1.length;refine⟨λd ed=>?_,λhl=>⟨M.seq h1,by simp_all⟩⟩;have hi:=by have:=(vV ed).1;rwa [List.length_reverse]at this
 rw[List.getElem?_reverse hi]at ed;obtain⟨v,ev,iv⟩:=i1.get ed;refine⟨⟨M.seq h1,N9⟩,λr H2 hy=>?_⟩;obtain⟨rfl,e⟩:=hy;rw[show vs.length - 1 - i=ds.length - 1 - i by lia,ev]at e;cases e
 exact⟨N,.refl M,iv⟩
section
variable {X:Cx}{a e:Expr}{pos p:Pos}
def RH {fa:FE}(hm:X.mg "reversed" = none)(ha:JE X a fa)(g:Gl X "reversed")(hs:cL a X.env):
  JI X tg (.Call (.Name "reversed" p) [a] [] pos) (Np fa):=by
 intro af s σ H R I q;refine Call_ (fG I g hm B5 (PyProof.Rows.callWith_type1 (bG (fU ha lR hs pos af s σ H (λvs M=>∃(l:Addr)(us:LV),vs=[.ref l]/\eN X.K M l us/\R (ZP X.K l us) M) I ?_) λus s1 ⟨vs,M,O,i,j⟩=>?_) hs rr))
 .refine cX λG W=>?_;obtain⟨B,ρ,ds,k,r,U,q⟩:=q;obtain⟨⟨xd,v⟩,ex,U⟩:=oX U;apply W;cases xd<;>try (cases U;done)
  rename_i c;cases U
  refine⟨B,ρ,[.lst c],k,r,by simp[ak,a0,ex],λvs M N1 d i1=>?_⟩;cases i1 with
  |cons m n=>
   cases n
   cases m
   rename_i l ws h m1;exact⟨l,ws,rr,d.nh.seq h,q _ M N1 d (RG h m1)⟩
 .obtain⟨l,ws,rfl,h1,q⟩:=j;obtain⟨w,rfl,t⟩:=i.one;cases t
  refine O.lisE h1 λits f u x=>?_;refine call_reversed_list u.isList ?_;have wl:Heap.IsRevIter (s1.heap.push (revObj l _)) s1.heap.objs.size l ((its.toArray.size:Int) - 1):=⟨_,vY _ rr,rr,rr⟩;refine wpAny_pyIter_revIter wl ⟨s1.heap.objs.size,[s1.heap.objs.size],_,_,M,rr,O.kept (t':=s1.toks) λb o e=>vZ _ e,Js l _ ws,⟨uN _,?_⟩,λb hb=>?_,q⟩
  .rw[vH,<-f.length]at wl;rw[show(ws.length:Int) - 1 - ((0:Nat):Int)=(ws.length:Int) - 1 by lia];rw[vH,<-f.length];exact wl
  .have e:=by simpa using hb
   subst e;exact O.fpOk (vT _) (O.hok.fresh (vT _))
end
def Nq (K:Frag)(x:Str)(st:Stmt):Prop:=∃(f T:Addr)(oc:Value)(od an:Option Addr)(kV doc pm c9 ct:Value)(l7:Array (Option Value))(M:Obj)(n:Nat),
 K.lookup f=some ⟨oc,od,.func (fnOf x x (df st) (bq st) (a9 st) (.ref T) kV doc pm an c9 ct),l7⟩/\PySem.W.codeIn K c9 x=true/\PySem.W.keepIn K (.ref f)=true/\nsIn K mainGlobals x=some (some (.ref f))/\K.lookup T=some M/\M.data=.seq #[.none] n
def defD_mk {K:Frag}{x:Str}{st:Stmt}{f T:Addr}{oc O:Value}{od an U:Option Addr}{l7 M:Array (Option Value)}{kV doc pm c9 ct:Value}{n:Nat}(a:nsIn K mainGlobals x=some (some (.ref f)))
  (l:K.lookup f=some ⟨oc,od,.func (fnOf x x (df st) (bq st) (a9 st) (.ref T) kV doc pm an c9 ct),l7⟩) (c:PySem.W.codeIn K c9 x=true) (k:PySem.W.keepIn K (.ref f)=true) (t:K.lookup T=some ⟨O,U,.seq #[.none] n,M⟩):Nq K x st:=⟨f,T,oc,od,an,kV,doc,pm,c9,ct,l7,_,n,l,c,k,a,t,rr⟩
structure FnD (P:Program)(w:World)(K:Frag)(mg:Str->Option Value)(base:Heap)(k:Nat)(x:Str)(f:List D->OB):Prop where
 ex:∃(ad:Addr)(fd:FuncData)(ps:List Str),t8 P w K mg base yo k ad fd ps (HL K f)/\mg x=some (.ref ad)/\PySem.W.keepIn K (.ref ad)=true/\pi K fd ps []/\pi K fd ps [.none]
@[simp] noncomputable def ZQ (op:LD->OB)(fa:FA):FE:=λρ=>(fa ρ).bind λds=>op (ds++[.non])
section
variable {X:Cx}{e:Expr}{es:QD}{p pos:Pos}
def VE (F:FnD X.prog X.w X.K X.mg X.base k x f)(a:dn j X.A)(ha:JA X (e::es) fa)(hj:k<=j)(c:Gl X x)
  (M:bf x) (he:cQ e es X.env) (O:j9 pos es X.env):
  JE X (.Call (.Name x p) (e::es) [] pos) (ZQ f fa):=by
 refine cX λG W=>?_;obtain⟨ad,fd,ps,g,hm,hk,_,hb⟩:=F.ex;apply W;refine PE.to (Ch g (a.mono hj) c hm hk hb (.cons (show L2.aE V.non _ from rr) .nil) OO ha M he O) λσ H Q q=>?_;refine cX λG W=>?_;obtain⟨B,ρ,d,b,s,r,e,q⟩:=q;refine eX e λds ex e=>?_;apply W;exact⟨B,ρ,ds,s,r,ex,λvs h N1 U i1=>⟨N1,ds++[.non],d,b,⟨U.nh,r.tb.mono U.bn⟩,i1.append (.cons .non .nil),e,q.into U⟩⟩
end
section
variable {P:Program}{w:World}{K:Frag}{mg:SV}{base:Heap}
def Nq.fqD {x:Str}{st:Stmt}{k:Nat}{p:LD->OB}(F:Nq K x st)(B:∃h,K.In h/\h.Ns mainGlobals mg)(g:FS)(N:LS)(n:Nat)
  (hb:∀ {f:Addr}{c9:Value}{A:Around}{outer:List PySem.Env}{s:Shared}{H:Hp}{E:XK},N.Nodup->dn k (A.deeper (envOfC x (a9 st) s.z f c9))->(A.deeper (envOfC x (a9 st) s.z f c9)).units+40<cLine->yf (pP yo P w K mg base N x (a9 st) f c9 A outer s H E).nox (bq st) g)
  (S:FnScope N (N.take n) (a9 st):=by refine⟨rr,rr,rr,?_,rr,?_,?_⟩<;>decide +kernel)
  (U:∀(T:Addr)(kV doc pm:Value)(an:Option Addr)(c9 ct:Value)(us:LU),us.length=(N.take n).length->∃O,bindArgs (fnOf x x (df st) (bq st) (a9 st) (.ref T) kV doc pm an c9 ct) ⟨us,[]⟩=seqItems? (.ref T)>>=O/\O (some #[.none])=pure ((N.take n).zip us):=by
   exact λ_ _ _ _ _ _ _=>Jl _ _ (by(repeat intro);exact⟨_,rr,rr⟩))
  (hb1:∀(T:Addr)(kV doc pm:Value)(an:Option Addr)(c9 ct:Value)(us:LU),us.length=(N.take n).length - 1->∃O,bindArgs (fnOf x x (df st) (bq st) (a9 st) (.ref T) kV doc pm an c9 ct) ⟨us,[]⟩=seqItems? (.ref T)>>=O/\O (some #[.none])=pure ((N.take n).zip (us++[.none])):=by
   exact λ_ _ _ _ _ _ _=>Jl _ _ (by(repeat intro);exact⟨_,rr,rr⟩))
  (e:ax g (N.take n).length (N.length - (N.take n).length)=p:=by rfl):FnD P w K mg base (k+1) x p:=by
 subst e;refine cX λW Y=>?_;obtain⟨h,X,G⟩:=B;obtain⟨f,T,oc,od,an,kV,doc,pm,c9,ct,l7,I,m,t,u,kp,a,lt,dt⟩:=F;apply Y;clear Y;have len:∀vs H Q E,HL K (ax g _ (N.length - (N.take n).length)) vs H Q E->vs.length=(N.take n).length:=λvs H Q E h=>by
  refine cX λW Y=>?_;obtain⟨B,ds,d,b,c,i,e,q⟩:=h;apply Y;clear Y;unfold ax at e;split at e
  .rename_i hl;rw[i.length];exact hl
  simp_all
 refine⟨f,_,N.take n,Hg t u S len λA outer s H vs Q E r h=>⟨_,tE.nox (hb S.nd r (lU r)),?_⟩,mg_of X G a,kp,λs us j hl=>?_,λs us j hl=>?_⟩
 .have M:=len vs H Q E h;refine cX λW Y=>?_;obtain⟨B,ds,d,b,c,i,e,q⟩:=h;apply Y;clear Y;unfold ax at e;rw[if_pos (by rw[<-i.length];exact M)]at e;have l:=qJ (N:=N) c.1 c.2 i;rw[M]at l;split at e
  .rename_i d' b' o;cases e
   exact⟨B,H,_,_,⟨B,l⟩,o,λv H' N' y z C=>q v H' N' y z C⟩
  .rename_i ρ' o;cases e
   exact⟨B,H,_,_,⟨B,l⟩,o,λD H' ⟨N',s'⟩=>q _ _ _ s'.ext .non H9⟩
  simp_all
 .rw[uQ]at hl |-;obtain⟨O,h1,h2⟩:=U T kV doc pm an c9 ct us hl;exact .of_defaults rr (j _ _ lt) dt h1 h2
 .rw[uZ,length_singleton]at hl;obtain⟨O,h1,h2⟩:=hb1 T kV doc pm an c9 ct us N9;exact .of_defaults rr (j _ _ lt) dt h1 h2
end
end DL
namespace DL
open PySem PySem.Spec PySem.W PyProof.Rows L2
def Pg (ns:LI):Prop:=∀i∈ns,Builtin.Int.intBits i<=1048576
abbrev VF:D->D->OB:=AY (λi j=>decide (Builtin.Int.intBits i<=2097152/\Builtin.Int.intBits j<=2097152)) λi j=>.int (i*j)
def RI {X:Cx}:cJ X (binaryOp .Mult) (rD X.K VF):=mO (Uu λ_ _ _ _ _ _ _ hc q=>mul_int q (IntMulOk.of_le hc.1 hc.2 P9)) (λ_ _ h=>ET h) λ_ _ _=>.int _
def RJ {ns:LI}(h:WData.layableAll [WData.list (ns.map WData.int)]=true):Pg ns:=λi hi=>by
 have h1:=layableW_arg h _ (mem_singleton.mpr rr);have h2:=layableW_item h1 _ (uS ⟨i,hi,rr⟩);simp_all[WData.layable,WData.weight,Builtin.Int.intBits]
def walkB {l:PySem.W.OpenLaw}{q:Program}{O:LS}{I:SV->Heap->Prop}{D:World->Heap->Prop}{d:DefRec}{K:Params->Frag}{k:Nat}{x:Str}{f:LD->OB}{L:List (Str×Option (Addr×Addr))}(hn:l.most=some 63)(J:d.params.defaults=[])(Q:dn k callerA)
  (R:∀(w:World)(h:Heap),D w h->(K w.params).In h) (n:∀w:World,qy (K w.params) L) (S:(L.all λp=>p.2.isNone || ((recsOf q).find? λe=>e.name == p.1).isSome)=true)
  (F:∀(w:World)(mg:SV)(fa:Addr)(h:Heap),(K w.params).In h->h.Ns mainGlobals mg->mg d.name=some (.ref fa) ->
   ∃fd:FuncData,(∀(s:Shared)(u:Value),BindsTo s fd ⟨[u],[]⟩ [(x,u)])/\∀base:Heap,(K w.params).In base->base.Ns mainGlobals mg->t8 l.prog w (K w.params) mg base yo k fa fd [x] (HL (K w.params) f))
  (V:∀ns:LI,ns.length<=63->Pg ns->∃b,f [.lst (ns.map .int)]=some (.bl true,b)):PySem.W.WalkO q O I D l.row.toRowW d [] (λf vs=>PySem.call f vs):=by
 intro w s₀ E mg mb G Y fa o pm cd doc dV kV ho hd A2 X t Z args vals as i j hrd y hlo;obtain⟨a,vs,ns,rfl,rfl,z,U,M⟩:=Att.Fh hn i y;have A:=R w _ Y;obtain⟨fd,hb,hF⟩:=F w mg fa _ A G.T.g t;refine enter_call (codeAny_mono (Fu (wQ L) (λb u e=>?_) (n w).none A G.T.g G.T.b G.T.builtins G.T.nolimit G.T.bmain Z z U (vR M P9) Q hF hb λH hH hS=>?_) λr s' hq=>?_)
 .obtain⟨p,hp,e2⟩:=mem_filterMap.mp (jS e);obtain⟨⟨c,P⟩,e3,e4⟩:=oY e2;cases e4
  have m:=all_eq_true.mp S p hp;rw[e3]at m;obtain⟨r,B⟩:=uU m;have C:PySem.W.tabIn (K w.params) p.1=some (c,P):=by
   rw[(n w).names]at hp;simp_all<;>lia
  obtain⟨h1,h2⟩:=PySem.W.tab_of G.T A B C;exact⟨h2,(h1.tab h2).isCodeTable⟩
 .obtain⟨b,e⟩:=V ns M (RJ j);exact⟨H,_,_,b,⟨.refl H,(n w).tb hH⟩,.cons (.lst hS (.flat rr)) .nil,e,λv H' N x' i' _=>by cases i';rfl⟩
 .obtain⟨rfl,h2,h3,h4⟩:=hq;exact⟨.inl ⟨.bool _,.bool _,[],rr,λ_=>rr,.bool _,Att.Fi l _,λ_=>⟨List.Pairwise.nil,λ_ hm=>(nomatch hm)⟩⟩,h2,h3,h4⟩
def zn {prog:Program}{w:World}{A:Around}{E:QV}{s:Shared}{r:Addr}{j:Int}{t u v:Tok}{R:LU->Shared->Prop}(hh:A.handled=none)(d:IsRange s.heap r 0 j 1 t u v)(h0:0<=j)(h1:j<64)
  (h:∀(h':Heap)(tk:Nat)(M:AV),(∀b o,s.heap.get? b=some o->h'.get? b=some o)->ItemsOf (λi v=>∃t,v=.int (0+i*1) t) M j.toNat->R M.toList { s with heap:=h',toks:=tk }):
  wpAny (model prog w) A (collect (.ref r)) R E s:=by
 unfold collect;refine wX (wpAny_runValue (codeAny_builtin entry_proto_collect' ?_));refine wX (m:=newList []) (wpAny_newObj_type (wY ⟨plainId_quiet PySem.F.plain_list_iadd _,codeAny_builtin entry_list_iadd' ?_⟩));have hn:Builtin.Range.rangeSize 0 j 1=j.toNat:=by rw[rangeSize_one];split<;>lia
 refine wpAny_mono (wpAny_extend_range (A:=A)
  (R:=λq s'=>∃(h':Heap)(tk:Nat)(M:AV)(c:Nat),q=.ok _/\s'={ s with heap:=h',toks:=tk }/\(∀b o,s.heap.get? b=some o->h'.get? b=some o)/\h'.get? s.z=some { cls:=.type "list",data:=.seq M c }/\ItemsOf _ M j.toNat)
  hh (vZ _ d) (small_one N9 N9 N9 N9) hn N9 s.z _ 0 (vY _ rr)
  λh' tk M c hk O ha=>⟨h',tk,M,c,rr,rr,λb o e=>hk b o (vS (vX e)) (vZ _ e),O,ha⟩) (λdX s' x=>?_) λe s' x=>?_
 .cases dX with
  |done f=>
   obtain⟨h',tk,M,c,e,rfl,hk,O,ha⟩:=x;cases e
   exact wX (wpAny_load O (wY (h h' tk M hk ha)))
  |again U=>
   refine⟨x.1,codeAny_mono x.2 λq a y=>?_⟩;obtain⟨h',tk,M,c,rfl,rfl,hk,O,ha⟩:=y;exact wX (wpAny_load O (wY (h h' tk M hk ha)))
 simp_all
theorem zo:∀(n k:Nat)(vs:LU),vs.length=n->(∀i v,vs[i]? = some v->∃t,v=Value.int ((k+i:Nat):Int) t)->aL ((List.range' k n).map λ(i:Nat)=>V.int (i:Int)) vs
 |0,_,[],_,_=>.nil
 |n+1,k,v::vs,h,e=>by
  obtain⟨t,rfl⟩:=e 0 v rr;refine .cons ⟨t,rr⟩ (zo n _ vs (by simpa using h) λi v hv=>?_);obtain⟨t,rfl⟩:=e (i+1) v hv;simp<;>lia
theorem CQ {K:Frag}{B:Hp}:∀l:LN,IsL K B (l.map λ(i:Nat)=>V.int (i:Int)) (l.map λ(i:Nat)=>D.int (i:Int))
 |[]=>.nil
 |a::l=>.cons (.int _) (CQ l)
noncomputable def Jt (n:Nat):LD:=(List.range' 0 n).map λ(i:Nat)=>.int (i:Int)
@[simp] def Ju (f:FE)(O:Env->D->Option D):FE:=λρ=>(f ρ).bind λx=>match x.1 with
 |.int j=>if 0<=j/\j<64 then (hW (O ρ) (Jt j.toNat)).bind λM=>(du M).bind λks=>if ks.length<64/\cy ks=true/\cH ks=true/\(ks.map bU).Nodup then some (.lst (dF ks (Jt j.toNat)),true)else none else none
 |_=>none
section
variable {X:Cx}{a ke:Expr}{p p' pos A1 kp:Pos}
def VG (y:X.calm=true){f:FE}{x:Env->D->Option D}(hm:X.mg "sorted" = none)(g:X.mg "range" = none)(he:JE X a f)(hk:JK X X.A.in1.in1 ke x)(C:Gl X "sorted")(E:Gl X "range")(c:cL a X.env):
  JE X (.Call (.Name "sorted" p) [.Call (.Name "range" p') [a] [] A1] [⟨some "key",ke,kp⟩] pos) (Ju f x):=by
 intro af s σ H Q I h;refine cX λW Y=>?_;obtain⟨B,ρ,d,b,F,rep,M,q⟩:=h;obtain⟨⟨xd,S⟩,ex,M⟩:=oX M;apply Y;cases xd<;>try (cases M;done)
 rename_i j;dsimp only at M;split at M
 case isFalse=>cases M
 rename_i hj;refine eX M λT G M=>?_;refine eX M λks ek M=>?_;split at M
 .rename_i hh;cases M
  refine wpAny_Call_Name_kw (fG I C hm (u:=.builtin "sorted") rr ?_);refine callWith_kw (bG (Q:=λus s1=>∃(r:Addr)(t u v:Tok)(O N:Hp),us=[.ref r]/\Inv X ((r,{ cls:=.type "range",data:=.fields #[.int 0 t,.int j u,.int 1 v] })::af) σ O s1/\Ext B N H O) ?_ λus s1 k=>?_) rr rr rr rr
  .refine Calls.spliced_cons (Call_ (fG I E g boot_range (callWith_type1 (bG ((fU he lR c) A1 af s σ H (λvs O=>∃N,vs=[.int j]/\Ext B N H O) I ⟨B,ρ,[.int j],F,rep,by simp[ak,a0,ex],λv O N U i1=>⟨N,by cases i1 with|cons i1 i2=>cases i1;cases i2;rfl,U⟩⟩) λus s1 k=>?_) c rr)));obtain⟨vs,O,l,J,N,rfl,U⟩:=k;obtain⟨u,rfl,t,rfl⟩:=gh J;exact call_range_1 (Calls.spliced_nil ⟨_,_,_,_,O,N,rr,ng l (λb o e=>vZ _ e) (vT _) (vY _ rr) (λv z=>by cases z),U⟩)
  .obtain⟨r,t,u,v,O,N,rfl,l,U⟩:=k;refine kws_cons (hk _ s1 σ O N ρ _ _ l U.nh (rep.mono U.bn) λK H2 s2 n m2 L=>kws_nil ?_);show wpAny _ _ (call (.builtin "sorted") [.ref r] [(("key" : Str),.ref K)]) _ _ _;have P:=(n.pin (r,_) (mY _ mX)).1;refine call_function_entry_kw kind_sorted plain_sorted entry_sorted (ksk_s1 _ _) ?_;unfold Builtin.«sorted»;refine wX (m:=checkCount "sorted" 1 1 _) (wY (wX (zn (A:=X.A.in1) (by exact n.ok.hd y) P hj.1 hj.2 λh1 tk V w ha=>wX (wpAny_newList ?_ (by rw[vG,ha.1,sizeLine_eq];simp<;>lia)))))
   have R:=zo _ 0 _ (by rw[vG,ha.1]) λi v hv=>by
    obtain⟨t,e⟩:=ha.2 i v (by simpa using hv);exact⟨t,by rw[e];simp⟩
   exact uA (tk:=tk) II ((iW n).kept w) L R (CQ (List.range' 0 j.toNat)) (U.trans (.grow U.nh m2)) G ek hh q
 .cases M
end
structure OneK (α:Type)[DecidableEq α] where
 v:α->V
 ev:Value->α->Bool
 as:List D->Option (List α)
 rel:∀ {a:α}{u:Value},aE (v a) u->∀b,ev u b=decide (a=b)
 eq:∀ {A:Around}{s:Shared}{a b:α}{u u':Value},aE (v a) u->aE (v b) u'->PySem.SeqAt.EqAt A s u u' (ev u b)
 is:∀ {K:Frag}{B:Hp}{ws:List V}{ds:List D}{l:List α},IsL K B ws ds->as ds=some l->ws=l.map v
noncomputable def evI:Value->Int->Bool
 |.int a _,b=>decide (a=b)
 |_,_=>false
noncomputable def evS:Value->Str->Bool
 |.str a _,b=>decide (a=b)
 |_,_=>false
theorem Jv {K:Frag}{B:Hp}:∀ {ws:LV}{ds:LD}{l:LS},IsL K B ws ds->eO ds=some l->ws=l.map V.str
 |_,_,_,.nil,e=>by cases e;rfl
 |_,_,_,.cons i M,e=>by
  refine eX e λz O e=>?_;obtain⟨r,e2,rfl⟩:=oY e;rw[Jv M e2];cases i<;>try (cases O;done)
  simp_all
def T7:OneK Int:=⟨V.int,evI,fD,λ{a u} ⟨t,e⟩ b=>by subst e;rfl,λ{A s a b u u'} ⟨t,e⟩ ⟨t',M⟩=>by subst e;subst M;exact PySem.SeqAt.EqAt.int_int a t b t',IE⟩
def ZR:OneK Str:=⟨V.str,evS,eO,λ{a u} ⟨t,e⟩ b=>by subst e;rfl,λ{A s a b u u'} ⟨t,e⟩ ⟨t',M⟩=>by
 subst e;subst M;have:=PySem.SeqAt.EqAt.str_str (A:=A) (s:=s) a t b t';rw[show(a == b)=decide (a=b)from rr]at this;exact this,Jv⟩
section
variable {X:Cx}{α:Type}[DecidableEq α] (k:OneK α)
noncomputable def jF (l:List α)(b:α):Nat:=l.findIdx λa=>decide (a=b)
def ZS (K:Frag):V->LV->Hp->VK->Prop:=λx vs H Q=>∃(l:Addr)(as:List α)(b:α),x=.ref l/\vs=[k.v b]/\eN K H l (as.map k.v)/\jF as b<as.length/\Q (.int (jF as b:Nat)) H
theorem Nr {vs:LV}{us:LU}(r:aL vs us):∀(i:Nat)(h:i<us.length),∃v,vs[i]? = some v/\aE v us[i]:=by
 induction r with
 |nil=>intro i h;cases h
 |cons M O ih=>
  intro i h;cases i with
  |zero=>exact⟨_,rr,M⟩
  |succ i=>exact ih i _
theorem RK:Y5 X "list.index" (ZS k X.K):=by
 intro af s σ H x vs v us Q I c d h;obtain⟨l,as,b,rfl,rfl,f,hk,q⟩:=h;cases c
 obtain⟨u,rfl,ru⟩:=d.one;refine cX λG W=>?_;obtain⟨its,r,⟨o,m,e,hc,U,hd⟩,z⟩:=I.list f;apply W;have hl:=r.length;rw[vI]at hl z;have at':∀(i:Nat)(hi:i<its.length),∃M:i<as.length,aE (k.v as[i]) its[i]:=λi hi=>by
  obtain⟨v,a,e2⟩:=Nr r i hi;have M:i<as.length:=N9
  rw[vA,vU M]at a;cases a
  exact⟨M,e2⟩
 obtain⟨oc,od,g,l7⟩:=o;subst hc U hd;have hz:sizeLine<2 ^ 63 - 1:=P9
 have hj:jF as b<its.length:=N9
 refine call_meets PySem.F.slot_list_index ⟨_,e,rr⟩ PySem.F.entry_list_index (PySem.F.args_list_index_2 _ _)
  (PySem.SeqAt.list_indexAt l its.toArray m none l7 u (λy=>k.ev y b) (jF as b) (by simpa using hj) N9 ?_ (λi M j=>?_)) ⟨e,λy hy=>?_,?_⟩
 .obtain⟨_,O⟩:=at' _ hj;simp only[List.getElem_toArray];rw[k.rel O];exact List.findIdx_getElem (w:=hk)
 .obtain⟨_,O⟩:=at' i (by simpa using M);simp only[List.getElem_toArray];rw[k.rel O];have:=List.not_of_lt_findIdx (xs:=as) j;simpa using this
 .obtain⟨i,M,rfl⟩:=List.mem_iff_getElem.mp (show y∈its by simpa using hy);obtain⟨_,O⟩:=at' i M;exact k.eq O ru
 .exact⟨.int (jF as b:Nat),H,I.tok _,⟨_,rr⟩,q⟩
@[simp] def zp:D->D->OB
 |.lst ds,y=>(k.as ds).bind λl=>(k.as [y]).bind λc=>match c with
  |[b]=>if jF l b<l.length then some (.int (jF l b:Nat),false)else none
  |_=>none
 |_,_=>none
variable {a e:Expr}
theorem Jw {bV b9:Pos}{fa f:FE}(ha:JE X a fa)(he:JE X e f)(O:attributeBase a "index" X.env (eval a X.env)=eval a X.env)
  (m:ph b9 e X.env)
  (U:(bV.endLine == b9.line)=true) (hs:cL e X.env):JE X (.Call (.Attribute a "index" bV) [e] [] b9) (f2 (zp k) fa f):=by
 refine PE.to (yn plainAttrs_list PySem.F.slot_list_index PySem.F.type_list_index (RK k) ha (de he fH hs) O m U hs rr) λσ H Q q=>?_;refine cX λG K=>?_;obtain⟨B,ρ,d,bb,n,r,M,dX⟩:=q;obtain⟨⟨xd,t⟩,ex,M⟩:=oX M;obtain⟨⟨u,x⟩,o,M⟩:=oX M;apply K;clear K;cases xd<;>try (cases M)
 refine eX M λas en M=>?_;refine eX M λc p M=>?_;split at M
 .rename_i b;split at M
  .rename_i hk;cases M
   refine⟨B,ρ,_,_,n,r,ex,λv y N1 i i1 f1=>?_⟩;cases i1
   rename_i l ws h m1;have s:=k.is m1 en;subst s;refine⟨.inl ⟨rr,_,i.nh.seq h⟩,N1,ρ,_,_,i.nh,r.mono i.bn,o,λw H2 N2 j i2 _=>?_⟩;have g:=i.trans j;exact⟨l,as,b,rr,k.is (.cons i2 .nil) p,j.nh.seq (j.bn.seq h),hk,(dX.into g).one g.nh (.int _)⟩
  simp_all
 simp_all
end
end DL
namespace DL
open PySem PySem.Spec PyProof.Rows L2
section
variable {X:Cx}{a b e:Expr}{pos:Pos}{x:Str}{p:Pos}
def IsL.dropL {K:Frag}{B:Hp}{vs:LV}{ds:LD}(h:IsL K B vs ds):IsL K B vs.dropLast ds.dropLast:=by
 rw[List.dropLast_eq_take,List.dropLast_eq_take,h.length];exact h.take _
noncomputable def B6 (ds:LD):Option LD:=if ds.isEmpty=true then none else some ds.dropLast
def RM (d:X.N[i]? = some y)(hv:GP X.env.scope y)(hd:bf y)
  (f:jI y) (M:attributeBase (.Name y py) "pop" X.env (eval (.Name y py) X.env)=eval (.Name y py) X.env)
  (O:(bV.endLine == b9.line)=true) (g:swapsWith (.Call (.Attribute (.Name y py) "pop" bV) [] [] b9) none pos.line X.env=pure false):
  JS X (.Expr (.Call (.Attribute (.Name y py) "pop" bV) [] [] b9) pos) (Iq i B6):=by
 refine PS.to (wo (Qw plainAttrs_list PySem.F.slot_list_pop PySem.F.type_list_pop Qx (jg d hv hd f) M O) g) λE σ H q=>?_;refine cX λG K=>?_;obtain⟨B0,H0,ρ,r,⟨N,s⟩,U,p⟩:=q;apply K;clear K;unfold Iq at U;split at U
 .rename_i ds ei;refine eB U λes c U=>?_;unfold B6 at c;split at c
  .cases c
  rename_i h;cases c
  cases U
  refine cX λG K=>?_;obtain⟨l,vs,j,z,h1,h2,h3,h4⟩:=s.owL i _ ei;apply K;clear K;cases z
  have hl:0<vs.length:=by rw[h4.length];cases ds with|nil=>exact absurd rr h|cons _ _=>simp
  exact⟨_,h1,.inl ⟨rr,vs,eN.of (s.ext.nh _ _ h2)⟩,l,vs,vs[vs.length - 1],rr,rr,s.ext.nh _ _ h2,vU _,p σ _ ⟨_,s.write ei h1 h4.dropL⟩⟩
 simp_all
end
structure Gq where
 fs:List (Str×Nat×(List D->OB))
 cs:List (Str×D)
 ds:List (Str×List (Str×D))
 no:List Str
 ls:List Str
 dd:List (Str×Nat×(List D->OB))
structure Gq.Ok (g:Gq)(P:Program)(w:World)(K:Frag)(mg:Str->Option Value)(base:Heap):Prop where
 hx:∃h,K.In h/\h.Ns mainGlobals mg
 fs:∀t∈g.fs,Fn P w K mg base t.2.1 t.1 t.2.2
 cs:∀t∈g.cs,KC K mg t.1 t.2
 ds:∀t∈g.ds,KD w K mg t.1 t.2
 no:∀x∈g.no,mg x=none
 ls:∀x∈g.ls,xh K x
 dd:∀t∈g.dd,FnD P w K mg base t.2.1 t.1 t.2.2
structure Sq where
 g:Gq
 N:List Str
 sc:Scope
 cl:List Str
 k:Nat
 fn:Bool
 q:Option Str
structure Yq (S:Sq) where
 prog:Program
 w:World
 K:Frag
 mg:Str->Option Value
 base:Heap
 A:Around
 s:Shared
 H:Hp
 env:PySem.Env
 outer:List PySem.Env
 stack:List PySem.Env
 ex:List Addr
 rm:dn S.k A
 cl:∀x∈S.cl,(env.cells.lookup x).isSome
 nd:S.N.Nodup
 ok:S.g.Ok prog w K mg base
 ql:∀x,S.q=some x->env.qual=x ++ ".<locals>."/\∀c P,PySem.W.tabIn K x=some (c,P)->env.code=.ref c
noncomputable abbrev bX (S:Sq)(d:Yq S):Cx:=⟨d.prog,d.w,d.K,d.mg,d.base,d.A,S.N,d.s,d.H,{ d.env with scope:=S.sc },d.outer,d.stack,d.ex,λ_=>S.fn,true,[],λ_ _=>False⟩
abbrev rz (S:Sq)(e:Expr)(f:FE):Prop:=∀d:Yq S,JE (bX S d) e f
abbrev CS (S:Sq)(e:Expr)(f:FT):Prop:=∀d:Yq S,JT (bX S d) e f
abbrev Ph (S:Sq)(e:Expr)(f:FT):Prop:=∀d:Yq S,JW (bX S d) e f
abbrev Jx (S:Sq)(e:Stmt)(f:FS):Prop:=∀d:Yq S,JS (bX S d) e f
abbrev Pj (S:Sq)(e:List Stmt)(f:FS):Prop:=∀d:Yq S,yf (bX S d) e f
structure Oj {α:Type}(J:α->Prop) where
 f:α
 ok:Bool
 p:ok->J f
abbrev b8 {α:Type}(J:α->Prop):=LN->Option (Oj J×LN)
section
variable {α β γ δ:Type}{J J':α->Prop}{J1:β->Prop}{J2:γ->Prop}{J3:δ->Prop}
noncomputable def bP (k:Nat->b8 J):b8 J
 |[]=>none
 |i::h=>k i h
def CT:Nat->(LN->b8 J)->b8 J
 |0,k=>k []
 |n+1,k=>bP λi=>CT n λl=>k (i::l)
noncomputable def cu:(l:List β)->Nat->((a:β)->a∈l->b8 J)->b8 J
 |[],_,_=>λ_=>none
 |a::_,0,k=>k a mX
 |_::l,i+1,k=>cu l i λb h=>k b (mZ _ h)
def CU {a b:Bool}(h:(a && b)=true):a:=by simp_all
def CV {a b:Bool}(h:(a && b)=true):b:=by simp_all
noncomputable def dS (c:Prop)[Decidable c](f:α)(k:c->J f):b8 J:=λh=>some (⟨f,decide c,λe=>k (ET e)⟩,h)
noncomputable def p7 (k:∀x,J x->J' x)(m:b8 J):b8 J':=λh=>match m h with
 |some (⟨f,o,p⟩,h)=>some (⟨f,o,λe=>k f (p e)⟩,h)
 |none=>none
noncomputable def bQ (c:Prop)[Decidable c](g:α->β)(k:c->∀x,J x->J1 (g x))(m:b8 J):b8 J1:=λh=>match m h with
 |some (⟨f,o,p⟩,h)=>some (⟨g f,decide c && o,λe=>k (ET (CU e)) f (p (CV e))⟩,h)
 |none=>none
def c6 (c:Prop)[Decidable c](g:α->β->γ)(k:c->∀x y,J x->J1 y->J2 (g x y))(m:b8 J)(n:b8 J1):b8 J2:=λh=>match m h with
 |some (⟨f,o,p⟩,h)=>bQ (c/\o) (g f) (λe y=>k e.1 f y (p e.2)) n h
 |none=>none
def zq (c:Prop)[Decidable c](g:α->β->γ->δ)(k:c->∀x y z,J x->J1 y->J2 z->J3 (g x y z))(m:b8 J)(n:b8 J1)(o:b8 J2):b8 J3:=λh=>match m h with
 |some (⟨f,b,p⟩,h)=>c6 (c/\b) (g f) (λe y z=>k e.1 f y z (p e.2)) n o h
 |none=>none
end
abbrev np (S:Sq)(i:Nat)(x:Str):Prop:=S.N[i]? = some x/\(S.sc.names.lookup x=some .local\/S.sc.names.lookup x=some .cell\/S.sc.names.lookup x=some .free)/\bf x/\jI x
abbrev fO (S:Sq)(i:Nat)(x:Str):Prop:=S.N[i]? = some x/\(S.sc.names.lookup x=some .local\/S.sc.names.lookup x=some .cell)/\(S.fn\/S.sc.names.lookup x=some .local)
abbrev p8 (S:Sq)(x y:Str):Prop:=x=y/\S.sc.names.lookup x=some .globalImplicit/\bf x
abbrev fE (S:Sq)(x y:Str):Prop:=p8 S x y/\x∈S.g.no/\x ≠ "__name__"
noncomputable def bp:Expr->Bool
 |.Starred .. | .Slice .. | .Set .. | .SetComp .. | .DictComp ..=>false
 |_=>true
def r6:Expr->Bool
 |.ListComp ..=>false
 |e=>bp e
noncomputable def Pk:Expr->Bool
 |.UnaryOp .Not .. | .BoolOp .. | .IfExp .. | .Compare ..=>false
 |_=>true
noncomputable def uI:Expr->Bool
 |.Call _ [] ..=>false
 |_=>true
section
variable {e:Expr}{es:QD}{env:PySem.Env}{p:Pos}
def aJ (h:bp e):cQ e es env:=by cases e<;>first|rfl|cases h
theorem lg:∀ {es:QD},(∀e∈es,bp e)->j9 p es env
 |[],_=>rr
 |e::es,h=>by
  have:=lg (es:=es) λa m=>h a (by simp[m]);rw[j9,aJ (h e H9)];simp_all [backTo]
def nu (h:bp e)(x:Value):foldedSetIterable e env x=pure x:=by cases e<;>first|rfl|cases h
def nv {op:CmpOp}(h:bp e):behindInMarks op e=false:=by cases e<;>first|rfl|cases h
def rA (h:bp e):mF e:=by cases e<;>first|(intro _ _;rfl)|cases h
def iX {t:Expr}{n:Nat}(h:r6 e):swapsWith e (some t) n env=pure false:=by cases e<;>first|rfl|cases h
def gH {a:Str}{w:Sem Value}(h:uI e):attributeBase e a env w=w:=by
 cases e with
 |Call f as=>cases as with
  |nil=>cases h
  |cons b l=>cases f<;>rfl
 |_=>rfl
def eY (h:bp e):ph p e env:=by
 rw[ph,aJ h];rfl
def Jy (h:Pk e)(M:Sem Value):isTrue e env M=(do let v <-M;standAt e.pos;holding [v] (truthy v)):=by
 cases e with
 |UnaryOp op=>cases op<;>first|rfl|cases h
 |_=>first|rfl|cases h
end
structure Bq where
 op:Operator
 f:D->D->OB
 p:∀ {X:Cx},cJ X (binaryOp op) (rD X.K f)
structure Cq where
 op:CmpOp
 f:D->D->OB
 p:∀ {X:Cx},X.A.units+40<cLine->cJ X (compareOp op) (rD X.K f)
structure Tq where
 x:Str
 n:String
 b:bootBuiltins x=some (.type n)
structure Fq where
 x:Str
 f:List D->OB
 c:∀ {X:Cx}{e:Expr}{es:List Expr}{fa:FA}{p q:Pos},X.calm->X.mg x=none->JA X (e::es) fa->Gl X x->x ≠ "__name__"->bf x->cQ e es X.env->j9 q es X.env->JE X (.Call (.Name x p) (e::es) [] q) (fA f fa)
noncomputable def p9 {x:Str}{i:String}{f:LD->OB}(b:bootBuiltins x=some (.builtin i))(c:∀ {X:Cx},X.calm->b7 X (.builtin i) (A6 X.K f)):Fq:=⟨x,f,λh m a g n d s t=>HN (c h) m b a g n d s t⟩
noncomputable def Jz {x:Str}{i:String}{f:LD->OB}(b:bootBuiltins x=some (.type i))(c:∀ {X:Cx},X.calm->b7 X (.type i) (A6 X.K f)):Fq:=⟨x,f,λh m a g n d s t=>Fo (c h) m b a g n d s t⟩
structure Uq where
 x:Str
 y:Str
 f:D->OB
 p:∀ {X:Cx}{e:Expr}{g:FE}{p p2 q q2:Pos},X.calm->X.mg x=none->X.mg y=none->JE X e g->Gl X x->Gl X y->cL e X.env->JE X (.Call (.Name x p) [.Call (.Name y p2) [e] [] q2] [] q) (f1 f g)
structure Mq where
 n:Str
 f:D->D->OB
 p:∀ {X:Cx}{o e:Expr}{fo fe:FE}{ap cp:Pos},X.A.units+1<cLine->JE X o fo->JE X e fe->uI o->bp e->ap.endLine == cp.line->JE X (.Call (.Attribute o n ap) [e] [] cp) (f2 f fo fe)
def RN:List Bq:=[⟨_,_,UP⟩,⟨_,_,Re⟩,⟨_,_,UT⟩,⟨_,_,R9⟩,⟨_,_,QZ⟩,⟨_,_,UR⟩,⟨_,_,RI⟩,⟨_,_,QR⟩,⟨_,_,US⟩]
def B7:List Cq:=[⟨_,_,λ_=>Vc⟩,⟨_,_,ZC⟩,⟨_,_,λ_=>ZE⟩,⟨_,_,λ_=>Vb⟩,⟨_,_,λ_=>Ve⟩,⟨_,_,ZB⟩,⟨_,_,λ_=>M5⟩,⟨_,_,λ_=>Z6⟩,⟨_,_,λ_=>Z5⟩,⟨_,_,λ_=>HR⟩,⟨_,_,V2⟩]
noncomputable def RO:List Tq:=[⟨_,_,Vh⟩,⟨_,_,Ra⟩,⟨_,_,C0⟩,⟨_,_,Vi⟩,⟨_,_,AZ⟩]
def RP:List Fq:=[p9 mQ λ_=>wP,p9 OV λ_=>UY,p9 Vg λh=>Vp h,p9 mQ λ_=>FH,Jz C0 λ_=>ME,Jz RA λh=>RB h,p9 Vr λh=>Vq h,p9 qV λh=>FW h,p9 qV λ_=>ID,Jz AZ λ_=>Rw,p9 Vf λh=>Vk h]
def RQ:List Uq:=[⟨_,_,_,λa b c d e f g=>Bl a b c d e f g⟩,⟨_,_,_,λa b c d e f g=>F8 a b c d e f g⟩]
def RS:List Mq:=[⟨_,_,λhu x y a b c=>IS hu x y ⟨gH a,eY b,c,by rw[aJ b];rfl⟩⟩,⟨_,_,λ_ x y a b c=>Jw T7 x y (gH a) (eY b) c (aJ b)⟩,⟨_,_,λ_ x y a b c=>Rk PySem.F.slot_str_join PySem.F.type_str_join Rp Ie x y (gH a) (eY b) c (aJ b)⟩,⟨_,_,λ_ x y a b c=>Jw ZR x y (gH a) (eY b) c (aJ b)⟩]
structure Rj where
 E:∀S e,b8 (rz S e)
 T:∀S e,b8 (CS S e)
 W:∀S e,b8 (Ph S e)
noncomputable def J0 (o sc:Scope):Scope:={ sc with names:=sc.names.map λ(n,k)=>if(k == .free && o.kind == .function && o.names.lookup n == some .cell)then (n,.cell)else (n,k) }
noncomputable def J5 (sc:Scope):LS:=sc.names.filterMap λy=>if y.2=.free then some y.1 else none
def xr (S:Sq)(N:LS)(sc:Scope):Sq:=⟨S.g,N,J0 S.sc sc,J5 sc,S.k,false,S.q⟩
abbrev VH (S:Sq)(N:LS)(sc M:Scope)(j i:Nat):Prop:=∃x∈N[j]?,S.N[i]? = some x/\(S.sc.names.lookup x=some .cell\/S.sc.names.lookup x=some .free)/\(M.names.lookup x=some .cell\/M.names.lookup x=some .free)/\(x,NameKind.free)∈sc.names/\x∈S.cl
noncomputable def rB (S:Sq)(N:LS)(sc M:Scope):Nat->LN->Bool
 |j,[]=>N.length=j
 |j,i::r=>VH S N sc M j i && rB S N sc M (j+1) r
section
variable {S:Sq}{N:LS}{sc:Scope}
theorem o7 (d:Yq S):∀ {cap:LN}{j:Nat},rB S N sc (J0 S.sc sc) j cap->mC (bX S d) N sc (dD sc.names d.env.cells []) j cap
 |[],_,h=>.nil (ET h)
 |_::_,_,h=>let ⟨_,e,a,b,c,f,g⟩:=ET (CU h);.cons e a b c (qd f (d.cl _ g)) (o7 d (CV h))
abbrev J6 (S:Sq)(N:LS)(sc:Scope):Prop:=N.Nodup/\(∀y∈sc.names,y.2≠.cell)/\sc.kind=.function/\(∀y∈sc.names,y.2=.local->sc.names.lookup y.1=some .local)/\∀y∈sc.names,y.2=.free->y.1∈S.cl
def o8 (d:Yq S)(h:∀z∈sc.names,z.2=.free->z.1∈S.cl):(sc.names.all λy=>!(y.2 == NameKind.free) || (d.env.cells.lookup y.1).isSome)=true:=by
 rw[all_eq_true];intro y hy;cases hk:y.2 == NameKind.free with
 |false=>rfl
 |true=>exact d.cl _ (h y hy (by simpa using hk))
def zr (d:Yq S)(h:∀z∈sc.names,z.2=.free->z.1∈S.cl):∀x∈J5 sc,((dD sc.names d.env.cells []).lookup x).isSome:=λx hx=>by
 obtain⟨⟨M,k⟩,hy,e⟩:=mem_filterMap.mp hx;split at e
 .rename_i hk;cases e
  cases hk
  rw[qd hy (d.cl _ (h _ hy rr))];exact d.cl _ (h _ hy rr)
 .cases e
def Yq.inn (d:Yq S)(h:J6 S N sc)(C:Addr)(s:Shared)(H:Hp)(fp:List Addr):Yq (xr S N sc):=⟨d.prog,d.w,d.K,d.mg,d.base,d.A,s,H,compEnvC sc (dD sc.names d.env.cells []) C { d.env with scope:=S.sc },d.stack,d.stack,fp,d.rm,zr d h.2.2.2.2,h.1,d.ok,d.ql⟩
end
section
variable (r:Rj) (S:Sq)
def pA:(es:QD)->b8 λf=>∀d,JA (bX S d) es f
 |[]=>dS True a0 λ_ _=>lR
 |e::es=>c6 (bp e) ak (λh _ _ x y d=>fU (x d) (y d) (aJ h)) (r.E S e) (pA es)
def Pl:(e:Option Expr)->b8 λf=>∀d,JO (bX S d) e f
 |none=>dS True mP λ_ _=>M2
 |some e=>bQ True jA (λ_ _ x d=>M3 (x d)) (r.E S e)
def J7 (i:Nat)(p:Pos):(a:Expr)->(ops:List CmpOp)->(bs:QD)->b8 λf=>rz S (.Compare a ops bs p) f/\CS S (.Compare a ops bs p) (bW f)
 |a,[op],[b]=>cu B7 i λ⟨M,f,q⟩ _=>c6 (op=M/\bp b) (f2 f) (λ⟨h,k⟩ _ _ x y=>by
   subst h;exact⟨λd=>QF (q (lU d.rm)) (x d) (y d) (nv k),λd=>QG (q (lU d.rm)) (x d) (y d) (nv k)⟩) (r.E S a) (r.E S b)
 |a,[op,M],[b,c]=>bP λj=>cu B7 i λ⟨U,f,q⟩ _=>cu B7 j λ⟨e,g,O⟩ _=>zq (op=U/\M=e/\bp c) (jO f g) (λ⟨h,h',k⟩ _ _ _ x y z=>by
   subst h h';have hm:lastMarks [op,M] [b,c]=false:=nv k;exact⟨λd=>HF (q (lU d.rm)) (O (lU d.rm)) (x d) (y d) (z d) hm,λd=>HG (q (lU d.rm)) (O (lU d.rm)) (x d) (y d) (z d) hm⟩) (r.E S a) (r.E S b) (r.E S c)
 |_,_,_=>λ_=>none
def Pm (tg it:Expr):b8 λf=>∀d,JI (bX S d) tg it f:=bP λi=>match i,tg,it with
  |0,_,e=>bQ True dE (λ_ _ x d=>Ri (x d)) (r.E S e)
  |2,_,.Call (.Name x _) [a] [] _=>bQ (fE S x "range"/\bp a) lV (λ⟨⟨⟨h,g⟩,m⟩,n⟩ _ x d=>by subst h;exact HX (d.ok.no _ m.1) (x d) g.1 (aJ n)) (r.E S a)
  |3,.Tuple ..,.Call (.Name x _) [a] [] _=>bQ (fE S x "enumerate"/\bp a) yJ (λ⟨⟨⟨h,g⟩,m⟩,n⟩ _ x d=>by subst h;exact MI (d.ok.no _ m.1) (x d) g.1 (aJ n)) (r.E S a)
  |4,.Tuple ..,.Call (.Name x _) [a,b] [] _=>c6 (fE S x "zip"/\bp a/\bp b) Ij (λ⟨⟨⟨h,g⟩,m⟩,n,k⟩ _ _ x y d=>by subst h;exact Ru (d.ok.no _ m.1) (x d) (y d) g.1 (by rw[aJ n,aJ k];rfl) (aJ k)) (r.E S a) (r.E S b)
  |5,_,.Call (.Attribute e n ap) [] [] cp=>bQ (n = "values"/\uI e/\ap.endLine == cp.line) xp (λ⟨h,n,l⟩ _ x d=>by subst h;exact Nj (x d) (gH n) l) (r.E S e)
  |6,.Tuple ..,.Call (.Attribute e n ap) [] [] cp=>bQ (n = "items"/\uI e/\ap.endLine == cp.line) CO (λ⟨h,n,l⟩ _ x d=>by subst h;exact Jo (x d) (gH n) l) (r.E S e)
  |7,_,.Call (.Name x _) [a] [] _=>bQ (fE S x "reversed"/\bp a) Np (λ⟨⟨⟨h,g⟩,m⟩,n⟩ _ x d=>by subst h;exact RH (d.ok.no _ m.1) (x d) g.1 (aJ n)) (r.E S a)
  |_,_,_=>λ_=>none
def VI:(es:QD)->b8 λf=>∀d,JC (bX S d) es f
 |[]=>dS True yw λ_ _=>Q8
 |[e]=>p7 (λ_ x d=>Q9 (x d)) (r.T S e)
 |_=>λ_=>none
theorem uJ (d:Yq S){i:Nat}{x:Str}{p:Pos}(h:fO S i x):PG (bX S d) (.Name x p) (iN i):=pgV i d.nd h.1 h.2.1 h.2.2
theorem Pn (d:Yq S){i j k:Nat}{x y:Str}{p q s:Pos}(h:fO S i x)(g:fO S j y):PG (bX S d) (.Tuple [.Name x p,.Name y q] k s) (GV d.K 2 (jm [i,j])):=AD rr (f6 (uJ S d h) (f6 (uJ S d g) qc))
def VJ:(tg:Expr)->Option ((N:LS) ×' (n:Nat) ×' (M:FG) ×' ∀S:Sq,(∀i (h:i<N.length),fO S i N[i])->∃t:Frag->TG,(∀d:Yq S,PG (bX S d) tg (t d.K))/\∀K,Mo K n M (t K))
 |.Name x _=>some ⟨[x],1,gn 0,λ_ h=>⟨λ_=>iN 0,λd=>uJ _ d (h 0 H9),λ_=>qH P9⟩⟩
 |.Tuple [.Name x _,.Name y _] _ _=>some ⟨[x,y],2,C3 [0,1],λ_ h=>⟨λK=>GV K 2 (jm [0,1]),λd=>Pn _ d (h 0 H9) (h 1 H9),λ_=>Ih P9⟩⟩
 |_=>none
abbrev VL (S:Sq)(e:Expr)(f:FE):Prop:=rz S e f/\∀y M sp i,fO S i y->(∀d:Yq S,swapsWith e (some (.Name y M)) sp.line (bX S d).env=pure true)->S.sc.names.lookup y=some .local->Jx S (.Assign [.Name y M] e sp) (eQ i f)
def J8 (U tg it:Expr)(e:QD)(f:Int)(sc:Scope)(p:Pos):b8 (VL S (.ListComp U [⟨tg,it,e,f⟩] sc p)):=bP λn=>CT n λcap=>match VJ tg with
 |none=>λ_=>none
 |some ⟨N,n,g,q⟩=>(λM h=>match Pm r S tg it h with
  |none=>none
  |some (⟨fi,o,a⟩,h)=>c6 (f=0/\bp it/\o/\J6 S M sc/\rB S M sc (J0 S.sc sc) n cap/\∀i (h:i<N.length),fO (xr S M sc) i N[i]) (jN fi n cap g) (λ⟨h,hn,o,O,hc,j⟩ _ _ b c=>by
    subst h;obtain⟨t,pg,tg⟩:=q _ j;exact⟨λd=>VA _ (a o d) (b (d.inn O _ _ _ _)) (c (d.inn O _ _ _ _)) (tg _) (pg (d.inn O _ _ _ _)) (o7 d hc) (Nk O.2.1 O.2.2.1 O.2.2.2.1 (o8 d O.2.2.2.2)) rr λx=>nu hn x,
     λ_ _ _ _ hy hs hl d=>VB _ d.nd (a o d) (b (d.inn O _ _ _ _)) (c (d.inn O _ _ _ _)) (tg _) (pg (d.inn O _ _ _ _)) (o7 d hc) hy.1 hl (hs d) (Nk O.2.1 O.2.2.1 O.2.2.2.1 (o8 d O.2.2.2.2)) rr λx=>nu hn x⟩) (VI r (xr S M sc) e) (r.E (xr S M sc) U) h) (N++cap.map (S.N.getD · ""))
end
section
variable (r:Rj) (S:Sq)
theorem J9 {q y:Str}{an:Option Expr}{ap:Pos}{b:Expr}{sc:Scope}{cl:List (Str×Addr)}{pm M u:Value}{c:Addr}:bindArgs (PySem.W.kla_fn "<lambda>" q ⟨[],[⟨y,an,ap⟩],none,[],[],none,[]⟩ b sc cl pm (.ref c) M) ⟨[u],[]⟩=pure [(y,u)]:=by
 have e:List.lookup y [(y,u)]=some u:=H9
 unfold bindArgs PySem.W.kla_fn;simp[e,seqItems?];rfl
theorem uK {S:Sq}{N:LS}{sc:Scope}(hn:∀z∈sc.names,z.2≠.cell)(d:Yq S):∀ {cap:LN}{j:Nat},rB S N sc sc j cap->kR (bX S d) N sc (dD sc.names d.env.cells []) j cap
 |[],_,h=>.nil (ET h)
 |_::_,_,h=>let ⟨_,e,a,b,c,f,g⟩:=ET (CU h);.cons e a b (c.resolve_left λz=>hn _ (PySem.mem_of_lookup z) rr) (qd f (d.cl _ g)) (uK hn d (CV h))
def JB (S:Sq)(N:LS)(sc:Scope):Sq:=⟨S.g,N,sc,J5 sc,S.k - 3,false,none⟩
abbrev JD (S:Sq)(N:LS)(sc:Scope)(y:Str)(cap:LN):Prop:=N.Nodup/\(∀z∈sc.names,z.2≠.cell)/\sc.kind=.function/\sc.isCoroutine=false/\sc.isGenerator=false/\sc.names.lookup y=some .local/\(∀z∈sc.names,z.2=.free->z.1∈S.cl)/\3<=S.k/\(∃x∈S.q,x∈jM/\x∈S.g.ls)/\rB S N sc sc 1 cap
theorem zt {S:Sq}{N:LS}{sc:Scope}{y:Str}{ap p:Pos}{an:Option Expr}{b:Expr}{U:FE}{cap:LN}(h:JD S (y::N) sc y cap)(hb:rz (JB S (y::N) sc) b U)(d:Yq S){A:Around}(e:A.frames=d.A.frames)(g:dn (S.k - 3+1) A):
  JK (bX S d) A (.Lambda ⟨[],[⟨y,an,ap⟩],none,[],[],none,[]⟩ b sc p) (xi cap U):=
 let ⟨h1,h2,h3,h4,h5,i,a,_,⟨x,hx,j,M⟩,hc⟩:=h
 R7 j (d.ok.ls _ M) (d.ql x hx).2 (by show d.env.qual++_=_;rw[(d.ql x hx).1];rfl) rr (Vy h2 h3 h4 h5 i (o8 d a)) rr (uK h2 d hc) e g (λ_ _ _ _=>J9) λf c s H O=>hb ⟨d.prog,d.w,d.K,d.mg,d.base,_,s,H,PySem.W.envX _ sc s.z f (.ref c) (dD sc.names d.env.cells []),d.stack,_,[],O,zr d a,h1,d.ok,λ_ z=>nomatch z⟩
def zu:(O:Expr)->b8 λU=>∀d:Yq S,JK (bX S d) d.A.in1 O U/\JK (bX S d) d.A.in1.in1 O U
 |.Name x _=>bP λj=>cu S.g.fs j λ⟨y,k,F⟩ m=>dS (p8 S x y/\k+2<=S.k) (FD F) λ⟨⟨e,h⟩,hk⟩ d=>by
   subst e;exact⟨Pa (d.ok.fs _ m) ((d.rm.mono (vR (le_succ _) hk)).in1) rr h.1 h.2,Pa (d.ok.fs _ m) ((d.rm.mono hk).in1.in1) rr h.1 h.2⟩
 |.Lambda ⟨[],[⟨y,an,ap⟩],none,[],[],none,[]⟩ b sc p=>bP λn=>CT n λcap=>bQ (JD S (y::cap.map (S.N.getD · "")) sc y cap) (xi cap) (λM _ q d=>by
    have hk:S.k - 3+2+1<=S.k:=by have:=M.2.2.2.2.2.2.2.1;lia
    exact⟨zt M q d rr ((d.rm.mono hk).in1.mono (le_succ _)),zt M q d rr (d.rm.mono hk).in1.in1⟩) (r.E (JB S (y::cap.map (S.N.getD · "")) sc) b)
 |_=>λ_=>none
def RT (p:Pos):(f:Expr)->(as:QD)->(ks:List Keyword)->b8 (rz S (.Call f as ks p))
 |.Name x _,e::es,[]=>bP λi=>
  if i<100 then cu S.g.fs i λ⟨y,k,F⟩ m=>bQ (p8 S x y/\k<=S.k/\∀a∈e::es,bp a) (fA F) (λ⟨⟨u,h⟩,hk,hn⟩ _ a d=>by
   subst u;exact V7 (d.ok.fs _ m) d.rm (a d) hk h.1 h.2 (aJ (hn e H9)) (lg λa m=>hn a (by simp[m]))) (pA r S (e::es))
  else if i=198 then cu S.g.dd 0 λ⟨y,k,F⟩ m=>bQ (p8 S x y/\k<=S.k/\∀a∈e::es,bp a) (ZQ F) (λ⟨⟨u,h⟩,hk,hn⟩ _ a d=>by
   subst u;exact VE (d.ok.dd _ m) d.rm (a d) hk h.1 h.2 (aJ (hn e H9)) (lg λa m=>hn a (by simp[m]))) (pA r S (e::es))
  else if i<140 then cu RP (i - 100) λ⟨y,f,c⟩ _=>bQ (fE S x y/\∀a∈e::es,bp a) (fA f) (λ⟨⟨⟨u,h⟩,k⟩,hn⟩ _ a d=>by
   subst u;exact c rr (d.ok.no _ k.1) (a d) h.1 k.2 h.2 (aJ (hn e H9)) (lg λa m=>hn a (by simp[m]))) (pA r S (e::es))
  else match e,es with
   |.Call (.Name y _) [e] [] _,[]=>cu RQ (i - 140) λ⟨O,U,f,q⟩ _=>bQ (fE S x O/\fE S y U/\bp e) (f1 f) (λ⟨⟨⟨u,h⟩,k⟩,⟨⟨v,g⟩,l⟩,n⟩ _ a d=>by
    subst u v;exact q rr (d.ok.no _ k.1) (d.ok.no _ l.1) (a d) h.1 g.1 (aJ n)) (r.E S e)
   |.Call (.Name y _) [a,b] [] _,[]=>c6 (fE S x "list"/\fE S y "zip"/\bp a/\bp b) fLZ (λ⟨⟨⟨u,h⟩,k⟩,⟨⟨v,g⟩,l⟩,n,m⟩ _ _ a b d=>by
    subst u v;exact By rr (d.ok.no _ k.1) (d.ok.no _ l.1) (a d) (b d) h.1 g.1 (by rw[aJ n,aJ m];rfl) (aJ m) rr) (r.E S a) (r.E S b)
   |_,_=>λ_=>none
 |.Name x _,[e],[⟨some ka,M,_⟩]=>bP λi=>match i with
  |0=>c6 (fE S x "max"/\ka = "key"/\bp e) CH (λ⟨⟨⟨u,h⟩,k⟩,v,n⟩ _ _ a b d=>by
   subst u v;exact Pe mmx (d.ok.no _ k.1) (a d) (b d).1 d.rm h.1 (aJ n)) (r.E S e) (zu r S M)
  |1=>c6 (fE S x "min"/\ka = "key"/\bp e) CJ (λ⟨⟨⟨u,h⟩,k⟩,v,n⟩ _ _ a b d=>by
   subst u v;exact Pe mmn (d.ok.no _ k.1) (a d) (b d).1 d.rm h.1 (aJ n)) (r.E S e) (zu r S M)
  |3=>c6 (fE S x "sorted"/\ka = "key"/\bp e) B3 (λ⟨⟨⟨u,h⟩,k⟩,v,n⟩ _ _ a b d=>by
   subst u v;exact Pc (Jk (lU d.rm)) (d.ok.no _ k.1) (a d) (b d).2 h.1 (aJ n)) (r.E S e) (zu r S M)
  |4=>match e with
   |.Call (.Name y _) [a] [] _=>c6 (fE S x "sorted"/\fE S y "range"/\ka = "key"/\bp a) Ju (λ⟨⟨⟨u,h⟩,k⟩,⟨⟨v,g⟩,l⟩,t,n⟩ _ _ a b d=>by
    subst u v t;exact VG rr (d.ok.no _ k.1) (d.ok.no _ l.1) (a d) (b d).2 h.1 g.1 (aJ n)) (r.E S a) (zu r S M)
   |_=>λ_=>none
  |_=>c6 (fE S x "sorted"/\ka = "key"/\bp e) xl (λ⟨⟨⟨u,h⟩,k⟩,v,n⟩ _ _ a b d=>by
   subst u v;exact Pc II (d.ok.no _ k.1) (a d) (b d).2 h.1 (aJ n)) (r.E S e) (zu r S M)
 |.Attribute o n ap,[e],[]=>bP λi=>match i,o,e with
  |9,o,.Tuple es _ _=>c6 (n = "get"/\uI o/\ap.endLine == p.line) Jf (λ⟨u,a,l⟩ _ _ x y d=>by subst u;exact Jg (T5 (lU d.rm)) (x d) (y d) ⟨gH a,rr,l,rr⟩) (r.E S o) (pA r S es)
  |i+10,.Subscript (.Name x _) b _,e=>cu S.g.ds i λ⟨y,c⟩ m=>c6 (p8 S x y/\n = "index"/\bp b/\bp e/\ap.endLine == p.line) (f2 (ma c)) (λ⟨⟨u,h⟩,v,hb,he,hl⟩ _ _ a b d=>by
   subst u v;exact MT (d.ok.ds _ m) (a d) (b d) h.1 h.2 (rA hb) rr (eY he) hl (aJ he)) (r.E S b) (r.E S e)
  |i,o,e=>cu RS i λ⟨j,f,q⟩ _=>c6 (n=j/\uI o/\bp e/\ap.endLine == p.line) (f2 f) (λ⟨u,a,b,l⟩ _ _ x y d=>by subst u;exact q (T5 (lU d.rm)) (x d) (y d) a b l) (r.E S o) (r.E S e)
 |_,_,_=>λ_=>none
def RU:(e:Expr)->b8 (rz S e)
 |.Name x _=>bP λi=>
  if i<50 then dS (np S i x) (am i) λh _=>QA i h.1 h.2.1 h.2.2.1 h.2.2.2
  else if i<80 then cu S.g.cs (i - 50) λ⟨y,c⟩ m=>dS (p8 S x y) (fC c) λ⟨u,h⟩ d=>by subst u;exact HP (d.ok.cs _ m) h.1 h.2
  else cu RO (i - 80) λ⟨y,n,b⟩ _=>dS (fE S x y) (fC (.ty n)) λ⟨⟨u,h⟩,k⟩ d=>by subst u;exact UZ (d.ok.no _ k.1) b h.1 k.2 h.2
 |.Constant (.int _) ..=>dS True _ λ_ _=>QB
 |.Constant (.bool _) ..=>dS True _ λ_ _=>UH
 |.Constant .none ..=>dS True _ λ_ _=>QC
 |.Constant (.str _) ..=>dS True _ λ_ _=>QE
 |.BoolOp _ [a] _=>p7 (λ_ x d=>QN (x d)) (r.E S a)
 |.BoolOp .And (a::b::t) p=>c6 True HH (λ_ _ _ x y d=>QM (x d) (y d)) (r.E S a) (r.E S (.BoolOp .And (b::t) p))
 |.BoolOp .Or (a::b::t) p=>c6 True UL (λ_ _ _ x y d=>UM (x d) (y d)) (r.E S a) (r.E S (.BoolOp .Or (b::t) p))
 |.UnaryOp .Not a _=>bQ True HI (λ_ _ x d=>QO (x d)) (r.E S a)
 |.UnaryOp .USub a _=>bQ True (f1 Fp) (λ_ _ x d=>UJ Vd (x d)) (r.E S a)
 |.BinOp a op b _=>bP λi=>cu RN i λ⟨M,f,q⟩ _=>c6 (op=M) (f2 f) (λh _ _ x y d=>by subst h;exact UI q (x d) (y d)) (r.E S a) (r.E S b)
 |.Compare a ops bs p=>bP λi=>if i<20 then p7 (λ_ h=>h.1) (J7 r S i p a ops bs)else match ops,bs with
  |[.In],[b]=>c6 (bp b) (f2 inK) (λh _ _ x y d=>RF (T5 (lU d.rm)) (x d) (y d) (nv h)) (r.E S a) (r.E S b)
  |_,_=>λ_=>none
 |.Subscript a (.Slice lo hi none _) _=>zq True GJ (λ_ _ _ _ x y z d=>Ib (x d) (y d) (z d)) (r.E S a) (Pl r S lo) (Pl r S hi)
 |.Subscript a b _=>bP λi=>match i,a with
  |0,a=>c6 (bp b) (f2 dM) (λh _ _ x y d=>UX (x d) (y d) (rA h)) (r.E S a) (r.E S b)
  |i+2,.Name x _=>cu S.g.ds i λ⟨y,c⟩ m=>bQ (p8 S x y/\bp b) (f1 (yF c)) (λ⟨⟨u,h⟩,n⟩ _ x d=>by subst u;exact MC (d.ok.ds _ m) (x d) h.1 h.2 (rA n)) (r.E S b)
  |_,_=>λ_=>none
 |.Tuple es _ _=>bQ True (fA cG) (λ_ _ x d=>QP (x d)) (pA r S es)
 |.List es _=>bQ True (fA gu) (λ_ _ x d=>QQ (x d)) (pA r S es)
 |.ListComp O [⟨tg,it,U,j⟩] sc p=>p7 (λ_ h=>h.1) (J8 r S O tg it U j sc p)
 |.Call f as ks p=>RT r S p f as ks
 |_=>λ_=>none
def RV:(e:Expr)->b8 (CS S e)
 |.UnaryOp .Not a _=>bQ True mJ (λ_ _ x d=>QL (x d)) (r.T S a)
 |.BoolOp op es p=>p7 (λ_ x d=>Zy (x d)) (r.W S (.BoolOp op es p))
 |.Compare a ops bs p=>bP λi=>if i<20 then bQ True bW (λ_ _ h=>h.2) (J7 r S i p a ops bs)else match i,ops,bs with
  |i,[.NotIn],[.Name x q]=>cu S.g.ds (i - 30) λ⟨y,c⟩ m=>bQ True bW (λ_ _ x=>x) (bQ (J1:=λf=>CS S (.Compare a [.NotIn] [.Name x q] p) (bW f)) (p8 S x y) (f1 (Bf c)) (λ⟨u,h⟩ _ x d=>by subst u;exact FC (d.ok.ds _ m) (x d) h.1 h.2 rr) (r.E S a))
  |_,_,_=>λ_=>none
 |e=>bQ (Pk e) bW (λh _ x d=>QH (x d) (Jy h)) (r.E S e)
def RW:(e:Expr)->b8 (Ph S e)
 |.BoolOp .Or [a] _=>p7 (λ_ x d=>QJ (x d)) (r.T S a)
 |.BoolOp .Or (a::b::t) p=>c6 True lQ (λ_ _ _ x y d=>UK (x d) (y d)) (r.T S a) (r.W S (.BoolOp .Or (b::t) p))
 |.BoolOp .And [a] _=>p7 (λ_ x d=>Mv (x d)) (r.T S a)
 |.BoolOp .And (a::b::t) p=>c6 True gm (λ_ _ _ x y d=>QK (x d) (y d)) (r.T S a) (r.W S (.BoolOp .And (b::t) p))
 |_=>λ_=>none
end
def CW:Nat->Rj
 |0=>⟨λ_ _ _=>none,λ_ _ _=>none,λ_ _ _=>none⟩
 |n+1=>⟨RU (CW n),RV (CW n),RW (CW n)⟩
def Po (S:Sq):(tg:Expr)->b8 λM=>∀d:Yq S,∃t,PG (bX S d) tg t/\L0 d.K M t
 |.Name x _=>bP λi=>dS (fO S i x) (gn i) λh d=>⟨_,uJ S d h,HC⟩
 |.Tuple [.Name x _,.Name y _] _ _=>bP λi=>bP λj=>dS (fO S i x/\fO S j y) (C3 [i,j]) λh d=>⟨_,Pn S d h.1 h.2,Vu⟩
 |_=>λ_=>none
section
variable (B:∀S b,b8 (Pj S b)) (S:Sq)
abbrev dG:Rj:=CW 24
def JF (p:Pos)(tg it:Expr)(b:List Stmt):b8 (Jx S (.For tg it b [] p)):=bP λi=>match i,it with
 |0,it=>zq (bp it) AW (λh _ _ _ x y z d=>let ⟨_,a,k⟩:=y d;VC (x d) a k (z d) PassesOwn.never rr λx=>nu h x) (Pm dG S tg it) (Po S tg) (B S b)
 |_,.Call (.Name x _) [a] [] _=>zq (fE S x "range"/\bp a) ud (λ⟨⟨⟨u,h⟩,k⟩,n⟩ _ _ _ x y z d=>by
   subst u;obtain⟨t,a,l⟩:=y d;exact VD (x d h.1 (d.ok.no _ k.1) (aJ n)) a l (z d) PassesOwn.never rr λx=>nu rr x)
   (bQ (J1:=λf=>∀d:Yq S,Gl (bX S d) "range"->d.mg "range" = none->starEach [a] (bX S d).env=[(false,eval a (bX S d).env)]->∀ {p q:Pos},PI (bX S d) tg (.Call (.Name "range" q) [a] [] p) (UG d.K f)) True lV (λ_ _ x d h m n _ _=>y9 m (x d) h n) (dG.E S a)) (Po S tg) (B S b)
 |_,_=>λ_=>none
def JG:(st:Stmt)->b8 (Jx S st)
 |.Return (some e) _=>bP λi=>match i,e with
  |0,e=>bQ True AU (λ_ _ x d=>HJ (x d)) (dG.E S e)
  |90,.Tuple [a,b] _ _=>bQ True AU (λ_ _ x d=>HJ (x d)) (c6 (J2:=rz S (.Tuple [a,b] _ _)) (bp a/\bp b) Jr (λh _ _ x y d=>No (x d) (y d) (aJ h.1) (aJ h.2)) (dG.E S a) (dG.E S b))
  |i+1,.Name x _=>dS (np S i x) (pq i) λh _=>Mx i h.1 h.2.1 h.2.2.1 h.2.2.2
  |_,_=>λ_=>none
 |.If c a b _=>zq True A7 (λ_ _ _ _ x y z d=>UV (x d) (y d) (z d)) (dG.T S c) (B S a) (B S b)
 |.Assign [.Name x q] (.ListComp M [⟨tg,it,O,U⟩] sc p) sp=>bP λi=>if i<50 then bQ (fO S i x/\S.sc.names.lookup x=some .local/\S.sc.kind=.function/\(q.line == p.line)/\(sc.names.any λ(n,k)=>n == x && (k == .local || k == .cell))=false) (eQ i) (λh _ y=>y.2 _ _ _ _ h.1 (λd=>by
   show pure ((if S.sc.kind.isAnnotationScope then ScopeKind.function else S.sc.kind) == ScopeKind.function && S.sc.names.lookup x == some NameKind.local && q.line == p.line && !(sc.names.any λ(n,k)=>n == x && (k == .local || k == .cell)))=_;rw[h.2.2.2.2,h.2.2.2.1,h.2.1,h.2.2.1];rfl) h.2.1) (J8 dG S M tg it O U sc p)
  else λ_=>none
 |.Assign [.Tuple [.Name x _,.Name y _] _ _] (.Subscript a b q) _=>bP λi=>bP λj=>bQ (fO S i x/\fO S j y) (yG [i,j]) (λh _ x d=>MF (x d) (Rx rr (f6 (uJ S d h.1) (f6 (uJ S d h.2) qc)) rr rr) rr rr rr) (dG.E S (.Subscript a b q))
 |.Assign [.Name x _] (.Dict [] [] _) _=>bP λv=>bP λi=>match v with
  |0=>dS (fO S i x) (IT i) λh d=>Nc d.nd h.1 h.2.1 rr h.2.2
  |1=>dS (fO S i x) (IU i) λh d=>Nd d.nd h.1 h.2.1 rr h.2.2
  |_=>λ_=>none
 |.Assign [.Name x _] e _=>bP λv=>bP λi=>match v with
  |0=>bQ (fO S i x/\r6 e) (eQ i) (λh _ x d=>QW d.nd (x d) h.1.1 h.1.2.1 (iX h.2) h.1.2.2) (dG.E S e)
  |1=>bQ (fO S i x/\r6 e) (Cr i) (λh _ x d=>My d.nd (x d) h.1.1 h.1.2.1 (iX h.2) h.1.2.2) (dG.E S e)
  |_=>λ_=>none
 |.Assign [.Subscript (.Name y _) k _] e _=>bP λv=>bP λi=>match v,k with
  |0,k=>c6 (np S i y/\bp k/\r6 e) (MG i) (λh _ _ x z d=>Ry (z d) (x d) h.1.1 h.1.2.1 h.1.2.2.1 h.1.2.2.2 (by have:=h.2.1;intro _;cases k<;>first|rfl|cases this) (by unfold swapsWithSole;exact iX h.2.2) rr rr) (dG.E S k) (dG.E S e)
  |1,k=>c6 (np S i y/\r6 e) (zh i) (λh _ _ x z d=>Nf (T5 (lU d.rm)) (z d) (x d) h.1.1 h.1.2.1 h.1.2.2.1 h.1.2.2.2 (iX h.2)) (dG.E S k) (dG.E S e)
  |2,k=>c6 (np S i y/\r6 e) (rq i) (λh _ _ x z d=>Jp (T5 (lU d.rm)) (z d) (x d) h.1.1 h.1.2.1 h.1.2.2.1 h.1.2.2.2 (iX h.2)) (dG.E S k) (dG.E S e)
  |3,.Tuple es _ _=>c6 (np S i y/\r6 e) (uF i) (λh _ _ x z d=>Ng (T5 (lU d.rm)) (z d) (x d) h.1.1 h.1.2.1 h.1.2.2.1 h.1.2.2.2 (iX h.2)) (pA dG S es) (dG.E S e)
  |_,_=>λ_=>none
 |.For tg it b [] p=>bP λn=>match n with
  |0=>JF B S p tg it b
  |n=>CT n λu=>bQ True (Y8 u) (λ_ _ x d=>Vw u (x d)) (JF B S p tg it b)
 |.While c b [] _=>bP λn h=>match dG.T S c h with
  |none=>none
  |some (⟨f,o,p⟩,h)=>match B S b h with
   |none=>none
   |some (⟨g,o',r⟩,h)=>some (⟨cn f g n,o && o',λe d=>HK n PassesOwn.never (p (CU e) d) (r (CV e) d)⟩,h)
 |.Expr (.Call (.Attribute (.Name x _) m ap) [e] [] cp) _=>bP λv=>bP λi=>match v with
  |0=>bQ (np S i x/\m = "append"/\bp e/\ap.endLine == cp.line) (tJ i) (λ⟨h,u,n,l⟩ _ x d=>by subst u;exact QY (x d) h.1 h.2.1 h.2.2.1 h.2.2.2 rr (eY n) l (aJ n) rr) (dG.E S e)
  |1=>bQ (np S i x/\m = "extend"/\bp e/\ap.endLine == cp.line) (Ir i) (λ⟨h,u,n,l⟩ _ x d=>by subst u;exact Rz (x d) h.1 h.2.1 h.2.2.1 h.2.2.2 rr (eY n) l (aJ n) rr) (dG.E S e)
  |_=>λ_=>none
 |.Expr (.Call (.Attribute (.Name x _) m ap) [] [] cp) _=>bP λi=>dS (np S i x/\m = "pop"/\ap.endLine == cp.line) (Iq i B6) λ⟨h,u,l⟩ d=>by subst u;exact RM h.1 h.2.1 h.2.2.1 h.2.2.2 rr l rr
 |.Raise ..=>dS True qN λ_ _=>Il
 |.Continue _=>dS True Ik λ_ _=>MB
 |_=>λ_=>none
end
def rC:Nat->∀S b,b8 (Pj S b)
 |0,_,_=>λ_=>none
 |_+1,_,[]=>dS True qG λ_ _=>QT
 |n+1,S,[st]=>p7 (λ_ x d=>QU (x d)) (JG (rC n) S st)
 |n+1,S,st::t::l=>c6 True cb (λ_ _ _ x y d=>Mw (x d) (y d)) (JG (rC n) S st) (rC n S (t::l))
noncomputable def B8 {α:Type}{J:α->Prop}:Option (Oj J×LN)->Option α
 |some (⟨f,_,_⟩,_)=>some f
 |none=>none
noncomputable def B9 {α:Type}{J:α->Prop}:Option (Oj J×LN)->Bool
 |some (⟨_,o,_⟩,_)=>o
 |none=>false
theorem Nt {α:Type}{J:α->Prop}{g:α}:∀ {o:Option (Oj J×LN)},B9 o=true->J ((B8 o).getD g)
 |some (⟨_,_,p⟩,_),k=>p k
@[simp] noncomputable abbrev ay (o:Option FS)(g:FS)(_:o=some g):FS:=g
noncomputable def VM (n:Nat)(l:List Stmt):List Stmt:=
 match l[n / 2]?,n % 2 with
 |some (.For _ _ b _ _),_=>b
 |some (.While _ b _ _),_=>b
 |some (.If _ a _ _),0=>a
 |some (.If _ _ b _),_=>b
 |_,_=>[]
structure Wq where
 G:Gq
 x:Str
 st:Stmt
 N:List Str
 k:Nat
 h:List Nat
def Wq.S (w:Wq):Sq:=⟨w.G,w.N,a9 w.st,(a9 w.st).names.filterMap λy=>if(a9 w.st).names.lookup y.1=some .cell then some y.1 else none,w.k,true,if w.x∈w.G.ls then some w.x else none⟩
def Wq.r (w:Wq):Option FS:=B8 (rC 40 w.S (bq w.st) w.h)
def Wq.b (w:Wq)(l h:LN):Option FS:=B8 (rC 40 w.S (l.foldl (λl n=>VM n l) (bq w.st)) h)
noncomputable def Wq.gt (w:Wq)(F:LD->OB):Gq:=⟨(w.x,w.k+1,F)::w.G.fs,w.G.cs,w.G.ds,w.G.no,w.G.ls,w.G.dd⟩
noncomputable def Wq.gD (w:Wq)(F:LD->OB):Gq:=⟨w.G.fs,w.G.cs,w.G.ds,w.G.no,w.G.ls,(w.x,w.k+1,F)::w.G.dd⟩
section
variable {P:Program}{w:World}{K:Frag}{mg:SV}{base:Heap}
abbrev a6 (w:World)(K:Frag)(mg:SV)(g:Gq):Prop:=∀ {P base},g.Ok P w K mg base
def Wq.js (W:Wq)(o:B9 (rC 40 W.S (bq W.st) W.h))(M:W.G.Ok P w K mg base)
  {f:Addr}{c9:Value}{A:Around}{outer:List PySem.Env}{s:Shared}{H:Hp}{E:XK}(nd:W.N.Nodup) (O:dn W.k (A.deeper (envOfC W.x (a9 W.st) s.z f c9))) (hc:W.x∈W.G.ls->∀c P,PySem.W.tabIn K W.x=some (c,P)->c9=.ref c):
  yf (pP yo P w K mg base W.N W.x (a9 W.st) f c9 A outer s H E).nox (bq W.st) (W.r.getD qN):=by
 refine Nt o ⟨P,w,K,mg,base,_,s,H,envOfC W.x (a9 W.st) s.z f c9,outer,envOfC W.x (a9 W.st) s.z f c9::outer,[],O,λy hy=>?_,nd,M,λy e=>?_⟩
 .obtain⟨z,hz,e⟩:=mem_filterMap.mp hy;split at e
  .cases e;exact Option.isSome_iff_exists.mpr (qB ‹_›)
  .cases e
 .have e:(if W.x∈W.G.ls then some W.x else none)=some y:=e;split at e
  .cases e;exact⟨rr,hc ‹_›⟩
  .cases e
def Wq.o {O:LD->OB}(W:Wq)(F:bL K W.x W.st)(U:a6 w K mg W.G)(n:Nat)
  (o:B9 (rC 40 W.S (bq W.st) W.h):=by decide +kernel)
  (S:FnScope W.N (W.N.take n) (a9 W.st):=by refine⟨rr,rr,rr,?_,rr,?_,?_⟩<;>decide +kernel)
  (M:∀(kV doc pm:Value)(an:Option Addr)(c9 ct:Value)(us:LU),us.length=(W.N.take n).length->bindArgs (fnOf W.x W.x (df W.st) (bq W.st) (a9 W.st) .none kV doc pm an c9 ct) ⟨us,[]⟩=pure ((W.N.take n).zip us):=by
   exact λ_ _ _ _ _ _=>Jl _ _ (by(repeat intro);rfl))
  (e:ax (W.r.getD qN) (W.N.take n).length (W.N.length - (W.N.take n).length)=O:=by kernel_rfl):a6 w K mg (W.gt O):=λ{P base}=>
 have q:W.G.Ok P w K mg base:=U
 ⟨q.hx,λt h=>by
  rcases vP h with h|h
  .subst h;exact F.fqL q.hx _ W.N n (λnd a _ hc=>W.js o q nd a λ_=>hc) S M e
  .exact q.fs _ h,q.cs,q.ds,q.no,q.ls,q.dd⟩
end
end DL
namespace DL
open PySem L2
def cW (I:Nat->Env->Prop)(ds:LD)(O:Env)(h0:I 0 O)
  (step:∀i d ρ,ds[i]? = some d->I i ρ->∃M ρ',tg d ρ=some M/\(g M=some (.nx ρ')\/g M=some (.ct ρ'))/\I (i+1) ρ'):
  ∃ρ',f7 tg g ds O=some (.nx ρ')/\I ds.length ρ':=by
 have U:∀(es:LD)(i:Nat)(ρ:Env),ds.drop i=es->i+es.length=ds.length->I i ρ->∃ρ',f7 tg g es ρ=some (.nx ρ')/\I ds.length ρ':=by
  intro es;induction es with
  |nil=>simp_all
  |cons d es ih=>
   intro i ρ e hl h;have hd:ds[i]? = some d:=by
    have:(ds.drop i)[0]? = some d:=by rw[e];rfl
    grind
   obtain⟨M,ρ',h1,h2,h3⟩:=step i d ρ hd h;have he:ds.drop (i+1)=es:=by rw[<-List.drop_drop,e];rfl
   obtain⟨a,k1,k2⟩:=ih _ _ he (by simp at hl;lia) h3;refine⟨a,?_,k2⟩;simp_all<;>lia
 exact U ds 0 _ H9 H9 h0
def rE (n:Nat)(I:Nat->Env->Prop)(O:Env)(h0:I 0 O)
  (step:∀(i:Nat) ρ,i<n->I i ρ->∃M ρ',tg (.int (i:Int)) ρ=some M/\(g M=some (.nx ρ')\/g M=some (.ct ρ'))/\I (i+1) ρ'):
  ∃ρ',f7 tg g (cS 0 n) O=some (.nx ρ')/\I n ρ':=by
 have hl:(cS 0 n).length=n:=by simp[cS]
 obtain⟨ρ',h1,h2⟩:=cW I (cS 0 n) _ h0 λi d ρ hd h=>by
  unfold cS at hd;rw[vA]at hd;refine eB hd λk hk hd=>?_;obtain⟨U,hk⟩:=vV hk;rw[length_range]at U;rw[getElem_range]at hk;subst hk;rw[Int.zero_add]at hd;subst hd;exact step i ρ U h
 simp_all
def jp {α:Type}{xs:List α}{j:Nat}(h:j<xs.length):lD xs (j:Int)=some xs[j]:=Ma (by simp )
def xu {α:Type}{xs:List α}{i:Int}(h0:0<=i)(h:i.toNat<xs.length):lD xs i=some xs[i.toNat]:=by
 have:=jp h;rwa [Int.toNat_of_nonneg h0]at this
@[simp] def zv (xs:LI):aN (xs.map D.int)=true:=by
 induction xs with
 |nil=>simp
 |cons x xs ih=>simp[ih]
@[simp] def L6 (n:Nat)(xs:LI):(xs.map D.int).all (aG n)=true:=by
 simp
@[simp] def Nu (xs:LI):(xs.map D.int).all iR=true:=by
 simp
def FX (n:Nat):cS 0 n=((List.range n).map λ(k:Nat)=>(k:Int)).map D.int:=by
 simp_all[cS]
mutual
noncomputable def nw:D->D->Bool
 |.non,.non=>true
 |.bl a,.bl b=>a == b
 |.int a,.int b=>decide (a=b)
 |.str a,.str b=>decide (a=b)
 |.ty a,.ty b=>decide (a=b)
 |.tup xs,.tup ys=>rF xs ys
 |.lst xs,.lst ys=>rF xs ys
 |_,_=>false
noncomputable def rF:LD->LD->Bool
 |[],[]=>true
 |x::xs,y::ys=>nw x y && rF xs ys
 |_,_=>false
end
mutual
theorem CY:∀ {x y:D},nw x y=true->x=y
 |.non,.non,_=>rr
 |.bl a,.bl b,h=>by rw[show a=b from eq_of_beq h]
 |.int a,.int b,h=>by rw[show a=b from of_decide_eq_true h]
 |.str a,.str b,h=>by rw[show a=b from of_decide_eq_true h]
 |.ty a,.ty b,h=>by rw[show a=b from of_decide_eq_true h]
 |.tup xs,.tup ys,h=>by rw[rG h]
 |.lst xs,.lst ys,h=>by rw[rG h]
theorem rG:∀ {xs ys:LD},rF xs ys=true->xs=ys
 |[],[],_=>rr
 |x::xs,y::ys,h=>by
  have h:=Bool.and_eq_true_iff.mp h;rw[CY h.1,rG h.2]
end
def Y9 (r:OB)(d:D)(b:Bool):Bool:=match r with
 |some (e,c)=>nw e d && c == b
 |none=>false
def xw (h:Y9 r d b=true):r=some (d,b):=by
 rcases r with _|⟨e,c⟩
 .cases h
 .have h:=Bool.and_eq_true_iff.mp h;rw[CY h.1,eq_of_beq h.2]
section
variable {f:FE}{c:FT}{g g' h:FS}{ρ ρ':Env}{i:Nat}{d:D}{b:Bool}{r:Option Res}{ds:LD}
def ah (hl:ds.length=n)(e:g (ds.map (λd=>some (d,false))++List.replicate k none)=some (.rt d b)):ax g n k ds=some (d,b):=by
 unfold ax;rw[if_pos hl,e]
def FY (n:aQ d=true):setE ρ i d b=ρ.set i (some (d,false)):=by unfold setE;rw[if_pos n]
def JH (n:aN ds=true):setE ρ i (.lst ds) true=ρ.set i (some (.lst ds,true)):=by
 simp_all
def Pp (e:f ρ=some (d,b))(k:h (setE ρ i d b)=r):cb (eQ i f) h ρ=r:=by simp[e];exact k
def BA (e:f ρ=some (d,b))(n:aQ d=true)(k:h (ρ.set i (some (d,false)))=r):cb (eQ i f) h ρ=r:=Pp e (by rw[FY n];exact k)
def bw (e:f ρ=some (.lst ds,true))(n:aN ds=true)(k:h (ρ.set i (some (.lst ds,true)))=r):cb (eQ i f) h ρ=r:=Pp e (by rw[JH n];exact k)
def bR (e:g ρ=some (.nx ρ'))(k:h ρ'=r):cb g h ρ=r:=by unfold cb;rw[e];exact k
def RX (e:g ρ=some (.rt d b)):cb g h ρ=some (.rt d b):=by unfold cb;rw[e]
def ZT (e:g ρ=some (.ct ρ')):cb g h ρ=some (.ct ρ'):=by unfold cb;rw[e]
def mh (e:c ρ=some true)(k:g ρ=r):A7 c g g' ρ=r:=by unfold A7;rw[e];exact k
def jX (e:c ρ=some false)(k:g' ρ=r):A7 c g g' ρ=r:=by unfold A7;rw[e];exact k
def VN (e:c ρ=some x)(M:x=true->g ρ=r)(O:x=false->g' ρ=r):A7 c g g' ρ=r:=by
 cases x with
 |true=>exact mh e (M rr)
 |false=>exact jX e (O rr)
def aT (e:c ρ=some true)(k:g ρ=some (.rt d b)):cb (A7 c g g') h ρ=some (.rt d b):=RX (mh e k)
def ao (e:c ρ=some false)(k:h ρ=r):cb (A7 c g qG) h ρ=r:=bR (jX e rr) k
def aj (e:f ρ=some (d,b)):AU f ρ=some (.rt d b):=by simp[e]
def fW (e:ρ[i]? = some (some (d,b)))(hb:Hy d=false:=by rfl):pq i ρ=some (.rt d b):=by simp only[pq,e,hb];simp
def ej (e:f ρ=some (d,b))(n:aQ d=true):eQ i f ρ=some (.nx (ρ.set i (some (d,false)))):=by
 simp_all
def xx (e:f ρ=some (.lst ds,true))(n:aN ds=true):eQ i f ρ=some (.nx (ρ.set i (some (.lst ds,true)))):=by
 simp_all
def iE (e:ρ[i]? = some (some (.lst ds,true)))(M:f ρ=some (d,b))(n:aQ d=true)(l:ds.length<sizeLine):tJ i f ρ=some (.nx (ρ.set i (some (.lst (ds++[d]),true)))):=by
 simp[e,M,n,l]
def VO (e:ρ[i]? = some (some (.lst ds,true)))(M:f ρ=some (d,b))(n:aQ d=true)(l:ds.length<sizeLine)(k:h (ρ.set i (some (.lst (ds++[d]),true)))=r):cb (tJ i f) h ρ=r:=bR (iE e M n l) k
def jY (e:fi ρ=some ds)(k:f7 tg g ds ρ=some (.nx ρ')):ud fi tg g ρ=some (.nx ρ'):=by unfold ud;rw[e];exact k
def fX (e:fi (iP ρ)=some ds)(k:f7 tg g ds ρ=some (.nx ρ')):AW fi tg g ρ=some (.nx ρ'):=by unfold AW;rw[e];exact k
def ge {f:FE}{j:Nat}(e:f ρ=some (.int j,b))(hj:j<=1000):lV f ρ=some (cS 0 j):=by
 simp_all<;>lia
def bD (e:f ρ=some (.bl x,b)):bW f ρ=some x:=by unfold bW;rw[e]
def aF (e:fa ρ=some ds)(k:F ds=x):fA F fa ρ=x:=by simp_all
def iY {f1 g1:D->D->OB}{fa M O:FE}{x y z:D}{b1 b2 b3 b4 p q:Bool}(U:fa ρ=some (x,b1))(a:M ρ=some (y,b2))(e:O ρ=some (z,b3))(j:f1 x y=some (.bl p,b4))(e2:p=true->g1 y z=some (.bl q,false)):jO f1 g1 fa M O ρ=some (.bl (p && q),false):=by
 unfold jO;rw[U,a,e];simp [vJ,j];cases p
 .rfl
 .exact e2 rr
def ce {f1 f2:FE}{p q b1:Bool}(M:f1 ρ=some (.bl p,b1))(e2:p=true->f2 ρ=some (.bl q,false)):HH f1 f2 ρ=some (.bl (p && q),false):=by
 unfold HH;rw[M];cases p
 .rfl
 .exact e2 rr
def rH {f1 f2:FE}{p q b1:Bool}(M:f1 ρ=some (.bl p,b1))(e2:p=false->f2 ρ=some (.bl q,false)):UL f1 f2 ρ=some (.bl (p || q),false):=by
 unfold UL;rw[M];cases p
 .exact e2 rr
 .rfl
def Nv {f1:FE}{p b1:Bool}(M:f1 ρ=some (.bl p,b1)):HI f1 ρ=some (.bl (!p),false):=by
 unfold HI;rw[M]
def a8 (M:f ρ=some (d,b))(e2:O ρ=some xs):ak f O ρ=some (d::xs):=by
 simp_all
def eZ (M:fa ρ=some (x,b1))(e2:U ρ=some (y,b2))(O:op x y=z):f2 op fa U ρ=z:=by
 simp_all
def bS (M:O ρ=some p)(e2:p=true->c2 ρ=some q):gm O c2 ρ=some (p && q):=by
 unfold gm;rw[M];cases p
 .rfl
 .exact e2 rr
def bY (M:O ρ=some p)(e2:p=false->c2 ρ=some q):lQ O c2 ρ=some (p || q):=by
 unfold lQ;rw[M];cases p
 .exact e2 rr
 .rfl
def bi (M:O ρ=some p):mJ O ρ=some (!p):=by
 unfold mJ;rw[M];rfl
end
theorem VP (a c:Nat):decide ([a]<[c])=decide (a<c):=by
 simp_all[cons_lt_cons_iff]
@[simp] def CZ (a c:Nat):L1 (.str ⟨#[a]⟩) (.str ⟨#[c]⟩)=some (.bl (decide (a<=c)),false):=by
 grind[L1,VP]
def bu (h:n<=100000):n<sizeLine:=lt_of_le_of_lt h P9
def c7 (h:n<=100000):n<=sizeLine:=le_of_lt (bu h)
def eA {α:Type}(l:List α)(g:α->D)(p:α->Bool)(h:α->D)(e:fi ρ=some (l.map g))(hl:l.length<=100000)
  (k:∀x∈l,∃M,tg (g x) (cc nT cap ρ)=some M/\c M=some (p x)/\(p x=true->∃b,fe M=some (h x,b))):jN fi nT cap tg c fe ρ=some (.lst ((l.filter p).map h),true):=by
 have U:∀O:List α,(∀x∈O,x∈l)->fL tg c fe (cc nT cap ρ) (O.map g)=some ((O.filter p).map h):=by
  intro O;induction O with
  |nil=>simp
  |cons x O ih=>
   grind[mX,AX]
 unfold jN;rw[e,vJ,if_pos (c7 (by simpa using hl)),U l λ_ h=>h,Option.map_some]
def gI {α:Type}(l:List α)(g:α->D)(h:α->D)(e:fi ρ=some (l.map g))(hl:l.length<=100000)
  (k:∀x∈l,∃M,tg (g x) (cc nT cap ρ)=some M/\∃b,fe M=some (h x,b)):jN fi nT cap tg yw fe ρ=some (.lst (l.map h),true):=by
 have:=eA (c:=yw) l g _ h e hl λx hx=>by
  obtain⟨M,h1,h2⟩:=k x hx;exact⟨M,h1,rr,λ_=>h2⟩
 rw[List.filter_eq_self.mpr λ_ _=>rr]at this;exact this
@[simp] def JJ {α:Type}(f:α->Bool)(l:List α):wR (l.map λx=>.bl (f x))=some (l.map f):=by
 induction l with
 |nil=>rfl
 |cons x l ih=>simp[ih]
def AN (h0:0<=i)(h:i.toNat<z.cps.size)(hz:z.length<=100000):dM (.str z) (.int i)=some (.str ⟨#[z.cps.toList.getD i.toNat 0]⟩,false):=by
 simp_all[c7,xu]
def RY (h0:0<=i)(h:i.toNat<ds.length):dM (.lst ds) (.int i)=some (ds.getD i.toNat .non,false):=by
 simp_all[xu]
def Hl (h0:0<=i)(h:i.toNat<ds.length):dM (.tup ds) (.int i)=some (ds.getD i.toNat .non,false):=by
 simp_all[xu]
def Db {xs:LI}{i:Int}(h0:0<=i)(h:i.toNat<xs.length):dM (.lst (xs.map .int)) (.int i)=some (.int (xs.getD i.toNat 0),false):=by
 rw[RY h0 (by simpa using h)];simp[h]
def FZ (z:Str):yC z=z.cps.toList.map λc=>.str ⟨#[c]⟩:=rfl
def mod_lt {x m:Int}(hm:0<m):0<=x % m/\x % m<m:=⟨Int.emod_nonneg _ N9,Int.emod_lt_of_pos _ hm⟩
def ie:jR [.lst ds]=some (.int ds.length,false):=rfl
def RZ:kU (.bl i) (.bl j)=some (.bl (i == j),false):=H9
def aX (x y:D)(M:fa ρ=some (x,false))(e2:U ρ=some (y,false))(O:op x y=z):f2 op fa U ρ=z:=eZ M e2 O
def cw (e:f ρ=some (.bl x,false)):bW f ρ=some x:=bD e
def aO (M:f ρ=some (d,false))(e2:O ρ=some xs):ak f O ρ=some (d::xs):=a8 M e2
def a5 (ds:LD)(e:fa ρ=some ds)(k:F ds=x):fA F fa ρ=x:=aF e k
def eC (d:D)(e:f ρ=some (d,false))(n:aQ d=true)(k:h (ρ.set i (some (d,false)))=r):cb (eQ i f) h ρ=r:=BA e n k
end DL
set_option backward.eqns.nonrecursive true
namespace Lw
open PySem PySem.Spec PyProof.Rows L2 DL
def lM:D:=(.int 255)
def rJ:D:=(.int 9999)
def jZ:D:=(.int 9)
def kg:D:=(.int 8)
def lN:D:=(.int 20)
def iF:D:=(.int 8)
def kh:D:=(.int 60)
noncomputable def zw:D:=(.tup [(.str "paper"),(.str "like"),(.str "copy")])
noncomputable def bZ:List (PySem.Str×D):=[(("root" : Str),(.tup [(.str "office"),(.str "matters"),(.str "further"),(.str "rule")])),(("named" : Str),(.tup [(.str "day"),(.str "office"),(.str "person")])),(("chosen" : Str),(.tup [(.str "day"),(.str "by"),(.str "office"),(.str "person"),(.str "since")])),(("heir" : Str),(.tup [(.str "day"),(.str "by"),(.str "office"),(.str "person")])),(("death" : Str),(.tup [(.str "day"),(.str "person")])),(("lost" : Str),(.tup [(.str "day"),(.str "person")])),(("found" : Str),(.tup [(.str "day"),(.str "person")])),(("leave" : Str),(.tup [(.str "day"),(.str "by"),(.str "person"),(.str "matters"),(.str "stretch"),(.str "further")])),(("paper" : Str),(.tup [(.str "day"),(.str "by"),(.str "matters"),(.str "stretch"),(.str "whom"),(.str "pieces")])),(("like" : Str),(.tup [(.str "day"),(.str "by"),(.str "matters"),(.str "stretch"),(.str "whom"),(.str "of"),(.str "changes")])),(("copy" : Str),(.tup [(.str "day"),(.str "by"),(.str "of")])),(("call" : Str),(.tup [(.str "day"),(.str "by"),(.str "of")]))]
noncomputable def gJ:D:=(.tup [(.str "by"),(.str "person"),(.str "whom")])
noncomputable def Dc:D:=(.tup [(.str "open"),(.str "first"),(.str "last")])
noncomputable def gL:D:=(.tup [(.str "chosen"),(.str "heir"),(.str "leave"),(.str "paper"),(.str "like"),(.str "copy"),(.str "call")])
noncomputable def aK (i:Nat):Stmt:=PySem.Challenge.pw_sealchain_k46_whole_known_then_and_now.main.body.getD i (.Pass ⟨0,0,0,0⟩)
noncomputable def Ga:Gq:=⟨[],[("ALL_MATTERS",lM),("LAST_DAY",rJ),("MOST_FURTHER",jZ),("MOST_LETTERS",kg),("MOST_PEOPLE",lN),("MOST_PIECES",iF),("MOST_ROWS",kh),("PAPERS",zw),("PERSON_PARTS",gJ),("RULES",Dc),("SEALINGS",gL)],[("PARTS",bZ)],["all","any","bool","dict","enumerate","int","isinstance","len","list","max","min","range","reversed","set","sorted","str","tuple","zip"],["in_order","has_seal","is_first_death","bases_by","as_heard"],[]⟩
def Nw:Wq:=⟨Ga,"is_whole",aK 6,["thing","least","most"],0,[0,100,0,80,100,0,81,0,0,1,0,2]⟩
def mi:=ax (ay Nw.r _ rr) 3 0
def Nx:Wq:=⟨Nw.gt mi,"is_day",aK 7,["thing"],1,[0,0,0,51]⟩
def rK:=ax (ay Nx.r _ rr) 1 0
def Ny:Wq:=⟨Nx.gt rK,"is_stretch",aK 8,["thing"],2,[100,0,82,1,101,0,0,0,0,0,0,2,0,0,0,0,0,3,0,0,0,0]⟩
def ny:=ax (ay Ny.r _ rr) 1 0
def Nz:Wq:=⟨Ny.gt ny,"is_matters",aK 12,["thing"],1,[0,2,0,50]⟩
def nA:=ax (ay Nz.r _ rr) 1 0
def N6:Wq:=⟨Nz.gt nA,"is_name",aK 22,["thing"],0,[100,0,83,0,0,101,0,53,0,0,102,0,0,0,0,0,0]⟩
def lh:=ax (ay N6.r _ rr) 1 0
def N7:Wq:=⟨N6.gt lh,"is_rule",aK 24,["thing"],0,[0,100,0,83,4,0,59]⟩
def uL:=ax (ay N7.r _ rr) 1 0
def NA:Wq:=⟨N7.gt uL,"is_piece",aK 23,["thing"],1,[0,1,0]⟩
def ml:=ax (ay NA.r _ rr) 1 0
def NB:Wq:=⟨NA.gt ml,"is_pieces",aK 25,["thing"],2,[100,0,82,0,0,101,0,55,0,0,102,0,0,0,0,0]⟩
def ig:=ax (ay NB.r _ rr) 1 0
def NC:Wq:=⟨NB.gt ig,"is_change",aK 26,["thing"],2,[100,0,82,1,101,0,0,0,7,0,0,0,55,1,0,0]⟩
def ij:=ax (ay NC.r _ rr) 1 0
def ND:Wq:=⟨NC.gt ij,"is_changes",aK 27,["thing","places"],3,[100,0,82,102,0,0,0,0,0,0,1,0,0,0,0,0,0,102,0,4,1,1,3,0,1]⟩
def jq:=ax (ay ND.r _ rr) 1 1
def De:Wq:=⟨ND.gt jq,"is_part",aK 28,["part","thing"],4,[5,0,5,0,0,8,1,5,0,5,0,5,0,0,5,1,5,0,0,2,1,5,1,5,0,0,6,1,5,0,0,7,1,5,0,0,9,1,52,5,0,0,4,1,5,0,0,9,1,0,56,5,0,0,2,1,0,0,1]⟩
def di:=ax (ay De.r _ rr) 2 0
def Df:Wq:=⟨De.gt di,"is_deed",aK 29,["thing"],5,[100,0,82,5,101,0,100,0,0,83,0,30,0,0,1,101,0,1,101,2,0,0,0,0,102,0,4,2,0,0,0,0,0,1]⟩
def o9:=ax (ay Df.r _ rr) 1 0
def Dg:Wq:=⟨Df.gt o9,"word_of",aK 32,["row"],0,[0,0,0,0]⟩
def aY:=ax (ay Dg.r _ rr) 1 0
def Dh:Wq:=⟨Dg.gt aY,"part_of",aK 33,["row","part"],1,[0,0,0,0,1,10,0,0,1]⟩
def av:=ax (ay Dh.r _ rr) 2 0
def Di:Wq:=⟨Dh.gt av,"day_of",aK 34,["row"],2,[5,1,0,0,0,0,0]⟩
def bj:=ax (ay Di.r _ rr) 1 0
def Dj:Wq:=⟨Di.gt bj,"is_timely",aK 30,["row","day"],3,[0,1,0,0,2,1,0,5,2,0,3,1,0,1,0,0,0,1,0,0]⟩
def ki:=ax (ay Dj.r _ rr) 1 1
def Dk:Wq:=⟨Dj.gt ki,"is_row",aK 31,["thing"],6,[100,0,82,1,101,0,0,0,14,0,0,4,0,0,0,0]⟩
def rL:=ax (ay Dk.r _ rr) 1 0
def Dl:Wq:=⟨Dk.gt rL,"root_offices",aK 39,["rows"],2,[0,0,0,0,5,4,0,3,0]⟩
def gM:=ax (ay Dl.r _ rr) 1 0
def Dm:Wq:=⟨Dl.gt gM,"is_second_root",aK 40,["ahead","row"],3,[0,5,5,1,4,4,1,0,0]⟩
def fg:=ax (ay Dm.r _ rr) 2 0
def Dn:Wq:=⟨Dm.gt fg,"parts_in",aK 35,["row"],1,[0,150,2,6,0,0,0]⟩
def gN:=ax (ay Dn.r _ rr) 1 0
def Dp:Wq:=⟨Dn.gt gN,"people_in",aK 36,["row","names"],2,[1,0,0,0,0,4,0,58,6,1,1,0,140,1]⟩
def iq:=ax (ay Dp.r _ rr) 1 1
def zx:Wq:=⟨Dp.gt iq,"count_people",aK 41,["rows","names","row"],3,[0,1,0,0,0,0,2,1,1,0,2,0,141,1]⟩
abbrev pU:=ay (zx.b [2] [1,1,0,2]) _ rr
def gO:=ax (ay zx.r _ rr) 1 2
def Dq:Wq:=⟨zx.gt gO,"is_refused",aK 42,["book","place"],7,[7,1,56,5,0,0,1,0,0,3,0,1,0,0,1,8,0,0,1,1,54]⟩
def jr:=ax (ay Dq.r _ rr) 2 0
def zy:Wq:=⟨Dq.gt jr,"register_of",aK 43,["rows","book","place"],8,[103,0,84,82,0,1,104,0,0,1,101,1,2,0,1,2,2]⟩
abbrev rM:=ay (zy.b [4] [0,1,2]) _ rr
def fz:=ax (ay zy.r _ rr) 1 2
def Dr:Wq:=⟨zy.gt fz,"heard",aK 44,["book","known"],0,[0,1,1,3,0,0,0,1,2,0]⟩
def eD:=ax (ay Dr.r _ rr) 2 0
def Ds:Wq:=⟨Dr.gt eD,"rank",aK 46,["book","number"],3,[0,10,0,0,1,1]⟩
def gP:=ax (ay Ds.r _ rr) 2 0
def Dt:Wq:=⟨Ds.gt gP,"in_order",aK 48,["book","known","dated"],7,[2,1,0,0,1,0,1,6,11,0,1,0,0,0,2,2,1,0,0,1,0]⟩
def dO:=ax (ay Dt.r _ rr) 2 1
def Du:Wq:=⟨Dt.gt dO,"by_office",aK 60,["claim"],0,[0,0,0,0,0,0,0]⟩
def kj:=ax (ay Du.r _ rr) 1 0
def Dv:Wq:=⟨Du.gt kj,"roots",aK 49,["book","known","known_rows"],2,[2,1,0,0,3,0,1,0,1,0,0,105,0,0,2,5,15,0,14,0,0]⟩
def ir:=ax (ay Dv.r _ rr) 2 1
def Dx:Wq:=⟨Dv.gt ir,"is_known",aK 45,["book","known","number"],0,[0,0,3,2,101,0,0,0,0,0,2,1]⟩
def cB:=ax (ay Dx.r _ rr) 3 0
def Dy:Wq:=⟨Dx.gt cB,"tells",aK 52,["row","words","person","day"],3,[0,4,17,0,1,5,16,0,2,0,15,0,3]⟩
def qm:=ax (ay Dy.r _ rr) 4 0
def Dz:Wq:=⟨Dy.gt qm,"told_of",aK 53,["book","known","words","person","day"],4,[0,4,2,3,4,0,0,6,0,1,0,0,4,0,1,2,3,0]⟩
def li:=ax (ay Dz.r _ rr) 5 0
def D0:Wq:=⟨Dz.gt li,"lives",aK 54,["book","known","person","day"],5,[0,5,101,0,0,1,2,3]⟩
def qo:=ax (ay D0.r _ rr) 4 0
def D1:Wq:=⟨D0.gt qo,"has_seal",aK 55,["book","known","person","day","told"],7,[0,4,1,0,1,2,3,5,101,4,0,0,5,20,0,0,0,4,1,0,7,1,0]⟩
def mm:=ax (ay D1.r _ rr) 4 1
def D2:Wq:=⟨D1.gt mm,"is_sound",aK 56,["book","known","number","sealer","day"],8,[4,0,1,2,9,21,0,0,2,60,0,0,3,20,0,0,2,0,4,19,0,0,2,0,1,0,1,3,4,0,0,1,3,4]⟩
def jt:=ax (ay D2.r _ rr) 3 2
def D3:Wq:=⟨D2.gt jt,"lies_in",aK 9,["day","stretch"],0,[0,0,0,1,0,2,0,1,3,0,0,1]⟩
def lm:=ax (ay D3.r _ rr) 2 0
def D4:Wq:=⟨D3.gt lm,"is_alive",aK 58,["claim","day"],1,[0,0,1,0,0,0,0]⟩
def dP:=ax (ay D4.r _ rr) 2 0
def D5:Wq:=⟨D4.gt dP,"by_since",aK 59,["claim"],0,[0,0,0,0,0]⟩
def gQ:=ax (ay D5.r _ rr) 1 0
def D6:Wq:=⟨D5.gt gQ,"chief_of",aK 61,["alive","rule"],4,[5,1,0,0,0,0,0,0,0,1,0,0]⟩
def mq:=ax (ay D6.r _ rr) 2 0
def D7:Wq:=⟨D6.gt mq,"holder_by",aK 62,["claimed","root","day","alive","people","person","oldest"],5,[3,2,2,1,0,0,5,0,0,25,2,2,0,1,0,0,4,140,0,0,3,0,0,5,101,4,0,8,101,4,5,25,1,0,4,0,5,0,3,25,1,0,6,1,1,5,0,3,5,0,0,1,0,1,0,5,0,6]⟩
def km:=ax (ay D7.r _ rr) 3 4
def D8:Wq:=⟨D7.gt km,"is_held_by",aK 63,["claimed","root","person","day"],6,[0,5,0,0,1,3,2]⟩
def dj:=ax (ay D8.r _ rr) 4 0
def D9:Wq:=⟨D8.gt dj,"is_first_death",aK 64,["book","known","number","row","deaths"],7,[0,3,0,0,2,0,4,9,0,1,27,3,26,3,0,5,1,4,1,0,15,1,0,2]⟩
def fj:=ax (ay D9.r _ rr) 3 2
def DA:Wq:=⟨D9.gt fj,"counts",aK 65,["book","known","so_far","number","row","root"],9,[0,4,0,0,3,5,29,4,0,0,0,1,3,9,29,4,0,0,5,0,13,0,1,28,4,2,5,0,5,29,4,0,0,7,0,1,3,1,2,5,28,4,27,4]⟩
def nB:=ax (ay DA.r _ rr) 4 2
def DB:Wq:=⟨DA.gt nB,"new_claim",aK 66,["row","since","number"],2,[0,29,0,29,0,1,2]⟩
def iu:=ax (ay DB.r _ rr) 3 0
def z4:Wq:=⟨DB.gt iu,"ended",aK 67,["so_far","offices","person","day","left","claim"],2,[0,4,0,0,0,0,5,9,0,5,1,1,0,5,2,7,5,3,8,0,5,3,0,4,5,3,0,5,3,0,4,0,5,2,0,5,3,0,5,5]⟩
abbrev z6:=ay (z4.b [2] [9,0,5,1,1,0,5,2,7,5,3,8,0,5,3,0,4,5,3,0,5,3,0,4,0,5,2,0,5,3,0,5]) _ rr
def xy:=ax (ay z4.r _ rr) 4 2
def DC:Wq:=⟨z4.gt xy,"after_choice",aK 68,["so_far","row","number","since","left"],3,[0,3,31,1,0,4,0,0,31,1,31,1,3,0,1,4,1,1,3,2]⟩
def gR:=ax (ay DC.r _ rr) 3 2
def z8:Wq:=⟨DC.gt gR,"inherited",aK 69,["book","known","so_far","heirs","number","person","day","told","office","heir"],6,[0,5,32,0,0,4,0,6,31,0,0,4,0,7,2,5,6,0,0,140,2,5,6,0,2,5,0,0,1,9,0,2,0,0,8,0,9,9,3,8,5,6,9,13,0,1,9,6,0,7,8,9,6,4,8]⟩
abbrev jv:=ay (z8.b [6] [0,9,9,3,8,5,6,9,13,0,1,9,6,0,7,8,9,6,4]) _ rr
def kn:=ax (ay z8.r _ rr) 5 5
def DD:Wq:=⟨z8.gt kn,"after_death",aK 70,["book","known","so_far","heirs","number","offices","left"],7,[5,0,0,2,0,0,0,6,2,2,5,33,0,0,4,32,0,0,4,0,1,6,0,0,1,2,3,4]⟩
def iG:=ax (ay DD.r _ rr) 5 2
def z9:Wq:=⟨DD.gt iG,"claims",aK 71,["book","known","so_far","heirs","number","row"],10,[0,2,1,3,0,0,0,21,0,1,4,0,5,0,0,4,5,0,1,2,4,5,35,5,0,2,1,2,4,5,33,5,4,5,35,5,0,2,2,2,5,4,5,35,5,3,3,34,5,34,5,34,5,0,2,0,0,1,2,3,4,0,2,2,20]⟩
abbrev oA:=ay (z9.b [4] [0,5,0,0,4,5,0,1,2,4,5,35,5,0,2,1,2,4,5,33,5,4,5,35,5,0,2,2,2,5,4,5,35,5,3,3,34,5,34,5,34,5,0,2,0,0,1,2,3,4]) _ rr
def nD:=ax (ay z9.r _ rr) 2 4
def DE:Wq:=⟨z9.gt nD,"is_paper",aK 74,["book","known","number"],1,[0,19,0,1,2,4,36,0,0,2,57]⟩
def cY:=ax (ay DE.r _ rr) 3 0
def DF:Wq:=⟨DE.gt cY,"is_leave",aK 75,["book","known","number"],1,[0,20,0,1,2,5,37,0,0,2]⟩
def gS:=ax (ay DF.r _ rr) 3 0
def DG:Wq:=⟨DF.gt gS,"is_borne",aK 76,["book","known","number"],2,[0,0,0,1,2,1,0,1,2]⟩
def fm:=ax (ay DG.r _ rr) 3 0
def DH:Wq:=⟨DG.gt fm,"covers",aK 13,["matters","some"],0,[0,5,2,0,1,1]⟩
def iZ:=ax (ay DH.r _ rr) 2 0
def DI:Wq:=⟨DH.gt iZ,"may_call",aK 77,["book","known","claimed","call","number","row","caller","over"],7,[0,5,0,0,4,0,6,39,0,0,3,5,6,39,5,0,5,40,5,0,7,1,5,5,24,0,1,0,39,0,39,1,0,0,106,4,2,6,0,3,0,7,12,1,0,2,38,0,3,4]⟩
def mr:=ax (ay DI.r _ rr) 5 3
def DJ:Wq:=⟨DI.gt mr,"calls_in",aK 78,["book","known","claimed","call","number","day","row"],9,[0,6,0,0,3,1,41,6,1,40,6,4,8,39,6,5,0,0,19,0,1,3,0,0,1,2,3,4]⟩
def jw:=ax (ay DJ.r _ rr) 6 1
def DK:Wq:=⟨DJ.gt jw,"calls_by",aK 79,["book","known","claimed","number","day"],10,[3,0,1,3,0,0,5,0,1,2,3,4,0,30,0,1,0,1,2,3,0,4,5,0]⟩
def ms:=ax (ay DK.r _ rr) 5 0
def DM:Wq:=⟨DK.gt ms,"calls",aK 80,["book","known","number","day"],11,[0,0,0,1,7,0,1,2,3]⟩
def xz:=ax (ay DM.r _ rr) 4 0
def DN:Wq:=⟨DM.gt xz,"reach_bar",aK 81,["row","above"],2,[4,43,1,43,0,0,5,44,0,7,43,0,43,1,0,0]⟩
def ko:=ax (ay DN.r _ rr) 2 0
def DO:Wq:=⟨DN.gt ko,"office_bar",aK 82,["claimed","row","root"],7,[17,0,2,44,1,43,1,0,0,0,1,2]⟩
def fY:=ax (ay DO.r _ rr) 3 0
def DP:Wq:=⟨DO.gt fY,"office_bases",aK 85,["book","known","claimed","number","row","bearing"],8,[0,4,0,0,3,5,2,2,4,5,30,0,1,2,0,1,2,0,0,0,2,2,4,0,5,45,0,0,19,1,0,44,2]⟩
def gT:=ax (ay DP.r _ rr) 4 2
def DQ:Wq:=⟨DP.gt gT,"ends_within",aK 11,["stop","bound"],0,[2,1,0,0,6,0,0,0,1]⟩
def iH:=ax (ay DQ.r _ rr) 2 0
def DR:Wq:=⟨DQ.gt iH,"is_within",aK 10,["one","other"],1,[0,0,0,1,0,0,0,0,0,0,1]⟩
def iz:=ax (ay DR.r _ rr) 2 0
def DS:Wq:=⟨DR.gt iz,"is_ahead",aK 47,["book","one","other"],4,[0,10,36,0,1,36,0,2]⟩
def gU:=ax (ay DS.r _ rr) 3 0
def DT:Wq:=⟨DS.gt gU,"leave_bar",aK 83,["book","number","leave","row","stretch"],5,[0,3,0,0,1,0,4,49,0,0,2,0,0,2,1,0,27,48,3,4,1,49,3,4,0,0,5,3,0,0,2]⟩
def kq:=ax (ay DT.r _ rr) 3 2
def DU:Wq:=⟨DT.gt kq,"leaves_to",aK 84,["book","known","person","leaves"],2,[3,2,0,1,0,39,0,1,13,1,2,0,0,0,2,2,0,0,3,5,50,0,2,0,1,0]⟩
def kx:=ax (ay DU.r _ rr) 3 1
def DV:Wq:=⟨DU.gt kx,"leave_bases",aK 86,["book","known","number","leaves"],6,[0,3,0,0,1,51,0,0,2,0,2,0,2,0,3,2,1,1,2,0,0]⟩
def iI:=ax (ay DV.r _ rr) 3 1
def DW:Wq:=⟨DV.gt iI,"copy_bases",aK 87,["book","known","number","of"],5,[0,3,52,0,0,2,16,0,1,3,3,0,3,2,0,3,0]⟩
def jx:=ax (ay DW.r _ rr) 3 1
def DX:Wq:=⟨DW.gt jx,"bases_by",aK 88,["book","known","claimed","number","found"],9,[15,0,1,3,0,5,54,0,0,3,0,0,0,1,3,0,4,1,7,0,1,2,3,1,0,1,3,0,3,4,0,0,0,0]⟩
def dQ:=ax (ay DX.r _ rr) 4 1
def DY:Wq:=⟨DX.gt dQ,"is_fit",aK 89,["book","known","claimed","number","day"],11,[33,0,1,3,8,53,0,0,3,4,0,0,5,101,12,0,1,2,3,4]⟩
def nE:=ax (ay DY.r _ rr) 5 0
def zF:Wq:=⟨DY.gt nE,"links",aK 90,["book","known","day","claimed","found","number"],12,[1,3,20,0,1,0,4,0,0,0,42,0,1,5,17,0,1,5,0,0,1,3,5,2,2,4,5,1,0,1,3,5,5]⟩
abbrev JL:=ay (zF.b [4] [17,0,1,5,0,0,1,3,5,2,2,4,5,1,0,1,3,5]) _ rr
def x0:=ax (ay zF.r _ rr) 3 3
def DZ:Wq:=⟨zF.gt x0,"bears",aK 91,["base","among"],0,[0,5,0,0,20,0,0,1]⟩
def qp:=ax (ay DZ.r _ rr) 2 0
def zG:Wq:=⟨DZ.gt qp,"stood",aK 92,["found","stands","number","resting"],1,[0,1,0,0,6,0,2,3,106,1,1,0,3,0,0,1,1,1,2,2]⟩
abbrev JM:=ay (zG.b [2] [106,1,1,0,3,0,0,1,1,1,2]) _ rr
def xA:=ax (ay zG.r _ rr) 1 3
def Ea:Wq:=⟨zG.gt xA,"standing",aK 93,["book","known","day"],13,[0,107,0,2,0,1,2]⟩
def fq:=ax (ay Ea.r _ rr) 3 0
def zH:Wq:=⟨Ea.gt fq,"paper_behind",aK 98,["book","number","row"],2,[0,2,0,0,1,1000,5,60,2,0,2,0,0,59,2,3]⟩
abbrev jB:=ay (zH.b [2] [0,2,0,0,59,2]) _ rr
def eE:=ax (ay zH.r _ rr) 2 1
def Eb:Wq:=⟨zH.gt eE,"holding",aK 99,["book","known","day","stands"],14,[3,2,0,1,0,1,0,1,2,24,1,2,0,0,0,2,2,0,0,3,38,1,60,0,2,0,0]⟩
def oB:=ax (ay Eb.r _ rr) 3 1
def Ec:Wq:=⟨Eb.gt oB,"whom_of",aK 100,["book","number"],3,[0,61,1,0,1]⟩
def oD:=ax (ay Ec.r _ rr) 2 0
def uM:Wq:=⟨Ec.gt oD,"holds",aK 101,["book","known","day","number","person"],15,[9,3,1,0,1,2,0,0,2,4,4,0,0,3,4]⟩
def nF:=ax (ay uM.r _ rr) 5 0
def Ed:Wq:=⟨uM.gD nF,"changed",aK 95,["pieces","place","piece"],0,[0,3,3,0,1,2,0,1,1]⟩
def oF:=ax (ay Ed.r _ rr) 3 0
def uO:Wq:=⟨Ed.gt oF,"put_together",aK 96,["book","path","pieces","number","place","piece"],2,[0,2,63,0,0,0,1,0,0,7,1,3,1,64,0,0,3,1,3,0,0,63,0,0,3,4,5,8,4,101,2,0,3,0,2,0,2,4,5,0,2]⟩
abbrev cI:=ay (uO.b [2,2] [8,4,101,2,0,3,0,2,0,2,4,5]) _ rr
abbrev cj:=ay (uO.b [2] [1,64,0,0,3,1,3,0,0,63,0,0,3,4,5,8,4,101,2,0,3,0,2,0,2,4,5]) _ rr
def eF:=ax (ay uO.r _ rr) 2 4
def zI:Wq:=⟨uO.gt eF,"words",aK 97,["book","known","number","path","at"],3,[0,3,0,4,2,1000,9,4,3,28,0,1,4,0,4,0,3,4,5,65,0,0,4,0,0,0,3,0,4,64,0,0,4,90,108,3,1,3,4]⟩
abbrev eG:=ay (zI.b [4] [28,0,1,4,0,4,0,3,4,5,65,0,0,4,0,0,0,3,0,4,64,0,0,4]) _ rr
def jy:=ax (ay zI.r _ rr) 3 2
def Ee:Wq:=⟨zI.gt jy,"judged",aK 102,["book","known","day"],15,[0,2,0,1,0,4,0,1,2,0,3,1,0,0,1,2,0]⟩
def nG:=ax (ay Ee.r _ rr) 3 0
def Ef:Wq:=⟨Ee.gt nG,"as_heard",aK 104,["book"],4,[0,4,101,0,1,0,0,0,1,0,0]⟩
def mu:=ax (ay Ef.r _ rr) 1 0
def Eg:Wq:=⟨Ef.gt mu,"paced",aK 105,["book","order"],0,[0,104,1,1,3,0,1,2,0,0,1]⟩
def xB:=ax (ay Eg.r _ rr) 2 0
def zJ:Wq:=⟨Eg.gt xB,"history",aK 106,["book","day","number","order","rows","told","held","place","heard_now","now"],16,[0,3,1,0,0,4,0,0,3,0,5,0,6,1,3,0,3,3,7,8,0,9,198,4,7,1,2,1,9,6,0,5,8,9,0,6,9,6]⟩
abbrev rN:=ay (zJ.b [8] [0,9,198,4,7,1,2,1,9,6,0,5,8,9,0,6,9]) _ rr
def oG:=ax (ay zJ.r _ rr) 3 7
def Eh:Wq:=⟨zJ.gt oG,"_law_cell",aK 108,["_law_script","_law_k","_law_number"],0,[3,1,101,0,0,0,0,1,0,2,1,4,1,8,101,0,0,2,1,1,4,0,0,5,4,1,101,0,4,4,1,1,0,5,6,2,2]⟩
def ky:=ax (ay Eh.r _ rr) 2 1
def zK:Wq:=⟨Eh.gt ky,"_law_names",aK 109,["_law_cell_here","_law_letters","_law_base","_law_at","_law_names_here","_law_k","_law_name"],0,[0,1,2,2,1,0,2,1,5,0,0,1,5,7,2,1,4,0,0,3,5,7,0,101,2,0,4,0,1,5,0,6,109,2,0,6,3,0,1,5,1,7,0,4,5,0,4,2,6,5]⟩
abbrev BB:=ay (zK.b [8] [0,6,109,2,0,6,3,0,1,5,1,7,0,4,5,0,4,2,6]) _ rr
def oH:=ax (ay zK.r _ rr) 1 6
def Ei:Wq:=⟨zK.gt oH,"_law_giver",aK 110,["_law_rows_here","_law_cell_here","_law_names_here","_law_some"],0,[3,0,0,0,4,0,0,0,0,0,0,8,5,1,0,0,3,5,7,1,101,3,0,0,2,5,7,1]⟩
def ln:=ax (ay Ei.r _ rr) 3 1
def Ej:Wq:=⟨Ei.gt ln,"_law_sealed",aK 111,["_law_rows_here","_law_word","_law_day","_law_cell_here","_law_names_here","_law_by","_law_matters","_law_stretch","_law_person","_law_changes"],1,[0,5,0,0,3,4,0,6,0,5,7,3,0,7,0,2,1,2,1,2,5,7,3,5,1,0,8,0,4,5,1,1,3,4,5,5,7,3,0,2,5,8,6,7,0,5,7,3,5,1,0,2,5,6,7,0,0,4,5,7,3,0,4,0,4,5,1,0,9,5,7,3,0,4,0,2,5,6,7,5,7,3,1,101,0,9,0,1,2,5,5,7,3,1,101,0]⟩
def mv:=ax (ay Ej.r _ rr) 5 5
def Ek:Wq:=⟨Ej.gt mv,"_law_row",aK 112,["_law_rows_here","_law_cell_here","_law_names_here","_law_sorts","_law_word","_law_day","_law_noted","_law_left","_law_by"],2,[0,3,0,3,1,3,0,4,0,3,5,1,0,5,1,7,101,0,5,7,1,0,6,1,5,0,5,7,1,0,7,7,1,4,4,0,6,0,0,4,5,7,2,5,4,0,8,1,0,7,2,0,6,5,8,0,2,0,2,5,7,7,1,5,5,7,7,5,4,0,6,5,1,0,7,2,0,2,0,2,5,7,7,5,4,0,6,5,0,2,1,5,7,7,0,2,5,7,7,0,6,4,5,0,2,5,7,7]⟩
def xC:=ax (ay Ek.r _ rr) 3 6
def zL:Wq:=⟨Ek.gt xC,"_law_rows",aK 113,["_law_script","_law_names_here","_law_cell_here","_law_rows_here","_law_k"],3,[0,2,4,0,0,3,0,1,0,5,2,0,5,7,2,0,3,0,1,0,1,5,5,7,2,0,3,0,1,0,1,0,110,1,7,101,0,5,7,2,4,0,3,0,3,5,4,0,1,4,8,1,4]⟩
abbrev uR:=ay (zL.b [8] [0,3,0,3,5,4,0,1,4,8,1]) _ rr
def rO:=ax (ay zL.r _ rr) 2 3
def zM:Wq:=⟨zL.gt rO,"_law_otherwise",aK 114,["_law_script","_law_rows_here","_law_known","_law_names_here","_law_found","_law_k","_law_noted","_law_deed","_law_cell_here"],1,[0,4,0,1,101,1,5,6,7,0,1,5,0,8,5,0,1,5,8,6,2,5,5,8,0,6,1,1,6,5,7,8,8,6,2,5,5,8,0,7,2,0,3,5,7,8,0,4,6,7,1000,8,0,0,4,2,5,5,5,0,1,101,4,4,5]⟩
abbrev kB:=ay (zM.b [2] [6,7,0,1,5,0,8,5,0,1,5,8,6,2,5,5,8,0,6,1,1,6,5,7,8,8,6,2,5,5,8,0,7,2,0,3,5,7,8,0,4,6,7]) _ rr
def iJ:=ax (ay zM.r _ rr) 4 5
def zN:Wq:=⟨zM.gt iJ,"_law_last",aK 115,["_law_rows_here","_law_told","_law_known","_law_truth","_law_turned","_law_number","_law_answer"],0,[0,3,0,4,0,0,0,1,5,6,5,6,4,0,0,4,6,0,0,0,0,5,2,0,3,6,4]⟩
abbrev Gb:=ay (zN.b [4] [5,6,4,0,0,4,6,0,0,0,0,5,2,0,3,6]) _ rr
def rP:=ax (ay zN.r _ rr) 3 4
def El:Wq:=⟨zN.gt rP,"law",aK 116,["_law_script","_law_names_here","_law_rows_here","_law_known","_law_one","_law_other","_law_k","_law_day","_law_number","_law_mine","_law_told"],17,[0,1,6,7,0,0,2,2,0,1,0,3,5,7,0,0,4,67,109,2,0,5,67,1,0,2,3,1,1,42,4,3,42,5,3,0,0,1,6,0,7,5,7,0,1,6,1,18,4,3,7,18,5,3,7,0,1,11,4,3,7,11,5,3,7,0,0,8,5,7,0,1,6,101,5,0,9,34,4,3,8,7,0,0,0,2,8,3,1,9,34,5,3,8,7,0,0,10,8,4,7,8,1,0,2,10,3,198,4,3,7,8,0,0]⟩
abbrev JN:=ay (El.b [12] [0,7,5,7,0,1,6,1,18,4,3,7,18,5,3,7,0,1,11,4,3,7,11,5,3,7,0,0,8,5,7,0,1,6,101,5,0,9,34,4,3,8,7,0,0,0,2,8,3,1,9,34,5,3,8,7,0,0,10,8,4,7,8,1,0,2,10,3,198,4,3,7,8,0]) _ rr
def F_law:=ax (ay El.r _ rr) 1 10
end Lw
namespace DL
open PySem L2
theorem jz:∀(n m:Nat)(d:D),n<=m->aG n d=true->aG m d=true
 |n,m,.non,_,_=>by simp
 |n,m,.bl _,_,_=>by simp
 |n,m,.int _,_,_=>by simp
 |n,m,.str _,_,_=>by simp
 |n,m,.ty _,_,h=>by cases n<;>simp at h
 |n,m,.dk _ _,_,h=>by simp at h
 |n,m,.dt _ _,_,h=>by simp at h
 |0,m,.tup _,_,h=>by simp at h
 |0,m,.lst _,_,h=>by simp at h
 |n+1,0,_,h,_=>by lia
 |n+1,m+1,.tup ds,hl,h=>by
  simp [aG,all_eq_true]at h |-;exact λd hd=>jz n m d N9 (h d hd)
 |n+1,m+1,.lst ds,hl,h=>by
  simp [aG,all_eq_true]at h |-;exact λd hd=>jz n m d N9 (h d hd)
theorem oJ:∀(ds:LD),(∀d∈ds,iQ d d=true)->jP ds ds=true
 |[],_=>by simp [jP]
 |d::ds,h=>by
  simp [jP,h d mX];exact oJ ds λe he=>h e (mZ _ he)
theorem rQ:∀(n:Nat)(d:D),aG n d=true->iQ d d=true
 |n,.non,_=>by simp
 |n,.bl _,_=>by simp
 |n,.int _,_=>by simp
 |n,.str _,_=>by simp
 |n,.ty _,h=>by cases n<;>simp at h
 |n,.dk _ _,h=>by simp at h
 |n,.dt _ _,h=>by simp at h
 |0,.tup _,h=>by simp at h
 |0,.lst _,h=>by simp at h
 |n+1,.tup ds,h=>by
  simp [aG,all_eq_true]at h;exact oJ ds λd hd=>rQ n d (h d hd)
 |n+1,.lst ds,h=>by
  simp [aG,all_eq_true]at h;exact oJ ds λd hd=>rQ n d (h d hd)
end DL
namespace DL
@[simp] abbrev sF (d:D):OB:=some (d,false)
@[simp] noncomputable abbrev lT (ds:LD):OB:=some (.lst ds,true)
@[simp] noncomputable abbrev sI (x:Int):OB:=some (.int x,false)
@[simp] noncomputable abbrev sS (x:PySem.Str):OB:=some (.str x,false)
@[simp] noncomputable abbrev sJ (x:LD):OB:=some (.tup x,false)
@[simp] noncomputable abbrev sL (x:LD):OB:=some (.lst x,false)
@[simp] noncomputable abbrev sO (x:Bool):OB:=some (.bl x,false)
def bF {r:OB}{d:D}{b:Bool}(h:Y9 r d b=true:=by decide +kernel):r=some (d,b):=xw h
def cP {p q:Prop}[Decidable p](h:p)(n:decide p=false:=by decide +kernel):q:=absurd h (of_decide_eq_false n)
end DL
namespace Lw
open PySem DL L2
def A9 (d:D)(r:LD):lD (d::r) 0=some d:=by have:=jp (xs:=d::r) (j:=0) H9;simpa using this
def JP (d e:D)(r:LD):lD (d::e::r) 1=some e:=by have:=jp (xs:=d::e::r) (j:=1) H9;simpa using this
def at2 (d e f:D)(r:LD):lD (d::e::f::r) 2=some f:=by have:=jp (xs:=d::e::f::r) (j:=2) H9;simpa using this
noncomputable def cx (k:Str):Bool:=decide (k = "death") || decide (k = "lost") || decide (k = "found")
noncomputable def cZ (k:Str):Bool:=decide (k = "chosen") || decide (k = "heir") || decide (k = "leave") || decide (k = "paper") || decide (k = "like") || decide (k = "copy") || decide (k = "call")
structure DeedP (kind:Str)(ai:List D):Prop where
 flat:aN ai=true
 plain:ai.all (aG 5)=true
 three:cx kind=true->∃(day:Int)(p:Str),ai=[.int day,.str p]
 slg:cZ kind=true->∃(day:Int)(p:Str)(r:List D),ai=.int day::.str p::r
noncomputable def row (h:Int)(kind:Str)(ai:LD):D:=.tup [.int h,.tup (.str kind::ai)]
def rR (r:D):Prop:=∃h kind ai,r=row h kind ai/\DeedP kind ai
def rR.flat (h:rR r):aQ r=true:=by obtain⟨a,k,ai,rfl,dp⟩:=h;simp[row,dp.flat]
theorem ba (h:∀d∈ds,aQ d=true):aN ds=true:=by
 induction ds with
 |nil=>rfl
 |cons d r ih=>simp_all
def bT (zs:LS):aN (zs.map D.str)=true:=by
 induction zs with
 |nil=>rfl
 |cons a l ih=>simp[ih]
def aw:D->Int
 |.tup (.int h::_)=>h
 |_=>0
noncomputable def kindOf:D->Str
 |.tup [_,.tup (.str k::_)]=>k
 |_=>("" : Str)
noncomputable def aA:D->Int
 |.tup [_,.tup (_::.int d::_)]=>d
 |_=>0
noncomputable def vc (p:Str)(day:Int):LD->Bool
 |[.int d,.str q]=>decide (q=p) && decide (d<=day)
 |_=>false
def told (ws:LS)(p:Str)(day:Int):D->Bool
 |.tup [_,.tup (.str kind::ai)]=>decide (kind∈ws) && vc p day ai
 |_=>false
def bC (h:Int)(kind:Str)(ai:LD):aY [row h kind ai]=sS kind:=ah rr (aj (by simp[row,JP,A9]))
def kE (h:cx k=true):k = "death" \/ k = "lost" \/ k = "found":=by
 unfold cx at h;lia
def mw (h:cZ k=true):k = "chosen" \/ k = "heir" \/ k = "leave" \/ k = "paper" \/ k = "like" \/ k = "copy" \/ k = "call":=by
 unfold cZ at h;lia
def NE (h:cx k=true\/cZ k=true):ma bZ (.str k) (.str "day")=sI 0:=by
 rcases h with h|h
 .rcases kE h with rfl|rfl|rfl<;>exact bF
 .rcases mw h with rfl|rfl|rfl|rfl|rfl|rfl|rfl<;>exact bF
def BC (h:cx k=true):ma bZ (.str k) (.str "person")=sI 1:=by
 rcases kE h with rfl|rfl|rfl<;>exact bF
def JQ (h:cx k=true\/cZ k=true):kU (.str k) (.str "root")=sO false:=by
 rcases h with h|h
 .rcases kE h with rfl|rfl|rfl<;>exact bF
 .rcases mw h with rfl|rfl|rfl|rfl|rfl|rfl|rfl<;>exact bF
def aP {h:Int}{k:Str}{ai:LD}{part:Str}{i:Nat}{d:D}(hi:ma bZ (.str k) (.str part)=sI i)(hd:ai[i]? = some d):av [row h k ai,.str part]=some (d,false):=by
 refine ah rr (aj ?_);refine aX (.tup (.str k::ai)) (.int (1+i)) (by simp[row,JP]) (aX _ _ rr (aX _ _ (a5 _ rr (bC _ _ _)) rr hi) H9) ?_;have M:=(vV hd).1;have:lD (.str k::ai) (1+(i:Int))=some d:=by
  have:=jp (xs:=(.str k:D)::ai) (j:=i+1) s9;grind
 simp[this]
def rS {h:Int}{k:Str}{ai:LD}{d:Int}{r:LD}(hk:cx k=true\/cZ k=true)(M:ai=.int d::r):bj [row h k ai]=sI d:=by
 subst M;refine ah rr (ao (cw (aX _ _ (a5 _ rr (bC _ _ _)) rr (JQ hk))) (aj (a5 _ rr (aP (NE hk) rr))))
def nH (k:Str)(ws:LS):L3 (.str k) (ws.map .str)=decide (k∈ws):=by
 induction ws with
 |nil=>simp[L3]
 |cons w ws ih=>
  grind[L3,yy]
def lq (ws:LS):(ws.map D.str).all iR=true:=by
 simp
def ja (k:Str)(ws:LS):OU (.str k) (.tup (ws.map .str))=sO (decide (k∈ws)):=by
 simp only[OU,fM,vJ,nH];rw[if_pos ⟨rr,lq ws⟩]
def JR (O:rR r)(ws:LS)(hw:∀w∈ws,cx w=true)(p:Str)(day:Int):qm [r,.tup (ws.map .str),.str p,.int day]=sO (told ws p day r):=by
 obtain⟨h,kind,ai,rfl,dp⟩:=O;have M:f2 _ (fA _ (fV 0 a0)) (am 1) [some (row h kind ai,false),sF _,sS p,sI day]=sF _:=
  aX _ _ (a5 _ rr (bC _ _ _)) rr (ja _ ws)
 have U:told ws p day (row h kind _)=(decide _ && vc p _ ai):=rr;refine ah rr (aj (ce M λhk=>?_));have h3:=hw _ (ET hk);obtain⟨d,q,rfl⟩:=dp.three h3;refine ce (b1:=false) ?_ λ_=>?_
 .exact aX _ _ (a5 _ rr (aP (BC h3) rr)) rr H9
 .exact aX _ _ (a5 _ rr (rS (.inl h3) rr)) rr H9
def rT (ds:LD):qO ds=ds.zipIdx.map λx=>.tup [.int x.2,x.1]:=by
 unfold qO;apply ext_getElem?;intro i;simp;cases ds[i]?<;>simp
noncomputable def ag (ae:LD)(aa:Int):List (D×Nat):=ae.zipIdx.filter λx=>decide (aw x.1<=aa)
def kF (ae:LD)(M:∀r∈ae,rR r)(hl:ae.length<=1000)(aa:Int):eD [.tup ae,.int aa]=lT ((ag ae aa).map λx=>.int x.2):=by
 have hc:=eA (fi:=yJ (am 0)) (nT:=2) (cap:=[1]) (tg:=C3 [0,1]) (c:=bW (f2 L1 (nY 1 0) (am 2))) (fe:=am 0) (ρ:=[sJ ae,sI aa]) ae.zipIdx (λx=>.tup [.int x.2,x.1]) (λx=>decide (aw x.1<=aa)) (λx=>.int x.2)
  (by simp[rT]) s9 λx hx=>by
   obtain⟨h,kind,ai,e,_⟩:=M _ (List.fst_mem_of_mem_zipIdx hx);refine⟨_,rr,cw ?_,λ_=>⟨false,by simp[cc]⟩⟩;simp[cc,e,row,A9,aw]
 exact ah rr (aj hc)
def pV (ae:LD)(aa:Int)(ws:LS)(p:Str)(day:Int):List (D×Nat):=(ag ae aa).filter λx=>told ws p day x.1
def Em (h:x∈pV ae aa ws p day):ae[x.2]? = some x.1/\told ws p day x.1=true:=by
 obtain⟨h1,h2⟩:=vN h;exact⟨(List.mk_mem_zipIdx_iff_getElem? ).mp (vN h1).1,h2⟩
def bc {ae:LD}{i:Nat}{r:D}(h:ae[i]? = some r):lD ae (i:Int)=some r:=by
 obtain⟨M,e⟩:=vV h;rw[jp M,e]
def NF (ae:LD)(aa:Int)(ws:LS)(p:Str)(day:Int):(pV ae aa ws p day).length<=ae.length:=by
 have h1:=vM (λx=>told ws p day x.1) (ag ae aa);have h2:=vM (λx=>decide (aw x.1<=aa)) ae.zipIdx;rw[length_zipIdx]at h2;exact vR h1 h2
def xD (ae:LD)(M:∀r∈ae,rR r)(hl:ae.length<=1000)(aa:Int)(ws:LS)(hw:∀w∈ws,cx w=true)(p:Str)(day:Int):
  li [.tup ae,.int aa,.tup (ws.map .str),.str p,.int day]=lT ((pV ae aa ws p day).map λx=>.int x.2):=by
 have hc:=eA (fi:=dE _) (nT:=1) (cap:=[2,3,4,0]) (tg:=gn 0) (c:=bW (fA qm (ak (f2 dM (am 4) (am 0)) (fV 1 (fV 2 (fV 3 a0)))))) (fe:=am 0)
  (ρ:=[sJ ae,sF _,sJ (ws.map .str),sS p,sI day]) (ag ae aa) _ _ (λx=>.int x.2)
  (by
   show(fA eD (fV 0 (fV 1 a0)) _).bind _=_;rw[a5 _ rr (kF ae M hl aa)];rfl) (by have:=vM (λx:D×Nat=>decide (aw x.1<=aa)) ae.zipIdx;rw[length_zipIdx]at this;exact vR this N9) λx hx=>by
   have O:=(List.mk_mem_zipIdx_iff_getElem? (x:=x.1) (i:=x.2)).mp (vN hx).1;refine⟨_,rr,cw (a5 _ ?_ (JR (M _ (vL O)) ws hw p day)),λ_=>⟨false,by simp[cc]⟩⟩;have ha:=bc O;simp[cc,ha]
 exact ah rr (aj hc)
def kA (x:D×Nat):List At:=[.i (aA x.1),.i x.2]
def dU (a b:D×Nat):Bool:=decide (aA a.1<aA b.1\/(aA a.1=aA b.1/\(a.2:Int)<b.2))
def dR:D×Nat->List (D×Nat)->D×Nat
 |b,[]=>b
 |b,x::r=>if dU b x=true then dR x r else dR b r
def Pq:List (D×Nat)->Option (D×Nat)
 |[]=>none
 |x::r=>some (dR x r)
def Sa (a b c d:Int):aW [.i a,.i b] [.i c,.i d]=some (decide (a<c\/(a=c/\b<d))):=by
 rw[aW];by_cases h:a=c
 .simp_all[aW]
 simp_all
def xE (a b:D×Nat):aW (kA a) (kA b)=some (dU a b):=Sa _ _ _ _
def qq (l:List (D×Nat)):cy (l.map kA)=true:=by
 simp_all[cy,xE]
theorem oK:∀(r:List (D×Nat))(b:D×Nat),p4 (kA b,.int b.2) (r.map λx=>(kA x,D.int x.2))=.int (dR b r).2
 |[],b=>rr
 |x::r,b=>by
  rw[uY,p4,dR];rw[xE];by_cases h:dU b x=true
  .rw[if_pos h,if_pos (by rw[h])];exact oK r x
  .rw[if_neg h,if_neg (by simpa using h)];exact oK r b
theorem rV:∀(r:List (D×Nat))(b:D×Nat),dR b r∈b::r
 |[],b=>by simp[dR]
 |x::r,b=>by
  rw[dR];split
  .exact mZ _ (rV r x)
  .rcases vP (rV r b)with h|h
   .rw[h];exact mX
   simp_all
theorem fF {α:Type}{f:D->Option D}{g h:α->D}:∀(l:List α),(∀x∈l,f (g x)=some (h x))->hW f (l.map g)=some (l.map h)
 |[],_=>rr
 |x::l,hx=>by
  rw[uY,hW,hx x mX,fF l λy hy=>hx y (mZ _ hy)];rfl
theorem ft {α:Type}{g:α->D}{h:α->List At}:∀(l:List α),(∀x∈l,Bn (g x)=some (h x))->du (l.map g)=some (l.map h)
 |[],_=>rr
 |x::l,hx=>by
  rw[uY,du,hx x mX,ft l λy hy=>hx y (mZ _ hy)];rfl
def nI:LS:=[("lost" : Str),"found"]
def pB:∀w∈nI,cx w=true:=by
 intro w hw;rcases vP hw with rfl|hw
 .decide +kernel
 .rcases vP hw with rfl|hw
  .decide +kernel
  simp_all
def En (ae:LD)(aa:Int)(p:Str)(day:Int):Bool:=match Pq (pV ae aa nI p day) with
 |none=>true
 |some b=>decide (kindOf b.1 = "found")
def rW (hw:∀w∈ws,cx w=true)(O:rR r)(U:told ws p day r=true):∃h k d,r=row h k [.int d,.str p]/\cx k=true/\k∈ws/\d<=day:=by
 obtain⟨h,kind,ai,rfl,dp⟩:=O;have M:(decide _ && vc p _ _)=true:=U;rw[vC]at M;have hm:=ET M.1;obtain⟨d,q,rfl⟩:=dp.three (hw _ hm);have hq:(decide _ && decide _)=true:=M.2;rw[vC]at hq;have:=ET hq.1;subst this;exact⟨h,kind,d,rr,hw _ hm,hm,ET hq.2⟩
def Eo {ae:LD}{i:Nat}{h d:Int}{k p:Str}(M:ae[i]? = some (row h k [.int d,.str p]))(h3:cx k=true):gP [.tup ae,.int i]=sJ [.int d,.int i]:=by
 have ha:=bc M;refine ah rr (aj (a5 _ (a8 (a5 [row h k [.int d,.str p]] (by simp[ha]) (rS (.inl h3) rr)) rr) u9))
def NG (ae:LD)(g:∀r∈ae,rR r)(hl:ae.length<=1000)(aa:Int)(p:Str)(day:Int):mm [.tup ae,.int aa,.str p,.int day]=sO (En ae aa p day):=by
 have i:=xD ae g hl aa nI pB p day;have c:=NF ae aa nI p day;have O:∀x∈pV ae aa nI p day,∃h k d,ae[x.2]? = some (row h k [.int d,.str p])/\x.1=row h k [.int d,.str p]/\cx k=true:=λx hx=>by
  obtain⟨U,f⟩:=Em hx;obtain⟨h,k,d,e,h3,_⟩:=rW pB (g _ (vL U)) f;exact⟨h,k,d,by rw[U,e],e,h3⟩
 unfold En;generalize j:pV ae aa nI p day=sel at i O c |-;have M:fA li (fV 0 (fV 1 (ak (fA cG (ak (fS "lost") (ak (fS "found") a0))) (fV 2 (fV 3 a0))))) [sJ ae,sI aa,sS p,sI day,none]=lT (sel.map λx=>.int x.2):=
  a5 _ (by simp[nI,sizeLine]) i
 have a:aN (sel.map λx=>D.int x.2)=true:=ba λd hd=>by obtain⟨x,_,rfl⟩:=vO hd;rfl
 cases sel with
 |nil=>exact ah rr (bw M a (aT (cw H9) (aj rr)))
 |cons x r=>
  refine ah rr (bw M a (ao (cw s9) (aj ?_)));obtain⟨h,k,d,U,e,h3⟩:=O (dR x r) (rV r x);have hb:kindOf (dR x r).1=k:=by rw[e];rfl
  show _=some (D.bl (decide _),false);rw[hb];refine aX (.str k) (.str "found") (a5 [row h k [.int d,.str p]] (a8 (d:=row h k [.int d,.str p]) (b:=false) (aX (.tup ae) (.int (dR x r).2) rr ?_ (by simp[bc U])) rr) (bC _ _ _)) rr H9;have hm:∀ρ:DL.Env,ρ[0]? = some (sJ ae)->hW (xi [0] (fA gP (fV 1 (fV 0 a0))) ρ) ((x::r).map λx=>D.int x.2)=some ((x::r).map λx=>.tup [.int (aA x.1),.int x.2]):=λρ h0=>
   fF (x::r) λy hy=>by
    obtain⟨h,k,d,U,e,h3⟩:=O y hy;have hd:aA y.1=d:=by rw[e];rfl
    rw[hd];show(fA gP _ _).map _=_;rw[a5 [.tup ae,.int y.2] (by simp[cc,h0]) (Eo U h3)];rfl
  have hk:du ((x::r).map λx=>D.tup [.int (aA x.1),.int x.2])=some ((x::r).map kA):=ft (x::r) λy _=>rr;have hz:((x::r).map kA).zip ((x::r).map λx=>D.int x.2)=(kA x,.int x.2)::r.map λx=>(kA x,D.int x.2):=by
   rw[zip_map'];rfl
  unfold CH R8;show((some _).bind _)=_;simp only[vJ];rw[hm _ rr];simp only[vJ];rw[hk];simp only[vJ];rw[if_pos (qq _),hz];simp only[oK]
def dz:LS:=[("death" : Str)]
def j0:∀w∈dz,cx w=true:=by
 intro w hw;rcases vP hw with rfl|hw
 .decide +kernel
 simp_all
def rX (ae:LD)(aa:Int)(p:Str)(day:Int):Bool:=(pV ae aa dz p day).isEmpty
def zO (ae:LD)(O:∀r∈ae,rR r)(hl:ae.length<=1000)(aa:Int)(p:Str)(day:Int):qo [.tup ae,.int aa,.str p,.int day]=sO (rX ae aa p day):=by
 have M:=xD _ O hl aa _ j0 p day;unfold rX;generalize pV _ _ _ p _=U at M |-;refine ah rr (aj (aX (.int ((U.map λx=>D.int x.2).length:Nat)) _ ?_ rr ?_))
 .exact a5 _ (a8 (a5 _ (by simp[sizeLine,dz]) M) rr) ie
 .cases U<;>simp
  lia
noncomputable def cC:D->Str
 |.tup [_,.tup (_::_::.str p::_)]=>p
 |_=>("" : Str)
noncomputable def zP:LS:=[("chosen" : Str),"heir","leave","paper","like","copy","call"]
theorem rY (k:Str):cZ k=decide (k∈zP):=by
 simp_all[cZ,zP,Bool.or_assoc]
def BD:gL=.tup (zP.map .str):=rfl
def pC (k:Str)(ws:LS):gz (.str k) (.tup (ws.map .str))=sO (!decide (k∈ws)):=by
 simp only[gz,fM,vJ,nH];rw[if_pos ⟨rr,lq ws⟩]
def JU (h:cZ k=true):ma bZ (.str k) (.str "by")=sI 1:=by
 rcases mw h with rfl|rfl|rfl|rfl|rfl|rfl|rfl<;>exact bF
def gV (ae:LD)(aa:Int)(r:D):Bool:=(decide (aw r<=aa) && cZ (kindOf r)) && (rX ae aa (cC r) (aA r) && En ae aa (cC r) (aA r))
def kG {ae:LD}{i:Nat}{h:Int}{kind:Str}{ai:LD}(M:ae[i]? = some (row h kind ai))(aa:Int):cB [.tup ae,.int aa,.int i]=sO (decide (h<=aa)):=by
 have O:=(vV M).1;have ha:=bc M;refine ah rr (aj ?_);have:=ce (f1:=jO L1 Y6 (fI 0) (am 2) (fA jR (fV 0 a0))) (f2:=f2 L1 (f2 dM (f2 dM (am 0) (am 2)) (fI 0)) (am 1)) (ρ:=[sJ ae,sI aa,sI i]) (q:=decide (h<=aa))
  (by
   refine(iY (z:=.int ae.length) (b3:=false) (b4:=false) (p:=true) (q:=true) rr rr H9 H9 λ_=>?_).trans rr;simp;lia) λ_=>by simp[ha,row,A9]
 exact this
def rZ (ae:LD)(U:∀r∈ae,rR r)(hl:ae.length<=1000)(aa:Int){i:Nat}{r:D}(a:ae[i]? = some r):jt [.tup ae,.int aa,.int i]=sO (gV ae aa r):=by
 obtain⟨h,kind,ai,rfl,dp⟩:=U r (vL a);have hk:=kG a aa;have ha:=bc a;have O:∀(ρ:DL.Env),f2 dM (am 0) (am 2) ρ=some (row h kind ai,false)->fA aY (ak _ a0) ρ=sS kind:=λρ e=>a5 [row h kind ai] (a8 e rr) (bC _ _ _);have M:f2 dM (am 0) (am 2) [sJ ae,sI aa,sI i,none,none]=some (row h kind ai,false):=by simp[ha]
 have hc:(lQ (mJ (bW (fA cB (fV 0 (fV 1 (fV 2 a0)))))) (bW (f2 gz (fA aY (ak (f2 dM (am 0) (am 2)) a0)) (fC gL)))) [sJ ae,sI aa,sI i,none,none]=some (!decide (h<=aa) || !cZ kind):=by
  refine bY (bi (cw (a5 _ rr hk))) λ_=>cw (aX (.str kind) gL (O _ M) rr ?_);rw[BD,rY];exact pC kind zP
 have hs:gV ae aa (row h kind ai)=((decide (h<=aa) && cZ kind) && (rX ae aa (cC (row h kind ai)) (aA (row h kind ai)) && En ae aa (cC (row h kind ai)) (aA (row h kind ai)))):=rr;cases hb:(decide (h<=aa) && cZ kind) with
 |false=>
  rw[hs,hb];refine ah rr (aT (hc.trans ?_) (aj rr));rw[<-Bool.not_and,hb];rfl
 |true=>
  rw[hs,hb];rw[vC]at hb;obtain⟨day,p,c,rfl⟩:=dp.slg hb.2;rw[Bool.true_and];refine ah rr (ao (hc.trans (by rw[hb.1,hb.2];rfl)) (eC (.str p) (a5 _ (a8 M rr) (aP (i:=1) (JU hb.2) rr)) rr (eC (.int day) (a5 [row h kind (.int day::.str p::c)] (a8 (b:=false) (by simp[ha]) rr) (rS (.inr hb.2) rr)) rr (aj ?_))));exact ce (b1:=false) (a5 _ H9 (zO ae U hl aa p day)) λ_=>a5 _ H9 (NG ae U hl aa p day)
inductive Cd:Str->List D->Prop
 |root (o r:Str) (m f:Int):Cd ("root" : Str) [.str o,.int m,.int f,.str r]
 |named (d:Int) (o p:Str):Cd ("named" : Str) [.int d,.str o,.str p]
 |chosen (d:Int) (b o p:Str) (s:Int):Cd ("chosen" : Str) [.int d,.str b,.str o,.str p,.int s]
 |heir (d:Int) (b o p:Str):Cd ("heir" : Str) [.int d,.str b,.str o,.str p]
 |three (k:Str) (hk:k = "death" \/ k = "lost" \/ k = "found") (d:Int) (p:Str):Cd k [.int d,.str p]
 |other (k:Str) (hk:k = "leave" \/ k = "paper" \/ k = "like" \/ k = "copy" \/ k = "call") (d:Int) (b:Str) (r:List D) (hf:aN r=true) (hp:r.all (aG 5)=true):Cd k (.int d::.str b::r)
def Cd.deed (h:Cd k r):DeedP k r:=by
 cases h with
 |root o rl m f=>exact⟨rr,H9,λh=>cP h,λh=>cP h⟩
 |named d o p=>exact⟨rr,H9,λh=>cP h,λh=>cP h⟩
 |chosen d b o p s=>exact⟨rr,H9,λh=>cP h,λ_=>⟨d,b,_,rr⟩⟩
 |heir d b o p=>exact⟨rr,H9,λh=>cP h,λ_=>⟨d,b,_,rr⟩⟩
 |three k hk d p=>exact⟨rr,H9,λ_=>⟨d,p,rr⟩,λh=>by lia⟩
 |other k hk d b r hf hp=>exact⟨by simp[hf],by simp_all,λh=>by rcases hk with rfl|rfl|rfl|rfl|rfl<;>exact cP h,λ_=>⟨d,b,r,rr⟩⟩
def xF (r:D):Prop:=∃h k ai,r=row h k ai/\Cd k ai
def xF.rp (h:xF r):rR r:=by obtain⟨a,k,ai,rfl,d⟩:=h;exact⟨a,k,ai,rr,d.deed⟩
def aD (r:D):Bool:=decide (kindOf r = "root")
def Cd.day (h:Cd k r)(hk:k ≠ "root"):∃d q,r=.int d::q:=by
 cases h with
 |root=>exact absurd rr hk
 |named d=>exact⟨d,_,rr⟩
 |chosen d=>exact⟨d,_,rr⟩
 |heir d=>exact⟨d,_,rr⟩
 |three _ _ d=>exact⟨d,_,rr⟩
 |other _ _ d=>exact⟨d,_,rr⟩
def Cd.day_idx (h:Cd k r)(hk:k ≠ "root"):ma bZ (.str k) (.str "day")=sI 0:=by
 cases h with
 |root=>exact absurd rr hk
 |named=>exact bF
 |chosen=>exact bF
 |heir=>exact bF
 |three _ hh=>rcases hh with rfl|rfl|rfl<;>exact bF
 |other _ hh=>rcases hh with rfl|rfl|rfl|rfl|rfl<;>exact bF
def bv (e:f ρ=some (.str a,bb))(h:decide (a=b)=x):bW (f2 kU f (fS b)) ρ=some x:=by simp_all
def tP (r:D):D:=if aD r=true then .non else .int (aA r)
def gX (g:xF r):aY [r]=sS (kindOf r):=by
 obtain⟨h,k,ai,rfl,_⟩:=g;exact bC h k _
def sd (g:xF r):bj [r]=some (tP r,false):=by
 obtain⟨h,k,ai,rfl,d⟩:=g;unfold tP;by_cases hk:k = "root"
 .have:aD (row h k ai)=true:=yc hk;rw[if_pos this];exact ah rr (aT (bv (a5 _ rr (bC _ _ _)) (yc hk)) (aj rr))
 .have:aD (row h k ai)=false:=ye hk;rw[if_neg (by rw[this];decide)];obtain⟨dd,q,rfl⟩:=d.day hk;exact ah rr (ao (bv (a5 _ rr (bC _ _ _)) (ye hk)) (aj (a5 _ rr (aP (d.day_idx hk) rr))))
def eP (ae:LD):Prop:=ae.length<=60/\∀r∈ae,xF r
def eP.rp (g:eP ae):∀r∈ae,rR r:=λr M=>(g.2 r M).rp
def eP.le (g:eP ae):ae.length<=1000:=vR g.1 P9
def aR (h:x∈ag ae aa):ae[x.2]? = some x.1:=by
 obtain⟨h1,_⟩:=vN h;exact mem_zipIdx_iff_getElem?.mp h1
theorem bJ (ae:LD)(aa:Int):(ag ae aa).length<=ae.length:=by
 have:=vM (λx=>decide (aw x.1<=aa)) ae.zipIdx;rw[length_zipIdx]at this;exact this
theorem eI (ae:LD)(aa:Int):((ag ae aa).map (·.2)).Nodup:=by
 have h1:(ae.zipIdx.map (·.2)).Nodup:=by simp_all[List.nodup_range']
 exact List.Nodup.sublist (List.Sublist.map _ (filter_sublist)) h1
def cM (ae:LD)(aa:Int):List (D×Nat):=(ag ae aa).filter λx=>!aD x.1
def VQ (ae:LD)(aa:Int):List (D×Nat):=dr (λx=>bU (kA x)) (cM ae aa)
def BE (h:bU (kA a)=bU (kA b)):a.2=b.2:=by
 have h:[aA _,(a.2:Int)]=[aA _,(b.2:Int)]:=h;lia
def NH (ha:a∈ag ae aa)(hb:b∈ag ae aa)(h:a.2=b.2):a=b:=by
 have h1:=aR ha;have h2:=aR hb;rw[h,h2]at h1;exact Prod.ext (vK h1).symm h
def pD (g:eP ae)(aa:Int):dO [.tup ae,.int aa]=lT ((VQ ae aa).map λx=>.int x.2):=by
 have hl:=g.1;have n:=bJ ae aa;have O:∀x∈ag ae aa,lD ae (x.2:Int)=some x.1/\xF x.1:=λx hx=>⟨bc (aR hx),g.2 _ (vL (aR hx))⟩;have hc:=eA (fi:=dE (fA eD (fV 0 (fV 1 a0)))) (nT:=1) (cap:=[0]) (tg:=gn 0) (c:=bW (f2 qK (fA bj (ak (f2 dM (am 1) (am 0)) a0)) (fC .non))) (fe:=am 0) (ρ:=[sJ ae,sI aa,none]) (ag ae aa) (λx=>.int x.2) (λx=>!aD x.1) (λx=>.int x.2)
  (by
   show(fA eD (fV 0 (fV 1 a0)) _).bind _=_;rw[a5 [.tup ae,.int aa] rr (kF ae g.rp g.le aa)];rfl) N9 λx hx=>by
   obtain⟨ha,f⟩:=O x hx;refine⟨_,rr,cw (aX (tP x.1) .non (a5 [x.1] (by simp[cc,ha]) (sd f)) rr ?_),λ_=>⟨false,by simp[cc]⟩⟩;unfold tP;split<;>simp_all
 have j:=hc;have k:aN ((cM ae aa).map λx=>D.int x.2)=true:=ba λd hd=>by obtain⟨x,_,rfl⟩:=vO hd;rfl
 have o:(cM ae aa).length<=60:=vR (vM _ _) N9;have M:∀x∈cM ae aa,x∈ag ae aa/\aD x.1=false:=λx hx=>by
  obtain⟨h1,h2⟩:=vN hx;lia
 have hm:∀ρ:DL.Env,ρ[0]? = some (sJ ae)->hW (xi [0] (fA gP (fV 1 (fV 0 a0))) ρ) ((cM ae aa).map λx=>.int x.2)=some _:=λρ h0=>
  fF (cM ae aa) λx hx=>by
   obtain⟨h1,h2⟩:=M x hx;obtain⟨ha,f⟩:=O x h1;have hd:=sd f;unfold tP at hd;rw[h2,if_neg P9]at hd;have l:gP [.tup ae,.int x.2]=sJ [.int (aA x.1),.int x.2]:=ah rr (aj (a5 [.int (aA x.1),.int x.2] (a8 (d:=.int (aA x.1)) (b:=false) (a5 [x.1] (by simp[ha]) hd) rr) u9));show(fA gP _ _).map _=_;rw[a5 [.tup ae,.int x.2] (by simp[cc,h0]) l];rfl
 have hk:du ((cM ae aa).map λx=>D.tup [.int (aA x.1),.int x.2])=some ((cM ae aa).map kA):=ft _ λx _=>rr;have hz:((cM ae aa).map kA).zip ((cM ae aa).map λx=>D.int x.2)=(cM ae aa).map λx=>(kA x,D.int x.2):=by rw[zip_map']
 have m:((cM ae aa).map (·.2)).Nodup:=List.Nodup.sublist (List.Sublist.map _ (filter_sublist)) (eI ae aa);have U:((cM ae aa).map kA).length<64/\cy ((cM ae aa).map kA)=true/\cH ((cM ae aa).map kA)=true/\(((cM ae aa).map kA).map bU).Nodup:=by
  refine⟨by rw[vI];lia,qq _,?_,?_⟩
  .unfold cH;rw[Bool.or_eq_true];left;simp[all_eq_true,kA]
  .rw[uP];exact List.Pairwise.map _ (λa b h e=>h (BE e)) (pairwise_map.mp m)
 refine ah rr (bw j k (aj ?_));show(xl (am 2) _ _)=_;unfold xl;show((some (D.lst ((cM ae aa).map λx=>D.int x.2),false)).bind _)=_;simp only[vJ];rw[hm _ rr];simp only[vJ];rw[hk];simp only[vJ];rw[if_pos U];unfold dF;rw[hz];have i:((VQ ae aa).map λx=>(kA x,D.int x.2))=dr (λp:List At×D=>bU p.1) ((cM ae aa).map λx=>(kA x,D.int x.2)):=by
  refine jU _ (λx hx y hy e=>?_) ((aH _ _).map _) ?_
  .obtain⟨a,ha,rfl⟩:=vO hx;obtain⟨b,hb,rfl⟩:=vO hy;rw[NH (M a ha).1 (M b hb).1 (BE e)]
  .exact pairwise_map.mpr (eV _ _)
 rw[<-i,uP];rfl
structure Cl where
 o:Str
 p:Str
 s:Int
 u:Option Int
 n:Nat
def uD:OI->D
 |none=>.non
 |some x=>.int x
noncomputable def aV (c:Cl):D:=.tup [.str c.o,.str c.p,.int c.s,uD c.u,.int c.n]
def Ep (u:OI):aQ (uD u)=true:=by cases u<;>rfl
theorem nJ (c:Cl):aQ (aV c)=true:=by simp[aV,Ep]
def jb (cs:List Cl):aN (cs.map aV)=true:=by grind[ba,nJ]
noncomputable def gY (c:Cl)(day:Int):Bool:=decide (c.s<=day) && (match c.u with|none=>true|some x=>decide (day<x))
def at3 (d e f g:D)(r:LD):lD (d::e::f::g::r) 3=some g:=by have:=jp (xs:=d::e::f::g::r) (j:=3) H9;simpa using this
def at4 (d e f g h:D)(r:LD):lD (d::e::f::g::h::r) 4=some h:=by have:=jp (xs:=d::e::f::g::h::r) (j:=4) H9;simpa using this
def YA (c:Cl):dM (aV c) (.int 0)=sS c.o:=by simp[aV,A9]
def T8 (c:Cl):dM (aV c) (.int 1)=sS c.p:=by simp[aV,JP]
def cl2 (c:Cl):dM (aV c) (.int 2)=sI c.s:=by simp[aV,at2]
def cl3 (c:Cl):dM (aV c) (.int 3)=some (uD c.u,false):=by simp[aV,at3]
def cl4 (c:Cl):dM (aV c) (.int 4)=sI c.n:=by simp[aV,at4]
def aZ (ds:LD)(h:ds.length<=100):cG ds=sJ ds:=if_pos (c7 N9)
def cD (ds:LD)(h:ds.length<=100):gu ds=lT ds:=if_pos (c7 N9)
def xG (s day:Int)(u:OI):lm [.int day,.tup [.int s,uD u]]=sO (decide (s<=day) && (match u with|none=>true|some x=>decide (day<x))):=by
 refine ah rr (aj (ce (b1:=false) (by simp[A9]) λ_=>?_));cases u with
 |none=>rfl
 |some x=>rfl
def se (c:Cl)(day:Int):dP [aV c,.int day]=sO (gY c day):=
 ah rr (aj (a5 _ (aO rr (aO (a5 _ (a8 (aX _ _ rr rr (cl2 c)) (a8 (aX _ _ rr rr (cl3 c)) rr)) (aZ _ H9)) rr)) (xG _ _ _)))
def kS (c:Cl):List At:=[.i c.s,.i c.n]
def oM:Cl->List Cl->Cl
 |b,[]=>b
 |b,x::r=>if aW (kS x) (kS b)=some true then oM x r else oM b r
def xH:Cl->List Cl->Cl
 |b,[]=>b
 |b,x::r=>if aW (kS b) (kS x)=some true then xH x r else xH b r
theorem sf:∀(r:List Cl)(b:Cl),p5 (kS b,aV b) (r.map λx=>(kS x,aV x))=aV (oM b r)
 |[],b=>rr
 |x::r,b=>by
  rw[uY,p5,oM];split
  .exact sf r x
  .exact sf r b
theorem si:∀(r:List Cl)(b:Cl),p4 (kS b,aV b) (r.map λx=>(kS x,aV x))=aV (xH b r)
 |[],b=>rr
 |x::r,b=>by
  rw[uY,p4,xH];split
  .exact si r x
  .exact si r b
def Er (cs:List Cl):cy (cs.map kS)=true:=by
 simp_all[cy,kS,Sa]
def sj (ρ:DL.Env)(cs:List Cl):hW (FD gQ ρ) (cs.map aV)=some (cs.map λc=>.tup [.int c.s,.int c.n]):=fF cs λc _=>by
 rfl
def pF (cs:List Cl):du (cs.map λc=>D.tup [.int c.s,.int c.n])=some (cs.map kS):=ft cs λc _=>rr
def JV (e:f ρ=some (.lst ((b::r).map aV),bb)):CJ f (FD gQ) ρ=some (aV (oM b r),false):=by
 unfold CJ R8;rw[e,vJ];dsimp;rw[sj,vJ,pF,vJ,if_pos (Er _)];have:((b::r).map kS).zip ((b::r).map aV)=(kS b,aV b)::r.map λx=>(kS x,aV x):=by rw[zip_map'];rfl
 rw[this];show some _=_;rw[sf]
def Sb (e:f ρ=some (.lst ((b::r).map aV),bb)):CH f (FD gQ) ρ=some (aV (xH b r),false):=by
 unfold CH R8;rw[e,vJ];dsimp;rw[sj,vJ,pF,vJ,if_pos (Er _)];have:((b::r).map kS).zip ((b::r).map aV)=(kS b,aV b)::r.map λx=>(kS x,aV x):=by rw[zip_map'];rfl
 rw[this];show some _=_;rw[si]
def j4 (rl:Str)(b:Cl)(r:List Cl):Cl:=if rl = "last" then xH b r else oM b r
def JX (rl:Str)(b:Cl)(r:List Cl):mq [.lst ((b::r).map aV),.str rl]=sS (j4 rl b r).p:=by
 unfold j4;by_cases h:rl = "last"
 .rw[if_pos h];exact ah rr (aT (bv rr (yc h)) (aj (aX _ _ (Sb rr) rr (T8 _))))
 .rw[if_neg h];exact ah rr (ao (bv rr (ye h)) (aj (aX _ _ (JV rr) rr (T8 _))))
theorem sk:∀(r:List Cl)(b:Cl),oM b r∈b::r
 |[],b=>by simp[oM]
 |x::r,b=>by
  rw[oM];split
  .exact mZ _ (sk r x)
  .rcases vP (sk r b)with h|h
   .rw[h];exact mX
   simp_all
theorem sn:∀(r:List Cl)(b:Cl),xH b r∈b::r
 |[],b=>by simp[xH]
 |x::r,b=>by
  rw[xH];split
  .exact mZ _ (sn r x)
  .rcases vP (sn r b)with h|h
   .rw[h];exact mX
   simp_all
def Gc (rl:Str)(b:Cl)(r:List Cl):j4 rl b r∈b::r:=by
 grind[j4,sn,sk]
noncomputable def VR (cs:List Cl)(o:Str)(day:Int):List Cl:=cs.filter λc=>decide (c.o=o) && gY c day
def oN (cs:List Cl):LS:=mV (f9 (cs.map (·.p)))
def VS:List Cl->Nat
 |[]=>0
 |b::r=>(oM b r).n
def pG (rl:Str):List Cl->D
 |[]=>.tup [.str "none"]
 |b::r=>if 1<(oN (b::r)).length/\rl = "open" then .tup [.str "parted",.lst ((oN (b::r)).map .str)]
  else .tup [.str "one",.str (j4 rl b r).p,.int (VS ((b::r).filter λc=>decide (c.p=(j4 rl b r).p)))]
def jC (cs:List Cl)(o rl:Str)(day:Int):D:=pG rl (VR cs o day)
theorem NI {z:Str}:f9 (z::zs)≠[]:=by
 have:∀(ss:List _)(M:List _),z∈M->z∈ss.foldl jE M:=λss=>by
  induction ss with
  |nil=>intro M h;exact h
  |cons a l ih=>intro M h;exact ih _ (yN.mpr (.inl h))
 grind[jE,f9]
def pH:av [row h ("root" : Str) [.str o,.int m,.int f,.str rl],.str "office"]=sS o:=aP (i:=0) bF rr
def Ge:av [row h ("root" : Str) [.str o,.int m,.int f,.str rl],.str "rule"]=sS rl:=aP (i:=3) bF rr
def nL (zs:LS):eO (zs.map .str)=some zs:=by
 simp
def nM (cs:List Cl)(hl:cs.length<=60)(day:Int):km [.lst (cs.map aV),row h ("root" : Str) [.str o,.int m,.int f,.str rl],.int day]=some (jC cs o rl day,false):=by
 let rt:D:=row h ("root" : Str) [.str o,.int m,.int f,.str rl];have h1:=eA (fi:=dE (am 0)) (nT:=1) (cap:=[2,1]) (tg:=gn 0) (c:=gm (bW (f2 kU (nY 0 0) (fA av (fV 2 (ak (fS "office") a0))))) (bW (fA dP (fV 0 (fV 1 a0))))) (fe:=am 0)
  (ρ:=[sL (cs.map aV),some (rt,false),sI day,none,none,none,none]) cs aV (λc=>decide (c.o=o) && gY c day) aV H9 N9 λc hc=>by
   refine⟨_,rr,bS (cw (aX (.str c.o) (.str o) (aX (aV c) (.int 0) (by simp[cc]) rr (YA c)) (a5 [rt,.str "office"] (by simp[cc]) pH) H9)) λ_=>cw (a5 [aV c,.int day] (by simp[cc]) (se c day)),λ_=>⟨false,by simp[cc]⟩⟩
 have d:jN (dE (am 0)) 1 [2,1] (gn 0) _ (am 0) _=lT ((VR cs o day).map aV):=h1;have a:(VR cs o day).length<=60:=vR (vM _ _) hl;unfold jC;generalize VR cs o day=al at d a;have h2:∀ρ:DL.Env,ρ[3]? = some (lT (al.map aV))->f1 jT (jN (dE (am 3)) 1 [] (gn 0) yw (nY 0 1)) ρ=lT ((oN al).map .str):=λρ h3=>by
  have hc:=gI (fi:=dE (am 3)) (nT:=1) (cap:=[]) (tg:=gn 0) (fe:=nY 0 1) (ρ:=ρ) al aV (λc=>.str c.p) (by simp[h3]) N9 λc hc=>⟨_,rr,false,aX (aV c) (.int 1) (by simp[cc]) rr (T8 c)⟩;have e2:al.map (λc=>D.str c.p)=(al.map (·.p)).map .str:=by rw[uP];rfl
  rw[e2]at hc;unfold f1;rw[hc,vJ];show(eO ((al.map (·.p)).map .str)).bind _=_;rw[nL,vJ,if_pos (by rw[vI];lia)];rfl
 have i:aN ((oN al).map D.str)=true:=bT _;refine ah rr (bw (ds:=al.map aV) d (jb al) (bw (ds:=(oN al).map .str) (h2 _ rr) i ?_));cases al with
 |nil=>rfl
 |cons b r=>
  have j:(oN (b::r)).length≠0:=by
   unfold oN;rw[(cV _).length_eq];grind[NI]
  refine ao (cw (by simp[j])) ?_;have M:∀ρ:DL.Env,ρ[1]? = some (some (rt,false))->fA av (fV 1 (ak (fS "rule") a0)) ρ=sS rl:=λρ k=>a5 [rt,.str "rule"] (by simp[k]) Ge;by_cases hp:1<(oN (b::r)).length/\rl = "open"
  .have:pG rl (b::r)=.tup [.str "parted",.lst ((oN (b::r)).map .str)]:=by rw[pG,if_pos hp]
   rw[this];exact aT (bS (p:=true) (q:=true) (cw s9) λ_=>bv (bb:=false) (M _ rr) (yc hp.2)) (aj (a5 [.str "parted",.lst ((oN (b::r)).map .str)] H9 (aZ _ H9)))
  .have:pG rl (b::r)=.tup [.str "one",.str (j4 rl b r).p,.int (VS ((b::r).filter λc=>decide (c.p=(j4 rl b r).p)))]:=by rw[pG,if_neg hp]
   rw[this];have O:gm (bW (f2 OS (fA jR (fV 4 a0)) (fI 1))) (bW (f2 kU (fA av (fV 1 (ak (fS "rule") a0))) (fS "open"))) [sL (cs.map aV),some (rt,false),sI day,lT ((b::r).map aV),lT ((oN (b::r)).map .str),none,none]=some false:=by
    by_cases h5:1<(oN (b::r)).length
    .exact bS (p:=true) (q:=false) (cw s9) λ_=>bv (bb:=false) (M _ rr) (ye λe=>hp ⟨h5,e⟩)
    .exact bS (p:=false) (q:=false) (cw s9) H9
   have l:=Gc rl b r;let ch:=j4 rl b r;have g:=eA (fi:=dE (am 3)) (nT:=1) (cap:=[5]) (tg:=gn 0) (c:=bW (f2 kU (nY 0 1) (am 1))) (fe:=am 0) (ρ:=[sL (cs.map aV),some (rt,false),sI day,lT ((b::r).map aV),lT ((oN (b::r)).map .str),sS ch.p,none]) (b::r) aV (λc=>decide (c.p=ch.p)) aV H9 N9 λc hc=>⟨_,rr,cw (aX (.str c.p) (.str ch.p) (aX (aV c) (.int 1) (by simp[cc]) rr (T8 c)) (by simp[cc]) H9),λ_=>⟨false,by simp[cc]⟩⟩;obtain⟨b2,U,hf⟩:∃b2 U,(b::r).filter (λc=>decide (c.p=ch.p))=b2::U:=by
    cases hq:(b::r).filter (λc=>decide (c.p=ch.p)) with
    |nil=>
     have:=List.filter_eq_nil_iff.mp hq _ l;simp[ch]at this
    |cons b2 U=>exact⟨b2,U,rr⟩
   rw[hf]at g |-;refine ao O (eC (.str ch.p) (a5 [.lst ((b::r).map aV),.str rl] (aO H9 (a8 (M _ rr) rr)) (JX rl b r)) rr (eC (aV (oM b2 U)) (JV (bb:=true) g) (nJ _) (aj (a5 [.str "one",.str ch.p,.int (oM b2 U).n] (aO rr (aO rr (a8 (aX (aV (oM b2 U)) (.int 4) rr rr (cl4 _)) rr))) (aZ _ H9)))))
def Pr:D->D
 |.tup ds=>.tup (lS ds none (some 2))
 |d=>d
def gZ (cs:List Cl)(o rl p:Str)(day:Int):Bool:=iQ (Pr (jC cs o rl day)) (.tup [.str "one",.str p])
def Gf (rl:Str)(M:List Cl):∃ds,pG rl M=.tup ds/\ds.all (aG 5)=true:=by
 cases M with
 |nil=>exact⟨_,rr,H9⟩
 |cons b r=>
  rw[pG];split
  .simp
  .exact⟨_,rr,H9⟩
def JY (h:ds.all (aG 5)=true):(lS ds lo hi).all (aG 5)=true:=by
 rw[all_eq_true]at h |-;exact λd hd=>h d (List.mem_of_mem_drop (mem_of_mem_take hd))
def ve (h:ds.all (aG 5)=true):aG 40 (.tup ds)=true:=jz 6 40 _ P9 (by simpa only[aG]using h)
def xI (cs:List Cl)(hl:cs.length<=60)(p:Str)(day:Int):dj [.lst (cs.map aV),row h ("root" : Str) [.str o,.int m,.int f,.str rl],.str p,.int day]=sO (gZ cs o rl p day):=by
 have hb:=nM cs hl (h:=h) (o:=o) (rl:=rl) (m:=m) (f:=f) day;obtain⟨ds,e,hd⟩:=Gf rl _;have M:jC cs o rl day=.tup ds:=e;refine ah rr (aj (aX (Pr (jC cs o rl day)) (.tup [.str "one",.str p]) ?_ u9 ?_))
 .have hc:=aF (fa:=fV 0 (fV 1 (fV 3 a0))) (ρ:=[sF _,some (row h _ _,false),sS p,sF _]) rr hb;rw[M]at hc |-;unfold GJ;rw[show(List.map _ _++List.replicate 0 _:DL.Env)=[sF _,some _,sF _,sF _]from rr,hc];rfl
 .unfold gZ kU;rw[if_pos];rw[M];exact⟨ve (JY hd),ve H9⟩
noncomputable def aq (j:Nat):D->Str
 |.tup [_,.tup (_::ai)]=>match ai[j]? with
  |some (.str s)=>s
  |_=>("" : Str)
 |_=>("" : Str)
noncomputable def cN (j:Nat):D->Int
 |.tup [_,.tup (_::ai)]=>match ai[j]? with
  |some (.int s)=>s
  |_=>0
 |_=>0
def Cd.root_of (h:Cd ("root" : Str) r):∃o rl,∃m f:Int,r=[.str o,.int m,.int f,.str rl]:=by
 generalize hk:("root" : Str)=k at h;cases h with
 |root o rl m f=>exact⟨o,rl,m,f,rr⟩
 |named=>exact cP hk
 |chosen=>exact cP hk
 |heir=>exact cP hk
 |three _ hh=>rcases hh with rfl|rfl|rfl<;>exact cP hk
 |other _ hh=>rcases hh with rfl|rfl|rfl|rfl|rfl<;>exact cP hk
def vg {κ α:Type}[DecidableEq κ]{ks:List κ}{k:κ}{x y:α}:∀ {xs:List α},y∈cz ks xs k x->y=x\/y∈xs:=by
 intro xs h;unfold cz at h;split at h
 .rename_i M;clear M;induction ks generalizing xs with
  |nil=>simp at h
  |cons a ks ih=>
   cases xs with
   |nil=>simp at h
   |cons b xs=>
    grind[List.zipWith_cons_cons]
 grind
theorem vh:∀(l:List (dA×D))(a:LK×LD)(y:D),y∈(l.foldl md a).2->y∈a.2\/∃p∈l,p.2=y
 |[],a,y,h=>.inl h
 |p::l,a,y,h=>by
  rcases vh l _ y h with h|⟨q,hq,e⟩
  .rcases vg (show y∈cz _ _ _ _ from h)with h|h
   .exact .inr ⟨p,mX,h.symm⟩
   .exact .inl h
  .exact .inr ⟨q,mZ _ hq,e⟩
theorem vi {α:Type}(f:α->Str)(g:α->D):∀(l:List α),gG (l.map λx=>D.tup [.str (f x),g x])=some (l.map λx=>(.inr (f x),g x))
 |[]=>rr
 |x::l=>by
  show((lK _).bind _)=_;rw[vi f g l];rfl
theorem sr {κ:Type}[DecidableEq κ]:∀ {ks:List κ}{vs:LD}{k:κ}{v:D},bN ks vs k=some v->v∈vs
 |k'::ks,d::ds,k,v,h=>by
  unfold bN at h;split at h
  .cases h;exact mX
  .exact mZ _ (sr h)
 |[],_,_,_,h=>by simp[bN]at h
 |_::_,[],_,_,h=>by simp[bN]at h
noncomputable def jD (KL:List (D×Nat)):List (dA×D):=(KL.filter λx=>aD x.1).map λx=>(.inr (aq 0 x.1),x.1)
def pJ (KL:List (D×Nat))(o:Str):Option D:=bN (bA (jD KL)).1 (bA (jD KL)).2 (.inr o)
def su (g:xF r)(h:aD r=true):∃a o rl,∃m f:Int,r=row a ("root" : Str) [.str o,.int m,.int f,.str rl]:=by
 obtain⟨a,k,ai,rfl,d⟩:=g;have hk:=ET h;subst hk;obtain⟨o,rl,m,f,rfl⟩:=d.root_of;exact⟨a,o,rl,m,f,rr⟩
def cK (g:eP ae)(hx:x∈ag ae aa):lD ae (x.2:Int)=some x.1/\xF x.1:=⟨bc (aR hx),g.2 _ (vL (aR hx))⟩
def zQ (g:eP ae)(h:pJ (ag ae aa) o=some v):∃a M rl,∃m f:Int,v=row a ("root" : Str) [.str M,.int m,.int f,.str rl]:=by
 have hv:=sr h;rcases vh _ _ v hv with h|⟨p,hp,e⟩
 .cases h
 .obtain⟨x,hx,rfl⟩:=vO hp;obtain⟨h1,h2⟩:=vN hx;rw[<-e];exact su (cK g h1).2 h2
def sv (g:eP ae)(aa:Int):ir [.tup ae,.int aa]=sF (.dk (bA (jD (ag ae aa))).1 (bA (jD (ag ae aa))).2):=by
 have hl:=bJ ae aa;have O:=g.1;have h1:=gI (fi:=dE _) (nT:=1) (cap:=[0]) (tg:=gn 0) (fe:=f2 dM (am 1) (am 0)) (ρ:=[sJ ae,sF _,none]) (ag ae aa) _ Prod.fst
  (by
   show(fA eD (fV 0 (fV 1 a0)) _).bind _=_;rw[a5 _ rr (kF ae g.rp g.le aa)];rfl) N9 λx hx=>by
   have ha:=(cK g hx).1;exact⟨_,rr,false,by simp[cc,ha]⟩
 have hn:aN ((ag ae aa).map Prod.fst)=true:=ba λd hd=>by
  obtain⟨x,hx,rfl⟩:=vO hd;exact(cK g hx).2.rp.flat
 have h2:=eA (fi:=dE (am 2)) (nT:=1) (cap:=[]) (tg:=gn 0) (c:=bW (f2 kU (fA aY (fV 0 a0)) (fS "root"))) (fe:=fA cG (ak (fA av (fV 0 (ak (fS "office") a0))) (fV 0 a0)))
  (ρ:=[sJ ae,sI aa,lT ((ag ae aa).map Prod.fst)]) (ag ae aa) Prod.fst _ (λx=>.tup [.str (aq 0 x.1),x.1]) H9 N9 λx hx=>by
   have M:=(cK g hx).2;refine⟨_,rr,bv (a5 [x.1] rr (gX M)) rr,λhp=>⟨false,?_⟩⟩;obtain⟨a,o,rl,m,f,e⟩:=su M hp;rw[e];rfl
 refine ah rr (bw h1 hn (aj (a5 _ (a8 h2 rr) ?_)));show(gG _).map _=_;rw[vi _ Prod.fst];rfl
def mz:D×Nat->List (D×Nat)->D×Nat
 |b,[]=>b
 |b,x::r=>if aW (kA x) (kA b)=some true then mz x r else mz b r
theorem xJ:∀(r:List (D×Nat))(b:D×Nat),p5 (kA b,.int b.2) (r.map λx=>(kA x,D.int x.2))=.int (mz b r).2
 |[],b=>rr
 |x::r,b=>by
  rw[uY,p5,mz];split
  .exact xJ r x
  .exact xJ r b
def eJ (KL:List (D×Nat))(p:Str)(day:Int)(i:Nat):Bool:=match KL.filter (λx=>told dz p day x.1) with
 |[]=>false
 |b::r=>decide ((mz b r).2=i)
def JZ (g:eP ae)(aa:Int)(hx:x∈ag ae aa)(e:x.1=row a ("death" : Str) [.int d,.str p]):fj [.tup ae,.int aa,.int x.2]=sO (eJ (ag ae aa) p d x.2):=by
 have ha:=(cK g hx).1;have n:=(cK g hx).2;have m:=xD ae g.rp g.le aa dz j0 p d;have O:av [x.1,.str "person"]=sS p:=by rw[e];exact aP (i:=1) bF rr
 have U:bj [x.1]=sI d:=by rw[e];rfl
 have M:x∈pV ae aa dz p d:=mem_filter.mpr ⟨hx,by simp_all[told,row,dz,vc]⟩;have j:eJ (ag ae aa) p d x.2=match pV ae aa dz p d with|[]=>false|b::r=>decide ((mz b r).2=x.2):=rr
 have c:∀y∈pV ae aa dz p d,∃h k dd,ae[y.2]? = some _/\y.1=row h k [.int dd,.str p]/\cx k=true:=λy hy=>by
  obtain⟨f,l⟩:=Em hy;obtain⟨h,k,dd,e2,h3,_⟩:=rW j0 (g.rp _ (vL f)) l;exact⟨h,k,dd,by rw[f,e2],e2,h3⟩
 rw[j];cases hs:pV ae aa dz p d with
 |nil=>rw[hs]at M;cases M
 |cons b r=>
  rw[hs]at m c;have hm:∀ρ:DL.Env,ρ[0]? = some (sJ ae)->hW (xi [0] (fA gP (fV 1 (fV 0 a0))) ρ) ((b::r).map λy=>.int y.2)=some ((b::r).map λy=>.tup [.int (aA y.1),.int y.2]):=λρ h0=>
   fF (b::r) λy hy=>by
    obtain⟨h,k,dd,f,e2,h3⟩:=c y hy;show(fA gP _ _).map _=_;rw[a5 [.tup ae,.int y.2] (by simp[cc,h0]) (Eo f h3),e2];rfl
  have hk:du ((b::r).map λy=>D.tup [.int (aA y.1),.int y.2])=some ((b::r).map kA):=ft _ λy _=>rr;have hz:((b::r).map kA).zip ((b::r).map λy=>D.int y.2)=(kA b,D.int b.2)::r.map λy=>(kA y,D.int y.2):=by rw[zip_map'];rfl
  have o:aN ((b::r).map λy=>D.int y.2)=true:=ba λd hd=>by obtain⟨y,_,rfl⟩:=vO hd;rfl
  refine ah rr (eC x.1 (by simp[ha]) n.rp.flat (bw (a5 [.tup ae,.int aa,.tup (dz.map .str),.str p,.int d] (aO rr (aO rr (aO (a5 [.str "death"] rr (aZ _ H9)) (a8 (a5 [x.1,.str "person"] rr O) (a8 (a5 [x.1] rr U) rr))))) m) o (aj (aX (.int (mz b r).2) (.int x.2) ?_ rr ?_))))
  .unfold CJ R8;show((some _).bind _)=_;rw[vJ];dsimp only;rw[hm _ rr,vJ,hk,vJ,if_pos (qq _),hz];simp_all[xJ]
  simp_all<;>lia
abbrev KL:=List (D×Nat)
noncomputable def kH (K:KL)(p:Str)(day:Int):Bool:=(K.filter λx=>told dz p day x.1).isEmpty
def Es (K:KL)(p:Str)(day:Int):Bool:=match Pq (K.filter λx=>told nI p day x.1) with
 |none=>true
 |some x=>decide (kindOf x.1 = "found")
def hG (K:KL)(r:D):Bool:=cZ (kindOf r) && (kH K (cC r) (aA r) && Es K (cC r) (aA r))
def zR (r:D):Str:=if kindOf r = "named" then aq 1 r else aq 2 r
noncomputable def xK:LS:=[("named" : Str),"chosen","heir"]
def bH (K:KL)(M:List Cl)(x:D×Nat):Bool:=
 if kindOf x.1 = "death" then eJ K (aq 1 x.1) (aA x.1) x.2
 else if kindOf x.1∈xK then match pJ K (zR x.1) with
  |none=>false
  |some v=>if kindOf x.1 = "named" then true else hG K x.1 && gZ M (aq 0 v) (aq 3 v) (aq 1 x.1) (aA x.1)
 else false
def NJ (ae:LD)(aa:Int)(p:Str)(day:Int):rX ae aa p day=kH (ag ae aa) p day:=rfl
def NK (h:aw r<=aa):gV ae aa r=hG (ag ae aa) r:=by
 unfold gV hG;rw[yc h];rfl
def Gg (g:eP ae)(aa:Int)(M:List Cl)(q:M.length<=60)(hx:x∈ag ae aa)(U:aD x.1=false):nB [.tup ae,.int aa,.lst (M.map aV),.int x.2]=sO (bH (ag ae aa) M x):=by
 obtain⟨ha,c⟩:=cK g hx;have hh:aw x.1<=aa:=ET (vN hx).2;have hf:aQ x.1=true:=c.rp.flat;have hw:∀ρ:DL.Env,ρ[4]? = some (some (x.1,false))->fA aY (fV 4 a0) ρ=sS (kindOf x.1):=λρ h4=>a5 [x.1] (by simp[h4]) (gX c);have O:∀ρ:DL.Env,ρ[4]? = some (some (x.1,false))->bW (f2 gz (fA aY (fV 4 a0)) (fA cG (ak (fS "named") (ak (fS "chosen") (ak (fS "heir") a0))))) ρ=some (!decide (kindOf x.1∈xK)):=λρ h4=>
  cw (aX (.str (kindOf x.1)) (.tup (xK.map .str)) (hw ρ h4) (by simp[sizeLine,xK]) (pC _ _))
 by_cases hd:kindOf x.1 = "death"
 .obtain⟨a,k,ai,e,d⟩:=c;have hk:k = "death":=by rw[e]at hd;exact hd
  subst hk;obtain⟨dd,p,rfl⟩:=d.deed.three O9;have hc:bH (ag ae aa) M x=eJ (ag ae aa) p dd x.2:=by
   unfold bH;rw[if_pos hd,e];rfl
  rw[hc];exact ah rr (eC x.1 (by simp[ha]) hf (aT (bv (bb:=false) (hw _ rr) (yc hd)) (aj (a5 [.tup ae,.int aa,.int x.2] rr (JZ g aa hx e)))))
 .by_cases h3:kindOf x.1∈xK
  .have n:av [x.1,.str "office"]=sS (zR x.1):=by
    obtain⟨a,k,ai,e,d⟩:=c;rw[e]at h3 hd U |-;replace h3:k∈xK:=h3;clear hd U;cases d with
    |root=>exact cP h3
    |named d o p=>exact aP (i:=1) bF rr
    |chosen d b o p s=>exact aP (i:=2) bF rr
    |heir d b o p=>exact aP (i:=2) bF rr
    |three _ hk=>rcases hk with rfl|rfl|rfl<;>exact cP h3
    |other _ hk=>rcases hk with rfl|rfl|rfl|rfl|rfl<;>exact cP h3
   have h:∀ρ:DL.Env,ρ[0]? = some (sJ ae)->ρ[1]? = some (sI aa)->ρ[4]? = some (some (x.1,false))->f2 V3 (fA ir (fV 0 (fV 1 a0))) (fA av (fV 4 (ak (fS "office") a0))) ρ=some ((pJ (ag ae aa) (zR x.1)).getD .non,false):=λρ r t u=>
    aX (.dk (bA (jD (ag ae aa))).1 (bA (jD (ag ae aa))).2) (.str (zR x.1)) (a5 [.tup ae,.int aa] (by simp[r,t]) (sv g aa)) (a5 [x.1,.str "office"] (by simp[u]) n) rr
   cases f:pJ (ag ae aa) (zR x.1) with
   |none=>
    rw[f]at h;have hc:bH (ag ae aa) M x=false:=by unfold bH;rw[if_neg hd,if_pos h3,f]
    rw[hc];exact ah rr (eC x.1 (by simp[ha]) hf (ao (bv (bb:=false) (hw _ rr) (ye hd)) (ao (by rw[O _ rr,yc h3];rfl) (eC .non (h _ rr rr rr) rr (aT (cw (aX .non .non rr rr H9)) (aj rr))))))
   |some v=>
    rw[f]at h;obtain⟨z,A,w,B,C,ev⟩:=zQ g f;have j:aQ v=true:=by rw[ev];rfl
    have l:Tz v .non=sO false:=by rw[ev];simp[row]
    by_cases hn:kindOf x.1 = "named"
    .have hc:bH (ag ae aa) M x=true:=by unfold bH;rw[if_neg hd,if_pos h3,f];dsimp only;rw[if_pos hn]
     rw[hc];exact ah rr (eC x.1 (by simp[ha]) hf (ao (bv (bb:=false) (hw _ rr) (ye hd)) (ao (by rw[O _ rr,yc h3];rfl) (eC v (h _ rr rr rr) j (ao (cw (aX v .non rr rr l)) (aT (bv (bb:=false) (hw _ rr) (yc hn)) (aj rr)))))))
    .have hc:bH (ag ae aa) M x=(hG (ag ae aa) x.1 && gZ M (aq 0 v) (aq 3 v) (aq 1 x.1) (aA x.1)):=by unfold bH;rw[if_neg hd,if_pos h3,f];dsimp only;rw[if_neg hn]
     have m:av [x.1,.str "by"]=sS (aq 1 x.1)/\bj [x.1]=sI (aA x.1):=by
      refine⟨?_,by rw[sd c];unfold tP;rw[U];rfl⟩;obtain⟨a,k,ai,e,d⟩:=c;rw[e]at h3 hn |-;replace h3:k∈xK:=h3;cases d with
      |root=>exact cP h3
      |named=>exact absurd rr hn
      |chosen d b o p s=>exact aP (i:=1) bF rr
      |heir d b o p=>exact aP (i:=1) bF rr
      |three _ hk=>rcases hk with rfl|rfl|rfl<;>exact cP h3
      |other _ hk=>rcases hk with rfl|rfl|rfl|rfl|rfl<;>exact cP h3
     have hs:=rZ ae g.rp g.le aa (aR hx);rw[NK hh]at hs;have y:dj [.lst (M.map aV),v,.str (aq 1 x.1),.int (aA x.1)]=sO (gZ M (aq 0 v) (aq 3 v) (aq 1 x.1) (aA x.1)):=by
      rw[ev];exact xI M q _ _
     rw[hc];refine ah rr (eC x.1 (by simp[ha]) hf (ao (bv (bb:=false) (hw _ rr) (ye hd)) (ao (by rw[O _ rr,yc h3];rfl) (eC v (h _ rr rr rr) j (ao (cw (aX v .non rr rr l)) (ao (bv (bb:=false) (hw _ rr) (ye hn)) (aj ?_)))))));exact ce (b1:=false) (a5 [.tup ae,.int aa,.int x.2] rr hs) λ_=>a5 [.lst (M.map aV),v,.str (aq 1 x.1),.int (aA x.1)] (aO rr (aO rr (a8 (a5 [x.1,.str "by"] rr m.1) (a8 (a5 [x.1] rr m.2) rr)))) y
  .have hc:bH (ag ae aa) M x=false:=by unfold bH;rw[if_neg hd,if_neg h3]
   rw[hc];exact ah rr (eC x.1 (by simp[ha]) hf (ao (bv (bb:=false) (hw _ rr) (ye hd)) (aT (by rw[O _ rr,ye h3];rfl) (aj rr))))
def fu (offs:LS)(p:Str)(day:Int)(c:Cl):List Cl:=
 if(!decide (c.o∈offs) || (!decide (c.p=p) || !(gY c day || decide (day<c.s))))=true then [c]else if c.s<day then [⟨c.o,p,c.s,some day,c.n⟩]else []
noncomputable def cf (M:List Cl)(offs:LS)(p:Str)(day:Int):List Cl:=M.flatMap (fu offs p day)
theorem fw (offs:LS)(p:Str)(day:Int):∀M:List Cl,(cf M offs p day).length<=M.length
 |[]=>vT _
 |c::M=>by
  unfold cf;rw[flatMap_cons,uZ,vE];have h1:=fw offs p day M;have h2:(fu offs p day c).length<=1:=by
   unfold fu;split
   .simp
   .split<;>simp
  unfold cf at h1;lia
def BF (k:Str)(ws:LS):gz (.str k) (.lst (ws.map .str))=sO (!decide (k∈ws)):=by
 simp only[gz,fM,vJ,nH];rw[if_pos ⟨rr,lq ws⟩]
def zS (O:List Cl)(q:O.length<=60)(offs:LS)(p:Str)(day:Int):xy [.lst (O.map aV),.lst (offs.map .str),.str p,.int day]=lT ((cf O offs p day).map aV):=by
 obtain⟨ρ',e,f,rfl⟩:=cW (tg:=gn 5) (g:=z6) (λj ρ=>∃f:OB,ρ=[sL (O.map aV),sL (offs.map .str),sS p,sI day,lT ((cf (O.take j) offs p day).map aV),f]) (O.map aV)
  [sL (O.map aV),sL (offs.map .str),sS p,sI day,lT [],none] ⟨none,rr⟩ (by
   rintro j d ρ hd ⟨f,rfl⟩;rw[vA]at hd;obtain⟨c,hc,rfl⟩:=oY hd;have h:cf (O.take (j+1)) offs p day=cf (O.take j) offs p day++fu offs p day c:=by
    simp_all[cf,take_add_one]
   have r:(cf (O.take j) offs p day).length<=60:=vR (fw offs p day _) (by rw[length_take];lia);let U:DL.Env:=[sL (O.map aV),sL (offs.map .str),sS p,sI day,lT ((cf (O.take j) offs p day).map aV),some (aV c,false)];have i:nY 5 0 U=sS c.o:=aX (aV c) (.int 0) rr rr (YA c);have k:nY 5 1 U=sS c.p:=aX (aV c) (.int 1) rr rr (T8 c);have q2:nY 5 2 U=sI c.s:=aX (aV c) (.int 2) rr rr (cl2 c);have l:nY 5 4 U=sI c.n:=aX (aV c) (.int 4) rr rr (cl4 c);have M:lQ (bW (f2 gz (nY 5 0) (am 1))) (lQ (bW (f2 HM (nY 5 1) (am 2))) (mJ (lQ (bW (fA dP (fV 5 (fV 3 a0)))) (bW (f2 OS (nY 5 2) (am 3)))))) U=some (!decide (c.o∈offs) || (!decide (c.p=p) || !(gY c day || decide (day<c.s)))):=
    bY (cw (aX (.str c.o) (.lst (offs.map .str)) i rr (BF _ _))) λ_=>bY (cw (aX (.str c.p) (.str p) k rr H9)) λ_=>bi (bY (cw (a5 [aV c,.int day] rr (se c day))) λ_=>cw (aX (.int c.s) (.int day) q2 rr H9))
   by_cases h1:(!decide (c.o∈offs) || (!decide (c.p=p) || !(gY c day || decide (day<c.s))))=true
   .have a:fu offs p day c=[c]:=by unfold fu;rw[if_pos h1]
    rw[h1]at M;refine⟨_,_,rr,.inl (mh M (iE (ds:=(cf (O.take j) offs p day).map aV) (d:=aV c) (b:=false) rr rr (nJ c) (bu s9))),some (aV c,false),?_⟩;rw[h,a,uW];rfl
   .rw[Bool.not_eq_true]at h1;rw[h1]at M;by_cases h2:c.s<day
    .have a:fu offs p day c=[⟨c.o,p,c.s,some day,c.n⟩]:=by unfold fu;rw[if_neg (by rw[h1];decide),if_pos h2]
     refine⟨_,_,rr,.inl (jX M (mh (cw (aX (.int c.s) (.int day) q2 rr (by simp[h2]))) (iE (ds:=(cf (O.take j) offs p day).map aV) (d:=aV ⟨c.o,p,c.s,some day,c.n⟩) (b:=false) rr (a5 [.str c.o,.str p,.int c.s,.int day,.int c.n] (a8 i (aO rr (a8 q2 (aO rr (a8 l rr))))) (aZ _ H9)) (nJ _) (bu s9)))),some (aV c,false),?_⟩;rw[h,a,uW];rfl
    .have a:fu offs p day c=[]:=by unfold fu;rw[if_neg (by rw[h1];decide),if_neg h2]
     refine⟨_,_,rr,.inl (jX M (jX (cw (aX (.int c.s) (.int day) q2 rr s9)) rr)),some (aV c,false),?_⟩;rw[h,a,uQ];rfl)
 have m:f7 (gn 5) z6 (O.map aV) [sL (O.map aV),sL (offs.map .str),sS p,sI day,lT [],none]=some (.nx [sL (O.map aV),sL (offs.map .str),sS p,sI day,lT ((cf O offs p day).map aV),f]):=by
  simp_all
 exact ah rr (bw (ds:=[]) u9 rr (bR (fX (ds:=O.map aV) (by simp[iP]) m) (fW rr)))
def VT (M:av [r,.str "office"]=sS o)(hp:av [r,.str "person"]=sS p)(s:Int)(n:Nat):iu [r,.int s,.int n]=some (aV ⟨o,p,s,none,n⟩,false):=
 ah rr (aj (a5 _ (a8 (a5 _ rr M) (a8 (a5 _ rr hp) rr)) (aZ _ H9)))
def Gh (M:List Cl)(O:M.length<=60)(n:Nat):gR [.lst (M.map aV),row a ("chosen" : Str) [.int d,.str b,.str o,.str p,.int s],.int n]=lT ((cf M [o] b s++[(⟨o,p,s,none,n⟩:Cl)]).map aV):=by
 let r:D:=row a ("chosen" : Str) [.int d,.str b,.str o,.str p,.int s];have U:av [r,.str "office"]=sS o:=aP (i:=2) bF rr;have hb:av [r,.str "by"]=sS b:=aP (i:=1) bF rr;have hs:av [r,.str "since"]=sI s:=aP (i:=4) bF rr;have hl:=fw [o] b s M;refine ah rr (eC (.int s) (a5 _ rr hs) rr (bw (a5 _ (aO rr (a8 (a5 [.str o] (a8 (a5 _ rr U) rr) (cD _ H9)) (a8 (a5 _ rr hb) rr))) (zS M O [o] b s)) (jb _) (aj ?_)));rw[uW];exact if_pos (c7 (by rw[vI,length_singleton];lia))
noncomputable def zU (hk:List LK)(hv:LD)(o p:Str):Option Str:=match bN hk hv [.inr o,.inr p] with
 |some (.str h)=>some h
 |_=>none
def c8 (K:KL)(hk:List LK)(hv:LD)(p:Str)(day:Int)(n:Nat)(o:Str):List Cl:=match zU hk hv o p with
 |some h=>if kH K h day=true then [⟨o,h,day,none,n⟩]else []
 |none=>[]
def cE (M:List Cl)(p:Str)(day:Int):LS:=mV (f9 ((M.filter λc=>decide (c.p=p) && gY c day).map (·.o)))
def pW (K:KL)(M:List Cl)(hk:List LK)(hv:LD)(p:Str)(day:Int)(n:Nat):List Cl:=(cE M p day).flatMap (c8 K hk hv p day n)
def m4 (K:KL)(hk:List LK)(hv:LD)(p:Str)(day:Int)(n:Nat)(o:Str):(c8 K hk hv p day n o).length<=1:=by
 unfold c8;split
 .split<;>simp
 .simp
theorem sw {α M:Type}(f:α->List M)(h:∀a,(f a).length<=1):∀l:List α,(l.flatMap f).length<=l.length
 |[]=>vT _
 |a::l=>by
  rw[flatMap_cons,uZ,vE];have:=h a;have:=sw f h l;lia
def zV (M:List Cl)(p:Str)(day:Int):(cE M p day).length<=M.length:=by
 unfold cE;rw[(cV _).length_eq];refine vR (mT _) ?_;rw[vI];exact vM _ _
def xL (g:eP ae)(aa:Int)(M:List Cl)(L:M.length<=60)(hk:List LK)(hv:LD)(m:∀v∈hv,∃s,v=.str s)(hx:x∈ag ae aa)(e:x.1=row a ("death" : Str) [.int d,.str p]):
  kn [.tup ae,.int aa,.lst (M.map aV),.dt hk hv,.int x.2]=lT ((pW (ag ae aa) M hk hv p d x.2).map aV):=by
 have ha:=(cK g hx).1;have A:av [x.1,.str "person"]=sS p:=by rw[e];exact aP (i:=1) bF rr
 have B:bj [x.1]=sI d:=by rw[e];rfl
 have C:=zV M p d;have E:∀(o:Str)(l:List Cl)(O:OB),l.length<=60->jv _=some (.nx [sJ ae,sI aa,sL (M.map aV),sF (.dt hk hv),sI x.2,sS p,sI d,lT ((l++c8 (ag ae aa) hk hv p d x.2 o).map aV),sS o,some ((bN hk hv [.inr o,.inr p]).getD .non,false)]):=λo l O hl=>by
  have f:Jf (am 3) (fV 8 (fV 5 a0)) [sJ ae,sI aa,sL (M.map aV),sF (.dt hk hv),sI x.2,sS p,sI d,lT (l.map aV),sS o,O]=some ((bN hk hv [.inr o,.inr p]).getD .non,false):=by
   simp[jo,sizeLine]
  cases U:bN hk hv [.inr o,.inr p] with
  |none=>
   rw[U]at f;have ei:c8 (ag ae aa) hk hv p d x.2 o=[]:=by unfold c8 zU;rw[U]
   rw[ei,uQ];exact eC .non f rr (jX (bS (p:=false) (q:=false) (cw H9) H9) rr)
  |some v=>
   obtain⟨h,rfl⟩:=m v (sr U);rw[U]at f;have u:=zO ae g.rp g.le aa h d;rw[NJ]at u;have w:∀ρ:DL.Env,ρ[0]? = some (sJ ae)->ρ[1]? = some (sI aa)->ρ[6]? = some (sI d)->ρ[9]? = some (sS h)->gm (bW (f2 qK (am 9) (fC .non))) (bW (fA qo (fV 0 (fV 1 (fV 9 (fV 6 a0)))))) ρ=some (true && kH (ag ae aa) h d):=λρ F G n y=>
    bS (cw (by simp[y])) λ_=>cw (a5 [.tup ae,.int aa,.str h,.int d] (by simp[F,G,n,y]) u)
   cases z:kH (ag ae aa) h d with
   |false=>
    have ei:c8 (ag ae aa) hk hv p d x.2 o=[]:=by simp_all[c8,zU]
    rw[ei,uQ];exact eC (.str h) f rr (jX (by rw[w _ rr rr rr rr,z];rfl) rr)
   |true=>
    have ei:c8 (ag ae aa) hk hv p d x.2 o=[⟨o,h,d,none,x.2⟩]:=by simp_all[c8,zU]
    rw[ei,uW];exact eC (.str h) f rr (mh (by rw[w _ rr rr rr rr,z];rfl) (iE (ds:=l.map aV) (d:=aV ⟨o,h,d,none,x.2⟩) (b:=false) rr (a5 [.str o,.str h,.int d,.non,.int x.2] rr (aZ _ H9)) rr (bu s9)))
 obtain⟨ρ',H,k,O,rfl⟩:=cW (tg:=gn 8) (g:=jv) (λj ρ=>∃k O:OB,ρ=[sJ ae,sI aa,sL (M.map aV),sF (.dt hk hv),sI x.2,sS p,sI d,lT ((((cE M p d).take j).flatMap (c8 (ag ae aa) hk hv p d x.2)).map aV),k,O]) ((cE M p d).map .str)
  [sJ ae,sI aa,sL (M.map aV),sF (.dt hk hv),sI x.2,sS p,sI d,lT [],none,none] ⟨none,none,rr⟩ (by
   rintro j dd ρ hd ⟨k,O,rfl⟩;rw[vA]at hd;obtain⟨o,I,rfl⟩:=oY hd;have hl:(((cE M p d).take j).flatMap (c8 (ag ae aa) hk hv p d x.2)).length<=60:=vR (sw _ (m4 _ _ _ _ _ _) _) (by rw[length_take];lia);refine⟨_,_,rr,.inl (E o _ O hl),sS o,some ((bN hk hv [.inr o,.inr p]).getD .non,false),?_⟩;rw[take_add_one,I,Option.toList_some,List.flatMap_append,flatMap_cons,List.flatMap_nil,uQ])
 have J:f7 (gn 8) jv ((cE M p d).map .str) [sJ ae,sI aa,sL (M.map aV),sF (.dt hk hv),sI x.2,sS p,sI d,lT [],none,none]=some (.nx [sJ ae,sI aa,sL (M.map aV),sF (.dt hk hv),sI x.2,sS p,sI d,lT ((pW (ag ae aa) M hk hv p d x.2).map aV),k,O]):=by
  rw[H];have:(cE M p d).take ((cE M p d).map D.str).length=cE M p d:=H9
  rw[this];rfl
 have r:∀ρ:DL.Env,ρ[2]? = some (sL (M.map aV))->ρ[5]? = some (sS p)->ρ[6]? = some (sI d)->dE (f1 jT (jN (dE (am 2)) 1 [5,6] (gn 0) (gm (bW (f2 kU (nY 0 1) (am 1))) (bW (fA dP (fV 0 (fV 2 a0))))) (nY 0 0))) ρ=some ((cE M p d).map .str):=λρ q2 K n=>by
  have hc:=eA (fi:=dE (am 2)) (nT:=1) (cap:=[5,6]) (tg:=gn 0) (c:=gm (bW (f2 kU (nY 0 1) (am 1))) (bW (fA dP (fV 0 (fV 2 a0))))) (fe:=nY 0 0) (ρ:=ρ) M aV (λc=>decide (c.p=p) && gY c d) (λc=>.str c.o) (by simp[q2]) N9 λc hc=>
   ⟨_,rr,bS (cw (aX (.str c.p) (.str p) (aX (aV c) (.int 1) (by simp[cc]) rr (T8 c)) (by simp[cc,K]) H9)) λ_=>cw (a5 [aV c,.int d] (by simp[cc,n]) (se c d)),λ_=>⟨false,aX (aV c) (.int 0) (by simp[cc]) rr (YA c)⟩⟩
  have e2:(M.filter λc=>decide (c.p=p) && gY c d).map (λc=>D.str c.o)=((M.filter λc=>decide (c.p=p) && gY c d).map (·.o)).map .str:=by rw[uP];rfl
  rw[e2]at hc;show(f1 jT _ ρ).bind _=_;unfold f1;rw[hc,vJ];have t:((M.filter λc=>decide (c.p=p) && gY c d).map (·.o)).length<64:=by rw[vI];exact lt_of_le_of_lt (vM _ _) N9
  show((eO _).bind _).bind _=_;rw[nL,vJ,if_pos t];rfl
 refine ah rr (eC (.str p) (a5 [x.1,.str "person"] (by simp[ha]) A) rr (eC (.int d) (a5 [x.1] (by simp[ha]) B) rr (bw (ds:=[]) u9 rr (bR (ρ':=[sJ ae,sI aa,sL (M.map aV),sF (.dt hk hv),sI x.2,sS p,sI d,lT ((pW (ag ae aa) M hk hv p d x.2).map aV),k,O]) ?_ (fW rr)))));exact fX (r _ rr rr rr) J
def Ka (g:eP ae)(aa:Int)(M:List Cl)(O:M.length<=60)(hk:List LK)(hv:LD)(b:∀v∈hv,∃s,v=.str s)(hx:x∈ag ae aa)(e:x.1=row a ("death" : Str) [.int d,.str p]):
  iG [.tup ae,.int aa,.lst (M.map aV),.dt hk hv,.int x.2]=lT ((cf M (M.map Cl.o) p d++pW (ag ae aa) M hk hv p d x.2).map aV):=by
 have ha:=(cK g hx).1;have U:av [x.1,.str "person"]=sS p:=by rw[e];exact aP (i:=1) bF rr
 have f:bj [x.1]=sI d:=by rw[e];rfl
 have h1:=gI (fi:=dE (am 2)) (nT:=1) (cap:=[]) (tg:=gn 0) (fe:=nY 0 0) (ρ:=[sJ ae,sI aa,sL (M.map aV),sF (.dt hk hv),sI x.2,none,none]) M aV _ H9 N9 λc hc=>⟨_,rr,false,aX (aV c) (.int 0) (by simp[cc]) rr (YA c)⟩;have e2:M.map (λc=>D.str c.o)=(M.map Cl.o).map .str:=by rw[uP];rfl
 rw[e2]at h1;have h:=fw (M.map Cl.o) p d M;have j:(pW (ag ae aa) M hk hv p d x.2).length<=60:=vR (sw _ (m4 _ _ _ _ _ _) _) (vR (zV M p d) O);refine ah rr (bw h1 (bT _) (bw (a5 _ (aO rr (aO rr (aO (a5 _ (by simp[ha]) U) (aO (a5 [x.1] (by simp[ha]) f) rr)))) (zS M O _ p d)) (jb _) (aj ?_)));refine eZ rr (a5 _ rr (xL g aa M O hk hv b hx e)) ?_;rw[uW];exact if_pos (c7 (by grind))
abbrev Sc:=List Cl×List LK×LD
def cO (K:KL)(st:Sc)(x:D×Nat):Sc:=
 if bH K st.1 x=true then
  if kindOf x.1 = "named" then (st.1++[⟨aq 1 x.1,aq 2 x.1,aA x.1,none,x.2⟩],st.2)
  else if kindOf x.1 = "chosen" then (cf st.1 [aq 2 x.1] (aq 1 x.1) (cN 4 x.1)++[⟨aq 2 x.1,aq 3 x.1,cN 4 x.1,none,x.2⟩],st.2)
  else if kindOf x.1 = "heir" then (st.1,dv st.2.1 [.inr (aq 2 x.1),.inr (aq 1 x.1)],cz st.2.1 st.2.2 [.inr (aq 2 x.1),.inr (aq 1 x.1)] (.str (aq 3 x.1)))
  else (cf st.1 (st.1.map Cl.o) (aq 1 x.1) (aA x.1)++pW K st.1 st.2.1 st.2.2 (aq 1 x.1) (aA x.1) x.2,st.2)
 else st
def ci (K:KL):KL:=dr (λx=>bU (kA x)) (K.filter λx=>!aD x.1)
noncomputable def lO (K:KL)(l:KL):Sc:=l.foldl (cO K) ([],[],[])
noncomputable def kC (c:Cl):List At:=[.s c.o,.i c.s,.i c.n]
def aU (K:KL):List Cl:=dr (λc=>bU (kC c)) (lO K (ci K)).1
noncomputable def NL:LK->Str
 |[_,.inr p]=>p
 |_=>("" : Str)
noncomputable def Sd (dd:LS)(ks:List LK):Nat:=(ks.filter λk=>decide (NL k∉dd)).length
structure A5 (K l:KL)(dd:List Str)(st:Sc):Prop where
 len:st.1.length+Sd dd st.2.1<=l.length
 ded:∀q∈dd,∃y∈l,eJ K q (aA y.1) y.2=true
 nod:(st.1.map λc=>(c.o,c.n)).Nodup
 num:∀c∈st.1,c.n∈l.map (·.2)
 hs:∀v∈st.2.2,∃s,v=D.str s
 hk:st.2.1.length<=l.length
def Et (h:told ws p d r=true):aA r<=d/\∀d',aA r<=d'->told ws p d' r=true:=by
 unfold told at h;split at h
 .rw[vC]at h;obtain⟨h1,h2⟩:=h;unfold vc at h2;split at h2
  .rw[vC]at h2;refine⟨ET h2.2,λd' hd=>?_⟩;unfold told;rw[vC];refine⟨h1,?_⟩;unfold vc;rw[vC];exact⟨h2.1,yc hd⟩
  simp_all
 simp_all
theorem sx:∀(r:KL)(b:D×Nat),mz b r∈b::r/\∀y∈b::r,dU y (mz b r)=false
 |[],b=>by simp_all[mz,dU]
 |x::r,b=>by
  rw[mz,xE];by_cases h:dU x b=true
  .rw[if_pos (by rw[h])];obtain⟨h1,h2⟩:=sx r x;refine⟨mZ _ h1,λy hy=>?_⟩;rcases vP hy with rfl|hy
   .grind[mX,dU]
   .exact h2 y hy
  .rw[if_neg (by simpa using h)];obtain⟨h1,h2⟩:=sx r b;refine⟨?_,λy hy=>?_⟩
   .grind
   .grind[mX,dU]
def sy (h:eJ K p d i=true):∃m∈K,told dz p d m.1=true/\m.2=i/\∀y∈K,told dz p d y.1=true->dU y m=false:=by
 unfold eJ at h;split at h
 .cases h
 .rename_i b r e;obtain⟨h1,h2⟩:=sx r b;grind
theorem BG (h1:eJ K p d1 i1=true)(h2:eJ K p d2 i2=true):i1=i2:=by
 refine cX λG g=>?_;obtain⟨m1,k1,M,U,a⟩:=sy h1;obtain⟨m2,k2,O,e2,q2⟩:=sy h2;apply g;clear g;have b:=Et M;have c:=Et O;grind[dU]
theorem zW {κ:Type}[DecidableEq κ]:∀ {ks:List κ}{vs:LD}{k:κ}{v:D},bN ks vs k=some v->k∈ks
 |k'::ks,d::ds,k,v,h=>by
  unfold bN at h;split at h
  .simp_all
  .exact mZ _ (zW h)
 |[],_,_,_,h=>by simp[bN]at h
 |_::_,[],_,_,h=>by simp[bN]at h
theorem sA (p:Str)(dd:LS)(hp:p∉dd):∀ks:List LK,Sd dd ks=Sd (p::dd) ks+(ks.filter λk=>decide (NL k=p)).length
 |[]=>rr
 |k::ks=>by
  have ih:=sA p dd hp ks;grind[Sd]
theorem lr (offs:LS)(p:Str)(day:Int):∀M:List Cl,((cf M offs p day).map λc=>(c.o,c.n)).Sublist (M.map λc=>(c.o,c.n))
 |[]=>List.Sublist.slnil
 |c::M=>by
  have ih:=lr offs p day M;unfold cf at ih |-;rw[flatMap_cons,uW];have:((fu offs p day c).map λc=>(c.o,c.n))=[(c.o,c.n)]\/((fu offs p day c).map λc=>(c.o,c.n))=[]:=by
   unfold fu;split
   .exact .inl rr
   .split
    .exact .inl rr
    .exact .inr rr
  rcases this with h|h
  .rw[h];exact ih.cons₂ _
  .rw[h];exact ih.cons _
def lu (h:c∈cf O offs p day):∃M∈O,M.o=c.o/\M.n=c.n:=by
 have:=(lr _ p _ O).subset (uS ⟨c,h,rr⟩);simp_all
theorem jc:∀(ss M:LS),M.Nodup->(ss.foldl jE M).Nodup
 |[],_,h=>h
 |s::ss,M,h=>jc ss _ (qP h s)
def sC (M:List Cl)(p:Str)(day:Int):(cE M p day).Nodup:=(cV _).nodup_iff.mpr (jc _ [] nodup_nil)
theorem zX (K:KL)(hk:List LK)(hv:LD)(p:Str)(day:Int)(n:Nat):∀os:LS,((os.flatMap (c8 K hk hv p day n)).map λc=>(c.o,c.n)).Sublist (os.map λo=>(o,n))
 |[]=>List.Sublist.slnil
 |o::os=>by
  have ih:=zX K hk hv p day n os;rw[flatMap_cons,uW];have:((c8 K hk hv p day n o).map λc=>(c.o,c.n))=[(o,n)]\/((c8 K hk hv p day n o).map λc=>(c.o,c.n))=[]:=by
   unfold c8;split
   .split
    .exact .inl rr
    .exact .inr rr
   .exact .inr rr
  rcases this with h|h
  .rw[h];exact ih.cons₂ _
  .rw[h];exact ih.cons _
theorem vj {α:Type}[DecidableEq α]:∀(l m:List α),l.Nodup->(∀x∈l,x∈m)->l.length<=m.length
 |[],_,_,_=>uN _
 |x::l,m,h,s=>by
  rw[nodup_cons]at h;have:=vj l _ h.2 λy hy=>(List.mem_erase_of_ne (b:=x) (λe=>h.1 (by rw[<-e];exact hy))).mpr (s y (mZ _ hy));grind
theorem vk {α M:Type}(f:α->List M)(q:α->Bool)(h:∀a,(f a).length<=1/\(q a=false->f a=[])):∀l:List α,(l.flatMap f).length<=(l.filter q).length
 |[]=>vT _
 |a::l=>by
  have ih:=vk f q h l;grind
def NM (K:KL)(M:List Cl)(hk:List LK)(hv:LD)(p:Str)(day:Int)(n:Nat):(pW K M hk hv p day n).length<=(hk.filter λk=>decide (NL k=p)).length:=by
 refine vR (vk _ (λo=>(bN hk hv [.inr o,.inr p]).isSome) (λo=>⟨m4 _ _ _ _ _ _ _,λh=>?_⟩) _) ?_
 .simp_all[c8,zU]
 .have O:(((cE M p day).filter λo=>(bN hk hv [.inr o,.inr p]).isSome).map λo=>([.inr o,.inr p]:LK)).Nodup:=List.Pairwise.map _ (λa b U e=>U (by injection e with e _;injection e)) ((sC M p _).filter _);have:=vj _ (hk.filter λk=>decide (NL k=p)) O λk hm=>by
   obtain⟨o,c,rfl⟩:=vO hm;obtain⟨v,hv⟩:=uU (vN c).2;exact mem_filter.mpr ⟨zW hv,yc rr⟩
  simp_all
def A5.step {K l:KL}{dd:LS}{st:Sc}(h:A5 K l dd st){x:D×Nat}(hx:x.2∉l.map (·.2)):∃i,A5 K (l++[x]) i (cO K st x):=by
 have g:∀ {n:Nat},n∈l.map (·.2)->n∈(l++[x]).map (·.2):=λh=>by grind
 have j:x.2∈(l++[x]).map (·.2):=H9
 have m:(l++[x]).length=l.length+1:=H9
 have O:∀q∈dd,∃y∈l++[x],eJ K q (aA y.1) y.2=true:=λq hq=>by
  obtain⟨y,h1,h2⟩:=h.ded q hq;exact⟨y,mem_append_left _ h1,h2⟩
 have p:A5 K (l++[x]) dd st:=⟨by have:=h.len;lia,O,h.nod,λc hc=>g (h.num c hc),h.hs,by have:=h.hk;lia⟩;have z:=h.len;unfold cO;split
 .rename_i M;split
  .refine⟨dd,s9,O,?_,λc hc=>?_,h.hs,by rw[m];exact le_succ_of_le h.hk⟩
   .rw[uW,nodup_append];refine⟨h.nod,H9,λa ha b hb e=>?_⟩;obtain⟨c,hc,rfl⟩:=vO ha;simp at hb;subst hb;injection e with _ e2;exact hx (e2 ▸ h.num c hc)
   .rcases mem_append.mp hc with hc|hc
    .exact g (h.num c hc)
    .rw[uT hc];exact j
  .split
   .have hl:=fw [aq 2 x.1] (aq 1 x.1) (cN 4 x.1) st.1;refine⟨dd,s9,O,?_,λc hc=>?_,h.hs,by rw[m];exact le_succ_of_le h.hk⟩
    .rw[uW,nodup_append];refine⟨h.nod.sublist (lr _ _ _ _),H9,λa ha b hb e=>?_⟩;obtain⟨c,hc,rfl⟩:=vO ha;simp at hb;subst hb;injection e with _ e2;obtain⟨U,h1,_,h3⟩:=lu hc;exact hx (e2 ▸ h3 ▸ h.num U h1)
    .rcases mem_append.mp hc with hc|hc
     .obtain⟨U,h1,_,h3⟩:=lu hc;rw[<-h3];exact g (h.num U h1)
     .rw[uT hc];exact j
   .split
    .have hp:∀k:LK,Sd dd (dv st.2.1 k)<=Sd dd st.2.1+1/\(dv st.2.1 k).length<=st.2.1.length+1:=λk=>by
      grind[dv,Sd]
     refine⟨dd,?_,O,p.nod,p.num,λv hv=>?_,?_⟩
     .grind
     .rcases vg hv with hv|hv
      .exact⟨_,hv⟩
      .exact h.hs v hv
     .have:=(hp [.inr (aq 2 x.1),.inr (aq 1 x.1)]).2;have:=h.hk;lia
    .rename_i n1 n2 n3;have hd:kindOf x.1 = "death":=by
      simp_all[bH,xK]
     have hf:eJ K (aq 1 x.1) (aA x.1) x.2=true:=by unfold bH at M;rwa [if_pos hd]at M
     have s:aq 1 x.1∉dd:=λhm=>by
      obtain⟨y,h1,h2⟩:=h.ded _ hm;grind[BG]
     have hl:=fw (st.1.map Cl.o) (aq 1 x.1) (aA x.1) st.1;have t:=NM K st.1 st.2.1 st.2.2 (aq 1 x.1) (aA x.1) x.2;have u:=sA (aq 1 x.1) dd s st.2.1;have d:=zX K st.2.1 st.2.2 (aq 1 x.1) (aA x.1) x.2 (cE st.1 (aq 1 x.1) (aA x.1));have f:∀c∈pW K st.1 st.2.1 st.2.2 (aq 1 x.1) (aA x.1) x.2,c.o∈cE st.1 (aq 1 x.1) (aA x.1)/\c.n=x.2:=λc hc=>by
      have:=d.subset (uS ⟨c,hc,rr⟩);simp_all<;>lia
     refine⟨aq 1 x.1::dd,?_,λq hq=>?_,?_,λc hc=>?_,h.hs,by rw[m];exact le_succ_of_le h.hk⟩
     .grind
     .rcases vP hq with rfl|hq
      .exact⟨x,H9,hf⟩
      .exact O q hq
     .rw[uW,nodup_append];refine⟨h.nod.sublist (lr _ _ _ _),List.Nodup.sublist d (List.Pairwise.map _ (λa b r e=>r (by injection e)) (sC _ _ _)),λa ha b hb e=>?_⟩;obtain⟨c,hc,rfl⟩:=vO ha;obtain⟨c2,w,rfl⟩:=vO hb;injection e with _ e2;obtain⟨U,h1,_,h3⟩:=lu hc;exact hx ((f c2 w).2 ▸ e2 ▸ h3 ▸ h.num U h1)
     .rcases mem_append.mp hc with hc|hc
      .obtain⟨U,h1,_,h3⟩:=lu hc;rw[<-h3];exact g (h.num U h1)
      .rw[(f c hc).2];exact j
 .exact⟨dd,p⟩
def NN (e:ρ[i]? = some (some (.dt ks vs,true)))(ev:O ρ=some (d,b))(ek:U ρ=some kd)(hk:jo kd=some M)(hf:aQ d=true)(h1:ks.length<=1000)(h2:kd.length<=1000):uF i U O ρ=some (.nx (ρ.set i (some (.dt (dv ks M) (cz ks vs M d),true)))):=by
 unfold uF;rw[e];dsimp;rw[ev,vJ,ek,vJ,hk,vJ,if_pos ⟨hf,bu N9,c7 N9⟩]
def ZU (a b:Cl):(aW (kC a) (kC b)).isSome=true:=by
 unfold kC;rw[aW];split
 .rw[aW];split
  .rw[aW];split
   .rfl
   .rfl
  .rfl
 .rfl
def Eu (cs:List Cl):cy (cs.map kC)=true:=by
 simp_all[cy,ZU]
theorem vn {α M:Type}(f:α->M):∀ {l:List α},(l.map f).Nodup->∀ {a b:α},a∈l->b∈l->f a=f b->a=b
 |[],_,_,_,ha,_,_=>by cases ha
 |c::l,h,a,b,ha,hb,e=>by
  rw[uY,nodup_cons]at h;rcases vP ha with O|ha1
  .grind
  .rcases vP hb with U|hb1
   .simp_all
   .exact vn f h.2 ha1 hb1 e
def Se {cs:List Cl}{a b:Cl}(ha:a∈cs)(hb:b∈cs)(e:bU (kC a)=bU (kC b)):(a.o,a.n)=(b.o,b.n):=by
 have h:=o3 (Eu cs) (uS ⟨a,ha,rr⟩) (uS ⟨b,hb,rr⟩) e;grind[kC]
def NO (g:eP ae)(aa:Int)(h:A5 (ag ae aa) l dd st)(hj:l.length<=60)(hx:x∈ag ae aa)(f:aD x.1=false)(m:OB):
  ∃n,(oA [sJ ae,sI aa,lT (st.1.map aV),some (.dt st.2.1 st.2.2,true),sI x.2,m]=some (.nx [sJ ae,sI aa,lT ((cO (ag ae aa) st x).1.map aV),some (.dt (cO (ag ae aa) st x).2.1 (cO (ag ae aa) st x).2.2,true),sI x.2,n])
   \/ oA [sJ ae,sI aa,lT (st.1.map aV),some (.dt st.2.1 st.2.2,true),sI x.2,m]=some (.ct [sJ ae,sI aa,lT ((cO (ag ae aa) st x).1.map aV),some (.dt (cO (ag ae aa) st x).2.1 (cO (ag ae aa) st x).2.2,true),sI x.2,n])):=by
 obtain⟨ha,c⟩:=cK g hx;have j:st.1.length<=60:=by have:=h.len;lia
 have hf:aQ x.1=true:=c.rp.flat;have q:=Gg g aa st.1 j hx f;have O:mJ (bW (fA nB (fV 0 (fV 1 (fV 2 (fV 4 a0)))))) [sJ ae,sI aa,lT (st.1.map aV),some (.dt st.2.1 st.2.2,true),sI x.2,some (x.1,false)]=some (!bH (ag ae aa) st.1 x):=
  bi (cw (a5 [.tup ae,.int aa,.lst (st.1.map aV),.int x.2] H9 q))
 have hw:fA aY (fV 5 a0) [sJ ae,sI aa,lT (st.1.map aV),some (.dt st.2.1 st.2.2,true),sI x.2,some (x.1,false)]=sS (kindOf x.1):=a5 [x.1] rr (gX c);refine⟨some (x.1,false),?_⟩;cases hc:bH (ag ae aa) st.1 x with
 |false=>
  rw[hc]at O;have es:cO (ag ae aa) st x=st:=by unfold cO;rw[hc];rfl
  rw[es];exact .inr (eC x.1 (by simp[ha]) hf (ZT (mh O rr)))
 |true=>
  rw[hc]at O;left;refine eC x.1 (by simp[ha]) hf (bR (jX O rr) ?_);by_cases hn:kindOf x.1 = "named"
  .have es:cO (ag ae aa) st x=(st.1++[⟨aq 1 x.1,aq 2 x.1,aA x.1,none,x.2⟩],st.2):=by unfold cO;rw[hc,if_pos rr,if_pos hn]
   rw[es];refine mh (bv (bb:=false) hw (yc hn)) ?_;have U:av [x.1,.str "office"]=sS (aq 1 x.1)/\av [x.1,.str "person"]=sS (aq 2 x.1):=by
    obtain⟨a,k,ai,e,d⟩:=c;rw[e]at hn |-;replace hn:k = "named":=hn;cases d with
    |named d o p=>exact⟨aP (i:=1) bF rr,aP (i:=2) bF rr⟩
    |root=>exact cP hn
    |chosen=>exact cP hn
    |heir=>exact cP hn
    |three _ hk=>rcases hk with rfl|rfl|rfl<;>exact cP hn
    |other _ hk=>rcases hk with rfl|rfl|rfl|rfl|rfl<;>exact cP hn
   have r:bj [x.1]=sI (aA x.1):=by simp_all[sd,tP]
   have e2:f2 iD (am 2) (fA gu (ak (fA iu (fV 5 (ak (fA bj (fV 5 a0)) (fV 4 a0)))) a0)) [sJ ae,sI aa,lT (st.1.map aV),some (.dt st.2.1 st.2.2,true),sI x.2,some (x.1,false)]=lT (st.1.map aV++[aV ⟨aq 1 x.1,aq 2 x.1,aA x.1,none,x.2⟩]):=by
    refine eZ (x:=.lst (st.1.map aV)) (y:=.lst [aV ⟨aq 1 x.1,aq 2 x.1,aA x.1,none,x.2⟩]) (b1:=false) (b2:=true) rr ?_ (if_pos (c7 (by rw[vI,length_singleton];lia)));exact a5 [aV ⟨aq 1 x.1,aq 2 x.1,aA x.1,none,x.2⟩] (a8 (a5 [x.1,.int (aA x.1),.int x.2] (aO rr (aO (a5 [x.1] rr r) rr)) (VT U.1 U.2 _ _)) rr) (cD _ H9)
   have:=xx (i:=2) e2 (by have hq:=jb (st.1++[(⟨aq 1 x.1,aq 2 x.1,aA x.1,none,x.2⟩:Cl)]);rwa [uW]at hq);rw[uW];exact this
  .refine jX (bv (bb:=false) hw (ye hn)) ?_;by_cases M:kindOf x.1 = "chosen"
   .have es:cO (ag ae aa) st x=(cf st.1 [aq 2 x.1] (aq 1 x.1) (cN 4 x.1)++[⟨aq 2 x.1,aq 3 x.1,cN 4 x.1,none,x.2⟩],st.2):=by simp_all[cO]
    rw[es];refine mh (bv (bb:=false) hw (yc M)) (xx (i:=2) (a5 [.lst (st.1.map aV),x.1,.int x.2] rr ?_) (jb _));obtain⟨a,k,ai,e,d⟩:=c;rw[e]at M |-;replace M:k = "chosen":=M;cases d with
    |chosen d b o p s=>exact Gh st.1 j x.2
    |root=>exact cP M
    |named=>exact cP M
    |heir=>exact cP M
    |three _ hk=>rcases hk with rfl|rfl|rfl<;>exact cP M
    |other _ hk=>rcases hk with rfl|rfl|rfl|rfl|rfl<;>exact cP M
   .refine jX (bv (bb:=false) hw (ye M)) ?_;by_cases hh:kindOf x.1 = "heir"
    .have es:cO (ag ae aa) st x=(st.1,dv st.2.1 [.inr (aq 2 x.1),.inr (aq 1 x.1)],cz st.2.1 st.2.2 [.inr (aq 2 x.1),.inr (aq 1 x.1)] (.str (aq 3 x.1))):=by simp_all[cO]
     rw[es];have U:av [x.1,.str "office"]=sS (aq 2 x.1)/\av [x.1,.str "by"]=sS (aq 1 x.1)/\av [x.1,.str "person"]=sS (aq 3 x.1):=by
      obtain⟨a,k,ai,e,d⟩:=c;rw[e]at hh |-;replace hh:k = "heir":=hh;cases d with
      |heir d b o p=>exact⟨aP (i:=2) bF rr,aP (i:=1) bF rr,aP (i:=3) bF rr⟩
      |root=>exact cP hh
      |named=>exact cP hh
      |chosen=>exact cP hh
      |three _ hk=>rcases hk with rfl|rfl|rfl<;>exact cP hh
      |other _ hk=>rcases hk with rfl|rfl|rfl|rfl|rfl<;>exact cP hh
     exact mh (bv (bb:=false) hw (yc hh)) (NN (ks:=st.2.1) (vs:=st.2.2) (kd:=[.str (aq 2 x.1),.str (aq 1 x.1)]) (b:=false) rr (a5 [x.1,.str "person"] rr U.2.2) (a8 (a5 [x.1,.str "office"] rr U.1) (a8 (a5 [x.1,.str "by"] rr U.2.1) rr)) rr rr (by have:=h.hk;lia) H9)
    .refine jX (bv (bb:=false) hw (ye hh)) ?_;have es:cO (ag ae aa) st x=(cf st.1 (st.1.map Cl.o) (aq 1 x.1) (aA x.1)++pW (ag ae aa) st.1 st.2.1 st.2.2 (aq 1 x.1) (aA x.1) x.2,st.2):=by simp_all[cO]
     rw[es];have hd:kindOf x.1 = "death":=by
      unfold bH at hc;by_cases hd:kindOf x.1 = "death"
      .exact hd
      .rw[if_neg hd,if_neg (by simp[xK,hn,M,hh])]at hc;cases hc
     refine xx (i:=2) (a5 [.tup ae,.int aa,.lst (st.1.map aV),.dt st.2.1 st.2.2,.int x.2] H9 ?_) (jb _);obtain⟨a,k,ai,e,d⟩:=c;have hk:k = "death":=by rw[e]at hd;exact hd
     subst hk;obtain⟨dd,p,rfl⟩:=d.deed.three O9;have:=Ka g aa st.1 j st.2.1 st.2.2 h.hs hx e;rw[this,e];rfl
theorem Ev (K:KL):∀(l M:KL)(st:Sc)(dd:LS),A5 K M dd st->((M++l).map (·.2)).Nodup->∃O,A5 K (M++l) O (l.foldl (cO K) st)
 |[],M,st,dd,h,_=>⟨dd,by rw[uQ];exact h⟩
 |x::l,M,st,dd,h,hn=>by
  have hx:x.2∉M.map (·.2):=λhm=>by
   grind
  obtain⟨O,h'⟩:=h.step hx;have e:M++x::l=(M++[x])++l:=H9
  rw[e]at hn |-;exact Ev K l _ _ _ h' hn
def Ew (K l:KL)(h:(l.map (·.2)).Nodup):∃dd,A5 K l dd (lO K l):=by
 have:=Ev K l [] ([],[],[]) [] ⟨uN _,H9,H9,H9,H9,uN _⟩ h;exact this
def oP (h:(K.map (·.2)).Nodup):((ci K).map (·.2)).Nodup:=((aH _ _).map _).nodup_iff.mpr (List.Nodup.sublist (List.Sublist.map _ filter_sublist) h)
def oQ {ae:LD}(g:eP ae)(aa:Int)(v:(ci (ag ae aa)).length<=60):nD [.tup ae,.int aa]=lT ((aU (ag ae aa)).map aV)/\(aU (ag ae aa)).length<=60:=by
 have t:dO [.tup ae,.int aa]=lT ((ci (ag ae aa)).map λx=>.int x.2):=pD g aa;generalize i:ag ae aa=K at v t |-;have w:∀x∈ci K,x∈K/\aD x.1=false:=λx hx=>by
  obtain⟨h1,h2⟩:=vN ((aH _ _).mem_iff.mp hx);simp_all
 have u:((ci K).map (·.2)).Nodup:=oP (by grind[eI]);obtain⟨ρ',e,l,k,rfl⟩:=cW (tg:=gn 4) (g:=oA) (λj ρ=>∃l k:OB,ρ=[sJ ae,sI aa,lT ((lO K ((ci K).take j)).1.map aV),some (.dt (lO K ((ci K).take j)).2.1 (lO K ((ci K).take j)).2.2,true),l,k]) ((ci K).map λx=>.int x.2)
  _ ⟨none,none,rr⟩ (by
   rintro j d ρ hd ⟨l,k,rfl⟩;rw[vA]at hd;obtain⟨x,hx,rfl⟩:=oY hd;have G:(ci K).take (j+1)=(ci K).take j++[x]:=by rw[take_add_one,hx];rfl
   have z:lO K ((ci K).take (j+1))=cO K (lO K ((ci K).take j)) x:=by simp_all[lO]
   obtain⟨A,m⟩:=w x (vL hx);obtain⟨dd,h⟩:=Ew K ((ci K).take j) (List.Nodup.sublist (List.Sublist.map _ (take_sublist _ _)) u);rw[<-i]at h;have M:=NO g aa h (by rw[i,length_take];lia) (x:=x) (by rw[i];exact A) m k;rw[i]at M;obtain⟨B,M⟩:=M;exact⟨_,_,rr,M,sI x.2,B,by rw[z]⟩)
 have q:(ci K).take ((ci K).map λx=>D.int x.2).length=ci K:=H9
 rw[q]at e;obtain⟨dd,O⟩:=Ew K (ci K) u;generalize C:(lO K (ci K))=st at e O;have E:st.1.length<=60:=by have:=O.len;lia
 have f:aU K=dr (λc=>bU (kC c)) st.1:=by unfold aU;rw[C]
 have hm:∀ρ:DL.Env,hW (FD kj ρ) (st.1.map aV)=some (st.1.map λc=>.tup [.str c.o,.int c.s,.int c.n]):=λρ=>fF st.1 λc _=>by
  rfl
 have hk:du (st.1.map λc=>D.tup [.str c.o,.int c.s,.int c.n])=some (st.1.map kC):=ft st.1 λc _=>rr;have U:(st.1.map kC).length<64/\cy (st.1.map kC)=true/\cH (st.1.map kC)=true/\((st.1.map kC).map bU).Nodup:=by
  refine⟨by rw[vI];lia,Eu _,?_,?_⟩
  .simp_all[cH,kC]
  .rw[uP];have h1:st.1.Pairwise λa b=>(a.o,a.n)≠(b.o,b.n):=pairwise_map.mp O.nod;have h2:st.1.Pairwise λa b=>bU (kC a)≠bU (kC b):=by
    refine List.Pairwise.imp_of_mem ?_ h1;intro a b ha hb F e;exact F (Se ha hb e)
   exact pairwise_map.mpr h2
 have hz:(st.1.map kC).zip (st.1.map aV)=st.1.map λc=>(kC c,aV c):=by rw[zip_map']
 have r:((aU K).map λc=>(kC c,aV c))=dr (λp:List At×D=>bU p.1) (st.1.map λc=>(kC c,aV c)):=by
  rw[f];refine jU _ (λx hx y hy e=>?_) ((aH _ _).map _) ?_
  .grind[vn]
  .exact pairwise_map.mpr (eV _ _)
 refine⟨ah rr (bw (ds:=[]) u9 rr (bR rr (bR (fX (ds:=(ci K).map λx=>.int x.2) ?_ e) (aj ?_)))),by rw[f,(aH _ _).length_eq];exact E⟩
 .show(fA dO (fV 0 (fV 1 a0)) _).bind _=_;rw[a5 [.tup ae,.int aa] rr t];rfl
 .unfold xl;show((some (D.lst (st.1.map aV),false)).bind _)=_;simp only[vJ];rw[hm];simp only[vJ];rw[hk];simp only[vJ];rw[if_pos U];unfold dF;rw[hz,<-r,uP];rfl
end Lw
namespace Lw
open PySem PySem.Spec DL L2
def jd (x:Int×OI):D:=.tup [.int x.1,uD x.2]
def kI (x:Int×OI):aQ (jd x)=true:=by simp[jd,Ep]
def vp (x:Int×OI):aG 5 (jd x)=true:=by obtain⟨s,u⟩:=x;cases u<;>simp[jd,uD]
def Sf {zs:LS}{i:Int}(h1 : -(zs.length:Int)<=i)(h2:i<zs.length):∃z∈zs,dM (.lst (zs.map .str)) (.int i)=sS z:=by
 obtain⟨j,hj,hl⟩:∃j,GI (zs.map D.str).length i=some j/\j<zs.length:=by
  unfold GI;rw[vI];by_cases h0:0<=i
  .simp_all
  .rw[if_neg h0,if_pos N9];exact⟨_,rr,N9⟩
 simp_all[lD]
def MR:LN:=[7,255,3,15]
noncomputable def MS:LN:=[1,2,3,4,5,7,128,255]
inductive Dd:Str->List D->Prop
 |root (o r:Str) (m:Nat) (hm:m∈MR) (f:Int):Dd ("root" : Str) [.str o,.int m,.int f,.str r]
 |named (d:Int) (o p:Str):Dd ("named" : Str) [.int d,.str o,.str p]
 |chosen (d:Int) (b o p:Str) (s:Int):Dd ("chosen" : Str) [.int d,.str b,.str o,.str p,.int s]
 |heir (d:Int) (b o p:Str):Dd ("heir" : Str) [.int d,.str b,.str o,.str p]
 |three (k:Str) (hk:k = "death" \/ k = "lost" \/ k = "found") (d:Int) (p:Str):Dd k [.int d,.str p]
 |leave (d:Int) (b p:Str) (m:Nat) (hm:m∈MS) (x:Int×Option Int) (f:Int):Dd ("leave" : Str) [.int d,.str b,.str p,.int m,jd x,.int f]
 |paper (k:Str) (hk:k = "paper" \/ k = "like") (d:Int) (b:Str) (m:Nat) (hm:m∈MS) (x:Int×Option Int) (r:List D) (hf:aN r=true) (hp:r.all (aG 5)=true):Dd k (.int d::.str b::.int m::jd x::r)
 |copy (k:Str) (hk:k = "copy" \/ k = "call") (d:Int) (b:Str) (n:Nat):Dd k [.int d,.str b,.int n]
def Dd.cd (h:Dd k r):Cd k r:=by
 cases h with
 |root o r m hm f=>exact .root _ _ _ _
 |named d o p=>exact .named _ _ _
 |chosen d b o p s=>exact .chosen _ _ _ _ _
 |heir d b o p=>exact .heir _ _ _ _
 |three k hk d p=>exact .three _ hk _ _
 |leave d b p m hm x f=>exact .other _ (.inl rr) _ _ _ (by simp[kI]) (by simp_all[vp])
 |paper k hk d b m hm x r hf hp=>exact .other _ (hk.elim (λh=>.inr (.inl h)) λh=>.inr (.inr (.inl h))) _ _ _ (by simp[hf,kI]) (by simp_all[vp])
 |copy k hk d b n=>exact .other _ (hk.elim (λh=>.inr (.inr (.inr (.inl h)))) λh=>.inr (.inr (.inr (.inr h)))) _ _ _ rr H9
def Dd.flat (h:Dd k r):aN r=true:=h.cd.deed.flat
def bd (r:D):Prop:=∃h k ai,r=row h k ai/\Dd k ai
def bd.c (g:bd r):xF r:=by obtain⟨h,k,ai,e,d⟩:=g;exact⟨h,k,ai,e,d.cd⟩
def bd.flat (g:bd r):aQ r=true:=g.c.rp.flat
noncomputable def eK (ae:LD):LS:=(ae.filter aD).map (aq 0)
def oR (ae:LD)(r:D):eK (ae++[r])=eK ae++if aD r=true then [aq 0 r]else []:=by
 grind[eK]
def vq (a b:Nat):iZ [.int a,.int b]=sO (decide (a &&& b=b)):=by
 have:Builtin.bitAnd (a:Int) (b:Int)=((a &&& b:Nat):Int):=by simp[Builtin.bitAnd]
 simp[iZ,this];lia
def jH (r:D):Nat:=(if kindOf r = "root" then cN 1 r else if kindOf r = "leave" then cN 3 r else cN 2 r).toNat
def kJ (a:Int)(k:Str)(ai:LD):kindOf (row a k ai)=k:=rfl
noncomputable def dH:LS:=[("leave" : Str),"paper","like"]
def sD (g:bd r)(h:aD r=true):∃a o rl,∃m:Nat,∃f:Int,r=row a ("root" : Str) [.str o,.int m,.int f,.str rl]/\m∈MR/\jH r=m:=by
 obtain⟨a,k,ai,rfl,d⟩:=g;have hk:k = "root":=ET h;clear h;cases d with
 |root o rl m hm f=>exact⟨a,o,rl,m,f,rr,hm,I9⟩
 |named=>exact cP hk
 |chosen=>exact cP hk
 |heir=>exact cP hk
 |three k M=>rcases M with rfl|rfl|rfl<;>exact cP hk
 |leave=>exact cP hk
 |paper k M=>rcases M with rfl|rfl<;>exact cP hk
 |copy k M=>rcases M with rfl|rfl<;>exact cP hk
def Ex (g:bd r)(h:aD r=true):av [r,.str "matters"]=sI (jH r):=by
 obtain⟨a,o,rl,m,f,rfl,_,e⟩:=sD g h;rfl
def Sg {a:Int}{k:Str}{ai:LD}(d:Dd k ai)(h:k∈dH):jH (row a k ai)∈MS/\(∃i:Nat,ma bZ (.str k) (.str "matters")=sI i/\ai[i]? = some (.int (jH (row a k ai))))/\(D.str k::ai).getD (3+if k = "leave" then 1 else 0) .non=.int (jH (row a k ai))/\(3+if k = "leave" then 1 else 0)<(D.str k::ai).length:=by
 cases d with
 |leave d b p m hm x f=>
  have e:jH (row a ("leave" : Str) [.int d,.str b,.str p,.int m,jd x,.int f])=m:=I9
  refine⟨hm,⟨3,bF,rr⟩,?_,?_⟩
  .rfl
  simp
 |paper k hk d b m hm x r hf hp=>
  have hl:k ≠ "leave":=by rcases hk with rfl|rfl<;>decide +kernel
  have O:k ≠ "root":=by rcases hk with rfl|rfl<;>decide +kernel
  have e:jH (row a k (.int d::.str b::.int m::jd x::r))=m:=by unfold jH;rw[kJ,if_neg O,if_neg hl];rfl
  rw[e];refine⟨hm,⟨2,by rcases hk with rfl|rfl<;>exact bF,rr⟩,?_,?_⟩
  .rw[if_neg hl];rfl
  simp_all
 |root=>exact cP h
 |named=>exact cP h
 |chosen=>exact cP h
 |heir=>exact cP h
 |three k M=>rcases M with rfl|rfl|rfl<;>exact cP h
 |copy k M=>rcases M with rfl|rfl<;>exact cP h
def xM (g:bd r)(h:kindOf r∈dH):av [r,.str "matters"]=sI (jH r):=by
 obtain⟨a,k,ai,rfl,d⟩:=g;obtain⟨_,⟨i,h1,h2⟩,_⟩:=Sg d h;exact aP h1 h2
noncomputable def bx:LS:=[("leave" : Str),"paper","like","copy"]
def j5 (h:k∈bx\/k = "call"):cZ k=true:=by
 grind[rY,bx,zP]
def NP {k:Str}{ai:LD}(d:Dd k ai)(h:cZ k=true):∃(dd:Int)(b:Str)(r:LD),ai=.int dd::.str b::r:=d.cd.deed.slg h
def Ey (g:bd r)(h:cZ (kindOf r)=true):av [r,.str "by"]=sS (cC r):=by
 obtain⟨a,k,ai,rfl,d⟩:=g;obtain⟨dd,b,q,rfl⟩:=NP d h;exact aP (JU h) rr
noncomputable def bo (K:KL):LD:=(K.filter λx=>aD x.1).map (·.1)
theorem zY:∀(l:List (dA×D))(a:LK×LD),(a.1++l.map (·.1)).Nodup->l.foldl md a=(a.1++l.map (·.1),a.2++l.map (·.2))
 |[],a,_=>by simp
 |p::l,a,h=>by
  have hn:p.1∉a.1:=by
   grind
  have e:md a p=(a.1++[p.1],a.2++[p.2]):=by simp_all[md,dv,cz]
  rw[foldl_cons,e,zY l _ (by rw[append_assoc];exact h)];simp
section
variable {K:KL}(hn:((bo K).map (aq 0)).Nodup)
include hn
theorem sE:bA (jD K)=((bo K).map λv=>(.inr (aq 0 v):dA),bo K):=by
 have e:jD K=(bo K).map λv=>((.inr (aq 0 v):dA),v):=by unfold jD bo;rw[uP];rfl
 have M:((bo K).map λv=>(.inr (aq 0 v):dA)).Nodup:=by
  refine pairwise_map.mpr ((pairwise_map.mp hn).imp λh z=>h (Sum.inr.inj z))
 rw[e];unfold bA;rw[zY _ _ (by rw[uP];exact M),uP,uP];congr 1;exact map_id _
end
noncomputable def Gi (j:Nat):D->Int×OI
 |.tup [_,.tup (_::ai)]=>match ai[j]? with
  |some (.tup [.int s,.int u])=>(s,some u)
  |some (.tup [.int s,.non])=>(s,none)
  |_=>(0,none)
 |_=>(0,none)
def qr {h:Int}{k:Str}{ai:LD}{j:Nat}{x:Int×OI}(e:ai[j]? = some (jd x)):Gi j (row h k ai)=x:=by
 unfold Gi row;dsimp only;rw[e];obtain⟨s,u⟩:=x;cases u<;>rfl
def dI (r:D):Int×OI:=if kindOf r = "leave" then Gi 4 r else Gi 3 r
def je (r:D):Int:=if kindOf r = "root" then cN 2 r else cN 5 r
def kK (r:D):Bool:=decide (kindOf r = "leave")
def pK {r:D}(g:bd r)(h:kindOf r = "leave"):∃a d b p,∃m:Nat,∃x f,r=row a ("leave" : Str) [.int d,.str b,.str p,.int m,jd x,.int f]/\m∈MS/\jH r=m/\dI r=x/\je r=f:=by
 obtain⟨a,k,ai,rfl,d⟩:=g;have hk:k = "leave":=h;clear h;cases d with
 |leave d b p m hm x f=>exact⟨a,d,b,p,m,x,f,rr,hm,I9,by unfold dI;rw[kJ,if_pos rr];exact qr rr,I9⟩
 |root=>exact cP hk
 |named=>exact cP hk
 |chosen=>exact cP hk
 |heir=>exact cP hk
 |three k M=>rcases M with rfl|rfl|rfl<;>exact cP hk
 |paper k M=>rcases M with rfl|rfl<;>exact cP hk
 |copy k M=>rcases M with rfl|rfl<;>exact cP hk
def NQ {a:Int}{k:Str}{ai:LD}(d:Dd k ai)(h:k∈dH):(∃i:Nat,ma bZ (.str k) (.str "stretch")=sI i/\ai[i]? = some (jd (dI (row a k ai))))/\(D.str k::ai).getD (4+if k = "leave" then 1 else 0) .non=jd (dI (row a k ai))/\(4+if k = "leave" then 1 else 0)<(D.str k::ai).length:=by
 cases d with
 |leave d b p m hm x f=>
  have e:dI (row a ("leave" : Str) [.int d,.str b,.str p,.int m,jd x,.int f])=x:=by unfold dI;rw[kJ,if_pos rr];exact qr rr
  rw[e];exact⟨⟨4,bF,rr⟩,rr,H9⟩
 |paper k hk d b m hm x r hf hp=>
  have hl:k ≠ "leave":=by rcases hk with rfl|rfl<;>decide +kernel
  have e:dI (row a k (.int d::.str b::.int m::jd x::r))=x:=by unfold dI;rw[kJ,if_neg hl];exact qr rr
  rw[e,if_neg hl];exact⟨⟨3,by rcases hk with rfl|rfl<;>exact bF,rr⟩,rr,H9⟩
 |root=>exact cP h
 |named=>exact cP h
 |chosen=>exact cP h
 |heir=>exact cP h
 |three k M=>rcases M with rfl|rfl|rfl<;>exact cP h
 |copy k M=>rcases M with rfl|rfl<;>exact cP h
def Ez (g:bd r)(h:kindOf r∈dH):av [r,.str "stretch"]=some (jd (dI r),false):=by
 obtain⟨a,k,ai,rfl,d⟩:=g;obtain⟨⟨i,h1,h2⟩,_⟩:=NQ d h;exact aP h1 h2
def xN (h:kindOf r = "leave"):kindOf r∈dH:=by rw[h];decide +kernel
def Ps (g:bd r)(h:aD r=true\/kindOf r = "leave"):av [r,.str "further"]=sI (je r):=by
 rcases h with h|h
 .obtain⟨a,o,rl,m,f,rfl,_,_⟩:=sD g h;rfl
 .refine cX λG K=>?_;obtain⟨a,d,b,p,m,x,f,e,_,_,_,M⟩:=pK g h;apply K;rw[e];rfl
def kL (r v:D):Bool:=decide (jH v &&& jH r=jH r) && !(kK r && decide (je v<=je r))
def oS (r v:D):D:=if decide (jH v &&& jH r=jH r)=true then (if(kK r && decide (je v<=je r))=true then .str "further" else .non)else .str "matters"
def zZ (O:bd r)(gv:bd v)(f:kindOf r∈dH)(kv:aD v=true\/kindOf v = "leave"):∃d,ko [r,v]=some (d,false)/\Tz d .non=sO (kL r v)/\d=oS r v:=by
 have U:=kv.elim (Ex gv) λh=>xM gv (xN h);have b:bW (fA iZ (ak (fA av (fV 1 (ak (fS "matters") a0))) (ak (fA av (fV 0 (ak (fS "matters") a0))) a0))) [some (r,false),some (v,false)]=some _:=cw (a5 _ (a8 (a5 [v,.str "matters"] rr U) (a8 (a5 [r,.str "matters"] rr (xM O f)) rr)) (vq _ _));have g:bW (f2 kU (fA aY (fV 0 a0)) (fS "leave")) [some (r,false),some (v,false)]=some (kK r):=bv (a:=kindOf r) (bb:=false) (a5 [r] rr (gX O.c)) rr;have i:kK r=true->bW (f2 iGe (fA av (fV 0 (ak (fS "further") a0))) (fA av (fV 1 (ak (fS "further") a0)))) [some (r,false),some (v,false)]=some _:=λh=>cw (aX (.int (je r)) (.int (je v)) (a5 [r,.str "further"] rr (Ps O (.inr (ET h)))) (a5 [v,.str "further"] rr (Ps gv kv)) rr);have e:=bS g i;unfold kL;cases M:decide (jH v &&& jH r=jH r) with
 |false=>exact⟨.str "matters",ah rr (aT (bi (p:=false) (b.trans (by rw[M]))) (aj rr)),rr,by simp only[oS,M];rfl⟩
 |true=>
  cases hB:(kK r && decide (je v<=je r)) with
  |true=>exact⟨.str "further",ah rr (ao (bi (p:=true) (b.trans (by rw[M]))) (aT (e.trans (by rw[hB])) (aj rr))),rr,by simp only[oS,M,hB];rfl⟩
  |false=>exact⟨.non,ah rr (ao (bi (p:=true) (b.trans (by rw[M]))) (ao (e.trans (by rw[hB])) (aj rr))),rr,by simp only[oS,M,hB];rfl⟩
def sG (h:k∈dH):k∈bx:=by
 have:∀k∈dH,k∈bx:=O9
 exact this k h
def i6 (h:kindOf r∈dH):aD r=false:=by
 have:∀k∈dH,decide (k = "root")=false:=O9
 exact this _ h
def sK (g:bd r)(h:aD r=false):bj [r]=sI (aA r):=by
 have:=sd g.c;simp_all[tP]
def oV (cs:List Cl)(r v:D):Bool:=gZ cs (aq 0 v) (aq 3 v) (cC r) (aA r) && kL r v
def Kb (cs:List Cl)(r v:D):D:=if gZ cs (aq 0 v) (aq 3 v) (cC r) (aA r)=true then oS r v else .str "holder"
def NR (cs:List Cl)(M:cs.length<=60)(O:bd r)(gv:bd v)(U:kindOf r∈dH)(hv:aD v=true):∃d,fY [.lst (cs.map aV),r,v]=some (d,false)/\Tz d .non=sO (oV cs r v)/\d=Kb cs r v:=by
 obtain⟨d,e,e2,g⟩:=zZ O gv U (.inl hv);have c:bW (fA dj (fV 0 (fV 2 (ak (fA av (fV 1 (ak (fS "by") a0))) (ak (fA bj (fV 1 a0)) a0))))) [sL (cs.map aV),some (r,false),some (v,false)]=some (gZ cs (aq 0 v) (aq 3 v) (cC r) (aA r)):=by
  refine cw (a5 _ (aO rr (aO rr (a8 (a5 _ rr (Ey O (j5 (.inl (sG U))))) (a8 (a5 [r] rr (sK O (i6 U))) rr)))) ?_);obtain⟨a,o,rl,m,f,rfl,_,_⟩:=sD gv hv;exact xI cs M _ _
 unfold oV;cases b:gZ cs (aq 0 v) (aq 3 v) (cC r) (aA r) with
 |false=>exact⟨.str "holder",ah rr (aT (bi (p:=false) (c.trans (by rw[b]))) (aj rr)),rr,by simp only[Kb,b];rfl⟩
 |true=>exact⟨d,ah rr (ao (bi (p:=true) (c.trans (by rw[b]))) (aj (a5 [r,v] rr e))),e2,by grind[Kb]⟩
def Gj (cs:List Cl)(r v:D):Int:=match jC cs (aq 0 v) (aq 3 v) (aA r) with
 |.tup [_,_,.int n]=>n
 |_=>0
def Kc (h:gZ cs o rl p day=true):∃n:Int,jC cs o rl day=.tup [.str "one",.str p,.int n]:=by
 unfold gZ jC at h;unfold jC;generalize VR cs o _=M at h |-;cases M with
 |nil=>
  have h:iQ (.tup [.str _]) _=true:=h;simp_all
 |cons b r=>
  rw[pG]at h |-;split at h
  .have h:iQ (.tup [.str _,.lst _]) _=true:=h;simp_all
  .rename_i hn;rw[if_neg hn];have h:iQ (.tup [.str _,.str _]) _=true:=h;simp_all
def NS (h:gZ cs (aq 0 v) (aq 3 v) (cC r) (aA r)=true):jC cs (aq 0 v) (aq 3 v) (aA r)=.tup [.str "one",.str (cC r),.int (Gj cs r v)]:=by
 obtain⟨n,e⟩:=Kc h;unfold Gj;rw[e]
def VU (cs:List Cl)(r v:D):D:=.tup [.str "office",.str (aq 0 v),.int (Gj cs r v)]
def sM (g:∀r∈ae,bd r)(hv:v∈bo (ag ae aa)):bd v/\aD v=true:=by
 obtain⟨x,hx,rfl⟩:=vO hv;obtain⟨h1,h2⟩:=vN hx;exact⟨g _ (vL (aR h1)),h2⟩
def Kd (hl:ae.length<=60)(aa:Int):(bo (ag ae aa)).length<=60:=by
 unfold bo;rw[vI];exact vR (vM _ _) (vR (bJ _ _) hl)
def Gk {ae:LD}(g:∀r∈ae,bd r)(hl:ae.length<=60)(aa:Int)(hn:((bo (ag ae aa)).map (aq 0)).Nodup)(cs:List Cl)(O:cs.length<=60){b:Nat}{r:D}(e:ae[b]? = some r)(k:kindOf r∈dH):
    gT [.tup ae,.int aa,.lst (cs.map aV),.int b]=lT (((bo (ag ae aa)).filter (oV cs r)).map (VU cs r)):=by
  have l:eP ae:=⟨hl,λr e=>(g r e).c⟩;have h:=g r (vL e);have q:=Kd hl aa;have h1:=eA (fi:=xp (fA ir (fV 0 (fV 1 a0)))) (nT:=1) (cap:=[2,4]) (tg:=gn 0) (c:=bW (f2 Tz (fA fY (fV 1 (fV 2 (fV 0 a0)))) (fC .non))) (fe:=am 0)
    (ρ:=[sJ ae,sI aa,sL (cs.map aV),sI b,some (r,false),none]) (bo (ag ae aa)) id (oV cs r) id
    (by show(fA ir _ _).bind _=_;rw[a5 [.tup ae,.int aa] rr (sv l aa),sE hn];simp) N9 λv hv=>by
      obtain⟨gv,M⟩:=sM g hv;obtain⟨d,n,e2,_⟩:=NR cs O h gv k M;exact⟨[some (v,false),sL (cs.map aV),some (r,false)],rr,cw (aX d .non (a5 [.lst (cs.map aV),r,v] rr n) rr e2),λ_=>⟨false,rr⟩⟩
  rw[map_id]at h1;have p:aN ((bo (ag ae aa)).filter (oV cs r))=true:=ba λv hv=>(sM g (vN hv).1).1.flat;refine ah rr (eC r (aX (.tup ae) (.int b) rr rr (by simp[bc e])) h.flat (bw h1 p (aj ?_)));refine gI (fi:=dE (am 5)) (nT:=1) (cap:=[2,4]) (tg:=gn 0)
     ((bo (ag ae aa)).filter (oV cs r)) id (VU cs r) H9 (vR (vM _ _) N9) λv hv=>?_
  obtain⟨i,j⟩:=vN hv;obtain⟨gv,M⟩:=sM g i;have U:(gZ cs (aq 0 v) (aq 3 v) (cC r) (aA r) && kL r v)=true:=j;rw[vC]at U;have hh:=NS U.1;refine⟨[some (v,false),sL (cs.map aV),some (r,false)],rr,false,?_⟩;obtain⟨a,o,rl,m,f,rfl,_,_⟩:=sD gv M;refine a5 [.str "office",.str o,.int (Gj cs r _)] (aO rr (a8 (a5 _ rr pH) (aO (aX (jC cs o rl (aA r)) (.int 2) (a5 _ (aO rr (aO rr (a8 (a5 [r] rr (sK h (i6 k))) rr))) (nM cs O _)) rr ?_) rr))) (aZ _ H9);have hh:jC cs o rl (aA r)=_:=hh;rw[hh];rfl
noncomputable def vt (day:Int)(x:Int×OI):Bool:=decide (x.1<=day) && (match x.2 with|none=>true|some u=>decide (day<u))
noncomputable def VV:OI->OI->Bool
 |_,none=>true
 |none,some _=>false
 |some x,some y=>decide (x<=y)
def NT (a b:OI):iH [uD a,uD b]=sO (VV a b):=by
 cases b with
 |none=>rfl
 |some y=>
  cases a with
  |none=>rfl
  |some x=>rfl
def Ke (a b:Int×OI):Bool:=decide (b.1<=a.1) && VV a.2 b.2
def Sh (a b:Int×OI):iz [jd a,jd b]=sO (Ke a b):=
 ah rr (aj (ce (b1:=false) (by simp[jd,A9]) λ_=>a5 _ (aO (by simp[jd,JP]) (aO (by simp[jd,JP]) rr)) (NT _ _)))
def Pt {ae:LD}{i:Nat}{r:D}(M:ae[i]? = some r)(g:bd r)(h:aD r=false):gP [.tup ae,.int i]=sJ [.int (aA r),.int i]:=
 ah rr (aj (a5 _ (aO (a5 _ (by simp[bc M]) (sK g h)) rr) u9))
def ZV (a b c d:Int):Zd (.tup [.int a,.int b]) (.tup [.int c,.int d])=sO (decide (a<c\/(a=c/\b<d))):=by
 show(aW _ _).map _=_;rw[Sa];rfl
def Aa {ae:LD}{i j:Nat}{x y:D}(hx:ae[i]? = some x)(hy:ae[j]? = some y)(M:bd x)(O:bd y)(nx:aD x=false)(U:aD y=false):gU [.tup ae,.int i,.int j]=sO (dU (x,i) (y,j)):=
 ah rr (aj (aX _ _ (a5 _ rr (Pt hx M nx)) (a5 _ rr (Pt hy O U)) (ZV _ _ _ _)))
def BH (r:D)(M:Nat)(x:D×Nat):Bool:=dU x (r,M) && ((vt (aA r) (dI x.1) && Ke (dI r) (dI x.1)) && kL r x.1)
def E1 (r:D)(M:Nat)(x:D×Nat):D:=if dU x (r,M)=true then (if(vt (aA r) (dI x.1) && Ke (dI r) (dI x.1))=true then oS r x.1 else .str "days")else .str "order"
def NU {ae:LD}{O M:Nat}{r l:D}(g:ae[O]? = some r)(hl:ae[M]? = some l)(a:bd r)(b:bd l)(c:kindOf r∈dH)(e:kindOf l = "leave"):∃d,kq [.tup ae,.int O,.int M]=some (d,false)/\Tz d .non=sO (BH r O (l,M))/\d=E1 r O (l,M):=by
 have i:=i6 c;have n:=i6 (xN e);obtain⟨d,o,e2,q⟩:=zZ a b c (.inr e);let E:DL.Env:=[sJ ae,sI O,sI M,some (r,false),some (jd (dI l),false)];have j:∀ρ:DL.Env,ρ[0]? = some (sJ ae)->ρ[2]? = some (sI M)->f2 dM (am 0) (am 2) ρ=some (l,false):=λρ h0 h2=>aX (.tup ae) (.int M) (by simp[h0]) (by simp[h2]) (by simp[bc hl]);have f:bW (fA gU (fV 0 (fV 2 (fV 1 a0)))) E=some (dU (l,M) (r,O)):=cw (a5 [.tup ae,.int M,.int O] rr (Aa hl g b a n i));have s:bW (fA lm (ak (fA bj (fV 3 a0)) (fV 4 a0))) E=some (vt (aA r) (dI l)):=cw (a5 [.int (aA r),jd (dI l)] (a8 (a5 [r] rr (sK a i)) (aO rr rr)) (xG _ _ _));have t:bW (fA iz (ak (fA av (fV 3 (ak (fS "stretch") a0))) (fV 4 a0))) E=some (Ke (dI r) (dI l)):=cw (a5 [jd (dI r),jd (dI l)] (a8 (a5 [r,.str "stretch"] rr (Ez a c)) (aO rr rr)) (Sh _ _));have m:=bY (bi s) λ_=>bi t;have go:∀(h:FS)(res:Option Res),h E=res->cb (eQ 3 (f2 dM (am 0) (am 1))) (cb (eQ 4 (fA av (ak (f2 dM (am 0) (am 2)) (ak (fS "stretch") a0)))) h) [sJ ae,sI O,sI M,none,none]=res:=λh res k=>
  eC r (aX (.tup ae) (.int O) rr rr (by simp[bc g])) a.flat (eC (jd (dI l)) (a5 [l,.str "stretch"] (a8 (j _ rr rr) rr) (Ez b (xN e))) (kI _) k)
 unfold BH;cases U:dU (l,M) (r,O) with
 |false=>exact⟨.str "order",ah rr (go _ _ (aT (bi (p:=false) (f.trans (by rw[U]))) (aj rr))),rr,by simp only[E1,U];rfl⟩
 |true=>
  cases hB:(vt (aA r) (dI l) && Ke (dI r) (dI l)) with
  |false=>exact⟨.str "days",ah rr (go _ _ (ao (bi (p:=true) (f.trans (by rw[U]))) (aT (m.trans (by rw[<-Bool.not_and,hB];rfl)) (aj rr)))),rr,by simp only[E1,U,hB];rfl⟩
  |true=>exact⟨d,ah rr (go _ _ (ao (bi (p:=true) (f.trans (by rw[U]))) (ao (m.trans (by rw[<-Bool.not_and,hB];rfl)) (aj (a5 [r,l] (aO rr (a8 (j _ rr rr) rr)) o))))),e2,by rw[q];simp only[E1,U,hB];rfl⟩
def m5 {ae:LD}{aa:Int}{i:Nat}{r:D}(O:ae[i]? = some r)(g:bd r):gS [.tup ae,.int aa,.int i]=sO (decide (aw r<=aa) && kK r):=by
 have M:cB [.tup ae,.int aa,.int i]=sO (decide (aw r<=aa)):=by
  obtain⟨a,k,ai,rfl,d⟩:=g;exact kG O _
 exact ah rr (aj (ce (a5 _ rr M) λ_=>aX _ _ (a5 _ (aO (aX _ _ rr rr (by simp[bc O])) rr) (gX g.c)) rr (by simp[kK])))
noncomputable def tQ (K:KL)(p:Str):KL:=(K.filter λx=>kK x.1).filter λx=>decide (aq 2 x.1=p)
def Kf (g:∀r∈ae,bd r)(h:x∈tQ (ag ae aa) p):ae[x.2]? = some x.1/\bd x.1/\kindOf x.1 = "leave":=by
 obtain⟨h1,_⟩:=vN h;obtain⟨h2,h3⟩:=vN h1;exact⟨aR h2,g _ (vL (aR h2)),ET h3⟩
def Gm {ae:LD}(g:∀r∈ae,bd r)(hl:ae.length<=60)(aa:Int)(p:Str):kx [.tup ae,.int aa,.str p]=lT ((tQ (ag ae aa) p).map λx=>.int x.2):=by
 have O:=bJ ae aa;have h1:=eA (fi:=dE (fA eD (fV 0 (fV 1 a0)))) (nT:=1) (cap:=[0,1]) (tg:=gn 0) (c:=bW (fA gS (fV 1 (fV 2 (fV 0 a0))))) (fe:=am 0)
  (ρ:=[sJ ae,sI aa,sS p,none]) _ _ _ _
  (by show(fA eD _ _).bind _=_;rw[a5 _ rr (kF ae (λr U=>(g r U).c.rp) N9 aa)];rfl) N9 λx hx=>by
   have hk:=(vN hx).2;have:=m5 (aa:=aa) (aR hx) (g _ (vL (aR hx)));rw[hk,Bool.true_and]at this;exact⟨_,rr,cw (a5 _ rr this),λ_=>⟨false,rr⟩⟩
 have M:aN (((ag ae aa).filter λx=>kK x.1).map λx=>D.int x.2)=true:=ba λd hd=>by obtain⟨x,_,rfl⟩:=vO hd;rfl
 refine ah rr (bw h1 M (aj ?_));refine eA (fi:=dE (am 3)) (nT:=1) (cap:=[2,0]) (tg:=gn 0) (fe:=am 0)
  (ρ:=[sJ ae,sI aa,sS p,lT (((ag ae aa).filter λx=>kK x.1).map λx=>.int x.2)]) ((ag ae aa).filter λx=>kK x.1) (λx=>.int x.2) _ _ H9 (vR (vM _ _) N9) λx hx=>?_
 refine cX λG K=>?_;obtain⟨h2,h3⟩:=vN hx;obtain⟨a,d,b,q,m,st,f,e,_⟩:=pK (g _ (vL (aR h2))) (ET h3);apply K;refine⟨[sI x.2,sS p,sJ ae],rr,cw (aX (.str (aq 2 x.1)) (.str p) (a5 [x.1,.str "person"] (aO (aX (.tup ae) (.int x.2) rr rr (by simp[bc (aR h2)])) rr) ?_) rr H9),λ_=>⟨false,rr⟩⟩;rw[e];rfl
def Gn {ae:LD}(g:∀r∈ae,bd r)(hl:ae.length<=60)(aa:Int){M:Nat}{r:D}(O:ae[M]? = some r)(a:kindOf r∈dH):
    iI [.tup ae,.int aa,.int M]=lT (((tQ (ag ae aa) (cC r)).filter (BH r M)).map λx=>.tup [.str "leave",.int x.2]):=by
  have b:=g r (vL O);have e:=bJ ae aa;have f:(tQ (ag ae aa) (cC r)).length<=60:=vR (vM _ _) (vR (vM _ _) N9);have U:aN ((tQ (ag ae aa) (cC r)).map λx=>D.int x.2)=true:=ba λd hd=>by obtain⟨x,_,rfl⟩:=vO hd;rfl
  refine ah rr (bw (a5 _ (aO rr (aO rr (a8 (a5 _ (aO (aX _ _ rr rr (by simp[bc O])) rr) (Ey b (j5 (.inl (sG a))))) rr))) (Gm g hl _ _)) U (aj ?_));refine eA
     _ (λx=>.int x.2) _ _ H9 N9 λx hx=>?_
  obtain⟨h1,h2,h3⟩:=Kf g hx;obtain⟨d,c,e2,_⟩:=NU O h1 b h2 a h3;exact⟨[sF _,sF _,sF _],rr,cw (aX d _ (a5 _ rr c) rr e2),λ_=>⟨false,a5 _ rr (aZ _ H9)⟩⟩
abbrev Bs:=Option Str×Int
noncomputable def L7:Bs->D
 | (some o,n)=>.tup [.str "office",.str o,.int n]
 | (none,n)=>.tup [.str "leave",.int n]
noncomputable def Ab:Bs->List At
 | (some o,n)=>[.i n,.s ("office" : Str),.s o,.i n]
 | (none,n)=>[.i n,.s ("leave" : Str),.i n]
def Kg (b:Bs):aQ (L7 b)=true:=by rcases b with⟨_|o,n⟩<;>rfl
def NV (b:Bs):dM (L7 b) (.int (-1))=sI b.2:=by rcases b with⟨_|o,n⟩<;>rfl
def Kh (a b:Bs):(aW (Ab a) (Ab b)).isSome=true:=by
 have O:("office" : Str) ≠ "leave":=O9
 rcases a with⟨_|o,n⟩<;>rcases b with⟨_|o',M⟩
 .show(aW [.i n,.s _,.i n] [.i M,.s _,.i M]).isSome=true;rw[aW];split
  .simp_all[aW]
  .rfl
 .show(aW [.i n,.s _,.i n] [.i M,.s _,.s o',.i M]).isSome=true;rw[aW];split
  .rfl
  .rfl
 .show(aW [.i n,.s _,.s o,.i n] [.i M,.s _,.i M]).isSome=true;rw[aW];split
  .rfl
  .rfl
 .show(aW [.i n,.s _,.s o,.i n] [.i M,.s _,.s o',.i M]).isSome=true;rw[aW];split
  .rw[aW,if_pos rr,aW];split
   .simp_all[aW]
   .rfl
  .rfl
def NW (h:Ab a=Ab b):a=b:=by
 rcases a with⟨_|o,n⟩<;>rcases b with⟨_|o',M⟩<;>simp[Ab]at h
 .rw[h]
 simp_all
def E2 (l:List Bs):cy (l.map Ab)=true:=by
 simp_all[cy,Kh]
theorem Ki (e:bU (Ab a)=bU (Ab b)):a=b:=NW (o3 (E2 [a,b]) H9 H9 e)
def T9 (cs:List Cl)(r v:D):Bs:=(some (aq 0 v),Gj cs r v)
def tR (K:KL)(cs:List Cl)(r:D)(M:Nat):List Bs:=((bo K).filter (oV cs r)).map (T9 cs r)++((tQ K (cC r)).filter (BH r M)).map λx=>(none,(x.2:Int))
def BI (K:KL)(cs:List Cl)(r:D)(M:Nat):List Bs:=dr (λb=>bU (Ab b)) (tR K cs r M)
def Go (hn:((bo (ag ae aa)).map (aq 0)).Nodup)(cs:List Cl)(r:D)(M:Nat):(tR (ag ae aa) cs r M).Nodup:=by
 unfold tR;rw[nodup_append];refine⟨?_,?_,?_⟩
 .exact pairwise_map.mpr ((List.Pairwise.sublist filter_sublist (pairwise_map.mp hn)).imp λh e=>h (vK (Prod.mk.inj e).1))
 .refine pairwise_map.mpr ((List.Pairwise.sublist (filter_sublist.trans (filter_sublist.trans filter_sublist)) (pairwise_map.mp (eI _ _))).imp λh e=>h ?_);lia
 .intro a ha b hb e;obtain⟨v,_,rfl⟩:=vO ha;obtain⟨x,_,rfl⟩:=vO hb;cases (Prod.mk.inj e).1
theorem vv {α:Type}{g:α->D}{h:α->List At}:∀(l:List α),(∀x∈l,RE (g x)=some (h x))->lL (l.map g)=some (l.map h)
 |[],_=>rr
 |x::l,k=>by
  rw[uY,lL,k x mX,vv l λy hy=>k y (mZ _ hy)];rfl
def E3 (hl:ae.length<=30)(aa:Int)(cs:List Cl)(r:D)(M:Nat):(tR (ag ae aa) cs r M).length<=60:=by
 have h1:((bo (ag ae aa)).filter (oV cs r)).length<=30:=by
  grind[bo,bJ]
 grind[bJ,tQ,tR]
def Kj {f:FE}{ρ:DL.Env}{b:Bool}(l:List Bs)(hl:l.length<=60)(hn:l.Nodup)(e:f ρ=some (.lst (l.map L7),b)):B3 f (xi [] (fA cG (ak (f2 dM (am 0) (f1 Fp (fI 1))) (fV 0 a0)))) ρ=lT ((dr (λb=>bU (Ab b)) l).map L7):=by
 have hm:hW (xi [] (fA cG (ak (f2 dM (am 0) (f1 Fp (fI 1))) (fV 0 a0))) ρ) _=some _:=fF l λb _=>by
  show(fA cG _ _).map _=_;rw[a5 _ (aO (aX (L7 b) _ rr rr (NV b)) (aO rr rr)) (aZ _ H9)];rfl
 have hk:lL (l.map λb=>D.tup [.int b.2,L7 b])=some (l.map Ab):=vv l λb _=>by rcases b with⟨_|o,n⟩<;>rfl
 have M:(l.map Ab).length<64/\cy (l.map Ab)=true/\True/\((l.map Ab).map bU).Nodup:=by
  refine⟨by rw[vI];lia,E2 l,trivial,?_⟩;rw[uP];exact pairwise_map.mpr (List.Pairwise.imp (λh e=>h (Ki e)) hn)
 unfold B3 xj;rw[e];simp only[vJ];rw[hm];simp only[vJ];rw[hk];simp only[vJ];rw[if_pos M];unfold dF;have O:((dr (λb=>bU (Ab b)) l).map λb=>(Ab b,L7 b))=dr (λp=>bU p.1) (l.map λb=>(Ab b,L7 b)):=by
  refine jU _ (λx hx y hy e=>?_) ((aH _ _).map _) ?_
  .grind[Ki]
  .exact pairwise_map.mpr (eV _ _)
 rw[zip_map',<-O,uP];rfl
section
variable {ae:LD}(g:∀r∈ae,bd r) (hl:ae.length<=30) (aa:Int) (hn:((bo (ag ae aa)).map (aq 0)).Nodup)
include g hl hn
theorem Ac (cs:List Cl)(n:cs.length<=60){M:Nat}{r:D}(U:ae[M]? = some r)(f:kindOf r∈dH)(hk:aw r<=aa):dQ [.tup ae,.int aa,.lst (cs.map aV),.int M]=lT ((BI (ag ae aa) cs r M).map L7):=by
 have h:=g r (vL U);have m:∀(ρ:DL.Env)(j:Nat),ρ[0]? = some (sJ ae)->ρ[j]? = some (sI M)->fA aY (ak (f2 dM (am 0) (am j)) a0) ρ=sS (kindOf r):=λρ j h0 h2=>a5 [r] (aO (aX (.tup ae) (.int M) (by simp[h0]) (by simp[h2]) (by simp[bc U])) rr) (gX h.c);have o:cB [.tup ae,.int aa,.int M]=sO true:=by
  obtain⟨a,k,ai,rfl,d⟩:=id h;rw[kG U aa,yc (show a<=aa from hk)]
 have i:cY [.tup ae,.int aa,.int M]=sO (decide _):=ah rr (aj (ce (p:=true) (a5 [.tup ae,.int aa,.int M] rr o) λ_=>aX (.str (kindOf r)) (.tup ([("paper" : Str),"like","copy"].map .str)) (m _ 2 rr rr) rr (ja _ _)));have hb:fm [.tup ae,.int aa,.int M]=sO true:=by
  refine(ah rr (aj (rH (a5 [.tup ae,.int aa,.int M] rr (m5 U h)) λ_=>a5 [.tup ae,.int aa,.int M] rr i))).trans ?_;rw[yc hk,Bool.true_and];have:∀k∈dH,(decide (k = "leave") || decide (k∈[("paper" : Str),"like","copy"]))=true:=O9
  unfold kK;rw[this _ f]
 have l:decide (kindOf r = "copy")=false:=by
  have:∀k∈dH,decide (k = "copy")=false:=O9
  exact this _ f
 have e:=E3 hl aa cs r M;have q:aN ((tR (ag ae aa) cs r M).map L7)=true:=ba λd hd=>by obtain⟨b,_,rfl⟩:=vO hd;exact Kg b
 refine ah rr (ao (bi (p:=true) (cw (a5 [.tup ae,.int aa,.int M] rr hb))) (ao (bv (a:=kindOf r) (bb:=false) (m _ 3 rr rr) l) (bw ?_ q (aj (Kj (b:=false) _ e (Go hn cs r M) rr)))));have s:=Gk g N9 aa hn cs n U f;have hv:=Gn g N9 aa U f;refine eZ (b1:=true) (b2:=true) (a5 _ rr s) (a5 [.tup ae,.int aa,.int M] rr hv) ?_;have O:=e;unfold tR at O |-;rw[uZ,vI,vI]at O;refine(if_pos (c7 (by grind))).trans ?_;rw[uW,uP,uP];rfl
end
def BJ (K:KL)(c r:D):Bool:=decide (cC c=cC r) || (!decide (kindOf r = "copy") && (bo K).any λv=>decide (jH v &&& jH r=jH r) && gZ (aU K) (aq 0 v) (aq 3 v) (cC c) (aA c))
def BK {α:Type}(l:List α)(p f:α->Bool):((l.filter p).map f).any id=l.any λx=>p x && f x:=by
 simp
def Si {ae:LD}(g:∀r∈ae,bd r)(hl:ae.length<=60)(aa:Int)(s:(aU (ag ae aa)).length<=60)(hn:((bo (ag ae aa)).map (aq 0)).Nodup){O U:Nat}{c r:D}(hc:ae[O]? = some c)(i:ae[U]? = some r)(n:kindOf c = "call")(p:kindOf r∈bx):
  mr [.tup ae,.int aa,.lst ((aU (ag ae aa)).map aV),.int O,.int U]=sO (BJ (ag ae aa) c r):=by
 have t:eP ae:=⟨hl,λr i=>(g r i).c⟩;have gc:=g c (vL hc);have j:=g r (vL i);have q:=bc hc;have u:=bc i;have w:=Ey gc (j5 (.inr n));have y:=Ey j (j5 (.inl p));have l:∀v∈bo (ag ae aa),bd v/\aD v=true:=λv hv=>by
  obtain⟨x,hx,rfl⟩:=vO hv;obtain⟨h1,h2⟩:=vN hx;exact⟨g _ (vL (aR h1)),h2⟩
 have z:(bo (ag ae aa)).length<=60:=by
  unfold bo;rw[vI];exact vR (vM _ _) (vR (bJ ae aa) hl)
 have A:bj [c]=sI (aA c):=by
  have:=sd gc.c;unfold tP at this;rwa [if_neg (by unfold aD;rw[n];decide +kernel)]at this
 have d:∀(e:OB),bW (f2 kU (am 6) (fA av (fV 5 (ak (fS "by") a0)))) [sJ ae,sI aa,sL ((aU (ag ae aa)).map aV),sI O,sI U,some (r,false),sS (cC c),e]=some (decide (cC c=cC r)):=λe=>cw (aX (.str (cC c)) (.str (cC r)) rr (a5 [r,.str "by"] rr y) H9);have h:∀(e:OB),bW (f2 kU (fA aY (fV 5 a0)) (fS "copy")) [sJ ae,sI aa,sL ((aU (ag ae aa)).map aV),sI O,sI U,some (r,false),sS (cC c),e]=some (decide (kindOf r = "copy")):=λe=>bv (a:=kindOf r) (bb:=false) (a5 [r] rr (gX j.c)) rr;refine ah rr (eC r (aX (.tup ae) (.int U) rr rr (by simp[u])) j.flat (eC (.str (cC c)) (a5 [c,.str "by"] (aO (aX (.tup ae) (.int O) rr rr (by simp[q])) rr) w) rr ?_));unfold BJ;cases h1:decide (cC c=cC r) with
 |true=>exact aT ((d none).trans (by rw[h1])) (aj rr)
 |false=>
  refine ao ((d none).trans (by rw[h1])) ?_;cases h2:decide (kindOf r = "copy") with
  |true=>exact aT ((h none).trans (by rw[h2])) (aj rr)
  |false=>
   have B:kindOf r∈dH:=by
    have C:=of_decide_eq_false h2;have:∀k∈bx,k ≠ "copy"->k∈dH:=O9
    exact this _ p C
   have pm:=xM j B;refine ao ((h none).trans (by rw[h2])) ?_;have M:=eA (fi:=xp (fA ir (fV 0 (fV 1 a0)))) (nT:=1) (cap:=[5]) (tg:=gn 0) (c:=bW (fA iZ (ak (fA av (fV 0 (ak (fS "matters") a0))) (ak (fA av (fV 1 (ak (fS "matters") a0))) a0)))) (fe:=am 0)
    (ρ:=[sJ ae,sI aa,sL ((aU (ag ae aa)).map aV),sI O,sI U,some (r,false),sS (cC c),none]) (bo (ag ae aa)) id (λv=>decide (jH v &&& jH r=jH r)) id
    (by show(fA ir _ _).bind _=_;rw[a5 [.tup ae,.int aa] rr (sv t aa),sE hn];simp) N9 λv hv=>by
     obtain⟨gv,b⟩:=l v hv;exact⟨[some (v,false),some (r,false)],rr,cw (a5 [.int (jH v),.int (jH r)] (a8 (a5 [v,.str "matters"] rr (Ex gv b)) (a8 (a5 [r,.str "matters"] rr pm) rr)) (vq _ _)),λ_=>⟨false,rr⟩⟩
   rw[map_id]at M;refine bw M (ba λv hv=>(l v (vN hv).1).1.flat) (aj ?_);have E:=gI (fi:=dE (am 7)) (nT:=1) (cap:=[2,6,0,3]) (tg:=gn 0) (fe:=fA dj (fV 1 (fV 0 (fV 2 (ak (fA bj (ak (f2 dM (am 3) (am 4)) a0)) a0)))))
    (ρ:=[sJ ae,sI aa,sL ((aU (ag ae aa)).map aV),sI O,sI U,some (r,false),sS (cC c),lT ((bo (ag ae aa)).filter λv=>decide (jH v &&& jH r=jH r))]) ((bo (ag ae aa)).filter λv=>decide (jH v &&& jH r=jH r)) id (λv=>.bl (gZ (aU (ag ae aa)) (aq 0 v) (aq 3 v) (cC c) (aA c)))
    H9 (vR (vM _ _) N9) λv hv=>by
     obtain⟨gv,b⟩:=l v (vN hv).1;obtain⟨a,o,rl,m,f,rfl,_,_⟩:=sD gv b;exact⟨[some (row a ("root" : Str) [.str o,.int m,.int f,.str rl],false),sL ((aU (ag ae aa)).map aV),sS (cC c),sJ ae,sI O],rr,false,a5 _ (aO rr (aO rr (aO rr (a8 (a5 [c] (aO (aX (.tup ae) (.int O) rr rr (by simp[q])) rr) A) rr)))) (xI _ s _ _)⟩
   refine(a5 [_] (a8 E rr) ?_);show(wR _).map _=_;rw[JJ,Option.map_some,BK];rfl
def BL (g:bd r)(h:kindOf r = "call"):∃a d b,∃n:Nat,r=row a ("call" : Str) [.int d,.str b,.int n]:=by
 obtain⟨a,k,ai,rfl,d⟩:=g;have hk:k = "call":=h;clear h;cases d with
 |copy k M d b n=>subst hk;exact⟨a,d,b,n,rr⟩
 |root=>exact cP hk
 |named=>exact cP hk
 |chosen=>exact cP hk
 |heir=>exact cP hk
 |three k M=>rcases M with rfl|rfl|rfl<;>exact cP hk
 |leave=>exact cP hk
 |paper k M=>rcases M with rfl|rfl<;>exact cP hk
def Ad (ae:LD)(aa:Int)(M:Nat)(r:D)(day:Int)(c:D):Bool:=decide (kindOf c = "call") && (decide (cN 2 c=M) && (decide (aA c<=day) && (gV ae aa c && BJ (ag ae aa) c r)))
def BM (e:f ρ=some (.str a,bb)):bW (f2 HM f (fS b)) ρ=some (!decide (a=b)):=by simp_all
section
variable {ae:LD}(g:∀r∈ae,bd r) (hl:ae.length<=60) (aa:Int) (j8:(aU (ag ae aa)).length<=60) (hn:((bo (ag ae aa)).map (aq 0)).Nodup)
include g hl j8 hn
theorem Ae {O M:Nat}{c r:D}(hc:ae[O]? = some c)(e:ae[M]? = some r)(j:kindOf r∈bx)(day:Int):jw [.tup ae,.int aa,.lst ((aU (ag ae aa)).map aV),.int O,.int M,.int day]=sO (Ad ae aa M r day c):=by
 have gc:=g c (vL hc);have k:=bc hc;have i:bW (f2 HM (fA aY (fV 6 a0)) (fS "call")) [sJ ae,sI aa,sL ((aU (ag ae aa)).map aV),sI O,sI M,sI day,some (c,false)]=some (!decide (kindOf c = "call")):=BM (a:=kindOf c) (bb:=false) (a5 [c] rr (gX gc.c));refine ah rr (eC c (aX (.tup ae) (.int O) rr rr (by simp[k])) gc.flat ?_);unfold Ad;by_cases hk:kindOf c = "call"
 .obtain⟨a,d,b,n,f⟩:=BL gc hk;have l:cN 2 c=(n:Int):=by rw[f];rfl
  have e2:aA c=d:=by rw[f];rfl
  have po:av [c,.str "of"]=sI n:=by rw[f];rfl
  have m:bj [c]=sI d:=by
   have:=sd gc.c;unfold tP at this;rwa [if_neg (by unfold aD;rw[hk];decide +kernel),e2]at this
  have o:bW (f2 HM (fA av (fV 6 (ak (fS "of") a0))) (am 4)) [sJ ae,sI aa,sL ((aU (ag ae aa)).map aV),sI O,sI M,sI day,some (c,false)]=some (!decide ((n:Int)=M)):=cw (aX (.int n) (.int M) (a5 [c,.str "of"] rr po) rr H9);have s:bW (f2 OS (fA bj (fV 6 a0)) (am 5)) [sJ ae,sI aa,sL ((aU (ag ae aa)).map aV),sI O,sI M,sI day,some (c,false)]=some (decide (day<d)):=cw (aX (.int d) (.int day) (a5 [c] rr m) rr rr);have U:=bY i λ_=>bY o λ_=>s;rw[l,e2,yc hk,Bool.true_and];rw[yc hk]at U;by_cases h1:(n:Int)=M
  .by_cases h2:d<=day
   .rw[yc h1,yc h2,Bool.true_and,Bool.true_and];rw[yc h1,ye N9]at U;exact ao U (aj (ce (a5 [.tup ae,.int aa,.int O] rr (rZ ae (λr e=>(g r e).c.rp) N9 aa hc)) λ_=>a5 _ rr (Si g hl aa j8 hn hc e hk j)))
   .rw[ye h2,Bool.false_and,Bool.and_false];rw[yc h1,yc (show day<d by lia)]at U;exact aT U (aj rr)
  .rw[ye h1,Bool.false_and];rw[ye h1]at U;exact aT U (aj rr)
 .rw[ye hk,Bool.false_and];refine aT (bY (p:=true) (q:=false) (i.trans (by rw[ye hk];rfl)) λh=>by cases h) (aj rr)
def iK (ae:LD)(aa:Int)(M:Nat)(r:D)(day:Int):LN:=if aw r<=aa/\kindOf r∈bx then ((ag ae aa).filter λx=>Ad ae aa M r day x.1).map (·.2)else []
theorem pL {M:Nat}{r:D}(O:ae[M]? = some r)(day:Int):ms [.tup ae,.int aa,.lst ((aU (ag ae aa)).map aV),.int M,.int day]=lT ((iK ae aa M r day).map λn:Nat=>.int n):=by
 have h:=g r (vL O);have l:=bc O;have i:cB [.tup ae,.int aa,.int M]=sO (decide (aw r<=aa)):=by
  obtain⟨a,k,ai,e,d⟩:=h;rw[e]at O;rw[show aw r=a by rw[e];rfl];exact kG O aa
 have j:∀ρ:DL.Env,ρ[0]? = some (sJ ae)->ρ[2]? = some (sI M)->fA aY (ak (f2 dM (am 0) (am 2)) a0) ρ=sS (kindOf r):=λρ h0 h2=>a5 [r] (aO (aX (.tup ae) (.int M) (by simp[h0]) (by simp[h2]) (by simp[l])) rr) (gX h.c);have m:gS [.tup ae,.int aa,.int M]=sO (decide (aw r<=aa) && decide (kindOf r = "leave")):=ah rr (aj (ce (a5 [.tup ae,.int aa,.int M] rr i) λ_=>aX (.str (kindOf r)) (.str "leave") (j _ rr rr) rr H9));have b:cY [.tup ae,.int aa,.int M]=sF _:=ah rr (aj (ce (a5 [.tup ae,.int aa,.int M] rr i) λ_=>aX (.str (kindOf r)) (.tup ([("paper" : Str),"like","copy"].map .str)) (j _ rr rr) rr (ja _ _)));have hb:fm [.tup ae,.int aa,.int M]=sO (decide (aw r<=aa/\kindOf r∈bx)):=by
  refine(ah rr (aj (rH (a5 [.tup ae,.int aa,.int M] rr m) λ_=>a5 [.tup ae,.int aa,.int M] rr b))).trans ?_;congr 3;simp only[bx,mem_cons,not_mem_nil,or_false];by_cases h1:aw r<=aa
  .simp[h1]
  .simp[h1]
 unfold iK;by_cases hx:aw r<=aa/\kindOf r∈bx
 .rw[if_pos hx];refine ah rr (ao (bi (p:=true) (cw (a5 [.tup ae,.int aa,.int M] rr (by rw[hb,yc hx])))) (aj ?_));have U:=eA (fi:=dE (fA eD (fV 0 (fV 1 a0)))) (nT:=1) (cap:=[0,1,2,3,4]) (tg:=gn 0) (c:=bW (fA jw (fV 1 (fV 2 (fV 3 (fV 0 (fV 4 (fV 5 a0)))))))) (fe:=am 0)
   (ρ:=[sJ ae,sI aa,sL ((aU (ag ae aa)).map aV),sI M,sI day]) (ag ae aa) (λx=>.int x.2) (λx=>Ad ae aa M r day x.1) (λx=>.int x.2)
   (by show(fA eD _ _).bind _=_;rw[a5 [.tup ae,.int aa] rr (kF ae (λr O=>(g r O).c.rp) N9 aa)];rfl) (vR (bJ ae aa) N9) λx f=>by
    exact⟨_,rr,cw (a5 _ rr (Ae g hl aa j8 hn (aR f) O hx.2 day)),λ_=>⟨false,rr⟩⟩
  rw[uP];exact U
 .rw[if_neg hx];exact ah rr (aT (bi (p:=false) (cw (a5 [.tup ae,.int aa,.int M] rr (by rw[hb,ye hx])))) (aj (a5 [] rr (cD _ H9))))
omit j8 in
end
def cF:LS:=[("paper" : Str),"like","copy"]
noncomputable def NX (w:Str):Bs->D
 | (some o,n)=>.tup [.str "office",.str o,.int n]
 | (none,n)=>.tup [.str w,.int n]
def Sj (r:D):Str:=if kindOf r = "copy" then ("copy" : Str)else ("leave" : Str)
def vw {ae:LD}{n:Nat}(h:ae.length<=n)(aa:Int):cB [.tup ae,.int aa,.int n]=sO false:=by
 refine ah rr (aj (ce (p:=false) (q:=false) (b1:=false) ?_ λz=>by cases z));have h1:¬(n:Int)<ae.length:=N9
 exact(iY (p:=true) (z:=.int ae.length) (b3:=false) (b4:=false) rr rr H9 H9 λ_=>by simp[h1])
def Kk {ae:LD}{i:Nat}{r:D}(M:ae[i]? = some r)(g:bd r)(aa:Int):cB [.tup ae,.int aa,.int i]=sO (decide (aw r<=aa)):=by
 obtain⟨a,k,ai,rfl,d⟩:=g;exact kG M _
def E4 {ae:LD}{i:Nat}{r:D}(M:ae[i]? = some r)(g:bd r){ρ:DL.Env}{j:Nat}(h0:ρ[0]? = some (sJ ae))(hj:ρ[j]? = some (sI i)):fA aY (ak (f2 dM (am 0) (am j)) a0) ρ=sS (kindOf r):=
 a5 _ (aO (aX (.tup ae) (.int i) (by simp[h0]) (by simp[hj]) (by simp[bc M])) rr) (gX g.c)
def kO {ae:LD}{i:Nat}{r:D}(M:ae[i]? = some r)(g:bd r)(aa:Int):cY [.tup ae,.int aa,.int i]=sO (decide (aw r<=aa) && decide (kindOf r∈cF)):=
 ah rr (aj (ce (a5 _ rr (Kk M g _)) λ_=>aX _ (.tup (cF.map _)) (E4 M g rr rr) rr (ja _ _)))
def Af {ae:LD}{i:Nat}{r:D}(M:ae[i]? = some r)(g:bd r)(aa:Int):fm [.tup ae,.int aa,.int i]=sO (decide (aw r<=aa) && decide (kindOf r∈bx)):=by
 refine(ah rr (aj (rH (a5 _ rr (m5 M g)) λ_=>a5 _ rr (kO M g _)))).trans ?_;unfold kK;simp only[bx,cF,or_false];by_cases h1:aw r<=aa
 .simp[h1]
 .simp[h1]
def nN (ae:LD)(aa:Int)(r:D)(M n:Nat):Bool:=match ae[n]? with
 |none=>false
 |some q=>(decide (aw q<=aa) && decide (kindOf q∈cF)) && dU (q,n) (r,M)
def m6 (g:bd r)(h:kindOf r = "copy"):∃a d b,∃n:Nat,r=row a ("copy" : Str) [.int d,.str b,.int n]:=by
 obtain⟨a,k,ai,rfl,d⟩:=g;have hk:k = "copy":=h;clear h;cases d with
 |copy k M d b n=>subst hk;exact⟨a,d,b,n,rr⟩
 |root=>exact cP hk
 |named=>exact cP hk
 |chosen=>exact cP hk
 |heir=>exact cP hk
 |three k M=>rcases M with rfl|rfl|rfl<;>exact cP hk
 |leave=>exact cP hk
 |paper k M=>rcases M with rfl|rfl<;>exact cP hk
def sP (h:kindOf r∈cF):aD r=false:=by
 have:∀k∈cF,decide (k = "root")=false:=O9
 exact this _ h
def Gp {ae:LD}(g:∀r∈ae,bd r)(aa:Int){M:Nat}{r:D}(U:ae[M]? = some r)(c:kindOf r = "copy"):∃n:Nat,cN 2 r=n/\jx [.tup ae,.int aa,.int M]=lT ((if nN ae aa r M n=true then [((none,(n:Int)):Bs)]else []).map (NX ("copy" : Str))):=by
 have e:=g r (vL U);obtain⟨a,d,b,n,er⟩:=m6 e c;have i:aD r=false:=sP (by rw[c];decide +kernel);have po:av [r,.str "of"]=sI n:=by rw[er];rfl
 refine⟨n,by rw[er];rfl,?_⟩;let E:DL.Env:=[sJ ae,sI aa,sI M,sI n];refine ah rr (eC (.int n) (a5 [r,.str "of"] (aO (aX (.tup ae) (.int M) rr rr (by simp[bc U])) rr) po) rr ?_);have O:gm (bW (fA cY (fV 0 (fV 1 (fV 3 a0))))) (bW (fA gU (fV 0 (fV 3 (fV 2 a0))))) E=some (nN ae aa r M n):=by
  unfold nN;cases hq:ae[n]? with
  |none=>
   have hn:ae.length<=n:=List.getElem?_eq_none_iff.mp hq;exact bS (p:=false) (q:=false) (cw (a5 [.tup ae,.int aa,.int n] rr (ah rr (aj (ce (p:=false) (q:=false) (a5 [.tup ae,.int aa,.int n] rr (vw hn aa)) λz=>by cases z))))) λz=>by cases z
  |some q=>
   have f:=g q (vL hq);exact bS (cw (a5 [.tup ae,.int aa,.int n] rr (kO hq f aa))) λh=>by
    rw[vC]at h;exact cw (a5 [.tup ae,.int n,.int M] rr (Aa hq U f e (sP (ET h.2)) i))
 cases hv:nN ae aa r M n with
 |true=>
  rw[hv]at O;rw[if_pos rr];exact aT O (aj (a5 [.tup [.str "copy",.int n]] (aO (a5 [.str "copy",.int n] rr (aZ _ H9)) rr) (cD _ H9)))
 |false=>
  rw[hv]at O;rw[if_neg P9];exact ao O (aj (a5 [] rr (cD _ H9)))
def nO (ae:LD)(aa:Int)(cs:List Cl)(x:D×Nat):List Bs:=if kindOf x.1 = "copy" then (if nN ae aa x.1 x.2 (cN 2 x.1).toNat=true then [(none,cN 2 x.1)]else [])else BI (ag ae aa) cs x.1 x.2
section
variable {ae:LD}(g:∀r∈ae,bd r) (hl:ae.length<=30) (aa:Int) (hn:((bo (ag ae aa)).map (aq 0)).Nodup)
include g hl hn
theorem NY (cs:List Cl)(U:cs.length<=60){a:Nat}{r:D}(O:ae[a]? = some r)(e:kindOf r∈bx)(hk:aw r<=aa):dQ [.tup ae,.int aa,.lst (cs.map aV),.int a]=lT ((nO ae aa cs (r,a)).map (NX (Sj r))):=by
 have b:=g r (vL O);unfold nO Sj;by_cases M:kindOf r = "copy"
 .rw[if_pos M,if_pos M];obtain⟨n,c,e2⟩:=Gp g _ O M;rw[c];refine ah rr (ao (bi (p:=true) (cw (a5 _ rr ((Af O b _).trans (by simp_all))))) (aT (bv (E4 O b rr rr) (yc M)) (aj (a5 _ rr e2))))
 .rw[if_neg M,if_neg M];have d:kindOf r∈dH:=by
   simp_all[bx,dH]
  exact Ac g hl _ hn cs U O d hk
end
def Sk (e:f (iP ρ)=some (d,b))(k:h (ρ.set i (some (d,false)))=r):cb (Cr i f) h ρ=r:=by simp_all
def E5 (e:ρ[i]? = some (some (.dk ks vs,b))):pq i ρ=some (.rt (.dk ks vs) false):=by simp[pq,e]
def kN (x:D×Nat):dA:=.inl (x.2:Int)
def Gr (ae:LD)(aa day:Int)(x:D×Nat):Bool:=(gV ae aa x.1 && decide (aA x.1<=day)) && (iK ae aa x.2 x.1 day).isEmpty
def NZ {α:Type}(l:List α)(f:α->D):decide ((((l.map f).length:Nat):Int)=0)=l.isEmpty:=by
 cases l with
 |nil=>rfl
 |cons a l=>rfl
noncomputable def m7 (ae:LD)(aa day:Int)(l:KL):KL:=l.filter λx=>decide (kindOf x.1∈bx) && Gr ae aa day x
section
variable {ae:LD}(g:∀r∈ae,bd r) (hl:ae.length<=30) (aa:Int) (hn:((bo (ag ae aa)).map (aq 0)).Nodup)
include g hl hn
theorem Sl (O:(aU (ag ae aa)).length<=60){U:Nat}{r:D}(M:ae[U]? = some r)(d:kindOf r∈bx)(day:Int):nE [.tup ae,.int aa,.lst ((aU (ag ae aa)).map aV),.int U,.int day]=sO (Gr ae aa day (r,U)):=by
 have f:=g r (vL M);have h:=by
  have:∀k∈bx,decide (k = "root")=false:=O9
  exact this _ d
 let E:DL.Env:=[sJ ae,sI aa,sL ((aU (ag ae aa)).map aV),sI U,sI day];have i:bW (fA jt (fV 0 (fV 1 (fV 3 a0)))) E=some _:=cw (a5 _ rr (rZ ae (λr M=>(g r M).c.rp) N9 aa M));have j:bW (f2 OS (fA bj (ak (f2 dM (am 0) (am 3)) a0)) (am 4)) E=some _:=cw (aX _ (.int day) (a5 [r] (aO (aX (.tup ae) (.int U) rr rr (by simp[bc M])) rr) (sK f h)) rr rr);have a:=bY (bi i) λ_=>j;have e:(!gV ae aa r || decide (day<aA r)) = !(gV ae aa r && decide (aA r<=day)):=by
  rw[Bool.not_and];congr 1;rw[<-decide_not];congr 1;rw[Int.not_le]
 rw[e]at a;unfold Gr;cases b:(gV ae aa r && decide (aA r<=day)) with
 |false=>
  rw[b]at a;exact ah rr (aT a (aj rr))
 |true=>
  rw[b]at a;refine ah rr (ao a (aj ?_));rw[<-NZ _ λn:Nat=>.int n];exact aX _ (.int 0) (a5 _ (a8 (a5 _ rr (pL g N9 aa O hn M day)) rr) rr) rr H9
theorem Kl (m:(ci (ag ae aa)).length<=60)(day:Int):x0 [.tup ae,.int aa,.int day]=sF (.dk ((m7 ae aa day (ci (ag ae aa))).map kN) ((m7 ae aa day (ci (ag ae aa))).map λx=>.lst ((nO ae aa (aU (ag ae aa)) x).map (NX (Sj x.1))))):=by
 have p:eP ae:=⟨N9,λr a=>(g r a).c⟩;obtain⟨q,U⟩:=oQ (ae:=ae) p aa m;have s:dO [.tup ae,.int aa]=lT ((ci (ag ae aa)).map λx=>.int x.2):=pD p aa;generalize t:aU (ag ae aa)=cs at q U |-;have M:∀x∈ci (ag ae aa),x∈ag ae aa:=λx hx=>(vN ((aH _ _).mem_iff.mp hx)).1;have u:((ci (ag ae aa)).map (·.2)).Nodup:=oP (eI ae aa);generalize ci (ag ae aa)=O at m s M u |-;let l:D×Nat->D:=λx=>.lst ((nO ae aa cs x).map (NX (Sj x.1)));let E:KL->OB->DL.Env:=λL i=>[sJ ae,sI aa,sI day,sL (cs.map aV),some (.dk (L.map kN) (L.map l),true),i];obtain⟨ρ',e,i,rfl⟩:=cW (tg:=gn 5) (g:=JL) (λj ρ=>∃i,ρ=E (m7 ae aa day (O.take j)) i) (O.map λx=>.int x.2) (E [] none) ⟨none,rr⟩ (by
  rintro j d ρ hd ⟨i,rfl⟩;rw[vA]at hd;obtain⟨x,hx,rfl⟩:=oY hd;have v:=M x (vL hx);have a:=aR v;have z:aw x.1<=aa:=ET (vN v).2;have A:=g x.1 (vL a);have B:O.take (j+1)=O.take j++[x]:=by rw[take_add_one,hx];rfl
  have w:m7 ae aa day (O.take (j+1))=m7 ae aa day (O.take j)++if(decide (kindOf x.1∈bx) && Gr ae aa day x)=true then [x]else []:=by
   simp_all[m7,List.filter_cons]
  have k:x.2∉(m7 ae aa day (O.take j)).map (·.2):=by
   have h2:((O.take (j+1)).map (·.2)).Nodup:=List.Nodup.sublist (List.Sublist.map _ (take_sublist _ _)) u;rw[B,uW,nodup_append]at h2;intro hm;obtain⟨y,hy,n⟩:=vO hm;exact h2.2.2 _ (uS ⟨y,(vN hy).1,rr⟩) _ H9 n
  have o:(m7 ae aa day (O.take j)).length<=60:=vR (vM _ _) (vR (List.length_take_le' _ _) m);generalize m7 ae aa day (O.take j)=L at w k o;let F:DL.Env:=E L (sI x.2);have C:bW (fA fm (fV 0 (fV 1 (fV 5 a0)))) F=some (decide (kindOf x.1∈bx)):=cw (a5 [.tup ae,.int aa,.int x.2] rr ((Af a A aa).trans (by simp_all)));have G:=bS C λh=>cw (f:=fA nE (fV 0 (fV 1 (fV 3 (fV 5 (fV 2 a0)))))) (a5 _ rr (by rw[<-t];exact Sl g hl aa hn (by rw[t];exact U) a (ET h) day));refine⟨F,E _ (sI x.2),rr,.inl (VN G (λh=>?_) λh=>?_),sI x.2,by rw[w]⟩
  .rw[if_pos h];have H:kindOf x.1∈bx:=N9
   have I:rq 4 (am 5) (fA dQ (fV 0 (fV 1 (fV 3 (fV 5 a0))))) F=some (.nx (F.set 4 (some (.dk (dv (L.map kN) (kN x)) (cz (L.map kN) (L.map l) (kN x) (l x)),true)))):=by
    have ev:fA dQ (fV 0 (fV 1 (fV 3 (fV 5 a0)))) (iP F)=some (l x,true):=a5 [.tup ae,.int aa,.lst (cs.map aV),.int x.2] rr (NY g hl aa hn cs U a H z);show((fA dQ _ (iP F)).bind _)=_;rw[ev];simp only[vJ];exact if_pos (c:=(L.map kN).length<sizeLine) (bu (by rw[vI];lia))
   rw[I];have hk:kN x∉L.map kN:=λhm=>by
    obtain⟨y,hy,n⟩:=vO hm;exact k (uS ⟨y,hy,by have:=Sum.inl.inj (show(Sum.inl (y.2:Int):dA)=Sum.inl (x.2:Int)from n);lia⟩)
   unfold dv cz;rw[if_neg hk,if_neg hk];simp[F,E]
  .rw[h,if_neg P9,uQ];rfl)
 rw[vI,take_length]at e;exact ah rr (Sk (a5 [.tup ae,.int aa] rr q) (bR (ρ':=E [] none) rr (bR (fX (ds:=O.map λx=>.int x.2) (by show(fA dO _ _).bind _=_;rw[a5 [.tup ae,.int aa] rr s];rfl) e) (E5 (b:=true) rr))))
end
def nK (n:Nat):dA:=.inl (n:Int)
def Pu:Nat->D:=λ_=>.bl true
noncomputable def hJ (S:LN)(b:Bs):Bool:=b.1.isSome || S.any λn=>decide ((n:Int)=b.2)
noncomputable def dJ (S:LN)(p:Nat×List Bs):LN:=if p.2.any (hJ S)=true then S++[p.1]else S
noncomputable def hU (l:List (Nat×List Bs)):LN:=l.foldl dJ []
theorem Ag (n:Int):∀S:LN,(bN (S.map nK) (S.map Pu) (.inl n)).isSome=S.any λm=>decide ((m:Int)=n)
 |[]=>rr
 |m::S=>by
  rw[uY,uY,bN,any_cons];by_cases h:(m:Int)=n
  .simp_all[nK]
  .rw[if_neg (show ¬nK m=.inl n from λz=>h (Sum.inl.inj z)),ye h,Ag n S];rfl
def Km (hw:decide (w=("office" : Str))=false)(S:LN)(b:Bs):qp [NX w b,.dk (S.map nK) (S.map Pu)]=sO (hJ S b):=by
 rcases b with⟨_|o,n⟩
 .refine ah rr (aj (rH (b1:=false) (aX _ _ rr rr (by simp[of_decide_eq_false hw])) λ_=>aX _ _ rr rr ?_));show some (D.bl _,false)=_;rw[Ag]
 rfl
def any_map {α:Type}(l:List α)(f:α->Bool):Rf [.lst (l.map λx=>.bl (f x))]=sO (l.any f):=by
 simp
theorem Ko (h:m∈dJ S p):m∈S\/m=p.1:=by
 grind[dJ]
theorem vx:∀(l:List (Nat×List Bs))(S:LN)(m:Nat),m∈l.foldl dJ S->m∈S\/m∈l.map (·.1)
 |[],_,_,h=>.inl h
 |p::l,S,m,h=>by
  rcases vx l _ m h with h|h
  .grind[Ko]
  .exact .inr (mZ _ h)
abbrev Rs:=Nat×Str×List Bs
noncomputable def Sm (p:Rs):D:=.lst (p.2.2.map (NX p.2.1))
def E6 (p:Rs):Nat×List Bs:=(p.1,p.2.2)
def Kp (l:List Rs)(hl:l.length<=60)(hw:∀p∈l,decide (p.2.1 = "office")=false)(hb:∀p∈l,p.2.2.length<=100)(hn:(l.map (·.1)).Nodup):xA [.dk (l.map λp=>nK p.1) (l.map Sm)]=sF (.dk ((hU (l.map E6)).map nK) ((hU (l.map E6)).map Pu)):=by
 let E:LN->OB->OB->DL.Env:=λS M O=>[sF (.dk (l.map λp=>nK p.1) (l.map Sm)),some (.dk (S.map nK) (S.map Pu),true),M,O];have wl:mf (l.map λp=>nK p.1) (l.map Sm)=l.map λp=>.tup [.int (p.1:Int),Sm p]:=by
  unfold mf;rw[zip_map',uP];rfl
 obtain⟨ρ',e,M,O,rfl⟩:=cW (tg:=C3 [2,3]) (g:=JM) (λj ρ=>∃M O,ρ=E (hU ((l.take j).map E6)) M O) (l.map λp=>.tup [.int (p.1:Int),Sm p]) (E [] none none) ⟨none,none,rr⟩ (by
  rintro j d ρ hd ⟨M,O,rfl⟩;rw[vA]at hd;obtain⟨p,hp,rfl⟩:=oY hd;have U:=vL hp;have f:l.take (j+1)=l.take j++[p]:=by rw[take_add_one,hp];rfl
  have es:hU ((l.take (j+1)).map E6)=dJ (hU ((l.take j).map E6)) (E6 p):=by
   simp_all[hU]
  have c:p.1∉hU ((l.take j).map E6):=λhm=>by
   have h2:((l.take (j+1)).map (·.1)).Nodup:=List.Nodup.sublist (List.Sublist.map _ (take_sublist _ _)) hn;rw[f,uW,nodup_append]at h2;rcases vx _ _ _ hm with h|h
   .cases h
   .rw[uP]at h;exact h2.2.2 _ h _ H9 rr
  have i:(hU ((l.take j).map E6)).length<=60:=by
   have:∀(q:List (Nat×List Bs))(S:LN),(q.foldl dJ S).length<=S.length+q.length:=λq=>by
    induction q with
    |nil=>intro S;exact vT _
    |cons a q ih=>
     intro S;refine vR (ih _) ?_;unfold dJ;split
     .rw[uZ,vE,length_nil,vE];lia
     .rw[vE];lia
   have h3:=this ((l.take j).map E6) [];rw[vI,length_take,length_nil]at h3;exact vR h3 N9
  generalize hU ((l.take j).map E6)=S at es c i;let F:DL.Env:=E S (sI (p.1:Int)) (some (Sm p,false));have hc:=gI (fi:=dE (am 3)) (nT:=1) (cap:=[1]) (tg:=gn 0) (fe:=fA qp (fV 0 (fV 1 a0))) (ρ:=F) p.2.2 (NX p.2.1) (λb=>.bl (hJ S b)) rr (by have:=hb p U;lia) λb _=>⟨[some (NX p.2.1 b,false),sF (.dk (S.map nK) (S.map Pu))],rr,false,a5 [NX p.2.1 b,.dk (S.map nK) (S.map Pu)] rr (Km (hw p U) S b)⟩;have k:bW (fA Rf (ak _ a0)) F=some (p.2.2.any (hJ S)):=cw (a5 [.lst (p.2.2.map λb=>.bl (hJ S b))] (a8 hc rr) (any_map _ _));refine⟨F,E (dJ S (E6 p)) (sI (p.1:Int)) (some (Sm p,false)),rr,.inl (VN k (λh=>?_) λh=>?_),_,_,by rw[es]⟩
  .have hk:nK p.1∉S.map nK:=λhm=>by
    obtain⟨y,hy,m⟩:=vO hm;have:=Sum.inl.inj (show(Sum.inl (y:Int):dA)=Sum.inl (p.1:Int)from m);exact c (by rw[show p.1=y by lia];exact hy)
   have n:zh 1 (am 2) (fC (.bl true)) F=some (.nx (F.set 1 (some (.dk (dv (S.map nK) (nK p.1)) (cz (S.map nK) (S.map Pu) (nK p.1) (.bl true)),true)))):=if_pos ⟨rr,bu (by rw[vI];lia)⟩;rw[n];unfold dv cz dJ;rw[if_neg hk,if_neg hk,if_pos (show(E6 p).2.any (hJ S)=true from h)];simp[F,E,E6,Pu]
  .unfold dJ;rw[if_neg (show ¬(E6 p).2.any (hJ S)=true by show ¬p.2.2.any (hJ S)=true;rw[h];decide)];rfl)
 rw[vI,take_length]at e;exact ah rr (bR (ρ':=E [] none none) rr (bR (fX (by show some (mf _ _)=_;rw[wl]) e) (E5 (b:=true) rr)))
theorem vy:∀S:LN,uH (S.map nK)=some (S.map λ(n:Nat)=>(n:Int))
 |[]=>rr
 |n::S=>by
  show(uH _).map _=_;rw[vy S];rfl
theorem Ah {α M:Type}(g:α->M)(f:M->LI)(x:α):∀l:List α,ot f (g x) (l.map g)=(ot (λa=>f (g a)) x l).map g
 |[]=>rr
 |y::r=>by
  rw[uY,ot,ot];split
  .rw[uY,Ah g f x r]
  .rfl
theorem lw {α M:Type}(g:α->M)(f:M->LI):∀l:List α,dr f (l.map g)=(dr (λa=>f (g a)) l).map g
 |[]=>rr
 |x::l=>by
  show ot f _ (dr f _)=(ot _ x (dr _ l)).map g;rw[lw g f l,Ah]
def Sn (e:f ρ=some (.tup [x,y],b))(hx:aQ x=true)(hy:aQ y=true)(k:h ((ρ.set i (some (x,false))).set j (some (y,false)))=r):cb (yG [i,j] f) h ρ=r:=by
 simp_all
def Kq (n:Int)(S:LN):L3 (.int n) (S.map λ(m:Nat)=>D.int (m:Int))=S.any λm=>decide ((m:Int)=n):=by
 unfold L3;induction S with
 |nil=>rfl
 |cons m S ih=>
  simp_all
def kP (ae:LD)(aa:Int)(x:D×Nat):List Bs:=nO ae aa (aU (ag ae aa)) x
def bK (ae:LD)(aa day:Int):LN:=hU ((m7 ae aa day (ci (ag ae aa))).map λx=>(x.2,kP ae aa x))
def nQ (S:LN):LD:=(p0 (S.map λ(n:Nat)=>(n:Int))).map .int
def So (r:D):decide (Sj r = "office")=false:=by
 unfold Sj;split
 .decide +kernel
 rfl
def Gs (S:LN)(h:S.length<=60):hZ [.lst (S.map λ(n:Nat)=>.int (n:Int))]=lT (nQ S):=by
 have h2:∀l:List _,fD (l.map λ(n:Nat)=>D.int (n:Int))=some (l.map λ(n:Nat)=>(n:Int)):=λl=>by
  induction l with
  |nil=>rfl
  |cons a l ih=>simp_all[fD]
 show(fD _).bind _=_;rw[h2,vJ,if_pos (by rw[vI];lia)];rfl
section
variable {ae:LD}(g:∀r∈ae,bd r) (hl:ae.length<=30) (aa:Int) (hn:((bo (ag ae aa)).map (aq 0)).Nodup) (ho:(ci (ag ae aa)).length<=60)
include hl
theorem Kr (x:D×Nat):(kP ae aa x).length<=60:=by
 unfold kP nO;split
 .split
  .exact(by decide:1<=60)
  .exact uN _
 .unfold BI;rw[(aH _ _).length_eq];exact E3 hl _ _ _ _
theorem lx (day:Int):(bK ae aa day).length<=60:=by
 have:∀(q:List _)(S:List _),(q.foldl dJ S).length<=S.length+q.length:=λq=>by
  induction q with
  |nil=>intro S;exact vT _
  |cons a q ih=>
   intro S;refine vR (ih _) ?_;unfold dJ;split
   .rw[uZ,vE,length_nil,vE];lia
   .rw[vE];lia
 have h3:=this ((m7 ae aa day (ci (ag ae aa))).map λx=>(x.2,kP ae aa x)) [];have h4:(ci (ag ae aa)).length<=30:=by
  unfold ci;rw[(aH _ _).length_eq];exact vR (vM _ _) (vR (bJ _ _) hl)
 have h5:(m7 ae aa day _).length<=30:=vR (vM _ _) h4;rw[vI,length_nil]at h3;exact vR h3 N9
include g hn ho
theorem pM (day:Int):fq [.tup ae,.int aa,.int day]=lT (nQ (bK ae aa day)):=by
 have M:=Kl g hl aa hn ho day;have h4:(m7 ae aa day _).length<=60:=vR (vM _ _) ho;have es:=Kp ((m7 ae aa day _).map λx=>(x.2,Sj x.1,kP ae aa x)) (by rw[vI];exact h4)
  (λp hp=>by obtain⟨x,_,rfl⟩:=vO hp;exact So _) (λp hp=>by obtain⟨x,_,rfl⟩:=vO hp;exact vR (Kr hl aa x) P9)
  (by rw[uP];exact List.Nodup.sublist (List.Sublist.map _ filter_sublist) (oP (eI ae aa)))
 rw[uP,uP,uP]at es;refine ah rr (aj (a5 [_] (a8 (a5 [_] (a8 (a5 _ rr M) rr) es) rr) ?_));show(uH ((bK ae aa day).map nK)).bind _=_;rw[vy,vJ,if_pos (by grind[lx])];rfl
end
def xO (n:Nat)(S:LN):(S.any λm=>decide ((m:Int)=(n:Int)))=decide (n∈S):=by
 grind
def Ks (ae:LD)(aa:Int):bo (ag ae aa)=ae.filter λv=>aD v && decide (aw v<=aa):=by
 unfold bo ag;rw[List.filter_filter];have:∀(l:List (D×Nat))(q:D->Bool),(l.filter λx=>q x.1).map _=(l.map _).filter q:=λl q=>by rw[filter_map];rfl
 refine(this _ λv=>aD v && decide (aw v<=aa)).trans ?_;rw[List.zipIdx_map_fst]
def sQ (ae:LD)(aa:Int):((bo (ag ae aa)).map (aq 0)).Sublist (eK ae):=by
 rw[Ks];refine List.Sublist.map _ ?_;have:(ae.filter λv=>aD v && decide (aw v<=aa))=(ae.filter aD).filter λv=>decide (aw v<=aa):=by simp_all[Bool.and_comm]
 rw[this];exact filter_sublist
def nR (S:LN):LN:=dr (λn:Nat=>[(n:Int)]) S
def E7 (S:LN):nQ S=(nR S).map λ(n:Nat)=>.int (n:Int):=by
 simp_all[nQ,p0,nR,lw]
def gg {m:Nat}{S:LN}:m∈nR S↔m∈S:=(aH _ _).mem_iff
def PW (q:D)(x:Int×OI)(w:D):Prop:=∃a k d b,∃m:Nat,∃M,(k=("paper" : Str)\/k = "like")/\q=row a k (.int d::.str b::.int m::jd x::w::M)/\(w=.non\/∃s,w=.str s)
def pX (r:D):Prop:=kindOf r=("paper" : Str)\/kindOf r = "like"->∃x w,PW r x w
inductive Pb (ae:List D):Nat->Nat->Nat->Prop
 |here (n:Nat) (r:D) (x:Int×Option Int) (w:D) (h:ae[n]? = some r) (p:PW r x w):Pb ae 0 n n
 |copy (k n m e:Nat) (a d:Int) (b:Str) (h:ae[n]? = some (row a ("copy" : Str) [.int d,.str b,.int m])) (p:Pb ae k m e):Pb ae (k+1) n e
def pend (ae:LD):Nat->Nat->Nat
 |0,n=>n
 |k+1,n=>match ae[n]? with
  |some r=>if kindOf r = "copy" then pend ae k (cN 2 r).toNat else n
  |none=>n
def PW.nocopy (p:PW r x w):¬kindOf r = "copy":=by
 obtain⟨a,k,d,b,m,M,hk,rfl,_⟩:=p;have:∀k:Str,k = "paper" \/ k = "like"->¬k = "copy":=by rintro k (rfl|rfl)<;>decide +kernel
 exact this k hk
def Pb.to (p:Pb ae k n e):∃r x w,ae[e]? = some r/\PW r x w:=by
 induction p with
 |here n r x w h p=>exact⟨r,x,w,h,p⟩
 |copy k n m e a d b h p ih=>exact ih
def Pb.pend (p:Pb ae k n e):∀f,k<=f->pend ae f n=e:=by
 induction p with
 |here n r x w h p=>
  intro f _;cases f with
  |zero=>rfl
  |succ f=>unfold Lw.pend;rw[h];exact if_neg p.nocopy
 |copy k n m e a d b h p ih=>
  intro f hf;obtain⟨f,rfl⟩:∃j,f=j+1:=⟨f - 1,N9⟩;unfold Lw.pend;rw[h];exact(if_pos rr).trans (ih f N9)
def SI (ae:LD)(aa:Int)(S:LN):Prop:=∀n∈S,∃r,ae[n]? = some r/\aw r<=aa/\kindOf r∈bx/\(kindOf r∈cF->∃k e,k<=S.length/\Pb ae k n e)
section
variable {ae:LD}(g:∀r∈ae,bd r) (gw:∀r∈ae,pX r) (aa:Int)
include g gw
theorem Oa {S:LN}(s:SI ae aa S){x:D×Nat}(hx:ae[x.2]? = some x.1)(hk:aw x.1<=aa)(hb:kindOf x.1∈bx):SI ae aa (dJ S (x.2,kP ae aa x)):=by
 unfold dJ;split
 .rename_i hs;intro n hn;rcases mem_append.mp hn with hn|hn
  .obtain⟨r,h1,h2,h3,h4⟩:=s n hn;exact⟨r,h1,h2,h3,λhp=>by obtain⟨k,e,h5,M⟩:=h4 hp;exact⟨k,e,by rw[uZ];lia,M⟩⟩
  .cases uT hn
   refine⟨x.1,hx,hk,hb,λhp=>?_⟩;by_cases U:kindOf x.1 = "copy"
   .obtain⟨a,d,b,m,er⟩:=m6 (g _ (vL hx)) U;have hm:cN 2 x.1=m:=by rw[er];rfl
    unfold kP nO at hs;rw[if_pos U,hm,Int.toNat_natCast]at hs;cases hv:nN _ _ _ _ m with
    |false=>rw[hv]at hs;cases hs
    |true=>
     rw[hv]at hs;have O:=by
      have c:(S.any λn=>decide ((n:Int)=(m:Int)))=true:=by simpa [hJ]using hs
      rw[xO]at c;exact ET c
     obtain⟨q,h1,h2,h3,h4⟩:=s m O;unfold nN at hv;obtain⟨k,e,h5,M⟩:=h4 (by
      simp_all)
     exact⟨k+1,e,by simp_all,.copy k _ m e a d b (by rw[hx,<-er]) M⟩
   .obtain⟨y,w,p⟩:=gw _ (vL hx) (by
     simp_all[cF])
    exact⟨0,x.2,uN _,.here _ _ _ _ hx p⟩
 .exact s
theorem E8:∀(l:KL)(S:LN),(∀x∈l,ae[x.2]? = some x.1/\aw x.1<=aa/\kindOf x.1∈bx)->SI ae aa S->SI ae aa ((l.map λx=>(x.2,kP ae aa x)).foldl dJ S)
 |[],_,_,s=>s
 |x::l,S,h,s=>by
  obtain⟨h1,h2,h3⟩:=h x (mX ..);exact E8 l _ (λy hy=>h y (mZ _ hy)) (Oa g gw _ s h1 h2 h3)
theorem nU (day:Int):SI ae aa (bK ae aa day):=by
 refine E8 g gw _ _ [] (λx hx=>?_) (λn hn=>nomatch hn);obtain⟨h1,h2⟩:=vN hx;have h3:=(vN ((aH _ _).mem_iff.mp h1)).1;exact⟨aR h3,ET (vN h3).2,ET (vC _ _ ▸ h2).1⟩
end
def Pb.at_ (p:Pb ae k n e):∃r,ae[n]? = some r:=by
 cases p with
 |here n r x w h p=>exact⟨_,h⟩
 |copy k n m e a d b h p=>exact⟨_,h⟩
def PW.word (p:PW r x w):aY [r]=sS (kindOf r):=by
 obtain⟨a,k,d,b,m,M,hk,rfl,_⟩:=p;exact bC _ _ _
def PW.str (p:PW r x w):av [r,.str "stretch"]=some (jd x,false):=by
 obtain⟨a,k,d,b,m,M,hk,rfl,_⟩:=p;exact aP (i:=3) (by rcases hk with rfl|rfl<;>exact bF) rr
def PW.whom (p:PW r x w):av [r,.str "whom"]=some (w,false):=by
 obtain⟨a,k,d,b,m,M,hk,rfl,_⟩:=p;exact aP (i:=4) (by rcases hk with rfl|rfl<;>exact bF) rr
def PW.box (p:PW r x w):Hy r=false:=by
 obtain⟨a,k,d,b,m,M,hk,rfl,_⟩:=p;rfl
def PW.st (p:PW r x w):dI r=x:=by
 obtain⟨a,k,d,b,m,M,hk,rfl,_⟩:=p;unfold dI;have:∀k:Str,k = "paper" \/ k = "like"->¬k = "leave":=by rintro k (rfl|rfl)<;>decide +kernel
 rw[kJ,if_neg (this k hk)];exact qr rr
noncomputable abbrev bE (ae:LD)(n0:Nat)(r:D):DL.Env:=[sJ ae,sI n0,some (r,false)]
section
variable {ae:LD}(g:∀r∈ae,bd r)
include g
theorem Sr {k n e:Nat}(p:Pb ae k n e)(n0:Nat):∀(r:D)(fuel:Nat),ae[n]? = some r->k<fuel->∃q,ae[e]? = some q/\cn (bW (f2 kU (fA aY (fV 2 a0)) (fS "copy"))) jB fuel (bE ae n0 r)=some (.nx (bE ae n0 q)):=by
 induction p with
 |here n q x w h p=>
  intro r fuel M hf;obtain⟨fuel,rfl⟩:∃j,fuel=j+1:=⟨fuel - 1,N9⟩;cases h.symm.trans M
  refine⟨q,h,?_⟩;rw[cn,bv (a5 [q] rr p.word) (ye p.nocopy)]
 |copy k n m e a d b h p ih=>
  intro r fuel M hf;obtain⟨fuel,rfl⟩:∃j,fuel=j+1:=⟨fuel - 1,N9⟩;cases h.symm.trans M
  obtain⟨O,h2⟩:=p.at_;obtain⟨q,h3,h4⟩:=ih O fuel h2 N9;refine⟨q,h3,?_⟩;have U:f2 dM (am 0) (fA av (fV 2 (ak (fS "of") a0))) (bE ae n0 (row a ("copy" : Str) [.int d,.str b,.int m]))=some (O,false):=aX _ (.int m) rr (a5 _ rr (aP (i:=2) bF rr)) (by simp[bc h2]);have c:jB _=some _:=ej U (g _ (vL h2)).flat;rw[cn,bv (a5 _ rr (bC _ _ _)) (yc rr)];rw[c];exact h4
theorem Gu {k n e:Nat}(p:Pb ae k n e)(hk:k<=60):∃q x w,ae[e]? = some q/\PW q x w/\eE [.tup ae,.int n]=some (q,false):=by
 refine cX λG K=>?_;obtain⟨r,M⟩:=p.at_;obtain⟨q,hq,U⟩:=Sr g p n r 1000 M N9;obtain⟨a,x,w,h,O⟩:=p.to;apply K;cases h.symm.trans hq
 exact⟨q,x,w,hq,O,ah rr (eC r (aX _ _ rr rr (by simp[bc M])) (g _ (vL M)).flat (bR U (fW rr O.box)))⟩
end
def E9 (ae:LD)(n:Nat):Bool:=match ae[n]? with
 |some r=>decide (kindOf r∈cF)
 |none=>false
def Pw (ae:LD)(n:Nat):Int×OI:=dI (ae.getD (pend ae 60 n) .non)
def fQ (ae:LD)(aa day:Int):LN:=((nR (bK ae aa day)).filter (E9 ae)).filter λn=>vt day (Pw ae n)
def sR (n:Nat)(S:LN):gz (.int n) (.lst (S.map λ(m:Nat)=>.int (m:Int)))=sO (!decide (n∈S)):=by
 have M:(S.map λ(n:Nat)=>D.int (n:Int)).all iR=true:=by
  simp
 simp only[gz,fM,vJ];rw[if_pos ⟨rr,M⟩,Kq,xO]
section
variable {ae:LD}(g:∀r∈ae,bd r) (gw:∀r∈ae,pX r) (hl:ae.length<=30) (aa:Int) (hn:((bo (ag ae aa)).map (aq 0)).Nodup) (ho:(ci (ag ae aa)).length<=60)
include g gw hl
theorem sU {day:Int}{n:Nat}(h:n∈bK ae aa day)(hp:E9 ae n=true):∃q x w e k,k<=60/\Pb ae k n e/\ae[e]? = some q/\PW q x w/\eE [.tup ae,.int n]=some (q,false)/\Pw ae n=x:=by
 obtain⟨r,h1,h2,h3,h4⟩:=nU g gw _ _ n h;unfold E9 at hp;rw[h1]at hp;refine cX λG K=>?_;obtain⟨k,e,h5,M⟩:=h4 (ET hp);have O:=lx hl aa day;obtain⟨q,x,w,hq,U,a⟩:=Gu g M (vR h5 O);apply K;refine⟨q,x,w,e,k,vR h5 O,M,hq,U,a,?_⟩;unfold Pw;rw[M.pend 60 (vR h5 O),vF,hq];exact U.st
include hn ho
theorem sV (day:Int):oB [.tup ae,.int aa,.int day]=lT ((fQ ae aa day).map λ(n:Nat)=>.int (n:Int)):=by
  have M:=lx hl aa day;have hs:(nR (bK ae aa day)).length<=60:=by unfold nR;rw[(aH _ _).length_eq];exact M
  have h1:=eA (fi:=dE (fA fq (fV 0 (fV 1 (fV 2 a0))))) (nT:=1) (cap:=[0,1]) (tg:=gn 0) (c:=bW (fA cY (fV 1 (fV 2 (fV 0 a0))))) (fe:=am 0)
    (ρ:=[sJ ae,sI aa,sI day,none]) (nR (bK ae aa day)) (λ(n:Nat)=>.int (n:Int)) (E9 ae) (λ(n:Nat)=>.int (n:Int))
    (by show(fA fq _ _).bind _=_;rw[a5 [.tup ae,.int aa,.int day] rr (pM g hl aa hn ho day),E7];rfl) N9 λx hx=>by
      obtain⟨r,h1,h2,h3,h4⟩:=nU g gw aa day x (gg.mp hx);have:=kO h1 (g _ (vL h1)) aa;rw[yc h2,Bool.true_and]at this;have e:E9 ae x=decide (kindOf r∈cF):=by unfold E9;rw[h1]
      rw[<-e]at this;exact⟨_,rr,cw (a5 [.tup ae,.int aa,.int x] rr this),λ_=>⟨false,rr⟩⟩
  have O:aN (((nR (bK ae aa day)).filter (E9 ae)).map λ(n:Nat)=>D.int (n:Int))=true:=ba λd hd=>by obtain⟨x,_,rfl⟩:=vO hd;rfl
  refine ah rr (bw h1 O (aj ?_));refine eA (fi:=dE (am 3)) (nT:=1) (cap:=[2,0]) (tg:=gn 0) (fe:=am 0)
     _ (λ(n:Nat)=>.int (n:Int)) (λn=>vt day (Pw ae n)) (λ(n:Nat)=>.int (n:Int)) H9 (vR (vM _ _) N9) λn hn=>?_
  refine cX λG K=>?_;obtain⟨h2,h3⟩:=vN hn;obtain⟨q,x,w,e,k,hk,b,hq,U,a,e2⟩:=sU g gw hl aa (gg.mp h2) h3;apply K;refine⟨[sI n,sI day,sJ ae],rr,cw (a5 [.int day,jd x] (aO rr (aO (a5 [q,.str "stretch"] (aO (a5 [.tup ae,.int n] rr a) rr) U.str) rr)) ?_),λ_=>⟨false,rr⟩⟩;rw[e2];exact xG _ _ _
end
noncomputable def zz:D->D
 |.tup [_,.tup (.str k::l)]=>.tup [.non,.tup (.str k::l)]
 |r=>r
def sW {M:Type}(f:D->M)(h:∀a k l,f (.tup [.non,.tup (.str k::l)])=f (.tup [a,.tup (.str k::l)]))(r:D):f (zz r)=f r:=by
 unfold zz;split
 .exact h _ _ _
 .rfl
@[simp] def oW (r:D):kindOf (zz r)=kindOf r:=sW _ (λ_ _ _=>rr) r
@[simp] def Px (r:D):aA (zz r)=aA r:=sW _ (λ_ _ l=>by cases l with|nil=>rfl|cons d l=>cases d<;>rfl) r
@[simp] def adz (r:D):cC (zz r)=cC r:=sW _ (λ_ _ l=>by cases l with|nil=>rfl|cons d l=>cases l with|nil=>rfl|cons e l=>cases e<;>rfl) r
@[simp] def Kt (j:Nat)(r:D):aq j (zz r)=aq j r:=sW _ (λ_ _ _=>rr) r
@[simp] def Ku (j:Nat)(r:D):cN j (zz r)=cN j r:=sW _ (λ_ _ _=>rr) r
@[simp] def ad0 (j:Nat)(r:D):Gi j (zz r)=Gi j r:=sW _ (λ_ _ _=>rr) r
@[simp] def ZW (ws:LS)(p:Str)(day:Int)(r:D):told ws p day (zz r)=told ws p day r:=sW _ (λ_ _ _=>rr) r
@[simp] def Ss (r:D):aD (zz r)=aD r:=by simp[aD]
@[simp] def ad1 (r:D):kK (zz r)=kK r:=by simp[kK]
@[simp] def z_m (r:D):jH (zz r)=jH r:=by simp[jH]
@[simp] def abJ (r:D):je (zz r)=je r:=by simp[je]
@[simp] def VW (r:D):dI (zz r)=dI r:=by simp[dI]
@[simp] def YB (r v:D):kL (zz r) (zz v)=kL r v:=by simp[kL]
def nz (x:D×Nat):D×Nat:=(zz x.1,x.2)
@[simp] def Kv (a b:D×Nat):dU (nz a) (nz b)=dU a b:=by simp[dU,nz]
@[simp] def VX (x:D×Nat):kA (nz x)=kA x:=by simp[kA,nz]
def da (K:KL)(p q:D×Nat->Bool)(h:∀x,p (nz x)=q x):(K.map nz).filter p=(K.filter q).map nz:=by
 grind[filter_congr]
def EA (K:KL)(p:Str)(day:Int):kH (K.map nz) p day=kH K p day:=by
 unfold kH;rw[da K _ (λx=>told dz p day x.1) λx=>by simp[nz]];simp
theorem BN:∀(l:KL)(b:D×Nat),dR (nz b) (l.map nz)=nz (dR b l)
 |[],_=>rr
 |x::l,b=>by
  rw[uY,dR,dR,Kv,BN l x,BN l b];split<;>rfl
def Su (K:KL)(p:Str)(day:Int):Es (K.map nz) p day=Es K p day:=by
 unfold Es;rw[da K _ (λx=>told nI p day x.1) λx=>by simp[nz]];cases K.filter _ with
 |nil=>rfl
 |cons b l=>
  show decide _=decide _;rw[BN];exact congrArg (λk=>decide (k=_)) (oW _)
def xP (K:KL)(r:D):hG (K.map nz) (zz r)=hG K r:=by simp[hG,EA,Su]
theorem Kw:∀(l:KL)(b:D×Nat),mz (nz b) (l.map nz)=nz (mz b l)
 |[],_=>rr
 |x::l,b=>by
  rw[uY,mz,mz,VX,VX,Kw l x,Kw l b];split<;>rfl
def Ob (K:KL)(p:Str)(day:Int)(i:Nat):eJ (K.map nz) p day i=eJ K p day i:=by
 unfold eJ;rw[da K _ (λx=>told dz p day x.1) λx=>by simp[nz]];cases K.filter _ with
 |nil=>rfl
 |cons b l=>
  grind[nz,Kw]
theorem Kx {κ:Type}[DecidableEq κ](k:κ):∀(ks:List κ)(vs:LD),bN ks (vs.map zz) k=(bN ks vs k).map zz
 |[],_=>by simp[bN]
 |_::_,[]=>by simp[bN]
 |k'::ks,v::vs=>by
  rw[uY,bN,bN,Kx k ks vs];split<;>rfl
def Sv (ks:LK)(k:dA)(v:D)(vs:LD):cz ks (vs.map zz) k (zz v)=(cz ks vs k v).map zz:=by
 unfold cz;split
 .rw[List.map_zipWith];grind
 .simp
theorem Ky:∀(l:List (dA×D))(a:LK×LD),(l.map λp=>(p.1,zz p.2)).foldl md (a.1,a.2.map zz)=((l.foldl md a).1,(l.foldl md a).2.map zz)
 |[],_=>rr
 |p::l,a=>by
  rw[uY,foldl_cons,foldl_cons,<-Ky l _];simp_all[md,Sv]
def Sw (K:KL)(o:Str):pJ (K.map nz) o=(pJ K o).map zz:=by
 have e:jD (K.map nz)=(jD K).map λp=>(p.1,zz p.2):=by
  unfold jD;rw[da K _ (λx=>aD x.1) λx=>by simp[nz],uP];simp_all[nz]
 unfold pJ bA;rw[e,show(([],[]):List _×LD)=([],([]:LD).map zz)from rr,Ky _ ([],[])];exact Kx _ _ _
def Kz (K:KL)(M:List Cl)(x:D×Nat):bH (K.map nz) M (nz x)=bH K M x:=by
 unfold bH;have O:zR (zz x.1)=zR x.1:=by simp[zR]
 simp [nz,oW,Kt,Px,Ob,O];rw[Sw];cases pJ K _ with
 |none=>rfl
 |some v=>simp[xP]
def Sx (K:KL)(st:Sc)(x:D×Nat):cO (K.map nz) st (nz x)=cO K st x:=by
 unfold cO;rw[Kz];have:∀p day n,pW _ st.1 st.2.1 _ p _ n=pW K _ _ _ p _ n:=λp day n=>by
  unfold pW;rw[show c8 (K.map nz) _ st.2.2 p day n=c8 K st.2.1 st.2.2 p day n from funext λo=>by unfold c8;simp [EA]]
 simp [nz,oW,Kt,Px,Ku,this]
def Py (K:KL):ci (K.map nz)=(ci K).map nz:=by
 unfold ci;rw[da K _ (λx=>!aD x.1) λx=>by simp[nz],lw];simp
def Ai (K:KL):aU (K.map nz)=aU K:=by
 simp_all[aU,lO,Py,List.foldl_map,Sx]
def EB (K:KL):bo (K.map nz)=(bo K).map zz:=by
 unfold bo;rw[da K _ (λx=>aD x.1) λx=>by simp[nz],uP,uP];rfl
def VY (K:KL)(cs:List Cl)(r:D)(M:Nat):BI (K.map nz) cs (zz r) M=BI K cs r M:=by
 have e:tR (K.map nz) cs (zz r) M=tR K cs r M:=by
  unfold tR;have h1:tQ (K.map nz) (cC (zz r))=(tQ K (cC r)).map nz:=by
   unfold tQ;rw[da K _ (λx=>kK x.1) λx=>by simp[nz],da _ _ (λx=>decide (aq 2 x.1=cC r)) λx=>by simp[nz]]
  have h2:∀v,oV cs (zz r) (zz v)=oV cs r v:=λv=>by simp[oV]
  have h3:∀v,T9 cs (zz r) (zz v)=T9 cs r v:=λv=>by simp[T9,Gj]
  have h4:∀x,BH _ M _=BH r M x:=λx=>by
   have:=Kv x (r,M);unfold BH;rw[show(zz r,M)=nz (r,M)from rr,this];simp[nz]
  rw[h1,EB,filter_map,uP,da _ _ _ h4,uP];congr 1;rw[show oV cs _ ∘ zz=oV cs r from funext h2,show T9 cs _ ∘ zz=T9 cs r from funext h3]
 unfold BI;rw[e]
def VZ (K:KL)(c r:D):BJ (K.map nz) (zz c) (zz r)=BJ K c r:=by
 simp_all[BJ,Ai,EB,Function.comp_def]
def Aj (K:KL)(M:Nat)(r:D)(day:Int)(c:D):Bool:=decide (kindOf c = "call") && (decide (cN 2 c=M) && (decide (aA c<=day) && (hG K c && BJ K c r)))
def BO (K:KL)(day:Int)(x:D×Nat):Bool:=(hG K x.1 && decide (aA x.1<=day)) && (K.filter λy=>Aj K x.2 x.1 day y.1).isEmpty
noncomputable def vz (K:KL)(x:D×Nat)(n:Nat):Bool:=K.any λy=>decide (y.2=n) && (decide (kindOf y.1∈cF) && dU y x)
def K0 (K:KL)(x:D×Nat):List Bs:=if kindOf x.1 = "copy" then (if vz K x (cN 2 x.1).toNat=true then [(none,cN 2 x.1)]else [])else BI K (aU K) x.1 x.2
def K1 (K:KL)(day:Int):LN:=hU (((ci K).filter λx=>decide (kindOf x.1∈bx) && BO K day x).map λx=>(x.2,K0 K x))
def Pz (K:KL)(day:Int):K1 (K.map nz) day=K1 K day:=by
 have h1:∀x,BO _ day (nz x)=BO K day x:=λx=>by
  unfold BO;have:∀y,Aj (K.map nz) (nz x).2 (nz x).1 day (nz y).1=Aj K x.2 x.1 day y.1:=λy=>by
   simp_all[Aj,nz,xP,VZ]
  rw[da K _ _ this];simp_all[nz,xP]
 have h2:∀x,K0 (K.map nz) (nz x)=K0 K x:=λx=>by
  unfold K0;have:∀n,vz (K.map nz) (nz x) n=vz K x n:=λn=>by
   unfold vz;rw[List.any_map];simp only[Function.comp_def,Kv];simp only[nz,oW];rfl
  simp only[this,Ai,VY,nz,oW,Ku];simp only[nz]at this;rw[this]
 unfold K1;rw[Py,da _ _ (λx=>decide (kindOf x.1∈bx) && BO K day x) λx=>by rw[h1];simp[nz],uP];congr 1;exact List.map_congr_left λx _=>by simp only[Function.comp,h2];rfl
def oZ {ae:LD}{aa:Int}{r:D}(h:aw r<=aa):gV ae aa r=hG (ag ae aa) r:=by
 unfold gV hG;rw[yc h];rfl
def K2 (ae:LD)(aa:Int)(x:D×Nat)(n:Nat):nN ae aa x.1 x.2 n=vz (ag ae aa) x n:=by
 rw[Bool.eq_iff_iff];unfold nN vz;rw[List.any_eq_true];constructor
 .intro h;split at h
  .cases h
  .rename_i q hq;rw[vC,vC]at h;refine⟨(q,n),mem_filter.mpr ⟨mem_zipIdx_iff_getElem?.mpr hq,h.1.1⟩,?_⟩;simp_all
 .rintro⟨y,hy,h⟩;rw[vC]at h;have e:=ET h.1;subst e;have hk:=(vN hy).2;rw[aR hy];simp_all
def ly (ae:LD)(aa day:Int):bK ae aa day=K1 (ag ae aa) day:=by
 have M:∀x∈ag ae _,aw _<=aa:=λx hx=>ET (vN hx).2;have h1:∀x∈ag _ _,kindOf _∈bx->Gr _ _ _ x=BO _ _ x:=λx hx hb=>by
  unfold Gr BO iK;rw[if_pos ⟨M x hx,hb⟩,List.isEmpty_map,oZ (M x hx)];rw[filter_congr λy hy=>(show Ad _ _ _ _ _ _=Aj _ _ _ day y.1 by unfold Ad Aj;rw[oZ (M y hy)])]
 unfold bK K1 m7;rw[filter_congr λx hx=>by
  have hm:=(vN ((aH _ _).mem_iff.mp hx)).1;by_cases hb:kindOf x.1∈bx
  .rw[h1 x hm hb]
  .simp_all]
 congr 1;refine List.map_congr_left λx _=>?_;unfold kP nO K0;rw[K2]
def Gw {A B:LD}{a b:Int}(q:Nat->Bool)(hz:A.map zz=B.map zz)(ha:∀n r,A[n]? = some r->decide (aw r<=a)=q n)(hb:∀n r,B[n]? = some r->decide (aw r<=b)=q n)(day:Int):fQ A a day=fQ B b day:=by
 have hk:∀(R:LD)(k:Int),(∀n r,R[n]? = some r->decide (aw r<=k)=q n)->(ag R k).map nz=(R.map zz).zipIdx.filter λx=>q x.2:=λR k h=>by
  unfold ag;rw[filter_congr λx hx=>h x.2 x.1 (mem_zipIdx_iff_getElem?.mp hx),List.zipIdx_map,filter_map];rfl
 have hs:bK A a day=bK B b day:=by rw[ly,ly,<-Pz _,<-Pz (ag B b),hk A a ha,hk B b hb,hz]
 have hp:∀(R:LD) n,E9 (R.map zz) n=E9 R n:=λR n=>by
  unfold E9;rw[vA];cases R[n]? with
  |none=>rfl
  |some r=>simp
 have hd:∀(R:LD)(f n:Nat),pend (R.map zz) f n=pend R f n:=λR f=>by
  induction f with
  |zero=>intro n;rfl
  |succ f ih=>
   intro n;unfold pend;rw[vA];cases R[n]? with
   |none=>rfl
   |some r=>simp only[Option.map_some,oW,Ku,ih]
 have M:∀(R:LD) n,Pw (R.map zz) n=Pw R n:=λR n=>by
  unfold Pw;rw[hd,vF,vF,vA];cases R[pend R 60 n]? with
  |none=>rfl
  |some r=>exact VW r
 unfold fQ;grind[filter_congr]
def ZX (l:LD)(a:Nat):lS l none (some (a:Int))=l.take a:=by
 show(l.drop 0).take (min _ _ - 0)=_;simp
def Wa (l:LD)(a:Nat):lS l (some (a:Int)) none=l.drop a:=by
 show(l.drop (min a _)).take (l.length - min a _)=_;rw[List.take_of_length_le (by rw[length_drop];lia)];simp
def BP (ps:LS)(hp:ps.length<=900)(a:Nat)(z:Str):oF [.tup (ps.map .str),.int (a:Int),.str z]=some (.tup ((ps.take a++z::ps.drop (a+1)).map .str),false):=by
 have M:GJ (am 0) mP (jA (am 1)) [some (.tup (ps.map .str),false),some (.int (a:Int),false),some (.str z,false)]=some (.tup ((ps.take a).map .str),false):=by
  show some _=_;rw[ZX,List.map_take]
 have e2:GJ (am 0) (jA (f2 iD (am 1) (fI 1))) mP [some (.tup (ps.map .str),false),some (.int (a:Int),false),some (.str z,false)]=some (.tup ((ps.drop (a+1)).map .str),false):=by
  show some (D.tup (lS _ (some ((a+1:Nat):Int)) _),false)=_;rw[Wa,map_drop]
 refine ah rr (aj (eZ (x:=.tup ((ps.take a++[z]).map .str)) (b1:=false) (eZ M (aF rr (aZ _ H9)) ?_) e2 ?_))
 .show(if((ps.take a).map _).length+[D.str z].length<=sizeLine then some _ else none)=_;rw[if_pos (c7 s9),uW];rfl
 .show(if((ps.take a++[z]).map _).length+((ps.drop _).map _).length<=sizeLine then some _ else none)=_;rw[if_pos (c7 s9),<-uW,append_assoc];rfl
def EC (l:LD)(x:D):lD (l++[x]) (-1)=some x:=by
 unfold lD GI;rw[uZ,length_singleton,if_neg P9,if_pos N9,show(-1+((l.length+1:Nat):Int)).toNat=l.length by lia];simp
inductive Rq:D->Prop
 |non (r:D) (h:kindOf r∉cF):Rq r
 |paper (h:Int) (ai:List D) (ps:List Str) (e:ai[5]? = some (.tup (ps.map .str))) (l:ps.length<=3):Rq (row h "paper" ai)
 |like (h:Int) (ai:List D) (m c:Nat) (z:Str) (e:ai[5]? = some (.int m)) (e2:ai[6]? = some (.tup [.tup [.int (c:Int),.str z]])):Rq (row h "like" ai)
 |copy (h:Int) (ai:List D) (m:Nat) (e:ai[2]? = some (.int m)):Rq (row h "copy" ai)
def Gv (v:D):Prop:=aG 20 v=true
noncomputable abbrev pE (ae M:LD)(q:LS)(O U a:OB):DL.Env:=[sJ ae,sL M,sJ (q.map .str),O,U,a]
def K3 (z:Str)(n:Nat):Gv (.tup [.str z,.int (n:Int)]):=by simp[Gv,aG]
abbrev PO:=LS ⊕ D
def Wb (r:Option Res)(ae M:LD)(O:OB):PO->Prop
 |.inl q=>∃U a,r=some (.nx (pE ae M q O U a))\/r=some (.ct (pE ae M q O U a))
 |.inr v=>r=some (.rt v false)
def ZY (n:Nat):PO->Prop
 |.inl q=>q.length<=n
 |.inr v=>Gv v
def P0 {ae:LD}{i:Nat}{r:D}(M:ae[i]? = some r){ρ:DL.Env}(h0:ρ[0]? = some (sJ ae))(h3:ρ[3]? = some (sI i)):f2 dM (am 0) (am 3) ρ=some (r,false):=aX (.tup ae) (.int i) (by simp[h0]) (by simp[h3]) (by simp[bc M])
def Sy {r:D}(hR:Rq r)(g:bd r)(i:Nat)(q:LS)(hl:q.length<=500):∃o:PO,ZY (q.length+1) o/\∀(ae:LD),ae[i]? = some r->∀(M:LD)(O U:OB),Wb (cj (pE ae M q (sI i) O U)) ae M (sI i) o:=by
 have skip:∀k:Str,aY [r]=sS k->decide (k = "like")=false->∃o:PO,ZY (q.length+1) o/\∀(ae:LD),ae[i]? = some r->∀(M:LD)(O U:OB),Wb (cj (pE ae M q (sI i) O U)) ae M (sI i) o:=λk hw hk=>⟨.inl q,by show q.length<=_;lia,λae b M O U=>⟨O,U,.inr (by
  have t:bW (f2 HM (fA aY (ak (f2 dM (am 0) (am 3)) a0)) (fS "like")) (pE ae M q (sI i) O U)=some true:=(BM (a:=k) (bb:=false) (a5 [r] (aO (P0 b rr rr) rr) hw)).trans (by rw[hk];rfl);show cb (A7 _ Ik qG) _ _=_;unfold cb A7;rw[t];rfl)⟩⟩
 cases hR with
 |non r h=>exact skip (kindOf r) (gX g.c) (ye λz=>h (by rw[z];decide +kernel))
 |paper h ai ps e l=>exact skip "paper" (bC _ _ _) O9
 |copy h ai m e=>exact skip "copy" (bC _ _ _) O9
 |like h ai m c z e e2=>
  have f:∀ae M,bW (f2 OS (am 4) (fA jR (fV 2 a0))) (pE ae M q (sI i) (sI (c:Int)) (sS z))=some (decide ((q.length:Int)<c)):=λae M=>cw (aX (.int (c:Int)) (.int (q.length:Int)) rr (a5 [.tup (q.map .str)] rr H9) rr);have d:∀ae,ae[i]? = some (row h "like" ai)->∀M O U,cj (pE ae M q (sI i) O U)=f7 (C3 [4,5]) cI [.tup [.int (c:Int),.str z]] (pE ae M q (sI i) O U):=λae b M O U=>by
   refine ao ((BM (a:="like") (bb:=false) (a5 [row h "like" ai] (aO (P0 b rr rr) rr) (bC _ _ _))).trans (by rw[yc rr];rfl)) ?_;have j:fA av (ak (f2 dM (am 0) (am 3)) (ak (fS "changes") a0)) (iP (pE ae M q (sI i) O U))=some _:=a5 [row h "like" ai,.str "changes"] (aO (aX (.tup ae) (.int i) rr rr (by simp[bc b])) rr) (aP (i:=6) bF e2);show(dE (fA av _) (iP (pE ae M q (sI i) O U))).bind _=_;unfold dE;rw[j];rfl
  by_cases hc:(q.length:Int)<c
  .rw[yc hc]at f;refine⟨.inr (.tup [.str "beyond",.int (i:Int)]),K3 "beyond" i,λae b M O U=>?_⟩;have b1:cI _=some _:=aT (f ae M) (aj (a5 [.str "beyond",.int (i:Int)] rr (aZ _ H9)));show cj _=_;rw[d ae b,uc];show(match cI (pE ae M q (sI i) (sI (c:Int)) (sS z)) with|some (.nx ρ')=>_|some (.ct ρ')=>_|some (.bk ρ')=>_|r=>r)=_;rw[b1]
  .rw[ye hc]at f;refine⟨.inl (q.take c++z::q.drop (c+1)),by show(q.take c++z::q.drop (c+1)).length<=_;simp<;>lia,λae b M O U=>⟨sI (c:Int),sS z,.inl ?_⟩⟩
   have b1:cI _=some _:=ao (f ae M) (ej (a5 _ rr (BP q N9 c z)) (show aN _=true from bT _));rw[d ae b,uc];show(match cI (pE ae M q (sI i) (sI (c:Int)) (sS z)) with|some (.nx ρ')=>_|some (.ct ρ')=>_|some (.bk ρ')=>_|r=>r)=_;rw[b1];rfl
def ZZ (r:Option Res)(ae M:LD):PO->Prop
 |.inl q=>∃O U a,r=some (.nx (pE ae M q O U a))
 |.inr v=>r=some (.rt v false)
theorem K4 (b:Nat->D):∀(l:LN)(q:LS),(∀i∈l,Rq (b i)/\bd (b i))->q.length+l.length<=400->∃o:PO,ZY 400 o/\∀(ae:LD),(∀i∈l,ae[i]? = some (b i))->∀(M:LD)(a O U:OB),ZZ (f7 (gn 3) cj (l.map λ(i:Nat)=>.int (i:Int)) (pE ae M q a O U)) ae M o
 |[],q,_,hl=>⟨.inl q,by show q.length<=400;simp_all,λae _ M a O U=>⟨a,O,U,HD ..⟩⟩
 |i::l,q,hi,hl=>by
  rw[vE]at hl;have d:∀(ae:LD) M a O U,f7 (gn 3) _ ((i::l).map _) (pE ae _ q a O U)=match cj (pE _ M q (sI i) O U) with
    |some (.nx _)=>f7 _ _ _ _
    |some (.ct _)=>f7 _ _ _ _
    |some (.bk _)=>some _
    |r=>r:=λae M a O U=>by rfl
  have g:=hi i (mX ..);obtain⟨o,e,h⟩:=Sy g.1 g.2 i q N9;cases o with
  |inr v=>exact⟨.inr v,e,λae c M a O U=>by
    have h1:=h _ (c i (mX ..)) M O U;show f7 _ _ _ _=_;rw[d,h1]⟩
  |inl k=>
   have e:k.length<=q.length+1:=e;obtain⟨m,f,h2⟩:=K4 b l k (λj hj=>hi j (mZ _ hj)) N9;refine⟨m,f,λae c M a O U=>?_⟩;have h2:=h2 _ λj hj=>c j (mZ _ hj);obtain⟨n,p,h1|h1⟩:=h _ (c i (mX ..)) _ O U
   .rw[d,h1];exact h2 _ _ _ _
   .rw[d,h1];exact h2 _ _ _ _
def Oc (O:Nat->D)(p:LN)(m:Nat)(hp:∀i∈p++[m],Rq (O i)/\bd (O i))(hl:p.length<=300){h:Int}{ai:LD}{ps:LS}(hm:O m=row h "paper" ai)(b:ai[5]? = some (.tup (ps.map .str)))(h3:ps.length<=3):∃v,Gv v/\∀ae:LD,(∀i∈p++[m],ae[i]? = some (O i))->eF [.tup ae,.lst ((p++[m]).map λ(i:Nat)=>.int (i:Int))]=some (v,false):=by
 have a:∀ae:LD,(∀i∈p++[m],ae[i]? = some (O i))->fA av (ak (f2 dM (am 0) (f2 dM (am 1) (f1 Fp (fI 1)))) (ak (fS "pieces") a0)) [sJ ae,sL ((p++[m]).map λ(i:Nat)=>D.int (i:Int)),none,none,none,none]=sJ (ps.map .str):=λae M=>by
  have U:=hm ▸ M m H9;refine a5 [row h "paper" ai,.str "pieces"] (aO (aX (.tup ae) (.int (m:Int)) rr (aX _ (.int (-1)) rr rr ?_) (by simp[bc U])) rr) (aP (i:=5) bF b);show(lD _ (-1)).map _=_;rw[uW,show List.map _ [m]=[D.int (m:Int)]from rr,EC];rfl
 have ei:∀ae:LD,Np (am 1) (iP (pE ae ((p++[m]).map λ(i:Nat)=>D.int (i:Int)) ps none none none))=some ((p++[m]).reverse.map λ(i:Nat)=>.int (i:Int)):=λae=>by
  show some _=_;simp
 obtain⟨o,c,ha⟩:=K4 O (p++[m]).reverse ps (λi hi=>hp i (List.mem_reverse.mp hi)) (by rw[List.length_reverse,uZ,length_singleton];lia);have ha:=λae (h:∀i∈p++[m],ae[i]? = some (O i))=>ha ae (λi hi=>h i (List.mem_reverse.mp hi)) ((p++[m]).map λ(i:Nat)=>D.int (i:Int)) none none none;cases o with
 |inl q=>
  refine⟨_,show aG 20 (.tup [.str "words",.tup (q.map .str)])=true by simp,λae M=>?_⟩;obtain⟨d,f,g,e⟩:=ha ae M;exact ah rr (eC (.tup (ps.map .str)) (a ae M) (show aN _=true from bT _) (bR (fX (ei ae) e) (aj (a5 [.str "words",.tup (q.map .str)] rr (aZ _ H9)))))
 |inr v=>
  refine⟨v,c,λae M=>ah rr (eC (.tup (ps.map .str)) (a ae M) (show aN _=true from bT _) (RX ?_))⟩;show(Np (am 1) (iP (pE ae _ ps none none none))).bind _=_;rw[ei];exact ha ae M
theorem Ak:∀xs:LI,fD (xs.map .int)=some xs
 |[]=>rr
 |x::xs=>by
  show(fD _).map _=_;rw[Ak xs];rfl
theorem ED {α:Type}(p q:α->Bool):∀(l:List α),(∀x∈l,p x=true->q x=true)->∀x∈l,q x=true->p x=false->(l.filter p).length<(l.filter q).length
 |[],_,x,hx,_,_=>nomatch hx
 |y::l,h,x,hx,hq,hp=>by
  have M:(l.filter p).length<=(l.filter q).length:=by
   rw[<-List.countP_eq_length_filter,<-List.countP_eq_length_filter];exact List.countP_mono_left λz hz=>h z (mZ _ hz)
  rcases vP hx with rfl|hx
  .grind
  .have ih:=ED p q l (λz hz=>h z (mZ _ hz)) x hx hq hp;grind
noncomputable abbrev wE (ae:LD)(aa:Int)(n0:Nat)(M:LN)(m:Nat):DL.Env:=[sJ ae,sI aa,sI n0,lT (M.map λ(i:Nat)=>.int (i:Int)),sI m]
def Wc:FE:=Jr (fS "ring") (fA hZ (ak (GJ (am 3) (jA (f2 (zp T7) (am 3) (am 4))) mP) a0))
abbrev wC:FT:=bW (f2 gz (am 4) (am 3))
abbrev WF (fuel:Nat):FS:=cb (cn wC eG fuel) (AU Wc)
section
variable {ae:LD}{aa:Int}{n0 a:Nat}{fK:LN}
def K5:wC (wE ae aa n0 fK a)=some (!decide (a∈fK)):=cw (aX _ _ rr rr (sR a _))
def Sz {v:D}{b:Bool}{fuel:Nat}(h:a∉fK)(e:eG (wE ae aa n0 fK a)=some (.rt v b)):WF (fuel+1) (wE ae aa n0 fK a)=some (.rt v b):=by
 refine RX ?_;rw[cn,K5,ye h];rw[Bool.not_false];rw[e]
def aaa {ρ:DL.Env}{fuel:Nat}(h:a∉fK)(e:eG (wE ae aa n0 fK a)=some (.nx ρ)):WF (fuel+1) (wE ae aa n0 fK a)=WF fuel ρ:=by
 have:cn wC eG (fuel+1) (wE ae aa n0 fK a)=cn wC eG fuel ρ:=by
  rw[cn,K5,ye h];rw[Bool.not_false];rw[e]
 show cb _ _ _=cb _ _ _;unfold cb;rw[this]
def K6 {fuel i:Nat}(h:a∈fK)(hl:fK.length<=60)(hi:(fK.map λ(n:Nat)=>(n:Int)).findIdx (· == (a:Int))=i):WF (fuel+1) (wE ae aa n0 fK a)=some (.rt (.tup [.str "ring",.lst (nQ (fK.drop i))]) true):=by
 have O:cn wC eG (fuel+1) (wE ae aa n0 fK a)=some (.nx (wE ae aa n0 fK a)):=by
  rw[cn,K5,yc h];rfl
 have M:=hi ▸ List.findIdx_lt_length_of_exists ⟨(a:Int),uS ⟨a,h,rr⟩,H9⟩;have U:f2 (zp T7) (am 3) (am 4) (wE ae aa n0 fK a)=sI (i:Int):=by
  refine aX _ _ rr rr ?_;have b:(fK.map λ(n:Nat)=>D.int (n:Int))=(fK.map λ(n:Nat)=>(n:Int)).map .int:=by rw[uP];rfl
  rw[b];show(fD _).bind _=_;rw[Ak];rw[<-hi]at M |-;exact if_pos M
 have e2:GJ (am 3) (jA (f2 (zp T7) (am 3) (am 4))) mP (wE ae aa n0 fK a)=lT ((fK.drop i).map λ(n:Nat)=>.int (n:Int)):=by
  have c:jA (f2 (zp T7) (am 3) (am 4)) (wE ae aa n0 fK a)=some (some (i:Int)):=by unfold jA;rw[U]
  unfold GJ;rw[c];show some _=_;rw[Wa,map_drop]
 refine bR O (aj ?_);have d:fA hZ (ak _ a0) _=lT _:=a5 _ (a8 e2 rr) (Gs _ (by rw[length_drop];lia));show((fS "ring" (wE ae aa n0 fK a)).bind λx=>(fA hZ _ _).bind _)=_;rw[d];rfl
end
noncomputable def left (ae:LD)(p:LN):Nat:=((List.range ae.length).filter λi=>decide (i∉p)).length
def EE {ae:LD}{p:LN}{a:Nat}(ha:a<ae.length)(h:a∉p):left ae (p++[a])<left ae p:=by
 refine ED _ _ _ (λx _ hx=>?_) a (mem_range.mpr ha) (yc h) (ye H9);grind
def EF (S:LN):Gv (.tup [.str "ring",.lst (nQ S)]):=by
 have:(nQ S).all (aG 18)=true:=by
  rw[all_eq_true];intro d hd;obtain⟨z,_,rfl⟩:=vO hd;rfl
 show(true && (aG 19 _ && true))=true;simp_all
def Kn (aa:Int)(A:LD)(n:Nat)(r:D):Prop:=A[n]? = some r/\aw r<=aa
section
variable {A B:LD}{aa:Int}(hq:∀r∈A,Rq r) (g:∀r∈A,bd r) (gB:∀r∈B,bd r) (hk:∀n r,Kn aa A n r↔Kn aa B n r)
include hq g gB hk
theorem K7 (a:Nat):(∃v,Gv v/\∀L n0 M,L=A\/L=B->eG (wE L aa n0 M a)=some (.rt v false))\/∃r,Kn aa A a r/\((∃h ai,∃ps:LS,r=row h "paper" ai/\ai[5]? = some (.tup (ps.map .str))/\ps.length<=3/\∀L n0 M v,L=A\/L=B->M.length<=100->eF [.tup L,.lst ((M++[a]).map λ(i:Nat)=>.int (i:Int))]=some (v,false)->eG (wE L aa n0 M a)=some (.rt v false))\/∃o,∀L n0 M,L=A\/L=B->M.length<=100->eG (wE L aa n0 M a)=some (.nx (wE L aa n0 (M++[a]) o))):=by
 have at':∀ {L:LD}{r:D},L=A\/L=B->Kn aa A a r->L[a]? = some r:=λO h=>O.elim (λe=>e ▸ h.1) λe=>e ▸ ((hk a _).mp h).1;by_cases hp:∃r,Kn aa A a r/\kindOf r∈cF
 .obtain⟨r,U,m⟩:=hp;have j:=g r (vL U.1);have ei:∀ {L:LD},L=A\/L=B->∀ {ρ:DL.Env},ρ[0]? = some (sJ L)->ρ[4]? = some (sI a)->f2 dM (am 0) (am 4) ρ=some (r,false):=λ{L} O {ρ} h0 h3=>aX (.tup L) (.int a) (by simp[h0]) (by simp[h3]) (by simp[bc (at' O U)]);have s1:∀L n0 M,L=A\/L=B->mJ (bW (fA cY (fV 0 (fV 1 (fV 4 a0))))) (wE L aa n0 M a)=some false:=λL n0 M O=>bi (p:=true) (cw (a5 [.tup L,.int aa,.int a] rr ((kO (at' O U) j aa).trans (by rw[yc U.2,yc m];rfl))));have f:∀L n0 M,M.length<=100->∀ {T:FS}{res:Option Res},T (wE L aa n0 (M++[a]) a)=res->cb (tJ 3 (am 4)) T (wE L aa n0 M a)=res:=λL n0 M hl {T res} hT=>VO (ds:=M.map λ(i:Nat)=>.int (i:Int)) (d:=.int (a:Int)) (b:=false) rr rr rr (bu (by rw[vI];lia)) (by
   grind)
  refine .inr ⟨r,U,?_⟩;have hR:=hq r (vL U.1);cases hR with
  |non r h=>exact absurd m h
  |paper h ai ps e l=>exact .inl ⟨h,ai,ps,rr,e,l,λL n0 M v O hl s=>ao (s1 L n0 M O) (f L n0 M hl (aT (bv (a:="paper") (bb:=false) (a5 [row h "paper" ai] (aO (ei O rr rr) rr) (bC _ _ _)) (yc rr)) (aj (a5 _ rr s))))⟩
  |like h ai k c z e e2=>exact .inr ⟨k,λL n0 M O hl=>ao (s1 L n0 M O) (f L n0 M hl (ao (bv (a:="like") (bb:=false) (a5 [row h "like" ai] (aO (ei O rr rr) rr) (bC _ _ _)) (ye O9)) (ej (a5 [row h "like" ai,.str "of"] (aO (ei O rr rr) rr) (aP (i:=5) bF e)) rr)))⟩
  |copy h ai k e=>exact .inr ⟨k,λL n0 M O hl=>ao (s1 L n0 M O) (f L n0 M hl (ao (bv (a:="copy") (bb:=false) (a5 [row h "copy" ai] (aO (ei O rr rr) rr) (bC _ _ _)) (ye O9)) (ej (a5 [row h "copy" ai,.str "of"] (aO (ei O rr rr) rr) (aP (i:=2) bF e)) rr)))⟩
 .refine .inl ⟨_,K3 "lacks" a,λL n0 M O=>aT (bi (p:=false) (cw (a5 [.tup L,.int aa,.int a] rr ?_))) (aj (a5 [.str "lacks",.int (a:Int)] rr (aZ _ H9)))⟩;cases U:L[a]? with
  |none=>exact ah rr (aj (ce (p:=false) (q:=false) (a5 [.tup L,.int aa,.int a] rr (vw (List.getElem?_eq_none_iff.mp U) aa)) λz=>by cases z))
  |some r=>
   have j:bd r:=O.elim (λe=>g r (vL (e ▸ U))) λe=>gB r (vL (e ▸ U));refine(kO U j aa).trans ?_;cases hv:(decide (aw r<=aa) && decide (kindOf r∈cF)) with
   |false=>rfl
   |true=>
    rw[vC]at hv;refine absurd ⟨r,?_,ET hv.2⟩ hp;exact O.elim (λe=>⟨e ▸ U,ET hv.1⟩) λe=>(hk a r).mpr ⟨e ▸ U,ET hv.1⟩
theorem S1 (U:A.length<=30):∀(k:Nat)(p:LN)(n0 a f:Nat),left A p<=k->p.length+left A p<=A.length->(∀i∈p,Kn aa A i (A.getD i .non))->k+3<=f->∃v b,Gv v/\∀L,L=A\/L=B->WF f (wE L aa n0 p a)=some (.rt v b):=by
 have lt:∀ {a:Nat}{r:D},Kn aa A a r->a<A.length:=λh=>(vV h.1).1;have o:∀ {a:Nat}{r:D},Kn aa A a r->A.getD a .non=r:=λh=>by rw[vF,h.1];rfl
 intro k;induction k with
 |zero=>
  intro p n0 a f d hp hi hf;obtain⟨f,rfl⟩:∃j,f=j+1:=⟨f - 1,N9⟩;by_cases M:a∈p
  .exact⟨_,true,EF _,λL _=>K6 M N9 rr⟩
  .rcases K7 hq g gB hk a with⟨v,gv,hv⟩|⟨r,ha,_⟩
   .exact⟨v,false,gv,λL U=>Sz M (hv L _ _ U)⟩
   .have:=EE (lt ha) M;lia
 |succ k ih=>
  intro p n0 a f d hp hi hf;obtain⟨f,rfl⟩:∃j,f=j+1:=⟨f - 1,N9⟩;by_cases M:a∈p
  .exact⟨_,true,EF _,λL _=>K6 M N9 rr⟩
  .rcases K7 hq g gB hk a with⟨v,gv,hv⟩|⟨r,ha,q⟩
   .exact⟨v,false,gv,λL U=>Sz M (hv L _ _ U)⟩
   have c:∀i∈p++[a],Kn aa A i _:=λi O=>by
    rcases mem_append.mp O with z|z
    .exact hi i z
    grind
   have m:∀i∈p++[a],Rq _/\bd _:=λi O=>by
    have:=vL (c i O).1;exact⟨hq _ this,g _ this⟩
   rcases q with⟨h,ai,ps,s,e,l,hv⟩|⟨t,hv⟩
   .obtain⟨v,gv,u⟩:=Oc _ p a m N9 ((o ha).trans s) e l;exact⟨v,false,gv,λL U=>Sz M (hv L _ _ _ U N9 (u L λi O=>U.elim (λe=>e ▸ (c i O).1) λe=>e ▸ ((hk i _).mp (c i O)).1))⟩
   .have w:=EE (lt ha) M;obtain⟨v,b,gv,h⟩:=ih _ n0 t f N9 (by grind) c N9;exact⟨v,b,gv,λL U=>by rw[aaa M (hv L _ _ U N9)];exact h L U⟩
theorem K8 (M:A.length<=30)(n:Nat):∃v b,Gv v/\jy [.tup A,.int aa,.int n]=some (v,b)/\jy [.tup B,.int aa,.int n]=some (v,b):=by
 have h0:left A []<=A.length:=by exact vR (vM _ _) H9
 obtain⟨v,b,gv,e⟩:=S1 hq g gB hk M _ [] n n 1000 h0 (by rw[length_nil];lia) H9 N9;have h:∀L,L=A\/L=B->jy [.tup L,.int _,.int n]=some _:=λL M=>ah rr (bw (a5 [] rr (cD _ H9)) rr (eC _ rr rr (e _ M)));exact⟨v,b,gv,h A (.inl rr),h B (.inr rr)⟩
end
end Lw
namespace Lw
open PySem DL L2
def Wd (d:D)(r:LD):lS (d::r) (some 1) none=r:=by
 simp_all[lS,HT.dq]
def Al (ae:LD)(n:Nat):lS ae none (some (n:Int))=ae.take n:=by
 simp_all[lS,HT.Hh,HT.LR]
def EG {op:D->OB}{fa:FE}{ρ:DL.Env}{x:D}{b:Bool}{z:OB}(M:fa ρ=some (x,b))(e2:op x=z):f1 op fa ρ=z:=by unfold f1;rw[M];exact e2
def Am (parts:LS)(ai:LD):iV (parts.map .str) ai=(parts.zip ai).map λx=>.tup [.str x.1,x.2]:=by
 induction parts generalizing ai with
 |nil=>rfl
 |cons a l ih=>
  cases ai with
  |nil=>rfl
  |cons d r=>simp_all[iV]
def nV {α:Type}(l:List α):Vo [.lst (l.map λ_=>.bl true)]=some (.bl true,false):=by
 simp
noncomputable def sX (c:Nat):Bool:=decide (97<=c) && decide (c<=122)
def An (c:Nat)(ρ:DL.Env)(h:ρ[0]? = some (some (.str ⟨#[c]⟩,false))):jO L1 L1 (fC (.str "a")) (am 0) (fC (.str "z")) ρ=some (.bl (sX c),false):=by
 refine iY (b1:=false) (b2:=false) (b3:=false) ?_ ?_ ?_ (CZ _ _) λ_=>CZ _ _
 .rfl
 .simp[h]
 rfl
noncomputable def pe (z:Str):Bool:=(decide (1<=z.length) && decide (z.length<=8)) && z.cps.toList.all sX
def Ao (z:Str):z.cps.toList.length=z.length:=by simp[Str.length]
def kQ {z:Str}(h:pe z=true):lh [.str z]=some (.bl true,false):=by
 unfold pe at h;rw[vC,vC]at h;obtain⟨⟨h1,M⟩,ha⟩:=h;have hl:z.length<=sizeLine:=c7 N9;refine ah rr (ao (bY (p:=false) (q:=false) H9 λ_=>bi (p:=true) (bD ((iY (y:=.int z.length) (z:=.int 8) (b2:=false) (b4:=false) (p:=true) (q:=true) rr (by simp[hl]) rr s9 λ_=>by simp;lia).trans rr))) (aj (aF (ds:=[.lst (z.cps.toList.map λc=>.bl (sX c))]) ?_ ?_)))
 .have:=gI (fi:=dE (am 0)) (nT:=1) (cap:=[]) (tg:=gn 0) (ρ:=[some (.str z,false)]) z.cps.toList (λc=>.str ⟨#[c]⟩) _ (by simp[FZ]) (by rw[Ao];lia) λc _=>
   ⟨_,rr,false,An c _ (by simp[cc])⟩
  exact a8 (b:=true) this rr
 simp_all
def v0 {d lo hi:Int}(h1:lo<=d)(h2:d<=hi):mi [.int d,.int lo,.int hi]=some (.bl true,false):=by
 refine ah rr (aj ((ce (p:=true) (b1:=false) H9 λ_=>(ce (Nv (p:=false) (b1:=false) H9) λ_=>(iY (b4:=false) (p:=true) rr rr rr s9 λ_=>by simp;lia).trans rr).trans rr).trans rr))
def Od {d:Int}(h1:0<=d)(h2:d<=9999):rK [.int d]=some (.bl true,false):=ah rr (aj (aF rr (v0 h1 h2)))
def wa {z:Str}(h:pe z=true):ml [.str z]=some (.bl true,false):=ah rr (aj (aF rr (kQ h)))
def BQ {ps:LS}(h1:1<=ps.length)(M:ps.length<=8)(h:∀p∈ps,pe p=true):ig [.tup (ps.map .str)]=some (.bl true,false):=by
 refine ah rr (ao (bY (p:=false) H9 λ_=>bi (bD ((iY (y:=.int ps.length) (z:=.int 8) (b2:=false) (b4:=false) (p:=true) (q:=true) rr H9 rr s9 λ_=>by simp;lia).trans rr))) (aj (aF ?_ (nV ps))));have:=gI (fi:=dE (am 0)) (nT:=1) (cap:=[]) (tg:=gn 0) (fe:=fA _ (ak (am 0) a0)) (ρ:=[some (.tup (ps.map .str),false)]) ps (λp=>.str p) _ H9 N9 λp hp=>
  ⟨_,rr,false,aF (by simp[cc]) (wa (h p hp))⟩
 exact a8 this rr
def cq {p q:Str}{v:D}{b:Bool}(h:decide (p=q)=b):bW (f2 kU (am 0) (fC (.str q))) [some (.str p,false),some (v,false)]=some b:=by simp_all
def c2 {p q r:Str}{v:D}(h:(decide (p=q) || decide (p=r))=false):lQ (bW (f2 kU (am 0) (fC (.str q)))) (bW (f2 kU (am 0) (fC (.str r)))) [some (.str p,false),some (v,false)]=some false:=(bY (cq rr) λ_=>cq rr).trans (by rw[h])
def c3 {p q r t:Str}{v:D}(h:(decide (p=q) || (decide (p=r) || decide (p=t)))=false):lQ (bW (f2 kU (am 0) (fC (.str q)))) (lQ (bW (f2 kU (am 0) (fC (.str r)))) (bW (f2 kU (am 0) (fC (.str t))))) [some (.str p,false),some (v,false)]=some false:=(bY (cq rr) λ_=>bY (cq rr) λ_=>cq rr).trans (by rw[h])
def c3t {p q r t:Str}{v:D}(h:(decide (p=q) || (decide (p=r) || decide (p=t)))=true):lQ (bW (f2 kU (am 0) (fC (.str q)))) (lQ (bW (f2 kU (am 0) (fC (.str r)))) (bW (f2 kU (am 0) (fC (.str t))))) [some (.str p,false),some (v,false)]=some true:=(bY (cq rr) λ_=>bY (cq rr) λ_=>cq rr).trans (by rw[h])
def xQ {p:Str}{v:D}(h0:(decide (p=("day" : Str)) || decide (p=("since" : Str)))=false)(hp:(decide (p=("office" : Str)) || (decide (p=("by" : Str)) || decide (p=("person" : Str))))=true)(h:lh [v]=some (.bl true,false)):di [.str p,v]=some (.bl true,false):=ah rr (ao (c2 h0) (aT (c3t hp) (aj (aF rr h))))
def Gx {v:D}(h:ig [v]=some (.bl true,false)):di [.str "pieces",v]=some (.bl true,false):=ah rr (ao (c2 O9) (ao (c3 O9) (ao (cq O9) (ao (cq O9) (ao (cq O9) (ao (cq O9) (ao (cq O9) (ao (cq O9) (aT (cq O9) (aj (aF rr h)))))))))))
noncomputable def iL (z:Str):Bool:=L3 (.str z) [.str "by",.str "person",.str "whom"]
def there:D->Bool
 |.non=>false
 |_=>true
@[simp] def aab:there .non=false:=rfl
@[simp] def aac (z:Str):there (.str z)=true:=rfl
@[simp] def aad (z:Int):there (.int z)=true:=rfl
@[simp] def aae (z:LD):there (.tup z)=true:=rfl
def Ap (d:D)(h:Ft d=false):qK d .non=some (.bl (there d),false):=by
 cases d<;>simp[there]at h |-
noncomputable def BR (l:List (Str×D)):LD:=(l.filter λx=>iL x.1 && there x.2).map (·.2)
structure Nm7 (zs:List Str):Prop where
 len:zs.length=7
 nd:zs.Nodup
 nm:∀z∈zs,pe z=true
noncomputable def off (zs:LS)(k:Nat):Str:=zs.getD (if k=0 then 5 else 6) ""
def K9 {zs:LS}(g:Nm7 zs):¬off zs 0=off zs 2:=by
 obtain⟨l,nd,_⟩:=g;match zs,l with
 |[a,b,c,d,e,f,g],_=>
  intro h;have h:f=g:=h;simp_all
structure DeedG (zs:List Str)(k:Nat)(h:Int)(kind:Str)(ai:List D):Prop where
 parts:∃(parts:List Str)(ss:List Str),yF bZ (.str kind)=some (.tup (parts.map .str),false)/\parts.length=ai.length/\(∀x∈parts.zip ai,di [.str x.1,x.2]=some (.bl true,false))/\BR (parts.zip ai)=ss.map .str/\ss.length<=2/\∀s∈ss,s∈zs
 len:ai.length<=10
 flat:∀d∈ai,aQ d=true/\Ft d=false
 day:(kind=("root" : Str)/\(k=0\/k=2)/\∃r,ai=.str (off zs k)::r)\/(kind≠("root" : Str)/\(∃(day:Int)(r:List D),ai=.int day::r/\day<=h/\0<=day/\(kind=("chosen" : Str)->∃a b c s,r=[a,b,c,.int s]/\day<=s))/\ma bZ (.str kind) (.str "day")=some (.int 0,false))
def Aq (zs:LS)(k:Nat)(r:D):Prop:=∃h kind ai,r=row h kind ai/\0<=h/\h<=9999/\DeedG zs k h kind ai
def S2 (k q:Str):kU (.str k) (.str q)=some (.bl (decide (k=q)),false):=H9
noncomputable def xy0:D->{d//aQ d=true}
 |.tup [_,.tup (.str _::.int d::_)]=>⟨.int d,rr⟩
 |_=>⟨.non,rr⟩
noncomputable def S3 (r:D):D:=(xy0 r).1
def Oe {k:Nat}{h:Int}{kind:Str}{ai:LD}(g:DeedG zs k h kind ai):bj [row h kind ai]=some (S3 (row h kind ai),false):=by
 rcases g.day with⟨e,_,r,rfl⟩|⟨e,⟨day,r,rfl,_⟩,hi⟩
 .exact ah rr (aT (bD (eZ (aF rr (bC _ _ _)) rr (by rw[S2,yc e]))) (aj rr))
 .exact ah rr (ao (bD (eZ (aF rr (bC _ _ _)) rr (by rw[S2,ye e]))) (aj (aF rr (aP hi rr))))
def KA {k:Nat}{h:Int}{kind:Str}{ai:LD}(g:DeedG zs k h kind ai):o9 [.tup (.str kind::ai)]=some (.bl true,false):=by
 obtain⟨parts,ss,hp,hl,ha,_⟩:=g.parts;have M:(bZ.lookup kind).isSome=true:=by
  simp_all
 have hsz:=g.len;have O:f2 dM (am 0) (fC (.int 0)) [some (.tup (.str kind::ai),false)]=some (.str kind,false):=by simp[A9]
 have U:=EG (x:=.str kind) (b:=false) O hp;refine ah rr (ao (bY (p:=false) (q:=false) H9 λ_=>bY (p:=false) (q:=false) (bD (b:=false) s9) λ_=>bi (p:=true) (bD (b:=false) (aF (a8 O rr) H9))) (ao (bY (p:=false) (q:=false) (bD (b:=false) (EG (x:=.str kind) (b:=false) O ?_)) λ_=>bD (b:=false) (eZ (x:=.int ((ai.length+1:Nat):Int)) (y:=.int (1+(parts.length:Int))) (b1:=false) (b2:=false) H9 (eZ (x:=.int 1) (y:=.int parts.length) (b1:=false) (b2:=false) rr (aF (a8 U rr) H9) H9) ?_)) (aj (aF (ds:=[.lst ((parts.zip ai).map λ_=>.bl true)]) ?_ (nV _)))))
 .simp only[Bf,M];rfl
 .simp;lia
 .have:=gI (fi:=Ij (f1 (yF bZ) _) (GJ (am 0) (jA (fC (.int 1))) mP)) (nT:=2) (cap:=[]) (tg:=C3 [0,1]) (fe:=fA di (ak (am 0) (ak (am 1) a0))) (parts.zip ai) (λx=>.tup [.str x.1,x.2]) (λ_=>.bl true)
   (by
    show(f1 (yF bZ) _ _).bind _=_;rw[U];simp[Wd,Am]) (by rw[length_zip];lia) λx hx=>by
    exact⟨_,rr,false,aF (by simp[cc]) (ha x hx)⟩
  exact a8 (b:=true) this rr
def Gy (r:D):aQ (S3 r)=true:=(xy0 r).2
def BS {k:Nat}{h:Int}{kind:Str}{ai:LD}(g:DeedG zs k h kind ai):ki [row h kind ai]=some (.bl true,false):=by
 have hd:=Oe g;have M:∀ {hh:FS}{r:Option Res},hh _=r->cb (eQ 1 (fA bj (ak (am 0) a0))) hh [some (row h kind ai,false),none]=r:=λe=>BA (b:=false) (aF rr hd) (Gy _) e;rcases g.day with⟨e,_,r,rfl⟩|⟨e,⟨day,r,rfl,U,d,O⟩,hi⟩
 .exact ah rr (M (aT (bD (b:=false) (eZ (x:=.non) (y:=.non) rr rr (by simp[Fs]))) (aj rr)))
 .refine ah rr (M (ao (bD (b:=false) (eZ (x:=.int day) (y:=.non) (b1:=false) rr rr (by simp[Fs]))) (ao ((bS (q:=false) (bD (b:=false) (eZ (b2:=false) (aF rr (bC _ _ _)) rr (S2 _ _))) λhc=>?_).trans (by rw[Bool.and_false])) (aj ?_))))
  .have hc:=ET hc;subst hc;obtain⟨a,b,c,s,rfl,hs⟩:=O rr;refine bD (b:=false) (eZ (y:=.int day) (aF rr (aP (i:=4) (xw O9) rr)) rr ?_);simp;lia
  .refine eZ (x:=.int day) (y:=.int h) (b1:=false) (b2:=false) rr (by simp[row,A9]) ?_;simp;lia
def Of {k:Nat}{r:D}(g:Aq zs k r):rL [r]=some (.bl true,false):=by
 obtain⟨h,kind,ai,rfl,h0,h1,g⟩:=g;refine ah rr (ao (bY (p:=false) (by simp[row]) λ_=>by simp[row]) (aj ((ce (aF (by simp[row,A9]) (Od h0 h1)) λ_=>(ce (aF (by simp[row,JP]) (KA g)) λ_=>aF rr (BS g)).trans rr).trans rr)))
noncomputable def EH:D->Str
 |.tup [_,.tup (_::.str o::_)]=>o
 |_=>("" : Str)
def Og:ma bZ (.str "root") (.str "office")=some (.int 0,false):=xw O9
def sY {k:Nat}{r:D}(g:Aq zs k r)(h:aD r=true):av [r,.str "office"]=some (.str (EH r),false)/\EH r=off zs k/\(k=0\/k=2):=by
 obtain⟨a,kind,ai,rfl,_,_,g⟩:=g;have h:=ET h;subst h;rcases g.day with⟨_,hk,r,rfl⟩|⟨e,_⟩
 .exact⟨aP Og rr,rr,hk⟩
 simp_all
def sZ {k:Nat}{r:D}(g:Aq zs k r):aY [r]=some (.str (kindOf r),false):=by
 obtain⟨a,kind,ai,rfl,_⟩:=g;exact bC _ _ _
def Oh (k:Str)(ws:LS):OU (.str k) (.lst (ws.map .str))=some (.bl (decide (k∈ws)),false):=by
 simp only[OU,fM,vJ,nH];rw[if_pos ⟨rr,lq ws⟩]
def wb (zs:LS)(ae:LD):Prop:=(ae.length<=24/\Nm7 zs)/\∀(j:Nat) r,ae[j]? = some r->Aq zs j r
def wb.mem {ae:LD}(g:wb zs ae){r:D}(h:r∈ae):∃k,Aq zs k r:=by
 obtain⟨j,hj⟩:=mem_iff_getElem?.mp h;exact⟨j,g.2 j r hj⟩
def Gz {ae:LD}(g:wb zs ae){i:Nat}{r:D}(l:ae[i]? = some r):fg [.tup (ae.take i),r]=some (.bl false,false):=by
 have k:=g.2 i r l;have m:=g.1.1;refine ah rr (aj ((ce (p:=aD r) (q:=false) (b1:=false) (eZ (b1:=false) (b2:=false) (aF (ds:=[r]) rr (sZ k)) rr (S2 _ _)) λO=>?_).trans (by rw[Bool.and_false])));obtain⟨n,a,hk⟩:=sY k O;have M:∀x∈ae.take i,∃j,j<i/\Aq zs j x:=λx hx=>by
  obtain⟨j,hj⟩:=mem_iff_getElem?.mp hx;rw[List.getElem?_take]at hj;split at hj
  .rename_i o;exact⟨j,o,g.2 j x hj⟩
  simp_all
 have hc:=eA (fi:=dE (am 0)) (nT:=1) (cap:=[]) (tg:=gn 0) (c:=bW (f2 kU (fA aY (ak (am 0) a0)) (fC _))) (fe:=fA av (ak (am 0) (ak (fC (.str "office")) a0))) (ρ:=[some (.tup (ae.take i),false)]) (ae.take i) (λx=>x) aD _ H9 s9 λx hx=>by
  obtain⟨j,hj,U⟩:=M x hx;exact⟨_,rr,bD (b:=false) (eZ (x:=.str (kindOf x)) (b1:=false) (b2:=false) (aF (ds:=[x]) (by simp[cc]) (sZ U)) rr (S2 _ _)),λhx=>⟨false,aF (by simp[cc]) (sY U hx).1⟩⟩
 have d:gM [.tup (ae.take i)]=some (.lst ((((ae.take i).filter aD).map EH).map .str),true):=by
  rw[uP];exact ah rr (aj hc)
 refine eZ (x:=.str (EH r)) (b1:=false) (b2:=true) (aF rr n) (aF rr d) ?_;rw[Oh];congr 3;refine ye λs=>?_;refine cX λG K=>?_;obtain⟨x,hx,e⟩:=vO s;obtain⟨hx,f⟩:=vN hx;obtain⟨j,hj,U⟩:=M x hx;obtain⟨_,h,t⟩:=sY U f;apply K;clear K;rw[a,h]at e;have:=K9 g.1.2;lia
theorem Ar:∀(ss M:LS){x:Str},x∈ss.foldl jE M->x∈M\/x∈ss
 |[],M,x,h=>.inl h
 |y::ss,M,x,h=>by
  rcases Ar ss _ h with h|h
  .rcases yN.mp h with h|h
   .exact .inl h
   simp_all
  simp_all
theorem tj:∀(ss M:LS),M.Nodup->(ss.foldl jE M).Nodup
 |[],M,h=>h
 |y::ss,M,h=>tj ss _ (qP h y)
theorem As {ss:LS}{x:Str}(h:x∈f9 ss):x∈ss:=by
 rcases Ar ss [] h with h|h
 .cases h
 .exact h
theorem Au:∀(l m:LS),l.Nodup->(∀x∈l,x∈m)->l.length<=m.length
 |[],m,_,_=>uN _
 |x::l,m,h,s=>by
  rw[nodup_cons]at h;have:=Au l _ h.2 λy hy=>(List.mem_erase_of_ne (b:=x) (λe=>h.1 (by rw[<-e];exact hy))).mpr (s y (mZ _ hy));grind
def KE {h:Int}{kind:Str}{ai:LD}{parts:LS}(hp:yF bZ (.str kind)=some (.tup (parts.map .str),false)):gN [row h kind ai]=some (.lst ((parts.zip ai).map λx=>.tup [.str x.1,x.2]),true):=by
 refine ah rr (aj ?_);have M:f1 _ (fA _ (ak (am 0) a0)) [some (row h _ ai,false)]=some _:=EG (aF rr (bC h _ _)) hp;have e2:GJ (f2 dM (am 0) (fC (.int 1))) (jA (fC (.int 1))) mP [some (row h kind ai,false)]=some (.tup ai,false):=by simp[row,JP,Wd]
 show(((f1 _ _ [some _]).bind λx=>(GJ _ _ _ [some _]).bind _).map _)=_;rw[M,e2];simp[Am]
def G0 {k:Nat}{r:D}(g:Aq zs k r):∃ss:LS,iq [r]=some (.lst (ss.map .str),true)/\ss.length<=2/\∀s∈ss,s∈zs:=by
 obtain⟨h,kind,ai,rfl,_,_,g⟩:=g;refine cX λG K=>?_;obtain⟨parts,ss,hp,hl,_,hk,O,a⟩:=g.parts;apply K;clear K;have M:=eA (fi:=dE (fA gN (ak (am 0) a0))) (nT:=2) (cap:=[]) (tg:=C3 [0,1]) (c:=gm (bW (f2 OU (am 0) (fC gJ))) (bW (f2 qK (am 1) (fC .non)))) (fe:=am 1)
  (ρ:=[some (row h kind ai,false),none]) (parts.zip ai) (λx=>.tup [.str x.1,x.2]) (λx=>iL x.1 && there x.2) (·.2) (by
   have d:fA gN (ak (am 0) a0) [some (row h kind ai,false),none]=_:=aF rr (KE hp);simp_all) (by
   have:=g.len;simp<;>lia) λx hx=>by
   have U:=(g.flat x.2 (of_mem_zip hx).2);refine⟨_,rr,bS (bD (b:=false) ?_) λ_=>bD (b:=false) ?_,λ_=>⟨false,?_⟩⟩
   .rfl
   .exact eZ (x:=x.2) (y:=.non) (b1:=false) (b2:=false) (by simp[cc]) rr (Ap _ U.2)
   rfl
 refine⟨mV (f9 ss),ah rr (bw ?_ (bT ss) (aj ?_)),?_,?_⟩
 .exact hk ▸ M
 .simp<;>lia
 .rw[(cV _).length_eq];exact vR (mT ss) O
 .grind[As,cV]
def G1 {ae:LD}(g:∀r∈ae,∃k,Aq zs k r)(hl:ae.length<=60)(O:zs.length=7):∃n:Nat,gO [.tup ae]=some (.int n,false)/\n<=7:=by
 obtain⟨ρ',e,ys,v,rfl,hz,M⟩:=cW (tg:=gn 2) (g:=pU) (λi ρ=>∃(ys:LS)(v:OB),ρ=[some (.tup ae,false),some (.lst (ys.map .str),true),v]/\ys.length<=2*i/\∀z∈ys,z∈zs) ae
  _ ⟨[],none,rr,H9,H9⟩ (by
   rintro i d ρ hd ⟨ys,v,rfl,hz,M⟩;have hi:=(vV hd).1;obtain⟨k,U⟩:=g d (vL hd);obtain⟨ss,hp,c,a⟩:=G0 U;have hsz:(ys.map D.str).length+(ss.map D.str).length<=sizeLine:=c7 s9;refine⟨_,[some _,some _,some (d,false)],rr,.inl ?_,ys++ss,some (d,false),rr,s9,?_⟩
   .have hv:fA iq (ak (am 2) a0) [some (.tup ae,false),some (.lst (ys.map .str),true),some (d,false)]=some _:=aF (ds:=[d]) rr hp;show Ir 1 _ [some _,some _,some (d,false)]=_;simp only[Ir,List.getElem?_cons_succ,List.getElem?_cons_zero,hv,vJ];rw[if_pos ⟨trivial,bT ss,hsz⟩];simp
   grind)
 refine⟨(f9 ys).length,ah rr (bw (ds:=[]) u9 rr (bR (fX (ds:=ae) (by simp[iP]) e) (aj (EG (b:=false) rr ?_)))),?_⟩
 .simp<;>lia
 .exact vR (Au (f9 ys) zs (tj ys [] nodup_nil) λz hz=>M z (As hz)) (le_of_eq O)
def BU {ae:LD}(g:wb zs ae){i:Nat}(hi:i<ae.length):jr [.tup ae,.int i]=some (.bl false,false):=by
 obtain⟨r,O⟩:∃r,ae[i]? = some r:=⟨_,vU hi⟩;have ha:=bc O;have a:=g.1.1;have M:∀ρ:DL.Env,ρ[0]? = some (some (.tup ae,false))->ρ[1]? = some (some (.int i,false))->f2 dM (am 0) (am 1) ρ=some (r,false):=λρ h0 h1=>by simp[h0,h1,ha]
 obtain⟨n,hn,c⟩:=G1 (λx hx=>g.mem (mem_of_mem_take hx)) s9 g.1.2.len;have U:=Al ae (i+1);refine ah rr (ao (bY (p:=false) (q:=false) (bD (b:=false) (by simp[kh];lia)) λ_=>bi (p:=true) (bD (b:=false) (aF (ds:=[r]) (a8 (M _ rr rr) rr) (Of (g.2 i r O))))) (aj ((rH (p:=false) (q:=false) (aF (a8 (b:=false) (by simp[Al]) (a8 (M _ rr rr) rr)) (Gz g O)) λ_=>eZ (y:=.int 20) (b2:=false) (aF (a8 (b:=false) (by simp;exact U) rr) hn) rr s9).trans rr)))
def pN {ae:LD}(g:wb zs ae)(hf:aN ae=true)(d:D)(hd:d=.lst ae\/d=.tup ae):fz [d]=some (.tup ae,false):=by
 have hl:=g.1.1;obtain⟨ρ',e,v,rfl⟩:=rE (tg:=gn 2) (g:=rM) _ (λi ρ=>∃v:Option _,ρ=[some (d,false),some (.tup ae,false),v])
  _ ⟨none,rr⟩ (by
   rintro i ρ hi ⟨v,rfl⟩;exact⟨_,_,rr,.inl (jX (bD (aF rr (BU g hi))) rr),some _,rr⟩)
 refine ah rr (ao (bi (p:=true) (bD (b:=false) (aF (a8 rr (a8 (d:=.tup [.ty "list",.ty "tuple"]) (b:=false) u9 rr)) ?_))) (BA (b:=false) (aF rr ?_) (by simp[hf]) (bR (jY (ge (b:=false) H9 N9) e) (fW rr))))
 .rcases hd with rfl|rfl<;>simp
 .rcases hd with rfl|rfl<;>simp
end Lw
namespace Lw
open PySem PySem.Spec DL L2
def BV (a:Int){m:Int}(h:0<m):ji (.int a) (.int m)=some (.int (a % m),false):=by simp[h]
def We (a:Int){m:Int}(h:0<m)(h2:m<1073741824):fJ (.int a) (.int m)=some (.int (a / m),false):=by simp[h,h2]
def im {f:FE}{ρ:DL.Env}{a m:Int}(e:f ρ=sI a)(h:0<m):f2 ji f (fI m) ρ=sI (a % m):=aX _ _ e rr (BV a h)
def qt {f:FE}{ρ:DL.Env}{a m:Int}(e:f ρ=sI a)(h:0<m)(h2:m<1073741824):f2 fJ f (fI m) ρ=sI (a / m):=aX _ _ e rr (We a h h2)
def BW (a:Int){b:Int}(h : -1000000<=b/\b<=1000000):wO (.int a) (.int b)=some (.int (a*b),false):=by
 have : -18446744073709551616<b/\b<18446744073709551616:=N9
 simp[this]
def xR {k:Int}(h : -1000000000000<=k/\k<=1000000000000):Builtin.Int.intBits k<=64:=intBits_le_64 N9 N9
def i7 {ns:LI}(hf:Pg ns)(k:Nat)(hk:k<=100):∃c:Int,ky [.lst (ns.map .int),.int k]=sI c:=by
 have M:∀ρ:DL.Env,ρ[0]? = some (sL (ns.map .int))->fA jR (fV 0 a0) ρ=sI ns.length:=λρ h=>by
  simp_all
 have dX:∀v:Int,Builtin.Int.intBits v<=2097152->AU (f2 ji (f2 VF (am 2) (am 2)) (fI 2147483587)) [sL (ns.map .int),sI k,sI v]=some (.rt (.int (v*v % 2147483587)) false):=λv hv=>
  aj (im (aX (.int v) (.int v) rr rr (by simp[hv])) P9)
 by_cases h:k<ns.length
 .refine⟨ns.getD k 0,ah rr (aT (cw (aX (.int k) (.int ns.length) rr (M _ rr) s9)) (aj (aX (.lst (ns.map .int)) (.int k) rr rr ?_)))⟩;have:=Db (xs:=ns) (i:=k) N9 (by simpa using h);rw[Int.toNat_natCast]at this;exact this
 .have U:Builtin.Int.intBits (20011*(k:Int)+17)<=64:=xR N9;have e:f2 iD (f2 wO (fI 20011) (am 1)) (fI 17) [sL (ns.map .int),sI k,none]=sI (20011*k+17):=aX (.int (20011*k)) (.int 17) (aX (.int 20011) (.int k) rr rr (BW _ N9)) rr rr;have f:bW (f2 Y6 (am 1) (fA jR (fV 0 a0))) [sL (ns.map .int),sI k,none]=some false:=cw (aX (.int k) (.int ns.length) rr (M _ rr) s9);by_cases hz:0<ns.length
  .have O:(0:Int)<ns.length:=N9
   have h5:=mod_lt (x:=(k:Int)*11) O;obtain⟨j,hj⟩:∃j:Nat,(k:Int)*11 % ns.length=j:=⟨((k:Int)*11 % ns.length).toNat,N9⟩;have a:j<ns.length:=N9
   have hb:Builtin.Int.intBits (ns.getD j 0)<=1048576:=hf _ (by grind);have ei:f2 dM (am 0) (f2 ji (f2 wO (am 1) (fI 11)) (fA jR (fV 0 a0))) [sL (ns.map .int),sI k,sI (20011*k+17)]=sI (ns.getD j 0):=by
    refine aX (.lst (ns.map .int)) (.int j) rr (hj ▸ aX (.int (k*11)) (.int ns.length) (aX (.int k) (.int 11) rr rr (BW _ P9)) (M _ rr) (BV _ O)) ?_;have:=Db (xs:=ns) (i:=j) N9 (by simpa using a);rw[Int.toNat_natCast]at this;exact this
   generalize ns.getD j 0=x at hb ei;have b:(k:Int)*k<=10000/\0<=(k:Int)*k:=by
    have h1:k*k<=100*100:=Nat.mul_le_mul hk hk;grind
   have ev:f2 iD (f2 iD (f2 wO (f2 dM (am 0) (f2 ji (f2 wO (am 1) (fI 11)) (fA jR (fV 0 a0)))) (fI 40692)) (f2 wO (f2 wO (am 1) (am 1)) (fI 2003))) (fI 1) [sL (ns.map .int),sI k,sI (20011*k+17)]=sI (x*40692+k*k*2003+1):=
    aX (.int (x*40692+k*k*2003)) (.int 1) (aX (.int (x*40692)) (.int (k*k*2003)) (aX (.int x) (.int 40692) ei rr (BW _ P9)) (aX (.int (k*k)) (.int 2003) (aX (.int k) (.int k) rr rr (BW _ N9)) rr (BW _ P9)) rr) rr rr
   generalize (k:Int)*k=y at b ev;have d:Builtin.Int.intBits (x*40692+y*2003+1)<=2097152:=by
    have h1:=intBits_mul_le hb (xR (k:=40692) P9);have h2:=intBits_add_le h1 (xR (k:=y*2003) N9);have h3:=intBits_add_le h2 (xR (k:=1) P9);exact vR h3 P9
   exact⟨_,ah rr (ao f (eC (.int (20011*k+17)) e rr (bR (mh (cw (aX (.int ns.length) (.int 0) (M _ rr) rr s9)) (ej ev rr)) (dX _ d))))⟩
  .refine⟨_,ah rr (ao f (eC (.int (20011*k+17)) e rr (bR (jX (cw (aX (.int ns.length) (.int 0) (M _ rr) rr (by rw[show(ns.length:Int)=0 by lia];rfl))) rr) (dX (20011*k+17) (vR U P9)))))⟩
def S4 {ρ:DL.Env}{i n:Nat}{ds:LD}{M O:FE}{d:D}{b b':Bool}(e:ρ[i]? = some (some (.lst ds,true)))(ev:O ρ=some (d,b))(ek:M ρ=some (.int n,b'))(hn:n<ds.length)(hf:aQ d=true):MG i M O ρ=some (.nx (ρ.set i (some (.lst (ds.set n d),true)))):=by
 simp_all[GI]
def EI (x:Int):0<=x % 26/\x % 26<26:=mod_lt P9
noncomputable def tm:PySem.Str:="zyxwvutsrqponmlkjihgfedcba"
def G2:tm.cps.size=26:=O9
def Oi (x:Int):Nat:=tm.cps.toList.getD (x % 26).toNat 0
def KG (x:Int):dM (.str tm) (.int (x % 26))=sS ⟨#[Oi x]⟩:=DL.AN (EI x).1 (by simp_all[G2,EI]) O9
def KH:∀i:_root_.Fin 26,sX (tm.cps.toList.getD i.val 0)=true:=O9
def KI:∀i j:_root_.Fin 26,tm.cps.toList.getD i.val 0=tm.cps.toList.getD j.val 0->i=j:=O9
def EJ (x:Int):sX (Oi x)=true:=KH ⟨(x % 26).toNat,N9⟩
def Ol {x y:Int}(h:Oi x=Oi y):x % 26=y % 26:=by
 have hx:=EI x;have hy:=EI y;have:=KI ⟨(x % 26).toNat,N9⟩ ⟨(y % 26).toNat,N9⟩ h;grind
def sg (cs:LN):LS:=cs.map λc=>⟨#[c]⟩
theorem KJ:∀cs:LN,((sg cs).map (·.length)).sum=cs.length
 |[]=>rr
 |c::cs=>by
  show 1+((sg cs).map _).sum=cs.length+1;rw[KJ cs];lia
theorem Av:∀(zs:LS)(y:Str),(Str.join ("" : Str) (y::zs)).cps.toList=(y::zs).flatMap λz=>z.cps.toList
 |[],y=>by rw[flatMap_cons,List.flatMap_nil,uQ];rfl
 |z::r,y=>by
  have M:∀a b:Str,(a++b).cps.toList=a.cps.toList++b.cps.toList:=λa b=>by show(a.cps++b.cps).toList=_;simp
  show(y++("" : Str)++Str.join _ _).cps.toList=_;rw[M,M,Av r z,show("" : Str).cps.toList=[]from rr,uQ];rfl
def KN {zs:LS}(h:zs≠[]):(Txt.join ("" : Str) zs).cps.toList=zs.flatMap λz=>z.cps.toList:=by
 cases zs with
 |nil=>exact absurd rr h
 |cons y zs=>
  simp_all[Txt.join,StrLaws.glued_eq_join,Av]
def BX {cs:LN}(h:cs≠[]):(Txt.join ("" : Str) (sg cs)).cps.toList=cs:=by
 simp_all[KN,sg,List.flatMap_map]
def Wf {cs:LN}(h1:1<=cs.length)(M:cs.length<=8)(hl:∀c∈cs,sX c=true):pe (Txt.join ("" : Str) (sg cs))=true:=by
 have e:=BX (cs:=cs) (λz=>by rw[z]at h1;cases h1);unfold pe;rw[<-Ao,vC];simp_all
def Om (cs:LN)(h:cs.length<=1000):Ic (.str "") (.lst ((sg cs).map .str))=sS (Txt.join ("" : Str) (sg cs)):=by
 show(eO _).bind _=_;rw[nL];show(if _ then _ else _)=_;rw[KJ,show("" : Str).length=0 from rr,if_pos N9]
def KO (c:Int):∃zs:LS,oH [.int c]=lT (zs.map .str)/\Nm7 zs:=by
 have t:=mod_lt (x:=c) (m:=8) P9;obtain⟨n,hn⟩:∃n:Nat,1+c % 8=n:=⟨(1+c % 8).toNat,N9⟩;let bs:LN:=(List.range n).map λ(k:Nat)=>Oi (c / (5+3*k));have O:bs.length=n:=by simp[bs]
 have f:∀x∈bs,sX x=true:=λx hx=>by obtain⟨k,_,rfl⟩:=vO hx;exact EJ _
 have hb:=gI (fi:=lV (f2 iD (fI 1) (f2 ji (am 0) (fI 8)))) (nT:=1) (cap:=[1,0]) (tg:=gn 0) (fe:=f2 dM (am 1) (f2 ji (f2 fJ (am 2) (f2 iD (fI 5) (f2 wO (fI 3) (am 0)))) (fI 26)))
  (ρ:=[sI c,sS tm,none,none,none,none,none]) (List.range n) (λ(k:Nat)=>.int k) _
  (by rw[ge (j:=n) (b:=false) (hn ▸ aX (.int 1) (.int (c % 8)) rr (im rr P9) rr) N9,FX,uP];rfl) s9 λk hk=>by
   have hk:=mem_range.mp hk;exact⟨_,rr,false,aX (.str tm) (.int (c / (5+3*k) % 26)) rr (im (aX (.int c) (.int (5+3*k)) rr (aX (.int 5) (.int (3*k)) rr (aX (.int 3) (.int k) rr rr (BW _ N9)) rr) (We _ N9 N9)) P9) (KG _)⟩
 have o:(List.range n).map (λ(k:Nat)=>D.str ⟨#[Oi (c / (5+3*k))]⟩)=(sg bs).map .str:=by simp[sg,bs]
 rw[o]at hb;have r:=mod_lt (x:=c / 8) (m:=n) N9;obtain⟨a,ha⟩:∃a:Nat,c / 8 % n=a:=⟨(c / 8 % n).toNat,N9⟩;have U:a<bs.length:=N9
 let nm:Nat->LN:=λi=>bs.set a (Oi (c / 64+5*i));have M:∀i,(nm i).length=n:=λi=>by simp[nm,O]
 obtain⟨ρ',e,p,q,rfl⟩:=rE (tg:=gn 5) (g:=BB) 7 (λi ρ=>∃p q:OB,ρ=[sI c,sS tm,lT ((sg bs).map .str),sI a,lT (((List.range i).map λi=>Txt.join ("" : Str) (sg (nm i))).map .str),p,q])
  _ ⟨none,none,rr⟩ (by
   rintro i ρ hi ⟨p,q,rfl⟩;have es:((sg bs).map D.str).set a (.str ⟨#[Oi (c / 64+5*i)]⟩)=(sg (nm i)).map .str:=by simp only[sg,nm,uP,List.map_set,Function.comp]
   refine⟨_,_,rr,.inl (bw (ds:=(sg bs).map .str) H9 (bT _) (bR (S4 (n:=a) (ds:=(sg bs).map .str) (d:=.str ⟨#[Oi (c / 64+5*i)]⟩) (b:=false) (b':=false) rr ?_ rr (by simpa [sg]using U) rr) (iE (d:=.str (Txt.join ("" : Str) (sg (nm i)))) (b:=false) rr ?_ rr (bu s9)))),some (.int i,false),some (.lst ((sg (nm i)).map .str),true),?_⟩
   .exact aX (.str tm) (.int ((c / 64+5*i) % 26)) rr (im (aX (.int (c / 64)) (.int (5*i)) (qt rr P9 P9) (aX (.int 5) (.int i) rr rr (BW _ N9)) rr) P9) (KG _)
   .rw[es];exact aX (.str "") (.lst ((sg (nm i)).map .str)) rr rr (Om _ (by rw[M];lia))
   .rw[es,List.range_succ];simp)
 refine⟨(List.range 7).map λi=>Txt.join ("" : Str) (sg (nm i)),ah rr (eC (.str tm) rr rr (bw hb (bT _) (eC (.int a) ?_ rr (bw (ds:=[]) u9 rr (bR (jY (ge (j:=7) (b:=false) rr P9) e) (fW rr)))))),H9,?_,λz hz=>?_⟩
 .rw[<-ha];refine aX (.int (c / 8)) (.int n) (qt rr P9 P9) ?_ (BV _ N9);refine a5 [.lst ((sg bs).map .str)] (aO rr rr) ?_;rw[ie];simp[sg,O]
 .refine pairwise_map.mpr (List.Pairwise.imp_of_mem ?_ (List.nodup_range (n:=7)));intro i j hi hj s e;have e:=congrArg (λz:Str=>z.cps.toList) e;have e:nm i=nm j:=by
   have h1:∀i,nm i≠[]:=λi z=>by have:=M i;rw[z]at this;simp at this;lia
   simpa only[BX (h1 i),BX (h1 j)]using e
  have e:=congrArg (λl:LN=>l[a]?) e;simp only[nm,getElem?_set_self U,Option.some.injEq]at e;have:=Ol e;have hi:=mem_range.mp hi;have hj:=mem_range.mp hj;lia
 .obtain⟨i,_,rfl⟩:=vO hz;refine Wf (by rw[M];lia) (by rw[M];lia) λx hx=>?_;rcases List.mem_or_eq_of_mem_set hx with h|h
  .exact f x h
  .rw[h];exact EJ _
def PV (p:Str)(d:D):Bool:=Y9 (di [.str p,d]) (.bl true) false
def j6:LS->LD->Bool
 |p::ps,d::ds=>PV p d && j6 ps ds
 |_,_=>true
theorem l5:∀ {ps:LS}{ds:LD},j6 ps ds=true->∀x∈ps.zip ds,di [.str x.1,x.2]=some (.bl true,false)
 |[],_,_,x,h=>by simp at h
 |_::_,[],_,x,h=>by simp at h
 |p::ps,d::ds,h1,x,h=>by
  have h1:=(vC _ _ ▸ h1:PV p d=true/\j6 ps ds=true);rcases vP h with rfl|h
  .exact xw h1.1
  .exact l5 h1.2 x h
def aB {p:Str}{d:D}{ps:LS}{ds:LD}(h:PV p d=true)(r:j6 ps ds=true):j6 (p::ps) (d::ds)=true:=by unfold j6;rw[h,r];rfl
def j7:∀n:_root_.Fin 12,PV "day" (.int (n.val:Int))=true:=O9
def P1:∀n:_root_.Fin 20,PV "of" (.int (n.val:Int))=true:=O9
def KP:∀n:_root_.Fin 4,PV "further" (.int (n.val:Int))=true:=O9
noncomputable def MK:LN:=[1,2,3,5,7]
def xS:∀m∈MK,PV "matters" (.int ((m:Nat):Int))=true:=O9
def BY:∀m∈MK,m∈MS:=P9
noncomputable def Oo (d:Nat):List (Int×OI):=[(0,none),(0,some 30),(1,some 20),(d,some (d+8)),(d+1,none),(3,some 12)]
def xT:∀d:_root_.Fin 12,∀x∈Oo d.val,PV "stretch" (jd x)=true:=O9
def KQ:∀n:_root_.Fin 14,PV "since" (.int (n.val:Int))=true:=O9
def wc {p:Str}{d:D}(h:di [.str p,d]=some (.bl true,false)):PV p d=true:=by unfold PV;rw[h];rfl
def tq {z:Str}(h:pe z=true):PV "by" (.str z)=true:=wc (xQ O9 O9 (kQ h))
def Aw {z:Str}(h:pe z=true):PV "person" (.str z)=true:=wc (xQ O9 O9 (kQ h))
def xU {z:Str}(h:pe z=true):PV "office" (.str z)=true:=wc (xQ O9 O9 (kQ h))
def KR:PV "whom" .non=true:=O9
def Wg {z:Str}(h:pe z=true):PV "whom" (.str z)=true:=
 wc (ah rr (ao (c2 O9) (ao (c3 O9) (aT (cq O9) (aj ((rH (p:=false) (b1:=false) (by simp ) λ_=>a5 _ rr (kQ h)).trans rr))))))
def S5 {ps:LS}(h1:1<=ps.length)(M:ps.length<=8)(h:∀p∈ps,pe p=true):PV "pieces" (.tup (ps.map .str))=true:=wc (Gx (BQ h1 M h))
def S6 {c:Nat}{z:Str}(hc:c<3)(h:pe z=true):PV "changes" (.tup [.tup [.int (c:Int),.str z]])=true:=by
 have M:ij [.tup [.int (c:Int),.str z]]=some (.bl true,false):=ah rr (ao (bY (p:=false) (q:=false) H9 λ_=>by simp) (aj ((ce (p:=true) (q:=true) (b1:=false) (a5 [.int (c:Int),.int 0,.int 7] (by simp[A9,iF]) (v0 N9 N9)) λ_=>a5 [.str z] (by simp[JP]) (wa h)).trans rr)));have h1:=gI (fi:=dE (am 0)) (nT:=1) (cap:=[]) (tg:=gn 0) (fe:=fA ij (fV 0 a0)) (ρ:=[sJ [.tup [.int (c:Int),.str z]],none]) [()] _ (λ_=>.bl true) rr P9 λ_ _=>⟨[sJ [.int (c:Int),.str z]],rr,false,a5 [.tup [.int (c:Int),.str z]] rr M⟩;have h2:=gI (fi:=dE (am 0)) (nT:=1) (cap:=[]) (tg:=gn 0) (fe:=nY 0 0) (ρ:=[sJ _,none]) [()] _ (λ_=>.int (c:Int)) rr P9 λ_ _=>⟨[sJ [.int (c:Int),.str z]],rr,false,by simp[A9]⟩;have h3:=gI (fi:=Ij (am 1) (GJ (am 1) (jA (fI 1)) mP)) (nT:=2) (cap:=[]) (tg:=C3 [0,1]) (fe:=f2 Y6 (am 0) (am 1)) (ρ:=[sJ [.tup [.int (c:Int),.str z]],lT [.int (c:Int)]]) ([]:List Unit) (λ_=>.non) (λ_=>.bl true) I9 P9 λ_ h=>nomatch h;have O:jq [.tup [.tup [.int (c:Int),.str z]]]=some (.bl true,false):=ah rr (ao (bY (p:=false) (q:=false) H9 λ_=>bi (p:=true) (bD (b:=false) (aF (ds:=[.lst [.bl true]]) (a8 (b:=true) h1 rr) (nV [()])))) (bw (ds:=[.int (c:Int)]) h2 rr (aj (aF (ds:=[.lst []]) (a8 (b:=true) h3 rr) (nV ([]:List Unit))))));exact wc (ah rr (ao (c2 O9) (ao (c3 O9) (ao (cq O9) (ao (cq O9) (ao (cq O9) (ao (cq O9) (ao (cq O9) (ao (cq O9) (ao (cq O9) (aj (aF rr O))))))))))))
def ip1:iL ("office" : Str)=false:=O9
def ip2:iL ("matters" : Str)=false:=O9
def ip3:iL ("further" : Str)=false:=O9
def YC:iL ("day" : Str)=false:=O9
def ip6:iL ("person" : Str)=true:=O9
def ip8:iL ("by" : Str)=true:=O9
def aah:iL ("of" : Str)=false:=O9
def P2 {zs:LS}{k day:Nat}{h:Int}{kind:Str}{r:LD}(parts ss:LS)(hc:yF bZ (.str kind)=some (.tup (parts.map .str),false))(hl:parts.length=(D.int (day:Int)::r).length)(hp:j6 parts (.int (day:Int)::r)=true)(hk:BR (parts.zip (.int (day:Int)::r))=ss.map .str)(U:∀s∈ss,s∈zs)(hf:(r.all λd=>aQ d && !Ft d)=true)(hd:(day:Int)<=h)(h2:decide (ss.length<=2)=true:=by rfl)(O:decide (r.length<=9)=true:=by rfl)(M:(decide (kind = "root") || decide (kind = "chosen"))=false:=by decide +kernel)(hi:ma bZ (.str kind) (.str "day")=sI 0:=by exact bF):DeedG zs k h kind (.int (day:Int)::r):=
 have M:=Bool.or_eq_false_iff.mp M
 ⟨⟨parts,ss,hc,hl,l5 hp,hk,ET h2,U⟩,by grind,λd hd=>by
  rcases vP hd with rfl|hd
  .exact⟨rr,rr⟩
  grind,.inr ⟨of_decide_eq_false M.1,⟨day,_,rr,hd,N9,λe=>absurd e (of_decide_eq_false M.2)⟩,hi⟩⟩
def EK (x:Int×OI):(aQ (jd x) && !Ft (jd x))=true:=by rw[kI];rfl
structure Dw (zs:List Str)(k day:Nat)(kind:Str)(ai:List D):Prop where
 dd:Dd kind ai
 g:∀h:Int,(day:Int)<=h->DeedG zs k h kind ai
 w:∀h:Int,pX (row h kind ai)
 p:kind = "leave" \/ kind = "named"->∃a b p l,ai=a::b::.str p::l/\p∈zs.take 5
 q:∀h:Int,Rq (row h kind ai)
def nq {kind:Str}{ai:LD}(e:decide (kind∈cF)=false)(h:Int):Rq (row h kind ai):=.non _ (of_decide_eq_false e)
def S7 {kind:Str}{P:Prop}(e:(decide (kind = "leave") || decide (kind = "named"))=false):kind = "leave" \/ kind = "named"->P:=N9
def now {kind:Str}{ai:LD}(h:Int)(e:(decide (kind = "paper") || decide (kind = "like"))=false):pX (row h kind ai):=λz=>by
 have e:=Bool.or_eq_false_iff.mp e;rcases z with z|z
 .exact absurd z (of_decide_eq_false e.1)
 .exact absurd z (of_decide_eq_false e.2)
section
variable {zs:LS}(z7:Nm7 zs) {k day n:Nat}{wm A4:Str}(hd:day<12) (hb:wm∈zs)
include z7 hd hb
theorem EL (kind:Str)(hk:kind = "death" \/ kind = "lost" \/ kind = "found"):Dw zs k day kind [.int (day:Int),.str wm]:=by
 refine⟨.three _ hk _ _,λh hh=>?_,λh=>now h (by rcases hk with rfl|rfl|rfl<;>decide +kernel),S7 (by rcases hk with rfl|rfl|rfl<;>decide +kernel),nq (by rcases hk with rfl|rfl|rfl<;>decide +kernel)⟩
 rcases hk with rfl|rfl|rfl<;>exact P2 ["day","person"] [wm] bF rr (aB (j7 ⟨day,hd⟩) (aB (Aw (z7.nm _ hb)) rr)) (by simp[BR,YC,ip6]) (by simpa using hb) rr hh
theorem KS (hn:n<20)(kind:Str)(hk:kind = "copy" \/ kind = "call"):Dw zs k day kind [.int (day:Int),.str wm,.int (n:Int)]:=by
 refine⟨.copy _ hk _ _ _,λh hh=>?_,λh=>now h (by rcases hk with rfl|rfl<;>decide +kernel),S7 (by rcases hk with rfl|rfl<;>decide +kernel),λh=>by rcases hk with rfl|rfl;exact .copy h _ n rr;exact nq O9 h⟩
 rcases hk with rfl|rfl<;>exact P2 ["day","by","of"] [wm] bF rr (aB (j7 ⟨day,hd⟩) (aB (tq (z7.nm _ hb)) (aB (P1 ⟨n,hn⟩) rr))) (by simp[BR,YC,ip8,aah]) (by simpa using hb) rr hh
theorem Op (O:A4∈zs.take 5){m f:Nat}(hm:m∈MK){x:Int×OI}(hx:x∈Oo day)(hf:f<4):Dw zs k day "leave" [.int (day:Int),.str wm,.str A4,.int (m:Int),jd x,.int (f:Int)]:=by
 have M:=mem_of_mem_take O;exact⟨.leave _ _ _ m (BY m hm) x _,λh hh=>P2 ["day","by","person","matters","stretch","further"] [wm,A4] bF rr (aB (j7 ⟨day,hd⟩) (aB (tq (z7.nm _ hb)) (aB (Aw (z7.nm _ M)) (aB (xS m hm) (aB (xT ⟨day,hd⟩ x hx) (aB (KP ⟨f,hf⟩) rr)))))) I9 (by simp[hb,M]) (by simp only[all_cons,EK];rfl) hh,λh=>now h O9,λ_=>⟨_,_,_,_,rr,O⟩,nq O9⟩
theorem Oq (O:A4∈zs){w:D}(hw:w=.non\/w=.str A4){m:Nat}(hm:m∈MK){x:Int×OI}(hx:x∈Oo day){p q:Str}(hp:p∈zs)(hq:q∈zs):Dw zs k day "paper" [.int (day:Int),.str wm,.int (m:Int),jd x,w,.tup [.str p,.str q]]:=by
 have M:=S5 (ps:=[p,q]) H9 H9 λz hz=>by
  rcases vP hz with rfl|hz
  .exact z7.nm _ hp
  .cases uT hz;exact z7.nm _ hq
 refine⟨.paper "paper" (.inl rr) _ _ m (BY m hm) x _ (by rcases hw with rfl|rfl<;>rfl) (by rcases hw with rfl|rfl<;>rfl),λh hh=>?_,λh _=>⟨x,w,_,_,_,_,m,_,.inl rr,rr,hw.imp id λe=>⟨_,e⟩⟩,S7 O9,λh=>.paper h _ [p,q] rr H9⟩
 rcases hw with rfl|rfl
 .exact P2 ["day","by","matters","stretch","whom","pieces"] [wm] bF rr (aB (j7 ⟨day,hd⟩) (aB (tq (z7.nm _ hb)) (aB (xS m hm) (aB (xT ⟨day,hd⟩ x hx) (aB KR (aB M rr)))))) I9 (by simpa using hb) (by simp only[all_cons,EK];rfl) hh
 .exact P2 ["day","by","matters","stretch","whom","pieces"] [wm,A4] bF rr (aB (j7 ⟨day,hd⟩) (aB (tq (z7.nm _ hb)) (aB (xS m hm) (aB (xT ⟨day,hd⟩ x hx) (aB (Wg (z7.nm _ O)) (aB M rr)))))) I9 (by simp[hb,O]) (by simp only[all_cons,EK];rfl) hh
theorem S8 {m:Nat}(hm:m∈MK){x:Int×OI}(hx:x∈Oo day)(hn:n<20){c:Nat}(hc:c<3){p:Str}(hp:p∈zs):Dw zs k day "like" [.int (day:Int),.str wm,.int (m:Int),jd x,.non,.int (n:Int),.tup [.tup [.int (c:Int),.str p]]]:=
 ⟨.paper _ (.inr rr) _ _ m (BY m hm) x _ rr rr,λh hh=>P2 ["day","by","matters","stretch","whom","of","changes"] [wm] bF rr (aB (j7 ⟨day,hd⟩) (aB (tq (z7.nm _ hb)) (aB (xS m hm) (aB (xT ⟨day,hd⟩ x hx) (aB KR (aB (P1 ⟨n,hn⟩) (aB (S6 hc (z7.nm _ hp)) rr))))))) I9 (by simpa using hb) (by simp only[all_cons,EK];rfl) hh,λh _=>⟨x,.non,_,_,_,_,m,_,.inr rr,rr,.inl rr⟩,S7 O9,λh=>.like h _ n c p rr rr⟩
theorem EM (h5:wm∈zs.take 5)(M:A4∈zs):Dw zs k day "named" [.int (day:Int),.str A4,.str wm]:=
 ⟨.named _ _ _,λh hh=>P2 ["day","office","person"] [wm] bF rr (aB (j7 ⟨day,hd⟩) (aB (xU (z7.nm _ M)) (aB (Aw (z7.nm _ hb)) rr))) (by simp[BR,ip1,YC,ip6]) (by simpa using hb) rr hh,λh=>now h O9,λ_=>⟨_,_,_,_,rr,h5⟩,nq O9⟩
theorem S9 (M:A4∈zs){o:Str}(O:o∈zs):Dw zs k day "heir" [.int (day:Int),.str wm,.str o,.str A4]:=
 ⟨.heir _ _ _ _,λh hh=>P2 ["day","by","office","person"] [wm,A4] bF rr (aB (j7 ⟨day,hd⟩) (aB (tq (z7.nm _ hb)) (aB (xU (z7.nm _ O)) (aB (Aw (z7.nm _ M)) rr)))) (by simp[BR,ip1,YC,ip6,ip8]) (by simp[hb,M]) rr hh,λh=>now h O9,S7 O9,nq O9⟩
theorem KU (M:A4∈zs){o:Str}(O:o∈zs){s:Nat}(h1:day<=s)(h2:s<14):Dw zs k day "chosen" [.int (day:Int),.str wm,.str o,.str A4,.int (s:Int)]:=by
 refine⟨.chosen _ _ _ _ _,λh hh=>⟨⟨["day","by","office","person","since"],[wm,A4],bF,rr,l5 (aB (j7 ⟨day,hd⟩) (aB (tq (z7.nm _ hb)) (aB (xU (z7.nm _ O)) (aB (Aw (z7.nm _ M)) (aB (KQ ⟨s,h2⟩) rr))))),I9,H9,by simp[hb,M]⟩,H9,λd hd=>?_,.inr ⟨O9,⟨day,_,rr,hh,N9,λ_=>⟨_,_,_,s,rr,N9⟩⟩,bF⟩⟩,λh=>now h O9,S7 O9,nq O9⟩;simp [mem_cons,not_mem_nil,or_false]at hd;rcases hd with rfl|rfl|rfl|rfl|rfl<;>exact⟨rr,rr⟩
end
def dm {α:Type}(l:List α)(F:α->D){ρ:DL.Env}{fl fx:FE}{b:Bool}{a m:Int}(M:fl ρ=some (.lst (l.map F),b))(ex:fx ρ=sI a)(h0:0<m)(hm:m<=l.length):∃x∈l.take m.toNat,f2 dM fl (f2 ji fx (fI m)) ρ=some (F x,false):=by
 have h:=mod_lt (x:=a) h0;obtain⟨j,hj⟩:∃j:Nat,a % m=j:=⟨(a % m).toNat,N9⟩;have hl:j<l.length:=N9
 refine⟨l[j],List.mem_take_iff_getElem.mpr ⟨j,N9,rr⟩,eZ M (hj ▸ im ex h0) ?_⟩;have:(l.map F)[j]? = some (F l[j]):=by simp_all
 simp[bc this]
def nW {zs:LS}(M:Nm7 zs)(j:Nat)(hj:j<7):∃z∈zs,∀ {ρ:DL.Env}{i:Nat},ρ[i]? = some (sL (zs.map .str))->nY i (j:Int) ρ=sS z:=by
 have hl:j<zs.length:=by rw[M.len];exact hj
 refine⟨zs[j],getElem_mem hl,λ{ρ i} h=>?_⟩;simp_all[bc]
def jf (r:D):Bool:=decide (kindOf r∈[("leave" : Str),"named"])
def YD (zs:LS)(ae:LD):Prop:=(∀r∈ae,∃h kind ai,r=row h kind ai/\(kind = "leave" \/ kind = "named"->∃a b p l,ai=a::b::.str p::l/\p∈zs.take 5))/\∃r∈ae,jf r=true
def Ax {zs:LS}(s:Nm7 zs){ae:LD}(g:YD zs ae)(hl:ae.length<=100)(c:Int):∃p∈zs.take 5,ln [.lst ae,.int c,.lst (zs.map .str)]=sS p:=by
 have q:∀r∈ae,jf r=true->∃h k a b p l,r=row h k (a::b::.str p::l)/\aq 2 r=p/\p∈zs.take 5:=λr O hi=>by
  obtain⟨h,k,ai,rfl,hp⟩:=g.1 r O;have:k∈[("leave" : Str),"named"]:=ET hi;obtain⟨a,b,p,l,rfl,h5⟩:=hp (by simpa using this);exact⟨h,k,a,b,p,l,rr,rr,h5⟩
 have hc:=eA (fi:=dE (am 0)) (nT:=1) (cap:=[]) (tg:=gn 0) (c:=bW (f2 OU (f2 dM (nY 0 1) (fI 0)) (fA cG (ak (fS "leave") (ak (fS "named") a0))))) (fe:=f2 dM (nY 0 1) (fI 3))
  (ρ:=[sL ae,sI c,sL (zs.map .str),none]) ae (λr=>r) jf (λr=>.str (aq 2 r)) H9 N9 λr O=>by
   obtain⟨h,k,ai,e,_⟩:=g.1 r O;refine⟨_,rr,cw (aX (.str k) (.tup [.str "leave",.str "named"]) ?_ (a5 [.str "leave",.str "named"] rr (aZ _ H9)) ?_),λhi=>⟨false,?_⟩⟩
   .subst e;simp[cc,row,JP,A9]
   .rw[show jf r=decide (k∈[("leave" : Str),"named"]) by subst e;rfl];exact ja _ [("leave" : Str),"named"]
   .obtain⟨h,k,a,b,p,l,rfl,e2,_⟩:=q r O hi;rw[e2];have h3:lD (D.str k::a::b::.str p::l) 3=some (.str p):=by have:=jp (xs:=D.str k::a::b::.str p::l) (j:=3) H9;simpa using this
    simp[cc,row,JP,h3]
 obtain⟨w,U,t⟩:=g.2;have u:0<(ae.filter jf).length:=List.length_pos_of_mem (mem_filter.mpr ⟨U,t⟩);have M:aN ((ae.filter jf).map λr=>D.str (aq 2 r))=true:=ba λd hd=>by obtain⟨x,_,rfl⟩:=vO hd;rfl
 by_cases h5:0<c % 5
 .have m1:(0:Int)<((ae.filter jf).length:Nat):=N9
  obtain⟨x,hx,ex⟩:∃x∈ae.filter jf,f2 dM (am 3) (f2 ji (f2 fJ (am 1) (fI 5)) (fA jR (fV 3 a0))) [sL ae,sI c,sL (zs.map .str),lT ((ae.filter jf).map λr=>.str (aq 2 r))]=some (.str (aq 2 x),false):=by
   obtain⟨j,hj⟩:∃j:Nat,c / 5 % ((ae.filter jf).length:Nat)=j:=⟨(c / 5 % ((ae.filter jf).length:Nat)).toNat,by have:=mod_lt (x:=c / 5) m1;lia⟩;have f:j<(ae.filter jf).length:=by have:=mod_lt (x:=c / 5) m1;lia
   refine⟨(ae.filter jf)[j],getElem_mem f,aX (.lst ((ae.filter jf).map λr=>.str (aq 2 r))) (.int j) rr (hj ▸ aX (.int (c / 5)) (.int ((ae.filter jf).length:Nat)) (qt rr P9 P9) (a5 [.lst ((ae.filter jf).map λr=>.str (aq 2 r))] (aO rr rr) (by rw[ie,vI])) (BV _ m1)) ?_⟩;have:((ae.filter jf).map λr=>D.str (aq 2 r))[j]? = some (.str (aq 2 (ae.filter jf)[j])):=by simp_all
   simp[bc this]
  refine cX λG K=>?_;obtain⟨i,n⟩:=vN hx;obtain⟨h,k,a,b,p,l,_,e2,o⟩:=q x i n;apply K;clear K;rw[e2]at ex;exact⟨p,o,ah rr (bw hc M (aT (cw (aX (.int (c % 5)) (.int 0) (im rr P9) rr s9)) (aj ex)))⟩
 .obtain⟨p,hp,v⟩:=dm zs D.str (ρ:=[sL ae,sI c,sL (zs.map .str),lT ((ae.filter jf).map λr=>.str (aq 2 r))]) (fl:=am 2) (fx:=f2 fJ (am 1) (fI 5)) (b:=false) (a:=c / 5) (m:=5) rr (qt rr P9 P9) P9 (by rw[s.len];decide);exact⟨p,hp,ah rr (bw hc M (ao (cw (aX (.int (c % 5)) (.int 0) (im rr P9) rr s9)) (aj v)))⟩
noncomputable def lP:LS:=[("leave" : Str),"paper","like","copy","call"]
def lt4:∀f∈([3,2,2,1,0]:LN),f<4:=P9
def mk6:∀m∈([7,7,3,5,1,2]:LN),m∈MK:=P9
def SA {zs:LS}{p:Str}(h:p∈zs):zp ZR (.lst (zs.map .str)) (.str p)=sI (jF zs p):=by
 show(eO _).bind _=_;rw[nL];show(if jF zs p<zs.length then _ else _)=_;simp_all[jF]
section
variable {zs:LS}(z7:Nm7 zs) {ae:LD}(g:YD zs ae) (hl:ae.length<=18) (k day:Nat) (hd:day<12) (c:Int)
include z7 g hl hd
theorem G3 (word:Str)(hw:word∈lP):∃ai,mv [.lst ae,.str word,.int day,.int c,.lst (zs.map .str)]=sJ (.str word::ai)/\Dw zs k day word ai:=by
 obtain⟨p,U,s⟩:=Ax z7 g N9 c;have hp:p∈zs:=mem_of_mem_take U;obtain⟨m,hm,t⟩:=dm ([7,7,3,5,1,2]:LN) (λm=>.int (m:Int)) (ρ:=[sL ae,sS word,sI day,sI c,sL (zs.map .str),sS p,none,none,none,none]) (fl:=fA gu (ak (fI 7) (ak (fI 7) (ak (fI 3) (ak (fI 5) (ak (fI 1) (ak (fI 2) a0))))))) (fx:=f2 fJ (am 3) (fI 40)) (b:=true) (a:=c / 40) (m:=6) (a5 [.int 7,.int 7,.int 3,.int 5,.int 1,.int 2] rr (cD _ H9)) (qt rr P9 P9) P9 P9;have hm:=mk6 m (mem_of_mem_take hm);obtain⟨x,hx,ex⟩:=dm (Oo day) jd (ρ:=[sL ae,sS word,sI day,sI c,sL (zs.map .str),sS p,sI m,none,none,none])
  (fl:=fA gu (ak (fA cG (ak (fI 0) (ak (fC .non) a0))) (ak (fA cG (ak (fI 0) (ak (fI 30) a0))) (ak (fA cG (ak (fI 1) (ak (fI 20) a0))) (ak (fA cG (fV 2 (ak (f2 iD (am 2) (fI 8)) a0))) (ak (fA cG (ak (f2 iD (am 2) (fI 1)) (ak (fC .non) a0))) (ak (fA cG (ak (fI 3) (ak (fI 12) a0))) a0)))))))
  (fx:=f2 fJ (am 3) (fI 240)) (b:=true) (a:=c / 240) (m:=6) (a5 ((Oo day).map jd) (aO (a5 [.int 0,.non] rr (aZ _ H9)) (aO (a5 [.int 0,.int 30] rr (aZ _ H9)) (aO (a5 [.int 1,.int 20] rr (aZ _ H9)) (aO (a5 [.int day,.int (day+8)] rr (aZ _ H9)) (aO (a5 [.int (day+1),.non] rr (aZ _ H9)) (aO (a5 [.int 3,.int 12] rr (aZ _ H9)) rr)))))) (cD _ (by simp[Oo]))) (qt rr P9 P9) P9 (by simp[Oo])
 have hx:x∈Oo day:=mem_of_mem_take hx;let E:OB->OB->DL.Env:=λa b=>[sL ae,sS word,sI day,sI c,sL (zs.map .str),sS p,sI m,some (jd x,false),a,b];have M:∀w,bW (f2 kU (am 1) (fS w)) (E none none)=some (decide (word=w)):=λw=>cw (aX (.str word) (.str w) rr rr (S2 _ _));have num:∀(q:Int),0<q->q<1073741824->∃n:Nat,n<20/\∀a b,f2 ji (f2 fJ (am 3) (fI q)) (f2 iD (fA jR (fV 0 a0)) (fI 1)) (E a b)=sI n:=λq u q2=>by
  have h:=mod_lt (x:=c / q) (m:=(ae.length:Int)+1) N9;refine⟨(c / q % ((ae.length:Int)+1)).toNat,N9,λa b=>?_⟩;rw[Int.toNat_of_nonneg h.1];exact aX (.int (c / q)) (.int (ae.length+1)) (qt rr u q2) (aX (.int ae.length) (.int 1) (a5 [.lst ae] rr ie) rr rr) (BV _ N9)
 refine cX λG K=>?_;obtain⟨n,hn,en⟩:=num 1440 P9 P9;obtain⟨n4,e,i⟩:=num 4320 P9 P9;obtain⟨l,h0,v⟩:=nW z7 0 P9;obtain⟨o,h1,y⟩:=nW z7 1 P9;obtain⟨r,h2,e2⟩:=nW z7 2 P9;obtain⟨O,h3,z⟩:=nW z7 3 P9;apply K;clear K;have dX:∀ {T:FS}{d:D},T (E none none)=some (.rt d false)->cb (eQ 5 (fA ln (fV 0 (fV 3 (fV 4 a0))))) (cb (eQ 6 _) (cb (eQ 7 _) T)) [sL ae,sS word,sI day,sI c,sL (zs.map .str),none,none,none,none,none]=some (.rt d false):=λA=>
  eC (.str p) (a5 [.lst ae,.int c,.lst (zs.map .str)] rr s) rr (eC (.int m) t rr (eC (jd x) ex (kI _) A))
 simp only[lP,mem_cons,not_mem_nil,or_false]at hw;rcases hw with rfl|rfl|rfl|rfl|rfl
 .obtain⟨q,hq,eq⟩:=dm zs D.str (ρ:=E none none) (fl:=am 4) (fx:=f2 iD (f2 iD (f2 (zp ZR) (am 4) (am 5)) (fI 1)) (f2 ji (f2 fJ (am 3) (fI 1440)) (fI 4))) (b:=false) (a:=(jF zs p:Int)+1+c / 1440 % 4) (m:=5) rr
   (aX (.int ((jF zs p:Int)+1)) (.int (c / 1440 % 4)) (aX (.int (jF zs p)) (.int 1) (aX (.lst (zs.map .str)) (.str p) rr rr (SA hp)) rr rr) (im (qt rr P9 P9) P9) rr) P9 (by rw[z7.len];decide)
  obtain⟨f,hf,B⟩:=dm ([3,2,2,1,0]:LN) (λm=>.int (m:Int)) (ρ:=E (sS q) none) (fl:=fA gu (ak (fI 3) (ak (fI 2) (ak (fI 2) (ak (fI 1) (ak (fI 0) a0)))))) (fx:=f2 fJ (am 3) (fI 5760)) (b:=true) (a:=c / 5760) (m:=5) (a5 [.int 3,.int 2,.int 2,.int 1,.int 0] rr (cD _ H9)) (qt rr P9 P9) P9 P9;exact⟨_,ah rr (dX (aT ((M "leave").trans O9) (eC (.str q) eq rr (aj (a5 [.str "leave",.int day,.str p,.str q,.int m,jd x,.int f] (aO rr (aO rr (aO rr (aO rr (aO rr (aO rr (aO B rr))))))) (aZ _ H9)))))),Op z7 hd hp hq hm hx (lt4 f (mem_of_mem_take hf))⟩
 .obtain⟨w,hw,C⟩:=dm ([.non,.str l]:LD) id (ρ:=E none none) (fl:=fA gu (ak (fC .non) (ak (nY 4 0) a0))) (fx:=f2 fJ (am 3) (fI 1440)) (b:=true) (a:=c / 1440) (m:=2) (a5 [.non,.str l] (aO rr (aO (v rr) rr)) (cD _ H9)) (qt rr P9 P9) P9 H9;have hw:w=.non\/w=.str l:=by grind
  exact⟨_,ah rr (dX (ao ((M "leave").trans O9) (aT ((M "paper").trans O9) (aj (a5 [.str "paper",.int day,.str p,.int m,jd x,w,.tup [.str o,.str r]] (aO rr (aO rr (aO rr (aO rr (aO rr (aO C (aO (a5 [.str o,.str r] (aO (y rr) (aO (e2 rr) rr)) (aZ _ H9)) rr))))))) (aZ _ H9)))))),Oq z7 hd hp h0 hw hm hx h1 h2⟩
 .have F:=mod_lt (x:=c / 1440) (m:=3) P9;obtain⟨j,hj⟩:∃j:Nat,c / 1440 % 3=j:=⟨(c / 1440 % 3).toNat,N9⟩;exact⟨_,ah rr (dX (ao ((M "leave").trans O9) (ao ((M "paper").trans O9) (aT ((M "like").trans O9) (eC (.tup [.tup [.int j,.str O]]) (a5 [.tup [.int j,.str O]] (aO (a5 [.int j,.str O] (aO (hj ▸ im (qt rr P9 P9) P9) (aO (z rr) rr)) (aZ _ H9)) rr) (aZ _ H9)) rr (aj (a5 [.str "like",.int day,.str p,.int m,jd x,.non,.int n4,.tup [.tup [.int j,.str O]]] (aO rr (aO rr (aO rr (aO rr (aO rr (aO rr (aO (i _ _) (aO rr rr)))))))) (aZ _ H9)))))))),S8 z7 hd hp hm hx e N9 h3⟩
 .exact⟨_,ah rr (dX (ao ((M "leave").trans O9) (ao ((M "paper").trans O9) (ao ((M "like").trans O9) (aj (a5 [.str "copy",.int day,.str p,.int n] (aO rr (aO rr (aO rr (aO (en _ _) rr)))) (aZ _ H9))))))),KS z7 hd hp hn "copy" (.inl rr)⟩
 .exact⟨_,ah rr (dX (ao ((M "leave").trans O9) (ao ((M "paper").trans O9) (ao ((M "like").trans O9) (aj (a5 [.str "call",.int day,.str p,.int n] (aO rr (aO rr (aO rr (aO (en _ _) rr)))) (aZ _ H9))))))),KS z7 hd hp hn "call" (.inr rr)⟩
end
noncomputable def KW:LS:=[("leave" : Str),"leave","leave","paper","paper","paper","copy","copy","like","call","call","chosen"]
noncomputable def W8:LS:=[("heir" : Str),"death","lost","found","named","leave","paper","leave"]
def le5:∀f∈([0,0,0,1,5]:LN),f<=5:=P9
def w20:∀w∈KW++W8,w∈lP\/w = "chosen" \/ w = "heir" \/ w = "named" \/ (w = "death" \/ w = "lost" \/ w = "found"):=O9
def qu:∀w∈[("chosen" : Str),"heir","named","death","lost","found"],w∉lP:=O9
def Rg (zs:LS)(k:Nat)(r:D):Prop:=∃(h:Int)(kind:Str)(ai:LD)(day:Nat),r=row h kind ai/\(day:Int)<=h/\h<=100/\(day:Int)<=9998/\Dw zs k day kind ai
section
variable {zs:LS}(z7:Nm7 zs) {ae:LD}(g:YD zs ae) (hl:ae.length<=18) (k:Nat) (c:Int)
include z7 g hl
theorem SD:∃r,xC [.lst ae,.int c,.lst (zs.map .str)]=some (r,false)/\Rg zs k r/\aD r=false:=by
 obtain⟨w,hw,B⟩:=dm (KW++W8) D.str (ρ:=[sL ae,sI c,sL (zs.map .str),lT ((KW++W8).map .str),none,none,none,none,none]) (fl:=am 3) (fx:=am 1) (b:=false) (a:=c) (m:=20) rr rr P9 P9;have hw:=w20 w (mem_of_mem_take hw);have J:=mod_lt (x:=c / 20) (m:=3) P9;obtain⟨day,C⟩:∃d:Nat,(ae.length:Int) / 2+c / 20 % 3=d:=⟨((ae.length:Int) / 2+c / 20 % 3).toNat,N9⟩;have hd:day<12:=N9
 have ed:f2 iD (f2 fJ (fA jR (fV 0 a0)) (fI 2)) (f2 ji (f2 fJ (am 1) (fI 20)) (fI 3)) [sL ae,sI c,sL (zs.map .str),lT ((KW++W8).map .str),sS w,none,none,none,none]=sI day:=
  C ▸ aX (.int ((ae.length:Int) / 2)) (.int (c / 20 % 3)) (qt (a5 [.lst ae] rr ie) P9 P9) (im (qt rr P9 P9) P9) rr
 obtain⟨l,f,F⟩:=dm ([0,0,0,1,5]:LN) (λm=>.int (m:Int)) (ρ:=[sL ae,sI c,sL (zs.map .str),lT ((KW++W8).map .str),sS w,sI day,none,none,none]) (fl:=fA gu (ak (fI 0) (ak (fI 0) (ak (fI 0) (ak (fI 1) (ak (fI 5) a0)))))) (fx:=f2 fJ (am 1) (fI 60)) (b:=true) (a:=c / 60) (m:=5) (a5 [.int 0,.int 0,.int 0,.int 1,.int 5] rr (cD _ H9)) (qt rr P9 P9) P9 P9;have f:=le5 l (mem_of_mem_take f);let E:OB->DL.Env:=λa=>[sL ae,sI c,sL (zs.map .str),lT ((KW++W8).map .str),sS w,sI day,sI ((day:Int)+l),sI (c / 300),a];have dX:∀ {T:FS}{d:D},T (E none)=some (.rt d false)->cb (eQ 3 (fA gu (ak (fS "leave") (ak (fS "leave") (ak (fS "leave") (ak (fS "paper") (ak (fS "paper") (ak (fS "paper") (ak (fS "copy") (ak (fS "copy") (ak (fS "like") (ak (fS "call") (ak (fS "call") (ak (fS "chosen") a0))))))))))))))
   (cb (eQ 3 (f2 iD (am 3) (fA gu (ak (fS "heir") (ak (fS "death") (ak (fS "lost") (ak (fS "found") (ak (fS "named") (ak (fS "leave") (ak (fS "paper") (ak (fS "leave") a0))))))))))) (cb (eQ 4 _) (cb (eQ 5 _) (cb (eQ 6 (f2 iD (am 5) _)) (cb (eQ 7 (f2 fJ (am 1) (fI 300))) T))))) [sL ae,sI c,sL (zs.map .str),none,none,none,none,none,none]=some (.rt d false):=λG=>
  bw (ds:=KW.map .str) (a5 (KW.map .str) rr (cD _ (by simp[KW]))) rr (bw (ds:=(KW++W8).map .str) (eZ (x:=.lst (KW.map .str)) (y:=.lst (W8.map .str)) (b1:=false) (b2:=true) rr (a5 (W8.map .str) rr (cD _ (by simp[W8]))) rr) rr
   (eC (.str w) B rr (eC (.int day) ed rr (eC (.int ((day:Int)+l)) (aX (.int day) (.int l) rr F rr) rr (eC (.int (c / 300)) (qt rr P9 P9) rr G)))))
 have M:∀ {kind:Str}{ai:LD},Dw zs k day kind ai->decide (kind = "root")=false->∃r,r=row ((day:Int)+l) kind ai/\Rg zs k r/\aD r=false:=λ{kind ai} d j=>⟨_,rr,⟨_,kind,ai,day,rr,N9,N9,N9,d⟩,j⟩;have ti:bW (f2 OU (am 4) (fA cG (ak (fS "leave") (ak (fS "paper") (ak (fS "like") (ak (fS "copy") (ak (fS "call") a0))))))) (E none)=some (decide (w∈lP)):=cw (aX (.str w) (.tup (lP.map .str)) rr (a5 (lP.map .str) rr (aZ _ (by simp[lP]))) (ja w lP));have O:∀v,bW (f2 kU (am 4) (fS v)) (E none)=some (decide (w=v)):=λv=>cw (aX (.str w) (.str v) rr rr (S2 _ _));obtain⟨q,hq,eq⟩:=dm zs D.str (ρ:=E none) (fl:=am 2) (fx:=f2 fJ (am 7) (fI 40)) (b:=false) (a:=c / 300 / 40) (m:=5) rr (qt rr P9 P9) P9 (by rw[z7.len];decide);have U:q∈zs:=mem_of_mem_take hq;obtain⟨h,h5,u⟩:=nW z7 5 P9;obtain⟨p,n,z⟩:=Ax z7 g N9 (c / 300);have hp:p∈zs:=mem_of_mem_take n;rcases hw with hw|rfl|rfl|rfl|hw
 .obtain⟨ai,es,H⟩:=G3 z7 g hl k day hd (c / 300) w hw;have j:decide (w = "root")=false:=(by decide +kernel:∀w∈lP,decide (w = "root")=false) w hw;obtain⟨r,rfl,h1,h2⟩:=M H j;rw[yc hw]at ti;exact⟨_,ah rr (dX (aT ti (aj (a5 [.int ((day:Int)+l),.tup (.str w::ai)] (aO rr (aO (a5 [.lst ae,.str w,.int day,.int (c / 300),.lst (zs.map .str)] rr es) rr)) (aZ _ H9))))),h1,h2⟩
 .obtain⟨s,hs⟩:∃s:Nat,(day:Int)+c / 300 / 200 % 3=s:=⟨((day:Int)+c / 300 / 200 % 3).toNat,N9⟩;have A:day<=s/\s<14:=N9
  obtain⟨r,rfl,h1,h2⟩:=M (KU z7 hd hp U h5 A.1 A.2) O9;rw[ye (qu _ O9)]at ti;exact⟨_,ah rr (dX (ao ti (aT ((O "chosen").trans O9) (eC (.str p) (a5 [.lst ae,.int (c / 300),.lst (zs.map .str)] rr z) rr (aj (a5 [.int ((day:Int)+l),.tup [.str "chosen",.int day,.str p,.str h,.str q,.int s]] (aO rr (aO (a5 [.str "chosen",.int day,.str p,.str h,.str q,.int s] (aO rr (aO rr (aO rr (aO (u rr) (aO eq (aO (hs ▸ aX (.int day) (.int (c / 300 / 200 % 3)) rr (im (qt rr P9 P9) P9) rr) rr)))))) (aZ _ H9)) rr)) (aZ _ H9))))))),h1,h2⟩
 .obtain⟨r,rfl,h1,h2⟩:=M (S9 z7 hd hp U h5) O9;rw[ye (qu _ O9)]at ti;exact⟨_,ah rr (dX (ao ti (ao ((O "chosen").trans O9) (aT ((O "heir").trans O9) (aj (a5 [.int ((day:Int)+l),.tup [.str "heir",.int day,.str p,.str h,.str q]] (aO rr (aO (a5 [.str "heir",.int day,.str p,.str h,.str q] (aO rr (aO rr (aO (a5 [.lst ae,.int (c / 300),.lst (zs.map .str)] rr z) (aO (u rr) (aO eq rr))))) (aZ _ H9)) rr)) (aZ _ H9))))))),h1,h2⟩
 .obtain⟨o,t,I⟩:∃o∈zs,f2 dM (am 2) (f2 iD (fI 5) (f2 ji (f2 fJ (am 7) (fI 5)) (fI 2))) (E none)=sS o:=by
   have m2:=mod_lt (x:=c / 300 / 5) (m:=2) P9;obtain⟨o,t,e⟩:=Sf (zs:=zs) (i:=5+c / 300 / 5 % 2) N9 (by rw[z7.len];lia);exact⟨o,t,aX (.lst (zs.map .str)) (.int (5+c / 300 / 5 % 2)) rr (aX (.int 5) (.int (c / 300 / 5 % 2)) rr (im (qt rr P9 P9) P9) rr) e⟩
  obtain⟨r,rfl,h1,h2⟩:=M (EM z7 hd U hq t) O9;rw[ye (qu _ O9)]at ti;exact⟨_,ah rr (dX (ao ti (ao ((O "chosen").trans O9) (ao ((O "heir").trans O9) (aT ((O "named").trans O9) (aj (a5 [.int ((day:Int)+l),.tup [.str "named",.int day,.str o,.str q]] (aO rr (aO (a5 [.str "named",.int day,.str o,.str q] (aO rr (aO rr (aO I (aO eq rr)))) (aZ _ H9)) rr)) (aZ _ H9)))))))),h1,h2⟩
 .have hn:∀v∈[("chosen" : Str),"heir","named"],decide (w=v)=false:=by rcases hw with rfl|rfl|rfl<;>decide +kernel
  obtain⟨r,rfl,h1,h2⟩:=M (EL z7 hd U w hw) (by rcases hw with rfl|rfl|rfl<;>decide +kernel)
  rw[ye (qu w (by grind))]at ti;exact⟨_,ah rr (dX (ao ti (ao ((O "chosen").trans (by rw[hn _ H9])) (ao ((O "heir").trans (by rw[hn _ H9])) (ao ((O "named").trans (by rw[hn _ H9])) (aj (a5 [.int ((day:Int)+l),.tup [.str w,.int day,.str q]] (aO rr (aO (a5 [.str w,.int day,.str q] (aO rr (aO rr (aO eq rr))) (aZ _ H9)) rr)) (aZ _ H9)))))))),h1,h2⟩
end
structure GR (zs:List Str)(ae:List D):Prop where
 at_:∀(j:Nat) r,ae[j]? = some r->Rg zs j r
 off:(eK ae).Nodup
 gv:∃r∈ae,jf r=true
 h0:∃r,ae[0]? = some r/\aw r=0
def GR.snoc {zs:LS}{ae:LD}(g:GR zs ae){r:D}(M:Rg zs ae.length r)(O:(eK (ae++[r])).Nodup):GR zs (ae++[r]):=by
 refine⟨λj q h=>?_,O,g.gv.imp λq h=>⟨mem_append_left _ h.1,h.2⟩,g.h0.imp λq h=>⟨by rw[getElem?_append_left (vV h.1).1];exact h.1,h.2⟩⟩;by_cases hj:j<ae.length
 .rw[getElem?_append_left hj]at h;exact g.at_ j q h
 .rw[getElem?_append_right N9]at h;obtain⟨h1,h2⟩:=vV h;have:j=ae.length:=by rw[length_singleton]at h1;lia
  subst this;simp [sub_self]at h2;subst h2;exact M
def GR.mem {zs:LS}{ae:LD}(g:GR zs ae){r:D}(h:r∈ae):∃k,Rg zs k r:=by
 obtain⟨j,hj⟩:=mem_iff_getElem?.mp h;exact⟨j,g.at_ j r hj⟩
def Rg.k {zs:LS}{k:Nat}{r:D}(g:Rg zs k r):bd r:=by
 obtain⟨h,kind,ai,day,rfl,_,_,_,d⟩:=g;exact⟨h,kind,ai,rr,d.dd⟩
def GR.flat {zs:LS}{ae:LD}(g:GR zs ae):aN ae=true:=ba λd hd=>by
 obtain⟨j,M⟩:=g.mem hd;exact M.k.flat
def GR.gvs {zs:LS}{ae:LD}(g:GR zs ae):YD zs ae:=⟨λr M=>by
 obtain⟨j,h,kind,ai,day,rfl,_,_,_,d⟩:=g.mem M;exact⟨h,kind,ai,rr,d.p⟩,g.gv⟩
def ip4:iL ("rule" : Str)=false:=O9
def RL:LS:=[("open" : Str),"first","last"]
def Wh:∀r∈RL,PV "rule" (.str r)=true:=O9
def P4:∀m∈[7,255,3],PV "matters" (.int ((m:Nat):Int))=true/\m∈MR:=O9
def KY {zs:LS}(M:Nm7 zs)(k:Nat):off zs k∈zs:=by
 have:(if k=0 then 5 else 6)<zs.length:=by rw[M.len];split<;>decide
 simp_all[off]
def tu {zs:LS}(M:Nm7 zs)(j:Nat)(hj:j<7){ρ:DL.Env}{i:Nat}(h:ρ[i]? = some (sL (zs.map .str))\/ρ[i]? = some (lT (zs.map .str))):nY i (j:Int) ρ=sS (zs.getD j ""):=by
 have hl:j<zs.length:=by rw[M.len];exact hj
 have:(zs.map D.str)[j]? = some (.str (zs.getD j "")):=by simp_all
 rcases h with h|h<;>simp[h,bc this]
def KZ:decide (("named" : Str)∈[("leave" : Str),"named"])=true:=O9
def Wi (h:Int)(l:LD):aD (row h "root" l)=true:=yc rr
def Wj (h:Int)(l:LD):aD (row h "named" l)=false:=I9
def La {zs:LS}(M:Nm7 zs){k:Nat}(hk:k=0\/k=2){m f:Nat}(hm:m∈[7,255,3])(hf:f<4){rl:Str}(O:rl∈RL):Dw zs k 0 "root" [.str (off zs k),.int m,.int f,.str rl]:=
 ⟨.root _ _ m (P4 m hm).2 _,λh _=>⟨⟨["office","matters","further","rule"],[],bF,rr,l5 (aB (xU (M.nm _ (KY M k))) (aB (P4 m hm).1 (aB (KP ⟨f,hf⟩) (aB (Wh _ O) rr)))),by simp[BR,ip1,ip2,ip3,ip4],P9,H9⟩,H9,λd hd=>by
  simp only[mem_cons,not_mem_nil,or_false]at hd;rcases hd with rfl|rfl|rfl|rfl<;>exact⟨rr,rr⟩,.inl ⟨rr,hk,_,rr⟩⟩,λh=>now h O9,S7 O9,nq O9⟩
def Wk {zs:LS}(M:Nm7 zs){m:Nat}(hm:m∈[7,255,3]){rl:Str}(O:rl∈RL){p:Str}(hp:p∈zs.take 5):GR zs [row 0 "root" [.str (off zs 0),.int m,.int (3:Nat),.str rl],row 0 "named" [.int (0:Nat),.str (off zs 0),.str p]]:=by
 refine⟨λj r h=>?_,by simp[eK,Wi,Wj],⟨_,mZ _ (mX ..),KZ⟩,_,rr,rr⟩;match j,h with
 |0,h=>cases h;exact⟨0,_,_,0,rr,P9,P9,P9,La M (.inl rr) hm P9 O⟩
 |1,h=>cases h;exact⟨0,_,_,0,rr,P9,P9,P9,EM M P9 (mem_of_mem_take hp) hp (KY M 0)⟩
def aai {zs:LS}(M:Nm7 zs){m:Nat}(hm:m∈[7,255,3]){rl:Str}(O:rl∈RL){p:Str}(hp:p∈zs.take 5):GR zs [row 0 "root" [.str (off zs 0),.int m,.int (3:Nat),.str rl],row 0 "named" [.int (0:Nat),.str (off zs 0),.str p],row 1 "root" [.str (off zs 2),.int (7:Nat),.int (1:Nat),.str "open"]]:=by
 refine(Wk M hm O hp).snoc ⟨1,_,_,0,rr,P9,P9,P9,La M (.inr rr) P9 P9 O9⟩ ?_;have h:=K9 M;have:eK ([row 0 "root" [.str (off zs 0),.int m,.int (3:Nat),.str rl],row 0 "named" [.int (0:Nat),.str (off zs 0),.str p]]++[row 1 "root" [.str (off zs 2),.int (7:Nat),.int (1:Nat),.str "open"]])=[off zs 0,off zs 2]:=by
  rfl
 simp_all
def Ot {ns:LI}(hf:Pg ns){zs:LS}(U:Nm7 zs){ae:LD}(g:GR zs ae)(hl:ae.length<=18)(M:OB){i:Nat}(hi:i<=90):∃r,uR [sL (ns.map .int),sL (zs.map .str),M,lT ae,sI i]=some (.nx [sL (ns.map .int),sL (zs.map .str),M,lT (ae++[r]),sI i])/\GR zs (ae++[r]):=by
 obtain⟨c,a⟩:=i7 hf (3+i) N9;obtain⟨r,er,O,b⟩:=SD U g.gvs hl _ _;have hn:(eK (ae++[r])).Nodup:=by rw[oR,b,if_neg P9,uQ];exact g.off
 refine⟨r,iE rr (a5 _ (aO rr (aO (aX _ _ (a5 _ (aO rr (aO (aX _ _ rr rr rr) rr)) a) (aX _ _ rr rr rr) (BV _ P9)) (aO rr rr))) er) O.k.flat (bu N9),g.snoc O hn⟩
def Ou {ns:LI}(C:ns.length<=63)(hf:Pg ns){zs:LS}(M:Nm7 zs):∃ae,rO [.lst (ns.map .int),.lst (zs.map .str)]=lT ae/\GR zs ae/\ae.length<=18:=by
 obtain⟨c,w⟩:=i7 hf 1 P9;obtain⟨m,hm,y⟩:=dm ([7,255,3]:LN) (λm=>.int (m:Int)) (ρ:=[sL (ns.map .int),sL (zs.map .str),sI c,none,none]) (fl:=fA gu (ak (fI 7) (ak (fI 255) (ak (fI 3) a0)))) (fx:=am 2) (b:=true) (a:=c) (m:=3) (a5 [.int 7,.int 255,.int 3] rr (cD _ H9)) rr P9 P9;obtain⟨rl,f,er⟩:=dm RL D.str (ρ:=[sL (ns.map .int),sL (zs.map .str),sI c,none,none]) (fl:=fA gu (ak (fS "open") (ak (fS "first") (ak (fS "last") a0)))) (fx:=f2 fJ (am 2) (fI 3)) (b:=true) (a:=c / 3) (m:=3) (a5 (RL.map .str) rr (cD _ (by simp[RL]))) (qt rr P9 P9) P9 P9;have hm:=mem_of_mem_take hm;have f:=mem_of_mem_take f;have hp:zs.getD 0 "" ∈ zs.take 5:=by
  have h0:0<zs.length:=by rw[M.len];decide
  rw[vF,vU h0];exact List.mem_take_iff_getElem.mpr ⟨0,by rw[M.len];decide,rr⟩
 have U:∀ρ:DL.Env,ρ[1]? = some (sL (zs.map .str))->nY 1 5 ρ=sS (off zs 0):=λρ h=>tu M 5 P9 (.inl h);have l:∀ρ:DL.Env,ρ[1]? = some (sL (zs.map .str))->nY 1 6 ρ=sS (off zs 2):=λρ h=>tu M 6 P9 (.inl h);have o:∀ρ:DL.Env,ρ[1]? = some (sL (zs.map .str))->nY 1 0 ρ=sS (zs.getD 0 ""):=λρ h=>tu M 0 P9 (.inl h);obtain⟨R,hR⟩:∃R,R=row 0 "root" [.str (off zs 0),.int m,.int (3:Nat),.str rl]:=⟨_,rr⟩;obtain⟨N,k⟩:∃N,N=row 0 "named" [.int (0:Nat),.str (off zs 0),.str (zs.getD 0 "")]:=⟨_,rr⟩;have z:aQ R=true:=by subst hR;rfl
 have A:aQ N=true:=by subst k;rfl
 obtain⟨ae,B,E,e2⟩:∃ae,GR zs ae/\ae.length<=3/\∀ {T:FS}{res:Option Res},T [sL (ns.map .int),sL (zs.map .str),sI c,lT ae,none]=res ->
   cb (A7 (bW (f2 kU (f2 ji (f2 fJ (am 2) (fI 9)) (fI 2)) (fI 1))) (tJ 3 (fA cG (ak (fI 1) (ak (fA cG (ak (fS "root") (ak (nY 1 6) (ak (fI 7) (ak (fI 1) (ak (fS "open") a0)))))) a0)))) qG) T [sL (ns.map .int),sL (zs.map .str),sI c,lT [R,N],none]=res:=by
  have t:bW (f2 kU (f2 ji (f2 fJ (am 2) (fI 9)) (fI 2)) (fI 1)) [sL (ns.map .int),sL (zs.map .str),sI c,lT [R,N],none]=some (decide (c / 9 % 2=1)):=cw (aX (.int (c / 9 % 2)) (.int 1) (im (qt rr P9 P9) P9) rr H9);by_cases h:c / 9 % 2=1
  .rw[yc h]at t;refine⟨[R,N,row 1 "root" [.str (off zs 2),.int (7:Nat),.int (1:Nat),.str "open"]],by subst hR;subst k;exact aai M hm f hp,H9,λp=>bR (mh t (iE (d:=row 1 "root" [.str (off zs 2),.int (7:Nat),.int (1:Nat),.str "open"]) (b:=false) rr (a5 [.int 1,.tup [.str "root",.str (off zs 2),.int 7,.int 1,.str "open"]] (aO rr (aO (a5 [.str "root",.str (off zs 2),.int 7,.int 1,.str "open"] (aO rr (aO (l _ rr) rr)) (aZ _ H9)) rr)) (aZ _ H9)) rr (bu H9))) p⟩
  .rw[ye h]at t;exact⟨[R,N],by subst hR;subst k;exact Wk M hm f hp,H9,λp=>bR (jX t rr) p⟩
 obtain⟨n,hn,en⟩:∃n:Nat,n<=15/\f2 dM _ (f2 ji (f2 fJ (am 2) (fI 18)) (fI 2)) [sL (ns.map .int),sL (zs.map .str),sI c,lT ae,none]=sI n:=by
  obtain⟨q,hq⟩:∃q:Nat,(if 5+(ns.length:Int) / 3<15 then 5+(ns.length:Int) / 3 else 15)=q:=⟨(if 5+(ns.length:Int) / 3<15 then 5+(ns.length:Int) / 3 else 15).toNat,by split<;>lia⟩
  have s:q<=15:=by split at hq<;>lia
  obtain⟨x,hx,ex⟩:=dm ([q,15]:LN) (λm=>.int (m:Int)) (ρ:=[sL (ns.map .int),sL (zs.map .str),sI c,lT ae,none]) (fl:=fA gu (ak (fA Vj (ak (fI 15) (ak (f2 iD (fI 5) (f2 fJ (fA jR (fV 0 a0)) (fI 3))) a0))) (ak (fI 15) a0))) (fx:=f2 fJ (am 2) (fI 18)) (b:=true) (a:=c / 18) (m:=2)
   (a5 [.int q,.int 15] (aO (a5 [.int 15,.int (5+(ns.length:Int) / 3)] (aO rr (aO (aX (.int 5) (.int ((ns.length:Int) / 3)) rr (qt (a5 [.lst (ns.map .int)] rr (by rw[ie,vI])) P9 P9) rr) rr)) (by rw[<-hq];rfl)) rr) (cD _ H9)) (qt rr P9 P9) P9 H9
  have hx:=mem_of_mem_take hx;refine⟨x,?_,ex⟩;rcases vP hx with rfl|hx
  .exact s
  .grind
 obtain⟨ρ',e,O,u,rfl,v,hs⟩:=rE (tg:=gn 4) (g:=uR) n (λi ρ=>∃(O:LD)(u:OB),ρ=[sL (ns.map .int),sL (zs.map .str),sI c,lT O,u]/\GR zs O/\O.length<=3+i)
  [sL (ns.map .int),sL (zs.map .str),sI c,lT ae,none] ⟨ae,none,rr,B,N9⟩ (by
   rintro i ρ hi ⟨O,u,rfl,v,hs⟩;obtain⟨r,e,g'⟩:=Ot hf M v N9 (sI c) (i:=i) N9;exact⟨_,_,rr,.inl e,O++[r],_,rr,g',by rw[uZ,length_singleton];lia⟩)
 refine⟨O,ah rr (eC (.int c) (a5 [.lst (ns.map .int),.int 1] rr w) rr (bw (ds:=[R]) ?_ (by simp[z]) (bR (iE (ds:=[R]) (d:=N) (b:=false) rr ?_ A (bu H9)) (e2 (bR (jY (ge (j:=n) (b:=false) en N9) e) (fW rr)))))),v,N9⟩
 .refine a5 [R] (aO (a5 [.int 0,.tup [.str "root",.str (off zs 0),.int m,.int 3,.str rl]] (aO rr (aO (a5 [.str "root",.str (off zs 0),.int m,.int 3,.str rl] (aO rr (aO (U _ rr) (aO y (aO rr (aO er rr))))) (aZ _ H9)) rr)) ((aZ _ H9).trans (by subst hR;rfl))) rr) (cD _ H9)
 .exact a5 [.int 0,.tup [.str "named",.int 0,.str (off zs 0),.str (zs.getD 0 "")]] (aO rr (aO (a5 [.str "named",.int 0,.str (off zs 0),.str (zs.getD 0 "")] (aO rr (aO rr (aO (U _ rr) (aO (o _ rr) rr)))) (aZ _ H9)) rr)) ((aZ _ H9).trans (by subst k;rfl))
section
variable {ae:LD}(g:∀r∈ae,bd r) (gw:∀r∈ae,pX r) (hl:ae.length<=30) (aa:Int) (hn:((bo (ag ae aa)).map (aq 0)).Nodup) (ho:(ci (ag ae aa)).length<=60)
include g gw hl hn ho
theorem Ay (day:Int)(n:Nat):nF [.tup ae,.int aa,.int day,.int n,.non]=sO (decide (n∈fQ ae aa day)):=by
 have M:bW (f2 _ (am 3) (fA _ (fV 0 (fV 1 (fV 2 a0))))) [sF _,sF _,sF _,sF _,sF .non]=some _:=bD (eZ rr (a5 _ rr (sV g gw hl _ hn ho day)) (sR n _));cases hv:decide (n∈fQ _ _ _) with
 |false=>exact ah rr (aT (M.trans (by rw[hv];rfl)) (aj rr))
 |true=>exact ah rr (ao (M.trans (by rw[hv];rfl)) (aj ((rH (q:=true) (aX _ _ rr rr rr) λz=>by cases z).trans rr)))
end
noncomputable def SE (h:Int):D->D
 |.tup [_,d]=>.tup [.int h,d]
 |r=>r
noncomputable def Az (hh:Nat->Int)(ae:LD):LD:=ae.zipIdx.map λx=>SE (hh x.2) x.1
def EN (hh:Nat->Int)(ae:LD):(Az hh ae).length=ae.length:=by simp[Az]
def xV {hh:Nat->Int}{ae:LD}{n:Nat}{q:D}(h:(Az hh ae)[n]? = some q):∃r,ae[n]? = some r/\q=SE (hh n) r:=by
 unfold Az at h;rw[vA,List.getElem?_zipIdx]at h;cases M:ae[n]? with
 |none=>rw[M]at h;cases h
 |some r=>rw[M]at h;simp at h;exact⟨r,rr,h.symm⟩
def Lb {zs:LS}{ae:LD}(g:GR zs ae)(hh:Nat->Int):(Az hh ae).map zz=ae.map zz:=by
 apply ext_getElem?;intro n;unfold Az;rw[vA,vA,vA,List.getElem?_zipIdx];cases M:ae[n]? with
 |none=>rfl
 |some r=>
  obtain⟨h,kind,ai,day,rfl,_⟩:=g.at_ n r M;rfl
section
variable {zs:LS}{ae:LD}(g:GR zs ae) (hh:Nat->Int)
include g
theorem qw {r:D}(h:r∈Az hh ae):bd r/\pX r:=by
 obtain⟨n,hn⟩:=mem_iff_getElem?.mp h;obtain⟨q,hq,rfl⟩:=xV hn;obtain⟨a,kind,ai,day,rfl,_,_,_,d⟩:=g.at_ n q hq;exact⟨⟨hh n,kind,ai,rr,d.dd⟩,d.w _⟩
theorem Ov:eK (Az hh ae)=eK ae:=by
 have:∀R ,eK _=eK R:=λR=>by
  unfold eK;rw[filter_map,uP];rw[show aD ∘ zz=aD from funext Ss,show aq 0 ∘ zz=aq 0 from funext (Kt 0)]
 rw[<-this,Lb g,this]
theorem G4 (hl:ae.length<=18)(aa day:Int)(n:Nat):nF [.tup (Az hh ae),.int aa,.int day,.int n,.non]=sO (decide (n∈fQ (Az hh ae) aa day)):=by
 have M:(Az hh ae).length<=30:=by rw[EN];lia
 refine Ay (λr h=>(qw g hh h).1) (λr h=>(qw g hh h).2) M _ ?_ ?_ _ n
 .exact List.Nodup.sublist (sQ _ _) (by rw[Ov g];exact g.off)
 .unfold ci;rw[(aH _ _).length_eq];grind[bJ]
theorem G5 (aa:Int)(n:Nat)(r:D)(h:(Az hh ae)[n]? = some r):decide (aw r<=aa)=decide (hh n<=aa):=by
 obtain⟨q,hq,rfl⟩:=xV h;obtain⟨a,kind,ai,day,rfl,_⟩:=g.at_ n q hq;rfl
theorem SF (M:Nm7 zs)(hl:ae.length<=18)(d:D)(hd:d=.lst ae\/d=.tup ae):fz [d]=some (.tup ae,false):=by
 refine pN ⟨⟨N9,M⟩,λj r h=>?_⟩ g.flat d hd;obtain⟨a,kind,ai,day,rfl,h1,h2,O,d⟩:=g.at_ j r h;exact⟨a,kind,ai,rr,N9,N9,d.g _ h1⟩
end
def hz (x:D×Nat):D×Nat:=(.tup [.non,.tup [.non,.int (aw x.1)]],x.2)
def m8 (ae:LD):KL:=dr (λx=>bU (kA (hz x))) ae.zipIdx
def m9 (ae:LD):LI:=(m8 ae).map λx=>(x.2:Int)
def nX (ae:LD):(m8 ae).length=ae.length:=by unfold m8;rw[(aH _ _).length_eq,length_zipIdx]
def Lc (ae:LD):ae.zipIdx.map (λx=>D.int (x.2:Int))=(List.range' 0 ae.length).map λ(i:Nat)=>.int (i:Int):=by
 rw[<-List.zipIdx_map_snd 0 _,uP];rfl
def G6 {ae:LD}(g:∀r∈ae,bd r)(hl:ae.length<=60):mu [.tup ae]=lT ((m9 ae).map .int):=by
 have hm:∀ρ:DL.Env,ρ[0]? = some (sJ ae)->hW (xi [0] (fA cG (ak (f2 dM (f2 dM (am 1) (am 0)) (fI 0)) (fV 0 a0))) ρ) (ae.zipIdx.map λx=>.int x.2)=some _:=λρ h0=>
  fF _ λx hx=>by
   have ha:=bc (mem_zipIdx_iff_getElem?.mp hx);obtain⟨h,k,ai,e,_⟩:=g x.1 (List.fst_mem_of_mem_zipIdx hx);show(fA cG _ _).map _=_;rw[a5 [.int (aw x.1),.int x.2] (aO (by rw[e]at ha |-;simp[cc,h0,ha,row,A9,aw]) rr) (aZ _ H9)];rfl
 have hk:du (ae.zipIdx.map λx=>D.tup [.int (aw x.1),.int x.2])=some (ae.zipIdx.map λx=>kA (hz x)):=ft _ λx _=>rr;have O:(ae.zipIdx.map (·.2)).Nodup:=by simp_all[List.nodup_range']
 have M:(ae.zipIdx.map λx=>kA (hz x)).length<64/\cy (ae.zipIdx.map λx=>kA (hz x))=true/\cH (ae.zipIdx.map λx=>kA (hz x))=true/\((ae.zipIdx.map λx=>kA (hz x)).map bU).Nodup:=by
  refine⟨s9,?_,?_,?_⟩
  .have:=qq (ae.zipIdx.map hz);rw[uP]at this;exact this
  .unfold cH;rw[Bool.or_eq_true];left;simp[all_eq_true,kA]
  .rw[uP];exact List.Pairwise.map _ (λa b h e=>h (BE (a:=hz a) (b:=hz b) e)) (pairwise_map.mp O)
 refine ah rr (aj ?_);have U:fA jR (fV 0 a0) [sJ ae]=sI ae.length:=a5 [.tup ae] rr rr;show((fA jR (fV 0 a0) [sJ ae]).bind _)=_;rw[U];simp only[vJ];rw[if_pos ⟨N9,N9⟩];have en:Jt (ae.length:Int).toNat=ae.zipIdx.map λx=>.int x.2:=by rw[Int.toNat_natCast,Lc];rfl
 rw[en,hm _ rr];simp only[vJ];rw[hk];simp only[vJ];rw[if_pos M];unfold dF m9 m8;rw[zip_map',lw,uP,uP];rfl
def xW {ae:LD}{n:Nat}(h:n<ae.length):(n:Int)∈m9 ae:=by
 refine uS ⟨(ae[n],n),(aH _ _).mem_iff.mpr (mem_zipIdx_iff_getElem?.mpr (vU h)),rr⟩
def Wl (ae:LD)(n:Nat):Int:=(jF (m9 ae) (n:Int):Nat)
def SG {α:Type}[DecidableEq α]{l:List α}{b:α}(h:b∈l):jF l b<l.length:=List.findIdx_lt_length.mpr ⟨b,h,yc rr⟩
theorem we:∀l:LI,fD (l.map .int)=some l
 |[]=>rr
 |a::l=>by simp[fD,we l]
def Ld {ae:LD}(g:∀r∈ae,bd r)(hl:ae.length<=60):xB [.tup ae,.lst ((m9 ae).map .int)]=sJ (Az (Wl ae) ae):=by
 have hc:=gI (fi:=yJ (am 0)) (nT:=2) (cap:=[1]) (tg:=C3 [0,1]) (fe:=fA cG (ak (f2 (zp T7) (am 2) (am 0)) (ak (nY 1 1) a0))) (ρ:=[sJ ae,sL ((m9 ae).map .int)]) ae.zipIdx (λx=>.tup [.int x.2,x.1]) (λx=>SE _ x.1)
  (by simp[rT]) s9 λx hx=>by
   obtain⟨h,k,ai,e,_⟩:=g x.1 (List.fst_mem_of_mem_zipIdx hx);have hn:=(vV (mem_zipIdx_iff_getElem?.mp hx)).1;refine⟨_,rr,false,a5 [.int (Wl ae x.2),.tup (.str k::ai)] (aO (aX (.lst ((m9 ae).map .int)) (.int x.2) (by simp[cc]) (by simp[cc]) ?_) (aO (by rw[e];simp[cc,row,JP]) rr)) ?_⟩
   .show(fD _).bind _=_;rw[we];exact if_pos (SG (xW hn))
   .rw[e];exact aZ _ H9
 refine ah rr (aj (a5 _ (a8 (b:=true) hc rr) ?_));rfl
theorem Le {α:Type}[DecidableEq α]:∀ {l:List α}{b:α}(i:Nat),b∈l->(jF l b<=i↔b∈l.take (i+1))
 |a::l,b,i,h=>by
  unfold jF;rw[List.findIdx_cons];by_cases e:a=b
  .simp[e]
  .have hb:=(vP h).resolve_left λz=>e z.symm;rw[ye e];cases i with
   |zero=>simp[Ne.symm e]
   |succ i=>
    have:=Le i hb;simp_all[jF,Ne.symm]
noncomputable def SH (st:LD×Bool)(m:Nat)(b:Bool):LD×Bool:=(if(b != st.2)=true then st.1++[.tup [.int m,.bl b]]else st.1,b)
def sT (ae:LD)(B:Nat->Bool):Nat->LD×Bool
 |0=>([],false)
 |i+1=>SH (sT ae B i) ((m8 ae).getD i (.non,0)).2 (B i)
theorem Lf (ae:LD)(B:Nat->Bool):∀i,(sT ae B i).1.length<=i/\∀d∈(sT ae B i).1,∃(m:Nat)(b:Bool),d=.tup [.int m,.bl b]
 |0=>⟨vT _,λ_ h=>nomatch h⟩
 |i+1=>by
  obtain⟨h1,h2⟩:=Lf ae B i;show(SH _ _ _).1.length<=_/\∀d∈(SH _ _ _).1,_;unfold SH;split
  .grind
  .exact⟨le_succ_of_le h1,h2⟩
def Wm (a b:Bool):HM (.bl a) (.bl b)=sO (a != b):=by cases a<;>cases b<;>rfl
def Ow {ρ:DL.Env}{it io ib ih:Nat}{st:LD×Bool}{m:Nat}{b:Bool}(hl:st.1.length<=100)(M:ρ[it]? = some (lT st.1))(e2:ρ[ib]? = some (sO b))(O:ρ[ih]? = some (sO st.2))(U:ρ[io]? = some (sI m))(a:it≠ib):
  cb (A7 (bW (f2 HM (am ib) (am ih))) (tJ it (fA cG (fV io (fV ib a0)))) qG) (eQ ih (am ib)) ρ=some (.nx ((ρ.set it (lT (SH st m b).1)).set ih (sO b))):=by
 have t:bW (f2 _ (am ib) (am ih)) ρ=some _:=cw (aX (.bl b) (.bl st.2) (by simp[e2]) (by simp[O]) (Wm _ _));unfold SH;cases h:b != st.2 with
 |true=>
  rw[h]at t;refine bR (mh t (iE M (a5 [.int m,.bl b] (by simp[U,e2]) (aZ _ H9)) rr (bu N9))) ?_;simp_all
 |false=>
  rw[h]at t;rw[if_neg P9];have hs:ρ.set it (lT st.1)=ρ:=by
   apply ext_getElem?;intro j;rw[List.getElem?_set];split
   .grind
   .rfl
  rw[hs];exact bR (jX t rr) (ej (b:=false) (by simp[e2]) rr)
def hB (ae:LD)(day:Int)(n i:Nat):Bool:=decide (n∈fQ (Az (Wl ae) ae) (i:Int) day)
section
variable {zs:LS}{ae:LD}(g:GR zs ae) (hl:ae.length<=18) (day:Int) (n:Nat)
include g hl
theorem BZ:oG [.tup ae,.int day,.int n]=lT (sT ae (hB ae day n) ae.length).1:=by
 have gk:∀r∈ae,bd r:=λr h=>by obtain⟨j,c⟩:=g.mem h;exact c.k
 obtain⟨P,O⟩:∃P,P=Az (Wl ae) ae:=⟨_,rr⟩;have f:aQ (.tup P)=true:=by
  subst O;exact ba λd hd=>(qw g _ hd).1.flat
 have ed:qO ((m9 ae).map .int)=(m8 ae).zipIdx.map λy=>.tup [.int y.2,.int y.1.2]:=by
  simp_all[m9,rT,List.zipIdx_map]
 obtain⟨ρ',e,U,a,M,rfl⟩:=cW (tg:=C3 [7,8]) (g:=rN) (λi ρ=>∃U a M:OB,ρ=[sJ ae,sI day,sI n,sL ((m9 ae).map .int),sJ P,lT (sT ae (hB ae day n) i).1,sO (sT ae (hB ae day n) i).2,U,a,M])
  ((m8 ae).zipIdx.map λy=>.tup [.int y.2,.int y.1.2]) _ ⟨none,none,none,rr⟩ (by
   rintro i d ρ hd ⟨U,a,M,rfl⟩;rw[vA,List.getElem?_zipIdx]at hd;cases hx:(m8 ae)[i]? with
   |none=>rw[hx]at hd;cases hd
   |some x=>
    rw[hx]at hd;simp only[Option.map_some,zero_add,Option.some.injEq]at hd;subst hd;have hi:i<ae.length:=by have:=(vV hx).1;rw[nX]at this;exact this
    have q:=(Lf ae (hB ae day n) i).1;have l:ZQ nF (fV 4 (fV 7 (fV 1 (fV 2 a0)))) [sJ ae,sI day,sI n,sL ((m9 ae).map .int),sJ P,lT (sT ae (hB ae day n) i).1,sO (sT ae (hB ae day n) i).2,sI i,sI x.2,M]=sO (hB ae day n i):=by
     subst O;exact G4 g _ hl i day n
    have o:((m8 ae).getD i (.non,0)).2=x.2:=by simp_all
    refine⟨_,_,rr,.inl (eC (.bl (hB ae day n i)) l rr (Ow (it:=5) (io:=8) (ib:=9) (ih:=6) (m:=x.2) (b:=hB ae day n i) N9 rr rr rr rr P9)),sI i,sI x.2,sO (hB ae day n i),?_⟩;show _=[_,_,_,_,_,lT (SH _ _ _).1,_,_,_,_];rw[o];rfl)
 have hz:((m8 ae).zipIdx.map λy=>D.tup [.int y.2,.int y.1.2]).length=ae.length:=by simp_all[nX]
 rw[hz]at e;have p:Y8 [3] (AW (yJ (am 3)) (C3 [7,8]) rN) [sJ ae,sI day,sI n,lT ((m9 ae).map .int),sJ P,lT [],sO false,none,none,none]=_:=fX (by rw[<-ed];rfl) e;exact ah rr (bw (a5 [.tup ae] rr (G6 gk N9)) (zv _) (eC (.tup P) (a5 _ rr ((Ld gk N9).trans (by rw[O]))) f (bw (ds:=[]) (a5 [] rr (cD _ H9)) rr (eC (.bl false) rr rr (bR p (fW rr))))))
end
def PN (w:D):Prop:=w=.non\/∃s,w=.str s
noncomputable def wh4:D->D
 |.tup [_,.tup (_::ai)]=>ai.getD 4 .non
 |_=>.non
def TB (ae:LD)(n:Nat):D:=wh4 (ae.getD (pend ae 60 n) .non)
def PW.wh (p:PW r x w):wh4 r=w:=by
 obtain⟨a,k,d,b,m,M,hk,rfl,_⟩:=p;rfl
section
variable {ae:LD}(g:∀r∈ae,bd r) (gw:∀r∈ae,pX r) (hl:ae.length<=30) (aa:Int) (hn:((bo (ag ae aa)).map (aq 0)).Nodup) (ho:(ci (ag ae aa)).length<=60)
include g gw hl
theorem EO {day:Int}{n:Nat}(h:n∈fQ ae aa day):PN (TB ae n)/\oD [.tup ae,.int n]=some (TB ae n,false):=by
 refine cX λG K=>?_;obtain⟨h1,h2⟩:=vN (vN h).1;obtain⟨q,x,w,e,k,hk,O,hq,M,U,e2⟩:=sU g gw hl _ (gg.mp h1) h2;apply K;have a:TB ae n=w:=by
  unfold TB;rw[O.pend 60 hk,vF,hq];exact M.wh
 rw[a];refine⟨?_,ah rr (aj (a5 _ (aO (a5 _ rr U) rr) M.whom))⟩;refine cX λG K=>?_;obtain⟨_,_,_,_,_,_,_,_,hw⟩:=M;apply K;exact hw
end
def Ox (ae:LD)(aa:Int)(n:Nat):D:=match jy [.tup ae,.int aa,.int n] with
 |some (v,_)=>v
 |none=>.non
def xX (ae:LD)(aa day:Int):LD:=(fQ ae aa day).map λ(n:Nat)=>.tup [.int (n:Int),TB ae n,Ox ae aa n]
section
variable {ae:LD}(g:∀r∈ae,bd r/\pX r/\Rq r) (hl:ae.length<=30)
include g hl
theorem xY {B:LD}(U:∀r∈B,bd r){k:Int}(hk:∀n r,Kn k ae n r↔Kn k B n r)(n:Nat):(∃b,jy [.tup ae,.int k,.int n]=some (Ox ae k n,b))/\Gv (Ox ae k n)/\Ox B k n=Ox ae k n:=by
 obtain⟨v,b,gv,O,e2⟩:=K8 (λr M=>(g r M).2.2) (λr M=>(g r M).1) U hk hl n;rw[show Ox ae k n=v by unfold Ox;rw[O],show Ox B k n=v by unfold Ox;rw[e2]];exact⟨⟨b,O⟩,gv,rr⟩
theorem G7 (aa day:Int):aG 40 (.lst (xX ae aa day))=true:=by
 show(xX _ _ _).all _=true;rw[all_eq_true];intro d hd;obtain⟨n,hn,rfl⟩:=vO hd;have h1:=(EO (λr M=>(g r M).1) (λr M=>(g r M).2.1) hl _ hn).1;have h2:=(xY g hl (λr M=>(g r M).1) (λ_ _=>Iff.rfl) n (k:=aa)).2.1;have h2:=jz 20 38 _ P9 h2;rcases h1 with h|⟨s,h⟩<;>rw[h]<;>simp[h2]
theorem G8 {aa:Int}(hn:((bo (ag ae aa)).map (aq 0)).Nodup)(U:(ci (ag ae aa)).length<=60)(day:Int):nG [.tup ae,.int aa,.int day]=lT (xX ae aa day):=by
 have hk:=λr M=>(g r M).1;have hw:=λr M=>(g r M).2.1;have e:=sV hk hw hl _ hn U day;have c:(fQ ae aa day).length<=60:=by
  refine vR (vM _ _) (vR (vM _ _) ?_);unfold nR;rw[(aH _ _).length_eq];exact lx hl _ _
 refine ah rr (aj (gI _ _ _ (by show(fA _ _ _).bind _=_;rw[a5 _ rr e];rfl) N9 λn O=>?_));obtain⟨b,a⟩:=(xY g hl (λr M=>(g r M).1) (λ_ _=>Iff.rfl) n ).1;exact⟨[sF _,sF _,sF _],rr,false,a5 _ (aO rr (aO (a5 _ rr (EO hk hw hl _ O).2) (a8 (a5 _ rr a) rr))) (aZ _ H9)⟩
end
section
variable {ae:LD}{aa:Int}
theorem Lg {S T:LN}(h:∀m∈S,m∈T)(b:Bs)(k:hJ S b=true):hJ T b=true:=by
 unfold hJ at k |-;rw[Bool.or_eq_true]at k |-;grind
def Oy (h:m∈S):m∈dJ S p:=by
 grind[dJ]
theorem EQ:∀(q:List (Nat×List Bs))(S:LN),m∈S->m∈q.foldl dJ S
 |[],_,h=>h
 |_::q,_,h=>EQ q _ (Oy h)
theorem t0:∀(l:List (Nat×List Bs))(S:LN)(n:Nat),n∈l.foldl dJ S->n∈S\/∃p∈l,p.1=n/\p.2.any (hJ (l.foldl dJ S))=true
 |[],S,n,h=>.inl h
 |p::l,S,n,h=>by
  rcases t0 l _ n h with z|⟨M,hp,e,k⟩
  .grind[dJ,Lg,EQ]
  .exact .inr ⟨M,mZ _ hp,e,k⟩
def G9 {day:Int}{n:Nat}{r:D}(g:∀r∈ae,bd r)(O:ae[n]? = some r)(hn:n∈bK ae aa day)(U:kindOf r = "copy"):(cN 2 r).toNat∈bK ae aa day:=by
 rcases t0 _ _ _ hn with z|⟨p,hp,e,hb⟩
 .cases z
 .obtain⟨x,hx,rfl⟩:=vO hp;have hx':=aR (vN ((aH _ _).mem_iff.mp (vN hx).1)).1;have c:x.2=n:=e;rw[c,O]at hx';have ex:x=(r,n):=by rw[<-c,vK hx']
  subst ex;obtain⟨a,d,f,m,er⟩:=m6 (g _ (vL O)) U;have en:cN 2 r=m:=by rw[er];rfl
  have hb:(kP _ _ _).any (hJ (bK _ _ _))=true:=hb;unfold kP nO at hb;rw[if_pos U,en]at hb;split at hb
  .obtain⟨b,hb1,M⟩:=List.any_eq_true.mp hb;rw[uT hb1]at M;have:((bK ae aa day).any λn=>decide ((n:Int)=(m:Int)))=true:=by simpa [hJ]using M
   rw[xO]at this;rw[en];exact ET this
  simp_all
end
section
variable {A B:LD}{aa:Int}(gA:∀r∈A,bd r/\pX r/\Rq r) (gB:∀r∈B,bd r/\pX r/\Rq r) (lA:A.length<=30) (lB:B.length<=30) (hk:ag A aa=ag B aa)
include hk
theorem ER (n:Nat)(r:D):Kn aa A n r↔Kn aa B n r:=by
 have m:∀L ,(r,n)∈ag L aa↔Kn _ L n r:=λL=>by
  unfold ag Kn;rw[mem_filter,List.mk_mem_zipIdx_iff_getElem?,decide_eq_true_eq]
 rw[<-m A,<-m B,hk]
theorem Lh (day:Int):bK A aa day=bK B aa day:=by rw[ly,ly,hk]
include gA lA
theorem Oz {day:Int}{n k e:Nat}(p:Pb A k n e):n∈bK A aa day->Pb B k n e/\B[e]? = A[e]?:=by
 have O:=λr M=>(gA r M).1;have U:=λr M=>(gA r M).2.1;have at':∀ {n:Nat}{r:D},A[n]? = some r->n∈bK A _ _->B[n]? = some r:=λ{n r} h hn=>by
  obtain⟨c,h1,h2,_⟩:=nU O U _ day n hn;rw[h]at h1;cases h1
  exact((ER hk n r).mp ⟨h,h2⟩).1
 induction p with
 |here n r x w h p=>exact λhn=>⟨.here n r x w (at' h hn) p,by rw[at' h hn,h]⟩
 |copy k n m e a d b h p ih=>
  intro hn;have hm:=G9 O h hn rr;exact⟨.copy k n m e a d b (at' h hn) (ih hm).1,(ih hm).2⟩
include gB lB
theorem SJ (day:Int):xX A aa day=xX B aa day:=by
 have a:=λr O=>(gA r O).1;have b:=λr O=>(gA r O).2.1;have hp:∀n∈bK A aa day,E9 B n=E9 A n:=λn hn=>by
  obtain⟨r,h1,h2,_⟩:=nU a b aa day n hn;unfold E9;rw[h1,((ER hk n r).mp ⟨h1,h2⟩).1]
 have hd:∀n∈bK A aa day,E9 A n=true->B.getD (pend B 60 n) .non=A.getD (pend A 60 n) .non:=λn hn h=>by
  refine cX λG g=>?_;obtain⟨q,x,w,e,k,M,c,hq,_⟩:=sU a b lA aa hn h;obtain⟨U,he⟩:=Oz gA lA hk c hn;apply g;rw[c.pend 60 M,U.pend 60 M,vF,vF,he]
 have hh:fQ A aa day=fQ B aa day:=by
  unfold fQ;rw[<-Lh hk day];have d:=filter_congr λn hn=>hp n (gg.mp hn);rw[d];refine filter_congr λn hn=>?_;obtain⟨h1,h2⟩:=vN hn;unfold Pw;rw[hd n (gg.mp h1) h2]
 unfold xX;rw[<-hh];refine List.map_congr_left λn hn=>?_;obtain⟨h1,h2⟩:=vN (vN hn).1;unfold TB;rw[hd n (gg.mp h1) h2,(xY gA lA (λr O=>(gB r O).1) (ER hk) n).2.2]
end
def Ro (zs:LS)(k:Nat)(r:D):Prop:=∃(h:Int)(kind:Str)(ai:LD)(day:Nat),r=row h kind ai/\(day:Int)<=h/\h<=9999/\Dw zs k day kind ai
def Alk (aa:Int)(r q:D):Prop:=(aw r<=aa/\q=r)\/(¬aw r<=aa/\¬aw q<=aa/\(q=r\/aD q=false\/(aD r=true/\aq 0 q=aq 0 r)))
inductive Lx (aa:Int):List D->List D->Prop
 |nil:Lx aa [] []
 |snoc (A B:List D) (r q:D) (h:Lx aa A B) (k:Alk aa r q):Lx aa (A++[r]) (B++[q])
def Lx.len {aa:Int}{A B:LD}(h:Lx aa A B):B.length=A.length:=by
 induction h with
 |nil=>rfl
 |snoc A B r q h k ih=>rw[uZ,uZ,ih];rfl
def mB (aa:Int)(A:LD)(r:D):ag (A++[r]) aa=ag A aa++(if aw r<=aa then [(r,A.length)]else []):=by
 unfold ag;rw[List.zipIdx_append,List.filter_append];rw[List.zipIdx_cons,zero_add];by_cases h:aw r<=aa
 .rw[if_pos h,List.filter_cons_of_pos (by simpa using h)];rfl
 .rw[if_neg h,List.filter_cons_of_neg (by simpa using h)];rfl
def Lx.heard {aa:Int}{A B:LD}(h:Lx aa A B):ag A aa=ag B aa:=by
 induction h with
 |nil=>rfl
 |snoc A B r q h k ih=>
  rw[mB,mB,ih,h.len];rcases k with⟨k,rfl⟩|⟨k1,k2,_⟩
  .rfl
  .rw[if_neg k1,if_neg k2]
def Lx.offs {aa:Int}{A B:LD}(h:Lx aa A B):(eK B).Sublist (eK A):=by
 induction h with
 |nil=>exact List.Sublist.refl _
 |snoc A B r q h k ih=>
  rw[oR,oR];refine ih.append ?_;have same:∀ {x:D},x=r->(if aD x=true then [aq 0 x]else []).Sublist (if aD r=true then [aq 0 r]else []):=λe=>e ▸ List.Sublist.refl _;rcases k with⟨_,e⟩|⟨_,_,e|e|⟨M,e2⟩⟩
  .exact same e
  .exact same e
  .rw[e];exact List.nil_sublist _
  .split
   .rw[e2];exact List.Sublist.refl _
   .exact List.nil_sublist _
def A0 {lo:Int}{n k:Nat}{d:D}(h:(cS lo n)[k]? = some d):d=.int (lo+k)/\k<n:=by
 unfold cS at h;rw[vA]at h;obtain⟨j,hj,rfl⟩:=oY h;obtain⟨h1,h2⟩:=vV hj;rw[getElem_range]at h2;rw[length_range]at h1;subst h2;exact⟨rr,h1⟩
section
variable {ns:LI}(hf:Pg ns) {zs:LS}(z7:Nm7 zs) {ae:LD}(g:GR zs ae) (hl:ae.length<=18) {aa:Nat}(GG:aa<12)
noncomputable abbrev oE (ns:LI)(zs:LS)(ae:LD)(aa:Nat)(M:LD)(O U a b:OB):DL.Env:=[sL (ns.map .int),sL ae,sI aa,sL (zs.map .str),lT M,O,U,a,b]
abbrev oC:FT:=gm (bW (f2 OS (f2 dM (f2 dM (am 4) (f1 Fp (fI 1))) (fI 0)) (am 2))) (bW (f2 kU (f2 ji (fA ky (fV 0 (ak (f2 iD (fI 30) (fA jR (fV 4 a0))) a0))) (fI 4)) (fI 1)))
include hf z7 g hl GG
theorem Li {i:Nat}{r:D}(j:ae[i]? = some r)(M:LD)(B:M.length<=30)(v w A:OB):∃q C E F,kB (oE ns zs ae aa M (sI i) v w A)=some (.nx (oE ns zs ae aa (M++[q]) (sI i) C E F))/\Alk aa r q/\Ro zs i q:=by
 have hi:=(vV j).1;obtain⟨c,G⟩:=i7 hf (30+i) N9;obtain⟨a,kind,ai,day,rfl,h1,h2,K,t⟩:=g.at_ i r j;obtain⟨z,hz,H⟩:=dm zs D.str (ρ:=oE ns zs ae aa M (sI i) (sI a) (sJ (.str kind::ai)) (sI c)) (fl:=am 3) (fx:=f2 fJ (am 8) (fI 3)) (b:=false) (a:=c / 3) (m:=5) rr (qt rr P9 P9) P9 (by rw[z7.len];decide);have u:z∈zs:=mem_of_mem_take hz;have fd:aQ (.tup (.str kind::ai))=true:=by have:=t.dd.flat;simpa using this
 have O:∀ {T:FS}{res:Option Res},T _=res->cb (yG [6,7] (f2 dM (am 1) (am 5))) (cb (eQ 8 (fA ky (fV 0 (ak (f2 iD (fI 30) (am 5)) a0)))) T) (oE ns zs ae aa M (sI i) v w A)=res:=λI=>
  Sn (x:=.int a) (y:=.tup (.str kind::ai)) (b:=false) (aX (.lst ae) (.int i) rr rr (by show(lD _ _).map _=_;rw[bc j];rfl)) rr fd (eC (.int c) (a5 _ (aO rr (aO (aX (.int 30) (.int i) rr rr (by show some (D.int (30+(i:Int)),false)=_;rw[show(30:Int)+i=((30+i:Nat):Int) by lia])) rr)) G) rr I)
 have e:∀(x:Int)(n:OB),bW (f2 OS (am 6) (am 2)) (oE ns zs ae aa M (sI i) (sI x) n (sI c))=some (decide (x > aa)):=λx n=>cw (aX (.int x) (.int aa) rr rr rr);have f:∀(x k:Int)(n:OB),bW (f2 kU (f2 ji (am 8) (fI 3)) (fI k)) (oE ns zs ae aa M (sI i) (sI x) n (sI c))=some (decide (c % 3=k)):=λx k n=>cw (aX (.int (c % 3)) (.int k) (im rr P9) rr H9);have U:∀(x:Int)(k:Str)(l:LD),aQ (.tup (.str k::l))=true->tJ 4 (fA cG (fV 6 (fV 7 a0))) (oE ns zs ae aa M (sI i) (sI x) (sJ (.str k::l)) (sI c))=some _:=λx k l hf=>iE (ds:=M) (d:=row x k l) (b:=false) rr (a5 [.int x,.tup (.str k::l)] rr (aZ _ H9)) (by simpa [row]using hf) (bu N9);have no:∀ {p q:Prop}[Decidable p] [Decidable q] {o c2:FT}{ρ:DL.Env},o ρ=some (decide p)->c2 ρ=some (decide q)->¬(p/\q)->gm o c2 ρ=some false:=λ{p q _ _ o c2 ρ} e1 e2 h=>(bS e1 λ_=>e2).trans (by
  by_cases hp:p
  .rw[decide_eq_false (p:=q) (λhq=>h ⟨hp,hq⟩),Bool.and_false]
  .rw[ye hp];rfl)
 by_cases ha:a > aa
 .have s:¬aw (row a kind ai)<=aa:=by show ¬a<=_;lia
  by_cases J:c % 3=0
  .let x:Int:=a+1+c / 3 % 50;refine⟨row x kind ai,_,_,_,O (bR (mh ((bS (e a _) λ_=>f a 0 _).trans (by rw[yc ha,yc J];rfl)) (ej (d:=.int x) (b:=false) (aX (.int (a+1)) (.int (c / 3 % 50)) (aX (.int a) (.int 1) rr rr rr) (im (qt rr P9 P9) P9) rr) rr)) (ao (no (e x _) (f x 1 _) N9) (U x kind ai fd))),.inr ⟨s,by show ¬x<=_;lia,?_⟩,x,kind,ai,day,rr,N9,N9,t⟩;by_cases j:kind = "root"
   .subst j;exact .inr (.inr ⟨rr,rr⟩)
   .exact .inr (.inl (ye j))
  .by_cases o:c % 3=1
   .refine⟨row a "death" [.int aa,.str z],_,_,_,O (ao (no (e a _) (f a 0 _) N9) (bR (mh ((bS (e a _) λ_=>f a 1 _).trans (by rw[yc ha,yc o];rfl)) (ej (b:=false) (a5 [.str "death",.int aa,.str z] (aO rr (aO rr (aO H rr))) (aZ _ H9)) rr)) (U a "death" [.int aa,.str z] rr))),.inr ⟨s,s,.inr (.inl (ye (show ¬("death" : Str) = "root" by decide +kernel)))⟩,a,"death",_,aa,rr,N9,N9,EL z7 GG u "death" (.inl rr)⟩
   .exact⟨row a kind ai,_,_,_,O (ao (no (e a _) (f a 0 _) N9) (ao (no (e a _) (f a 1 _) N9) (U a kind ai fd))),.inr ⟨s,s,.inl rr⟩,a,kind,ai,day,rr,N9,N9,t⟩
 .exact⟨row a kind ai,_,_,_,O (ao (no (e a _) (f a 0 _) N9) (ao (no (e a _) (f a 1 _) N9) (U a kind ai fd))),.inl ⟨by show a<=_;lia,rr⟩,a,kind,ai,day,rr,N9,N9,t⟩
theorem O0:∀(f:Nat)(M:LD),M.length<f->M.length<=30->0<M.length->(∀r,M[0]? = some r->aw r<=aa)->(∀r∈M,bd r)->∀O U b d,∃m,0<m/\m<=M.length/\ag (M.take m) aa=ag M aa/\cn oC (Iq 4 B6) f (oE ns zs ae aa M O U b d)=some (.nx (oE ns zs ae aa (M.take m) O U b d)):=by
 intro f;induction f with
 |zero=>intro M h;lia
 |succ f ih=>
  intro M n o h0 i gk O U b d;obtain⟨l,q,rfl⟩:∃l q,M=l++[q]:=⟨M.dropLast,M.getLast (List.ne_nil_of_length_pos h0),(List.dropLast_concat_getLast _).symm⟩;have p:(l++[q]).length=l.length+1:=H9
  obtain⟨a,k,ai,rfl,dd⟩:=gk q H9;obtain⟨c,s⟩:=i7 hf (30+(l.length+1)) N9;have t:oC (oE ns zs ae aa (l++[row a k ai]) O U b d)=some (decide (a > aa) && decide (c % 4=1)):=by
   refine bS (cw (aX (.int a) (.int aa) (aX (row a k ai) (.int 0) (aX (.lst (l++[row a k ai])) (.int (-1)) rr rr (by show(lD _ (-1)).map _=_;rw[EC];rfl)) rr (by simp[row,A9])) rr rr)) λ_=>cw (aX (.int (c % 4)) (.int 1) (im (a5 [.lst (ns.map .int),.int ((30+(l.length+1):Nat):Int)] (aO rr (aO (aX (.int 30) (.int ((l++[row a k ai]).length:Nat)) rr (a5 [.lst (l++[row a k ai])] rr ie) ?_) rr)) s) P9) rr H9);show some (D.int (30+((l++[row a k ai]).length:Int)),false)=_;rw[p,show(30:Int)+((l.length+1:Nat):Int)=((30+(l.length+1):Nat):Int) by lia]
  cases hb:(decide (a > aa) && decide (c % 4=1)) with
  |false=>exact⟨(l++[row a k ai]).length,h0,vT _,by rw[take_length],by rw[take_length,cn,t,hb]⟩
  |true=>
   have ha:a > aa:=ET (Bool.and_eq_true_iff.mp hb).1;have j:0<l.length:=by
    rcases l with _|⟨x,l⟩
    .have:aw (row a k ai)<=aa:=i _ rr;have:a<=aa:=this;lia
    .simp
   obtain⟨m,u,m1,hm,e⟩:=ih l N9 N9 j (λr h=>i r (by rw[getElem?_append_left j];exact h)) (λr v=>gk r (mem_append_left _ v)) O U b d;have tk:(l++[row a k ai]).take m=l.take m:=by rw[List.take_append_of_le_length m1]
   refine⟨m,u,N9,?_,?_⟩
   .rw[tk,hm,mB,if_neg (by show ¬a<=_;lia),uQ]
   .rw[tk,cn,t,hb];have w:Iq 4 B6 (oE ns zs ae aa (l++[row a k ai]) O U b d)=some (.nx (oE ns zs ae aa l O U b d)):=by
     show(B6 (l++[row a k ai])).map _=_;unfold B6;rw[if_neg H9,List.dropLast_concat];rfl
    rw[w];exact e
theorem Lj:∃other,iJ [.lst (ns.map .int),.lst ae,.int aa,.lst (zs.map .str)]=lT other/\(∀j r,other[j]? = some r->Ro zs j r)/\0<other.length/\other.length<=ae.length/\ag ae aa=ag other aa/\(eK other).Sublist (eK ae):=by
 obtain⟨ρ',e,B,f,O,U,c,rfl,M,k,l⟩:=cW (tg:=gn 5) (g:=kB) (λi ρ=>∃B f O U c,ρ=oE ns zs ae aa B f O U c/\Lx aa (ae.take i) B/\(∀j r,B[j]? = some r->Ro zs j r)/\B.length=i) (cS 0 ae.length) (oE ns zs ae aa [] none none none none) ⟨_,_,_,_,_,rr,Lx.nil,(λj r h=>by cases h),rr⟩ (by
  rintro i d ρ hd ⟨B,f,O,U,c,rfl,M,k,l⟩;obtain⟨rfl,hi⟩:=A0 hd;have o:=vU hi;obtain⟨q,z,A,C,ex,hk,hq⟩:=Li hf z7 g hl GG o B N9 O U c;rw[Int.zero_add];refine⟨_,_,rr,.inl ex,B++[q],_,_,_,_,rr,?_,λj r h=>?_,by simp[l]⟩
  .rw[take_add_one,o];exact .snoc _ _ _ _ M hk
  .by_cases hj:j<B.length
   .rw[getElem?_append_left hj]at h;exact k j r h
   .rw[getElem?_append_right N9]at h;have:j=i:=by have:=(vV h).1;simp at this;lia
    subst this;rw[l,sub_self]at h;cases h
    exact hq)
 have t:(cS 0 ae.length).length=ae.length:=by unfold cS;rw[vI,length_range]
 rw[t]at M l;rw[take_length]at M;obtain⟨n,p,u⟩:=g.h0;have v:0<ae.length:=(vV p).1;have w:∀r,B[0]? = some r->aw r<=aa:=λr h=>by
  have hh:=M.heard;have s:(n,0)∈ag ae aa:=mem_filter.mpr ⟨List.mk_mem_zipIdx_iff_getElem?.mpr p,yc N9⟩;rw[hh]at s;have:=aR s;rw[show B[((n,0):D×Nat).2]? = some r from h]at this;have:r=n:=vK this;rw[this];lia
 have bk:∀r∈B,bd r:=λr h=>by
  obtain⟨j,hj⟩:=mem_iff_getElem?.mp h;obtain⟨a,kind,ai,day,rfl,_,_,x⟩:=k j r hj;exact⟨a,kind,ai,rr,x.dd⟩
 obtain⟨m,E,m1,hm,y⟩:=O0 hf z7 g hl GG 1000 B N9 N9 N9 w bk f O U c
 .refine⟨B.take m,ah rr (bw (ds:=[]) (a5 [] rr (cD _ H9)) rr (bR (jY (ge (j:=ae.length) (b:=false) (a5 [.lst ae] rr ie) N9) e) (bR y (fW rr)))),λj r h=>k j r ?_,by rw[length_take];lia,by rw[length_take];lia,by rw[hm,M.heard],List.Sublist.trans ?_ M.offs⟩
  .rw[List.getElem?_take]at h;split at h
   .exact h
   .cases h
  .unfold eK;exact((take_sublist m B).filter _).map _
end
theorem wg {α:Type}(p:α->Bool):∀(l:List α),l.Pairwise (λa b=>p b=true->p a=true)->∀(i:Nat)(x:α),l[i]? = some x->(p x=true↔i<(l.filter p).length)
 |a::l,h,i,x,hx=>by
  obtain⟨h1,h2⟩:=pairwise_cons.mp h;cases ha:p a with
  |true=>
   rw[List.filter_cons_of_pos ha,vE];cases i with
   |zero=>cases hx;simp[ha]
   |succ i=>have:=wg p l h2 i x hx;rw[this];lia
  |false=>
   have hn:∀y∈l,p y=false:=λy hy=>by
    cases M:p y with
    |false=>rfl
    |true=>rw[h1 y hy M]at ha;cases ha
   have e:(a::l).filter p=[]:=List.filter_eq_nil_iff.mpr λy hy=>by
    rcases vP hy with rfl|hy
    .rw[ha];decide
    .rw[hn y hy];decide
   rw[e];cases i with
   |zero=>cases hx;simp[ha]
   |succ i=>rw[hn x (vL hx)];simp
def kM (ae:LD)(aa:Int):Nat:=((m8 ae).filter λx=>decide (aw x.1<=aa)).length
def t6 {ae:LD}{i:Nat}{x:D×Nat}(h:(m8 ae)[i]? = some x):ae[x.2]? = some x.1:=mem_zipIdx_iff_getElem?.mp ((aH _ _).mem_iff.mp (vL h))
def Ca (ae:LD)(aa:Int){i:Nat}{x:D×Nat}(h:(m8 ae)[i]? = some x):aw x.1<=aa↔i<kM ae aa:=by
 have:=wg (λx=>decide (aw x.1<=aa)) _ ((eV _ _).imp λ{a b} M hb=>by
  have hl:=qg _ _ _ (xE (hz b) (hz a));rw[ye (show ¬bU _<bU _ from M)]at hl;have:=of_decide_eq_false hl;have h1:¬aw _<aw _:=λz=>this (.inl z);exact yc N9) i x h
 rw[decide_eq_true_eq]at this;exact this
noncomputable def Wn:D->Bool
 |.tup [_,.bl b]=>b
 |_=>false
noncomputable def Wo:D->Nat
 |.tup [.int m,_]=>m.toNat
 |_=>0
def trS (ae:LD)(aa:Int)(s:Bool×Bool)(d:D):Bool×Bool:=(if aw (ae.getD (Wo d) .non)<=aa then Wn d else s.1,Wn d)
noncomputable def tr (ae:LD)(aa:Int)(l:LD):Bool×Bool:=l.foldl (trS ae aa) (false,false)
def ES (ae:LD)(aa:Int)(l:LD)(d:D):tr ae aa (l++[d])=trS ae aa (tr ae aa l) d:=by unfold tr;rw[List.foldl_append];rfl
theorem P5 (ae:LD)(aa:Int)(B:Nat->Bool):∀i,i<=ae.length->(∀(k m:Nat)(b:Bool),(sT ae B i).1[k]? = some (.tup [.int m,.bl b])->(b == (tr ae aa ((sT ae B i).1.take k)).2)=false/\m<ae.length)/\(tr ae aa (sT ae B i).1).2=(sT ae B i).2/\(tr ae aa (sT ae B i).1).1=(sT ae B (min i (kM ae aa))).2
 |0,_=>⟨λk m b h=>by simp[sT]at h,rr,by rw[Nat.zero_min];rfl⟩
 |i+1,hi=>by
  obtain⟨h1,h2,h3⟩:=P5 ae aa B i N9;obtain⟨x,hx⟩:∃x,(m8 ae)[i]? = some x:=⟨_,vU (by rw[nX];lia)⟩;have a:((m8 ae).getD i (.non,0)).2=x.2:=by rw[vF,hx];rfl
  have O:=t6 hx;have U:=Ca ae aa hx;have e2:(sT ae B (i+1)).2=B i:=rr;have M:(sT ae B (i+1)).1=if(B i != (sT ae B i).2)=true then (sT ae B i).1++[.tup [.int x.2,.bl (B i)]]else (sT ae B i).1:=by rw[<-a];rfl
  have c:(sT ae B (min (i+1) (kM ae aa))).2=if i<kM ae aa then B i else (sT ae B (min i (kM ae aa))).2:=by
   by_cases h:i<kM ae aa
   .rw[if_pos h,show min (i+1) (kM ae aa)=i+1 by lia];exact e2
   .rw[if_neg h,show min (i+1) (kM ae aa)=min i (kM ae aa) by lia]
  rw[e2,c];cases hb:(B i != (sT ae B i).2) with
  |false=>
   rw[hb]at M;have hb:B i=(sT ae B i).2:=by simpa using hb
   rw[M,if_neg P9];refine⟨h1,by rw[h2,hb],?_⟩;rw[h3];split
   .rw[show min i (kM ae aa)=i by lia,hb]
   .rfl
  |true=>
   rw[hb,if_pos rr]at M;rw[M,ES];refine⟨λk m b h=>?_,rr,?_⟩
   .by_cases hk:k<(sT ae B i).1.length
    .rw[getElem?_append_left hk]at h;rw[List.take_append_of_le_length N9];exact h1 k m b h
    .rw[getElem?_append_right N9]at h;have:k=(sT ae B i).1.length:=by have:=(vV h).1;simp at this;lia
     subst this;rw[sub_self]at h;have h:=vK h;simp only[D.tup.injEq,List.cons.injEq,D.int.injEq,D.bl.injEq,and_true]at h;rw[List.take_left' rr,h2,<-h.2];have:=(vV O).1;lia
   .show(if aw _<=aa then B i else (tr ae aa (sT ae B i).1).1)=_;rw[show Wo (.tup [.int x.2,.bl (B i)])=x.2 from rr,show ae.getD x.2 .non=x.1 by rw[vF,O];rfl,h3];by_cases h:i<kM ae aa
    .rw[if_pos (U.mpr h),if_pos h]
    .rw[if_neg λz=>h (U.mp z),if_neg h]
def O1 {ae:LD}(g:∀r∈ae,bd r)(aa:Int)(T:LD)(c:∀d∈T,∃(m:Nat)(b:Bool),d=.tup [.int m,.bl b])(O:∀(k m:Nat)(b:Bool),T[k]? = some (.tup [.int m,.bl b])->(b == (tr ae aa (T.take k)).2)=false/\m<ae.length):rP [.lst ae,.lst T,.int aa]=sO (tr ae aa T).1:=by
 let E:Bool×Bool->Option _->Option _->DL.Env:=λs u v=>[sL ae,sL T,sI aa,sO s.1,sO s.2,u,v];obtain⟨ρ',e,u,v,rfl⟩:=cW (tg:=C3 [5,6]) (g:=Gb) (λk ρ=>∃u v,ρ=E (tr ae aa (T.take k)) u v) T _ ⟨_,_,rr⟩ (by
  rintro k d ρ hd ⟨u,v,rfl⟩;obtain⟨m,b,rfl⟩:=c d (vL hd);obtain⟨h1,h2⟩:=O k m b hd;have M:=vU h2;obtain⟨a,kd,ai,er,_⟩:=g _ (vL M);rw[er]at M;have tk:T.take (k+1)=T.take k++[.tup [.int m,.bl b]]:=by rw[take_add_one,hd];rfl
  have f:tr ae aa (T.take (k+1))=(if a<=aa then b else (tr ae aa (T.take k)).1,b):=by
   rw[tk,ES];show(if aw (ae.getD m .non)<=aa then b else _,b)=_;rw[vF,M];rfl
  rw[f];generalize tr ae aa _=s at h1;obtain⟨s1,s2⟩:=s;have i:bW (f2 kU (am 6) (am 4)) (E (s1,s2) (sI m) (sO b))=some false:=cw (aX (.bl b) (.bl s2) rr rr (by rw[RZ,h1]));have U:bW (f2 L1 (f2 dM (f2 dM (am 0) (am 5)) (fI 0)) (am 2)) (E (s1,b) (sI m) (sO b))=some _:=cw (aX (.int a) _ (aX _ (.int 0) (aX _ (.int m) rr rr (by show(lD _ _).map _=_;rw[bc M];rfl)) rr (by simp[row,A9])) rr rr);refine⟨E (s1,s2) _ _,E _ (sI m) (sO b),rr,.inl (ao i (eC (.bl b) rr rr ?_)),_,_,rr⟩;by_cases h:a<=aa
  .rw[if_pos h];exact mh (U.trans (by rw[yc h])) (ej rr rr)
  .rw[if_neg h];exact jX (U.trans (by rw[ye h])) rr)
 rw[take_length]at e;exact ah rr (eC _ rr rr (eC _ rr rr (bR (fX rr e) (fW rr))))
section
variable {zs:LS}{ae:LD}(g:GR zs ae) {aa:Nat}
include g
theorem GA (day:Int)(n:Nat):(sT ae (hB ae day n) (min ae.length (kM ae aa))).2=decide (n∈fQ ae aa day):=by
 have c:kM ae aa<=ae.length:=by rw[<-nX ae];exact vM _ _
 have M:∀ {m:Nat}{r:D},ae[m]? = some r->(aw r<=aa ↔ ∃i,i<kM ae aa/\(m9 ae)[i]? = some (m:Int)):=λ{m r} hr=>by
  constructor
  .intro h;obtain⟨i,hi⟩:=mem_iff_getElem?.mp (xW (vV hr).1);refine⟨i,?_,hi⟩;unfold m9 at hi;rw[vA]at hi;refine eB hi λx hx e=>?_;have U:x.2=m:=N9
   have O:=t6 hx;rw[U,hr]at O;exact(Ca ae aa hx).mp (by rw[<-vK O];exact h)
  .rintro⟨i,hi,h⟩;unfold m9 at h;rw[vA]at h;refine eB h λx hx e=>?_;have U:x.2=m:=N9
   have O:=t6 hx;rw[U,hr]at O;rw[vK O];exact(Ca ae aa hx).mpr hi
 obtain⟨d,a,b⟩:=g.h0;obtain⟨j,hj⟩:∃j,kM ae aa=j+1:=by
  obtain⟨i,hi,_⟩:=(M a).mp N9;exact⟨kM ae aa - 1,N9⟩
 rw[show min ae.length _=j+1 by lia];refine congrArg (λl=>decide (n∈l)) (Gw (λm=>decide (aw (ae.getD m .non)<=aa)) (Lb g _) (λm r h=>?_) (λm r h=>by rw[vF,h];rfl) day);obtain⟨q,hq,_⟩:=xV h;have hm:=(vV hq).1;rw[G5 g _ _ m r h];refine decide_eq_decide.mpr ?_;rw[vF,hq];show _↔aw q<=aa;rw[M hq,hj];have:=Le j (xW hm);unfold Wl;rw[Int.ofNat_le,this,List.mem_take_iff_getElem];constructor
 .rintro⟨i,hi,e⟩;exact⟨i,N9,by rw[vU N9,e]⟩
 .rintro⟨i,hi,e⟩;obtain⟨h1,h2⟩:=vV e;exact⟨i,N9,h2⟩
end
def SK {ae:LD}(hl:ae.length<=30)(aa:Int):(ci (ag ae aa)).length<=60:=by
 unfold ci;rw[(aH _ _).length_eq];exact vR (vM _ _) (vR (bJ _ _) N9)
def Lk (cs:List Cl):aG 40 (.lst (cs.map aV))=true:=by
 show(cs.map _).all _=true;rw[all_eq_true];intro d hd;obtain⟨c,_,rfl⟩:=vO hd;obtain⟨o,p,s,u,n⟩:=c;cases u<;>rfl
def qx {d:D}(h:aG 40 d=true):HM d d=sO false:=by unfold HM;rw[if_pos ⟨h,h⟩,rQ 40 d h];rfl
def t7 (l:LN):aG 40 (.lst (l.map λ(n:Nat)=>.int (n:Int)))=true:=by
 show(l.map _).all _=true;rw[all_eq_true];intro d hd;obtain⟨n,_,rfl⟩:=vO hd;rfl
def GB (zs:LN):aN (zs.map λ(m:Nat)=>D.int (m:Int))=true:=ba λd hd=>by obtain⟨x,_,rfl⟩:=vO hd;rfl
def Ll {A B:LD}{aa:Int}(hk:ag A aa=ag B aa)(n:Nat)(r:D)(day:Int):iK A aa n r day=iK B aa n r day:=by
 have h:∀L ,(ag L aa).filter (λx=>Ad L _ n r day _)=(ag L _).filter λx=>Aj _ n r _ _:=λL=>filter_congr λy hy=>by
  unfold Ad Aj;rw[oZ (ET (vN hy).2)]
 unfold iK;rw[h A,h B,hk]
structure Gd (zs:List Str)(L:List D)(aa:Int):Prop where
 k:∀r∈L,bd r/\pX r/\Rq r
 l:L.length<=18
 n:((bo (ag L aa)).map (aq 0)).Nodup
section
variable {zs:LS}{L:LD}{aa:Int}(g:Gd zs L aa)
include g
theorem Gd.gk:∀r∈L,bd r:=λr h=>(g.k r h).1
theorem Gd.gc:eP L:=⟨by have:=g.l;lia,λr h=>(g.gk r h).c⟩
theorem Gd.o:(ci (ag L aa)).length<=60:=SK (by have:=g.l;lia) _
theorem Gd.cl:nD [.tup L,.int aa]=lT ((aU (ag L aa)).map aV):=(oQ g.gc _ g.o).1
theorem Gd.st (day:Int):fq [.tup L,.int aa,.int day]=lT (nQ (bK L aa day)):=pM g.gk (by have:=g.l;lia) _ g.n g.o _
theorem Gd.ju (day:Int):nG [.tup L,.int aa,.int day]=lT (xX L aa day):=G8 g.k (by have:=g.l;lia) g.n g.o _
theorem Gd.ca {n:Nat}{r:D}(M:L[n]? = some r)(day:Int):xz [.tup L,.int aa,.int n,.int day]=lT ((iK L aa n r day).map λ(n:Nat)=>.int (n:Int)):=
 ah rr (aj (a5 _ (aO rr (aO rr (a8 (a5 _ rr g.cl) rr))) (pL g.gk (by have:=g.l;lia) _ (oQ g.gc _ g.o).2 g.n M _)))
end
section
variable {ns:LI}(hf:Pg ns) {zs:LS}{ae other:LD}(g:GR zs ae) {aa:Nat}(gA:Gd zs ae aa) (gB:Gd zs other aa) (h0:0<other.length) (P8:other.length<=ae.length) (hk:ag ae aa=ag other aa)
noncomputable abbrev lE (ns:LI)(zs:LS)(ae other:LD)(aa:Nat)(O U a b M:OB):DL.Env:=[sL (ns.map .int),lT (zs.map .str),lT ae,sI aa,sJ ae,sJ other,O,U,a,b,M]
include hf g gA gB h0 P8 hk
theorem Lm {i:Nat}(hi:i<=60)(B u p M:OB):∃C F G s,JN (lE ns zs ae other aa (sI i) B u p M)=some (.nx (lE ns zs ae other aa (sI i) C F G s)):=by
 obtain⟨c,H⟩:=i7 hf (20+i) N9;obtain⟨U,t⟩:=i7 hf (24+i) N9;have hp:(0:Int)<(other.length:Nat):=N9
 have N:=mod_lt (x:=U) hp;obtain⟨n,hn⟩:∃n:Nat,U % (other.length:Nat)=n:=⟨(U % (other.length:Nat)).toNat,N9⟩;have I:n<other.length:=N9
 obtain⟨r,f⟩:∃r,ae[n]? = some r:=⟨_,vU N9⟩;obtain⟨a,kd,ai,er,_⟩:=gA.gk r (vL f);let day:Int:=c % 15;let T:LD:=(sT ae (hB ae day n) ae.length).1;have v:=P5 ae aa (hB ae day n) ae.length (vT _);have O:=(Lf ae (hB ae day n) ae.length).2;have J:aN T=true:=ba λd hd=>by obtain⟨m,b,rfl⟩:=O d hd;rfl
 have w:=O1 gA.gk aa T O v.1;rw[v.2.2,GA g day n]at w;have K:=BZ g gA.l day n;have L:=Ay gA.gk (λr h=>(gA.k r h).2.1) (by have:=gA.l;lia) aa gA.n gA.o day n;let E:=lE ns zs ae other aa (sI i);refine⟨sI day,sI n,lT ((iK ae aa n r day).map λ(n:Nat)=>.int (n:Int)),lT T,?_⟩;have A:∀(k:Nat){ρ:DL.Env},ρ[6]? = some (sI i)->f2 iD (fI k) (am 6) ρ=sI ((k+i:Nat):Int):=λk {ρ} h6=>aX (.int k) (.int i) rr (by simp[h6]) (by show some (D.int ((k:Int)+i),false)=_;rw[show(k:Int)+i=((k+i:Nat):Int) by lia]);refine eC (.int day) (im (a5 _ (aO rr (aO (A 20 rr) rr)) H) P9) rr ?_;refine(show cb _ _ (E (sI day) u p M)=_ from ao (bD (b:=false) (eZ (y:=.lst (nQ (bK ae aa day))) (b1:=true) (b2:=true) (a5 [.tup ae,.int aa,.int day] rr (gA.st day)) (a5 [.tup other,.int aa,.int day] rr (by rw[gB.st day,Lh hk day])) (qx (by rw[E7];exact t7 _)))) ?_);refine ao (bD (b:=false) (eZ (x:=.lst (xX ae aa day)) (y:=.lst (xX ae aa day)) (b1:=true) (b2:=true) (a5 [.tup ae,.int aa,.int day] rr (gA.ju day)) (a5 [.tup other,.int aa,.int day] rr (by rw[gB.ju day,SJ gA.k gB.k (by have:=gA.l;lia) (by have:=gB.l;lia) hk day])) (qx (G7 gA.k (by have:=gA.l;lia) aa day)))) ?_;refine eC (.int n) (hn ▸ aX (.int U) (.int (other.length:Nat)) (a5 _ (aO rr (aO (A 24 rr) rr)) t) (a5 [.tup other] rr H9) (BV _ hp)) rr ?_;refine(show cb _ _ (E (sI day) (sI n) p M)=_ from bw (a5 [.tup ae,.int aa,.int n,.int day] rr (gA.ca f day)) (GB _) ?_);refine(show cb _ _ _=_ from ao ?_ ?_)
 .have j:bW (f2 L1 (f2 dM (f2 dM (am 2) (am 8)) (fI 0)) (am 3)) (E (sI day) (sI n) (lT ((iK ae aa n r day).map λ(n:Nat)=>.int (n:Int))) M)=some (decide (aw r<=aa)):=cw (aX (.int (aw r)) (.int aa) (aX r (.int 0) (aX (.lst ae) (.int n) rr rr (by show(lD _ _).map _=_;rw[bc f];rfl)) rr (by rw[er];simp[row,A9,aw])) rr rr);by_cases h:aw r<=aa
  .have e:=((ER hk n r).mp ⟨f,h⟩).1;rw[yc h]at j;exact bS (q:=false) j λ_=>bD (b:=false) (eZ (b1:=false) (b2:=true) rr (a5 [.tup other,.int aa,.int n,.int day] rr (by rw[gB.ca e day,Ll hk])) (qx (t7 _)))
  .rw[ye h]at j;exact bS (q:=false) j λz=>by cases z
 refine bw (ds:=T) (a5 [.tup ae,.int day,.int n] rr K) J ?_;refine(show A7 _ _ _ _=_ from jX (cw (aX _ (.bl (decide (n∈fQ ae aa day))) (a5 [.lst ae,.lst T,.int aa] rr w) ?_ H9)) rr);exact L
end
def law_true (ns:LI)(x:ns.length<=63)(hf:Pg ns):∃b,F_law [.lst (ns.map .int)]=some (.bl true,b):=by
 refine cX λK W=>?_;obtain⟨p,y⟩:=i7 hf 0 P9;obtain⟨c2,e2⟩:=i7 hf 2 P9;obtain⟨zs,z,c⟩:=KO p;obtain⟨ae,er,g,hl⟩:=Ou x hf c;apply W;obtain⟨aa,A⟩:∃k:Nat,c2 % 12=k:=⟨(c2 % 12).toNat,N9⟩;obtain⟨other,B,s,C,n,hk,O⟩:=Lj hf c g hl (aa:=aa) N9;have t:Gd zs ae aa:=⟨λr h=>by
  obtain⟨j,a,kd,ai,day,rfl,_,_,_,d⟩:=g.mem h;exact⟨⟨a,kd,ai,rr,d.dd⟩,d.w a,d.q a⟩,hl,List.Nodup.sublist (sQ _ _) g.off⟩
 have U:∀r∈other,bd r/\pX r/\Rq r:=λr h=>by
  obtain⟨j,hj⟩:=mem_iff_getElem?.mp h;obtain⟨a,kd,ai,day,rfl,_,_,d⟩:=s j r hj;exact⟨⟨a,kd,ai,rr,d.dd⟩,d.w a,d.q a⟩
 have u:Gd zs other aa:=⟨U,N9,List.Nodup.sublist (sQ _ _) (List.Nodup.sublist O g.off)⟩;have v:aN other=true:=ba λd hd=>(U d hd).1.flat;have D:=pN ⟨⟨N9,c⟩,λj r h=>by
  obtain⟨a,kd,ai,day,rfl,h1,h2,d⟩:=s j r h;exact⟨a,kd,ai,rr,N9,h2,d.g _ h1⟩⟩ v _ (.inl rr)
 obtain⟨ρ',e,o,f,l,m,M,rfl⟩:=cW (tg:=gn 6) (g:=JN) (λ_ ρ=>∃o f l m M,ρ=lE ns zs ae other aa o f l m M) (cS 0 4) _ ⟨_,_,_,_,_,rr⟩ (by
  rintro i d ρ hd ⟨o,f,l,m,M,rfl⟩;obtain⟨rfl,hi⟩:=A0 hd;obtain⟨F,G,H,E,ex⟩:=Lm hf g t u C n hk (i:=i) N9 f l m M;rw[Int.zero_add];exact⟨_,_,rr,.inl ex,_,_,_,_,_,rr⟩)
 refine⟨false,ah rr (bw (ds:=zs.map .str) (a5 [.int p] (aO (a5 [.lst (ns.map .int),.int 0] rr y) rr) z) (bT _) (bw (ds:=ae) (a5 [.lst (ns.map .int),.lst (zs.map .str)] rr er) g.flat (eC (.int aa) (A ▸ im (a5 [.lst (ns.map .int),.int 2] rr e2) P9) rr (eC (.tup ae) (a5 [.lst ae] (a8 (b:=true) (a5 [.lst ae] rr rr) rr) (SF g c hl _ (.inl rr))) (by have:=g.flat;simpa using this) (eC (.tup other) (a5 [.lst other] (a8 (b:=true) (a5 _ rr B) rr) D) (by simpa using v) (ao (bD (b:=false) (eZ (b1:=true) (b2:=true) (a5 [.tup ae,.int aa] rr t.cl) (a5 [.tup other,.int aa] rr (by rw[u.cl,hk])) (qx (Lk _)))) (bR (jY (ge (j:=4) (b:=false) rr P9) e) (aj rr))))))))⟩
end Lw
namespace Lw
open PySem PySem.Spec PyProof.Rows L2 DL
structure Tx (w:World)(K:Frag)(mg:Str->Option Value):Prop where
 hX:∃h,K.In h/\h.Ns mainGlobals mg
 d0:bL K "is_whole" (aK 6)
 d1:bL K "is_day" (aK 7)
 d2:bL K "is_stretch" (aK 8)
 d3:bL K "is_matters" (aK 12)
 d4:bL K "is_name" (aK 22)
 d5:bL K "is_rule" (aK 24)
 d6:bL K "is_piece" (aK 23)
 d7:bL K "is_pieces" (aK 25)
 d8:bL K "is_change" (aK 26)
 d9:bL K "is_changes" (aK 27)
 d10:bL K "is_part" (aK 28)
 d11:bL K "is_deed" (aK 29)
 d12:bL K "word_of" (aK 32)
 d13:bL K "part_of" (aK 33)
 d14:bL K "day_of" (aK 34)
 d15:bL K "is_timely" (aK 30)
 d16:bL K "is_row" (aK 31)
 d17:bL K "root_offices" (aK 39)
 d18:bL K "is_second_root" (aK 40)
 d19:bL K "parts_in" (aK 35)
 d20:bL K "people_in" (aK 36)
 d21:bL K "count_people" (aK 41)
 d22:bL K "is_refused" (aK 42)
 d23:bL K "register_of" (aK 43)
 d24:bL K "heard" (aK 44)
 d25:bL K "rank" (aK 46)
 d26:bL K "in_order" (aK 48)
 d27:bL K "by_office" (aK 60)
 d28:bL K "roots" (aK 49)
 d29:bL K "is_known" (aK 45)
 d30:bL K "tells" (aK 52)
 d31:bL K "told_of" (aK 53)
 d32:bL K "lives" (aK 54)
 d33:bL K "has_seal" (aK 55)
 d34:bL K "is_sound" (aK 56)
 d35:bL K "lies_in" (aK 9)
 d36:bL K "is_alive" (aK 58)
 d37:bL K "by_since" (aK 59)
 d38:bL K "chief_of" (aK 61)
 d39:bL K "holder_by" (aK 62)
 d40:bL K "is_held_by" (aK 63)
 d41:bL K "is_first_death" (aK 64)
 d42:bL K "counts" (aK 65)
 d43:bL K "new_claim" (aK 66)
 d44:bL K "ended" (aK 67)
 d45:bL K "after_choice" (aK 68)
 d46:bL K "inherited" (aK 69)
 d47:bL K "after_death" (aK 70)
 d48:bL K "claims" (aK 71)
 d49:bL K "is_paper" (aK 74)
 d50:bL K "is_leave" (aK 75)
 d51:bL K "is_borne" (aK 76)
 d52:bL K "covers" (aK 13)
 d53:bL K "may_call" (aK 77)
 d54:bL K "calls_in" (aK 78)
 d55:bL K "calls_by" (aK 79)
 d56:bL K "calls" (aK 80)
 d57:bL K "reach_bar" (aK 81)
 d58:bL K "office_bar" (aK 82)
 d59:bL K "office_bases" (aK 85)
 d60:bL K "ends_within" (aK 11)
 d61:bL K "is_within" (aK 10)
 d62:bL K "is_ahead" (aK 47)
 d63:bL K "leave_bar" (aK 83)
 d64:bL K "leaves_to" (aK 84)
 d65:bL K "leave_bases" (aK 86)
 d66:bL K "copy_bases" (aK 87)
 d67:bL K "bases_by" (aK 88)
 d68:bL K "is_fit" (aK 89)
 d69:bL K "links" (aK 90)
 d70:bL K "bears" (aK 91)
 d71:bL K "stood" (aK 92)
 d72:bL K "standing" (aK 93)
 d73:bL K "paper_behind" (aK 98)
 d74:bL K "holding" (aK 99)
 d75:bL K "whom_of" (aK 100)
 d76:Nq K "holds" (aK 101)
 d77:bL K "changed" (aK 95)
 d78:bL K "put_together" (aK 96)
 d79:bL K "words" (aK 97)
 d80:bL K "judged" (aK 102)
 d81:bL K "as_heard" (aK 104)
 d82:bL K "paced" (aK 105)
 d83:bL K "history" (aK 106)
 d84:bL K "_law_cell" (aK 108)
 d85:bL K "_law_names" (aK 109)
 d86:bL K "_law_giver" (aK 110)
 d87:bL K "_law_sealed" (aK 111)
 d88:bL K "_law_row" (aK 112)
 d89:bL K "_law_rows" (aK 113)
 d90:bL K "_law_otherwise" (aK 114)
 d91:bL K "_law_last" (aK 115)
 d92:bL K "law" (aK 116)
 n0:mg "all" = none
 n1:mg "any" = none
 n2:mg "bool" = none
 n3:mg "dict" = none
 n4:mg "enumerate" = none
 n5:mg "int" = none
 n6:mg "isinstance" = none
 n7:mg "len" = none
 n8:mg "list" = none
 n9:mg "max" = none
 n10:mg "min" = none
 n11:mg "range" = none
 n12:mg "reversed" = none
 n13:mg "set" = none
 n14:mg "sorted" = none
 n15:mg "str" = none
 n16:mg "tuple" = none
 n17:mg "zip" = none
 k0:KC K mg "ALL_MATTERS" lM
 k1:KC K mg "LAST_DAY" rJ
 k2:KC K mg "MOST_FURTHER" jZ
 k3:KC K mg "MOST_LETTERS" kg
 k4:KC K mg "MOST_PEOPLE" lN
 k5:KC K mg "MOST_PIECES" iF
 k6:KC K mg "MOST_ROWS" kh
 k7:KC K mg "PAPERS" zw
 k8:KD w K mg "PARTS" bZ
 k9:KC K mg "PERSON_PARTS" gJ
 k10:KC K mg "RULES" Dc
 k11:KC K mg "SEALINGS" gL
 l26:xh K "in_order"
 l33:xh K "has_seal"
 l41:xh K "is_first_death"
 l67:xh K "bases_by"
 l81:xh K "as_heard"
section
variable {w:World}{K:Frag}{mg:SV}(T:Tx w K mg)
include T
theorem aaj:a6 w K mg Ga:=⟨T.hX,nofun,by simp only[Ga,forall_mem_cons];exact⟨T.k0,T.k1,T.k2,T.k3,T.k4,T.k5,T.k6,T.k7,T.k9,T.k10,T.k11,nofun⟩,by simp only[Ga,forall_mem_cons];exact⟨T.k8,nofun⟩,by simp only[Ga,forall_mem_cons];exact⟨T.n0,T.n1,T.n2,T.n3,T.n4,T.n5,T.n6,T.n7,T.n8,T.n9,T.n10,T.n11,T.n12,T.n13,T.n14,T.n15,T.n16,T.n17,nofun⟩,by simp only[Ga,forall_mem_cons];exact⟨T.l26,T.l33,T.l41,T.l67,T.l81,nofun⟩,nofun⟩
theorem aak:a6 w K mg (Nw.gt mi):=Nw.o T.d0 (aaj T) 3
theorem aal:a6 w K mg (Nx.gt rK):=Nx.o T.d1 (aak T) 1
theorem aam:a6 w K mg (Ny.gt ny):=Ny.o T.d2 (aal T) 1
theorem aan:a6 w K mg (Nz.gt nA):=Nz.o T.d3 (aam T) 1
theorem aao:a6 w K mg (N6.gt lh):=N6.o T.d4 (aan T) 1
theorem aap:a6 w K mg (N7.gt uL):=N7.o T.d5 (aao T) 1
theorem aaq:a6 w K mg (NA.gt ml):=NA.o T.d6 (aap T) 1
theorem aar:a6 w K mg (NB.gt ig):=NB.o T.d7 (aaq T) 1
theorem aas:a6 w K mg (NC.gt ij):=NC.o T.d8 (aar T) 1
theorem aat:a6 w K mg (ND.gt jq):=ND.o T.d9 (aas T) 1
theorem Wp:a6 w K mg (De.gt di):=De.o T.d10 (aat T) 2
theorem Wr:a6 w K mg (Df.gt o9):=Df.o T.d11 (Wp T) 1
theorem Ws:a6 w K mg (Dg.gt aY):=Dg.o T.d12 (Wr T) 1
theorem Wt:a6 w K mg (Dh.gt av):=Dh.o T.d13 (Ws T) 2
theorem Wu:a6 w K mg (Di.gt bj):=Di.o T.d14 (Wt T) 1
theorem Wv:a6 w K mg (Dj.gt ki):=Dj.o T.d15 (Wu T) 1
theorem Ww:a6 w K mg (Dk.gt rL):=Dk.o T.d16 (Wv T) 1
theorem Wx:a6 w K mg (Dl.gt gM):=Dl.o T.d17 (Ww T) 1
theorem Wy:a6 w K mg (Dm.gt fg):=Dm.o T.d18 (Wx T) 2
theorem Wz:a6 w K mg (Dn.gt gN):=Dn.o T.d19 (Wy T) 1
theorem W1:a6 w K mg (Dp.gt iq):=Dp.o T.d20 (Wz T) 1
theorem W2:a6 w K mg (zx.gt gO):=zx.o T.d21 (W1 T) 1
theorem W3:a6 w K mg (Dq.gt jr):=Dq.o T.d22 (W2 T) 2
theorem W4:a6 w K mg (zy.gt fz):=zy.o T.d23 (W3 T) 1
theorem W5:a6 w K mg (Dr.gt eD):=Dr.o T.d24 (W4 T) 2
theorem W6:a6 w K mg (Ds.gt gP):=Ds.o T.d25 (W5 T) 2
theorem W7:a6 w K mg (Dt.gt dO):=Dt.o T.d26 (W6 T) 2
theorem W9:a6 w K mg (Du.gt kj):=Du.o T.d27 (W7 T) 1
theorem WA:a6 w K mg (Dv.gt ir):=Dv.o T.d28 (W9 T) 2
theorem WB:a6 w K mg (Dx.gt cB):=Dx.o T.d29 (WA T) 3
theorem WC:a6 w K mg (Dy.gt qm):=Dy.o T.d30 (WB T) 4
theorem WD:a6 w K mg (Dz.gt li):=Dz.o T.d31 (WC T) 5
theorem WE:a6 w K mg (D0.gt qo):=D0.o T.d32 (WD T) 4
theorem WG:a6 w K mg (D1.gt mm):=D1.o T.d33 (WE T) 4
theorem WH:a6 w K mg (D2.gt jt):=D2.o T.d34 (WG T) 3
theorem WI:a6 w K mg (D3.gt lm):=D3.o T.d35 (WH T) 2
theorem WJ:a6 w K mg (D4.gt dP):=D4.o T.d36 (WI T) 2
theorem WK:a6 w K mg (D5.gt gQ):=D5.o T.d37 (WJ T) 1
theorem WL:a6 w K mg (D6.gt mq):=D6.o T.d38 (WK T) 2
theorem WM:a6 w K mg (D7.gt km):=D7.o T.d39 (WL T) 3
theorem WN:a6 w K mg (D8.gt dj):=D8.o T.d40 (WM T) 4
theorem WO:a6 w K mg (D9.gt fj):=D9.o T.d41 (WN T) 3
theorem WP:a6 w K mg (DA.gt nB):=DA.o T.d42 (WO T) 4
theorem WQ:a6 w K mg (DB.gt iu):=DB.o T.d43 (WP T) 3
theorem WR:a6 w K mg (z4.gt xy):=z4.o T.d44 (WQ T) 4
theorem WS:a6 w K mg (DC.gt gR):=DC.o T.d45 (WR T) 3
theorem WT:a6 w K mg (z8.gt kn):=z8.o T.d46 (WS T) 5
theorem WU:a6 w K mg (DD.gt iG):=DD.o T.d47 (WT T) 5
theorem WV:a6 w K mg (z9.gt nD):=z9.o T.d48 (WU T) 2
theorem WW:a6 w K mg (DE.gt cY):=DE.o T.d49 (WV T) 3
theorem WX:a6 w K mg (DF.gt gS):=DF.o T.d50 (WW T) 3
theorem WY:a6 w K mg (DG.gt fm):=DG.o T.d51 (WX T) 3
theorem WZ:a6 w K mg (DH.gt iZ):=DH.o T.d52 (WY T) 2
theorem Xa:a6 w K mg (DI.gt mr):=DI.o T.d53 (WZ T) 5
theorem Xb:a6 w K mg (DJ.gt jw):=DJ.o T.d54 (Xa T) 6
theorem Xc:a6 w K mg (DK.gt ms):=DK.o T.d55 (Xb T) 5
theorem Xd:a6 w K mg (DM.gt xz):=DM.o T.d56 (Xc T) 4
theorem Xe:a6 w K mg (DN.gt ko):=DN.o T.d57 (Xd T) 2
theorem Xf:a6 w K mg (DO.gt fY):=DO.o T.d58 (Xe T) 3
theorem Xg:a6 w K mg (DP.gt gT):=DP.o T.d59 (Xf T) 4
theorem Xh:a6 w K mg (DQ.gt iH):=DQ.o T.d60 (Xg T) 2
theorem Xi:a6 w K mg (DR.gt iz):=DR.o T.d61 (Xh T) 2
theorem Xj:a6 w K mg (DS.gt gU):=DS.o T.d62 (Xi T) 3
theorem Xk:a6 w K mg (DT.gt kq):=DT.o T.d63 (Xj T) 3
theorem Xl:a6 w K mg (DU.gt kx):=DU.o T.d64 (Xk T) 3
theorem Xm:a6 w K mg (DV.gt iI):=DV.o T.d65 (Xl T) 3
theorem Xn:a6 w K mg (DW.gt jx):=DW.o T.d66 (Xm T) 3
theorem Xo:a6 w K mg (DX.gt dQ):=DX.o T.d67 (Xn T) 4
theorem Xp:a6 w K mg (DY.gt nE):=DY.o T.d68 (Xo T) 5
theorem Xq:a6 w K mg (zF.gt x0):=zF.o T.d69 (Xp T) 3
theorem Xr:a6 w K mg (DZ.gt qp):=DZ.o T.d70 (Xq T) 2
theorem Xs:a6 w K mg (zG.gt xA):=zG.o T.d71 (Xr T) 1
theorem Xt:a6 w K mg (Ea.gt fq):=Ea.o T.d72 (Xs T) 3
theorem Xu:a6 w K mg (zH.gt eE):=zH.o T.d73 (Xt T) 2
theorem Xv:a6 w K mg (Eb.gt oB):=Eb.o T.d74 (Xu T) 3
theorem Xw:a6 w K mg (Ec.gt oD):=Ec.o T.d75 (Xv T) 2
theorem Xx:a6 w K mg (uM.gD nF):=λ{P base}=>
 have q:uM.G.Ok P w K mg base:=Xw T
 ⟨q.hx,q.fs,q.cs,q.ds,q.no,q.ls,λt h=>by
  rcases vP h with h|h
  .subst h;exact T.d76.fqD q.hx _ uM.N 5 (λnd M _=>uM.js O9 q nd M λh=>absurd h O9) (e:=by kernel_rfl)
  .exact q.dd _ h⟩
theorem Xy:a6 w K mg (Ed.gt oF):=Ed.o T.d77 (Xx T) 3
theorem Xz:a6 w K mg (uO.gt eF):=uO.o T.d78 (Xy T) 2
theorem X0:a6 w K mg (zI.gt jy):=zI.o T.d79 (Xz T) 3
theorem X1:a6 w K mg (Ee.gt nG):=Ee.o T.d80 (X0 T) 3
theorem X2:a6 w K mg (Ef.gt mu):=Ef.o T.d81 (X1 T) 1
theorem X3:a6 w K mg (Eg.gt xB):=Eg.o T.d82 (X2 T) 2
theorem X4:a6 w K mg (zJ.gt oG):=zJ.o T.d83 (X3 T) 3
theorem X5:a6 w K mg (Eh.gt ky):=Eh.o T.d84 (X4 T) 2
theorem X6:a6 w K mg (zK.gt oH):=zK.o T.d85 (X5 T) 1
theorem X7:a6 w K mg (Ei.gt ln):=Ei.o T.d86 (X6 T) 3
theorem X8:a6 w K mg (Ej.gt mv):=Ej.o T.d87 (X7 T) 5
theorem X9:a6 w K mg (Ek.gt xC):=Ek.o T.d88 (X8 T) 3
theorem XA:a6 w K mg (zL.gt rO):=zL.o T.d89 (X9 T) 2
theorem XB:a6 w K mg (zM.gt iJ):=zM.o T.d90 (XA T) 4
theorem XC:a6 w K mg (zN.gt rP):=zN.o T.d91 (XB T) 3
theorem head {P:Program}{fa:Addr}(M:mg "law" = some (.ref fa)):∃fd:FuncData,(∀(s:Shared)(u:Value),BindsTo s fd ⟨[u],[]⟩ [("_law_script",u)])/\∀base:Heap,K.In base->base.Ns mainGlobals mg->t8 P w K mg base yo 18 fa fd ["_law_script"] (HL K F_law):=by
 have S:FnScope ["_law_script","_law_names_here","_law_rows_here","_law_known","_law_one","_law_other","_law_k","_law_day","_law_number","_law_mine","_law_told"] ["_law_script"] (a9 (aK 116)):=by refine⟨rr,rr,rr,?_,rr,?_,?_⟩<;>decide +kernel
 have ⟨h,X,G⟩:=T.hX;have e:F_law=ax (El.r.getD qN) 1 10:=w9
 rw[e];exact bL.law T.d92 X G M S (λ_ _ _ _ _ _ u=>rr) λbase U a f c9 A outer s H E O=>El.js O9 (XC T) S.nd O λh=>absurd h O9
end
end Lw
end
end Lake
open Lake
structure PySem.W.Fast:Prop where(tw16737044676501570894 tw7161756946924006165 tw14063493271381958025 tw2209810218873647238 tw7170434889389572720 tw8923294957983094373 tw15321565257397138667 tw9969900140601582193 tw12328913374392930698 tw10113021619624954621 tw9281907362658385075 tw17202703218051724540 tw10422896387966708111 tw7282992186934093737 tw1692627806679181955 tw5908857050500854985 tw7591218556760893731 tw14348620326431634240 tw1859375270697864261 tw7942964495071316046 tw16789932978316259994 tw2980284558982612826 tw10574193150559254457 tw13852883090388138254 tw13984800767451117183 tw1095978004735966934 tw2008057238212244047 tw5101146450914708687 tw14195026682519938580 tw2757587148274750642 tw2798443164827346764 tw2492343845808823884 tw7990114069300902400 tw636177667896256025 tw15658979450117033116 tw9734049695210785614 tw4991928122776172726 tw10523431836405823632 tw10359641688842462186 tw15694104037809657123 tw799153475497401799 tw5347702056893314995 tw3315227977424110880 tw5031474326180687385 tw14025334571312013683 tw4067873151289249925 tw6736674889363890889 tw2603921862825674877 tw3529430272783321285 tw11353700281661552165 tw7288718250809332697 tw1089915208819137269 tw5417376570813596119 tw6676342272447889964 tw8809426600135417438 tw7255043528651067225 tw6128380744842210980 tw4035724051382580473 tw703274715980117858 tw13218963280073944494 tw17876003496678001932 tw7729291003694038057 tw14726565394291745018 tw11967568818701032879 tw13455133643789813729 tw9039191179492552524 tw1707941645415735907 tw137436971471292645 tw10490222553532268286 tw9063275002493976591 tw4973877305827720903 tw10102772441099211207 tw3175729042524298711 tw6287039536433132040 tw11939748958240825547 tw12021452165793416799 tw16198111827618498612 tw11935423393258038852 tw12375276906447166663 tw15602430432338446365 tw13891393258140114969 tw4956165003876570540 tw11218630804075087019 tw412713763742037157 tw384408956066334629 tw14833473736529652305 tw17867083723336867062 tw115575455125661203 tw9688589094233728551 tw15512068607737123623 tw12066610791482927953 tw2929614201959232536 tw15066493276779031213 tw11459886613562838731 tw12428504543601117038 tw12425800512328288714 tw3933228902980816769 tw16006409894729003847 tw15097042793110764579 tw3127720143552280494 tw1509976296453954400 tw17317311568153469454 tw11614904343004111562 tw13373252030325464875 tw6999201703105690671 tw5878400527815405405 tw15273688751420461799 tw8751878768947864281 tw4959229706108974814 tw7715116409832079105 tw17681000793166379860 tw9923832205715384230 tw3827097464248428359 tw7510247629415736950 tw10785602229318529443 tw6614055295447458370 tw15597747504490424469 tw6000402737998196119 tw6965902702896113144 tw4721047522602174164 tw7335102218727032495 tw9368499721890686345 tw5776704764084712311 tw15714846096796195339 tw16180983299836034143 tw219468654207724404 tw13690295188191044317 tw10498641968984846115 tw16777816015728780835 tw16465106142090570885 tw3394524228517454106 tw3387219984698454574 tw745826273370970644 tw6163636117012782408 tw16239588612147095934 tw9540908398854777173 tw6299779377115877352 tw17934815584472526345 tw7480996648593266917 tw11580906199072861411 tw5315259833336814137 tw274814588420245721 tw6829000781706632905 tw12110986763252565711 tw14650882624849180390 tw4860600274845244018 tw595289740106071241 tw1890240621751290677 tw15247427605682543834 tw801197665039238566 tw5899303377876592785 tw8578128366831414634 tw10692164954899705010 tw12069049818940887795 tw374083201504935313 tw17538967652697170868 tw3472542166333863681 tw7111800148289648917 tw16045327090094616034 tw963170223218622359 tw17614989122098834391 tw10403197788411254592 tw10006578810381549419 tw257802296599805596 tw2378356618670988085 tw3991376665854048491 tw16032955263006674745 tw4943422627171695905 tw135331200749002127 tw500122744115689354 tw14688428705834975451 tw17703328425860721912 tw9772167365814210653 tw15950450698411887063 tw10380334297546644881 tw814288987260293101 tw12942983855717490477 tw8633937360506295949 tw11484822168144196355 tw3164973852203606871 tw8978817219819882618 tw4751923797207116867 tw11602090465836366627 tw5766517073890127497 tw435854352003824023 tw12322295026697362140 tw10365550524448092928 tw4696196663389656385 tw13562177623019363288 tw12101922113706979979 tw15542758180917132480 tw8439214296699109748 tw4546381146924655963 tw507516491092049125 tw14264667131723130512 tw15953074383921910633 tw10082895131187641608 tw7499523177689097334 tw16209022773016953730 tw8779069027104253345 tw12890360303668570163 tw11475449532291729235 tw5467735059767045994 tw13786547618260804192 tw1519895713567063877 tw14873593120814041930 tw12173975548192629051 tw4596750788386689491 tw6204678784449801425 tw10018253251647183493 tw3058924048295832127 tw8383346655387318737 tw17927151256599215819 tw6061185711108713921 tw2253183273732109034 tw7158499210295128922 tw16315639478196564026 tw12255758370667689448 tw15275831296302566067 tw15745761390647740140 tw13459707296760939497 tw8508581942917912222 tw901991413029330600 tw3327965286020216951 tw6155350358066112571 tw3807867714137240248 tw1062313444450310760 tw13787990188030763244 tw6874628087063932626 tw14134417149778175868 tw14471373415388828180 tw14705309709784846266 tw6702067489532421781 tw14115399313450990659 tw14321089687272704720 tw361176045038368062 tw17006181741570929045 tw16208394990062152979 tw3974456430335667960 tw1425573430835845308 tw14551378583618743221 tw16736581863521964568 tw17909779728969152320 tw9030145811389043889 tw1451355542673617658 tw11427753235231144151 tw7900331771479123854 tw14589846125190817145 tw2281228964421995285 tw5875309158781230848 tw3773915711625750543 tw13689962044729097940 tw12286450271446540144 tw1385458079477820224 tw15275836867221894014 tw3858649183635451446 tw595105435411509544 tw17341291349206545562 tw1075301095828198240 tw15572276840224122031 tw9898767547201994263 tw16348576135413647241 tw2875105351287081109 tw3831559201124581393 tw11633283361542521287 tw11803037792101375642 tw9683346095919305347 tw17307265185251723346 tw9383804691805943477 tw17330715863180837677 tw1564764577252575038 tw11625828467012054389 tw1758511012587943628 tw11624297926751037134 tw3223537197113940270 tw5346225570283866656 tw17842759202899317380 tw15781660417694054211 tw10919545036332142412 tw387872149730814662 tw1150210189306162211 tw7429822941477832169 tw2980441741894087173 tw18421612490307005679 tw15531530957411489505 tw10279328234121107769 tw6889281029065304415 tw9440952387425694332 tw5533698037471950915 tw14650798183531977635 tw13812905286359935555 tw9334382856790320849 tw9073804514138045569 tw7840404412767097439 tw15492833300072504224 tw12569121042176253085 tw4911482940166122790 tw3389435741788649811 tw7849905685314271421 tw7134478636047047526 tw4599634808516526168 tw15281950333817400086 tw14261419978366430215 tw7485831822143127904 tw3292493745925434603 tw15001716489633837313 tw6820446944447266766 tw5796194296305208036 tw5654293227034014321 tw15257093842268868400 tw15205124473152154977 tw12659682140343250165 tw12040115504356727934 tw8981376035983918571 tw2875930438674584790 tw9086485961379873019 tw3280967406417547205 tw15248591309539349344 tw12229017138797467833 tw11789188525271051527 tw9182887040605737780 tw7687869230755499888 tw5467755903770799069 tw3273018120170404139 tw2294567053619158396 tw17604555456106741190 tw7264359331059392867 tw1115689092670918449 tw17242038149804034062 tw16196896381442900920 tw15592686205194930644 tw9714481778593525632 tw7321614629421686567 tw4911021733614251385 tw10104156056580894281 tw8613101272382374722 tw12054413123730099254 tw12313532515847872776 tw8931926186986822508 tw3020772553661735349 tw16057827317236467458 tw13402352601343996220 tw1058410867846370756 tw2548604850790230194 tw15227184395552349617 tw11095323717583009501 tw10707320424064460919 tw8624948478391213680 tw7742209901758199167 tw6863004493920493168 tw1890318224622370033 tw14214790757057546455 tw5812788295632985081 tw5786691134786934282 tw16177403468471531615 tw15954869515783594763 tw15573054483788926582 tw16279009647537385222 tw5150638514479762596 tw13828761060713816770 tw9952959967250878146 tw7264762056572696723 tw16494172273278283044 tw1611685478832244595 tw3611931075815187007 tw13786428022734571213 tw5777090697041068984 tw3628903017643793608 tw13243859472152376067 tw9453788905542760925 tw10728069437841610688 tw7841966853534961541 tw6453355406126105782 tw5176622732472922242 tw465037622195092979 tw25912289589635912 tw18004476788781449413 tw5903575700117111411 tw7510256211413014150 tw4723418882359149264 tw17905452116640274022 tw3088574505591519282 tw11835957906616252493 tw18432539712233102296 tw13384780260104549475 tw5393717254710570914 tw15179997470564207160 tw14830995776228922151 tw6278309917042917581 tw15423041513660847399 tw13585324825782011368 tw9533271211483387520 tw8932779696200415896 tw9677020817046103374 tw7370046039829773574 tw5031864103698703047 tw15823243577813607469 tw10217221993137075082 tw2305083112523314389 tw8972459843642326729 tw6640927965270028930 tw1544633329948217816 tw13571692594160198414 tw16392923414999444989 tw7345886830957589139 tw6742601138184267300 tw15682522198313906871 tw5918171884798079503 tw11026907242755788053 tw16555713095660531615 tw3775050106506496460 tw2116875061159091336 tw18083029010902633829 tw17589847733773894734 tw16477995388624236925 tw14682091543950449326 tw141174563490756468 tw11377622765589983443 tw10159389205763917361 tw2875974813794743311 tw16242658976926674167 tw14773492627623269488 tw11510725230713808806 tw6524172516621672914 tw2043455112140644395 tw15692377223980665765 tw4723231995876242444 tw7682725843532154075 tw4184479634011177659 tw12917371083874250832 tw6979901715315297359 tw15483682950609191716 tw14304935624838312029:True)
open PySem PySem.W PyProof.Rows
set_option maxRecDepth 100000 in
set_option maxHeartbeats 0 in
theorem PySem.Challenge.cw_sealchain_k46_whole_known_then_and_now_holds : PySem.Challenge.rw_sealchain_k46_whole_known_then_and_now.Holds := by
 w_on; o_law; k_head; (case hw => w_witness2)
 k_fill
 refine' DL.walkB (l := PySem.Challenge.rw_sealchain_k46_whole_known_then_and_now) (k := 18) (x := ("_law_script" : PySem.Str)) (f := Lw.F_law) (L := [(("in_order" : PySem.Str), ?t0), (("has_seal" : PySem.Str), ?t1), (("is_first_death" : PySem.Str), ?t2), (("bases_by" : PySem.Str), ?t3), (("as_heard" : PySem.Str), ?t4)]) rfl rfl ⟨rfl, by decide, by decide⟩ (fun w h Y => PySem.W.km_in_of Y) ?T ?D ?F Lw.law_true
 case T =>
  intro w
  refine' DL.tabs_fit ?h0 ?h1 ?h2 ?h3 ?h4 ?ap ?nt
  (case h0 => refine' DL.tab_yes ?a ?l ?c ?m ?v; (case a => k_is); (case l => k_is); (case c => exact rfl); (case m => k_is); (case v => exact rfl))
  (case h1 => refine' DL.tab_yes ?a ?l ?c ?m ?v; (case a => k_is); (case l => k_is); (case c => exact rfl); (case m => k_is); (case v => exact rfl))
  (case h2 => refine' DL.tab_yes ?a ?l ?c ?m ?v; (case a => k_is); (case l => k_is); (case c => exact rfl); (case m => k_is); (case v => exact rfl))
  (case h3 => refine' DL.tab_yes ?a ?l ?c ?m ?v; (case a => k_is); (case l => k_is); (case c => exact rfl); (case m => k_is); (case v => exact rfl))
  (case h4 => refine' DL.tab_yes ?a ?l ?c ?m ?v; (case a => k_is); (case l => k_is); (case c => exact rfl); (case m => k_is); (case v => exact rfl))
  (case ap => decide)
  (case nt => kernel_rfl)
 case D => kernel_rfl
 case F =>
  intro w mg fa h KX G hmg
  refine' Lw.head ⟨⟨h, KX, G⟩, ?d0, ?d1, ?d2, ?d3, ?d4, ?d5, ?d6, ?d7, ?d8, ?d9, ?d10, ?d11, ?d12, ?d13, ?d14, ?d15, ?d16, ?d17, ?d18, ?d19, ?d20, ?d21, ?d22, ?d23, ?d24, ?d25, ?d26, ?d27, ?d28, ?d29, ?d30, ?d31, ?d32, ?d33, ?d34, ?d35, ?d36, ?d37, ?d38, ?d39, ?d40, ?d41, ?d42, ?d43, ?d44, ?d45, ?d46, ?d47, ?d48, ?d49, ?d50, ?d51, ?d52, ?d53, ?d54, ?d55, ?d56, ?d57, ?d58, ?d59, ?d60, ?d61, ?d62, ?d63, ?d64, ?d65, ?d66, ?d67, ?d68, ?d69, ?d70, ?d71, ?d72, ?d73, ?d74, ?d75, ?d76, ?d77, ?d78, ?d79, ?d80, ?d81, ?d82, ?d83, ?d84, ?d85, ?d86, ?d87, ?d88, ?d89, ?d90, ?d91, ?d92, PySem.W.mg_none_of KX G ?z0, PySem.W.mg_none_of KX G ?z1, PySem.W.mg_none_of KX G ?z2, PySem.W.mg_none_of KX G ?z3, PySem.W.mg_none_of KX G ?z4, PySem.W.mg_none_of KX G ?z5, PySem.W.mg_none_of KX G ?z6, PySem.W.mg_none_of KX G ?z7, PySem.W.mg_none_of KX G ?z8, PySem.W.mg_none_of KX G ?z9, PySem.W.mg_none_of KX G ?z10, PySem.W.mg_none_of KX G ?z11, PySem.W.mg_none_of KX G ?z12, PySem.W.mg_none_of KX G ?z13, PySem.W.mg_none_of KX G ?z14, PySem.W.mg_none_of KX G ?z15, PySem.W.mg_none_of KX G ?z16, PySem.W.mg_none_of KX G ?z17, DL.kc_of KX G ?k0, DL.kc_of KX G ?k1, DL.kc_of KX G ?k2, DL.kc_of KX G ?k3, DL.kc_of KX G ?k4, DL.kc_of KX G ?k5, DL.kc_of KX G ?k6, DL.kc_of KX G ?k7, DL.kd_of KX G ?k8, DL.kc_of KX G ?k9, DL.kc_of KX G ?k10, DL.kc_of KX G ?k11, ?q0, ?q1, ?q2, ?q3, ?q4⟩ hmg
  iterate 76 (refine' DL.def_mk ?a ?l ?c ?k; (case a => k_is); (case l => k_is); (case c => k_is); (case k => k_is))
  (case d76 => refine' DL.defD_mk ?a ?l ?c ?k ?t; (case a => k_is); (case l => k_is); (case c => k_is); (case k => k_is); (case t => k_is))
  iterate 16 (refine' DL.def_mk ?a ?l ?c ?k; (case a => k_is); (case l => k_is); (case c => k_is); (case k => k_is))
  (case z0 => k_is)
  (case z1 => k_is)
  (case z2 => k_is)
  (case z3 => k_is)
  (case z4 => k_is)
  (case z5 => k_is)
  (case z6 => k_is)
  (case z7 => k_is)
  (case z8 => k_is)
  (case z9 => k_is)
  (case z10 => k_is)
  (case z11 => k_is)
  (case z12 => k_is)
  (case z13 => k_is)
  (case z14 => k_is)
  (case z15 => k_is)
  (case z16 => k_is)
  (case z17 => k_is)
  (case k0 => refine' DL.const_int ?e; (case e => k_is))
  (case k1 => refine' DL.const_int ?e; (case e => k_is))
  (case k2 => refine' DL.const_int ?e; (case e => k_is))
  (case k3 => refine' DL.const_int ?e; (case e => k_is))
  (case k4 => refine' DL.const_int ?e; (case e => k_is))
  (case k5 => refine' DL.const_int ?e; (case e => k_is))
  (case k6 => refine' DL.const_int ?e; (case e => k_is))
  (case k7 => refine' DL.const_tup ?e ?l ?v; (case e => k_is); (case l => k_is); (case v => decide +kernel))
  (case k8 => refine' DL.const_dict ?e ?l ?r ?s; (case e => k_is); (case l => k_is); (case r => refine' (DL.CRows.tup rfl ?l0 ?f0 (DL.CRows.tup rfl ?l1 ?f1 (DL.CRows.tup rfl ?l2 ?f2 (DL.CRows.tup rfl ?l3 ?f3 (DL.CRows.tup rfl ?l4 ?f4 (DL.CRows.tup rfl ?l5 ?f5 (DL.CRows.tup rfl ?l6 ?f6 (DL.CRows.tup rfl ?l7 ?f7 (DL.CRows.tup rfl ?l8 ?f8 (DL.CRows.tup rfl ?l9 ?f9 (DL.CRows.tup rfl ?l10 ?f10 (DL.CRows.tup rfl ?l11 ?f11 DL.CRows.nil)))))))))))); (case l0 => k_is); (case f0 => decide +kernel); (case l1 => k_is); (case f1 => decide +kernel); (case l2 => k_is); (case f2 => decide +kernel); (case l3 => k_is); (case f3 => decide +kernel); (case l4 => k_is); (case f4 => decide +kernel); (case l5 => k_is); (case f5 => decide +kernel); (case l6 => k_is); (case f6 => decide +kernel); (case l7 => k_is); (case f7 => decide +kernel); (case l8 => k_is); (case f8 => decide +kernel); (case l9 => k_is); (case f9 => decide +kernel); (case l10 => k_is); (case f10 => decide +kernel); (case l11 => k_is); (case f11 => decide +kernel)); (case s => decide +kernel))
  (case k9 => refine' DL.const_tup ?e ?l ?v; (case e => k_is); (case l => k_is); (case v => decide +kernel))
  (case k10 => refine' DL.const_tup ?e ?l ?v; (case e => k_is); (case l => k_is); (case v => decide +kernel))
  (case k11 => refine' DL.const_tup ?e ?l ?v; (case e => k_is); (case l => k_is); (case v => decide +kernel))
  (case q0 => refine' DL.lam_mk ?a ?l ?c ?m ?v1 ?v2 ?v3 ?v4 ?v5 ?v6 ?v7; (case a => k_is); (case l => k_is); (case c => exact rfl); (case m => k_is); (case v1 => exact rfl); (case v2 => exact rfl); (case v3 => exact rfl); (case v4 => exact rfl); (case v5 => exact rfl); (case v6 => exact rfl); (case v7 => decide))
  (case q1 => refine' DL.lam_mk ?a ?l ?c ?m ?v1 ?v2 ?v3 ?v4 ?v5 ?v6 ?v7; (case a => k_is); (case l => k_is); (case c => exact rfl); (case m => k_is); (case v1 => exact rfl); (case v2 => exact rfl); (case v3 => exact rfl); (case v4 => exact rfl); (case v5 => exact rfl); (case v6 => exact rfl); (case v7 => decide))
  (case q2 => refine' DL.lam_mk ?a ?l ?c ?m ?v1 ?v2 ?v3 ?v4 ?v5 ?v6 ?v7; (case a => k_is); (case l => k_is); (case c => exact rfl); (case m => k_is); (case v1 => exact rfl); (case v2 => exact rfl); (case v3 => exact rfl); (case v4 => exact rfl); (case v5 => exact rfl); (case v6 => exact rfl); (case v7 => decide))
  (case q3 => refine' DL.lam_mk ?a ?l ?c ?m ?v1 ?v2 ?v3 ?v4 ?v5 ?v6 ?v7; (case a => k_is); (case l => k_is); (case c => exact rfl); (case m => k_is); (case v1 => exact rfl); (case v2 => exact rfl); (case v3 => exact rfl); (case v4 => exact rfl); (case v5 => exact rfl); (case v6 => exact rfl); (case v7 => decide))
  (case q4 => refine' DL.lam_mk ?a ?l ?c ?m ?v1 ?v2 ?v3 ?v4 ?v5 ?v6 ?v7; (case a => k_is); (case l => k_is); (case c => exact rfl); (case m => k_is); (case v1 => exact rfl); (case v2 => exact rfl); (case v3 => exact rfl); (case v4 => exact rfl); (case v5 => exact rfl); (case v6 => exact rfl); (case v7 => decide))
