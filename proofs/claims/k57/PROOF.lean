import PyProof.Rows.All
import Wide.All
import OpenK.AllK
import Wide.FinOn
import Lean
import PyProof.EqAt
import PyProof.EqKinds
import PyProof.TupleCall
import PyProof.AttrMissHeap
import PySem.Challenge.RW_sealchain_k57_whole_copies_of_copies
set_option Elab.async false
set_option linter.all false
set_option maxRecDepth 100000
set_option bootstrap.genMatcherCode false
set_option compiler.extract_closed false
set_option backward.eqns.nonrecursive false
set_option genSizeOf false
set_option genSizeOfSpec false
set_option maxHeartbeats 40000000
def rr {α:Sort _}{a:α}:a=a:=rfl
def N9 {p:Prop}(h:p:=by lia):p:=h
def X9 {p:Prop}(h:p:=by simp):p:=h
def Z9 {p:Prop}(h:p:=by decide):p:=h
def H9 {p:Prop}(h:p:=by decide +kernel):p:=h
def S9 {p:Prop}(h:p:=by rfl):p:=h
def I9 {p:Prop}(h:p:=by simp;lia):p:=h
def s9 {p:Prop}(h:p:=by simp[sizeLine]):p:=h
def r9 {p:Prop}(h:p:=by kernel_rfl):p:=h
def N8 {p:Prop}(h:p:=by size_fits):p:=h
def mY {α:Type _}{a:α}(l:List α){k:List α}(h:a∈k):a∈l++k:=List.mem_append_right l h
def mZ {α:Type _}(b:α){a:α}{l:List α}(h:a∈l):a∈b::l:=List.mem_cons_of_mem b h
theorem mX {α:Type _}{a:α}{l:List α}:a∈a::l:=List.mem_cons_self
def oX {α G:Type _}{o:Option α}{f:α->Option G}{b:G}(h:o.bind f=some b):∃a,o=some a/\f a=some b:=Option.bind_eq_some_iff.mp h
def oY {α G:Type _}{f:α->G}{o:Option α}{b:G}(h:o.map f=some b):∃a,o=some a/\f a=b:=Option.map_eq_some_iff.mp h
def wX:=@PySem.wpAny_bind
def wY:=@PySem.wpAny_pure
def vZ:=@PySem.Heap.get?_push_of_some
def vY:=@PySem.Heap.get?_push_size
def vX:=@PySem.Heap.lt_size
def vW:=@PySem.Heap.SameBut.update
def vV {α:Type _}{l:List α}{i:Nat}{a:α}(h:l[i]? = some a):∃h:i<l.length,l[i]=a:=List.getElem?_eq_some_iff.mp h
def vU {α:Type _}{l:List α}{i:Nat}(h:i<l.length):l[i]? = some l[i]:=List.getElem?_eq_getElem h
def vT (n:Nat):n<=n:=Nat.le_refl n
def vS {a b:Nat}(h:a<b):a≠b:=Nat.ne_of_lt h
def vR {n m k:Nat}:n<=m->m<=k->n<=k:=Nat.le_trans
def vQ {n m k:Nat}:n<m->m<=k->n<k:=Nat.lt_of_lt_of_le
def vP {α:Type _}{a b:α}{l:List α}(h:b∈a::l):b=a\/b∈l:=List.mem_cons.mp h
def vO {α G:Type _}{b:G}{f:α->G}{l:List α}(h:b∈l.map f):∃a,a∈l/\f a=b:=List.mem_map.mp h
def vN {α:Type _}{a:α}{p:α->Bool}{l:List α}(h:a∈l.filter p):a∈l/\p a=true:=List.mem_filter.mp h
def vM {α:Type _}(p:α->Bool)(l:List α):(l.filter p).length<=l.length:=List.length_filter_le p l
def vL {α:Type _}{l:List α}{i:Nat}{a:α}(h:l[i]? = some a):a∈l:=List.mem_of_getElem? h
def vK {α:Type _}{a b:α}(h:some a=some b):a=b:=Option.some.inj h
def vJ {α G:Type _}(a:α)(f:α->Option G):(some a).bind f=f a:=rfl
def vI {α M:Type _}{G:List α}(f:α->M):(G.map f).length=G.length:=List.length_map f
def vH {α:Type _}{l:List α}:l.toArray.size=l.length:=rfl
def vG {α:Type _}{xs:Array α}:xs.toList.length=xs.size:=rfl
def vF {α:Type _}{l:List α}{i:Nat}{a:α}:l.getD i a=l[i]?.getD a:=List.getD_eq_getElem?_getD
def vC {α:Type _}{a:α}{G:List α}:(a::G).length=G.length+1:=rfl
def vB (a b:Bool):((a && b)=true)=(a=true/\b=true):=Bool.and_eq_true a b
def vA {α:Type _}{i j:Nat}{a:α}{l:List α}(h:i≠j):(l.set i a)[j]? = l[j]?:=List.getElem?_set_ne h
def uZ {α G:Type _}{f:α->G}{l:List α}{i:Nat}:(l.map f)[i]? = Option.map f l[i]?:=List.getElem?_map
def uY {α:Type _}{G bs:List α}:(G++bs).length=G.length+bs.length:=List.length_append
def uX {α G:Type _}{f:α->G}{a:α}{l:List α}:(a::l).map f=f a::l.map f:=rfl
def uW:false≠true:=Bool.false_ne_true
def uV {α M:Type _}{f:α->M}{l G:List α}:(l++G).map f=l.map f++G.map f:=List.map_append
def uU:(false=true)=False:=Bool.false_eq_true
def uT {α:Type _}{x:Option α}(h:x.isSome=true):∃a,x=some a:=Option.isSome_iff_exists.mp h
def uS {α:Type _}{a b:α}(h:a∈[b]):a=b:=List.mem_singleton.mp h
def uR {α G:Type _}{b:G}{f:α->G}{l:List α}(h:∃a,a∈l/\f a=b):b∈l.map f:=List.mem_map.mpr h
def uP {α:Type _}(G:List α):G++[]=G:=List.append_nil G
def uO {α G M:Type _}{g:G->M}{f:α->G}{l:List α}:(l.map f).map g=l.map (g ∘ f):=List.map_map
def uM (n:Nat):0<=n:=Nat.zero_le n
def pP {p:Prop}[Decidable p](h:p):decide p=true:=decide_eq_true h
def TK {p:Prop}[Decidable p](h:¬p):decide p=false:=decide_eq_false h
def Vh {p:Prop}[Decidable p](h:decide p=true):p:=of_decide_eq_true h
noncomputable section
open PySem.W (Frag kia_one fnOf nsIn mg_of)
open List (mem_append getElem?_set_self mem_filterMap nodup_cons of_mem_zip getElem?_append_right getElem?_append_left take_sublist length_take length_drop length_set all_cons any_cons nodup_nil lookup_cons length_replicate append_assoc not_mem_nil length_range all_eq_true mem_singleton lookup_cons_self find?_cons getElem_mem nodup_append take_add_one mem_range getElem?_eq_none ext_getElem? not_lt pairwise_cons lt_irrefl lt_trans nil_perm cons_lt_cons_iff cons_append mem_iff_getElem? getElem?_zip_eq_some length_zip zip_cons_cons foldl_cons take_length reverse_cons length_singleton length_zipIdx zip_map' filter_sublist pairwise_map mem_of_mem_take mem_filter flatMap_cons map_id mem_cons length_nil any_eq_true map_drop)
open Nat (le_of_lt ne_of_gt le_of_eq lt_succ_self le_succ lt_of_le_of_lt lt_succ_of_lt)
open PySem.F (slot_tuple_add entry_tuple_add args_tuple_add_2 slot_dict_get entry_dict_get plainAttrs_dict plainAttrs_list slot_tuple_iterator_next slot_zip_next entry_zip_next args_zip_next_1 called_set slot_set_iter plain_extend_loop slot_tuple_lt slot_tuple_gt called_list slot_list_getattribute)
abbrev QV:=PySem.Value->PySem.Shared->Prop
abbrev AO:=List (PySem.Addr×PySem.Obj)
abbrev SV:=PySem.Str->Option PySem.Value
abbrev LU:=List PySem.Value
abbrev AV:=Array PySem.Value
abbrev LS:=List PySem.Str
abbrev QD:=List PySem.Expr
abbrev LN:=List Nat
abbrev LI:=List Int
abbrev OI:=Option Int
namespace L2
open PySem PySem.Spec PyProof.Rows
abbrev fG:=Sum Int Str
noncomputable def vh:fG->Value->Bool
 |.inl k,v=>Value.isInt k v
 |.inr x,v=>Value.isStrOf x v
noncomputable def TZ (w:World):fG->Int
 |.inl k=>hashInt k
 |.inr x=>hashStr w x
theorem eJ:∀ {k:fG}{v:Value},vh k v=true->(∃i t,k=Sum.inl i/\v=Value.int i t)\/(∃x t,k=Sum.inr x/\v=Value.str x t)
 |.inl i,v,h=>by
  obtain⟨t,e⟩:=Value.isInt_shape   h;exact .inl ⟨i,t,rr,e⟩
 |.inr x,v,h=>by
  obtain⟨t,e⟩:=Value.isStrOf_shape   h;exact .inr ⟨x,t,rr,e⟩
def EA (i:Int)(t:Tok):vh (.inl i) (.int i t)=true:=by simp[vh,Value.isInt]
def EB (x:Str)(t:Tok):vh (.inr x) (.str x t)=true:=by simp[vh,Value.isStrOf]
def ND (a b:Int):decide ((Sum.inl a:fG)=Sum.inl b)=(a == b):=by
 lia
def NE (a b:Str):decide ((Sum.inr a:fG)=Sum.inr b)=decide (a=b):=by
 simp
def NF (a:Int)(b:Str):decide ((Sum.inl a:fG)=Sum.inr b)=false:=S9
def NG (a:Str)(b:Int):decide ((Sum.inr a:fG)=Sum.inl b)=false:=S9
def dv (prog:Program)(w:World):PySem.KeyKind prog w fG where
 is:=vh
 hash:=TZ w
 inj:=λv a b ha hb=>by
  grind[eJ]
 byValue:=λk v h=>by
  rcases eJ h with⟨i,t,rfl,rfl⟩|⟨x,t,rfl,rfl⟩<;>rfl
 pyHash:=λG h=>by
  rcases eJ G with⟨i,t,rfl,rfl⟩|⟨x,t,rfl,rfl⟩
  .exact wpAny_pyHash_int h
  .exact wpAny_pyHash_str h
 eqBool:=λhu G h=>by
  rcases eJ hu with⟨i,t,rfl,rfl⟩|⟨x,t,rfl,rfl⟩
  .rcases eJ G with⟨j,u,rfl,rfl⟩|⟨y,u,rfl,rfl⟩
   .rw[ND]at h;exact wpAny_eqBool_int h
   .rw[NF]at h;exact SeqAt.EqAt.int_str i t y u _ _ _ _ h
  .rcases eJ G with⟨j,u,rfl,rfl⟩|⟨y,u,rfl,rfl⟩
   .rw[NG]at h;exact SeqAt.EqAt.str_int x t j u _ _ _ _ h
   .rw[NE]at h;exact wpAny_eqBool_str h
 «strs»:=λk x t v h=>by
  rcases eJ h with⟨i,u,rfl,e⟩|⟨y,u,rfl,e⟩
  .exact nomatch e
  .injection e with M _;subst M;cases v<;>rfl
def yO (prog:Program)(w:World)(i:Int)(t:Tok):(dv prog w).is (.inl i) (.int i t)=true:=EA i t
def yP (prog:Program)(w:World)(x:Str)(t:Tok):(dv prog w).is (.inr x) (.str x t)=true:=EB x t
inductive V where
 |non|bl (b:Bool)|int (i:Int)|str (x:Str)|byt (b:Array UInt8)|flt (b:UInt64)|ref (a:Addr)|ty (n:String)
 deriving DecidableEq
def aU:V->Value->Prop
 |.non,u=>u=Value.none
 |.bl b,u=>u=Value.bool b
 |.int i,u=>∃t,u=Value.int i t
 |.str x,u=>∃t,u=Value.str x t
 |.byt b,u=>∃t,u=Value.bytes b t
 |.flt b,u=>∃t,u=Value.float b t
 |.ref a,u=>u=Value.ref a
 |.ty n,u=>u=Value.type n
abbrev bi:List V->LU->Prop:=Paired aU
def bi.length (r:bi xs us):xs.length=us.length:=Paired.length r
theorem bi.get:∀ {xs:List V}{us:LU}{i:Nat}{x:V},bi xs us->xs[i]? = some x->∃u,us[i]? = some u/\aU x u
 |_,_,_,_,.nil,e=>by simp at e
 |_,_,0,_,.cons r _,e=>by simp_all
 |_,_,i+1,x,.cons _ t,e=>by
  obtain⟨u,h1,h2⟩:=bi.get   t (by simpa using e);simp_all
theorem bi.set (r:aU x u):∀ {xs:List V}{us:LU}(i:Nat),bi xs us->bi (xs.set i x) (us.set i u)
 |_,_,_,.nil=>.nil
 |_,_,0,.cons _ t=>.cons r t
 |_,_,i+1,.cons q t=>.cons q (bi.set r i t)
theorem bi.append:∀ {xs ys:List V}{us G:LU},bi xs us->bi ys G->bi (xs++ys) (us++G)
 |_,_,_,_,.nil,s=>s
 |_,_,_,_,.cons r t,s=>.cons r (bi.append t s)
theorem bi.take:∀ {xs:List V}{us:LU}(n:Nat),bi xs us->bi (xs.take n) (us.take n)
 |_,_,0,_=>.nil
 |_,_,_+1,.nil=>.nil
 |_,_,n+1,.cons r t=>.cons r (bi.take n t)
theorem bi.drop:∀ {xs:List V}{us:LU}(n:Nat),bi xs us->bi (xs.drop n) (us.drop n)
 |_,_,0,r=>r
 |_,_,_+1,.nil=>.nil
 |_,_,n+1,.cons _ t=>bi.drop n t
def bi.none_of:∀ {xs:List V}{us:LU}{i:Nat},bi xs us->xs[i]? = none->us[i]? = none:=λ{xs us i} r e=>by
 have h1:=r.length;simp_all
def md:Option V->Option Value->Prop
 |some v,some u=>aU v u
 |none,none=>True
 |_,_=>False
def KV {κ:Type}:List (κ×V)->List (κ×Value)->Prop:=Paired λ(p:κ×V) (q:κ×Value)=>p.1=q.1/\aU p.2 q.2
noncomputable def kV:fG->V
 |.inl i=>.int i
 |.inr x=>.str x
inductive HO where
  |lst (xs:List V)
  |tup (xs:List V)
  |dK (aL:List (fG×V)) (ob:Obj)|dT (aL:List (List fG×V))
  |set (S:Int->Bool) (n:Nat)
  |ins (C dx:Addr) (fs:List (Str×V))
  |own (x:Addr)
  |xd (fs:List (Str×V))
  |met (f x:Addr)
  |rng (lo hi:Int)
  |frz (o:Obj) (u:HO)
  |tbl (q:Str)
  |ext (φ:Heap->Prop)
abbrev Hp:=Addr->Option HO
noncomputable def upd (H:Hp)(a:Addr)(o:HO):Hp:=λb=>if b=a then some o else H b
def a6:upd H a o a=some o:=by unfold upd;rw[if_pos rr]
theorem aH (h:b≠a):upd H a o b=H b:=by unfold upd;rw[if_neg h]
def mW:upd (upd H a o) a u=upd H a u:=by
 grind[upd]
def Q9 {H:Hp}{a b:Addr}{o u:HO}(h:H a=some o)(h':H b=some u)(d:o≠u):a≠b:=by
 lia
def bo {H:Hp}{a b:Addr}{o:HO}(h:H a=some o)(h':H b=none):a≠b:=by
 lia
section
variable (P:Program) (w:World)
def bJ (H:Hp)(h:Heap)(a:Addr):HO->Prop
 |.lst xs=>xs.length<=sizeLine/\∃(its:LU)(n:Nat),bi xs its/\h.get? a=some { cls:=.type "list",data:=.seq its.toArray n }
 |.tup xs=>xs.length<=sizeLine/\∃its:LU,bi xs its/\IsTup h a its.toArray
 |.dK aL ob=>h.get? a=some ob/\aL.length<=sizeLine/\(a == sysModules)=false/\∃vs,KV aL vs/\h.DictOf (dv P w) a vs
 |.dT aL=>aL.length<=sizeLine/\(a == sysModules)=false/\∃xs:List (List fG×Addr×Value),
   Paired (λ(p:List fG×V) (q:List fG×Addr×Value)=>p.1=q.1/\H q.2.1=some (.tup (p.1.map kV))/\aU p.2 q.2.2) aL xs /\
   ∃o es O,h.get? a=some o/\o.ExactDict/\o.data=.dict es O/\es.toList=xs.map (entryOfKey (tupleKind (dv P w)))/\(xs.map (·.1)).Nodup
 |.set S n=>h.SetOf (intKind P w) a S n
 |.ins C dx fs=>H dx=some (.own a)/\fs.length<=1000/\dx≠a/\h.get? a=some (PySem.W.instObj C dx) /\
   ∃mA,h.Ns1 dx mA/\(∀f,md (fs.lookup f) (mA f))/\PySem.Within mA (fs.map (·.1))
 |.own _=>∃o,h.get? a=some o
 |.xd fs=>∃mA,h.Ns1 a mA/\∀f,md (fs.lookup f) (mA f)
 |.rng lo hi=>∃t u v,h.get? a=some { cls:=.type "range",data:=.fields #[.int lo t,.int hi u,.int 1 v] }
 |.frz o u=>h.get? a=some o/\bJ H h a u
 |.tbl q=>∃ps:AV,h.get? a=some { cls:=.none,data:=.fields ps }/\TriplesOk ps.toList/\∀G M,codeAmong G ps.toList=some M->∃(c:Addr)(oc:Obj)(u:HO)(vs:AV)(t:Tok),M=.ref c/\H c=some (.frz oc u)/\oc.data=.fields vs/\vs[1]? = some (.str q t)
 |.met f x=>h.get? a=some (PySem.W.methodObj (.ref f) (.ref x))
 |.ext φ=>φ h/\(∃o,h.get? a=some o)/\∀h1 h2:Heap,φ h1->(∀o,h1.get? a=some o->h2.get? a=some o)->φ h2
def me (H:Hp)(h:Heap):Prop:=∀a o,H a=some o->bJ P w H h a o
end
section
variable {P:Program}{w:World}{H H':Hp}{h h':Heap}{a:Addr}{o:HO}
def bJ.lt (x:bJ P w H h a o):a<h.objs.size:=by
 cases o with
 |lst xs=>obtain⟨_,_,_,_,e⟩:=x;exact vX e
 |tup xs=>obtain⟨_,_,_,p⟩:=x;exact p.lt
 |dK aL ob=>exact vX (And.left x)
 |dT aL=>obtain⟨_,_,_,_,o,_,_,e,_⟩:=x;exact vX e
 |set S n=>obtain⟨o,_,_,_,e,_⟩:=x;exact vX e
 |ins C dx fs=>obtain⟨_,_,_,e,_⟩:=x;exact vX e
 |own y=>obtain⟨_,e⟩:=x;exact vX e
 |xd fs=>obtain⟨_,⟨_,_,_,e,_⟩,_⟩:=x;exact vX e
 |rng lo hi=>obtain⟨_,_,_,e⟩:=x;exact vX e
 |frz ob u=>obtain⟨e,_⟩:=x;exact vX e
 |tbl q=>obtain⟨_,e,_⟩:=x;exact vX e
 |met f y=>exact vX (show h.get? a=some _ from x)
 |ext φ=>obtain⟨_,⟨_,e⟩,_⟩:=x;exact vX e
theorem Paired.mapP {α T:Type}{F G:α->T->Prop}:∀ {M:List α}{O:List T},Paired F M O->(∀a b,F a b->G a b)->Paired G M O
 |_,_,.nil,_=>.nil
 |_,_,.cons r t,f=>.cons (f _ _ r) (Paired.mapP t f)
def bJ.stay (x:bJ P w H h a o)(k:∀b u,(b=a\/H b=some (.own a))->h.get? b=some u->h'.get? b=some u)
  (ho:∀b,H b=some (.own a)->H' b=some (.own a)) (O:∀b xs,H b=some (.tup xs)->H' b=some (.tup xs)) (hf:∀b o u,H b=some (.frz o u)->H' b=some (.frz o u)):bJ P w H' h' a o:=by
 induction o with
 |lst xs=>obtain⟨z,its,n,r,e⟩:=x;exact⟨z,its,n,r,k _ _ (.inl rr) e⟩
 |tup xs=>obtain⟨z,its,r,ob,e,c⟩:=x;exact⟨z,its,r,ob,k _ _ (.inl rr) e,c⟩
 |dK aL T=>obtain⟨g,z,y,vs,r,ob,es,G,e,c⟩:=x;exact⟨k _ _ (.inl rr) g,z,y,vs,r,ob,es,G,k _ _ (.inl rr) e,c⟩
 |dT aL=>
  obtain⟨z,y,xs,r,ob,es,G,e,c⟩:=x;exact⟨z,y,xs,Paired.mapP r λp q z=>⟨z.1,O _ _ z.2.1,z.2.2⟩,ob,es,G,k _ _ (.inl rr) e,c⟩
 |set S n=>obtain⟨ob,es,G,t,e,c⟩:=x;exact⟨ob,es,G,t,k _ _ (.inl rr) e,c⟩
 |ins C dx fs=>
  obtain⟨d,z,ne,e,mA,⟨od,es,G,e2,c⟩,r⟩:=x;exact⟨ho _ d,z,ne,k _ _ (.inl rr) e,mA,⟨od,es,G,k _ _ (.inr d) e2,c⟩,r⟩
 |own y=>obtain⟨ob,e⟩:=x;exact⟨ob,k _ _ (.inl rr) e⟩
 |xd fs=>obtain⟨mA,⟨od,es,G,e,c⟩,r⟩:=x;exact⟨mA,⟨od,es,G,k _ _ (.inl rr) e,c⟩,r⟩
 |rng lo hi=>obtain⟨t,u,v,e⟩:=x;exact⟨t,u,v,k _ _ (.inl rr) e⟩
 |frz ob u U=>obtain⟨e,q⟩:=x;exact⟨k _ _ (.inl rr) e,U q⟩
 |tbl q=>obtain⟨ps,e,t,c⟩:=x;exact⟨ps,k a _ (.inl rr) e,t,λM i z=>let ⟨d,oc,u,vs,tk,j,l,m⟩:=c M i z;⟨d,oc,u,vs,tk,j,hf _ _ _ l,m⟩⟩
 |met f y=>
  have e :=x;exact k a _ (.inl rr) e
 |ext φ=>obtain⟨p,⟨o,e⟩,st⟩:=x;exact⟨st _ _ p λo q=>k _ _ (.inl rr) q,⟨o,k _ _ (.inl rr) e⟩,st⟩
def me.lt (x:me P w H h)(e:H a=some o):a<h.objs.size:=(x a o e).lt
def me.fresh (x:me P w H h)(e:h.objs.size<=a):H a=none:=by
 cases q:H a with
 |none=>rfl
 |some u=>exact absurd (vQ (x.lt q) e) (Nat.lt_irrefl _)
def me.kept (x:me P w H h)(k:∀b u,h.get? b=some u->h'.get? b=some u):me P w H h':=λa o e=>
 (x a o e).stay (λb u _ q=>k b u q) (λ_ q=>q) (λ_ _ q=>q) λ_ _ _ q=>q
def me.laid (x:me P w H h)(k:∀b u,h.get? b=some u->h'.get? b=some u)(hp:h.objs.size<=a)(new:bJ P w (upd H a o) h' a o):me P w (upd H a o) h':=λb u e=>by
 have hn:=x.fresh hp;by_cases hb:b=a
 .simp_all[a6]
 .rw[aH hb]at e;exact(x b u e).stay (λc v _ q=>k c v q) (λc q=>by rw[aH (bo q hn)];exact q) (λc xs q=>by rw[aH (bo q hn)];exact q) λc o xs q=>by rw[aH (bo q hn)];exact q
end
def Rd (H:Hp)(a:Addr)(u:HO):Prop:=H a=some u\/∃o,H a=some (.frz o u)
def Rd.of (h:H a=some u):Rd H a u:=.inl h
def Rd.ok (r:Rd H a u)(x:me P w H h):bJ P w H h a u:=by
 rcases r with r|⟨o,r⟩
 .exact x a u r
 .obtain⟨_,q⟩:=x a _ r;exact q
def QA:Option HO->Prop
 |some (.lst _)=>True
 |some (.dK _ _)=>True
 |some (.dT _)=>True
 |some (.set _ _)=>True
 |some (.ins _ _ _)=>True
 |some (.ext _)=>True
 |_=>False
section
variable {P:Program}{w:World}{H:Hp}{h h':Heap}{x e:Addr}{o':HO}
def me.write (ok:me P w H h)(G:QA (H x))(he:e=x\/H e=some (.own x))(k:∀b u,b≠e->h.get? b=some u->h'.get? b=some u)(T:∃u,h'.get? e=some u)
  (new:bJ P w (upd H x o') h' x o'):me P w (upd H x o') h':=λb u q=>by
 have M:∀c y,H c=some (.own y)->c≠x:=λc y r z=>by subst z;rw[r]at G;exact G
 have O:∀c xs,H c=some (.tup xs)->c≠x:=λc xs r z=>by subst z;rw[r]at G;exact G
 by_cases hb:b=x
 .simp_all[a6]
 .rw[aH hb]at q;by_cases U:b=e
  .have a:H b=some (.own x):=by
    lia
   rw[q]at a;cases a;obtain⟨v,d⟩:=T;exact⟨v,by rw[U];exact d⟩
  .refine(ok b u q).stay (λc v hc r=>k c v ?_ r) (λc r=>by rw[aH (M c b r)];exact r) (λc xs r=>by rw[aH (O c xs r)];exact r) λc o xs r=>by rw[aH (λz=>by subst z;rw[r]at G;exact G)];exact r
   grind
end
structure Un (fs ex:List Addr)(H H':Hp)(h h':Heap):Prop where
 keep:∀b o,h.get? b=some o->H b=none->b∉fs->b∉ex->h'.get? b=some o
 slot:∀b o,h.get? b=some o->H b=none->b∈fs->b∉ex->∃sl,h'.get? b=some { o with slots:=sl }
 free:∀b o,h.get? b=some o->H b=none->b∉ex->H' b=none
 there:∀b o,h.get? b=some o->b∉ex->∃o',h'.get? b=some o'
 tups:∀b xs,H b=some (.tup xs)->H' b=some (.tup xs)
 frzs:∀b o u,H b=some (.frz o u)->H' b=some (.frz o u)
 tbls:∀b q,H b=some (.tbl q)->H' b=some (.tbl q)
section
variable {fs UZ ex WH:List Addr}{H H1 H2:Hp}{h h1 h2 h':Heap}{a x e:Addr}{o:HO}
def Un.any (u:Un fs ex H H1 h h1)(q:h.get? b=some ob)(n:H b=none)(hx:b∉ex):∃sl,h1.get? b=some { ob with slots:=sl }:=by
 by_cases hb:b∈fs
 .exact u.slot b ob q n hb hx
 .exact⟨ob.slots,u.keep b ob q n hb hx⟩
def Un.trans (a:Un fs ex H H1 h h1)(b:Un fs ex H1 H2 h1 h2):Un fs ex H H2 h h2 where
 keep:=λc ob q n hc hx=>b.keep c ob (a.keep c ob q n hc hx) (a.free c ob q n hx) hc hx
 slot:=λc ob q n hc hx=>by
  obtain⟨sl,G⟩:=a.slot c ob q n hc hx;obtain⟨M,e2⟩:=b.slot c _ G (a.free c ob q n hx) hc hx;exact⟨M,e2⟩
 free:=λc ob q n hx=>by
  obtain⟨o',G⟩:=a.there c ob q hx;exact b.free c o' G (a.free c ob q n hx) hx
 there:=λc ob q hx=>by
  obtain⟨o',G⟩:=a.there c ob q hx;exact b.there c o' G hx
 tups:=λc xs q=>b.tups c xs (a.tups c xs q)
 frzs:=λc ob xs q=>b.frzs c ob xs (a.frzs c ob xs q)
 tbls:=λc ps q=>b.tbls c ps (a.tbls c ps q)
def Un.kept (k:∀b u,h.get? b=some u->h'.get? b=some u):Un fs ex H H h h' :=
 ⟨λb ob q _ _ _=>k b ob q,λb ob q _ _ _=>⟨ob.slots,k b ob q⟩,λ_ _ _ n _=>n,λb ob q _=>⟨ob,k b ob q⟩,λ_ _ q=>q,λ_ _ _ q=>q,λ_ _ q=>q⟩
def Un.refl:Un fs ex H H h h:=Un.kept λ_ _ q=>q
def Un.laid (k:∀b u,h.get? b=some u->h'.get? b=some u)(hp:h.objs.size<=a)(hn:H a=none):Un fs ex H (upd H a o) h h' where
 keep:=λb u q _ _ _=>k b u q
 slot:=λb u q _ _ _=>⟨u.slots,k b u q⟩
 free:=λb u q n _=>by rw[aH (vS (vQ (vX q) hp))];exact n
 there:=λb u q _=>⟨u,k b u q⟩
 tups:=λb xs q=>by rw[aH (bo q hn)];exact q
 frzs:=λb u xs q=>by rw[aH (bo q hn)];exact q
 tbls:=λb ps q=>by rw[aH (bo q hn)];exact q
def Un.write (G:QA (H x))(he:e=x\/H e=some (.own x))(k:∀b u,b≠e->h.get? b=some u->h'.get? b=some u)(M:∃u,h'.get? e=some u):Un fs ex H (upd H x o) h h':=by
 have hx:∀b,H b=none->b≠x:=λb n z=>by subst z;rw[n]at G;exact G
 have hb:∀b,H b=none->b≠e:=λb n z=>by
  simp_all
 have hm:∀b u,H b=some u->¬QA (some u)->b≠x:=λb u q nm z=>by simp_all
 refine⟨λb u q n _ _=>k b u (hb b n) q,λb u q n _ _=>⟨u.slots,k b u (hb b n) q⟩,λb u q n _=>by rw[aH (hx b n)];exact n,λb u q _=>?_,
  λb xs q=>by rw[aH (hm b _ q λz=>z)];exact q,λb u xs q=>by rw[aH (hm b _ q λz=>z)];exact q,λb ps q=>by rw[aH (hm b _ q λz=>z)];exact q⟩
 grind
def Un.mono (u:Un fs ex H H1 h h1)(hs:∀b∈fs,b∈UZ)(hx:∀b∈ex,b∈WH):Un UZ WH H H1 h h1 :=
 ⟨λb ob q n hb he=>u.keep b ob q n (λz=>hb (hs b z)) λz=>he (hx b z),λ_ _ q n _ he=>u.any q n λz=>he (hx _ z),λb ob q n he=>u.free b ob q n λz=>he (hx b z),λb ob q he=>u.there b ob q λz=>he (hx b z),u.tups,u.frzs,u.tbls⟩
end
noncomputable def Wd (h:Heap)(H:Hp):List Addr:=(List.range h.objs.size).filter λa=>(H a).isSome
def yQ (h:Heap)(H:Hp):Heap:=PySem.W.hideAll h (Wd h H)
def EC (h:Heap)(H:Hp):(yQ h H).objs.size=h.objs.size:=PySem.W.hideAll_size _ _
theorem re (e:h.get? b=some o)(n:H b=none):(yQ h H).get? b=some o :=
 PySem.W.hideAll_get _ e λhm=>by
  have q :=(vN hm).2;simp_all
def Kd (e:(yQ h H).get? b=some o):h.get? b=some o/\H b=none:=by
 have G :=PySem.W.of_hideAll _ e;refine⟨G,?_⟩;cases q:H b with
 |none=>rfl
 |some x=>
  simp_all[Wd,vX,yQ,PySem.W.hideAll_none]
noncomputable def Ke (g h:Heap)(L:Addr):AO:=(List.range h.objs.size).filterMap λa=>if a=L\/(g.get? a).isSome=true then none else (h.get? a).map λo=>(a,o)
def rest (g h:Heap)(L d:Addr):AO:=(Ke g h L).filter λp=>decide (p.1≠d)
structure Mod (K:Frag)(mg:Str->Option Value)(base:Heap):Prop where
 kin:K.In base
 glob:base.Ns mainGlobals mg
 blt:∃mb,base.Ns builtinsNs mb/\∀x:Str,x ≠ "__name__"->mb x=bootBuiltins x
 nolimit:base.NoLimit
 bmain:∃bm ob,mg "__builtins__" = some (.ref bm)/\bm≠builtinsNs/\base.get? bm=some ob/\ob.cls=.type "module"/\ob.dict=some builtinsNs/\ob.data=.plain
structure Cx where
 prog:Program
 w:World
 K:Frag
 mg:Str->Option Value
 base:Heap
 A:Around
 N:List Str
 s₀:Shared
 H₀:Hp
 env:Env
 outer:List Env
 stack:List Env
 ex:List Addr
 fn:Str->Bool
 calm:Bool
 pn:List (Addr×Obj)
 xe:Value->Shared->Prop
noncomputable def Go (l:List Env):List Addr:=l.filterMap (·.frame)
abbrev Cx.fs (X:Cx):List Addr:=Go X.outer
def NH (sc:Scope)(x:Str):Prop:=sc.names.lookup x=some .local\/sc.names.lookup x=some .cell\/sc.names.lookup x=some .free
def JU (sc:Scope)(x:Str):Prop:=sc.names.lookup x=some .local\/sc.names.lookup x=some .cell
def Ua (env:Env)(h:Heap)(m:SV)(x:Str)(u:Value):Prop :=
 (env.kindOf x=some .local/\m x=some u)\/((env.kindOf x=some .cell\/env.kindOf x=some .free)/\∃c,env.cells.lookup x=some c/\h.IsCell c (some u))
abbrev wq {α:Type}(X:Cx):Sem α->(α->Shared->Prop)->(Value->Shared->Prop)->Shared->Prop:=wpAny (model X.prog X.w) X.A
structure Cx.Ok (X:Cx):Prop where
 mod:Mod X.K X.mg X.base
 kind:X.env.scope.kind=.function
 glob:X.env.globals=mainGlobals
 blt:X.env.builtins=builtinsNs
 above:X.s₀.heap.objs.size<=X.env.locals
 inj:∀x y c,X.env.cells.lookup x=some c->X.env.cells.lookup y=some c->x=y
 has:∀x,(X.env.kindOf x=some .cell\/X.env.kindOf x=some .free)->∃c,X.env.cells.lookup x=some c
 cab:∀x c,X.fn x=true->X.env.cells.lookup x=some c->X.s₀.heap.objs.size<=c
 hd:X.calm=true->X.A.handled=none
 frames:X.A.frames=some X.stack
 stk:X.stack=X.outer\/(X.stack=X.env::X.outer/\X.env.frame=some X.env.locals)
 exf:∀b∈X.ex,b≠X.env.locals/\∀x c,X.env.cells.lookup x=some c->c≠b
 bs:∀b o,X.base.get? b=some o->X.s₀.heap.get? b=some o/\X.H₀ b=none
 bsz:X.base.objs.size<=X.s₀.heap.objs.size
 noex:∀b o,X.base.get? b=some o->b∉X.ex
 exfs:∀b∈X.ex,b∉X.fs
 funs:X.s₀.heap.FunFrames X.base X.outer
 frf:∀b∈X.fs,X.H₀ b=none
structure Inv (X:Cx)(ak:List (Addr×Obj))(σ:List (Option V))(H:Hp)(s:Shared):Prop where
 ok:X.Ok
 os:s.os=X.s₀.os
 bare:AllBare s.gens
 base:Un X.fs X.ex X.H₀ H X.s₀.heap s.heap
 loc:∃m,s.heap.Ns X.env.locals m/\∀(i:Nat)(x:Str)(v:V),X.N[i]? = some x->σ[i]? = some (some v)->NH X.env.scope x->∃u,aU v u/\Ua X.env s.heap m x u
 cell:∀x c,X.env.cells.lookup x=some c->∃v,s.heap.IsCell c v
 free:H X.env.locals=none
 freeC:∀x c,X.env.cells.lookup x=some c->H c=none
 pin:∀p∈X.pn++ak,s.heap.get? p.1=some p.2/\H p.1=none/\p.1≠X.env.locals/\p.1∉X.fs/\∀v,p.2.data≠.cell v
 hok:me X.prog X.w H s.heap
 len:σ.length=X.N.length
section
variable {X:Cx}{ak:AO}{σ:List (Option V)}{H H':Hp}{s:Shared}{h':Heap}
def Cx.Ok.nofr (ok:X.Ok)(e:X.base.get? b=some o):b∉X.fs:=λhb=>by
 have:=(ok.funs.mem hb).1;simp_all
def Inv.bs (I:Inv X ak σ H s):∀b o,X.base.get? b=some o->s.heap.get? b=some o/\H b=none:=λb o e=>
 ⟨I.base.keep b o (I.ok.bs b o e).1 (I.ok.bs b o e).2 (I.ok.nofr e) (I.ok.noex b o e),I.base.free b o (I.ok.bs b o e).1 (I.ok.bs b o e).2 (I.ok.noex b o e)⟩
def Inv.bk (I:Inv X ak σ H s):∀b o,X.base.get? b=some o->s.heap.get? b=some o:=λb o e=>(I.bs b o e).1
def Inv.mod (I:Inv X ak σ H s):Mod X.K X.mg X.base:=I.ok.mod
def Inv.kIn (I:Inv X ak σ H s):X.K.In s.heap:=I.ok.mod.kin.keeps I.bk
def Inv.nolimit (I:Inv X ak σ H s):s.heap.NoLimit:=I.ok.mod.nolimit.keeps I.bk
def Inv.lt (I:Inv X ak σ H s):X.env.locals<s.heap.objs.size:=let ⟨_,hn,_⟩:=I.loc;hn.lt
def Inv.sz (I:Inv X ak σ H s):X.s₀.heap.objs.size<=s.heap.objs.size:=vR I.ok.above (le_of_lt I.lt)
def Inv.nofs (I:Inv X ak σ H s)(h:s.heap.objs.size<=a):a∉X.fs:=λhb=>by
 obtain⟨_,o,ho,_⟩:=I.ok.funs.mem hb;exact absurd (vQ (vX ho) (vR I.sz h)) (Nat.lt_irrefl _)
def Inv.cne (I:Inv X ak σ H s):∀x c,X.env.cells.lookup x=some c->c≠X.env.locals:=λx c e z=>by
 obtain⟨v,o,ho,hd⟩:=I.cell x c e;obtain⟨m,⟨o',es,O,G,M,_⟩,_⟩:=I.loc;simp_all
def Inv.funs (I:Inv X ak σ H s):s.heap.FunFrames X.base X.outer:=by
 have all:∀(l:List _),(∀b∈Go l,b∈X.fs)->X.s₀.heap.FunFrames X.base l->s.heap.FunFrames X.base l:=by
  intro l;induction l with
  |nil=>intro _ _;trivial
  |cons env r M=>
   intro hs hl;obtain⟨hk,⟨L,o,hf,hn,ho,hd⟩,O⟩:=hl;have G :=hs L (by simp_all[Go]);obtain⟨sl,e⟩:=I.base.slot L o ho (I.ok.frf L G) G λz=>I.ok.exfs L z G;exact⟨hk,⟨L,_,hf,hn,e,hd⟩,M (λb hb=>hs b (by simp_all[Go])) O⟩
 exact all _ (λ_ hb=>hb) I.ok.funs
def Inv.stack (I:Inv X ak σ H s):s.heap.FunFrames X.base X.stack:=by
 rcases I.ok.stk with e|⟨e,hf⟩
 .rw[e];exact I.funs
 .rw[e];obtain⟨m,hn,_⟩:=I.loc;refine .cons (by rw[I.ok.kind];decide) hf hn ?_ I.funs;exact Heap.get?_none_of_le (vR I.ok.bsz I.ok.above)
def Inv.stkSub (I:Inv X ak σ H s):∀b∈Go X.stack,b∈X.env.locals::X.fs:=λb hb=>by
 rcases I.ok.stk with e|⟨e,hf⟩
 .simp_all
 simp_all[Go]
def Inv.stkFree (I:Inv X ak σ H s):∀b∈Go X.stack,H b=none:=λb hb=>by
 rcases vP (I.stkSub b hb)with e|hb
 .rw[e];exact I.free
 .obtain⟨_,o,ho,_⟩:=I.ok.funs.mem hb;exact I.base.free b o ho (I.ok.frf b hb) λz=>I.ok.exfs b z hb
def Inv.step {g':Array GenState}{t':Nat}{d':Drawn}{ch:List Addr}(I:Inv X ak σ H s)
  (G:∀b∈ch,(b∈X.ex\/X.s₀.heap.objs.size<=b)/\b≠X.env.locals/\(∀x c,X.env.cells.lookup x=some c->c≠b)/\∀p∈X.pn++ak,p.1≠b)
  (keep:∀b o,b≠X.env.locals->b∉X.fs->b∉ch->s.heap.get? b=some o->H b=none->h'.get? b=some o)
  (slot:∀b o,b≠X.env.locals->b∈X.fs->b∉ch->s.heap.get? b=some o->H b=none->∃sl,h'.get? b=some { o with slots:=sl }) (free:∀b o,b∉ch->s.heap.get? b=some o->H b=none->H' b=none)
  (there:∀b o,b∉ch->s.heap.get? b=some o->∃o',h'.get? b=some o')
  (tups:∀b xs,H b=some (.tup xs)->H' b=some (.tup xs)) (frzs:∀b o u,H b=some (.frz o u)->H' b=some (.frz o u)) (tbls:∀b q,H b=some (.tbl q)->H' b=some (.tbl q))
  (ns:∀m,s.heap.Ns X.env.locals m->h'.Ns X.env.locals m) (hok:me X.prog X.w H' h') (g:AllBare g'):
  Inv X ak σ H' { s with heap:=h',gens:=g',drawn:=d',toks:=t' }:=by
 have a:∀b o,X.s₀.heap.get? b=some o->b≠X.env.locals:=λb o e=>vS (vQ (vX e) I.ok.above);have T:∀b o,X.s₀.heap.get? b=some o->b∉X.ex->b∉ch:=λb o e hx hb=>by
  rcases (G b hb).1 with z|z
  .exact hx z
  .exact absurd (vQ (vX e) z) (Nat.lt_irrefl _)
 have M:∀x c,X.env.cells.lookup x=some c->∀v,s.heap.IsCell c v->h'.IsCell c v:=λx c e v ⟨o,ho,hd⟩=>by
  have O:c∉ch:=λz=>(G c z).2.2.1 x c e rr;by_cases hc:c∈X.fs
  .obtain⟨sl,q⟩:=slot c o (I.cne x c e) hc O ho (I.freeC x c e);exact⟨_,q,hd⟩
  .exact⟨o,keep c o (I.cne x c e) hc O ho (I.freeC x c e),hd⟩
 refine⟨I.ok,I.os,g,⟨λb o e n hb hx=>?_,λb o e n hb hx=>?_,λb o e n hx=>?_,λb o e hx=>?_,λb xs e=>tups b xs (I.base.tups b xs e),λb o xs e=>frzs b o xs (I.base.frzs b o xs e),λb ps e=>?_⟩,?_,λx c e=>?_,?_,λx c e=>?_,λp hp=>?_,hok,I.len⟩
 .exact keep b o (a b o e) hb (T b o e hx) (I.base.keep b o e n hb hx) (I.base.free b o e n hx)
 .obtain⟨sl,U⟩:=I.base.slot b o e n hb hx;obtain⟨h,e2⟩:=slot b _ (a b o e) hb (T b o e hx) U (I.base.free b o e n hx);exact⟨h,e2⟩
 .obtain⟨o',U⟩:=I.base.there b o e hx;exact free b o' (T b o e hx) U (I.base.free b o e n hx)
 .obtain⟨o',U⟩:=I.base.there b o e hx;exact there b o' (T b o e hx) U
 .exact tbls b _ (I.base.tbls b ps e)
 .obtain⟨m,hn,hl⟩:=I.loc;refine⟨m,ns m hn,λi x v U e2 j=>?_⟩;obtain⟨u,r,l⟩:=hl i x v U e2 j;refine⟨u,r,?_⟩;rcases l with l|⟨k,c,e,z⟩
  .exact .inl l
  .exact .inr ⟨k,c,e,M x c e _ z⟩
 .obtain⟨v,z⟩:=I.cell x c e;exact⟨v,M x c e v z⟩
 .obtain⟨m,⟨o,_,_,ho,_⟩,_⟩:=I.loc;exact free _ o (λz=>(G _ z).2.1 rr) ho I.free
 .obtain⟨v,o,ho,hd⟩:=I.cell x c e;exact free c o (λz=>(G c z).2.2.1 x c e rr) ho (I.freeC x c e)
 .obtain⟨e,n,ne,f,d⟩:=I.pin p hp;have O:p.1∉ch:=λz=>(G p.1 z).2.2.2 p hp rr;exact⟨keep p.1 p.2 ne f O e n,free p.1 p.2 O e n,ne,f,d⟩
def Inv.un {t':Nat}(I:Inv X ak σ H s)(u:Un X.fs [] H H' s.heap h')(hok:me X.prog X.w H' h'):Inv X ak σ H' { s with heap:=h',toks:=t' }:=by
 obtain⟨m,⟨o,es,a,ho,r⟩,_⟩:=id I.loc;obtain⟨sl,T⟩:=u.any ho I.free X9;exact I.step   (ch:=[]) (λ_ z=>nomatch z) (λb o _ hb _ e n=>u.keep b o e n hb X9) (λb o _ hb _ e n=>u.slot b o e n hb X9) (λb o _ e n=>u.free b o e n X9) (λb o _ e=>u.there b o e X9) u.tups u.frzs u.tbls (λc hm=>by
  obtain⟨o',M,O,G,U⟩:=hm;rw[ho]at G;cases G;exact⟨_,M,O,T,U⟩) hok I.bare
def Inv.call {g':Array GenState}{t':Nat}{d':Drawn}{ch:List Addr}(I:Inv X ak σ H s)(u:Un (Go X.stack) ch H H' s.heap h')(hok:me X.prog X.w H' h')(a:AllBare g')
  (G:∀b∈ch,(b∈X.ex\/X.s₀.heap.objs.size<=b)/\b≠X.env.locals/\(∀x c,X.env.cells.lookup x=some c->c≠b)/\∀p∈X.pn++ak,p.1≠b):
  Inv X ak σ H' { s with heap:=h',gens:=g',drawn:=d',toks:=t' }:=by
 obtain⟨m,⟨o,es,f,ho,r⟩,_⟩:=id I.loc;obtain⟨sl,O⟩:=u.any ho I.free λz=>(G _ z).2.1 rr;exact I.step  G (λb o O hb hc e n=>u.keep b o e n (λz=>(vP (I.stkSub b z)).elim O hb) hc) (λb o _ _ hc e n=>u.any e n hc) (λb o hc e n=>u.free b o e n hc) (λb o hc e=>u.there b o e hc) u.tups u.frzs u.tbls (λg hm=>by
  obtain⟨o',T,U,M,d⟩:=hm;rw[ho]at M;cases M;exact⟨_,T,U,O,d⟩) hok a
def Inv.turned {t':Nat}{it:Addr}(I:Inv X ak σ H s)(k:∀b o,b≠it->s.heap.get? b=some o->h'.get? b=some o)(hn:H it=none)(G:it≠X.env.locals)
  (h1:it∈X.ex\/X.s₀.heap.objs.size<=it) (h2:∀x c,X.env.cells.lookup x=some c->c≠it) (h3:∀p∈X.pn++ak,p.1≠it):Inv X ak σ H { s with heap:=h',toks:=t' }:=by
 refine I.step   (ch:=[it]) (λb hb=>?_) (λb o _ _ hc e _=>k b o (λz=>hc (by simp[z])) e) (λb o _ _ hc e _=>⟨o.slots,k b o (λz=>hc (by simp[z])) e⟩) (λ_ _ _ _ n=>n)
  (λb o hc e=>⟨o,k b o (λz=>hc (by simp[z])) e⟩) (λ_ _ e=>e) (λ_ _ _ e=>e) (λ_ _ e=>e) (λm hm=>?_) (λb u e=>?_) I.bare
 .have e :=by simpa using hb
  subst e;exact⟨h1,G,h2,h3⟩
 .obtain⟨o,es,M,ho,r⟩:=hm;exact⟨o,es,M,k _ o (Ne.symm G) ho,r⟩
 .refine(I.hok b u e).stay (λc v hc q=>k c v ?_ q) (λ_ q=>q) (λ_ _ q=>q) λ_ _ _ q=>q;lia
def Inv.tok (I:Inv X ak σ H s)(t:Nat):Inv X ak σ H { s with toks:=t }:=I.un   Un.refl I.hok
def Inv.kept (I:Inv X ak σ H s)(k:∀b u,s.heap.get? b=some u->h'.get? b=some u):Inv X ak σ H { s with heap:=h',toks:=t' }:=I.un (Un.kept k) (I.hok.kept k)
def Inv.laid (I:Inv X ak σ H s)(k:∀b u,s.heap.get? b=some u->h'.get? b=some u)(hp:s.heap.objs.size<=a)(new:bJ X.prog X.w (upd H a o) h' a o):
  Inv X ak σ (upd H a o) { s with heap:=h',toks:=t' }:=I.un (Un.laid k hp (I.hok.fresh hp)) (I.hok.laid k hp new)
def Inv.write (I:Inv X ak σ H s)(M:QA (H x))(he:e=x\/H e=some (.own x))(k:∀b u,b≠e->s.heap.get? b=some u->h'.get? b=some u)(G:∃u,h'.get? e=some u)
  (new:bJ X.prog X.w (upd H x o) h' x o):Inv X ak σ (upd H x o) { s with heap:=h',toks:=t' }:=I.un (Un.write M he k G) (I.hok.write M he k G new)
def Inv.pins_of (I:Inv X ak σ H s)(h:∀p∈G,s.heap.get? p.1=some p.2/\H p.1=none/\p.1≠X.env.locals/\p.1∉X.fs/\∀v,p.2.data≠.cell v):Inv X G σ H s :=
 ⟨I.ok,I.os,I.bare,I.base,I.loc,I.cell,I.free,I.freeC,λp hp=>(mem_append.mp hp).elim (λz=>I.pin p (List.mem_append_left _ z)) (h p),I.hok,I.len⟩
def yR {N:LS}(G:N.Nodup){i j:Nat}{x:Str}(a:N[i]? = some x)(b:N[j]? = some x):i=j:=by
 obtain⟨h1,M⟩:=vV a;obtain⟨h2,e2⟩:=vV b;exact(List.getElem_inj G).mp (M.trans e2.symm)
def vi {M:Model}{A:Around}{E:QV}{i:Nat}{x:Str}{v:V}{u:Value}{Q:Unit->Shared->Prop}(I:Inv X ak σ H s)(F:X.N.Nodup)(hi:X.N[i]? = some x)(hx:JU X.env.scope x)(r:aU v u)
  (h:∀s',Inv X ak (σ.set i (some v)) H s'->(∃a,Heap.SameBut a s.heap s'.heap/\(a=X.env.locals\/X.env.cells.lookup x=some a))->Q () s') (hf:X.fn x=true\/X.env.scope.names.lookup x=some .local:=by first|exact .inl rr|exact .inr rr|assumption):wpAny M A (storeName X.env x u) Q E s:=by
 obtain⟨m,hn,hl⟩:=id I.loc;have L:(X.env.scope.kind == .class || (X.env.scope.kind == .module && X.env.locals != X.env.globals))=false:=by rw[I.ok.kind];rfl
 have T:i<σ.length:=by rw[I.len];exact(vV hi).1
 have cne:=I.cne;have G:∀ {a:Addr}{h':Heap},(∃o,s.heap.get? a=some o/\H a=none)->Heap.SameBut a s.heap h'->me X.prog X.w H h':=λ{a h'} ha hs b ob e=>by
  obtain⟨_,_,WJ⟩:=ha;refine(I.hok b ob e).stay (λc g hc q=>(hs.2 c ?_).trans q) (λ_ q=>q) (λ_ _ q=>q) λ_ _ _ q=>q;lia
 rcases hx with hk|hk
 .refine wpAny_storeName_local hk hn (λh' P hs=>?_) L;obtain⟨R,_,_,S,_⟩:=id hn;refine h _ ⟨I.ok,I.os,I.bare,⟨λb o e n hb hx=>?_,λb o e n hb hx=>?_,I.base.free,λb o e hx=>?_,I.base.tups,I.base.frzs,I.base.tbls⟩,⟨_,P,λj y l O e2 t=>?_⟩,λy c e=>?_,I.free,I.freeC,λp hp=>?_,G ⟨R,S,I.free⟩ hs,by simpa using I.len⟩ ⟨_,hs,.inl rr⟩
  .exact(hs.2 b (vS (vQ (vX e) I.ok.above))).trans (I.base.keep b o e n hb hx)
  .obtain⟨sl,O⟩:=I.base.slot b o e n hb hx;exact⟨sl,(hs.2 b (vS (vQ (vX e) I.ok.above))).trans O⟩
  .obtain⟨o',O⟩:=I.base.there b o e hx;exact⟨o',(hs.2 b (vS (vQ (vX e) I.ok.above))).trans O⟩
  .by_cases hj:j=i
   .subst hj;rw[hi]at O;cases O;rw[getElem?_set_self T]at e2;cases e2
    exact⟨u,r,.inl ⟨hk,X9⟩⟩
   .rw[vA (Ne.symm hj)]at e2;obtain⟨B,C,q⟩:=hl j y l O e2 t;refine⟨B,C,?_⟩;rcases q with⟨k,e⟩|⟨k,c,e,z⟩
    .refine .inl ⟨k,?_⟩;have:y≠x:=λe=>hj (yR F O (e ▸ hi));simp[this,e]
    .exact .inr ⟨k,c,e,z.sameBut hs (cne y c e)⟩
  .obtain⟨g,z⟩:=I.cell y c e;exact⟨g,z.sameBut hs (cne y c e)⟩
  .obtain⟨e,n,ne,D,d⟩:=I.pin p hp;exact⟨(hs.2 p.1 ne).trans e,n,ne,D,d⟩
 .have U:X.fn x=true:=by
   simp_all<;>lia
  obtain⟨c,hc⟩:=I.ok.has x (.inl hk);obtain⟨g,z⟩:=I.cell x c hc;refine wpAny_storeName_cell I.ok.kind hk hc z (λh' J hs=>?_);obtain⟨oc,W,YQ⟩:=id z;refine h { s with heap:=h' } ⟨I.ok,I.os,I.bare,⟨λb o e n hb hx=>?_,λb o e n hb hx=>?_,I.base.free,λb o e hx=>?_,I.base.tups,I.base.frzs,I.base.tbls⟩,⟨m,hn.sameBut hs (Ne.symm (cne x c hc)),λj y l O e2 t=>?_⟩,λy f e=>?_,I.free,I.freeC,λp hp=>?_,G ⟨oc,W,I.freeC x c hc⟩ hs,by simpa using I.len⟩ ⟨c,hs,.inr hc⟩
  .exact(hs.2 b (vS (vQ (vX e) (I.ok.cab x c U hc)))).trans (I.base.keep b o e n hb hx)
  .obtain⟨sl,O⟩:=I.base.slot b o e n hb hx;exact⟨sl,(hs.2 b (vS (vQ (vX e) (I.ok.cab x c U hc)))).trans O⟩
  .obtain⟨o',O⟩:=I.base.there b o e hx;exact⟨o',(hs.2 b (vS (vQ (vX e) (I.ok.cab x c U hc)))).trans O⟩
  .by_cases hj:j=i
   .subst hj;rw[hi]at O;cases O;rw[getElem?_set_self T]at e2;cases e2
    exact⟨u,r,.inr ⟨.inl hk,c,hc,J⟩⟩
   .rw[vA (Ne.symm hj)]at e2;obtain⟨B,C,q⟩:=hl j y l O e2 t;refine⟨B,C,?_⟩;rcases q with q|⟨k,f,e,Y⟩
    .exact .inl q
    .refine .inr ⟨k,f,e,Y.sameBut hs ?_⟩;rintro rfl;exact hj (yR F O (I.ok.inj _ _ _ e hc ▸ hi))
  .by_cases K:f=c
   .subst K;exact⟨_,J⟩
   .obtain⟨Z,z2⟩:=I.cell y f e;exact⟨Z,z2.sameBut hs K⟩
  .obtain⟨e,n,ne,D,d⟩:=I.pin p hp;refine⟨(hs.2 p.1 ?_).trans e,n,ne,D,d⟩;grind
def yS {M:Model}{A:Around}{E:QV}{i:Nat}{x:Str}{v:V}{u:Value}{Q:Unit->Shared->Prop}(I:Inv X ak σ H s)(G:X.N.Nodup)(hi:X.N[i]? = some x)(hx:JU X.env.scope x)(r:aU v u)
  (h:∀s',Inv X ak (σ.set i (some v)) H s'->Q () s') (hf:X.fn x=true\/X.env.scope.names.lookup x=some .local:=by first|exact .inl rr|exact .inr rr|assumption):wpAny M A (storeName X.env x u) Q E s :=
 vi I G hi hx r (λs' O _=>h s' O) hf
def Inv.call' (I:Inv X ak σ H s)(ho:s'.os=s.os)(u:Un (Go X.stack) ch H H' s.heap s'.heap)(hok:me X.prog X.w H' s'.heap)(M:AllBare s'.gens)
  (G:∀b∈ch,(b∈X.ex\/X.s₀.heap.objs.size<=b)/\b≠X.env.locals/\(∀x c,X.env.cells.lookup x=some c->c≠b)/\∀p∈X.pn++ak,p.1≠b):Inv X ak σ H' s':=by
 obtain⟨h',g',d',t',o'⟩:=s';have e :=ho;subst e;exact I.call    u hok M G
end
abbrev XK:=Value->Option Addr->Hp->Prop
abbrev St:=List (Option V)
abbrev VK:=V->Hp->Prop
abbrev TE:=St->Hp->VK->Prop
abbrev TT:=St->Hp->(Bool->Hp->Prop)->Prop
abbrev TA:=St->Hp->(List V->Hp->Prop)->Prop
structure Ends where
 nx:St->Hp->Prop
 rt:VK
 bk:St->Hp->Prop:=λ_ _=>False
 ct:St->Hp->Prop:=λ_ _=>False
abbrev TS:=Ends->St->Hp->Prop
def EP (X:Cx)(ak:AO)(σ:St)(Q:VK)(u:Value)(s':Shared):Prop:=∃v H',Inv X ak σ H' s'/\aU v u/\Q v H'
def TP (X:Cx)(ak:AO)(σ:St)(Q:Bool->Hp->Prop)(b:Bool)(s':Shared):Prop:=∃H',Inv X ak σ H' s'/\Q b H'
def AP (X:Cx)(ak:AO)(σ:St)(Q:List V->Hp->Prop)(us:LU)(s':Shared):Prop:=∃vs H',Inv X ak σ H' s'/\bi vs us/\Q vs H'
def SP (X:Cx)(ak:AO)(D:Ends)(f:Flow)(s':Shared):Prop :=
 match f with
 |.next=>∃G H',Inv X ak G H' s'/\D.nx G H'
 |.brk=>∃G H',Inv X ak G H' s'/\D.bk G H'
 |.cont=>∃G H',Inv X ak G H' s'/\D.ct G H'
 |.ret u=>∃v G H',Inv X ak G H' s'/\aU v u/\D.rt v H'
def PE (X:Cx)(e:Expr)(t:TE):Prop :=
 ∀(ak:AO)(s:Shared)(σ:St)(H:Hp)(Q:VK),Inv X ak σ H s->t σ H Q->wq X (eval e X.env) (EP X ak σ Q) X.xe s
def PT (X:Cx)(e:Expr)(t:TT):Prop :=
 ∀(ak:AO)(s:Shared)(σ:St)(H:Hp)(Q:Bool->Hp->Prop),Inv X ak σ H s->t σ H Q->wq X (isTrue e X.env (eval e X.env)) (TP X ak σ Q) X.xe s
def PW (X:Cx)(e:Expr)(t:TT):Prop :=
 ∀(G:Sem Value)(ak:AO)(s:Shared)(σ:St)(H:Hp)(Q:Bool->Hp->Prop),Inv X ak σ H s->t σ H Q->wq X (isTrue e X.env G) (TP X ak σ Q) X.xe s
def PW.pt (h:PW X e t):PT X e t:=h _
def PA (X:Cx)(es:QD)(t:TA):Prop :=
 ∀(G:Pos)(ak:AO)(s:Shared)(σ:St)(H:Hp)(Q:List V->Hp->Prop),Inv X ak σ H s->t σ H Q->wq X (spliced (backTo G (starEach es X.env))) (AP X ak σ Q) X.xe s
def PS (X:Cx)(st:Stmt)(t:TS):Prop :=
 ∀(ak:AO)(s:Shared)(σ:St)(H:Hp)(D:Ends),Inv X ak σ H s->t D σ H->wq X (exec st X.env) (SP X ak D) X.xe s
def uC (X:Cx)(st:List Stmt)(t:TS):Prop :=
 ∀(ak:AO)(s:Shared)(σ:St)(H:Hp)(D:Ends),Inv X ak σ H s->t D σ H->wq X (execs st X.env) (SP X ak D) X.xe s
def cu {α:Type}{t:Sem α}{Q G:α->Shared->Prop}{M:Model}{A:Around}{E:QV}{s:Shared}(h:wpAny M A t Q E s)(O:∀a s,Q a s->G a s):wpAny M A t G E s:=wpAny_mono h O λ_ _ x=>x
section
variable {X:Cx}
def qG (i:Nat):TE:=λσ H Q=>∃v,σ[i]? = some (some v)/\Q v H
def tC (v:V):TE:=λ_ H Q=>Q v H
def rf (O:X.N[i]? = some x)(T:NH X.env.scope x)(hd:(x == ("__debug__" : Str))=false:=by decide)(M:(x == ("__classdict__" : Str))=false:=by decide):PE X (.Name x U) (qG i):=by
 intro ak s σ H Q I h;obtain⟨v,e,h⟩:=h;obtain⟨m,hn,hl⟩:=I.loc;obtain⟨u,r,l⟩:=hl i x v O e T;have ii:EP X _ σ Q u s:=⟨v,H,I,r,h⟩;rcases l with⟨hk,hm⟩|⟨hk,c,hc,G⟩
 .exact wpAny_Name (wpAny_loadName_local I.ok.kind hk hn hm ii) hd
 .rcases hk with hk|hk
  .exact wpAny_Name (wpAny_loadName_cell I.ok.kind hk hc G ii) hd
  .exact wpAny_Name (wpAny_loadName_free I.ok.kind hk hc G ii M) hd
def NI {i j G}:PE X (.Constant (.int i) j G) (tC (.int i)):=λ_ _ _ H _ I h=>wpAny_Constant_int ⟨.int i,H,I.tok _,⟨_,rr⟩,h⟩
def QB {b j G}:PE X (.Constant (.bool b) j G) (tC (.bl b)):=λ_ _ _ H _ I h=>Constant_bool ⟨.bl b,H,I,rr,h⟩
def NJ {j G}:PE X (.Constant .none j G) (tC .non):=λ_ _ _ H _ I h=>Constant_none ⟨.non,H,I,rr,h⟩
def NK {x j G}:PE X (.Constant (.str x) j G) (tC (.str x)):=λ_ _ _ H _ I h=>Calls.Constant_str ⟨.str x,H,I.tok _,⟨_,rr⟩,h⟩
def Gl (X:Cx)(x:Str):Prop:=X.env.kindOf x=some .globalImplicit
def xw {E:QV}{ak:AO}{s:Shared}{σ:St}{H:Hp}{x:Str}{u:Value}{G:Pos}{Q:QV}(I:Inv X ak σ H s)(M:Gl X x)(hm:X.mg x=some u)(h:Q u s)
  (hd:(x == ("__debug__" : Str))=false:=by decide):wq X (eval (.Name x G) X.env) Q E s :=
 Calls.Name_function_global I.ok.kind M (Calls.loadGlobal_global (by rw[I.ok.glob];exact I.mod.glob.keeps I.bk) hm h) hd
def gA {E:QV}{ak:AO}{s:Shared}{σ:St}{H:Hp}{x:Str}{u:Value}{G:Pos}{Q:QV}(I:Inv X ak σ H s)(M:Gl X x)(hm:X.mg x=none)(O:bootBuiltins x=some u)(h:Q u s)
  (hn:x ≠ "__name__":=by decide) (hd:(x == ("__debug__" : Str))=false:=by decide):wq X (eval (.Name x G) X.env) Q E s:=by
 obtain⟨mb,h1,h2⟩:=I.mod.blt;exact Calls.Name_function_global I.ok.kind M (Calls.loadGlobal_builtin (by rw[I.ok.glob];exact I.mod.glob.keeps I.bk) hm (by rw[I.ok.blt];exact h1.keeps I.bk) ((h2 x hn).trans O) h) hd
def qN (G:Gl X x)(hm:X.mg x=some u)(r:aU v u)(hd:(x == ("__debug__" : Str))=false:=by decide):PE X (.Name x M) (tC v) :=
 λ_ _ _ H _ I h=>xw I G hm ⟨v,H,I,r,h⟩ hd
def Kf (G:Gl X x)(hm:X.mg x=none)(M:bootBuiltins x=some u)(r:aU v u)(hn:x ≠ "__name__":=by decide)(hd:(x == ("__debug__" : Str))=false:=by decide):PE X (.Name x O) (tC v) :=
 λ_ _ _ H _ I h=>gA I G hm M ⟨v,H,I,r,h⟩ hn hd
def XH (ta tb:TE)(k:Int->Int->Hp->Prop):St->Hp->Prop:=λσ H=>ta σ H λx G=>tb σ G λy H2=>∃i j,x=.int i/\y=.int j/\k i j H2
variable {a b:Expr}{ta tb:TE}{pos:Pos}
def PC (X:Cx)(op:CmpOp)(a b:Expr)(t:TE):Prop :=
 ∀(ak:AO)(s:Shared)(σ:St)(H:Hp)(Q:VK),Inv X ak σ H s->t σ H Q ->
  wq X (eval a X.env) (λv G=>wq X (eval b X.env) (λu M=>wq X (compareOp op v u) (EP X ak σ Q) X.xe M) X.xe G) X.xe s
def j7 (b:Expr){op:CmpOp}(h:op≠.In)(h2:op≠.NotIn):behindInMarks op b=false:=by
 have G:(op == CmpOp.In)=false:=by simp_all
 have e2:(op == CmpOp.NotIn)=false:=by simp_all
 cases b<;>simp[behindInMarks,G,e2]
def Ub (p:Int->Int->Bool)(ta tb:TE):TE:=λσ H Q=>XH ta tb (λi j H2=>Q (.bl (p i j)) H2) σ H
abbrev QC:TE->TE->TE:=Ub λi j=>decide (i<j)
def tB (t:TE):TT:=λσ H Q=>t σ H λx G=>∃c,x=.bl c/\Q c G
def NL (h:PC X op a b t)(h1:behindInMarks op b=false:=by first|exact j7 _ Z9 Z9|rfl):PE X (.Compare a [op] [b] pos) t:=λak s σ H Q I hw=>wpAny_Compare1 (h _ s σ H Q I hw) h1
def NM {op:CmpOp}{t:TE}(h:PC X op a b t)(h1:behindInMarks op b=false:=by first|exact j7 _ Z9 Z9|rfl):PT X (.Compare a [op] [b] pos) (tB t):=by
 intro ak s σ H Q I hw;refine wpAny_isTrue_Compare1 (cu (h _ s σ H _ I hw) λv s1 h1=>cu h1 λu s2 h2=>cu h2 λc U ⟨x,G,M,O,T⟩=>?_) h1;obtain⟨d,rfl,q⟩:=T;cases O
 exact wpAny_truthy_bool ⟨G,M,q⟩
def NN {e:Expr}{t:TE}(h:PE X e t)(he:∀G,isTrue e X.env G=(do let v <-G;standAt e.pos;holding [v] (truthy v)):=by intro _;rfl):PT X e (tB t):=by
 intro ak s σ H Q I hw;refine isTrue_plain (cu (h _ s σ H _ I hw) λv s1 ⟨x,M,O,T,U⟩=>?_) (he _);obtain⟨d,rfl,q⟩:=U;cases T
 exact wpAny_truthy_bool ⟨M,O,q⟩
variable {tA TC:TT}{rest:QD}
def QE (t u:TT):TT:=λσ H Q=>t σ H λc G=>if c=true then u σ G Q else Q false G
def We (t u:TT):TT:=λσ H Q=>t σ H λc G=>if c=true then Q true G else u σ G Q
def QF (t:TT):TT:=λσ H Q=>t σ H λc G=>Q (!c) G
def Kg (ha:PT X a tA):PW X (.BoolOp .And [a] pos) tA:=by
 intro wh ak s σ H Q I h;refine isTrue_and (cu (ha _ s σ H Q I h) λc s1 e=>?_);grind[isTrue_and_nil]
def NO (ha:PT X a tA):PW X (.BoolOp .Or [a] pos) tA:=by
 intro wh ak s σ H Q I h;refine isTrue_or (cu (ha _ s σ H Q I h) λc s1 e=>?_);grind[isTrue_or_nil]
def NP (ha:PT X a tA)(hb:PW X (.BoolOp .And (b::rest) pos) TC):PW X (.BoolOp .And (a::b::rest) pos) (QE tA TC):=by
 intro wh ak s σ H Q I h;refine isTrue_and (cu (ha _ s σ H _ I h) λc s1 ⟨G,M,O⟩=>?_);cases c with
 |true=>exact hb wh _ s1 σ G Q M O
 |false=>exact⟨G,M,O⟩
def QG (ha:PT X a tA)(hb:PW X (.BoolOp .Or (b::rest) pos) TC):PW X (.BoolOp .Or (a::b::rest) pos) (We tA TC):=by
 intro wh ak s σ H Q I h;refine isTrue_or (cu (ha _ s σ H _ I h) λc s1 ⟨G,M,O⟩=>?_);cases c with
 |true=>exact⟨G,M,O⟩
 |false=>exact hb wh _ s1 σ G Q M O
def NQ (ha:PT X a tA):PT X (.UnaryOp .Not a pos) (QF tA):=by
 intro ak s σ H Q I h;exact isTrue_not (ha _ s σ H _ I h)
def QH (ta tb:TE):TE:=λσ H Q=>ta σ H λx G=>∃c,x=.bl c/\if c=true then tb σ G Q else Q (.bl false) G
def Uc (ta tb:TE):TE:=λσ H Q=>ta σ H λx G=>∃c,x=.bl c/\if c=true then Q (.bl true) G else tb σ G Q
def QI (ta:TE):TE:=λσ H Q=>ta σ H λx G=>∃c,x=.bl c/\Q (.bl (!c)) G
def NR {op}(h:PE X a t):PE X (.BoolOp op [a] pos) t:=λak s σ H Q I hw=>BoolOp_one (h _ s σ H Q I hw)
def NS (ha:PE X a ta)(hb:PE X (.BoolOp .And (b::rest) pos) tb):PE X (.BoolOp .And (a::b::rest) pos) (QH ta tb):=by
 intro ak s σ H Q I h;refine BoolOp_and (cu (ha _ s σ H _ I h) λv s1 ⟨x,M,O,T,G⟩=>?_);obtain⟨c,rfl,G⟩:=G;cases T
 refine wpAny_truthy_bool ?_;cases c with
 |true=>exact hb _ s1 σ M Q O G
 |false=>exact⟨.bl _,M,O,rr,G⟩
def QJ (ha:PE X a ta)(hb:PE X (.BoolOp .Or (b::rest) pos) tb):PE X (.BoolOp .Or (a::b::rest) pos) (Uc ta tb):=by
 intro ak s σ H Q I h;refine BoolOp_or (cu (ha _ s σ H _ I h) λv s1 ⟨x,M,O,T,G⟩=>?_);obtain⟨c,rfl,G⟩:=G;cases T
 refine wpAny_truthy_bool ?_;cases c with
 |false=>exact hb _ s1 σ M Q O G
 |true=>exact⟨.bl _,M,O,rr,G⟩
def NT (ha:PE X a ta):PE X (.UnaryOp .Not a pos) (QI ta):=by
 intro ak s σ H Q I h;refine UnaryOp_ (cu (ha _ s σ H _ I h) λv s1 ⟨x,M,O,T,G⟩=>?_);obtain⟨c,rfl,G⟩:=G;cases T
 exact not_of (wpAny_truthy_bool ⟨.bl _,M,O,rr,G⟩)
end
def gB (K:Frag)(H:Hp)(a:Addr)(xs:List V):Prop :=
 Rd H a (.lst xs) \/
  ∃(o:Obj)(its:AV)(n:Nat),K.lookup a=some o/\o.cls=.type "list"/\o.dict=none/\o.data=.seq its n/\its.size<=sizeLine/\bi xs its.toList
def jf (K:Frag)(H:Hp)(a:Addr)(xs:List V):Prop :=
 Rd H a (.tup xs) \/
  ∃(o:Obj)(its:AV)(n:Nat),K.lookup a=some o/\o.cls=.type "tuple"/\o.data=.seq its n/\its.size<=sizeLine/\bi xs its.toList
noncomputable def Ud:Value->Option V
 |.none=>some .non
 |.bool b=>some (.bl b)
 |.int i _=>some (.int i)
 |.str x _=>some (.str x)
 |.bytes b _=>some (.byt b)
 |.float b _=>some (.flt b)
 |.ref a=>some (.ref a)
 |.type n=>some (.ty n)
 |_=>none
def aU.abs (r:aU x u):Ud u=some x:=by
 cases x with
 |non=>cases r;rfl
 |bl _=>cases r;rfl
 |int _=>obtain⟨t,rfl⟩:=r;rfl
 |str _=>obtain⟨t,rfl⟩:=r;rfl
 |byt _=>obtain⟨t,rfl⟩:=r;rfl
 |flt _=>obtain⟨t,rfl⟩:=r;rfl
 |ref _=>cases r;rfl
 |ty _=>cases r;rfl
def aU.inj (r:aU x u)(q:aU y u):x=y:=vK (r.abs.symm.trans q.abs)
theorem bi.inj:∀ {xs ys:List V}{us:LU},bi xs us->bi ys us->xs=ys
 |_,_,_,.nil,.nil=>rr
 |_,_,_,.cons r t,.cons G t'=>by rw[r.inj G,bi.inj t t']
section
variable {X:Cx}{ak:AO}{σ:St}{H:Hp}{s:Shared}{a:Addr}{xs ys:List V}
def gB.of {K:Frag}(h:H a=some (.lst xs)):gB K H a xs:=.inl (.inl h)
def jf.of {K:Frag}(h:H a=some (.tup xs)):jf K H a xs:=.inl (.inl h)
def Inv.list (I:Inv X ak σ H s)(h:gB X.K H a xs):∃its:LU,bi xs its/\PlainL s.heap a its.toArray/\xs.length<=sizeLine:=by
 rcases h with h|⟨o,its,n,hk,hc,hd,hs,hz,r⟩
 .obtain⟨z,its,n,r,e⟩:=h.ok I.hok;exact⟨its,r,⟨_,n,e,rr,rr,rr⟩,z⟩
 .refine⟨its.toList,r,⟨o,n,I.kIn a o hk,hc,hd,by simpa using hs⟩,?_⟩;have e:=r.length;simp_all
def Inv.tuple (I:Inv X ak σ H s)(h:jf X.K H a xs):∃its:LU,bi xs its/\IsTup s.heap a its.toArray/\xs.length<=sizeLine:=by
 rcases h with h|⟨o,its,n,hk,hc,hs,hz,r⟩
 .obtain⟨z,its,r,p⟩:=h.ok I.hok;exact⟨its,r,p,z⟩
 .refine⟨its.toList,r,⟨o,I.kIn a o hk,hc,n,by simpa using hs⟩,?_⟩;have e:=r.length;simp_all
def Inv.list_inj (I:Inv X ak σ H s)(h:gB X.K H a xs)(h':gB X.K H a ys):xs=ys:=by
 obtain⟨its,r,⟨o,n,e,_,_,d⟩,_⟩:=I.list h;obtain⟨its',G,⟨o',O,M,_,_,d'⟩,_⟩:=I.list h';rw[e]at M;have:its=its':=by simp_all
 subst this;exact r.inj G
def Inv.tuple_inj (I:Inv X ak σ H s)(h:jf X.K H a xs)(h':jf X.K H a ys):xs=ys:=by
 obtain⟨its,r,⟨o,e,_,n,d⟩,_⟩:=I.tuple h;obtain⟨its',G,⟨o',M,_,O,d'⟩,_⟩:=I.tuple h';rw[e]at M;have:its=its':=by simp_all
 subst this;exact r.inj G
end
noncomputable abbrev Cx.wish (X:Cx)(E:QV):Cx:={ X with xe:=E }
noncomputable abbrev Cx.nox (X:Cx):Cx:=X.wish λ_ _=>False
def Cx.Ok.wish {X:Cx}(ok:X.Ok)(E:QV):(X.wish E).Ok :=
 ⟨ok.mod,ok.kind,ok.glob,ok.blt,ok.above,ok.inj,ok.has,ok.cab,ok.hd,ok.frames,ok.stk,ok.exf,ok.bs,ok.bsz,ok.noex,ok.exfs,ok.funs,ok.frf⟩
def Cx.Ok.unwish {X:Cx}{E:QV}(ok:(X.wish E).Ok):X.Ok :=
 ⟨ok.mod,ok.kind,ok.glob,ok.blt,ok.above,ok.inj,ok.has,ok.cab,ok.hd,ok.frames,ok.stk,ok.exf,ok.bs,ok.bsz,ok.noex,ok.exfs,ok.funs,ok.frf⟩
section
variable {X:Cx}{ak:AO}{σ:St}{H:Hp}{s:Shared}{E:QV}
def Inv.wish (I:Inv X ak σ H s)(E:QV):Inv (X.wish E) ak σ H s:=⟨I.ok.wish E,I.os,I.bare,I.base,I.loc,I.cell,I.free,I.freeC,I.pin,I.hok,I.len⟩
def Inv.unwish (I:Inv (X.wish E) ak σ H s):Inv X ak σ H s:=⟨I.ok.unwish,I.os,I.bare,I.base,I.loc,I.cell,I.free,I.freeC,I.pin,I.hok,I.len⟩
def SP.unwish (h:SP (X.wish E) ak D f s'):SP X ak D f s':=by
 cases f with
 |next=>obtain⟨G,H',I,q⟩:=h;exact⟨G,H',I.unwish,q⟩
 |brk=>obtain⟨G,H',I,q⟩:=h;exact⟨G,H',I.unwish,q⟩
 |cont=>obtain⟨G,H',I,q⟩:=h;exact⟨G,H',I.unwish,q⟩
 |ret u=>obtain⟨v,G,H',I,r,q⟩:=h;exact⟨v,G,H',I.unwish,r,q⟩
def PE.nox (h:PE X.nox e t):PE X e t:=λak s σ H Q I hw=>
 wpAny_mono (h _ s σ H Q (I.wish _) hw) (λ_ _ ⟨v,H',G,r,q⟩=>⟨v,H',G.unwish,r,q⟩) λ_ _ z=>False.elim z
def PT.nox (h:PT X.nox e t):PT X e t:=λak s σ H Q I hw=>
 wpAny_mono (h _ s σ H Q (I.wish _) hw) (λ_ _ ⟨H',G,q⟩=>⟨H',G.unwish,q⟩) λ_ _ z=>False.elim z
def uC.nox {st:List Stmt}{t:TS}(h:uC X.nox st t):uC X st t:=λak s σ H D I hw=>
 wpAny_mono (h _ s σ H D (I.wish _) hw) (λ_ _ q=>q.unwish) λ_ _ z=>False.elim z
end
section
variable {X:Cx}{st:Stmt}{rest:List Stmt}{t u:TS}{e:Expr}{te:TE}{pos:Pos}
def MN:TS:=λD σ H=>D.nx σ H
def QK (t u:TS):TS:=λD σ H=>t { D with nx:=u D } σ H
def Kh:uC X [] MN:=λ_ _ σ H _ I h=>wpAny_execs_nil ⟨σ,H,I,h⟩
def Gp (h1:PS X st t)(h2:uC X rest u):uC X (st::rest) (QK t u):=by
 intro ak s σ H D I h;refine wpAny_execs_cons (cu (h1 _ s σ H _ I h) λf s1 q=>?_);cases f with
 |next=>
  obtain⟨G,H',M,q⟩:=q;exact h2 _ s1 _ H' D M q
 |ret v=>exact q
 |brk=>exact q
 |cont=>exact q
def Ki (h1:PS X st t):uC X [st] t:=by
 intro ak s σ H D I h;refine wpAny_execs_cons (cu (h1 _ s σ H D I h) λf s1 q=>?_);cases f with
 |next=>exact wpAny_execs_nil q
 |ret v=>exact q
 |brk=>exact q
 |cont=>exact q
def QL:TS:=λD σ H=>D.ct σ H
def yT:PS X (.Continue pos) QL:=λ_ _ σ H _ I h=>wpAny_Continue ⟨σ,H,I,h⟩
def Inv.quiet (I:Inv X ak σ H s):interactive X.env=false:=by simp[interactive,I.ok.kind]
def QM (te:TE):TS:=λD σ H=>te σ H λ_ G=>D.nx σ G
def CK (he:PE X e te)(hs:swapsWith e none pos.line X.env=pure false:=by rfl):PS X (.Expr e pos) (QM te):=by
 intro ak s σ H D I h;exact wpAny_Expr_any (cu (he _ s σ H _ I h) λv s1 ⟨x,G,M,T,O⟩=>⟨σ,G,M,O⟩) I.quiet hs
def NU (te:TE):TS:=λD σ H=>te σ H D.rt
def Gq (he:PE X e te):PS X (.Return (some e) pos) (NU te):=by
 intro ak s σ H D I h;exact wpAny_Return_some (cu (he _ s σ H _ I h) λv s1 ⟨x,G,M,O,T⟩=>⟨x,σ,G,M,O,T⟩)
def QN (c:TT)(t u:TS):TS:=λD σ H=>c σ H λb G=>if b=true then t D σ G else u D σ G
def QO {c:Expr}{a b:List Stmt}{G:TT}(hc:PT X c G)(ha:uC X a t)(hb:uC X b u):PS X (.If c a b pos) (QN G t u):=by
 intro ak s σ H D I h;refine wpAny_If (cu (hc _ s σ H _ I h) λd s1 ⟨M,O,T⟩=>?_);cases d with
 |true=>exact ha _ s1 σ M D O T
 |false=>exact hb _ s1 σ M D O T
end
abbrev TG:=V->St->Hp->(St->Hp->Prop)->Prop
abbrev NV:=List V->St->Hp->(St->Hp->Prop)->Prop
def PG (X:Cx)(G:Expr)(t:TG):Prop :=
 ∀(ak:AO)(s:Shared)(σ:St)(H:Hp)(v:V)(u:Value)(Q:St->Hp->Prop),Inv X ak σ H s->aU v u->t v σ H Q ->
  wq X (assign G X.env u) (λ_ s'=>∃M H',Inv X ak M H' s'/\Q M H') X.xe s
def Tu (X:Cx)(M:QD)(t:NV):Prop :=
 ∀(ak:AO)(s:Shared)(σ:St)(H:Hp)(vs:List V)(us:LU)(Q:St->Hp->Prop),Inv X ak σ H s->bi vs us->t vs σ H Q ->
  wq X (assignInOrder ((assignEach M X.env).map (·.2)) us) (λ_ s'=>∃G H',Inv X ak G H' s'/\Q G H') X.xe s
abbrev NW:=V->V->V->Hp->(Hp->Prop)->Prop
def QP (X:Cx)(t:NW):Prop :=
 ∀(ak:AO)(s:Shared)(σ:St)(H:Hp)(o i v:V)(G iv u:Value)(Q:Hp->Prop),Inv X ak σ H s->aU o G->aU i iv->aU v u->t o i v H Q ->
  wq X (setItem G iv u) (λ_ s'=>∃H',Inv X ak σ H' s'/\Q H') X.xe s
section
variable {X:Cx}{pos:Pos}
def kP (i:Nat):TG:=λv σ H Q=>Q (σ.set i (some v)) H
def CL (G:X.N.Nodup)(hi:X.N[i]? = some x)(hx:JU X.env.scope x)(hf:X.fn x=true\/X.env.scope.names.lookup x=some .local:=by first|exact .inl rr|exact .inr rr|assumption):PG X (.Name x pos) (kP i):=by
 intro ak s σ H v u Q I r h;exact wpAny_assign_Name (yS I G hi hx r (λs' M=>⟨_,H,M,h⟩) hf)
def QQ:NV:=λvs σ H Q=>vs=[]/\Q σ H
def MO (t:TG)(u:NV):NV:=λvs σ H Q=>∃v r,vs=v::r/\t v σ H λG H'=>u r G H' Q
def qO:Tu X [] QQ:=by
 intro ak s σ H vs us Q I r h;obtain⟨e,h⟩:=h;exact assignInOrder_nil ⟨σ,H,I,h⟩
def gT {e:Expr}{es:QD}{t:TG}{u:NV}(h1:PG X e t)(h2:Tu X es u)
  (hs:(assignEach (e::es) X.env).map (·.2)=assign e X.env::(assignEach es X.env).map (·.2):=by rfl):Tu X (e::es) (MO t u):=by
 intro ak s σ H vs us Q I r h;obtain⟨v,b,G,h⟩:=h;subst G;cases r with
 |cons r M=>
  rw[hs];refine assignInOrder_cons (cu (h1 _ s σ H _ _ _ I r h) λ_ s1 ⟨O,T,U,a⟩=>?_);exact h2 _ s1 _ T _ _ Q U M a
def NX (K:Frag)(n:Nat)(t:NV):TG:=λv σ H Q=>∃a xs,v=.ref a/\jf K H a xs/\xs.length=n/\t xs σ H Q
def xx (hc:X.calm=true)(h:Tu X es t)
  (hn:(assignEach es X.env).length=n:=by rfl) (G:(assignEach es X.env).findIdx? (·.1)=none:=by rfl):PG X (.Tuple es k pos) (NX X.K n t):=by
 intro ak s σ H v u Q I r hw;obtain⟨a,xs,O,hq,hl,hw⟩:=hw;subst O;cases r
 obtain⟨its,M,T,hz⟩:=I.tuple hq;refine assign_Tuple_tuple (I.ok.hd hc) T (by simp[hn,<-hl,M.length]) G λh' hx=>?_;have U :=I.kept (t':=s.toks) λb o e=>hx b o (vS (vX e)) e;exact h _ _ σ H xs _ Q U (by simpa using M) hw
def Ue (to ti:TE)(t:NW):TG:=λv σ H Q=>to σ H λo G=>ti σ G λi H2=>t o i v H2 λM=>Q σ M
def NY {o i:Expr}{to ti:TE}{t:NW}(ho:PE X o to)(hi:PE X i ti)(hs:QP X t)
  (ha:∀v,assign (.Subscript o i pos) X.env v=(do
   let G <-holding [v] (eval o X.env)
   let iv <-holding [v,G] (eval i X.env)
   standAt pos
   holding [v,G,iv] (setItem G iv v)
   release [v,G,iv] []):=by intro _;rfl):PG X (.Subscript o i pos) (Ue to ti t):=by
 intro ak s σ H v u Q I r h;refine wX (wpAny_holding (cu (ho _ s σ H _ I h) λG s1 ⟨x,M,O,T,U⟩=>?_));refine wX (wpAny_holding (cu (hi _ s1 σ M _ O U) λiv s2 ⟨y,H2,a,b,c⟩=>?_));refine wX (wpAny_standAt (wX (wpAny_holding (cu (hs _ s2 σ H2 x y v G iv u _ a T b r c) λ_ g ⟨d,e,f⟩=>?_))));exact wpAny_release ⟨σ,d,e,f⟩
def ED (G:TE)(g:TG):TS:=λD σ H=>G σ H λx M=>g x σ M D.nx
def NZ {tg e:Expr}{G:TE}{g:TG}(he:PE X e G)(M:PG X tg g)(hs:swapsWithSole [tg] e pos.line X.env=pure false:=by rfl)(hw:swappedStores [tg] e X.env=pure none:=by rfl)
  (h1:(assignEach [tg] X.env).map (·.2)=[assign tg X.env]:=by rfl):PS X (.Assign [tg] e pos) (ED G g):=by
 intro ak s σ H D I h;refine wpAny_Assign_stores (cu (he _ s σ H _ I h) λv s1 ⟨x,O,T,U,a⟩=>?_) hs hw;rw[h1];exact cu (M _ s1 σ O x v _ T U a) λ_ s2 q=>q
def xy {i:Nat}{x:Str}{e:Expr}{M:TE}{G:Pos}(O:X.N.Nodup)(hi:X.N[i]? = some x)(hx:JU X.env.scope x)(he:PE X e M)(hs:swapsWith e (some (.Name x G)) pos.line X.env=pure false:=by rfl)(hf:X.fn x=true\/X.env.scope.names.lookup x=some .local:=by first|exact .inl rr|exact .inr rr|assumption):
  PS X (.Assign [.Name x G] e pos) (ED M (kP i)):=by
 intro ak s σ H D I h;refine wpAny_Assign_Name (cu (he _ s σ H _ I h) λv s1 ⟨y,T,U,a,b⟩=>?_) hs;exact yS U O hi hx a (λs2 c=>⟨_,T,c,b⟩) hf
end
section
variable {X:Cx}{pos:Pos}
def Gr (c:TT)(tb:TS):TS:=λD σ H=>∃W:Nat->St->Hp->Prop,(∃m,W m σ H)/\∀m σ H,W m σ H ->
 c σ H λb M=>if b=true then ∃N:St->Hp->Prop,(∀G H',N G H'->∃O,O<m/\W O G H')/\tb { D with nx:=N,ct:=N,bk:=D.nx } σ M else D.nx σ M
def Gs {c:Expr}{G:List Stmt}{k:TT}{tb:TS}(hp:PassesOwn (model X.prog X.w) X.A X.env X.xe)(hc:PT X c k)(hb:uC X G tb):PS X (.While c G [] pos) (Gr k tb):=by
 intro ak s σ H D I h;obtain⟨W,⟨p,q⟩,O⟩:=h;refine wpAny_While (codeAny_whileLoop (λn s'=>∃T H',Inv X _ T H' s'/\W n T H') ?_ p ⟨σ,H,I,q⟩);rintro n s1 ⟨e,l,r,t⟩;refine wpAny_passesOwn hp (cu (hc _ s1 _ l _ r (O n _ l t)) λb s2 ⟨H2,m,a⟩=>?_);cases b with
 |true=>
  obtain⟨N,o,a⟩:=a;refine wpAny_passesOwn hp (cu (hb _ s2 _ H2 _ m a) λf u d=>?_);cases f with
  |next=>
   obtain⟨M,U,g,n3⟩:=d;obtain⟨i,hm,j⟩:=o _ U n3;exact⟨i,hm,M,U,g,j⟩
  |cont=>
   obtain⟨M,U,g,n3⟩:=d;obtain⟨i,hm,j⟩:=o _ U n3;exact⟨i,hm,M,U,g,j⟩
  |brk=>exact d
  |ret v=>exact d
 |false=>
  exact wpAny_execs_nil ⟨e,H2,m,a⟩
end
structure It where
 go:Nat->Hp->Prop
 yld:Nat->Hp->V->Hp->Prop
 stop:Nat->Hp->Prop
def m9 (X:Cx)(ak:AO)(H:Hp)(b:Addr):Prop :=
 H b=none/\b≠X.env.locals/\b∉X.fs/\(b∈X.ex\/X.s₀.heap.objs.size<=b)/\(∀x c,X.env.cells.lookup x=some c->c≠b)/\∀p∈X.pn++ak,p.1≠b
def Inv.fpOk (I:Inv X ak σ H s)(hb:s.heap.objs.size<=b)(hn:H' b=none):m9 X ak H' b:=by
 refine⟨hn,ne_of_gt (vQ I.lt hb),I.nofs hb,.inr (vR I.sz hb),λx c e z=>?_,λp hp z=>?_⟩
 .obtain⟨v,q⟩:=I.cell x c e;exact absurd (vQ q.lt (by rw[z];exact hb)) (Nat.lt_irrefl _)
 .exact absurd (vQ (vX (I.pin p hp).1) (by rw[z];exact hb)) (Nat.lt_irrefl _)
structure Turn (P:Program)(w:World)(K:Frag)(tg:Expr)(J:It)(fp:List Addr)(it:Addr)(tn:Nat->Heap->Prop):Prop where
 mem:it∈fp
 obj:∀i h,tn i h->∀b∈fp,∃o,h.get? b=some o/\∀v,o.data≠.cell v
 keep:∀i h h',tn i h->(∀b∈fp,∀o,h.get? b=some o->h'.get? b=some o)->tn i h'
 item:∀(X:Cx),X.prog=P->X.w=w->X.K=K->X.calm=true->∀(i:Nat)(ak:List (Addr×Obj))(s:Shared)(σ:St)(H:Hp)(E:Value->Shared->Prop),Inv X ak σ H s->(∀b∈fp,m9 X ak H b)->tn i s.heap->J.go i H ->
  wpAny (model P w) X.A (pyNext (.ref it)) (λr s1=>∃u,r=some u /\
   wpAny (model P w) X.A (letOwnedTupleGo tg (.ref it) u) (λ_ s2=>∃x H',Inv X ak σ H' s2/\aU x u/\J.yld i H x H'/\tn (i+1) s2.heap/\∀b∈fp,H' b=none) E s1) E s
 done:∀(X:Cx),X.prog=P->X.w=w->X.K=K->X.calm=true->∀(i:Nat)(ak:List (Addr×Obj))(s:Shared)(σ:St)(H:Hp)(E:Value->Shared->Prop),Inv X ak σ H s->(∀b∈fp,m9 X ak H b)->tn i s.heap->J.stop i H ->
  wpAny (model P w) X.A (pyNext (.ref it)) (λr s1=>r=none/\Inv X ak σ H s1) E s
 self:∀(A:Around)(i:Nat)(s:Shared)(Q:Value->Shared->Prop)(E:Value->Shared->Prop),tn i s.heap->Q (.ref it) s->wpAny (model P w) A (pyIter (.ref it)) Q E s
abbrev TI:=St->Hp->(It->Hp->Prop)->Prop
def Wf (X:Cx)(ak:AO)(σ:St)(tg:Expr)(R:It->Hp->Prop)(G:Value)(s2:Shared):Prop :=
 ∃(it:Addr)(fp:List Addr)(tn:Nat->Heap->Prop)(J:It)(H':Hp),G=.ref it/\Inv X ak σ H' s2/\Turn X.prog X.w X.K tg J fp it tn/\tn 0 s2.heap/\(∀b∈fp,m9 X ak H' b)/\R J H'
def PI (X:Cx)(tg G:Expr)(M:TI):Prop :=
 ∀(ak:AO)(s:Shared)(σ:St)(H:Hp)(R:It->Hp->Prop),Inv X ak σ H s->M σ H R ->
  wq X (eval G X.env) (λv s1=>wq X (pyIter v) (Wf X ak σ tg R) X.xe s1) X.xe s
def rg (ho:s.heap.get? it=some o)(hc:o.cls=.type n)(hd:o.data=.fields vs)
    (hn:["enumerate","zip","dict_itemiterator","dict_reverseitemiterator","odict_iterator","itertools.zip_longest","itertools.pairwise"].contains n=false) (G:Q () s):wpAny M A (letOwnedTupleGo tg (.ref it) u) Q E s:=by
  cases tg<;>first
    |exact wY G
    | (cases u<;>first
        |exact wY G
        | (refine wX (wpAny_load ho ?_)
           rw[hc,hd]
           show wpAny M A (if(["enumerate","zip","dict_itemiterator","dict_reverseitemiterator","odict_iterator","itertools.zip_longest","itertools.pairwise"].contains n && vs[0]? == some _)=true then _ else _) Q E s
           rw[if_neg (by intro h;rw[hn]at h;cases h)]
           exact wY G))
noncomputable def Wg (K:Frag)(a:Addr):It :=
 ⟨λi H=>∃xs x,gB K H a xs/\xs[i]? = some x,λi H x H'=>H'=H/\∀xs,gB K H a xs->xs[i]? = some x,λi H=>∃xs,gB K H a xs/\xs.length<=i⟩
noncomputable def Wh (K:Frag)(a:Addr):It :=
 ⟨λi H=>∃xs x,jf K H a xs/\xs[i]? = some x,λi H x H'=>H'=H/\∀xs,jf K H a xs->xs[i]? = some x,λi H=>∃xs,jf K H a xs/\xs.length<=i⟩
noncomputable def Tv (lo:Int)(n:Nat):It:=⟨λi _=>i<n,λi H x H'=>H'=H/\x=.int (lo+i),λi _=>n<=i⟩
def EE {P:Program}{w:World}{K:Frag}{tg:Expr}(a it:Addr):Turn P w K tg (Wg K a) [it] it (λi h=>h.IsListIter it a i) where
 mem:=X9
 obj:=λi h st b hb=>by
  have e :=by simpa using hb
  obtain⟨o,e,c,d⟩:=st;simp_all
 keep:=λi h h' st k=>st.at λo e=>k it X9 o e
 item:=by
  intro X M hw O hc i ak s σ H E I hf st T;subst M hw O;obtain⟨xs,x,hq,hx⟩:=T;obtain⟨its,U,p,hz⟩:=I.list hq;obtain⟨u,hu,ru⟩:=U.get hx;obtain⟨f0,f1,f2,f3,f4,f5⟩:=hf it X9;refine wpAny_pyNext_list_item st p.isList  (by simpa using hu) λh' G f=>?_;have g :=I.turned (t':=s.toks) (λb o hb e=>(f.2 b hb).trans e) f0 f1 f3 f4 f5;obtain⟨o,e,c,d⟩:=id G;exact⟨u,rr,rg  e c d Z9 ⟨x,H,g,ru,⟨rr,λys hy=>by rw[I.list_inj hy hq];exact hx⟩,G,λb hb=>(hf b hb).1⟩⟩
 done:=by
  intro X M hw O hc i ak s σ H E I hf st T;subst M hw O;obtain⟨xs,hq,hx⟩:=T;obtain⟨its,U,p,hz⟩:=I.list hq;obtain⟨f0,f1,f2,f3,f4,f5⟩:=hf it X9;have hl:=U.length;exact wpAny_pyNext_list_end (I.ok.hd hc) st p.isList I9 λh' j=>⟨rr,I.turned  (λb o hb e=>j b o hb e) f0 f1 f3 f4 f5⟩
 self:=λ_ _ _ _ _ st h=>wpAny_pyIter_listiter st h
def Br {P:Program}{w:World}{K:Frag}{tg:Expr}(a it:Addr):Turn P w K tg (Wh K a) [it] it (λi h=>h.IsTupleIter it a i) where
 mem:=X9
 obj:=λi h st b hb=>by
  have e :=by simpa using hb
  obtain⟨o,e,c,d⟩:=st;simp_all
 keep:=λi h h' st k=>st.at λo e=>k it X9 o e
 item:=by
  intro X M hw O hc i ak s σ H E I hf st T;subst M hw O;obtain⟨xs,x,hq,hx⟩:=T;obtain⟨its,U,p,hz⟩:=I.tuple hq;obtain⟨u,hu,ru⟩:=U.get hx;obtain⟨f0,f1,f2,f3,f4,f5⟩:=hf it X9;refine wpAny_pyNext_tuple_item st (show s.heap.IsTuple a _ from p)  (by simpa using hu) λh' G f=>?_;have g :=I.turned (t':=s.toks) (λb o hb e=>(f.2 b hb).trans e) f0 f1 f3 f4 f5;obtain⟨o,e,c,d⟩:=id G;exact⟨u,rr,rg  e c d Z9 ⟨x,H,g,ru,⟨rr,λys hy=>by rw[I.tuple_inj hy hq];exact hx⟩,G,λb hb=>(hf b hb).1⟩⟩
 done:=by
  intro X M hw O hc i ak s σ H E I hf st T;subst M hw O;obtain⟨xs,hq,hx⟩:=T;obtain⟨its,U,p,hz⟩:=I.tuple hq;obtain⟨f0,f1,f2,f3,f4,f5⟩:=hf it X9;have hl:=U.length;exact wpAny_pyNext_tuple_end (I.ok.hd hc) st (show s.heap.IsTuple a _ from p) I9 λh' j=>⟨rr,I.turned  (λb o hb e=>j b o hb e) f0 f1 f3 f4 f5⟩
 self:=λ_ _ _ _ _ st h=>wpAny_pyIter_tupleiter st h
def Bt {P:Program}{w:World}{K:Frag}{tg:Expr}(it:Addr)(lo:Int)(n:Nat):Turn P w K tg (Tv lo n) [it] it (λi h=>IsRangeIter h it (lo+(i:Nat)*1) ((n:Int) - (i:Nat)) 1) where
 mem:=X9
 obj:=λi h st b hb=>by
  simp_all
 keep:=λi h h' st k=>k it X9 _ st
 item:=by
  intro X O hw T hc i ak s σ H E I hf st M;subst O hw T;obtain⟨f0,f1,f2,f3,f4,f5⟩:=hf it X9;have W:=Walks.range (prog:=X.prog) (w:=X.w) (I.ok.hd hc) it lo 1 n;refine W.item i s _ _ M st λv h' tk U G a=>?_;obtain⟨t,rfl⟩:=U;have c:Inv X _ σ H { s with heap:=h',toks:=tk }:=I.turned (λb o hb e=>a b o (by simpa using hb) e) f0 f1 f3 f4 f5;refine⟨_,rr,rg   G rr rr Z9 ⟨.int _,H,c,⟨t,?_⟩,⟨rr,rr⟩,G,λb hb=>(hf b hb).1⟩⟩;simp
 done:=by
  intro X O hw T hc i ak s σ H E I hf st M;obtain⟨f0,f1,f2,f3,f4,f5⟩:=hf it X9;exact wpAny_pyNext_range_end (I.ok.hd hc) st (by have:n<=i:=M;lia) λh' d=>⟨rr,I.turned  (λb o hb e=>d b o hb e) f0 f1 f3 f4 f5⟩
 self:=λ_ _ _ _ _ st h=>wpAny_pyIter_rangeiter st h
section
variable {X:Cx}{tg:Expr}
def QR (K:Frag)(tl:TE):TI:=λσ H R=>tl σ H λx G=>∃a,x=.ref a/\(∃xs,gB K G a xs)/\R (Wg K a) G
def Uf (K:Frag)(tl:TE):TI:=λσ H R=>tl σ H λx G=>∃a,x=.ref a/\(∃xs,jf K G a xs)/\R (Wh K a) G
def Kj {l:Expr}{tl:TE}(hl:PE X l tl):PI X tg l (QR X.K tl):=by
 intro ak s σ H R I h;refine cu (hl _ s σ H _ I h) λv s1 ⟨x,M,G,O,T⟩=>?_;obtain⟨a,e,⟨xs,hq⟩,q⟩:=T;subst e;cases O
 obtain⟨its,U,p,hz⟩:=G.list hq;refine wpAny_pyIter_list p.isList ?_;refine⟨s1.heap.objs.size,[s1.heap.objs.size],_,_,M,rr,G.kept  λb o e=>vZ _ e,EE a _,⟨_,vY _ rr,rr,rr⟩,λb hb=>?_,q⟩;have e :=by simpa using hb
 subst e;exact G.fpOk (vT _) (G.hok.fresh (vT _))
def Oa {l:Expr}{tl:TE}(hl:PE X l tl):PI X tg l (Uf X.K tl):=by
 intro ak s σ H R I h;refine cu (hl _ s σ H _ I h) λv s1 ⟨x,M,G,O,T⟩=>?_;obtain⟨a,e,⟨xs,hq⟩,q⟩:=T;subst e;cases O
 obtain⟨its,U,p,hz⟩:=G.tuple hq;refine wpAny_pyIter_tuple (show s1.heap.IsTuple a _ from p) ?_;refine⟨s1.heap.objs.size,[s1.heap.objs.size],_,_,M,rr,G.kept  λb o e=>vZ _ e,Br a _,⟨_,vY _ rr,rr,rr⟩,λb hb=>?_,q⟩;have e :=by simpa using hb
 subst e;exact G.fpOk (vT _) (G.hok.fresh (vT _))
def Gu {ak:AO}{σ:St}{H:Hp}{s:Shared}{R:It->Hp->Prop}{E:QV}{lo hi:Int}{t u v:Tok}{tk:Nat}(I:Inv X ak σ H s)(h1 : -(2 ^ 62)<=lo)(h2:lo<2 ^ 62)(h3 : -(2 ^ 62)<=hi)(h4:hi<2 ^ 62)
  (q:R (Tv lo (hi - lo).toNat) H):wq X (pyIter (.ref s.heap.objs.size)) (Wf X ak σ tg R) E { s with heap:=s.heap.push { cls:=.type "range",data:=.fields #[.int lo t,.int hi u,.int 1 v] },toks:=tk }:=by
 refine wpAny_pyIter_range (IsRange.new ..) (small_one h1 h2 h3 h4) ?_;have G:Inv X _ σ H { s with heap:=s.heap.push { cls:=.type "range",data:=.fields #[.int lo t,.int hi u,.int 1 v] },toks:=tk }:=I.kept λb o e=>vZ _ e;refine⟨(s.heap.push _).objs.size,[(s.heap.push _).objs.size],_,_,H,rr,
  G.kept  λb o e=>vZ _ e,Bt _ lo _,?_,λb hb=>?_,q⟩
 .have M:lo+((0:Nat):Int)*1=lo:=X9
  have e2:(((hi - lo).toNat:Nat):Int) - ((0:Nat):Int)=Builtin.Range.rangeSize lo hi 1:=by rw[rangeSize_one];split<;>lia
  rw[M,e2];exact vY _ rr
 .have e:b=(s.heap.push { cls:=.type "range",data:=.fields #[.int lo t,.int hi u,.int 1 v] }).objs.size:=by simpa using hb
  subst e;exact G.fpOk (vT _) (G.hok.fresh (vT _))
def QS (ta:TA):TI:=λσ H R=>ta σ H λvs G=>∃j:Int,vs=[.int j]/\-(2 ^ 62)<=j/\j<2 ^ 62/\R (Tv 0 j.toNat) G
def EF {a:Expr}{ta:TA}{p G:Pos}(O:Gl X "range")(hm:X.mg "range" = none)(ha:PA X [a] ta)(hs:starEach [a] X.env=[(false,eval a X.env)]:=by rfl):PI X tg (.Call (.Name "range" p) [a] [] G) (QS ta):=by
 intro ak s σ H R I h;refine Call_ (gA I O hm boot_range (PyProof.Rows.callWith_type1 (cu (ha _ _ s σ H _ I h) λus s1 ⟨vs,d,T,U,M⟩=>?_) hs rr));obtain⟨j,e,M,b,q⟩:=M;subst e;cases U with
 |cons r c=>
  cases c
  obtain⟨t,rfl⟩:=r;exact call_range_1 (Gu T N9 N9 M b (by simpa using q))
def Ob (T:TI)(g:TG)(tb:TS):TS:=λD σ H=>T σ H λJ U=>∃W:Nat->Nat->St->Hp->Prop,(∃m,W 0 m σ U)/\∀i m σ H,W i m σ H ->
 (J.stop i H/\D.nx σ H)\/(J.go i H/\∃N:St->Hp->Prop,(∀G H',N G H'->∃O,O<m/\W (i+1) O G H')/\∀x H',J.yld i H x H'->g x σ H' λM H2=>tb { D with nx:=N,ct:=N,bk:=D.nx } M H2)
def rh (fp:List Addr)(h:Heap):AO:=fp.filterMap λb=>(h.get? b).map λo=>(b,o)
def jR {fp:List Addr}{h:Heap}{b:Addr}{o:Obj}(hb:b∈fp)(e:h.get? b=some o):(b,o)∈rh fp h:=mem_filterMap.mpr ⟨b,hb,by rw[e];rfl⟩
def EG (hp:p∈rh fp h):p.1∈fp/\h.get? p.1=some p.2:=by
 obtain⟨b,hb,e⟩:=mem_filterMap.mp hp;simp_all<;>lia
def Inv.pinned (I:Inv X ak σ H s)(hf:∀b∈fp,m9 X ak H b)(ho:∀b∈fp,∃o,s.heap.get? b=some o/\∀v,o.data≠.cell v):Inv X (ak++rh fp s.heap) σ H s :=
 I.pins_of λp hp=>(mem_append.mp hp).elim (λz=>I.pin p (mY _ z)) λz=>by
  obtain⟨hb,e⟩:=EG z;obtain⟨f0,f1,f2,_⟩:=hf _ hb;grind
def Inv.unpinned (I:Inv X (ak++pl) σ H s):Inv X ak σ H s:=I.pins_of λp hp=>I.pin p (mY _ (List.mem_append_left _ hp))
def Gw {M:Expr}{k:List Stmt}{C:TI}{g:TG}{tb:TS}{q:Pos}(hp:PassesOwn (model X.prog X.w) X.A X.env X.xe)(hc:X.calm=true)(hi:PI X tg M C)(P:PG X tg g)(hb:uC X k tb)
  (hs:∀x,foldedSetIterable M X.env x=pure x:=by intro _;rfl):PS X (.For tg M k [] q) (Ob C g tb):=by
 intro ak s σ H D I h;refine wpAny_For (cu (hi ak s σ H _ I h) λv s1 h1=>cu h1 λWL s2 h2=>?_) hs;obtain⟨it,fp,tn,J,H2,e,Q,T,R,f2,W,⟨S,V⟩,Y⟩:=h2;subst e
 -- what stays true of the iterator's objects through the loop
 have O:∀ {H':Hp},(∀b∈fp,H' b=none)->∀b∈fp,m9 X ak H' b:=λhn b hb=>⟨hn b hb,(f2 b hb).2⟩;refine codeAny_forLoop_any (λn s'=>∃i U H',Inv X ak U H' s'/\tn i s'.heap/\(∀b∈fp,H' b=none)/\W i n U H') ?_ S ⟨0,σ,H2,Q,R,λb hb=>(f2 b hb).1,V⟩;rintro n E ⟨i,a,p,F,PQ,K,Z⟩;rcases Y i n a p Z with⟨stop,qn⟩|⟨go,N,hN,step⟩
 .refine wpAny_passesOwn hp (cu (T.done X rr rr rr hc i ak E a p X.xe F (O K) PQ stop) λr s4 ⟨t,I4⟩=>?_);subst t;exact wpAny_execs_nil ⟨a,p,I4,qn⟩
 .refine wpAny_passesOwn hp (cu (T.item X rr rr rr hc i ak E a p X.xe F (O K) PQ go) λr s4 ⟨u,t,h4⟩=>?_);subst t;refine wpAny_passesOwn hp (cu h4 λ_ s5 ⟨x,L,I5,r5,y5,y,Ve⟩=>?_);have YR:=I5.pinned (O Ve) (T.obj _ _ y);refine wpAny_passesOwn hp (cu (P _ s5 a L x u _ YR r5 (step x L y5)) λ_ s6 ⟨z,H6,I6,q6⟩=>?_);refine wpAny_passesOwn hp (cu (hb _ s6 z H6 _ I6 q6) λf B l=>?_);have again:∀ {G:St}{c:Hp},Inv X _ G c B->N G c->∃m,m<n/\∃i U H',Inv X ak U H' B/\tn i B.heap/\(∀b∈fp,H' b=none)/\W i m U H':=λ{G c} j n7=>by
   obtain⟨m',hm,w7⟩:=hN G c n7;refine⟨m',hm,i+1,G,c,j.unpinned,T.keep _ _ _ y λb hb o e=>(j.pin (b,o) (mY _ (mY _ (jR hb e)))).1,λb hb=>?_,w7⟩;obtain⟨o,e,d⟩:=T.obj _ _ y b hb;exact(j.pin (b,o) (mY _ (mY _ (jR hb e)))).2.1
  cases f with
  |next=>obtain⟨G,c,j,n7⟩:=l;exact again j n7
  |cont=>obtain⟨G,c,j,n7⟩:=l;exact again j n7
  |brk=>obtain⟨G,c,j,l⟩:=l;exact⟨G,c,j.unpinned,l⟩
  |ret v=>obtain⟨x7,G,c,j,r7,l⟩:=l;exact⟨x7,G,c,j.unpinned,r7,l⟩
end
abbrev R2:=V->V->Hp->VK->Prop
def dS (X:Cx)(f:Value->Value->Sem Value)(r:R2):Prop :=
 ∀(ak:AO)(s:Shared)(σ:St)(H:Hp)(x y:V)(v u:Value)(Q:VK),Inv X ak σ H s->aU x v->aU y u->r x y H Q ->
  wq X (f v u) (EP X ak σ Q) X.xe s
def QT (X:Cx)(f:Value->Sem Value)(r:V->Hp->VK->Prop):Prop :=
 ∀(ak:AO)(s:Shared)(σ:St)(H:Hp)(x:V)(v:Value)(Q:VK),Inv X ak σ H s->aU x v->r x H Q ->
  wq X (f v) (EP X ak σ Q) X.xe s
def bY (X:Cx)(f:Value)(r:List V->Hp->VK->Prop):Prop :=
 ∀(ak:AO)(s:Shared)(σ:St)(H:Hp)(xs:List V)(us:LU)(Q:VK),Inv X ak σ H s->bi xs us->r xs H Q ->
  wq X (call f us) (EP X ak σ Q) X.xe s
def Tw (r:R2)(ta tb:TE):TE:=λσ H Q=>ta σ H λx G=>tb σ G λy H2=>r x y H2 Q
def XI (r:V->Hp->VK->Prop)(ta:TE):TE:=λσ H Q=>ta σ H λx G=>r x G Q
def rI (C:Int->Int->Prop)(g:Int->Int->V):R2:=λx y H Q=>∃i j,x=.int i/\y=.int j/\C i j/\Q (g i j) H
def JV (g:Int->Int->V):R2:=λx y H Q=>∃i j,x=.int i/\y=.int j/\Q (g i j) H
def rU (g:Int->V):V->Hp->VK->Prop:=λx H Q=>∃i,x=.int i/\Q (g i) H
section
variable {X:Cx}{a b c:Expr}{ta tb tc:TE}{pos:Pos}
def Oc (ha:PE X a ta)(hb:PE X b tb){ak:AO}{s:Shared}{σ:St}{H:Hp}{R:V->V->Hp->Prop}(I:Inv X ak σ H s)
  (h:ta σ H λx O=>tb σ O λy H2=>R x y H2) {Q:QV}{f:Value->Value->Sem Value}
  (hf:∀v u s2 x y H2,Inv X ak σ H2 s2->aU x v->aU y u->R x y H2->wq X (f v u) Q X.xe s2):
  wq X (eval a X.env) (λv G=>wq X (eval b X.env) (λu M=>wq X (f v u) Q X.xe M) X.xe G) X.xe s:=by
 refine cu (ha _ s σ H _ I h) λv s1 ⟨x,O,T,U,d⟩=>?_;refine cu (hb _ s1 σ O _ T d) λu s2 ⟨y,H2,e,g,i⟩=>?_;exact hf v u s2 x y H2 e U g i
def QU {op:Operator}{r:R2}(ho:dS X (binaryOp op) r)(ha:PE X a ta)(hb:PE X b tb):PE X (.BinOp a op b pos) (Tw r ta tb):=by
 intro ak s σ H Q I h;exact wpAny_BinOp (Oc ha hb I h λv u s2 x y H2 G M O q=>ho _ s2 σ H2 x y v u Q G M O q)
def QW {op:UnaryOp}{r:V->Hp->VK->Prop}(ho:QT X (unaryOp op) r)(ha:PE X a ta):PE X (.UnaryOp op a pos) (XI r ta):=by
 intro ak s σ H Q I h;exact UnaryOp_ (cu (ha _ s σ H _ I h) λv s1 ⟨x,G,M,O,T⟩=>ho _ s1 σ G x v Q M O T)
def QX {f:Value->Value->Sem Value}{C:Int->Int->Prop}{g:Int->Int->Int}
  (rule:∀(i j:Int)(t u:Tok)(s:Shared)(Q:QV)(E:QV),C i j->Q (.int (g i j) s.toks) { s with toks:=s.toks+1 }->wq X (f (.int i t) (.int j u)) Q E s):
  dS X f (rI C λi j=>.int (g i j)):=by
 intro ak s σ H x y v u Q I G M h;obtain⟨i,j,rfl,rfl,hc,q⟩:=h;obtain⟨t,rfl⟩:=G;obtain⟨t',rfl⟩:=M;exact rule i j t t' s _ _ hc ⟨.int _,H,I.tok _,⟨_,rr⟩,q⟩
def Od {f:Value->Value->Sem Value}{g:Int->Int->Int}
  (rule:∀(i j:Int)(t u:Tok)(s:Shared)(Q:QV)(E:QV),Q (.int (g i j) s.toks) { s with toks:=s.toks+1 }->wq X (f (.int i t) (.int j u)) Q E s):
  dS X f (JV λi j=>.int (g i j)):=by
 intro ak s σ H x y v u Q I G M h;obtain⟨i,j,rfl,rfl,q⟩:=h;obtain⟨t,rfl⟩:=G;obtain⟨t',rfl⟩:=M;exact rule i j t t' s _ _ ⟨.int _,H,I.tok _,⟨_,rr⟩,q⟩
def Kk {f:Value->Value->Sem Value}{g:Int->Int->Bool}
  (rule:∀(i j:Int)(t u:Tok)(s:Shared)(Q:QV)(E:QV),Q (.bool (g i j)) s->wq X (f (.int i t) (.int j u)) Q E s):
  dS X f (JV λi j=>.bl (g i j)):=by
 intro ak s σ H x y v u Q I G M h;obtain⟨i,j,rfl,rfl,q⟩:=h;obtain⟨t,rfl⟩:=G;obtain⟨t',rfl⟩:=M;exact rule i j t t' s _ _ ⟨.bl _,H,I,rr,q⟩
def QY (i j:Int):Prop:=0<j/\j<1073741824
def QZ (i j:Int):Prop:=0<=j/\j<=1000000/\i.natAbs<2 ^ 64
def Kl (i j:Int):Prop:=(-(2 ^ 64)<i/\i<2 ^ 64)\/(-(2 ^ 64)<j/\j<2 ^ 64)
def Kl.ok (h:Kl i j):IntMulOk i j:=by
 rcases h with⟨h1,h2⟩|⟨h1,h2⟩
 .exact .of_left (intBits_le_64 h1 h2)
 .exact .of_right (intBits_le_64 h1 h2)
def Oe:dS X (binaryOp .Add) (JV λi j=>.int (i+j)):=Od λ_ _ _ _ _ _ _ q=>add_int q
def Of:dS X (binaryOp .Sub) (JV λi j=>.int (i - j)):=Od λ_ _ _ _ _ _ _ q=>sub_int q
def Og:dS X (binaryOp .Mult) (rI Kl λi j=>.int (i*j)):=QX λ_ _ _ _ _ _ _ hc q=>mul_int q hc.ok
def Km:dS X (binaryOp .FloorDiv) (rI QY λi j=>.int (i / j)):=QX λi j _ _ _ _ _ hc q=>by
 have h1 :=hc.1;have h2 :=hc.2;grind[floordiv_int,PyProof.noPylong_small]
def Oh:dS X (binaryOp .Mod) (rI (λ_ j=>0<j) λi j=>.int (i % j)):=QX λi j _ _ _ _ _ hc q=>by
 exact mod_int' N9 (by rw[Int.fmod_eq_emod_of_nonneg i N9];exact q)
def Oi:dS X (binaryOp .Pow) (rI QZ λi j=>.int (i ^ j.toNat)):=QX λ_ _ _ _ _ _ _ hc q=>pow_int_small hc.1 hc.2.1 hc.2.2 q
def Oj:dS X (binaryOp .BitAnd) (JV λi j=>.int (Builtin.bitAnd i j)):=Od λ_ _ _ _ _ _ _ q=>and_int q
def XJ {f:Value->Sem Value}{g:Int->Int}
  (rule:∀(i:Int)(t:Tok)(s:Shared)(Q:QV)(E:QV),Q (.int (g i) s.toks) { s with toks:=s.toks+1 }->wq X (f (.int i t)) Q E s):
  QT X f (rU λi=>.int (g i)):=by
 intro ak s σ H x v Q I G h;obtain⟨i,rfl,q⟩:=h;obtain⟨t,rfl⟩:=G;exact rule i t s _ _ ⟨.int _,H,I.tok _,⟨_,rr⟩,q⟩
def Ol:QT X (unaryOp .USub) (rU λi=>.int (-i)):=XJ λ_ _ _ _ _ q=>neg_int q
def EH:dS X (binaryOp .Add) (λx y H Q=>∃i k,x=.int i/\y=.bl k/\Q (.int (i+b2i k)) H):=by
 intro ak s σ H x y v u Q I G M h;obtain⟨i,k,rfl,rfl,q⟩:=h;obtain⟨t,rfl⟩:=G;cases M
 exact add_int_bool ⟨.int _,H,I.tok _,⟨_,rr⟩,q⟩
end
section
variable {X:Cx}{a b c:Expr}{ta tb tc:TE}{pos:Pos}
def Ra:dS X (compareOp .Lt) (JV λi j=>.bl (decide (i<j))):=Kk λ_ _ _ _ _ _ _ q=>lt_int q
def Rb:dS X (compareOp .LtE) (JV λi j=>.bl (decide (i<=j))):=Kk λ_ _ _ _ _ _ _ q=>le_int q
def Rc:dS X (compareOp .Gt) (JV λi j=>.bl (decide (j<i))):=Kk λ_ _ _ _ _ _ _ q=>gt_int q
def Re:dS X (compareOp .GtE) (JV λi j=>.bl (decide (j<=i))):=Kk λ_ _ _ _ _ _ _ q=>ge_int q
def dS.or (h:dS X f r)(h':dS X f O):dS X f (λx y H Q=>r x y H Q\/O x y H Q):=by
 intro ak s σ H x y v u Q I G M q;rcases q with q|q
 .exact h _ s σ H x y v u Q I G M q
 .exact h' _ s σ H x y v u Q I G M q
def Kn (ho:dS X (compareOp op) r)(ha:PE X a ta)(hb:PE X b tb)(hm:behindInMarks op b=false):PE X (.Compare a [op] [b] pos) (Tw r ta tb):=by
 intro ak s σ H Q I h;exact wpAny_Compare1 (Oc ha hb I h λv u s2 x y H2 G M O q=>ho _ s2 σ H2 x y v u Q G M O q) hm
def MP (t:TE):TT:=λσ H Q=>t σ H λx H'=>∃k,x=.bl k/\Q k H'
def CM {op:CmpOp}{r:R2}(ho:dS X (compareOp op) r)(ha:PE X a ta)(hb:PE X b tb)(hm:behindInMarks op b=false):PT X (.Compare a [op] [b] pos) (MP (Tw r ta tb)):=by
 intro ak s σ H Q I h;refine wpAny_isTrue_Compare1 (cu (ha _ s σ H _ I h) λv s1 ⟨x,G,M,O,T⟩=>cu (hb _ s1 σ G _ M T) λu s2 ⟨y,H2,U,d,f⟩=>
  cu (ho _ s2 σ H2 x y v u _ U O d f) λc m ⟨z,g,i,j,k,e,l⟩=>?_) hm
 subst e;cases j
 exact wpAny_truthy_bool ⟨g,i,l⟩
def Bu (r M:R2)(ta tb tc:TE):TE:=λσ H Q=>ta σ H λx O=>tb σ O λy H2=>r x y H2 λz G=>∃k,z=.bl k /\
 (if k=true then tc σ G λT U=>M y T U Q else Q (.bl false) G)
def Gx {op G:CmpOp}{r O:R2}(ho:dS X (compareOp op) r)(M:dS X (compareOp G) O)(ha:PE X a ta)(hb:PE X b tb)(hc:PE X c tc)
  (hm:lastMarks [op,G] [b,c]=false:=by with_unfolding_all rfl):PE X (.Compare a [op,G] [b,c] pos) (Bu r O ta tb tc):=by
 intro ak s σ H Q I h;refine Compare_chain (cu (ha _ s σ H _ I h) λv s1 ⟨x,i,j,l,m⟩=>chain_link (cu (hb _ s1 σ i _ j m) λu s2 ⟨y,H2,n,T,o⟩=>
  cu (ho _ s2 σ H2 x y v u _ n l T o) λd p ⟨z,U,f,q,k,e,g⟩=>?_)) hm
 subst e;cases q
 refine wpAny_truthy_bool ?_;cases k with
 |false=>exact ite_ff ⟨.bl _,U,f,rr,g⟩
 |true=>exact ite_tt (chain_last (cu (hc _ p σ U _ f g) λt w ⟨A,B,C,D,E⟩=>M _ w σ B y A u t Q C T D E))
def Gy {op G:CmpOp}{r O:R2}(ho:dS X (compareOp op) r)(M:dS X (compareOp G) O)(ha:PE X a ta)(hb:PE X b tb)(hc:PE X c tc)
  (hm:lastMarks [op,G] [b,c]=false:=by with_unfolding_all rfl):PT X (.Compare a [op,G] [b,c] pos) (MP (Bu r O ta tb tc)):=by
 intro ak s σ H Q I h;refine isTrue_chain (cu (ha _ s σ H _ I h) λv s1 ⟨x,i,j,l,m⟩=>test_link (cu (hb _ s1 σ i _ j m) λu s2 ⟨y,H2,n,T,o⟩=>
  cu (ho _ s2 σ H2 x y v u _ n l T o) λd p ⟨z,U,f,q,k,e,g⟩=>?_)) hm
 subst e;cases q
 refine wpAny_truthy_bool ?_;cases k with
 |false=>
  obtain⟨k',t,w⟩:=g;cases t
  exact ite_ff ⟨U,f,w⟩
 |true=>
  refine ite_tt (test_last (cu (hc _ p σ U _ f g) λA B ⟨C,D,E,F,J⟩=>cu (M _ B σ D y C u A _ E T F J) λd' R ⟨S,K,L,N,k2,e2,P⟩=>?_));subst e2;cases N
  exact wpAny_truthy_bool ⟨K,L,P⟩
def oK:(sizeLine:Nat)<2 ^ 63:=Z9
def Bv:dS X (binaryOp .Add) (λx y H Q=>∃i j,x=.str i/\y=.str j/\i.length+j.length<=sizeLine/\Q (.str (i++j)) H):=by
 intro ak s σ H x y v u Q I G M h;obtain⟨i,j,rfl,rfl,hz,q⟩:=h;obtain⟨t,rfl⟩:=G;obtain⟨t',rfl⟩:=M;exact add_str (λt' tk=>⟨.str _,H,I.tok _,⟨_,rr⟩,q⟩) hz
def ij (r:bi [x] us):∃u,us=[u]/\aU x u:=by
 cases r with
 |cons G M=>cases M;exact⟨_,rr,G⟩
def CN (r:bi [x,y] us):∃u G,us=[u,G]/\aU x u/\aU y G:=by
 cases r with
 |cons M O=>
  cases O with
  |cons T U=>cases U;exact⟨_,_,rr,M,T⟩
def EI (hc:X.calm=true):bY X (.builtin "max") (λxs H Q=>∃i j,xs=[.int i,.int j]/\Q (.int (if j > i then j else i)) H):=by
 intro ak s σ H xs us Q I r h;obtain⟨i,j,rfl,q⟩:=h;obtain⟨u,G,rfl,⟨t,rfl⟩,⟨t',rfl⟩⟩:=CN r;refine max_two_ints (I.ok.hd hc) λh' tk k=>⟨_,H,I.kept k,?_,q⟩;by_cases hj:j > i
 .rw[if_pos hj,if_pos hj];exact⟨_,rr⟩
 .rw[if_neg hj,if_neg hj];exact⟨_,rr⟩
def EJ (hc:X.calm=true):bY X (.builtin "min") (λxs H Q=>∃i j,xs=[.int i,.int j]/\Q (.int (if j<i then j else i)) H):=by
 intro ak s σ H xs us Q I r h;obtain⟨i,j,rfl,q⟩:=h;obtain⟨u,G,rfl,⟨t,rfl⟩,⟨t',rfl⟩⟩:=CN r;refine min_two_ints (I.ok.hd hc) λh' tk k=>⟨_,H,I.kept k,?_,q⟩;by_cases hj:j<i
 .rw[if_pos hj,if_pos hj];exact⟨_,rr⟩
 .rw[if_neg hj,if_neg hj];exact⟨_,rr⟩
end
structure MD (h:Heap)(x dx C:Addr)(mA:Str->Option Value):Prop where
 obj:h.get? x=some (PySem.W.instObj C dx)
 ns:h.Ns1 dx mA
 ne:dx≠x
def EK {h:Heap}{dx:Addr}{mA:SV}(n:h.Ns1 dx mA):∃od,h.get? dx=some od/\∀name,PySem.W.lookIn name od=some (mA name):=by
 obtain⟨o,es,M,ho,hd,hk,_,hm⟩:=n;refine⟨o,ho,λname=>?_⟩;have e:=hm name;unfold nsFind findBy at e;rw[<-Array.find?_toList]at e;unfold PySem.W.lookIn;rw[hd];dsimp;split
 .simp_all
 .have a:es.toList.any (·.refKey)=false:=by
   rw[List.any_eq_false];intro y hy;obtain⟨z,t,G⟩:=hk y (Array.mem_toList_iff.mp hy);simp[DictEntry.refKey,G]
  split<;>simp_all
def MD.look (I:MD h x dx C mA):∃od,PySem.W.InstAt h x (PySem.W.instObj C dx) C (some od)/\∀name,PySem.W.lookIn name od=some (mA name) :=
 let ⟨od,ho,hl⟩:=EK I.ns
 ⟨od,⟨I.obj,rr,rr,ho⟩,hl⟩
section
variable {prog:Program}{w:World}{A:Around}{E:QV}{s:Shared}{K:Frag}{x dx C f:Addr}{mA:SV}{name:Str}{v:Value}
end
def md.some_of (r:md (some v) o):∃u,o=some u/\aU v u:=by
 cases o with
 |none=>exact(show False from r).elim
 |some u=>exact⟨u,rr,r⟩
def md.none_of (r:md none o):o=none:=by
 cases o with
 |none=>rfl
 |some u=>exact(show False from r).elim
section
variable {P:Program}{w:World}{H H':Hp}{h h':Heap}{a C dx:Addr}{fs UZ:List (Str×V)}
def CO (hok:me P w H h)(e:H a=some (.ins C dx fs)):∃mA,MD h a dx C mA/\(∀f,md (fs.lookup f) (mA f))/\PySem.Within mA (fs.map (·.1))/\fs.length<=1000/\H dx=some (.own a):=by
 obtain⟨d,z,ne,ob,mA,n,r,q⟩:=(show bJ P w H h a _ from hok a _ e);exact⟨mA,⟨ob,n,ne⟩,r,q,z,d⟩
end
structure Cls (K:Frag)(C:Addr):Prop where
 pg:PySem.W.plainGet K C Str.empty=true
 hd:PySem.W.hasDictIn K C=true
 po:PySem.W.plainOver K C=true
 sa:PySem.W.findIn K (.ref C) "__setattr__" = some (some (.builtin "object.__setattr__"))
def Cls.get {K:Frag}{C:Addr}(c:Cls K C)(f:Str):PySem.W.plainGet K C f=true:=c.pg
structure Meth (K:Frag)(C:Addr)(m:Str)(f:Addr):Prop where
 at_:PySem.W.findIn K (.ref C) m=some (some (.ref f))
 fn:PySem.W.isFn K (.ref f)=true
 kp:PySem.W.keepIn K (.ref f)=true
section
variable {X:Cx}{ak:AO}{σ:St}{H:Hp}{s:Shared}{a C dx:Addr}{fs:List (Str×V)}{f:Str}{v:V}{A:Around}{E:QV}
end
section
variable {X:Cx}{o e value:Expr}{f:Str}{pos JN PY:Pos}{ta tv:TE}
end
section
variable {X:Cx}{ak:AO}{σ:St}{H:Hp}{s:Shared}{A:Around}{E:QV}{Q:QV}{c:Value}{b:Bool}
inductive TyOf (K:Frag)(H:Hp):V->Value->Prop where
 |non:TyOf K H .non (.type "NoneType")
 |bl (x:Bool):TyOf K H (.bl x) (.type "bool")
 |int (i:Int):TyOf K H (.int i) (.type "int")
 |str (x:Str):TyOf K H (.str x) (.type "str")
 |flt (x:UInt64):TyOf K H (.flt x) (.type "float")
 |lst {a:Addr}{xs:List V}(e:H a=some (.lst xs)):TyOf K H (.ref a) (.type "list")
 |frz {a:Addr}{o:Obj}{xs:List V}(e:H a=some (.frz o (.lst xs))):TyOf K H (.ref a) (.type "list")
 |tup {a:Addr}{xs:List V}(e:H a=some (.tup xs)):TyOf K H (.ref a) (.type "tuple")
 |dK {a:Addr}{aL:List (fG×V)}{ob:Obj}(e:H a=some (.dK aL ob)):TyOf K H (.ref a) (.type "dict")
 |dT {a:Addr}{aL:List (List fG×V)}(e:H a=some (.dT aL)):TyOf K H (.ref a) (.type "dict")
 |ins {a C dx:Addr}{fs:List (Str×V)}(e:H a=some (.ins C dx fs)) (cl:Cls K C) (ha:PySem.W.findIn K (.ref C) "__class__" = some (some (.builtin "object.__class__")))
   (hn:PySem.W.specialIn K (.builtin "object.__class__") "__get__" = some (some (.builtin "getset_descriptor.__get__"))) (WN:PySem.W.takesIn K (.builtin "object.__class__")=some true)
   (hm:PySem.W.mroIn K C (.type "object")=some true):TyOf K H (.ref a) (.ref C)
def iA (I:Inv X ak σ H s)(G:aU x u)(ty:TyOf X.K H x t)(e:PySem.W.kitOne X.K t c=some b)(h:∀tk,Q (.bool b) { s with toks:=tk }):
  wpAny (model X.prog X.w) A (call (.builtin "isinstance") [u,c]) Q E s:=by
 cases ty with
 |non=>cases (show u=Value.none from G);exact kia_one PySem.W.kitx_none I.kIn True.intro e (λz=>nomatch z) h
 |bl y=>cases (show u=Value.bool y from G);exact kia_one PySem.W.kitx_bool I.kIn True.intro e (λz=>nomatch z) h
 |int i=>obtain⟨t,q⟩:=(show ∃t,u=Value.int i t from G);cases q;exact kia_one PySem.W.kitx_int I.kIn True.intro e (λz=>nomatch z) h
 |str y=>obtain⟨t,q⟩:=(show ∃t,u=Value.str y t from G);cases q;exact kia_one PySem.W.kitx_str I.kIn True.intro e (λz=>nomatch z) h
 |flt y=>obtain⟨t,q⟩:=(show ∃t,u=Value.float y t from G);cases q;exact kia_one PySem.W.kitx_float I.kIn True.intro e (λz=>nomatch z) h
 |@lst a xs M=>
  cases (show u=Value.ref a from G)
  obtain⟨_,_,n,_,h1⟩:=(show bJ X.prog X.w H s.heap a (.lst xs)from I.hok a _ M);exact kia_one PySem.W.kitx_list I.kIn ⟨_,h1,rr⟩ e (λz=>nomatch z) h
 |@frz a ob xs M=>
  cases (show u=Value.ref a from G)
  obtain⟨_,_,_,n,_,h1⟩:=(show bJ X.prog X.w H s.heap a (.frz ob (.lst xs))from I.hok a _ M);exact kia_one PySem.W.kitx_list I.kIn ⟨_,h1,rr⟩ e (λz=>nomatch z) h
 |@tup a xs M=>
  cases (show u=Value.ref a from G)
  obtain⟨_,_,_,p⟩:=(show bJ X.prog X.w H s.heap a (.tup xs)from I.hok a _ M);obtain⟨o,h1,h2,_⟩:=p;exact kia_one PySem.W.kitx_tuple I.kIn ⟨o,h1,h2⟩ e (λz=>nomatch z) h
 |@dK a aL ob M=>
  cases (show u=Value.ref a from G)
  obtain⟨_,_,_,vs,_,p⟩:=(show bJ X.prog X.w H s.heap a (.dK aL ob)from I.hok a _ M);obtain⟨o,es,T,h1,h2,_⟩:=p;exact kia_one PySem.W.kitx_dict I.kIn ⟨o,h1,h2.1⟩ e (λz=>nomatch z) h
 |@dT a aL M=>
  cases (show u=Value.ref a from G)
  obtain⟨_,_,xs,_,o,es,T,h1,h2,_⟩:=(show bJ X.prog X.w H s.heap a (.dT aL)from I.hok a _ M);exact kia_one PySem.W.kitx_dict I.kIn ⟨o,h1,h2.1⟩ e (λz=>nomatch z) h
 |@ins a C dx fs M cl ha hn WN hm=>
  cases (show u=Value.ref a from G)
  obtain⟨mA,O,_⟩:=CO I.hok M;obtain⟨od,J,_⟩:=O.look;exact kia_one (PySem.W.kitx_own (cl.get _) cl.hd ha hn WN hm) I.kIn J e (λz=>nomatch z) h
end
structure ft (k:Nat)(A:Around):Prop where
 hd:A.handled=none
 dp:A.depth+3*k+5<recursionLimit
 un:A.units+16*k+200<cLine
def ft.mono (r:ft k A)(h:j<=k):ft j A:=⟨r.hd,by have:=r.dp;lia,by have:=r.un;lia⟩
def ft.deeper (r:ft (k+1) A)(env:Env):ft k (A.deeper env) :=
 ⟨r.hd,by have:=r.dp;show A.depth+1+3*k+5<_;lia,by have:=r.un;simp<;>lia⟩
def ft.in1 (r:ft (k+1) A):ft k A.in1 :=
 ⟨r.hd,by have:=r.dp;lia,by have:=r.un;lia⟩
def ft.depth (r:ft k A):A.depth<recursionLimit:=by have:=r.dp;lia
def Rh:TA:=λ_ H Q=>Q [] H
def MT (ta:TE)(G:TA):TA:=λσ H Q=>ta σ H λx M=>G σ M λxs H2=>Q (x::xs) H2
section
variable {X:Cx}{e:Expr}{es:QD}{te:TE}{t:TA}{pos:Pos}
def gD:PA X [] Rh:=λ_ _ _ _ H Q I h=>Calls.spliced_nil ⟨[],H,I,.nil,h⟩
def eB (ha:PE X e te)(G:PA X es t)(hs:starEach (e::es) X.env=(false,eval e X.env)::starEach es X.env:=by rfl):PA X (e::es) (MT te t):=by
 intro pos ak s σ H Q I h;rw[hs];refine Calls.spliced_cons (cu (ha _ s σ H _ I h) λu s1 ⟨x,M,O,T,U⟩=>?_);exact cu (G _ _ s1 σ M _ O U) λus s2 ⟨xs,H2,a,b,c⟩=>⟨x::xs,H2,a,.cons T b,c⟩
def Ri (t:TA):TE:=λσ H Q=>t σ H λxs G=>xs.length<=sizeLine/\∀p,G p=none->Q (.ref p) (upd G p (.tup xs))
def Uh (t:TA):TE:=λσ H Q=>t σ H λxs G=>xs.length<=sizeLine/\∀p,G p=none->Q (.ref p) (upd G p (.lst xs))
def xz {O}(h:PA X es t):PE X (.Tuple es O pos) (Ri t):=by
 intro ak s σ H Q I hq;refine wpAny_Tuple_spliced (cu (h _ _ s σ H _ I hq) λus s1 ⟨xs,M,G,r,z,q⟩=>⟨by rw[<-r.length];exact z,?_⟩);have hf :=G.hok.fresh (vT _);refine⟨.ref _,upd M _ _,G.laid  (λb u e=>vZ _ e) (vT _) ?_,rr,q _ hf⟩;exact⟨z,us,r,⟨_,vY _ rr,rr,_,rr⟩⟩
def Oo (h:PA X es t):PE X (.List es pos) (Uh t):=by
 intro ak s σ H Q I hq;refine wpAny_List_spliced (cu (h _ _ s σ H _ I hq) λus s1 ⟨xs,M,G,r,z,q⟩=>⟨by rw[<-r.length];exact z,?_⟩);have hf :=G.hok.fresh (vT _);refine⟨.ref _,upd M _ _,G.laid  (λb u e=>vZ _ e) (vT _) ?_,rr,q _ hf⟩;exact⟨z,us,0,r,vY _ rr⟩
end
abbrev Sp:=List V->Hp->VK->XK->Prop
abbrev Ko:=List Env->Hp->Shared->XK->QV
structure Env0 (P:Program)(w:World)(K:Frag)(mg:Str->Option Value)(base:Heap)(A:Around)(outer:List Env)(s:Shared)(H:Hp):Prop where
 frames:A.frames=some outer
 mod:Mod K mg base
 bs:∀b o,base.get? b=some o->s.heap.get? b=some o/\H b=none
 bsz:base.objs.size<=s.heap.objs.size
 funs:s.heap.FunFrames base outer
 frf:∀b∈Go outer,H b=none
 hok:me P w H s.heap
 bare:AllBare s.gens
def CE (outer:List Env)(P:Program)(w:World)(H:Hp)(s:Shared)(Q:VK)(u:Value)(s':Shared):Prop :=
 ∃v H',s'.os=s.os/\AllBare s'.gens/\Un (Go outer) [] H H' s.heap s'.heap/\me P w H' s'.heap/\aU v u/\Q v H'
def CR (CX:Ko)(outer:List Env)(P:Program)(w:World)(H:Hp)(s:Shared)(Q:VK)(E:XK)(r:Result)(s':Shared):Prop :=
 match r with
 |.ok (.ret u)=>CE outer P w H s Q u s'
 |.ok _=>False
 |.error e=>CX outer H s E e s'
structure oE (P:Program)(w:World)(K:Frag)(mg:Str->Option Value)(base:Heap)(CX:Ko)(k:Nat)(f:Addr)(fd:FuncData)(ps:List Str)(sp:Sp):Prop where
 len:∀vs H Q E,sp vs H Q E->vs.length=ps.length
 run:∀(A:Around)(outer:List Env)(s:Shared)(H:Hp)(args:Args)(us:List Value)(vs:List V)(Q:VK)(E:XK),ft k A->Env0 P w K mg base A outer s H->BindsTo s fd args (ps.zip us)->bi vs us->sp vs H Q E ->
  codeAny (model P w) A (.call (.ref f) args) (CR CX outer P w H s Q E) s
def oE.mono {P:Program}{w:World}{K:Frag}{mg:SV}{base:Heap}{CX:Ko}{j k:Nat}{f:Addr}{fd:FuncData}{ps:LS}{sp:Sp}(F:oE P w K mg base CX j f fd ps sp)(h:j<=k):
  oE P w K mg base CX k f fd ps sp:=⟨F.len,λA outer s H args us vs Q E G=>F.run A _ s H _ us vs Q E (G.mono h)⟩
section
variable {X:Cx}{ak:AO}{σ:St}{H:Hp}{s s':Shared}
def Inv.env0 (I:Inv X ak σ H s):Env0 X.prog X.w X.K X.mg X.base X.A X.stack s H :=
 ⟨I.ok.frames,I.ok.mod,I.bs,vR I.ok.bsz I.sz,I.stack,I.stkFree,I.hok,I.bare⟩
def Inv.after (I:Inv X ak σ H s)(h:CE X.stack X.prog X.w H s Q u s'):EP X ak σ Q u s':=by
 obtain⟨v,H',os,bare,un,hok,r,q⟩:=h;obtain⟨hh,g,d,t,G⟩:=s';obtain rfl:G=s.os:=os;exact⟨v,H',I.call      un hok bare (λb z=>absurd z X9),r,q⟩
end
def Rj (sp:Sp)(G:List V)(E:XK)(t:TA):TE:=λσ H Q=>t σ H λvs M=>sp (vs++G) M Q E
def pQ (K:Frag)(fd:FuncData)(ps:LS)(ds:LU):Prop :=
 ∀(s:Shared)(us:LU),K.In s.heap->(us++ds).length=ps.length->BindsTo s fd ⟨us,[]⟩ (ps.zip (us++ds))
def pQ.all {K:Frag}{fd:FuncData}{ps:LS}(h:∀us:LU,us.length=ps.length->bindArgs fd ⟨us,[]⟩=pure (ps.zip us)):pQ K fd ps []:=λs us _ hl=>by
 rw[uP]at hl |-;exact .of_eq (h us hl)
def By (CX:Ko)(X:Cx)(E:XK):Prop:=∀(ak:AO)(σ:St)(H:Hp)(s:Shared)(e:Value)(s':Shared),Inv X ak σ H s->CX X.stack H s E e s'->X.xe e s'
section
variable {X:Cx}{CX:Ko}{k:Nat}{f C:Addr}{fd:FuncData}{ps:LS}{sp:Sp}{S6:List V}{ds:LU}{E:XK}{x m:Str}{p pos dn:Pos}{e o:Expr}{es:QD}{ta:TE}{t:TA}
def Op {ak:AO}{σ:St}{H:Hp}{s:Shared}{Q:VK}{us:LU}{vs:List V}(F:oE X.prog X.w X.K X.mg X.base CX k f fd ps sp)(M:ft k X.A)(hb:pQ X.K fd ps ds)(hd:bi S6 ds)(hx:By CX X E)
  (I:Inv X ak σ H s) (r:bi vs us) (h:sp (vs++S6) H Q E):wq X (call (.ref f) us) (EP X ak σ Q) X.xe s:=by
 have G :=r.append hd;have hl:(us++ds).length=ps.length:=by rw[<-G.length];exact F.len _ _ _ _ h
 refine wpAny_call (codeAny_mono (F.run _ _ s H _ _ _ Q E M I.env0 (hb s us I.kIn hl) G h) λr s' hq=>?_);cases r with
 |error e=>exact hx _ σ H s e s' I hq
 |ok fl=>
  cases fl with
  |ret u=>exact I.after hq
  |next=>exact False.elim hq
  |brk=>exact False.elim hq
  |cont=>exact False.elim hq
def CP (F:oE X.prog X.w X.K X.mg X.base CX k f fd ps sp)(T:ft k X.A)(U:Gl X x)(hm:X.mg x=some (.ref f))(hk:PySem.W.keepIn X.K (.ref f)=true)(hb:pQ X.K fd ps ds)(hd:bi S6 ds)(hx:By CX X E)
  (ha:PA X (e::es) t) (G:(x == ("__debug__" : Str))=false:=by decide) (he:starEach (e::es) X.env=(false,eval e X.env)::starEach es X.env:=by rfl) (M:(backTo pos (starEach es X.env)).any (·.1)=false:=by rfl):
  PE X (.Call (.Name x p) (e::es) [] pos) (Rj sp S6 E t):=by
 intro ak s σ H Q I h;refine wpAny_Call_Name_kw (xw I U hm ?_ G);refine PySem.W.callWith_K  I.ok.mod.kin hk (cu (ha _ _ s σ H _ I h) λus s1 ⟨vs,a,O,r,q⟩=>⟨O.kIn,?_⟩) he M;exact Op F T hb hd hx O r q
end
structure FnScope (N P:List Str)(sc:Scope):Prop where
 kind:sc.kind=.function
 co:sc.isCoroutine=false
 gen:sc.isGenerator=false
 nd:N.Nodup
 pre:N.take P.length=P
 par:∀x∈P,sc.names.lookup x=some .local\/sc.names.lookup x=some .cell
 nofree:∀y∈sc.names,y.2≠.free
theorem vj {kindOf:Str->Option NameKind}{x:Str}:∀ {binds:List (Str×Value)}{m:SV},(∀v,(x,v)∉binds)->bindL kindOf binds m x=m x
 |[],_,_=>rr
 | (n,v)::r,m,h=>by
  unfold bindL;rw[vj λw hw=>h w (mZ _ hw)];split
  .grind
  .rfl
theorem vk {kindOf:Str->Option NameKind}{x:Str}:∀ {binds:List (Str×Value)}{m:SV},(∀v,(x,v)∉binds)->bindC kindOf binds m x=m x
 |[],_,_=>rr
 | (n,v)::r,m,h=>by
  unfold bindC;rw[vk λw hw=>h w (mZ _ hw)];split
  .rfl
  grind
theorem vn {kindOf:Str->Option NameKind}{x:Str}{v:Value}:∀ {P:LS}{vs:LU}{i:Nat}{m:SV},P.Nodup->P[i]? = some x->vs[i]? = some v->kindOf x=some .local ->
  bindL kindOf (P.zip vs) m x=some v
 |[],_,_,_,_,h,_,_=>by simp at h
 |_::_,[],_,_,_,_,h,_=>by simp at h
 |p::P,w::vs,0,m,nd,h1,h2,hk=>by
  simp at h1 h2;subst h1;subst h2;show bindL _ ((p,w)::P.zip vs) m p=_;unfold bindL;rw[vj λv G=>(nodup_cons.mp nd).1 (of_mem_zip G).1,if_pos hk];simp
 |p::P,w::vs,i+1,m,nd,h1,h2,hk=>by
  unfold bindL;exact vn  (nodup_cons.mp nd).2 (by simpa using h1) (by simpa using h2) hk
theorem vp {kindOf:Str->Option NameKind}{x:Str}{v:Value}:∀ {P:LS}{vs:LU}{i:Nat}{m:SV},P.Nodup->P[i]? = some x->vs[i]? = some v->kindOf x≠some .local ->
  bindC kindOf (P.zip vs) m x=some v
 |[],_,_,_,_,h,_,_=>by simp at h
 |_::_,[],_,_,_,_,h,_=>by simp at h
 |p::P,w::vs,0,m,nd,h1,h2,hk=>by
  simp at h1 h2;subst h1;subst h2;show bindC _ ((p,w)::P.zip vs) m p=_;unfold bindC;rw[vk λv G=>(nodup_cons.mp nd).1 (of_mem_zip G).1,if_neg hk];simp
 |p::P,w::vs,i+1,m,nd,h1,h2,hk=>by
  unfold bindC;exact vp  (nodup_cons.mp nd).2 (by simpa using h1) (by simpa using h2) hk
noncomputable def mn (N:LS)(vs:List V):St:=vs.map some++List.replicate (N.length - vs.length) none
noncomputable def oM (CX:Ko)(P:Program)(w:World)(K:Frag)(mg:SV)(base:Heap)(N:LS)(qual:Str)(scope:Scope)(f:Addr)(cd:Value)(A:Around)(outer:List Env)(s:Shared)(H:Hp)(E:XK):Cx where
 prog:=P
 w:=w
 K:=K
 mg:=mg
 base:=base
 A:=A.deeper (envOfC qual scope s.heap.objs.size f cd)
 N:=N
 s₀:=s
 H₀:=H
 env:=envOfC qual scope s.heap.objs.size f cd
 outer:=outer
 stack:=envOfC qual scope s.heap.objs.size f cd::outer
 ex:=[]
 calm:=true
 fn:=λ_=>true
 pn:=[]
 xe:=λe s'=>wpAny (model P w) (A.deeper (envOfC qual scope s.heap.objs.size f cd)) (leaving (envOfC qual scope s.heap.objs.size f cd) e) (λ_ G=>CX outer H s E e G) (λM G=>CX outer H s E M G) s'
def yU {sc:Scope}{n:Nat}{x:Str}(h:sc.names.lookup x=some .cell):∃c,(cellsFrom n sc.names []).lookup x=some c:=by
 have q:=PySem.W.cellsFrom_some _ n [] (.inl h);exact uT q
def EL {CX:Ko}{P:Program}{w:World}{K:Frag}{mg:SV}{base:Heap}{N ps:LS}{qual:Str}{scope:Scope}{f:Addr}{cd:Value}{A:Around}{outer:List Env}{s s1:Shared}{H:Hp}{E:XK}{us:LU}{vs:List V}
  (S:FnScope N ps scope) (hd:A.handled=none) (G:Env0 P w K mg base A outer s H) (hl:vs.length=ps.length) (r:bi vs us)
  (x:InCallC s s.heap.objs.size (bindL (envOfC qual scope s.heap.objs.size f cd).kindOf (ps.zip us) λ_=>none) (cellsFrom (s.heap.objs.size+1) scope.names []) (bindC (envOfC qual scope s.heap.objs.size f cd).kindOf (ps.zip us) λ_=>none) s1):
  Inv (oM CX P w K mg base N qual scope f cd A outer s H E) [] (mn N vs) H s1:=by
 have T:ps.length<=N.length:=by have:=congrArg List.length S.pre;grind
 obtain⟨h1,tk,rfl,hk⟩:=x.done;have M:∀b:Addr,b∉(oM CX P w K mg base N qual scope f cd A outer s H E).ex:=λb z=>absurd (show b∈([]:List Addr)from z) X9;refine⟨⟨G.mod,S.kind,rr,rr,vT _,λy z c h1 h2=>?_,λy hy=>?_,λy c _ h=>?_,λ_=>hd,Around.frames_deeper G.frames,.inr ⟨rr,rr⟩,λb z=>absurd z (M b),G.bs,G.bsz,λb _ _=>M b,λb z=>absurd z (M b),G.funs,G.frf⟩,
  rr,G.bare,Un.kept hk,⟨_,x.toInCall.ns,λi y v h1 h2 h3=>?_⟩,λy c h=>⟨_,x.cell y c h⟩,G.hok.fresh (vT _),λy c h=>?_,λp hp=>absurd (show p∈([]:AO)from hp) X9,G.hok.kept hk,?_⟩
 .exact name_of_addr x.apart (PySem.mem_of_lookup h1) (PySem.mem_of_lookup h2)
 .rcases hy with hy|hy
  .exact yU hy
  .exact absurd rr (S.nofree _ (PySem.mem_of_lookup hy))
 .exact le_of_lt (x.above y c (PySem.mem_of_lookup h))
 .have hi:i<vs.length:=by
   unfold mn at h2;by_cases hi:i<vs.length
   .exact hi
   .rw[getElem?_append_right (by simpa using hi)]at h2;rw[List.getElem?_replicate]at h2;split at h2<;>cases h2
  have ha:vs[i]? = some v:=by
   simp_all[mn,getElem?_append_left]
  obtain⟨u,hu,U⟩:=r.get ha;have hp:ps[i]? = some y:=by
   rw[<-S.pre,List.getElem?_take_of_lt N9];exact h1
  have O:ps.Nodup:=by rw[<-S.pre];exact S.nd.sublist (take_sublist _ _)
  refine⟨u,U,?_⟩;rcases S.par y (vL hp)with k|k
  .exact .inl ⟨k,vn O hp hu k⟩
  .obtain⟨c,e⟩:=yU (n:=s.heap.objs.size+1) k;refine .inr ⟨.inl k,c,e,?_⟩;have q:=x.cell y c e;rw[vp O hp hu (by show scope.names.lookup y≠_;rw[k];decide)]at q;exact q
 .exact G.hok.fresh (le_of_lt (x.above y c (PySem.mem_of_lookup h)))
 .unfold mn;show _=N.length;simp_all
def G0 {CX:Ko}{P:Program}{w:World}{K:Frag}{mg:SV}{base:Heap}{k:Nat}{f:Addr}{name qual:Str}{params:Arguments}{G:List Stmt}{scope:Scope}{d kV doc pm dG ct oc:Value}{an od:Option Addr}
  {ma:Array (Option Value)}{N ps:LS}{sp:Sp}(i:K.lookup f=some ⟨oc,od,.func (fnOf name qual params G scope d kV doc pm an dG ct),ma⟩) (j:PySem.W.codeIn K dG qual=true) (S:FnScope N ps scope)
  (len:∀vs H Q E,sp vs H Q E->vs.length=ps.length)
  (O:∀(A:Around)(outer:List Env)(s:Shared)(H:Hp)(vs:List V)(Q:VK)(E:XK),ft k (A.deeper (envOfC qual scope s.heap.objs.size f dG))->sp vs H Q E ->
   ∃t,uC (oM CX P w K mg base N qual scope f dG A outer s H E) G t/\t { nx:=λ_ H'=>Q .non H',rt:=Q } (mn N vs) H):
  oE P w K mg base CX (k+1) f (fnOf name qual params G scope d kV doc pm an dG ct) ps sp:=by
 refine⟨len,λA outer s H args us vs Q E a U hb r g=>?_⟩;have hl:=len _ _ _ _ g;have h :=U.mod.kin.keeps λb o e=>(U.bs b o e).1;have l :=U.mod.nolimit.keeps λb o e=>(U.bs b o e).1;have T:∀y∈ps.zip us,scope.names.lookup y.1=some _\/(scope.names.lookup y.1=some .cell/\((cellsFrom (s.heap.objs.size+1) _ []).lookup y.1).isSome=true):=λ⟨n,v⟩ hy=>by
  rcases S.par n (of_mem_zip hy).1 with q|q
  .exact .inl q
  .exact .inr ⟨q,PySem.W.cellsFrom_some _ _ _ (.inl q)⟩
 refine codeAny_call_function a.depth (h _ _ i) rr S.co S.gen rr (PySem.W.codeRec_of h j) (hb _ _ _ _ ?_);refine wpAny_newFunctionEnv_cells S.kind T λenv he s1 x=>?_;subst he;refine⟨l.keeps x.toInCall.keep,codeAny_func ?_⟩;obtain⟨t,m,hq⟩:=O A outer s H vs Q E (a.deeper _) g;have I:Inv (oM CX P w K mg base N qual scope f dG A outer s H E) [] _ H s1:=EL S a.hd U hl r x;refine wpAny_mono (m [] s1 _ H _ I hq) (λfl s' hs=>?_) λe s' hs=>hs;have ii:∀ {M:St}{H':Hp}{v:V}{u:Value},Inv (oM CX P w K mg base N qual scope f dG A outer s H E) [] M H' s'->aU v u->Q v H'->CE outer P w H s Q u s' :=
  λ{M H' v u} J c q=>⟨v,H',J.os,J.bare,J.base,J.hok,c,q⟩
 cases fl with
 |ret u=>
  obtain⟨v,M,H',J,c,q⟩:=hs;exact ii J c q
 |next=>
  obtain⟨M,H',J,q⟩:=hs;exact ii (v:=V.non)  J rr q
 |brk=>
  obtain⟨_,_,_,q⟩:=hs;simp_all
 |cont=>
  obtain⟨_,_,_,q⟩:=hs;simp_all
section
variable {X:Cx}{x:Str}{p pos:Pos}{e:Expr}{es:QD}{t:TA}{id T:String}{r:List V->Hp->VK->Prop}
def Wk (r:List V->Hp->VK->Prop)(t:TA):TE:=λσ H Q=>t σ H λvs G=>r vs G Q
def ri (hc:bY X (.builtin id) r)(O:Gl X x)(hm:X.mg x=none)(U:bootBuiltins x=some (.builtin id))(ha:PA X (e::es) t)(hn:x ≠ "__name__":=by decide)(G:(x == ("__debug__" : Str))=false:=by decide)
  (he:starEach (e::es) X.env=(false,eval e X.env)::starEach es X.env:=by rfl) (M:(backTo pos (starEach es X.env)).any (·.1)=false:=by rfl):PE X (.Call (.Name x p) (e::es) [] pos) (Wk r t):=by
 intro ak s σ H Q I h;refine wpAny_Call_Name_kw (gA I O hm U ?_ hn G);exact PyProof.Rows.callWith_builtin1 (cu (ha _ _ s σ H _ I h) λus s1 ⟨vs,a,b,c,d⟩=>hc _ s1 σ a vs us Q b c d) he M
def oN (hc:bY X (.type T) r)(O:Gl X x)(hm:X.mg x=none)(U:bootBuiltins x=some (.type T))(ha:PA X (e::es) t)(hn:x ≠ "__name__":=by decide)(G:(x == ("__debug__" : Str))=false:=by decide)
  (he:starEach (e::es) X.env=(false,eval e X.env)::starEach es X.env:=by rfl) (M:(backTo pos (starEach es X.env)).any (·.1)=false:=by rfl):PE X (.Call (.Name x p) (e::es) [] pos) (Wk r t):=by
 intro ak s σ H Q I h;refine wpAny_Call_Name_kw (gA I O hm U ?_ hn G);exact PyProof.Rows.callWith_type1 (cu (ha _ _ s σ H _ I h) λus s1 ⟨vs,a,b,c,d⟩=>hc _ s1 σ a vs us Q b c d) he M
end
end L2
namespace HT
open PySem PyProof.Rows
section
open PySem.SeqAt
open PySem.AutoSeq1 (wpAny_loadPart')
open PySem.MeetsSeq PySem.MeetsSeq2 PySem.MeetsSeq3
end
section
variable {prog:Program}{w:World}{A:Around}{E:QV}{s:Shared}
def Kp (c:IsTup s.heap t vs.toArray)(hb:IsTup s.heap b ws.toArray)(a:vs≠[])
  (h1:ws=[]->Q (.ref t) s) (h2:ws≠[]->Q (.ref s.heap.objs.size) { s with heap:=s.heap.push { cls:=.type "tuple",data:=.seq (vs++ws).toArray } })
  (hsz:vs.length+ws.length<=sizeLine):wpAny (model prog w) A (binaryOp .Add (.ref t) (.ref b)) Q E s:=by
 obtain⟨⟨cls,dd,data,sl⟩,ho,hc,n,hd⟩:=id c;obtain⟨⟨d,M,data2,O⟩,G,T,n2,U⟩:=id hb;simp only at hc hd T U;subst hc hd T U;have e:vs.toArray++ws.toArray=(vs++ws).toArray:=X9
 by_cases hw:ws=[]
 .exact concat_meets ⟨_,ho,rr⟩ ⟨_,G,rr⟩ noFill_tuple_add seq_tuple_add slot_tuple_add entry_tuple_add (args_tuple_add_2 _ _)
   (tuple_addW1 t b vs.toArray ws.toArray n n2 dd M sl O (by simpa using a) (by simp[hw])) ⟨ho,G,h1 hw⟩
 .refine concat_meets ⟨_,ho,rr⟩ ⟨_,G,rr⟩ noFill_tuple_add seq_tuple_add slot_tuple_add entry_tuple_add (args_tuple_add_2 _ _)
   (tuple_addW2 t b vs.toArray ws.toArray n n2 dd M sl O (by simpa using a) (by simpa using hw) (by simp_all)) ⟨ho,G,?_⟩
  rw[e];exact h2 hw
noncomputable def fu (n d:Nat):OI->Nat
 |none=>d
 |some v=>if v<0 then (v+(n:Int)).toNat else min v.toNat n
def G1 (n d:Nat):fu n d none=d:=rfl
def Kq (n d k:Nat):fu n d (some (k:Int))=min k n:=by
 rfl
def Oq (n d:Nat)(hd:d<=n)(o:OI):fu n d o<=n:=by
 cases o with
 |none=>exact hd
 |some v=>
  show(if v<0 then (v+(n:Int)).toNat else min v.toNat n)<=n;by_cases G:v<0
  .rw[if_pos G];lia
  .rw[if_neg G];exact Nat.min_le_right _ _
def CQ (v:Int)(n d:Nat):(if v<0 then max (v+(n:Int)) 0 else min v (n:Int))=((fu n d (some v):Nat):Int):=by
 show(if v<0 then max (v+(n:Int)) 0 else min v (n:Int))=(((if v<0 then (v+(n:Int)).toNat else min v.toNat n):Nat):Int);grind
def Bz (lo hi:OI)(n:Nat):Builtin.Slice.sliceAdjust lo hi 1 (n:Int)=(((fu n 0 lo:Nat):Int),((fu n n hi:Nat):Int)):=by
 have h1:¬((1:Int)<0):=N9
 unfold Builtin.Slice.sliceAdjust;simp only[h1,if_false];refine Prod.ext ?_ ?_
 .cases lo with
  |none=>rfl
  |some v=>exact CQ v n 0
 .cases hi with
  |none=>rfl
  |some v=>exact CQ v n n
def B1 (i j:Nat):Builtin.Slice.slicePlaces (i:Int) (j:Int) 1=j - i:=by
 unfold Builtin.Slice.slicePlaces;simp<;>lia
def rj (p:IsPart v o)(h:Q o s):wpAny (model prog w) A (Builtin.Slice.slicePartIndex v) Q E s:=by
 cases p with
 |none=>exact slicePart_none h
 |int i t=>exact slicePart_int h
def j8 {sl:Addr}{vl O:Value}{lo hi:OI}{n:Nat}{Q:Int×Int×Nat->Shared->Prop}(hs:s.heap.IsSliceOf sl vl O .none)(pl:IsPart vl lo)(T:IsPart O hi)
  (h:Q (((fu n 0 lo:Nat):Int),1,fu n n hi - fu n 0 lo) s):wpAny (model prog w) A (Builtin.Slice.sliceApplied (.ref sl) (pure (n:Int))) Q E s:=by
 obtain⟨os,G,U,M⟩:=id hs;unfold Builtin.Slice.sliceApplied Builtin.Slice.sliceFields;refine wX (wX (wpAny_field G M (x:=vl) rr (wX (wpAny_field G M (x:=O) rr (wX (wpAny_field G M (x:=.none) rr (wY ?_)))))));refine wX (slicePart_none ?_);show wpAny _ _ (if((1:Int) == 0)=true then _ else _) _ _ s;rw[if_neg Z9];refine wX (rj pl (wX (rj T (wX (wY ?_)))));show wpAny _ _ (match Builtin.Slice.sliceAdjust lo hi 1 (n:Int) with|(lo,hi)=>pure (lo,(1:Int),Builtin.Slice.slicePlaces lo hi 1)) _ _ s;rw[Bz lo hi n];show wpAny _ _ (pure (((fu n 0 lo:Nat):Int),(1:Int),Builtin.Slice.slicePlaces ((fu n 0 lo:Nat):Int) ((fu n n hi:Nat):Int) 1)) _ _ s;rw[B1];exact wY h
def G2 (xs:AV)(i k:Nat):((List.range k).filterMap λ(m:Nat)=>xs[((i:Int)+(m:Int)*1).toNat]?).toArray=((xs.toList.drop i).take k).toArray:=by
 have e:(λ(m:Nat)=>xs[((i:Int)+(m:Int)*1).toNat]?)=λm=>xs[i+m]?:=by
  funext m;have:((i:Int)+(m:Int)*1).toNat=i+m:=N9
  rw[this]
 rw[e];have:=pick_run xs i k;rw[List.filterMap_map]at this;have e2:((λx=>xs[x]?) ∘ λx=>i+x)=λm=>xs[i+m]?:=rr;simp_all
def nc {t sl:Addr}{items:AV}{vl a:Value}{lo hi:OI}{Q:QV}(M:IsTup s.heap t items)(hs:s.heap.IsSliceOf sl vl a .none)(pl:IsPart vl lo)(b:IsPart a hi)
  (hw:¬(fu items.size 0 lo=0/\fu items.size items.size hi=items.size))
  (h:Q (.ref s.heap.objs.size) { s with heap:=s.heap.push { cls:=.type "tuple",data:=.seq ((items.toList.drop (fu items.size 0 lo)).take (fu items.size items.size hi - fu items.size 0 lo)).toArray } })
  (hsz:items.size<=sizeLine):wpAny (model prog w) A (getItem (.ref t) (.ref sl)) Q E s:=by
 have G:sizeOk (.seq ((items.toList.drop (fu items.size 0 lo)).take (fu items.size items.size hi - fu items.size 0 lo)).toArray):=by
  show((items.toList.drop (fu items.size 0 lo)).take (fu items.size items.size hi - fu items.size 0 lo)).toArray.size<=sizeLine
  simp<;>lia
 have hj:fu items.size items.size hi<=items.size:=Oq _ _ (vT _) hi
 obtain⟨os,O,T,d⟩:=id hs
 have U:s.TypeIs (.ref sl) "slice":=⟨os,O,T⟩
 unfold getItem
 try with_reducible refine wpAny_holding ?_
 first|refine wX (wY ?_)|skip
 refine wX (wpAny_sequenceKey M.typeIs Z9 ?_)
 refine wX (wpAny_callSpecial?_slot (name:=Str.ofString "__getitem__") M.typeIs PyProof.Rows.slot_tuple_getitem
  (wpAny_call_entry PyProof.Rows.slot_tuple_getitem M.typeIs entry_tuple_getitem ?_ (args_tuple_getitem _ _)))
 show wpAny _ _ (Builtin.Tuple.tupleItemsOf (.ref t)>>=_) _ _ s
 refine wX (tupleItemsOf_ M ?_)
 refine wX (wpAny_typeOf U ?_)
 rw[if_pos Z9]
 refine wX (j8 hs pl b ?_)
 have c:¬((((fu items.size 0 lo:Nat):Int) == 0 && (1:Int) == 1 && (fu items.size items.size hi - fu items.size 0 lo) == items.size)=true):=by
  simp_all
 show wpAny _ _ (if(((fu items.size 0 lo:Nat):Int) == 0 && (1:Int) == 1 && (fu items.size items.size hi - fu items.size 0 lo) == items.size)=true then _ else _) _ _ s
 rw[if_neg c,G2]
 first
  |exact wX (m:=Builtin.Tuple.tupleExact _) (wpAny_newObj_type (wY ⟨_,rr,wY h⟩) G)
  |exact wX (m:=Builtin.Tuple.tupleExact _) (wpAny_newObj_type (wX (wY (wY ⟨_,rr,wY h⟩))) G)
  |exact wX (wX (m:=Builtin.Tuple.tupleExact _) (wpAny_newObj_type (wY (wY ⟨_,rr,wY h⟩)) G))
  |exact wX (wX (m:=Builtin.Tuple.tupleExact _) (wpAny_newObj_type (wY ⟨_,rr,wY h⟩) G))
end
end HT
namespace L2
open PySem PySem.Spec PyProof.Rows
abbrev TO:=St->Hp->(OI->Hp->Prop)->Prop
def PO (X:Cx)(e:Option Expr)(t:TO):Prop :=
 ∀(ak:AO)(s:Shared)(σ:St)(H:Hp)(Q:OI->Hp->Prop),Inv X ak σ H s->t σ H Q ->
  wq X (evalPart e X.env) (λu s'=>∃o H',Inv X ak σ H' s'/\IsPart u o/\Q o H') X.xe s
def Kr:TO:=λ_ H Q=>Q none H
def Rk (t:TE):TO:=λσ H Q=>t σ H λx G=>∃i,x=.int i/\Q (some i) G
section
variable {X:Cx}{e:Expr}{te:TE}{lo hi:Option Expr}{tl th:TO}{pos p2:Pos}
def Ks:PO X none Kr:=by
 intro ak s σ H Q I h;rw[evalPart_none];exact wY ⟨none,H,I,.none,h⟩
def Kt (h:PE X e te):PO X (some e) (Rk te):=by
 intro ak s σ H Q I hw;rw[evalPart_some];refine cu (h ak s σ H _ I hw) λu s1 ⟨x,G,M,O,T⟩=>?_;obtain⟨i,rfl,q⟩:=T;obtain⟨t,rfl⟩:=O;exact⟨some i,G,M,.int i t,q⟩
def Gj (X:Cx)(r:V->OI->OI->Hp->VK->Prop):Prop :=
 ∀(ak:AO)(s:Shared)(σ:St)(H:Hp)(x:V)(v vl G:Value)(lo hi:OI)(sl:Addr)(Q:VK),Inv X ak σ H s->aU x v->s.heap.IsSliceOf sl vl G .none->IsPart vl lo->IsPart G hi->r x lo hi H Q ->
  ∃T id,typeLookup (.type T) "__getitem__" = pure (some (.builtin id))/\s.TypeIs v T/\wq X (getItem v (.ref sl)) (EP X ak σ Q) X.xe s
def Gj.or (h:Gj X r)(h':Gj X T):Gj X (λx lo hi H Q=>r x lo hi H Q\/T x lo hi H Q):=by
 intro ak s σ H x v vl G lo hi sl Q I M hs pl O q;rcases q with q|q
 .exact h ak s σ H x v vl G lo hi sl Q I M hs pl O q
 .exact h' ak s σ H x v vl G lo hi sl Q I M hs pl O q
def XN (r:V->OI->OI->Hp->VK->Prop)(te:TE)(tl th:TO):TE:=λσ H Q=>te σ H λx G=>tl σ G λl H2=>th σ H2 λu M=>r x l u M Q
def G3 (U:Gj X r)(he:PE X e te)(hl:PO X lo tl)(hu:PO X hi th):PE X (.Subscript e (.Slice lo hi none p2) pos) (XN r te tl th):=by
 intro ak s σ H Q I h;refine Subscript_ (cu (he ak s σ H _ I h) λv s1 ⟨x,a,c,d,f⟩=>?_);refine wpAny_Slice (cu (hl ak s1 σ a _ c f) λvl s2 ⟨l,H2,g,pl,i⟩=>cu (hu ak s2 σ H2 _ g i) λM G ⟨u,O,j,k,m⟩=>?_);rw[evalPart_none];refine wY ?_;have n:Inv X ak σ O { G with heap:=G.heap.push { cls:=.type "slice",data:=.fields #[vl,M,.none] } }:=j.kept (t':=G.toks) λb ob q=>vZ _ q;obtain⟨T,id,o,p,t⟩:=U ak { G with heap:=G.heap.push { cls:=.type "slice",data:=.fields #[vl,M,.none] } } σ O x v vl M l u G.heap.objs.size Q n d (Heap.IsSliceOf.new ..) pl k m;show wq X (subscriptTail e (.Slice lo hi none p2) v (.ref G.heap.objs.size)) (EP X ak σ Q) X.xe { G with heap:=G.heap.push { cls:=.type "slice",data:=.fields #[vl,M,.none] } };exact tail_any (ops:=[.ref G.heap.objs.size,v]) p o t (by with_unfolding_all rfl)
def uE (xs:List V)(lo hi:OI):List V:=(xs.drop (HT.fu xs.length 0 lo)).take (HT.fu xs.length xs.length hi - HT.fu xs.length 0 lo)
def pR (xs:List V)(lo hi:OI):(uE xs lo hi).length<=xs.length:=by
 unfold uE;rw[length_take,length_drop];lia
def Ui (K:Frag):V->OI->OI->Hp->VK->Prop:=λx lo hi H Q=>∃a xs,x=.ref a/\jf K H a xs /\
 ¬(HT.fu xs.length 0 lo=0/\HT.fu xs.length xs.length hi=xs.length)/\∀p,H p=none->Q (.ref p) (upd H p (.tup (uE xs lo hi)))
def Ot:Gj X (Ui X.K):=by
 intro ak s σ H x v vl U lo hi sl Q I O hs pl T h;obtain⟨a,xs,rfl,hx,hw,q⟩:=h;cases O
 obtain⟨its,r,M,hz⟩:=I.tuple hx;have G:its.toArray.size=xs.length:=by rw[vH];exact r.length.symm
 refine⟨"tuple",_,PyProof.Rows.slot_tuple_getitem.lookup,M.typeIs,?_⟩;refine HT.nc M hs pl T (by rw[G];exact hw) ?_ (by rw[G];exact hz);rw[G];refine⟨.ref s.heap.objs.size,_,I.laid (t':=s.toks) (o:=.tup (uE xs lo hi)) (λb ob q=>vZ _ q) (vT _) ?_,rr,q _ (I.hok.fresh (vT _))⟩;exact⟨vR (pR xs lo hi) hz,_,(r.drop (HT.fu xs.length 0 lo)).take (HT.fu xs.length xs.length hi - HT.fu xs.length 0 lo),IsTup.new _ _⟩
def Rm (K:Frag):R2:=λx y H Q=>∃a b xs ys,x=.ref a/\y=.ref b/\jf K H a xs/\jf K H b ys/\xs≠[]/\xs.length+ys.length<=sizeLine /\
 (ys=[]->Q (.ref a) H)/\(ys≠[]->∀p,H p=none->Q (.ref p) (upd H p (.tup (xs++ys))))
def bi.nil_iff (r:bi xs us):us=[]↔xs=[]:=by
 cases r with
 |nil=>simp
 |cons _ _=>simp
def Ku:dS X (binaryOp .Add) (Rm X.K):=by
 intro ak s σ H x y v u Q I T U h;obtain⟨a,b,xs,ys,rfl,rfl,ha,hb,hx,hz,c,d⟩:=h;cases T
 cases U
 obtain⟨its,M,f,_⟩:=I.tuple ha;obtain⟨O,G,p2,_⟩:=I.tuple hb;refine HT.Kp f p2 (λz=>hx (M.nil_iff.mp z)) (λz=>⟨.ref a,H,I,rr,c (G.nil_iff.mp z)⟩) (λz=>?_) (by rw[<-M.length,<-G.length];exact hz);refine⟨.ref s.heap.objs.size,_,I.laid (t':=s.toks) (o:=.tup (xs++ys)) (λb ob q=>vZ _ q) (vT _) ?_,rr,d (λw=>z (G.nil_iff.mpr w)) _ (I.hok.fresh (vT _))⟩;exact⟨by rw[uY];exact hz,_,M.append G,IsTup.new _ _⟩
end
def JX (n:Nat)(i:Int):Option Nat:=if 0<=i then (if i<n then some i.toNat else none)else if -(n:Int)<=i then some (i+n).toNat else none
def oH {α:Type}(xs:List α)(i:Int):Option α:=(JX xs.length i).bind λj=>xs[j]?
def CS (h:JX n i=some j):seqIndex? i n=some j/\j<n/\-(n:Int)<=i/\i<n:=by
 unfold JX at h;by_cases h0:0<=i
 .rw[if_pos h0]at h;by_cases h1:i<n
  .rw[if_pos h1]at h;have e:i.toNat=j:=vK h;exact⟨by rw[seqIndex_of h0 h1,e],N9,N9,h1⟩
  simp_all
 .rw[if_neg h0]at h;by_cases h1 : -(n:Int)<=i
  .rw[if_pos h1]at h;have e:(i+n).toNat=j:=vK h;exact⟨by rw[seqIndex_neg N9 h1,e],N9,h1,N9⟩
  simp_all
def xA {α:Type}{xs:List α}{i:Int}{v:α}(h:oH xs i=some v):∃j,seqIndex? i xs.length=some j/\xs[j]? = some v/\j<xs.length/\-(xs.length:Int)<=i/\i<xs.length:=by
 unfold oH at h;cases e:JX xs.length i with
 |none=>rw[e]at h;cases h
 |some j=>
  rw[e]at h;obtain⟨h1,h2,h3,h4⟩:=CS e;exact⟨j,h1,h,h2,h3,h4⟩
def Kv {α:Type}{xs:List α}{j:Nat}{v:α}(h:xs[j]? = some v):oH xs (j:Int)=some v:=by
 have hj:j<xs.length:=(vV h).1;simp_all[JX,oH]
def ng (b:Expr):Prop:=∀o i,subscripted b false o i=operate [o,i] (getItem o i)
def G4 (X:Cx)(r:R2):Prop :=
 ∀(M G:Expr)(ak:AO)(s:Shared)(σ:St)(H:Hp)(x y:V)(v u:Value)(Q:VK),Inv X ak σ H s->aU x v->aU y u->r x y H Q ->
  subscripted G false v u=operate [v,u] (getItem v u)->wq X (subscriptTail M G v u) (EP X ak σ Q) X.xe s
def Kw (X:Cx)(id:String)(r:V->List V->Hp->VK->Prop):Prop :=
 ∀(ak:AO)(s:Shared)(σ:St)(H:Hp)(x:V)(xs:List V)(v:Value)(us:LU)(Q:VK),Inv X ak σ H s->aU x v->bi xs us->r x xs H Q ->
  wq X (call (.builtin id) (v::us)) (EP X ak σ Q) X.xe s
section
variable {X:Cx}{a b:Expr}{ta tb:TE}{pos:Pos}
def G4.or (h:G4 X r)(h':G4 X U):G4 X (λx y H Q=>r x y H Q\/U x y H Q):=by
 intro G M ak s σ H x y v u Q I O T q hs;rcases q with q|q
 .exact h G M ak s σ H x y v u Q I O T q hs
 .exact h' G M ak s σ H x y v u Q I O T q hs
def Kw.or {id:String}{r G:V->List V->Hp->VK->Prop}(h:Kw X id r)(h':Kw X id G):Kw X id (λx xs H Q=>r x xs H Q\/G x xs H Q):=by
 intro ak s σ H x xs v us Q I M rs q;rcases q with q|q
 .exact h ak s σ H x xs v us Q I M rs q
 .exact h' ak s σ H x xs v us Q I M rs q
def G5 (G:G4 X r)(ha:PE X a ta)(hb:PE X b tb)(hs:ng b):PE X (.Subscript a b pos) (Tw r ta tb):=by
 intro ak s σ H Q I h;exact Subscript_ (Oc ha hb I h λv u s2 x y H2 M O T q=>G a b ak s2 σ H2 x y v u Q M O T q (hs _ _))
def Uj (K:Frag):R2:=λx y H Q=>∃p xs i v,x=.ref p/\y=.int i/\gB K H p xs/\oH xs i=some v/\Q v H
def Uk (K:Frag):R2:=λx y H Q=>∃p xs i v,x=.ref p/\y=.int i/\jf K H p xs/\oH xs i=some v/\Q v H
def Ul:R2:=λx y H Q=>∃z i c,x=.str z/\y=.int i/\z.length<=sizeLine/\oH z.cps.toList i=some c/\Q (.str ⟨#[c]⟩) H
def Kx:G4 X (Uj X.K):=by
 intro G M ak s σ H x y v u Q I U c h hs;obtain⟨p,xs,i,z,rfl,rfl,hq,he,q⟩:=h;cases U
 obtain⟨t,rfl⟩:=c;obtain⟨its,r,pl,hz⟩:=I.list hq;obtain⟨j,h1,h2,h3,h4,h5⟩:=xA he;obtain⟨w,T,O⟩:=r.get h2;have hl:=r.length;have hn:=oK;have ii:EP X ak σ Q w s:=⟨z,H,I,O,q⟩;by_cases h0:0<=i
 .have hj:i.toNat=j:=by
   rw[seqIndex_of h0 h5]at h1;exact vK h1
  exact item_listR pl.isList h0 N9 (by rw[hj];simpa using T) ii hs
 .have hj:(i+(its.toArray.size:Int)).toNat=j:=by
   rw[seqIndex_neg N9 h4]at h1;rw[vH,<-hl];exact vK h1
  exact subscriptTail_builtinR (x:=w) pl.isList.typeIs slot_list_getitem.lookup
   (wpAny_getItem_list_neg (Q:=λr s'=>r=w/\EP X ak σ Q r s') pl.isList N9 (by rw[vH]<;>lia) N9 (by rw[hj];simpa using T) ⟨rr,ii⟩) hs
def G6:G4 X (Uk X.K):=by
 intro G M ak s σ H x y v u Q I T U h hs;obtain⟨p,xs,i,z,rfl,rfl,hq,he,q⟩:=h;cases T
 obtain⟨t,rfl⟩:=U;obtain⟨its,r,pl,hz⟩:=I.tuple hq;obtain⟨j,h1,h2,h3,h4,h5⟩:=xA he;obtain⟨w,c,O⟩:=r.get h2;have hl:=r.length;have hn:=oK;have ii:EP X ak σ Q w s:=⟨z,H,I,O,q⟩;exact subscriptTail_builtinR (x:=w) pl.typeIs slot_tuple_getitem.lookup
  (getItem_tuple (j:=j) (Q:=λr s'=>r=w/\EP X ak σ Q r s') pl N9 N9 (by simp_all) (by simpa using c) ⟨rr,ii⟩) hs
def B2:G4 X Ul:=by
 intro G M ak s σ H x y v u Q I O T h hs;obtain⟨z,i,c,rfl,rfl,hz,he,q⟩:=h;obtain⟨t,rfl⟩:=O;obtain⟨t',rfl⟩:=T;obtain⟨j,h1,h2,h3,h4,h5⟩:=xA he;have hl:z.cps.toList.length=z.length:=by simp[Str.length]
 rw[hl]at h1 h4 h5;have hn:=oK;exact tail_any (typeIs_str s z t) slot_str_getitem.lookup (getItem_str (c:=c) (by
  lia) (by rw[h1];simpa using h2) ⟨.str ⟨#[c]⟩,H,I.tok _,⟨_,rr⟩,q⟩) hs
def B3 (its:LU)(n j:Nat)(u:Value):Obj.mapSeq (·.setIfInBounds j u) { cls:=.type "list",data:=.seq its.toArray n }={ cls:=.type "list",data:=.seq (its.set j u).toArray n }:=by
 simp[Obj.mapSeq]
def Inv.lst (I:Inv X ak σ H s)(h:H p=some (.lst xs)):
  ∃(its:LU)(n:Nat),bi xs its/\s.heap.get? p=some { cls:=.type "list",data:=.seq its.toArray n }/\xs.length<=sizeLine:=by
 obtain⟨z,its,n,r,e⟩:=I.hok p _ h;exact⟨its,n,r,e,z⟩
def Inv.lstUpd {ak:AO}{σ:St}{H:Hp}{s:Shared}{p:Addr}{xs ys:List V}{its its':LU}{n G:Nat}{f:Obj->Obj}(I:Inv X ak σ H s)(h:H p=some (.lst xs))
  (ho:s.heap.get? p=some { cls:=.type "list",data:=.seq its.toArray n }) (hf:f { cls:=.type "list",data:=.seq its.toArray n }={ cls:=.type "list",data:=.seq its'.toArray G }) (r:bi ys its') (hz:ys.length<=sizeLine) (t:Nat):
  Inv X ak σ (upd H p (.lst ys)) { s with heap:=s.heap.update p f,toks:=t }:=by
 have e:(s.heap.update p f).get? p=some { cls:=.type "list",data:=.seq its'.toArray G }:=by
  rw[Heap.get?_update_self f ho (by rw[hf]<;>rfl),hf]
 refine I.write (x:=p) (e:=p) (by rw[h];trivial) (.inl rr) (λb u hb q=>(Heap.get?_update_other _ _ (Ne.symm hb)).trans q) ⟨_,e⟩ ?_;exact⟨hz,its',G,r,e⟩
def Rn:V->V->V->Hp->(Hp->Prop)->Prop:=λo i v H Q=>∃p xs k j,o=.ref p/\i=.int k/\H p=some (.lst xs)/\JX xs.length k=some j/\Q (upd H p (.lst (xs.set j v)))
def G7:QP X Rn:=by
 intro ak s σ H o i v U iv u Q I M O T h;obtain⟨p,xs,k,j,rfl,rfl,hp,hj,q⟩:=h;cases M
 obtain⟨t,rfl⟩:=O;obtain⟨its,n,r,ho,hz⟩:=I.lst hp;obtain⟨h1,h2,h3,h4⟩:=CS hj;have hl:=r.length;have hn:=oK;have G:Inv X ak σ (upd H p (.lst (xs.set j v))) { s with heap:=s.heap.update p (Obj.mapSeq (·.setIfInBounds j u)) } :=
  I.lstUpd hp ho (B3 its n j u) (r.set T j) (by rw[length_set];exact hz) s.toks
 by_cases h0:0<=k
 .have hk:k.toNat=j:=by
   rw[seqIndex_of h0 h4]at h1;exact vK h1
  exact PySem.W.ki_setAt ho h0 N9 (by rw[vH,<-hl];exact h4) (by rw[hk];exact⟨_,G,q⟩)
 .have hk:(k+(its.toArray.size:Int)).toNat=j:=by
   rw[seqIndex_neg N9 h3]at h1;rw[vH,<-hl];exact vK h1
  exact PySem.W.ki_setBack ho N9 (by rw[vH,<-hl];exact h3) N9 (by rw[hk];exact⟨_,G,q⟩)
def xB (lo hi:OI)(n:Nat):(sliceBounds lo hi none n).1=((HT.fu n 0 lo:Nat):Int)/\(sliceBounds lo hi none n).2.1=((HT.fu n n hi:Nat):Int)/\(sliceBounds lo hi none n).2.2=1:=by
 refine⟨?_,?_,rr⟩
 .cases lo with
  |none=>simp[sliceBounds,HT.fu]
  |some i=>
   simp only[sliceBounds,HT.fu,Option.getD_none,show(1:Int) > 0 by decide,if_true];grind
 .cases hi with
  |none=>simp[sliceBounds,HT.fu]
  |some i=>
   simp only[sliceBounds,HT.fu,Option.getD_none,show(1:Int) > 0 by decide,if_true];lia
def uF (its:LU)(lo hi:OI):slicePick its.toArray lo hi none=((its.drop (HT.fu its.length 0 lo)).take (HT.fu its.length its.length hi - HT.fu its.length 0 lo)).toArray:=by
 obtain⟨h1,h2,h3⟩:=xB lo hi its.toArray.size;unfold slicePick;rw[h1,h2,h3];simp only[sliceRange_one,pick_run,vH]<;>rfl
def Um (K:Frag):V->OI->OI->Hp->VK->Prop:=λx lo hi H Q=>∃a xs,x=.ref a/\gB K H a xs/\∀p,H p=none->Q (.ref p) (upd H p (.lst (uE xs lo hi)))
def Ky:Gj X (Um X.K):=by
 intro ak s σ H x v vl U lo hi sl Q I O hs pl T h;obtain⟨a,xs,rfl,hx,q⟩:=h;cases O
 obtain⟨its,r,M,hz⟩:=I.list hx;have G:=r.length;refine⟨"list",_,slot_list_getitem.lookup,M.isList.typeIs,?_⟩;refine wpAny_getItem_list_slice M.isList hs pl T .none X9 ?_ (by rw[vH]<;>lia)
 rw[uF,<-G];refine⟨.ref s.heap.objs.size,_,I.laid (t':=s.toks) (o:=.lst (uE xs lo hi)) (λb ob q=>vZ _ q) (vT _) ?_,rr,q _ (I.hok.fresh (vT _))⟩;exact⟨vR (pR xs lo hi) hz,_,0,(r.drop (HT.fu xs.length 0 lo)).take (HT.fu xs.length xs.length hi - HT.fu xs.length 0 lo),vY _ rr⟩
noncomputable def mo:V->Bool
 |.non=>true
 |.bl _=>true
 |.int _=>true
 |.str _=>true
 |_=>false
def Kz:V->V->Bool
 |.non,.non=>true
 |.bl a,.bl b=>a == b
 |.bl a,.int b=>(if a then 1 else 0) == b
 |.int a,.bl b=>a == (if b then 1 else 0)
 |.int a,.int b=>a == b
 |.str a,.str b=>a == b
 |_,_=>false
def Ou (M:aU y u)(G:aU x v)(O:mo y=true)(fx:mo x=true):SeqAt.EqAt A s u v (Kz y x):=by
 cases y with
 |non=>
  cases M
  cases x with
  |non=>cases G;exact SeqAt.EqAt.same _
  |bl b=>cases G;exact SeqAt.EqAt.none_bool b
  |int b=>obtain⟨t,rfl⟩:=G;exact SeqAt.EqAt.none_int b t
  |str b=>obtain⟨t,rfl⟩:=G;exact SeqAt.EqAt.none_str b t
  |_=>exact absurd (show false=true from fx) uW
 |bl a=>
  cases M
  cases x with
  |non=>cases G;exact SeqAt.EqAt.bool_none a
  |bl b=>cases G;exact SeqAt.EqAt.bool_bool a b
  |int b=>obtain⟨t,rfl⟩:=G;exact SeqAt.EqAt.bool_int a b t
  |str b=>obtain⟨t,rfl⟩:=G;exact SeqAt.EqAt.bool_str a b t
  |_=>exact absurd (show false=true from fx) uW
 |int a=>
  obtain⟨t',rfl⟩:=M;cases x with
  |non=>cases G;exact SeqAt.EqAt.int_none a t'
  |bl b=>cases G;exact SeqAt.EqAt.int_bool a t' b
  |int b=>obtain⟨t,rfl⟩:=G;exact SeqAt.EqAt.int_int a t' b t
  |str b=>obtain⟨t,rfl⟩:=G;exact SeqAt.EqAt.int_str a t' b t
  |_=>exact absurd (show false=true from fx) uW
 |str a=>
  obtain⟨t',rfl⟩:=M;cases x with
  |non=>cases G;exact SeqAt.EqAt.str_none a t'
  |bl b=>cases G;exact SeqAt.EqAt.str_bool a t' b
  |int b=>obtain⟨t,rfl⟩:=G;exact SeqAt.EqAt.str_int a t' b t
  |str b=>obtain⟨t,rfl⟩:=G;exact SeqAt.EqAt.str_str a t' b t
  |_=>exact absurd (show false=true from fx) uW
 |_=>exact absurd (show false=true from O) uW
def B4 (x:V)(u:Value):Bool:=match u with
 |.none=>Kz .non x
 |.bool b=>Kz (.bl b) x
 |.int i _=>Kz (.int i) x
 |.str z _=>Kz (.str z) x
 |_=>false
def G8 (r:aU y u)(f:mo y=true):B4 x u=Kz y x:=by
 cases y with
 |non=>cases r;rfl
 |bl b=>cases r;rfl
 |int i=>obtain⟨t,rfl⟩:=r;rfl
 |str z=>obtain⟨t,rfl⟩:=r;rfl
 |_=>exact absurd (show false=true from f) uW
theorem nj:∀ {xs:List V}{us:LU},bi xs us->xs.all mo=true->us.any (B4 x)=xs.any λy=>Kz y x
 |_,_,.nil,_=>rr
 |y::xs,u::us,.cons r t,f=>by
  rw[all_cons,vB]at f;rw[any_cons,any_cons,G8 r f.1,nj t f.2]
theorem kQ (G:aU x v)(fx:mo x=true):∀ {xs:List V}{us:LU},bi xs us->xs.all mo=true->∀u∈us,SeqAt.EqAt A s u v (B4 x u)
 |_,_,.nil,_=>λu hu=>by cases hu
 |y::xs,u::us,.cons r t,f=>λM hu=>by
  rw[all_cons,vB]at f;rcases vP hu with rfl|hu
  .rw[G8 r f.1];exact Ou r G f.1 fx
  .exact kQ G fx t f.2 M hu
noncomputable def Tz (x:V)(xs:List V):Bool:=xs.any λy=>Kz y x
def Wl (K:Frag)(G:Bool):R2:=λx y H Q=>∃p xs,y=.ref p/\(gB K H p xs\/jf K H p xs)/\mo x=true/\xs.all mo=true/\Q (.bl (if G then !Tz x xs else Tz x xs)) H
def EM:dS X (compareOp .In) (Wl X.K false):=by
 intro ak s σ H x y v u Q I G M h;obtain⟨p,xs,rfl,hq,fx,fs,q⟩:=h;cases M
 rcases hq with hq|hq
 .obtain⟨its,r,pl,hz⟩:=I.list hq;refine SeqAt.in_listAt (B4 x) pl.isList (λw hw=>kQ G fx r fs w (by simpa using hw)) ⟨.bl _,H,I,rr,?_⟩;rw[show its.toArray.any (B4 x)=its.any (B4 x) by simp,nj r fs];exact q
 .obtain⟨its,r,pl,hz⟩:=I.tuple hq;refine SeqAt.in_tupleAt (B4 x) pl (λw hw=>kQ G fx r fs w (by simpa using hw)) ⟨.bl _,H,I,rr,?_⟩;rw[show its.toArray.any (B4 x)=its.any (B4 x) by simp,nj r fs];exact q
def xC:dS X (compareOp .NotIn) (Wl X.K true):=by
 intro ak s σ H x y v u Q I G M h;obtain⟨p,xs,rfl,hq,fx,fs,q⟩:=h;cases M
 rcases hq with hq|hq
 .obtain⟨its,r,pl,hz⟩:=I.list hq;refine SeqAt.notIn_listAt (B4 x) pl.isList (λw hw=>kQ G fx r fs w (by simpa using hw)) ⟨.bl _,H,I,rr,?_⟩;rw[show its.toArray.any (B4 x)=its.any (B4 x) by simp,nj r fs];exact q
 .obtain⟨its,r,pl,hz⟩:=I.tuple hq;refine SeqAt.notIn_tupleAt (B4 x) pl (λw hw=>kQ G fx r fs w (by simpa using hw)) ⟨.bl _,H,I,rr,?_⟩;rw[show its.toArray.any (B4 x)=its.any (B4 x) by simp,nj r fs];exact q
def xD:bY X (.builtin "len") (λxs H Q=>∃p ys,xs=[.ref p]/\(gB X.K H p ys\/jf X.K H p ys)/\Q (.int ys.length) H):=by
 intro ak s σ H xs us Q I r h;obtain⟨p,ys,rfl,hq,q⟩:=h;obtain⟨u,rfl,O⟩:=ij r;cases O
 have hn:=oK;rcases hq with hq|hq
 .obtain⟨its,M,pl,hz⟩:=I.list hq;have G:=M.length;exact Calls.call_len_list pl.isList (by grind) ⟨.int ys.length,H,I.tok _,⟨s.toks+1,by rw[vH,G]⟩,q⟩
 .obtain⟨its,M,pl,hz⟩:=I.tuple hq;have G:=M.length;exact len_tuple pl (by grind) ⟨.int ys.length,H,I.tok _,⟨s.toks+1,by rw[vH,G]⟩,q⟩
def xE:bY X (.builtin "len") (λxs H Q=>∃z,xs=[.str z]/\z.length<=sizeLine/\Q (.int z.length) H):=by
 intro ak s σ H xs us Q I r h;obtain⟨z,rfl,hz,q⟩:=h;obtain⟨u,rfl,t,rfl⟩:=ij r;have hn:=oK;exact len_str N9 ⟨.int z.length,H,I.tok _,⟨_,rr⟩,q⟩
def bY.or (h:bY X f r)(h':bY X f G):bY X f (λxs H Q=>r xs H Q\/G xs H Q):=by
 intro ak s σ H xs us Q I rs q;rcases q with q|q
 .exact h ak s σ H xs us Q I rs q
 .exact h' ak s σ H xs us Q I rs q
def xF:bY X (.type "list") (λxs H Q=>∃p ys,xs=[.ref p]/\(gB X.K H p ys\/jf X.K H p ys)/\∀l,H l=none->Q (.ref l) (upd H l (.lst ys))):=by
 intro ak s σ H xs us Q I r h;obtain⟨p,ys,rfl,hq,q⟩:=h;obtain⟨u,rfl,T⟩:=ij r;cases T
 have ii:∀(its:LU),bi ys its->ys.length<=sizeLine->∀(h':Heap)(G:Nat),(∀b o',s.heap.get? b=some o'->h'.get? b=some o') ->
   h'.get? s.heap.objs.size=some { cls:=.type "list",dict:=none,data:=.seq its.toArray G,slots:=#[] }->EP X ak σ Q (.ref s.heap.objs.size) { s with heap:=h' }:=λits M hz h' G kp e=>
  ⟨.ref s.heap.objs.size,_,I.laid (t':=s.toks) kp (vT _) (show bJ X.prog X.w _ h' _ (.lst ys)from ⟨hz,its,G,M,e⟩),rr,q _ (I.hok.fresh (vT _))⟩
 rcases hq with hq|hq
 .obtain⟨its,M,pl,hz⟩:=I.list hq;have O:=M.length;obtain⟨o,ho,hc,n,hd⟩:=pl.isList;exact call_list_seq p (.inl rr) ho hc hd (λh' G kp e=>ii its M hz h' G kp e) (by simp_all)
 .obtain⟨its,M,pl,hz⟩:=I.tuple hq;have O:=M.length;obtain⟨o,ho,hc,n,hd⟩:=pl;exact call_list_seq p (.inr rr) ho hc hd (λh' G kp e=>ii its M hz h' G kp e) (by simp_all)
def uG:bY X (.type "tuple") (λxs H Q=>∃p ys,xs=[.ref p]/\((gB X.K H p ys/\∀l,H l=none->Q (.ref l) (upd H l (.tup ys)))\/(jf X.K H p ys/\Q (.ref p) H))):=by
 intro ak s σ H xs us Q I r h;obtain⟨p,ys,rfl,h⟩:=h;obtain⟨u,rfl,T⟩:=ij r;cases T
 rcases h with⟨hq,q⟩|⟨hq,q⟩
 .obtain⟨its,G,pl,hz⟩:=I.list hq;have M:=G.length;refine call_tuple_list pl.isList (λh' kp=>?_) (by simp_all);have O:Inv X ak σ H { s with heap:=h' }:=I.kept (t':=s.toks) kp;have U:Inv X ak σ (upd H h'.objs.size (.tup ys)) { s with heap:=h'.push { cls:=.type "tuple",data:=.seq its.toArray } } :=
   O.laid (t':=s.toks) (λb o e=>vZ _ e) (vT _) (show bJ X.prog X.w _ _ _ (.tup ys)from ⟨hz,its,G,IsTup.new _ _⟩)
  exact⟨.ref h'.objs.size,_,U,rr,q _ (O.hok.fresh (vT _))⟩
 .obtain⟨its,G,pl,hz⟩:=I.tuple hq;exact call_tuple_same pl ⟨.ref p,H,I,rr,q⟩
def Wm (K:Frag)(T:String)(x:V)(H:Hp):Prop:=match x with
 |.str _=>T = "str"
 |.int _=>T = "int"
 |.ref p=>(T = "list"/\∃xs,gB K H p xs)\/(T = "tuple"/\∃o,K.lookup p=some o/\o.cls=.type "tuple"/\o.dict=none) \/
   (T = "dict"/\((∃aL ob,H p=some (.dK aL ob))\/∃aL,H p=some (.dT aL)))\/(T = "set"/\∃S n,H p=some (.set S n))
 |_=>False
def B5 (I:Inv X ak σ H s)(r:aU x v)(ty:Wm X.K T x H):
  s.TypeIs v T/\∀a,v=.ref a->∃ob,s.heap.get? a=some ob/\ob.dict=none:=by
 cases x with
 |str z=>
  obtain⟨t,rfl⟩:=r;cases (show T = "str" from ty)
  simp_all[typeIs_str]
 |int i=>
  obtain⟨t,rfl⟩:=r;cases (show T = "int" from ty)
  simp_all[typeIs_int]
 |ref p=>
  cases r
  rcases ty with⟨rfl,xs,hq⟩|⟨rfl,o,hk,hc,hd⟩|⟨rfl,hk⟩|⟨rfl,S,n,hk⟩
  .obtain⟨its,_,pl,_⟩:=I.list hq;refine⟨pl.isList.typeIs,λa e=>?_⟩;cases e
   obtain⟨o,n,e,c,hd,_⟩:=pl;exact⟨o,e,hd⟩
  .refine⟨⟨o,I.kIn p o hk,hc⟩,λa e=>?_⟩;cases e
   exact⟨o,I.kIn _ o hk,hd⟩
  .have z:∃o,s.heap.get? p=some o/\o.ExactDict:=by
    rcases hk with⟨aL,G,hk⟩|⟨aL,hk⟩
    .obtain⟨_,_,_,_,_,o,_,_,e,ex,_⟩:=I.hok p _ hk;exact⟨o,e,ex⟩
    .obtain⟨_,_,_,_,o,_,_,e,ex,_⟩:=I.hok p _ hk;exact⟨o,e,ex⟩
   obtain⟨o,e,ex⟩:=z;refine⟨⟨o,e,ex.1⟩,λa e2=>?_⟩;cases e2
   exact⟨o,e,ex.2.1⟩
  .obtain⟨o,_,_,_,e,ex,_⟩:=I.hok p _ hk;refine⟨⟨o,e,ex.1⟩,λa e2=>?_⟩;cases e2
   exact⟨o,e,ex.2.1⟩
 |_=>exact False.elim ty
def XO (K:Frag)(T:String)(r:V->List V->Hp->VK->Prop)(to:TE)(t:TA):TE:=λσ H Q=>to σ H λx G=>Wm K T x G/\t σ G λxs H2=>r x xs H2 Q
variable {o e:Expr}{es:QD}{to:TE}{t:TA}{name:Str}{dn cf:Pos}{T id:String}{r:V->List V->Hp->VK->Prop}
def yV (g:PlainAttrs T)(slot:Slot T name id)(i:typeOf (.builtin id)=pure (.type "method_descriptor"))(hm:Kw X id r)(ho:PE X o to)(ha:PA X (e::es) t)
  (M:attributeBase o name X.env (eval o X.env)=eval o X.env:=by rfl)
  (U:((backTo cf (starEach (e::es) X.env)).all (λx=>!x.1) && (backToKw cf (keywordEach [] X.env)).all (λx=>x.1.isSome)
   && decide ((e::es).length+([]:List Keyword).length+(if([]:List Keyword).isEmpty then 0 else 1)<30))=true:=by rfl)
  (O:(dn.endLine == cf.line)=true:=by rfl) (hs:starEach (e::es) X.env=(false,eval e X.env)::starEach es X.env:=by rfl) (G:(backTo cf (starEach es X.env)).any (·.1)=false:=by rfl):
  PE X (.Call (.Attribute o name dn) (e::es) [] cf) (XO X.K T r to t):=by
 intro ak s σ H Q I h;refine wpAny_Call_method_late M U O rr (cu (ho ak s σ H _ I h) λv s1 ⟨x,j,c,d,ty,k⟩=>?_);obtain⟨h1,h2⟩:=B5 c d ty;refine⟨T,id,g,slot,i,h1,h2,?_⟩;have f:=ha cf ak s1 σ j _ c k;rw[hs]at f |-;refine Calls.callWith_builtin (by show(false || (backTo cf (starEach es X.env)).any (·.1))=false;rw[G]<;>rfl) (Calls.evalArgs_plain ?_)
 exact cu f λus s2 ⟨vs,H2,l,m,n⟩=>hm ak s2 σ H2 x vs v us Q l d m n
/- xs.append(e),list.index on a module's tuple .. are Kw facts of 06m -/
end
def Uo (X:Cx)(id:String)(r:V->List V->Hp->VK->Prop):Prop :=
 ∀(ak:AO)(s:Shared)(σ:St)(H:Hp)(x:V)(xs:List V)(v:Value)(us:LU)(Q:VK),Inv X ak σ H s->aU x v->bi xs us->r x xs H Q ->
  wq X (call (.builtin id) (v::us)) (EP X ak σ Q) X.xe s
theorem bi.one {x:V}{us:LU}(h:bi [x] us):∃u,us=[u]/\aU x u:=by
 cases h with
 |cons r h=>cases h;exact⟨_,rr,r⟩
def bi.two {x y:V}{us:LU}(h:bi [x,y] us):∃u v,us=[u,v]/\aU x u/\aU y v:=by
 cases h with
 |cons r h=>
  grind[bi.one]
theorem bi.zero:∀ {us:LU},bi [] us->us=[]
 |_,.nil=>rr
section
variable {X:Cx}{ak:AO}{σ:St}{H:Hp}{s:Shared}{l b:Addr}{xs ys zs:List V}
def Inv.lset {its its':LU}{n:Nat}{f:AV->AV}{t':Nat}(I:Inv X ak σ H s)(G:H l=some (.lst xs))
  (e:s.heap.get? l=some { cls:=.type "list",data:=.seq its.toArray n }) (hf:f its.toArray=its'.toArray) (M:bi ys its') (hz:ys.length<=sizeLine):
  Inv X ak σ (upd H l (.lst ys)) { s with heap:=s.heap.update l (Obj.mapSeq f),toks:=t' }:=by
 have q:=PySem.IsL.update e f;rw[hf]at q;refine I.write (x:=l) (e:=l) (by rw[G];exact trivial) (.inl rr) (λb' u hb hu=>(Heap.get?_update_other s.heap (Obj.mapSeq f) (Ne.symm hb)).trans hu) ⟨_,q⟩ ?_;exact⟨hz,its',_,M,q⟩
def Inv.lnew (I:Inv X ak σ H s)(G:bi ys its)(hz:ys.length<=sizeLine):
  Inv X ak σ (upd H s.heap.objs.size (.lst ys)) { s with heap:=s.heap.push { cls:=.type "list",data:=.seq its.toArray },toks:=t' } :=
 I.laid (λ_ _ q=>vZ _ q) (vT _) ⟨hz,its,0,G,vY _ rr⟩
def Inv.fresh (I:Inv X ak σ H s):H s.heap.objs.size=none:=I.hok.fresh (vT _)
def Inv.lstM (I:Inv X ak σ H s)(G:H l=some (.lst xs)):xs.length<=sizeLine/\∃(its:LU)(n:Nat),bi xs its/\xs.length=its.length/\s.heap.get? l=some { cls:=.type "list",data:=.seq its.toArray n }:=by
 obtain⟨z,its,n,r,e⟩:=I.hok l _ G;exact⟨z,its,n,r,r.length,e⟩
def G9 (h:n<=sizeLine):Builtin.List.listTooLong n=false:=by
 simp_all[Builtin.List.listTooLong]
end
section
variable {X:Cx}
def CT:V->List V->Hp->VK->Prop:=λx vs H Q=>∃l xs y,x=.ref l/\vs=[y]/\H l=some (.lst xs)/\xs.length<sizeLine/\Q .non (upd H l (.lst (xs++[y])))
def vq:Uo X "list.append" CT:=by
 intro ak s σ H x vs v us Q I M O h;obtain⟨l,xs,y,rfl,rfl,G,hz,q⟩:=h;cases M
 obtain⟨u,rfl,ru⟩:=O.one;obtain⟨z,its,n,r,hl,e⟩:=I.lstM G;refine call_meets F.slot_list_append ⟨_,e,rr⟩ F.entry_list_append (F.args_list_append_2 _ _) (PySem.list_append l its.toArray n u (by rw[vH];lia)) ⟨e,?_⟩;refine⟨.non,_,I.lset (its':=its++[u]) G e X9 (r.append (.cons ru .nil)) ?_,rr,q⟩;simp<;>lia
def K0:V->List V->Hp->VK->Prop:=λx vs H Q=>∃l b xs zs,x=.ref l/\vs=[.ref b]/\H l=some (.lst xs)/\H b=some (.lst zs)/\xs.length+zs.length<=sizeLine/\Q .non (upd H l (.lst (xs++zs)))
def EN:Uo X "list.extend" K0:=by
 intro ak s σ H x vs v us Q I T U h;obtain⟨l,b,xs,zs,rfl,rfl,O,a,hz,q⟩:=h;cases T
 obtain⟨u,rfl,ru⟩:=U.one;cases ru
 obtain⟨z,its,n,r,hl,e⟩:=I.lstM O;obtain⟨d,G,n2,c,f,e2⟩:=I.lstM a;have hsz:its.toArray.size+G.toArray.size<=sizeLine:=by simp_all
 have M:¬(!its.toArray.isEmpty && Builtin.List.listTooLong (its.toArray.size+G.toArray.size))=true:=by
  simp_all[G9]
 refine call_meets F.slot_list_extend ⟨_,e,rr⟩ F.entry_list_extend (F.args_list_extend_2 _ _)
  (AutoSeq1.list_extend_list_list_0 l its.toArray n b G.toArray n2 M (by rw[vH];lia) N9) ⟨e,e2,?_⟩
 refine⟨.non,_,I.lset (its':=its++G) O e X9 (r.append c) ?_,rr,q⟩;simp_all
end
end L2
namespace Att
open PySem PySem.W PySem.Calls PyProof.Rows
def qH:∀(ns:LI)(vs:LU),WellAll P h vs (ns.map WData.int)->IntsAre vs ns:=by
 intro ns;induction ns with
 |nil=>
  intro vs w;rw[List.map_nil]at w;cases w
  exact .nil
 |cons n ns G=>
  intro vs w;rw[uX]at w;cases w with
  |cons a b=>
   cases a
   exact .cons _ _ (G _ b)
def EO {l:OpenLaw}{n:Nat}(hn:l.most=some n){P:Params}{h:Heap}{args:List WData}{vals:LU}
  (G:l.row.toRowW.claim.pre args=true) (T:WellAll P h vals args):
  ∃a vs ns,vals=[Value.ref a]/\args=[WData.list (ns.map WData.int)]/\h.get? a=some { cls:=.type "list",data:=.seq vs.toArray }/\IntsAre vs ns/\ns.length<=n:=by
 have U:WShape.hasAll [] args [.list .int]=true:=(pre_splitW G).1;have hc:l.pre.holds [] { args:=args }=true:=(pre_splitW G).2;obtain⟨d,r,rfl,h1,h2⟩:=hasAllW_cons U;obtain rfl:=hasAllW_nil h2;obtain⟨xs,rfl,h3⟩:=hasW_list h1;obtain⟨ns,rfl⟩:=items_int h3;have M:ns.length<=n:=by
  unfold OpenLaw.pre at hc;have h4:(WTm.not (.lt (.lit (.int (n:Int))) (.len (.arg 0)))).holds [] { args:=[.list (ns.map .int)] }=true:=by
   have h4:=(holds_andW hc).1;rw[hn]at h4;exact h4
  have h5:=condW_of h4 (w_not (w_lt w_lit (w_len_list (w_arg rr))));simp_all
 cases T with
 |cons b c=>
  cases c
  cases b with
  |list ho O=>exact⟨_,_,ns,rr,rr,ho,qH ns _ O,M⟩
def EQ (l:OpenLaw)(args:List WData):l.row.toRowW.claim.post args (.bool true) args=true :=
 postW_of (r:=l.row.toRowW) (X:=(true == true))
  (show WShape.has [] (.bool true) .bool=true by rfl)
  (show(WTm.eq .res (.lit (.bool true))).value [] { args:=args,res:=some (.bool true),after:=args }=some (.bool (true == true))from w_eq_bool (w_res rr) w_lit) rr
section
variable {prog:Program}{w:World}{A:Around}{E:QV}{s:Shared}{K:Frag}
end
end Att
namespace L2
open PySem PySem.Spec PyProof.Rows
theorem iB:∀ {vs:LU}{ns:LI},IntsAre vs ns->bi (ns.map V.int) vs
 |_,_,.nil=>.nil
 |_,_,.cons n t h=>.cons ⟨t,rr⟩ (iB h)
noncomputable def eC (s:Stmt):Arguments:=match s with
 |.FunctionDef _ a _ _ _ _ _ _ _ _=>a
 |_=>{ posonlyargs:=[],args:=[],vararg:=none,kwonlyargs:=[],kw_defaults:=[],kwarg:=none,defaults:=[] }
noncomputable def ca (s:Stmt):List Stmt:=match s with
 |.FunctionDef _ _ b _ _ _ _ _ _ _=>b
 |_=>[]
noncomputable def aJ (s:Stmt):Scope:=match s with
 |.FunctionDef _ _ _ _ _ _ sc _ _ _=>sc
 |_=>{ kind:=.function,names:=[],isGenerator:=false,isCoroutine:=false }
abbrev yL:Ko:=λ_ _ _ _ _ _=>False
abbrev E0:XK:=λ_ _ _=>False
def MU:By yL X E0:=λ_ _ _ _ _ _ _ h=>h.elim
structure Qb (K:Frag)(x qual:Str)(st:Stmt)(f:Addr)(fd:FuncData):Prop where
 ex:∃(oc:Value)(od:Option Addr)(kV doc pm:Value)(an:Option Addr)(dG ct:Value)(ma:Array (Option Value)),
  fd=fnOf x qual (eC st) (ca st) (aJ st) .none kV doc pm an dG ct/\K.lookup f=some ⟨oc,od,.func fd,ma⟩/\PySem.W.codeIn K dG qual=true
 kp:PySem.W.keepIn K (.ref f)=true
section
variable {P:Program}{w:World}{K:Frag}{mg:SV}{base:Heap}
def Qb.ok {x qual:Str}{st:Stmt}{f:Addr}{fd:FuncData}{N ps:LS}{k:Nat}{sp:Sp}(F:Qb K x qual st f fd)(S:FnScope N ps (aJ st))(len:∀vs H Q E,sp vs H Q E->vs.length=ps.length)
  (G:∀(dG:Value)(A:Around)(outer:List Env)(s:Shared)(H:Hp)(vs:List V)(Q:VK)(E:XK),ft k (A.deeper (envOfC qual (aJ st) s.heap.objs.size f dG))->sp vs H Q E ->
   ∃t,uC (oM yL P w K mg base N qual (aJ st) f dG A outer s H E).nox (ca st) t/\t { nx:=λ_ H'=>Q .non H',rt:=Q } (mn N vs) H):oE P w K mg base yL (k+1) f fd ps sp:=by
 obtain⟨oc,od,kV,doc,pm,an,dG,ct,ma,rfl,T,M⟩:=F.ex;refine G0 T M S len λA outer s H vs Q E U O=>?_;obtain⟨t,h,q⟩:=G dG A outer s H vs Q E U O;exact⟨t,h.nox,q⟩
def Qb.binds {x qual:Str}{st:Stmt}{f:Addr}{fd:FuncData}{ps:LS}(F:Qb K x qual st f fd)
  (h:∀(kV doc pm:Value)(an:Option Addr)(dG ct:Value)(us:LU),us.length=ps.length->bindArgs (fnOf x qual (eC st) (ca st) (aJ st) .none kV doc pm an dG ct) ⟨us,[]⟩=pure (ps.zip us)):pQ K fd ps []:=by
 obtain⟨oc,od,kV,doc,pm,an,dG,ct,ma,rfl,M,G⟩:=F.ex;exact .all (h kV doc pm an dG ct)
def Ov {x qual:Str}{st:Stmt}{f:Addr}{oc:Value}{od an:Option Addr}{ma:Array (Option Value)}{kV doc pm dG ct:Value}(l:K.lookup f=some ⟨oc,od,.func (fnOf x qual (eC st) (ca st) (aJ st) .none kV doc pm an dG ct),ma⟩)
  (c:PySem.W.codeIn K dG qual=true) (k:PySem.W.keepIn K (.ref f)=true):Qb K x qual st f (fnOf x qual (eC st) (ca st) (aJ st) .none kV doc pm an dG ct):=⟨⟨oc,od,kV,doc,pm,an,dG,ct,ma,rr,l,c⟩,k⟩
end
def aX (H H':Hp):Prop:=∀b o,H b=some o->H' b=some o
def aX.refl (H:Hp):aX H H:=λ_ _ h=>h
def aX.trans (a:aX H G)(b:aX G H2):aX H H2:=λc o h=>b c o (a c o h)
def aX.free (e:aX H H')(h:H' l=Option.none):H l=Option.none:=by
 cases q:H l with
 |none=>rfl
 |some o=>
  rw[e l o q]at h;cases h
def aX.seq {K:Frag}{H H':Hp}{a:Addr}{xs:List V}(e:aX H H')(h:gB K H a xs):gB K H' a xs:=by
 rcases h with (h|⟨o,h⟩)|h
 .exact .inl (.inl (e _ _ h))
 .exact .inl (.inr ⟨o,e _ _ h⟩)
 .exact .inr h
section
variable {κ:Type}[DecidableEq κ]
noncomputable def kL (aL:List (κ×V))(k:κ):Option V:=(aL.find? λkv=>decide (kv.1=k)).map (·.2)
def oP (aL:List (κ×V))(k:κ)(v:V):List (κ×V) :=
 if(aL.any λkv=>decide (kv.1=k))=true then aL.map (λkv=>if kv.1=k then (kv.1,v)else kv)else aL++[(k,v)]
def nn {p:κ×V}{r:List (κ×V)}{k:κ}(e:p.1=k):kL (p::r) k=some p.2:=by simp[kL,e]
def no {p:κ×V}{r:List (κ×V)}{k:κ}(e:¬p.1=k):kL (p::r) k=kL r k:=by simp[kL,e]
theorem yW (k:κ):∀aL:List (κ×V),(aL.any λkv=>decide (kv.1=k))=(kL aL k).isSome
 |[]=>rr
 |p::r=>by
  rw[any_cons];by_cases e:p.1=k
  .simp_all[nn]
  .rw[no e,TK e];exact yW k r
def kR (aL:List (κ×V))(k:κ)(v:V):(oP aL k v).length<=aL.length+1:=by
 grind[oP]
def md.isSome_eq (r:md o u):o.isSome=u.isSome:=by
 cases o with
 |none=>cases u with
  |none=>rfl
  |some _=>exact(show False from r).elim
 |some _=>cases u with
  |none=>exact(show False from r).elim
  |some _=>rfl
def md.getD (r:md o u)(G:aU d d'):aU (o.getD d) (u.getD d'):=by
 cases o with
 |none=>cases u with
  |none=>exact G
  |some _=>exact(show False from r).elim
 |some _=>cases u with
  |none=>exact(show False from r).elim
  |some _=>exact r
def KV.val {aL:List (κ×V)}{vs:List (κ×Value)}(r:KV aL vs)(k:κ):md (kL aL k) (valueAt vs k):=by
 induction r with
 |nil=>exact True.intro
 |@cons p q ps G h t M=>
  obtain⟨h1,h2⟩:=h;by_cases e:p.1=k
  .have b:valueAt (q::G) k=some q.2:=by simp_all[valueAt]
   rw[nn e,b];exact h2
  simp_all[valueAt,no]
def KV.any (r:KV aL vs)(k:κ):(aL.any λkv=>decide (kv.1=k))=vs.any λkv=>decide (kv.1=k):=by
 induction r with
 |nil=>rfl
 |cons h t G=>simp_all
def KV.repl (r:KV aL vs)(k:κ)(M:aU y u):
  KV (aL.map λkv=>if kv.1=k then (kv.1,y)else kv) (vs.map λkv=>if kv.1=k then (kv.1,u)else kv):=by
 induction r with
 |nil=>exact .nil
 |@cons p q ps O h t G=>
  rw[uX];refine .cons ?_ G;split<;>simp_all
def KV.put (r:KV aL vs)(k:κ)(G:aU y u):KV (oP aL k y) (stored vs k u):=by
 unfold oP stored;rw[r.any k];by_cases e:(vs.any λkv=>decide (kv.1=k))=true
 .rw[if_pos e,if_pos e];exact r.repl k G
 .rw[if_neg e,if_neg e];exact Paired.snoc r ⟨rr,G⟩
def KV.length (r:KV aL vs):aL.length=vs.length:=Paired.length r
end
def rm (r:aU (kV k) u):(dv P w).is k u=true:=by
 cases k with
 |inl i=>obtain⟨t,e⟩:=(show ∃t,u=Value.int i t from r);simp_all[yO]
 |inr x=>obtain⟨t,e⟩:=(show ∃t,u=Value.str x t from r);simp_all[yP]
theorem vt:∀ {ks:List fG}{us:LU},bi (ks.map kV) us->ItemsAre (dv P w) ks us
 |[],_,r=>by cases r;exact .nil
 |k::ks,_,r=>by
  cases r with
  |cons h t=>exact .cons (rm h) (vt t)
abbrev KT (H:Hp):List (List fG×V)->List (List fG×Addr×Value)->Prop:=Paired λp q=>p.1=q.1/\H q.2.1=some (.tup (p.1.map kV))/\aU p.2 q.2.2
def KT.val {H:Hp}{aL:List (List fG×V)}{xs:List (List fG×Addr×Value)}(r:KT H aL xs)(k:List fG):md (kL aL k) ((atKey xs k).map (·.2)):=by
 induction r with
 |nil=>exact True.intro
 |@cons p q ps G h t O=>
  obtain⟨h1,_,h2⟩:=h;by_cases e:p.1=k
  .have M :=h1.symm.trans e;have b:atKey (q::G) k=some q.2:=by simp[atKey,M]
   rw[nn e,b];exact h2
  simp_all[atKey,no]
def KT.repl (r:KT H aL xs)(k:List fG)(M:aU y u):
  KT H (aL.map λkv=>if kv.1=k then (kv.1,y)else kv) (xs.map (putAt k u)):=by
 induction r with
 |nil=>exact .nil
 |@cons p q ps O h t G=>
  refine .cons ?_ G;unfold putAt;split<;>simp_all
def KT.put (r:KT H aL xs)(k:List fG)(hb:H b=some (.tup (k.map kV)))(G:aU y u):
  KT H (oP aL k y) (storedH xs k b u):=by
 have e:(aL.any λkv=>decide (kv.1=k))=(atKey xs k).isSome:=by
  rw[yW,(r.val k).isSome_eq,Option.isSome_map]
 unfold oP storedH;rw[e];by_cases q:(atKey xs k).isSome=true
 .rw[if_pos q,if_pos q];exact r.repl k G
 .rw[if_neg q,if_neg q];exact Paired.snoc r ⟨rr,hb,G⟩
def KT.keeps (r:KT H aL xs)(G:∀b ys,H b=some (.tup ys)->H' b=some (.tup ys)):KT H' aL xs :=
 Paired.mapP r λ_ _ z=>⟨z.1,G _ _ z.2.1,z.2.2⟩
section
variable {P:Program}{w:World}{H:Hp}{h:Heap}{a:Addr}
def MV (ok:me P w H h)(e:Rd H a u):bJ P w H h a u:=e.ok ok
def B6 (ok:me P w H h)(e:H a=some (.dK aL ob)):h.get? a=some ob:=And.left (show bJ P w H h a _ from ok a _ e)
def ro (ok:me P w H h)(e:Rd H a (.dK aL ob)):aL.length<=sizeLine/\(a == sysModules)=false/\∃vs,KV aL vs/\h.DictOf (dv P w) a vs :=
 And.right (show bJ P w H h a _ from MV ok e)
def rq (ok:me P w H h)(e:H a=some (.dK aL ob)):aL.length<=sizeLine/\(a == sysModules)=false/\∃vs,KV aL vs/\h.DictOf (dv P w) a vs:=ro ok (.inl e)
theorem oQ (ok:me P w H h)(e:H a=some (.tup (ks.map kV))):(tupleKind (dv P w)).is h ks a:=by
 obtain⟨_,its,r,o,h1,h2,n,h3⟩:=(show bJ P w H h a _ from ok a _ e);exact⟨o,its.toArray,n,h1,h2,h3,by simpa using vt r⟩
def rz (ok:me P w H h)(e:Rd H a (.dT aL)):aL.length<=sizeLine/\(a == sysModules)=false /\
  ∃xs,KT H aL xs/\h.DictOfH (tupleKind (dv P w)) a xs:=by
 obtain⟨z,y,xs,r,o,es,G,h1,h2,h3,h4,h5⟩:=(show bJ P w H h a _ from MV ok e);refine⟨z,y,xs,r,o,es,G,h1,h2,h3,h4,λx hx=>?_,h5⟩;have all:∀ {l:List _}{m:List _},KT H l m->∀x∈m,(tupleKind (dv P w)).is h x.1 x.2.1:=by
  intro l m q;induction q with
  |nil=>intro x hx;exact nomatch hx
  |@cons p q ps M hq t O=>
   grind[oQ]
 exact all r x hx
def Rp (ok:me P w H h)(e:H a=some (.dT aL)):aL.length<=sizeLine/\(a == sysModules)=false /\
  ∃xs,KT H aL xs/\h.DictOfH (tupleKind (dv P w)) a xs:=rz ok (.inl e)
end
def r6 (H:Hp)(a:Addr)(y:V)(r:Option V):Prop :=
 (∃aL k ob,Rd H a (.dK aL ob)/\y=kV k/\r=kL aL k)\/∃aL k b,Rd H a (.dT aL)/\y=.ref b/\H b=some (.tup (k.map kV))/\r=kL aL k
def Rr (H:Hp)(a:Addr)(y v:V)(Q:Hp->Prop):Prop :=
 (∃aL k ob,H a=some (.dK aL ob)/\y=kV k/\aL.length<sizeLine/\∀G,Q (upd H a (.dK (oP aL k v) G))) \/
 ∃aL k b,H a=some (.dT aL)/\y=.ref b/\H b=some (.tup (k.map kV))/\aL.length<sizeLine/\Q (upd H a (.dT (oP aL k v)))
def r6.t (e:H a=some (.dT aL))(G:H b=some (.tup (k.map kV))):r6 H a (.ref b) (kL aL k):=.inr ⟨aL,k,b,.inl e,rr,G,rr⟩
section
variable {X:Cx}{ak:AO}{σ:St}{H:Hp}{s:Shared}{a:Addr}{y v:V}{u r:Value}{o:Option V}{A:Around}{E:QV}
def Inv.big (I:Inv X ak σ H s):sysModules<s.heap.objs.size:=by
 have h :=(I.mod.glob.keeps I.bk).lt;exact Nat.lt_trans Z9 h
def ER (hu:A.units+1<cLine)(I:Inv X ak σ H s)(g:r6 H a y (some v))(c:aU y u)(h:∀O s',Inv X ak σ H s'->aU v O->Q O s'):
  wpAny (model X.prog X.w) A (getItem (.ref a) u) Q E s:=by
 rcases g with⟨aL,k,ob,e,T,l⟩|⟨aL,k,b,e,T,d,l⟩
 .subst T;obtain⟨z,hd,vs,G,dd⟩:=ro I.hok e;obtain⟨O,hw,M⟩:=md.some_of   (by rw[l];exact G.val k);exact wpAny_getItem_of (rm c) dd.mapOf hw (h O _ (I.tok _) M)
 .subst T;cases (show u=Value.ref b from c)
  obtain⟨z,hd,xs,G,dd⟩:=rz I.hok e;obtain⟨O,hw,M⟩:=md.some_of   (by rw[l];exact G.val k);obtain⟨p,hp,U⟩:=oY hw;refine wpAny_getItem_heap (tupleKind_room_in1 hu) (oQ I.hok d) dd hp ?_;rw[U];exact h O _ (I.tok _) M
def Ur (hu:A.units+1<cLine)(I:Inv X ak σ H s)(g:r6 H a y o)(O:aU y u)(h:∀s',Inv X ak σ H s'->Q (.bool o.isSome) s'):
  wpAny (model X.prog X.w) A (compareOp .In u (.ref a)) Q E s:=by
 rcases g with⟨aL,k,ob,e,M,l⟩|⟨aL,k,b,e,M,T,l⟩
 .subst M;obtain⟨z,hd,vs,G,dd⟩:=ro I.hok e;refine wpAny_in_of (rm O) hd dd.mapOf ?_;rw[<-(G.val k).isSome_eq,<-l];exact h _ (I.tok _)
 .subst M;cases (show u=Value.ref b from O)
  obtain⟨z,hd,xs,G,dd⟩:=rz I.hok e;refine wpAny_in_heap (tupleKind_room_in1 hu) (oQ I.hok T) hd dd ?_;have q:=(G.val k).isSome_eq;rw[Option.isSome_map]at q;rw[<-q,<-l];exact h _ (I.tok _)
def K1 (hu:A.units+1<cLine)(I:Inv X ak σ H s)(g:r6 H a y o)(O:aU y u)(h:∀s',Inv X ak σ H s'->Q (.bool (!o.isSome)) s'):
  wpAny (model X.prog X.w) A (compareOp .NotIn u (.ref a)) Q E s:=by
 rcases g with⟨aL,k,ob,e,M,l⟩|⟨aL,k,b,e,M,T,l⟩
 .subst M;obtain⟨z,hd,vs,G,dd⟩:=ro I.hok e;refine wpAny_notIn_of (rm O) hd dd.mapOf ?_;rw[<-(G.val k).isSome_eq,<-l];exact h _ (I.tok _)
 .subst M;cases (show u=Value.ref b from O)
  obtain⟨z,hd,xs,G,dd⟩:=rz I.hok e;refine wpAny_notIn_heap (tupleKind_room_in1 hu) (oQ I.hok T) hd dd ?_;have q:=(G.val k).isSome_eq;rw[Option.isSome_map]at q;rw[<-q,<-l];exact h _ (I.tok _)
def xG (I:Inv X ak σ H s)(G:QA (H a))(hs:Heap.SameBut a s.heap h')(he:∃q,h'.get? a=some q)(new:bJ X.prog X.w (upd H a ob) h' a ob):
  Inv X ak σ (upd H a ob) { s with heap:=h',toks:=t' } :=
 I.write   G (.inl rr) (λb q hb z=>(hs.2 b hb).trans z) he new
def GA (z:aL.length<=sizeLine)(hd:(a == sysModules)=false)(G:KV aL vs)(dd:h'.DictOf (dv P w) a vs)(M:h'.get? a=some ob):
  bJ P w H' h' a (.dK aL ob):=⟨M,z,hd,vs,G,dd⟩
def ES (hu:A.units+1<cLine)(I:Inv X ak σ H s)(g:Rr H a y v R)(U:aU y u)(d:aU v r)(h:∀H' s',R H'->Inv X ak σ H' s'->Q () s'):
  wpAny (model X.prog X.w) A (setItem (.ref a) u r) Q E s:=by
 rcases g with⟨aL,k,ob,e,O,l,T⟩|⟨aL,k,b,e,O,f,l,T⟩
 .subst O;obtain⟨z,hd,vs,G,dd⟩:=rq I.hok e;have hz:vs.length<=sizeLine:=by rw[<-G.length];exact z
  have hl:(oP aL k v).length<=sizeLine:=by have:=kR aL k v;lia
  refine wpAny_setItem_pairs (hsz:=hz) (rm U) dd λh' M hs=>?_;obtain⟨q,hq⟩:∃q,h'.get? a=some q:=let ⟨q,_,_,hq,_⟩:=M;⟨q,hq⟩;exact h _ _ (T q) (xG I (by rw[e];exact True.intro) hs ⟨q,hq⟩ (GA hl hd (G.put k d) M hq))
 .subst O;cases (show u=Value.ref b from U)
  obtain⟨z,hd,xs,G,dd⟩:=Rp I.hok e;have hz:xs.length<=sizeLine:=by rw[<-Paired.length G];exact z
  have hl:(oP aL k v).length<=sizeLine:=by have:=kR aL k v;lia
  refine wpAny_setItem_heap (hsz:=hz) (tupleKind_room_in1 hu) (oQ I.hok f) dd λh' M hs=>h _ _ T ?_;obtain⟨q,es,j,hq,h2,h3,h4,_,h5⟩:=M;refine xG I (by rw[e];exact True.intro) hs ⟨q,hq⟩ ⟨hl,hd,_,(G.put k f d).keeps λc ys i=>?_,q,es,j,hq,h2,h3,h4,h5⟩;rw[aH (Q9 i e (λz=>nomatch z))];exact i
end
def Ow (i:Expr):Prop:=∀G iv,subscripted i false G iv=operate [G,iv] (getItem G iv)
def K2 {prog:Program}{w:World}{A:Around}{E:QV}{s:Shared}{env:Env}{M G:Expr}{e:Pos}{T id:String}{Q:QV}
  (hl:typeLookup (.type T) "__getitem__" = pure (some (.builtin id))) (hs:Ow G)
  (h:wpAny (model prog w) A (eval M env) (λo a=>wpAny (model prog w) A (eval G env) (λi O=>O.TypeIs o T/\wpAny (model prog w) A (getItem o i) Q E O) E a) E s):
  wpAny (model prog w) A (eval (.Subscript M G e) env) Q E s:=by
 refine Subscript_ (wpAny_mono h (λo a c=>wpAny_mono c (λi O U=>?_) λ_ _ x=>x) λ_ _ x=>x);obtain⟨f,U⟩:=U;refine wX ?_;refine wX (wpAny_specialOf f hl ?_);have ii:wpAny (model prog w) A (subscripted G false o i) (λr b=>wpAny (model prog w) A (letTemporaryGo M o r>>=λ_=>pure r) Q E b) E O:=by
  rw[hs o i];exact wpAny_operating (wpAny_mono U (λr b d=>wX (wpAny_letTemporaryGo (wY d))) λ_ _ x=>x)
 first
  |exact wY (wX ii)
  |exact wX _
  |exact wX _
def yX (I:Inv X ak σ H s)(g:r6 H a y o):s.TypeIs (.ref a) "dict":=by
 rcases g with⟨aL,k,G,e,_,_⟩|⟨aL,k,b,e,_,_,_⟩
 .obtain⟨_,_,vs,_,dd⟩:=ro I.hok e;exact dd.typeIs
 .obtain⟨_,_,xs,_,dd⟩:=rz I.hok e;exact dd.typeIs
def Rt (G ty:TE):TE:=λσ H Q=>G σ H λx M=>ty σ M λy H2=>∃a v,x=.ref a/\r6 H2 a y (some v)/\Q v H2
def Us (ty G:TE):TE:=λσ H Q=>ty σ H λy M=>G σ M λx H2=>∃a o,x=.ref a/\r6 H2 a y o/\Q (.bl o.isSome) H2
def K3 (ty G:TE):TE:=λσ H Q=>ty σ H λy M=>G σ M λx H2=>∃a o,x=.ref a/\r6 H2 a y o/\Q (.bl (!o.isSome)) H2
def CU (G ty M:TE):TS:=λD σ H=>M σ H λv O=>G σ O λx H2=>ty σ H2 λy T=>∃a,x=.ref a/\Rr T a y v (D.nx σ)
section
variable {X:Cx}{o i e value:Expr}{pos JN PY:Pos}{td ty tv:TE}
def K4 (hu:X.A.units+1<cLine)(ho:PE X o td)(hi:PE X i ty)(hs:Ow i):PE X (.Subscript o i pos) (Rt td ty):=by
 intro ak s σ H Q I h;refine K2 PySem.F.slot_dict_getitem.lookup hs (cu (ho _ s σ H _ I h) λu s1 ⟨x,O,T,U,b⟩=>cu (hi _ s1 σ O _ T b) λiv s2 ⟨y,H2,M,c,a,v,ex,g,d⟩=>?_);subst ex;obtain rfl:u=Value.ref a:=U;exact⟨yX M g,ER hu M g c λj k f G=>⟨v,H2,f,G,d⟩⟩
def Ox (hu:X.A.units+1<cLine)(hi:PE X i ty)(ho:PE X o td):PC X .In i o (Us ty td):=by
 intro ak s σ H Q I h;refine cu (hi _ s σ H _ I h) λiv s1 ⟨y,G,M,O,T⟩=>cu (ho _ s1 σ G _ M T) λu s2 ⟨x,H2,U,b,a,f,ex,g,c⟩=>?_;subst ex;obtain rfl:u=Value.ref a:=b;exact Ur hu U g O λj d=>⟨.bl _,H2,d,rr,c⟩
def ET (hu:X.A.units+1<cLine)(hi:PE X i ty)(ho:PE X o td):PC X .NotIn i o (K3 ty td):=by
 intro ak s σ H Q I h;refine cu (hi _ s σ H _ I h) λiv s1 ⟨y,G,M,O,T⟩=>cu (ho _ s1 σ G _ M T) λu s2 ⟨x,H2,U,b,a,f,ex,g,c⟩=>?_;subst ex;obtain rfl:u=Value.ref a:=b;exact K1 hu U g O λj d=>⟨.bl _,H2,d,rr,c⟩
def xH (hu:X.A.units+1<cLine)(ho:PE X o td)(hi:PE X i ty)(G:PE X value tv)(hs:swapsWith value (some (.Subscript o i JN)) pos.line X.env=pure false):
  PS X (.Assign [.Subscript o i JN] value pos) (CU td ty tv):=by
 intro ak s σ H D I h;refine wpAny_Assign_Subscript (cu (G _ s σ H _ I h) λr s1 ⟨v,M,O,T,U⟩=>cu (ho _ s1 σ M _ O U) λu s2 ⟨x,H2,b,c,d⟩=>cu (hi _ s2 σ H2 _ b d) λiv n ⟨y,p,f,j,a,ex,g⟩=>?_) hs;subst ex;obtain rfl:u=Value.ref a:=c;exact ES hu f g j T λk q l m=>⟨σ,k,m,l⟩
end
def yY (h:Heap)(hb:sysModules<h.objs.size):bJ P w H (h.push { cls:=.type "dict",data:=.dict #[] }) h.objs.size (.dK [] { cls:=.type "dict",data:=.dict #[] }) :=
 ⟨vY _ rr,uM _,beq_eq_false_iff_ne.mpr (Ne.symm (vS hb)),[],.nil,Heap.DictOf.new h⟩
def GB (h:Heap)(hb:sysModules<h.objs.size):bJ P w H (h.push { cls:=.type "dict",data:=.dict #[] }) h.objs.size (.dT []) :=
 ⟨uM _,beq_eq_false_iff_ne.mpr (Ne.symm (vS hb)),[],.nil,_,#[],0,vY _ rr,⟨rr,rr,rr⟩,rr,rr,nodup_nil⟩
def GC:TE:=λ_ H Q=>∀p ob,H p=none->Q (.ref p) (upd H p (.dK [] ob))
def GD:TE:=λ_ H Q=>∀p,H p=none->Q (.ref p) (upd H p (.dT []))
section
variable {X:Cx}{pos:Pos}
def GF:PE X (.Dict [] [] pos) GC:=λak s σ H Q I h=>
 wpAny_Dict_empty ⟨.ref _,_,I.laid    (λ_ _ q=>vZ _ q) (vT _) (yY _ I.big),rr,h _ _ (I.hok.fresh (vT _))⟩
def GG:PE X (.Dict [] [] pos) GD:=λak s σ H Q I h=>
 wpAny_Dict_empty ⟨.ref _,_,I.laid    (λ_ _ q=>vZ _ q) (vT _) (GB _ I.big),rr,h _ (I.hok.fresh (vT _))⟩
end
structure M1 (X:Cx)(o:Expr)(m:Str)(dn:Pos)(e:Expr)(cf:Pos):Prop where
 base:attributeBase o m X.env (eval o X.env)=eval o X.env
 few:((backTo cf (starEach [e] X.env)).all (λx=>!x.1) && (backToKw cf (keywordEach [] X.env)).all (λx=>x.1.isSome)
  && decide (([e]:List Expr).length+([]:List Keyword).length+(if([]:List Keyword).isEmpty then 0 else 1)<30))=true
 line:(dn.endLine == cf.line)=true
 trees:backTo cf (starEach [e] X.env)=[(false,eval e X.env)]
def Wn (H:Hp)(a:Addr):Prop:=(∃aL ob,Rd H a (.dK aL ob))\/∃aL,Rd H a (.dT aL)
def Oy (I:Inv X ak σ H s)(d:Wn H a):
  s.TypeIs (.ref a) "dict"/\(∀b,Value.ref a=.ref b->∃ob,s.heap.get? b=some ob/\ob.dict=none)/\(a == sysModules)=false:=by
 rcases d with⟨aL,G,e⟩|⟨aL,e⟩
 .obtain⟨_,hd,vs,_,dd⟩:=ro I.hok e;refine⟨dd.typeIs,λb q=>?_,hd⟩;cases q
  obtain⟨ob,_,_,h1,h2,_⟩:=dd;exact⟨ob,h1,h2.2.1⟩
 .obtain⟨_,hd,xs,_,dd⟩:=rz I.hok e;refine⟨dd.typeIs,λb q=>?_,hd⟩;cases q
  obtain⟨ob,_,_,h1,h2,_⟩:=dd;exact⟨ob,h1,h2.2.1⟩
section
variable {X:Cx}{ak:AO}{σ:St}{H:Hp}{s:Shared}{a:Addr}{y d:V}{u r:Value}{o:Option V}{A:Around}{E:QV}
def Oz (hu:A.units+1<cLine)(I:Inv X ak σ H s)(g:r6 H a y o)(O:aU y u)(h:∀T s',Inv X ak σ H s'->aU (o.getD .non) T->Q T s'):
  wpAny (model X.prog X.w) A (call (.builtin "dict.get") [.ref a,u]) Q E s:=by
 rcases g with⟨aL,k,ob,e,M,l⟩|⟨aL,k,b,e,M,U,l⟩
 .subst M;obtain⟨z,hd,vs,G,dd⟩:=ro I.hok e;refine call_meetsIn slot_dict_get dd.typeIs entry_dict_get (PySem.F.args_dict_get_2 _ _) (meets_dict_get _ a (rm O) hd) ⟨_,dd.mapOf,h _ _ (I.tok _) ?_⟩;rw[l];exact(G.val k).getD rr
 .subst M;cases (show u=Value.ref b from O)
  obtain⟨z,hd,xs,G,dd⟩:=rz I.hok e;refine call_meetsIn slot_dict_get dd.typeIs entry_dict_get (PySem.F.args_dict_get_2 _ _) (meetsH_dict_get _ a b hd) ⟨tupleKind_room_in1 hu,k,xs,oQ I.hok U,dd,h _ _ (I.tok _) ?_⟩;rw[l];exact(G.val k).getD rr
end
def O0 (M ty:TE):TE:=λσ H Q=>M σ H λx G=>∃a,x=.ref a/\Wn G a/\ty σ G λy H2=>∃o,r6 H2 a y o/\Q (o.getD .non) H2
section
variable {X:Cx}{o e f:Expr}{dn cf:Pos}{td ty tx:TE}
def yZ (hu:X.A.units+1<cLine)(ho:PE X o td)(he:PE X e ty)(m:M1 X o "get" dn e cf):PE X (.Call (.Attribute o "get" dn) [e] [] cf) (O0 td ty):=by
 intro ak s σ H Q I h;refine wpAny_Call_method m.base m.few m.line plainAttrs_dict slot_dict_get PySem.F.type_dict_get (cu (ho _ s σ H _ I h) λu s1 ⟨x,O,M,T,a,ex,d,U⟩=>?_);subst ex;obtain rfl:u=Value.ref a:=T;obtain⟨b,c,_⟩:=Oy M d;refine⟨b,c,?_⟩;rw[m.trees];refine Calls.callWith_builtin rr (Calls.evalArgs_plain (Calls.spliced_cons (cu (he _ s1 σ O _ M U) λiv s2 ⟨y,H2,i,j,n,g,k⟩=>Calls.spliced_nil ?_)));exact Oz hu i g j λp q l G=>⟨_,H2,l,G,k⟩
end
end L2
namespace DL
open PySem L2
abbrev St:=L2.St
inductive D where
 |non|bl (b:Bool)|int (i:Int)|str (x:Str)|ty (n:String)|tup (ds:List D)|lst (ds:List D)
  |dk (ks:List fG) (vs:List D)|dt (ks:List (List fG)) (vs:List D)
abbrev LD:=List D
abbrev LV:=List V
abbrev LK:=List fG
abbrev OB:=Option (D×Bool)
mutual
inductive Is (K:Frag)(H:Hp):V->D->Prop where
 |non:Is K H .non .non
 |bl (b:Bool):Is K H (.bl b) (.bl b)
 |int (i:Int):Is K H (.int i) (.int i)
 |str (x:Str):Is K H (.str x) (.str x)
 |ty (n:String):Is K H (.ty n) (.ty n)
 |tup {a:Addr}{vs:List V}{ds:List D}(h:jf K H a vs) (hs:IsL K H vs ds):Is K H (.ref a) (.tup ds)
 |lst {a:Addr}{vs:List V}{ds:List D}(h:gB K H a vs) (hs:IsL K H vs ds):Is K H (.ref a) (.lst ds)
 |dk {a:Addr}{ks:List fG}{vs:List V}{ds:List D}{ob:Obj}(h:H a=some (.dK (ks.zip vs) ob)) (hl:ks.length=vs.length) (hs:IsL K H vs ds):Is K H (.ref a) (.dk ks ds)
 |dt {a:Addr}{ks:List (List fG)}{vs:List V}{ds:List D}(h:H a=some (.dT (ks.zip vs))) (hl:ks.length=vs.length) (hs:IsL K H vs ds):Is K H (.ref a) (.dt ks ds)
inductive IsL (K:Frag)(H:Hp):List V->List D->Prop where
 |nil:IsL K H [] []
 |cons {v:V}{d:D}{vs:List V}{ds:List D}(h:Is K H v d) (hs:IsL K H vs ds):IsL K H (v::vs) (d::ds)
end
mutual
def bf:D->Bool
 |.lst _=>false
 |.dk _ _=>false
 |.dt _ _=>false
 |.tup ds=>bB ds
 |_=>true
def bB:LD->Bool
 |[]=>true
 |d::ds=>bf d && bB ds
end
@[simp] def Qm:bf .non=true:=by simp only[bf]
@[simp] def Ru (b:Bool):bf (.bl b)=true:=by simp only[bf]
@[simp] def Qn (i:Int):bf (.int i)=true:=by simp only[bf]
@[simp] def Qo (x:Str):bf (.str x)=true:=by simp only[bf]
@[simp] def Rv (x:String):bf (.ty x)=true:=by simp only[bf]
@[simp] def Qp (ds:LD):bf (.tup ds)=bB ds:=by rw[bf]
@[simp] def Qq (ds:LD):bf (.lst ds)=false:=by rw[bf]
@[simp] def Rw (ks:LK)(ds:LD):bf (.dk ks ds)=false:=by rw[bf]
@[simp] def Rx (ks:List LK)(ds:LD):bf (.dt ks ds)=false:=by rw[bf]
@[simp] def O1:bB []=true:=by rw[bB]
@[simp] def MW (d:D)(ds:LD):bB (d::ds)=(bf d && bB ds):=by rw[bB]
section
variable {K:Frag}{H H':Hp}
mutual
theorem Is.keep (G:∀a vs,jf K H a vs->jf K H' a vs)(M:∀a vs,gB K H a vs->gB K H' a vs)(O:∀a aL ob,H a=some (.dK aL ob)->H' a=some (.dK aL ob))(T:∀a aL,H a=some (.dT aL)->H' a=some (.dT aL)):∀ {v:V}{d:D},Is K H v d->Is K H' v d
 |_,_,.non=>.non
 |_,_,.bl b=>.bl b
 |_,_,.int i=>.int i
 |_,_,.str x=>.str x
 |_,_,.ty x=>.ty x
 |_,_,.tup h hs=>.tup (G _ _ h) (IsL.keep G M O T hs)
 |_,_,.lst h hs=>.lst (M _ _ h) (IsL.keep G M O T hs)
 |_,_,.dk h hl hs=>.dk (O _ _ _ h) hl (IsL.keep G M O T hs)
 |_,_,.dt h hl hs=>.dt (T _ _ h) hl (IsL.keep G M O T hs)
theorem IsL.keep (G:∀a vs,jf K H a vs->jf K H' a vs)(M:∀a vs,gB K H a vs->gB K H' a vs)(O:∀a aL ob,H a=some (.dK aL ob)->H' a=some (.dK aL ob))(T:∀a aL,H a=some (.dT aL)->H' a=some (.dT aL)):∀ {vs:LV}{ds:LD},IsL K H vs ds->IsL K H' vs ds
 |_,_,.nil=>.nil
 |_,_,.cons h hs=>.cons (Is.keep G M O T h) (IsL.keep G M O T hs)
end
mutual
theorem Is.keepT (G:∀a vs,jf K H a vs->jf K H' a vs):∀ {v:V}{d:D},Is K H v d->bf d=true->Is K H' v d
 |_,_,.non,_=>.non
 |_,_,.bl b,_=>.bl b
 |_,_,.int i,_=>.int i
 |_,_,.str x,_=>.str x
 |_,_,.ty x,_=>.ty x
 |_,_,.tup h hs,n=>.tup (G _ _ h) (IsL.keepT G hs (by simpa using n))
 |_,_,.lst h hs,n=>by simp at n
 |_,_,.dk h hl hs,n=>by simp at n
 |_,_,.dt h hl hs,n=>by simp at n
theorem IsL.keepT (G:∀a vs,jf K H a vs->jf K H' a vs):∀ {vs:LV}{ds:LD},IsL K H vs ds->bB ds=true->IsL K H' vs ds
 |_,_,.nil,_=>.nil
 |_,_,.cons h hs,n=>by
  simp at n;exact .cons (Is.keepT G h n.1) (IsL.keepT G hs n.2)
end
def bu (e:aX H H')(h:jf K H a xs):jf K H' a xs:=by
 rcases h with (h|⟨o,h⟩)|h
 .exact .inl (.inl (e _ _ h))
 .exact .inl (.inr ⟨o,e _ _ h⟩)
 .exact .inr h
def Is.mono (h:Is K H v d)(e:aX H H'):Is K H' v d:=h.keep (λ_ _=>bu e) (λ_ _=>e.seq) (λ_ _ _ q=>e _ _ q) λ_ _ q=>e _ _ q
def IsL.mono (h:IsL K H v d)(e:aX H H'):IsL K H' v d:=h.keep (λ_ _=>bu e) (λ_ _=>e.seq) (λ_ _ _ q=>e _ _ q) λ_ _ q=>e _ _ q
theorem IsL.length:∀ {vs:LV}{ds:LD},IsL K H vs ds->vs.length=ds.length
 |_,_,.nil=>rr
 |_,_,.cons _ t=>congrArg _ t.length
theorem IsL.get:∀ {vs:LV}{ds:LD}{i:Nat}{d:D},IsL K H vs ds->ds[i]? = some d->∃v,vs[i]? = some v/\Is K H v d
 |_,_,_,_,.nil,e=>by simp at e
 |_,_,0,_,.cons h _,e=>by simp_all
 |_,_,i+1,d,.cons _ t,e=>by
  obtain⟨u,h1,h2⟩:=t.get   (by simpa using e);simp_all
theorem IsL.append:∀ {vs G:LV}{ds es:LD},IsL K H vs ds->IsL K H G es->IsL K H (vs++G) (ds++es)
 |_,_,_,_,.nil,s=>s
 |_,_,_,_,.cons r t,s=>.cons r (t.append s)
theorem IsL.take:∀ {vs:LV}{ds:LD}(n:Nat),IsL K H vs ds->IsL K H (vs.take n) (ds.take n)
 |_,_,0,_=>by simpa using IsL.nil
 |_,_,_+1,.nil=>.nil
 |_,_,n+1,.cons r t=>.cons r (t.take n)
theorem IsL.drop:∀ {vs:LV}{ds:LD}(n:Nat),IsL K H vs ds->IsL K H (vs.drop n) (ds.drop n)
 |_,_,0,r=>r
 |_,_,_+1,.nil=>.nil
 |_,_,n+1,.cons _ t=>t.drop n
theorem IsL.set (h:Is K H v d):∀ {vs:LV}{ds:LD}(i:Nat),IsL K H vs ds->IsL K H (vs.set i v) (ds.set i d)
 |_,_,_,.nil=>.nil
 |_,_,0,.cons _ t=>.cons h t
 |_,_,i+1,.cons r t=>.cons r (IsL.set h i t)
def IsL.flat {vs:LV}{ns:LI}(h:vs=ns.map V.int):IsL K H vs (ns.map D.int):=by
 subst h;induction ns with
 |nil=>exact .nil
 |cons n ns G=>exact .cons (.int n) G
end
structure Ext (B N H H':Hp):Prop where
 hh:aX H H'
 bn:aX B N
 nh:aX N H'
 new:∀a o,N a=some o->B a=some o\/H a=none
def Ext.refl (h:aX B H):Ext B B H H:=⟨.refl _,.refl _,h,λ_ _ e=>.inl e⟩
def Ext.trans (x:Ext B N H G)(y:Ext N N2 G H2):Ext B N2 H H2 :=
 ⟨x.hh.trans y.hh,x.bn.trans y.bn,y.nh,λa o e=>(y.new a o e).elim (λq=>x.new a o q) λq=>.inr (x.hh.free q)⟩
def Ext.laid (h:aX B H)(hp:H p=none):Ext B (upd B p o) H (upd H p o):=by
 have G :=h.free hp;refine⟨λa u e=>?_,λa u e=>?_,λa u e=>?_,λa u e=>?_⟩
 .grind[aH]
 .grind[aH]
 .by_cases q:a=p
  .simp_all[a6]
  .rw[aH q]at e |-;exact h _ _ e
 grind[aH]
def Ext.grow (h:aX B H)(hh:aX H H'):Ext B B H H':=⟨hh,.refl _,h.trans hh,λ_ _ e=>.inl e⟩
abbrev Env:=List OB
abbrev FE:=Env->OB
abbrev FA:=Env->Option LD
abbrev FT:=Env->Option Bool
def Qr (K:Frag)(H N:Hp)(v:V):D->Prop
 |.tup ds=>∃(a:Addr)(vs:LV),v=.ref a/\jf K N a vs/\IsL K N vs ds/\∀(i:Nat)(es:LD),ds[i]? = some (.lst es)->∃(b:Addr)(us:LV),vs[i]? = some (.ref b)/\H b=none/\N b=some (.lst us)/\IsL K N us es
 |d=>∃(a:Addr)(vs:LV)(ds:LD),v=.ref a/\d=.lst ds/\H a=none/\N a=some (.lst vs)/\IsL K N vs ds
def Qr.back (h:Qr K H' N v d)(e:aX H H'):Qr K H N v d:=by
 cases d
 case tup=>exact let ⟨a,vs,q,y,z,r⟩:=h;⟨a,vs,q,y,z,λi es g=>let ⟨b,us,g1,G,M⟩:=r i es g;⟨b,us,g1,e.free G,M⟩⟩
 all_goals exact let ⟨a,vs,ds,q,y,z,r⟩:=h;⟨a,vs,ds,q,y,e.free z,r⟩
noncomputable def np:LS:=["in_order","has_seal","is_first_death","bases_by","as_heard"]
noncomputable def uH (x:Str):Str:=x ++ ".<locals>." ++ "<lambda>"
def Tb (K:Frag)(B:Hp):Prop:=∀x∈np,∀c P,PySem.W.tabIn K x=some (c,P)->B P=some (.tbl (uH x))
def Tb.mono (h:Tb K B)(e:aX B G):Tb K G:=λx hx c P q=>e _ _ (h x hx c P q)
structure gz (K:Frag)(B:Hp)(σ:St)(ρ:Env):Prop where
 tb:Tb K B
 at':∀(i:Nat)(d:D)(b:Bool),ρ[i]? = some (some (d,b))->∃v,σ[i]? = some (some v)/\Is K B v d
def gz.mono (h:gz K B σ ρ)(e:aX B G):gz K G σ ρ:=⟨h.tb.mono e,λi d b q=>let ⟨v,h1,h2⟩:=h.at' i d b q;⟨v,h1,h2.mono e⟩⟩
def Fin (K:Frag)(B H:Hp)(d:D)(b:Bool)(Q:VK):Prop:=∀(v:V)(H' N:Hp),Ext B N H H'->Is K N v d->(b=true->Qr K H N v d)->Q v H'
def tD (K:Frag)(f:FE):TE:=λσ H Q=>∃(B:Hp)(ρ:Env)(d:D)(b:Bool),aX B H/\gz K B σ ρ/\f ρ=some (d,b)/\Fin K B H d b Q
def CV (K:Frag)(f:FT):TT:=λσ H Q=>∃(B:Hp)(ρ:Env)(c:Bool),aX B H/\gz K B σ ρ/\f ρ=some c/\∀H',aX H H'->Q c H'
def Qs (K:Frag)(f:FA):TA:=λσ H Q=>∃(B:Hp)(ρ:Env)(ds:LD),aX B H/\gz K B σ ρ/\f ρ=some ds/\∀(vs:LV)(H' N:Hp),Ext B N H H'->IsL K N vs ds->Q vs H'
def rD (K:Frag)(op:D->D->OB):R2:=λx y H Q=>∃(B:Hp)(dx G d:D)(b:Bool),aX B H/\Is K B x dx/\Is K B y G/\op dx G=some (d,b)/\Fin K B H d b Q
def Ut (K:Frag)(op:D->OB):V->Hp->VK->Prop:=λx H Q=>∃(B:Hp)(dx d:D)(b:Bool),aX B H/\Is K B x dx/\op dx=some (d,b)/\Fin K B H d b Q
def B7 (K:Frag)(op:LD->OB):LV->Hp->VK->Prop:=λxs H Q=>∃(B:Hp)(ds:LD)(d:D)(b:Bool),aX B H/\IsL K B xs ds/\op ds=some (d,b)/\Fin K B H d b Q
theorem Fin.one (h:Fin K B H d false Q)(s:aX B H)(i:Is K B v d):Q v H:=h v H B (.refl s) i X9
def Fin.into (h:Fin K B H d b Q)(x:Ext B N H M):Fin K N M d b Q:=λv H' N' y i G=>h v H' N' (x.trans y) i λe=>(G e).back x.hh
@[simp] noncomputable def fC (d:D):FE:=λ_=>some (d,false)
@[simp] noncomputable def aj (i:Nat):FE:=λρ=>match ρ[i]? with|some (some (d,_))=>some (d,false)|_=>none
@[simp] noncomputable def f2 (op:D->D->OB)(fa G:FE):FE:=λρ=>(fa ρ).bind λx=>(G ρ).bind λy=>op x.1 y.1
@[simp] noncomputable def f1 (op:D->OB)(fa:FE):FE:=λρ=>(fa ρ).bind λx=>op x.1
@[simp] noncomputable def ai:FA:=λ_=>some []
@[simp] noncomputable def af (fa:FE)(G:FA):FA:=λρ=>(fa ρ).bind λx=>(G ρ).bind λxs=>some (x.1::xs)
@[simp] noncomputable def fA (op:LD->OB)(fa:FA):FE:=λρ=>(fa ρ).bind op
def O2 (h:tD K (aj i) σ H Q):∃v,σ[i]? = some (some v)/\Q v H:=by
 obtain⟨B,ρ,d,b,s,r,e,q⟩:=h;unfold aj at e;split at e
 .rename_i d' b' G;cases e
  obtain⟨v,h1,h2⟩:=r.at' i _ _ G;exact⟨v,h1,q.one s h2⟩
 simp_all
def K5 (h:tD K (f2 op fa fb) σ H Q):tD K fa σ H λx O=>tD K fb σ O λy H2=>rD K op x y H2 Q:=by
 obtain⟨B,ρ,d,b,s,r,e,q⟩:=h;obtain⟨x,ex,e⟩:=oX e;obtain⟨y,T,e⟩:=oX e;refine⟨B,ρ,x.1,x.2,s,r,ex,λv O N G i1 _=>⟨N,ρ,y.1,y.2,G.nh,r.mono G.bn,T,λU H2 N2 M i2 _=>⟨N2,x.1,y.1,d,b,M.nh,i1.mono M.bn,i2,e,?_⟩⟩⟩;exact q.into (G.trans M)
def Uu (h:tD K (f1 op fa) σ H Q):tD K fa σ H λx G=>Ut K op x G Q:=by
 obtain⟨B,ρ,d,b,s,r,e,q⟩:=h;obtain⟨x,ex,e⟩:=oX e;exact⟨B,ρ,x.1,x.2,s,r,ex,λv G N M i1 _=>⟨N,x.1,d,b,M.nh,i1,e,q.into M⟩⟩
def K6 (h:tD K (fA op fa) σ H Q):Qs K fa σ H λxs G=>B7 K op xs G Q:=by
 obtain⟨B,ρ,d,b,s,r,e,q⟩:=h;obtain⟨x,ex,e⟩:=oX e;exact⟨B,ρ,x,s,r,ex,λv G N M i1=>⟨N,x,d,b,M.nh,i1,e,q.into M⟩⟩
def K7 (h:Qs K ai σ H Q):Q [] H:=by
 obtain⟨B,ρ,ds,s,r,e,q⟩:=h;cases e
 exact q [] H B (.refl s) .nil
def GH (h:Qs K (af fa U) σ H Q):tD K fa σ H λx M=>Qs K U σ M λxs H2=>Q (x::xs) H2:=by
 obtain⟨B,ρ,ds,s,r,e,q⟩:=h;obtain⟨x,ex,e⟩:=oX e;obtain⟨y,T,e⟩:=oX e;cases e
 exact⟨B,ρ,x.1,x.2,s,r,ex,λv M N G i1 _=>⟨N,ρ,y,G.nh,r.mono G.bn,T,λvs H2 N2 O i2=>q _ H2 N2 (G.trans O) (.cons (i1.mono O.bn) i2)⟩⟩
@[simp] noncomputable def aR (f:FE):FT:=λρ=>match f ρ with|some (.bl c,_)=>some c|_=>none
@[simp] noncomputable def eE (f g:FT):FT:=λρ=>match f ρ with|some true=>g ρ|some false=>some false|none=>none
@[simp] noncomputable def dz (f g:FT):FT:=λρ=>match f ρ with|some true=>some true|some false=>g ρ|none=>none
@[simp] noncomputable def bS (f:FT):FT:=λρ=>(f ρ).map (!·)
open Classical in
noncomputable def fw (H:Hp)(P:Addr->Prop):Hp:=λa=>if P a then none else H a
theorem df (h:¬P a):fw H P a=H a:=by unfold fw;rw[if_neg h]
theorem B8 (h:P a):fw H P a=none:=by unfold fw;rw[if_pos h]
theorem kT (h:fw H P a=some o):¬P a/\H a=some o:=by
 grind[B8,df]
def bT:aX (fw H P) H:=λ_ _ e=>(kT e).2
def fH (e:∀a o,H a=some o->¬P a->H' a=some o/\¬G a):aX (fw H P) (fw H' G):=λa o q=>by
 grind[kT,df]
noncomputable def join (N N':Hp):Hp:=λa=>match N a with|some o=>some o|none=>N' a
def fD:aX N (join N N'):=λa o e=>by unfold join;rw[e]
def fg (e:N a=none):join N N' a=N' a:=by unfold join;rw[e]
def own (σ:St)(ρ:Env)(a:Addr):Prop:=∃(i:Nat)(d:D),ρ[i]? = some (some (d,true))/\σ[i]? = some (some (V.ref a))
inductive Bx (K:Frag)(C:Hp):HO->D->Prop where
 |lst {vs:List V}{ds:List D}(h:IsL K C vs ds):Bx K C (.lst vs) (.lst ds)
 |dk {ks:List fG}{vs:List V}{ds:List D}(hl:ks.length=vs.length) (h:IsL K C vs ds) {ob:Obj}:Bx K C (.dK (ks.zip vs) ob) (.dk ks ds)
 |dt {ks:List (List fG)}{vs:List V}{ds:List D}(hl:ks.length=vs.length) (h:IsL K C vs ds):Bx K C (.dT (ks.zip vs)) (.dt ks ds)
def Bx.mono (h:Bx K C o d)(e:aX C G):Bx K G o d:=by
 cases h with
 |lst h=>exact .lst (h.mono e)
 |dk hl h=>exact .dk hl (h.mono e)
 |dt hl h=>exact .dt hl (h.mono e)
def Bx.is (h:Bx K C o d)(e:C a=some o):Is K C (.ref a) d:=by
 cases h with
 |lst h=>exact .lst (gB.of e) h
 |dk hl h=>exact .dk e hl h
 |dt hl h=>exact .dt e hl h
structure eI (K:Frag)(B0 H0 N H:Hp)(σ:St)(ρ:Env):Prop where
 bh:aX B0 H0
 tb:Tb K B0
 ext:Ext B0 N H0 H
 len:ρ.length=σ.length
 sh:∀(i:Nat)(d:D),ρ[i]? = some (some (d,false))->∃v,σ[i]? = some (some v)/\Is K (fw N (own σ ρ)) v d
 ow:∀(i:Nat)(d:D),ρ[i]? = some (some (d,true))->∃(a:Addr)(o:HO),σ[i]? = some (some (V.ref a))/\N a=some o/\H0 a=none/\Bx K (fw N (own σ ρ)) o d
 inj:∀(i j:Nat)(a:Addr)(d e:D),ρ[i]? = some (some (d,true))->ρ[j]? = some (some (e,true))->σ[i]? = some (some (V.ref a))->σ[j]? = some (some (V.ref a))->i=j
def xI (K:Frag)(B0 H0 H:Hp)(σ:St)(ρ:Env):Prop:=∃N,eI K B0 H0 N H σ ρ
section
variable {K:Frag}{B0 H0 N H H':Hp}{σ:St}{ρ:Env}
def eI.owL (s:eI K B0 H0 N H σ ρ)(i:Nat)(d:D)(q:ρ[i]? = some (some (.lst es,true)))(hd:d=.lst es:=by rfl):∃(a:Addr)(vs:LV)(ds:LD),d=.lst ds/\σ[i]? = some (some (V.ref a))/\N a=some (.lst vs)/\H0 a=none/\IsL K (fw N (own σ ρ)) vs ds:=by
 obtain⟨a,o,h1,h2,h3,h4⟩:=s.ow i _ q;cases h4 with
 |lst h4=>exact⟨a,_,es,hd,h1,h2,h3,h4⟩
def boxed:HO->Prop
 |.lst _|.dK _ _|.dT _=>True
 |_=>False
def Bx.boxed (h:Bx K C o d):boxed o:=by cases h<;>exact trivial
def eI.owned (s:eI K B0 H0 N H σ ρ)(h:own σ ρ a):∃o,(N a=some o/\boxed o)/\H0 a=none:=by
 obtain⟨i,d,h1,h2⟩:=h;obtain⟨M,o,h3,h4,h5,G⟩:=s.ow i d h1;rw[h2]at h3;cases h3;exact⟨o,⟨h4,G.boxed⟩,h5⟩
def eI.rep (s:eI K B0 H0 N H σ ρ):gz K N σ ρ:=⟨s.tb.mono s.ext.bn,λi d b q=>by
 cases b with
 |false=>obtain⟨v,h1,h2⟩:=s.sh i d q;exact⟨v,h1,h2.mono bT⟩
 |true=>
  obtain⟨a,o,h2,h3,_,h4⟩:=s.ow i d q;exact⟨_,h2,(h4.mono bT).is h3⟩⟩
noncomputable def j9 (ρ:Env):Env:=ρ.map λx=>match x with|some (d,false)=>some (d,false)|_=>none
def GI {i:Nat}{d:D}{b:Bool}(h:(j9 ρ)[i]? = some (some (d,b))):b=false/\ρ[i]? = some (some (d,false)):=by
 unfold j9 at h;rw[uZ]at h;cases e:ρ[i]? with
 |none=>rw[e]at h;cases h
 |some x=>
  rw[e]at h;match x,h with
  |some (d',false),h=>cases h;exact⟨rr,rr⟩
  |some (d',true),h=>cases h
  |none,h=>cases h
def eI.tbC (s:eI K B0 H0 N H σ ρ):Tb K (fw N (own σ ρ)):=λx hx c P q=>by
 have z:=s.tb.mono s.ext.bn x hx c P q;rw[df]
 .exact z
 .intro y;obtain⟨o,⟨y,G⟩,_⟩:=s.owned y;rw[z]at y;cases y;exact G
def eI.repH (s:eI K B0 H0 N H σ ρ):gz K (fw N (own σ ρ)) σ (j9 ρ):=⟨s.tbC,λi d b q=>by
 obtain⟨rfl,G⟩:=GI q;exact s.sh i d G⟩
def eI.grow (s:eI K B0 H0 N H σ ρ)(x:Ext N N' H H'):eI K B0 H0 N' H' σ ρ:=by
 have c:aX (fw N (own σ ρ)) _:=fH λa o e q=>⟨x.bn a o e,q⟩;refine⟨s.bh,s.tb,s.ext.trans x,s.len,λi d q=>?_,λi d q=>?_,s.inj⟩
 .obtain⟨v,h1,h2⟩:=s.sh i d q;exact⟨v,h1,h2.mono c⟩
 .obtain⟨a,o,h2,h3,h4,h5⟩:=s.ow i d q;exact⟨a,o,h2,x.bn _ _ h3,h4,h5.mono c⟩
def eI.growH (s:eI K B0 H0 N H σ ρ)(x:Ext (fw N (own σ ρ)) N' H H'):eI K B0 H0 (join N N') H' σ ρ/\aX N' (fw (join N N') (own σ ρ)):=by
 have G:Ext N (join N N') H H':=by
  refine⟨x.hh,fD,λa o e=>?_,λa o e=>?_⟩
  .cases q:N a with
   |some u=>
    have:join N N' a=some u:=fD _ _ q;rw[this]at e;cases e;exact x.hh _ _ (s.ext.nh _ _ q)
   |none=>rw[fg q]at e;exact x.nh _ _ e
  .cases q:N a with
   |some u=>
    simp_all[join]
   |none=>
    rw[fg q]at e;rcases x.new a o e with z|z
    .have:=bT _ _ z;simp_all
    .exact .inr z
 refine⟨s.grow G,λa o e=>?_⟩;rcases x.new a o e with z|z
 .obtain⟨M,O⟩:=kT z;rw[df M];exact fD _ _ O
 .have T :=s.ext.nh.free z;have:¬own σ ρ a:=λq=>by obtain⟨vs,⟨q,_⟩,_⟩:=s.owned q;lia
  simp_all[df,fg]
noncomputable def unown (ρ:Env):Env:=ρ.map λx=>x.map λy=>(y.1,false)
def lK {i:Nat}{d:D}{b:Bool}(h:(unown ρ)[i]? = some (some (d,b))):b=false/\∃c,ρ[i]? = some (some (d,c)):=by
 unfold unown at h;simp_all<;>lia
def vv {a:Addr}:¬own σ (unown ρ) a:=λ⟨i,d,h,_⟩=>by
 obtain⟨z,_⟩:=lK h;cases z
def eI.unown (s:eI K B0 H0 N H σ ρ):eI K B0 H0 N H σ (unown ρ):=by
 refine⟨s.bh,s.tb,s.ext,by unfold DL.unown;rw[vI];exact s.len,λi d q=>?_,λi d q=>?_,λi j a d e q=>?_⟩
 .obtain⟨_,c,q⟩:=lK q;obtain⟨v,h1,h2⟩:=s.rep.at' i d c q;exact⟨v,h1,h2.mono λa o e=>by rw[df vv];exact e⟩
 .obtain⟨z,_⟩:=lK q;cases z
 .obtain⟨z,_⟩:=lK q;cases z
def cr {α:Type}{l:List α}{i j:Nat}{x y:α}(h:(l.set i x)[j]? = some y):(i=j/\x=y)\/(i≠j/\l[j]? = some y):=by
 by_cases e:i=j
 .subst e;rw[List.getElem?_set]at h;split at h
  .split at h
   .exact .inl ⟨rr,vK h⟩
   .cases h
  .contradiction
 .rw[vA e]at h;exact .inr ⟨e,h⟩
def vw {α G:Type}{l:List α}{m:List G}{i:Nat}{x y:α}(h:(l.set i x)[i]? = some y)(e:l.length=m.length):i<m.length:=by
 obtain⟨h,_⟩:=vV h;rw[length_set]at h;lia
def qP {i:Nat}{v:V}{x:OB}{a:Addr}(h:own (σ.set i (some v)) (ρ.set i x) a):(v=.ref a/\∃d,x=some (d,true))\/∃j,j≠i/\∃d,ρ[j]? = some (some (d,true))/\σ[j]? = some (some (V.ref a)):=by
 obtain⟨j,d,h1,h2⟩:=h;rcases cr h1 with⟨e,q⟩|⟨e,q⟩
 .rcases cr h2 with⟨e2,G⟩|⟨e2,G⟩
  .cases G;exact .inl ⟨rr,d,q⟩
  .exact absurd e e2
 .rcases cr h2 with⟨e2,G⟩|⟨e2,G⟩
  .exact absurd e2 e
  .exact .inr ⟨j,λz=>e z.symm,d,q,G⟩
def eI.bind (s:eI K B0 H0 N H σ ρ){i:Nat}{v:V}{d:D}(h:Is K (fw N (own σ ρ)) v d):eI K B0 H0 N H (σ.set i (some v)) (ρ.set i (some (d,false))):=by
 have o:∀a,own (σ.set i (some v)) (ρ.set i (some (d,false))) a->own σ ρ a:=λa q=>by
  rcases qP q with⟨_,d',p⟩|⟨j,_,d',O,T⟩
  .cases p
  .exact⟨j,d',O,T⟩
 have c:aX (fw N _) _:=fH λa u e q=>⟨e,λz=>q (o a z)⟩;refine⟨s.bh,s.tb,s.ext,by simp[s.len],λj e q=>?_,λj e q=>?_,λj k a e f q U h1 h2=>?_⟩
 .rcases cr q with⟨rfl,p⟩|⟨ne,p⟩
  .cases p
   have hi:=vw q s.len;exact⟨v,by simp[hi],h.mono c⟩
  .obtain⟨w,h1,h2⟩:=s.sh j e p;exact⟨w,by simp_all,h2.mono c⟩
 .rcases cr q with⟨rfl,p⟩|⟨ne,p⟩
  .cases p
  .obtain⟨a,o,h1,h2,h3,h4⟩:=s.ow j e p;exact⟨a,o,by simp_all,h2,h3,h4.mono c⟩
 .rcases cr q with⟨rfl,p⟩|⟨ne,p⟩
  .cases p
  .rcases cr U with⟨rfl,G⟩|⟨M,G⟩
   .cases G
   .rw[vA ne]at h1;rw[vA M]at h2;exact s.inj j k a e f p G h1 h2
def eI.bindOwn (s:eI K B0 H0 N H σ ρ){i:Nat}{a:Addr}{ob:HO}{dd:D}(h:N a=some ob)(h0:H0 a=none)(M:∀(j:Nat)(d:D),ρ[j]? = some (some (d,true))->σ[j]? ≠ some (some (V.ref a)))
  (U:∀(j:Nat)(d:D),j≠i->ρ[j]? = some (some (d,false))->∃v,σ[j]? = some (some v)/\Is K (fw N (λb=>own σ ρ b\/b=a)) v d) (l:∀(j:Nat)(d:D),j≠i->ρ[j]? = some (some (d,true))->∃(O:Addr)(o:HO),σ[j]? = some (some (V.ref O))/\N O=some o/\Bx K (fw N (λb=>own σ ρ b\/b=a)) o d)
  (m:Bx K (fw N (λb=>own σ ρ b\/b=a)) ob dd):eI K B0 H0 N H (σ.set i (some (.ref a))) (ρ.set i (some (dd,true))):=by
 have o:∀b,own (σ.set i (some (V.ref a))) (ρ.set i (some (dd,true))) b->own σ ρ b\/b=a:=λb q=>by
  rcases qP q with⟨p,_⟩|⟨j,_,d',n,r⟩
  .cases p;exact .inr rr
  .exact .inl ⟨j,d',n,r⟩
 have c:aX (fw N _) _:=fH λb u e q=>⟨e,λz=>q (o b z)⟩;refine⟨s.bh,s.tb,s.ext,by simp[s.len],λj e q=>?_,λj e q=>?_,λj k b e f q g h1 h2=>?_⟩
 .rcases cr q with⟨rfl,p⟩|⟨ne,p⟩
  .cases p
  .obtain⟨w,h1,h2⟩:=U j e (Ne.symm ne) p;exact⟨w,by simp_all,h2.mono c⟩
 .rcases cr q with⟨rfl,p⟩|⟨ne,p⟩
  .cases p
   have hi:=vw q s.len;exact⟨a,ob,by simp[hi],h,h0,m.mono c⟩
  .obtain⟨O,o',h1,h2,h4⟩:=l j e (Ne.symm ne) p;have h3:H0 O=none:=by
    obtain⟨y,_,k1,_,k3,_⟩:=s.ow j e p;simp_all
   exact⟨O,o',by simp_all,h2,h3,h4.mono c⟩
 .rcases cr q with⟨rfl,p⟩|⟨ne,p⟩
  .rcases cr g with⟨rfl,T⟩|⟨G,T⟩
   .rfl
   .rw[vA G]at h2;have t:V.ref a=V.ref b:=by
     rcases cr h1 with⟨_,z⟩|⟨z,_⟩
     .exact vK z
     .exact absurd rr z
    cases t
    exact absurd h2 (M k f T)
  .rcases cr g with⟨rfl,T⟩|⟨G,T⟩
   .rw[vA ne]at h1;have x:V.ref a=V.ref b:=by
     rcases cr h2 with⟨_,z⟩|⟨z,_⟩
     .exact vK z
     .exact absurd rr z
    cases x
    exact absurd h1 (M j e p)
   .rw[vA ne]at h1;rw[vA G]at h2;exact s.inj j k b e f p T h1 h2
end
inductive Res where
 |nx (ρ:Env)|rt (d:D) (b:Bool)|bk (ρ:Env)|ct (ρ:Env)
abbrev FS:=Env->Option Res
def Ry (K:Frag)(B0 H0:Hp)(E:Ends):Res->Prop
 |.nx ρ=>∀σ H,xI K B0 H0 H σ ρ->E.nx σ H
 |.rt d b=>∀v H N,Ext B0 N H0 H->Is K N v d->(b=true->Qr K H0 N v d)->E.rt v H
 |.bk ρ=>∀σ H,xI K B0 H0 H σ ρ->E.bk σ H
 |.ct ρ=>∀σ H,xI K B0 H0 H σ ρ->E.ct σ H
def oJ (K:Frag)(g:FS):TS:=λE σ H=>∃(B0 H0:Hp)(ρ:Env)(r:Res),xI K B0 H0 H σ ρ/\g ρ=some r/\Ry K B0 H0 E r
section
variable {K:Frag}{B0 H0 N H H':Hp}{σ:St}{ρ:Env}{E:Ends}
def eI.writeB (s:eI K B0 H0 N H σ ρ)(hi:ρ[i]? = some (some (d,true)))(G:σ[i]? = some (some (V.ref a)))(h:Bx K (fw N (own σ ρ)) ob dd):
  eI K B0 H0 (upd N a ob) (upd H a ob) σ (ρ.set i (some (dd,true))):=by
 have oa:own σ ρ a:=⟨i,d,hi,G⟩;obtain⟨r,hw,h0⟩:=s.owned oa;have g:B0 a=none:=s.bh.free h0;have o:∀b,own σ (ρ.set i (some (dd,true))) b↔own σ ρ b:=λb=>by
  constructor
  .rintro⟨j,e,O,M⟩;rcases cr O with⟨rfl,p⟩|⟨_,p⟩
   .exact⟨i,d,hi,M⟩
   .exact⟨j,e,p,M⟩
  .rintro⟨j,e,O,M⟩;by_cases z:i=j
   .subst z;exact⟨i,dd,by rw[getElem?_set_self (vV hi).1],M⟩
   .exact⟨j,e,by simp_all,M⟩
 have c:aX (fw N (own σ ρ)) (fw (upd N a ob) (own σ (ρ.set i (some (dd,true))))):=fH λb u e q=>by
  have ne:b≠a:=λz=>q (z ▸ oa);exact⟨by rw[aH ne];exact e,λz=>q ((o b).mp z)⟩
 refine⟨s.bh,s.tb,⟨λb u e=>?_,λb u e=>?_,λb u e=>?_,λb u e=>?_⟩,by rw[length_set];exact s.len,λj e q=>?_,λj e q=>?_,λj k b e f q l h1 h2=>?_⟩
 .rw[aH (λz=>by subst z;rw[h0]at e;cases e)];exact s.ext.hh _ _ e
 .rw[aH (λz=>by subst z;rw[g]at e;cases e)];exact s.ext.bn _ _ e
 .by_cases z:b=a
  .simp_all[a6]
  .rw[aH z]at e |-;exact s.ext.nh _ _ e
 .by_cases z:b=a
  .subst z;exact .inr h0
  .rw[aH z]at e;exact s.ext.new _ _ e
 .rcases cr q with⟨rfl,p⟩|⟨ne,p⟩
  .cases p
  .obtain⟨v,h1,h2⟩:=s.sh j e p;exact⟨v,h1,h2.mono c⟩
 .rcases cr q with⟨rfl,p⟩|⟨ne,p⟩
  .cases p
   exact⟨a,ob,G,a6,h0,h.mono c⟩
  .obtain⟨U,o',h1,h2,h3,h4⟩:=s.ow j e p;have m:U≠a:=λz=>by subst z;exact ne (s.inj i j _ d e hi p G h1)
   exact⟨U,o',h1,by rw[aH m];exact h2,h3,h4.mono c⟩
 .have get:∀ {j:Nat}{e:D},(ρ.set i (some (dd,true)))[j]? = some (some (e,true))->∃T,ρ[j]? = some (some (T,true)):=λ{j e} q=>by
   rcases cr q with⟨rfl,p⟩|⟨ne,p⟩
   .exact⟨d,hi⟩
   .exact⟨e,p⟩
  obtain⟨T,O⟩:=get q;obtain⟨n,M⟩:=get l;exact s.inj j k b T n O M h1 h2
def eI.write (s:eI K B0 H0 N H σ ρ)(hi:ρ[i]? = some (some (d,true)))(G:σ[i]? = some (some (V.ref a)))(h:IsL K (fw N (own σ ρ)) vs ds):
  eI K B0 H0 (upd N a (.lst vs)) (upd H a (.lst vs)) σ (ρ.set i (some (.lst ds,true))):=s.writeB hi G (.lst h)
def eI.tups (s:eI K B0 H0 N H σ ρ):∀a vs,jf K N a vs->jf K (fw N (own σ ρ)) a vs:=λa vs h=>by
 have G:∀u,N a=some u->¬boxed u->fw N (own σ ρ) a=some u:=λu e hu=>by
  rw[df λz=>?_];exact e;obtain⟨M,⟨q,O⟩,_⟩:=s.owned z;simp_all
 rcases h with (h|⟨o,h⟩)|h
 .exact .inl (.inl (G _ h (λq=>q)))
 .exact .inl (.inr ⟨o,G _ h (λq=>q)⟩)
 .exact .inr h
def eI.flat (s:eI K B0 H0 N H σ ρ)(h:Is K N v d)(n:bf d=true):Is K (fw N (own σ ρ)) v d:=h.keepT s.tups n
def eI.flats (s:eI K B0 H0 N H σ ρ)(h:IsL K N v d)(n:bB d=true):IsL K (fw N (own σ ρ)) v d:=h.keepT s.tups n
def eI.rebase (s:eI K B0 H0 N H σ ρ):eI K (fw N (own σ ρ)) (fw H (own σ ρ)) N H σ ρ :=
 ⟨fH λa o e q=>⟨s.ext.nh _ _ e,q⟩,s.tbC,⟨bT,bT,s.ext.nh,λa o e=>by
  grind[B8,df]⟩,s.len,s.sh,λi d q=>by
   obtain⟨a,o,h1,h2,_,h4⟩:=s.ow i d q;exact⟨a,o,h1,h2,B8 ⟨i,d,q,h1⟩,h4⟩,s.inj⟩
def eI.unbase (s:eI K B0 H0 N H σ ρ)(t:eI K (fw N (own σ ρ)) (fw H (own σ ρ)) N' H' M ρ'):eI K B0 H0 N' H' M ρ':=by
 have h0:aX H0 (fw H (own σ ρ)):=λa o e=>by
  rw[df λz=>?_];exact s.ext.hh _ _ e;obtain⟨_,_,q⟩:=s.owned z;lia
 have G:aX B0 (fw N (own σ ρ)):=λa o e=>by
  rw[df λz=>?_];exact s.ext.bn _ _ e;obtain⟨_,_,q⟩:=s.owned z;rw[s.bh _ _ e]at q;cases q
 refine⟨s.bh,s.tb,⟨h0.trans t.ext.hh,G.trans t.ext.bn,t.ext.nh,λa o e=>?_⟩,t.len,t.sh,λi d q=>?_,t.inj⟩
 .rcases t.ext.new a o e with z|z
  .exact s.ext.new a o (bT _ _ z)
  .exact .inr (h0.free z)
 .obtain⟨a,o,h1,h2,h3,h4⟩:=t.ow i d q;exact⟨a,o,h1,h2,h0.free h3,h4⟩
def eI.based (t:eI K B0 H0 N H σ ρ):aX B0 (fw N (own σ ρ)):=λa o e=>by
 rw[df λz=>?_];exact t.ext.bn _ _ e;obtain⟨_,_,q⟩:=t.owned z;rw[t.bh _ _ e]at q;cases q
@[simp] noncomputable def a0 (g h:FS):FS:=λρ=>match g ρ with|some (.nx ρ')=>h ρ'|r=>r
@[simp] noncomputable def aQ:FS:=λρ=>some (.nx ρ)
@[simp] noncomputable def cU (c:FT)(g h:FS):FS:=λρ=>match c ρ with|some true=>g ρ|some false=>h ρ|none=>none
@[simp] noncomputable def aE (f:FE):FS:=λρ=>(f ρ).map λx=>.rt x.1 x.2
@[simp] noncomputable def GJ:D->Bool
 |.dk _ _=>true
 |.dt _ _=>true
 |_=>false
@[simp] def io (i:Nat):FS:=λρ=>match ρ[i]? with|some (some (d,b))=>some (.rt d (b && !GJ d))|_=>none
@[simp] def za:D->Bool
 |.lst ds=>bB ds
 |_=>false
@[simp] def setE (ρ:Env)(i:Nat)(d:D)(b:Bool):Env :=
 if bf d=true then ρ.set i (some (d,false))else if b=true/\za d=true then ρ.set i (some (d,true))else (unown ρ).set i (some (d,false))
@[simp] def aS (i:Nat)(f:FE):FS:=λρ=>(f ρ).map λx=>.nx (setE ρ i x.1 x.2)
@[simp] def CW (i:Nat)(f:FE):FS:=λρ=>(f (j9 ρ)).map λx=>.nx (ρ.set i (some (x.1,false)))
@[simp] def ju (i:Nat)(f:FE):FS:=λρ=>match ρ[i]? with
 |some (some (.lst ds,true))=>(f ρ).bind λx=>if bf x.1=true/\ds.length<sizeLine then some (.nx (ρ.set i (some (.lst (ds++[x.1]),true))))else none
 |_=>none
def K8 (q:oJ K (a0 g h) E σ H):QK (oJ K g) (oJ K h) E σ H:=by
 obtain⟨B0,H0,ρ,r,s,e,p⟩:=q;unfold a0 at e;cases G:g ρ with
 |none=>rw[G]at e;cases e
 |some M=>
  rw[G]at e;cases M with
  |nx ρ'=>exact⟨B0,H0,ρ,.nx ρ',s,G,λO H' s'=>⟨B0,H0,ρ',r,s',e,p⟩⟩
  |rt d b=>cases e;exact⟨B0,H0,ρ,_,s,G,p⟩
  |bk ρ'=>cases e;exact⟨B0,H0,ρ,_,s,G,p⟩
  |ct ρ'=>cases e;exact⟨B0,H0,ρ,_,s,G,p⟩
def GK (q:oJ K aQ E σ H):MN E σ H:=by
 obtain⟨B0,H0,ρ,r,s,e,p⟩:=q;cases e
 exact p σ H s
def xI.grown (s:eI K B0 H0 N H σ ρ)(h:aX H H'):xI K B0 H0 H' σ ρ:=⟨N,s.grow (.grow s.ext.nh h)⟩
def O3 (q:oJ K (cU c g h) E σ H):QN (CV K c) (oJ K g) (oJ K h) E σ H:=by
 obtain⟨B0,H0,ρ,r,⟨N,s⟩,e,p⟩:=q;unfold cU at e;cases G:c ρ with
 |none=>rw[G]at e;cases e
 |some b=>
  rw[G]at e;refine⟨N,ρ,b,s.ext.nh,s.rep,G,λM h1=>?_⟩;cases b with
  |true=>rw[if_pos rr];exact⟨B0,H0,ρ,r,.grown s h1,e,p⟩
  |false=>rw[if_neg Z9];exact⟨B0,H0,ρ,r,.grown s h1,e,p⟩
def K9 (q:oJ K (aE f) E σ H):NU (tD K f) E σ H:=by
 obtain⟨B0,H0,ρ,r,⟨N,s⟩,e,p⟩:=q;obtain⟨x,ex,e⟩:=oY e;subst e;exact⟨N,ρ,x.1,x.2,s.ext.nh,s.rep,ex,λv G N1 M i1 f1=>p v G N1 (s.ext.trans M) i1 λb=>(f1 b).back s.ext.hh⟩
def GL (q:oJ K (io i) E σ H):NU (qG i) E σ H:=by
 obtain⟨B0,H0,ρ,r,⟨N,s⟩,e,p⟩:=q;unfold io at e;split at e
 .rename_i d b ei;cases e
  cases b with
  |false=>
   obtain⟨v,h1,h2⟩:=s.sh i d ei;exact⟨v,h1,p v H N s.ext (h2.mono bT) X9⟩
  |true=>
   obtain⟨a,o,h1,h2,h3,h4⟩:=s.ow i d ei;cases h4 with
   |lst h4=>exact⟨_,h1,p _ H N s.ext (.lst (gB.of h2) (h4.mono bT)) λ_=>⟨a,_,_,rr,rr,h3,h2,h4.mono bT⟩⟩
   |dk hl h4=>exact⟨_,h1,p _ H N s.ext (.dk h2 hl (h4.mono bT)) X9⟩
   |dt hl h4=>exact⟨_,h1,p _ H N s.ext (.dt h2 hl (h4.mono bT)) X9⟩
 simp_all
def eI.setE (s:eI K B0 H0 N H σ ρ)(x:Ext N N1 H H1)(h:Is K N1 v d)(f:b=true->Qr K H N1 v d):eI K B0 H0 N1 H1 (σ.set i (some v)) (setE ρ i d b):=by
 have s1:=s.grow x;unfold DL.setE;by_cases hn:bf d=true
 .rw[if_pos hn];exact s1.bind (s1.flat h hn)
 .rw[if_neg hn];by_cases hb:b=true/\za d=true
  .rw[if_pos hb];obtain⟨es,rfl⟩:∃es,d=.lst es:=by cases d<;>first|exact⟨_,rr⟩|(simp at hb)
   obtain⟨a,vs,ds,rfl,z,ha,M,hs⟩:=f hb.1;cases z
   have O:N a=none:=s.ext.nh.free ha;have T:¬own σ ρ a:=λz=>by obtain⟨U,⟨q,_⟩,_⟩:=s.owned z;lia
   have c:aX (fw N (own σ ρ)) (fw N1 (λb=>own σ ρ b\/b=a)):=fH λb u e q=>⟨x.bn _ _ e,λz=>z.elim q λz=>by subst z;rw[O]at e;cases e⟩;refine s1.bindOwn M (s.ext.hh.free ha) (λj e q z=>T ⟨j,e,q,z⟩) (λj e _ q=>?_) (λj e _ q=>?_) (.lst (hs.keepT (λt k st=>?_) hb.2))
   .obtain⟨w,h1,h2⟩:=s.sh j e q;exact⟨w,h1,h2.mono c⟩
   .obtain⟨g,o',h1,h2,_,h4⟩:=s.ow j e q;exact⟨g,o',h1,x.bn _ _ h2,h4.mono c⟩
   .have G:∀u,N1 t=some u->¬boxed u->fw N1 (λb=>own σ ρ b\/b=a) t=some u:=λu e hu=>by
     rw[df λz=>?_];exact e;rcases z with z|z
     .obtain⟨U,⟨q,l⟩,_⟩:=s1.owned z;simp_all
     .subst z;rw[e]at M;cases M;exact hu trivial
    rcases st with (st|⟨o,st⟩)|st
    .exact .inl (.inl (G _ st (λq=>q)))
    .exact .inl (.inr ⟨o,G _ st (λq=>q)⟩)
    .exact .inr st
  .rw[if_neg hb];exact s1.unown.bind (h.mono λa o e=>by rw[df vv];exact e)
def CY (q:oJ K (aS i f) E σ H):ED (tD K f) (kP i) E σ H:=by
 obtain⟨B0,H0,ρ,r,⟨N,s⟩,e,p⟩:=q;obtain⟨x,ex,e⟩:=oY e;subst e;exact⟨N,ρ,x.1,x.2,s.ext.nh,s.rep,ex,λv G N1 M i1 f1=>p _ G ⟨N1,s.setE M i1 f1⟩⟩
def GN (q:oJ K (CW i f) E σ H):ED (tD K f) (kP i) E σ H:=by
 obtain⟨B0,H0,ρ,r,⟨N,s⟩,e,p⟩:=q;obtain⟨x,ex,e⟩:=oY e;subst e;refine⟨fw N (own σ ρ),j9 ρ,x.1,x.2,bT.trans s.ext.nh,s.repH,ex,λv G N1 M i1 f1=>?_⟩;obtain⟨s1,c⟩:=s.growH M;exact p _ G ⟨_,s1.bind (i1.mono c)⟩
def KA (q:oJ K (ju i f) E σ H):∃(a:Addr)(us:LV),σ[i]? = some (some (V.ref a))/\H a=some (.lst us)/\MT (tD K f) Rh σ H λxs H2=>CT (.ref a) xs H2 λ_ O=>E.nx σ O:=by
 obtain⟨B0,H0,ρ,r,⟨N,s⟩,e,p⟩:=q;unfold ju at e;split at e
 .rename_i ds ei;obtain⟨x,ex,e⟩:=oX e;split at e
  .rename_i hx;cases e
   obtain⟨a,vs,G,z,h1,h2,h3,h4⟩:=s.owL i _ ei;cases z
   refine⟨a,vs,h1,s.ext.nh _ _ h2,N,ρ,x.1,x.2,s.ext.nh,s.rep,ex,λv U N1 M i1 f1=>⟨a,vs,v,rr,rr,M.hh _ _ (s.ext.nh _ _ h2),by rw[h4.length];exact hx.2,?_⟩⟩;have s1:=s.grow M;obtain⟨b,T,G,z,k1,k2,_,k4⟩:=s1.owL i _ ei;cases z
   rw[h1]at k1;cases k1;rw[M.bn _ _ h2]at k2;cases k2;exact p σ _ ⟨_,s1.write ei h1 (k4.append (.cons (s1.flat i1 hx.1) .nil))⟩
  simp_all
 simp_all
end
noncomputable def cJ (c:FT)(g:FS):Nat->Env->Option Res
 |0,_=>none
 |n+1,ρ=>match c ρ with
  |some true=>match g ρ with
   |some (.nx ρ')=>cJ c g n ρ'
   |some (.ct ρ')=>cJ c g n ρ'
   |some (.bk ρ')=>some (.nx ρ')
   |r=>r
  |some false=>some (.nx ρ)
  |none=>none
def EU (q:oJ K (cJ c g n) E σ H):Gr (CV K c) (oJ K g) E σ H:=by
 obtain⟨B0,H0,ρ,r,s,e,p⟩:=q;refine⟨λm σ H=>∃ρ,xI K B0 H0 H σ ρ/\cJ c g m ρ=some r,⟨n,ρ,s,e⟩,?_⟩;rintro m σ H ⟨ρ,⟨N,s⟩,e⟩;cases m with
 |zero=>cases e
 |succ m=>
  unfold cJ at e;cases M:c ρ with
  |none=>rw[M]at e;cases e
  |some b=>
   rw[M]at e;refine⟨N,ρ,b,s.ext.nh,s.rep,M,λU h1=>?_⟩;cases b with
   |false=>rw[if_neg Z9];cases e;exact p σ U (.grown s h1)
   |true=>
    rw[if_pos rr];refine⟨λσ H=>∃ρ,xI K B0 H0 H σ ρ/\cJ c g m ρ=some r,λG H' w=>⟨m,lt_succ_self m,w⟩,?_⟩;cases O:g ρ with
    |none=>rw[O]at e;cases e
    |some T=>
     rw[O]at e;refine⟨B0,H0,ρ,T,.grown s h1,O,?_⟩;cases T with
     |nx ρ'=>exact λG H' s'=>⟨ρ',s',e⟩
     |ct ρ'=>exact λG H' s'=>⟨ρ',s',e⟩
     |bk ρ'=>cases e;exact λG H' s'=>p G H' s'
     |rt d b=>cases e;exact p
def nq (K:Frag)(J:It)(B:Hp)(ds:LD):Prop:=∀(i:Nat)(H:Hp),aX B H ->
 (∀d,ds[i]? = some d->J.go i H/\∀x H',J.yld i H x H'->∃N,Ext B N H H'/\Is K N x d)/\(ds.length<=i->J.stop i H)
def Wo (K:Frag)(f:FA):TI:=λσ H R=>∃(B:Hp)(ρ:Env)(ds:LD),aX B H/\gz K B σ ρ/\f ρ=some ds/\∀(J:It)(H' N:Hp),Ext B N H H'->nq K J N ds->R J H'
abbrev FG:=D->Env->Option Env
def KE (K:Frag)(tg:FG)(g:TG):Prop:=∀(B0 H0 N H:Hp)(σ:St)(ρ ρ':Env)(v:V)(d:D)(Q:St->Hp->Prop),eI K B0 H0 N H σ ρ->Is K (fw N (own σ ρ)) v d->tg d ρ=some ρ' ->
 (∀G H',xI K B0 H0 H' G ρ'->Q G H')->g v σ H Q
@[simp] noncomputable def dh (i:Nat):FG:=λd ρ=>some (ρ.set i (some (d,false)))
def eK:KE K (dh i) (kP i):=by
 intro B0 H0 N H σ ρ ρ' v d Q s h e k;cases e
 exact k _ H ⟨N,s.bind h⟩
noncomputable def gU (tg:FG)(g:FS):LD->Env->Option Res
 |[],ρ=>some (.nx ρ)
 |d::ds,ρ=>(tg d ρ).bind λG=>match g G with
  |some (.nx ρ')=>gU tg g ds ρ'
  |some (.ct ρ')=>gU tg g ds ρ'
  |some (.bk ρ')=>some (.nx ρ')
  |r=>r
@[simp] def rA (tg:FG)(g:FS)(ρ:Env):gU tg g [] ρ=some (.nx ρ):=by rw[gU]
@[simp] theorem vx (tg:FG)(g:FS)(d:D)(ds:LD)(ρ:Env):gU tg g (d::ds) ρ=(tg d ρ).bind λG=>match g G with
  |some (.nx ρ')=>gU tg g ds ρ'
  |some (.ct ρ')=>gU tg g ds ρ'
  |some (.bk ρ')=>some (.nx ρ')
  |r=>r:=by rw[gU]
@[simp] def nu (f:FA)(tg:FG)(g:FS):FS:=λρ=>(f (j9 ρ)).bind λds=>gU tg g ds ρ
def zc (l:KE K tg t)(s1:eI K B0 H0 N H1 σ ρ)(c:aX N1 (fw N (own σ ρ)))(n:nq K J N1 ds)(e:gU tg g ds ρ=some r)(p:Ry K B0 H0 E r):
  ∃W:Nat->Nat->St->Hp->Prop,(∃m,W 0 m σ H1)/\∀i m σ H,W i m σ H->(J.stop i H/\E.nx σ H)\/(J.go i H/\∃N:St->Hp->Prop,(∀G H',N G H'->∃j,j<m/\W (i+1) j G H')/\∀x H',J.yld i H x H'->t x σ H' λT H2=>oJ K g { E with nx:=N,ct:=N,bk:=E.nx } T H2):=by
 refine⟨λi m σ H=>∃(N:Hp)(ρ:Env),eI K B0 H0 N H σ ρ/\aX N1 (fw N (own σ ρ))/\m=ds.length - i/\i<=ds.length/\gU tg g (ds.drop i) ρ=some r,⟨ds.length,_,ρ,s1,c,rr,uM _,e⟩,?_⟩;clear e s1 c;rintro i m σ H ⟨N,ρ,s,c,rfl,hi,e⟩;have hs:aX N1 H:=c.trans (bT.trans s.ext.nh);obtain⟨w,A⟩:=n i H hs;by_cases M:i<ds.length
 .obtain⟨go,B⟩:=w ds[i] (by simp[M]);rw[List.drop_eq_getElem_cons M]at e;obtain⟨U,C,e⟩:=oX e;refine .inr ⟨go,λG H'=>∃(N:Hp)(ρ:Env),eI K B0 H0 N H' G ρ/\aX N1 (fw N (own G ρ))/\gU tg g (ds.drop (i+1)) ρ=some r,λG H' ⟨N',ρ',s',D,F⟩=>⟨_,N9,N',ρ',s',D,rr,M,F⟩,λx H' y=>?_⟩;obtain⟨N2,O,i2⟩:=B x H' y;have I:Ext (fw N (own σ ρ)) (join (fw N (own σ ρ)) N2) H H':=by
   refine⟨O.hh,fD,λa o e=>?_,λa o e=>?_⟩
   .cases q:fw N (own σ ρ) a with
    |some u=>rw[fD _ _ q]at e;cases e;exact O.hh _ _ (s.ext.nh _ _ (bT _ _ q))
    |none=>rw[fg q]at e;exact O.nh _ _ e
   .cases q:fw N (own σ ρ) a with
    |some u=>rw[fD _ _ q]at e;simp_all
    |none=>
     rw[fg q]at e;rcases O.new a o e with z|z
     .rw[c _ _ z]at q;cases q
     .exact .inr z
  obtain⟨s2,c2⟩:=s.growH I;have c3:aX N2 (join (fw N (own σ ρ)) N2):=λa o e=>by
   rcases O.new a o e with z|z
   .exact fD _ _ (c _ _ z)
   .rw[fg ((bT.trans s.ext.nh).free z)];exact e
  have L:=i2.mono (c3.trans c2);have P:aX N1 (fw (join N (join (fw N (own σ ρ)) N2)) (own σ ρ)):=(O.bn.trans c3).trans c2;refine l _ _ _ _ _ _ _ _ _ _ s2.rebase L C λT H2 ⟨Q,R⟩=>?_;cases h:g U with
  |none=>rw[h]at e;cases e
  |some k=>
   rw[h]at e;refine⟨_,_,U,k,⟨Q,R⟩,h,?_⟩;have back:∀ {G:St}{H':Hp}{ρ':Env}{N':Hp},eI K _ _ N' H' G ρ'->eI K B0 H0 N' H' G ρ'/\aX N1 (fw N' (own G ρ')):=λt=>⟨s2.unbase t,P.trans t.based⟩;cases k with
   |nx ρ'=>exact λG H' ⟨N',t⟩=>⟨N',ρ',(back t).1,(back t).2,e⟩
   |ct ρ'=>exact λG H' ⟨N',t⟩=>⟨N',ρ',(back t).1,(back t).2,e⟩
   |bk ρ'=>cases e;exact λG H' ⟨N',t⟩=>p G H' ⟨N',(back t).1⟩
   |rt d b=>
    cases e
    intro v H' N' f S V;have y:=s2.rebase.ext;have h0:aX H0 (fw H' (λ_=>False)):=λa o e=>by rw[df (λz=>z)];exact f.hh _ _ (by
     rw[df λz=>?_];exact s2.ext.hh _ _ e;obtain⟨_,_,q⟩:=s2.owned z;lia)
    have X:aX H0 (fw H' (λ_=>False)):=h0;have Y:aX H0 (fw H' (λ_=>False)):=h0;have hc:∀a,fw H' (λ_=>False) a=H' a:=λa=>df (λz=>z);have hb:aX H0 (fw _ (own σ ρ)):=λa o e=>by
     rw[df λz=>?_];exact s2.ext.hh _ _ e;obtain⟨_,_,q⟩:=s2.owned z;lia
    have bb:aX B0 (fw _ (own σ ρ)):=λa o e=>by
     rw[df λz=>?_];exact s2.ext.bn _ _ e;obtain⟨_,_,q⟩:=s2.owned z;rw[s2.bh _ _ e]at q;cases q
    refine p v H' N' ⟨hb.trans f.hh,bb.trans f.bn,f.nh,λa o e=>?_⟩ S λz=>(V z).back hb;rcases f.new a o e with z|z
    .exact s2.ext.new a o (bT _ _ z)
    .exact .inr (hb.free z)
 .have ei:i=ds.length:=N9
  subst ei;rw[List.drop_eq_nil_of_le (vT _)]at e;cases e
  exact .inl ⟨A (vT _),p σ H ⟨N,s⟩⟩
def KG (G:KE K tg t)(q:oJ K (nu f tg g) E σ H):Ob (Wo K f) t (oJ K g) E σ H:=by
 obtain⟨B0,H0,ρ,r,⟨N,s⟩,e,p⟩:=q;obtain⟨ds,M,e⟩:=oX e;refine⟨fw N (own σ ρ),j9 ρ,ds,bT.trans s.ext.nh,s.repH,M,λJ U N1 O T=>?_⟩;obtain⟨s1,c⟩:=s.growH O;exact zc G s1 c T e p
def T1 (K:Frag)(f:FA):TI:=λσ H R=>∃(B:Hp)(ρ:Env)(ds:LD),aX B H/\gz K B σ ρ/\f ρ=some ds/\∀(J:It)(H' N:Hp),Ext B N H H'->(∀G,nq K J G ds)->R J H'
@[simp] def nv (f:FA)(tg:FG)(g:FS):FS:=λρ=>(f ρ).bind λds=>gU tg g ds ρ
def GO (G:KE K tg t)(q:oJ K (nv f tg g) E σ H):Ob (T1 K f) t (oJ K g) E σ H:=by
 obtain⟨B0,H0,ρ,r,⟨N,s⟩,e,p⟩:=q;obtain⟨ds,M,e⟩:=oX e;refine⟨N,ρ,ds,s.ext.nh,s.rep,M,λJ U N1 O T=>?_⟩;exact zc G (s.grow O) (aX.refl _) (T _) e p
end DL
namespace DL
open PySem PySem.Spec PyProof.Rows L2
abbrev JE (X:Cx)(e:Expr)(f:FE):Prop:=PE X e (tD X.K f)
abbrev JT (X:Cx)(e:Expr)(f:FT):Prop:=PT X e (CV X.K f)
abbrev JW (X:Cx)(e:Expr)(f:FT):Prop:=PW X e (CV X.K f)
abbrev JA (X:Cx)(es:QD)(f:FA):Prop:=PA X es (Qs X.K f)
abbrev JS (X:Cx)(st:Stmt)(g:FS):Prop:=PS X st (oJ X.K g)
abbrev vy (X:Cx)(st:List Stmt)(g:FS):Prop:=uC X st (oJ X.K g)
abbrev JI (X:Cx)(tg G:Expr)(f:FA):Prop:=PI X tg G (Wo X.K f)
def O4 (M:Model)(A:Around)(O:QD)(T:Expr)(env:PySem.Env)(U:Value)(E:QV)(P:Shared->Prop):Shared->Prop :=
 wpAny M A (forIn O true λc r=>if r=true then do let ok <-isTrue c env (eval c env);pure (ForInStep.yield ok)else pure (ForInStep.yield r))
  (λok G=>if ok=true then wpAny M A (eval T env) (λx=>wpAny M A (call (.builtin "list.append") [U,x]) (λ_=>P) E) E G else P G) E
def xJ {E:QV}(g:∀x s,¬E x s)(I:Nat->Shared->Prop)
  (T:∀n s,I n s->wpAny (model prog w) A (pyNext it) (λr G=>match r with
   |none=>R (.ok .next) G
   |some v=>wpAny (model prog w) A (letOwnedTupleGo JP it v) (λ_=>wpAny (model prog w) A (assign JP env v) (λ_=>O4 (model prog w) A Bl Bm env ME E λs=>∃m,m<n/\I m s) E) E G) E s)
  (n:Nat) (h:I n s):codeAny (model prog w) A (.compLoop (.ListComp Bm [⟨JP,gf,Bl,0⟩] scope pos) 0 it ME env) R s:=by
 refine codeAny_loop rr I (λn s i=>?_) n h;refine wpAny_noted (wpAny_mono (E:=E) ?_ (λ_ _ q=>q) λ_ _ z=>(g _ _ z).elim);rw[compTurn_list];refine wX (wpAny_standAt (wX (cu (T n s i) λr G M=>?_)));cases r with
 |none=>exact wY M
 |some v=>
  refine wX (cu M λ_ G M=>wX (cu M λ_ c U=>wX (cu U λok d O=>?_)));cases ok with
  |false=>exact wY ⟨rr,O⟩
  |true=>exact wX (wX (cu O λx e a=>wX (cu a λ_ f b=>wY (wY ⟨rr,b⟩))))
theorem Ext.upd (x:Ext B N H H')(h:H a=none)(G:N a=none):Ext B N H (upd H' a o) :=
 ⟨λb u e=>by rw[aH (λz=>by subst z;rw[h]at e;cases e)];exact x.hh _ _ e,x.bn,λb u e=>by rw[aH (λz=>by subst z;rw[G]at e;cases e)];exact x.nh _ _ e,x.new⟩
noncomputable abbrev jv (X:Cx)(N':LS)(scope:Scope)(cl:List (Str×Addr))(C:Addr)(G:Shared)(M:Hp)(fp:List Addr):Cx :=
 { X with N:=N',s₀:=G,H₀:=M,env:=compEnvC scope cl C X.env,outer:=X.stack,stack:=X.stack,ex:=fp,fn:=λ_=>false,pn:=[],xe:=λ_ _=>False }
inductive oF (X:Cx)(N':List Str)(scope:Scope)(cl:List (Str×Addr)):Nat->List Nat->Prop where
 |nil {j:Nat}(h:N'.length=j):oF X N' scope cl j []
 |cons {j i:Nat}{r:List Nat}{x:Str}(h1:N'[j]? = some x) (h2:X.N[i]? = some x) (h3:X.env.kindOf x=some .cell\/X.env.kindOf x=some .free)
   (h4:(relabel scope X.env).names.lookup x=some .cell\/(relabel scope X.env).names.lookup x=some .free) (h5:cl.lookup x=X.env.cells.lookup x) (t:oF X N' scope cl (j+1) r):oF X N' scope cl j (i::r)
theorem oF.len:∀ {j:Nat}{cap:LN},oF X N' scope cl j cap->N'.length=j+cap.length
 |_,_,.nil h=>by rw[h];rfl
 |j,i::r,.cons _ _ _ _ _ t=>by rw[t.len,vC];lia
theorem oF.get:∀ {j:Nat}{cap:LN}{k i:Nat},oF X N' scope cl j cap->cap[k]? = some i->∃x,N'[j+k]? = some x/\X.N[i]? = some x/\(X.env.kindOf x=some .cell\/X.env.kindOf x=some .free) /\
  ((relabel scope X.env).names.lookup x=some .cell\/(relabel scope X.env).names.lookup x=some .free)/\cl.lookup x=X.env.cells.lookup x
 |_,_,_,_,.nil _,e=>by simp at e
 |j,_,0,_,.cons h1 h2 h3 h4 h5 _,e=>by simp at e;subst e;exact⟨_,h1,h2,h3,h4,h5⟩
 |j,_,k+1,i,.cons _ _ _ _ _ t,e=>by
  obtain⟨x,q,r⟩:=t.get   (by simpa using e);exact⟨x,N9,r⟩
structure CompSc (X:Cx)(scope:Scope)(cl:List (Str×Addr)):Prop where
 clos:closureFor scope X.env=pure cl
 nocell:∀y∈scope.names,y.2≠.cell
 kind:scope.kind=.function
 names:∀y∈scope.names,y.2=.local->scope.names.lookup y.1=some .local
 sub:∀x c,cl.lookup x=some c->X.env.cells.lookup x=some c
 has:∀x,((relabel scope X.env).names.lookup x=some .cell\/(relabel scope X.env).names.lookup x=some .free)->∃c,cl.lookup x=some c
noncomputable def g9:List (Str×NameKind)->List (Str×Addr)->List (Str×Addr)->List (Str×Addr)
 |[],_,cs=>cs
 | (n,k)::r,cells,cs=>g9 r cells (if k == .free then (match cells.lookup n with|some c=>(n,c)::cs|none=>cs)else cs)
def vz:∀(names:List (Str×NameKind))(cs:List (Str×Addr)),(∀y∈names,y.2=.free->(env.cells.lookup y.1).isSome=true) ->
    (do let mut cs:=cs
        for (name,kind)in names do
          if kind == .free then cs:=(name,<-cellOf env name)::cs
        return cs:Sem (List (Str×Addr)))=pure (g9 names env.cells cs):=by
  intro names;induction names with
  |nil=>intro cs _;rfl
  |cons y r G=>
    intro cs h;obtain⟨n,k⟩:=y;have M:=λcs=>G cs λy hy=>h y (mZ _ hy);by_cases hk:k=.free
    . subst hk;have hc:=h _ mX rr;cases q:env.cells.lookup n with
      |none=>rw[q]at hc;cases hc
      |some c=>
        grind[g9,cellOf]
    . grind[g9]
theorem nw:∀(names:List (Str×NameKind))(cs:List (Str×Addr)),(∀y d,cs.lookup y=some d->cells.lookup y=some d)->(g9 names cells cs).lookup x=some c->cells.lookup x=some c
 |[],cs,h,e=>h x c e
 | (n,k)::r,cs,h,e=>by
  refine nw r _ (λy d q=>?_) e;split at q
  .split at q
   .rename_i M G;rw[lookup_cons]at q;split at q
    .rename_i hy;cases q
     rw[eq_of_beq hy];exact G
    .exact h y d q
   .exact h y d q
  .exact h y d q
theorem v0:∀(names:List (Str×NameKind))(cs:List (Str×Addr)),(cs.lookup x).isSome=true->((g9 names cells cs).lookup x).isSome=true
 |[],cs,h=>h
 | (n,k)::r,cs,h=>by
  refine v0 r _ ?_;split
  .split
   .rw[lookup_cons];split
    .rfl
    .exact h
   .exact h
  .exact h
theorem ny:∀(names:List (Str×NameKind))(cs:List (Str×Addr)),(x,NameKind.free)∈names->(cells.lookup x).isSome=true->((g9 names cells cs).lookup x).isSome=true
 | (n,k)::r,cs,hm,hc=>by
  rcases vP hm with e|e
  .cases e
   refine v0 r _ ?_;cases q:cells.lookup x with
   |none=>rw[q]at hc;cases hc
   |some c=>simp
  .exact ny r _ e hc
theorem iK {α:Type}{x:Str}{k:α}:∀ {l:List (Str×α)},l.lookup x=some k->(x,k)∈l
 | (n,j)::r,h=>by
  rw[lookup_cons]at h;split at h
  .simp_all
  .exact mZ _ (iK h)
def O5 {X:Cx}{scope:Scope}(h1:∀y∈scope.names,y.2≠.cell)(h2:scope.kind=.function)(h3:∀y∈scope.names,y.2=.local->scope.names.lookup y.1=some .local)(G:(scope.names.all λy=>!(y.2 == NameKind.free) || (X.env.cells.lookup y.1).isSome)=true):
  CompSc X scope (g9 scope.names X.env.cells []):=by
 have h4:∀y∈scope.names,y.2=.free->(X.env.cells.lookup y.1).isSome=true:=λy hy e=>by
  grind
 have frees:∀x,((relabel scope X.env).names.lookup x=some .cell\/(relabel scope X.env).names.lookup x=some .free)->(x,NameKind.free)∈scope.names:=λx h=>by
  have:∃k,(x,k)∈(relabel scope X.env).names/\(k=.cell\/k=.free):=by
   grind[iK]
  obtain⟨k,hm,hk⟩:=this;obtain⟨⟨n,j⟩,hj,e⟩:=vO hm;grind
 exact⟨vz _ [] h4,h1,h2,h3,λx c e=>nw _ [] (λy d q=>by cases q) e,λx h=>by
  have:=ny  _ [] (frees x h) (h4 _ (frees x h) rr);exact uT this⟩
def qQ {scope:Scope}{cells:List (Str×Addr)}{x:Str}(h:(x,NameKind.free)∈scope.names)(hc:(cells.lookup x).isSome=true):(g9 scope.names cells []).lookup x=cells.lookup x:=by
 obtain⟨c,e⟩:=uT (ny  _ [] h hc);grind[nw]
noncomputable def zd (nT:Nat)(cap:LN)(σ:St):St:=List.replicate nT none++cap.map λi=>(σ[i]?).join
noncomputable def dL (nT:Nat)(cap:LN)(ρ:Env):Env:=List.replicate nT none++cap.map λi=>match ρ[i]? with|some (some (d,_))=>some (d,false)|_=>none
def xK {α:Type}{nT:Nat}{cap:LN}{f:Nat->Option α}{j:Nat}{v:α}(h:(List.replicate nT none++cap.map f)[j]? = some (some v)):∃k i,j=nT+k/\cap[k]? = some i/\f i=some v:=by
 by_cases hj:j<nT
 .rw[getElem?_append_left (by simpa using hj),List.getElem?_replicate,if_pos hj]at h;cases h
 .rw[getElem?_append_right (by simpa using Nat.not_lt.mp hj),length_replicate,uZ]at h;obtain⟨i,h1,h2⟩:=oY h;exact⟨j - nT,i,N9,h1,h2⟩
def KH {α:Type}{nT:Nat}{cap:LN}{f:Nat->Option α}{k i:Nat}{v:α}(h1:cap[k]? = some i)(h2:f i=some v):(List.replicate nT none++cap.map f)[nT+k]? = some (some v):=by
 rw[getElem?_append_right X9,length_replicate,uZ,Nat.add_sub_cancel_left,h1];simp[h2]
def gz.caps {K:Frag}{B:Hp}{σ:St}{ρ:Env}{nT:Nat}{cap:LN}(h:gz K B σ ρ):gz K B (zd nT cap σ) (dL nT cap ρ):=⟨h.tb,λj d b q=>by
 obtain⟨k,i,rfl,h1,h2⟩:=xK q;split at h2
 .rename_i d' b' e;cases h2
  obtain⟨v,g1,G⟩:=h.at' i _ _ e;exact⟨v,KH h1 (by rw[g1];rfl),G⟩
 simp_all⟩
noncomputable def iq (tg:FG)(c:FT)(fe:FE)(ρ:Env):LD->Option LD
 |[]=>some []
 |d::r=>(tg d ρ).bind λG=>(c G).bind λb=>if b=true then (fe G).bind λx=>(iq tg c fe ρ r).map (x.1 :: ·)else iq tg c fe ρ r
@[simp] def Qt (tg:FG)(c:FT)(fe:FE)(ρ:Env):iq tg c fe ρ []=some []:=by rw[iq]
@[simp] theorem B9 (tg:FG)(c:FT)(fe:FE)(ρ:Env)(d:D)(r:LD):iq tg c fe ρ (d::r)=(tg d ρ).bind λG=>(c G).bind λb=>if b=true then (fe G).bind λx=>(iq tg c fe ρ r).map (x.1 :: ·)else iq tg c fe ρ r:=by rw[iq]
@[simp] def bP (fi:FA)(nT:Nat)(cap:LN)(tg:FG)(c:FT)(fe:FE):FE:=λρ=>(fi ρ).bind λitems=>if items.length<=sizeLine then (iq tg c fe (dL nT cap ρ) items).map λds=>(.lst ds,true)else none
def MX (K:Frag)(n:Nat)(tg:FG)(g:TG):Prop:=∀(B H:Hp)(σ:St)(ρ M:Env)(v:V)(d:D)(Q:St->Hp->Prop),(∀i,i<n->ρ[i]? = some none)->gz K B σ ρ->aX B H->Is K B v d->tg d ρ=some M ->
 ρ.length=σ.length->(∀G,gz K B G M->(∀O,gz K O σ ρ->gz K O G ρ)->ρ.length=G.length->Q G H)->g v σ H Q
def ze {K:Frag}{n i:Nat}(hi:i<n):MX K n (dh i) (kP i):=by
 intro B H σ ρ O v d Q cl rep s h e hl k;cases e
 have M:i<σ.length:=by
  grind
 refine k _ ⟨rep.tb,λj e b q=>?_⟩ ?_ (by simpa using hl)
 .rcases cr q with⟨rfl,p⟩|⟨ne,p⟩
  .simp_all
  .obtain⟨w,h1,h2⟩:=rep.at' j e b p;simp_all
 .intro T G;refine⟨G.tb,λj e b q=>?_⟩;obtain⟨w,h1,h2⟩:=G.at' j e b q;have ne:i≠j:=λz=>by subst z;rw[cl i hi]at q;cases q
  exact⟨w,by simp_all,h2⟩
def JC (X:Cx)(G:QD)(c:FT):Prop:=∀(ak:AO)(s:Shared)(σ:St)(H:Hp)(Q:Bool->Hp->Prop),Inv X ak σ H s->CV X.K c σ H Q ->
 wq X (forIn G true λc r=>if r=true then do let ok <-isTrue c X.env (eval c X.env);pure (ForInStep.yield ok)else pure (ForInStep.yield r)) (TP X ak σ Q) X.xe s
@[simp] noncomputable def gV:FT:=λ_=>some true
def gE:JC X [] gV:=by
 intro ak s σ H Q I h;obtain⟨B,ρ,c,G,rep,e,q⟩:=h;cases e
 exact wpAny_tests_nil ⟨H,I,q H (.refl H)⟩
def dM (h:JT X e f):JC X [e] f:=λak s σ H Q I q=>wpAny_tests_one (h _ s σ H Q I q)
inductive CI (Y:Cx)(tn:Nat->Heap->Prop)(fp:List Addr)(N1 H2:Hp)(κ:Env)(a:Addr)(l:List D->Option (List D))(items ds:List D)(s:Shared):Nat->Prop
 |mk (i:Nat) (N:Hp) (vs:List V) (es r:List D) (σ:St) (H:Hp) (I:Inv Y [] σ H s) (ti:tn i s.heap) (hn:∀b∈fp,H b=none) (hi:i<=items.length) (rp:gz Y.K N1 σ κ) (hl:κ.length=σ.length)
   (x:Ext N1 N H2 H) (n0:N a=none) (h0:H a=some (.lst vs)) (vl:vs.length<=i) (iv:IsL Y.K N vs es) (er:l (items.drop i)=some r) (ed:es++r=ds):CI Y tn fp N1 H2 κ a l items ds s (items.length - i)
def Ext.both (x:Ext N1 N H2 H)(y:Ext N1 N' H H'):Ext N (join N N') H H'/\aX N' (join N N'):=by
 refine⟨⟨y.hh,fD,λa o e=>?_,λa o e=>?_⟩,λa o e=>?_⟩
 .cases z:N a with
  |some G=>rw[fD _ _ z]at e;cases e;exact y.hh _ _ (x.nh _ _ z)
  |none=>rw[fg z]at e;exact y.nh _ _ e
 .cases z:N a with
  |some G=>rw[fD _ _ z]at e;simp_all
  |none=>
   rw[fg z]at e;exact(y.new a o e).elim (λM=>by rw[x.bn _ _ M]at z;cases z) .inr
 .exact(y.new a o e).elim (λz=>fD _ _ (x.bn _ _ z)) λz=>by rw[fg (x.nh.free z)];exact e
def Ext.off (x:Ext B N H H')(h:B a=none)(h':H a=some o):N a=none:=by
 cases z:N a with
 |none=>rfl
 |some u=>
  rcases x.new _ _ z with z|z
  .rw[h]at z;cases z
  simp_all
def EV {Y:Cx}(O:Y.calm=true)(hE:∀x s,¬Y.xe x s)(hg:PG Y tg g)(SA:MX Y.K nT u0 g)(hc:JC Y Bl fc)(he:JE Y Bm fe)(T:Turn Y.prog Y.w Y.K tg J fp it tn)(SD:∀i,i<nT->κ[i]? = some none)
  (J1:nq Y.K J N1 items) (hsz:items.length<=sizeLine) (hD:H2 a=none) (Z:∀H',(∀b∈fp,H' b=none)->∀b∈fp,m9 Y [] H' b)
  (hR:∀D M H' N vs,Inv Y [] M H' D->Ext N1 N H2 H'->N a=none->H' a=some (.lst vs)->IsL Y.K N vs ds->R (.ok .next) D) (h:CI Y tn fp N1 H2 κ a (iq u0 fc fe κ) items ds s items.length):
  codeAny (model Y.prog Y.w) Y.A (.compLoop (.ListComp Bm [⟨tg,gf,Bl,0⟩] scope pos) 0 (.ref it) (.ref a) Y.env) R s:=by
 refine xJ hE (λn s=>CI Y tn fp N1 H2 κ a (iq u0 fc fe κ) items ds s n) (λn s' h=>?_) _ h;obtain⟨i,N,vs,es,r,M,H',I',ti,hn,hi,rp,mm,x,Vj,TF,Nx,SE,er,Q⟩:=h;have sH:aX N1 H':=x.bn.trans x.nh;by_cases vg:i<items.length
 .obtain⟨go,yl⟩:=(J1 i H' sH).1 items[i] (by simp[vg]);refine cu (T.item Y rr rr rr O i [] s' M H' Y.xe I' (Z _ hn) ti go) λq D ⟨u,eu,hq⟩=>?_;subst eu;refine cu hq λ_ s5 ⟨xv,E,I5,rx,y5,t5,Ve⟩=>?_;obtain⟨f,x5,i5⟩:=yl xv E y5;obtain⟨x6,c5⟩:=x.both x5;have WO:(join N f) a=none:=x6.off Vj TF;have S:aX (join N f) E:=x6.nh;rw[List.drop_eq_getElem_cons vg]at er;unfold iq at er;obtain⟨j,e1,er⟩:=oX er;obtain⟨b,e2,er⟩:=oX er;have ii:∀(F:Shared)(U:St)(k H:Hp)(I:LV)(V W:LD),Inv Y (rh fp s5.heap) U k F->gz Y.K N1 U κ->κ.length=U.length->Ext N1 H H2 k->H a=none->k a=some (.lst I) ->
    I.length<=i+1->IsL Y.K H I V->iq u0 fc fe κ (items.drop (i+1))=some W->V++W=ds->∃m,m<items.length - i/\CI Y tn fp N1 H2 κ a (iq u0 fc fe κ) items ds F m:=λF U k H I V W l YX l9 x9 n9 h9 v9 i9 YY YZ=>
   ⟨_,N9,i+1,H,I,V,W,U,k,l.pins_of λp hp=>by simp at hp,T.keep _ _ _ t5 λb hb o e=>(l.pin (b,o) (mY _ (jR hb e))).1,λb hb=>by
    obtain⟨o,e,d⟩:=T.obj _ _ t5 b hb;exact(l.pin (b,o) (mY _ (jR hb e))).2.1,vg,YX,l9,x9,n9,h9,v9,i9,YY,YZ⟩
  refine cu (hg (rh fp s5.heap) s5 M E xv u (λG L=>L=E/\gz Y.K (join N f) G j/\gz Y.K N1 G κ/\κ.length=G.length) (I5.pinned (Z _ Ve) (T.obj _ _ t5)) rx
   (SA (join N f) E M κ j xv items[i] _ SD (rp.mono (x.bn.trans fD)) S (i5.mono c5) e1 mm λσ1 r1 r2 l1=>⟨rr,r1,r2 N1 rp,l1⟩)) λ_ s6 ⟨G,L,I6,eH,WP,WQ,l6⟩=>?_
  subst eH;have Vk:L a=some (.lst vs):=x5.hh _ _ TF;refine cu (hc _ s6 G L (λc t=>c=b/\aX L t) I6 ⟨join N f,j,b,S,WP,e2,λt z=>⟨rr,z⟩⟩) λok s7 ⟨t,I7,eb,z⟩=>?_;subst eb;have x7:Ext N1 (join N f) H2 t:=(x.trans x6).trans (.grow S z);cases ok with
  |false=>
   exact ii s7 G t (join N f) vs es r I7 WQ l6 x7 WO (z _ _ Vk) (Nat.le_succ_of_le Nx) (SE.mono fD) er Q
  |true=>
   rw[if_pos rr]at er |-;obtain⟨y,e3,er⟩:=oX er;obtain⟨r',e4,er⟩:=oY er;subst er;refine cu (he _ s7 G t (λv P=>∃B,Ext (join N f) B t P/\Is Y.K B v y.1) I7 ⟨join N f,j,y.1,y.2,S.trans z,WP,e3,λv P B C i8 _=>⟨B,C,i8⟩⟩) λw8 s8 ⟨X,P,I8,r8,B,C,i8⟩=>?_;refine cu (vq _ s8 G P (.ref a) [X] (.ref a) [w8] (λ_ k=>k=upd P a (.lst (vs++[X]))) I8 rr (.cons r8 .nil) ⟨_,vs,X,rr,rr,C.hh _ _ (z _ _ Vk),N9,rr⟩) λ_ F ⟨_,k,l,_,e9⟩=>?_;subst e9;have WR:=C.off WO (z _ _ Vk);exact ii F G _ B (vs++[X]) (es++[y.1]) r' l WQ l6 ((x7.trans C).upd hD WR) WR a6 (by simp_all) ((SE.mono (fD.trans C.bn)).append (.cons i8 .nil)) e4 (by rw[append_assoc];exact Q)
 .obtain rfl:i=items.length:=N9
  rw[List.drop_eq_nil_of_le (vT _)]at er;cases er
  rw[uP]at Q;subst Q;refine cu (T.done Y rr rr rr O items.length [] s' M H' Y.xe I' (Z _ hn) ti ((J1 _ H' sH).2 (vT _))) λq D ⟨hq,l⟩=>?_;subst hq;exact hR D M H' N vs l x Vj TF SE
def rB {X:Cx}(SG:X.calm=true){tg gf R:Expr}{V:QD}{scope:Scope}{I:Pos}{cl:List (Str×Addr)}{N':LS}{nT:Nat}{cap:LN}{u0:FG}{g:TG}{fc:FT}{fe:FE}
  (S:CompSc X scope cl) (cp:oF X N' scope cl nT cap)
  (hg:∀C s H fp,PG (jv X N' scope cl C s H fp) tg g) (SA:MX X.K nT u0 g) (hc:∀C s H fp,JC (jv X N' scope cl C s H fp) V fc) (he:∀C s H fp,JE (jv X N' scope cl C s H fp) R fe)
  {ak:AO}{σ:St}{H2:Hp}{s2:Shared}{it:Addr}{fp:List Addr}{tn:Nat->Heap->Prop}{J:It}{N1:Hp}{ρ:Env}{items ds:LD}{E:QV}
  (d:Inv X ak σ H2 s2) (T:Turn X.prog X.w X.K tg J fp it tn) (W:tn 0 s2.heap) (f2:∀b∈fp,m9 X ak H2 b)
  (rep:gz X.K N1 σ ρ) (Z:aX N1 H2) (J1:nq X.K J N1 items) (hsz:items.length<=sizeLine) (ec:iq u0 fc fe (dL nT cap ρ) items=some ds) {RR:Value->Addr->Result->Shared->Prop}
  (Za:∀(Dd C:Addr)(s':Shared)(H' N:Hp)(vs:LV)(m:SV),H2 Dd=none->Inv X ak σ H' s'->s'.heap.Ns C m->m9 X ak H' C->Ext N1 N H2 H'->N Dd=some (.lst vs)->IsL X.K N vs ds->RR (.ref Dd) C (.ok .next) s'):
  wq X (newList []) (λME U=>wq X (newFunctionEnv scope X.env.globals cl [] X.env.qual none .none (some X.env)) (λSH L=>
   codeAny (model X.prog X.w) X.A (.compStart (.ListComp R [⟨tg,gf,V,0⟩] scope I) 0 (.ref it) ME { SH with scope:=relabel scope X.env }) (RR ME SH.locals) L) E U) E s2:=by
 refine wpAny_newObj_type (wpAny_newFunctionEnv S.nocell (by intro y hy;simp at hy) (λf M O=>?_) S.kind);dsimp only at M O |-;have D:H2 s2.heap.objs.size=none:=d.fresh;have n :=d.lnew (t':=s2.toks) (ys:=[]) (its:=[]) .nil (uM _);generalize P:s2.heap.push _=t at M O n |-;have hC:t.objs.size=s2.heap.objs.size+1:=by rw[<-P,Heap.size_push]
 have Q:∀b o,s2.heap.get? b=some o->t.get? b=some o:=λb o e=>P ▸ vZ _ e;have G:∀b o,t.get? b=some o->f.get? b=some o:=λb o e=>O.extBut b o (vS (vX e)) (vZ _ e);have Zb:∀b o,t.get? b=some o->b≠t.objs.size:=λb o e=>vS (vX e);have WS:∀b∈fp,∃o,s2.heap.get? b=some o:=λb hb=>let ⟨o,e,_⟩:=T.obj 0 s2.heap W b hb;⟨o,e⟩;have Zc:∀b∈fp,b≠s2.heap.objs.size:=λb hb=>let ⟨o,e⟩:=WS b hb;vS (vX e);have WT:∀b∈fp,b≠t.objs.size:=λb hb=>let ⟨o,e⟩:=WS b hb;Zb b o (Q b o e);have Zd :=n.hok.fresh (vT _);let Y:Cx:=jv X N' scope cl t.objs.size { s2 with heap:=t } (upd H2 s2.heap.objs.size (.lst [])) fp;have ok:Y.Ok:=by
  refine⟨d.ok.mod,?_,d.ok.glob,d.ok.blt,vT _,λx y c e1 e2=>d.ok.inj x y c (S.sub x c e1) (S.sub y c e2),λx h=>S.has x h,λx c h=>absurd h uW,d.ok.hd,d.ok.frames,.inl rr,λb hb=>⟨WT b hb,λx c e=>(f2 b hb).2.2.2.2.1 x c (S.sub x c e)⟩,λb o e=>?_,?_,λb o e hb=>?_,λb hb hz=>?_,n.stack,λb hb=>n.stkFree b hb⟩
  .show(relabel scope X.env).kind=.function;exact S.kind
  .exact n.bs b o e
  .exact vR n.ok.bsz n.sz
  .have h1:=(f2 b hb).2.2.2.1;rcases h1 with z|z
   .exact d.ok.noex b o e z
   .exact absurd (vQ (vX e) (vR d.ok.bsz z)) (Nat.lt_irrefl _)
  .rcases vP (d.stkSub b hz)with z|z
   .exact(f2 b hb).2.1 z
   .exact(f2 b hb).2.2.1 z
 have I4:Inv Y [] (zd nT cap σ) (upd H2 s2.heap.objs.size (.lst [])) { s2 with heap:=f,toks:=s2.toks+([]:List (Str×Value)).length }:=by
  refine⟨ok,rr,d.bare,Un.kept G,⟨_,M,λj x v e1 e2 e3=>?_⟩,λx c e=>?_,Zd,λx c e=>n.freeC x c (S.sub x c e),λp hp=>absurd (show p∈[]from hp) not_mem_nil,n.hok.kept G,?_⟩
  .obtain⟨k,i,rfl,h1,h2⟩:=xK e2;obtain⟨y,g1,g2,Ze,g4,g5⟩:=cp.get h1;have TM:N'[nT+k]? = some x:=e1;rw[g1]at TM;cases TM;have S8:σ[i]? = some (some v):=by
    cases q:σ[i]? with
    |none=>rw[q]at h2;cases h2
    |some z=>rw[q]at h2;have:z=some v:=h2;rw[this]
   obtain⟨m,_,hl⟩:=n.loc;obtain⟨u,r,l⟩:=hl i _ v g2 S8 (Ze.elim (λz=>.inr (.inl z)) λz=>.inr (.inr z));refine⟨u,r,?_⟩;rcases l with⟨l,_⟩|⟨_,c,lc,ic⟩
   .simp_all
   .refine .inr ⟨g4,c,by show cl.lookup _=some c;simp_all,?_⟩;obtain⟨o,ho,hd⟩:=ic;exact⟨o,G _ _ ho,hd⟩
  .obtain⟨v,o,ho,hd⟩:=n.cell x c (S.sub x c e);exact⟨v,o,G _ _ ho,hd⟩
  .show(zd nT cap σ).length=N'.length;unfold zd;rw[cp.len];simp
 have B:∀U:Shared,U={ s2 with heap:=f,toks:=s2.toks+([]:List (Str×Value)).length }->codeAny (model Y.prog Y.w) Y.A (.compLoop (.ListComp R [⟨tg,gf,V,0⟩] scope I) 0 (.ref it) (.ref s2.heap.objs.size) Y.env) (RR (.ref s2.heap.objs.size) t.objs.size) U:=by
  rintro U rfl;refine EV (Y:=Y) SG (λ_ _ z=>z) (hg _ _ _ _) SA (hc _ _ _ _) (he _ _ _ _) T (λi hi=>?_) J1 hsz D (λH' hn b hb=>⟨hn b hb,WT b hb,ok.exfs b hb,.inl hb,λx c e=>(f2 b hb).2.2.2.2.1 x c (S.sub x c e),λp hp=>absurd (show p∈[]from hp) not_mem_nil⟩) (λs4 σ' H' N vs F x Vj TF SE=>?_)
   ⟨0,N1,[],[],ds,zd nT cap σ,_,I4,T.keep _ _ _ W λb hb o e=>G _ _ (Q _ _ e),λb hb=>?_,uM _,rep.caps,?_,(Ext.refl Z).upd D (Z.free D),Z.free D,a6,uM _,.nil,by simpa using ec,rr⟩
  .simp_all[dL,getElem?_append_left]
  .obtain⟨m,hm,_⟩:=F.loc;have k:aX N (upd N s2.heap.objs.size (.lst vs)):=λa o e=>by grind[aH]
   refine Za s2.heap.objs.size t.objs.size s4 H' (upd N s2.heap.objs.size (.lst vs)) vs m D (d.call' (ch:=fp) F.os ((Un.laid Q (vT _) D).trans F.base) F.hok F.bare λb hb=>⟨(f2 b hb).2.2.2.1,(f2 b hb).2.1,(f2 b hb).2.2.2.2.1,(f2 b hb).2.2.2.2.2⟩) hm (d.fpOk (by rw[hC];exact le_succ _) F.free) ⟨x.hh,x.bn.trans k,λa o e=>?_,λa o e=>?_⟩ a6 (SE.mono k)
   .by_cases z:a=s2.heap.objs.size
    .simp_all[a6]
    .rw[aH z]at e;exact x.nh _ _ e
   .by_cases z:a=s2.heap.objs.size
    .subst z;exact .inr D
    .rw[aH z]at e;exact x.new _ _ e
  .rw[aH (Zc b hb)];exact(f2 b hb).1
  .unfold dL zd;simp
 exact codeAny_compStart_list (B _ rr) (T.self _ 0 _ _ _ (T.keep _ _ _ W λb hb o e=>G _ _ (Q _ _ e)) (B _ rr))
def KI (G:X.calm=true) 
  (S:CompSc X scope cl) (f:oF X N' scope cl nT cap) (hi:JI X tg gf fi)
  (i:∀C s H fp,PG (jv X N' scope cl C s H fp) tg g) (O:MX X.K nT u0 g) (hc:∀C s H fp,JC (jv X N' scope cl C s H fp) Bl fc) (he:∀C s H fp,JE (jv X N' scope cl C s H fp) Bm fe)
  (hs:∀x,foldedSetIterable gf X.env x=pure x:=by intro _;rfl):
  JE X (.ListComp Bm [⟨tg,gf,Bl,0⟩] scope pos) (bP fi nT cap u0 fc fe):=by
 intro ak s σ H Q I h;obtain⟨B,ρ,d,b,j,rep,e,q⟩:=h;obtain⟨items,ei,e⟩:=oX e;have hsz :=Decidable.byContradiction λz=>by rw[if_neg z]at e;cases e
 rw[if_pos hsz]at e;obtain⟨ds,k,e⟩:=oY e;cases e
 refine wpAny_comprehension_free  rr hs S.clos S.kind S.names (cu (hi _ s σ H (λJ H2=>∃N1,Ext B N1 H H2/\nq X.K J N1 _) I ⟨B,ρ,items,j,rep,ei,λJ H2 N1 M U=>⟨N1,M,U⟩⟩) λv s1 h1=>cu h1 λA s2 h2=>?_);obtain⟨it,fp,tn,J,H2,e,l,T,n,f2,N1,M,U⟩:=h2;subst e;refine rB G S f i O hc he l T n f2 (rep.mono M.bn) M.nh U hsz k  ?_;intro Dd C s' H' N vs m p r hm fC x c hl;refine⟨m,hm,λh' a=>⟨.ref Dd,H',?_,rr,q _ H' N (M.trans x) (.lst (gB.of c) hl) λ_=>⟨Dd,vs,ds,rr,rr,M.hh.free p,c,hl⟩⟩⟩;obtain⟨t,u,c2,c3,w,y⟩:=fC;exact r.turned  (λb o hb e=>(a.2 b hb).trans e) t u c3 w y
def KJ (G:X.calm=true) 
  (l:X.N.Nodup) (U:X.N[i]? = some y) (hy:X.env.kindOf y=some .local)
  (n:swapsWith (.ListComp Bm [⟨tg,gf,Bl,0⟩] scope pos) (some (.Name y py)) spos.line X.env=pure true)
  (S:CompSc X scope cl) (p:oF X N' scope cl nT cap) (hi:JI X tg gf fi)
  (t:∀C s H fp,PG (jv X N' scope cl C s H fp) tg g) (u:MX X.K nT u0 g) (hc:∀C s H fp,JC (jv X N' scope cl C s H fp) Bl fc) (he:∀C s H fp,JE (jv X N' scope cl C s H fp) Bm fe)
  (hs:∀x,foldedSetIterable gf X.env x=pure x:=by intro _;rfl):
  JS X (.Assign [.Name y py] (.ListComp Bm [⟨tg,gf,Bl,0⟩] scope pos) spos) (aS i (bP fi nT cap u0 fc fe)):=by
 intro ak s σ H E I h;have h2 :=CY h;obtain⟨B,ρ,d,b,A,rep,e,q⟩:=h2;obtain⟨items,ei,e⟩:=oX e;have hsz :=Decidable.byContradiction λz=>by rw[if_neg z]at e;cases e
 rw[if_pos hsz]at e;obtain⟨ds,D,e⟩:=oY e;cases e
 rw[exec_Assign_Name_used _ _ _ _ n];refine wX (wpAny_standAt (wX ?_));refine wX (wpAny_mono (wpAny_comprehension_free   rr hs S.clos S.kind S.names
  (cu (hi ak s σ H (λJ H2=>∃N1,Ext B N1 H H2/\nq X.K J N1 items) I ⟨B,ρ,items,A,rep,ei,λJ H2 N1 M c=>⟨N1,M,c⟩⟩) λv s1 h1=>cu h1 λWL s2 h2=>?_)) (λ_ s' hq=>wY (wY hq)) λ_ _ e=>e)
 obtain⟨it,fp,tn,J,H2,e,F,T,L,f2,N1,M,c⟩:=h2;subst e;refine rB G S p t u hc he F T L f2 (rep.mono M.bn) M.nh c hsz D  ?_;intro Dd C s' H' N vs m P Q hm fC x O hl;obtain⟨R,j,c2,c3,k,V⟩:=fC;refine wpAny_assign_Name (vi Q l U (.inl hy) (r:=show aU (.ref Dd) (.ref Dd)from rr) (λW Y ⟨a,Z,ha⟩=>?_) (.inr hy));have nC:C≠a:=by
  rcases ha with z|z
  .rw[z];exact j
  .exact λw=>k y a z w.symm
 refine⟨m,hm.sameBut Z nC,λh' f=>⟨_,H',?_,q _ H' N (M.trans x) (.lst (gB.of O) hl) λ_=>⟨Dd,vs,ds,rr,rr,M.hh.free P,O,hl⟩⟩⟩;exact Y.turned (t':=W.toks) (λb o hb e=>(f.2 b hb).trans e) R j c3 k V
section
variable {X:Cx}{a b c e:Expr}{pos:Pos}
def PE.to (h:PE X e t)(k:∀σ H Q,t' σ H Q->t σ H Q):PE X e t':=λak s σ H Q I q=>h _ s σ H Q I (k σ H Q q)
def PT.to (h:PT X e t)(k:∀σ H Q,t' σ H Q->t σ H Q):PT X e t':=λak s σ H Q I q=>h _ s σ H Q I (k σ H Q q)
def PW.to (h:PW X e t)(k:∀σ H Q,t' σ H Q->t σ H Q):PW X e t':=λwh ak s σ H Q I q=>h wh _ s σ H Q I (k σ H Q q)
def PA.to (h:PA X es t)(k:∀σ H Q,t' σ H Q->t σ H Q):PA X es t':=λpos ak s σ H Q I q=>h _ _ s σ H Q I (k σ H Q q)
def PS.to {st:Stmt}{t t':TS}(h:PS X st t)(k:∀E σ H,t' E σ H->t E σ H):PS X st t':=λak s σ H E I q=>h _ s σ H E I (k E σ H q)
def uC.to {st:List Stmt}{t t':TS}(h:uC X st t)(k:∀E σ H,t' E σ H->t E σ H):uC X st t':=λak s σ H E I q=>h _ s σ H E I (k E σ H q)
def PI.to (h:PI X tg it t)(k:∀σ H Q,t' σ H Q->t σ H Q):PI X tg it t':=λak s σ H Q I q=>h _ s σ H Q I (k σ H Q q)
def EW {K:Frag}{d:D}{v:V}(i:∀B,Is K B v d){σ:St}{H:Hp}{Q:VK}(h:tD K (fC d) σ H Q):tC v σ H Q:=by
 obtain⟨B,ρ,d',b,s,r,e,q⟩:=h;cases e
 exact q.one s (i B)
def pv (M:X.N[i]? = some x:=by rfl)(O:NH X.env.scope x:=by first|exact Or.inl rr|exact Or.inr (Or.inl rr)|exact Or.inr (Or.inr rr))(hd:(x == ("__debug__" : Str))=false:=by decide)
  (G:(x == ("__classdict__" : Str))=false:=by decide):PE X (.Name x pos) (qG i):=rf M O hd G
def ah (i:Nat)(G:PE X (.Name x pos) (qG i):=by exact pv):JE X (.Name x pos) (aj i):=PE.to G λ_ _ _ h=>O2 h
def aw:JE X (.Constant (.int i) j pos) (fC (.int i)):=PE.to NI λ_ _ _ h=>EW (λ_=>.int i) h
def cO:JE X (.Constant (.bool i) j pos) (fC (.bl i)):=PE.to QB λ_ _ _ h=>EW (λ_=>.bl i) h
def cw:JE X (.Constant .none j pos) (fC .non):=PE.to NJ λ_ _ _ h=>EW (λ_=>.non) h
def a5:JE X (.Constant (.str x) j pos) (fC (.str x)):=PE.to NK λ_ _ _ h=>EW (λ_=>.str x) h
def KN (G:Gl X x)(hm:X.mg x=some u)(r:aU v u)(i:∀B,Is X.K B v d)(hd:(x == ("__debug__" : Str))=false:=by decide):JE X (.Name x pos) (fC d):=PE.to (qN G hm r hd) λ_ _ _ h=>EW i h
def aF (ho:dS X (binaryOp op) (rD X.K f))(ha:JE X a fa)(hb:JE X b G):JE X (.BinOp a op b pos) (f2 f fa G):=PE.to (QU ho ha hb) λ_ _ _ h=>K5 h
def GP (ho:QT X (unaryOp op) (Ut X.K f))(ha:JE X a fa):JE X (.UnaryOp op a pos) (f1 f fa):=PE.to (QW ho ha) λ_ _ _ h=>Uu h
def bK (ho:dS X (compareOp op) (rD X.K f))(ha:JE X a fa)(hb:JE X b G)(hm:behindInMarks op b=false:=by first|exact j7 _ Z9 Z9|rfl):JE X (.Compare a [op] [b] pos) (f2 f fa G):=PE.to (Kn ho ha hb hm) λ_ _ _ h=>K5 h
def rC {K:Frag}{f:FE}{σ:St}{H:Hp}{Q:Bool->Hp->Prop}(h:CV K (aR f) σ H Q):tD K f σ H λx H'=>∃k,x=.bl k/\Q k H':=by
 obtain⟨B,ρ,c,s,r,e,q⟩:=h;unfold aR at e;split at e
 .rename_i M b' G;cases e
  refine⟨B,ρ,.bl c,b',s,r,G,λv H' N x i _=>?_⟩;cases i
  exact⟨c,rr,q H' x.hh⟩
 simp_all
def a7 (ho:dS X (compareOp op) (rD X.K f))(ha:JE X a fa)(hb:JE X b G)(hm:behindInMarks op b=false:=by first|exact j7 _ Z9 Z9|rfl):JT X (.Compare a [op] [b] pos) (aR (f2 f fa G)) :=
 PT.to (CM ho ha hb hm) λ_ _ _ h=>K5 (rC h)
def br (h:JE X e f)(he:∀G,isTrue e X.env G=(do let v <-G;standAt e.pos;holding [v] (truthy v)):=by intro _;rfl):JT X e (aR f):=PT.to (NN h he) λ_ _ _ q=>rC q
@[simp] noncomputable def hV (f g:D->D->OB)(fa G M:FE):FE:=λρ=>(fa ρ).bind λx=>(G ρ).bind λy=>match f x.1 y.1 with
 |some (.bl true,_)=>(M ρ).bind λz=>g y.1 z.1
 |some (.bl false,_)=>some (.bl false,false)
 |_=>none
def zf {K:Frag}{f g:D->D->OB}{fa j k:FE}{σ:St}{H:Hp}{Q:VK}(h:tD K (hV f g fa j k) σ H Q):Bu (rD K f) (rD K g) (tD K fa) (tD K j) (tD K k) σ H Q:=by
 obtain⟨B,ρ,d,b,s,r,e,q⟩:=h;obtain⟨x,ex,e⟩:=oX e;obtain⟨y,m,e⟩:=oX e;refine⟨B,ρ,x.1,x.2,s,r,ex,λv w N1 O i1 _=>⟨N1,ρ,y.1,y.2,O.nh,r.mono O.bn,m,λA H2 N2 G i2 _=>?_⟩⟩;split at e
 .rename_i b' T;obtain⟨z,n,e⟩:=oX e;refine⟨N2,x.1,y.1,.bl _,b',G.nh,i1.mono G.bn,i2,T,λo p l M U _=>?_⟩;cases U
  refine⟨true,rr,?_⟩;refine⟨l,ρ,z.1,z.2,M.nh,r.mono (O.bn.trans (G.bn.trans M.bn)),n,λC E t i u _=>⟨t,y.1,z.1,d,b,i.nh,i2.mono (M.bn.trans i.bn),u,e,?_⟩⟩;exact q.into ((O.trans G).trans (M.trans i))
 .rename_i b' T;cases e
  refine⟨N2,x.1,y.1,.bl _,b',G.nh,i1.mono G.bn,i2,T,λo p l M U _=>?_⟩;cases U
  refine⟨false,rr,?_⟩;exact(q.into ((O.trans G).trans M)).one M.nh (.bl _)
 simp_all
def rE (ho:dS X (compareOp op) (rD X.K f))(G:dS X (compareOp M) (rD X.K g))(ha:JE X a fa)(hb:JE X b O)(hc:JE X c T)
  (hm:lastMarks [op,M] [b,c]=false:=by with_unfolding_all rfl):JE X (.Compare a [op,M] [b,c] pos) (hV f g fa O T):=PE.to (Gx ho G ha hb hc hm) λ_ _ _ h=>zf h
def zg (ho:dS X (compareOp op) (rD X.K f))(G:dS X (compareOp M) (rD X.K g))(ha:JE X a fa)(hb:JE X b O)(hc:JE X c T)
  (hm:lastMarks [op,M] [b,c]=false:=by with_unfolding_all rfl):JT X (.Compare a [op,M] [b,c] pos) (aR (hV f g fa O T)):=PT.to (Gy ho G ha hb hc hm) λ_ _ _ h=>zf (rC h)
def KO {K:Frag}{f g:FT}{σ:St}{H:Hp}{Q:Bool->Hp->Prop}(h:CV K (eE f g) σ H Q):QE (CV K f) (CV K g) σ H Q:=by
 obtain⟨B,ρ,c,s,r,e,q⟩:=h;unfold eE at e;cases G:f ρ with
 |none=>rw[G]at e;cases e
 |some k=>
  rw[G]at e;refine⟨B,ρ,k,s,r,G,λM h1=>?_⟩;cases k with
  |true=>exact⟨B,ρ,c,s.trans h1,r,e,λH2 h2=>q H2 (h1.trans h2)⟩
  |false=>simp_all
def O6 {K:Frag}{f g:FT}{σ:St}{H:Hp}{Q:Bool->Hp->Prop}(h:CV K (dz f g) σ H Q):We (CV K f) (CV K g) σ H Q:=by
 obtain⟨B,ρ,c,s,r,e,q⟩:=h;unfold dz at e;cases G:f ρ with
 |none=>rw[G]at e;cases e
 |some k=>
  rw[G]at e;refine⟨B,ρ,k,s,r,G,λM h1=>?_⟩;cases k with
  |false=>exact⟨B,ρ,c,s.trans h1,r,e,λH2 h2=>q H2 (h1.trans h2)⟩
  |true=>simp_all
def KP {K:Frag}{f:FT}{σ:St}{H:Hp}{Q:Bool->Hp->Prop}(h:CV K (bS f) σ H Q):QF (CV K f) σ H Q:=by
 obtain⟨B,ρ,c,s,r,e,q⟩:=h;obtain⟨k,ek,e⟩:=oY e;subst e;exact⟨B,ρ,k,s,r,ek,λG h1=>q G h1⟩
variable {rest:QD}
def fM (ha:JT X a f):JW X (.BoolOp .And [a] pos) f:=Kg ha
def dN (ha:JT X a f):JW X (.BoolOp .Or [a] pos) f:=NO ha
def hW (ha:JT X a f)(hb:JW X (.BoolOp .And (b::rest) pos) g):JW X (.BoolOp .And (a::b::rest) pos) (eE f g):=PW.to (NP ha hb) λ_ _ _ h=>KO h
def dU (ha:JT X a f)(hb:JW X (.BoolOp .Or (b::rest) pos) g):JW X (.BoolOp .Or (a::b::rest) pos) (dz f g):=PW.to (QG ha hb) λ_ _ _ h=>O6 h
def fO (h:JW X e f):JT X e f:=h.pt
def bZ (ha:JT X a f):JT X (.UnaryOp .Not a pos) (bS f):=PT.to (NQ ha) λ_ _ _ h=>KP h
@[simp] noncomputable def gF (f g:FE):FE:=λρ=>match f ρ with|some (.bl true,_)=>g ρ|some (.bl false,_)=>some (.bl false,false)|_=>none
@[simp] noncomputable def Gk (f g:FE):FE:=λρ=>match f ρ with|some (.bl true,_)=>some (.bl true,false)|some (.bl false,_)=>g ρ|_=>none
@[simp] noncomputable def GQ (f:FE):FE:=λρ=>match f ρ with|some (.bl c,_)=>some (.bl (!c),false)|_=>none
def di (ha:JE X a f)(hb:JE X (.BoolOp .And (b::rest) pos) g):JE X (.BoolOp .And (a::b::rest) pos) (gF f g):=PE.to (NS ha hb) λσ H Q h=>by
 obtain⟨B,ρ,d,k,s,r,e,q⟩:=h;unfold gF at e;split at e
 .rename_i b' M;refine⟨B,ρ,_,_,s,r,M,λv O N1 G i1 _=>?_⟩;cases i1
  refine⟨true,rr,?_⟩;exact⟨N1,ρ,d,k,G.nh,r.mono G.bn,e,q.into G⟩
 .rename_i b' M;cases e
  refine⟨B,ρ,_,_,s,r,M,λv O N1 G i1 _=>?_⟩;cases i1
  refine⟨false,rr,?_⟩;exact(q.into G).one G.nh (.bl _)
 simp_all
def rF (ha:JE X a f)(hb:JE X (.BoolOp .Or (b::rest) pos) g):JE X (.BoolOp .Or (a::b::rest) pos) (Gk f g):=PE.to (QJ ha hb) λσ H Q h=>by
 obtain⟨B,ρ,d,k,s,r,e,q⟩:=h;unfold Gk at e;split at e
 .rename_i b' M;cases e
  refine⟨B,ρ,_,_,s,r,M,λv O N1 G i1 _=>?_⟩;cases i1
  refine⟨true,rr,?_⟩;exact(q.into G).one G.nh (.bl _)
 .rename_i b' M;refine⟨B,ρ,_,_,s,r,M,λv O N1 G i1 _=>?_⟩;cases i1
  refine⟨false,rr,?_⟩;exact⟨N1,ρ,d,k,G.nh,r.mono G.bn,e,q.into G⟩
 simp_all
def c9 (h:JE X a f):JE X (.BoolOp op [a] pos) f:=NR h
def O7 (ha:JE X a f):JE X (.UnaryOp .Not a pos) (GQ f):=PE.to (NT ha) λσ H Q h=>by
 obtain⟨B,ρ,d,k,s,r,e,q⟩:=h;unfold GQ at e;split at e
 .rename_i c b' M;cases e
  refine⟨B,ρ,_,_,s,r,M,λv O N1 G i1 _=>?_⟩;cases i1
  exact⟨c,rr,(q.into G).one G.nh (.bl _)⟩
 simp_all
variable {es:QD}
def am:JA X [] ai:=PA.to gD λ_ _ _ h=>K7 h
def ag (ha:JE X e f)(G:JA X es g)(hs:starEach (e::es) X.env=(false,eval e X.env)::starEach es X.env:=by rfl):JA X (e::es) (af f g):=PA.to (eB ha G hs) λ_ _ _ h=>GH h
@[simp] noncomputable def aO:LD->OB:=λds=>if ds.length<=sizeLine then some (.tup ds,false)else none
@[simp] noncomputable def cx:LD->OB:=λds=>if ds.length<=sizeLine then some (.lst ds,true)else none
def aP {G}(h:JA X es f):JE X (.Tuple es G pos) (fA aO f):=PE.to (xz h) λσ H Q q=>by
 obtain⟨B,ρ,ds,s,r,e,k⟩:=K6 q;refine⟨B,ρ,ds,s,r,e,λvs M N1 G i1=>?_⟩;obtain⟨T,O,d,b,s2,i2,e2,k2⟩:=k vs M N1 G i1;unfold aO at e2;split at e2
 .rename_i hz;cases e2
  refine⟨by rw[i2.length];exact hz,λp hp=>k2 _ _ _ (.laid s2 hp) (.tup (jf.of a6) (i2.mono (Ext.laid s2 hp).bn)) X9⟩
 simp_all
def cQ (h:JA X es f):JE X (.List es pos) (fA cx f):=PE.to (Oo h) λσ H Q q=>by
 obtain⟨B,ρ,ds,s,r,e,k⟩:=K6 q;refine⟨B,ρ,ds,s,r,e,λvs M N1 O i1=>?_⟩;obtain⟨T,G,d,b,s2,i2,e2,k2⟩:=k vs M N1 O i1;unfold cx at e2;split at e2
 .rename_i hz;cases e2
  refine⟨by rw[i2.length];exact hz,λp hp=>k2 _ _ _ (.laid s2 hp) (.lst (gB.of a6) (i2.mono (Ext.laid s2 hp).bn)) λ_=>⟨p,vs,G,rr,rr,hp,a6,i2.mono (Ext.laid s2 hp).bn⟩⟩
 simp_all
end
section
variable {X:Cx}
def jw (h:dS X f r)(k:∀x y H Q,O x y H Q->r x y H Q):dS X f O:=λak s σ H x y v u Q I G M q=>h _ s σ H x y v u Q I G M (k x y H Q q)
noncomputable def Qu (f g:D->D->OB):D->D->OB:=λx y=>match f x y with|some r=>some r|none=>g x y
def oR (h:dS X s (rD X.K f))(h':dS X s (rD X.K g)):dS X s (rD X.K (Qu f g)):=by
 intro ak st σ H x y v u Q I G M q;obtain⟨B,dx,O,d,b,T,U,a,e,q⟩:=q;unfold Qu at e;split at e
 .rename_i r c;cases e
  exact h _ st σ H x y v u Q I G M ⟨B,dx,O,_,_,T,U,a,c,q⟩
 .exact h' _ st σ H x y v u Q I G M ⟨B,dx,O,_,_,T,U,a,e,q⟩
@[simp] noncomputable def BA (C:Int->Int->Bool)(g:Int->Int->D):D->D->OB
 |.int i,.int j=>if C i j=true then some (g i j,false)else none
 |_,_=>none
def nA (h:dS X s (rI C g))(G:∀i j,C' i j=true->C i j)(M:∀i j B,Is X.K B (g i j) (g' i j)):dS X s (rD X.K (BA C' g')):=by
 refine jw h λx y H Q q=>?_;obtain⟨B,dx,a,d,b,O,T,U,e,q⟩:=q;cases T<;>try (cases e)
 cases U<;>try (cases e)
 rename_i i j;simp only[BA]at e;split at e
 .rename_i hc;cases e
  exact⟨i,j,rr,rr,G i j hc,q.one O (M i j B)⟩
 simp_all
def iL (h:dS X s (JV g))(G:∀i j B,Is X.K B (g i j) (g' i j)):dS X s (rD X.K (BA (λ_ _=>true) g')):=by
 refine jw h λx y H Q q=>?_;obtain⟨B,dx,U,d,b,M,O,T,e,q⟩:=q;cases O<;>try (cases e)
 cases T<;>try (cases e;done)
 rename_i i j;cases e
 exact⟨i,j,rr,rr,q.one M (G i j B)⟩
abbrev Uv:D->D->OB:=BA (λ_ _=>true) λi j=>.int (i+j)
abbrev xL:D->D->OB:=BA (λ_ _=>true) λi j=>.int (i - j)
abbrev Rz:D->D->OB:=BA (λi j=>decide ((-18446744073709551616<i/\i<18446744073709551616)\/(-18446744073709551616<j/\j<18446744073709551616))) λi j=>.int (i*j)
abbrev dI:D->D->OB:=BA (λ_ j=>decide (0<j/\j<1073741824)) λi j=>.int (i / j)
abbrev cI:D->D->OB:=BA (λ_ j=>decide (0<j)) λi j=>.int (i % j)
abbrev KQ:D->D->OB:=BA (λi j=>decide (0<=j/\j<=1000000/\i.natAbs<18446744073709551616)) λi j=>.int (i ^ j.toNat)
abbrev R0:D->D->OB:=BA (λ_ _=>true) λi j=>.int (Builtin.bitAnd i j)
abbrev Wp:D->D->OB:=BA (λ_ _=>true) λi j=>.bl (decide (i<j))
abbrev XQ:D->D->OB:=BA (λ_ _=>true) λi j=>.bl (decide (i<=j))
abbrev BB:D->D->OB:=BA (λ_ _=>true) λi j=>.bl (decide (j<i))
abbrev Qv:D->D->OB:=BA (λ_ _=>true) λi j=>.bl (decide (j<=i))
def R1:dS X (binaryOp .Add) (rD X.K Uv):=iL Oe λ_ _ _=>.int _
def zh:dS X (binaryOp .Sub) (rD X.K xL):=iL Of λ_ _ _=>.int _
def R5:dS X (binaryOp .Mult) (rD X.K Rz):=nA Og (λi j h=>by simp_all[Kl]) λ_ _ _=>.int _
def dj:dS X (binaryOp .FloorDiv) (rD X.K dI):=nA Km (λi j h=>by simp_all[QY]) λ_ _ _=>.int _
def cP:dS X (binaryOp .Mod) (rD X.K cI):=nA Oh (λ_ _ h=>Vh h) λ_ _ _=>.int _
def MY:dS X (binaryOp .Pow) (rD X.K KQ):=nA Oi (λi j h=>by simp_all[QZ]) λ_ _ _=>.int _
def R6:dS X (binaryOp .BitAnd) (rD X.K R0):=iL Oj λ_ _ _=>.int _
def Uw:dS X (compareOp .Lt) (rD X.K Wp):=iL Ra λ_ _ _=>.bl _
def Ux:dS X (compareOp .LtE) (rD X.K XQ):=iL Rb λ_ _ _=>.bl _
def zj:dS X (compareOp .Gt) (rD X.K BB):=iL Rc λ_ _ _=>.bl _
def O8:dS X (compareOp .GtE) (rD X.K Qv):=iL Re λ_ _ _=>.bl _
@[simp] noncomputable def Uy (C:Str->Str->Bool)(g:Str->Str->D):D->D->OB
 |.str i,.str j=>if C i j=true then some (g i j,false)else none
 |_,_=>none
abbrev Uz:D->D->OB:=Uy (λi j=>decide (i.length+j.length<=sizeLine)) λi j=>.str (i++j)
abbrev XR:D->D->OB:=Uy (λ_ _=>true) λi j=>.bl (!decide (j.cps.toList<i.cps.toList))
def O9:dS X (binaryOp .Add) (rD X.K Uz):=by
 refine jw Bv λx y H Q q=>?_;obtain⟨B,dx,T,d,b,G,M,O,e,q⟩:=q;cases M<;>try (cases e)
 cases O<;>try (cases e)
 rename_i i j;simp only[Uy]at e;split at e
 .rename_i hc;cases e
  exact⟨i,j,rr,rr,Vh hc,q.one G (.str _)⟩
 simp_all
def R7:dS X (compareOp .LtE) (rD X.K XR):=by
 intro ak s σ H x y v u Q I G M q;obtain⟨B,dx,a,d,b,O,T,U,e,q⟩:=q;cases T<;>try (cases e)
 cases U<;>try (cases e;done)
 cases e
 obtain⟨t,rfl⟩:=G;obtain⟨t',rfl⟩:=M;exact PySem.P.le_str ⟨.bl _,H,I,rr,q.one O (.bl _)⟩
end
section
variable {X:Cx}{a b c e:Expr}{pos:Pos}{st:Stmt}{rest:List Stmt}
def fP:vy X [] aQ:=uC.to Kh λ_ _ _ h=>GK h
def ao (h1:JS X st g)(h2:vy X rest h):vy X (st::rest) (a0 g h):=uC.to (Gp h1 h2) λ_ _ _ q=>K8 q
def ba (h1:JS X st g):vy X [st] g:=Ki h1
def gg {c:Expr}{a b:List Stmt}{G:FT}{g h:FS}(hc:JT X c G)(ha:vy X a g)(hb:vy X b h):JS X (.If c a b pos) (cU G g h):=PS.to (QO hc ha hb) λ_ _ _ q=>O3 q
def GS (he:JE X e f):JS X (.Return (some e) pos) (aE f):=PS.to (Gq he) λ_ _ _ q=>K9 q
def i6 (i:Nat)(G:PE X (.Name x p) (qG i):=by exact pv):JS X (.Return (some (.Name x p)) pos) (io i):=PS.to (Gq G) λ_ _ _ q=>GL q
def aC (G:X.N.Nodup)(he:JE X e f)(hi:X.N[i]? = some x:=by rfl)(hx:JU X.env.scope x:=by first|exact Or.inl rr|exact Or.inr rr)(hs:swapsWith e (some (.Name x p)) pos.line X.env=pure false:=by rfl)
  (hf:X.fn x=true\/X.env.scope.names.lookup x=some .local:=by first|exact .inl rr|exact .inr rr):JS X (.Assign [.Name x p] e pos) (aS i f):=PS.to (xy G hi hx he hs hf) λ_ _ _ q=>CY q
def KR (G:X.N.Nodup)(he:JE X e f)(hi:X.N[i]? = some x:=by rfl)(hx:JU X.env.scope x:=by first|exact Or.inl rr|exact Or.inr rr)(hs:swapsWith e (some (.Name x p)) pos.line X.env=pure false:=by rfl)
  (hf:X.fn x=true\/X.env.scope.names.lookup x=some .local:=by first|exact .inl rr|exact .inr rr):JS X (.Assign [.Name x p] e pos) (CW i f):=PS.to (xy G hi hx he hs hf) λ_ _ _ q=>GN q
def rG (n:Nat)(hp:PassesOwn (model X.prog X.w) X.A X.env X.xe)(hc:JT X c M)(hb:vy X G g):JS X (.While c G [] pos) (cJ M g n):=PS.to (Gs hp hc hb) λ_ _ _ q=>EU q
def OA (hp:PassesOwn (model X.prog X.w) X.A X.env X.xe)(hc:X.calm=true)(hi:JI X tg T fi)(G:PG X tg t)(M:KE X.K U t)(hb:vy X O g)
  (hs:∀x,foldedSetIterable T X.env x=pure x:=by intro _;rfl):JS X (.For tg T O [] pos) (nu fi U g):=PS.to (Gw hp hc hi G hb hs) λ_ _ _ q=>KG M q
def KS (hp:PassesOwn (model X.prog X.w) X.A X.env X.xe)(hc:X.calm=true)(hi:PI X tg T (T1 X.K fi))(G:PG X tg t)(M:KE X.K U t)(hb:vy X O g)
  (hs:∀x,foldedSetIterable T X.env x=pure x:=by intro _;rfl):JS X (.For tg T O [] pos) (nv fi U g):=PS.to (Gw hp hc hi G hb hs) λ_ _ _ q=>GO M q
def hZ (he:JE X e f)(U:PE X (.Name x p) (qG i):=by exact pv)
  (G:attributeBase (.Name x p) "append" X.env (eval (.Name x p) X.env)=eval (.Name x p) X.env:=by rfl)
  (O:((backTo cf (starEach [e] X.env)).all (λx=>!x.1) && (backToKw cf (keywordEach [] X.env)).all (λx=>x.1.isSome)
   && decide ([e].length+([]:List Keyword).length+(if([]:List Keyword).isEmpty then 0 else 1)<30))=true:=by rfl)
  (M:(dn.endLine == cf.line)=true:=by rfl) (hs:starEach [e] X.env=[(false,eval e X.env)]:=by rfl) (T:swapsWith (.Call (.Attribute (.Name x p) "append" dn) [e] [] cf) none pos.line X.env=pure false:=by rfl):
  JS X (.Expr (.Call (.Attribute (.Name x p) "append" dn) [e] [] cf) pos) (ju i f):=by
 refine PS.to (CK (yV plainAttrs_list PySem.F.slot_list_append PySem.F.type_list_append vq U (eB he gD hs) G O M hs rr) T) λE σ H q=>?_;obtain⟨a,us,h1,h2,k⟩:=KA q;exact⟨_,h1,.inl ⟨rr,us,gB.of h2⟩,k⟩
end
@[simp] noncomputable def aB (g:FS)(n k:Nat):LD->OB:=λds=>if ds.length=n then
 match g (ds.map (λd=>some (d,false))++List.replicate k none) with
 |some (.rt d b)=>some (d,b)
 |some (.nx _)=>some (.non,false)
 |_=>none
 else none
def GU (K:Frag)(f:LD->OB):Sp:=λvs H Q _=>∃(B:Hp)(ds:LD)(d:D)(b:Bool),(aX B H/\Tb K B)/\IsL K B vs ds/\f ds=some (d,b)/\Fin K B H d b Q
def rH {K:Frag}{B H:Hp}{vs:LV}{ds:LD}{N:LS}(M:aX B H)(tb:Tb K B)(i:IsL K B vs ds):eI K B H B H (L2.mn N vs) (ds.map (λd=>some (d,false))++List.replicate (N.length - vs.length) none):=by
 have G:∀(j:Nat)(d:D)(b:Bool),(ds.map (λd=>some (d,false))++List.replicate (N.length - vs.length) none:Env)[j]? = some (some (d,b))->b=false/\ds[j]? = some d:=λj d b e=>by
  by_cases hj:j<ds.length
  .rw[getElem?_append_left (by simpa using hj),uZ]at e;obtain⟨d',h1,h2⟩:=oY e;cases h2
   exact⟨rr,h1⟩
  .rw[getElem?_append_right (by simpa using Nat.not_lt.mp hj),List.getElem?_replicate]at e;split at e<;>cases e
 have O:∀a,¬own (L2.mn N vs) (ds.map (λd=>some (d,false))++List.replicate (N.length - vs.length) none) a:=λa ⟨j,d,h,_⟩=>by
  obtain⟨z,_⟩:=G j d true h;cases z
 refine⟨M,tb,.refl M,?_,λj d e=>?_,λj d e=>?_,λj k a d e h=>?_⟩
 .unfold L2.mn;rw[uY,uY,vI,vI,length_replicate,length_replicate,i.length]
 .obtain⟨_,T⟩:=G j d false e;obtain⟨v,h1,h2⟩:=i.get T;refine⟨v,?_,h2.mono λa o e=>by rw[df (O a)];exact e⟩;unfold L2.mn;have hj :=(vV h1).1;rw[getElem?_append_left (by simpa using hj),uZ,h1]<;>rfl
 .obtain⟨z,_⟩:=G j d true e;cases z
 .obtain⟨z,_⟩:=G j d true h;cases z
section
variable {P:Program}{w:World}{K:Frag}{mg:SV}{base:Heap}
def R8 {x qual:Str}{st:Stmt}{f:Addr}{fd:FuncData}{N ps:LS}{k:Nat}{g:FS}(F:Qb K x qual st f fd)(S:FnScope N ps (aJ st))
  (hb:∀(dG:Value)(A:Around)(outer:List PySem.Env)(s:Shared)(H:Hp)(E:XK),ft k (A.deeper (envOfC qual (aJ st) s.heap.objs.size f dG))->vy (oM yL P w K mg base N qual (aJ st) f dG A outer s H E).nox (ca st) g):
  oE P w K mg base yL (k+1) f fd ps (GU K (aB g ps.length (N.length - ps.length))):=by
 have len:∀vs H Q E,GU K (aB g _ (N.length - ps.length)) vs H Q E->vs.length=ps.length:=λvs H Q E h=>by
  obtain⟨B,ds,d,b,M,i,e,q⟩:=h;unfold aB at e;split at e
  .rename_i hl;rw[i.length];exact hl
  simp_all
 refine F.ok S len λdG A outer s H vs Q E U h=>⟨_,hb _ A _ s H E U,?_⟩;have G:=len vs H Q E h;obtain⟨B,ds,d,b,M,i,e,q⟩:=h;unfold aB at e;rw[if_pos (by rw[<-i.length];exact G)]at e;have O:=rH (N:=N) M.1 M.2 i;rw[G]at O;split at e
 .rename_i d' b' T;cases e
  exact⟨B,H,_,_,⟨B,O⟩,T,λv H' N' a c j=>q v H' N' a c j⟩
 .rename_i ρ' T;cases e
  exact⟨B,H,_,_,⟨B,O⟩,T,λl H' ⟨N',s'⟩=>q _ H' N' s'.ext .non X9⟩
 simp_all
structure Fn (P:Program)(w:World)(K:Frag)(mg:Str->Option Value)(base:Heap)(k:Nat)(x:Str)(f:List D->OB):Prop where
 ex:∃(ad:Addr)(fd:FuncData)(ps:List Str),oE P w K mg base yL k ad fd ps (GU K f)/\mg x=some (.ref ad)/\PySem.W.keepIn K (.ref ad)=true/\pQ K fd ps []
def Fn.mono (F:Fn P w K mg base j x f)(h:j<=k):Fn P w K mg base k x f:=by
 obtain⟨ad,fd,ps,G,h2⟩:=F.ex;exact⟨ad,fd,ps,G.mono h,h2⟩
end
def CZ (F:Fn X.prog X.w X.K X.mg X.base k x f)(T:ft k X.A)(ha:JA X (e::es) fa)(U:Gl X x:=by rfl)
  (G:(x == ("__debug__" : Str))=false:=by decide) (he:starEach (e::es) X.env=(false,eval e X.env)::starEach es X.env:=by rfl) (M:(backTo pos (starEach es X.env)).any (·.1)=false:=by rfl):
  JE X (.Call (.Name x p) (e::es) [] pos) (fA f fa):=by
 obtain⟨ad,fd,ps,a,hm,hk,hb⟩:=F.ex;refine PE.to (CP a T U hm hk hb .nil MU ha G he M) λσ H Q q=>?_;obtain⟨B,ρ,d,b,s,r,e,q⟩:=q;obtain⟨ds,ex,e⟩:=oX e;exact⟨B,ρ,ds,s,r,ex,λvs c N1 O i1=>by
  show GU _ f _ c Q _;rw[uP];exact⟨N1,ds,d,b,⟨O.nh,r.tb.mono O.bn⟩,i1,e,q.into O⟩⟩
mutual
@[simp] def fy:D->D->Bool
 |.non,.non=>true
 |.bl a,.bl b=>a == b
 |.bl a,.int b=>decide ((if a then 1 else 0)=b)
 |.int a,.bl b=>decide (a=(if b then 1 else 0))
 |.int a,.int b=>decide (a=b)
 |.str a,.str b=>decide (a=b)
 |.tup xs,.tup ys=>kM xs ys
 |.lst xs,.lst ys=>kM xs ys
 |_,_=>false
@[simp] def kM:LD->LD->Bool
 |[],[]=>true
 |x::xs,y::ys=>fy x y && kM xs ys
 |_,_=>false
end
@[simp] theorem zk (a:Str)(b:Str):fy (.str a) (.str b)=decide (a=b):=by simp only[fy]
@[simp] noncomputable def bc:Nat->D->Bool
 |_,.non=>true
 |_,.bl _=>true
 |_,.int _=>true
 |_,.str _=>true
 |_,.ty _=>false
 |_,.dk _ _=>false
 |_,.dt _ _=>false
 |0,.tup _=>false
 |0,.lst _=>false
 |n+1,.tup ds=>ds.all (bc n)
 |n+1,.lst ds=>ds.all (bc n)
theorem zm:∀ {xs ys:LD},kM xs ys=true->xs.length=ys.length
 |[],[],_=>rr
 |x::xs,y::ys,h=>by
  simp  [kM,vB]at h;rw[vC,vC,zm h.2]
 |[],_::_,h=>by simp  at h
 |_::_,[],h=>by simp  at h
def xM (h:xs.length≠ys.length):kM xs ys=false:=by
 grind[zm]
theorem jS (f:Nat->Bool):∀ {xs ys:LD},xs.length=ys.length->(∀(j:Nat) x y,xs[j]? = some x->ys[j]? = some y->f j=fy x y)->(List.range xs.length).all f=kM xs ys
 |[],[],_,_=>by simp
 |x::xs,y::ys,hl,h=>by
  have e:=jS _   (by simpa using hl) λj a b h1 h2=>h (j+1) a b (by simpa using h1) (by simpa using h2);rw[vC,List.range_succ_eq_map,all_cons,List.all_map,kM,<-h 0 x y rr rr,<-e];rfl
 |[],_::_,hl,_=>by simp at hl
 |_::_,[],hl,_=>by simp at hl
section
variable {X:Cx}{ak:AO}{σ:St}{H:Hp}{s:Shared}
def Db (I:Inv X ak σ H s)(h1:jf X.K H a vs)(h2:gB X.K H a T):False:=by
 obtain⟨its,_,⟨o,e,c,_⟩,_⟩:=I.tuple h1;obtain⟨its',_,⟨o',G,M,O,_⟩,_⟩:=I.list h2;lia
def Dc (I:Inv X ak σ H s)(e:s.heap.get? a=some o)(d:o.data=.seq its n):(∀aL ob,H a≠some (.dK aL ob))/\∀aL,H a≠some (.dT aL):=by
 refine⟨λaL ob h=>?_,λaL h=>?_⟩
 .obtain⟨_,_,_,_,_,o',es,G,M,_,d',_⟩:=(show bJ _ _ H _ a _ from I.hok a _ h);simp_all
 .obtain⟨_,_,_,_,o',es,G,M,_,d',_⟩:=(show bJ _ _ H _ a _ from I.hok a _ h);simp_all
def zn (I:Inv X ak σ H s)(h1:jf X.K H a vs):(∀aL ob,H a≠some (.dK aL ob))/\∀aL,H a≠some (.dT aL):=by
 obtain⟨its,_,⟨o,e,c,n,d⟩,_⟩:=I.tuple h1;exact Dc I e d
def zo (I:Inv X ak σ H s)(h1:gB X.K H a vs):(∀aL ob,H a≠some (.dK aL ob))/\∀aL,H a≠some (.dT aL):=by
 obtain⟨its,_,p,_⟩:=I.list h1;obtain⟨o,e,c,n,d⟩:=p.isList;exact Dc I e d
def De (I:Inv X ak σ H s):∀(n:Nat){v:V}{d d':D},Is X.K H v d->Is X.K H v d'->bc n d=true->fy d d'=true:=by
 have G:∀ {p:D->Bool}(O:∀ {v:V}{d d':D},Is X.K H v d->Is X.K H v d'->p d=true->fy d d'=true) {vs:LV}{ds M:LD},IsL X.K H vs ds->IsL X.K H vs M->ds.all p=true->kM ds M=true:=by
  intro p O vs;induction vs with
  |nil=>intro ds M h h' _;cases h;cases h';rfl
  |cons v vs T=>
   intro ds M h h' hp;cases h with
   |cons h1 h2=>
    cases h' with
    |cons h3 h4=>
     rw[all_cons,vB]at hp;rw[kM,O h1 h3 hp.1,T h2 h4 hp.2];rfl
 intro n;induction n with
 |zero=>
  intro v d d' h h' hp;cases h<;>cases h'<;>first|(simp  at hp;done)|simp
 |succ n O=>
  intro v d d' h h' hp;cases h with
  |tup h1 h2=>
   cases h' with
   |tup h3 h4=>
    rw[I.tuple_inj h3 h1]at h4;exact G O h2 h4 (by simpa [bc]using hp)
   |lst h3 h4=>exact(Db I h1 h3).elim
   |dk h3 _ _=>exact((zn I h1).1 _ _ h3).elim
   |dt h3 _ _=>exact((zn I h1).2 _ h3).elim
  |lst h1 h2=>
   cases h' with
   |lst h3 h4=>
    rw[I.list_inj h3 h1]at h4;exact G O h2 h4 (by simpa [bc]using hp)
   |tup h3 h4=>exact(Db I h3 h1).elim
   |dk h3 _ _=>exact((zo I h1).1 _ _ h3).elim
   |dt h3 _ _=>exact((zo I h1).2 _ h3).elim
  |ty=>simp  at hp
  |dk=>simp  at hp
  |dt=>simp  at hp
  |_=>cases h'<;>simp
def zp {A:Around}{p:D->Bool}(e:∀ {O T:V}{d1 d2:D}{U a:Value},p d1=true->p d2=true->Is X.K H O d1->Is X.K H T d2->aU O U->aU T a->SeqAt.EqAt A s U a (fy d1 d2))
  {vs M:LV}{ds es:LD}{its G:LU}(i1:IsL X.K H vs ds) (i2:IsL X.K H M es) (b:bi vs its) (c:bi M G) (f:ds.all p=true) (p2:es.all p=true):
  ∀j (h1:j<its.toArray.size) (h2:j<G.toArray.size),SeqAt.EqAt A s its.toArray[j] G.toArray[j] (fy (ds.getD j .non) (es.getD j .non)):=by
 intro j h1 h2;rw[vH]at h1 h2;have l1:=b.length;have l2:=c.length;have g:=i1.length;have h:=i2.length;have k:j<vs.length:=N9
 have hw:j<M.length:=N9
 have hd:j<ds.length:=N9
 have he:j<es.length:=N9
 obtain⟨u,l,m⟩:=b.get (i:=j) (x:=vs[j]) (by simp );obtain⟨n,e2,o⟩:=c.get (i:=j) (x:=M[j]) (by simp );obtain⟨v,q,r⟩:=i1.get (i:=j) (d:=ds[j]) (by simp );obtain⟨w,t,y⟩:=i2.get (i:=j) (d:=es[j]) (by simp );grind
def xN {xs ys:LD}(j:Nat)(x y:D)(h1:xs[j]? = some x)(h2:ys[j]? = some y):fy (xs.getD j .non) (ys.getD j .non)=fy x y:=by
 simp[h1,h2]
abbrev U0 (A:Around)(s:Shared)(G M:Value)(b:Bool):Prop:=SeqAt.RcAt A s G M b/\SeqAt.EqAt A s G M b/\SeqAt.RcNeAt A s G M (!b)
def Df {G M:Addr}(rc:SeqAt.RcAt A s (.ref G) (.ref M) b)(O:SeqAt.RcNeAt A s (.ref G) (.ref M) (!b))(h:G=M->b=true):U0 A s (.ref G) (.ref M) b:=by
 grind[SeqAt.EqAt.same,SeqAt.EqAt.of_refs]
def zq (O:bc 0 d1=true)(p2:bc 0 d2=true)(i1:Is X.K H T d1)(i2:Is X.K H U d2)(M:aU T u1)(G:aU U u2):U0 A s u1 u2 (fy d1 d2):=by
 cases i1 with
 |non=>
  cases M
  cases i2 with
  |non=>cases G;rw[fy];exact⟨.none_none,.same _,.none_none⟩
  |bl b=>cases G;simp only[fy];exact⟨.none_bool _,.none_bool _,.none_bool _⟩
  |int b=>obtain⟨t',rfl⟩:=G;simp only[fy];exact⟨.none_int _ _,.none_int _ _,.none_int _ _⟩
  |str b=>obtain⟨t',rfl⟩:=G;simp only[fy];exact⟨.none_str _ _,.none_str _ _,.none_str _ _⟩
  |_=>simp at p2
 |bl a=>
  cases M
  cases i2 with
  |non=>cases G;simp only[fy];exact⟨.bool_none _,.bool_none _,.bool_none _⟩
  |bl b=>cases G;rw[fy];exact⟨.bool_bool _ _,.bool_bool _ _,.bool_bool _ _⟩
  |int b=>obtain⟨t',rfl⟩:=G;exact⟨.bool_int _ _ _,.bool_int _ _ _,.bool_int _ _ _⟩
  |str b=>obtain⟨t',rfl⟩:=G;simp only[fy];exact⟨.bool_str _ _ _,.bool_str _ _ _,.bool_str _ _ _⟩
  |_=>simp at p2
 |int a=>
  obtain⟨t,rfl⟩:=M;cases i2 with
  |non=>cases G;simp only[fy];exact⟨.int_none _ _,.int_none _ _,.int_none _ _⟩
  |bl b=>cases G;exact⟨.int_bool _ _ _,.int_bool _ _ _,.int_bool _ _ _⟩
  |int b=>obtain⟨t',rfl⟩:=G;exact⟨.int_int _ _ _ _,.int_int _ _ _ _,.int_int _ _ _ _⟩
  |str b=>obtain⟨t',rfl⟩:=G;simp only[fy];exact⟨.int_str _ _ _ _,.int_str _ _ _ _,.int_str _ _ _ _⟩
  |_=>simp at p2
 |str a=>
  obtain⟨t,rfl⟩:=M;cases i2 with
  |non=>cases G;simp only[fy];exact⟨.str_none _ _,.str_none _ _,.str_none _ _⟩
  |bl b=>cases G;simp only[fy];exact⟨.str_bool _ _ _,.str_bool _ _ _,.str_bool _ _ _⟩
  |int b=>obtain⟨t',rfl⟩:=G;simp only[fy];exact⟨.str_int _ _ _ _,.str_int _ _ _ _,.str_int _ _ _ _⟩
  |str b=>obtain⟨t',rfl⟩:=G;exact⟨.str_str _ _ _ _,.str_str _ _ _ _,.str_str _ _ _ _⟩
  |_=>simp at p2
 |_=>simp at O
def MZ (I:Inv X ak σ H s):∀(n:Nat){A:Around}{c d:V}{d1 d2:D}{f g:Value},A.units+n<cLine->bc n d1=true->bc n d2=true->Is X.K H c d1->Is X.K H d d2->aU c f->aU d g->U0 A s f g (fy d1 d2):=by
 intro n;induction n with
 |zero=>exact λ_ b p2 i1 i2 T a=>zq b p2 i1 i2 T a
 |succ n v=>
  intro A c d d1 d2 f g hu b p2 i1 i2 T a;have G:A.units<cLine:=N9
  have u:∀ {c d:V}{d1 d2:D}{f g:Value},bc n d1=true->bc n d2=true->Is X.K H c d1->Is X.K H d d2->aU c f->aU d g->SeqAt.EqAt A.in1 s f g (fy d1 d2):=λb p2 i1 i2 T a=>(v (A:=A.in1) (by show A.units+1+n<cLine;lia) b p2 i1 i2 T a).2.1;by_cases f2:bc 0 d2=true
  .by_cases f1:bc 0 d1=true
   .exact zq f1 f2 i1 i2 T a
   .cases i1 with
    |tup h1 k1=>
     cases T
     obtain⟨its,U,M,h⟩:=I.tuple h1;cases i2 with
     |non=>cases a;simp only[fy];exact⟨.tuple_none M G,.tuple_none M G,.tuple_none M G⟩
     |bl=>cases a;simp only[fy];exact⟨.tuple_bool _ M G,.tuple_bool _ M G,.tuple_bool _ M G⟩
     |int=>obtain⟨t,rfl⟩:=a;simp only[fy];exact⟨.tuple_int _ _ M G,.tuple_int _ _ M G,.tuple_int _ _ M G⟩
     |str=>obtain⟨t,rfl⟩:=a;simp only[fy];exact⟨.tuple_str _ _ M G,.tuple_str _ _ M G,.tuple_str _ _ M G⟩
     |_=>simp at f2
    |lst h1 k1=>
     cases T
     obtain⟨its,U,M,h⟩:=I.list h1;replace M:=M.isList;cases i2 with
     |non=>cases a;simp only[fy];exact⟨.list_none M G,.list_none M G,.list_none M G⟩
     |bl=>cases a;simp only[fy];exact⟨.list_bool _ M G,.list_bool _ M G,.list_bool _ M G⟩
     |int=>obtain⟨t,rfl⟩:=a;simp only[fy];exact⟨.list_int _ _ M G,.list_int _ _ M G,.list_int _ _ M G⟩
     |str=>obtain⟨t,rfl⟩:=a;simp only[fy];exact⟨.list_str _ _ M G,.list_str _ _ M G,.list_str _ _ M G⟩
     |_=>simp at f2
    |_=>simp at f1 b
  .cases i2 with
   |tup h2 k2=>
    cases a
    obtain⟨i,k,O,w⟩:=I.tuple h2;cases i1 with
    |tup h1 k1=>
     cases T
     obtain⟨its,U,M,h⟩:=I.tuple h1;rename_i m z es o vs ds;have he:=zp (A:=A.in1) (p:=bc n) u k1 k2 U k (by simpa using b) (by simpa using p2);have q:((List.range (min its.toArray.size i.toArray.size)).all (λj=>fy (ds.getD j .non) (es.getD j .non)) && its.toArray.size == i.toArray.size)=fy (.tup ds) (.tup es):=by
      rw[fy,vH,vH,<-U.length,<-k.length,k1.length,k2.length];by_cases hl:ds.length=es.length
      .rw[<-hl,Nat.min_self,beq_self_eq_true,Bool.and_true];exact jS _ hl λj x y r e2=>xN j x y r e2
      .rw[xM hl,beq_eq_false_iff_ne.mpr hl,Bool.and_false]
     have rc:=SeqAt.RcAt.tuples M O G he;have l:=SeqAt.RcNeAt.tuples M O G he;rw[q]at rc l;exact Df rc l λe=>by subst e;exact De I (n+1) (.tup h1 k1) (.tup h2 k2) b
    |lst h1 k1=>cases T;obtain⟨its,U,M,h⟩:=I.list h1;simp only[fy];exact⟨.list_tuple M.isList O G,.list_tuple M.isList O G,.list_tuple M.isList O G⟩
    |non=>cases T;simp only[fy];exact⟨.none_tuple O G,.none_tuple O G,.none_tuple O G⟩
    |bl=>cases T;simp only[fy];exact⟨.bool_tuple _ O G,.bool_tuple _ O G,.bool_tuple _ O G⟩
    |int=>obtain⟨t,rfl⟩:=T;simp only[fy];exact⟨.int_tuple _ _ O G,.int_tuple _ _ O G,.int_tuple _ _ O G⟩
    |str=>obtain⟨t,rfl⟩:=T;simp only[fy];exact⟨.str_tuple _ _ O G,.str_tuple _ _ O G,.str_tuple _ _ O G⟩
    |_=>simp at b
   |lst h2 k2=>
    cases a
    obtain⟨i,k,O,w⟩:=I.list h2;replace O:=O.isList;cases i1 with
    |lst h1 k1=>
     cases T
     obtain⟨its,U,M,h⟩:=I.list h1;replace M:=M.isList;rename_i m z es o vs ds;have he:=zp (A:=A.in1) (p:=bc n) u k1 k2 U k (by simpa using b) (by simpa using p2);have both:SeqAt.RcAt A s (.ref o) (.ref m) (fy (.lst ds) (.lst es))/\SeqAt.RcNeAt A s (.ref o) (.ref m) (!fy (.lst ds) (.lst es)):=by
      have hz:its.toArray.size=ds.length/\i.toArray.size=es.length:=by rw[vH,vH,<-U.length,<-k.length,k1.length,k2.length];simp
      by_cases hl:ds.length=es.length
      .have q:(List.range its.toArray.size).all (λj=>fy (ds.getD j .non) (es.getD j .non))=fy (.lst ds) (.lst es):=by
        rw[fy,hz.1];exact jS _ hl λj x y r e2=>xN j x y r e2
       have hs:=(hz.1.trans hl).trans hz.2.symm;have rc:=SeqAt.RcAt.lists M O hs G he;have l:=SeqAt.RcNeAt.lists M O hs G he;rw[q]at rc l;exact⟨rc,l⟩
      .have hs:(its.toArray.size != i.toArray.size)=true:=by simp_all
       rw[fy,xM hl];exact⟨.lists_lengths M O hs G,.lists_lengths M O hs G⟩
     exact Df both.1 both.2 λe=>by subst e;exact De I (n+1) (.lst h1 k1) (.lst h2 k2) b
    |tup h1 k1=>cases T;obtain⟨its,U,M,h⟩:=I.tuple h1;simp only[fy];exact⟨.tuple_list M O G,.tuple_list M O G,.tuple_list M O G⟩
    |non=>cases T;simp only[fy];exact⟨.none_list O G,.none_list O G,.none_list O G⟩
    |bl=>cases T;simp only[fy];exact⟨.bool_list _ O G,.bool_list _ O G,.bool_list _ O G⟩
    |int=>obtain⟨t,rfl⟩:=T;simp only[fy];exact⟨.int_list _ _ O G,.int_list _ _ O G,.int_list _ _ O G⟩
    |str=>obtain⟨t,rfl⟩:=T;simp only[fy];exact⟨.str_list _ _ O G,.str_list _ _ O G,.str_list _ _ O G⟩
    |_=>simp at b
   |_=>simp at f2 p2
@[simp] def dA:D->D->OB:=λx y=>if bc 40 x=true/\bc 40 y=true then some (.bl (fy x y),false)else none
@[simp] def mB:D->D->OB:=λx y=>if bc 40 x=true/\bc 40 y=true then some (.bl (!fy x y),false)else none
def cA (hu:X.A.units+40<cLine):dS X (compareOp .Eq) (rD X.K dA):=by
 intro ak s σ H x y v u Q I M O q;obtain⟨B,dx,a,d,b,G,T,U,e,q⟩:=q;unfold dA at e;split at e
 .rename_i hp;cases e
  exact(MZ I 40 hu hp.1 hp.2 (T.mono G) (U.mono G) M O).1 _ _ _ _ ⟨.bl _,H,I,rr,q.one G (.bl _)⟩
 simp_all
def oS (hu:X.A.units+40<cLine):dS X (compareOp .NotEq) (rD X.K mB):=by
 intro ak s σ H x y v u Q I M O q;obtain⟨B,dx,a,d,b,G,T,U,e,q⟩:=q;unfold mB at e;split at e
 .rename_i hp;cases e
  exact(MZ I 40 hu hp.1 hp.2 (T.mono G) (U.mono G) M O).2.2 _ _ _ _ ⟨.bl _,H,I,rr,q.one G (.bl _)⟩
 simp_all
end
section
variable {X:Cx}{a b e:Expr}{pos:Pos}
def Dg {K:Frag}{H:Hp}{vs:LV}{ds:LD}{i:Int}{d:D}(h:IsL K H vs ds)(e:oH ds i=some d):∃v,oH vs i=some v/\Is K H v d:=by
 unfold oH at e |-;rw[h.length];cases q:JX _ i with
 |none=>rw[q]at e;cases e
 |some j=>rw[q]at e;exact h.get e
@[simp] def bv:D->D->OB
 |.lst ds,.int i=>(oH ds i).map λd=>(d,false)
 |.tup ds,.int i=>(oH ds i).map λd=>(d,false)
 |.str z,.int i=>if z.length<=sizeLine then (oH z.cps.toList i).map λc=>(.str ⟨#[c]⟩,false)else none
 |_,_=>none
def U1:G4 X (rD X.K bv):=by
 intro O T ak s σ H x y v u Q I U f q hs;obtain⟨B,dx,k,d,b,G,g,j,e,q⟩:=q;cases g<;>try (cases e)
 all_goals (cases j<;>try (cases e))
 .simp only[bv]at e;split at e
  .rename_i hz;obtain⟨c,M,e2⟩:=oY e;cases e2
   exact B2 _ _ _ s σ H _ _ v u Q I U f ⟨_,_,c,rr,rr,hz,M,q.one G (.str _)⟩ hs
  simp_all
 .rename_i h hl i;obtain⟨c,M,e2⟩:=oY e;cases e2
  obtain⟨w,h1,h2⟩:=Dg hl M;exact G6 _ _ _ s σ H _ _ v u Q I U f ⟨_,_,_,w,rr,rr,bu G h,h1,q.one G h2⟩ hs
 .rename_i h hl i;obtain⟨c,M,e2⟩:=oY e;cases e2
  obtain⟨w,h1,h2⟩:=Dg hl M;exact Kx _ _ _ s σ H _ _ v u Q I U f ⟨_,_,_,w,rr,rr,G.seq h,h1,q.one G h2⟩ hs
def aI (ha:JE X a fa)(hb:JE X b G)(hs:ng b:=by intro _ _;rfl):JE X (.Subscript a b pos) (f2 bv fa G):=PE.to (G5 U1 ha hb hs) λ_ _ _ h=>K5 h
abbrev FO:=Env->Option OI
def XS (K:Frag)(f:FO):TO:=λσ H Q=>∃(B:Hp)(ρ:Env)(o:OI),aX B H/\gz K B σ ρ/\f ρ=some o/\∀H',aX H H'->Q o H'
abbrev JO (X:Cx)(e:Option Expr)(f:FO):Prop:=PO X e (XS X.K f)
@[simp] noncomputable def fz:FO:=λ_=>some none
@[simp] noncomputable def eF (f:FE):FO:=λρ=>match f ρ with|some (.int i,_)=>some (some i)|_=>none
def gh:JO X none fz:=λak s σ H Q I h=>Ks _ s σ H Q I (by
 obtain⟨B,ρ,o,G,r,e,q⟩:=h;cases e
 exact q H (.refl H))
def gk (h:JE X e f):JO X (some e) (eF f):=λak s σ H Q I q=>Kt h _ s σ H Q I (by
 obtain⟨B,ρ,o,G,r,e,q⟩:=q;unfold eF at e;split at e
 .rename_i i b' M;cases e
  refine⟨B,ρ,_,_,G,r,M,λv O N1 T i1 _=>?_⟩;cases i1
  exact⟨i,rr,q O T.hh⟩
 simp_all)
def ia (ds:LD)(lo hi:OI):LD:=(ds.drop (HT.fu ds.length 0 lo)).take (HT.fu ds.length ds.length hi - HT.fu ds.length 0 lo)
def xO {K:Frag}{H:Hp}{vs:LV}{ds:LD}{lo hi:OI}(h:IsL K H vs ds):IsL K H (uE vs lo hi) (ia ds lo hi):=by
 unfold uE ia;rw[h.length];exact(h.drop _).take _
def bY.to (h:bY X f r)(k:∀xs H Q,G xs H Q->r xs H Q):bY X f G:=λak s σ H xs us Q I rs q=>h _ s σ H xs us Q I rs (k xs H Q q)
variable {es:QD}{x:Str}{p:Pos}{id T:String}
def aD (hc:bY X (.builtin id) (B7 X.K f))(hm:X.mg x=none)(O:bootBuiltins x=some (.builtin id))(ha:JA X (e::es) fa)(U:Gl X x:=by rfl)(hn:x ≠ "__name__":=by decide)(G:(x == ("__debug__" : Str))=false:=by decide)
  (he:starEach (e::es) X.env=(false,eval e X.env)::starEach es X.env:=by rfl) (M:(backTo pos (starEach es X.env)).any (·.1)=false:=by rfl):JE X (.Call (.Name x p) (e::es) [] pos) (fA f fa):=PE.to (ri hc U hm O ha hn G he M) λ_ _ _ h=>K6 h
def lL (hc:bY X (.type T) (B7 X.K f))(hm:X.mg x=none)(O:bootBuiltins x=some (.type T))(ha:JA X (e::es) fa)(U:Gl X x:=by rfl)(hn:x ≠ "__name__":=by decide)(G:(x == ("__debug__" : Str))=false:=by decide)
  (he:starEach (e::es) X.env=(false,eval e X.env)::starEach es X.env:=by rfl) (M:(backTo pos (starEach es X.env)).any (·.1)=false:=by rfl):JE X (.Call (.Name x p) (e::es) [] pos) (fA f fa):=PE.to (oN hc U hm O ha hn G he M) λ_ _ _ h=>K6 h
@[simp] noncomputable def cR:LD->OB
 |[.lst ds]=>some (.int ds.length,false)
 |[.tup ds]=>some (.int ds.length,false)
 |[.str z]=>if z.length<=sizeLine then some (.int z.length,false)else none
 |_=>none
def dB:bY X (.builtin "len") (B7 X.K cR):=by
 refine bY.to (bY.or xD xE) λxs H Q q=>?_;obtain⟨B,ds,d,b,G,i,e,q⟩:=q;cases i with
 |nil=>simp  at e
 |cons i1 i2=>
  cases i2 with
  |cons _ _=>cases i1<;>simp  at e
  |nil=>
   cases i1<;>try (simp  at e;done)
   .simp only[cR]at e;split at e
    .rename_i hz;cases e
     exact .inr ⟨_,rr,hz,q.one G (.int _)⟩
    simp_all
   .rename_i h hl;cases e
    refine .inl ⟨_,_,rr,.inr (bu G h),?_⟩;rw[hl.length];exact q.one G (.int _)
   .rename_i h hl;cases e
    refine .inl ⟨_,_,rr,.inl (G.seq h),?_⟩;rw[hl.length];exact q.one G (.int _)
def jA (hm:X.mg x=none)(G:bootBuiltins x=some (.type n))(M:Gl X x:=by rfl)(hn:x ≠ "__name__":=by decide)(hd:(x == ("__debug__" : Str))=false:=by decide):JE X (.Name x pos) (fC (.ty n)) :=
 PE.to (Kf M hm G (v:=.ty n) rr hn hd) λ_ _ _ h=>EW (λ_=>.ty n) h
end
def BC (G:ft k A):A.units+40<cLine:=by have:=G.un;lia
section
variable {X:Cx}{a b e:Expr}{pos:Pos}{x:Str}{p:Pos}
def dC (h:∃u v,X.mg x=some u/\aU v u/\∀B,Is X.K B v d)(G:Gl X x:=by rfl)(hd:(x == ("__debug__" : Str))=false:=by decide):JE X (.Name x pos) (fC d):=by
 obtain⟨u,v,hm,r,i⟩:=h;exact KN G hm r i hd
@[simp] noncomputable def R9:D->D->OB
 |.int i,.int j=>some (.int (i+j),false)
 |.str i,.str j=>if i.length+j.length<=sizeLine then some (.str (i++j),false)else none
 |_,_=>none
def KU:dS X (binaryOp .Add) (rD X.K R9):=by
 refine jw  (oR R1 O9) λx y H Q q=>?_;obtain⟨B,dx,G,d,b,M,O,T,e,q⟩:=q;refine⟨B,dx,G,d,b,M,O,T,?_,q⟩;cases dx<;>try (cases e)
 all_goals (cases G<;>try (done))
 all_goals simp_all[Qu]
@[simp] def mC:D->D->OB:=Rz
def mD:dS X (binaryOp .Mult) (rD X.K mC):=R5
@[simp] def Dh:D->D->OB:=Wp
def pT:dS X (compareOp .Lt) (rD X.K Dh):=Uw
@[simp] noncomputable def qR:D->D->OB
 |.int i,.int j=>some (.bl (decide (i<=j)),false)
 |.str i,.str j=>some (.bl (!decide (j.cps.toList<i.cps.toList)),false)
 |_,_=>none
def ir:dS X (compareOp .LtE) (rD X.K qR):=by
 refine jw  (oR Ux R7) λx y H Q q=>?_;obtain⟨B,dx,G,d,b,M,O,T,e,q⟩:=q;refine⟨B,dx,G,d,b,M,O,T,?_,q⟩;cases dx<;>try (cases e)
 all_goals (cases G<;>try (done))
 all_goals simp_all[Qu]
@[simp] noncomputable def zr:D->OB
 |.int i=>some (.int (-i),false)
 |_=>none
def GV:QT X (unaryOp .USub) (Ut X.K zr):=by
 intro ak s σ H x v Q I G q;obtain⟨B,dx,d,b,M,O,e,q⟩:=q;cases O<;>try (simp  at e;done)
 cases e
 exact Ol _ s σ H _ v Q I G ⟨_,rr,q.one M (.int _)⟩
@[simp] noncomputable def GW:D->D->Option Bool
 |.non,.non=>some true
 |_,.non=>some false
 |.bl a,.bl b=>some (a == b)
 |_,.bl _=>some false
 |_,_=>none
@[simp] def Bn:D->D->OB:=λx y=>(GW x y).map λb=>(.bl b,false)
@[simp] def jT:D->D->OB:=λx y=>(GW x y).map λb=>(.bl (!b),false)
def Di {K:Frag}{B:Hp}{x y:V}{v u:Value}{dx G:D}{k:Bool}(O:Is K B x dx)(T:Is K B y G)(M:aU x v)(U:aU y u)(e:GW dx G=some k):plainIs v u=true/\(v == u)=k:=by
 cases T<;>(first|(cases dx<;>simp  at e;done)|skip)
 all_goals (cases O)
 all_goals (first|(obtain⟨t,rfl⟩:=M)|cases M)
 all_goals (cases U)
 all_goals (simp only[GW,Option.some.injEq]at e;subst e)
 all_goals (first|exact⟨rr,rr⟩|skip)
 all_goals (rename_i c d;cases c<;>cases d<;>exact⟨rr,rr⟩)
def xP:dS X (compareOp .Is) (rD X.K Bn):=by
 intro ak s σ H x y v u Q I G M q;obtain⟨B,dx,c,d,b,O,T,U,e,q⟩:=q;obtain⟨k,ek,e⟩:=oY e;cases e
 obtain⟨h1,h2⟩:=Di T U G M ek;refine wpAny_is_plain h1 ⟨.bl k,H,I,by rw[h2];rfl,q.one O (.bl _)⟩
def nB:dS X (compareOp .IsNot) (rD X.K jT):=by
 intro ak s σ H x y v u Q I G M q;obtain⟨B,dx,c,d,b,O,T,U,e,q⟩:=q;obtain⟨k,ek,e⟩:=oY e;cases e
 obtain⟨h1,h2⟩:=Di T U G M ek;refine wpAny_isNot_plain h1 ⟨.bl _,H,I,by rw[h2];rfl,q.one O (.bl _)⟩
@[simp] noncomputable def jB:D->Bool
 |.non=>true|.bl _=>true|.int _=>true|.str _=>true
 |_=>false
noncomputable def GX (x:D)(ds:LD):Bool:=ds.any λy=>fy y x
@[simp] noncomputable def iu:D->Option LD
 |.lst ds=>some ds
 |.tup ds=>some ds
 |_=>none
@[simp] def yM:D->D->OB:=λx y=>(iu y).bind λds=>if jB x=true/\ds.all jB=true then some (.bl (GX x ds),false)else none
@[simp] def dZ:D->D->OB:=λx y=>(iu y).bind λds=>if jB x=true/\ds.all jB=true then some (.bl (!GX x ds),false)else none
def rJ {K:Frag}{B:Hp}{v:V}{d:D}(i:Is K B v d)(h:jB d=true):mo v=true:=by
 cases i<;>first|rfl|(simp  at h)
def U2 {K:Frag}{B:Hp}{v w:V}{d e:D}(i:Is K B v d)(j:Is K B w e)(h:jB d=true)(h':jB e=true):Kz v w=fy d e:=by
 cases i<;>(first|(simp  at h)|skip)
 all_goals (cases j<;>(first|(done)|skip))
 all_goals rfl
theorem zt {K:Frag}{B:Hp}:∀ {vs:LV}{ds:LD},IsL K B vs ds->ds.all jB=true->vs.all mo=true
 |_,_,.nil,_=>rr
 |_,_,.cons i t,h=>by
  rw[all_cons,vB]at h;rw[all_cons,rJ i h.1,zt t h.2];rfl
theorem GY {K:Frag}{B:Hp}{v:V}{d:D}(j:Is K B v d)(hd:jB d=true):∀ {vs:LV}{ds:LD},IsL K B vs ds->ds.all jB=true->Tz v vs=GX d ds
 |_,_,.nil,_=>rr
 |_,_,.cons i t,h=>by
  rw[all_cons,vB]at h;have e:=GY j hd t h.2;unfold Tz GX at *;rw[any_cons,any_cons,e,U2 i j h.1 hd]
def pU:dS X (compareOp .In) (rD X.K yM):=by
 refine jw EM λx y H Q q=>?_;obtain⟨B,dx,T,d,b,G,M,O,e,q⟩:=q;obtain⟨ds,es,e⟩:=oX e;split at e
 .rename_i hf;cases e
  cases O<;>simp  [iu]at es<;>try (cases es;done)
  .rename_i h hl;cases es
   exact⟨_,_,rr,.inr (bu G h),rJ M hf.1,zt hl hf.2,by rw[GY M hf.1 hl hf.2];exact q.one G (.bl _)⟩
  .rename_i h hl;cases es
   exact⟨_,_,rr,.inl (G.seq h),rJ M hf.1,zt hl hf.2,by rw[GY M hf.1 hl hf.2];exact q.one G (.bl _)⟩
 simp_all
def jC:dS X (compareOp .NotIn) (rD X.K dZ):=by
 refine jw xC λx y H Q q=>?_;obtain⟨B,dx,T,d,b,G,M,O,e,q⟩:=q;obtain⟨ds,es,e⟩:=oX e;split at e
 .rename_i hf;cases e
  cases O<;>simp  [iu]at es<;>try (cases es;done)
  .rename_i h hl;cases es
   exact⟨_,_,rr,.inr (bu G h),rJ M hf.1,zt hl hf.2,by rw[GY M hf.1 hl hf.2];exact q.one G (.bl _)⟩
  .rename_i h hl;cases es
   exact⟨_,_,rr,.inl (G.seq h),rJ M hf.1,zt hl hf.2,by rw[GY M hf.1 hl hf.2];exact q.one G (.bl _)⟩
 simp_all
def dr:bootBuiltins "len" = some (.builtin "len"):=PySem.boot_len
def bO:bootBuiltins "isinstance" = some (.builtin "isinstance"):=H9
def RA:bootBuiltins "max" = some (.builtin "max"):=H9
def RB:bootBuiltins "min" = some (.builtin "min"):=H9
def zu:bootBuiltins "all" = some (.builtin "all"):=H9
def RC:bootBuiltins "int" = some (.type "int"):=H9
def OC:bootBuiltins "bool" = some (.type "bool"):=H9
def GZ:bootBuiltins "str" = some (.type "str"):=H9
def rK:bootBuiltins "list" = some (.type "list"):=H9
def jh:bootBuiltins "tuple" = some (.type "tuple"):=H9
@[simp] noncomputable def OD:LD->OB
 |[.int i,.int j]=>some (.int (if j > i then j else i),false)
 |_=>none
@[simp] noncomputable def OE:LD->OB
 |[.int i,.int j]=>some (.int (if j<i then j else i),false)
 |_=>none
def zv {K:Frag}{B:Hp}{xs:LV}{i j:Int}(h:IsL K B xs [.int i,.int j]):xs=[.int i,.int j]:=by
 cases h with
 |cons h1 h2=>cases h1;cases h2 with|cons h3 h4=>cases h3;cases h4;rfl
def RD (hc:X.calm=true:=by rfl):bY X (.builtin "max") (B7 X.K OD):=by
 refine bY.to (EI hc) λxs H Q q=>?_;obtain⟨B,ds,d,b,G,i,e,q⟩:=q;match ds,e with
 |[.int M,.int O],e=>cases e;exact⟨M,O,zv i,q.one G (.int _)⟩
def RE (hc:X.calm=true:=by rfl):bY X (.builtin "min") (B7 X.K OE):=by
 refine bY.to (EJ hc) λxs H Q q=>?_;obtain⟨B,ds,d,b,G,i,e,q⟩:=q;match ds,e with
 |[.int M,.int O],e=>cases e;exact⟨M,O,zv i,q.one G (.int _)⟩
@[simp] noncomputable def jx:D->String
 |.non=>"NoneType" | .bl _=>"bool" | .int _=>"int" | .str _=>"str" | .ty _=>"type" | .tup _=>"tuple" | .lst _=>"list" | .dk _ _=>"dict" | .dt _ _=>"dict"
@[simp] noncomputable def BD:D->Bool
 |.ty _=>true
 |_=>false
@[simp] noncomputable def Dj (t n:String):OB :=
 if n = "int" then some (.bl (t == "int" || t == "bool"),false)else if n = "bool" then some (.bl (t == "bool"),false)else if n = "str" then some (.bl (t == "str"),false)
 else if n = "list" then some (.bl (t == "list"),false)else if n = "tuple" then some (.bl (t == "tuple"),false)else none
@[simp] def bQ:LD->OB
 |[d,.ty n]=>if BD d=true then none else Dj (jx d) n
 |_=>none
def KW {ak:AO}{σ:St}{H:Hp}{s:Shared}{A:Around}{E:QV}{Q:QV}{c:Value}{b:Bool}{v:V}{d:D}{u:Value}(I:Inv X ak σ H s)(i:Is X.K H v d)(hd:∀n,d≠.ty n)(G:aU v u)(e:PySem.W.kitOne X.K (.type (jx d)) c=some b)(h:∀tk,Q (.bool b) { s with toks:=tk }):
  wpAny (model X.prog X.w) A (call (.builtin "isinstance") [u,c]) Q E s:=by
 cases i with
 |non=>exact iA I G .non e h
 |bl y=>exact iA I G (.bl y) e h
 |int y=>exact iA I G (.int y) e h
 |str y=>exact iA I G (.str y) e h
 |ty n=>exact absurd rr (hd n)
 |dk h1 _ _=>exact iA I G (.dK h1) e h
 |dt h1 _ _=>exact iA I G (.dT h1) e h
 |tup M _=>
  cases G
  obtain⟨its,_,⟨o,h1,h2,_⟩,_⟩:=I.tuple M;exact kia_one PySem.W.kitx_tuple I.kIn ⟨o,h1,h2⟩ e (λz=>nomatch z) h
 |lst hl _=>
  cases G
  obtain⟨its,_,⟨o,n,h1,h2,_⟩,_⟩:=I.list hl;exact kia_one PySem.W.kitx_list I.kIn ⟨o,h1,h2⟩ e (λz=>nomatch z) h
def Ha (K:Frag)(d:D)(hd:∀n,d≠.ty n):
  PySem.W.kitOne K (.type (jx d)) (.type "int")=some (jx d == "int" || jx d == "bool")/\PySem.W.kitOne K (.type (jx d)) (.type "bool")=some (jx d == "bool")/\PySem.W.kitOne K (.type (jx d)) (.type "str")=some (jx d == "str") /\
   PySem.W.kitOne K (.type (jx d)) (.type "list")=some (jx d == "list")/\PySem.W.kitOne K (.type (jx d)) (.type "tuple")=some (jx d == "tuple"):=by
 cases d<;>(first|exact absurd _ _|skip)
 all_goals (refine⟨?_,?_,?_,?_,?_⟩<;>kernel_rfl)
def bU:bY X (.builtin "isinstance") (B7 X.K bQ):=by
 intro ak s σ H xs us Q I rs q;obtain⟨B,ds,d,b,G,i,e,q⟩:=q;cases i with
 |nil=>cases e
 |cons i1 i=>cases i with
 |nil=>cases e
 |cons i2 i=>
  cases i2<;>try (cases e)
  cases i<;>try (cases e)
  rename_i dx n;obtain⟨U,c,rfl,M,O⟩:=CN rs;cases O
  simp only[bQ]at e;split at e
  .cases e
  .rename_i T;have hd:∀n,dx≠.ty n:=λn z=>by subst z;exact T rr
   obtain⟨k1,k2,k3,k4,k5⟩:=Ha X.K dx hd;have ii:∀ {k:Bool},PySem.W.kitOne _ _ (.type n)=some k->Fin X.K B H _ _ Q->wpAny _ X.A _ (EP X _ σ Q) X.xe s:=λ{k} hk q=>
    KW I (i1.mono G) hd M hk λtk=>⟨.bl k,H,I.tok tk,rr,q.one G (.bl k)⟩
   unfold Dj at e;grind
@[simp] def Hb (f:FE):FA:=λρ=>(f ρ).bind λx=>iu x.1
def Dk (h:JE X e f):JI X tg e (Hb f):=by
 intro ak s σ H R I q;obtain⟨B,ρ,ds,c,r,g,q⟩:=q;obtain⟨x,ex,es⟩:=oX g;obtain⟨xd,k⟩:=x;cases xd<;>simp  [iu]at es<;>try (cases es;done)
 .cases es
  refine Oa h _ s σ H R I ⟨B,ρ,_,_,c,r,ex,λv U N1 O i1 _=>?_⟩;cases i1 with
  |@tup a vs _ M hl=>
   refine⟨a,rr,⟨vs,bu O.nh M⟩,q _ U N1 O λi H2 s2=>⟨λd ed=>?_,λG=>⟨vs,bu s2 M,by rw[hl.length];exact G⟩⟩⟩;obtain⟨v,T,iv⟩:=hl.get ed;refine⟨⟨vs,v,bu s2 M,T⟩,λy j hy=>?_⟩;obtain⟨rfl,hy⟩:=hy;have:=hy vs (bu s2 M);rw[T]at this;cases this;exact⟨N1,.refl s2,iv⟩
 .cases es
  refine Kj h _ s σ H R I ⟨B,ρ,_,_,c,r,ex,λv U N1 O i1 _=>?_⟩;cases i1 with
  |@lst a vs _ M hl=>
   refine⟨a,rr,⟨vs,O.nh.seq M⟩,q _ U N1 O λi H2 s2=>⟨λd ed=>?_,λG=>⟨vs,s2.seq M,by rw[hl.length];exact G⟩⟩⟩;obtain⟨v,T,iv⟩:=hl.get ed;refine⟨⟨vs,v,s2.seq M,T⟩,λy j hy=>?_⟩;obtain⟨rfl,hy⟩:=hy;have:=hy vs (s2.seq M);rw[T]at this;cases this;exact⟨N1,.refl s2,iv⟩
noncomputable def iM (lo:Int)(n:Nat):LD:=(List.range n).map λ(k:Nat)=>.int (lo+(k:Int))
def Hd {K:Frag}{B:Hp}(lo:Int)(n:Nat):nq K (Tv lo n) B (iM lo n):=by
 intro i H s;unfold iM;refine⟨λd ed=>?_,λhl=>by rw[vI,length_range]at hl;exact hl⟩;rw[uZ]at ed;obtain⟨k,ek,ed⟩:=oY ed;have hk:=vV ek;obtain⟨G,hk⟩:=hk;rw[length_range]at G;rw[List.getElem_range]at hk;subst hk;subst ed;refine⟨G,λx H' hy=>?_⟩;obtain⟨rfl,rfl⟩:=hy;exact⟨B,.refl s,.int _⟩
@[simp] def ib (f:FE):FA:=λρ=>match f ρ with
 |some (.int j,_)=>if -1000<=j/\j<=1000 then some (iM 0 j.toNat)else none
 |_=>none
def kU (hm:X.mg "range" = none)(h:JE X a f)(M:Gl X "range":=by rfl)(hs:starEach [a] X.env=[(false,eval a X.env)]:=by rfl):PI X tg (.Call (.Name "range" p) [a] [] pos) (T1 X.K (ib f)):=by
 refine PI.to (EF M hm (ag h am hs) hs) λσ H R q=>?_;obtain⟨B,ρ,ds,O,r,G,q⟩:=q;unfold ib at G;split at G
 .rename_i j b' T;split at G
  .cases G
   refine⟨B,ρ,[.int j],O,r,by simp[T],λvs U N1 c i1=>?_⟩;cases i1 with
   |cons i1 i2=>
    cases i1;cases i2
    exact⟨j,rr,N9,N9,q _ U N1 c λ_=>Hd 0 _⟩
  simp_all
 simp_all
def zw (hm:X.mg "range" = none)(h:JE X a f)(G:Gl X "range":=by rfl)(hs:starEach [a] X.env=[(false,eval a X.env)]:=by rfl):JI X tg (.Call (.Name "range" p) [a] [] pos) (ib f) :=
 PI.to (kU hm h G hs) λσ H R ⟨B,ρ,ds,M,r,O,q⟩=>⟨B,ρ,ds,M,r,O,λJ H' N x h=>q J H' N x (h _)⟩
end
def cG (K:Frag)(x:Str)(st:Stmt):Prop:=∃(f:Addr)(fd:FuncData),Qb K x x st f fd/\nsIn K mainGlobals x=some (some (.ref f))
def def_mk {K:Frag}{x:Str}{st:Stmt}{f:Addr}{oc:Value}{od an:Option Addr}{ma:Array (Option Value)}{kV doc pm dG ct:Value}(a:nsIn K mainGlobals x=some (some (.ref f)))
  (l:K.lookup f=some ⟨oc,od,.func (fnOf x x (eC st) (ca st) (aJ st) .none kV doc pm an dG ct),ma⟩) (c:PySem.W.codeIn K dG x=true) (k:PySem.W.keepIn K (.ref f)=true):cG K x st:=⟨f,_,Ov l c k,a⟩
section
variable {P:Program}{w:World}{K:Frag}{mg:SV}{base:Heap}
def cG.fn {x:Str}{st:Stmt}{N ps:LS}{k:Nat}{g:FS}{h:Heap}(F:cG K x st)(X:K.In h)(G:h.Ns mainGlobals mg)(S:FnScope N ps (aJ st))
  (M:∀(kV doc pm:Value)(an:Option Addr)(dG ct:Value)(us:LU),us.length=ps.length->bindArgs (fnOf x x (eC st) (ca st) (aJ st) .none kV doc pm an dG ct) ⟨us,[]⟩=pure (ps.zip us))
  (hb:∀(f:Addr)(dG:Value)(A:Around)(outer:List PySem.Env)(s:Shared)(H:Hp)(E:XK),ft k (A.deeper (envOfC x (aJ st) s.heap.objs.size f dG))->vy (oM yL P w K mg base N x (aJ st) f dG A outer s H E).nox (ca st) g):
  Fn P w K mg base (k+1) x (aB g ps.length (N.length - ps.length)):=by
 obtain⟨f,fd,O,a⟩:=F;exact⟨f,fd,ps,R8 O S (hb f),mg_of X G a,O.kp,O.binds M⟩
end
def RF (H:Hp):Prop:=∀b,H b=none\/(∃o xs,H b=some (.frz o (.lst xs)))\/∃q,H b=some (.tbl q)
noncomputable def rL (M:List (Addr×Str))(G:Hp):Hp:=λb=>match M.lookup b with|some q=>some (.tbl q)|none=>G b
def gW (e:M.lookup b=some q):rL M G b=some (.tbl q):=by unfold rL;rw[e]
def jD (e:M.lookup b=none):rL M G b=G b:=by unfold rL;rw[e]
def EX {P:Program}{w:World}{K:Frag}{mg mb:SV}{k:Nat}{fa a:Addr}{fd:FuncData}{x:Str}{sp:Sp}{M:Shared}{vs:LU}{ns:LI}(O:List (Addr×Str))
  (p:∀b q,O.lookup b=some q->M.heap.get? b=some (PySem.W.tabObj #[])/\isCodeTable M.heap b) (E:PySem.W.noTabs K=true)
  (l:K.In M.heap) (t:M.heap.Ns mainGlobals mg) (hb:M.heap.Ns builtinsNs mb) (I:∀x:Str,x ≠ "__name__"->mb x=bootBuiltins x) (J:M.heap.NoLimit)
  (L:∃bm ob,mg "__builtins__" = some (.ref bm)/\bm≠builtinsNs/\M.heap.get? bm=some ob/\ob.cls=.type "module"/\ob.dict=some builtinsNs/\ob.data=.plain) (N:M.gens=#[])
  (ha:M.heap.get? a=some { cls:=.type "list",data:=.seq vs.toArray }) (hi:IntsAre vs ns) (hl:ns.length<=sizeLine) (Q:ft k callerA)
  (F:∀base:Heap,K.In base->base.Ns mainGlobals mg->oE P w K mg base yL k fa fd [x] sp) (R:∀(s:Shared)(u:Value),BindsTo s fd ⟨[u],[]⟩ [(x,u)])
  (S:∀H:Hp,(∀b q,O.lookup b=some q->H b=some (.tbl q))->gB K H a (ns.map V.int)->sp [.ref a] H (λv _=>v=.bl true) λ_ _ _=>False):
  codeAny (model P w) callerA (.call (.ref fa) ⟨[.ref a],[]⟩) (λr s'=>r=.ok (.ret (.bool true))/\OldK M.heap s'.heap/\s'.os=M.os/\AllBare s'.gens) M:=by
 have y:=L2.iB hi;have Zi:=hi.length;have A:∀H:Hp,RF H->(∀b q,O.lookup b=some q->H b=some (.tbl q))->gB K H a (ns.map V.int)->me P w H M.heap->(∀b q,H b=some (.tbl q)->M.heap.get? b=some (PySem.W.tabObj #[])/\isCodeTable M.heap b) ->
   (∀b o u,H b=some (.frz o u)->b=a)->(∀b o u,H b=some (.frz o u)->K.lookup b=none) ->
   codeAny (model P w) callerA (.call (.ref fa) ⟨[.ref a],[]⟩) (λr s'=>r=.ok (.ret (.bool true))/\OldK M.heap s'.heap/\s'.os=M.os/\AllBare s'.gens) M:=by
  intro H i X hS hok B hB Y;have Z:∀ {b:Addr}{o:Obj},M.heap.get? b=some o->(o.cls≠.none)->(o.cls≠.type "list")->H b=none:=λ{b o} e d d'=>by
   rcases i b with q|⟨ob,xs,q⟩|⟨u,q⟩
   .exact q
   .grind
   simp_all<;>lia
  have Zj:∀ {b:Addr}{o:Obj}{es:Array DictEntry}{j:Nat},M.heap.get? b=some o->o.data=.dict es j->H b=none:=λ{b o es j} e d=>by
   rcases i b with q|⟨ob,xs,q⟩|⟨u,q⟩
   .exact q
   .grind
   grind
  have U:∀ {b:Addr}{m:SV},M.heap.Ns b m->(yQ M.heap H).Ns b m:=λ{b m} ⟨o,es,j,e,d,r⟩=>⟨o,es,j,re e (Zj e d),d,r⟩;have C:K.In (yQ M.heap H):=λb o e=>re (l b o e) (by
   rcases i b with q|⟨ob,xs,q⟩|⟨u,q⟩
   .exact q
   .rw[Y b _ _ q]at e;cases e
   .have z:=(B b u q).1;rw[l b o e]at z;cases z
    have:=all_eq_true.mp E _ (PySem.W.mem_of_lookupK e);simp at this)
  have hM:Mod K mg (yQ M.heap H):=⟨C,U t,⟨mb,U hb,I⟩,let ⟨mc,h1,h2⟩:=J;⟨mc,U h1,h2⟩,by
   grind[re]⟩
  have e0:Env0 P w K mg (yQ M.heap H) callerA [] M H:=⟨rr,hM,λb o e=>Kd e,le_of_eq (EC _ _),trivial,λb hb=>absurd (show b∈([]:List Addr)from hb) X9,hok,.of_eq N⟩;refine codeAny_mono ((F _ C (U t)).run callerA [] M H ⟨[.ref a],[]⟩ [.ref a] [.ref a] _ _ Q e0 (R M (.ref a)) (.cons rr .nil) (S H X hS)) λr s' h=>?_;cases r with
  |error e=>exact False.elim h
  |ok fl=>
   cases fl with
   |next=>exact False.elim h
   |brk=>exact False.elim h
   |cont=>exact False.elim h
   |ret u=>
    obtain⟨v,H',os,bare,un,D,r',q⟩:=h;have f:v=.bl true:=q;subst f;obtain rfl:u=Value.bool true:=r';have kp :=λb o n e=>un.keep b o e n (by intro z;exact absurd (show b∈([]:List Addr)from z) X9) X9;refine⟨rr,⟨λb o e=>?_,λb o e=>un.there b o e X9⟩,os,bare⟩;rcases i b with z|⟨ob,xs,z⟩|⟨u,z⟩
    .exact .inl (kp b o z e)
    .have z2:=un.frzs b ob _ z;obtain⟨g,_⟩:=hok b _ z;obtain⟨e2,_⟩:=D b _ z2;rw[e]at g;cases g;exact .inl e2
    .obtain⟨g,e2⟩:=B b u z;rw[e]at g;cases g;obtain⟨ps,e3,_⟩:=D b _ (un.tbls b u z);exact .inr (.inl ⟨e2,rr,#[],ps,rr,by simpa using e3⟩)
 have Qc:∀q,O.lookup a≠some q:=λq z=>by
  simp_all
 have ta:O.lookup a=none:=by
  cases z:O.lookup a with
  |none=>rfl
  |some q=>exact absurd z (Qc q)
 have SS:∀(G:Hp) b q,O.lookup b=some q->bJ P w (rL O G) M.heap b (.tbl q):=λG b q z=>⟨#[],(p b q z).1,trivial,λpos cv c=>by cases c⟩;cases hk:K.lookup a with
 |some o=>
  have e:=l a o hk;rw[ha]at e;cases e
  refine A (rL O λ_=>none) (λb=>?_) (λb q z=>gW z) (.inr ⟨_,vs.toArray,_,hk,rr,rr,rr,by simp_all,by simpa using y⟩) (λb u z=>?_) (λb q z=>?_) (λb o u z=>?_) λb o u z=>?_
  all_goals cases T:O.lookup b with
   |none=>first|exact .inl (jD T)|(rw[jD T]at z;cases z)
   |some f=>first|exact .inr (.inr ⟨f,gW T⟩)|(rw[gW T]at z;cases z;done)|(rw[gW T]at z;grind)
 |none=>
  refine A (rL O λb=>if b=a then some _ else none) (λb=>?_) (λb q z=>gW z) (.inl (.inr ⟨{ cls:=.type "list",data:=.seq vs.toArray },by rw[jD ta,if_pos rr]⟩)) (λb u z=>?_) (λb q z=>?_) (λb o u z=>?_) λb o u z=>?_
  all_goals cases T:O.lookup b with
   |some f=>first|exact .inr (.inr ⟨f,gW T⟩)|(rw[gW T]at z;cases z;done)|(rw[gW T]at z;cases z;first|exact SS _ b _ T|exact p b _ T)
   |none=>
    first
    |rw[jD T]at z
    |rw[jD T]
    by_cases hb:b=a
    .first
     |rw[if_pos hb]at z
     |rw[if_pos hb]
     first
     |exact .inr (.inl ⟨_,_,rr⟩)
     | (cases z;subst hb;exact⟨ha,by rw[vI];exact hl,vs,_,y,ha⟩)
     |exact hb
     | (rw[hb];exact hk)
     |cases z
    .simp_all
noncomputable def xQ (L:List (Str×Option (Addr×Addr))):List (Addr×Str):=L.filterMap λp=>p.2.map λq=>(q.2,uH p.1)
structure rd (K:Frag)(L:List (Str×Option (Addr×Addr))):Prop where
 names:L=np.map λx=>(x,PySem.W.tabIn K x)
 apart:((xQ L).map (·.1)).Nodup
 none:PySem.W.noTabs K=true
theorem mq {α G:Type}[BEq α][LawfulBEq α]:∀ {l:List (α×G)}{a:α}{b:G},(l.map (·.1)).Nodup->(a,b)∈l->l.lookup a=some b
 | (c,d)::l,a,b,nd,h=>by
  rw[lookup_cons];rcases vP h with e|h
  .cases e;simp
  .have ne:a≠c:=λz=>(nodup_cons.mp nd).1 (by grind);rw[show(a == c)=false by simpa using ne];exact mq (nodup_cons.mp nd).2 h
theorem kW {α G:Type}[BEq α][LawfulBEq α]:∀ {l:List (α×G)}{a:α}{b:G},l.lookup a=some b->(a,b)∈l
 | (c,d)::l,a,b,h=>by
  rw[lookup_cons]at h;cases e:a == c with
  |true=>simp_all
  |false=>rw[e]at h;exact mZ _ (kW h)
def rd.tb {K:Frag}{L:List (Str×Option (Addr×Addr))}(F:rd K L){H:Hp}(h:∀b q,(xQ L).lookup b=some q->H b=some (.tbl q)):Tb K H:=λx hx c P e=>by
 refine h P _ (mq F.apart ?_);rw[F.names];exact mem_filterMap.mpr ⟨(x,PySem.W.tabIn K x),uR ⟨x,hx,rr⟩,by rw[e];rfl⟩
def tab_no {K:Frag}{x:Str}(e:nsIn K mainGlobals x=some none):PySem.W.tabIn K x=none:=by unfold PySem.W.tabIn;rw[e]
def tab_yes {K:Frag}{x:Str}{f c P:Addr}{oc M:Value}{od O:Option Addr}{ma G:Array (Option Value)}{fd:FuncData}{vs:AV}(T:nsIn K mainGlobals x=some (some (.ref f)))(e2:K.lookup f=some ⟨oc,od,.func fd,ma⟩)(U:fd.code=.ref c)
  (a:K.lookup c=some ⟨M,O,.fields vs,G⟩) (b:vs[11]? = some (.ref P)):PySem.W.tabIn K x=some (c,P):=by simp_all[PySem.W.tabIn]
def tabs_fit {K:Frag}{G M O T U:Option (Addr×Addr)}(h0:PySem.W.tabIn K "in_order" = G)(h1:PySem.W.tabIn K "has_seal" = M)(h2:PySem.W.tabIn K "is_first_death" = O)(h3:PySem.W.tabIn K "bases_by" = T)(h4:PySem.W.tabIn K "as_heard" = U)
  (a:((xQ [("in_order",G),("has_seal",M),("is_first_death",O),("bases_by",T),("as_heard",U)]).map (·.1)).Nodup) (nt:PySem.W.noTabs K=true):rd K [("in_order",G),("has_seal",M),("is_first_death",O),("bases_by",T),("as_heard",U)] :=
 ⟨by subst h0;subst h1;subst h2;subst h3;subst h4;rfl,a,nt⟩
def cG.law {P:Program}{w:World}{K:Frag}{mg:SV}{x y:Str}{st:Stmt}{N:LS}{k:Nat}{g:FS}{h:Heap}{fa:Addr}(F:cG K x st)(X:K.In h)(G:h.Ns mainGlobals mg)(M:mg x=some (.ref fa))(S:FnScope N [y] (aJ st))
  (O:∀(kV doc pm:Value)(an:Option Addr)(dG ct:Value)(u:Value),bindArgs (fnOf x x (eC st) (ca st) (aJ st) .none kV doc pm an dG ct) ⟨[u],[]⟩=pure [(y,u)])
  (hb:∀(base:Heap),K.In base->base.Ns mainGlobals mg->∀(f:Addr)(dG:Value)(A:Around)(outer:List PySem.Env)(s:Shared)(H:Hp)(E:XK),ft k (A.deeper (envOfC x (aJ st) s.heap.objs.size f dG))->vy (oM yL P w K mg base N x (aJ st) f dG A outer s H E).nox (ca st) g):
  ∃fd:FuncData,(∀(s:Shared)(u:Value),BindsTo s fd ⟨[u],[]⟩ [(y,u)])/\∀base:Heap,K.In base->base.Ns mainGlobals mg->oE P w K mg base yL (k+1) fa fd [y] (GU K (aB g 1 (N.length - 1))):=by
 obtain⟨f,fd,T,a⟩:=F;have e:=M.symm.trans (mg_of X G a);cases e
 refine⟨fd,λs u=>?_,λbase U b=>R8 T S (hb _ U b _)⟩;obtain⟨oc,od,kV,doc,pm,an,dG,ct,ma,rfl,c,d⟩:=T.ex;exact .of_eq (O kV _ pm an _ ct u)
section
variable {X:Cx}{a b e:Expr}{pos:Pos}{x:Str}{p:Pos}
@[simp] noncomputable def RG:D->D->OB
 |.lst xs,.lst ys=>if xs.length+ys.length<=sizeLine then some (.lst (xs++ys),true)else none
 |_,_=>none
def OF:dS X (binaryOp .Add) (rD X.K RG):=by
 intro ak s σ H x y v u Q I k m q;obtain⟨B,dx,D,d,bb,T,n,r,O,q⟩:=q;cases n<;>try (cases O;done)
 all_goals (cases r<;>try (cases O;done))
 rename_i l vs ds h hl t w es h' M;simp only[RG]at O;split at O
 .rename_i hz;cases O
  cases k
  cases m
  obtain⟨its,U,z,E⟩:=I.list (T.seq h);obtain⟨G,c,p2,J⟩:=I.list (T.seq h');obtain⟨⟨L,d1,N,s1⟩,f,A,n1,k1⟩:=z.isList;obtain⟨⟨c2,d2,P,s2⟩,g,e2,n2,k2⟩:=p2.isList;subst A;subst k1;subst e2;subst k2;have hsz:its.toArray.size+G.toArray.size<=sizeLine:=by
   rw[vH,vH,<-U.length,<-c.length,hl.length,M.length];exact hz
  have C:its.toArray++G.toArray=(its++G).toArray:=X9
  refine concat_meets ⟨_,f,rr⟩ ⟨_,g,rr⟩ noFill_list_add seq_list_add PySem.F.slot_list_add PySem.F.entry_list_add (PySem.F.args_list_add_2 _ _) (list_addW l t its.toArray G.toArray n1 n2 d1 d2 s1 s2 hsz) ⟨f,g,?_⟩;rw[C];have i:=Ext.laid (o:=.lst (vs++w)) T I.fresh;have j:=(hl.append M).mono i.bn;exact⟨.ref _,_,I.lnew  (U.append c) (by rw[uY,hl.length,M.length];exact hz),rr,q _ _ _ i (.lst (gB.of a6) j) λ_=>⟨_,_,_,rr,rr,I.fresh,a6,j⟩⟩
 simp_all
@[simp] noncomputable def BE:D->D->OB
 |.tup xs,.tup ys=>if xs.length+ys.length<=sizeLine/\xs.isEmpty=false then some (.tup (xs++ys),false)else none
 |_,_=>none
def He:dS X (binaryOp .Add) (rD X.K BE):=by
 refine jw Ku λx y H Q q=>?_;obtain⟨B,dx,i,d,bb,O,c,f,M,q⟩:=q;cases c<;>try (cases M)
 all_goals (cases f<;>try (cases M))
 rename_i l vs ds h hl g T es h' G;simp only[BE]at M;split at M
 .cases M
  have l1:=hl.length;have l2:=G.length;refine⟨l,g,vs,T,rr,rr,bu O h,bu O h',λz=>?_,N9,λz=>?_,λ_ pp hp=>?_⟩
  .grind
  .subst z;cases G
   rw[uP]at q;exact q.one O (.tup h hl)
  .have U:=Ext.laid (o:=.tup (vs++T)) O hp;exact q _ _ _ U (.tup (jf.of a6) ((hl.append G).mono U.bn)) X9
 simp_all
@[simp] noncomputable def U3:D->D->OB
 |.bl i,.int j=>some (.int ((if i=true then 1 else 0)+j),false)
 |.int i,.bl j=>some (.int (i+b2i j),false)
 |_,_=>none
def OG:dS X (binaryOp .Add) (rD X.K U3):=by
 intro ak s σ H x y v u Q I M O q;obtain⟨B,dx,f,d,bb,T,U,c,G,q⟩:=q;cases U<;>try (cases G)
 all_goals (cases c<;>try (cases G;done))
 .cases G
  cases M
  obtain⟨t,rfl⟩:=O;exact IntBool.add_bool_int ⟨.int _,H,I.tok _,⟨_,rr⟩,q.one T (.int _)⟩
 .cases G
  exact EH _ s σ H _ _ v u Q I M O ⟨_,_,rr,rr,q.one T (.int _)⟩
@[simp] noncomputable def dm:D->D->OB
 |.int i,.int j=>some (.int (i+j),false)
 |.str i,.str j=>if i.length+j.length<=sizeLine then some (.str (i++j),false)else none
 |.lst xs,.lst ys=>if xs.length+ys.length<=sizeLine then some (.lst (xs++ys),true)else none
 |.tup xs,.tup ys=>if xs.length+ys.length<=sizeLine/\xs.isEmpty=false then some (.tup (xs++ys),false)else none
 |.bl i,.int j=>some (.int ((if i=true then 1 else 0)+j),false)
 |.int i,.bl j=>some (.int (i+b2i j),false)
 |_,_=>none
def cy:dS X (binaryOp .Add) (rD X.K dm):=by
 refine jw  (oR KU (oR OF (oR He OG))) λx y H Q q=>?_;obtain⟨B,dx,G,d,bb,M,O,T,U,q⟩:=q;refine⟨B,dx,G,d,bb,M,O,T,?_,q⟩;cases dx<;>try (cases U)
 all_goals (cases G<;>try (done))
 all_goals simp_all[Qu]
@[simp] noncomputable def U4:D->Option Bool
 |.bl b=>some b
 |_=>none
def xR:LD->Option (List Bool)
 |[]=>some []
 |d::ds=>(U4 d).bind λb=>(xR ds).map (b :: ·)
@[simp] def RH:xR []=some []:=rfl
@[simp] def Qw (d:D)(ds:LD):xR (d::ds)=(U4 d).bind λb=>(xR ds).map (b :: ·):=rfl
theorem xS {K:Frag}{B:Hp}:∀ {vs:LV}{ds:LD}{bs:List Bool}{its:LU},L2.bi vs its->IsL K B vs ds->xR ds=some bs->its=bs.map Value.bool
 |_,_,_,_,.nil,.nil,e=>by cases e;rfl
 |_,_,_,_,.cons r M,.cons i O,e=>by
  obtain⟨b,G,e⟩:=oX e;obtain⟨bs,e2,e⟩:=oY e;subst e;cases i<;>simp  [U4]at G<;>try (cases G;done)
  cases G
  cases r
  rw[xS M O e2];rfl
@[simp] def BF:LD->OB
 |[.lst ds]=>(xR ds).map λbs=>(.bl (bs.all id),false)
 |_=>none
@[simp] def Hf:LD->OB
 |[.lst ds]=>(xR ds).map λbs=>(.bl (bs.any id),false)
 |_=>none
def zx (hc:X.calm=true:=by rfl):bY X (.builtin "all") (B7 X.K BF):=by
 intro ak s σ H xs us Q I rs q;obtain⟨B,ds,d,bb,g,i,G,q⟩:=q;cases i with
 |nil=>cases G
 |cons i1 i=>
  cases i with
  |cons _ _=>cases i1<;>cases G
  |nil=>
   cases i1<;>try (cases G;done)
   rename_i l vs es h hl;obtain⟨bs,k,G⟩:=oY G;cases G
   obtain⟨w,rfl,m⟩:=ij rs;cases m
   obtain⟨its,n,T,y⟩:=I.list (g.seq h);have ei:=xS n hl k;have U:l<s.heap.objs.size:=by obtain⟨_,M,_⟩:=T.isList;exact vX M
   refine call_all_walk (wpAny_pyIter_list T.isList ⟨_,_,_,_,_,_,λj=>(bs[j]?).getD true,rr,Walks.list (A:=X.A.in1) (I.ok.hd hc) _ l (vS U) _,⟨⟨_,vY _ rr,rr,rr⟩,T.isList.push _⟩,λj v s' z C r f=>?_,λh' tk hk=>?_⟩)
   .have O :=by simpa using r
    rw[ei,uZ]at O;obtain⟨c,t,e2⟩:=oY O;subst e2;dsimp only at f;rw[t]at f;exact wpAny_truthy_bool f
   .have u:((List.range its.toArray.size).all λj=>(bs[j]?).getD true)=bs.all id:=by
     simp_all[LSm.range_all]
    rw[u];refine⟨.bl _,H,I.kept λc o M=>?_,rr,q.one g (.bl _)⟩;exact hk c o (λhm=>by rw[uS hm]at M;exact Nat.lt_irrefl _ (vX M)) (vZ _ M)
def Na (hc:X.calm=true:=by rfl):bY X (.builtin "any") (B7 X.K Hf):=by
 intro ak s σ H xs us Q I rs q;obtain⟨B,ds,d,bb,g,i,G,q⟩:=q;cases i with
 |nil=>cases G
 |cons i1 i=>
  cases i with
  |cons _ _=>cases i1<;>cases G
  |nil=>
   cases i1<;>try (cases G;done)
   rename_i l vs es h hl;obtain⟨bs,k,G⟩:=oY G;cases G
   obtain⟨w,rfl,m⟩:=ij rs;cases m
   obtain⟨its,n,T,y⟩:=I.list (g.seq h);have ei:=xS n hl k;have U:l<s.heap.objs.size:=by obtain⟨_,M,_⟩:=T.isList;exact vX M
   refine call_any_walk (wpAny_pyIter_list T.isList ⟨_,_,_,_,_,_,λj=>(bs[j]?).getD false,rr,Walks.list (A:=X.A.in1) (I.ok.hd hc) _ l (vS U) _,⟨⟨_,vY _ rr,rr,rr⟩,T.isList.push _⟩,λj v s' z C r f=>?_,λh' tk hk=>?_⟩)
   .have O :=by simpa using r
    rw[ei,uZ]at O;obtain⟨c,t,e2⟩:=oY O;subst e2;dsimp only at f;rw[t]at f;exact wpAny_truthy_bool f
   .have u:((List.range its.toArray.size).any λj=>(bs[j]?).getD false)=bs.any id:=by
     simp_all[LSm.range_any]
    rw[u];refine⟨.bl _,H,I.kept λc o M=>?_,rr,q.one g (.bl _)⟩;exact hk c o (λhm=>by rw[uS hm]at M;exact Nat.lt_irrefl _ (vX M)) (vZ _ M)
def Nb:bootBuiltins "any" = some (.builtin "any"):=H9
end
noncomputable def T2 (z:Str):It:=⟨λi _=>i<z.cps.size,λi H v H'=>H'=H/\∃c,z.cps[i]? = some c/\v=.str ⟨#[c]⟩,λi _=>z.cps.size<=i⟩
def zy {P:Program}{w:World}{K:Frag}{tg:Expr}(z:Str)(t:Tok)(it:Addr):Turn P w K tg (T2 z) [it] it (λi h=>h.IsStrIter it "str_ascii_iterator" z t i) where
 mem:=mem_singleton.mpr rr
 obj:=λi h st b hb=>by
  have U:=uS hb;obtain⟨o,M,_,d1⟩:=st;simp_all
 keep:=λi h h' st k=>let ⟨o,M,r⟩:=st;⟨o,k it (mem_singleton.mpr rr) o M,r⟩
 item:=by
  intro X a hw d hc i ak s σ H E I hf st O;have T:i<z.cps.size:=O;obtain⟨f0,f1,f2,f3,f4,f5⟩:=hf it (mem_singleton.mpr rr);refine wpAny_pyNext_ascii_item st (c:=z.cps[i]) (by simp ) λh' G e=>?_;obtain⟨o,M,f,d1⟩:=id G;exact⟨_,rr,rg  M f d1 Z9 ⟨.str _,H,I.turned (λb o hb e2=>(e.2 b hb).trans e2) f0 f1 f3 f4 f5,⟨_,rr⟩,⟨rr,_,by simp ,rr⟩,G,λb hb=>(hf b hb).1⟩⟩
 done:=by
  intro X a hw d hc i ak s σ H E I hf st O;have T:z.cps.size<=i:=O;obtain⟨f0,f1,f2,f3,f4,f5⟩:=hf it (mem_singleton.mpr rr);exact wpAny_pyNext_ascii_end (I.ok.hd hc) st I9 λh' U=>⟨rr,I.turned  (λb o hb e2=>U b o hb e2) f0 f1 f3 f4 f5⟩
 self:=λ_ _ _ _ _ st h=>wpAny_pyIter_striter_ascii st h
def z4 {P:Program}{w:World}{K:Frag}{tg:Expr}(z:Str)(t:Tok)(it:Addr):Turn P w K tg (T2 z) [it] it (λi h=>h.IsStrIter it "str_iterator" z t i) where
 mem:=mem_singleton.mpr rr
 obj:=λi h st b hb=>by
  have U:=uS hb;obtain⟨o,M,_,d1⟩:=st;simp_all
 keep:=λi h h' st k=>let ⟨o,M,r⟩:=st;⟨o,k it (mem_singleton.mpr rr) o M,r⟩
 item:=by
  intro X a hw d hc i ak s σ H E I hf st O;have T:i<z.cps.size:=O;obtain⟨f0,f1,f2,f3,f4,f5⟩:=hf it (mem_singleton.mpr rr);refine wpAny_pyNext_wide_item st (c:=z.cps[i]) (by simp ) λh' G e=>?_;obtain⟨o,M,f,d1⟩:=id G;exact⟨_,rr,rg  M f d1 Z9 ⟨.str _,H,I.turned (λb o hb e2=>(e.2 b hb).trans e2) f0 f1 f3 f4 f5,⟨_,rr⟩,⟨rr,_,by simp ,rr⟩,G,λb hb=>(hf b hb).1⟩⟩
 done:=by
  intro X a hw d hc i ak s σ H E I hf st O;have T:z.cps.size<=i:=O;obtain⟨f0,f1,f2,f3,f4,f5⟩:=hf it (mem_singleton.mpr rr);exact wpAny_pyNext_wide_end (I.ok.hd hc) st I9 λh' U=>⟨rr,I.turned  (λb o hb e2=>U b o hb e2) f0 f1 f3 f4 f5⟩
 self:=λ_ _ _ _ _ st h=>wpAny_pyIter_striter_wide st h
section
variable {X:Cx}{a b e:Expr}{pos:Pos}{x:Str}{p:Pos}{tg:Expr}
def Hg {l:Expr}{tl:TE}(hl:PE X l tl):PI X tg l (λσ H R=>tl σ H λx G=>∃z,x=.str z/\R (T2 z) G):=by
 intro ak s σ H R I h;refine cu (hl _ s σ H _ I h) λv s1 ⟨x,G,M,O,T⟩=>?_;obtain⟨z,rfl,q⟩:=T;obtain⟨t,rfl⟩:=O;have fp:∀b∈[s1.heap.objs.size],m9 X _ G b:=λb hb=>by
  rw[uS hb];exact M.fpOk (vT _) (M.hok.fresh (vT _))
 cases ha:z.cps.all _ with
 |true=>exact wpAny_pyIter_ascii ha ⟨_,[s1.heap.objs.size],_,_,G,rr,M.kept  λb o e=>vZ _ e,zy z t _,⟨_,vY _ rr,rr,rr⟩,fp,q⟩
 |false=>exact wpAny_pyIter_wide ha ⟨_,[s1.heap.objs.size],_,_,G,rr,M.kept  λb o e=>vZ _ e,z4 z t _,⟨_,vY _ rr,rr,rr⟩,fp,q⟩
noncomputable def z5 (z:Str):LD:=z.cps.toList.map λc=>.str ⟨#[c]⟩
def Hh {K:Frag}{B:Hp}(z:Str):nq K (T2 z) B (z5 z):=by
 intro i H s;refine⟨λd ed=>?_,λhl=>by unfold z5 at hl;show z.cps.size<=i;simp_all⟩;unfold z5 at ed;rw[uZ]at ed;obtain⟨c,O,rfl⟩:=oY ed;have G :=by simpa using O
 refine⟨(Array.getElem?_eq_some_iff.mp G).1,λv H' hy=>?_⟩;obtain⟨rfl,T,M,rfl⟩:=hy;rw[G]at M;cases M;exact⟨B,.refl s,.str _⟩
@[simp] def OH:D->Option LD
 |.lst ds=>some ds
 |.tup ds=>some ds
 |.str z=>some (z5 z)
 |_=>none
@[simp] def bM (f:FE):FA:=λρ=>(f ρ).bind λx=>OH x.1
def bN (h:JE X e f):JI X tg e (bM f):=by
 intro ak s σ H R I q;obtain⟨B,ρ,ds,G,r,M,q⟩:=q;obtain⟨O,ex,es⟩:=oX M;obtain⟨xd,c⟩:=O;cases xd with
 |lst l=>exact Dk h _ s σ H R I ⟨B,ρ,ds,G,r,by unfold Hb;rw[ex];exact es,q⟩
 |tup l=>exact Dk h _ s σ H R I ⟨B,ρ,ds,G,r,by unfold Hb;rw[ex];exact es,q⟩
 |str z=>
  cases es
  refine Hg h _ s σ H R I ⟨B,ρ,_,_,G,r,ex,λv T N1 U i1 _=>?_⟩;cases i1
  exact⟨z,rr,q _ T N1 U (Hh z)⟩
 |_=>cases es
def KY:Gj X (λx lo hi H Q=>∃z,x=.str z/\z.length<=sizeLine/\Q (.str (Txt.slice z lo hi)) H):=by
 intro ak s σ H x v vl T lo hi sl Q I O hs pl M h;obtain⟨z,rfl,hz,q⟩:=h;obtain⟨t,rfl⟩:=O;have ii:∀lo hi,Q (.str (Txt.slice z lo hi)) H->(Txt.slice z lo hi).length<=sizeLine/\∀t' k,EP X ak σ Q _ _:=λlo hi q=>
  ⟨vR (Txt.slice_le z _ _) hz,λt' k=>⟨.str _,H,I.tok k,⟨t',rr⟩,q⟩⟩
 refine⟨"str",_,PySem.F.slot_str_getitem.lookup,typeIs_str _ _ _,?_⟩;cases pl with
 |none=>
  cases M with
  |none=>exact wpAny_getItem_str_slice (l:=none) (u:=none) (st:=none) hs rr (post_val_or_str (ii _ _ q))
  |int j G=>exact wpAny_getItem_str_slice (l:=none) (u:=some (j,G)) (st:=none) hs rr (post_val_or_str (ii _ _ q))
 |int i ti=>
  cases M with
  |none=>exact wpAny_getItem_str_slice (l:=some (i,ti)) (u:=none) (st:=none) hs rr (post_val_or_str (ii _ _ q))
  |int j G=>exact wpAny_getItem_str_slice (l:=some (i,ti)) (u:=some (j,G)) (st:=none) hs rr (post_val_or_str (ii _ _ q))
def EY {A:Around}{E:QV}{s:Shared}{prog:Program}{w:World}{t sl:Addr}{items:AV}{vl U:Value}{lo hi:OI}{Q:QV}(G:IsTup s.heap t items)(hs:s.heap.IsSliceOf sl vl U .none)(pl:IsPart vl lo)(c:IsPart U hi)
  (h0:HT.fu items.size 0 lo=0) (h1:HT.fu items.size items.size hi=items.size) (h:Q (.ref t) s):wpAny (model prog w) A (getItem (.ref t) (.ref sl)) Q E s:=by
 obtain⟨os,M,O,f⟩:=id hs
 have d:s.TypeIs (.ref sl) _:=⟨os,M,O⟩
 unfold getItem
 try with_reducible refine wpAny_holding ?_
 refine wX (wpAny_sequenceKey G.typeIs Z9 ?_)
 refine wX (wpAny_callSpecial?_slot  G.typeIs PyProof.Rows.slot_tuple_getitem (wpAny_call_entry PyProof.Rows.slot_tuple_getitem G.typeIs entry_tuple_getitem ?_ (args_tuple_getitem _ _)))
 show wpAny _ _ (Builtin.Tuple.tupleItemsOf _>>=_) _ _ s
 refine wX (tupleItemsOf_ G ?_)
 refine wX (wpAny_typeOf d ?_)
 refine wX (HT.j8 hs pl c ?_)
 have T:(((HT.fu items.size 0 lo:Nat):Int) == 0 && (1:Int) == 1 && (HT.fu items.size items.size hi - HT.fu items.size 0 lo) == items.size)=true:=by
  rw[h0,h1];simp
 show wpAny _ _ (if(((HT.fu _ 0 lo:Nat):Int) == 0 && (1:Int) == 1 && (HT.fu _ _ hi - HT.fu _ 0 lo) == items.size)=true then _ else _) _ _ s
 rw[if_pos T]
 refine wX ?_
 refine wX (wpAny_typeOf G.typeIs (wY ?_))
 refine wX (wpAny_rule ?_)
 exact wY ⟨_,rr,wY h⟩
def KZ:Gj X (λx lo hi H Q=>∃a xs,x=.ref a/\jf X.K H a xs/\HT.fu xs.length 0 lo=0/\HT.fu xs.length xs.length hi=xs.length/\Q (.ref a) H):=by
 intro ak s σ H x v vl U lo hi sl Q I O hs pl T h;obtain⟨a,xs,rfl,hx,h0,h1,q⟩:=h;cases O
 obtain⟨its,r,M,hz⟩:=I.tuple hx;have G:its.toArray.size=xs.length:=by exact r.length.symm
 refine⟨"tuple",_,PyProof.Rows.slot_tuple_getitem.lookup,M.typeIs,?_⟩;exact EY M hs pl T (by rw[G];exact h0) (by rw[G];exact h1) ⟨.ref a,H,I,rr,q⟩
@[simp] def pV (fa:FE)(fl G:FO):FE:=λρ=>(fa ρ).bind λx=>(fl ρ).bind λl=>(G ρ).bind λh=>match x.1 with
 |.lst ds=>some (.lst (ia ds l h),true)
 |.tup ds=>some (.tup (ia ds l h),false)
 |.str z=>if z.length<=sizeLine then some (.str (Txt.slice z l h),false)else none
 |_=>none
def BG {ds:LD}{lo hi:OI}(h0:HT.fu ds.length 0 lo=0)(h1:HT.fu ds.length ds.length hi=ds.length):ia ds lo hi=ds:=by
 unfold ia;rw[h0,h1];simp
def eM {lo hi:Option Expr}{p2:Pos}{fa:FE}{fl f:FO}(ha:JE X e fa)(hl:JO X lo fl)(hh:JO X hi f):JE X (.Subscript e (.Slice lo hi none p2) pos) (pV fa fl f):=by
 refine PE.to (G3 (Gj.or (Gj.or Ky Ot) (Gj.or KY KZ)) ha hl hh) λσ H Q q=>?_;obtain⟨B,ρ,d,b,g,r,e,q⟩:=q;obtain⟨x,ex,e⟩:=oX e;obtain⟨l,i,e⟩:=oX e;obtain⟨h,j,e⟩:=oX e;refine⟨B,ρ,x.1,x.2,g,r,ex,λv m N1 M i1 _=>⟨N1,ρ,l,M.nh,r.mono M.bn,i,λH2 h2=>⟨N1,ρ,h,M.nh.trans h2,r.mono M.bn,j,λk h3=>?_⟩⟩⟩;have O:aX N1 k:=M.nh.trans (h2.trans h3);have U:=q.into (M.trans (.grow M.nh (h2.trans h3)));obtain⟨xd,n⟩:=x;cases i1 with
 |@tup c vs ds hs G=>
  cases e
  by_cases hw:HT.fu ds.length 0 l=0/\HT.fu ds.length ds.length h=ds.length
  .rw[BG hw.1 hw.2]at U;exact .inr (.inr ⟨c,vs,rr,bu O hs,by rw[G.length];exact hw.1,by rw[G.length];exact hw.2,U.one O (.tup hs G)⟩)
  .refine .inl (.inr ⟨c,vs,rr,bu O hs,by rw[G.length];exact hw,λp hp=>?_⟩);have T:=Ext.laid (o:=.tup (uE vs l h)) O hp;exact U _ _ _ T (.tup (jf.of a6) ((xO G).mono T.bn)) X9
 |@lst c vs ds hs G=>
  cases e
  refine .inl (.inl ⟨c,vs,rr,O.seq hs,λp hp=>?_⟩);have T:=Ext.laid (o:=.lst (uE vs l h)) O hp;exact U _ _ _ T (.lst (gB.of a6) ((xO G).mono T.bn)) λ_=>⟨p,_,_,rr,rr,hp,a6,(xO G).mono T.bn⟩
 |str z=>
  dsimp only at e;split at e
  .rename_i hz;cases e
   exact .inr (.inl ⟨z,rr,hz,U.one O (.str _)⟩)
  simp_all
 |_=>cases e
def const_int {K:Frag}{y:Str}{i:Int}{t:Tok}(e:nsIn K mainGlobals y=some (some (.int i t))):∃u v,nsIn K mainGlobals y=some (some u)/\aU v u/\∀B,Is K B v (.int i):=⟨_,.int i,e,⟨t,rr⟩,λ_=>.int i⟩
noncomputable def xT:Value->D->Bool
 |.none,.non=>true
 |.bool a,.bl b=>a == b
 |.int i _,.int j=>decide (i=j)
 |.str i _,.str j=>decide (i=j)
 |_,_=>false
def jU:LU->LD->Bool
 |[],[]=>true
 |u::us,d::ds=>xT u d && jU us ds
 |_,_=>false
theorem lM {K:Frag}{B:Hp}:∀ {u:Value}{d:D},xT u d=true->∃v,aU v u/\Is K B v d
 |.none,.non,_=>⟨.non,rr,.non⟩
 |.bool a,.bl b,h=>by
  have :=eq_of_beq h;subst this;exact⟨.bl a,rr,.bl a⟩
 |.int i t,.int j,h=>by
  have :=Vh h;subst this;exact⟨.int i,⟨t,rr⟩,.int i⟩
 |.str i t,.str j,h=>by
  have :=Vh h;subst this;exact⟨.str i,⟨t,rr⟩,.str i⟩
theorem jV {K:Frag}:∀ {us:LU}{ds:LD},jU us ds=true->∃vs,L2.bi vs us/\∀B,IsL K B vs ds
 |[],[],_=>⟨[],.nil,λ_=>.nil⟩
 |u::us,d::ds,h=>by
  rw[jU,vB]at h;obtain⟨vs,r,i⟩:=jV  h.2;obtain⟨v,M,_⟩:=lM (K:=K) (B:=λ_=>none) h.1;refine⟨v::vs,.cons M r,λB=>?_⟩;obtain⟨O,G,T⟩:=lM   h.1;have:O=v:=by have U:=M.abs;rw[G.abs]at U;simp_all
  subst this;exact .cons T (i B)
def const_tup {K:Frag}{y:Str}{a:Addr}{od:Option Addr}{its:AV}{n:Nat}{ma:Array (Option Value)}{ds:LD}(e:nsIn K mainGlobals y=some (some (.ref a)))
  (l:K.lookup a=some ⟨.type "tuple",od,.seq its n,ma⟩) (h:(decide (its.size<=1000) && jU its.toList ds)=true):∃u v,nsIn K mainGlobals y=some (some u)/\aU v u/\∀B,Is K B v (.tup ds):=by
 rw[vB]at h;obtain⟨vs,r,i⟩:=jV  h.2;exact⟨_,.ref a,e,rr,λB=>.tup (.inr ⟨_,its,n,l,rr,rr,le_of_lt (lt_of_le_of_lt (Vh h.1) Z9),r⟩) (i B)⟩
end
section
variable {X:Cx}{a b o e:Expr}{pos:Pos}{x:Str}{p:Pos}{tg:Expr}
def OJ {name:Str}{id:String}{dn cf:Pos}{op:D->D->OB}{f fe:FE}(slot:Slot "str" name id)(i:typeOf (.builtin id)=pure (.type "method_descriptor"))
  (hm:Kw X id (λx xs H Q=>∃y,xs=[y]/\rD X.K op x y H Q)) (U:∀dx j r,op dx j=some r->∃z,dx=.str z) (ho:JE X o f) (he:JE X e fe)
  (G:attributeBase o name X.env (eval o X.env)=eval o X.env:=by rfl)
  (k:((backTo cf (starEach [e] X.env)).all (λx=>!x.1) && (backToKw cf (keywordEach [] X.env)).all (λx=>x.1.isSome)
   && decide ([e].length+([]:List Keyword).length+(if([]:List Keyword).isEmpty then 0 else 1)<30))=true:=by rfl)
  (M:(dn.endLine == cf.line)=true:=by rfl) (hs:starEach [e] X.env=[(false,eval e X.env)]:=by rfl):
  JE X (.Call (.Attribute o name dn) [e] [] cf) (f2 op f fe):=by
 refine PE.to (yV PySem.F.plainAttrs_str slot i hm ho (eB he gD hs) G k M hs rr) λσ H Q q=>?_;obtain⟨B,ρ,d,bb,l,r,T,q⟩:=q;obtain⟨g,ex,T⟩:=oX T;obtain⟨c,m,T⟩:=oX T;obtain⟨z,hz⟩:=U _ _ _ T;refine⟨B,ρ,g.1,g.2,l,r,ex,λv s N1 O i1 _=>?_⟩;rw[hz]at i1;cases i1
 refine⟨show "str" = "str" from rr,N1,ρ,c.1,c.2,O.nh,r.mono O.bn,m,λn H2 N2 h i2 _=>⟨n,rr,N2,.str z,c.1,d,bb,h.nh,.str z,i2,by rw[<-hz];exact T,q.into (O.trans h)⟩⟩
@[simp] noncomputable def OK:D->Option Str
 |.str z=>some z
 |_=>none
def gX:LD->Option LS
 |[]=>some []
 |d::ds=>(OK d).bind λz=>(gX ds).map (z :: ·)
@[simp] def Qx:gX []=some []:=rfl
@[simp] def OL (d:D)(ds:LD):gX (d::ds)=(OK d).bind λz=>(gX ds).map (z :: ·):=rfl
@[simp] def Qy (zs:LS):gX (zs.map D.str)=some zs:=by
 induction zs with
 |nil=>rfl
 |cons z zs G=>simp[G]
theorem iN {K:Frag}{B:Hp}:∀ {vs:LV}{ds:LD}{zs:LS}{its:LU},L2.bi vs its->IsL K B vs ds->gX ds=some zs->StrsAre its zs
 |_,_,_,_,.nil,.nil,e=>by cases e;exact .nil
 |_,_,_,_,.cons r M,.cons i O,e=>by
  obtain⟨z,G,e⟩:=oX e;obtain⟨zs,e2,e⟩:=oY e;subst e;cases i<;>simp  [OK]at G<;>try (cases G;done)
  cases G
  obtain⟨t,rfl⟩:=r;exact .cons _ t (iN M O e2)
@[simp] def Dl:D->D->OB
 |.str G,.lst ds=>(gX ds).bind λzs=>if(zs.map (·.length)).sum+zs.length*G.length<=16777216 then some (.str (Txt.join G zs),false)else none
 |.str G,.tup ds=>(gX ds).bind λzs=>if(zs.map (·.length)).sum+zs.length*G.length<=16777216 then some (.str (Txt.join G zs),false)else none
 |_,_=>none
def OM:Kw X "str.join" (λx xs H Q=>∃y,xs=[y]/\rD X.K Dl x y H Q):=by
 intro ak s σ H x xs v us Q I f rs h;obtain⟨y,rfl,B,dx,l,d,bb,M,g,i,G,q⟩:=h;obtain⟨m,rfl,c⟩:=ij rs;cases g<;>(try (simp  at G))
 obtain⟨t,rfl⟩:=f;cases i<;>(try (simp  at G;done))
 .rename_i h hl;obtain⟨zs,O,G⟩:=oX G;split at G
  .rename_i hok;cases G
   cases c
   obtain⟨its,T,U,j⟩:=I.tuple (bu M h);exact join_tuple U (by simpa using iN T hl O) hok λt' k=>⟨.str _,H,I.tok k,⟨t',rr⟩,q.one M (.str _)⟩
  simp_all
 .rename_i h hl;obtain⟨zs,O,G⟩:=oX G;split at G
  .rename_i hok;cases G
   cases c
   obtain⟨its,T,U,j⟩:=I.list (M.seq h);exact join_list U.isList (by simpa using iN T hl O) hok λt' k=>⟨.str _,H,I.tok k,⟨t',rr⟩,q.one M (.str _)⟩
  simp_all
def Hi (dx G:D)(r:D×Bool)(h:Dl dx G=some r):∃z,dx=.str z:=by
 cases dx<;>first|exact⟨_,rr⟩|(cases G<;>simp  at h)
noncomputable def ji:LN->LD->Env->Option Env
 |[],[],ρ=>some ρ
 |i::is,d::ds,ρ=>ji is ds (ρ.set i (some (d,false)))
 |_,_,_=>none
@[simp] def Qz (ρ:Env):ji [] [] ρ=some ρ:=by rw[ji]
@[simp] def BH (i:Nat)(is:LN)(d:D)(ds:LD)(ρ:Env):ji (i::is) (d::ds) ρ=ji is ds (ρ.set i (some (d,false))):=by rw[ji]
@[simp] def RI (d:D)(ds:LD)(ρ:Env):ji [] (d::ds) ρ=none:=by simp only[ji]
@[simp] def RJ (i:Nat)(is:LN)(ρ:Env):ji (i::is) [] ρ=none:=by simp only[ji]
@[simp] def Dm (is:LN):FG:=λd ρ=>match d with|.tup ds=>ji is ds ρ|_=>none
def rM:LN->NV
 |[]=>QQ
 |i::is=>MO (kP i) (rM is)
def Hj:aX (fw N (own σ ρ)) (fw N (own (σ.set i (some v)) (ρ.set i (some (d,false))))):=fH λa u e q=>⟨e,λz=>q (by
 rcases qP z with⟨_,d',p⟩|⟨j,_,d',G,M⟩
 .cases p
 .exact⟨j,d',G,M⟩)⟩
theorem wa {K:Frag}:∀ {is:LN}{vs:LV}{ds:LD}{B0 H0 N H:Hp}{σ:St}{ρ ρ':Env}{Q:St->Hp->Prop},eI K B0 H0 N H σ ρ->IsL K (fw N (own σ ρ)) vs ds->ji is ds ρ=some ρ'->(∀G,eI K B0 H0 N H G ρ'->Q G H)->rM is vs σ H Q
 |[],_,_,_,_,_,_,_,_,_,_,s,.nil,e,k=>by
  cases e
  exact⟨rr,k _ s⟩
 |[],_,_,_,_,_,_,_,_,_,_,_,.cons _ _,e,_=>by simp at e
 |_::_,_,_,_,_,_,_,_,_,_,_,_,.nil,e,_=>by simp at e
 |i::is,_,_,_,_,_,_,_,_,_,_,s,.cons h hs,e,k=>by
  exact⟨_,_,rr,wa (s.bind h) (hs.mono Hj) e k⟩
theorem oV:∀ {is:LN}{ds:LD}{ρ ρ':Env},ji is ds ρ=some ρ'->ds.length=is.length
 |[],[],_,_,_=>rr
 |_::_,_::_,_,_,e=>by rw[BH]at e;simp[oV e]
 |[],_::_,_,_,e=>by simp at e
 |_::_,[],_,_,e=>by simp at e
def Nc {K:Frag}{is:LN}:KE K (Dm is) (NX K is.length (rM is)):=by
 intro B0 H0 N H σ ρ ρ' v d Q s h e k;cases h with
 |@tup a vs ds M hl=>
  have G :=e;exact⟨a,vs,rr,bu (bT.trans s.ext.nh) M,by rw[hl.length];exact oV G,wa s hl G λO s'=>k _ H ⟨N,s'⟩⟩
 |_=>cases e
theorem wb {K:Frag}{n:Nat}{B H:Hp}{G:Env}{Q:St->Hp->Prop}(cl:∀i,i<n->G[i]? = some none):∀ {is:LN}{vs:LV}{ds:LD}{σ:St}{ρ O:Env},(∀i∈is,i<n)->gz K B σ ρ->IsL K B vs ds->ji is ds ρ=some O->ρ.length=σ.length->ρ.length=G.length ->
  (∀M,gz K B M O->(∀T,gz K T σ G->gz K T M G)->G.length=M.length->Q M H)->rM is vs σ H Q
 |[],_,_,_,_,_,_,rp,.nil,e,l1,l2,k=>by
  cases e
  exact⟨rr,k _ rp (λ_ z=>z) N9⟩
 |[],_,_,_,_,_,_,_,.cons _ _,e,_,_,_=>by simp at e
 |_::_,_,_,_,_,_,_,_,.nil,e,_,_,_=>by simp at e
 |i::is,_,_,σ,ρ,_,hn,rp,.cons  h hs,e,l1,l2,k=>by
  have hi:=hn i mX;have U:i<σ.length:=by
   grind
  refine⟨_,_,rr,wb cl (λj hj=>hn j (mZ _ hj)) ⟨rp.tb,λj d b q=>?_⟩ hs e (by simpa using l1) (by simpa using l2) λM c f l=>k _ c (λT z=>f T ⟨z.tb,λj d b q=>?_⟩) l⟩
  .rcases cr q with⟨rfl,pp⟩|⟨ne,pp⟩
   .simp_all
   .obtain⟨w,h1,h2⟩:=rp.at' j d b pp;simp_all
  .obtain⟨w,h1,h2⟩:=z.at' j d b q;have ne:i≠j:=λz=>by subst z;rw[cl i hi]at q;cases q
   exact⟨w,by simp_all,h2⟩
def Nd {K:Frag}{n:Nat}{is:LN}(hn:∀i∈is,i<n):MX K n (Dm is) (NX K is.length (rM is)):=by
 intro B H σ ρ O v d Q cl rep s h e hl k;cases h with
 |@tup a vs ds T G=>
  have M :=e;exact⟨a,vs,rr,bu s T,by rw[G.length];exact oV M,wb cl hn rep G M hl rr k⟩
 |_=>cases e
end
section
variable {prog:Program}{w:World}{A:Around}{E:QV}{s:Shared}
def BI (st:s.heap.IsTupleIter it l i)(G:s.heap.IsTuple l items)(M:items[i]? = some v)
  (k:∀h',h'.IsTupleIter it l (i+1)->Heap.SameBut it s.heap h'->Q v { s with heap:=h' }):wpAny (model prog w) A (Builtin.SmallTypes.nextOf (.ref it)) Q E s:=by
 obtain⟨U,g1,O,d1⟩:=id st;obtain⟨a,T,_,n2,d2⟩:=G;refine wX (wpAny_callSpecial?_slot  st.typeIs slot_tuple_iterator_next (wpAny_call_entry slot_tuple_iterator_next st.typeIs PySem.F.entry_tuple_iterator_next ?_ (PySem.F.args_tuple_iterator_next_1 _)));show wpAny _ _ (field _ 0>>=_) _ _ _;refine wX (wpAny_field g1 d1  rr ?_);refine wX (wpAny_field g1 d1  rr ?_);refine wX (wpAny_seqItems T d2 ?_);simp  [M,Int.toNat_natCast];refine wX (wpAny_setField g1 d1 X9 (wY ⟨v,rr,wY (k _ ?_ (vW ..))⟩));exact⟨_,Heap.get?_update_self _ g1 (Obj.isFreed_of_fields (Obj.data_mapFields d1 _)),(Obj.cls_mapFields ..).trans O,by rw[Obj.data_mapFields d1];simp[rawInt]⟩
def EZ (G:A.handled=none)(st:s.heap.IsTupleIter it l i)(M:s.heap.IsTuple l items)(O:items[i]? = none)
  (k:∀h' x,Heap.ExtBut it s.heap h'->(∃o,h'.get? x=some o/\o.cls=.type "StopIteration")->E (.ref x) { s with heap:=h' }):wpAny (model prog w) A (Builtin.SmallTypes.nextOf (.ref it)) Q E s:=by
 obtain⟨U,g1,a,d1⟩:=id st;obtain⟨b,T,_,n2,d2⟩:=M;refine wX (wpAny_callSpecial?_slot  st.typeIs slot_tuple_iterator_next (wpAny_call_entry slot_tuple_iterator_next st.typeIs PySem.F.entry_tuple_iterator_next ?_ (PySem.F.args_tuple_iterator_next_1 _)));show wpAny _ _ (field _ 0>>=_) _ _ _;refine wX (wpAny_field g1 d1  rr ?_);refine wX (wpAny_field g1 d1  rr ?_);refine wX (wpAny_seqItems T d2 ?_);simp  [O,Int.toNat_natCast];refine wX (wpAny_rule (wX (wpAny_setField g1 d1 X9 ?_)));refine wX ?_;refine wX (m:=firstArgMember _ _) (wpAny_of_eq  S9 ?_);refine wpAny_newObj_type ?_ N8;refine wX (wpAny_handled ?_);first|rw[G]|rw[show A.in1.handled=none from G]
 exact wX (wY (wpAny_throw (k _ _ (((vW ..).extBut.push _).push _) ⟨_,vY _ rr,rr⟩)))
end
def lN:Bool->Heap->Addr->Addr->Nat->Prop
 |true,h,it,a,i=>h.IsListIter it a i
 |false,h,it,a,i=>h.IsTupleIter it a i
def lO:Bool->Heap->Addr->AV->Prop
 |true,h,a,items=>h.IsList a items
 |false,h,a,items=>h.IsTuple a items
def mE (k:Bool)(K:Frag)(H:Hp)(a:Addr)(xs:LV):Prop:=match k with|true=>gB K H a xs|false=>jf K H a xs
def lN.ob (st:lN k h it a i):∃o,h.get? it=some o/\∀v,o.data≠.cell v:=by
 cases k<;>(obtain⟨o,g,_,d⟩:=st;simp_all)
def lN.upon (st:lN k h it a i)(g:∀o,h.get? it=some o->h'.get? it=some o):lN k h' it a i:=by
 cases k<;>(obtain⟨o,e,r⟩:=st;exact⟨o,g o e,r⟩)
def lO.upon (st:lO k h a items)(g:∀o,h.get? a=some o->h'.get? a=some o):lO k h' a items:=by
 cases k<;>(obtain⟨o,e,r⟩:=st;exact⟨o,g o e,r⟩)
def lO.lt (st:lO k h a items):a<h.objs.size:=by
 cases k<;>(obtain⟨o,e,r⟩:=st;exact vX e)
theorem mE.same {k:Bool}{K:Frag}{H H':Hp}{a:Addr}{xs:LV}(h:mE k K H a xs)(e:aX H H'):mE k K H' a xs:=by
 cases k
 .exact bu e h
 .exact e.seq h
def mE.vals (I:Inv X ak σ H s)(h:mE k X.K H a xs):∃its:LU,bi xs its/\lO k s.heap a its.toArray/\xs.length<=sizeLine:=by
 cases k
 .exact I.tuple h
 .obtain⟨its,r,p,z⟩:=I.list h;exact⟨its,r,p.isList,z⟩
def mE.inj (I:Inv X ak σ H s)(h:mE k X.K H a xs)(h':mE k X.K H a ys):xs=ys:=by
 cases k
 .exact I.tuple_inj h h'
 .exact I.list_inj h h'
section
variable {prog:Program}{w:World}{A:Around}{E:QV}{s:Shared}
def gG (st:lN k s.heap it l i)(G:lO k s.heap l items)(M:items[i]? = some v)
  (q:∀h',lN k h' it l (i+1)->Heap.SameBut it s.heap h'->Q v { s with heap:=h' }):wpAny (model prog w) A (Builtin.SmallTypes.nextOf (.ref it)) Q E s:=by
 cases k
 .exact BI st G M q
 .exact wpAny_nextOf_list_item st G M q
def jE (G:A.handled=none)(st:lN k s.heap it l i)(M:lO k s.heap l items)(O:items[i]? = none)
  (q:∀h' x,Heap.ExtBut it s.heap h'->(∃o,h'.get? x=some o/\o.cls=.type "StopIteration")->E (.ref x) { s with heap:=h' }):wpAny (model prog w) A (Builtin.SmallTypes.nextOf (.ref it)) Q E s:=by
 cases k
 .exact EZ G st M O q
 .exact wpAny_nextOf_list_end G st M O q
end
noncomputable def La (k:Bool)(l:Addr):Obj:={ cls:=.type (if k=true then "list_iterator" else "tuple_iterator"),data:=.fields #[.ref l,.int 0 0] }
def nD (G:lO k s.heap l items)
  (q:Q (.ref s.heap.objs.size) { s with heap:=s.heap.push (La k l) }):wpAny (model prog w) A (pyIter (.ref l)) Q E s:=by
 cases k
 .exact wpAny_pyIter_tuple G q
 .exact wpAny_pyIter_list G q
def lO.push (st:lO k h a items)(o:Obj):lO k (h.push o) a items:=st.upon λ_ e=>vZ _ e
section
variable (k1 k2:Bool) (h:Heap) (l1 l2:Addr)
abbrev zA:Heap:=h.push (La k1 l1)
abbrev zB:Heap:=(zA k1 h l1).push (La k2 l2)
abbrev zC:Heap:=(zB k1 k2 h l1 l2).push { cls:=.type "tuple",data:=.seq #[.ref h.objs.size,.ref (zA k1 h l1).objs.size] }
abbrev zD:Heap:=(zC k1 k2 h l1 l2).push { cls:=.type "tuple",data:=.seq #[.none,.none] }
abbrev zE:Heap:=(zD k1 k2 h l1 l2).push { cls:=.type "zip",data:=.fields #[.none,.bool false,.bool false,.ref (zB k1 k2 h l1 l2).objs.size,.ref (zC k1 k2 h l1 l2).objs.size] }
end
def BJ (k1 k2:Bool)(l1 l2:Addr)(xs ys:AV):Meets (Builtin.«zip.__new__» ⟨[.type "zip",.ref l1,.ref l2],[]⟩) (λ_ R s=>lO k1 s.heap l1 xs/\lO k2 s.heap l2 ys /\
   R (.ok (.ret (.ref (zD k1 k2 s.heap l1 l2).objs.size))) { s with heap:=zE k1 k2 s.heap l1 l2 }) :=
 .of_wp λprog w A R s hs=>by
  obtain⟨hp,g,d,tk,os⟩:=s;obtain⟨M,O,hs⟩:=hs;have G:=sub_zip;have T :=M;have p2:lO k2 (Shared.heap ⟨hp.push (La k1 l1),g,d,tk,os⟩) l2 ys:=lO.push O _;wp_walk using nD T,nD p2;exact⟨_,rr,hs⟩
section
variable {prog:Program}{w:World}{A:Around}{E:QV}{s:Shared}
def Dn (f:lO k1 s.heap l1 xs)(g:lO k2 s.heap l2 ys)
  (q:∀h',IsZip h' (s.heap.objs.size+4) (s.heap.objs.size+2) (s.heap.objs.size+3) .none->IsPair h' (s.heap.objs.size+2) (.ref s.heap.objs.size) (.ref (s.heap.objs.size+1))->IsPair h' (s.heap.objs.size+3) .none .none ->
   lN k1 h' s.heap.objs.size l1 0->lN k2 h' (s.heap.objs.size+1) l2 0->(∀c o,s.heap.get? c=some o->h'.get? c=some o)->Q (.ref (s.heap.objs.size+4)) { s with heap:=h' }):
  wpAny (model prog w) A (call (.type "zip") [.ref l1,.ref l2]) Q E s:=by
 refine callType_new PySem.F.called_zip Z9 (PySem.F.typeCall_zip_2 _ _) (PySem.F.newCall_zip_2 _ _) (λobj=>PySem.F.args_object_init_3 obj _ _) PySem.F.entry_zip_new (BJ k1 k2 l1 l2 xs ys) ⟨f,g,?_⟩;have n1:(zA k1 s.heap l1).objs.size=s.heap.objs.size+1:=Heap.size_push ..;have n2:(zB k1 k2 s.heap l1 l2).objs.size=s.heap.objs.size+2:=by rw[Heap.size_push,n1]
 have n3:(zC k1 k2 s.heap l1 l2).objs.size=s.heap.objs.size+3:=by rw[Heap.size_push,n2]
 have n4:(zD k1 k2 s.heap l1 l2).objs.size=s.heap.objs.size+4:=by rw[Heap.size_push,n3]
 have M:∀ {c o},(zD k1 k2 s.heap l1 l2).get? c=some o->(zE k1 k2 s.heap l1 l2).get? c=some o:=λe=>vZ _ e;have O:∀ {c o},(zC k1 k2 s.heap l1 l2).get? c=some o->(zE k1 k2 s.heap l1 l2).get? c=some o:=λe=>M (vZ _ e);have T:∀ {c o},(zB k1 k2 s.heap l1 l2).get? c=some o->(zE k1 k2 s.heap l1 l2).get? c=some o:=λe=>O (vZ _ e);have U:∀ {c o},(zA k1 s.heap l1).get? c=some o->(zE k1 k2 s.heap l1 l2).get? c=some o:=λe=>T (vZ _ e);have h:∀ {c o},s.heap.get? c=some o->(zE k1 k2 s.heap l1 l2).get? c=some o:=λe=>U (vZ _ e);have G:(zE k1 k2 s.heap l1 l2).get? _=some _:=vY _ rr;have a :=M (vY _ rr);have b :=O (vY _ rr);have d :=T (vY _ (by cases k2<;>rfl))
 have g1 :=U (vY _ (by cases k1<;>rfl))
 rw[n2,n3,n4]at G;rw[n1,n2]at b;rw[n3]at a;rw[n1]at d;show _/\_;rw[n4];refine⟨⟨_,G,rr⟩,q _ G b a ?_ ?_ λc o e=>h e⟩
 .cases k1<;>exact⟨_,g1,rr,rr⟩
 .cases k2<;>exact⟨_,d,rr,rr⟩
structure ZApart (z TI TO i1 i2:Addr):Prop where
 tz:TI≠z
 oz:TO≠z
 az:i1≠z
 bz:i2≠z
 oa:TO≠i1
 ob:TO≠i2
 to:TI≠TO
 ta:TI≠i1
 tb:TI≠i2
 ab:i1≠i2
def z6 {k1 k2:Bool}{z TI TO i1 i2 l1 l2:Addr}{j:Nat}{xs ys:AV}{x y a b:Value}{Q:QV}(D:ZApart z TI TO i1 i2)(m1:l1≠z/\l1≠TO/\l1≠i1)(m2:l2≠z/\l2≠TO/\l2≠i1/\l2≠i2)
  (hz:IsZip s.heap z TI TO .none) (L:IsPair s.heap TI (.ref i1) (.ref i2)) (N:IsPair s.heap TO a b) (P:lN k1 s.heap i1 l1 j) (R:lN k2 s.heap i2 l2 j) (S:lO k1 s.heap l1 xs) (V:lO k2 s.heap l2 ys) (hx:xs[j]? = some x) (hy:ys[j]? = some y)
  (q:∀h',IsZip h' z TI TO (rawInt s.heap.objs.size)->IsPair h' TO x y->lN k1 h' i1 l1 (j+1)->lN k2 h' i2 l2 (j+1)->IsPair h' s.heap.objs.size x y->h'.objs.size=s.heap.objs.size+1 ->
   (∀c o,c≠z->c≠TO->c≠i1->c≠i2->s.heap.get? c=some o->h'.get? c=some o)->Q (.ref s.heap.objs.size) { s with heap:=h' }):
  wpAny (model prog w) A (Builtin.«zip.__next__» ⟨[.ref z],[]⟩) (λii s'=>∃v,ii=.done (.ret v)/\Q v s') E s:=by
 show wpAny _ _ (field (.ref z) 2>>=_) _ _ s;refine wX (wpAny_field hz rr (x:=.bool false) rr ?_);show wpAny _ _ (field (.ref z) 3>>=_) _ _ s;refine wX (wpAny_field hz rr (x:=.ref TI) rr (wX (wpAny_seqItems L rr ?_)));refine wX ?_;unfold Builtin.SmallTypes.ownedTupleIsFree;refine wX (wpAny_field hz rr (x:=.none) rr (wY ?_));simp only[if_true];refine wX (wpAny_rule (wX (wpAny_field hz rr (x:=.ref TO) rr (wX (wpAny_setField_rec hz X9 λg1 U s1=>?_)))));replace U:IsZip g1 z TI TO .ellipsis:=U;refine wX ?_;refine wX (wX (wpAny_onRaise ?_));refine wX (gG (s:={ s with heap:=g1 }) (P.upon λo e=>s1.extBut _ _ D.az e) (S.upon λo e=>s1.extBut _ _ m1.1 e) hx λW l s2=>wY ?_);have C:IsPair W TO a b:=s2.extBut _ _ D.oa (s1.extBut _ _ D.oz N);refine wX (wpAny_seqItems C rr (wX (wpAny_updateSeq_pair C λm d i=>?_)));replace d:IsPair m TO x b:=d;refine wX (wpAny_letGo (wY (wX (wX (wpAny_onRaise ?_)))));have n:∀ {c o},c≠z->c≠TO->c≠i1->s.heap.get? c=some o->m.get? c=some o:=λM c2 c3 e=>i.extBut _ _ c2 (s2.extBut _ _ c3 (s1.extBut _ _ M e));refine wX (gG (s:={ s with heap:=m }) (R.upon λo e=>n D.bz D.ob.symm D.ab.symm e) (V.upon λo e=>n m2.1 m2.2.1 m2.2.2.1 e) hy λX p f=>wY ?_);have F:IsPair X TO x b:=f.extBut _ _ D.ob d;refine wX (wpAny_seqItems F rr (wX (wpAny_updateSeq_pair F λG O g=>?_)));replace O:IsPair G TO x y:=O;refine wX (wpAny_letGo (wY (wY (wX (wpAny_seqItems O rr (wX (wpAny_newTuple ?_)))))));have sz:G.objs.size=s.heap.objs.size:=by rw[g.1,f.1,i.1,s2.1,s1.1]
 have Y:∀c o,c≠z->c≠TO->c≠i1->c≠i2->s.heap.get? c=some o->G.get? c=some o:=λc o M c2 c3 r e=>g.extBut _ _ c2 (f.extBut _ _ r (n M c2 c3 e));have H:IsZip G z TI TO .ellipsis:=g.extBut _ _ D.oz.symm (f.extBut _ _ D.bz.symm (i.extBut _ _ D.oz.symm (s2.extBut _ _ D.az.symm U)));have Z:lN k1 G i1 l1 (j+1):=l.upon λo e=>g.extBut _ _ D.oa.symm (f.extBut _ _ D.ab (i.extBut _ _ D.oa.symm e));have Zm:lN k2 G i2 l2 (j+1):=p.upon λo e=>g.extBut _ _ D.ob.symm e;have I:z<G.objs.size:=vX H;refine wX ?_;unfold Builtin.SmallTypes.ownedTupleHandOut;have Zn:IsZip (G.push { cls:=.type "tuple",data:=.seq #[x,y] }) z TI TO .ellipsis:=vZ _ H;refine wX (wpAny_setField_rec Zn X9 λg7 t u=>?_);refine wpAny_setField_rec t X9 λk h B=>?_;have T:∀c o,c≠z->G.get? c=some o->k.get? c=some o:=λc o M e=>B.extBut _ _ M (u.extBut _ _ M (vZ _ e));have J:IsPair k G.objs.size x y:=B.extBut _ _ (ne_of_gt I) (u.extBut _ _ (ne_of_gt I) (vY _ rr));have K:k.objs.size=G.objs.size+1:=by rw[B.1,u.1,Heap.size_push]
 rw[sz]at h J K;refine wY ⟨_,rr,?_⟩;show Q (.ref G.objs.size) _;rw[sz];exact q k h (T _ _ D.oz O) (Z.upon λo e=>T _ o D.az e) (Zm.upon λo e=>T _ o D.bz e) J K λc o M c2 c3 r e=>T c o M (Y c o M c2 c3 r e)
end
section
variable {prog:Program}{w:World}{A:Around}{E:QV}{s:Shared}
def Dp {k1 k2:Bool}{z TI TO i1 i2 l1 l2:Addr}{j:Nat}{xs ys:AV}{a b:Value}{Q:PySem.Fin->Shared->Prop}(l:A.handled=none)(D:ZApart z TI TO i1 i2)(m1:l1≠z/\l1≠TO/\l1≠i1)(m2:l2≠z/\l2≠TO/\l2≠i1/\l2≠i2)
  (hz:IsZip s.heap z TI TO .none) (t:IsPair s.heap TI (.ref i1) (.ref i2)) (u:IsPair s.heap TO a b) (m:lN k1 s.heap i1 l1 j) (y:lN k2 s.heap i2 l2 j) (n:lO k1 s.heap l1 xs) (B:lO k2 s.heap l2 ys) (he:xs[j]? = none\/ys[j]? = none)
  (q:∀h' x,(∀c o,c≠z->c≠TO->c≠i1->c≠i2->s.heap.get? c=some o->h'.get? c=some o)->(∃o,h'.get? x=some o/\o.cls=.type "StopIteration")->E (.ref x) { s with heap:=h' }):
  wpAny (model prog w) A (Builtin.«zip.__next__» ⟨[.ref z],[]⟩) Q E s:=by
 show wpAny _ _ (field (.ref z) 2>>=_) _ _ s;refine wX (wpAny_field hz rr (x:=.bool false) rr ?_);refine wX (wpAny_field hz rr (x:=.ref TI) rr (wX (wpAny_seqItems t rr ?_)));refine wX ?_;refine wX (wpAny_field hz rr (x:=.none) rr (wY ?_));simp only[if_true];refine wX (wpAny_rule (wX (wpAny_field hz rr (x:=.ref TO) rr (wX (wpAny_setField_rec hz X9 λg1 O s1=>?_)))));refine wX ?_;refine wX (wX (wpAny_onRaise ?_));cases hx:xs[j]? with
 |none=>
  refine wX (jE (s:={ s with heap:=g1 }) l (m.upon λo e=>s1.extBut _ _ D.az e) (n.upon λo e=>s1.extBut _ _ m1.1 e) hx λf x s2 hX=>?_);obtain⟨g,h,i⟩:=hX;have C:IsZip f z TI TO .ellipsis:=s2 _ _ D.az.symm O;have k:x≠z:=λF=>by lia
  exact wpAny_setField_rec C X9 λd _ T=>q d x (λc o G _ c3 _ e=>T.extBut _ _ G (s2 _ _ c3 (s1.extBut _ _ G e))) ⟨g,T.extBut _ _ k h,i⟩
 |some v=>
  have hy:ys[j]? = none:=by
   lia
  refine wX (gG (s:={ s with heap:=g1 }) (m.upon λo e=>s1.extBut _ _ D.az e) (n.upon λo e=>s1.extBut _ _ m1.1 e) hx λf H s2=>wY ?_);have U:IsPair f TO a b:=s2.extBut _ _ D.oa (s1.extBut _ _ D.oz u);refine wX (wpAny_seqItems U rr (wX (wpAny_updateSeq_pair U λd I T=>?_)));refine wX (wpAny_letGo (wY (wX (wX (wpAny_onRaise ?_)))));have M:∀ {c o},c≠z->c≠TO->c≠i1->s.heap.get? c=some o->d.get? c=some o:=λG c2 c3 e=>T.extBut _ _ c2 (s2.extBut _ _ c3 (s1.extBut _ _ G e));refine wX (jE (s:={ s with heap:=d }) l (y.upon λo e=>M D.bz D.ob.symm D.ab.symm e) (B.upon λo e=>M m2.1 m2.2.1 m2.2.2.1 e) hy λJ x p hX=>?_);obtain⟨g,h,i⟩:=hX;have K:IsZip J z TI TO .ellipsis:=p _ _ D.bz.symm (T.extBut _ _ D.oz.symm (s2.extBut _ _ D.az.symm O));have k:x≠z:=λF=>by lia
  exact wpAny_setField_rec K X9 λL _ r=>q L x (λc o G c2 c3 N e=>r.extBut _ _ G (p _ _ N (M G c2 c3 e))) ⟨g,r.extBut _ _ k h,i⟩
end
def lP {X:Cx}{ak:AO}{σ:St}{H:Hp}{s:Shared}{h':Heap}{t':Nat}{ch:List Addr}(I:Inv X ak σ H s)(f:∀b∈ch,m9 X ak H b)(k:∀b o,b∉ch->s.heap.get? b=some o->h'.get? b=some o):Inv X ak σ H { s with heap:=h',toks:=t' }:=by
 have G:∀b u,H b=some u->b∉ch:=λb u e z=>by rw[(f b z).1]at e;cases e
 refine I.step    (λb hb=>?_) (λb o _ _ hc e _=>k b o hc e) (λb o _ _ hc e _=>⟨o.slots,k b o hc e⟩) (λ_ _ _ _ n=>n)
  (λb o hc e=>⟨o,k b o hc e⟩) (λ_ _ e=>e) (λ_ _ _ e=>e) (λ_ _ e=>e) (λm hm=>?_) (λb u e=>?_) I.bare
 .obtain⟨_,f1,_,f3,f4,f5⟩:=f b hb;exact⟨f3,f1,f4,f5⟩
 .obtain⟨o,es,M,ho,r⟩:=hm;exact⟨o,es,M,k _ o (λz=>(f _ z).2.1 rr) ho,r⟩
 .refine(I.hok b u e).stay (λc v hc q=>k c v ?_ q) (λ_ q=>q) (λ_ _ q=>q) λ_ _ _ q=>q;grind
def Dq {X:Cx}{ak:AO}{σ:St}{H:Hp}{s:Shared}{h':Heap}{t':Nat}{ch:List Addr}{a:Addr}{ob:HO}(I:Inv X ak σ H s)(f:∀b∈ch,m9 X ak H b)(k:∀b o,b∉ch->s.heap.get? b=some o->h'.get? b=some o)(ha:s.heap.objs.size<=a)
  (new:bJ X.prog X.w (upd H a ob) h' a ob):Inv X ak σ (upd H a ob) { s with heap:=h',toks:=t' }:=by
 have hn:H a=none:=I.hok.fresh ha;have G:∀b u,H b=some u->b∉ch:=λb u e z=>by rw[(f b z).1]at e;cases e
 have M:∀b o,s.heap.get? b=some o->b≠a:=λb o e=>vS (vQ (vX e) ha);refine I.step   (ch:=ch) (λb hb=>?_) (λb o _ _ hc e _=>k b o hc e) (λb o _ _ hc e _=>⟨o.slots,k b o hc e⟩) (λb o _ e n=>by rw[aH (M b o e)];exact n)
  (λb o hc e=>⟨o,k b o hc e⟩) (λb xs e=>by rw[aH (bo e hn)];exact e) (λb o u e=>by rw[aH (bo e hn)];exact e) (λb ps e=>by rw[aH (bo e hn)];exact e) (λm hm=>?_) (λb u e=>?_) I.bare
 .obtain⟨_,f1,_,f3,f4,f5⟩:=f b hb;exact⟨f3,f1,f4,f5⟩
 .obtain⟨o,es,O,ho,r⟩:=hm;exact⟨o,es,O,k _ o (λz=>(f _ z).2.1 rr) ho,r⟩
 .by_cases hb:b=a
  .simp_all[a6]
  .rw[aH hb]at e;refine(I.hok b u e).stay (λc v hc q=>k c v ?_ q) (λc q=>?_) (λc xs q=>?_) λc o xs q=>?_
   .grind
   .rw[aH (bo q hn)];exact q
   .rw[aH (bo q hn)];exact q
   .rw[aH (bo q hn)];exact q
noncomputable def U5 (K:Frag)(k1 k2:Bool)(G M:Addr):It :=
  ⟨λi H=>∃xs ys x y,mE k1 K H G xs/\mE k2 K H M ys/\xs[i]? = some x/\ys[i]? = some y,
   λi H v H'=>∃T x y,v=.ref T/\H T=none/\H'=upd H T (.tup [x,y])/\(∀xs,mE k1 K H G xs->xs[i]? = some x)/\(∀ys,mE k2 K H M ys->ys[i]? = some y),
   λi H=>∃xs ys,mE k1 K H G xs/\mE k2 K H M ys/\(xs.length<=i\/ys.length<=i)⟩
def Hk {P:Program}{w:World}{K:Frag}{es:QD}{C:Nat}{pt:Pos}{k1 k2:Bool}{g d z TI TO i1 i2:Addr}(D:ZApart z TI TO i1 i2)(m1:g≠z/\g≠TO/\g≠i1)(m2:d≠z/\d≠TO/\d≠i1/\d≠i2):
  Turn P w K (.Tuple es C pt) (U5 K k1 k2 g d) [z,TI,TO,i1,i2] z (λi h=>IsZip h z TI TO .none/\IsPair h TI (.ref i1) (.ref i2)/\(∃a b,IsPair h TO a b)/\lN k1 h i1 g i/\lN k2 h i2 d i) where
 mem:=X9
 obj:=λi h st b hb=>by
  obtain⟨hz,U,⟨a,c,f⟩,M,O⟩:=st;simp at hb;rcases hb with rfl|rfl|rfl|rfl|rfl
  .simp_all
  .simp_all
  .simp_all
  .exact M.ob
  .exact O.ob
 keep:=λi h h' st k=>by
  obtain⟨hz,U,⟨a,c,f⟩,M,O⟩:=st;exact⟨k z X9 _ hz,k TI X9 _ U,⟨a,c,k TO X9 _ f⟩,M.upon λo e=>k i1 X9 o e,O.upon λo e=>k i2 X9 o e⟩
 item:=by
  intro X n hw p hc i ak s σ H E I hf st r;subst n hw p;obtain⟨hz,U,⟨a,c,f⟩,M,O⟩:=st;obtain⟨xs,ys,x,y,l,m,hx,hy⟩:=r;obtain⟨its,t,A,F⟩:=l.vals I;obtain⟨J,B,p2,L⟩:=m.vals I;obtain⟨u,hu,ru⟩:=t.get hx;obtain⟨v,N,Q⟩:=B.get hy;have j:s.TypeIs (.ref z) "zip":=⟨_,hz,rr⟩;have fresh:H s.heap.objs.size=none:=I.hok.fresh (vT _);have lt:∀ {c o},s.heap.get? c=some o->c≠s.heap.objs.size:=λe=>vS (vX e);have l1:i1≠s.heap.objs.size:=by obtain⟨o,e,_⟩:=M.ob;exact lt e
  have l2:i2≠s.heap.objs.size:=by obtain⟨o,e,_⟩:=O.ob;exact lt e
  unfold pyNext;refine wX (wpAny_attempt (wpAny_callSpecial?_slot (name:=Str.ofString "__next__") j slot_zip_next (wpAny_call_entry slot_zip_next j entry_zip_next (z6 D m1 m2 hz U f M O A p2 (by simpa using hu) (by simpa using N) λh' b1 b2 b3 b4 R b6 bk=>wY ?_) (args_zip_next_1 _))));refine⟨_,rr,wpAny_letOwnedTupleGo_zip (s:={ s with heap:=h' }) b1 λh2 S s2=>?_⟩;have G:Heap.SameBut z h' h2:=s2;have V:∀b o,b∉[z,TI,TO,i1,i2]->s.heap.get? b=some o->h2.get? b=some o:=λb o hb e=>
   G.extBut _ _ (λq=>hb (by simp[q])) (bk b o (λq=>hb (by simp[q])) (λq=>hb (by simp[q])) (λq=>hb (by simp[q])) (λq=>hb (by simp[q])) e)
  have W:s.heap.objs.size≠z:=(lt hz).symm;have new:bJ X.prog X.w (upd H s.heap.objs.size (.tup [x,y])) h2 s.heap.objs.size (.tup [x,y]):=⟨by show 2<=sizeLine;decide,[u,v],.cons ru (.cons Q .nil),⟨_,G.extBut _ _ W R,rr,_,rr⟩⟩;refine⟨.ref s.heap.objs.size,upd H s.heap.objs.size (.tup [x,y]),?_,rr,⟨_,x,y,rr,fresh,rr,λzs hq=>by rw[mE.inj I hq l];exact hx,λzs hq=>by rw[mE.inj I hq m];exact hy⟩,?_,λb hb=>?_⟩
  .exact Dq (s:=s) (t':=s.toks) I hf V (vT _) new
  .exact⟨S,G.extBut _ _ D.tz (bk _ _ D.tz D.to D.ta D.tb U),⟨_,_,G.extBut _ _ D.oz b2⟩,b3.upon λo e=>G.extBut _ _ D.az e,b4.upon λo e=>G.extBut _ _ D.bz e⟩
  .have Y:b≠s.heap.objs.size:=by
    grind
   rw[aH Y];exact(hf b hb).1
 done:=by
  intro X n hw p hc i ak s σ H E I hf st r;subst n hw p;obtain⟨hz,U,⟨a,c,f⟩,M,O⟩:=st;obtain⟨xs,ys,l,m,hl⟩:=r;obtain⟨its,t,A,F⟩:=l.vals I;obtain⟨J,B,p2,L⟩:=m.vals I;have j:s.TypeIs (.ref z) "zip":=⟨_,hz,rr⟩;have n1:=t.length;have n2:=B.length;unfold pyNext;refine wX (wpAny_attempt (wpAny_callSpecial?_slot (name:=Str.ofString "__next__") j slot_zip_next (wpAny_call_entry slot_zip_next j entry_zip_next (Dp (I.ok.hd hc) D m1 m2 hz U f M O A p2 (hl.imp (λq=>by simp;lia) λq=>by simp;lia) λh' x hk hX=>?_) (args_zip_next_1 _))));obtain⟨o,Z,co⟩:=hX;refine wX (wpAny_isInstance (T:="StopIteration") (b:=true) ⟨o,Z,co⟩ isSubtype_stop (wY ⟨rr,?_⟩));exact lP (t':=s.toks) I hf λb o hb e=>hk b o (λq=>hb (by simp[q])) (λq=>hb (by simp[q])) (λq=>hb (by simp[q])) (λq=>hb (by simp[q])) e
 self:=λ_ _ _ _ _ st h=>wpAny_pyIter_zip st.1 h
section
variable {X:Cx}{a b e:Expr}{pos:Pos}{p:Pos}
def Nf:bootBuiltins "zip" = some (.type "zip"):=H9
def RK (K:Frag)(ta:TA):TI:=λσ H R=>ta σ H λvs G=>∃(k1 k2:Bool)(l1 l2:Addr)(xs ys:LV),vs=[.ref l1,.ref l2]/\mE k1 K G l1 xs/\mE k2 K G l2 ys/\R (U5 K k1 k2 l1 l2) G
def ON {es:QD}{f:Nat}{pt:Pos}{ta:TA}(g:Gl X "zip")(hm:X.mg "zip" = none)(ha:PA X [a,b] ta)(hs:starEach [a,b] X.env=[(false,eval a X.env),(false,eval b X.env)]:=by rfl)(O:starEach [b] X.env=[(false,eval b X.env)]:=by rfl):
  PI X (.Tuple es f pt) (.Call (.Name "zip" p) [a,b] [] pos) (RK X.K ta):=by
 intro ak s σ H R I h;refine Call_ (gA I g hm Nf (PyProof.Rows.callWith_type1 (cu (ha _ _ s σ H _ I h) λus s1 ⟨vs,i,T,j,k⟩=>?_) (by rw[hs,O]) (by rw[O];rfl)));obtain⟨k1,k2,l1,l2,xs,ys,rfl,h1,h2,q⟩:=k;obtain⟨v,w,rfl,m,o⟩:=j.two;cases m
 cases o
 obtain⟨its,x,c,y⟩:=h1.vals T;obtain⟨z,A,p2,B⟩:=h2.vals T;have Gm:=c.lt;have G:=p2.lt;refine Dn c p2 λh' d c2 c3 r t u=>?_;have D:ZApart (s1.heap.objs.size+4) (s1.heap.objs.size+2) (s1.heap.objs.size+3) s1.heap.objs.size (s1.heap.objs.size+1):=by
  constructor<;>(simp)
 have M:∀ {l:Addr}(n:Nat),l<s1.heap.objs.size->l≠s1.heap.objs.size+n:=λn hl=>vS (vQ hl (Nat.le_add_right _ n));refine wpAny_pyIter_zip d ⟨s1.heap.objs.size+4,[s1.heap.objs.size+4,s1.heap.objs.size+2,s1.heap.objs.size+3,s1.heap.objs.size,s1.heap.objs.size+1],_,_,i,rr,T.kept  u,
  Hk D ⟨M 4 Gm,M 3 Gm,M 0 Gm⟩ ⟨M 4 G,M 3 G,M 0 G,M 1 G⟩,⟨d,c2,⟨_,_,c3⟩,r,t⟩,λb hb=>?_,q⟩
 have U:s1.heap.objs.size<=b:=by
  grind
 exact T.fpOk U (T.hok.fresh U)
noncomputable def jF (xs ys:LD):LD:=List.zipWith (λx y=>.tup [x,y]) xs ys
@[simp] def Fa (fa G:FE):FA:=λρ=>(fa ρ).bind λx=>(G ρ).bind λy=>(iu x.1).bind λxs=>(iu y.1).map λys=>jF xs ys
def z8 {K:Frag}{B:Hp}{v:V}{d:D}{ds:LD}(h:Is K B v d)(e:iu d=some ds):∃k a vs,v=.ref a/\mE k K B a vs/\IsL K B vs ds:=by
 cases h with
 |tup G hl=>cases e;exact⟨false,_,_,rr,G,hl⟩
 |lst G hl=>cases e;exact⟨true,_,_,rr,G,hl⟩
 |_=>cases e
def OO {H s}(I:Inv X ak σ H s)(h1:mE k1 X.K N l1 vs)(i1:IsL X.K N vs ds)(h2:mE k2 X.K N l2 ws)(i2:IsL X.K N ws es):nq X.K (U5 X.K k1 k2 l1 l2) N (jF ds es):=by
 intro i H' G;have n1:=i1.length;have n2:=i2.length;refine⟨λd ed=>?_,λhl=>⟨vs,ws,h1.same G,h2.same G,?_⟩⟩
 .unfold jF at ed;rw[List.getElem?_zipWith]at ed;cases M:ds[i]? with
  |none=>rw[M]at ed;simp at ed
  |some x=>
   cases e2:es[i]? with
   |none=>rw[M,e2]at ed;simp at ed
   |some y=>
    rw[M,e2]at ed;simp at ed;subst ed;obtain⟨v,U,iv⟩:=i1.get M;obtain⟨w,c,h⟩:=i2.get e2;refine⟨⟨vs,ws,v,w,h1.same G,h2.same G,U,c⟩,λr H2 hy=>?_⟩;obtain⟨T,k,l,rfl,j,rfl,f1,f2⟩:=hy;have f:=f1 vs (h1.same G);have g:=f2 ws (h2.same G);rw[U]at f;cases f;rw[c]at g;cases g;have O:=Ext.laid (o:=.tup [v,w]) G j;exact⟨_,O,.tup (jf.of a6) (.cons (iv.mono O.bn) (.cons (h.mono O.bn) .nil))⟩
 grind[jF]
def Hl {es:QD}{f:Nat}{pt:Pos}{fa d:FE}(hm:X.mg "zip" = none)(ha:JE X a fa)(hb:JE X b d)(g:Gl X "zip":=by rfl)(hs:starEach [a,b] X.env=[(false,eval a X.env),(false,eval b X.env)]:=by rfl)(M:starEach [b] X.env=[(false,eval b X.env)]:=by rfl):
  JI X (.Tuple es f pt) (.Call (.Name "zip" p) [a,b] [] pos) (Fa fa d):=by
 intro ak s σ H R I q;refine ON g hm (ag ha (ag hb am M) (by rw[hs,M])) hs M _ s σ H R I ?_;obtain⟨B,ρ,ds,h,r,G,q⟩:=q;obtain⟨i,ex,G⟩:=oX G;obtain⟨j,k,G⟩:=oX G;obtain⟨xs,O,G⟩:=oX G;obtain⟨ys,T,G⟩:=oY G;subst G;refine⟨B,ρ,[i.1,j.1],h,r,by simp[ex,k],λvs l N1 U i1=>?_⟩;cases i1 with
 |cons m c=>
  cases c with
  |cons c n=>
   cases n
   obtain⟨k1,l1,us,rfl,s1,m1⟩:=z8 m O;obtain⟨k2,l2,o,rfl,s2,m2⟩:=z8 c T;exact⟨k1,k2,l1,l2,us,o,rr,s1.same U.nh,s2.same U.nh,q _ l N1 U (OO I s1 m1 s2 m2)⟩
end
noncomputable def unown1 (ρ:Env)(i:Nat):Env:=match ρ[i]? with
 |some (some (d,true))=>ρ.set i (some (d,false))
 |_=>ρ
def eI.unown1 {K:Frag}{B0 H0 N H:Hp}{σ:St}{ρ:Env}(s:eI K B0 H0 N H σ ρ)(i:Nat):eI K B0 H0 N H σ (unown1 ρ i):=by
 unfold DL.unown1;split
 .rename_i d hd;obtain⟨a,ob,h1,h2,h3,h4⟩:=s.ow i d hd;have get:∀ {j:Nat}{e:D}{b:Bool},(ρ.set i (some (d,false)))[j]? = some (some (e,b))->(i=j/\e=d/\b=false)\/(i≠j/\ρ[j]? = some _):=λq=>by
   rcases cr q with⟨z,p⟩|⟨z,p⟩
   .cases p;exact .inl ⟨z,rr,rr⟩
   .exact .inr ⟨z,p⟩
  have o:∀c,own σ (ρ.set i (some (d,false))) c->own σ ρ c/\c≠a:=λc ⟨j,e,O,M⟩=>by
   rcases get O with⟨_,_,z⟩|⟨ne,q⟩
   .cases z
   .exact⟨⟨j,e,q,M⟩,λz=>by subst z;exact ne (s.inj i j _ _ _ hd q h1 M)⟩
  have c:aX (fw N (own σ ρ)) _:=fH λb u e q=>⟨e,λz=>q (o b z).1⟩;have T :=λz=>(o a z).2 rr;refine⟨s.bh,s.tb,s.ext,by rw[length_set];exact s.len,λj e q=>?_,λj e q=>?_,λj k b e f q G U g=>?_⟩
  .rcases get q with⟨rfl,rfl,_⟩|⟨_,q⟩
   .exact⟨_,h1,(h4.mono c).is (by rw[df T];exact h2)⟩
   .obtain⟨v,k1,k2⟩:=s.sh j e q;exact⟨v,k1,k2.mono c⟩
  .rcases get q with⟨_,_,z⟩|⟨_,q⟩
   .cases z
   .obtain⟨h,o',k1,k2,k3,k4⟩:=s.ow j e q;exact⟨h,o',k1,k2,k3,k4.mono c⟩
  .rcases get q with⟨_,_,z⟩|⟨_,q⟩
   .cases z
   .rcases get G with⟨_,_,z⟩|⟨_,G⟩
    .cases z
    .exact s.inj j k b e f q G U g
 .exact s
@[simp] noncomputable def RL (is:LN)(g:FS):FS:=λρ=>g (is.foldl unown1 ρ)
theorem eI.unowns {K:Frag}{B0 H0 N H:Hp}{σ:St}:∀(is:LN){ρ:Env},eI K B0 H0 N H σ ρ->eI K B0 H0 N H σ (is.foldl DL.unown1 ρ)
 |[],_,s=>s
 |i::is,_,s=>eI.unowns is (s.unown1 i)
def OP {K:Frag}{is:LN}{g:FS}{E:Ends}{σ:St}{H:Hp}(q:oJ K (RL is g) E σ H):oJ K g E σ H:=by
 obtain⟨B0,H0,ρ,r,⟨N,s⟩,e,p⟩:=q;exact⟨B0,H0,_,r,⟨N,s.unowns is⟩,e,p⟩
def Hm {X:Cx}{st:Stmt}{g:FS}(is:LN)(h:JS X st g):JS X st (RL is g):=PS.to h λ_ _ _ q=>OP q
@[simp] noncomputable def Dr:FS:=λρ=>some (.ct ρ)
@[simp] noncomputable def BK:FS:=λ_=>none
section
variable {X:Cx}{pos:Pos}
def Ds:JS X (.Continue pos) Dr:=PS.to yT λE σ H q=>by
 obtain⟨B0,H0,ρ,r,s,e,p⟩:=q;cases e
 exact p σ H s
def z9 {st:Stmt}:JS X st BK:=λak s σ H E I q=>by
 obtain⟨B0,H0,ρ,r,_,e,_⟩:=q;cases e
end
inductive CRows (K:Frag)(P:Params):List DictEntry->List (Str×D)->Prop where
 |nil:CRows K P [] []
 |tup {x:Str}{t:Tok}{h:Int}{a:Addr}{its:Array Value}{n:Nat}{ma:Array (Option Value)}{ds:List D}{r:List DictEntry}{aL:List (Str×D)}(hh:h=PyData.keyHash P x)
   (l:K.lookup a=some ⟨.type "tuple",none,.seq its n,ma⟩) (f:(decide (its.size<=1000) && jU its.toList ds)=true) (tl:CRows K P r aL):CRows K P (⟨h,.str x t,.ref a⟩::r) ((x,.tup ds)::aL)
 |flat {x:Str}{t:Tok}{h:Int}{u:Value}{d:D}{r:List DictEntry}{aL:List (Str×D)}(hh:h=PyData.keyHash P x) (f:xT u d=true) (tl:CRows K P r aL):CRows K P (⟨h,.str x t,u⟩::r) ((x,d)::aL)
theorem CRows.lit {K:Frag}{P:Params}:∀ {es:List DictEntry}{aL:List (Str×D)},CRows K P es aL->PySem.W.KeysLit P es
 |_,_,.nil=>trivial
 |_,_,.tup hh _ _ tl=>⟨⟨_,_,rr,hh⟩,tl.lit⟩
 |_,_,.flat hh _ tl=>⟨⟨_,_,rr,hh⟩,tl.lit⟩
theorem CRows.find {K:Frag}{P:Params}(y:Str):∀ {es:List DictEntry}{aL:List (Str×D)},CRows K P es aL->match aL.lookup y with
  |none=>es.find? (λe=>Value.isStrOf y e.key)=none
  |some d=>∃e v,es.find? (λe=>Value.isStrOf y e.key)=some e/\aU v e.val/\∀B,Is K B v d
 |_,_,.nil=>rr
 |_,_,.tup (x:=x) (t:=t) (a:=a) (ds:=ds) hh l f tl=>by
  by_cases e:y=x
  .subst e;rw[lookup_cons_self];rw[vB]at f;obtain⟨vs,r,i⟩:=jV (K:=K) f.2;exact⟨_,.ref a,List.find?_cons_of_pos (by simp[Value.isStrOf]),rr,λB=>.tup (.inr ⟨_,_,_,l,rr,rr,le_of_lt (lt_of_le_of_lt (Vh f.1) Z9),r⟩) (i B)⟩
  .have G:=tl.find y;rw[lookup_cons,beq_eq_false_iff_ne.mpr e];have M:Value.isStrOf y (Value.str x t)=false:=by
    rw[Bool.eq_false_iff];intro z;obtain⟨t',q⟩:=Value.isStrOf_shape z;simp_all
   simp only[find?_cons,M];exact G
 |_,_,.flat (x:=x) (t:=t) (u:=u) (d:=d) hh f tl=>by
  by_cases e:y=x
  .subst e;rw[lookup_cons_self];obtain⟨v,T,_⟩:=lM (K:=K) (B:=λ_=>none) f;refine⟨_,v,List.find?_cons_of_pos (by simp[Value.isStrOf]),T,λB=>?_⟩;obtain⟨U,O,c⟩:=lM (K:=K) (B:=B) f;have:U=v:=by have b:=T.abs;rw[O.abs]at b;simp_all
   simp_all
  .have G:=tl.find y;rw[lookup_cons,beq_eq_false_iff_ne.mpr e];have M:Value.isStrOf y (Value.str x t)=false:=by
    rw[Bool.eq_false_iff];intro z;obtain⟨t',q⟩:=Value.isStrOf_shape z;simp_all
   simp only[find?_cons,M];exact G
def nE (K:Frag)(P:Params)(a:Addr)(aL:List (Str×D)):Prop:=∃es n,K.lookup a=some ⟨.type "dict",none,.dict es n,#[]⟩/\CRows K P es.toList aL/\(a == sysModules)=false
def const_dict {K:Frag}{P:Params}{y:Str}{a:Addr}{es:Array DictEntry}{n:Nat}{aL:List (Str×D)}(e:nsIn K mainGlobals y=some (some (.ref a)))(l:K.lookup a=some ⟨.type "dict",none,.dict es n,#[]⟩)(r:CRows K P es.toList aL)(s:(a == sysModules)=false):
  ∃a,nsIn K mainGlobals y=some (some (.ref a))/\nE K P a aL:=⟨a,e,es,n,l,r,s⟩
section
variable {X:Cx}{a b e:Expr}{pos:Pos}{x:Str}{p:Pos}
def nE.map {ak:AO}{σ:St}{H:Hp}{s:Shared}{d:Addr}{aL:List (Str×D)}(I:Inv X ak σ H s)(h:nE X.K X.w.params d aL):∃f:SV,s.heap.MapOf (strKind X.prog X.w) d f/\(d == sysModules)=false /\
  ∀y,match aL.lookup y with|none=>f y=none|some dd=>∃u v,f y=some u/\aU v u/\∀B,Is X.K B v dd:=by
 obtain⟨es,n,l,r,G⟩:=h;refine⟨_,PySem.W.mapOf_K I.kIn l r.lit,G,λy=>?_⟩;have:=r.find y;have M:findBy Value.isStrOf es y=(es.toList.find? λe=>Value.isStrOf y e.key).map (·.val):=by
  simp_all[findBy]
 cases hl:aL.lookup y with
 |none=>simp_all
 |some dd=>
  rw[hl]at this;obtain⟨en,v,O,e2,T⟩:=this;exact⟨en.val,v,by rw[M,O];rfl,e2,T⟩
@[simp] noncomputable def uI (aL:List (Str×D)):D->OB
 |.str y=>(aL.lookup y).map λd=>(d,false)
 |_=>none
@[simp] noncomputable def BL (aL:List (Str×D)):D->OB
 |.str y=>some (.bl (!(aL.lookup y).isSome),false)
 |_=>none
def xU (h:∃d,X.mg x=some (.ref d)/\nE X.K X.w.params d aL)(hb:JE X b f)(i:Gl X x:=by rfl)(hd:(x == ("__debug__" : Str))=false:=by decide)(hs:ng b:=by intro _ _;rfl):JE X (.Subscript (.Name x p) b pos) (f1 (uI aL) f):=by
 obtain⟨d,hm,cd⟩:=h;have j:G4 X (λx y H Q=>∃z dd,x=.ref d/\y=.str z/\aL.lookup z=some dd/\∀v,(∀B,Is X.K B v dd)->Q v H):=by
  intro M O ak s σ H x y v u Q I k l q hs;obtain⟨z,dd,rfl,rfl,m,q⟩:=q;cases k
  obtain⟨t,rfl⟩:=l;obtain⟨f,c,C,hf⟩:=cd.map I;have:=hf z;rw[m]at this;obtain⟨u,v,T,e2,n⟩:=this;exact tail_any c.typeIs slot_dict_getitem.lookup (wpAny_getItem_of (strKind_is X.prog X.w z t) c T ⟨v,H,I.tok _,e2,q v n⟩) hs
 refine PE.to (G5 j (qN (v:=.ref d) i hm rr hd) hb hs) λσ H Q q=>?_;obtain⟨B,ρ,d',bb,o,r,G,q⟩:=q;obtain⟨U,ex,G⟩:=oX G;refine⟨B,ρ,U.1,U.2,o,r,ex,λv D N1 g i1 _=>?_⟩;obtain⟨xd,E⟩:=U;cases i1<;>try (simp[uI]at G;done)
 rename_i z _;obtain⟨dd,T,e2⟩:=oY G;cases e2
 exact⟨z,_,rr,rr,T,λv A=>(q.into g).one g.nh (A _)⟩
@[simp] noncomputable def xV:LD->OB
 |[.lst ds]=>some (.lst ds,true)
 |[.tup ds]=>some (.lst ds,true)
 |_=>none
@[simp] noncomputable def zF:LD->OB
 |[.lst ds]=>some (.tup ds,false)
 |[.tup ds]=>some (.tup ds,false)
 |_=>none
def Hn:bY X (.type "list") (B7 X.K xV):=by
 refine bY.to xF λxs H Q q=>?_;obtain⟨B,ds,d,bb,O,i,M,q⟩:=q;cases i with
 |nil=>simp  at M
 |cons i1 i2=>
  cases i2 with
  |cons _ _=>cases i1<;>simp  at M
  |nil=>
   cases i1<;>try (simp  at M;done)
   .rename_i T vs es h hl;cases M
    refine⟨_,_,rr,.inr (bu O h),λl hp=>?_⟩;have G:=Ext.laid (o:=.lst vs) O hp;exact q _ _ _ G (.lst (gB.of a6) (hl.mono G.bn)) λ_=>⟨_,_,_,rr,rr,hp,a6,hl.mono G.bn⟩
   .rename_i T vs es h hl;cases M
    refine⟨_,_,rr,.inl (O.seq h),λl hp=>?_⟩;have G:=Ext.laid (o:=.lst vs) O hp;exact q _ _ _ G (.lst (gB.of a6) (hl.mono G.bn)) λ_=>⟨_,_,_,rr,rr,hp,a6,hl.mono G.bn⟩
def Lb:bY X (.type "tuple") (B7 X.K zF):=by
 refine bY.to uG λxs H Q q=>?_;obtain⟨B,ds,d,bb,G,i,M,q⟩:=q;cases i with
 |nil=>simp  at M
 |cons i1 i2=>
  cases i2 with
  |cons _ _=>simp_all
  |nil=>
   cases i1<;>try (simp  at M;done)
   .rename_i T vs es h hl;cases M
    exact⟨_,_,rr,.inr ⟨bu G h,q.one G (.tup h hl)⟩⟩
   .rename_i T vs es h hl;cases M
    refine⟨_,_,rr,.inl ⟨G.seq h,λl hp=>?_⟩⟩;have O:=Ext.laid (o:=.tup vs) G hp;exact q _ _ _ O (.tup (jf.of a6) (hl.mono O.bn)) X9
end
section
variable {X:Cx}{a b e:Expr}{pos:Pos}{x:Str}{p:Pos}
@[simp] def Lc (i:Nat)(G M:FE):FS:=λρ=>match ρ[i]? with
 |some (some (.lst ds,true))=>(M ρ).bind λv=>(G ρ).bind λk=>match k.1 with
  |.int j=>(JX ds.length j).bind λn=>if bf v.1=true then some (.nx (ρ.set i (some (.lst (ds.set n v.1),true))))else none
  |_=>none
 |_=>none
def OQ (d:JE X e fv)(hk:JE X k fk)(f:X.N[i]? = some y:=by rfl)(M:NH X.env.scope y:=by first|exact Or.inl rr|exact Or.inr (Or.inl rr)|exact Or.inr (Or.inr rr))(hd:(y == ("__debug__" : Str))=false:=by decide)
  (T:(y == ("__classdict__" : Str))=false:=by decide)
  (ha:∀v,assign (.Subscript (.Name y py) k pt) X.env v=(do
   let O <-holding [v] (eval (.Name y py) X.env)
   let iv <-holding [v,O] (eval k X.env)
   standAt pt
   holding [v,O,iv] (setItem O iv v)
   release [v,O,iv] []):=by intro _;rfl)
  (hs:swapsWithSole [.Subscript (.Name y py) k pt] e pos.line X.env=pure false:=by rfl) (hw:swappedStores [.Subscript (.Name y py) k pt] e X.env=pure none:=by rfl)
  (h1:(assignEach [.Subscript (.Name y py) k pt] X.env).map (·.2)=[assign (.Subscript (.Name y py) k pt) X.env]:=by rfl):JS X (.Assign [.Subscript (.Name y py) k pt] e pos) (Lc i fk fv):=by
 refine PS.to (NZ d (NY (rf f M hd T) hk G7 ha) hs hw h1) λE σ H q=>?_;obtain⟨B0,H0,ρ,r,⟨N,s⟩,G,p⟩:=q;unfold Lc at G;split at G
 .rename_i ds ei;obtain⟨v,g,G⟩:=oX G;obtain⟨h,ek,G⟩:=oX G;obtain⟨kd,t⟩:=h;cases kd with
  |int j=>
   obtain⟨n,en,G⟩:=oX G;split at G
   .rename_i hn;cases G
    refine⟨N,ρ,v.1,v.2,s.ext.nh,s.rep,g,λu w N1 m i1 _=>?_⟩;have s1:=s.grow m;obtain⟨l,vs,U,z,h1,h2,h3,h4⟩:=s1.owL i _ ei;refine⟨_,h1,N1,ρ,_,_,s1.ext.nh,s1.rep,ek,λkv H2 N2 c i2 _=>?_⟩;cases i2
    have s2:=s1.grow c;obtain⟨A,o,U,z,k1,k2,k3,k4⟩:=s2.owL i _ ei;cases z
    rw[h1]at k1;cases k1;exact⟨l,o,j,n,rr,rr,s2.ext.nh _ _ k2,by rw[k4.length];exact en,p σ _ ⟨_,s2.write ei h1 (IsL.set (s2.flat (i1.mono c.bn) hn) n k4)⟩⟩
   .cases G
  |_=>cases G
 simp_all
@[simp] def Ho (i:Nat)(f:FE):FS:=λρ=>match ρ[i]? with
 |some (some (.lst ds,true))=>(f ρ).bind λx=>match x.1 with
  |.lst es=>if x.2=true/\bB es=true/\ds.length+es.length<=sizeLine then some (.nx (ρ.set i (some (.lst (ds++es),true))))else none
  |_=>none
 |_=>none
def OR (he:JE X e f)(g:PE X (.Name y py) (qG i):=by exact pv)
  (M:attributeBase (.Name y py) "extend" X.env (eval (.Name y py) X.env)=eval (.Name y py) X.env:=by rfl)
  (T:((backTo cf (starEach [e] X.env)).all (λx=>!x.1) && (backToKw cf (keywordEach [] X.env)).all (λx=>x.1.isSome)
   && decide ([e].length+([]:List Keyword).length+(if([]:List Keyword).isEmpty then 0 else 1)<30))=true:=by rfl)
  (O:(dn.endLine == cf.line)=true:=by rfl) (hs:starEach [e] X.env=[(false,eval e X.env)]:=by rfl) (U:swapsWith (.Call (.Attribute (.Name y py) "extend" dn) [e] [] cf) none pos.line X.env=pure false:=by rfl):
  JS X (.Expr (.Call (.Attribute (.Name y py) "extend" dn) [e] [] cf) pos) (Ho i f):=by
 refine PS.to (CK (yV plainAttrs_list PySem.F.slot_list_extend PySem.F.type_list_extend EN g (eB he gD hs) M T O hs rr) U) λE σ H q=>?_;obtain⟨B0,H0,ρ,r,⟨N,s⟩,G,p⟩:=q;unfold Ho at G;split at G
 .rename_i ds ei;obtain⟨v,h,G⟩:=oX G;obtain⟨j,u⟩:=v;cases j with
  |lst es=>
   dsimp  at G;split at G
   .rename_i hc;cases G
    obtain⟨l,vs,k,z,h1,h2,h3,h4⟩:=s.owL i _ ei;refine⟨_,h1,.inl ⟨rr,vs,gB.of (s.ext.nh _ _ h2)⟩,N,ρ,_,_,s.ext.nh,s.rep,h,λw A N1 c i1 f1=>?_⟩;obtain⟨l2,m,n,rfl,z,g1,o,d⟩:=f1 hc.1;cases z
    have s1:=s.grow c;obtain⟨B,t,k,z,k1,k2,_,k4⟩:=s1.owL i _ ei;cases z
    rw[h1]at k1;cases k1;exact⟨l,l2,t,m,rr,rr,s1.ext.nh _ _ k2,c.nh _ _ o,by rw[k4.length,d.length];exact hc.2.2,p σ _ ⟨_,s1.write ei h1 (k4.append (s1.flats d hc.2.1))⟩⟩
   .cases G
  |_=>cases G
 simp_all
end
open AutoSeq1 (wpAny_loadPart')
noncomputable def Wq (k:Bool):String:=if k=true then "list" else "tuple"
def zG (k:Bool)(l:Addr)(items:AV)(n:Nat)(G:Option Addr)(sl:Array (Option Value)):
  Meets (Builtin.«enumerate.__new__» ⟨[.type "enumerate",.ref l],[]⟩) (λ_ R s=>s.heap.get? l=some { cls:=.type (Wq k),dict:=G,data:=.seq items n,slots:=sl } /\
   R (.ok (.ret (.ref (s.heap.push (La k l)).objs.size))) { s with heap:=(s.heap.push (La k l)).push { cls:=.type "enumerate",data:=.fields #[.none,.bool false,.ref s.heap.objs.size,rawInt 0,.none,.none] } }) :=
 .of_wp λprog w A R s hs=>by
  obtain⟨hp,g,d,tk,os⟩:=s;obtain⟨hl,hs⟩:=hs;have O:=sub_enumerate;have M:lO k (Shared.heap ⟨hp,g,d,tk,os⟩) l items:=by cases k<;>exact⟨_,hl,rr,n,rr⟩
  wp_walk using wpAny_loadPart' hl;refine wpAny_stack_any λst=>wY ?_;split
  .rename_i c _ _ _ _ _;cases (c == Value.type _)
   .wp_walk using wpAny_loadPart' hl,nD M;exact⟨_,rr,hs⟩
   .wp_walk using wpAny_loadPart' hl,nD M;exact⟨_,rr,hs⟩
  .wp_walk using wpAny_loadPart' hl,nD M;exact⟨_,rr,hs⟩
section
variable {prog:Program}{w:World}{A:Around}{E:QV}{s:Shared}
def Hq (O:lO k s.heap l items)
  (q:∀h',IsEnum h' (s.heap.objs.size+1) s.heap.objs.size 0 .none->lN k h' s.heap.objs.size l 0->(∀b o,s.heap.get? b=some o->h'.get? b=some o)->Q (.ref (s.heap.objs.size+1)) { s with heap:=h' }):
  wpAny (model prog w) A (call (.type "enumerate") [.ref l]) Q E s:=by
 have hh:∃(G:Option Addr)(sl:Array _)(n:Nat),s.heap.get? l=some { cls:=.type (Wq k),dict:=G,data:=.seq items n,slots:=sl }:=by
  cases k<;>(obtain⟨⟨c,G,dt,sl⟩,hl,hc,n,hd⟩:=O;subst hc;subst hd;exact⟨G,sl,n,hl⟩)
 obtain⟨G,sl,n,hl⟩:=hh;refine callType_new PySem.F.called_enumerate Z9 (PySem.F.typeCall_enumerate_1 _) (PySem.F.newCall_enumerate_1 _) (λobj=>PySem.F.args_object_init_2 obj _) PySem.F.entry_enumerate_new (zG k l items n G sl) ⟨hl,?_⟩;have n1:(s.heap.push (La k l)).objs.size=s.heap.objs.size+1:=Heap.size_push ..;have M:((s.heap.push (La k l)).push { cls:=.type "enumerate",data:=.fields #[.none,.bool false,.ref s.heap.objs.size,rawInt 0,.none,.none] }).get? _=some _:=vY _ rr;have g1:((s.heap.push (La k l)).push { cls:=.type "enumerate",data:=.fields #[.none,.bool false,.ref s.heap.objs.size,rawInt 0,.none,.none] }).get? _=some _:=vZ _ (vY _ (by cases k<;>rfl))
 rw[n1]at M;rw[n1];refine⟨⟨_,M,rr⟩,q _ M ?_ λb o e=>vZ _ (vZ _ e)⟩;cases k<;>exact⟨_,g1,rr,rr⟩
def OS (U:A.handled=none)(it l:Addr)(G:l≠it)(items:AV):Draws prog w A it [it,l] items.size (λi v=>items[i]? = some v) (λi h=>lN k h it l i/\lO k h l items) where
 live:=λi h st=>let ⟨o,e,_⟩:=st.1.ob;⟨o,e⟩
 frame:=λi h h' st O=>⟨st.1.upon λo e=>O it X9 o e,st.2.upon λo e=>O l X9 o e⟩
 item:=λi s Q E hi st q=>gG st.1 st.2 (v:=items[i]) (by simp ) λh' M T=>q _ h' _ (by simp ) ⟨M,st.2.upon λo e=>T.extBut _ _ G e⟩ T
 done:=λs Q E st q=>jE U st.1 st.2 X9 q
def OT (M:A.handled=none)(it l:Addr)(items:AV)(n:Nat)(hn:items[n]? = none):Draws prog w A it [it,l] n (λ_ _=>True) (λi h=>(lN k h it l i/\lO k h l items)/\i=n) where
 live:=λi h st=>let ⟨o,e,_⟩:=st.1.1.ob;⟨o,e⟩
 frame:=λi h h' st G=>⟨⟨st.1.1.upon λo e=>G it X9 o e,st.1.2.upon λo e=>G l X9 o e⟩,st.2⟩
 item:=λi s Q E hi st q=>absurd st.2 (vS hi)
 done:=λs Q E st q=>jE M st.1.1 st.1.2 hn q
end
noncomputable def U6 (K:Frag)(k:Bool)(a:Addr):It :=
  ⟨λi H=>∃xs x,mE k K H a xs/\xs[i]? = some x,
   λi H v H'=>∃T x,v=.ref T/\H T=none/\H'=upd H T (.tup [.int i,x])/\∀xs,mE k K H a xs->xs[i]? = some x,
   λi H=>∃xs,mE k K H a xs/\xs.length<=i⟩
def Fb {P:Program}{w:World}{K:Frag}{es:QD}{n:Nat}{pt:Pos}{k:Bool}{a e it:Addr}(O:e≠it)(p:a≠e)(r:a≠it):
  Turn P w K (.Tuple es n pt) (U6 K k a) [e,it] e (λi h=>(∃G,IsEnum h e it i G)/\lN k h it a i) where
 mem:=X9
 obj:=λi h st b hb=>by
  obtain⟨⟨G,he⟩,M⟩:=st;simp at hb;rcases hb with rfl|rfl
  .simp_all
  .exact M.ob
 keep:=λi h h' st c=>by
  obtain⟨⟨G,he⟩,M⟩:=st;exact⟨⟨G,c e X9 _ he⟩,M.upon λo q=>c it X9 o q⟩
 item:=by
  intro X f hw g hc i ak s σ H E I hf st j;subst f hw g;obtain⟨⟨G,he⟩,M⟩:=st;obtain⟨xs,x,d,hx⟩:=j;obtain⟨its,l,m,t⟩:=d.vals I;obtain⟨u,hu,ru⟩:=l.get hx;have fresh :=I.hok.fresh (vT _);have y:i<its.toArray.size:=by rw[vH];exact(vV hu).1
  have U:e≠s.heap.objs.size:=vS (vX he);have B:it≠s.heap.objs.size:=by obtain⟨o,q,_⟩:=M.ob;exact vS (vX q)
  refine wpAny_pyNext_enum_itemD (OS (A:=X.A.in1) (I.ok.hd hc) it a r its.toArray) he ⟨M,m⟩ y O (by simp[O,p.symm]) λv h' tk N ho C D hsz hk=>?_;have F:v=u:=by
   simp_all
  subst F;refine⟨_,rr,wpAny_letOwnedTupleGo_enum  ho λh2 J s2=>?_⟩;have T:Heap.SameBut e h' h2:=s2;have c:∀b o,b∉[e,it]->s.heap.get? b=some o->h2.get? b=some o:=λb o hb q=>T.extBut _ _ (λz=>hb (by simp[z])) (hk b o (λz=>hb (by simp[z])) (λz=>hb (by simp[z])) q);have new:bJ X.prog X.w (upd H s.heap.objs.size (.tup [.int i,x])) h2 s.heap.objs.size (.tup [.int i,x]):=⟨by show 2<=sizeLine;decide,[.int i tk,v],.cons ⟨tk,rr⟩ (.cons ru .nil),⟨_,T.extBut _ _ U.symm D,rr,_,rr⟩⟩;refine⟨.ref s.heap.objs.size,upd H s.heap.objs.size (.tup [.int i,x]),Dq (s:=s) (t':=tk+1) I hf c (vT _) new,rr,⟨_,x,rr,fresh,rr,λzs hq=>by rw[mE.inj I hq d];exact hx⟩,?_,λb hb=>?_⟩
  .exact⟨⟨_,by have:=J;exact this⟩,C.1.upon λo q=>T.extBut _ _ O.symm q⟩
  .have L:b≠s.heap.objs.size:=by
    simp at hb;rcases hb with rfl|rfl
    .exact U
    .exact B
   rw[aH L];exact(hf b hb).1
 done:=by
  intro X f hw g hc i ak s σ H E I hf st j;subst f hw g;obtain⟨⟨G,he⟩,M⟩:=st;obtain⟨xs,d,hl⟩:=j;obtain⟨its,l,m,t⟩:=d.vals I;have n1:=l.length;refine wpAny_pyNext_enum_endD (OT (A:=X.A.in1) (I.ok.hd hc) it a its.toArray i I9) he ⟨⟨M,m⟩,rr⟩ λh' hk=>⟨rr,?_⟩;exact lP (t':=s.toks) I hf λb o hb q=>hk b o (λz=>hb (by simp[z])) q
 self:=λ_ _ _ _ _ st h=>let ⟨⟨_,he⟩,_⟩:=st;wpAny_pyIter_enum he h
section
variable {X:Cx}{a b e:Expr}{pos:Pos}{p:Pos}
def zH:bootBuiltins "enumerate" = some (.type "enumerate"):=H9
noncomputable def wc (ds:LD):LD:=ds.mapIdx λi d=>.tup [.int i,d]
@[simp] def Hr (fa:FE):FA:=λρ=>(fa ρ).bind λx=>(iu x.1).map wc
def Ld {K:Frag}{N:Hp}{k:Bool}{l:Addr}{vs:LV}{ds:LD}(h1:mE k K N l vs)(i1:IsL K N vs ds):nq K (U6 K k l) N (wc ds):=by
 intro i H' G;have n1:=i1.length;refine⟨λd ed=>?_,λhl=>⟨vs,h1.same G,?_⟩⟩
 .unfold wc at ed;rw[List.getElem?_mapIdx]at ed;obtain⟨x,c,rfl⟩:=oY ed;obtain⟨v,M,iv⟩:=i1.get c;refine⟨⟨vs,v,h1.same G,M⟩,λr H2 hy=>?_⟩;obtain⟨T,g,rfl,f,rfl,f1⟩:=hy;have O:=f1 vs (h1.same G);rw[M]at O;cases O;have U:=Ext.laid (o:=.tup [.int i,v]) G f;exact⟨_,U,.tup (jf.of a6) (.cons (.int _) (.cons (iv.mono U.bn) .nil))⟩
 simp_all[wc]
def Le {es:QD}{g:Nat}{pt:Pos}{fa:FE}(hm:X.mg "enumerate" = none)(ha:JE X a fa)(h:Gl X "enumerate":=by rfl)(hs:starEach [a] X.env=[(false,eval a X.env)]:=by rfl):
  JI X (.Tuple es g pt) (.Call (.Name "enumerate" p) [a] [] pos) (Hr fa):=by
 intro ak s σ H R I q;refine Call_ (gA I h hm zH (PyProof.Rows.callWith_type1 (cu (ag ha am hs _ _ s σ H (λvs G=>∃(k:Bool)(l:Addr)(us:LV),vs=[.ref l]/\mE k X.K G l us/\R (U6 X.K k l) G) I ?_) λus s1 ⟨vs,G,T,i,j⟩=>?_) hs rr))
 .obtain⟨B,ρ,ds,m,r,M,q⟩:=q;obtain⟨n,ex,M⟩:=oX M;obtain⟨xs,U,M⟩:=oY M;subst M;refine⟨B,ρ,[n.1],m,r,by simp[ex],λvs G N1 c i1=>?_⟩;cases i1 with
  |cons o t=>
   cases t
   obtain⟨k1,l1,us,rfl,s1,m1⟩:=z8 o U;exact⟨k1,l1,us,rr,s1.same c.nh,q _ G N1 c (Ld s1 m1)⟩
 .obtain⟨k,l,w,rfl,h1,q⟩:=j;obtain⟨x,rfl,u⟩:=i.one;cases u
  obtain⟨its,y,d,z⟩:=h1.vals T;have Gm:=d.lt;refine Hq d λh' f c2 v=>?_;refine wpAny_pyIter_enum f ⟨s1.heap.objs.size+1,[s1.heap.objs.size+1,s1.heap.objs.size],_,_,G,rr,T.kept  v,
   Fb (Nat.succ_ne_self _) (vS (lt_succ_of_lt Gm)) (vS Gm),⟨⟨_,f⟩,c2⟩,λb hb=>?_,q⟩
  have O:s1.heap.objs.size<=b:=by
   grind
  exact T.fpOk O (T.hok.fresh O)
end
end DL
namespace DL
open PySem PySem.Spec PyProof.Rows
def Fc (t:SetTable)(es:Array (Int×Value))(n:Nat):(relayAll t es n).2.1.led=t.led:=by
 unfold relayAll;split
 .rename_i t' G h;obtain⟨ow,_,h⟩:=oX h;cases h
  dsimp ;split<;>rfl
 .rfl
def zI (t:SetTable)(es:Array (Int×Value))(n:Nat)(hp:t.plain=false):(relayAll t es n).2.1.plain=false:=by
 unfold relayAll;split
 .rename_i t' G h;obtain⟨ow,_,h⟩:=oX h;cases h
  dsimp ;split
  .exact hp
  .rfl
 .rfl
def Lf (t:SetTable)(es:Array (Int×Value))(h:Int)(x:Value):(layNew t es h x).2.1.led=t.led:=by
 unfold layNew;split
 .dsimp  [SetTable.orStandIn];repeat' (first|rfl|split)
 .rfl
structure TabT (w:World)(es:Array (Int×Value))(t:SetTable):Prop where
 fits:t.fits es.size=true
 led:t.led = !w.params.followText "set-order"
 plain:es.size≠0->t.plain=false
def jW (prog:Program)(w:World)(h:Heap)(a:Addr)(G:LS):Prop :=
 ∃o es M t,h.get? a=some o/\o.ExactSet/\o.data=.set es M t/\ElemsOf (PySem.strKind prog w) es.toList/\(es.toList.map (λe=>strOf e.2)).Perm G/\G.Nodup/\G.length<scanBound/\TabT w es t
noncomputable def kX (G:LS)(x:Str):LS:=if x∈G then G else G++[x]
theorem Hs (G:LS)(x:Str):(kX G x).length<=G.length+1:=by unfold kX;split<;>simp
theorem zJ (h:Value.isStrOf k v=true):strOf v=k:=by obtain⟨t,rfl⟩:=Value.isStrOf_shape h;rfl
section
variable {prog:Program}{w:World}{A:Around}{E:QV}{s:Shared}
def we {es:Array (Int×Value)}{M:LS}(G:ElemsOf (PySem.strKind prog w) es.toList)(hp:(es.toList.map (λe=>strOf e.2)).Perm M)(k:Str):k∈M ↔ ∃e∈es.toList,(PySem.strKind prog w).is k e.2=true:=by
 rw[<-hp.mem_iff,List.mem_map];constructor
 .rintro⟨e,he,rfl⟩;obtain⟨⟨k',hk,_⟩,_⟩:=G e he;have O:Value.isStrOf k' _=true:=hk;grind[zJ]
 .rintro⟨e,he,hk⟩;exact⟨e,he,zJ hk⟩
def wg {h:Heap}{a:Addr}{o:Obj}{es:Array (Int×Value)}{M:Nat}{t:SetTable}(ho:h.get? a=some o)(hd:o.data=.set es M t)(G:Array (Int×Value))(t':SetTable):
  (h.update a (Obj.putSet G t')).get? a=some { o with data:=.set G (M+1) t' }:=by
 have:=Heap.get?_update_self (Obj.putSet _ t') ho (by rw[putSet_of G t' hd];rfl);rw[putSet_of _ t' hd]at this;exact this
def zK {g:Bool->Sem Unit}(x:∀(b:Bool)(T:Shared)(j:Unit->Shared->Prop),j () T->wpAny (model prog w) A (g b) j E T)
  {a:Addr}{o:Obj}{es:Array (Int×Value)}{y:Nat}{t:SetTable}(ho:s.heap.get? a=some o) (k:o.ExactSet) (hd:o.data=.set es y t)
  {G:Array (Int×Value)}{M:SetTable}{c:LS}(U:ElemsOf (PySem.strKind prog w) G.toList) (d:(G.toList.map (λe=>strOf e.2)).Perm c) (nd:c.Nodup)
  (hb1:c.length<scanBound) (z:M.fits G.size=true) (l:M.led = !w.params.followText "set-order") (m:M.plain=false) {O:Bool}{R:Option Bool->Shared->Prop}
  (h:∀h',Heap.SameBut a s.heap h'->jW prog w h' a c->R (some true) { s with heap:=h' }):
  wpAny (model prog w) A (do
    storeSet a G M
    if(!O && M.tooFull)=true then do
      g (relayAll M G (SetTable.grown G.size)).2.2
      storeSet a (relayAll M G (SetTable.grown G.size)).1 (relayAll M G (SetTable.grown G.size)).2.1
      pure (some true)
     else pure (some true)) R E s:=by
 have n:G.size=c.length:=by rw[<-d.length_eq,vI,vG]
 refine wX (wpAny_storeSet_of ho hd ?_ (fits_of_scanBound (by rw[n];exact hb1)));have f:=wg ho hd G M;have p:=vW s.heap a (Obj.putSet G M);split
 .have hp:=relayAll_perm M G (SetTable.grown G.size);have q:=relayAll_fits M G (SetTable.grown G.size);have r:=Fc M G (SetTable.grown G.size);have u:=zI M G (SetTable.grown G.size) m;generalize B:relayAll M G _=Rl at hp q r u |-;obtain⟨i,v,F⟩:=Rl;have C :=U.perm hp;have hsz:i.size=G.size:=by rw[<-vG,hp.length_eq,vG]
  refine wX (x _ _ _ ?_);refine wX (wpAny_storeSet_of f rr ?_ (fits_of_scanBound (by rw[hsz,n];exact hb1)));have D:=wg f rr i v;exact wY (h _ (p.trans (vW _ a _)) ⟨_,i,_,v,D,k,rr,C,(hp.map _).trans d,nd,hb1,q,r.trans l,λ_=>u⟩)
 .exact wY (h _ p ⟨_,G,_,M,f,k,rr,U,d,nd,hb1,z,l,λ_=>m⟩)
def BM {a:Addr}{U:LS}{k:Str}{tk:Tok}{Q:Bool->Shared->Prop}(hS:jW prog w s.heap a U)(v:U.length+1<scanBound)
  (h:∀b h',Heap.SameBut a s.heap h'->jW prog w h' a (kX U k)->Q b { s with heap:=h' }):
  wpAny (model prog w) A (setAddHashed a (.str k tk) ((PySem.strKind prog w).hash k)) Q E s:=by
 have hS0:=hS;obtain⟨o,es,J,t,ho,l,hd,d,G,nd,hb,hf,m,K⟩:=hS;have n :=strKind_is prog w k tk;have sz:es.size=U.length:=by rw[<-G.length_eq,vI,vG]
 refine wpAny_holding (wX (wpAny_setState_of ho hd hf ?_));dsimp only;rw[byScan_of (x:=.str k tk) rr (by rw[sz];exact hb) d];simp only[↓reduceIte];unfold setAddByScan;refine wX ?_;refine wX (wpAny_rule ?_);refine wX (wpAny_setScan_of n ho hd hf d ?_);cases B:List.findIdx? _ es.toList with
 |some j=>
  dsimp only;obtain⟨hj,C,_⟩:=List.findIdx?_eq_some_iff_getElem.mp B;have hm:k∈U:=(we d G k).mpr ⟨es.toList[j],getElem_mem hj,C⟩;refine wY (wY ?_);simp_all[kX,Heap.SameBut.refl]
 |none=>
  dsimp only;have hm:k∉U:=λz=>by
   obtain⟨e,he,hp⟩:=(we d G k).mp z;grind
  have D:kX U k=U++[k]:=by unfold kX;rw[if_neg hm]
  have F:∀(b:Bool){T:Shared}{f:Unit->Shared->Prop},f () T->wpAny (model prog w) A (match b with|true=>rule "set.scan.the-table-gave-way" | false=>pure ()) f E T :=
   λb T f hq=>by cases b<;>first|exact wY hq|exact wpAny_rule hq
  have M:=layNew_perm t es ((PySem.strKind prog w).hash k) (.str k tk);have O:=layNew_fits t es ((PySem.strKind prog w).hash k) (.str k tk);have i:=Lf t es ((PySem.strKind prog w).hash k) (.str k tk);generalize N:layNew t es ((PySem.strKind prog w).hash k) (.str k tk)=L at M O i |-;obtain⟨H,P,R,S⟩:=L;dsimp only at M O i |-;rw[Array.toList_push]at M;have p :=(d.push n rr).perm M;have q:(H.toList.map (λe=>strOf e.2)).Perm (U++[k]):=(M.map _).trans (by rw[uV];exact G.append_right _);have r:(U++[k]).Nodup:=by
   rw[nodup_append];refine⟨nd,X9,λx hx y hy=>?_⟩;rw[mem_singleton]at hy;subst hy;exact λz=>hm (z ▸ hx)
  have hb1:(U++[k]).length<scanBound:=by rw[uY];exact v
  refine wX (F _ ?_);have u :=λh' c g=>h true h' c (by rw[D];exact g);split
  .refine wX ?_;refine wY ?_;refine zK ?_ ho l hd p q r hb1 ?_ ?_ ?_ ?_
   .intro b T f hq;cases b<;>first|exact wY hq|exact wpAny_rule hq
   .exact SetTable.fits_plain_off O
   .exact i.trans m
   .rfl
   .intro h' c g;dsimp only;exact wY (u h' c g)
  .rename_i I;refine wX (wY ?_);simp only[↓reduceIte];refine zK ?_ ho l hd p q r hb1 O (i.trans m) (by simpa using I) ?_
   .intro b T f hq;cases b<;>first|exact wY hq|exact wpAny_rule hq
   .intro h' c g;dsimp only;exact wY (u h' c g)
end
noncomputable def gY (ss:LS):LS:=ss.foldl kX []
def BN (h:G.Nodup)(x:Str):(kX G x).Nodup:=by
 grind[kX]
def rN:y∈kX G x↔y∈G\/y=x:=by
 unfold kX;split
 .rename_i hm;exact⟨.inl,λz=>z.elim id λe=>e ▸ hm⟩
 .simp
def xW (ss:LS):∀G:LS,(ss.foldl kX G).length<=G.length+ss.length:=by
 induction ss with
 |nil=>simp
 |cons x r M=>grind[Hs]
def rO (ss:LS):(gY ss).length<=ss.length:=by have:=xW ss [];simpa [gY]using this
def Fd (ss:LS)(x:Str):gY (ss++[x])=kX (gY ss) x:=by simp_all[gY]
theorem StrsAre.at:∀ {vs:LU}{ss:LS},StrsAre vs ss->∀(i:Nat)(v:Value),vs[i]? = some v->∃x t,v=.str x t/\ss[i]? = some x
 |_,_,.nil,i,v,h=>by simp at h
 |_,_,.cons x t G,0,v,h=>by simp at h;exact⟨x,t,h.symm,rr⟩
 |_,_,.cons x t G,i+1,v,h=>by
  exact StrsAre.at G i v h
def jW.at (x:jW prog w h a M)(k:∀o,h.get? a=some o->h'.get? a=some o):jW prog w h' a M:=by
 obtain⟨o,es,G,t,ho,r⟩:=x;exact⟨o,es,G,t,k o ho,r⟩
section
variable {prog:Program}{w:World}{A:Around}{R:Result->Shared->Prop}{I:Addr}{fp wr:List Addr}{G:Array GenState->Array GenState->Prop}{n:Nat}{P:Nat->Value->Prop}{St:Nat->Shared->Prop}
def xX (W:WalksS prog w A.in1 I fp wr G n P St)(S:Addr)(T:S∉fp)(ss:LS)(hn:ss.length=n)
  (U:∀i v,P i v->∃x t,v=.str x t/\ss[i]? = some x) (hb:n+1<scanBound):
  ∀(k i:Nat)(s:Shared),n - i=k->i<=n->St i s->jW prog w s.heap S (gY (ss.take i)) ->
   (∀s',Moved (S::wr) G s s'->jW prog w s'.heap S (gY ss)->R (.ok (.ret .none)) s') ->
   codeAny (model prog w) A (.builtin "set.update.loop" ⟨[.ref S,.ref I],[]⟩) R s:=by
 have g:S∉wr:=λh=>T (W.sub _ h);have M:∀b∈wr,b∈S::wr:=λb hb=>mZ _ hb;intro k;induction k with
 |zero=>
  intro i s hk hi O hS hR;have l:i=n:=N9
  subst l;refine codeAny_builtin PyProof.Rows.F.entry_set_update_loop ?_;refine wX (W.done s _ _ O λs' hm=>?_);refine wY (hR s' (hm.mono M) ?_);rw[List.take_of_length_le N9]at hS;exact hS.at λo e=>hm.heap S _ g e
 |succ k m=>
  intro i s hk hi O hS hR;have j:i<n:=N9
  refine codeAny_builtin PyProof.Rows.F.entry_set_update_loop ?_;refine wX (W.item i s _ _ j O λv s' p a hm=>?_);obtain⟨x,t,rfl,hx⟩:=U i v p;have q:jW prog w s'.heap S (gY (ss.take i)):=hS.at λo e=>hm.heap S _ g e;refine wX (wpAny_holding ?_);unfold setAdd;refine wpAny_holding ?_;refine wX ((PySem.strKind prog w).pyHash (k:=x) (strKind_is prog w x t) ?_);have hl:(gY (ss.take i)).length+1<scanBound:=by have:=rO (ss.take i);rw[length_take]at this;lia
  refine BM (s:={ s' with toks:=s'.toks+1 }) q hl λb h' c y=>?_;have r:jW prog w h' S (gY (ss.take (i+1))):=by
   simp_all[take_add_one,Fd]
  refine wY ⟨plainId_quiet PyProof.Rows.F.plain_set_update_loop _,m (i+1) _ N9 j (W.frame _ s' _ _ a (le_succ _) λb hb o e=>?_) r λu d f=>?_⟩
  .rw[c.2 b (λh:b=S=>T (by rw[<-h];exact hb))];exact e
  .refine hR u (Moved.trans W.gtrans ((hm.mono M).then_heap (le_succ _) λb o hb e=>?_) d) f;rw[c.2 b (λh:b=S=>hb (by rw[h];exact mX))];exact e
end
section
variable {prog:Program}{w:World}{A:Around}{E:QV}{s:Shared}
noncomputable abbrev fN (w:World):Obj:={ cls:=.type "set",dict:=none,data:=.set #[] 0 (.fresh 0 0 (!w.params.followText "set-order")) }
def zL (a:Value) 
  (h:Q₁ (.ref s.heap.objs.size) { s with heap:=s.heap.push (fN w) }):
  codeAny (model prog w) A (.call (.builtin "set.__new__") ⟨[.type "set",a],[]⟩) (wants Q₁ E) s:=by
 refine codeAny_of_tree ?_;refine wX (wpAny_of_eq (PySem.F.newCall_set_1 a) (wY ⟨plainId_quiet PySem.F.plain_set_new _,codeAny_builtin PySem.F.entry_set_new ?_⟩));unfold Builtin.«set.__new__» Builtin.Frozenset.newClass;have G:=sub_set_self;wp_walk;refine wpAny_askSetting (wY ?_);refine wX (wpAny_alloc (wY ?_));exact wY h
set_option maxHeartbeats 3200000 in
def rP 
  (hh:A.handled=none) (hl:s.heap.IsList l items) (hi:StrsAre items.toList ss) (hb:items.size+1<scanBound)
  (h:∀(h':Heap)(tk:Nat),jW prog w h' s.heap.objs.size (gY ss) ->
   (∀b o,b<s.heap.objs.size->s.heap.get? b=some o->h'.get? b=some o)->Q (.ref s.heap.objs.size) { s with heap:=h',toks:=tk }):
  wpAny (model prog w) A (call (.type "set") [.ref l]) Q E s:=by
 obtain⟨c,tl,Zw⟩:=called_set.mro;have Xj:=called_set.made;have Zx:=called_set.sub;refine wpAny_call (codeAny_of_tree ?_);show wpAny _ _ (callAny (.type "set") _) _ _ _;refine wY ⟨Code.quiet_builtin _ H9,codeAny_builtin PySem.F.entry_type_call ?_⟩;rw[Around.under_plain (weight_type_call_type "set" [.ref l] []) rr];have h1:=called_set.notType;have h2:=called_set.canCreate;have u:=PySem.F.typeCall_set_1 (.ref l);have y:ss.length=items.size:=by have:=hi.strs;grind
 repeat (any_goals (first|assumption|wp_step))
 refine codeAny_mono (zL (.ref l) (E:=E) (Q₁:=λobj O=>obj=.ref s.heap.objs.size/\O={ s with heap:=s.heap.push (fN w) }) ⟨rr,rr⟩) λr O f=>?_;cases r with
 |error e=>exact f
 |ok fl=>
  cases fl with
  |ret obj=>
   obtain⟨rfl,rfl⟩:=f;have hS:(s.heap.push (fN w)).get? s.heap.objs.size=some (fN w):=vY _ rr;have B:Shared.TypeIs { s with heap:=s.heap.push (fN w) } (.ref s.heap.objs.size) "set":=⟨_,hS,rr⟩;have C:=called_set.init.lookup;have D:=called_set.init.bind (.ref s.heap.objs.size);repeat (any_goals (first|assumption|wp_step))
   refine codeAny_mono (codeAny_call_builtin (R:=wants (λr T=>r=.none/\∃h' tk,T={ s with heap:=h',toks:=tk } /\
     jW prog w h' s.heap.objs.size (gY ss) /\
     (∀b o,b<s.heap.objs.size->s.heap.get? b=some o->h'.get? b=some o)) E) called_set.init.plain PySem.F.entry_set_init (check_set_init_1 B ?_)) λd T G=>?_
   .obtain⟨H,k,m,n,p⟩:=hl;obtain⟨Zy,U,Xk,M⟩:=H;simp only at m p;subst m;subst p;have I:(s.heap.push (fN w)).get? l=some { cls:=.type "list",dict:=U,data:=.seq items n,slots:=M }:=vZ _ k;have Zz:=PySem.F.sub_list_set;have Z0:=PySem.F.sub_list_frozenset;have E9:(Value.type "list" == Value.type "dict")=false:=Z9
    have q:(s.heap.push (fN w)).IsList l items:=⟨_,I,rr,n,rr⟩;unfold Builtin.«set.__init__» noKeywords Builtin.Frozenset.updateFrom;generalize g:pyIter=PI;wp_walk;subst g;refine wpAny_pyIter_list q ?_;refine wX (wpAny_runValue ?_);have J:l<s.heap.objs.size:=vX k;have K:A.in1.in1.in1.handled=none:=by simp[hh]
    have L:l≠(s.heap.push (fN w)).objs.size:=by
     simp_all[vS,lt_succ_of_lt]
    have N:s.heap.objs.size∉[(s.heap.push (fN w)).objs.size,l]:=by
     simp_all[ne_of_gt]
    have P:∀(i:Nat)(v:Value),items[i]? = some v->∃x t,v=.str x t/\ss[i]? = some x:=λi v hv=>
     StrsAre.at hi i v (by simp_all)
    refine xX ((Walks.list K _ l L items).toS) s.heap.objs.size
     N ss y P hb (items.size - 0) 0 _ N9 (uM _)
     ⟨⟨_,vY _ rr,rr,rr⟩,(q.push _)⟩ ?hS0 ?hR
    case hS0=>
     have S:((s.heap.push (fN w)).push { cls:=.type "list_iterator",data:=.fields #[.ref l,.int 0 0] }).get? s.heap.objs.size
       = some (fN w):=vZ _ hS
     exact⟨_,#[],0,_,S,⟨rr,rr,rr⟩,rr,λe he=>by simp at he,List.Perm.refl _,nodup_nil,(by show(0:Nat)<scanBound;decide),rr,rr,λz=>absurd rr z⟩
    case hR=>
     intro s' hm j
     obtain⟨h',g',d',V,W⟩:=s'
     have X:g'=s.gens:=hm.gens
     have ed:d'=s.drawn:=hm.drawn
     have Y:W=s.os:=hm.os
     subst X;subst ed;subst Y
     show wpAny _ _ _ _ _ _
     refine wY ?_
     show wpAny _ _ (ret Value.none) _ _ _
     refine wY ⟨rr,h',V,rr,j,λb o hb e=>?_⟩
     have hb1:b≠s.heap.objs.size:=vS hb
     have Z:b≠(s.heap.push (fN w)).objs.size:=by
      simp_all[vS,lt_succ_of_lt]
     exact hm.heap b o (by simp_all) (vZ _ (vZ _ e))
   .cases d with
    |error e=>exact G
    |ok a=>
     cases a with
     |ret r=>
      obtain⟨rfl,h',tk,rfl,j,N7⟩:=G;repeat (any_goals (first|assumption|wp_step))
      exact h _ _ j N7
     |_=>exact G.elim
  |_=>exact f.elim
end
open Sem (wp)
section
variable {M:Model}{A:Around}{E:QV}{s:Shared}
def Lg (hn:n≠0)(h:∀k d,k<n->Q k { s with drawn:=d }):wpAny M A (choose T n) Q E s:=by
 intro G p O;refine⟨hn,?_⟩;have:=h _ (s.drawn.bump T) (Nat.mod_lt (M.w.draws T (s.drawn.get T)) (Nat.pos_of_ne_zero hn));simpa using this
end
def nF {α:Type}:∀(l:List α)(i:Nat),i<l.length->(l.eraseIdx i).length=l.length - 1:=by grind
theorem mF {α:Type}:∀(l:List α)(i:Nat)(x:α),l[i]? = some x->(x::l.eraseIdx i).Perm l
 |[],i,x,h=>by simp at h
 |a::l,0,x,h=>by simp_all
 |a::l,i+1,x,h=>by
  exact(List.Perm.swap a x _).trans ((mF l i x h).cons a)
theorem Dt {α:Type}:∀(n:Nat)(xs:List α)(s:Shared)(Q:List α->Shared->Prop),xs.length=n->(∀ys d,ys.Perm xs->Q ys { s with drawn:=d })->wpAny M A (drawOrder n xs) Q E s
 |0,xs,s,Q,hl,h=>by
  have :=List.eq_nil_of_length_eq_zero hl;subst this;exact wY (h [] _ (List.Perm.refl _))
 |n+1,[],s,Q,hl,h=>by simp at hl
 |n+1,x::r,s,Q,hl,h=>by
  refine wX (Lg X9 λk d hk=>?_);obtain⟨y,hy⟩:∃y,(x::r)[k]? = some y:=⟨_,vU hk⟩;rw[hy];refine wX (Dt n _ _ _ (by rw[nF _ _ hk,hl];rfl) λys d' hp=>wY (h _ _ ((hp.cons y).trans (mF _ _ _ hy))))
theorem Du {α:Type}(next:Nat->Nat):∀(fuel k:Nat)(left:List α)(out:Array α),left.length=fuel->(pickOrder.go next fuel k left out).toList.Perm (out.toList++left)
 |0,k,left,out,hl=>by
  simp_all[pickOrder.go]
 |fuel+1,k,left,out,hl=>by
  unfold pickOrder.go;have hk:next k % left.length<left.length:=Nat.mod_lt _ N9;obtain⟨y,hy⟩:∃y,left[next k % left.length]? = some y:=⟨_,vU hk⟩;rw[hy];refine(Du _ _ _ _ _ (by rw[nF _ _ hk];lia)).trans ?_;rw[Array.toList_push,append_assoc];exact(mF _ _ _ hy).append_left _
def Fe {α:Type}(next:Nat->Nat)(xs:Array α):(pickOrder next xs).toList.Perm xs.toList:=by
 grind[Du,pickOrder]
def bG:Slot "set_iterator" "__next__" "set_iterator.__next__" :=
 .of (owner:="set_iterator") (n:="__next__") S9 H9 H9 H9
  (by first|exact .inl H9|exact .inr _) r9
def gm:entryFor table "set_iterator.__next__" = some Builtin.«set_iterator.__next__»:=entryFor_of_tree r9
def gN (a:Value):argsOk "set_iterator.__next__" ⟨[a],[]⟩:=r9
def mr:Slot "set_iterator" "__iter__" "set_iterator.__iter__" :=
 .of (owner:="set_iterator") (n:="__iter__") S9 H9 H9 H9
  (by first|exact .inl H9|exact .inr _) r9
def rQ:entryFor table "set_iterator.__iter__" = some Builtin.«dict_keyiterator.__iter__» :=
 entryFor_alias (id':="dict_keyiterator.__iter__") r9 rr H9 r9
def uJ (a:Value):argsOk "set_iterator.__iter__" ⟨[a],[]⟩:=r9
def qI:entryFor table "set.__iter__" = some Builtin.«frozenset.__iter__» :=
 entryFor_alias (id':="frozenset.__iter__") r9 rr H9 r9
noncomputable abbrev mG (G:Value)(i:Nat)(S:Addr)(n M:Nat):Obj:={ cls:=.type "set_iterator",data:=.fields #[G,.int i 0,.ref S,.int n 0,.int M 0] }
section
variable {prog:Program}{w:World}{A:Around}{E:QV}{s:Shared}{it S:Addr}{i ep:Nat}{o:Obj}{es:Array (Int×Value)}{t:SetTable}
def eN (ho:s.heap.get? it=some (mG G i S n ep)):s.TypeIs (.ref it) "set_iterator":=⟨_,ho,rr⟩
def xY {k k':Nat}{x:Value}{Q:Option Value->Shared->Prop}(ho:s.heap.get? it=some (mG (.int k 0) i S es.size ep))
  (hS:s.heap.get? S=some o) (hd:o.data=.set es ep t) (hf:t.fits es.size=true)
  (M:∀(O:Around)(T:QV)(G:Option (Value×Nat)->Shared->Prop),G (some (x,k')) s->wpAny (model prog w) O (setNext S k i ep) G T s)
  (U:∀h',h'.get? it=some (mG (.int k' 0) (i+1) S es.size ep)->Heap.SameBut it s.heap h'->Q (some x) { s with heap:=h' }):
  wpAny (model prog w) A (pyNext (.ref it)) Q E s:=by
 refine wX (wpAny_attempt (wpAny_callSpecial?_slot  (eN ho) bG
  (wpAny_call_entry bG (eN ho) gm ?_ (gN _))))
 show wpAny _ _ (fieldsOf _>>=_) _ _ s;refine wX (wpAny_fieldsOf ho rr ?_);refine wX (wpAny_setEntries_of hS hd hf ?_);rw[if_neg X9];refine wX (M _ _ _ ?_);refine wX (wpAny_setField_rec ho X9 λh1 a b1=>?_);refine wX (wpAny_setField_rec a X9 λh2 e2 b2=>?_);exact wY ⟨x,rr,wY (U h2 (by simpa [rawInt,mG]using e2) (b1.trans b2))⟩
def xZ {k:Nat}{Q:Option Value->Shared->Prop}(hh:A.handled=none)(ho:s.heap.get? it=some (mG (.int k 0) i S es.size ep))
  (hS:s.heap.get? S=some o) (hd:o.data=.set es ep t) (hf:t.fits es.size=true)
  (M:∀(O:Around)(T:QV)(G:Option (Value×Nat)->Shared->Prop),G none s->wpAny (model prog w) O (setNext S k i ep) G T s)
  (U:∀h',Heap.ExtBut it s.heap h'->Q none { s with heap:=h' }):
  wpAny (model prog w) A (pyNext (.ref it)) Q E s:=by
 refine wX (wpAny_attempt (wpAny_callSpecial?_slot  (eN ho) bG
  (wpAny_call_entry bG (eN ho) gm ?_ (gN _))))
 show wpAny _ _ (fieldsOf _>>=_) _ _ s;refine wX (wpAny_fieldsOf ho rr ?_);refine wX (wpAny_setEntries_of hS hd hf ?_);rw[if_neg X9];refine wX (M _ _ _ ?_);refine wX (wpAny_setField_rec ho X9 λh1 a b1=>?_);refine wX ?_;refine wX (m:=firstArgMember _ _) (wpAny_of_eq  S9 ?_);refine wpAny_newObj_type ?_ N8;refine wX (wpAny_handled ?_);rw[show A.in1.handled=none from hh];refine wX (wY (wpAny_throw ?_));refine wX (wpAny_isInstance   ⟨_,vY _ rr,rr⟩ isSubtype_stop ?_);exact wY (U _ ((b1.extBut.push _).push _))
def uK {T:Addr}{pl:LN}{p:Nat}{x:Int×Value}{nt:Nat}{Q:Option Value->Shared->Prop}(ho:s.heap.get? it=some (mG (.ref T) i S es.size ep))
  (M:s.heap.get? T=some (seqObj "tuple" (pl.map λ(p:Nat)=>Value.int p 0).toArray nt))
  (hS:s.heap.get? S=some o) (hd:o.data=.set es ep t) (hf:t.fits es.size=true) (hp:pl[i]? = some p) (hx:es[p]? = some x)
  (O:∀h',h'.get? it=some (mG (.ref T) (i+1) S es.size ep)->Heap.SameBut it s.heap h'->Q (some x.2) { s with heap:=h' }):
  wpAny (model prog w) A (pyNext (.ref it)) Q E s:=by
 refine wX (wpAny_attempt (wpAny_callSpecial?_slot  (eN ho) bG
  (wpAny_call_entry bG (eN ho) gm ?_ (gN _))))
 show wpAny _ _ (fieldsOf (.ref it)>>=_) _ _ s;refine wX (wpAny_fieldsOf ho rr ?_);refine wX (wpAny_setEntries_of hS hd hf ?_);rw[if_neg X9];refine wX (wpAny_seqItems M rr ?_);have G:(pl.map λ(p:Nat)=>Value.int p 0).toArray[(i:Int).toNat]? = some (.int p 0):=by simp[hp]
 dsimp only;rw[G];have e2:wpAny (model prog w) A.in1 (setNextDrawn S (p:Int).toNat (ep:Int).toNat) (λy s'=>y=x.2/\s'=s) (λ_ _=>False) s:=by
  refine wX (wpAny_setState_of hS hd hf ?_);simp_all[wY]
 refine wX (wpAny_mono e2 (λy s' hy=>?_) λ_ _ z=>z.elim);obtain⟨rfl,rfl⟩:=hy;refine wX (wpAny_setField_rec ho X9 λh1 G b1=>?_);exact wY ⟨_,rr,wY (O h1 (by simpa [rawInt,mG]using G) b1)⟩
def uL {T:Addr}{pl:LN}{nt:Nat}{Q:Option Value->Shared->Prop}(hh:A.handled=none)(ho:s.heap.get? it=some (mG (.ref T) i S es.size ep))
  (M:s.heap.get? T=some (seqObj "tuple" (pl.map λ(p:Nat)=>Value.int p 0).toArray nt))
  (hS:s.heap.get? S=some o) (hd:o.data=.set es ep t) (hf:t.fits es.size=true) (hp:pl[i]? = none)
  (O:∀h',Heap.ExtBut it s.heap h'->Q none { s with heap:=h' }):
  wpAny (model prog w) A (pyNext (.ref it)) Q E s:=by
 refine wX (wpAny_attempt (wpAny_callSpecial?_slot  (eN ho) bG
  (wpAny_call_entry bG (eN ho) gm ?_ (gN _))))
 show wpAny _ _ (fieldsOf _>>=_) _ _ s;refine wX (wpAny_fieldsOf ho rr ?_);refine wX (wpAny_setEntries_of hS hd hf ?_);rw[if_neg X9];refine wX (wpAny_seqItems M rr ?_);have G:(pl.map λ(p:Nat)=>Value.int p 0).toArray[(i:Int).toNat]? = none:=by simpa using hp
 dsimp only;rw[G];refine wX (wpAny_setField_rec ho X9 λh0 U a=>?_);refine wX (wpAny_setField_rec U X9 λh1 G b1=>?_);refine wX ?_;refine wX (m:=firstArgMember _ _) (wpAny_of_eq  S9 ?_);refine wpAny_newObj_type ?_ N8;refine wX (wpAny_handled ?_);rw[show A.in1.handled=none from hh];refine wX (wY (wpAny_throw ?_));refine wX (wpAny_isInstance   ⟨_,vY _ rr,rr⟩ isSubtype_stop ?_);exact wY (O _ (((a.trans b1).extBut.push _).push _))
def zM (ho:s.heap.get? it=some (mG G i S n ep))(h:Q (.ref it) s):wpAny (model prog w) A (pyIter (.ref it)) Q E s:=by
 refine wpAny_pyIter_slot (eN ho) mr (wpAny_call_entry mr (eN ho) rQ ?_ (uJ _));exact wY ⟨_,rr,"set_iterator",_,eN ho,bG.lookup,h⟩
end
section
variable {prog:Program}{w:World}{A:Around}{E:QV}{s:Shared}{it S:Addr}{i k ep:Nat}{o:Obj}{es:Array (Int×Value)}{t:SetTable}
def wj (hS:s.heap.get? S=some o)(hd:o.data=.set es ep t)(hf:t.fits es.size=true)(hb:w.params.followText "set-order" = true)
  (h:Q (((pickOrder (w.params.setOrder S ep) es)[i]?).map λe=>(e.2,k)) s):wpAny (model prog w) A (setNext S k i ep) Q E s:=by
 refine wX (wpAny_setState_of hS hd hf ?_);show wpAny _ _ (if w.params.followText _=true then _ else _) _ _ _;rw[if_pos hb,if_neg X9];refine wX (wX (wpAny_setState_of hS hd hf ?_));show wpAny _ _ (if w.params.followText _=true then _ else _) _ _ _;rw[if_pos hb];refine wX (wpAny_askSetting (wY ?_));exact wY h
def rR (hS:s.heap.get? S=some o)(hd:o.data=.set es ep t)(hf:t.fits es.size=true)(hb:w.params.followText "set-order" = false)(hl:t.led=true)(hz:es.size<=1)
  (h:Q (match es[SetTable.below t.place k]?,t.place[SetTable.below t.place k]? with
   |some (_,x),some j=>some (x,j+1)
   |_,_=>none) s):wpAny (model prog w) A (setNext S k i ep) Q E s:=by
 refine wX (wpAny_setState_of hS hd hf ?_);show wpAny _ _ (if w.params.followText _=true then _ else _) _ _ _;rw[if_neg (by rw[hb];simp)];show wpAny _ _ (if(!t.plain && decide _)=true then _ else _) _ _ _;rw[if_neg (by simp_all)];show wpAny _ _ ((if(!t.led && !es.isEmpty)=true then unsupported _ else pure ())>>=_) _ _ _;rw[hl];exact wY h
def wk (hh:A.handled=none)(hd:o.data=.set es ep t)(hf:t.fits es.size=true)(U:S≠it)(vs:LU)(d:vs.length=es.size)(sl:Nat->Nat)
  (a:∀i x,vs[i]? = some x->∀(M:Around)(O:QV)(s:Shared)(G:Option (Value×Nat)->Shared->Prop),s.heap.get? S=some o->G (some (x,sl (i+1))) s->wpAny (model prog w) M (setNext S (sl i) i ep) G O s)
  (c:∀(M:Around)(O:QV)(s:Shared)(G:Option (Value×Nat)->Shared->Prop),s.heap.get? S=some o->G none s->wpAny (model prog w) M (setNext S (sl es.size) es.size ep) G O s):
  Walks prog w A it [it,S] [it] es.size (λi v=>vs[i]? = some v) (λi h=>h.get? it=some (mG (.int (sl i) 0) i S es.size ep)/\h.get? S=some o) where
 sub:=λb hb=>by simp at hb;simp[hb]
 frame:=λ_ _ _ st hk=>⟨hk it X9 _ st.1,hk S X9 _ st.2⟩
 item:=λi s Q E hi st T=>by
  obtain⟨x,hx⟩:∃x,vs[i]? = some x:=⟨_,vU N9⟩;refine xY st.1 st.2 hd hf (λM O G q=>a i x hx M O s G st.2 q) λh' h1 h2=>?_;exact T x h' _ hx ⟨h1,h2.extBut S _ U st.2⟩ λb u hb e=>h2.extBut b u (λz=>hb (by simp[z])) e
 done:=λs Q E st T=>xZ hh st.1 st.2 hd hf (λM O G q=>c M O s G st.2 q) λh' h1=>T h' _ λb u hb e=>h1 b u (λz=>hb (by simp[z])) e
 self:=λ_ _ _ _ st T=>zM st.1 T
def BO {T:Addr}{pl:LN}{nt:Nat}(hh:A.handled=none)(hd:o.data=.set es ep t)(hf:t.fits es.size=true)(O:S≠it)(U:T≠it)(hp:pl.Perm (List.range es.size)):
  Walks prog w A it [it,S,T] [it] es.size (λi v=>(pl.map λp=>(es.getD p (0,.none)).2)[i]? = some v)
   (λi h=>h.get? it=some (mG (.ref T) i S es.size ep)/\h.get? S=some o/\h.get? T=some (seqObj "tuple" (pl.map λ(p:Nat)=>Value.int p 0).toArray nt)) where
 sub:=λb hb=>by simp at hb;simp[hb]
 frame:=λ_ _ _ st hk=>⟨hk it X9 _ st.1,hk S X9 _ st.2.1,hk T X9 _ st.2.2⟩
 item:=λi s Q E hi st G=>by
  have M:pl.length=es.size:=by rw[hp.length_eq,length_range]
  obtain⟨p,hx⟩:∃p,pl[i]? = some p:=⟨_,vU N9⟩;have a :=mem_range.mp (hp.mem_iff.mp (vL hx));have he:es[p]? = some (es.getD p (0,.none)):=by simp_all
  refine uK st.1 st.2.2 st.2.1 hd hf hx he λh' h1 h2=>?_;exact G _ h' s.toks (by simp[hx]) ⟨h1,h2.extBut S _ O st.2.1,h2.extBut T _ U st.2.2⟩ λb u hb e=>h2.extBut b u (λz=>hb (by simp[z])) e
 done:=λs Q E st G=>by
  have M:pl.length=es.size:=by rw[hp.length_eq,length_range]
  exact uL hh st.1 st.2.2 st.2.1 hd hf (getElem?_eq_none N9) λh' h1=>G h' s.toks λb u hb e=>h1 b u (λz=>hb (by simp[z])) e
 self:=λ_ _ _ _ st G=>zM st.1 G
end
def BP {α:Type}(es:Array α)(d:α):(List.range es.size).map (λp=>es.getD p d)=es.toList:=by
 apply ext_getElem?;intro i;by_cases h:i<es.size
 .simp_all
 simp_all
section
variable {prog:Program}{w:World}{A:Around}{E:QV}{s:Shared}
def wl (h:xs=#[j]):SetTable.below xs k=if j<k then 1 else 0:=by
 simp_all[SetTable.below,SetTable.below.go]
def Ht {S:Addr}{c:LS}{Q:QV}(hS:jW prog w s.heap S c)
  (l:∀(h':Heap)(d:Drawn)(it:Addr)(vs:LU)(fp:List Addr)(St:Nat->Heap->Prop),(∀O,O.handled=none->Walks prog w O it fp [it] c.length (λi v=>vs[i]? = some v) St)->St 0 h' ->
   (∀b u,s.heap.get? b=some u->h'.get? b=some u)->s.heap.objs.size<=it->(∀b∈fp,b=S\/s.heap.objs.size<=b)->vs.length=c.length->(vs.map strOf).Perm c->(∀v∈vs,∃x t,v=.str x t) ->
   Q (.ref it) { s with heap:=h',drawn:=d }):wpAny (model prog w) A (pyIter (.ref S)) Q E s:=by
 obtain⟨o,es,a,t,ho,C,hd,D,hp,nd,hb,hf,H,I⟩:=hS;have sz:es.size=c.length:=by rw[<-hp.length_eq,vI,vG]
 have T:S<s.heap.objs.size:=vX ho;have y:s.TypeIs (.ref S) "set":=⟨_,ho,C.1⟩;have J:∀e∈es.toList,∃x t,e.2=.str x t:=λe he=>by
  obtain⟨⟨k,hk,_⟩,_⟩:=D e he;obtain⟨t,q⟩:=Value.isStrOf_shape (show Value.isStrOf k e.2=true from hk);exact⟨k,t,q⟩
 refine wpAny_pyIter_slot y slot_set_iter (wpAny_call_entry slot_set_iter y qI ?_ (PySem.F.args_set_iter_1 _));show wpAny _ _ (Builtin.Frozenset.sizeOf S>>=_) _ _ s;unfold Builtin.Frozenset.sizeOf;refine wX (wX (wpAny_setEntries_of ho hd hf (wY ?_)));unfold setDrawn setsByText;refine wX (wX (wpAny_setState_of ho hd hf ?_));dsimp only;refine wX (wX (wpAny_askSetting (wY (wY ?_))));show wpAny _ _ (if(!w.params.followText "set-order" && (!t.plain && decide (es.size > 1)))=true then _ else _) _ _ _;have U:(es.toList.map (·.2)).map strOf=es.toList.map (λe=>strOf e.2):=by rw[uO];rfl
 by_cases G:w.params.followText "set-order" = true
 .rw[if_neg (by rw[G];simp)];refine wX (wY ?_);refine wX (wpAny_setEpoch_of ho hd hf ?_);have pp:=Fe (w.params.setOrder S a) es;have z:((pickOrder (w.params.setOrder S a) es).toList.map (·.2)).length=es.size:=by rw[vI,pp.length_eq,vG]
  refine wX (wpAny_newObj_type (wY ⟨_,rr,"set_iterator",_,⟨_,vY _ rr,rr⟩,bG.lookup,?_⟩));refine l _ s.drawn s.heap.objs.size ((pickOrder (w.params.setOrder S a) es).toList.map (·.2)) [s.heap.objs.size,S] (λi h=>h.get? s.heap.objs.size=some (mG (.int ((λ_=>0:Nat->Nat) i:Nat) 0) i S es.size a)/\h.get? S=some o) (λO f=>?_) ?_ (λb u e=>vZ _ e) (vT _) (λb hb=>?_) (z.trans sz) ?_ ?_
  .rw[<-sz];exact wk f hd hf (vS T) _ z (λ_=>0) (λi x hx O m s n h1 h2=>wj h1 hd hf G (by
    rw[uZ,Array.getElem?_toList]at hx;obtain⟨e,he,rfl⟩:=oY hx;rw[he];exact h2)) (λO m s n h1 h2=>wj h1 hd hf G (by
    simp_all))
  .exact⟨vY _ rr,vZ _ ho⟩
  .grind
  .grind
  grind
 .rw[Bool.not_eq_true]at G;have hl:t.led=true:=by rw[H,G];rfl
  by_cases h1:es.size<=1
  .rw[if_neg (by simp_all)];refine wX (wY ?_);refine wX (wpAny_setEpoch_of ho hd hf ?_);refine wX (wpAny_newObj_type (wY ⟨_,rr,"set_iterator",_,⟨_,vY _ rr,rr⟩,bG.lookup,?_⟩));have K:t.place.size=es.size:=by
    simp_all[SetTable.fits]
   refine l _ s.drawn s.heap.objs.size (es.toList.map (·.2)) [s.heap.objs.size,S] (λi h=>h.get? s.heap.objs.size=some (mG (.int ((λi=>if i=0 then 0 else t.place.getD 0 0+1:Nat->Nat) i:Nat) 0) i S es.size a)/\h.get? S=some o) (λO f=>?_) ?_ (λb u e=>vZ _ e) (vT _) (λb hb=>?_) (by simp_all) (by rw[U];exact hp) ?_
   .rw[<-sz];refine wk f hd hf (vS T) _ X9 (λi=>if i=0 then 0 else t.place.getD 0 0+1) (λi x hx O m s n r g=>rR r hd hf G hl h1 ?_) (λO m s n r g=>rR r hd hf G hl h1 ?_)
    .have hi:i<es.size:=by have:=(vV hx).1;simpa using this
     have L:i=0:=N9
     subst L;obtain⟨j,hj⟩:∃j,t.place=#[j]:=Array.size_eq_one_iff.mp N9;rw[if_pos rr,wl hj,if_neg N9];rw[uZ,Array.getElem?_toList]at hx;obtain⟨e,he,rfl⟩:=oY hx;rw[he];simp only[hj]at g |-;simpa using g
    .by_cases h0:es.size=0
     .have B:t.place=#[]:=Array.eq_empty_of_size_eq_zero N9;have N:es=#[]:=Array.eq_empty_of_size_eq_zero h0;rw[B,N];simpa using g
     .obtain⟨j,hj⟩:∃j,t.place=#[j]:=Array.size_eq_one_iff.mp N9;rw[if_neg h0,wl hj];have:t.place.getD 0 0=j:=by rw[hj];rfl
      rw[this,if_pos N9,Array.getElem?_eq_none N9];exact g
   .exact⟨vY _ rr,vZ _ ho⟩
   .grind
   grind
  .have B:t.plain=false:=I N9;rw[if_pos (by simp_all)];refine wX (Dt es.size (List.range es.size) _ _ X9 λpl d pp=>?_);refine wX (wpAny_newTuple ?_ (by rw[vI,pp.length_eq,length_range,sz];exact fits_of_scanBound hb));refine wX (wpAny_setEpoch_of (vZ _ ho) hd hf ?_);refine wX (wpAny_newObj_type (wY ⟨_,rr,"set_iterator",_,⟨_,vY _ rr,rr⟩,bG.lookup,?_⟩));have hsz:(s.heap.push (seqObj "tuple" (pl.map λ(p:Nat)=>Value.int p 0).toArray 0)).objs.size=s.heap.objs.size+1:=size_push' _ _;have M:((pl.map λp=>(es.getD p (0,.none)).2)).Perm (es.toList.map (·.2)):=by
    have:=(pp.map λp=>es.getD p (0,Value.none)).map (·.2);rw[BP]at this;rw[uO]at this;exact this
   refine l _ d _ (pl.map λp=>(es.getD p (0,.none)).2) [(s.heap.push (seqObj "tuple" (pl.map λ(p:Nat)=>Value.int p 0).toArray 0)).objs.size,S,s.heap.objs.size] (λi h=>h.get? (s.heap.push (seqObj "tuple" (pl.map λ(p:Nat)=>Value.int p 0).toArray 0)).objs.size=some (mG (.ref s.heap.objs.size) i S es.size a)/\h.get? S=some o/\h.get? s.heap.objs.size=some (seqObj "tuple" (pl.map λ(p:Nat)=>Value.int p 0).toArray 0)) (λO f=>?_) ?_ (λb u e=>vZ _ (vZ _ e)) ?_ (λb hb=>?_) ?_ ?_ ?_
   .rw[<-sz];exact BO (nt:=0) f hd hf (by simp_all[vS,lt_succ_of_lt]) X9 pp
   .exact⟨vY _ rr,vZ _ (vZ _ ho),vZ _ (vY _ rr)⟩
   .simp
   .grind
   .rw[M.length_eq,vI,vG,sz]
   .exact((M.map strOf).trans (by rw[U])).trans hp
   .intro v P;obtain⟨e,he,rfl⟩:=vO (M.mem_iff.mp P);exact J e he
end
def Ff (h:ItemsOf (λi v=>vs[i]? = some v) G vs.length):G.toList=vs:=by
 apply ext_getElem?;intro i;by_cases hi:i<G.size
 .have e :=Array.getElem?_eq_getElem hi;rw[Array.getElem?_toList,e,h.2 i _ e]
 .rw[getElem?_eq_none (by rw[vG];lia),getElem?_eq_none (by rw[<-h.1];lia)]
section
variable {prog:Program}{w:World}{A:Around}{E:QV}{s:Shared}
def zN (hh:A.handled=none)(hS:jW prog w s.heap S ts)
  (p:∀s' vs,(∀b u,s.heap.get? b=some u->s'.heap.get? b=some u)->s'.gens=s.gens->s'.os=s.os->vs.length=ts.length->(vs.map strOf).Perm ts->(∀v∈vs,∃x t,v=.str x t)->Q vs s'):
  wpAny (model prog w) A (collect (.ref S)) Q E s:=by
 have G:∀(s1:Shared),jW prog w s1.heap S ts->s1.TypeIs (.ref S) "set":=λs1 h=>by
  obtain⟨o,_,_,_,ho,q,_⟩:=h;exact⟨o,ho,q.1⟩
 have r:S<s.heap.objs.size:=by obtain⟨o,_,_,_,ho,_⟩:=hS;exact vX ho
 have O:ts.length<scanBound:=by obtain⟨_,_,_,_,_,_,_,_,_,_,h,_⟩:=hS;exact h
 unfold collect;refine wX (wpAny_runValue (codeAny_builtin PySem.F.entry_proto_collect ?_));refine wX (wpAny_newObj_type ?_);refine wY ⟨plainId_quiet PySem.F.plain_list_iadd _,codeAny_builtin PySem.F.entry_list_iadd ?_⟩;show wpAny _ A.in1 (Builtin.List.listExtendWith (.ref s.heap.objs.size) (.ref S) (.ref s.heap.objs.size)) _ _ _;unfold Builtin.List.listExtendWith;have T:jW prog w (s.heap.push { cls:=.type "list",data:=.seq ([]:LU).toArray }) S ts:=hS.at λo e=>vZ _ e;refine wX (wpAny_typeOf (G _ T) ?_);have y:s.heap.objs.size≠S:=ne_of_gt r;have h1:Builtin.List.listSameRef (.ref s.heap.objs.size) (.ref S)=false:=by simp[Builtin.List.listSameRef,y]
 have h2:(Value.type "set" == Value.type "list")=false:=Z9
 have h3:(Value.type "set" == Value.type "tuple")=false:=Z9
 simp only[h1,h2,h3,Bool.or_false,uU,if_false];refine wX (Ht  T λh' d it vs fp St W B hk uA C i U a=>?_);have f:jW prog w h' S ts:=T.at λo e=>hk _ _ e;refine wX (wpAny_holding ?_);unfold Builtin.List.listLengthHint;refine wX (wpAny_specialOf (G _ f) PySem.F.slot_set_len.lookup ?_);wp_delta;refine wX (wpAny_isInstance (G _ f) sub_set_self ?_);refine wX (wpAny_typeOf (G _ f) ?_);refine wY ?_;rw[if_pos Z9];refine wX (wpAny_rule ?_);refine wX ?_;have H:(s.heap.push { cls:=.type "list",data:=.seq ([]:LU).toArray }).objs.size=s.heap.objs.size+1:=size_push' _ _;have j :=hk _ _ (vY _ rr);refine wX (wpAny_updateSeq j rr ?_);have k:=Heap.get?_update_self (Obj.mapSeq (·.push Value.none)) j rr;refine wpAny_updateSeq k rr ?_;have D:=Heap.get?_update_self (Obj.mapSeq (·.pop)) k rr;have l:s.heap.objs.size∉fp:=λhm=>by
  grind
 have m:∀b u,b≠s.heap.objs.size->h'.get? b=some u ->
   ((h'.update s.heap.objs.size (Obj.mapSeq (·.push Value.none))).update s.heap.objs.size (Obj.mapSeq (·.pop))).get? b=some u :=
  λb u hb e=>(Heap.get?_update_other _ _ (Ne.symm hb)).trans ((Heap.get?_update_other _ _ (Ne.symm hb)).trans e)
 have n:=W A.in1 hh;refine wY ⟨plainId_quiet plain_extend_loop _,codeAny_extend_loopS n.toS (fits_of_scanBound O) _ l _ ts.length 0 _ _ _ rr (uM _)
  (n.frame 0 _ _ B λb hb u e=>m b u (λz=>l (z ▸ hb)) e) D (ItemsOf.nil _) λs' c I hm g M=>?_⟩
 refine wX (wpAny_load g ?_);rw[<-i]at M;refine wY ?_;show Q c.toList s';rw[Ff M];refine p s' vs (λb u e=>hm.heap b u (λhb=>?_) (m b u (vS (vX e)) (hk _ _ (vZ _ e)))) hm.gens hm.os i U a;have hl:=vX e;simp_all<;>lia
def BQ (hh:A.handled=none)(hS:jW prog w s.heap S ts)(h:ts.length<64)
  (i:∀(s1:Shared)(h':Heap)(a:Addr)(out:AV)(n:Nat)(G:LS),(∀b u,s.heap.get? b=some u->s1.heap.get? b=some u)->s1.os=s.os->s1.gens=s.gens->(∀b u,s1.heap.get? b=some u->h'.get? b=some u)->s1.heap.objs.size<=a->h'.get? a=some (seqObj "list" out n) ->
   StrsAre out.toList G->G.Perm ts->sortedS G=true->Q (.ref a) { s1 with heap:=h' }):
  wpAny (model prog w) A (call (.builtin "sorted") [.ref S]) Q E s:=by
 refine Calls.call_function_entry kind_sorted plain_sorted entry_sorted (args_sorted1 _) ?_;refine wX  (wY ?_);refine wX (zN  (by exact hh) hS λs1 vs hk j d U M c=>?_);have O :=strsAre_map vs c;refine wX (wpAny_newList ?_ (by rw[U,sizeLine_eq];lia));have T:(s1.heap.push _).get? _=some (seqObj "list" vs.toArray 0):=vY _ rr;refine wX (wpAny_holding (wpAny_call_entry slot_list_sort ⟨_,T,rr⟩ entry_list_sort (list_sort_treeK strKind_oneLt T O.keysOf (λf g rest e=>keyKind_strs (by rw[<-e];exact O)) (by rw[U];exact h) λm k l=>⟨_,rr,?_⟩) (args_list_sort _)));obtain⟨G,b1,b2,b3⟩:=sorted_out_str O k l;obtain⟨e,he⟩:=sortedHeap_at  T;refine wY ⟨_,rr,i s1 _ _ _ e G hk d j (λb u q=>?_) (vT _) he b1 (b2.trans M) b3⟩;have hl:=vX q;rw[sortedHeap_old (vS hl) (by simp_all[lt_succ_of_lt])];exact vZ _ q
end
end DL
namespace DL
open PySem PySem.Spec PyProof.Rows L2
def zO (a b:Str):Prop:=¬b.cps.toList<a.cps.toList
def Dv:ltCps b.cps.toList a.cps.toList=false↔zO a b:=by rw[ltCps_eq,decide_eq_false_iff_not];rfl
def wm (h:zO a b)(k:zO b c):zO a c:=by
 grind[zO]
def Hu (h:zO a b)(k:zO b a):a=b:=by
 have e :=List.le_antisymm (not_lt.mp h) (not_lt.mp k);obtain⟨a⟩:=a;simp_all
noncomputable def BR (x:Str):LS->LS
 |[]=>[x]
 |y::r=>if ltCps y.cps.toList x.cps.toList then y::BR x r else x::y::r
noncomputable def mu (l:LS):LS:=l.foldr BR []
theorem oW (x:Str):∀l,(BR x l).Perm (x::l)
 |[]=>List.Perm.refl _
 |y::r=>by
  unfold BR;split
  .exact((oW x r).cons y).trans (List.Perm.swap x y r)
  rfl
theorem fQ:∀l,(mu l).Perm l
 |[]=>List.Perm.refl _
 |x::l=>(oW x _).trans ((fQ l).cons x)
theorem wn (x:Str):∀l,l.Pairwise zO->(BR x l).Pairwise zO
 |[],_=>by simp[BR]
 |y::r,h=>by
  obtain⟨h1,h2⟩:=pairwise_cons.mp h;unfold BR;split
  .rename_i hl;refine pairwise_cons.mpr ⟨λz hz=>?_,wn x r h2⟩;rcases vP ((oW x r).mem_iff.mp hz)with rfl|hz
   .rw[ltCps_eq,decide_eq_true_eq]at hl;exact λk=>lt_irrefl _ (lt_trans hl k)
   simp_all
  .rename_i hl;rw[Bool.not_eq_true]at hl;have G :=Dv.mp hl;refine pairwise_cons.mpr ⟨λz hz=>?_,h⟩;rcases vP hz with rfl|hz
   .exact G
   .exact wm G (h1 z hz)
theorem rS:∀l,(mu l).Pairwise zO
 |[]=>List.Pairwise.nil
 |x::l=>wn x _ (rS l)
theorem pW:∀(l:LS)(p:Str),risingS p l=true->(p::l).Pairwise zO
 |[],p,_=>List.pairwise_singleton _ _
 |x::r,p,h=>by
  have h':(!ltCps _ _ && risingS x r)=true:=h;rw[vB]at h';have G :=Dv.mp (by simpa using h'.1);have M:=pW r x h'.2;refine pairwise_cons.mpr ⟨λz hz=>?_,M⟩;rcases vP hz with rfl|hz
  .exact G
  .exact wm G ((pairwise_cons.mp M).1 z hz)
theorem zP:∀(l:LS),sortedS l=true->l.Pairwise zO
 |[],_=>List.Pairwise.nil
 |x::r,h=>pW r x h
def zQ (a:Str):zO a a:=lt_irrefl _
theorem rT:∀(l1 l2:LS),l1.Perm l2->l1.Pairwise zO->l2.Pairwise zO->l1=l2
 |[],l2,p,_,_=>(nil_perm.mp p).symm
 |x::O,[],p,_,_=>absurd p.length_eq X9
 |x::O,y::T,p,h1,h2=>by
  have G:zO x y:=by
   rcases vP (p.mem_iff.mpr (mX ..))with z|z
   .rw[z];exact zQ _
   simp_all
  have M:zO y x:=by
   rcases vP (p.mem_iff.mp (mX ..))with z|z
   .rw[z];exact zQ _
   simp_all
  have e:=Hu G M;subst e;rw[rT O T (List.Perm.cons_inv p) (pairwise_cons.mp h1).2 (pairwise_cons.mp h2).2]
def wo (p:G.Perm l)(h:sortedS G=true):G=mu l:=rT _ _ (p.trans (fQ l).symm) (zP _ h) (rS l)
section
variable {X:Cx}
noncomputable def zR (X:Cx)(S:Addr)(G:LS):HO:=.ext λh=>jW X.prog X.w h S G
def oZ (I:Inv X ak σ H s)(k:∀b u,s.heap.get? b=some u->s1.heap.get? b=some u)(ho:s1.os=s.os)(M:s1.gens=s.gens):Inv X ak σ H s1:=by
 have O:=I.step  (d':=s1.drawn) (t':=s1.toks)   (ch:=[]) (λ_ z=>nomatch z) (λb o _ _ _ e _=>k b o e) (λb o _ _ _ e _=>⟨o.slots,k b o e⟩) (λ_ _ _ _ n=>n)
  (λb o _ e=>⟨o,k b o e⟩) (λ_ _ e=>e) (λ_ _ _ e=>e) (λ_ _ e=>e) (λm hm=>?_) (I.hok.kept k) I.bare
 .obtain⟨h1,g1,d1,T,U⟩:=s1;simp_all
 .obtain⟨o,es,G,ho,r⟩:=hm;exact⟨o,es,G,k _ o ho,r⟩
def pX (hc:X.calm=true):bY X (.type "set") (λxs H Q=>∃p ys ss,xs=[.ref p]/\gB X.K H p ys/\(∀its,bi ys its->StrsAre its ss)/\ss.length<4000/\∀S,H S=none->Q (.ref S) (upd H S (zR X S (gY ss)))):=by
 intro ak s σ H xs us Q I r h;obtain⟨p,ys,ss,rfl,hq,hs,O,q⟩:=h;obtain⟨u,rfl,T⟩:=ij r;cases T
 obtain⟨its,U,pl,hz⟩:=I.list hq;have G:=hs _ U;have M:its.length=ss.length:=by rw[<-G.strs,vI]
 refine rP (I.ok.hd hc) pl.isList (by simpa using G) (by simp  [vH];unfold scanBound;lia) λh' tk hS hk=>?_;refine⟨.ref _,_,I.laid  (λb u e=>hk b u (vX e) e) (vT _) ?_,rr,q _ (I.hok.fresh (vT _))⟩;refine⟨hS,?_,λh1 h2 z k=>z.at k⟩;obtain⟨o,_,_,_,ho,_⟩:=hS;exact⟨o,ho⟩
def qJ (hc:X.calm=true):bY X (.builtin "sorted") (λxs H Q=>∃S M,xs=[.ref S]/\H S=some (zR X S M)/\M.length<64/\∀l,H l=none->Q (.ref l) (upd H l (.lst ((mu M).map .str)))):=by
 intro ak s σ H xs us Q I r h;obtain⟨S,M,rfl,hS,O,q⟩:=h;obtain⟨u,rfl,c⟩:=ij r;cases c
 have d :=(I.hok S _ hS).1;refine BQ (I.ok.hd hc) d O λs1 h' a out n f k1 ho g k2 hp he T G U=>?_;have e:=wo G U;subst e;have b:=oZ I k1 ho g;have i:∀ {its:List _}{zs:List _},StrsAre its zs->bi (zs.map V.str) its:=λz=>by
  induction z with
  |nil=>exact .nil
  |cons x t _ j=>exact .cons ⟨t,rr⟩ j
 refine⟨.ref a,_,b.laid  k2 hp (show bJ _ _ _ h' _ (.lst _)from ⟨?_,out.toList,n,i T,he⟩),rr,q _ (b.hok.fresh hp)⟩;rw[vI,(fQ M).length_eq,sizeLine_eq];lia
end
@[simp] def gZ:D->OB
 |.lst ds=>(gX ds).bind λss=>if ss.length<64 then some (.lst ((mu (gY ss)).map .str),true)else none
 |_=>none
@[simp] def Dx:D->OB
 |.lst ds=>(gX ds).bind λss=>if ss.length<4000 then some (.int ((gY ss).length:Nat),false)else none
 |_=>none
def rV:bootBuiltins "sorted" = some (.builtin "sorted"):=H9
def Ng:bootBuiltins "set" = some (.type "set"):=H9
theorem nG {K:Frag}{N:Hp}:∀(zs:LS),IsL K N (zs.map V.str) (zs.map D.str)
 |[]=>.nil
 |z::zs=>.cons (.str z) (nG zs)
section
variable {X:Cx}{e:Expr}{pos pos2 p p2:Pos}
def mH (hc:X.calm=true)(m1:X.mg "sorted" = none)(m2:X.mg "set" = none)(he:JE X e f)(g1:Gl X "sorted":=by rfl)(b:Gl X "set":=by rfl)
  (h1:starEach [e] X.env=(false,eval e X.env)::starEach [] X.env:=by rfl):JE X (.Call (.Name "sorted" p) [.Call (.Name "set" p2) [e] [] pos2] [] pos) (f1 gZ f):=by
 refine PE.to (ri (qJ hc) g1 m1 rV (eB (oN (pX hc) b m2 Ng (eB he gD h1) (he:=h1)) gD)) λσ H Q q=>?_;obtain⟨B,ρ,d',bb,c,r,G,q⟩:=q;obtain⟨T,ex,G⟩:=oX G;refine⟨B,ρ,T.1,T.2,c,r,ex,λv k N1 O i1 m=>?_⟩;obtain⟨xd,n⟩:=T;cases i1<;>try (simp[gZ]at G;done)
 rename_i s vs ds h hl;obtain⟨ss,d,G⟩:=oX G;split at G
 .rename_i U;cases G
  refine⟨_,_,ss,rr,O.nh.seq h,λits g=>iN g hl d,N9,λS hS=>⟨S,_,rr,a6,lt_of_le_of_lt (rO ss) U,λl M=>?_⟩⟩;have a:=Ext.laid (o:=zR X S (gY ss)) O.nh hS;have i:=Ext.laid (o:=.lst ((mu (gY ss)).map V.str)) a.nh M;have j:H l=none:=((O.trans a).hh).free M;exact q _ _ _ ((O.trans a).trans i) (.lst (gB.of a6) (nG _)) λ_=>⟨_,_,_,rr,rr,j,a6,nG _⟩
 simp_all
end
end DL
namespace DL
open PySem PySem.Spec PySem.W PyProof.Rows
inductive Run (n:Nat)(lt:Nat->Nat->Bool){α:Type}:KasT α->α->Prop where
 |ret (a:α):Run n lt (.ret a) a
 |ask {i j:Nat}{k:Bool->KasT α}{a:α}(hi:i<n) (hj:j<n) (h:Run n lt (k (lt i j)) a):Run n lt (.ask i j k) a
def Run.bind {n:Nat}{lt:Nat->Nat->Bool}{α G:Type}{t:KasT α}{f:α->KasT G}{a:α}{b:G}(h:Run n lt t a)(k:Run n lt (f a) b):Run n lt (t.bind f) b:=by
 induction h with
 |ret a=>exact k
 |ask hi hj _ M=>exact .ask hi hj (M k)
def Run.wp {n:Nat}{lt:Nat->Nat->Bool}{α:Type}{G:Nat->Nat->(Bool->Shared->Prop)->Shared->Prop}{Q:α->Shared->Prop}{t:KasT α}{a:α}(J:Shared->Prop)
  (hc:∀i j C s,i<n->j<n->J s->(∀s',J s'->C (lt i j) s')->G i j C s) (h:Run n lt t a):∀ {s:Shared},J s->(∀s',J s'->Q a s')->t.kasWp G Q s:=by
 induction h with
 |ret a=>intro s M O;exact O s M
 |ask hi hj _ U=>intro s M O;exact hc _ _ _ _ hi hj M λs' T=>U T O
section
variable {n:Nat}{rk:Nat->Int}
noncomputable abbrev rW (rk:Nat->Int)(i j:Nat):Bool:=decide (rk i<rk j)
noncomputable def cB (rk:Nat->Int)(p:Array Nat)(k:Nat):Int:=rk (p.getD k 0)
structure oG (n:Nat)(p:Array Nat):Prop where
 size:p.size=n
 perm:p.toList.Perm (List.range n)
def oG.lt {p:Array Nat}(h:oG n p){k:Nat}(hk:k<n):p.getD k 0<n:=by
 have G:k<p.size:=by rw[h.size];exact hk
 have:p.getD k 0=p[k]:=by simp_all
 rw[this];exact mem_range.mp (h.perm.mem_iff.mp X9)
def oG.rev {p:Array Nat}(h:oG n p)(i j:Nat):oG n (kas_rev p i j) :=
 ⟨(mirror_size _ _ _ _).trans h.size,(Array.perm_iff_toList_perm.mp (mirror_perm p i j _)).trans h.perm⟩
def oG.bub {p:Array Nat}(h:oG n p)(k d:Nat):oG n (bubble p k d) :=
 ⟨(bubble_size _ _ _).trans h.size,(Array.perm_iff_toList_perm.mp (bubble_perm p k d)).trans h.perm⟩
def ya {p:Array Nat}{i j:Nat}(hj:j<=p.size)(k:Nat):cB rk (kas_rev p i j) k=if i<=k/\k<j then cB rk p (i+j - 1 - k)else cB rk p k:=by
 unfold cB kas_rev;rw[Array.getD_eq_getD_getElem?,getElem?_mirror_all hj];split<;>simp_all
def Hv {p:Array Nat}{G d:Nat}(hs:G<p.size)(hd:d<=G)(k:Nat):cB rk (bubble p G d) k=if k=G - d then cB rk p G else if G - d<k/\k<=G then cB rk p (k - 1)else cB rk p k:=by
 unfold cB;simp  [Array.getD_eq_getD_getElem?];rw[getElem?_bubble hs d hd];repeat' split
 all_goals rfl
def Up (rk:Nat->Int)(p:Array Nat)(m:Nat):Prop:=∀i j,i<=j->j<m->cB rk p i<=cB rk p j
def yc (rk:Nat->Int)(p:Array Nat)(m:Nat):Prop:=∀i j,i<=j->j<m->cB rk p j<=cB rk p i
def OU (p:Array Nat):Up rk p 1:=λi j h1 h2=>by
 simp_all
theorem ye {p:Array Nat}(h:oG n p){r:Nat}(a:r<=n):∀(f m:Nat),r - m=f->1<=m->m<=r->Up rk p m->∃G,Run n (rW rk) (kas_asc p f m) G/\m<=G/\G<=r/\Up rk p G/\(G<r->cB rk p G<cB rk p (G - 1))
 |0,m,hf,h1,hm,hu=>⟨m,.ret m,vT _,hm,hu,λz=>by lia⟩
 |f+1,m,hf,h1,hm,hu=>by
  have T:=h.lt (k:=m) N9;have U:=h.lt (k:=m - 1) N9;by_cases hc:cB rk p m<cB rk p (m - 1)
  .refine⟨m,.ask T U ?_,vT _,hm,hu,λ_=>hc⟩;have:rW rk _ _=true:=pP hc;rw[this];exact .ret m
  .have M:Up rk p (m+1):=λi j O hj=>by
    by_cases e:j=m
    .subst e;by_cases e2:i=j
     .subst e2;exact Int.le_refl _
     .have:=hu i (j - 1) N9 N9;lia
    .exact hu i j O N9
   obtain⟨G,b,l,c,d,g⟩:=ye h a f _ N9 N9 N9 M;refine⟨G,.ask T U ?_,N9,c,d,g⟩;have:rW rk _ _=false:=TK hc;rw[this];exact b
def Lh (rk:Nat->Int)(p:Array Nat)(m q:Nat):Prop:=q+1<=m/\∀k,m - (q+1)<=k->k<m->cB rk p k=cB rk p (m - 1)
def zS {p:Array Nat}{m q:Nat}(hs:m<=p.size)(hf:Lh rk p m q)(k:Nat):cB rk (kas_rev p (m - (q+1)) m) k=cB rk p k:=by
 rw[ya hs];split
 .rename_i hk;rw[hf.2 k hk.1 hk.2,hf.2 _ N9 N9]
 .rfl
def Dy {p G:Array Nat}{m:Nat}(e:∀k,cB rk G k=cB rk p k)(h:yc rk p m):yc rk G m:=λi j h1 h2=>by rw[e,e];exact h i j h1 h2
def rX (p:Array Nat){m:Nat}(h:1<=m):Lh rk p m 0:=⟨h,λk h1 h2=>by
 grind⟩
theorem nH {r:Nat}(s:r<=n):∀(f:Nat)(p:Array Nat)(m q:Nat),oG n p->r - m=f->1<=m->m<=r->yc rk p m->Lh rk p m q->∃G M U,Run n (rW rk) (kas_desc f p m q) (G,M,U)/\oG n G/\m<=M/\M<=r/\yc rk G M/\Lh rk G M U
 |0,p,m,q,h,hf,h1,hm,hd,hq=>⟨p,m,q,.ret _,h,vT _,hm,hd,hq⟩
 |f+1,p,m,q,h,hf,h1,hm,hd,hq=>by
  have a:=h.lt (k:=m) N9;have b:=h.lt (k:=m - 1) N9;have step:∀G:Array Nat,(∀k,cB rk G k=cB rk p k)->cB rk p m<=cB rk p (m - 1)->yc rk G (m+1):=λG e x i j t hj=>by
   rw[e,e];by_cases z:j=m
   .subst z;by_cases w:i=j
    .subst w;exact Int.le_refl _
    .have:=hd i (j - 1) N9 N9;lia
   .exact hd i j t N9
  by_cases hc:cB rk p m<cB rk p (m - 1)
  .have O:rW rk (p.getD m 0) (p.getD (m - 1) 0)=true:=pP hc;by_cases c:q > 0
   .have e:=zS (p:=p) (by rw[h.size];lia) hq;obtain⟨G,M,U,g1,d,u,g,l,o⟩:=nH s f (kas_rev p (m - (q+1)) m) (m+1) 0 (h.rev _ _) N9 N9 N9 (step _ e N9) (rX _ N9);refine⟨G,M,U,.ask a b ?_,d,N9,g,l,o⟩;rw[O,if_pos rr,if_pos c];exact g1
   .obtain⟨G,M,U,g1,d,u,g,l,o⟩:=nH s f p (m+1) 0 h N9 N9 N9 (step _ (λ_=>rr) N9) (rX _ N9);refine⟨G,M,U,.ask a b ?_,d,N9,g,l,o⟩;rw[O,if_pos rr,if_neg c];exact g1
  .have O:rW rk (p.getD m 0) (p.getD (m - 1) 0)=false:=TK hc;by_cases v:cB rk p (m - 1)<cB rk p m
   .have T:rW rk (p.getD (m - 1) 0) (p.getD m 0)=true:=pP v;refine⟨p,m,q,.ask a b ?_,h,vT _,hm,hd,hq⟩;rw[O,if_neg uW];refine .ask b a ?_;rw[T,if_pos rr];exact .ret _
   .have T:rW rk (p.getD (m - 1) 0) (p.getD m 0)=false:=TK v;have he:cB rk p m=cB rk p (m - 1):=N9
    obtain⟨G,M,U,g1,d,u,g,l,o⟩:=nH s f p (m+1) (q+1) h N9 N9 N9 (step _ (λ_=>rr) N9) ⟨by have:=hq.1;lia,λk k1 k2=>by
     rw[Nat.add_sub_cancel];by_cases z:k=m
     .rw[z]
     .rw[hq.2 k N9 N9,he]⟩
    refine⟨G,M,U,.ask a b ?_,d,N9,g,l,o⟩;rw[O,if_neg uW];refine .ask b a ?_;rw[T,if_neg uW];exact g1
def zU {r:Nat}(O:r<=n){p:Array Nat}(h:oG n p){m:Nat}(h1:1<=m)(hm:m<=r)(hd:yc rk p m):∃G M,Run n (rW rk) (kas_tail3 m r p) (G,M)/\oG n M/\1<=G/\G<=r/\Up rk M G:=by
 have hu:Up rk (kas_rev p 0 m) m:=λi j T hj=>by
  rw[ya (by rw[h.size];lia),ya (by rw[h.size];lia),if_pos N9,if_pos N9];exact hd _ _ N9 N9
 obtain⟨G,U,c,a,b,_⟩:=ye (h.rev 0 m) O _ m rr h1 hm hu;exact⟨G,_,U.bind (.ret _),h.rev 0 m,N9,a,b⟩
def zV {r:Nat}(O:r<=n){p:Array Nat}(h:oG n p){m:Nat}(hm:m+1<=r)(hd:yc rk p (m+1)):∃G M,Run n (rW rk) (kas_descPart m r p) (G,M)/\oG n M/\1<=G/\G<=r/\Up rk M G:=by
 obtain⟨d,m1,b,g1,T,e,U,a,c⟩:=nH O _ p _ 0 h rr N9 hm hd (rX _ N9);by_cases hq:b > 0
 .obtain⟨G,M,k1,k2,k3,k4,k5⟩:=zU O (T.rev _ m1)  N9 U (Dy (zS (by rw[T.size];lia) c) a);exact⟨G,M,g1.bind (by simp_all),k2,k3,k4,k5⟩
 .obtain⟨G,M,k1,k2,k3,k4,k5⟩:=zU O T  N9 U a;exact⟨G,M,g1.bind (by simp_all),k2,k3,k4,k5⟩
def Fg {p:Array Nat}(h:oG n p)(hn:1<=n):∃G O,Run n (rW rk) (kas_count n p) (G,O)/\oG n O/\1<=G/\G<=n/\Up rk O G:=by
 obtain⟨m,U,c,d,a,g⟩:=ye h (vT n) (n - 1) 1 rr (vT 1) hn (OU (rk:=rk) p);by_cases e:m=n
 .exact⟨m,p,U.bind (by rw[if_pos (by simp[e])];exact .ret _),h,c,d,a⟩
 .have o:=g N9;have f:¬(m == n)=true:=by simp[e]
  by_cases T:m > 1
  .by_cases hc:cB rk p 0<cB rk p (m - 1)
   .refine⟨m,p,U.bind ?_,h,c,d,a⟩;rw[if_neg f,if_pos T];refine .ask (h.lt N9) (h.lt N9) ?_;have:rW rk (p.getD 0 0) _=true:=pP hc;rw[this,if_pos rr];exact .ret _
   .have M:∀k,k<m->cB rk p k=cB rk p 0:=λk hk=>by
     have q:=a 0 k N9 hk;have r:=a k (m - 1) N9 N9;simp_all<;>lia
    have er:∀k,cB rk (kas_rev p 0 m) k=cB rk p k:=λk=>by
     rw[ya (by rw[h.size];lia)];split
     .rename_i z;rw[M _ N9,M k z.2]
     .rfl
    have hd:yc rk p (m+1):=λi j b hj=>by
     grind
    obtain⟨G,O,k1,k2,k3,k4,k5⟩:=zV (vT n) (h.rev 0 m) (m:=m) N9 (Dy er hd);refine⟨G,O,U.bind ?_,k2,k3,k4,k5⟩;rw[if_neg f,if_pos T];refine .ask (h.lt N9) (h.lt N9) ?_;have:rW rk (p.getD 0 0) _=false:=TK hc;rw[this];exact k1
  .have l:m=1:=N9
   subst l;have hd:yc rk p 2:=λi j b hj=>by
    grind
   obtain⟨G,O,k1,k2,k3,k4,k5⟩:=zV (vT n) h (m:=1) N9 hd;refine⟨G,O,U.bind ?_,k2,k3,k4,k5⟩;simp_all
theorem pe {p:Array Nat}(h:oG n p){k:Nat}(hk:k<n)(hu:Up rk p k):∀(f l r:Nat),r - l<=f->l<=r->r<=k->(∀i,i<l->cB rk p i<=cB rk p k)->(∀i,r<=i->i<k->cB rk p k<cB rk p i) ->
  ∃G,Run n (rW rk) (kas_place p k f l r) G/\G<=k/\(∀i,i<G->cB rk p i<=cB rk p k)/\(∀i,G<=i->i<k->cB rk p k<cB rk p i)
 |0,l,r,hf,hl,d,h1,h2=>⟨l,.ret l,N9,h1,λi a b=>h2 i N9 b⟩
 |f+1,l,r,hf,hl,d,h1,h2=>by
  by_cases M:l ≥ r
  .refine⟨l,?_,N9,h1,λi a b=>h2 i N9 b⟩;unfold kas_place;rw[if_pos M];exact .ret l
  .by_cases hc:cB rk p k<cB rk p ((l+r) / 2)
   .obtain⟨G,O,T,U,c⟩:=pe h hk hu f l ((l+r) / 2) N9 N9 N9 h1 λi a b=>by
     have:=hu _ i a b;lia
    refine⟨G,?_,T,U,c⟩;unfold kas_place;rw[if_neg M];refine .ask (h.lt N9) (h.lt N9) ?_;have:rW rk _ _=true:=pP hc;rw[this];exact O
   .obtain⟨G,O,T,U,c⟩:=pe h hk hu f ((l+r) / 2+1) r N9 N9 d (λi a=>by
     have:=hu i ((l+r) / 2) N9 N9;lia) h2
    refine⟨G,?_,T,U,c⟩;unfold kas_place;rw[if_neg M];refine .ask (h.lt N9) (h.lt N9) ?_;have:rW rk _ _=false:=TK hc;rw[this];exact O
theorem Dz:∀(f:Nat)(p:Array Nat)(k:Nat),oG n p->n - k=f->k<=n->Up rk p k->∃G,Run n (rW rk) (kas_bin f p k) G/\oG n G/\Up rk G n
 |0,p,k,h,hf,hk,hu=>⟨p,.ret p,h,(show k=n by lia) ▸ hu⟩
 |f+1,p,k,h,hf,hk,hu=>by
  have M:k<n:=N9
  obtain⟨l,c,m,d,o⟩:=pe h M hu k 0 k N9 N9 (vT _) (λi z=>by lia) (λi a b=>by lia);have hsz:k<p.size:=by rw[h.size];exact M
  have O:Up rk (bubble p k (k - l)) (k+1):=λi j T hj=>by
   rw[Hv hsz N9,Hv hsz N9];have e:k - (k - l)=l:=N9
   rw[e];by_cases i1:i=l
   .grind
   .rw[if_neg i1];by_cases i2:l<i/\i<=k
    .rw[if_pos i2,if_neg N9,if_pos N9];exact hu _ _ N9 N9
    .rw[if_neg i2];by_cases U:j=l
     .rw[if_pos U];exact d i N9
     .rw[if_neg U];by_cases g:l<j/\j<=k
      .grind
      .rw[if_neg g];exact hu _ _ T N9
  obtain⟨G,k1,k2,k3⟩:=Dz f _ (k+1) (h.bub _ _) N9 N9 O;exact⟨G,c.bind k1,k2,k3⟩
def zW (hn:1<=n):∃p,Run n (rW rk) (kas_sort n) p/\oG n p/\Up rk p n:=by
 have h0:oG n (List.toArray (List.range n)):=⟨X9,X9⟩;obtain⟨m,p,M,O,a,b,T⟩:=Fg  h0 hn;by_cases e:m<n
 .have G:max m 1=m:=N9
  obtain⟨U,k1,k2,k3⟩:=Dz _ p (max m 1) O rr N9 (by rw[G];exact T);exact⟨U,M.bind (by simp_all),k2,k3⟩
 .have:m=n:=N9
  subst this;exact⟨p,M.bind (by rw[if_neg e];exact .ret _),O,T⟩
end
def Fh {a b c:LI}(h:a<b)(k:b<c):a<c:=lt_trans h k
def Fi {a b c:LI}(h:¬b<a)(k:¬c<b):¬c<a:=by grind
def Hw {a b:LI}(h:¬b<a)(k:¬a<b):a=b:=by grind
section
variable {α:Type}(f:α->LI)
def Hx (a b:α):Prop:=¬f b<f a
noncomputable def pf (x:α):List α->List α
 |[]=>[x]
 |y::r=>if f y<f x then y::pf x r else x::y::r
noncomputable def eO (l:List α):List α:=l.foldr (pf f) []
theorem ph (x:α):∀l,(pf f x l).Perm (x::l)
 |[]=>List.Perm.refl _
 |y::r=>by
  unfold pf;split
  .exact((ph x r).cons y).trans (List.Perm.swap x y r)
  rfl
theorem aW:∀l,(eO f l).Perm l
 |[]=>List.Perm.refl _
 |x::l=>(ph f x _).trans ((aW l).cons x)
theorem wt (x:α):∀l,l.Pairwise (Hx f)->(pf f x l).Pairwise (Hx f)
 |[],_=>by simp[pf]
 |y::r,h=>by
  obtain⟨h1,h2⟩:=pairwise_cons.mp h;unfold pf;split
  .rename_i hl;refine pairwise_cons.mpr ⟨λz hz=>?_,wt x r h2⟩;rcases vP ((ph f x r).mem_iff.mp hz)with rfl|hz
   .exact λk=>lt_irrefl _ (Fh hl k)
   .exact h1 z hz
  .rename_i hl;refine pairwise_cons.mpr ⟨λz hz=>?_,h⟩;rcases vP hz with rfl|hz
   .exact hl
   .exact Fi hl (h1 z hz)
theorem eP:∀l,(eO f l).Pairwise (Hx f)
 |[]=>List.Pairwise.nil
 |x::l=>wt f x _ (eP l)
theorem pi:∀(l1 l2:List α),(∀x∈l1,∀y∈l1,f x=f y->x=y)->l1.Perm l2->l1.Pairwise (Hx f)->l2.Pairwise (Hx f)->l1=l2
 |[],l2,_,p,_,_=>(nil_perm.mp p).symm
 |x::O,[],_,p,_,_=>absurd p.length_eq X9
 |x::O,y::T,hi,p,h1,h2=>by
  have hy :=p.mem_iff.mpr (mX ..);have G:Hx f x y:=by
   rcases vP hy with z|z
   .rw[z];exact lt_irrefl _
   simp_all
  have M:Hx f y x:=by
   rcases vP (p.mem_iff.mp (mX ..))with z|z
   .rw[z];exact lt_irrefl _
   simp_all
  have e :=hi x (mX ..) y hy (Hw G M);subst e;rw[pi O T (λa ha b hb=>hi a (mZ _ ha) b (mZ _ hb)) (List.Perm.cons_inv p) (pairwise_cons.mp h1).2 (pairwise_cons.mp h2).2]
theorem jG (hi:∀x∈l,∀y∈l,f x=f y->x=y)(p:G.Perm l)(h:G.Pairwise (Hx f)):G=eO f l :=
 pi f _ _ (λx hx y hy=>hi x (p.mem_iff.mp hx) y (p.mem_iff.mp hy)) (p.trans (aW f l).symm) h (eP f l)
end
theorem mI {α:Type}{p q:α->Bool}(h:∀x,p x=true->q x=true):∀l:List α,(l.filter p).length<=(l.filter q).length
 |[]=>vT _
 |x::l=>by
  have G:=mI h l;grind
noncomputable def rY (cs:List LI)(c:LI):Int:=((cs.filter λx=>decide (x<c)).length:Nat)
def Li {cs:List LI}{a b:LI}(h:¬b<a):rY cs a<=rY cs b:=by
 refine Int.ofNat_le.mpr (mI (λx hx=>?_) cs);grind
def yf {cs:List LI}{a b:LI}(ha:a∈cs)(h:a<b):rY cs a<rY cs b:=by
 apply Int.ofNat_lt.mpr;induction cs with
 |nil=>simp at ha
 |cons c cs M=>
  have G:∀l:List _,(l.filter λx=>decide (x<a)).length<=(l.filter λx=>decide (x<b)).length:=λl=>
   mI (λx hx=>by grind) l
  grind
def zX (ha:a∈cs):decide (rY cs a<rY cs b)=decide (a<b):=by
 by_cases h:a<b
 .simp_all[yf]
 simp_all[TK,Li]
inductive At where
 |i (n:Int)
 |s (z:Str)
noncomputable def OV:At->LI
 |.i n=>[n]
 |.s z=>z.cps.toList.map (λ(c:Nat)=>(c:Int)+1)++[0]
noncomputable def cK (xs:List At):LI:=xs.flatMap OV
noncomputable def b8:List At->List At->Option Bool
 |[],ys=>some (!ys.isEmpty)
 |_::_,[]=>some false
 |.i a::xs,.i b::ys=>if a=b then b8 xs ys else some (decide (a<b))
 |.s a::xs,.s b::ys=>if a=b then b8 xs ys else some (decide (a.cps.toList<b.cps.toList))
 |_::_,_::_=>none
theorem yg:∀(a b:LN)(r G:LI),(a.map (λ(c:Nat)=>(c:Int)+1)++0::r)<(b.map (λ(c:Nat)=>(c:Int)+1)++0::G)↔a<b\/(a=b/\r<G)
 |[],[],r,G=>by simp
 |[],y::b,r,G=>by simp[cons_lt_cons_iff]
 |x::a,[],r,G=>by simp[cons_lt_cons_iff];lia
 |x::a,y::b,r,G=>by
  rw[uX,uX,cons_append,cons_append,cons_lt_cons_iff,yg a b r G,cons_lt_cons_iff];grind
def pj (x:At)(xs:List At):cK (x::xs)=OV x++cK xs:=S9
def OW (x:At):OV x≠[]:=by cases x<;>simp[OV]
theorem D0 {a b:Str}:a.cps.toList=b.cps.toList↔a=b:=by
 constructor
 .obtain⟨a⟩:=a;simp_all
 .rintro rfl;rfl
theorem qS:∀(xs ys:List At)(b:Bool),b8 xs ys=some b->b=decide (cK xs<cK ys)
 |[],[],b,h=>by simp_all[b8]
 |[],y::ys,b,h=>by
  simp[b8]at h;subst h;rw[pj];cases e:OV y with
  |nil=>exact absurd e (OW y)
  |cons c cs=>simp[cK]
 |x::xs,[],b,h=>by simp_all[b8,cK]
 |.i a::xs,.i c::ys,b,h=>by
  rw[b8]at h;show b=decide (a::cK xs<c::cK ys);split at h
  .rename_i e;subst e;rw[qS xs ys b h];simp
  .simp_all[cons_lt_cons_iff]
 |.s a::xs,.s c::ys,b,h=>by
  rw[b8]at h;rw[pj,pj];have G:∀(z:Str)(r:List _),OV (.s z)++r=z.cps.toList.map (λ(c:Nat)=>(c:Int)+1)++0::r:=λz r=>by simp[OV]
  rw[G,G];split at h
  .rename_i e;rw[qS xs ys b h];grind[yg]
  grind[yg,D0]
 |.i _::_,.s _::_,b,h=>by simp[b8]at h
 |.s _::_,.i _::_,b,h=>by simp[b8]at h
theorem BS:∀(xs ys:List At),b8 xs ys=some false->b8 ys xs=some false->xs=ys
 |[],[],_,_=>rr
 |[],y::ys,h,_=>by simp[b8]at h
 |x::xs,[],_,h=>by simp[b8]at h
 |.i a::xs,.i c::ys,h,k=>by
  rw[b8]at h k;by_cases e:a=c
  .subst e;rw[if_pos rr]at h k;rw[BS xs ys h k]
  lia
 |.s a::xs,.s c::ys,h,k=>by
  rw[b8]at h k;by_cases e:a=c
  .subst e;rw[if_pos rr]at h k;rw[BS xs ys h k]
  .rw[if_neg e]at h;rw[if_neg (Ne.symm e)]at k;simp only[Option.some.injEq,decide_eq_false_iff_not]at h k;exact absurd (D0.mp (List.le_antisymm (not_lt.mp k) (not_lt.mp h))) e
 |.i _::_,.s _::_,h,_=>by simp[b8]at h
 |.s _::_,.i _::_,h,_=>by simp[b8]at h
noncomputable def dJ (ks:List (List At)):Bool:=ks.all λx=>ks.all λy=>(b8 x y).isSome
theorem iC (h:dJ ks=true)(hx:x∈ks)(hy:y∈ks):b8 x y=some (decide (cK x<cK y)):=by
 have:=all_eq_true.mp (all_eq_true.mp h x hx) y hy;obtain⟨b,e⟩:=uT this;rw[e,qS _ _ _ e]
theorem lQ (h:dJ ks=true)(hx:x∈ks)(hy:y∈ks)(e:cK x=cK y):x=y:=by
 refine BS _ _ ?_ ?_
 .grind[iC]
 grind[iC]
def Bo:At->Value->Prop
 |.i n,v=>∃t,v=.int n t
 |.s z,v=>∃t,v=.str z t
def ge (h:Heap)(xs:List At)(v:Value):Prop:=∃a o its n,v=.ref a/\h.get? a=some o/\o.cls=.type "tuple"/\o.data=.seq its n/\Paired Bo xs its.toList
def ge.keep (x:ge h xs v)(k:∀a o,o.cls=.type "tuple"->h.get? a=some o->h'.get? a=some o):ge h' xs v:=by
 obtain⟨a,o,its,n,e,ho,hc,r⟩:=x;exact⟨a,o,its,n,e,k a o hc ho,hc,r⟩
noncomputable def dW (ks:List (List At)):Bool:=ks.all (λx=>match x with|.i _::_=>true|_=>false) || ks.all (λx=>match x with|.s _::_=>true|_=>false)
section
variable {prog:Program}{w:World}{A:Around}{E:QV}{s:Shared}
def Hy (xs ys:List At)(its G:LU)(i:Nat)(O:Paired Bo xs its)(T:Paired Bo ys G)(h:b8 xs ys=some b)(hf:ii=decide (xs.length<ys.length))(q:Q b s):KatLex prog w A true ii Q (its.zip G) i s:=by
 induction O generalizing ys G i with
 |nil=>
  refine kat_nil ?_;cases ys with
  |nil=>simp_all[b8]
  |cons y ys=>simp_all[b8]
 |@cons x v xs its O d U=>
  cases T with
  |nil=>
   simp_all[kat_nil,b8]
  |@cons y u ys G T M=>
   cases x with
   |i a=>
    cases y with
    |s _=>simp[b8]at h
    |i c=>
     obtain⟨t,rfl⟩:=O;obtain⟨u,rfl⟩:=T;refine kat_cons (wpAny_eqBool_int ?_);rw[b8]at h;by_cases e:a=c
     .rw[if_pos e]at h;rw[show(a == c)=true by simp[e]];exact kat_yes (U ys G (i+1) M h (by rw[hf];simp))
     .rw[if_neg e]at h;cases h
      rw[show(a == c)=false by simp[e]];refine kat_no ?_;cases hb:(true && i == 0) with
      |true=>exact oneLt_int q
      |false=>exact kat_one _ _ (PyProof.Rows.lt_int q)
   |s a=>
    cases y with
    |i _=>simp[b8]at h
    |s c=>
     obtain⟨t,rfl⟩:=O;obtain⟨u,rfl⟩:=T;refine kat_cons (wpAny_eqBool_str ?_);rw[b8]at h;by_cases e:a=c
     .rw[if_pos e]at h;rw[pP e];exact kat_yes (U ys G (i+1) M h (by rw[hf];simp))
     .rw[if_neg e]at h;cases h
      rw[TK e];refine kat_no ?_;cases hb:(true && i == 0) with
      |true=>exact oneLt_str q
      |false=>exact kat_one _ _ (PySem.P.lt_str q)
theorem fR {α O:Type}{F:α->O->Prop}:∀ {G:List α}{M:List O},Paired F G M->G.length=M.length
 |_,_,.nil=>rr
 |_,_,.cons _ t=>by simp[fR t]
def OX {Q:Bool->Shared->Prop}{xs ys:List At}{x y:Value}{b:Bool}(hx:ge s.heap xs x)(hy:ge s.heap ys y)(h:b8 xs ys=some b)(q:Q b s):wpAny (model prog w) A (keyLt' (tuples' true) x y) Q E s:=by
 obtain⟨a,o,its,n,rfl,ho,_,hd,r⟩:=hx;obtain⟨T,o',its',U,rfl,G,_,M,O⟩:=hy;refine kat_lt ho hd G M (Hy xs ys _ _ 0 r O h ?_ q);rw[<-vG,<-vG,fR r,fR O]
theorem pY:∀ {ks:List (List At)}{vs:LU},Paired (ge h) ks vs->(∀k∈ks,k≠[])->∃fs,KatTups h vs fs/\fs.length=ks.length/\∀v∈fs,∃k r,(k::r)∈ks/\Bo k v
 |_,_,.nil,_=>⟨[],trivial,rr,X9⟩
 |k::ks,_,.cons x t,G=>by
  obtain⟨fs,h1,h2,h3⟩:=pY t λz hz=>G z (mZ _ hz);obtain⟨a,o,its,n,rfl,ho,hc,hd,r⟩:=x;cases M:its.toList with
  |nil=>
   rw[M]at r;cases r
   simp_all
  |cons v vs=>
   rw[M]at r;obtain⟨p,O⟩:∃p,its[0]? = some v:=⟨(),by rw[<-Array.getElem?_toList,M];rfl⟩;cases r with
   |cons q T=>
    refine⟨v::fs,KatTups.cons ho hc hd O h1,by simp[h2],λu hu=>?_⟩;grind
def zY (hp:Paired (ge s.heap) ks vs)(hf:dW ks=true)(hn:0<ks.length)(q:Q (tuples' true) s):wpAny (model prog w) A (keyKind' vs.toArray) Q E s:=by
 have G:∀k∈ks,k≠[]:=λk hk z=>by
  subst z;unfold dW at hf;rw[Bool.or_eq_true]at hf;rcases hf with hf|hf
  .have:=all_eq_true.mp hf [] hk;simp at this
  .have:=all_eq_true.mp hf [] hk;simp at this
 obtain⟨fs,h1,h2,h3⟩:=pY hp G;unfold dW at hf;rw[Bool.or_eq_true]at hf;rcases hf with hf|hf
 .refine kat_kind (T:=.type "int") h1 N9 (λv M=>?_) Z9 q;obtain⟨k,r,m,z⟩:=h3 v M;have:=all_eq_true.mp hf _ m;cases k with
  |i n=>obtain⟨t,rfl⟩:=z;exact .now
  |s O=>simp at this
 .refine kat_kind (T:=.type "str") h1 N9 (λv M=>?_) Z9 q;obtain⟨k,r,m,z⟩:=h3 v M;have:=all_eq_true.mp hf _ m;cases k with
  |s O=>obtain⟨t,rfl⟩:=z;exact .now
  |i n=>simp at this
end
section
variable {prog:Program}{w:World}{A:Around}{E:QV}{s:Shared}
theorem fT {α O:Type}{F:α->O->Prop}(d:α)(e:O):∀ {G:List α}{M:List O},Paired F G M->∀ {i:Nat},i<G.length->F (G.getD i d) (M.getD i e)
 |_,_,.cons r t,0,_=>r
 |_,_,.cons r t,i+1,h=>by
  exact fT d e t (by simpa using h)
 |_,_,.nil,i,h=>by simp at h
def Bp (ks:List (List At))(i:Nat):Int:=rY (ks.map cK) (cK (ks.getD i []))
def D1 {ks:List (List At)}{vs:LU}(hc:dJ ks=true)(hp:Paired (ge s.heap) ks vs):∀(i j:Nat)(C:Bool->Shared->Prop)(s1:Shared),i<ks.length->j<ks.length->s1=s->(∀s',s'=s->C (rW (Bp ks) i j) s')->kas_ask prog w A (tuples' true) vs i j C s1:=by
 intro i j C s1 hi hj e M;subst e;have G:ks.getD i []∈ks:=by simp_all
 have O:ks.getD j []∈ks:=by simp_all
 refine OX (fT [] _ hp hi) (fT [] _ hp hj) (iC hc G O) ?_;have:=M s1 rr;unfold rW Bp at this;rw[zX (uR ⟨_,G,rr⟩)]at this;exact this
def Fj (ho:s.heap.get? a=some (seqObj "list" vs.toArray n))(hk:Paired (ge s.heap) ks vs)(hc:dJ ks=true)(hf:dW ks=true)(y:vs.length<64)
  (h:∀p:Array Nat,oG vs.length p->Up (Bp ks) p vs.length->P (.done (.ret .none)) { s with heap:=sortedHeap s.heap a vs (List.toArray (p.toList.map λi=>vs.getD i Value.none)) }):
  wpAny (model prog w) A (Builtin.«list.sort» ⟨[.ref a],[]⟩) P E s:=by
 have ha:=vX ho;have V:ks.length=vs.length:=fR hk;obtain⟨c,d⟩:∃c,(s.heap.update a (Obj.mapSeq λ_=>#[])).get? a=some (seqObj "list" #[] c):=⟨_,get?_update_seq ho (λ_=>#[])⟩;let T:Heap:=((s.heap.update a (Obj.mapSeq λ_=>#[])).push (seqObj "tuple" vs.toArray 0)).push (seqObj "list" #[] 0);have B:∀b u,b≠a->s.heap.get? b=some u->T.get? b=some u:=λb u hb q=>
  vZ _ (vZ _ ((Heap.get?_update_ne _ _ _ _ hb).trans q))
 have f:T.get? a=some (seqObj "list" #[] c):=vZ _ (vZ _ d);have g:Paired (ge T) ks vs:=L2.Paired.mapP hk λk v x=>x.keep λb u W q=>B b u (λz=>by
  lia) q
 rw[list_sort_plain];refine wX (listItems_at ho rr (wX (listUpdate_at ho rr (wX (seqEpoch_at d rr (wX (wpAny_newTuple (wX (wpAny_newList (wpAny_holding ?_))) (by show vs.length<=sizeLine;rw[sizeLine_eq];lia))))))));dsimp only;have U:∀(st:SortSt)(p:Array Nat),arrOf st=p.map (kas_item (vs.toArray.zip vs.toArray))->failedOf st=none->oG vs.length p->Up (Bp ks) p vs.length ->
   wpAny (model prog w) A (do
    let M:=(<-seqEpoch a) != c
    Builtin.List.listUpdate (.ref a) λ_=>(arrOf st).map (·.2)
    if let some e:=failedOf st then rule "list.sort.comparison-raised";throw e
    if M then rule "list.sort.modified";raiseError "ValueError" "list modified during sort"
    ret .none) P E { s with heap:=T }:=λst p D F l H=>by
  have m :=kat_snds rr D;refine wX (seqEpoch_at f rr ?_);refine wX (listUpdate_at f rr ?_ (hsz2:=by rw[m];simp only[vH,vI,vG,l.size,sizeLine_eq];lia));rw[F];simp only[bne_self_eq_false,uU,if_false];rw[m];exact wY (h p l H)
 by_cases h2:vs.toArray.size<2
 .rw[if_pos h2,if_pos h2];refine wX (wY ?_);rw[StateT.run_pure];refine wX (wY ?_);have X:vs.length<2:=by simpa using h2
  refine U _ (List.toArray (List.range vs.length)) ?_ rr ⟨X9,X9⟩ ?_
  .show vs.toArray.zip vs.toArray=_;have:=kas_range (vs.toArray.zip vs.toArray);rw[show(vs.toArray.zip vs.toArray).size=vs.length by simp]at this;exact this.symm
  .intro i j I hj;have:i=j:=N9
   subst this;exact Int.le_refl _
 .rw[if_neg h2,if_neg h2];have J:2<=vs.length:=by simp at h2;lia
  refine wX (zY (s:={ s with heap:=T }) g hf N9 ?_);obtain⟨p,K,L,N⟩:=zW (n:=vs.length) (rk:=Bp ks) N9;refine wX (wpAny_mono (kat_run (E:=E) (ks:=vs) (vs:=vs) (κ:=tuples' true) (s:={ s with heap:=T }) (Q:=λO s'=>s'={ s with heap:=T }/\arrOf O=p.map (kas_item (vs.toArray.zip vs.toArray))/\failedOf O=none)
   (G:=λo s'=>o=p/\s'={ s with heap:=T }) rr J y (λo O s' _ e2 t Y=>by
    simp_all) (Run.wp (λs'=>s'={ s with heap:=T }) (λi j C s1 hi hj e R=>D1 (s:={ s with heap:=T }) hc g i j C s1 N9 N9 e R) K rr λs' e=>⟨rr,e⟩)) (λr s' S=>?_) λ_ _ z=>z)
  obtain⟨⟨⟩,O⟩:=r;obtain⟨rfl,e2,t⟩:=S;exact U O p e2 t L N
def zZ (hl:s.heap.IsList l vs.toArray)(hk:Paired (ge s.heap) ks vs)(hc:dJ ks=true)(hf:dW ks=true)(M:vs.length<64)
  (h:∀p:Array Nat,oG vs.length p->Up (Bp ks) p vs.length->Q (.ref (s.heap.objs.size+1)) { s with heap:=sortedAll s.heap vs (List.toArray (p.toList.map λi=>vs.getD i Value.none)) }):
  wpAny (model prog w) A (call (.builtin "sorted") [.ref l]) Q E s:=by
 let h1 :=(s.heap.push (seqObj "list" #[] 0)).update s.heap.objs.size (Obj.mapSeq (· ++ vs.toArray));have hsz:h1.objs.size=s.heap.objs.size+1:=by grind[Heap.size_update,size_push']
 let h2:Heap:=h1.push (seqObj "list" vs.toArray 0);have G:h2.get? (s.heap.objs.size+1)=some (seqObj "list" vs.toArray 0):=by rw[<-hsz];exact vY _ rr
 have O:Paired (ge h2) ks vs:=L2.Paired.mapP hk λk v x=>x.keep λb u _ q=>
  vZ _ ((Heap.get?_update_ne _ _ _ _ (vS (vX q))).trans (vZ _ q))
 refine Calls.call_function_entry kind_sorted plain_sorted entry_sorted (args_sorted1 _) ?_;refine wX  (wY (wX (collect_list hl (wX (wpAny_newList ?_)))));rw[show((s.heap.push _).update _ _).objs.size=s.heap.objs.size+1 from hsz];exact wX (wpAny_holding (wpAny_call_entry slot_list_sort ⟨_,G,rr⟩ entry_list_sort (Fj G O hc hf M λp T U=>⟨_,rr,wY ⟨_,rr,h p T U⟩⟩) (args_list_sort _)))
end
end DL
namespace DL
open PySem PySem.Spec PySem.W PyProof.Rows L2
noncomputable def wu:D->Option At
 |.int n=>some (.i n)
 |.str z=>some (.s z)
 |_=>none
def jX:LD->Option (List At)
 |[]=>some []
 |d::ds=>(wu d).bind λa=>(jX ds).map (a :: ·)
def pq:D->Option (List At)
 |.tup es=>jX es
 |_=>none
def fJ:LD->Option (List (List At))
 |[]=>some []
 |d::ds=>(pq d).bind λa=>(fJ ds).map (a :: ·)
def Hz (d:D):LI:=cK ((pq d).getD [])
noncomputable def kF:LD->Option LI
 |[]=>some []
 |.int n::ds=>(kF ds).map (n :: ·)
 |_::_=>none
def pZ (ns:LI):LI:=eO (λn=>[n]) ns
def gn:LD->OB
 |[.lst ds]=>match gX ds with
  |some ss=>if ss.length<64 then some (.lst ((mu ss).map .str),true)else none
  |none=>match kF ds with
   |some ns=>if ns.length<64 then some (.lst ((pZ ns).map .int),true)else none
   |none=>match fJ ds with
    |some ks=>if ks.length<64/\dJ ks=true/\dW ks=true then some (.lst (eO Hz ds),true)else none
    |none=>none
 |_=>none
def Fk (h:wu d=some a)(k:wu e=some a):d=e:=by
 cases d<;>simp  [wu]at h<;>cases h<;>cases e<;>simp  [wu]at k<;>cases k<;>rfl
theorem rZ:∀ {ds es:LD}{G:List At},jX ds=some G->jX es=some G->ds=es
 |[],[],_,_,_=>rr
 |[],e::es,G,h,k=>by
  cases h
  obtain⟨a,_,k⟩:=oX k;simp_all
 |d::ds,[],G,h,k=>by
  cases k
  obtain⟨a,_,h⟩:=oX h;simp_all
 |d::ds,e::es,G,h,k=>by
  obtain⟨a,h1,h⟩:=oX h;obtain⟨r,h2,h⟩:=oY h;obtain⟨T,k1,k⟩:=oX k;obtain⟨U,k2,k⟩:=oY k;subst h;injection k with M O;subst M;subst O;rw[Fk h1 k1,rZ h2 k2]
theorem HA (h:pq d=some k)(h':pq e=some k):d=e:=by
 cases d<;>simp  [pq]at h<;>try (cases h)
 cases e<;>simp  [pq]at h'<;>try (cases h')
 rw[rZ h h']
theorem iD:∀ {ds:LD}{ks:List (List At)},fJ ds=some ks->ks.length=ds.length
 |[],_,h=>by simp_all[fJ]
 |d::ds,_,h=>by
  obtain⟨a,h1,h⟩:=oX h;obtain⟨r,h2,h⟩:=oY h;subst h;simp[iD h2]
theorem jH:∀ {ds:LD}{ks:List (List At)},fJ ds=some ks->∀ {i:Nat},i<ds.length->pq (ds.getD i .non)=some (ks.getD i [])
 |[],_,h,i,hi=>by simp at hi
 |d::ds,_,h,0,hi=>by
  obtain⟨a,h1,h⟩:=oX h;obtain⟨r,h2,h⟩:=oY h;subst h;exact h1
 |d::ds,_,h,i+1,hi=>by
  obtain⟨a,h1,h⟩:=oX h;obtain⟨r,h2,h⟩:=oY h;subst h;exact jH h2 (by simpa using hi)
def sd {α:Type}(l:List α)(d:α):(List.range l.length).map (λi=>l.getD i d)=l:=by
 apply ext_getElem?;intro i;by_cases h:i<l.length
 .simp[h]
 .simp[h]
def BU (hk:fJ ds=some ks)(hc:dJ ks=true)(M:oG ds.length p)(U:Up (Bp ks) p ds.length):p.toList.map (λi=>ds.getD i .non)=eO Hz ds:=by
 have mem:∀x∈ds,∃k∈ks,pq x=some k:=λx hx=>by
  obtain⟨i,hi,rfl⟩:=List.mem_iff_getElem.mp hx;have:=jH hk hi;rw[vF,vU hi]at this;refine⟨_,?_,this⟩;have G:i<ks.length:=by rw[iD hk];exact hi
  rw[vF,vU G];exact getElem_mem G
 apply jG Hz
 .grind[Hz,lQ,HA]
 .have:=M.perm.map (λi=>ds.getD i .non);rw[sd]at this;exact this
 .rw[List.pairwise_iff_getElem];intro i j hi hj O;have hsz:=M.size;have G:i<p.size:=by simpa using hi
  have f:j<p.size:=by simpa using hj
  have:=U i j (le_of_lt O) N9;unfold cB Bp at this;have a:p.getD i 0=p[i]:=by simp_all
  have b:p.getD j 0=p[j]:=by simp_all
  have c:=M.lt (k:=i) N9;have T:=M.lt (k:=j) N9;have d:ks.getD (p.getD j 0) []∈ks:=by
   have h':p.getD j 0<ks.length:=by rw[iD hk];exact T
   rw[vF,vU h'];exact getElem_mem h'
  have e:¬cK _<cK (ks.getD (p.getD i 0) []):=λz=>by
   have:=yf (cs:=ks.map cK) (uR ⟨_,d,rr⟩) z;lia
  simp only[List.getElem_map,Array.getElem_toList];unfold Hx Hz;rw[<-a,<-b,jH hk c,jH hk T];exact e
section
variable {X:Cx}
theorem Aa {K:Frag}{B:Hp}:∀ {vs:LV}{es:LD}{k:List At}{its:LU},bi vs its->IsL K B vs es->jX es=some k->Paired Bo k its
 |_,_,_,_,.nil,.nil,h=>by cases h;exact .nil
 |_,_,_,_,.cons r G,.cons i M,h=>by
  obtain⟨a,h1,h⟩:=oX h;obtain⟨t,h2,h⟩:=oY h;subst h;refine .cons ?_ (Aa G M h2);cases i<;>simp  [wu]at h1<;>cases h1
  .exact r
  .exact r
theorem nI {ak:AO}{σ:St}{H:Hp}{s:Shared}(I:Inv X ak σ H s):∀ {ys:LV}{ds:LD}{ks:List (List At)}{its:LU},bi ys its->IsL X.K H ys ds->fJ ds=some ks->Paired (ge s.heap) ks its
 |_,_,_,_,.nil,.nil,h=>by cases h;exact .nil
 |_,_,_,_,.cons r G,.cons i M,h=>by
  obtain⟨a,h1,h⟩:=oX h;obtain⟨t,h2,h⟩:=oY h;subst h;refine .cons ?_ (nI I G M h2);cases i<;>simp  [pq]at h1<;>try (cases h1)
  rename_i hq hl;cases r
  obtain⟨its',O,⟨o,ho,hc,n,hd⟩,_⟩:=I.tuple hq;exact⟨_,o,_,n,rr,ho,hc,hd,by simpa using Aa O hl h1⟩
theorem D2 {K:Frag}{B:Hp}:∀ {vs:LV}{ds:LD},IsL K B vs ds->∀ {i:Nat},i<ds.length->Is K B (vs.getD i .non) (ds.getD i .non)
 |_,_,.cons h _,0,_=>h
 |_,_,.cons _ t,i+1,hi=>by
  exact D2 t (by simpa using hi)
 |_,_,.nil,i,hi=>by simp at hi
theorem Ab:∀ {vs:LV}{us:LU},bi vs us->∀ {i:Nat},i<vs.length->aU (vs.getD i .non) (us.getD i Value.none)
 |_,_,.cons h _,0,_=>h
 |_,_,.cons _ t,i+1,hi=>by
  exact Ab t (by simpa using hi)
 |_,_,.nil,i,hi=>by simp at hi
theorem se {K:Frag}{B:Hp}{vs:LV}{ds:LD}(h:IsL K B vs ds):∀(l:LN),(∀i∈l,i<ds.length)->IsL K B (l.map λi=>vs.getD i .non) (l.map λi=>ds.getD i .non)
 |[],_=>.nil
 |i::l,hl=>.cons (D2 h (hl i (mX ..))) (se h l λj hj=>hl j (mZ _ hj))
theorem px (h:bi vs us):∀(l:LN),(∀i∈l,i<vs.length)->bi (l.map λi=>vs.getD i .non) (l.map λi=>us.getD i Value.none)
 |[],_=>.nil
 |i::l,hl=>.cons (Ab h (hl i (mX ..))) (px h l λj hj=>hl j (mZ _ hj))
end
section
variable {X:Cx}
theorem D3 {K:Frag}{B:Hp}:∀ {vs:LV}{ds:LD}{ns:LI}{its:LU},bi vs its->IsL K B vs ds->kF ds=some ns->IntsAre its ns
 |_,_,_,_,.nil,.nil,h=>by cases h;exact .nil
 |_,_,_,_,.cons r G,.cons i M,h=>by
  cases i<;>simp only[kF]at h<;>try (cases h)
  obtain⟨t,h2,h⟩:=oY h;subst h;obtain⟨u,rfl⟩:=r;exact .cons _ u (D3 G M h2)
theorem wv:∀ {its:LU}{zs:LS},StrsAre its zs->bi (zs.map V.str) its
 |_,_,.nil=>.nil
 |_,_,.cons x t r=>.cons ⟨t,rr⟩ (wv r)
theorem iB:∀ {its:LU}{zs:LI},IntsAre its zs->bi (zs.map V.int) its
 |_,_,.nil=>.nil
 |_,_,.cons x t r=>.cons ⟨t,rr⟩ (iB r)
theorem nJ {K:Frag}{N:Hp}:∀(zs:LI),IsL K N (zs.map V.int) (zs.map D.int)
 |[]=>.nil
 |z::zs=>.cons (.int z) (nJ zs)
def Ac (p:G.Perm l)(h:G.Pairwise (·<=·)):G=pZ l:=by
 refine jG _ (λx _ y _ e=>by injection e) p (h.imp λ{a b} M=>?_);grind[Hx,cons_lt_cons_iff]
def mJ (I:Inv X ak σ H s)(M:aX B H)(q:Fin X.K B H (.lst ds) true Q)(O:bi ys out.toList)(hl:IsL X.K B ys ds)(hz:ys.length<=sizeLine):
  EP X ak σ Q (.ref (s.heap.objs.size+1)) { s with heap:=sortedAll s.heap its out }:=by
 obtain⟨e,he⟩:=sortedAll_at _ _ _;have hp :=I.hok.fresh (le_succ _);have G:=Ext.laid (o:=.lst ys) M hp;exact⟨.ref _,_,I.laid  (λb o=>sortedAll_old) (le_succ _) (show bJ _ _ _ _ _ (.lst ys)from ⟨hz,out.toList,e,O,he⟩),rr,
  q _ _ _ G (.lst (gB.of a6) (hl.mono G.bn)) λ_=>⟨_,_,_,rr,rr,hp,a6,hl.mono G.bn⟩⟩
def HB:bY X (.builtin "sorted") (B7 X.K gn):=by
 intro ak s σ H xs us Q I r h;obtain⟨B,dl,d,bb,O,i,M,q⟩:=h;cases i with
 |nil=>simp[gn]at M
 |cons i1 i2=>
  cases i2 with
  |cons _ _=>cases i1<;>simp[gn]at M
  |nil=>
   cases i1<;>try (simp[gn]at M;done)
   rename_i v vs ds h hl;obtain⟨u,rfl,m⟩:=ij r;cases m
   obtain⟨its,T,pl,hz⟩:=I.list (O.seq h);have w:vs.length=its.length:=T.length;have n:ds.length=vs.length:=hl.length.symm;simp only[gn]at M;split at M
   .rename_i ss es;split at M
    .rename_i U;cases M
     have G:=iN T hl es;have o:its.length=ss.length:=by rw[<-G.strs,vI]
     refine sorted_strs pl.isList (by simpa using G) N9 λout b c f g=>?_;have e:=wo f g;subst e;exact mJ I O q (wv c) (nG _) (by rw[vI,(fQ ss).length_eq,sizeLine_eq];simp_all<;>lia)
    simp_all
   .split at M
    .rename_i ns es;split at M
     .rename_i U;cases M
      have G:=D3 T hl es;have o:its.length=ns.length:=IntsAre.length G;refine sorted_ints pl.isList (by simpa using G) N9 λout b c f g=>?_;have e:=Ac f g;subst e;exact mJ I O q (iB c) (nJ _) (by rw[vI];unfold pZ;rw[(aW _ ns).length_eq,sizeLine_eq];simp_all<;>lia)
     simp_all
    .split at M
     .rename_i ks es;split at M
      .rename_i hh;obtain⟨U,hc,hf⟩:=hh;cases M
       have x:=iD es;have G:=nI I T (hl.mono O) es;refine zZ pl.isList (by simpa using G) hc hf N9 λp a j=>?_;have t:its.length=ds.length:=N9
       rw[t]at a j;have e:=BU es hc a j;have k:∀i∈p.toList,i<ds.length:=λi hi=>mem_range.mp (a.perm.mem_iff.mp hi);have l:=se hl p.toList k;rw[e]at l;refine mJ I O q  ?_ l ?_
       .simpa using px T p.toList λi hi=>by rw[<-n];exact k i hi
       .rw[vI,vG,a.size,sizeLine_eq];lia
      simp_all
     simp_all
end
end DL
namespace DL
open PySem PySem.Spec PyProof.Rows L2
section
variable {X:Cx}{e:Expr}{pos pos2 p p2:Pos}
def uN:bY X (.builtin "len") (λxs H Q=>∃S G,xs=[.ref S]/\H S=some (zR X S G)/\Q (.int (G.length:Nat)) H):=by
 intro ak s σ H xs us Q I r h;obtain⟨S,G,rfl,hS,q⟩:=h;obtain⟨u,rfl,O⟩:=ij r;cases O
 have T :=(I.hok S _ hS).1;obtain⟨o,es,b,t,ho,M,hd,U,hp,nd,hb,hf,_⟩:=T;have sz:es.size=G.length:=by rw[<-hp.length_eq,vI,vG]
 have a:G.length<4096:=hb;exact PySem.call_len_set ho M hd hf (by rw[sz];lia) ⟨.int _,H,I.tok _,⟨_,by rw[sz]⟩,q⟩
def Fl (hc:X.calm=true)(m1:X.mg "len" = none)(m2:X.mg "set" = none)(he:JE X e f)(g1:Gl X "len":=by rfl)(a:Gl X "set":=by rfl)
  (h1:starEach [e] X.env=(false,eval e X.env)::starEach [] X.env:=by rfl):JE X (.Call (.Name "len" p) [.Call (.Name "set" p2) [e] [] pos2] [] pos) (f1 Dx f):=by
 refine PE.to (ri uN g1 m1 dr (eB (oN (pX hc) a m2 Ng (eB he gD h1) (he:=h1)) gD)) λσ H Q q=>?_;obtain⟨B,ρ,d',bb,b,r,G,q⟩:=q;obtain⟨O,ex,G⟩:=oX G;refine⟨B,ρ,O.1,O.2,b,r,ex,λv g N1 M i1 i=>?_⟩;obtain⟨xd,j⟩:=O;cases i1<;>try (simp  at G)
 rename_i k vs ds h hl;obtain⟨ss,c,G⟩:=oX G;split at G
 .rename_i T;cases G
  refine⟨_,_,ss,rr,M.nh.seq h,λits d=>iN d hl c,T,λS hS=>⟨S,_,rr,a6,?_⟩⟩;have U:=Ext.laid (o:=zR X S (gY ss)) M.nh hS;exact(q.into (M.trans U)).one (M.trans U).nh (.int _)
 .cases G
end
section
variable {X:Cx}{pos:Pos}
theorem sf:∀ {ns:LI}{its:LU},bi (ns.map V.int) its->IntsAre its ns
 |[],_,.nil=>.nil
 |n::ns,_,.cons ⟨t,e⟩ r=>by subst e;exact .cons n t (sf r)
noncomputable def RM (n:Int):Value->Bool
 |.int m _=>m == n
 |_=>false
theorem HC {K:Frag}{B:Hp}:∀ {vs:LV}{ds:LD}{ns:LI},IsL K B vs ds->kF ds=some ns->vs=ns.map V.int
 |_,_,_,.nil,h=>by simp_all[kF]
 |_,_,_,.cons i G,h=>by
  cases i<;>simp only[kF]at h<;>try (cases h)
  obtain⟨t,h2,h⟩:=oY h;subst h;rw[HC G h2];rfl
end
section
variable {X:Cx}{a:Expr}{pos:Pos}{x:Str}{p:Pos}{d:Addr}{aL:List (Str×D)}
def Fm (cd:nE X.K X.w.params d aL):dS X (compareOp .NotIn) (λx y H Q=>∃z,x=.str z/\y=.ref d/\Q (.bl (!(aL.lookup z).isSome)) H):=by
 rintro ak s σ H _ _ v u Q I M O ⟨z,rfl,rfl,q⟩;cases O
 obtain⟨t,rfl⟩:=M;obtain⟨f,T,U,hf⟩:=cd.map I;refine wpAny_notIn_of (strKind_is _ _ z t) U T ⟨.bl _,H,I.tok _,?_,q⟩;have:=hf z;cases G:aL.lookup z with
 |none=>rw[G]at this;rw[this];rfl
 |some dd=>rw[G]at this;obtain⟨_,_,b,_⟩:=this;rw[b];rfl
def Fo (h:∃d,X.mg x=some (.ref d)/\nE X.K X.w.params d aL)(ha:JE X a f)(U:Gl X x:=by rfl)(hd:(x == ("__debug__" : Str))=false:=by decide)(hm:behindInMarks .NotIn (.Name x p)=false:=by rfl):JT X (.Compare a [.NotIn] [.Name x p] pos) (aR (f1 (BL aL) f)):=by
 obtain⟨d,M,cd⟩:=h;refine PT.to (CM (Fm cd) ha (qN (v:=.ref d) U M rr hd) hm) λσ H Q q=>?_;obtain⟨B,ρ,d',bb,b,r,G,q⟩:=rC q;obtain⟨O,ex,G⟩:=oX G;refine⟨B,ρ,O.1,O.2,b,r,ex,λv c N1 T i1 e=>?_⟩;obtain⟨xd,g⟩:=O;cases i1<;>try (simp  at G;done)
 rename_i z;cases G
 exact⟨z,rr,rr,(q.into T).one T.nh (.bl _)⟩
end
section
variable {prog:Program}{w:World}{A:Around}{E:QV}{s:Shared}
def BV {a:Addr}{o:Obj}{its:AV}{n:Nat}{x:Value}{e:Value->Bool}{j:Nat}{P:PySem.Fin->Shared->Prop}(ho:s.heap.get? a=some o)(hd:o.data=.seq its n)
  (he:∀y∈its,MeetsSeq.EqGives y x (e y)) (hj:j<its.size) (uA:e its[j]=true) (G:∀m (hm:m<its.size),m<j->e its[m]=false)
  (h:P (.done (.ret (.int j s.toks))) { s with toks:=s.toks+1 }):wpAny (model prog w) A (Builtin.«tuple.index» ⟨[.ref a,x],[]⟩) P E s:=by
 show wpAny _ _ (Builtin.Tuple.tupleItemsOf _>>=_) _ _ s;refine wX (wpAny_tupleItemsOf ho hd ?_);refine wX (wY (wX (wY (wX ?_))));rw[Std.Legacy.Range.forIn_eq_forIn_range'];refine wpAny_forIn_list _
  (λrest r s'=>r.1=none/\s'=s/\∃i,i<=j/\rest=List.range' i (its.size - i))
  _ ?_ ?_ _ _ ⟨rr,rr,0,uM _,?_⟩
 .rintro k rest r s' ⟨b,rfl,i,hi,hz⟩;have T:i<its.size:=N9
  obtain⟨m,hm⟩:∃m,its.size - i=m+1:=⟨its.size - i - 1,N9⟩;rw[hm]at hz;injection hz with M c;have M:=M.symm;subst M;have U:its[i]? = some its[i]:=X9
  simp only[U];refine wX (he _ (Array.getElem_mem _) _ w _ _ _ _ ?_);by_cases O:i=j
  .subst O;rw[uA];refine wX ?_;exact wX (wpAny_mkInt (wY (wY (wY h))))
  .rw[G i _ N9];exact wY ⟨rr,rr,i+1,N9,by grind⟩
 .grind
 .simp
end
theorem CRows.findT {K:Frag}{P:Params}(y:Str){ds:LD}:∀ {es:List DictEntry}{aL:List (Str×D)},CRows K P es aL->aL.lookup y=some (.tup ds) ->
  ∃e a its n ma,es.find? (λe=>Value.isStrOf y e.key)=some e/\e.val=.ref a/\K.lookup a=some ⟨.type "tuple",none,.seq its n,ma⟩/\jU its.toList ds=true
 |_,_,.nil,h=>by simp at h
 |_,_,.tup (x:=x) (t:=t) (a:=a) (ds:=M) hh l f tl,h=>by
  by_cases e:y=x
  .subst e;rw[lookup_cons_self]at h;cases h
   rw[vB]at f;exact⟨_,a,_,_,_,List.find?_cons_of_pos (by simp[Value.isStrOf]),rr,l,f.2⟩
  .rw[lookup_cons,beq_eq_false_iff_ne.mpr e]at h;have G:Value.isStrOf y (Value.str x t)=false:=by
    rw[Bool.eq_false_iff];intro z;obtain⟨t',q⟩:=Value.isStrOf_shape z;simp_all
   simp only[find?_cons,G];exact tl.findT y h
 |_,_,.flat (x:=x) (t:=t) (u:=u) (d:=d) hh f tl,h=>by
  by_cases e:y=x
  .subst e;rw[lookup_cons_self]at h;cases h
   cases u<;>simp[xT]at f
  .rw[lookup_cons,beq_eq_false_iff_ne.mpr e]at h;have G:Value.isStrOf y (Value.str x t)=false:=by
    rw[Bool.eq_false_iff];intro z;obtain⟨t',q⟩:=Value.isStrOf_shape z;simp_all
   simp only[find?_cons,G];exact tl.findT y h
section
variable {X:Cx}{b e:Expr}{pos:Pos}{x:Str}{p:Pos}
def U7 (K:Frag):V->LV->Hp->VK->Prop:=λx xs H Q=>∃(a:Addr)(o:Obj)(its:AV)(n:Nat)(zs:LS)(y:Str),x=.ref a/\xs=[.str y]/\K.lookup a=some o/\o.cls=.type "tuple"/\o.data=.seq its n/\StrsAre its.toList zs/\zs.findIdx (· == y)<zs.length/\Q (.int (zs.findIdx (· == y):Nat)) H
noncomputable def Nh (y:Str):Value->Bool
 |.str z _=>z == y
 |_=>false
theorem D4:∀ {its:LU}{zs:LS},StrsAre its zs->∀(i:Nat)(hi:i<its.length),∃(h:i<zs.length)(t:Tok),its[i]=.str zs[i] t
 |_,_,.cons z t h,0,_=>⟨X9,t,rr⟩
 |_,_,.cons z t h,i+1,hi=>by
  obtain⟨h',t',e⟩:=D4 h i (by simpa using hi);simp_all
 |_,_,.nil,i,hi=>by simp at hi
theorem Ad:∀ {its:LU}{zs:LS},StrsAre its zs->its.length=zs.length
 |_,_,.nil=>rr
 |_,_,.cons _ _ h=>by rw[vC,vC,Ad h]
def HD:Kw X "tuple.index" (U7 X.K):=by
 intro ak s σ H x xs v us Q I O T h;obtain⟨a,o,its,n,zs,y,rfl,rfl,U,hc,hd,hz,hk,q⟩:=h;cases O
 obtain⟨u,rfl,⟨t,rfl⟩⟩:=T.one;have ho:=I.kIn a o U;have hl:=Ad hz;rw[vG]at hl;have at':∀(i:Nat)(hi:i<its.size),∃(h:i<zs.length)(t:Tok),its[i]=.str zs[i] t:=λi hi=>by
  obtain⟨h',t',e⟩:=D4 hz i (by simpa using hi);exact⟨h',t',by simpa using e⟩
 refine wpAny_call_entry PySem.F.slot_tuple_index ⟨o,ho,hc⟩ PySem.F.entry_tuple_index (BV (e:=Nh y)  ho hd (λz hm=>?_) N9 ?_ (λm hm M=>?_) ⟨_,rr,.int _,H,I.tok _,⟨_,rr⟩,q⟩) (PySem.F.args_tuple_index_2 _ _)
 .obtain⟨i,hi,rfl⟩:=Array.mem_iff_getElem.mp hm;obtain⟨_,t',G⟩:=at' i hi;rw[G];exact eqGives_str _ _ _ _
 .obtain⟨_,t',G⟩:=at' (zs.findIdx (· == y)) N9;rw[G];exact List.findIdx_getElem  (w:=hk)
 .obtain⟨_,t',G⟩:=at' m hm;rw[G];have:=List.not_of_lt_findIdx   M;simpa [Nh]using this
@[simp] def mK (aL:List (Str×D)):D->D->OB
 |.str y,.str z=>match aL.lookup y with
  |some (.tup ds)=>(gX ds).bind λzs=>if zs.findIdx (· == z)<zs.length then some (.int (zs.findIdx (· == z):Nat),false)else none
  |_=>none
 |_,_=>none
def Lj {aL:List (Str×D)}{f g:FE}{dn cf:Pos}(h:∃d,X.mg x=some (.ref d)/\nE X.K X.w.params d aL)(hb:JE X b f)(he:JE X e g)(A:Gl X x:=by rfl)(C:(x == ("__debug__" : Str))=false:=by decide)(hs:ng b:=by intro _ _;rfl)
  (M:attributeBase (.Subscript (.Name x p) b pos) "index" X.env (eval (.Subscript (.Name x p) b pos) X.env)=eval (.Subscript (.Name x p) b pos) X.env:=by rfl)
  (T:((backTo cf (starEach [e] X.env)).all (λx=>!x.1) && (backToKw cf (keywordEach [] X.env)).all (λx=>x.1.isSome)
   && decide ([e].length+([]:List Keyword).length+(if([]:List Keyword).isEmpty then 0 else 1)<30))=true:=by rfl)
  (O:(dn.endLine == cf.line)=true:=by rfl) (U:starEach [e] X.env=[(false,eval e X.env)]:=by rfl):
  JE X (.Call (.Attribute (.Subscript (.Name x p) b pos) "index" dn) [e] [] cf) (f2 (mK aL) f g):=by
 obtain⟨d,hm,cd⟩:=h;have E:G4 X (λx y H Q=>∃z ds,x=.ref d/\y=.str z/\aL.lookup z=some (.tup ds)/\∀a its n ma,X.K.lookup a=some ⟨.type "tuple",none,.seq its n,ma⟩->jU its.toList ds=true->Q (.ref a) H):=by
  intro c i ak s σ H x y v u Q I J L q hs;obtain⟨z,ds,rfl,rfl,j,q⟩:=q;cases J
  obtain⟨t,rfl⟩:=L;obtain⟨es,n,l,r,sm⟩:=cd;have m:=PySem.W.mapOf_K (prog:=X.prog)  I.kIn l r.lit;obtain⟨en,a,its,n',ma,e1,e2,N,P⟩:=r.findT z j;have R:findBy Value.isStrOf es z=some (.ref a):=by
   simp_all[findBy]
  exact tail_any m.typeIs slot_dict_getitem.lookup (wpAny_getItem_of (strKind_is X.prog X.w z t) m R ⟨.ref a,H,I.tok _,rr,q a _ _ _ N P⟩) hs
 refine PE.to (yV  PySem.F.plainAttrs_tuple PySem.F.slot_tuple_index PySem.F.type_tuple_index HD (G5 E (qN (v:=.ref d) A hm rr C) hb hs) (eB he gD U) M T O U rr) λσ H Q q=>?_;obtain⟨B,ρ,d',bb,S,r,G,q⟩:=q;obtain⟨V,ex,G⟩:=oX G;obtain⟨Y,Z,G⟩:=oX G;obtain⟨xd,xb⟩:=V;obtain⟨yd,yb⟩:=Y;cases xd with
 |str z=>
  cases yd with
  |str y=>
   refine⟨B,ρ,_,xb,S,r,ex,λv H1 N1 k i1 _=>?_⟩;cases i1
   simp only[mK]at G;split at G
   .rename_i ds j;obtain⟨zs,ez,G⟩:=oX G;split at G
    .rename_i hk;cases G
     refine⟨z,ds,rr,rr,j,λa its n ma l fl=>⟨.inr (.inl ⟨rr,_,l,rr,rr⟩),N1,ρ,_,yb,k.nh,r.mono k.bn,Z,λv2 H2 N2 o i2 _=>?_⟩⟩;cases i2
     obtain⟨vs,rv,iv⟩:=jV (K:=X.K) fl;exact⟨a,_,its,n,zs,y,rr,rr,l,rr,rr,iN rv (iv N2) ez,hk,(q.into (k.trans o)).one o.nh (.int _)⟩
    simp_all
   simp_all
  |_=>simp[mK]at G
 |_=>simp[mK]at G
end
open PySem.W (tabIn tabObj CodeHd kla_fn kla_obj kla_eval kla_makeFunction kla_makeFunctionHit kla_callFunE kla_codeExpr envX)
def RN (K:Frag)(c P:Addr):Prop:=∃o vs M U G tg T O a,K.lookup c=some o/\o.cls=.type "code"/\o.data=.fields vs/\vs[11]? = some (.ref P)/\vs.getD 11 .none=.ref P/\vs.getD 18 .none=.str M U /\
 vs.getD 7 .none=.int G tg/\vs.getD 9 .none=.bool T/\vs.getD 10 .none=.int O a/\c≠P
def BW (K:Frag)(x:Str):Prop:=∃c P,tabIn K x=some (c,P)/\RN K c P
def HE (H:Hp)(f:Addr)(q:Str)(params:Arguments)(G:Expr)(scope:Scope)(cl:List (Str×Addr)):Prop :=
 ∃pm c M u oc O vs t,H f=some (.frz (kla_obj "<lambda>" q params G scope cl pm c M) u)/\H c=some (.frz oc O)/\oc.data=.fields vs/\vs[1]? = some (.str q t)
def HE.mono (h:HE H f q params O scope cl)(e:aX H H'):HE H' f q params O scope cl :=
 let ⟨pm,c,G,u,oc,M,vs,t,h1,h2,h3,h4⟩:=h;⟨pm,c,G,u,oc,M,vs,t,e _ _ h1,e _ _ h2,h3,h4⟩
def lam_mk {K:Frag}{x:Str}{f c P:Addr}{oc:Value}{od h:Option Addr}{ma T:Array (Option Value)}{fd:FuncData}{vs:AV}{M:Str}{a tg b:Tok}{G O:Int}{U:Bool}(i:nsIn K mainGlobals x=some (some (.ref f)))(e2:K.lookup f=some ⟨oc,od,.func fd,ma⟩)
  (j:fd.code=.ref c) (d:K.lookup c=some ⟨.type "code",h,.fields vs,T⟩) (e:vs[11]? = some (.ref P)) (k:vs.getD 11 .none=.ref P) (l:vs.getD 18 .none=.str M a) (m:vs.getD 7 .none=.int G tg) (n:vs.getD 9 .none=.bool U) (o:vs.getD 10 .none=.int O b) (g:(c == P)=false):BW K x :=
 ⟨c,P,tab_yes i e2 j d e,_,vs,M,a,G,tg,U,O,b,d,rr,rr,e,k,l,m,n,o,λz=>by rw[z]at g;simp at g⟩
def BX (l:LU)(h:TriplesOk l)(e:codeAmong O (l++[rawInt a,rawInt b,c])=some T):codeAmong O l=some T\/T=c:=by
 fun_induction TriplesOk l with
 |case1=>
  simp_all[rawInt,codeAmong]
 |case2 G t b' u x rest M=>
  simp only[cons_append,codeAmong]at e |-;split<;>simp_all
 |case3 l h1 h2=>exact h.elim
section
variable {X:Cx}{ak:AO}{σ:St}{H:Hp}{s:Shared}
def HF 
  (hx:x∈np) (L:BW X.K x) (hc:∀c P,tabIn X.K x=some (c,P)->X.env.code=.ref c) (hq:X.env.qual ++ "<lambda>" = uH x) (V4:defaultsOf params X.env=([],[])) (N:closureFor scope X.env=pure cl)
  (I:Inv X ak σ H s) (tb:Tb X.K H) (k:∀f H' s',Inv X ak σ H' s'->aX H H'->HE H' f (uH x) params body scope cl->Q (.ref f) s'):
  wq X (eval (.Lambda params body scope pos) X.env) Q E s:=by
 refine kla_eval V4 ?_;rw[hq];obtain⟨c,P,R,o,vs,V5,tf,Th,tg,ZB,V6,tt,lk,ck⟩:=L;have M:=hc c P R;have A:=tb x hx c P R;obtain⟨ps,e,B,co⟩:=I.hok P _ A;have C:CodeHd s.heap c P:=⟨o,vs,V5,tf,Th,tg,ZB,V6,tt,I.kIn c o lk,ck⟩;have S:s.heap.Ns mainGlobals X.mg:=I.mod.glob.keeps I.bk;have j:∀b,H b=none->b≠P:=λb n z=>by rw[z,A]at n;cases n
 have ZC:mainGlobals≠P:=by
  obtain⟨og,_,_,V,_⟩:=I.mod.glob;exact j _ (I.bs _ _ V).2
 have hb:s.heap.BuiltinsAt X.mg P:=by
  obtain⟨bm,ob,b1,b2,b3,b4,b5,b6⟩:=I.mod.bmain;refine⟨bm,ob,b1,b2,λz=>?_,j _ (I.bs _ _ b3).2,I.bk _ _ b3,b4,b5,b6⟩;obtain⟨og,es,ep,V,dg,_⟩:=I.mod.glob;simp_all
 cases hf:codeAmong pos ps.toList with
 |some cv=>
  obtain⟨G,oc,u,l,t,rfl,hH,hd,m⟩:=co pos cv hf;refine kla_makeFunctionHit (mg:=X.mg) N I.ok.glob S M C e B hf hb λO h' tk hk hsz=>?_;have hn:H h'.objs.size=none:=I.hok.fresh hsz;have T:aX H (upd H h'.objs.size (.frz (kla_obj "<lambda>" (uH x) params body scope cl ((X.mg "__name__").getD .none) G O) (.own h'.objs.size))):=λb u q=>by rw[aH (bo q hn)];exact q
  refine k _ _ _ (I.laid (t':=tk) (λb u q=>vZ _ (hk b u q)) hsz (show bJ X.prog X.w _ _ _ (.frz _ (.own h'.objs.size))from ⟨vY _ rr,_,vY _ rr⟩)) T ?_;exact⟨_,G,O,_,oc,u,l,t,a6,T _ _ hH,hd,m⟩
 |none=>
  refine kla_makeFunction (mg:=X.mg) N I.ok.glob S M C e B hf ZC hb λG O h' tk hx' a W g D=>?_;obtain⟨c2,oc,l,t,e2,Y,hd,m⟩:=g;cases e2
  have V7:H G=none:=I.hok.fresh a;have hsz:s.heap.objs.size<=h'.objs.size:=vR a (le_of_lt W);have ZD:H h'.objs.size=none:=I.hok.fresh hsz;have ZE:G≠h'.objs.size:=vS W;let h:Obj:=kla_obj "<lambda>" (uH x) params body scope cl ((X.mg "__name__").getD .none) G O;let p:Hp:=upd (upd H G (.frz oc (.own G))) h'.objs.size (.frz h (.own h'.objs.size));have T:aX H p:=λb u q=>by
   show upd _ _ _ b=_;rw[aH (bo q ZD),aH (bo q V7)];exact q
  have F:p G=some (.frz oc (.own G)):=by show upd _ _ _ G=_;rw[aH ZE,a6]
  have keep:∀b u,b≠P->s.heap.get? b=some u->(h'.push h).get? b=some u:=λb u n q=>vZ _ (hx' b u n q);have lt:∀b u,s.heap.get? b=some u->b≠G/\b≠h'.objs.size:=λb u q=>⟨vS (vQ (vX q) a),vS (vQ (vX q) hsz)⟩;have U:(h'.push h).get? P=some (tabObj (ps++#[rawInt pos.line,rawInt pos.col,.ref G])):=vZ _ D;refine k _ p _ (I.un (t':=tk) (h':=h'.push h) ⟨λb u q n _ _=>keep b u (j b n) q,λb u q n _ _=>⟨u.slots,keep b u (j b n) q⟩,λb u q n _=>?_,λb u q _=>?_,λb xs q=>T _ _ q,λb ob u q=>T _ _ q,λb u q=>T _ _ q⟩ λb u q=>?_) T ⟨_,G,O,_,oc,_,l,t,a6,F,hd,m⟩
  .show upd _ _ _ b=_;rw[aH (lt b u q).2,aH (lt b u q).1];exact n
  .by_cases z:b=P
   .subst z;exact⟨_,U⟩
   .exact⟨u,keep b u z q⟩
  .by_cases Z:b=h'.objs.size
   .subst Z;have i:some (HO.frz h (.own h'.objs.size))=some u:=by rw[<-q];exact a6.symm
    cases i
    exact⟨vY _ rr,_,vY _ rr⟩
   .by_cases z2:b=G
    .subst z2;rw[F]at q;cases q;exact⟨vZ _ Y,_,vZ _ Y⟩
    .have i:H b=some u:=by
      have:p b=H b:=by show upd _ _ _ b=_;rw[aH Z,aH z2]
      rw[<-this];exact q
     by_cases z3:b=P
     .subst z3;rw[A]at i;cases i;refine⟨_,U,?_,λJN J y=>?_⟩
      .simp_all[TriplesOk_snoc]
      .rw[Array.toList_append]at y;rcases BX _ B y with y|rfl
       .obtain⟨c3,ZF,u3,ZG,t3,y1,y2,y3⟩:=co JN J y;exact⟨c3,ZF,u3,ZG,t3,y1,T _ _ y2,y3⟩
       .exact⟨G,oc,_,l,t,rr,F,hd,m⟩
     .refine(I.hok b u i).stay (λd v Xw r=>keep d v ?_ r) (λd r=>T _ _ r) (λd xs r=>T _ _ r) λd ob v r=>T _ _ r;simp_all<;>lia
end
section
variable {P:Program}{w:World}{K:Frag}{mg:SV}{base:Heap}
def cG.fnL {x:Str}{st:Stmt}{N ps:LS}{k:Nat}{g:FS}{h:Heap}(F:cG K x st)(X:K.In h)(G:h.Ns mainGlobals mg)(S:FnScope N ps (aJ st))
  (O:∀(kV doc pm:Value)(an:Option Addr)(dG ct:Value)(us:LU),us.length=ps.length->bindArgs (fnOf x x (eC st) (ca st) (aJ st) .none kV doc pm an dG ct) ⟨us,[]⟩=pure (ps.zip us))
  (hb:∀(f:Addr)(dG:Value)(A:Around)(outer:List PySem.Env)(s:Shared)(H:Hp)(E:XK),(∀c P,tabIn K x=some (c,P)->dG=.ref c)->ft k (A.deeper (envOfC x (aJ st) s.heap.objs.size f dG))->vy (oM yL P w K mg base N x (aJ st) f dG A outer s H E).nox (ca st) g):
  Fn P w K mg base (k+1) x (aB g ps.length (N.length - ps.length)):=by
 obtain⟨f,fd,T,a⟩:=F;have o:=T;obtain⟨oc,od,kV,doc,pm,an,dG,ct,ma,rfl,n,U⟩:=o.ex;have hc:∀c P,tabIn K x=some (c,P)->dG=.ref c:=λc P e=>by
  unfold tabIn at e;simp only[a,n]at e;split at e
  .split at e
   .split at e
    .cases e;rfl
    .cases e
   .cases e
  .cases e
 have len:∀vs H Q E,GU K (aB g ps.length (N.length - ps.length)) vs H Q E->vs.length=ps.length:=λvs H Q E h=>by
  obtain⟨B,ds,d,b,j,i,e,q⟩:=h;unfold aB at e;split at e
  .rename_i hl;rw[i.length];exact hl
  simp_all
 refine⟨f,_,ps,G0 n U S len λA outer s H vs Q E p h=>⟨_,uC.nox (hb f dG A outer s H E hc p),?_⟩,mg_of X G a,T.kp,T.binds O⟩;have M:=len vs H Q E h;obtain⟨B,ds,d,b,j,i,e,q⟩:=h;unfold aB at e;rw[if_pos (by rw[<-i.length];exact M)]at e;have l:=rH (N:=N) j.1 j.2 i;rw[M]at l;split at e
 .rename_i d' b' m;cases e
  exact⟨B,H,_,_,⟨B,l⟩,m,λv H' N' r t u=>q v H' N' r t u⟩
 .rename_i ρ' m;cases e
  exact⟨B,H,_,_,⟨B,l⟩,m,λy H' ⟨N',s'⟩=>q .non H' N' s'.ext .non X9⟩
 simp_all
end
inductive m8 (X:Cx)(N':List Str)(scope:Scope)(cl:List (Str×Addr)):Nat->List Nat->Prop where
 |nil {j:Nat}(h:N'.length=j):m8 X N' scope cl j []
 |cons {j i:Nat}{r:List Nat}{x:Str}(h1:N'[j]? = some x) (h2:X.N[i]? = some x) (h3:X.env.kindOf x=some .cell\/X.env.kindOf x=some .free)
   (h4:scope.names.lookup x=some .free) (h5:cl.lookup x=X.env.cells.lookup x) (t:m8 X N' scope cl (j+1) r):m8 X N' scope cl j (i::r)
theorem m8.len:∀ {j:Nat}{cap:LN},m8 X N' scope cl j cap->N'.length=j+cap.length
 |_,_,.nil h=>by rw[h];rfl
 |j,i::r,.cons _ _ _ _ _ t=>by rw[t.len,vC];lia
theorem m8.get:∀ {j:Nat}{cap:LN}{k i:Nat},m8 X N' scope cl j cap->cap[k]? = some i->∃x,N'[j+k]? = some x/\X.N[i]? = some x/\(X.env.kindOf x=some .cell\/X.env.kindOf x=some .free) /\
  scope.names.lookup x=some .free/\cl.lookup x=X.env.cells.lookup x
 |_,_,_,_,.nil _,e=>by simp at e
 |j,_,0,_,.cons h1 h2 h3 h4 h5 _,e=>by simp at e;subst e;exact⟨_,h1,h2,h3,h4,h5⟩
 |j,_,k+1,i,.cons _ _ _ _ _ t,e=>by
  obtain⟨x,q,r⟩:=t.get   (by simpa using e);exact⟨x,N9,r⟩
noncomputable abbrev Ae (X:Cx)(N':LS)(scope:Scope)(cl:List (Str×Addr))(q:Str)(A:Around)(f c:Addr)(s:Shared)(H:Hp):Cx :=
 { X with A:=A.deeper (envX q scope s.heap.objs.size f (.ref c) cl),N:=N',s₀:=s,H₀:=H,env:=envX q scope s.heap.objs.size f (.ref c) cl,outer:=X.stack,stack:=envX q scope s.heap.objs.size f (.ref c) cl::X.stack,ex:=[],fn:=λ_=>false,calm:=true,pn:=[],xe:=λ_ _=>False }
structure LamSc (X:Cx)(scope:Scope)(cl:List (Str×Addr))(y:Str):Prop where
 clos:closureFor scope X.env=pure cl
 nocell:∀z∈scope.names,z.2≠.cell
 kind:scope.kind=.function
 co:scope.isCoroutine=false
 gen:scope.isGenerator=false
 par:scope.names.lookup y=some .local
 sub:∀x c,cl.lookup x=some c->X.env.cells.lookup x=some c
 has:∀x,scope.names.lookup x=some .free->∃c,cl.lookup x=some c
def D5 (h1:∀z∈scope.names,z.2≠.cell)(h2:scope.kind=.function)(h3:scope.isCoroutine=false)(G:scope.isGenerator=false)(hp:scope.names.lookup y=some .local)
  (M:(scope.names.all λz=>!(z.2 == NameKind.free) || (X.env.cells.lookup z.1).isSome)=true):LamSc X scope (g9 scope.names X.env.cells []) y:=by
 have h4:∀z∈scope.names,z.2=.free->(X.env.cells.lookup z.1).isSome=true:=λz hz e=>by
  grind
 exact⟨vz _ [] h4,h1,h2,h3,G,hp,λx c e=>nw _ [] (λy d q=>by cases q) e,λx h=>by
  have:=ny  _ [] (iK h) (h4 _ (iK h) rr);exact uT this⟩
section
variable {X:Cx}{ak:AO}{σ:St}{H:Hp}{s:Shared}{A:Around}{N':LS}{scope:Scope}{cl:List (Str×Addr)}{q y:Str}{cap:LN}
def Ll (S:LamSc X scope cl y)(n:N'[0]? = some y)(h:m8 X N' scope cl 1 cap)(I:Inv X ak σ H s)(t:A.frames=some X.stack)(hh:A.handled=none)(r:aU v u)
  (U:h₁.Ns s.heap.objs.size (λx=>[(y,u)].reverse.lookup x)) (hk:∀b o,s.heap.get? b=some o->h₁.get? b=some o):
  Inv (Ae X N' scope cl q A f c s H) [] (some v::zd 0 cap σ) H { s with heap:=h₁,toks:=tk }:=by
 have G:∀b:Addr,b∉(Ae X N' scope cl q A f c s H).ex:=λb z=>absurd (show b∈([]:List Addr)from z) X9;refine⟨⟨I.ok.mod,S.kind,rr,rr,vT _,λx z d a e2=>I.ok.inj x z d (S.sub _ _ a) (S.sub _ _ e2),λx hx=>?_,(λx d e=>by cases e),λ_=>hh,Around.frames_deeper t,.inr ⟨rr,rr⟩,λb z=>absurd z (G b),I.bs,vR I.ok.bsz I.sz,λb _ _=>G b,λb z=>absurd z (G b),I.stack,I.stkFree⟩,
  rr,I.bare,Un.kept hk,⟨_,U,λi x j a e2 F=>?_⟩,λx d e=>?_,I.hok.fresh (vT _),λx d e=>I.freeC x d (S.sub _ _ e),λp hp=>absurd (show p∈([]:AO)from hp) X9,I.hok.kept hk,?_⟩
 .have hx' :=hx;rcases hx' with hx'|hx'
  .exact absurd rr (S.nocell _ (iK hx'))
  .exact S.has x hx'
 .cases i with
  |zero=>
   have O :=a;rw[n]at O;cases O;have M :=by simpa using e2
   cases M
   exact⟨u,r,.inl ⟨S.par,X9⟩⟩
  |succ k=>
   have M :=by simpa using e2
   obtain⟨k',g,J,g1,T⟩:=xK M;have:k=k':=N9
   subst this;obtain⟨l,n1,n2,n3,n4,n5⟩:=h.get g1;have:l=x:=by
    lia
   subst this;have B:σ[g]? = some (some j):=by
    cases z:σ[g]? with
    |none=>rw[z]at T;cases T
    |some w=>rw[z]at T;cases w with
     |none=>cases T
     |some w=>cases T;rfl
   obtain⟨m,_,hl⟩:=I.loc;obtain⟨C,ru,D⟩:=hl g l j n2 B (by
    rcases n3 with n3|n3
    .exact .inr (.inl n3)
    .exact .inr (.inr n3))
   refine⟨C,ru,.inr ⟨.inr n4,?_⟩⟩;rcases D with⟨l1,_⟩|⟨_,d,l2,E⟩
   .rcases n3 with n3|n3<;>(rw[l1]at n3;cases n3)
   .obtain⟨ob,ho,hd⟩:=E;exact⟨d,by rw[n5];exact l2,ob,hk _ _ ho,hd⟩
 .obtain⟨w,ob,ho,hd⟩:=I.cell x d (S.sub _ _ e);exact⟨w,ob,hk _ _ ho,hd⟩
 .have:=h.len;unfold zd;rw[this];simp;lia
def Lm (S:LamSc X scope cl y)(h:N'[0]? = some y)(k:m8 X N' scope cl 1 cap)(I:Inv X ak σ H s)
  (l:A.frames=some X.stack) (hh:A.handled=none) (G:A.depth<recursionLimit) (m:HE H f q params body scope cl)
  (M:∀pm c T u,bindArgs (kla_fn "<lambda>" q params body scope cl pm (.ref c) T) ⟨[u],[]⟩=pure [(y,u)])
  (hb:∀(f c:Addr)(s:Shared)(H:Hp),JE (Ae X N' scope cl q A f c s H) body fb)
  (rep:gz X.K B σ ρ) (n:aX B H) (r:aU v u) (i:Is X.K B v d) (e:fb (some (d,false)::dL 0 cap ρ)=some (d',b')) (p:Fin X.K B H d' b' Q):
  wpAny (model X.prog X.w) A (call (.ref f) [u]) (EP X ak σ Q) (λ_ _=>False) s:=by
 obtain⟨pm,c,T,W,oc,Y,x,t,hf,hc,hd,C⟩:=m;have ho:=(I.hok f _ hf).1;have D:=(I.hok c _ hc).1;refine wpAny_call (codeAny_mono (R:=λr s'=>CR yL X.stack X.prog X.w H s Q (λ_ _ _=>False) r s') ?_ λr s' hq=>?_)
 .refine kla_callFunE G ho rr S.co S.gen rr ⟨c,oc,x,t,rr,D,hd,C⟩ ?_;rw[M];refine wY (wpAny_newFunctionEnv S.nocell (λz hz=>by rw[uS hz];exact S.par) (λg E U=>⟨I.nolimit.fresh _ U,?_⟩) S.kind);have O :=λb o e=>U.extBut b o (vS (vX e)) (vZ _ e);have J:=Ll (f:=f) (c:=c) (q:=q) (tk:=s.toks+1) S h k I l hh r E O;refine kla_codeExpr (wpAny_mono (hb f c s H [] _ _ H Q J ⟨B,_,d',b',n,⟨rep.tb,λj F L z=>?_⟩,e,p⟩) (λw s' hw=>?_) λ_ _ z=>z.elim)
  .cases j with
   |zero=>
    simp_all
   |succ j=>
    obtain⟨w,h1,h2⟩:=(rep.caps  ).at' j F L (by simpa using z);simp_all
  .obtain⟨N,H',a,P,V⟩:=hw;exact⟨N,H',a.os,a.bare,a.base,a.hok,P,V⟩
 .cases r with
  |error e=>exact False.elim hq
  |ok fl=>
   cases fl with
   |ret w=>exact I.after hq
   |next=>exact False.elim hq
   |brk=>exact False.elim hq
   |cont=>exact False.elim hq
end
end DL
namespace DL
open PySem PySem.Spec PySem.W PyProof.Rows L2
section
variable {X:Cx}{ak:AO}{σ:St}{H:Hp}{s:Shared}{h':Heap}{t':Nat}
def pz (I:Inv X ((p,o)::ak) σ H s):∀x c,X.env.cells.lookup x=some c->c≠p:=λx c e z=>by
 have G:=I.pin _ (mY _ mX);obtain⟨v,ob,ho,hd⟩:=I.cell x c e;simp_all
def kY (I:Inv X (p::ak) σ H s):Inv X ak σ H s:=I.pins_of λq hq=>I.pin q (mY _ (mZ _ hq))
def iO (I:Inv X ((p,o)::ak) σ H s)(h0:X.s₀.heap.objs.size<=p)(hp:∀q∈X.pn++ak,q.1≠p)(k:∀b u,b≠p->s.heap.get? b=some u->h'.get? b=some u)(M:h'.get? p=some o')(O:∀v,o'.data≠.cell v):
  Inv X ((p,o')::ak) σ H { s with heap:=h',toks:=t' }:=by
 have G:=I.pin _ (mY _ mX);have J:=(kY I).turned (t':=t') k G.2.1 G.2.2.1 (.inr h0) (pz I) hp;refine J.pins_of λq hq=>?_;rcases vP hq with rfl|hq
 .exact⟨M,G.2.1,G.2.2.1,G.2.2.2.1,O⟩
 .exact J.pin q (mY _ hq)
def qT (I:Inv X ak σ H s)(k:∀b u,s.heap.get? b=some u->h'.get? b=some u)(hs:s.heap.objs.size<=p)(G:h'.get? p=some o)(M:∀v,o.data≠.cell v):Inv X ((p,o)::ak) σ H { s with heap:=h',toks:=t' }:=by
 have J:=I.kept (t':=t') k;refine J.pins_of λq hq=>?_;rcases vP hq with rfl|hq
 .exact⟨G,I.hok.fresh hs,ne_of_gt (vQ I.lt hs),I.nofs hs,M⟩
 .exact J.pin q (mY _ hq)
def Ln (I:Inv X ((p,o)::ak) σ H s)(h0:X.s₀.heap.objs.size<=p)(hp:∀q∈X.pn++ak,q.1≠p)(k:∀b u,b≠p->s.heap.get? b=some u->h'.get? b=some u)(T:∃u,h'.get? p=some u)
  (new:bJ X.prog X.w (upd H p ob) h' p ob):Inv X ak σ (upd H p ob) { s with heap:=h',toks:=t' }:=by
 have G:=I.pin (p,o) (mY _ mX);have hn:=G.2.1;have cs:=pz I;refine(kY I).step (g':=s.gens) (d':=s.drawn) (ch:=[p]) (λb hb=>?_) (λb u _ _ hc e _=>k b u (λz=>hc (by simp[z])) e) (λb u _ _ hc e _=>⟨u.slots,k b u (λz=>hc (by simp[z])) e⟩) (λb u hc _ n=>by simp_all[aH])
  (λb u hc e=>⟨u,k b u (λz=>hc (by simp[z])) e⟩) (λb xs e=>by rw[aH (bo e hn)];exact e) (λb u w e=>by rw[aH (bo e hn)];exact e) (λb q e=>by rw[aH (bo e hn)];exact e) (λm hm=>?_) (λb u e=>?_) I.bare
 .have z:b=p:=by simpa using hb
  subst z;exact⟨.inr h0,G.2.2.1,cs,hp⟩
 .obtain⟨M,es,O,ho,r⟩:=hm;exact⟨M,es,O,k _ M (λz=>G.2.2.1 z.symm) ho,r⟩
 .by_cases z:b=p
  .simp_all[a6]
  .rw[aH z]at e;refine(I.hok b u e).stay (λc v hc q=>k c v ?_ q) (λc q=>?_) (λc xs q=>?_) λc w xs q=>?_
   .lia
   .rw[aH (bo q hn)];exact q
   .rw[aH (bo q hn)];exact q
   .rw[aH (bo q hn)];exact q
end
def D6 (X:Cx)(A:Around)(σ:St)(G:Value)(B M:Hp)(O:D->Option D):Prop :=
 ∀(ak:AO)(s:Shared)(H N:Hp)(v:V)(u:Value)(d d':D),Inv X ak σ H s->aX M H->aX B N->aX N H->Is X.K N v d->aU v u->O d=some d' ->
  wpAny (model X.prog X.w) A (call G [u]) (EP X ak σ λT H'=>∃N',Ext N N' H H'/\Is X.K N' T d') (λ_ _=>False) s
def JK (X:Cx)(A:Around)(e:Expr)(O:Env->D->Option D):Prop:=∀(ak:AO)(s:Shared)(σ:St)(H B:Hp)(ρ:Env)(Q:QV)(E:QV),Inv X ak σ H s->aX B H->gz X.K B σ ρ ->
 (∀M G s1,Inv X ak σ G s1->aX H G->D6 X A σ (.ref M) B G (O ρ)->Q (.ref M) s1)->wq X (eval e X.env) Q E s
section
variable {X:Cx}{A:Around}
@[simp] def uQ (cap:LN)(G:FE):Env->D->Option D:=λρ d=>(G (some (d,false)::dL 0 cap ρ)).map (·.1)
def yh (hx:x∈np)(L:BW X.K x)(hc:∀c P,tabIn X.K x=some (c,P)->X.env.code=.ref c)(hq:X.env.qual ++ "<lambda>" = uH x)
  (M:defaultsOf params X.env=([],[])) (S:LamSc X scope (g9 scope.names X.env.cells []) y) (b:N'[0]? = some y) (g:m8 X N' scope (g9 scope.names X.env.cells []) 1 cap) (h:A.frames=X.A.frames) (O:ft (k+1) A)
  (G:∀pm c T u,bindArgs (kla_fn "<lambda>" (uH x) params body scope (g9 scope.names X.env.cells []) pm (.ref c) T) ⟨[u],[]⟩=pure [(y,u)])
  (hb:∀(f c:Addr)(s:Shared)(H:Hp),ft k (Ae X N' scope (g9 scope.names X.env.cells []) (uH x) A f c s H).A->JE (Ae X N' scope (g9 scope.names X.env.cells []) (uH x) A f c s H) body fb):JK X A (.Lambda params body scope pos) (uQ cap fb):=by
 intro ak s σ H B ρ Q E I i rep j;refine HF hx L hc hq M S.clos I (rep.tb.mono i) λf l s1 m n o=>j f l s1 m n ?_;intro U s' H' N v u d d' a m1 m2 p iv r e;obtain⟨⟨d2,b2⟩,q,e2⟩:=oY e;cases e2
 exact Lm S b g a (h.trans a.ok.frames) O.hd O.depth (o.mono m1) G (λf c s H=>hb f c s H (O.deeper _)) (rep.mono m2) p r iv q λw H2 N2 t i2 _=>⟨N2,t,i2⟩
@[simp] noncomputable def yi (g:LD->OB):Env->D->Option D:=λ_ d=>(g [d]).map (·.1)
def D7 (F:Fn X.prog X.w X.K X.mg X.base k x g)(b:ft k A)(c:A.frames=X.A.frames)(f:Gl X x:=by rfl)(M:(x == ("__debug__" : Str))=false:=by decide):JK X A (.Name x p) (yi g):=by
 intro ak s σ H B ρ Q E I m rep h;obtain⟨ad,fd,ps,U,hm,hk,hb⟩:=F.ex;refine xw I f hm ?_ M;refine h ad H s I (.refl H) ?_;intro O s' H' N v u d d' T m1 m2 i iv r e;obtain⟨⟨d2,b2⟩,j,e2⟩:=oY e;cases e2
 have sp:GU _ g _ H' (λa H2=>∃N',Ext N N' H' H2/\Is _ N' a d2) (λ_ _ _=>False):=⟨N,[d],d2,b2,⟨i,rep.tb.mono m2⟩,.cons iv .nil,j,λa H2 N2 l i2 _=>⟨N2,l,i2⟩⟩;have hl:[u].length=ps.length:=by have:=U.len _ _ _ _ sp;simp_all
 have G:=T.env0;have bb:=hb s' [u] T.kIn (by simpa using hl);refine wpAny_call (codeAny_mono (U.run A _ s' H' _ _ _ _ _ b ⟨c.trans G.frames,G.mod,G.bs,G.bsz,G.funs,G.frf,G.hok,G.bare⟩ bb (.cons r .nil) sp) λr s' hq=>?_);cases r with
 |error e=>exact False.elim hq
 |ok fl=>
  cases fl with
  |ret w=>exact T.after hq
  |next=>exact False.elim hq
  |brk=>exact False.elim hq
  |cont=>exact False.elim hq
end
noncomputable def kZ (f:D->Option D):LD->Option LD
 |[]=>some []
 |d::ds=>(f d).bind λx=>(kZ f ds).map (x :: ·)
theorem nL:∀ {ds ks:LD},kZ f ds=some ks->ks.length=ds.length
 |[],_,h=>by simp_all[kZ]
 |d::ds,_,h=>by
  obtain⟨a,h1,h⟩:=oX h;obtain⟨r,h2,h⟩:=oY h;subst h;simp[nL h2]
theorem si:∀ {ds ks:LD},kZ f ds=some ks->∀ {i:Nat}{d:D},ds[i]? = some d->∃k,ks[i]? = some k/\f d=some k
 |[],_,h,i,d,e=>by simp at e
 |d::ds,_,h,0,e,q=>by
  obtain⟨a,h1,h⟩:=oX h;obtain⟨r,h2,h⟩:=oY h;subst h;simp at q;subst q;exact⟨a,X9,h1⟩
 |d::ds,_,h,i+1,e,q=>by
  obtain⟨a,h1,h⟩:=oX h;obtain⟨r,h2,h⟩:=oY h;subst h;obtain⟨k,G,M⟩:=si h2   (by simpa using q);simp_all
structure KK (X:Cx)(A:Around)(kd:List D->Option (List (List At)))(ok:List (List At)->Bool):Prop where
 len:∀ {ds:List D}{ks:List (List At)},kd ds=some ks->ks.length=ds.length
 ask:∀ {ak:List (Addr×Obj)}{σ:St}{H:Hp}{s:Shared}(_:Inv X ak σ H s) {ys:List V}{ds:List D}{ks:List (List At)}{its:List Value},bi ys its->IsL X.K H ys ds->kd ds=some ks->ok ks=true->dJ ks=true ->
  (0<ks.length->∀ {E:Value->Shared->Prop}{Q:SortKind->Shared->Prop},Q (tuples' true) s->wpAny (model X.prog X.w) A (keyKind' its.toArray) Q E s) /\
  ∀(i j:Nat)(C:Bool->Shared->Prop)(s1:Shared),i<ks.length->j<ks.length->s1=s->(∀s',s'=s->C (rW (Bp ks) i j) s')->kas_ask X.prog X.w A (tuples' true) its i j C s1
def HG:KK X A fJ dW:=⟨iD,λI _ _ _ _ r i e hf hc=>have hp:=nI I r i e;⟨λhn _ _ q=>zY hp hf hn q,D1 hc hp⟩⟩
section
variable {X:Cx}{ak:AO}{σ:St}{s:Shared}
theorem ww (r:aU x u):∀ {vs:LV}{us:LU},bi vs us->bi (vs++[x]) (us++[u])
 |_,_,.nil=>.cons r .nil
 |_,_,.cons h t=>.cons h (ww r t)
def dO:∀v,(Obj.mk c od (.seq its n) sl).data≠.cell v:=λv z=>by cases z
def BY 
  (I:Inv X ((a,seqObj "list" its.toArray n)::ak) σ H s) (h0:X.s₀.heap.objs.size<=a) (hp:∀q∈X.pn++ak,q.1≠a) (Kc:D6 X A σ qv B H kf) (l:bi vs its) (iv:IsL X.K B vs ds) (sB:aX B H)
  (M:KK X A kd ok) (y:kZ kf ds=some kO) (ek:kd kO=some ks) (hc:dJ ks=true) (hf:ok ks=true) (NA:its.length<64)
  (h:∀(p:Array Nat)(s':Shared)(H' N:Hp),oG its.length p->Up (Bp ks) p its.length->Inv X ak σ (upd H' a (.lst (p.toList.map λi=>vs.getD i .non))) s'->Ext B N H H'->H' a=none->P (.done (.ret .none)) s'):
  wpAny (model X.prog X.w) A (ksk_tree a qv false) P E s:=by
 have g:=I.pin (a,seqObj "list" its.toArray n) (mY _ mX)
 have Nx:vs.length=its.length:=l.length
 have N6:ds.length=vs.length:=iv.length.symm
 have ZI:kO.length=ds.length:=nL y
 have ZJ:ks.length=kO.length:=M.len ek
 have hz:its.length<=sizeLine:=by rw[sizeLine_eq];lia
 have hna:H a=none:=g.2.1
 obtain⟨U,D⟩:∃U,(s.heap.update a (Obj.mapSeq λ_=>(#[]:AV))).get? a=some (seqObj "list" #[] U):=⟨_,get?_update_seq g.1 λ_=>#[]⟩
 have u1:=vW s.heap a (Obj.mapSeq λ_=>(#[]:AV))
 have I1 :=iO (t':=s.toks) I h0 hp (λb u n q=>(u1.2 b n).trans q) D dO
 let h2:Heap:=(s.heap.update a (Obj.mapSeq λ_=>(#[]:AV))).push (seqObj "tuple" its.toArray 0)
 have m:Inv X ((a,seqObj "list" #[] U)::ak) σ H { s with heap:=h2 }:=I1.kept (t':=s.toks) λb u q=>vZ _ q
 let kS:Addr:=h2.objs.size
 have I3:Inv X ((kS,seqObj "list" #[] 0)::(a,seqObj "list" #[] U)::ak) σ H { s with heap:=h2.push (seqObj "list" #[] 0) }:=qT (s:={ s with heap:=h2 }) (t':=s.toks) m (λb u q=>vZ _ q) (vT _) (vY _ rr) dO
 have k0:X.s₀.heap.objs.size<=kS:=m.sz
 have kp:∀q∈X.pn++((a,seqObj "list" #[] U)::ak),q.1≠kS:=λq hq=>vS (vX (m.pin q hq).1)
 unfold ksk_tree
 refine wX (listItems_at g.1 rr ?_)
 refine wX (listUpdate_at g.1 rr ?_ (by simpa using hz) (uM _))
 refine wX (seqEpoch_at D rr ?_)
 refine wX (wpAny_newTuple ?_ (by simp_all))
 refine wX (wpAny_newList ?_ (uM _))
 refine wpAny_holding ?_
 show wpAny (model X.prog X.w) A (ksk_rest a qv false its.toArray U (.ref kS)) P E { s with heap:=h2.push (seqObj "list" #[] 0) }
 unfold ksk_rest
 refine wX (wpAny_rule ?_)
 rw[List.forIn_toArray]
 refine wX (ksk_fold (λi s'=>∃(H' N:Hp)(kA:AV)(e:Nat)(aL:LV),Inv X ((kS,seqObj "list" kA e)::(a,seqObj "list" #[] U)::ak) σ H' s'/\Ext B N H H'/\bi aL kA.toList/\IsL X.K N aL (kO.take i)) its 0 _
  ⟨H,B,#[],0,[],I3,.refl sB,.nil,by simpa using IsL.nil⟩ ?step ?done)
 case step=>
  rintro j u s' hu ⟨H',N,kA,e,aL,J,c,rk,ik⟩
  simp only[Nat.zero_add]at ik |-
  have hj:j<its.length:=(vV hu).1
  obtain⟨d,hd⟩:∃d,ds[j]? = some d:=⟨_,vU N9⟩
  obtain⟨v,hv,Ti⟩:=iv.get hd
  obtain⟨kd,ZK,V9⟩:=si y hd
  obtain⟨u',F,ru⟩:=l.get hv
  rw[hu]at F;cases F
  have kl:kA.size=j:=by
   have L:=rk.length
   have R:=ik.length
   rw[length_take]at R
   rw[vG]at L
   exact L.symm.trans (R.trans (Nat.min_eq_left N9))
  refine wX (wpAny_attempt (wpAny_mono (Kc _ s' H' N v u d kd J c.hh c.bn c.nh (Ti.mono c.bn) ru V9) (λw o hw=>?_) λ_ _ hF=>hF.elim))
  obtain⟨v',ZL,S,rv',N',V,i2⟩:=hw
  have f:=S.pin (kS,seqObj "list" kA e) (mY _ mX)
  obtain⟨c2,NB⟩:∃c2,(o.heap.update kS (Obj.mapSeq (·.push w))).get? kS=some (seqObj "list" (kA.push w) c2):=⟨_,get?_update_seq f.1 (·.push w)⟩
  have u2:=vW o.heap kS (Obj.mapSeq (·.push w))
  refine wX (listUpdate_at f.1 rr ?_ (by rw[sizeLine_eq];lia) (vR (le_of_eq (Array.size_push ..)) (by rw[sizeLine_eq];lia)))
  refine wY ⟨rr,ZL,N',kA.push w,c2,aL++[v'],iO (t':=o.toks) S k0 kp (λb q n z=>(u2.2 b n).trans z) NB dO,c.trans V,?_,?_⟩
  .simp_all[ww]
  .rw[take_add_one,ZK];exact(ik.mono V.bn).append (.cons i2 .nil)
 case done=>
  rintro s' ⟨H',N,kA,e,aL,J,c,rk,ik⟩
  have W:IsL X.K N aL kO:=by
   grind
  have f:=J.pin (kS,seqObj "list" kA e) (mY _ mX)
  have ZM:=J.pin (a,seqObj "list" #[] U) (mY _ (mZ _ mX))
  have Vb:H' a=none:=ZM.2.1
  have Y:kA.toList.length=its.length:=by rw[<-rk.length,W.length];lia
  have Z:kA.size=its.length:=by simp_all
  refine wX (listItems_at f.1 rr ?_)
  have Xz:=M.ask J rk (W.mono c.nh) ek hf hc
  -- the end of the sort,for a permutation p
  have Tk:∀(st:SortSt)(p:Array Nat),arrOf st=p.map (kas_item (kA.toList.toArray.zip its.toArray))->failedOf st=none->oG its.length p->Up (Bp ks) p its.length ->
    wpAny (model X.prog X.w) A (ksk_tail a false U (.ref kS) st) P E s':=λst p ea ef k up=>by
   have eo:(arrOf st).map (·.2)=List.toArray (p.toList.map λi=>its.getD i Value.none):=kat_snds Y ea
   have CH:∀i∈p.toList,i<vs.length:=λi hi=>by
    have:=mem_range.mp (k.perm.mem_iff.mp hi)
    lia
   obtain⟨c3,ZN⟩:∃c3,(s'.heap.update kS (Obj.mapSeq λ_=>(#[]:AV))).get? kS=some (seqObj "list" #[] c3):=⟨_,get?_update_seq f.1 λ_=>#[]⟩
   have u3:=vW s'.heap kS (Obj.mapSeq λ_=>(#[]:AV))
   have J3:=kY (iO (t':=s'.toks) J k0 kp (λb q n z=>(u3.2 b n).trans z) ZN dO)
   have t:=J3.pin (a,seqObj "list" #[] U) (mY _ mX)
   obtain⟨x,X0⟩:∃x,((s'.heap.update kS (Obj.mapSeq λ_=>(#[]:AV))).update a (Obj.mapSeq λ_=>(arrOf st).map (·.2))).get? a=some (seqObj "list" ((arrOf st).map (·.2)) x):=⟨_,get?_update_seq t.1 λ_=>(arrOf st).map (·.2)⟩
   have u4:=vW (s'.heap.update kS (Obj.mapSeq λ_=>(#[]:AV))) a (Obj.mapSeq λ_=>(arrOf st).map (·.2))
   have so:((arrOf st).map (·.2)).size=its.length:=by rw[eo];simp only[vH,vI,vG,k.size]
   unfold ksk_tail
   try dsimp only
   refine wX (listUpdate_at f.1 rr ?_ (by rw[Z,sizeLine_eq];lia) (uM _))
   refine wX (wpAny_letGo ?_)
   refine wX (seqEpoch_at t.1 rr ?_)
   refine wX (listUpdate_at t.1 rr ?_ (uM _) N9)
   rw[ef]
   simp only[bne_self_eq_false,uU,if_false]
   refine wY (h p _ H' N k up (Ln (s:={ s' with heap:=s'.heap.update kS (Obj.mapSeq λ_=>(#[]:AV)) }) (t':=s'.toks) J3 h0 hp (λb q n z=>(u4.2 b n).trans z) ⟨_,X0⟩ ?_) c Vb)
   refine⟨by rw[vI,vG,k.size];exact hz,p.toList.map λi=>its.getD i Value.none,x,px l p.toList CH,?_⟩
   rw[<-eo];exact X0
  unfold ksk_end
  try dsimp only
  simp only[uU,if_false]
  have ZO:kA=kA.toList.toArray:=X9
  by_cases O:its.toArray.size<2
  .rw[if_pos O,if_pos O]
   refine wX (wY ?_)
   rw[StateT.run_pure]
   refine wX (wY ?_)
   have V2:its.length<2:=by simpa using O
   refine Tk _ (List.toArray (List.range its.length)) ?_ rr ⟨X9,X9⟩ ?_
   .show kA.zip its.toArray=_
    have:=kas_range (kA.toList.toArray.zip its.toArray)
    rw[show(kA.toList.toArray.zip its.toArray).size=its.length by simp[Z]]at this
    rw[this]
   .intro i j hij hj
    have:i=j:=N9
    subst this;exact Int.le_refl _
  .rw[if_neg O,if_neg O]
   have VB:2<=its.length:=by simp at O;lia
   rw[ZO]
   refine wX (Xz.1 N9 ?_)
   obtain⟨p,r1,r2,r3⟩:=zW (n:=its.length) (rk:=Bp ks) N9
   refine wX (wpAny_mono (kat_run (E:=E) (ks:=kA.toList) (vs:=its) (κ:=tuples' true) (s:=s') (Q:=λT s2=>s2=s'/\arrOf T=p.map (kas_item (kA.toList.toArray.zip its.toArray))/\failedOf T=none)
    (G:=λp' s2=>p'=p/\s2=s') Y VB NA (λp' T s2 _ e2 e3 e4=>by
     lia) (Run.wp (λs2=>s2=s') (λi j C s2 hi hj e hC=>Xz.2 i j C s2 N9 N9 e hC) r1 rr λs2 e=>⟨rr,e⟩)) (λr s2 hr=>?_) λ_ _ z=>z)
   obtain⟨⟨⟩,T⟩:=r
   obtain⟨rfl,e2,e3⟩:=hr
   exact Tk T p e2 e3 r2 r3
end
theorem Af {α G:Type}{f:α->G}:∀ {l:List α},(l.map f).Nodup->l.Nodup
 |[],_=>nodup_nil
 |a::l,h=>by
  rw[uX,nodup_cons]at h;exact nodup_cons.mpr ⟨λz=>h.1 (uR ⟨a,z,rr⟩),Af h.2⟩
def jI (ks:List (List At))(ds:LD):LD:=(eO (λp:List At×D=>cK p.1) (ks.zip ds)).map (·.2)
def HH {α O:Type}(d:α)(e:O):∀ {M:List α}{G:List O},M.length=G.length->(List.range G.length).map (λi=>(M.getD i d,G.getD i e))=M.zip G:=λ{M G} h=>by
 apply ext_getElem?;intro i;by_cases hi:i<G.length
 .simp_all
 .simp[hi,h]
def Lo {α O:Type}{G:List α}{M:List O}(nd:G.Nodup){a:α}{b c:O}(h1:(a,b)∈G.zip M)(h2:(a,c)∈G.zip M):b=c:=by
 obtain⟨i,hi⟩:=mem_iff_getElem?.mp h1;obtain⟨j,hj⟩:=mem_iff_getElem?.mp h2;obtain⟨i1,i2⟩:=getElem?_zip_eq_some.mp hi;obtain⟨U,T⟩:=getElem?_zip_eq_some.mp hj;obtain⟨e,ei⟩:=vV i1;obtain⟨f,d⟩:=vV U;have:i=j:=(List.getElem_inj nd).mp (ei.trans d.symm);subst this;rw[i2]at T;exact vK T
def BZ {ds:LD}{ks:List (List At)}{p:Array Nat}(hl:ks.length=ds.length)(hc:dJ ks=true)(nd:ks.Nodup)(G:oG ds.length p)(O:Up (Bp ks) p ds.length):p.toList.map (λi=>ds.getD i .non)=jI ks ds:=by
 unfold jI;have e:p.toList.map (λi=>(ks.getD i [],ds.getD i .non))=eO (λp:List At×D=>cK p.1) (ks.zip ds):=by
  apply jG
  .intro x hx y hy e;have mx:=(of_mem_zip hx).1;have T:=(of_mem_zip hy).1;have:=lQ hc mx T e;obtain⟨k1,d1⟩:=x;obtain⟨k2,d2⟩:=y;have z:k1=k2:=this;subst z;rw[Lo nd hx hy]
  .have:=G.perm.map (λi=>(ks.getD i [],ds.getD i D.non));rw[HH [] D.non hl]at this;exact this
  .rw[List.pairwise_iff_getElem];intro i j hi hj M;have hsz:=G.size;have U:i<p.size:=by simpa using hi
   have f:j<p.size:=by simpa using hj
   have:=O i j (le_of_lt M) N9;unfold cB Bp at this;have a:p.getD i 0=p[i]:=by simp_all
   have b:p.getD j 0=p[j]:=by simp_all
   have g:=G.lt (k:=j) N9;have c:ks.getD (p.getD j 0) []∈ks:=by
    simp_all
   have d:¬cK (ks.getD (p.getD j 0) [])<cK (ks.getD (p.getD i 0) []):=λz=>by
    have:=yf (cs:=ks.map cK) (uR ⟨_,c,rr⟩) z;lia
   simp only[List.getElem_map,Array.getElem_toList];unfold Hx;rw[<-a,<-b];exact d
 rw[<-e,uO];rfl
@[simp] def yj (kd:LD->Option (List (List At)))(ok:List (List At)->Bool)(f:FE)(M:Env->D->Option D):FE:=λρ=>(f ρ).bind λx=>match x.1 with
 |.lst ds=>(kZ (M ρ) ds).bind λG=>(kd G).bind λks=>if ks.length<64/\dJ ks=true/\ok ks=true/\(ks.map cK).Nodup then some (.lst (jI ks ds),true)else none
 |_=>none
@[simp] abbrev sj:FE->(Env->D->Option D)->FE:=yj fJ dW
section
variable {X:Cx}{e ke:Expr}{p pos kp:Pos}
def HI {kd:LD->Option (List (List At))}{ok:List (List At)->Bool}(M:KK X X.A.in1.in1 kd ok){f:FE}{t:Env->D->Option D}(hm:X.mg "sorted" = none)(he:JE X e f)(hk:JK X X.A.in1.in1 ke t)(P:Gl X "sorted":=by rfl)
  (R:starEach [e] X.env=[(false,eval e X.env)]:=by rfl) (S:backTo pos (starEach [e] X.env)=(false,eval e X.env)::backTo pos (starEach [] X.env):=by rfl) (O:(backTo pos (starEach [e] X.env)).any (·.1)=false:=by rfl)
  (V:(backToKw pos (keywordEach [⟨some "key",ke,kp⟩] X.env)).all (·.1.isSome)=true:=by rfl) (W:(backToKw pos (keywordEach [⟨some "key",ke,kp⟩] X.env)).any (·.1.isNone)=false:=by rfl)
  (Y:(backToKw pos (keywordEach [⟨some "key",ke,kp⟩] X.env)).filterMap (·.1)=[("key" : Str)]:=by rfl):
  JE X (.Call (.Name "sorted" p) [e] [⟨some "key",ke,kp⟩] pos) (yj kd ok f t):=by
 intro ak s σ H Q I h;obtain⟨B,ρ,d,b,Z,rep,G,q⟩:=h;obtain⟨⟨xd,xb⟩,ex,G⟩:=oX G;cases xd<;>try (cases G;done)
 rename_i ds;obtain⟨x,y,G⟩:=oX G;obtain⟨ks,ek,G⟩:=oX G;split at G
 .rename_i hh;obtain⟨NA,hc,hf,nd⟩:=hh;cases G
  refine wpAny_Call_Name_kw (gA I P hm (u:=.builtin "sorted") rr ?_);refine callWith_kw (cu ((eB he gD R) pos ak s σ H (λvs c=>∃v N,vs=[v]/\Ext B N H c/\Is X.K N v (.lst ds)) I ⟨B,ρ,_,_,Z,rep,ex,λv c N T i1 _=>⟨v,N,rr,T,i1⟩⟩) λus s1 hA=>?_) S O V W;obtain⟨ZP,c,I1,r1,v,N,rfl,T,i1⟩:=hA;obtain⟨u,rfl,ru⟩:=ij r1;refine kws_cons (hk ak s1 σ c N ρ _ _ I1 T.nh (rep.mono T.bn) λj H2 s2 g m2 Kc=>kws_nil ?_);rw[Y];show wpAny _ _ (call (.builtin "sorted") [u] [(("key" : Str),.ref j)]) _ _ _;cases i1
  rename_i l vs hq k;cases ru
  have z:aX N H2:=T.nh.trans m2;obtain⟨its,C,pl,hz⟩:=g.list (z.seq hq);have Nx:vs.length=its.length:=C.length;have N6:ds.length=vs.length:=k.length.symm;have ZI:x.length=ds.length:=nL y;have ZJ:ks.length=x.length:=M.len ek;have VG:its.length<64:=N9
  refine call_function_entry_kw kind_sorted plain_sorted entry_sorted (ksk_s1 _ _) ?_;unfold Builtin.«sorted»;refine wX (m:=checkCount "sorted" 1 1 _) (wY (wX (collect_list pl.isList (wX (wpAny_newList ?_ (by rw[sizeLine_eq];lia))) (by rw[sizeLine_eq];lia))));let h1:Heap:=(s2.heap.push (seqObj "list" #[] 0)).update s2.heap.objs.size (Obj.mapSeq (· ++ its.toArray));have hsz:h1.objs.size=s2.heap.objs.size+1:=by grind[Heap.size_update,size_push']
  have U:∀b o,s2.heap.get? b=some o->h1.get? b=some o:=λb o q=>(Heap.get?_update_ne _ _ _ _ (vS (vX q))).trans (vZ _ q);have E:Inv X ((h1.objs.size,seqObj "list" its.toArray 0)::ak) σ H2 { s2 with heap:=h1.push (seqObj "list" its.toArray 0) } :=
   qT (t':=s2.toks) g (λb u q=>vZ _ (U b u q)) (by rw[hsz];exact le_succ _) (vY _ rr) dO
  have p3:=E.pin (h1.objs.size,seqObj "list" its.toArray 0) (mY _ mX);show wpAny (model X.prog X.w) X.A.in1 (holding [.ref h1.objs.size] (call (.builtin "list.sort") [.ref h1.objs.size] [(("key" : Str),.ref j)])>>=_) _ _ { s2 with heap:=h1.push (seqObj "list" its.toArray 0) };refine wX (wpAny_holding (wpAny_call_entry_kw slot_list_sort ⟨_,p3.1,rr⟩ entry_list_sort ?_ (ksk_l1 _ _)));show wpAny (model X.prog X.w) X.A.in1.in1 (Builtin.«list.sort» ⟨[.ref h1.objs.size],[(Str.ofString "key",.ref j)]⟩) _ _ _;rw[ksk_t1];refine BY E (vR g.sz (by rw[hsz];exact le_succ _)) (λq hq=>by rw[hsz];exact vS (lt_succ_of_lt (vX (g.pin q hq).1))) Kc C k z M y ek hc hf VG λpm s' H' N' n F J a hn=>⟨_,rr,wY ⟨_,rr,?_⟩⟩;have O:its.length=ds.length:=N9
  rw[O]at n F;have er:=BZ N9 hc (Af nd) n F;have CH:∀i∈pm.toList,i<ds.length:=λi hi=>mem_range.mp (n.perm.mem_iff.mp hi);have r:=se (k.mono a.bn) pm.toList CH;rw[er]at r;have L:Ext B N' H H':=(T.trans (.grow T.nh m2)).trans a;have hN:N' h1.objs.size=none:=a.nh.free hn;have x5:=L.trans (Ext.laid (o:=.lst (pm.toList.map λi=>vs.getD i .non)) a.nh hn);exact⟨.ref h1.objs.size,_,J,rr,q _ _ _ x5 (.lst (gB.of a6) (r.mono (Ext.laid (o:=.lst (pm.toList.map λi=>vs.getD i .non)) a.nh hn).bn)) λ_=>⟨_,_,_,rr,rr,L.hh.free hn,a6,r.mono (Ext.laid (o:=.lst (pm.toList.map λi=>vs.getD i .non)) a.nh hn).bn⟩⟩
 .cases G
end
noncomputable def XT {f:String->CmpOp->Builtin}(_:f "__lt__" .Lt=Builtin.«tuple.__lt__»):=f
noncomputable def Wr:String->CmpOp->Builtin:=XT rr
section
variable {prog:Program}{w:World}{A:Around}{E:QV}{s:Shared}{op:CmpOp}
def ge.type (h:ge s.heap xs v):s.TypeIs v "tuple":=by
 obtain⟨a,o,its,n,rfl,ho,hc,_⟩:=h;exact⟨o,ho,hc⟩
inductive GeW (prog:Program)(w:World)(A:Around)(s:Shared)(op:CmpOp)(ii r:Bool):List (Value×Value)->Prop
 |nil (h:ii=r):GeW prog w A s op ii r []
 |eq {u v:Value}{l:List (Value×Value)}(h:SeqAt.EqAt A s u v true) (t:GeW prog w A s op ii r l):GeW prog w A s op ii r ((u,v)::l)
 |ne {u v:Value}{l:List (Value×Value)}(h:SeqAt.EqAt A s u v false) (t:∀(Q E:Value->Shared->Prop),Q (.bool r) s->wpAny (model prog w) A (richCompare op u v) Q E s):GeW prog w A s op ii r ((u,v)::l)
def Lp {nm:String}(M:s.TypeIs (.ref b) "tuple")(O:s.heap.get? a=some oa)(T:oa.data=.seq its na)(U:s.heap.get? b=some ob)(c:ob.data=.seq E8 nb)
  (W:GeW prog w A s op ii r (its.toList.zip E8.toList)) (hz:Builtin.Tuple.tupleCompareSizes op its.size E8.size=.bool ii) (d:op=.Lt\/op=.Gt\/op=.GtE) (q:P (.done (.ret (.bool r))) s):wpAny (model prog w) A (Wr nm op ⟨[.ref a,.ref b],[]⟩) P E s:=by
 show wpAny _ _ (isInstance _ _>>=_) _ _ s;refine wX (wpAny_isInstance M isSubtype_tuple_tuple ?_);refine wX (wpAny_tupleItemsOf O T ?_);refine wX (wpAny_tupleItemsOf U c ?_);refine wX ?_;refine wpAny_forIn_list _ (λrest z s'=>z.1=none/\s'=s/\GeW _ w A s op _ r rest) _ ?_ ?_ _ _ ⟨rr,rr,W⟩
 .rintro⟨u,v⟩ rest z s' ⟨hz,rfl,W⟩;cases W with
  |eq h t=>
   refine wX (h _ _ _ _ ?_);simp_all[wY]
  |ne h t=>
   refine wX (h _ _ _ _ ?_);have t:=t (λv G=>v=.bool r/\G=s') E ⟨rr,rr⟩;rcases d with rfl|rfl|rfl<;>exact wX (wpAny_rule (wX (wpAny_mono t (λv G e=>by obtain⟨rfl,rfl⟩:=e;exact wX (wY (wY (wY q)))) λ_ _ z=>z)))
 .rintro⟨g,i⟩ s' ⟨f,rfl,W⟩;subst f;refine wY ?_;cases W with
  |nil h=>
   simp_all
structure CmR (prog:Program)(w:World)(A:Around)(s:Shared)(op:CmpOp)(R:List At->List At->Bool->Prop)(fl:Nat->Nat->Bool):Prop where
 ei:∀ {a xs ys r},R (.i a::xs) (.i a::ys) r->R xs ys r
 es:∀ {a xs ys r},R (.s a::xs) (.s a::ys) r->R xs ys r
 ni:∀ {a c xs ys r},a≠c->R (.i a::xs) (.i c::ys) r->∀t u (Q E:Value->Shared->Prop),Q (.bool r) s->wpAny (model prog w) A (richCompare op (.int a t) (.int c u)) Q E s
 ns:∀ {a c xs ys r},a≠c->R (.s a::xs) (.s c::ys) r->∀t u (Q E:Value->Shared->Prop),Q (.bool r) s->wpAny (model prog w) A (richCompare op (.str a t) (.str c u)) Q E s
 mx:∀ {a c xs ys r},¬R (.i a::xs) (.s c::ys) r/\¬R (.s c::xs) (.i a::ys) r
 en:∀ {xs r},(R [] xs r->fl 0 xs.length=r)/\(R xs [] r->fl xs.length 0=r)
 fs:∀ {m n},fl (m+1) (n+1)=fl m n
def HJ (C:CmR prog w A s op R fl)(xs ys:List At)(its G:LU)(O:Paired Bo xs its)(T:Paired Bo ys G)(h:R xs ys r):GeW prog w A s op (fl xs.length ys.length) r (its.zip G):=by
 induction O generalizing ys G with
 |nil=>exact .nil (C.en.1 h)
 |@cons x v xs its O b U=>
  cases T with
  |nil=>exact .nil (C.en.2 h)
  |@cons y u ys G T M=>
   cases x with
   |i a=>
    cases y with
    |s _=>exact absurd h C.mx.1
    |i c=>
     obtain⟨t,rfl⟩:=O;obtain⟨u,rfl⟩:=T;have he:=SeqAt.EqAt.int_int (A:=A) (s:=s) a t c u;rw[vC,vC,C.fs];by_cases e:a=c
     .subst e;rw[show(a == a)=true by simp]at he;exact .eq he (U ys G M (C.ei h))
     .rw[show(a == c)=false by simp[e]]at he;exact .ne he (C.ni e h t u)
   |s a=>
    cases y with
    |i _=>exact absurd h C.mx.2
    |s c=>
     obtain⟨t,rfl⟩:=O;obtain⟨u,rfl⟩:=T;have he:=SeqAt.EqAt.str_str (A:=A) (s:=s) a t c u;rw[vC,vC,C.fs];by_cases e:a=c
     .subst e;rw[show(a == a)=true by simp]at he;exact .eq he (U ys G M (C.es h))
     .rw[show(a == c)=false by simp[e]]at he;exact .ne he (C.ns e h t u)
def RO:CmR prog w A s .Lt (λxs ys r=>b8 xs ys=some r) (λm n=>decide (m<n)) where
 ei h:=by rwa [b8,if_pos rr]at h
 es h:=by rwa [b8,if_pos rr]at h
 ni e h _ _ _ _ q:=by rw[b8,if_neg e]at h;cases h;exact PyProof.Rows.lt_int q
 ns e h _ _ _ _ q:=by rw[b8,if_neg e]at h;cases h;exact PySem.P.lt_str q
 mx:=by simp[b8]
 en:=λ{xs}=>by cases xs<;>simp[b8]
 fs:=X9
def RP:CmR prog w A s .Gt (λxs ys r=>b8 ys xs=some r) (λm n=>decide (n<m)) where
 ei h:=by rwa [b8,if_pos rr]at h
 es h:=by rwa [b8,if_pos rr]at h
 ni e h _ _ _ _ q:=by rw[b8,if_neg (Ne.symm e)]at h;cases h;exact PyProof.Rows.gt_int q
 ns e h _ _ _ _ q:=by rw[b8,if_neg (Ne.symm e)]at h;cases h;exact PySem.P.gt_str q
 mx:=by simp[b8]
 en:=λ{xs}=>by cases xs<;>simp[b8]
 fs:=X9
def HK (hx:ge s.heap xs (.ref a)):∃o its n,s.heap.get? a=some o/\o.data=.seq its n/\Paired Bo xs its.toList/\xs.length=its.size:=by
 obtain⟨G,o,its,n,e,ho,hc,hd,p⟩:=hx;cases e
 exact⟨o,its,n,ho,hd,p,by exact fR p⟩
def Ni {nm:String}(C:CmR prog w A s op R fl)(hz:∀m n,Builtin.Tuple.tupleCompareSizes op m n=.bool (fl m n))(G:op=.Lt\/op=.Gt\/op=.GtE)(hx:ge s.heap xs (.ref a))(hy:ge s.heap ys (.ref b))(h:R xs ys r)(q:P (.done (.ret (.bool r))) s):wpAny (model prog w) A (Wr nm op ⟨[.ref a,.ref b],[]⟩) P E s:=by
 have hb:=hy.type;obtain⟨_,_,_,ho,hd,p,l1⟩:=HK hx;obtain⟨_,_,_,M,O,T,l2⟩:=HK hy;exact Lp hb ho hd M O (HJ C _ _ _ _ p T h) (by rw[l1,l2];exact hz _ _) G q
def HL (hx:ge s.heap xs x)(hy:ge s.heap ys y)(h:b8 xs ys=some r)(hu:A.units<cLine)(q:Q (.bool r) s):wpAny (model prog w) A (richCompare .Lt x y) Q E s:=by
 have G:=hx.type;have ty:=hy.type;obtain⟨a,_,_,_,rfl,_⟩:=id hx;obtain⟨b,_,_,_,rfl,_⟩:=id hy;exact wpAny_richCompare_same_room  G ty slot_tuple_lt (wpAny_call_entry slot_tuple_lt G PySem.F.entry_tuple_lt (Ni RO (λ_ _=>rr) (.inl rr) hx hy h ⟨_,rr,(λe=>nomatch e),q⟩) (PySem.F.args_tuple_lt_2 _ _)) hu
def RQ (hx:ge s.heap xs x)(hy:ge s.heap ys y)(h:b8 ys xs=some r)(hu:A.units<cLine)(q:Q (.bool r) s):wpAny (model prog w) A (richCompare .Gt x y) Q E s:=by
 have G:=hx.type;have ty:=hy.type;obtain⟨a,_,_,_,rfl,_⟩:=id hx;obtain⟨b,_,_,_,rfl,_⟩:=id hy;exact wpAny_richCompare_same_room  G ty slot_tuple_gt (wpAny_call_entry slot_tuple_gt G PySem.F.entry_tuple_gt (Ni RP (λ_ _=>rr) (.inr (.inl rr)) hx hy h ⟨_,rr,(λe=>nomatch e),q⟩) (PySem.F.args_tuple_gt_2 _ _)) hu
end
def qc:List At×D->List (List At×D)->D
 |b,[]=>b.2
 |b,x::r=>if b8 b.1 x.1=some true then qc x r else qc b r
def nM:List At×D->List (List At×D)->D
 |b,[]=>b.2
 |b,x::r=>if b8 x.1 b.1=some true then nM x r else nM b r
noncomputable def XU {f:String->CmpOp->Builtin}(_:f "max" .Gt=Builtin.«max.loop»):=f
noncomputable def XV:String->CmpOp->Builtin:=XU rr
noncomputable def XW {f:String->Builtin}(_:f "max" = Builtin.«max»):=f
noncomputable def XX:String->Builtin:=XW rr
structure MM (nm lp:String)(ns:Str)(op:CmpOp)(lt:List At->List At->Option Bool)(go:List At×D->List (List At×D)->D):Prop where
 hn:(toString nm++toString ".loop" : String)=lp
 en:entryFor table lp=some (XV nm op)
 pl:plainId lp=true
 k2:builtinKind nm=none
 p2:plainId nm=true
 e2:entryFor table nm=some (XX nm)
 ka:∀a v:Value,argsOk nm ⟨[a],[(Str.ofString "key",v)]⟩
 bt:bootBuiltins ns=some (.builtin nm)
 n1:ns ≠ "__name__"
 n2:(ns == ("__debug__" : Str))=false
 g0:∀b,go b []=b.2
 g1:∀b x r,go b (x::r)=if lt b.1 x.1=some true then go x r else go b r
 cg:∀ {ks:List (List At)},dJ ks=true->∀ {a b},a∈ks->b∈ks->∃r,lt a b=some r
 rc:∀ {prog:Program}{w:World}{A:Around}{E:Value->Shared->Prop}{s:Shared}{xs ys:List At}{x y:Value}{r:Bool}{Q:Value->Shared->Prop},ge s.heap xs x->ge s.heap ys y->lt ys xs=some r->A.units<cLine->Q (.bool r) s->wpAny (model prog w) A (richCompare op x y) Q E s
def Ws:MM "max" "max.loop" "max" .Gt b8 qc :=
 ⟨Z9,PySem.F.entry_max_loop,PySem.F.plain_max_loop,PySem.F.kind_max,PySem.F.plain_max,PySem.F.entry_max,λ_ _=>by kernel_rfl,rr,Z9,Z9,λ_=>rr,λ_ _ _=>rr,λh _ _ a b=>⟨_,iC h a b⟩,RQ⟩
def U8:MM "min" "min.loop" "min" .Lt (λa b=>b8 b a) nM :=
 ⟨Z9,PySem.F.entry_min_loop,PySem.F.plain_min_loop,PySem.F.kind_min,PySem.F.plain_min,PySem.F.entry_min,λ_ _=>by kernel_rfl,rr,Z9,Z9,λ_=>rr,λ_ _ _=>rr,λh _ _ a b=>⟨_,iC h b a⟩,HL⟩
section
variable {X:Cx}{ak:AO}{σ:St}
def Ca (J:Inv X ((G,M)::(O,T)::ak) σ H' s'):Inv X ((O,T)::(G,M)::ak) σ H' s' :=
 J.pins_of λq hq=>J.pin q (by
  grind)
def sk (hp:∀q∈X.pn++ak,q.1≠a)(h:S≠a):∀q∈X.pn++((S,o)::ak),q.1≠a:=λq hq=>by
 grind
def qU (I:Inv X ak σ H s)(r:aU v u)(i:Is X.K H v d)(e:pq d=some k):ge s.heap k u:=by
 have:=nI I     (.cons r .nil) (.cons i .nil) (by simp  [fJ,e];rfl);cases this;assumption
inductive MK (X:Cx)(ak:List (Addr×Obj))(σ:St)(S It l:Addr)(o:Obj)(j:Nat)(N H:Hp)(y:List At×D)(u ku:Value)(s:Shared):Prop
 |mk (H2 N2:Hp) (v kv:V) (kd:D) (oI:Obj) (J:Inv X ((S,o)::(It,oI)::ak) σ H2 s) (uA:s.heap.IsListIter It l (j+1)) (x:Ext N N2 H H2) (ru:aU v u) (iv:Is X.K N2 v y.2) (rk:aU kv ku) (ik:Is X.K N2 kv kd) (ek:pq kd=some y.1)
def HM {E:QV}{It:Addr}(hh:X.A.handled=none)(g:D6 X X.A.in1 σ (.ref qa) B H1 kf)(hq:gB X.K B l vs)(iv:IsL X.K B vs ds)(h:kZ kf ds=some kO)(ek:fJ kO=some ks)(k:X.s₀.heap.objs.size<=It)(m:∀q∈X.pn++((S,o)::ak),q.1≠It)
  (p:l≠It) (hz:(ks.zip ds)[j]? = some y) (I:Inv X ((S,o)::(It,oI)::ak) σ H s) (uA:s.heap.IsListIter It l j) (G:Ext B N H1 H):
  wpAny (model X.prog X.w) X.A.in1 (pyNext (.ref It)) (λr s1=>∃u,r=some u/\wpAny (model X.prog X.w) X.A.in1 (call (.ref qa) [u]) (MK X ak σ S It l o j N H y u) (λ_ _=>False) s1) E s:=by
 obtain⟨its,t,pl,_⟩:=I.list ((G.bn.trans G.nh).seq hq);obtain⟨hk,hd⟩:=getElem?_zip_eq_some.mp hz;obtain⟨v,x,O⟩:=iv.get hd;obtain⟨kd,T,C⟩:=si h hd;obtain⟨u,hu,ru⟩:=t.get x;have D :=by
  have:=jH ek (i:=j) (vV T).1;rw[vF,T,vF,hk]at this;exact this
 refine(Walks.list   (A:=X.A.in1) hh It l p _).item j _ _ _ (by simpa using(vV hu).1) ⟨uA,pl.isList⟩ λQ h' R F U J=>?_;have a :=by simpa using F
 rw[hu]at a;cases a;obtain⟨M,L,P,c⟩:=id U.1;exact⟨u,rr,cu (g _ _ H N v u y.2 kd (Ca (iO  (Ca I) k m (λb o n e=>J b o (by simpa using n) e) L (λv z=>by rw[c]at z;cases z))) G.hh G.bn G.nh (O.mono G.bn) ru C) λku s2 ⟨kv,H2,d,rk,N2,f,ik⟩=>
  ⟨H2,N2,v,kv,kd,M,d,⟨M,(d.pin (It,M) (mY _ (mZ _ mX))).1,P,c⟩,f,ru,O.mono (G.bn.trans f.bn),rk,ik,D⟩⟩
def Lq {nm lp:String}{ns:Str}{op:CmpOp}{lt:List At->List At->Option Bool}{go:List At×D->List (List At×D)->D}(M:MM nm lp ns op lt go){C:Value}{l S It:Addr}{vs:LV}{ds Q:LD}{ks:List (List At)}{B E:Hp}{Y:D->Option D}{d0:D}{R:Result->Shared->Prop}(hh:X.A.handled=none)(hu:X.A.in1.units<cLine)(Kc:D6 X X.A.in1 σ C B E Y)(ZS:∃a,C=.ref a)(hq:gB X.K B l vs)(iv:IsL X.K B vs ds)
  (Z:kZ Y ds=some Q) (ek:fJ Q=some ks) (hc:dJ ks=true) (S0:X.s₀.heap.objs.size<=S) (I0:X.s₀.heap.objs.size<=It) (Tn:∀q∈X.pn++ak,q.1≠S) (Qh:∀q∈X.pn++ak,q.1≠It) (p:S≠It) (Qj:S≠l) (Qi:l≠It)
  (hR:∀(s':Shared)(H' N:Hp)(v:V)(u:Value),Inv X ak σ H' s'->Ext B N E H'->aU v u->Is X.K N v d0->R (.ok (.ret u)) s'):
  ∀(r j:Nat)(s:Shared)(H N:Hp)(O G:Value)(h T:V)(i U:D)(k:List At)(c:Nat)(oI:Obj),vs.length - j=r->j<=vs.length->Inv X ((S,seqObj "list" #[O,G] c)::(It,oI)::ak) σ H s->s.heap.IsListIter It l j->Ext B N E H ->
   aU h O->Is X.K N h i->aU T G->Is X.K N T U->pq U=some k->k∈ks->go (k,i) ((ks.zip ds).drop j)=d0 ->
   codeAny (model X.prog X.w) X.A (.builtin lp ⟨[.ref It,C,.ref S],[]⟩) R s:=by
 obtain⟨qa,rfl⟩:=ZS;intro r;induction r with
 |zero=>
  intro j s H N O G h T i U k c oI hr hj I uA d F i1 J i2 f mk hd;have L:=I.pin (S,seqObj "list" #[O,G] c) (mY _ mX);have sB:aX B H:=d.bn.trans d.nh;obtain⟨its,rv,pl,_⟩:=I.list (sB.seq hq);have hl:=pl.isList;have W:=Walks.list (prog:=X.prog) (w:=X.w) (A:=X.A.in1) hh It l Qi its.toArray;have hsz:its.toArray.size=its.length:=vH ..;have Nx:vs.length=its.length:=rv.length;have N6:ds.length=its.length:=by rw[<-iv.length];exact rv.length
  have Xw:i=d0:=by
   rw[List.drop_of_length_le (by rw[length_zip];lia)]at hd;rw[M.g0]at hd;exact hd
  subst Xw;refine codeAny_builtin M.en ?_;rw[Around.under_plainId M.pl _];show wpAny _ X.A.in1 (seqItems? (.ref S)>>=_) _ _ _;refine wX (wpAny_seqItems L.1 rr ?_);show wpAny _ X.A.in1 (tryCatch (pyNext (.ref It)) _>>=_) _ _ _;refine wX (wpAny_tryCatch (W.done _ _ _ ⟨by grind,hl⟩ λh' Qf N7=>?_));have t:Inv X ((It,oI)::(S,seqObj "list" #[O,G] c)::ak) σ H s:=Ca I;have VI:∀q∈X.pn++((S,seqObj "list" #[O,G] c)::ak),q.1≠It:=sk Qh p;have J2  :=
   (kY t).turned (t':=Qf) (λb o n e=>N7 b o (by simpa using n) e) (t.pin (It,oI) (mY _ mX)).2.1 (t.pin (It,oI) (mY _ mX)).2.2.1 (.inr I0) (pz t) VI
  have X2:=J2.pin (S,seqObj "list" #[O,G] c) (mY _ mX);obtain⟨c2,NB⟩:∃c2,(h'.update S (Obj.mapSeq λ_=>(#[]:AV))).get? S=some (seqObj "list" #[] c2):=⟨_,get?_update_seq X2.1 λ_=>#[]⟩;have x:=vW h' S (Obj.mapSeq λ_=>(#[]:AV));show wpAny _ X.A.in1 (updateSeq S (λ_=>#[])>>=_) _ _ _;refine wX ?_;refine wpAny_updateSeq X2.1 rr (wX (wpAny_letGo (wY ?_)));exact hR _ H N h O (kY (iO (t':=Qf) J2 S0 Tn (λb o n e=>(x.2 b n).trans e) NB dO)) d F i1
 |succ r ih=>
  intro j s H N O G h T i U k c oI hr hj I uA d F i1 J i2 f mk hd;have vg:j<(ks.zip ds).length:=by rw[length_zip,iD ek,nL Z,<-iv.length];lia
  have L:=I.pin (S,seqObj "list" #[O,G] c) (mY _ mX);have hz:=vU vg;rw[List.drop_eq_getElem_cons vg,M.g1]at hd;generalize (ks.zip ds)[j]=y at hz hd;have hm:y.1∈ks:=vL (getElem?_zip_eq_some.mp hz).1;obtain⟨r,P⟩:=M.cg hc mk hm;refine codeAny_builtin M.en ?_;rw[Around.under_plainId M.pl _];show wpAny _ X.A.in1 (seqItems? (.ref S)>>=_) _ _ _;refine wX (wpAny_seqItems L.1 rr ?_);show wpAny _ X.A.in1 (tryCatch (pyNext (.ref It)) _>>=_) _ _ _;refine wX (wpAny_tryCatch (cu (HM hh Kc hq iv Z ek I0 (sk Qh p) Qi hz I uA d) λ_ s1 ⟨u,e,h1⟩=>?_));subst e;refine wX (wpAny_tryCatch (wpAny_holding (wpAny_mono h1 (λku s2 ⟨H2,N2,v,kv,kd,TU,m,To,g,ru,Ti,rk,ik,Q8⟩=>?_) λ_ _ z=>z.elim)));have t1:=qU m rk (ik.mono g.nh) Q8;have t2:=qU m J (i2.mono (g.bn.trans g.nh)) f;refine wX (wpAny_tryCatch (wpAny_holding (wX (M.rc t1 t2 P hu ?_))));refine wX (wpAny_holding (wpAny_truthy_bool ?_));refine wX (wpAny_letGo (wY ?_));cases r with
  |true=>
   rw[if_pos P]at hd;have x:=vW s2.heap S (Obj.mapSeq λ_=>#[u,ku]);simp only[if_true];have Tp:=m.pin (S,seqObj "list" #[O,G] c) (mY _ mX);refine wX (wpAny_updateSeq Tp.1 rr (wX (wpAny_letGo ?_)));rw[M.hn];obtain⟨o,g1,g2⟩:=To;exact wY ⟨plainId_quiet M.pl _,ih (j+1) _ H2 N2 u ku v kv y.2 kd y.1 _ TU N9 N9 (iO (t':=s2.toks) m S0 (sk Tn p.symm) (λb o n e=>(x.2 b n).trans e) (get?_update_seq Tp.1 λ_=>#[u,ku]) dO) ⟨o,(x.2 It p.symm).trans g1,g2⟩ (d.trans g) ru Ti rk ik Q8 hm hd⟩
  |false=>
   rw[if_neg (by rw[P];simp)]at hd;simp only[uU,if_false];refine wX (wpAny_letGo ?_);rw[M.hn];exact wY ⟨plainId_quiet M.pl _,ih (j+1) _ H2 N2 O G h T i U k c TU N9 N9 m To (d.trans g) F (i1.mono g.bn) J (i2.mono g.bn) f mk hd⟩
end
@[simp] def OY (go:List At×D->List (List At×D)->D)(f:FE)(M:Env->D->Option D):FE:=λρ=>(f ρ).bind λx=>match x.1 with
 |.lst ds=>(kZ (M ρ) ds).bind λG=>(fJ G).bind λks=>if dJ ks=true then match ks.zip ds with
  |[]=>none
  |y::r=>some (go y r,false)
  else none
 |_=>none
@[simp] def Ag:=OY qc
@[simp] def wx:=OY nM
section
variable {X:Cx}{e ke:Expr}{p pos kp:Pos}
def Ah {nm lp:String}{ns:Str}{op:CmpOp}{lt:List At->List At->Option Bool}{go:List At×D->List (List At×D)->D}(M:MM nm lp ns op lt go){f:FE}{m:Env->D->Option D}{k:Nat}(hm:X.mg ns=none)(he:JE X e f)(hk:JK X X.A.in1 ke m)(r:ft k X.A)(hg:Gl X ns:=by rfl)
  (VC:starEach [e] X.env=[(false,eval e X.env)]:=by rfl) (VD:backTo pos (starEach [e] X.env)=(false,eval e X.env)::backTo pos (starEach [] X.env):=by rfl) (JQ:(backTo pos (starEach [e] X.env)).any (·.1)=false:=by rfl)
  (JR:(backToKw pos (keywordEach [⟨some "key",ke,kp⟩] X.env)).all (·.1.isSome)=true:=by rfl) (VE:(backToKw pos (keywordEach [⟨some "key",ke,kp⟩] X.env)).any (·.1.isNone)=false:=by rfl)
  (VF:(backToKw pos (keywordEach [⟨some "key",ke,kp⟩] X.env)).filterMap (·.1)=[("key" : Str)]:=by rfl):
  JE X (.Call (.Name ns p) [e] [⟨some "key",ke,kp⟩] pos) (OY go f m):=by
 intro ak s σ H Q I h;obtain⟨B,ρ,d,b,sB,rep,G,q⟩:=h;obtain⟨⟨xd,xb⟩,ex,G⟩:=oX G;cases xd<;>try (cases G;done)
 rename_i ds;obtain⟨kO,t,G⟩:=oX G;obtain⟨ks,ek,G⟩:=oX G;split at G
 .rename_i hc;split at G
  .cases G
  .rename_i y rest c;cases G
   refine wpAny_Call_Name_kw (gA I hg hm M.bt ?_ M.n1 M.n2);refine callWith_kw (cu ((eB he gD VC) pos ak s σ H (λvs a=>∃v N,vs=[v]/\Ext B N H a/\Is X.K N v (.lst ds)) I ⟨B,ρ,_,_,sB,rep,ex,λv a N T i1 _=>⟨v,N,rr,T,i1⟩⟩) λus s1 hA=>?_) VD JQ JR VE;obtain⟨ZP,a,I1,r1,v,N,rfl,T,i1⟩:=hA;obtain⟨u,rfl,ru⟩:=ij r1;refine kws_cons (hk ak s1 σ a N ρ _ _ I1 T.nh (rep.mono T.bn) λg H2 s2 U m2 w=>kws_nil ?_);rw[VF];cases i1
   rename_i l vs hq i;cases ru
   have x:aX N H2:=T.nh.trans m2;obtain⟨its,rv,pl,hz⟩:=U.list (x.seq hq);have C:l<s2.heap.objs.size:=by
    obtain⟨ol,TQ,_⟩:=pl.isList;exact vX TQ
   have E:(ks.zip ds)[0]? = some y:=by rw[c];rfl
   have ZT:=vL (getElem?_zip_eq_some.mp E).1;refine kmk_tree M.k2 M.p2 M.e2 (M.ka _ _) ?_;refine wX (wpAny_of_eq (show Builtin.Builtins.bindParams nm ["key","default"] 0 ⟨[],[(Str.ofString "key",.ref g)]⟩=pure [some (.ref g),none]from rr) ?_);refine wX (wY ?_);refine wX (wpAny_pyIter_list pl.isList ?_);refine wX (wpAny_newList ?_ (uM _));rw[M.hn];let It:Addr:=s2.heap.objs.size;let oI:Obj:={ cls:=.type "list_iterator",data:=.fields #[.ref l,.int 0 0] };let S:Addr:=(s2.heap.push oI).objs.size;have hS:S=s2.heap.objs.size+1:=size_push' ..;have O:S≠It:=by rw[hS];exact ne_of_gt (lt_succ_self _)
   have J1:Inv X ((It,oI)::ak) σ H2 { s2 with heap:=s2.heap.push oI }:=qT (t':=s2.toks) U (λb u q=>vZ _ q) (vT _) (vY _ rr) (λv z=>by cases z);have j:Inv X ((S,seqObj "list" #[] 0)::(It,oI)::ak) σ H2 _:=qT (s:={ s2 with heap:=s2.heap.push oI }) (t':=s2.toks) J1 (λb u q=>vZ _ q) (vT _) (vY _ rr) dO;have F:X.s₀.heap.objs.size<=It:=U.sz;have J:X.s₀.heap.objs.size<=S:=by rw[hS];exact Nat.le_succ_of_le U.sz
   have L:∀q∈X.pn++ak,q.1≠It:=λq hq=>vS (vX (U.pin q hq).1);have P:∀q∈X.pn++ak,q.1≠S:=λq hq=>by rw[hS];exact vS (lt_succ_of_lt (vX (U.pin q hq).1))
   have R:l≠It:=vS C;have Qj:S≠l:=by rw[hS];exact ne_of_gt (lt_succ_of_lt C)
   have hh:X.A.handled=none:=r.hd;have hu:X.A.in1.units<cLine:=by have:=r.un;show X.A.units+1<cLine;lia
   have pS:=j.pin (S,seqObj "list" #[] 0) (mY _ mX);have pI:=j.pin (It,oI) (mY _ (mZ _ mX));refine wY ⟨plainId_quiet M.pl _,?_⟩;refine codeAny_builtin M.en ?_;rw[Around.under_plainId M.pl _];refine wX (wpAny_seqItems pS.1 rr ?_);refine wX (wpAny_tryCatch (cu (HM hh w hq i t ek F (sk L O) R E j ⟨oI,pI.1,rr,rr⟩ (.refl x)) λ_ s1 ⟨u,e,h1⟩=>?_));subst e;refine wX (wpAny_tryCatch (wpAny_holding (wpAny_mono h1 (λku V ⟨H3,N3,v,kv,kd,TU,W,⟨o,g1,g2⟩,x3,ru,Ti,rk,ik,Q8⟩=>?_) λ_ _ z=>z.elim)));have Y:=W.pin (S,seqObj "list" #[] 0) (mY _ mX);have Z:=vW V.heap S (Obj.mapSeq λ_=>#[u,ku]);refine wX (wpAny_updateSeq Y.1 rr ?_);rw[M.hn];have VL:1<=vs.length:=by
    have:=congrArg List.length c;rw[length_zip,vC,<-i.length]at this;lia
   exact wY ⟨plainId_quiet M.pl _,Lq M (S:=S) (It:=It) hh hu w ⟨g,rr⟩ hq i t ek hc J F P L O Qj R (λs' H' N' v' u' J' x' r' i'=>⟨v',H',J',r',q _ _ _ ((T.trans (.grow T.nh m2)).trans x') i' X9⟩) _ 1 _ H3 N3 u ku v kv y.2 kd y.1 _ TU rr VL
    (iO (t':=V.toks) W J (sk P O.symm) (λb o n e=>(Z.2 b n).trans e) (get?_update_seq Y.1 λ_=>#[u,ku]) dO) ⟨o,(Z.2 It O.symm).trans g1,g2⟩ x3 ru Ti rk ik Q8 ZT (by rw[c];rfl)⟩
 .cases G
end
section
variable {X:Cx}
@[simp] def QC:D->D->OB
 |.tup xs,.tup ys=>(jX xs).bind λG=>(jX ys).bind λbs=>(b8 G bs).map λr=>(.bl r,false)
 |_,_=>none
def Nj (hu:X.A.units+40<cLine):dS X (compareOp .Lt) (rD X.K QC):=by
 intro ak s σ H x y v u Q I M O q;obtain⟨B,dx,T,d,b,G,U,a,e,q⟩:=q;cases dx<;>try (simp  at e)
 cases T<;>try (simp  at e)
 obtain⟨g,c,e⟩:=oX e;obtain⟨bs,e2,e⟩:=oX e;obtain⟨r,f,e⟩:=oY e;cases e
 exact HL (qU I M (U.mono G) c) (qU I O (a.mono G) e2) f N9 ⟨.bl r,H,I,rr,q.one G (.bl r)⟩
end
end DL
namespace DL
open PySem PySem.Spec PyProof.Rows L2
section
variable {X:Cx}
noncomputable def Ai:D->D->OB
 |.tup xs,.tup ys=>if xs.isEmpty=true then some (.tup ys,false)else none
 |_,_=>none
def Lr:dS X (binaryOp .Add) (rD X.K Ai):=by
 intro ak s σ H x y v u Q I b c q;obtain⟨B,dx,o,d,bb,O,e,f,G,q⟩:=q;cases e<;>try (cases G;done)
 cases f<;>try (cases G;done)
 rename_i l vs ds h hl a p es h' T;simp only[Ai]at G;split at G
 .cases G
  cases b
  cases c
  obtain⟨its,g,i,_⟩:=I.tuple (bu O h);obtain⟨r,t,p2,_⟩:=I.tuple (bu O h');have he:its.toArray.isEmpty=true:=by
   have w:=hl.length;have e2:=g.length;simp_all
  obtain⟨⟨cls,dd,data,sl⟩,ho,hc,n,hd⟩:=id i;obtain⟨⟨z,U,data2,j⟩,M,k,n2,m⟩:=id p2;subst hc;subst hd;subst k;subst m;exact concat_meets ⟨_,ho,rr⟩ ⟨_,M,rr⟩ noFill_tuple_add seq_tuple_add slot_tuple_add entry_tuple_add (args_tuple_add_2 _ _)
   (tuple_addW0 l a _ _ n n2 dd U sl j he) ⟨ho,M,⟨.ref a,H,I,rr,q.one O (.tup h' T)⟩⟩
 simp_all
@[simp] noncomputable def D8:D->D->OB
 |.tup xs,.tup ys=>if xs.length+ys.length<=sizeLine then some (.tup (xs++ys),false)else none
 |_,_=>none
def Ls (xs ys:LD)(z:xs.length+ys.length<=sizeLine):Qu BE Ai (.tup xs) (.tup ys)=some (.tup (xs++ys),false):=by
 cases xs with
 |nil=>
  have:BE (.tup []) (.tup ys)=none:=if_neg (λh=>by cases h.2);show(match BE _ _ with|some z=>some z|none=>Ai _ _)=_;rw[this];rfl
 |cons a l=>
  have:BE (.tup _) (.tup ys)=some _:=if_pos ⟨z,rr⟩;show(match BE _ _ with|some z=>some z|none=>Ai _ _)=_;rw[this]
def HN:dS X (binaryOp .Add) (rD X.K D8):=by
 refine jw  (oR He Lr) λx y H Q q=>?_;obtain⟨B,dx,T,d,bb,U,M,O,G,q⟩:=q;refine⟨B,dx,T,d,bb,U,M,O,?_,q⟩;cases M<;>try (cases G)
 cases O<;>try (cases G)
 simp only[D8]at G;split at G
 .rename_i hz;rw[Ls _ _ hz];exact G
 .cases G
end
section
variable {X:Cx}
@[simp] def yk:LD->OB
 |[d,.tup [.ty n,.ty m]]=>if BD d=true then none else if n = "list"/\m = "tuple" then some (.bl (jx d == "list" || jx d == "tuple"),false)else none
 |_=>none
def Fp (K:Frag)(d:D)(hd:∀n,d≠.ty n):PySem.W.kitAny K (.type (jx d)) [.type "list",.type "tuple"]=some (jx d == "list" || jx d == "tuple"):=by
 obtain⟨_,_,_,k4,k5⟩:=Ha K d hd;unfold PySem.W.kitAny;rw[k4];cases jx d == "list" with
 |true=>rfl
 |false=>
  unfold PySem.W.kitAny;rw[k5];cases jx d == "tuple" with
  |true=>rfl
  |false=>rfl
def HP (I:Inv X ak σ H s)(i:Is X.K H v d)(hd:∀n,d≠.ty n)(G:aU v u)(M:IsTup s.heap tp its.toArray)(e:PySem.W.kitAny X.K (.type (jx d)) its=some b)(h:∀tk,Q (.bool b) { s with toks:=tk }):
  wpAny (model X.prog X.w) A (call (.builtin "isinstance") [u,.ref tp]) Q E s:=by
 obtain⟨⟨cls,dd,data,sl⟩,ho,hc,n,O⟩:=id M;subst hc;subst O;cases i with
 |non=>cases (show u=Value.none from G);exact PySem.W.kia_tup PySem.W.kitx_none I.kIn True.intro ho e (λz=>nomatch z) h
 |bl y=>cases (show u=Value.bool y from G);exact PySem.W.kia_tup PySem.W.kitx_bool I.kIn True.intro ho e (λz=>nomatch z) h
 |int i=>obtain⟨t,q⟩:=(show ∃t,u=Value.int i t from G);cases q;exact PySem.W.kia_tup PySem.W.kitx_int I.kIn True.intro ho e (λz=>nomatch z) h
 |str y=>obtain⟨t,q⟩:=(show ∃t,u=Value.str y t from G);cases q;exact PySem.W.kia_tup PySem.W.kitx_str I.kIn True.intro ho e (λz=>nomatch z) h
 |ty n=>exact absurd rr (hd n)
 |dk h1 _ _=>
  cases G
  obtain⟨_,_,_,vs,_,o,es,U,T,e2,_⟩:=(show bJ X.prog X.w H s.heap _ (.dK _ _)from I.hok _ _ h1);exact PySem.W.kia_tup PySem.W.kitx_dict I.kIn ⟨o,T,e2.1⟩ ho e (λz=>nomatch z) h
 |dt h1 _ _=>
  cases G
  obtain⟨_,_,xs,_,o,es,U,T,e2,_⟩:=(show bJ X.prog X.w H s.heap _ (.dT _)from I.hok _ _ h1);exact PySem.W.kia_tup PySem.W.kitx_dict I.kIn ⟨o,T,e2.1⟩ ho e (λz=>nomatch z) h
 |tup M _=>
  cases G
  obtain⟨its,_,⟨o,h1,h2,_⟩,_⟩:=I.tuple M;exact PySem.W.kia_tup PySem.W.kitx_tuple I.kIn ⟨o,h1,h2⟩ ho e (λz=>nomatch z) h
 |lst hl _=>
  cases G
  obtain⟨its,_,⟨o,n,h1,h2,_⟩,_⟩:=I.list hl;exact PySem.W.kia_tup PySem.W.kitx_list I.kIn ⟨o,h1,h2⟩ ho e (λz=>nomatch z) h
def Fq:bY X (.builtin "isinstance") (B7 X.K yk):=by
 intro ak s σ H xs us Q I rs q;obtain⟨B,ds,d,b,G,i,e,q⟩:=q;cases i with
 |nil=>cases e
 |@cons _ dx _ _ i1 i=>
  cases i with
  |nil=>cases e
  |cons i2 i=>
   cases i with
   |cons _ _=>simp  at e
   |nil=>
    cases i2<;>try (cases e)
    rename_i hs hl;cases hl with
    |nil=>cases e
    |cons T hl=>
     cases T<;>try (cases e)
     cases hl with
     |nil=>cases e
     |cons U hl=>
      cases U<;>try (cases e)
      cases hl with
      |cons _ _=>simp  at e
      |nil=>
       obtain⟨h,j,rfl,a,c⟩:=CN rs;simp only[yk]at e;split at e
       .cases e
       .rename_i f;have hd:∀n,dx≠.ty n:=λn z=>by subst z;exact f rr
        split at e
        .rename_i hh;obtain⟨rfl,rfl⟩:=hh;cases e
         cases c
         obtain⟨its,g,p,_⟩:=I.tuple (bu G hs);obtain⟨k,l,rfl,M,O⟩:=g.two;cases M
         cases O
         exact HP I (i1.mono G) hd a p (Fp X.K dx hd) λtk=>⟨.bl _,H,I.tok tk,rr,q.one G (.bl _)⟩
        .cases e
end
@[simp] noncomputable def la:D->Option fG
 |.int i=>some (.inl i)
 |.str x=>some (.inr x)
 |_=>none
def qe {K:Frag}{B:Hp}{v:V}{d:D}{k:fG}(i:Is K B v d)(e:la d=some k):v=kV k:=by
 cases i<;>simp  [la]at e<;>cases e<;>rfl
noncomputable def fB {κ:Type}[DecidableEq κ]:List κ->LD->κ->Option D
 |k'::ks,d::ds,k=>if k'=k then some d else fB ks ds k
 |_,_,_=>none
theorem sn {κ:Type}[DecidableEq κ]{K:Frag}{B:Hp}(k:κ):∀ {ks:List κ}{vs:LV}{ds:LD},ks.length=vs.length->IsL K B vs ds ->
  (∃v d,kL (ks.zip vs) k=some v/\fB ks ds k=some d/\Is K B v d)\/(kL (ks.zip vs) k=none/\fB ks ds k=none)
 |[],vs,ds,_,_=>.inr ⟨by cases vs<;>rfl,by cases ds<;>rfl⟩
 |k'::ks,[],_,h,_=>by simp at h
 |k'::ks,v::vs,_,h,.cons i is=>by
  rw[zip_cons_cons];unfold fB;by_cases e:k'=k
  .rw[if_pos e];exact .inl ⟨v,_,nn  e,rr,i⟩
  .rw[if_neg e,no  e];exact sn k (by simpa using h) is
section
variable {X:Cx}{o e i:Expr}{pos:Pos}
@[simp] def OZ:D->D->OB
 |.dk ks vs,y=>(la y).map λk=>((fB ks vs k).getD .non,false)
 |_,_=>none
def HQ {dn cf:Pos}{b fe:FE}(hu:X.A.units+1<cLine)(ho:JE X o b)(he:JE X e fe)(m:M1 X o "get" dn e cf):JE X (.Call (.Attribute o "get" dn) [e] [] cf) (f2 OZ b fe):=by
 refine PE.to (yZ hu ho he m) λσ H Q q=>?_;obtain⟨B,ρ,d,bb,c,r,G,q⟩:=q;obtain⟨x,ex,G⟩:=oX G;obtain⟨y,f,G⟩:=oX G;refine⟨B,ρ,x.1,x.2,c,r,ex,λv l N1 O i1 n=>?_⟩;obtain⟨xd,p⟩:=x;cases i1 with
 |@dk a ks vs ds ob h hl hs=>
  obtain⟨k,hk,G⟩:=oY G;cases G
  refine⟨a,rr,.inl ⟨_,_,.inl (O.nh _ _ h)⟩,N1,ρ,y.1,y.2,O.nh,r.mono O.bn,f,λs H2 N2 M i2 _=>?_⟩;have g:=qe i2 hk;subst g;refine⟨kL _ k,.inl ⟨_,k,_,.inl (M.nh _ _ (M.bn _ _ h)),rr,rr⟩,?_⟩;have T:=hs.mono M.bn;rcases sn k hl T with⟨v,d',U,e2,j⟩|⟨U,e2⟩
  .rw[U];rw[e2]at q;exact(q.into (O.trans M)).one M.nh j
  .rw[U];rw[e2]at q;exact(q.into (O.trans M)).one M.nh .non
 |_=>simp  at G
@[simp] def T3:D->D->OB
 |.dk ks vs,y=>(la y).bind λk=>(fB ks vs k).map λd=>(d,false)
 |_,_=>none
def HR {U fi:FE}(hu:X.A.units+1<cLine)(ho:JE X o U)(hi:JE X i fi)(hs:Ow i):JE X (.Subscript o i pos) (f2 T3 U fi):=by
 refine PE.to (K4 hu ho hi hs) λσ H Q q=>?_;obtain⟨B,ρ,d,bb,b,r,G,q⟩:=q;obtain⟨x,ex,G⟩:=oX G;obtain⟨y,c,G⟩:=oX G;refine⟨B,ρ,x.1,x.2,b,r,ex,λv l N1 O i1 m=>?_⟩;obtain⟨xd,n⟩:=x;cases i1 with
 |@dk a ks vs ds ob h hl T=>
  obtain⟨k,hk,G⟩:=oX G;obtain⟨d0,hd,G⟩:=oY G;cases G
  refine⟨N1,ρ,y.1,y.2,O.nh,r.mono O.bn,c,λp H2 N2 M i2 _=>?_⟩;have f:=qe i2 hk;subst f;rcases sn k hl (T.mono M.bn)with⟨v,d',g,e2,j⟩|⟨_,e2⟩
  .rw[hd]at e2;cases e2
   exact⟨a,v,rr,.inl ⟨_,k,_,.inl (M.nh _ _ (M.bn _ _ h)),rr,g.symm⟩,(q.into (O.trans M)).one M.nh j⟩
  simp_all
 |_=>simp  at G
@[simp] def Wt:D->D->OB
 |y,.dk ks vs=>(la y).map λk=>(.bl (fB ks vs k).isSome,false)
 |_,_=>none
@[simp] def Cb:D->D->OB
 |y,.dk ks vs=>(la y).map λk=>(.bl (!(fB ks vs k).isSome),false)
 |_,_=>none
def wy {κ:Type}[DecidableEq κ]{K:Frag}{B:Hp}{k:κ}{ks:List κ}{vs:LV}{ds:LD}(hl:ks.length=vs.length)(hs:IsL K B vs ds):(kL (ks.zip vs) k).isSome=(fB ks ds k).isSome:=by
 grind[sn]
def Fs {fi T:FE}(hu:X.A.units+1<cLine)(hi:JE X i fi)(ho:JE X o T)(hm:behindInMarks .NotIn o=false:=by first|exact j7 _ Z9 Z9|rfl):JT X (.Compare i [.NotIn] [o] pos) (aR (f2 Cb fi T)):=by
 refine PT.to (NM (ET hu hi ho) hm) λσ H Q q=>?_;obtain⟨B,ρ,d,bb,U,r,G,q⟩:=rC q;obtain⟨y,b,G⟩:=oX G;obtain⟨x,ex,G⟩:=oX G;refine⟨B,ρ,y.1,y.2,U,r,b,λf g N1 M i2 _=>⟨N1,ρ,x.1,x.2,M.nh,r.mono M.bn,ex,λv H2 N2 O i1 j=>?_⟩⟩;obtain⟨xd,l⟩:=x;cases i1 with
 |@dk a ks vs ds ob h hl hs=>
  obtain⟨k,hk,G⟩:=oY G;cases G
  have c:=qe i2 hk;subst c;refine⟨a,kL _ k,rr,.inl ⟨_,k,_,.inl (O.nh _ _ h),rr,rr⟩,?_⟩;rw[wy hl hs];exact(q.into (M.trans O)).one O.nh (.bl _)
 |_=>simp  at G
end
noncomputable def iz {κ:Type}[DecidableEq κ](ks:List κ)(k:κ):List κ:=if k∈ks then ks else ks++[k]
noncomputable def fK {κ α:Type}[DecidableEq κ](ks:List κ)(xs:List α)(k:κ)(x:α):List α:=if k∈ks then List.zipWith (λk' G=>if k'=k then x else G) ks xs else xs++[x]
theorem D9 {κ:Type}[DecidableEq κ](k:κ):∀ {ks:List κ}{vs:LV},ks.length=vs.length->((ks.zip vs).any λkv=>decide (kv.1=k))=decide (k∈ks)
 |[],_,_=>by simp
 |k'::ks,[],h=>by simp at h
 |k'::ks,v::vs,h=>by
  have G:=D9 k   (by simpa using h);simp_all<;>lia
theorem DA {κ:Type}[DecidableEq κ](k:κ)(v:V):∀(ks:List κ)(vs:LV),(ks.zip vs).map (λkv=>if kv.1=k then (kv.1,v)else kv)=ks.zip (List.zipWith (λk' G=>if k'=k then v else G) ks vs)
 |[],_=>by simp
 |_::_,[]=>by simp
 |k'::ks,w::vs=>by
  rw[zip_cons_cons,uX,DA k v ks vs,List.zipWith_cons_cons,zip_cons_cons];lia
def qV {κ:Type}[DecidableEq κ]{ks:List κ}{vs:LV}(hl:ks.length=vs.length)(k:κ)(v:V):oP (ks.zip vs) k v=(iz ks k).zip (fK ks vs k v):=by
 unfold oP iz fK;rw[D9 k hl];by_cases h:k∈ks
 .rw[if_pos (pP h),if_pos h,if_pos h,DA]
 simp_all[List.zip_append]
def nN {κ α:Type}[DecidableEq κ]{ks:List κ}{xs:List α}(hl:ks.length=xs.length)(k:κ)(x:α):(iz ks k).length=(fK ks xs k x).length:=by
 unfold iz fK;split<;>simp[hl]
theorem IsL.zipWith {κ:Type}[DecidableEq κ]{K:Frag}{B:Hp}{k:κ}{v:V}{d:D}(i:Is K B v d):∀ {ks:List κ}{vs:LV}{ds:LD},IsL K B vs ds->IsL K B (List.zipWith (λk' G=>if k'=k then v else G) ks vs) (List.zipWith (λk' G=>if k'=k then d else G) ks ds)
 |[],_,_,_=>by simpa using IsL.nil
 |_::_,_,_,.nil=>by simpa using IsL.nil
 |k'::ks,_,_,.cons h t=>by
  rw[List.zipWith_cons_cons];refine .cons ?_ (IsL.zipWith i t);split<;>simp_all
def IsL.put {κ:Type}[DecidableEq κ]{K:Frag}{B:Hp}{k:κ}{v:V}{d:D}(i:Is K B v d){ks:List κ}{vs:LV}{ds:LD}(h:IsL K B vs ds):IsL K B (fK ks vs k v) (fK ks ds k d):=by
 unfold fK;split
 .exact h.zipWith i
 .exact h.append (.cons i .nil)
section
variable {K:Frag}{E:Ends}{σ:St}{H:Hp}
noncomputable def DB (i:Nat):FS:=λρ=>some (.nx (ρ.set i (some (.dk [] [],true))))
noncomputable def HS (i:Nat):FS:=λρ=>some (.nx (ρ.set i (some (.dt [] [],true))))
def eI.newBox (s:eI K B0 H0 N H σ ρ)(i:Nat)(hp:H p=none)(hb:∀C,Bx K C ob dd):eI K B0 H0 (upd N p ob) (upd H p ob) (σ.set i (some (.ref p))) (ρ.set i (some (dd,true))):=by
 have x:=Ext.laid (o:=ob) s.ext.nh hp;have s1:=s.grow x;have G :=s.ext.nh.free hp;have M:¬own σ ρ p:=λz=>by obtain⟨T,⟨q,_⟩,_⟩:=s.owned z;lia
 have c:aX _ (fw (upd N p ob) (λb=>own σ ρ b\/b=p)):=fH λb u e q=>⟨x.bn _ _ e,λz=>z.elim q λz=>by subst z;rw[G]at e;cases e⟩;refine s1.bindOwn a6 (s.ext.hh.free hp) (λj e q z=>M ⟨j,e,q,z⟩) (λj e _ q=>?_) (λj e _ q=>?_) (hb _)
 .obtain⟨w,h1,h2⟩:=s.sh j e q;exact⟨w,h1,h2.mono c⟩
 .obtain⟨O,o',h1,h2,_,h4⟩:=s.ow j e q;exact⟨O,o',h1,x.bn _ _ h2,h4.mono c⟩
def HU (q:oJ K (DB i) E σ H):ED GC (kP i) E σ H:=by
 obtain⟨B0,H0,ρ,r,⟨N,s⟩,e,p⟩:=q;cases e
 exact λa ob ha=>p _ _ ⟨_,s.newBox i ha λ_=>.dk (ks:=[])  rr .nil⟩
def HV (q:oJ K (HS i) E σ H):ED GD (kP i) E σ H:=by
 obtain⟨B0,H0,ρ,r,⟨N,s⟩,e,p⟩:=q;cases e
 exact λa ha=>p _ _ ⟨_,s.newBox i ha λ_=>.dt (ks:=[])  rr .nil⟩
def Aj (i:Nat)(M O:FE):FS:=λρ=>match ρ[i]? with
 |some (some (.dk ks vs,true))=>(O ρ).bind λv=>(M ρ).bind λk=>(la k.1).bind λG=>if bf v.1=true/\ks.length<sizeLine then some (.nx (ρ.set i (some (.dk (iz ks G) (fK ks vs G v.1),true))))else none
 |_=>none
def HW {i:Nat}{G M:FE}(q:oJ K (Aj i G M) E σ H):CU (qG i) (tD K G) (tD K M) E σ H:=by
 obtain⟨B0,H0,ρ,r,⟨N,s⟩,e,p⟩:=q;unfold Aj at e;split at e
 .rename_i ks ds ei;obtain⟨v,T,e⟩:=oX e;obtain⟨k,ek,e⟩:=oX e;obtain⟨U,hk,e⟩:=oX e;split at e
  .rename_i hx;cases e
   refine⟨N,ρ,v.1,v.2,s.ext.nh,s.rep,T,λd f N1 b i1 _=>?_⟩;have s1:=s.grow b;obtain⟨a,o,h1,h2,h3,h4⟩:=s1.ow i _ ei;refine⟨.ref a,h1,N1,ρ,k.1,k.2,s1.ext.nh,s1.rep,ek,λg H2 N2 O i2 _=>?_⟩;have s2:=s1.grow O;have c:=qe i2 hk;subst c;obtain⟨h,o',k1,k2,k3,k4⟩:=s2.ow i _ ei;rw[h1]at k1;cases k1
   cases k4 with
   |@dk ks vs ds hl h5 ob=>
    refine⟨a,rr,.inl ⟨_,U,_,s2.ext.nh _ _ k2,rr,?_,λj=>?_⟩⟩
    .rw[length_zip];lia
    .rw[qV hl];exact p σ _ ⟨_,s2.writeB ei h1 (.dk (nN hl _ _) (h5.put (s2.flat (i1.mono O.bn) hx.1)))⟩
  .cases e
 simp_all
end
section
variable {X:Cx}{pos:Pos}{e k:Expr}
def DC (G:X.N.Nodup)(hi:X.N[i]? = some x:=by rfl)(hx:JU X.env.scope x:=by first|exact Or.inl rr|exact Or.inr rr)(hs:swapsWith (.Dict [] [] dp) (some (.Name x p)) pos.line X.env=pure false:=by rfl)
  (hf:X.fn x=true\/X.env.scope.names.lookup x=some .local:=by first|exact .inl rr|exact .inr rr):JS X (.Assign [.Name x p] (.Dict [] [] dp) pos) (DB i):=PS.to (xy G hi hx GF hs hf) λ_ _ _ q=>HU q
def Lu (G:X.N.Nodup)(hi:X.N[i]? = some x:=by rfl)(hx:JU X.env.scope x:=by first|exact Or.inl rr|exact Or.inr rr)(hs:swapsWith (.Dict [] [] dp) (some (.Name x p)) pos.line X.env=pure false:=by rfl)
  (hf:X.fn x=true\/X.env.scope.names.lookup x=some .local:=by first|exact .inl rr|exact .inr rr):JS X (.Assign [.Name x p] (.Dict [] [] dp) pos) (HS i):=PS.to (xy G hi hx GG hs hf) λ_ _ _ q=>HV q
def Lv (hu:X.A.units+1<cLine)(O:JE X e U)(hk:JE X k fk)(T:X.N[i]? = some y:=by rfl)(G:NH X.env.scope y:=by first|exact Or.inl rr|exact Or.inr (Or.inl rr)|exact Or.inr (Or.inr rr))(hd:(y == ("__debug__" : Str))=false:=by decide)
  (M:(y == ("__classdict__" : Str))=false:=by decide) (hs:swapsWith e (some (.Subscript (.Name y py) k pt)) pos.line X.env=pure false:=by rfl):JS X (.Assign [.Subscript (.Name y py) k pt] e pos) (Aj i fk U) :=
 PS.to (xH hu (rf T G hd M) hk O hs) λ_ _ _ q=>HW q
end
section
variable {prog:Program}{w:World}{A:Around}{E:QV}{s:Shared}
abbrev p0 (h:Heap)(z TI TO G:Addr)(f:Bool):Prop:=h.get? z=some { cls:=.type "zip",dict:=none,data:=.fields #[rawInt G,.bool f,.bool false,.ref TI,.ref TO],slots:=#[] }
def HX (e:s.heap.get? a=some o)(h:Q (some o) s):wpAny (model prog w) A (loadIfAlive a) Q E s:=by
 intro M p G;simp_all[loadIfAlive]
def wz {z TI TO G:Addr}{f:Bool}{O:Obj}{Q:Bool->Shared->Prop}(hz:p0 s.heap z TI TO G f)(T:s.heap.get? G=some O)
  (q:∀h',p0 h' z TI TO G true->Heap.SameBut z s.heap h'->Q false { s with heap:=h' }):wpAny (model prog w) A (Builtin.SmallTypes.ownedTupleIsFree (.ref z)) Q E s:=by
 refine wX (wpAny_field hz rr  rr ?_);show wpAny _ _ (loadIfAlive _>>=_) _ _ _;refine wX (HX T ?_);refine wX (wpAny_field hz rr  rr ?_);cases f with
 |true=>
  exact wY (q _ hz (.refl _ _))
 |false=>
  refine wX (wpAny_setField_rec hz X9 λh' M s'=>wY (q h' M s'))
end
section
variable {prog:Program}{w:World}{A:Around}{E:QV}{s:Shared}
def Ft {k1 k2:Bool}{z TI TO T i1 i2 l1 l2:Addr}{f:Bool}{i:Obj}{j:Nat}{xs ys:AV}{x y:Value}{Q:QV}(D:ZApart z TI TO i1 i2)(m1:l1≠z/\l1≠TO/\l1≠i1)(m2:l2≠z/\l2≠TO/\l2≠i1/\l2≠i2)
  (hz:p0 s.heap z TI TO T f) (k:s.heap.get? T=some i) (l:IsPair s.heap TI (.ref i1) (.ref i2)) (m:lN k1 s.heap i1 l1 j) (n:lN k2 s.heap i2 l2 j) (p:lO k1 s.heap l1 xs) (r:lO k2 s.heap l2 ys) (hx:xs[j]? = some x) (hy:ys[j]? = some y)
  (q:∀h',p0 h' z TI TO T true->lN k1 h' i1 l1 (j+1)->lN k2 h' i2 l2 (j+1)->IsPair h' s.heap.objs.size x y ->
   (∀c o,c≠z->c≠i1->c≠i2->s.heap.get? c=some o->h'.get? c=some o)->Q (.ref s.heap.objs.size) { s with heap:=h' }):
  wpAny (model prog w) A (Builtin.«zip.__next__» ⟨[.ref z],[]⟩) (λii s'=>∃v,ii=.done (.ret v)/\Q v s') E s:=by
 show wpAny _ _ (field (.ref z) 2>>=_) _ _ s;refine wX (wpAny_field hz rr (x:=.bool false) rr ?_);refine wX (wpAny_field hz rr (x:=.ref TI) rr (wX (wpAny_seqItems l rr ?_)));refine wX (wz hz k λg1 U s1=>?_);simp only[uU,if_false];refine wX ?_;refine wX (wX (wpAny_holding ?_));refine wX (gG (s:={ s with heap:=g1 }) (m.upon λo e=>s1.extBut _ _ D.az e) (p.upon λo e=>s1.extBut _ _ m1.1 e) hx λh a s2=>wY ?_);refine wY (wX (wX (wpAny_holding ?_)));have G:∀ {c o},c≠z->c≠i1->s.heap.get? c=some o->h.get? c=some o:=λM c3 e=>s2.extBut _ _ c3 (s1.extBut _ _ M e);refine wX (gG (s:={ s with heap:=h }) (n.upon λo e=>G D.bz D.ab.symm e) (r.upon λo e=>G m2.1 m2.2.2.1 e) hy λb d O=>wY ?_);refine wY (wY ?_);refine wX (wpAny_newTuple (hsz:=(by decide:2<=sizeLine)) ?_);have sz:b.objs.size=s.heap.objs.size:=by rw[O.1,s2.1,s1.1]
 have t:∀c o,c≠z->c≠i1->c≠i2->s.heap.get? c=some o->b.get? c=some o:=λc o M c3 g e=>O.extBut _ _ g (G M c3 e);refine wY ⟨_,rr,?_⟩;have hp:IsPair _ b.objs.size x y:=vY _ rr;rw[sz]at hp |-;exact q _ (vZ _ (O.extBut _ _ D.bz.symm (s2.extBut _ _ D.az.symm U))) (a.upon λo e=>vZ _ (O.extBut _ _ D.ab e)) (d.upon λo e=>vZ _ e) hp λc o M c3 g e=>vZ _ (t c o M c3 g e)
def HY {k1 k2:Bool}{z TI TO T i1 i2 l1 l2:Addr}{f:Bool}{d:Obj}{j:Nat}{xs ys:AV}{Q:PySem.Fin->Shared->Prop}(U:A.handled=none)(D:ZApart z TI TO i1 i2)(m1:l1≠z/\l1≠TO/\l1≠i1)(m2:l2≠z/\l2≠TO/\l2≠i1/\l2≠i2)
  (hz:p0 s.heap z TI TO T f) (g:s.heap.get? T=some d) (h:IsPair s.heap TI (.ref i1) (.ref i2)) (a:lN k1 s.heap i1 l1 j) (i:lN k2 s.heap i2 l2 j) (b:lO k1 s.heap l1 xs) (k:lO k2 s.heap l2 ys) (he:xs[j]? = none\/ys[j]? = none)
  (q:∀h' x,(∀c o,c≠z->c≠i1->c≠i2->s.heap.get? c=some o->h'.get? c=some o)->(∃o,h'.get? x=some o/\o.cls=.type "StopIteration")->E (.ref x) { s with heap:=h' }):
  wpAny (model prog w) A (Builtin.«zip.__next__» ⟨[.ref z],[]⟩) Q E s:=by
 show wpAny _ _ (field (.ref z) 2>>=_) _ _ s;refine wX (wpAny_field hz rr (x:=.bool false) rr ?_);refine wX (wpAny_field hz rr (x:=.ref TI) rr (wX (wpAny_seqItems h rr ?_)));refine wX (wz hz g λg1 l s1=>?_);refine wX ?_;refine wX (wX (wpAny_holding ?_));cases hx:xs[j]? with
 |none=>
  exact wX (jE (s:={ s with heap:=g1 }) U (a.upon λo e=>s1.extBut _ _ D.az e) (b.upon λo e=>s1.extBut _ _ m1.1 e) hx λO x s2 hX=>q O x (λc o M c3 _ e=>s2 _ _ c3 (s1.extBut _ _ M e)) hX)
 |some v=>
  have hy:ys[j]? = none:=by
   lia
  refine wX (gG (s:={ s with heap:=g1 }) (a.upon λo e=>s1.extBut _ _ D.az e) (b.upon λo e=>s1.extBut _ _ m1.1 e) hx λO m s2=>wY ?_);refine wY (wX (wX (wpAny_holding ?_)));have G:∀ {c o},c≠z->c≠i1->s.heap.get? c=some o->O.get? c=some o:=λM c3 e=>s2.extBut _ _ c3 (s1.extBut _ _ M e);exact wX (jE (s:={ s with heap:=O }) U (i.upon λo e=>G D.bz D.ab.symm e) (k.upon λo e=>G m2.1 m2.2.2.1 e) hy λn x p hX=>q n x (λc o M c3 r e=>p _ _ r (G M c3 e)) hX)
end
structure ZA (k1 k2:Bool)(z TI TO i1 i2 l1 l2:Addr):Prop where
 D:ZApart z TI TO i1 i2
 m1:l1≠z/\l1≠TO/\l1≠i1
 m2:l2≠z/\l2≠TO/\l2≠i1/\l2≠i2
def HZ (k1 k2:Bool)(z TI TO i1 i2 l1 l2 S:Addr)(i:Nat)(h:Heap):Prop :=
 IsPair h TI (.ref i1) (.ref i2)/\lN k1 h i1 l1 i/\lN k2 h i2 l2 i/\((IsZip h z TI TO .none/\∃a b,IsPair h TO a b)\/∃G f M O,p0 h z TI TO G f/\h.get? G=some M/\G∉[z,TI,TO,i1,i2]/\G≠S/\h.get? TO=some O)
def HZ.keep {k1 k2:Bool}{z TI TO i1 i2 l1 l2 S:Addr}{i:Nat}{h h':Heap}(st:HZ k1 k2 z TI TO i1 i2 l1 l2 S i h)(hS:S∉[z,TI,TO,i1,i2])(k:∀b o,b≠S->h.get? b=some o->h'.get? b=some o):HZ k1 k2 z TI TO i1 i2 l1 l2 S i h':=by
 obtain⟨G,M,O,T⟩:=st;have n:∀ {b},b∈[z,TI,TO,i1,i2]->b≠S:=λhb e=>hS (e ▸ hb);refine⟨k _ _ (n X9) G,M.upon λo e=>k _ o (n X9) e,O.upon λo e=>k _ o (n X9) e,?_⟩;rcases T with⟨b1,a,b,b2⟩|⟨U,f,c,d,b1,b2,b3,b4,g⟩
 .exact .inl ⟨k _ _ (n X9) b1,a,b,k _ _ (n X9) b2⟩
 .exact .inr ⟨U,f,c,d,k _ _ (n X9) b1,k _ _ b4 b2,b3,b4,k _ _ (n X9) g⟩
section
variable {prog:Program}{w:World}{A:Around}{E:QV}{s:Shared}{k1 k2:Bool}{z TI TO i1 i2 l1 l2 S:Addr}{j:Nat}{xs ys:AV}
def HZ.ty (st:HZ k1 k2 z TI TO i1 i2 l1 l2 S j h):∃o,h.get? z=some o/\o.cls=.type "zip":=by
 obtain⟨_,_,_,G⟩:=st;rcases G with⟨b1,_⟩|⟨M,f,O,T,b1,_⟩
 .exact⟨_,b1,rr⟩
 .exact⟨_,b1,rr⟩
def Ia (Z:ZA k1 k2 z TI TO i1 i2 l1 l2)(hS:S<s.heap.objs.size)(st:HZ k1 k2 z TI TO i1 i2 l1 l2 S j s.heap)(g:lO k1 s.heap l1 xs)(h:lO k2 s.heap l2 ys)(hx:xs[j]? = some x)(hy:ys[j]? = some y)
  (q:∀h',HZ k1 k2 z TI TO i1 i2 l1 l2 S (j+1) h'->IsPair h' s.heap.objs.size x y->(∀c o,c∉[z,TI,TO,i1,i2]->s.heap.get? c=some o->h'.get? c=some o)->Q (some (.ref s.heap.objs.size)) { s with heap:=h' }):
  wpAny (model prog w) A (pyNext (.ref z)) Q E s:=by
 have G :=st.ty;obtain⟨M,T,U,i⟩:=st;have lt:∀ {c o},s.heap.get? c=some o->s.heap.objs.size≠c:=λe=>ne_of_gt (vX e);obtain⟨p,r,_⟩:=T.ob;obtain⟨t,e2,_⟩:=U.ob;rcases i with⟨hz,a,b,d⟩|⟨k,f,l,m,hz,h0,n0,n,d⟩
 .refine wX (wpAny_attempt (wpAny_callSpecial?_slot  G slot_zip_next (wpAny_call_entry slot_zip_next G entry_zip_next (z6 Z.D Z.m1 Z.m2 hz M d T U g h hx hy λh' b1 b2 b3 b4 O u bk=>wY ?_) (args_zip_next_1 _))));refine q h' ⟨bk _ _ Z.D.tz Z.D.to Z.D.ta Z.D.tb M,b3,b4,.inr ⟨_,false,_,_,b1,O,?_,ne_of_gt hS,b2⟩⟩ O λc o hc e=>bk c o (λz=>hc (by simp[z])) (λz=>hc (by simp[z])) (λz=>hc (by simp[z])) (λz=>hc (by simp[z])) e;simp_all
 .refine wX (wpAny_attempt (wpAny_callSpecial?_slot  G slot_zip_next (wpAny_call_entry slot_zip_next G entry_zip_next (Ft Z.D Z.m1 Z.m2 hz h0 M T U g h hx hy λh' b1 b3 b4 O bk=>wY ?_) (args_zip_next_1 _))));exact q h' ⟨bk _ _ Z.D.tz Z.D.ta Z.D.tb M,b3,b4,.inr ⟨k,true,l,m,b1,bk _ _ (λz=>n0 (by simp[z])) (λz=>n0 (by simp[z])) (λz=>n0 (by simp[z])) h0,n0,n,bk _ _ Z.D.oz Z.D.oa Z.D.ob d⟩⟩ O λc o hc e=>bk c o (λz=>hc (by simp[z])) (λz=>hc (by simp[z])) (λz=>hc (by simp[z])) e
def Ib (O:A.handled=none)(Z:ZA k1 k2 z TI TO i1 i2 l1 l2)(st:HZ k1 k2 z TI TO i1 i2 l1 l2 S j s.heap)(T:lO k1 s.heap l1 xs)(U:lO k2 s.heap l2 ys)(he:xs[j]? = none\/ys[j]? = none)
  (q:∀h',(∀c o,c∉[z,TI,TO,i1,i2]->s.heap.get? c=some o->h'.get? c=some o)->Q none { s with heap:=h' }):wpAny (model prog w) A (pyNext (.ref z)) Q E s:=by
 have G :=st.ty;obtain⟨d,g,h,k⟩:=st;unfold pyNext;rcases k with⟨hz,a,b,i⟩|⟨l,f,m,n,hz,h0,n0,p,i⟩
 .refine wX (wpAny_attempt (wpAny_callSpecial?_slot  G slot_zip_next (wpAny_call_entry slot_zip_next G entry_zip_next (Dp O Z.D Z.m1 Z.m2 hz d i g h T U he λh' x hk hX=>?_) (args_zip_next_1 _))));obtain⟨o,M,co⟩:=hX;exact wX (wpAny_isInstance  (b:=true) ⟨o,M,co⟩ isSubtype_stop (wY (q h' λc o hc e=>hk c o (λz=>hc (by simp[z])) (λz=>hc (by simp[z])) (λz=>hc (by simp[z])) (λz=>hc (by simp[z])) e)))
 .refine wX (wpAny_attempt (wpAny_callSpecial?_slot  G slot_zip_next (wpAny_call_entry slot_zip_next G entry_zip_next (HY O Z.D Z.m1 Z.m2 hz h0 d g h T U he λh' x hk hX=>?_) (args_zip_next_1 _))));obtain⟨o,M,co⟩:=hX;exact wX (wpAny_isInstance  (b:=true) ⟨o,M,co⟩ isSubtype_stop (wY (q h' λc o hc e=>hk c o (λz=>hc (by simp[z])) (λz=>hc (by simp[z])) (λz=>hc (by simp[z])) e)))
end
def Ic (h:a≠b):upd (upd H a o) b u=upd (upd H b u) a o:=by
 funext c;unfold upd;lia
def lb (h:H a=none):aX H (upd H a o):=λb u e=>by rw[aH (bo e h)];exact e
def Fu (h:(jF ds es)[i]? = some d):(jF ds es).take (i+1)=(jF ds es).take i++[d]:=by
 rw[take_add_one,h];rfl
def Cc:typeLookup (.type "zip") "__len__" = pure none:=S9
def Ak:typeLookup (.type "zip") "__length_hint__" = pure none:=S9
section
variable {X:Cx}{ak:AO}{σ:St}{B H0:Hp}{A:Around}{R:Result->Shared->Prop}{k1 k2:Bool}{z TI TO i1 i2 l1 l2 S:Addr}{us ws:LV}{ds es:LD}
def Fv (J:A.handled=none)(Z:ZA k1 k2 z TI TO i1 i2 l1 l2)(hS:S∉[z,TI,TO,i1,i2])(h1:mE k1 X.K B l1 us)(l:IsL X.K B us ds)(h2:mE k2 X.K B l2 ws)(m:IsL X.K B ws es)
  (hR:∀G N vs s',Inv X ak σ (upd G S (.lst vs)) s'->G S=none->Ext B N H0 G->IsL X.K N vs (jF ds es)->R (.ok (.ret .none)) s'):
  ∀(k i:Nat)(s:Shared)(G N:Hp)(vs:LV),(jF ds es).length - i=k->i<=(jF ds es).length->Inv X ak σ (upd G S (.lst vs)) s->G S=none->Ext B N H0 G->(∀b∈[z,TI,TO,i1,i2],m9 X ak (upd G S (.lst vs)) b) ->
   HZ k1 k2 z TI TO i1 i2 l1 l2 S i s.heap->IsL X.K N vs ((jF ds es).take i) ->
   codeAny (model X.prog X.w) A (.builtin "list.extend.loop" ⟨[.ref S,.ref z,.none],[]⟩) R s:=by
 have n1:=l.length;have n2:=m.length;have nz:(jF ds es).length=min ds.length es.length:=by simp_all[jF]
 intro k;induction k with
 |zero=>
  intro i s G N vs hk hi I hc M fp st a;have CH:i=(jF ds es).length:=N9
  have U:aX B (upd G S (.lst vs)):=(M.bn.trans M.nh).trans (lb hc);obtain⟨its,d,g,n⟩:=(h1.same U).vals I;obtain⟨L,h,p2,P⟩:=(h2.same U).vals I;have Q:=d.length;have e2:=h.length;refine codeAny_builtin PySem.F.entry_extend_loop ?_;rw[Around.under_plainId plain_extend_loop _];show wpAny _ A.in1 (pyNext (.ref z)>>=_) _ _ s;refine wX (Ib (A:=A.in1) J Z st g p2 ?_ λh' O=>?_)
  .by_cases q:ds.length<=es.length
   .left;simp;lia
   .right;simp;lia
  .refine wY (hR G N vs _ (lP (t':=s.toks) I fp O) hc M ?_);grind
 |succ k W=>
  intro i s G N vs hk hi I hc M fp st a;have Y:i<(jF ds es).length:=N9
  have U:aX B (upd G S (.lst vs)):=(M.bn.trans M.nh).trans (lb hc);obtain⟨its,d,g,n⟩:=(h1.same U).vals I;obtain⟨L,h,p2,P⟩:=(h2.same U).vals I;have d1:i<ds.length:=N9
  have d2:i<es.length:=N9
  obtain⟨x,hx,ix⟩:=l.get (vU d1);obtain⟨y,hy,iy⟩:=m.get (vU d2);obtain⟨u,hu,ru⟩:=d.get hx;obtain⟨v,hv,rv⟩:=h.get hy;have el:(jF ds es)[i]? = some (.tup [ds[i],es[i]]):=by
   simp_all[jF]
  obtain⟨zl,ME,c,ZX,ev0,p⟩:=I.lstM a6;have r:S<s.heap.objs.size:=vX p;refine codeAny_builtin PySem.F.entry_extend_loop ?_;show wpAny _ A.in1 (pyNext (.ref z)>>=_) _ _ s;refine wX (Ia (A:=A.in1) Z r st g p2 (by simpa using hu) (by simpa using hv) λh' Q3 hp O=>?_);have t:upd G S (.lst vs) s.heap.objs.size=none:=I.hok.fresh (vT _);have j:s.heap.objs.size≠S:=ne_of_gt r;have C:G s.heap.objs.size=none:=by rw[aH j]at t;exact t
  have new:bJ X.prog X.w (upd (upd G S (.lst vs)) s.heap.objs.size (.tup [x,y])) h' s.heap.objs.size (.tup [x,y]):=⟨by show 2<=sizeLine;decide,[u,v],.cons ru (.cons rv .nil),⟨_,hp,rr,_,rr⟩⟩;have D :=Dq (s:=s) (t':=s.toks) I fp O (vT _) new;rw[Ic j.symm]at D;have E :=O S _ hS p;have T:Ext B (upd N s.heap.objs.size (.tup [x,y])) H0 (upd G s.heap.objs.size (.tup [x,y])):=M.trans (Ext.laid M.nh C);have vl:vs.length=i:=by rw[a.length,length_take];lia
  have zs:=zl;refine wX ?_;have lz:(vs++[V.ref s.heap.objs.size]).length<=sizeLine:=by
   rw[uY,vl];have a1:=n;show i+1<=sizeLine;lia
  have H:=D.lset (t':=s.toks) (ys:=vs++[.ref s.heap.objs.size]) (its':=ME++[.ref s.heap.objs.size]) (f:=(·.push (Value.ref s.heap.objs.size))) a6 E X9 (ZX.append (.cons (show aU (.ref _) (.ref _)from rr) .nil)) lz;rw[mW]at H;refine wpAny_updateSeq E rr (wY ⟨plainId_quiet plain_extend_loop _,W (i+1) _ _ _ (vs++[.ref s.heap.objs.size]) N9 Y H (by rw[aH j.symm];exact hc) T (λb hb=>?_) (Q3.keep hS λb o hb e=>(Heap.get?_update_other _ _ (Ne.symm hb)).trans e) ?_⟩) I9 I9
  .obtain⟨f0,f1,f2,f3,f4,f5⟩:=fp b hb;refine⟨?_,f1,f2,f3,f4,f5⟩;have nb:b≠S:=λe=>hS (e ▸ hb);rw[aH nb]at f0 |-;have nT:b≠s.heap.objs.size:=by
    obtain⟨hI,t1,t2,a4⟩:=st;obtain⟨o1,Q,_⟩:=t1.ob;obtain⟨o2,e2,_⟩:=t2.ob;have lt:∀ {c o},s.heap.get? c=some o->c≠s.heap.objs.size:=λe=>vS (vX e);grind
   rw[aH nT];exact f0
  .rw[Fu el];exact(a.mono (Ext.laid M.nh C).bn).append (.cons (.tup (jf.of a6) (.cons (ix.mono T.bn) (.cons (iy.mono T.bn) .nil))) .nil)
end
section
variable {X:Cx}{ak:AO}{σ:St}{B H:Hp}{s:Shared}{k1 k2:Bool}{z TI TO i1 i2 l1 l2:Addr}{us ws:LV}{ds es:LD}
def vc (u:X.A.handled=none)(I:Inv X ak σ H s)(Z:ZA k1 k2 z TI TO i1 i2 l1 l2)(fp:∀b∈[z,TI,TO,i1,i2],m9 X ak H b)
  (v:IsPair s.heap TI (.ref i1) (.ref i2)) (l:lN k1 s.heap i1 l1 0) (m:lN k2 s.heap i2 l2 0) (hz:IsZip s.heap z TI TO .none) (w:IsPair s.heap TO a b)
  (x:aX B H) (h1:mE k1 X.K B l1 us) (y:IsL X.K B us ds) (h2:mE k2 X.K B l2 ws) (C:IsL X.K B ws es)
  (q:∀(S:Addr)(U N:Hp)(vs:LV),U S=none->Ext B N H U->IsL X.K N vs (jF ds es)->Q (.ref S) (upd U S (.lst vs))):
  wq X (call (.type "list") [.ref z]) (EP X ak σ Q) X.xe s:=by
 have lt:∀ {c o},s.heap.get? c=some o->s.heap.objs.size≠c:=λe=>ne_of_gt (vX e);have G:s.heap.objs.size∉[z,TI,TO,i1,i2]:=by
  obtain⟨o1,e1,_⟩:=l.ob;obtain⟨o2,e2,_⟩:=m.ob;simp_all
 have n:s.heap.objs.size≠z:=lt hz;have D:HZ k1 k2 z TI TO i1 i2 l1 l2 s.heap.objs.size 0 s.heap:=⟨v,l,m,.inl ⟨hz,a,b,w⟩⟩;have hc:H s.heap.objs.size=none:=I.fresh;refine callType_codes (Q₁:=λobj O=>obj=.ref s.heap.objs.size/\O={ s with heap:=s.heap.push { cls:=.type "list",data:=.seq #[] } }) called_list (PySem.F.typeCall_list_1 _) PySem.F.entry_list_init
  (code_list_new _ ⟨rr,rr⟩) λobj O d=>?_
 obtain⟨rfl,rfl⟩:=d;have hS:(s.heap.push { cls:=.type "list",data:=.seq #[] }).get? s.heap.objs.size=some _:=vY _ rr;have E :=I.lnew (t':=s.toks) (its:=[]) .nil (uM _);have J:HZ k1 k2 z TI TO i1 i2 l1 l2 s.heap.objs.size 0 (s.heap.push { cls:=.type "list",data:=.seq #[] }):=D.keep G λb o _ e=>vZ _ e;refine⟨⟨_,hS,rr⟩,PySem.F.args_list_init_2 _ _,?_⟩;refine wX ?_;unfold Builtin.List.listItems;refine wX (wpAny_seqItems hS rr (wY ?_));refine wX (wpAny_updateSeq hS rr ?_);have g:=E.lset (t':=s.toks) (ys:=[]) (its':=[]) (f:=λ_=>#[]) a6 hS rr .nil (uM _);have M:=J.keep (h':=(s.heap.push { cls:=.type "list",data:=.seq #[] }).update s.heap.objs.size (Obj.mapSeq λ_=>(#[]:AV))) G λb o hb e=>(Heap.get?_update_other _ _ (Ne.symm hb)).trans e;rw[mW]at g;generalize i:(s.heap.push { cls:=.type "list",data:=.seq #[] }).update s.heap.objs.size (Obj.mapSeq λ_=>(#[]:AV))=g2 at g M |-;obtain⟨_,VM,c2,L,_,p⟩:=g.lstM a6;have e2:=L.zero;subst e2;refine wX (wpAny_letGo ?_);unfold Builtin.List.listExtendWith;refine wX (wpAny_typeOf (T:="zip") M.ty ?_);have j:Builtin.List.listSameRef (.ref s.heap.objs.size) (.ref z)=false:=by simp[Builtin.List.listSameRef,n]
 have P:(Value.type "zip" == Value.type "list")=false:=Z9
 have R:(Value.type "zip" == Value.type "tuple")=false:=Z9
 simp only[j,P,R,Bool.or_false,uU,if_false];have V:IsZip g2 z TI TO .none:=by
  rw[<-i];exact(Heap.get?_update_other _ _ n).trans (vZ _ hz)
 refine wX (wpAny_pyIter_zip V ?_);refine wX (wpAny_holding ?_);unfold Builtin.List.listLengthHint;refine wX (wpAny_specialOf (T:="zip") M.ty Cc ?_);refine wX (wpAny_specialOf (T:="zip") M.ty Ak ?_);refine wY ?_;refine wX (wpAny_rule ?_);refine wX ?_;refine wX (wpAny_updateSeq p rr ?_);have h:=g.lset (t':=s.toks) (ys:=[.non]) (its':=[.none]) (f:=(·.push .none)) a6 p rr (.cons (show aU .non .none from rr) .nil) (by show 1<=sizeLine;decide);have PQ:=M.keep (h':=g2.update s.heap.objs.size (Obj.mapSeq (·.push .none))) G λb o hb e=>(Heap.get?_update_other _ _ (Ne.symm hb)).trans e;rw[mW]at h;generalize W:g2.update s.heap.objs.size (Obj.mapSeq (·.push .none))=g3 at h PQ |-;obtain⟨_,Y,c3,v3,_,r⟩:=h.lstM a6;obtain⟨n3,rfl,r3⟩:=v3.one;cases r3
 refine wpAny_updateSeq (hz:=by simp<;>decide) r rr ?_
 have t:=h.lset (t':=s.toks) (ys:=[]) (its':=[]) (f:=(·.pop)) a6 r rr .nil (uM _);have k:=PQ.keep (h':=g3.update s.heap.objs.size (Obj.mapSeq (·.pop))) G λb o hb e=>(Heap.get?_update_other _ _ (Ne.symm hb)).trans e;rw[mW]at t;refine wY ⟨plainId_quiet plain_extend_loop _,Fv (A:=X.A.in1) (B:=B) (H0:=H) u Z G h1 y h2 C (λU N vs s' I' PX xt il=>?_) _ 0 _ H B [] rr (uM _) t hc (Ext.refl x) (λb hb=>?_) k .nil⟩
 .exact⟨rr,.ref s.heap.objs.size,_,I',rr,q _ U N vs PX xt il⟩
 .obtain⟨f0,f1⟩:=fp b hb;refine⟨?_,f1⟩;grind[aH]
end
@[simp] def Wu (fa G:FE):FE:=λρ=>(Fa fa G ρ).map λds=>(.lst ds,true)
section
variable {X:Cx}{a b:Expr}{pos p pos2 p2:Pos}
def Ce (y:X.calm=true)(hl:X.mg "list" = none)(hm:X.mg "zip" = none)(ha:JE X a fa)(hb:JE X b fb)(z:Gl X "list":=by rfl)(A:Gl X "zip":=by rfl)
  (hs:starEach [a,b] X.env=[(false,eval a X.env),(false,eval b X.env)]:=by rfl) (M:starEach [b] X.env=[(false,eval b X.env)]:=by rfl)
  (k:starEach [.Call (.Name "zip" p2) [a,b] [] pos2] X.env=[(false,eval (.Call (.Name "zip" p2) [a,b] [] pos2) X.env)]:=by rfl):
  JE X (.Call (.Name "list" p) [.Call (.Name "zip" p2) [a,b] [] pos2] [] pos) (Wu fa fb):=by
 intro ak s σ H Q I q;obtain⟨B,ρ,d,bb,C,r,G,ii⟩:=q;obtain⟨zs,m,e2⟩:=oY G;cases e2
 clear G;have G:=m;clear m;obtain⟨t,ex,G⟩:=oX G;obtain⟨u,E,G⟩:=oX G;obtain⟨xs,g,G⟩:=oX G;obtain⟨ys,h,G⟩:=oY G;subst G;refine wpAny_Call_Name_kw (gA I z hl rK ?_ Z9 Z9);refine PyProof.Rows.callWith_type1 ?_ (by rw[k];rfl) rr;rw[k];refine Calls.spliced_cons ?_;refine wpAny_Call_Name_kw (gA I A hm Nf ?_ Z9 Z9);refine PyProof.Rows.callWith_type1 (cu (ag ha (ag hb am M) (by rw[hs,M]) pos2 ak s σ H (λvs f=>∃N1,Ext B N1 H f/\IsL X.K N1 vs [t.1,u.1]) I ⟨B,ρ,[t.1,u.1],C,r,by simp[af,ai,ex,E],λvs f N1 U i1=>⟨N1,U,i1⟩⟩) λus s1 ⟨vs,f,e,F,N1,U,J⟩=>?_) (by rw[hs,M]) (by rw[M];rfl);cases J with
 |cons L i=>
  cases i with
  |cons i P=>
   cases P
   obtain⟨k1,l1,R,rfl,h1,m1⟩:=z8 L g;obtain⟨k2,l2,V,rfl,h2,m2⟩:=z8 i h;obtain⟨u1,u2,rfl,W,Y⟩:=F.two;cases W
   cases Y
   obtain⟨its,v1,v,z1⟩:=(h1.same U.nh).vals e;obtain⟨E8,v2,p2,z2⟩:=(h2.same U.nh).vals e;have Gm:=v.lt;have O:=p2.lt;refine Dn v p2 λh' Z c2 c3 c4 c5 ck=>?_;have D:ZApart (s1.heap.objs.size+4) (s1.heap.objs.size+2) (s1.heap.objs.size+3) s1.heap.objs.size (s1.heap.objs.size+1):=by
    constructor<;>(simp)
   have c:∀ {l:Addr}(n:Nat),l<s1.heap.objs.size->l≠s1.heap.objs.size+n:=λn hl=>vS (vQ hl (Nat.le_add_right _ n));refine Calls.spliced_nil ?_;refine vc  (k1:=k1) (k2:=k2) (B:=N1) (H:=f) (e.ok.hd y) (e.kept (t':=s1.toks) ck) ⟨D,⟨c 4 Gm,c 3 Gm,c 0 Gm⟩,⟨c 4 O,c 3 O,c 0 O,c 1 O⟩⟩ (λb hb=>?_) c2 c4 c5 Z c3 U.nh h1 m1 h2 m2 λS Hc N vs hS T j=>?_
   .have w:s1.heap.objs.size<=b:=by
     grind
    exact e.fpOk w (e.hok.fresh w)
   .have x3:=(U.trans T).trans (Ext.laid (o:=.lst vs) T.nh hS);have x:=j.mono (Ext.laid (o:=.lst vs) T.nh hS).bn;exact ii _ _ _ x3 (.lst (gB.of a6) x) λ_=>⟨_,_,_,rr,rr,(U.trans T).hh.free hS,a6,x⟩
end
end DL
namespace DL
open PySem PySem.Spec PyProof.Rows
def ym:typeLookup (.type "list") "keys" = pure none:=S9
def Fw 
  (hx:s.heap.get? a=some { cls:=.type "list",dict:=none,data:=.seq xs k,slots:=sl }) (O:A.handled=none)
  (h:∀h' tk,(∀b o,s.heap.get? b=some o->h'.get? b=some o)->Q none { s with heap:=h',toks:=tk }):
  wpAny (model prog w) A (getAttr? (.ref a) "keys") Q E s:=by
 obtain⟨hp,g,d,tk,os⟩:=s;have M:∀G,(⟨hp,g,d,G,os⟩:Shared).TypeIs (.ref a) "list":=λ_=>⟨_,hx,rr⟩;have f1:=sub_AttributeError;have f3:=slot_list_getattribute.lookup;have f4:=slot_list_getattribute.bind (.ref a);have f5:=am_list_getattr_none;unfold getAttr? getAttrBy? getAttrBy;repeat (any_goals (first|assumption|exact M _|((with_reducible show wpAny _ _ (call (Value.builtin "list.__getattribute__") _ _) _ _ _);refine call_meets slot_list_getattribute (M _) am_entry_list_getattribute (PySem.F.args_list_getattribute_2 _ _) (meets_getattribute_miss_list a xs k sl "keys" _ ym Z9 Z9) ⟨hx,O,λh' G e hx'=>?_⟩)|wp_step))
 obtain⟨t',T,he⟩:=hx'.there;show wpAny _ _ (getattributeRaised _ _ _ _ _ _ _) _ _ _;unfold getattributeRaised;repeat (any_goals (first|assumption|wp_step))
 exact h _ _ hx'.of.keeps
end DL
namespace DL
open PySem PySem.Spec PyProof.Rows L2
def iP:LD->Option (List (fG×D))
 |[]=>some []
 |.tup [k,v]::r=>(la k).bind λG=>(iP r).map λl=>(G,v)::l
 |_=>none
noncomputable def sq (a:LK×LD)(p:fG×D):LK×LD:=(iz a.1 p.1,fK a.1 a.2 p.1 p.2)
noncomputable def c7 (l:List (fG×D)):LK×LD:=l.foldl sq ([],[])
def sr (l:List (fG×D))(p:fG×D):c7 (l++[p])=sq (c7 l) p:=by simp_all[c7]
theorem su:∀ {ds:LD}{l:List (fG×D)},iP ds=some l->l.length=ds.length
 |[],l,h=>by simp[iP]at h;subst h;rfl
 |d::r,l,h=>by
  unfold iP at h;split at h
  .rename_i h0;cases h0
  .rename_i k v G h0;cases h0
   obtain⟨M,_,h⟩:=oX h;obtain⟨O,h1,rfl⟩:=oY h;simp[su h1]
  simp_all
theorem sv:∀ {ds:LD}{l:List (fG×D)}{i:Nat}{d:D},iP ds=some l->ds[i]? = some d->∃k v G,d=.tup [k,v]/\la k=some G/\l[i]? = some (G,v)
 |[],l,i,d,_,h=>by simp at h
 |d0::r,l,i,d,h,hi=>by
  unfold iP at h;split at h
  .rename_i h0;cases h0
  .rename_i k v M h0;cases h0
   obtain⟨G,h2,h⟩:=oX h;obtain⟨O,h1,rfl⟩:=oY h;cases i with
   |zero=>simp at hi;subst hi;exact⟨k,v,G,rr,h2,rr⟩
   |succ i=>simp only[List.getElem?_cons_succ]at hi |-;exact sv h1 hi
  simp_all
def Ie (l:List (fG×D)):∀a:LK×LD,a.1.length=a.2.length->(l.foldl sq a).1.length=(l.foldl sq a).2.length/\(l.foldl sq a).1.length<=a.1.length+l.length:=by
 induction l with
 |nil=>simp
 |cons p l G=>
  intro a h;have h1:(sq a p).1.length<=a.1.length+1:=by
   show(iz _ _).length<=_;unfold iz;split<;>simp
  have:=G (sq a p) (nN h _ _);rw[foldl_cons,vC];exact⟨this.1,N9⟩
theorem Fx (l:List (fG×D)):(c7 l).1.length=(c7 l).2.length/\(c7 l).1.length<=l.length:=by
 have:=Ie l ([],[]) rr;exact⟨this.1,vR this.2 X9⟩
def w4:entryFor table "dict.update.loop" = some Builtin.«dict.update.loop»:=entryFor_of_tree r9
def lR:plainId "dict.update.loop" = true:=H9
section
variable {X:Cx}{ak:AO}{σ:St}{B H0:Hp}{A:Around}{R:Result->Shared->Prop}{it l d:Addr}{us:LV}{ds:LD}{kO:List (fG×D)}
def Cf (Z:A.handled=none)(nl:l≠it)(nd:d≠it)(hl:gB X.K B l us)(H:IsL X.K B us ds)(hp:iP ds=some kO)
  (hR:∀G N vs ob s',Inv X ak σ (upd G d (.dK ((c7 kO).1.zip vs) ob)) s'->G d=none->Ext B N H0 G->(c7 kO).1.length=vs.length->IsL X.K N vs (c7 kO).2->R (.ok (.ret .none)) s'):
  ∀(k i:Nat)(tk:Nat)(s:Shared)(G N:Hp)(vs:LV)(ob:Obj),ds.length - i=k->i<=ds.length->Inv X ak σ (upd G d (.dK ((c7 (kO.take i)).1.zip vs) ob)) s->G d=none->Ext B N H0 G->m9 X ak (upd G d (.dK ((c7 (kO.take i)).1.zip vs) ob)) it ->
   s.heap.IsListIter it l i->(c7 (kO.take i)).1.length=vs.length->IsL X.K N vs (c7 (kO.take i)).2 ->
   codeAny (model X.prog X.w) A (.builtin "dict.update.loop" ⟨[.ref d,.ref it,.int i tk,.none],[]⟩) R s:=by
 have n1:=H.length;have n2:=su hp;intro k;induction k with
 |zero=>
  intro i tk s G N vs ob hk hi I hc M fp st hz h;have CH:i=ds.length:=N9
  have j:aX B (upd G d (.dK ((c7 (kO.take i)).1.zip vs) ob)):=(M.bn.trans M.nh).trans (lb hc);obtain⟨its,m,n,z1⟩:=I.list (j.seq hl);have e1:=m.length;refine codeAny_builtin w4 ?_;rw[Around.under_plainId lR _];refine wX (wpAny_pyNext_list_end (A:=A.in1) Z st n.isList I9 λh' N7=>?_);refine wX (wY (wY ?_));have f:=lP (t':=s.toks) (h':=h') (ch:=[it]) I (λb hb=>by rw[uS hb];exact fp) λb o hb e=>N7 b o (λq=>hb (by simp[q])) e;rw[CH,<-n2,take_length]at f hz h;exact hR G N vs ob _ f hc M hz h
 |succ k ih=>
  intro i tk s G N vs ob hk hi I hc M fp st hz h;have O:i<ds.length:=N9
  have j:aX B (upd G d (.dK ((c7 (kO.take i)).1.zip vs) ob)):=(M.bn.trans M.nh).trans (lb hc);obtain⟨its,m,n,z1⟩:=I.list (j.seq hl);obtain⟨kd,J,U,ed,ek,el⟩:=sv hp (vU O);obtain⟨x,hx,L⟩:=H.get (vU O);rw[ed]at L;cases L with
  |@tup T xs _ hT p=>
   cases p with
   |cons ik r=>
    cases r with
    |cons iv r=>
     cases r
     rename_i xk t;have v:=qe ik ek;subst v;obtain⟨u,hu,ru⟩:=m.get hx;cases (show u=Value.ref T from ru)
     refine codeAny_builtin w4 ?_;rw[Around.under_plainId lR _];refine wX (wpAny_pyNext_list_item (A:=A.in1) st n.isList (x:=.ref T) (by simpa using hu) λh' Q3 hs=>?_);have f:=lP (t':=s.toks) (h':=h') (ch:=[it]) I (λb hb=>by rw[uS hb];exact fp) λb o hb e=>hs.extBut b o (λq=>hb (by simp[q])) e;obtain⟨ps,r2,p2,z2⟩:=f.tuple (bu j hT);obtain⟨uk,uv,rfl,rk,rv⟩:=r2.two;have y:Shared.TypeIs { s with heap:=h' } (.ref T) "tuple":=by obtain⟨o,e,c,_⟩:=p2;exact⟨o,e,c⟩
     dsimp only;refine wX (wpAny_holding (wX (wpAny_tryCatch ?_)));unfold Builtin.Dict.pairItems;refine wX (wpAny_typeOf y ?_);obtain⟨oT,eT,cT,nT,dT⟩:=p2;rw[if_pos Z9];refine wX (wpAny_seqItems eT dT (wY ?_));obtain⟨zz,V2,z,P,dd⟩:=rq f.hok (a:=d) a6;have C:z.length<=sizeLine:=by rw[<-P.length];exact zz
     have nk:((c7 (kO.take i)).1.zip vs).length<sizeLine:=by
      grind[Fx]
     refine wpAny_holding (wpAny_dictSet_pairs (hsz:=C) (rm rk) dd λh2 g Q=>?_);have Qa:(oP ((c7 (kO.take i)).1.zip vs) U t).length<=sizeLine:=by have:=kR ((c7 (kO.take i)).1.zip vs) U t;lia
     obtain⟨E,S⟩:∃q,h2.get? d=some q:=let ⟨q,_,_,hq,_⟩:=g;⟨q,hq⟩;have V:=xG (t':=s.toks+1) f (a:=d)  (by rw[a6];exact True.intro) Q ⟨_,S⟩ (GA Qa V2 (P.put U rv) g S);rw[mW,qV hz]at V;have W:kO.take (i+1)=kO.take i++[(U,J)]:=by rw[take_add_one,el];rfl
     have Y:(c7 (kO.take (i+1))).1=iz (c7 (kO.take i)).1 U:=by rw[W,sr];rfl
     have F:(c7 (kO.take (i+1))).2=fK (c7 (kO.take i)).1 (c7 (kO.take i)).2 U J:=by rw[W,sr];rfl
     refine wY ⟨plainId_quiet lR _,?_⟩;refine ih (i+1) 0 _ G N (fK (c7 (kO.take i)).1 vs U t) E N9 O (by rw[Y];exact V) hc M ?_ ?_ ?_ ?_
     .obtain⟨f0,f1⟩:=fp;refine⟨?_,f1⟩;rw[aH nd.symm]at f0 |-;exact f0
     .exact Q3.at λo e=>(Q.2 it nd.symm).trans e
     .rw[Y];exact nN hz _ _
     .rw[F];exact h.put (iv.mono M.bn)
end
@[simp] def lS:LD->OB
 |[.lst ds]=>(iP ds).map λG=>(.dk (c7 G).1 (c7 G).2,false)
 |_=>none
def Pa:bootBuiltins "dict" = some (.type "dict"):=H9
section
variable {X:Cx}
def Pc (T:X.calm=true):bY X (.type "dict") (B7 X.K lS):=by
 intro ak s σ H xs us Q I r h;obtain⟨B,w,d0,bb,g,x,O,q⟩:=h;cases x with
 |nil=>simp[lS]at O
 |cons i1 i2=>
  cases i2 with
  |cons _ _=>cases i1<;>simp[lS]at O
  |nil=>
   cases i1<;>try (simp[lS]at O;done)
   rename_i l S ds hl y;simp only[lS]at O;obtain⟨U,hp,O⟩:=oY O;cases O
   obtain⟨u,rfl,z⟩:=ij r;cases z
   have i:X.A.handled=none:=I.ok.hd T;refine callType_codes (Q₁:=λobj M=>obj=.ref s.heap.objs.size/\M={ s with heap:=s.heap.push _ }) PySem.F.kt_called_dict (PySem.F.kt_typeCall_dict_1 _) PySem.F.entry_dict_init (kt_code_dict_new _ ⟨rr,rr⟩) ?_;rintro obj M ⟨rfl,rfl⟩;have j :=I.laid (t':=s.toks) (λb o e=>vZ _ e) (vT _) (yY s.heap I.big);have k:H s.heap.objs.size=none:=I.fresh;have m:Shared.TypeIs { s with heap:=s.heap.push { cls:=.type "dict",data:=.dict #[] } } (.ref s.heap.objs.size) "dict":=⟨_,vY _ rr,rr⟩;refine⟨m,PySem.F.args_dict_init_2 _ _,?_⟩;unfold Builtin.«dict.__init__»;refine wX ?_;unfold Builtin.Dict.selfAndRest;refine wX (wpAny_notOrdered_dict m ?_);refine wY ?_;show wpAny _ _ (Builtin.Dict.updateFrom "dict.__init__" s.heap.objs.size (.ref l) [] .none) _ _ _;unfold Builtin.Dict.updateFrom;have C:aX B (upd H s.heap.objs.size (.dK [] { cls:=.type "dict",data:=.dict #[] })):=g.trans (lb k);obtain⟨its,V,n,W⟩:=j.list (C.seq hl);have pl:=n.isList;obtain⟨p,D,G,cl,t,dl⟩:=n;have a:Shared.TypeIs _ (.ref l) "list":=⟨p,G,cl⟩;refine wX (wpAny_typeOf a ?_);rw[if_pos Z9];obtain⟨oc,od,Y,os⟩:=p;simp only at cl t dl;subst cl t dl;refine wX (Fw G (by exact i) λh' tk hk=>?_);dsimp only[Option.isNone_none];rw[if_pos rr];have c :=j.kept (t':=tk) hk;refine wX (wpAny_rule ?_);refine wX (wpAny_pyIter_list (items:=its.toArray) ⟨_,hk _ _ G,rr,D,rr⟩ ?_);have E:Inv X ak σ _ { s with heap:=h'.push { cls:=.type "list_iterator",data:=.fields #[.ref l,.int 0 0] },toks:=tk }:=c.kept (t':=tk) λb o e=>vZ _ e;have ld:s.heap.objs.size<h'.objs.size:=vX (hk _ _ (vY _ rr));have J:l<h'.objs.size:=vX (hk _ _ G);refine wY ⟨plainId_quiet lR _,Cf (A:=X.A.in1) (B:=B) (H0:=H) (l:=l) (d:=s.heap.objs.size) (it:=h'.objs.size) i (vS J) (vS ld) hl y hp (λZ N vs ob s' L v f hz P=>?_) _ 0 0 _ H B [] _ rr (uM _) E k (Ext.refl g) (c.fpOk (vT _) (c.hok.fresh (vT _))) ⟨_,vY _ rr,rr,rr⟩ rr .nil⟩;refine⟨rr,.ref s.heap.objs.size,_,L,rr,?_⟩;have R:=f.trans (Ext.laid (o:=.dK ((c7 U).1.zip vs) ob) f.nh v);exact q _ _ _ R (.dk a6 hz (P.mono (Ext.laid (o:=.dK ((c7 U).1.zip vs) ob) f.nh v).bn)) X9
end
@[simp] noncomputable def Nk:FE:=λ_=>none
def Lx (h:n+40<cLine):n+1<cLine:=N9
section
variable {X:Cx}{e tg:Expr}
def Ly:JE X e Nk:=λak s σ H Q I h=>by obtain⟨B,ρ,d,b,_,_,e,_⟩:=h;cases e
end
def lU:LD->Option LK
 |[]=>some []
 |d::ds=>(la d).bind λk=>(lU ds).map (k :: ·)
theorem Cg {K:Frag}{B:Hp}:∀ {vs:LV}{ds:LD}{ks:LK},IsL K B vs ds->lU ds=some ks->vs=ks.map kV
 |_,_,ks,.nil,e=>by simp[lU]at e;subst e;rfl
 |_,_,ks,.cons i is,e=>by
  obtain⟨k,h1,e⟩:=oX e;obtain⟨r,h2,rfl⟩:=oY e;rw[qe i h1,Cg is h2];rfl
@[simp] def Ig (M:FE)(fa:FA):FE:=λρ=>(M ρ).bind λx=>(fa ρ).bind λds=>match x.1 with
 |.dt G vs=>if ds.length<=sizeLine then (lU ds).map λk=>((fB G vs k).getD .non,false)else none
 |_=>none
section
variable {X:Cx}{o:Expr}{es:QD}{pos:Pos}
def Ih {dn cf M:Pos}{O:Nat}{f:FE}{fa:FA}(hu:X.A.units+1<cLine)(ho:JE X o f)(ha:JA X es fa)(m:M1 X o "get" dn (.Tuple es O M) cf):JE X (.Call (.Attribute o "get" dn) [.Tuple es O M] [] cf) (Ig f fa):=by
 refine PE.to (yZ hu ho (xz ha) m) λσ H Q q=>?_;obtain⟨B,ρ,d,bb,g,r,G,q⟩:=q;obtain⟨x,ex,G⟩:=oX G;obtain⟨ds,i,G⟩:=oX G;refine⟨B,ρ,x.1,x.2,g,r,ex,λv s N1 O i1 t=>?_⟩;obtain⟨xd,u⟩:=x;cases i1 with
 |@dt a ks vs w h hl hs=>
  simp only at G;split at G
  .rename_i hz;obtain⟨k,hk,G⟩:=oY G;cases G
   refine⟨a,rr,.inr ⟨_,.inl (O.nh _ _ h)⟩,N1,ρ,ds,O.nh,r.mono O.bn,i,λus H2 N2 U i2=>?_⟩;have j:=Cg i2 hk;have b:us.length<=sizeLine:=by rw[i2.length];exact hz
   refine⟨b,λp hp=>?_⟩;have T:=Ext.laid (o:=.tup us) U.nh hp;have c :=U.bn _ _ h;refine⟨kL _ k,.inr ⟨_,k,p,.inl (T.nh _ _ (T.bn _ _ c)),rr,by rw[a6,j],rr⟩,?_⟩;have l:=(hs.mono U.bn).mono T.bn;rcases sn k hl l with⟨v,d',e,e2,n⟩|⟨e,e2⟩
   .rw[e];rw[e2]at q;exact(q.into ((O.trans U).trans T)).one T.nh n
   .rw[e];rw[e2]at q;exact(q.into ((O.trans U).trans T)).one T.nh .non
  .cases G
 |_=>simp at G
end
section
variable {K:Frag}{E:Ends}{σ:St}{H:Hp}
def DD (i:Nat)(M:FA)(O:FE):FS:=λρ=>match ρ[i]? with
 |some (some (.dt ks vs,true))=>(O ρ).bind λv=>(M ρ).bind λkd=>(lU kd).bind λG=>if bf v.1=true/\ks.length<sizeLine/\kd.length<=sizeLine then some (.nx (ρ.set i (some (.dt (iz ks G) (fK ks vs G v.1),true))))else none
 |_=>none
def Ii {i:Nat}{M:FA}{O:FE}(q:oJ K (DD i M O) E σ H):CU (qG i) (Ri (Qs K M)) (tD K O) E σ H:=by
 obtain⟨B0,H0,ρ,r,⟨N,s⟩,e,p⟩:=q;unfold DD at e;split at e
 .rename_i ks ds ei;obtain⟨v,b,e⟩:=oX e;obtain⟨kd,ek,e⟩:=oX e;obtain⟨c,hk,e⟩:=oX e;split at e
  .rename_i hx;cases e
   refine⟨N,ρ,v.1,v.2,s.ext.nh,s.rep,b,λg h N1 d i1 _=>?_⟩;have s1:=s.grow d;obtain⟨a,o,h1,h2,h3,h4⟩:=s1.ow i _ ei;refine⟨.ref a,h1,N1,ρ,kd,s1.ext.nh,s1.rep,ek,λus H2 N2 T i2=>?_⟩;have s2:=s1.grow T;have f:=Cg i2 hk;refine⟨by rw[i2.length];exact hx.2.2,λpp hp=>?_⟩;have U:=Ext.laid (o:=.tup us) s2.ext.nh hp;have G:=s2.grow U;obtain⟨j,o',k1,k2,k3,k4⟩:=G.ow i _ ei;rw[h1]at k1;cases k1
   cases k4 with
   |@dt ks vs ds hl h5=>
    refine⟨a,rr,.inr ⟨_,c,pp,G.ext.nh _ _ k2,rr,by rw[a6,f],?_,?_⟩⟩
    .rw[length_zip];lia
    .rw[qV hl];exact p σ _ ⟨_,G.writeB ei h1 (.dt (nN hl _ _) (h5.put (G.flat ((i1.mono T.bn).mono U.bn) hx.1)))⟩
  simp_all
 simp_all
end
section
variable {X:Cx}{pos:Pos}{e:Expr}{es:QD}
def Lz (hu:X.A.units+1<cLine)(O:JE X e U)(hk:JA X es fk)(T:X.N[i]? = some y:=by rfl)(G:NH X.env.scope y:=by first|exact Or.inl rr|exact Or.inr (Or.inl rr)|exact Or.inr (Or.inr rr))(hd:(y == ("__debug__" : Str))=false:=by decide)
  (M:(y == ("__classdict__" : Str))=false:=by decide) (hs:swapsWith e (some (.Subscript (.Name y py) (.Tuple es x1 PY) pt)) pos.line X.env=pure false:=by rfl):JS X (.Assign [.Subscript (.Name y py) (.Tuple es x1 PY) pt] e pos) (DD i fk U) :=
 PS.to (xH hu (rf T G hd M) (xz hk) O hs) λ_ _ _ q=>Ii q
end
end DL
namespace L2
open PySem PySem.Spec PyProof.Rows
noncomputable def U9 (a:Addr)(aL:List (fG×V))(ob:Obj):It:=⟨λi H=>H a=some (.dK aL ob)/\i<aL.length,λi H x H'=>H'=H/\∃k,aL[i]? = some (k,x),λi H=>H a=some (.dK aL ob)/\aL.length<=i⟩
def KV.get {aL:List (fG×V)}{vs:List (fG×Value)}(r:KV aL vs){i:Nat}{k:fG}{x:V}(h:aL[i]? = some (k,x)):∃u,vs[i]? = some (k,u)/\aU x u:=by
 induction r generalizing i with
 |nil=>simp at h
 |@cons p q ps T hq t G=>
  cases i with
  |zero=>
   cases (show p=(k,x)from vK h)
   obtain⟨M,O⟩:=q;exact⟨O,by rw[show k=M from hq.1];rfl,hq.2⟩
  |succ i=>exact G h
def RS (h:(dv P w).is k u=true):aU (kV k) u:=by
 cases k with
 |inl i=>exact Value.isInt_shape h
 |inr z=>exact Value.isStrOf_shape h
section
variable {P:Program}{w:World}{H:Hp}{h:Heap}{a:Addr}
def sw (ok:me P w H h)(e:H a=some (.dK aL ob))(hd:ob.data=.dict es O):∃vs,KV aL vs/\h.DictAt (dv P w) a vs O:=by
 obtain⟨_,_,vs,r,o,G,M,h1,h2,h3,h4⟩:=rq ok e;rw[B6 ok e]at h1;cases h1
 rw[hd]at h3;cases h3
 exact⟨vs,r,ob,es,B6 ok e,h2,hd,h4⟩
def yn (ok:me P w H h)(e:H a=some (.dK aL ob)):∃es G,ob.data=.dict es G:=by
 obtain⟨_,_,vs,r,o,M,O,h1,h2,h3,h4⟩:=rq ok e;rw[B6 ok e]at h1;grind
end
def Fy {P:Program}{w:World}{K:Frag}{tg:Expr}(a it:Addr)(aL:List (fG×V))(ob:Obj){es:Array DictEntry}{g:Nat}(hd:ob.data=.dict es g):Turn P w K tg (U9 a aL ob) [it] it (λi h=>h.IsValIter it a i aL.length g) where
 mem:=X9
 obj:=λi h st b hb=>by
  have e:b=it:=by simpa using hb
  subst e;obtain⟨o,e,c,d⟩:=st;simp_all
 keep:=λi h h' st k=>st.at λo e=>k it X9 o e
 item:=by
  intro X O hw T hc i ak s σ H E I hf st U;subst O hw T;obtain⟨f,M⟩:=U;obtain⟨vs,r,m⟩:=sw I.hok f hd;obtain⟨f0,f1,f2,f3,f4,f5⟩:=hf it X9;have hl:vs.length=aL.length:=(Paired.length r).symm;obtain⟨u,hu,ru⟩:=r.get (k:=aL[i].1) (x:=aL[i].2) (vU M);refine wpAny_pyNext_values_item (by rw[hl];exact st) m hu λh' G j=>?_;rw[hl]at G;have l :=I.turned (t':=s.toks) (λb o hb e=>(j.2 b hb).trans e) f0 f1 f3 f4 f5;obtain⟨o,e,c,d⟩:=id G;exact⟨u,rr,rg (s:={ s with heap:=h' }) e c d Z9 ⟨aL[i].2,H,l,ru,⟨rr,aL[i].1,vU M⟩,G,λb hb=>(hf b hb).1⟩⟩
 done:=by
  intro X O hw T hc i ak s σ H E I hf st U;subst O hw T;obtain⟨f,p⟩:=U;obtain⟨vs,r,m⟩:=sw I.hok f hd;obtain⟨f0,f1,f2,f3,f4,f5⟩:=hf it X9;have hl:vs.length=aL.length:=(Paired.length r).symm;exact wpAny_pyNext_values_end (I.ok.hd hc) (by rw[hl];exact st) m (getElem?_eq_none N9) λh' n=>⟨rr,I.turned (t':=s.toks) (λb o hb e=>n b o hb e) f0 f1 f3 f4 f5⟩
 self:=λ_ _ _ _ _ st h=>wpAny_pyIter_valiter st h
section
variable {X:Cx}{tg:Expr}
def RT (M:TE):TI:=λσ H R=>M σ H λx G=>∃a aL ob,x=.ref a/\G a=some (.dK aL ob)/\R (U9 a aL ob) G
def L0 {o:Expr}{d:TE}{dn cf:Pos}(ho:PE X o d)(G:attributeBase o "values" X.env (eval o X.env)=eval o X.env:=by rfl)(M:(dn.endLine == cf.line)=true:=by rfl):PI X tg (.Call (.Attribute o "values" dn) [] [] cf) (RT d):=by
 intro ak s σ H R I h;refine wpAny_Call_method0_late G M (cu (ho ak s σ H _ I h) λv s1 ⟨x,f,O,g,a,aL,ob,ex,U,q⟩=>?_);subst ex;obtain⟨h1,h2⟩:=B5 O g (T:="dict") (.inr (.inr (.inl ⟨rr,.inl ⟨aL,ob,U⟩⟩)));cases g
 obtain⟨es,i,hd⟩:=yn O.hok U;obtain⟨vs,r,m⟩:=sw O.hok U hd;have hl :=(Paired.length r).symm;refine⟨"dict","dict.values",plainAttrs_dict,PySem.F.slot_dict_values,PySem.F.type_dict_values,h1,h2,Calls.callWith_builtin rr (PySem.evalArgs_none ?_)⟩;refine call_meetsIn PySem.F.slot_dict_values h1 PySem.F.entry_dict_values (PySem.F.args_dict_values_1 _) (meets_dict_values _ a (rq O.hok U).2.1) ⟨⟨vs,m.dictOf⟩,?_⟩;have c:Inv X ak σ f { s1 with heap:=s1.heap.push { cls:=.type "dict_values",data:=.fields #[.ref a] } }:=O.kept  λb o e=>vZ _ e;refine wpAny_pyIter_values  ⟨_,vY _ rr,rr,rr⟩ (m.keep λb o e=>vZ _ e) ?_;rw[hl];refine⟨(s1.heap.push _).objs.size,[(s1.heap.push _).objs.size],_,_,f,rr,c.kept  λb o e=>vZ _ e,Fy a _ aL ob hd,⟨_,vY _ rr,rr,rr⟩,λb hb=>?_,q⟩;have e:b=(s1.heap.push { cls:=.type "dict_values",data:=.fields #[.ref a] }).objs.size:=by simpa using hb
 subst e;exact c.fpOk (vT _) (c.hok.fresh (vT _))
end
end L2
namespace DL
open PySem PySem.Spec PySem.W PyProof.Rows L2
noncomputable def kD:fG->D
 |.inl i=>.int i
 |.inr z=>.str z
def RU {K:Frag}{B:Hp}(k:fG):Is K B (kV k) (kD k):=by
 cases k with
 |inl i=>exact .int i
 |inr z=>exact .str z
section
variable {K:Frag}{B:Hp}
def L1 {a:Addr}{ks:LK}{vs:LV}{ds:LD}{ob:Obj}(h:B a=some (.dK (ks.zip vs) ob))(hl:ks.length=vs.length)(hs:IsL K B vs ds):nq K (U9 a (ks.zip vs) ob) B ds:=by
 intro i H s;have hz:(ks.zip vs).length=vs.length:=by rw[length_zip];lia
 refine⟨λd ed=>?_,λG=>⟨s _ _ h,by rw[hz,hs.length];exact G⟩⟩;obtain⟨v,O,iv⟩:=hs.get ed;have M :=(vV O).1;refine⟨⟨s _ _ h,by rw[hz];exact M⟩,λy T hy=>?_⟩;obtain⟨rfl,k,e⟩:=hy;have:=(getElem?_zip_eq_some.mp e).2;rw[O]at this;cases this
 exact⟨B,.refl s,iv⟩
end
section
variable {X:Cx}{e:Expr}{tg:Expr}
@[simp] noncomputable def sx (f:FE):FA:=λρ=>(f ρ).bind λx=>match x.1 with|.dk _ ds=>some ds|_=>none
def DE (h:JE X e f)(G:attributeBase e "values" X.env (eval e X.env)=eval e X.env:=by rfl)(M:(dn.endLine == cf.line)=true:=by rfl):JI X tg (.Call (.Attribute e "values" dn) [] [] cf) (sx f):=by
 intro ak s σ H R I q;obtain⟨B,ρ,ds,T,r,U,q⟩:=q;obtain⟨⟨xd,c⟩,ex,es⟩:=oX U;cases xd<;>try (cases es;done)
 cases es
 refine L0 h G M _ s σ H R I ⟨B,ρ,_,_,T,r,ex,λv b N1 O i1 _=>?_⟩;cases i1 with
 |@dk a ks vs ds ob hd hl hs=>exact⟨a,_,ob,rr,O.nh _ _ hd,q _ b N1 O (L1 hd hl hs)⟩
end
end DL
namespace DL
open PySem PySem.Spec PyProof.Rows L2
@[simp] abbrev cF (i:Nat)(j:Int):FE:=f2 bv (aj i) (fC (.int j))
def aK (F:Fn X.prog X.w X.K X.mg X.base k x f)(O:ft j X.A)(ha:JA X (e::es) fa)(hj:k<=j:=by decide)(T:Gl X x:=by rfl)(G:(x == ("__debug__" : Str))=false:=by decide)(he:starEach (e::es) X.env=(false,eval e X.env)::starEach es X.env:=by rfl)(M:(backTo U (starEach es X.env)).any (·.1)=false:=by rfl):JE X (.Call (.Name x p) (e::es) [] U) (fA f fa):=CZ F (O.mono hj) ha T G he M
def RV (h1:∀y∈scope.names,y.2≠.cell:=by decide +kernel)(h2:scope.kind=.function:=by rfl)(h3:∀y∈scope.names,y.2=.local->scope.names.lookup y.1=some .local:=by decide +kernel)(G:(scope.names.all λy=>!(y.2 == NameKind.free) || (X.env.cells.lookup y.1).isSome)=true:=by rfl):CompSc X scope (g9 scope.names X.env.cells []):=O5 h1 h2 h3 G
def Wv (h1:N'[j]? = some x)(h2:X.N[i]? = some x)(t:oF X N' scope (g9 scope.names X.env.cells []) (j+1) r)(h3:X.env.kindOf x=some .cell\/X.env.kindOf x=some .free:=by exact Or.inl rr)(h4:(relabel scope X.env).names.lookup x=some .cell\/(relabel scope X.env).names.lookup x=some .free:=by exact Or.inl rr)(hf:(x,NameKind.free)∈scope.names:=by decide +kernel)(hc:(X.env.cells.lookup x).isSome=true:=by rfl):oF X N' scope (g9 scope.names X.env.cells []) j (i::r):=.cons h1 h2 h3 h4 (qQ hf hc) t
end DL
namespace DL
open PySem PySem.Spec PySem.W PyProof.Rows L2
noncomputable def sy:At->D
 |.i n=>.int n
 |.s z=>.str z
section
variable {prog:Program}{w:World}{A:Around}{E:QV}{s:Shared}
def RW (hx:Bo x u)(hy:Bo y v):SeqAt.EqAt A s u v (fy (sy x) (sy y)):=by
 cases x with
 |i a=>
  obtain⟨t,rfl⟩:=hx;cases y with
  |i c=>obtain⟨t',rfl⟩:=hy;exact SeqAt.EqAt.int_int _ _ _ _
  |s c=>obtain⟨t',rfl⟩:=hy;simp_all[sy,SeqAt.EqAt.int_str]
 |s a=>
  obtain⟨t,rfl⟩:=hx;cases y with
  |i c=>obtain⟨t',rfl⟩:=hy;simp_all[sy,SeqAt.EqAt.str_int]
  |s c=>obtain⟨t',rfl⟩:=hy;exact SeqAt.EqAt.str_str _ _ _ _
theorem DF:∀ {xs ys:List At}{vs:LU},Paired Bo xs vs->Paired Bo ys vs->xs=ys
 |_,_,_,.nil,.nil=>rr
 |x::xs,y::ys,_,.cons p ps,.cons q G=>by
  rw[DF ps G];cases x with
  |i a=>
   obtain⟨t,rfl⟩:=p;cases y with
   |i c=>obtain⟨t',e⟩:=q;cases e;rfl
   |s c=>obtain⟨t',e⟩:=q;cases e
  |s a=>
   obtain⟨t,rfl⟩:=p;cases y with
   |i c=>obtain⟨t',e⟩:=q;cases e
   |s c=>obtain⟨t',e⟩:=q;cases e;rfl
def Pd (x y:At):fy (sy x) (sy y)=true↔x=y:=by
 cases x<;>cases y<;>simp[sy]
theorem qW:∀xs ys:List At,kM (xs.map sy) (ys.map sy)=true↔xs=ys
 |[],[]=>by simp
 |[],_::_=>by simp
 |_::_,[]=>by simp
 |x::xs,y::ys=>by
  rw[uX,uX,kM,vB,Pd,qW xs ys];simp
def Pe (hx:ge s.heap xs x)(hy:ge s.heap ys y)(hu:A.units<cLine):SeqAt.EqAt A s x y (kM (xs.map sy) (ys.map sy)):=by
 obtain⟨a,o,its,n,rfl,ho,hc,hd,r⟩:=hx;obtain⟨b,o',G,m,rfl,M,O,T,d⟩:=hy;by_cases U:a=b
 .grind[DF,qW,SeqAt.EqAt.same]
 .have e:s.heap.IsTuple a its:=⟨o,ho,hc,n,hd⟩;have f:s.heap.IsTuple b G:=⟨o',M,O,m,T⟩;have l1:xs.length=its.size:=by exact fR r
  have l2:ys.length=G.size:=by exact fR d
  have he:∀j (h1:j<its.size) (h2:j<G.size),SeqAt.EqAt A.in1 s its[j] G[j] (fy ((xs.map sy).getD j .non) ((ys.map sy).getD j .non)):=λj h1 h2=>by
   have p:=fT (.i 0) Value.none r (i:=j) N9;have q:=fT (.i 0) Value.none d (i:=j) N9;have c:its.toList.getD j Value.none=its[j]:=by simp_all
   have e2:G.toList.getD j Value.none=G[j]:=by simp_all
   rw[c]at p;rw[e2]at q;have g:(xs.map sy).getD j .non=sy (xs.getD j (.i 0)):=by simp_all
   have h:(ys.map sy).getD j .non=sy (ys.getD j (.i 0)):=by simp_all
   rw[g,h];exact RW p q
  have rc:=SeqAt.RcAt.tuples e f hu he;have k:((List.range (min its.size G.size)).all (λj=>fy ((xs.map sy).getD j .non) ((ys.map sy).getD j .non)) && its.size == G.size)=kM (xs.map sy) (ys.map sy):=by
   rw[<-l1,<-l2];by_cases hl:xs.length=ys.length
   .rw[<-hl,Nat.min_self,beq_self_eq_true,Bool.and_true];have:=jS _ (xs:=xs.map sy) (ys:=ys.map sy) (by simpa using hl) λj x y c e2=>xN j x y c e2;rwa [vI]at this
   .rw[xM (by simpa using hl),beq_eq_false_iff_ne.mpr hl,Bool.and_false]
  rw[k]at rc;exact SeqAt.EqAt.of_refs U rc
theorem Fz (xs:List At):b8 xs xs=some false:=by
 induction xs with
 |nil=>rfl
 |cons x xs G=>cases x<;>rw[b8,if_pos rr,G]
def Ij (hx:ge s.heap xs x)(hy:ge s.heap ys y)(h:b8 (.i n::xs) (.i m::ys)=some b)(hu:A.units<cLine)(q:Q b s)(hn:Bo (.i n) u)(hm:Bo (.i m) v):KatLex prog w A true false Q [(u,v),(x,y)] 0 s:=by
 obtain⟨t,rfl⟩:=hn;obtain⟨t',rfl⟩:=hm;refine kat_cons (wpAny_eqBool_int ?_);rw[b8]at h;by_cases e:n=m
 .rw[if_pos e]at h;rw[show(n == m)=true by simp[e]];refine kat_yes (kat_cons (Pe hx hy hu _ _ _ _ ?_));by_cases e2:xs=ys
  .grind[qW,Fz,kat_yes,kat_nil]
  .rw[Bool.eq_false_iff.mpr λz=>e2 ((qW xs ys).mp z)];refine kat_no (kat_one _ _ ?_);exact HL  hx hy h hu (by first|exact q|exact⟨b,rr,q⟩)
 .rw[if_neg e]at h;cases h
  rw[show(n == m)=false by simp[e]];exact kat_no (oneLt_int q)
end
def F0 (h:Heap)(xs:List At)(v:Value):Prop:=∃n k a o its m u x,xs=.i n::k/\v=.ref a/\h.get? a=some o/\o.cls=.type "tuple"/\o.data=.seq its m/\its.toList=[u,x]/\Bo (.i n) u/\ge h k x
section
variable {prog:Program}{w:World}{A:Around}{E:QV}{s:Shared}
def L3 (hx:F0 s.heap xs x)(hy:F0 s.heap ys y)(h:b8 xs ys=some b)(hu:A.units<cLine)(q:Q b s):wpAny (model prog w) A (keyLt' (tuples' true) x y) Q E s:=by
 obtain⟨n,k,a,o,its,m,u,c,rfl,rfl,ho,_,hd,ei,an,U⟩:=hx;obtain⟨d,k',e,o',its',f,g,i,rfl,rfl,M,_,O,G,T,ty⟩:=hy;refine kat_lt ho hd M O ?_;rw[ei,G];have hf:decide (its.size<its'.size)=false:=by
  rw[<-vG,<-vG,ei,G];rfl
 rw[hf];exact Ij U ty h hu q an T
theorem qg:∀ {ks:List (List At)}{vs:LU},Paired (F0 h) ks vs->∃fs,KatTups h vs fs/\fs.length=ks.length/\∀v∈fs,∃n,Bo (.i n) v
 |_,_,.nil=>⟨[],trivial,rr,X9⟩
 |k::ks,_,.cons x t=>by
  obtain⟨fs,h1,h2,h3⟩:=qg t;obtain⟨n,k,a,o,its,m,u,G,rfl,rfl,ho,hc,hd,ei,an,_⟩:=x;refine⟨u::fs,KatTups.cons ho hc hd (by rw[<-Array.getElem?_toList,ei];rfl) h1,by simp[h2],λv M=>?_⟩;grind
def F3 (hp:Paired (F0 s.heap) ks vs)(hn:0<ks.length)(q:Q (tuples' true) s):wpAny (model prog w) A (keyKind' vs.toArray) Q E s:=by
 obtain⟨fs,h1,h2,h3⟩:=qg hp;refine kat_kind (T:=.type "int") h1 N9 (λv G=>?_) Z9 q;obtain⟨n,t,rfl⟩:=h3 v G;exact .now
def Ik (hc:dJ ks=true)(hu:A.units<cLine)(hp:Paired (F0 s.heap) ks vs):∀(i j:Nat)(C:Bool->Shared->Prop)(s1:Shared),i<ks.length->j<ks.length->s1=s->(∀s',s'=s->C (rW (Bp ks) i j) s')->kas_ask prog w A (tuples' true) vs i j C s1:=by
 intro i j C s1 hi hj e M;subst e;have G:ks.getD i []∈ks:=by simp_all
 have O:ks.getD j []∈ks:=by simp_all
 refine L3 (fT [] _ hp hi) (fT [] _ hp hj) (iC hc G O) hu ?_;have:=M s1 rr;unfold rW Bp at this;rw[zX (uR ⟨_,G,rr⟩)]at this;exact this
end
def Pf:D->Option (List At)
 |.tup [.int n,.tup es]=>(jX es).map (.i n :: ·)
 |_=>none
def mv:LD->Option (List (List At))
 |[]=>some []
 |d::ds=>(Pf d).bind λa=>(mv ds).map (a :: ·)
theorem w9:∀ {ds:LD}{ks:List (List At)},mv ds=some ks->ks.length=ds.length
 |[],_,h=>by simp_all[mv]
 |d::ds,_,h=>by
  obtain⟨a,h1,h⟩:=oX h;obtain⟨r,h2,h⟩:=oY h;subst h;simp[w9 h2]
theorem Al (I:Inv X ak σ H s):∀ {ys:LV}{ds:LD}{ks:List (List At)}{its:LU},bi ys its->IsL X.K H ys ds->mv ds=some ks->Paired (F0 s.heap) ks its
 |_,_,_,_,.nil,.nil,h=>by cases h;exact .nil
 |_,_,_,_,.cons r T,.cons i U,h=>by
  obtain⟨a,h1,h⟩:=oX h;obtain⟨t,h2,h⟩:=oY h;subst h;refine .cons ?_ (Al I T U h2);unfold Pf at h1;split at h1
  .rename_i n es;obtain⟨k,M,rfl⟩:=oY h1;cases i with
   |tup hq hl=>
    cases r
    obtain⟨its',G,⟨o,ho,hc,m,hd⟩,_⟩:=I.tuple hq;cases hl with
    |cons i1 hl=>
     cases hl with
     |cons i2 hl=>
      cases hl
      cases G with
      |cons b G=>
       cases G with
       |cons c G=>
        cases G
        cases i1
        have hk:fJ [D.tup es]=some [k]:=by show(jX es).bind _=_;rw[M];rfl
        have O:=nI I (.cons c .nil) (.cons i2 .nil) hk;cases O with
        |cons O _=>exact⟨n,k,_,o,_,m,_,_,rr,rr,ho,hc,hd,rr,b,O⟩
  simp_all
def L4 (hu:A.units<cLine):KK X A mv λ_=>true:=⟨w9,λI _ _ _ _ r i e _ hc=>have hp:=Al I r i e;⟨λhn _ _ q=>F3 hp hn q,Ik hc hu hp⟩⟩
def Il (hu:X.A.units+40<cLine):KK X X.A.in1.in1 mv λ_=>true:=L4 N9
@[simp] abbrev Ch:FE->(Env->D->Option D)->FE:=yj mv λ_=>true
end DL
namespace DL
open PySem PySem.Spec PyProof.Rows L2
def RX:Nat->(LU->Prop)->Prop
 |0,P=>P []
 |n+1,P=>∀a,RX n λl=>P (a::l)
theorem Im:∀n P,RX n P->∀us:LU,us.length=n->P us
 |0,_,h,[],_=>h
 |n+1,_,h,a::us,e=>Im n _ (h a) us (Nat.succ.inj e)
section
variable {P:Program}{w:World}{K:Frag}{mg:SV}{base:Heap}
def KC (K:Frag)(mg:SV)(x:Str)(c:D):Prop:=∃u v,mg x=some u/\aU v u/\∀B,Is K B v c
def KD (w:World)(K:Frag)(mg:SV)(x:Str)(c:List (Str×D)):Prop:=∃d,mg x=some (.ref d)/\nE K w.params d c
def kc_of {x:Str}{c:D}{h:Heap}(X:K.In h)(G:h.Ns mainGlobals mg)(k:∃u v,nsIn K mainGlobals x=some (some u)/\aU v u/\∀B,Is K B v c):KC K mg x c:=let ⟨u,v,e,r⟩:=k;⟨u,v,mg_of X G e,r⟩
def kd_of {x:Str}{c:List (Str×D)}{h:Heap}(X:K.In h)(G:h.Ns mainGlobals mg)(k:∃d,nsIn K mainGlobals x=some (some (.ref d))/\nE K w.params d c):KD w K mg x c:=let ⟨d,e,r⟩:=k;⟨d,mg_of X G e,r⟩
def cG.fqL {x:Str}{st:Stmt}{k:Nat}{O:LD->OB}(F:cG K x st)(B:∃h,K.In h/\h.Ns mainGlobals mg)(g:FS)(N:LS)(n:Nat)
  (hb:∀ {f:Addr}{dG:Value}{A:Around}{outer:List PySem.Env}{s:Shared}{H:Hp}{E:XK},N.Nodup->ft k (A.deeper (envOfC x (aJ st) s.heap.objs.size f dG))->(A.deeper (envOfC x (aJ st) s.heap.objs.size f dG)).units+40<cLine->(∀c P,PySem.W.tabIn K x=some (c,P)->dG=.ref c)->vy (oM yL P w K mg base N x (aJ st) f dG A outer s H E).nox (ca st) g)
  (S:FnScope N (N.take n) (aJ st):=by refine⟨rr,rr,rr,?_,rr,?_,?_⟩<;>decide +kernel)
  (M:∀(kV doc pm:Value)(an:Option Addr)(dG ct:Value)(us:LU),us.length=(N.take n).length->bindArgs (fnOf x x (eC st) (ca st) (aJ st) .none kV doc pm an dG ct) ⟨us,[]⟩=pure ((N.take n).zip us):=by
   exact λ_ _ _ _ _ _=>Im _ _ (by(repeat intro);rfl))
  (e:aB g (N.take n).length (N.length - (N.take n).length)=O:=by rfl):
  Fn P w K mg base (k+1) x O:=let ⟨_,X,G⟩:=B;e ▸ F.fnL X G S M λ_ _ _ _ _ _ _ hc T=>hb S.nd T (BC T) hc
def cG.fq {x:Str}{st:Stmt}{k:Nat}{M:LD->OB}(F:cG K x st)(B:∃h,K.In h/\h.Ns mainGlobals mg)(g:FS)(N:LS)(n:Nat)
  (hb:∀ {f:Addr}{dG:Value}{A:Around}{outer:List PySem.Env}{s:Shared}{H:Hp}{E:XK},N.Nodup->ft k (A.deeper (envOfC x (aJ st) s.heap.objs.size f dG))->(A.deeper (envOfC x (aJ st) s.heap.objs.size f dG)).units+40<cLine->vy (oM yL P w K mg base N x (aJ st) f dG A outer s H E).nox (ca st) g)
  (S:FnScope N (N.take n) (aJ st):=by refine⟨rr,rr,rr,?_,rr,?_,?_⟩<;>decide +kernel)
  (G:∀(kV doc pm:Value)(an:Option Addr)(dG ct:Value)(us:LU),us.length=(N.take n).length->bindArgs (fnOf x x (eC st) (ca st) (aJ st) .none kV doc pm an dG ct) ⟨us,[]⟩=pure ((N.take n).zip us):=by
   exact λ_ _ _ _ _ _=>Im _ _ (by(repeat intro);rfl))
  (e:aB g (N.take n).length (N.length - (N.take n).length)=M:=by rfl):
  Fn P w K mg base (k+1) x M:=F.fqL B g N n (λn r u _=>hb n r u) S G e
end
section
variable {X:Cx}{x:Str}{pos:Pos}
def Ci (i:Nat)(G:X.N.Nodup)(hi:X.N[i]? = some x:=by rfl)(hx:JU X.env.scope x:=by first|exact Or.inl rr|exact Or.inr rr)(hf:X.fn x=true\/X.env.scope.names.lookup x=some .local:=by first|exact .inl rr|exact .inr rr):PG X (.Name x pos) (kP i):=CL G hi hx hf
def Q0 {fp}(i:Nat)(G:N'.Nodup:=by decide +kernel)(hi:(jv X N' scope cl C s H fp).N[i]? = some x:=by rfl)(hx:JU (jv X N' scope cl C s H fp).env.scope x:=by exact Or.inl rr)(hf:(jv X N' scope cl C s H fp).fn x=true\/(jv X N' scope cl C s H fp).env.scope.names.lookup x=some .local:=by first|exact .inl rr|exact .inr rr):PG (jv X N' scope cl C s H fp) (.Name x pos) (kP i):=CL G hi hx hf
def ga (N':LS)(hi:JI X tg U fi)(hc:∀ {C s H fp},JC (jv X N' scope (g9 scope.names X.env.cells []) C s H fp) Bl fc)(he:∀ {C s H fp},JE (jv X N' scope (g9 scope.names X.env.cells []) C s H fp) Bm fe)
  (M:MX X.K nT u0 g:=by first|exact ze Z9|exact Nd Z9) (O:∀ {C s H fp},PG (jv X N' scope (g9 scope.names X.env.cells []) C s H fp) tg g:=by intros;first|exact Q0 0|exact xx rr (gT (Q0 0) (gT (Q0 1) qO)))
  (T:oF X N' scope (g9 scope.names X.env.cells []) nT cap:=by repeat first|exact .nil rr|refine Wv rr rr ?_)
  (S:CompSc X scope (g9 scope.names X.env.cells []):=by exact RV) (G:X.calm=true:=by rfl)
  (hs:∀x,foldedSetIterable U X.env x=pure x:=by intro _;rfl):
  JE X (.ListComp Bm [⟨tg,U,Bl,0⟩] scope pos) (bP fi nT cap u0 fc fe):=KI G S T hi (λ_ _ _ _=>O) M (λ_ _ _ _=>hc) (λ_ _ _ _=>he) hs
def kG (N':LS)(U:X.N.Nodup)(hi:JI X tg gf fi)(hc:∀ {C s H fp},JC (jv X N' scope (g9 scope.names X.env.cells []) C s H fp) Bl fc)(he:∀ {C s H fp},JE (jv X N' scope (g9 scope.names X.env.cells []) C s H fp) Bm fe)
  (M:MX X.K nT u0 g:=by first|exact ze Z9|exact Nd Z9) (a:∀ {C s H fp},PG (jv X N' scope (g9 scope.names X.env.cells []) C s H fp) tg g:=by intros;first|exact Q0 0|exact xx rr (gT (Q0 0) (gT (Q0 1) qO)))
  (b:oF X N' scope (g9 scope.names X.env.cells []) nT cap:=by repeat first|exact .nil rr|refine Wv rr rr ?_)
  (O:X.N[i]? = some y:=by rfl) (hy:X.env.kindOf y=some .local:=by rfl)
  (T:swapsWith (.ListComp Bm [⟨tg,gf,Bl,0⟩] scope pos) (some (.Name y py)) spos.line X.env=pure true:=by rfl)
  (S:CompSc X scope (g9 scope.names X.env.cells []):=by exact RV) (G:X.calm=true:=by rfl)
  (hs:∀x,foldedSetIterable gf X.env x=pure x:=by intro _;rfl):
  JS X (.Assign [.Name y py] (.ListComp Bm [⟨tg,gf,Bl,0⟩] scope pos) spos) (aS i (bP fi nT cap u0 fc fe)):=KJ G U O hy T S b hi (λ_ _ _ _=>a) M (λ_ _ _ _=>hc) (λ_ _ _ _=>he) hs
def nO (hi:JI X tg T fi)(G:PG X tg t)(M:KE X.K U t)(hb:vy X O g)(hp:PassesOwn (model X.prog X.w) X.A X.env X.xe:=by exact PassesOwn.never)(hc:X.calm=true:=by rfl)
  (hs:∀x,foldedSetIterable T X.env x=pure x:=by intro _;rfl):JS X (.For tg T O [] pos) (nu fi U g):=OA hp hc hi G M hb hs
def DG (hi:PI X tg T (T1 X.K fi))(G:PG X tg t)(M:KE X.K U t)(hb:vy X O g)(hp:PassesOwn (model X.prog X.w) X.A X.env X.xe:=by exact PassesOwn.never)(hc:X.calm=true:=by rfl)
  (hs:∀x,foldedSetIterable T X.env x=pure x:=by intro _;rfl):JS X (.For tg T O [] pos) (nv fi U g):=KS hp hc hi G M hb hs
end
end DL
namespace DL
open PySem PySem.Spec PySem.W PyProof.Rows L2
def sA:entryFor table "dict_itemiterator.__iter__" = some Builtin.«dict_keyiterator.__iter__»:=entryFor_alias (id':="dict_keyiterator.__iter__") r9 rr H9 r9
def yo (he:IsItemIter s.heap it d i n M ok O)(h:Q (.ref it) s):wpAny (model prog w) A (pyIter (.ref it)) Q E s:=by
 have G:s.TypeIs (.ref it) _:=⟨_,he,rr⟩;refine wpAny_pyIter_slot G PySem.F.slot_dict_itemiterator_iter (wpAny_call_entry PySem.F.slot_dict_itemiterator_iter G sA ?_ (PySem.F.args_dict_itemiterator_iter_1 _));exact wY ⟨_,rr,"dict_itemiterator",_,G,PySem.F.slot_dict_itemiterator_next.lookup,h⟩
noncomputable def UA (a:Addr)(aL:List (fG×V))(ob:Obj):It:=⟨λi H=>H a=some (.dK aL ob)/\i<aL.length,λi H y H'=>∃T k v,y=.ref T/\H T=none/\H'=upd H T (.tup [kV k,v])/\aL[i]? = some (k,v),λi H=>H a=some (.dK aL ob)/\aL.length<=i⟩
def Cj {P:Program}{w:World}{K:Frag}{es:QD}{l:Nat}{pt:Pos}(a it:Addr)(aL:List (fG×V))(ob:Obj){ds:Array DictEntry}{j:Nat}(hd:ob.data=.dict ds j):Turn P w K (.Tuple es l pt) (UA a aL ob) [it] it (λi h=>∃ok G,IsItemIter h it a i aL.length j ok G) where
 mem:=X9
 obj:=λi h st b hb=>by
  grind
 keep:=λi h h' st k=>let ⟨ok,G,e⟩:=st;⟨ok,G,k it X9 _ e⟩
 item:=by
  intro X U hw c hc i ak s σ H E I hf st d;subst U hw c;obtain⟨ok,G,he⟩:=st;obtain⟨f,M⟩:=d;obtain⟨vs,r,m⟩:=sw I.hok f hd;have hl :=(Paired.length r).symm;obtain⟨u,hu,ru⟩:=r.get (k:=aL[i].1) (x:=aL[i].2) (vU M);have fresh :=I.hok.fresh (vT _);have n :=vS (vX he);refine wpAny_pyNext_items_item (by rw[hl];exact he) m hu λg h' O ho p hsz hk=>?_;rw[hl]at ho;refine⟨_,rr,wpAny_letOwnedTupleGo_items  ho λh2 t s2=>?_⟩;have T:Heap.SameBut it h' h2:=s2;have v:∀b o,b∉[it]->s.heap.get? b=some o->h2.get? b=some o:=λb o hb q=>T.extBut _ _ (λz=>hb (by simp[z])) (hk b o (λz=>hb (by simp[z])) q);have new:bJ X.prog X.w (upd H s.heap.objs.size (.tup [kV aL[i].1,aL[i].2])) h2 s.heap.objs.size (.tup _):=⟨by show 2<=sizeLine;decide,[g,u],.cons (RS O) (.cons ru .nil),⟨_,T.extBut _ _ n.symm p,rr,_,rr⟩⟩;refine⟨.ref s.heap.objs.size,upd H s.heap.objs.size _,Dq (s:=s) (t':=s.toks) I hf v (vT _) new,rr,⟨_,aL[i].1,aL[i].2,rr,fresh,rr,vU M⟩,⟨_,_,t⟩,λb hb=>?_⟩;have y:b≠s.heap.objs.size:=by
   simp_all
  rw[aH y];exact(hf b hb).1
 done:=by
  intro X U hw c hc i ak s σ H E I hf st d;subst U hw c;obtain⟨ok,G,he⟩:=st;obtain⟨f,A⟩:=d;obtain⟨vs,r,m⟩:=sw I.hok f hd;have hl :=(Paired.length r).symm;exact wpAny_pyNext_items_end (I.ok.hd hc) (by rw[hl];exact he) m (getElem?_eq_none N9) λh' hk=>⟨rr,lP (t':=s.toks) I hf λb o hb q=>hk b o (λz=>hb (by simp[z])) q⟩
 self:=λ_ _ _ _ _ st h=>let ⟨_,_,he⟩:=st;yo he h
section
variable {X:Cx}{es:QD}{kt:Nat}{pt:Pos}{e:Expr}
def UB (M:TE):TI:=λσ H R=>M σ H λx G=>∃a aL ob,x=.ref a/\G a=some (.dK aL ob)/\R (UA a aL ob) G
def Io {o:Expr}{c:TE}{dn cf:Pos}(ho:PE X o c)(G:attributeBase o "items" X.env (eval o X.env)=eval o X.env:=by rfl)(M:(dn.endLine == cf.line)=true:=by rfl):PI X (.Tuple es kt pt) (.Call (.Attribute o "items" dn) [] [] cf) (UB c):=by
 intro ak s σ H R I h;refine wpAny_Call_method0_late G M (cu (ho _ s σ H _ I h) λv s1 ⟨x,d,O,f,a,aL,ob,ex,T,q⟩=>?_);subst ex;obtain⟨h1,h2⟩:=B5 O f  (.inr (.inr (.inl ⟨rr,.inl ⟨aL,ob,T⟩⟩)));cases f
 obtain⟨es,g,hd⟩:=yn O.hok T;obtain⟨vs,r,m⟩:=sw O.hok T hd;have hl :=(Paired.length r).symm;refine⟨"dict","dict.items",plainAttrs_dict,PySem.F.slot_dict_items,PySem.F.type_dict_items,h1,h2,Calls.callWith_builtin rr (PySem.evalArgs_none ?_)⟩;refine call_meetsIn PySem.F.slot_dict_items h1 PySem.F.entry_dict_items (PySem.F.args_dict_items_1 _) (meets_dict_items _ a (rq O.hok T).2.1) ⟨⟨vs,m.dictOf⟩,?_⟩;have U:Inv X ak σ d { s1 with heap:=s1.heap.push { cls:=.type "dict_items",data:=.fields #[.ref a] } }:=O.kept  λb o e=>vZ _ e;refine wpAny_pyIter_items  ⟨_,vY _ rr,rr,rr⟩ (m.keep λb o e=>vZ _ e) ?_;rw[hl];refine⟨(s1.heap.push _).objs.size,[(s1.heap.push _).objs.size],_,_,d,rr,U.kept  λb o e=>vZ _ e,Cj a _ aL ob hd,⟨_,_,vY _ rr⟩,λb hb=>?_,q⟩;have e:b=(s1.heap.push { cls:=.type "dict_items",data:=.fields #[.ref a] }).objs.size:=by simpa using hb
 subst e;exact U.fpOk (vT _) (U.hok.fresh (vT _))
noncomputable def mL (ks:LK)(ds:LD):LD:=(ks.zip ds).map λx=>.tup [kD x.1,x.2]
def Ip {K:Frag}{B:Hp}{a:Addr}{ks:LK}{vs:LV}{ds:LD}{ob:Obj}(h:B a=some (.dK (ks.zip vs) ob))(hl:ks.length=vs.length)(hs:IsL K B vs ds):nq K (UA a (ks.zip vs) ob) B (mL ks ds):=by
 intro i H s;have hz:(ks.zip vs).length=vs.length:=by rw[length_zip];lia
 have hn:=hs.length;refine⟨λd ed=>?_,λM=>⟨s _ _ h,by simp_all[mL]⟩⟩;unfold mL at ed;rw[uZ]at ed;obtain⟨⟨k0,d0⟩,ek,rfl⟩:=oY ed;obtain⟨c,e2⟩:=getElem?_zip_eq_some.mp ek;obtain⟨v,O,iv⟩:=hs.get e2;have G :=(vV O).1;refine⟨⟨s _ _ h,by rw[hz];exact G⟩,λy j hy=>?_⟩;obtain⟨T,k,f,rfl,g,rfl,e⟩:=hy;obtain⟨g1,U⟩:=getElem?_zip_eq_some.mp e;rw[c]at g1;cases g1;rw[O]at U;cases U;have b:=Ext.laid (o:=.tup [kV k0,f]) s g;exact⟨_,b,.tup (jf.of a6) (.cons (RU _) (.cons (iv.mono b.bn) .nil))⟩
@[simp] def DH (f:FE):FA:=λρ=>(f ρ).bind λx=>match x.1 with|.dk ks ds=>some (mL ks ds)|_=>none
def Iq (h:JE X e f)(G:attributeBase e "items" X.env (eval e X.env)=eval e X.env:=by rfl)(M:(dn.endLine == cf.line)=true:=by rfl):JI X (.Tuple es kt pt) (.Call (.Attribute e "items" dn) [] [] cf) (DH f):=by
 intro ak s σ H R I q;obtain⟨B,ρ,ds,T,r,U,q⟩:=q;obtain⟨⟨xd,c⟩,ex,es⟩:=oX U;cases xd<;>try (cases es;done)
 cases es
 refine Io h G M _ s σ H R I ⟨B,ρ,_,_,T,r,ex,λv b N1 O i1 _=>?_⟩;cases i1 with
 |@dk a ks vs ds ob hd hl hs=>exact⟨a,_,ob,rr,O.nh _ _ hd,q _ b N1 O (Ip hd hl hs)⟩
end
section
variable {K:Frag}{E:Ends}{σ:St}{H:Hp}
def sC (i:Nat)(M O:FE):FS:=λρ=>match ρ[i]? with
 |some (some (.dk ks vs,true))=>(O (j9 ρ)).bind λv=>(M ρ).bind λk=>(la k.1).bind λG=>if ks.length<sizeLine then some (.nx (ρ.set i (some (.dk (iz ks G) (fK ks vs G v.1),true))))else none
 |_=>none
def F4 (q:oJ K (sC i fk fv) E σ H):CU (qG i) (tD K fk) (tD K fv) E σ H:=by
 obtain⟨B0,H0,ρ,r,⟨N,s⟩,e,p⟩:=q;unfold sC at e;split at e
 .rename_i ks ds ei;obtain⟨v,M,e⟩:=oX e;obtain⟨k,ek,e⟩:=oX e;obtain⟨O,hk,e⟩:=oX e;split at e
  .cases e
   refine⟨fw N _,j9 ρ,v.1,v.2,bT.trans s.ext.nh,s.repH,M,λb d N1 T i1 _=>?_⟩;obtain⟨s1,c⟩:=s.growH T;obtain⟨a,o,h1,h2,h3,h4⟩:=s1.ow i _ ei;refine⟨.ref a,h1,_,ρ,k.1,k.2,s1.ext.nh,s1.rep,ek,λf H2 N2 G i2 _=>?_⟩;have s2:=s1.grow G;have U:=qe i2 hk;subst U;obtain⟨g,o',k1,k2,k3,k4⟩:=s2.ow i _ ei;rw[h1]at k1;cases k1
   cases k4 with
   |@dk ks vs ds hl h5 ob=>
    refine⟨a,rr,.inl ⟨_,O,_,s2.ext.nh _ _ k2,rr,?_,λh=>?_⟩⟩
    .rw[length_zip];lia
    .rw[qV hl];exact p σ _ ⟨_,s2.writeB ei h1 (.dk (nN hl _ _) (h5.put ((i1.mono c).mono (fH λa o e q=>⟨G.bn a o e,q⟩))))⟩
  .cases e
 simp_all
end
section
variable {X:Cx}{pos:Pos}{e k:Expr}
def Ir (hu:X.A.units+1<cLine)(O:JE X e U)(hk:JE X k fk)(T:X.N[i]? = some y:=by rfl)(G:NH X.env.scope y:=by first|exact Or.inl rr|exact Or.inr (Or.inl rr)|exact Or.inr (Or.inr rr))(hd:(y == ("__debug__" : Str))=false:=by decide)
  (M:(y == ("__classdict__" : Str))=false:=by decide) (hs:swapsWith e (some (.Subscript (.Name y py) k pt)) pos.line X.env=pure false:=by rfl):JS X (.Assign [.Subscript (.Name y py) k pt] e pos) (sC i fk U) :=
 PS.to (xH hu (rf T G hd M) hk O hs) λ_ _ _ q=>F4 q
end
section
variable {prog:Program}{w:World}{A:Around}{E:QV}{s:Shared}
theorem DI:∀(vs:LU)(ns:LI),vs.length=ns.length->(∀(i:Nat)(v:Value),vs[i]? = some v->∃(m:Int)(t:Tok),ns[i]? = some m/\v=Value.int m t)->IntsAre vs ns
 |[],[],_,_=>.nil
 |v::vs,n::ns,h,k=>by
  obtain⟨m,t,e,rfl⟩:=k 0 v rr;cases (show some n=some m from e)
  exact .cons n t (DI vs ns (by simpa using h) λi v G=>k (i+1) v G)
def Am (hh:A.handled=none)(lo:(a == sysModules)=false)(hm:s.heap.DictAt (dv prog w) a aL ep)(hk:aL.map (·.1)=ns.map .inl)(f:ns.length<64)
  (g:∀(h1 h':Heap)(tk:Nat)(b:Addr)(out:AV)(n:Nat)(G:LI),(∀c u,s.heap.get? c=some u->h1.get? c=some u)->(∀c u,h1.get? c=some u->h'.get? c=some u)->h1.objs.size<=b->h'.get? b=some (seqObj "list" out n) ->
   IntsAre out.toList G->G.Perm ns->G.Pairwise (·<=·)->Q (.ref b) { s with heap:=h',toks:=tk }):
  wpAny (model prog w) A (call (.builtin "sorted") [.ref a]) Q E s:=by
 refine Calls.call_function_entry kind_sorted plain_sorted entry_sorted (args_sorted1 _) ?_;refine wX  (wY ?_);have h :=by have:=congrArg List.length hk;simpa using this
 refine wX (kdu_collect (A:=A.in1) (kdl_dict lo) (by exact hh) hm (by rw[sizeLine_eq];lia) λh1 tk O T M=>?_);have U:O.toList.length=ns.length:=by rw[vG,M.1,h]
 have j :=DI O.toList ns U λi v l=>by
  obtain⟨k,x,o,e2⟩:=M.2 i v (by simpa using l);have e:(aL.map (·.1))[i]? = some k:=by rw[uZ,o];rfl
  rw[hk,uZ]at e;obtain⟨m,p,rfl⟩:=oY e;obtain⟨t,rfl⟩:=Value.isInt_shape (k:=m) (v:=v) e2;exact⟨m,t,p,rr⟩
 refine wX (wpAny_newList ?_ (by rw[U,sizeLine_eq];lia));have d:(h1.push (seqObj "list" O.toList.toArray 0)).get? h1.objs.size=some _:=vY _ rr;refine wX (wpAny_holding (wpAny_call_entry slot_list_sort ⟨_,d,rr⟩ entry_list_sort (list_sort_tree d j (by rw[U];exact f) λout G r y z=>⟨_,rr,?_⟩) (args_list_sort _)));obtain⟨n,he⟩:=sortedHeap_at (out:=out) d;refine wY ⟨_,rr,g h1 _ _ _ out n G T (λb u q=>?_) (vT _) he r y z⟩;have hl:=vX q;rw[sortedHeap_old (vS hl) (by simp_all[lt_succ_of_lt])];exact vZ _ q
end
noncomputable def wA:LK->Option LI
 |[]=>some []
 |.inl n::ks=>(wA ks).map (n :: ·)
 |.inr _::_=>none
theorem An:∀ {ks:LK}{ns:LI},wA ks=some ns->ks=ns.map .inl
 |[],_,h=>by cases h;rfl
 |.inl n::ks,_,h=>by
  obtain⟨r,h1,rfl⟩:=oY h;rw[An h1];rfl
 |.inr _::_,_,h=>by cases h
def L5 {aL:List (fG×V)}{vs:List (fG×Value)}(r:KV aL vs):vs.map (·.1)=aL.map (·.1):=by
 induction r with
 |nil=>rfl
 |cons h t G=>simp_all
@[simp] def Ao:LD->OB
 |[.dk ks _]=>(wA ks).bind λns=>if ns.length<64 then some (.lst ((pZ ns).map .int),true)else none
 |_=>none
section
variable {X:Cx}
def F5 (hc:X.calm=true):bY X (.builtin "sorted") (B7 X.K Ao):=by
 intro ak s σ H xs us Q I r h;obtain⟨B,dl,d,bb,f,i,M,q⟩:=h;cases i with
 |nil=>simp  at M
 |cons i1 i2=>
  cases i2 with
  |cons _ _=>simp_all
  |nil=>
   cases i1 with
   |@dk a ks vs ds ob hd hl hs=>
    obtain⟨u,rfl,j⟩:=ij r;cases j
    obtain⟨ns,en,M⟩:=oX M;split at M
    .rename_i O;cases M
     have T:=f _ _ hd;obtain⟨es,y,U⟩:=yn I.hok T;obtain⟨k,l,m⟩:=sw I.hok T U;have c:k.map (·.1)=ns.map .inl:=by rw[L5 l,List.map_fst_zip N9,An en]
     refine Am (I.ok.hd hc) (rq I.hok T).2.1 m c O λh1 h' tk b out n p k1 k2 hb he t G v=>?_;have e:=Ac G v;subst e;have g:Inv X _ σ H { s with heap:=h1,toks:=tk }:=oZ I k1 rr rr;have hf :=g.hok.fresh hb;have x:=Ext.laid (o:=.lst ((pZ ns).map V.int)) f hf;exact⟨.ref b,_,g.laid  k2 hb (show bJ _ X.w _ h' _ (.lst _)from ⟨by rw[vI];unfold pZ;rw[(aW _ ns).length_eq,sizeLine_eq];lia,out.toList,n,iB t,he⟩),rr,q _ _ _ x (.lst (gB.of a6) (nJ _)) λ_=>⟨_,_,_,rr,rr,hf,a6,nJ _⟩⟩
    simp_all
   |_=>simp  at M
def Pg (hu:X.A.units+1<cLine)(hi:JE X i fi)(ho:JE X o fo)(hm:behindInMarks .In o=false:=by first|exact j7 _ Z9 Z9|rfl):JE X (.Compare i [.In] [o] pos) (f2 Wt fi fo):=by
 refine PE.to (NL (Ox hu hi ho) hm) λσ H Q q=>?_;obtain⟨B,ρ,d,bb,T,r,G,q⟩:=q;obtain⟨y,U,G⟩:=oX G;obtain⟨x,ex,G⟩:=oX G;refine⟨B,ρ,y.1,y.2,T,r,U,λc e N1 M i2 _=>⟨N1,ρ,x.1,x.2,M.nh,r.mono M.bn,ex,λv H2 N2 O i1 f=>?_⟩⟩;obtain⟨xd,g⟩:=x;cases i1 with
 |@dk a ks vs ds ob h hl hs=>
  obtain⟨k,hk,G⟩:=oY G;cases G
  have b:=qe i2 hk;subst b;refine⟨a,kL _ k,rr,.inl ⟨_,k,_,.inl (O.nh _ _ h),rr,rr⟩,?_⟩;rw[wy hl hs];exact(q.into (M.trans O)).one O.nh (.bl _)
 |_=>simp  at G
end
end DL
namespace DL
open PySem PySem.Spec PyProof.Rows L2
@[simp] abbrev fV (i:Nat)(g:FA):FA:=af (aj i) g
@[simp] abbrev fI (n:Int):FE:=fC (.int n)
@[simp] abbrev fS (s:PySem.Str):FE:=fC (.str s)
section
variable {X:Cx}{es:QD}{g:FA}{pos:Pos}
def aA {x:Str}{p:Pos}(i:Nat)(G:JA X es g)(M:PE X (.Name x p) (qG i):=by exact pv)
  (hs:starEach (.Name x p::es) X.env=(false,eval (.Name x p) X.env)::starEach es X.env:=by rfl):JA X (.Name x p::es) (fV i g):=ag (ah i M) G hs
def c6 {i:Int}{j:Nat}(G:JA X es g):JA X (.Constant (.int i) j pos::es) (af (fC (.int i)) g):=ag aw G
def ay (F:Fn X.prog X.w X.K X.mg X.base k x f)(O:ft j X.A)(ha:JA X (e::es) g:=by repeat first|exact am|refine aA _ ?_|refine ag a5 ?_)(hj:k<=j:=by decide)(T:Gl X x:=by rfl)(G:(x == ("__debug__" : Str))=false:=by decide)(he:starEach (e::es) X.env=(false,eval e X.env)::starEach es X.env:=by rfl)(M:(backTo pos (starEach es X.env)).any (·.1)=false:=by rfl):JE X (.Call (.Name x p) (e::es) [] pos) (fA f g):=CZ F (O.mono hj) ha T G he M
def aM (he:JE X e f):vy X [.Return (some e) pos] (aE f):=ba (GS he)
def bw {c:Expr}{G:FT}(hc:JT X c G)(he:JE X e f):JS X (.If c [.Return (some e) p] [] pos) (cU G (aE f) aQ):=gg hc (ba (GS he)) fP
def aT (i:Nat)(G:PE X (.Name x p) (qG i):=by exact pv):JE X (.Subscript (.Name x p) (.Constant (.int n) j q) pos) (cF i n):=aI (ah i G) aw
end
def Ck:typeLookup (.type "list_reverseiterator") "__len__" = pure none:=S9
def L6:typeLookup (.type "list_reverseiterator") "__length_hint__" = pure (some (.builtin "list_reverseiterator.__length_hint__")):=S9
def sD:bootBuiltins "reversed" = some (.type "reversed"):=H9
section
variable {prog:Program}{w:World}{A:Around}{E:QV}{s:Shared}{l it:Addr}{items:AV}
def Iu {Q:Bool->Shared->Prop}(G:s.TypeIs (.ref it) "list_reverseiterator")(h:Q false s):wpAny (model prog w) A (Builtin.List.listLengthHint (.ref it)) Q E s:=by
 refine wX (wpAny_specialOf G Ck ?_);refine wX (wpAny_specialOf G L6 ?_);generalize M:("list_reverseiterator.__length_hint__" : String)=O;subst M;refine wX (wpAny_isInstance (b:=true) G r9 ?_);exact wY h
def ve (hh:A.handled=none)(k:l≠it)(uA:s.heap.IsRevIter it l ((items.size:Int) - 1))(hl:s.heap.IsList l items)(hn:items.size<=sizeLine)
  (m:∀s' G d,(∀b o,b≠it->s.heap.get? b=some o->s'.heap.get? b=some o)->s'.gens=s.gens->s'.os=s.os->s'.heap.get? s.heap.objs.size=some (seqObj "list" G d)->G.toList=items.toList.reverse->Q (.ref s.heap.objs.size) s'):
  wpAny (model prog w) A (call (.type "list") [.ref it]) Q E s:=by
 have f:∀ {b o},s.heap.get? b=some o->b≠s.heap.objs.size:=λe=>vS (vX e);have n:it≠s.heap.objs.size:=by obtain⟨o,e,_⟩:=id uA;exact f e
 have t:l≠s.heap.objs.size:=by obtain⟨o,e,_⟩:=id hl;exact f e
 refine callType_codes (Q₁:=λobj a=>obj=.ref s.heap.objs.size/\a={ s with heap:=s.heap.push _ }) called_list (PySem.F.typeCall_list_1 _) PySem.F.entry_list_init
  (code_list_new _ ⟨rr,rr⟩) λobj a c=>?_
 obtain⟨rfl,rfl⟩:=c;have hS:(s.heap.push { cls:=.type "list",data:=.seq #[] }).get? s.heap.objs.size=some _:=vY _ rr;refine⟨⟨_,hS,rr⟩,PySem.F.args_list_init_2 _ _,?_⟩;refine wX ?_;unfold Builtin.List.listItems;refine wX (wpAny_seqItems hS rr (wY ?_));refine wX (wpAny_updateSeq hS rr ?_);have h:=Heap.get?_update_self (Obj.mapSeq (λ_=>(#[]:AV))) hS rr;have U:∀b o,s.heap.get? b=some o->((s.heap.push { cls:=.type "list",data:=.seq #[] }).update s.heap.objs.size (Obj.mapSeq (λ_=>(#[]:AV)))).get? b=some o:=λb o e=>(Heap.get?_update_other _ _ (Ne.symm (f e))).trans (vZ _ e);refine wX (wpAny_letGo ?_);generalize (s.heap.push _).update s.heap.objs.size _=g at h U |-;have M :=uA.at λo e=>U _ _ e;have p:g.IsList l items:=hl.at λo e=>U _ _ e;have W:=Walks.listRev (prog:=prog) (w:=w) (A:=A.in1.in1) hh it l k items;have q:s.heap.objs.size∉[it,l]:=by grind
 unfold Builtin.List.listExtendWith;refine wX (wpAny_typeOf (T:="list_reverseiterator") (show Shared.TypeIs { s with heap:=g } _ _ from Heap.IsRevIter.typeIs (s:={ s with heap:=g }) M) ?_);rw[if_neg (by simp[Builtin.List.listSameRef,n.symm])];refine wX (wpAny_pyIter_revIter M ?_);refine wX (wpAny_holding (Iu (Heap.IsRevIter.typeIs (s:={ s with heap:=g }) M) ?_));rw[if_neg Z9];refine wY ⟨plainId_quiet plain_extend_loop _,codeAny_extend_loopS W.toS hn _ q _ items.size 0 _ _ _ rr (uM _) ⟨uM _,by simp_all,p⟩ h (ItemsOf.nil _) λs' G d hm r O=>?_⟩;refine⟨rr,m s' G d (λb o hb e=>hm.heap b o (λz=>?_) (U b o e)) hm.gens hm.os r ?_⟩
 .simp_all
 .apply ext_getElem?;intro i;by_cases hi:i<items.size
  .obtain⟨v,j⟩:∃v,G[i]? = some v:=⟨_,Array.getElem?_eq_getElem (by rw[O.1];exact hi)⟩;rw[Array.getElem?_toList,j,List.getElem?_reverse (by simpa using hi)];have:=O.2 i v j;simp_all
  .rw[getElem?_eq_none (by rw[vG,O.1];lia),getElem?_eq_none I9]
end
@[simp] noncomputable def Ph:D->OB
 |.lst ds=>some (.lst ds.reverse,true)
 |_=>none
def bi.rev (h:bi vs us):bi vs.reverse us.reverse:=by
 induction h with
 |nil=>exact .nil
 |cons r _ G=>rw[reverse_cons,reverse_cons];exact G.append (.cons r .nil)
def IsL.rev {K:Frag}{B:Hp}{vs:LV}:∀ {ds:LD},IsL K B vs ds->IsL K B vs.reverse ds.reverse:=by
 induction vs with
 |nil=>intro ds h;cases h;exact .nil
 |cons v vs G=>intro ds h;cases h with|cons h t=>rw[reverse_cons,reverse_cons];exact(G t).append (.cons h .nil)
section
variable {X:Cx}{e:Expr}{pos p pos2 p2:Pos}
def Cm (M:X.calm=true)(hl:X.mg "list" = none)(hm:X.mg "reversed" = none)(he:JE X e f)(v:Gl X "list":=by rfl)(x:Gl X "reversed":=by rfl)
  (hs:starEach [e] X.env=[(false,eval e X.env)]:=by rfl)
  (O:starEach [.Call (.Name "reversed" p2) [e] [] pos2] X.env=[(false,eval (.Call (.Name "reversed" p2) [e] [] pos2) X.env)]:=by rfl):
  JE X (.Call (.Name "list" p) [.Call (.Name "reversed" p2) [e] [] pos2] [] pos) (f1 Ph f):=by
 intro ak s σ H Q I q;obtain⟨B,ρ,d,bb,y,r,a,ii⟩:=q;obtain⟨⟨xd,P⟩,ex,a⟩:=oX a;cases xd<;>try (cases a;done)
 rename_i ds;cases a
 refine wpAny_Call_Name_kw (gA I v hl rK ?_ Z9 Z9);refine PyProof.Rows.callWith_type1 ?_ (by rw[O];rfl) rr;rw[O];refine Calls.spliced_cons ?_;refine wpAny_Call_Name_kw (gA I x hm sD ?_ Z9 Z9);refine PyProof.Rows.callWith_type1 (cu (ag he am hs pos2 ak s σ H (λvs j=>∃N1,Ext B N1 H j/\IsL X.K N1 vs [.lst ds]) I ⟨B,ρ,[.lst ds],y,r,by simp[af,ai,ex],λvs j N1 G i1=>⟨N1,G,i1⟩⟩) λus s1 ⟨vs,j,c,z,N1,G,g⟩=>?_) (by rw[hs];rfl) rr;cases g with
 |cons A C=>
  cases C
  cases A
  rename_i l n h m1;obtain⟨R,rfl,D⟩:=ij z;cases D
  obtain⟨its,t,pl,E⟩:=c.list (G.nh.seq h);have F:l<s1.heap.objs.size:=by obtain⟨o,i,_⟩:=pl.isList;exact vX i
  refine call_reversed_list pl.isList ?_;refine Calls.spliced_nil ?_;have hsz:(s1.heap.push (revObj l ((its.toArray.size:Int) - 1))).objs.size=s1.heap.objs.size+1:=size_push' _ _;refine ve  (c.ok.hd M) (vS F) ⟨_,vY _ rr,rr,rr⟩ (pl.isList.push _) (by rw[vH,<-t.length];exact E) λs' T J hk k m hS U=>?_;have k1 :=λb o i=>hk b o (vS (vX i)) (vZ _ i);have hp :=c.hok.fresh (le_succ _);rw[hsz]at hS |-;have L:=oZ (s1:={ s1 with drawn:=s'.drawn }) c (λ_ _ e=>e) rr rr;have u:=Ext.laid (o:=.lst n.reverse) G.nh hp;obtain⟨h',g',d',N,S⟩:=s';cases k;cases m
  have g:=(IsL.rev m1).mono u.bn;refine⟨.ref (s1.heap.objs.size+1),_,L.laid (t':=N) k1 (le_succ _) (show bJ X.prog X.w _ h' _ (.lst n.reverse)from ⟨by simp_all,T.toList,J,?_,hS⟩),rr,ii _ _ _ (G.trans u) (.lst (gB.of a6) g) λ_=>⟨_,_,_,rr,rr,G.hh.free hp,a6,g⟩⟩;rw[U];exact bi.rev t
end
@[simp] noncomputable def XY (j:Nat):D×Bool->Option LD
 | (.tup ds,true)=>match ds[j]? with
  |some (.lst es)=>some es
  |_=>none
 |_=>none
@[simp] def gTA (i:Nat)(f:FE)(G:FT)(g1:FS)(c2:FT)(j:Nat)(fe:FE)(h2:FS):FS:=λρ=>(f (j9 ρ)).bind λx=>match G (ρ.set i (some (x.1,false))) with
 |some true=>match g1 (ρ.set i (some (x.1,false))) with
  |some (.rt d b)=>some (.rt d b)
  |_=>none
 |some false=>match c2 (ρ.set i (some (x.1,false))) with
  |some false=>some (.nx (ρ.set i (some (x.1,false))))
  |some true=>(XY j x).bind λes=>(fe (ρ.set i (some (x.1,false)))).bind λy=>if i<ρ.length/\es.length<sizeLine then h2 (ρ.set i none)else none
  |none=>none
 |none=>none
@[simp] def Iv (f g:FE):FE:=λρ=>(f ρ).bind λx=>(g ρ).bind λy=>match y with
 | (.lst ds,true)=>if bf x.1=true then some (.tup [x.1,.lst ds],true)else none
 |_=>none
def L7 {X:Cx}{e O:Expr}{T}(he:JE X e f)(h:JE X O g)(hs:starEach [e,O] X.env=(false,eval e X.env)::starEach [O] X.env:=by rfl)(i:starEach [O] X.env=(false,eval O X.env)::starEach [] X.env:=by rfl):JE X (.Tuple [e,O] T pos) (Iv f g):=by
 refine PE.to (xz (eB he (eB h gD i) hs)) λσ H Q q=>?_;obtain⟨B,ρ,d',bb,k,r,G,q⟩:=q;obtain⟨x,ex,G⟩:=oX G;obtain⟨y,l,G⟩:=oX G;split at G
 .rename_i ds;split at G
  .rename_i hx;cases G
   refine⟨B,ρ,x.1,x.2,k,r,ex,λv n N1 T i1 _=>⟨N1,ρ,_,_,T.nh,r.mono T.bn,l,λw H2 N2 b i2 f2=>⟨(by decide:2<=sizeLine),λt m=>?_⟩⟩⟩;obtain⟨a,vs,p,rfl,z,h3,h4,h5⟩:=f2 rr;cases z
   have U:=Ext.laid (o:=HO.tup [v,.ref a]) b.nh m;have c:=h5.mono U.bn;have n4:=U.bn _ _ h4;have d:IsL X.K (upd N2 t (.tup [v,.ref a])) [v,.ref a] [x.1,.lst ds]:=.cons (i1.mono (b.bn.trans U.bn)) (.cons (.lst (gB.of n4) c) .nil);refine q _ _ _ (T.trans (b.trans U)) (.tup (jf.of a6) d) λ_=>⟨t,_,rr,jf.of a6,d,λj es M=>?_⟩;match j,M with
   |0,M=>simp at M;rw[M]at hx;simp at hx
   |1,M=>simp at M;subst M;exact⟨a,vs,rr,T.hh.free h3,n4,c⟩
  simp_all
 simp_all
end DL
namespace L2
open PySem PySem.Spec PyProof.Rows
noncomputable def UC (K:Frag)(a:Addr)(xs:List V):It:=⟨λi H=>gB K H a xs/\i<xs.length,λi H v H'=>H'=H/\xs[xs.length - 1 - i]? = some v,λi H=>gB K H a xs/\xs.length<=i⟩
def Iw {P:Program}{w:World}{K:Frag}{tg:Expr}(a it:Addr)(xs:List V):Turn P w K tg (UC K a xs) [it] it (λi h=>i<=xs.length/\h.IsRevIter it a ((xs.length:Int) - 1 - (i:Int))) where
 mem:=X9
 obj:=λi h st b hb=>by
  have e:b=it:=by simpa using hb
  obtain⟨_,o,e,c,d⟩:=st;simp_all
 keep:=λi h h' st k=>⟨st.1,st.2.at λo e=>k it X9 o e⟩
 item:=by
  intro X O hw T hc i ak s σ H E I hf st G;subst O hw T;obtain⟨hq,hi⟩:=G;obtain⟨x,hx⟩:∃x,xs[xs.length - 1 - i]? = some x:=⟨_,vU N9⟩;obtain⟨its,U,p,hz⟩:=I.list hq;obtain⟨u,hu,ru⟩:=U.get hx;obtain⟨f0,f1,f2,f3,f4,f5⟩:=hf it X9;have uA:=st.2;rw[show(xs.length:Int) - 1 - (i:Int)=((xs.length - 1 - i:Nat):Int) by lia]at uA;refine wpAny_pyNext_rev_item uA p.isList  (by simpa using hu) λh' M f=>?_;have g :=I.turned (t':=s.toks) (λb o hb e=>(f.2 b hb).trans e) f0 f1 f3 f4 f5;obtain⟨o,e,c,d⟩:=id M;refine⟨u,rr,rg  e c d Z9 ⟨x,H,g,ru,⟨rr,hx⟩,⟨N9,?_⟩,λb hb=>(hf b hb).1⟩⟩;grind
 done:=by
  intro X O hw T hc i ak s σ H E I hf st G;obtain⟨hq,hx⟩:=G;obtain⟨f0,f1,f2,f3,f4,f5⟩:=hf it X9;have uA:=st.2;rw[show(xs.length:Int) - 1 - (i:Int) = -1 by lia]at uA;exact wpAny_pyNext_rev_end (I.ok.hd hc) uA λh' j=>⟨rr,I.turned  (λb o hb e=>j b o hb e) f0 f1 f3 f4 f5⟩
 self:=λ_ _ _ _ _ st h=>wpAny_pyIter_revIter st.2 h
end L2
namespace DL
open PySem PySem.Spec PyProof.Rows L2
@[simp] noncomputable def L8 (fa:FE):FA:=λρ=>(fa ρ).bind λx=>match x.1 with
 |.lst ds=>some ds.reverse
 |_=>none
def Pj {K:Frag}{N:Hp}{l:Addr}{vs:LV}{ds:LD}(h1:gB K N l vs)(i1:IsL K N vs ds):nq K (UC K l vs) N ds.reverse:=by
 intro i H' G;have n1:=i1.length;refine⟨λd ed=>?_,λhl=>⟨G.seq h1,by simp_all⟩⟩;have hi :=by have:=(vV ed).1;rwa [List.length_reverse]at this
 rw[List.getElem?_reverse hi]at ed;obtain⟨v,M,iv⟩:=i1.get ed;refine⟨⟨G.seq h1,N9⟩,λr H2 hy=>?_⟩;obtain⟨rfl,e⟩:=hy;rw[show vs.length - 1 - i=ds.length - 1 - i by lia,M]at e;cases e
 exact⟨N,.refl G,iv⟩
section
variable {X:Cx}{a e:Expr}{pos p:Pos}
def Pk {fa:FE}(hm:X.mg "reversed" = none)(ha:JE X a fa)(f:Gl X "reversed":=by rfl)(hs:starEach [a] X.env=[(false,eval a X.env)]:=by rfl):
  JI X tg (.Call (.Name "reversed" p) [a] [] pos) (L8 fa):=by
 intro ak s σ H R I q;refine Call_ (gA I f hm sD (PyProof.Rows.callWith_type1 (cu (ag ha am hs pos ak s σ H (λvs G=>∃(l:Addr)(us:LV),vs=[.ref l]/\gB X.K G l us/\R (UC X.K l us) G) I ?_) λus s1 ⟨vs,G,O,g,i⟩=>?_) hs rr))
 .obtain⟨B,ρ,ds,j,r,T,q⟩:=q;obtain⟨⟨xd,u⟩,ex,T⟩:=oX T;cases xd<;>try (cases T;done)
  rename_i U;cases T
  refine⟨B,ρ,[.lst U],j,r,by simp[af,ai,ex],λvs G N1 c i1=>?_⟩;cases i1 with
  |cons k m=>
   cases m
   cases k
   rename_i l M h m1;exact⟨l,M,rr,c.nh.seq h,q _ G N1 c (Pj h m1)⟩
 .obtain⟨l,M,rfl,h1,q⟩:=i;obtain⟨v,rfl,n⟩:=g.one;cases n
  obtain⟨its,d,t,w⟩:=O.list h1;refine call_reversed_list t.isList ?_;have uA:Heap.IsRevIter (s1.heap.push (revObj l _)) s1.heap.objs.size l ((its.toArray.size:Int) - 1):=⟨_,vY _ rr,rr,rr⟩;refine wpAny_pyIter_revIter  uA ⟨s1.heap.objs.size,[s1.heap.objs.size],_,_,G,rr,O.kept (t':=s1.toks) λb o e=>vZ _ e,Iw l _ M,⟨uM _,?_⟩,λb hb=>?_,q⟩
  .rw[vH,<-d.length]at uA;rw[show(M.length:Int) - 1 - ((0:Nat):Int)=(M.length:Int) - 1 by lia];rw[vH,<-d.length];exact uA
  .have e :=by simpa using hb
   subst e;exact O.fpOk (vT _) (O.hok.fresh (vT _))
def Pl (K:Frag):V->LV->Hp->VK->Prop:=λx vs H Q=>∃(l:Addr)(ns:LI)(n:Int),x=.ref l/\vs=[.int n]/\gB K H l (ns.map V.int)/\ns.findIdx (· == n)<ns.length/\Q (.int (ns.findIdx (· == n):Nat)) H
def Ix:Uo X "list.index" (Pl X.K):=by
 intro ak s σ H x vs v us Q I c d h;obtain⟨l,ns,n,rfl,rfl,f,hk,q⟩:=h;cases c
 obtain⟨u,rfl,⟨t,rfl⟩⟩:=d.one;obtain⟨its,r,⟨o,m,e,hc,O,hd⟩,z⟩:=I.list f;have hi:=sf r;have hl:=r.length;rw[vI]at hl z;have at':∀(i:Nat)(G:i<its.length),∃t',its[i]=.int (ns[i]' N9) t':=λi G=>by
  obtain⟨t',M⟩:=IntsAre.int_at hi i its[i] X9;simp_all
 have hj:ns.findIdx (· == n)<its.toArray.size:=by simp_all
 obtain⟨oc,od,g,ma⟩:=o;subst hc O hd;have hz:sizeLine<2 ^ 63 - 1:=Z9
 refine call_meets PySem.F.slot_list_index ⟨_,e,rr⟩ PySem.F.entry_list_index (PySem.F.args_list_index_2 _ _)
  (PySem.SeqAt.list_indexAt l _ m none ma _ (RM n) _ hj N9 ?_ (λi G T=>?_)) ⟨e,λy hy=>?_,?_⟩
 .obtain⟨t',M⟩:=at' (ns.findIdx (· == n)) _;simp only[List.getElem_toArray];rw[M];exact List.findIdx_getElem  (w:=hk)
 .have U :=by simpa using G
  obtain⟨t',M⟩:=at' i U;simp  [List.getElem_toArray];rw[M];have:=List.not_of_lt_findIdx   T;simpa [RM]using this
 .have b :=by simpa using hy
  obtain⟨i,G,rfl⟩:=List.mem_iff_getElem.mp b;obtain⟨t',M⟩:=at' i G;rw[M];exact(MeetsSeq.EqGives.int _ _ _ _).at _ _
 .exact⟨.int _,H,I.tok _,⟨_,rr⟩,q⟩
@[simp] def mM:D->D->OB
 |.lst ds,.int n=>(kF ds).bind λns=>if ns.findIdx (· == n)<ns.length then some (.int (ns.findIdx (· == n):Nat),false)else none
 |_,_=>none
def Iy {dn cf:Pos}{fa f:FE}(ha:JE X a fa)(he:JE X e f)(M:attributeBase a "index" X.env (eval a X.env)=eval a X.env:=by rfl)
  (T:((backTo cf (starEach [e] X.env)).all (λx=>!x.1) && (backToKw cf (keywordEach [] X.env)).all (λx=>x.1.isSome)
   && decide ([e].length+([]:List Keyword).length+(if([]:List Keyword).isEmpty then 0 else 1)<30))=true:=by rfl)
  (O:(dn.endLine == cf.line)=true:=by rfl) (hs:starEach [e] X.env=[(false,eval e X.env)]:=by rfl):JE X (.Call (.Attribute a "index" dn) [e] [] cf) (f2 mM fa f):=by
 refine PE.to (yV plainAttrs_list PySem.F.slot_list_index PySem.F.type_list_index Ix ha (eB he gD hs) M T O hs rr) λσ H Q q=>?_;obtain⟨B,ρ,d,bb,g,r,G,ii⟩:=q;obtain⟨⟨xd,m⟩,ex,G⟩:=oX G;obtain⟨⟨i,o⟩,j,G⟩:=oX G;cases xd<;>try (cases G)
 cases i<;>try (cases G)
 rename_i n;obtain⟨ns,en,G⟩:=oX G;split at G
 .rename_i hk;cases G
  refine⟨B,ρ,_,_,g,r,ex,λv s N1 b i1 f1=>?_⟩;cases i1
  rename_i l t h m1;have k:=HC m1 en;subst k;refine⟨.inl ⟨rr,_,b.nh.seq h⟩,N1,ρ,_,_,b.nh,r.mono b.bn,j,λw H2 N2 c i2 _=>?_⟩;cases i2
  have U:=b.trans c;exact⟨l,ns,n,rr,rr,c.nh.seq (c.bn.seq h),hk,(ii.into U).one U.nh (.int _)⟩
 simp_all
end
def L9 (K:Frag)(x:Str)(st:Stmt):Prop:=∃(f T:Addr)(oc:Value)(od an:Option Addr)(kV doc pm dG ct:Value)(ma:Array (Option Value))(G:Obj)(n:Nat),
 K.lookup f=some ⟨oc,od,.func (fnOf x x (eC st) (ca st) (aJ st) (.ref T) kV doc pm an dG ct),ma⟩/\PySem.W.codeIn K dG x=true/\PySem.W.keepIn K (.ref f)=true/\nsIn K mainGlobals x=some (some (.ref f))/\K.lookup T=some G/\G.data=.seq #[.none] n
def defD_mk {K:Frag}{x:Str}{st:Stmt}{f T:Addr}{oc M:Value}{od an O:Option Addr}{ma G:Array (Option Value)}{kV doc pm dG ct:Value}{n:Nat}(a:nsIn K mainGlobals x=some (some (.ref f)))
  (l:K.lookup f=some ⟨oc,od,.func (fnOf x x (eC st) (ca st) (aJ st) (.ref T) kV doc pm an dG ct),ma⟩) (c:PySem.W.codeIn K dG x=true) (k:PySem.W.keepIn K (.ref f)=true) (t:K.lookup T=some ⟨M,O,.seq #[.none] n,G⟩):L9 K x st:=⟨f,T,oc,od,an,kV,doc,pm,dG,ct,ma,_,n,l,c,k,a,t,rr⟩
structure FnD (P:Program)(w:World)(K:Frag)(mg:Str->Option Value)(base:Heap)(k:Nat)(x:Str)(f:List D->OB):Prop where
 ex:∃(ad:Addr)(fd:FuncData)(ps:List Str),oE P w K mg base yL k ad fd ps (GU K f)/\mg x=some (.ref ad)/\PySem.W.keepIn K (.ref ad)=true/\pQ K fd ps []/\pQ K fd ps [.none]
def FnD.fn {P:Program}{w:World}{K:Frag}{mg:SV}{base:Heap}(F:FnD P w K mg base k x f):Fn P w K mg base k x f:=let ⟨ad,fd,ps,h1,h2,h3,h4,_⟩:=F.ex;⟨ad,fd,ps,h1,h2,h3,h4⟩
@[simp] noncomputable def Q1 (op:LD->OB)(fa:FA):FE:=λρ=>(fa ρ).bind λds=>op (ds++[.non])
section
variable {X:Cx}{e:Expr}{es:QD}{p pos:Pos}
def Nl (F:FnD X.prog X.w X.K X.mg X.base k x f)(T:ft j X.A)(ha:JA X (e::es) fa)(hj:k<=j:=by decide)(U:Gl X x:=by rfl)
  (G:(x == ("__debug__" : Str))=false:=by decide) (he:starEach (e::es) X.env=(false,eval e X.env)::starEach es X.env:=by rfl) (M:(backTo pos (starEach es X.env)).any (·.1)=false:=by rfl):
  JE X (.Call (.Name x p) (e::es) [] pos) (Q1 f fa):=by
 obtain⟨ad,fd,ps,a,hm,hk,_,hb⟩:=F.ex;refine PE.to (CP a (T.mono hj) U hm hk hb (.cons (show L2.aU V.non _ from rr) .nil) MU ha G he M) λσ H Q q=>?_;obtain⟨B,ρ,d,b,s,r,e,q⟩:=q;obtain⟨ds,ex,e⟩:=oX e;exact⟨B,ρ,ds,s,r,ex,λvs c N1 O i1=>⟨N1,ds++[.non],d,b,⟨O.nh,r.tb.mono O.bn⟩,i1.append (.cons .non .nil),e,q.into O⟩⟩
end
section
variable {P:Program}{w:World}{K:Frag}{mg:SV}{base:Heap}
def L9.fqD {x:Str}{st:Stmt}{k:Nat}{p:LD->OB}(F:L9 K x st)(B:∃h,K.In h/\h.Ns mainGlobals mg)(g:FS)(N:LS)(n:Nat)
  (hb:∀ {f:Addr}{dG:Value}{A:Around}{outer:List PySem.Env}{s:Shared}{H:Hp}{E:XK},N.Nodup->ft k (A.deeper (envOfC x (aJ st) s.heap.objs.size f dG))->(A.deeper (envOfC x (aJ st) s.heap.objs.size f dG)).units+40<cLine->vy (oM yL P w K mg base N x (aJ st) f dG A outer s H E).nox (ca st) g)
  (S:FnScope N (N.take n) (aJ st):=by refine⟨rr,rr,rr,?_,rr,?_,?_⟩<;>decide +kernel)
  (U:∀(T:Addr)(kV doc pm:Value)(an:Option Addr)(dG ct:Value)(us:LU),us.length=(N.take n).length->∃O,bindArgs (fnOf x x (eC st) (ca st) (aJ st) (.ref T) kV doc pm an dG ct) ⟨us,[]⟩=seqItems? (.ref T)>>=O/\O (some #[.none])=pure ((N.take n).zip us):=by
   exact λ_ _ _ _ _ _ _=>Im _ _ (by(repeat intro);exact⟨_,rr,rr⟩))
  (hb1:∀(T:Addr)(kV doc pm:Value)(an:Option Addr)(dG ct:Value)(us:LU),us.length=(N.take n).length - 1->∃O,bindArgs (fnOf x x (eC st) (ca st) (aJ st) (.ref T) kV doc pm an dG ct) ⟨us,[]⟩=seqItems? (.ref T)>>=O/\O (some #[.none])=pure ((N.take n).zip (us++[.none])):=by
   exact λ_ _ _ _ _ _ _=>Im _ _ (by(repeat intro);exact⟨_,rr,rr⟩))
  (e:aB g (N.take n).length (N.length - (N.take n).length)=p:=by rfl):FnD P w K mg base (k+1) x p:=by
 subst e;obtain⟨h,X,G⟩:=B;obtain⟨f,T,oc,od,an,kV,doc,pm,dG,ct,ma,I,m,t,u,kp,a,lt,dt⟩:=F;have len:∀vs H Q E,GU K (aB g _ (N.length - (N.take n).length)) vs H Q E->vs.length=(N.take n).length:=λvs H Q E h=>by
  obtain⟨B,ds,d,b,c,i,e,q⟩:=h;unfold aB at e;split at e
  .rename_i hl;rw[i.length];exact hl
  simp_all
 refine⟨f,_,N.take n,G0 t u S len λA outer s H vs Q E r h=>⟨_,uC.nox (hb S.nd r (BC r)),?_⟩,mg_of X G a,kp,λs us j hl=>?_,λs us j hl=>?_⟩
 .have M:=len vs H Q E h;obtain⟨B,ds,d,b,c,i,e,q⟩:=h;unfold aB at e;rw[if_pos (by rw[<-i.length];exact M)]at e;have l:=rH (N:=N) c.1 c.2 i;rw[M]at l;split at e
  .rename_i d' b' o;cases e
   exact⟨B,H,_,_,⟨B,l⟩,o,λv H' N' y z C=>q v H' N' y z C⟩
  .rename_i ρ' o;cases e
   exact⟨B,H,_,_,⟨B,l⟩,o,λD H' ⟨N',s'⟩=>q _ _ _ s'.ext .non X9⟩
  simp_all
 .rw[uP]at hl |-;obtain⟨O,h1,h2⟩:=U T kV doc pm an dG ct us hl;exact .of_defaults rr (j _ _ lt) dt h1 h2
 .rw[uY,length_singleton]at hl;obtain⟨O,h1,h2⟩:=hb1 T kV doc pm an dG ct us N9;exact .of_defaults rr (j _ _ lt) dt h1 h2
end
end DL
namespace DL
open PySem PySem.Spec PySem.W PyProof.Rows L2
def LA (ns:LI):Prop:=∀i∈ns,Builtin.Int.intBits i<=1048576
abbrev Pm:D->D->OB:=BA (λi j=>decide (Builtin.Int.intBits i<=2097152/\Builtin.Int.intBits j<=2097152)) λi j=>.int (i*j)
def Pn {X:Cx}:dS X (binaryOp .Mult) (rD X.K Pm):=nA   (QX λ_ _ _ _ _ _ _ hc q=>mul_int q (IntMulOk.of_le hc.1 hc.2 Z9)) (λ_ _ h=>Vh h) λ_ _ _=>.int _
def Po {ns:LI}(h:WData.layableAll [WData.list (ns.map WData.int)]=true):LA ns:=λi hi=>by
 have h1 :=layableW_arg h _ (mem_singleton.mpr rr);have h2:=layableW_item h1 _ (uR ⟨i,hi,rr⟩);simp_all[WData.layable,WData.weight,Builtin.Int.intBits]
def walkB {l:PySem.W.OpenLaw}{q:Program}{O:LS}{E:SV->Heap->Prop}{B:World->Heap->Prop}{d:DefRec}{K:Params->Frag}{k:Nat}{x:Str}{f:LD->OB}{L:List (Str×Option (Addr×Addr))}(hn:l.most=some 63)(I:d.params.defaults=[])(J:ft k callerA)
  (Q:∀(w:World)(h:Heap),B w h->(K w.params).In h) (m:∀w:World,rd (K w.params) L) (R:(L.all λp=>p.2.isNone || ((recsOf q).find? λe=>e.name == p.1).isSome)=true)
  (F:∀(w:World)(mg:SV)(fa:Addr)(h:Heap),(K w.params).In h->h.Ns mainGlobals mg->mg d.name=some (.ref fa) ->
   ∃fd:FuncData,(∀(s:Shared)(u:Value),BindsTo s fd ⟨[u],[]⟩ [(x,u)])/\∀base:Heap,(K w.params).In base->base.Ns mainGlobals mg->oE l.prog w (K w.params) mg base yL k fa fd [x] (GU (K w.params) f))
  (S:∀ns:LI,ns.length<=63->LA ns->∃b,f [.lst (ns.map .int)]=some (.bl true,b)):PySem.W.WalkO q O E B l.row.toRowW d [] (λf vs=>PySem.call f vs):=by
 intro w s₀ C mg mb G Y fa o pm cd doc dV kV ho hd PZ V n X args vals as i j Z t hlo;obtain⟨a,vs,ns,rfl,rfl,VR,U,M⟩:=Att.EO hn i t;have y:=Q w _ Y;obtain⟨fd,hb,hF⟩:=F w mg fa _ y G.T.g n;refine enter_call (codeAny_mono (EX (xQ L) (λb u e=>?_) (m w).none y G.T.g G.T.b G.T.builtins G.T.nolimit G.T.bmain X VR U (vR M Z9) J hF hb λH hH hS=>?_) λr s' hq=>?_)
 .obtain⟨p,hp,e2⟩:=mem_filterMap.mp (kW e);obtain⟨⟨c,P⟩,e3,e4⟩:=oY e2;cases e4
  have D:=all_eq_true.mp R p hp;rw[e3]at D;obtain⟨r,z⟩:=uT D;have A:PySem.W.tabIn (K w.params) p.1=some (c,P):=by
   rw[(m w).names]at hp;simp_all<;>lia
  obtain⟨h1,h2⟩:=PySem.W.tab_of G.T y z A;exact⟨h2,(h1.tab h2).isCodeTable⟩
 .obtain⟨b,e⟩:=S ns M (Po j);exact⟨H,_,_,b,⟨.refl H,(m w).tb hH⟩,.cons (.lst hS (.flat rr)) .nil,e,λv H' N x' i' _=>by cases i';rfl⟩
 .obtain⟨rfl,h2,h3,h4⟩:=hq;exact⟨.inl ⟨.bool _,.bool _,[],rr,λ_=>rr,.bool _,Att.EQ l _,λ_=>⟨List.Pairwise.nil,λ_ hm=>(nomatch hm)⟩⟩,h2,h3,h4⟩
end DL
namespace DL
open PySem L2
def h8 (I:Nat->Env->Prop)(ds:LD)(M:Env)(h0:I 0 M)
  (step:∀i d ρ,ds[i]? = some d->I i ρ->∃G ρ',tg d ρ=some G/\(g G=some (.nx ρ')\/g G=some (.ct ρ'))/\I (i+1) ρ'):
  ∃ρ',gU tg g ds M=some (.nx ρ')/\I ds.length ρ':=by
 have O:∀(es:LD)(i:Nat)(ρ:Env),ds.drop i=es->i+es.length=ds.length->I i ρ->∃ρ',gU tg g es ρ=some (.nx ρ')/\I ds.length ρ':=by
  intro es;induction es with
  |nil=>simp_all
  |cons d es U=>
   intro i ρ e hl h;have hd:ds[i]? = some d:=by
    have:(ds.drop i)[0]? = some d:=by rw[e];rfl
    grind
   obtain⟨G,ρ',h1,h2,h3⟩:=step i d ρ hd h;have he:ds.drop (i+1)=es:=by rw[<-List.drop_drop,e];rfl
   obtain⟨T,k1,k2⟩:=U _ _ he (by simp at hl;lia) h3;refine⟨T,?_,k2⟩;simp_all<;>lia
 exact O ds 0 _ X9 X9 h0
def nQ (n:Nat)(I:Nat->Env->Prop)(M:Env)(h0:I 0 M)
  (step:∀(i:Nat) ρ,i<n->I i ρ->∃G ρ',tg (.int (i:Int)) ρ=some G/\(g G=some (.nx ρ')\/g G=some (.ct ρ'))/\I (i+1) ρ'):
  ∃ρ',gU tg g (iM 0 n) M=some (.nx ρ')/\I n ρ':=by
 have hl:(iM 0 n).length=n:=by simp[iM]
 obtain⟨ρ',h1,h2⟩:=h8   I (iM 0 n) _ h0 λi d ρ hd h=>by
  unfold iM at hd;rw[uZ]at hd;obtain⟨k,hk,hd⟩:=oY hd;obtain⟨O,hk⟩:=vV hk;rw[length_range]at O;rw[List.getElem_range]at hk;subst hk;rw[Int.zero_add]at hd;subst hd;exact step i ρ O h
 simp_all
def lf {α:Type}{xs:List α}{j:Nat}(h:j<xs.length):oH xs (j:Int)=some xs[j]:=Kv (by simp )
def yp {α:Type}{xs:List α}{i:Int}(h0:0<=i)(h:i.toNat<xs.length):oH xs i=some xs[i.toNat]:=by
 have:=lf h;rwa [Int.toNat_of_nonneg h0]at this
@[simp] def qh (xs:LI):bB (xs.map D.int)=true:=by
 induction xs with
 |nil=>simp
 |cons x xs G=>simp[G]
@[simp] def JY (n:Nat)(xs:LI):(xs.map D.int).all (bc n)=true:=by
 simp
@[simp] def LB (xs:LI):(xs.map D.int).all jB=true:=by
 simp
def wB (n:Nat):iM 0 n=((List.range n).map λ(k:Nat)=>(k:Int)).map D.int:=by
 simp_all[iM]
mutual
def nR:D->D->Bool
 |.non,.non=>true
 |.bl a,.bl b=>a == b
 |.int a,.int b=>decide (a=b)
 |.str a,.str b=>decide (a=b)
 |.ty a,.ty b=>decide (a=b)
 |.tup xs,.tup ys=>sE xs ys
 |.lst xs,.lst ys=>sE xs ys
 |_,_=>false
def sE:LD->LD->Bool
 |[],[]=>true
 |x::xs,y::ys=>nR x y && sE xs ys
 |_,_=>false
end
mutual
theorem DJ:∀ {x y:D},nR x y=true->x=y
 |.non,.non,_=>rr
 |.bl a,.bl b,h=>by simp[nR]at h;rw[h]
 |.int a,.int b,h=>by simp[nR]at h;rw[h]
 |.str a,.str b,h=>by simp[nR]at h;rw[h]
 |.ty a,.ty b,h=>by simp[nR]at h;rw[h]
 |.tup xs,.tup ys,h=>by rw[nR]at h;rw[sG h]
 |.lst xs,.lst ys,h=>by rw[nR]at h;rw[sG h]
theorem sG:∀ {xs ys:LD},sE xs ys=true->xs=ys
 |[],[],_=>rr
 |x::xs,y::ys,h=>by
  rw[sE,vB]at h;rw[DJ h.1,sG h.2]
end
def T4 (r:OB)(d:D)(b:Bool):Bool:=match r with
 |some (e,c)=>nR e d && c == b
 |none=>false
def yq (h:T4 r d b=true):r=some (d,b):=by
 unfold T4 at h;split at h
 .rw[vB]at h;rw[DJ h.1,eq_of_beq h.2]
 simp_all
section
variable {f:FE}{c:FT}{g g' h:FS}{ρ ρ':Env}{i:Nat}{d:D}{b:Bool}{r:Option Res}{ds:LD}
def aq (hl:ds.length=n)(e:g (ds.map (λd=>some (d,false))++List.replicate k none)=some (.rt d b)):aB g n k ds=some (d,b):=by
 unfold aB;rw[if_pos hl,e]
def F6 (n:bf d=true):setE ρ i d b=ρ.set i (some (d,false)):=by unfold setE;rw[if_pos n]
def Iz (n:bB ds=true):setE ρ i (.lst ds) true=ρ.set i (some (.lst ds,true)):=by
 simp_all
def LC (n:bf d=false)(m:b=false\/za d=false):setE ρ i d b=(unown ρ).set i (some (d,false)):=by
 unfold setE;have hz:¬(b=true/\za d=true):=λz=>by
  lia
 rw[if_neg (by simp[n]),if_neg hz]
def IA (e:f ρ=some (d,b))(k:h (setE ρ i d b)=r):a0 (aS i f) h ρ=r:=by simp[e];exact k
def sJ (e:f ρ=some (d,b))(n:bf d=true)(k:h (ρ.set i (some (d,false)))=r):a0 (aS i f) h ρ=r:=IA e (by rw[F6 n];exact k)
def c8 (e:f ρ=some (.lst ds,true))(n:bB ds=true)(k:h (ρ.set i (some (.lst ds,true)))=r):a0 (aS i f) h ρ=r:=IA e (by rw[Iz n];exact k)
def LF (e:f ρ=some (d,b))(n:bf d=false)(m:b=false\/za d=false)(k:h ((unown ρ).set i (some (d,false)))=r):a0 (aS i f) h ρ=r:=IA e (by rw[LC n m];exact k)
def cV (e:g ρ=some (.nx ρ'))(k:h ρ'=r):a0 g h ρ=r:=by unfold a0;rw[e];exact k
def Pp (e:g ρ=some (.rt d b)):a0 g h ρ=some (.rt d b):=by unfold a0;rw[e]
def UD (e:g ρ=some (.ct ρ')):a0 g h ρ=some (.ct ρ'):=by unfold a0;rw[e]
def qK (e:c ρ=some true)(k:g ρ=r):cU c g g' ρ=r:=by unfold cU;rw[e];exact k
def mN (e:c ρ=some false)(k:g' ρ=r):cU c g g' ρ=r:=by unfold cU;rw[e];exact k
def Pq (e:c ρ=some x)(G:x=true->g ρ=r)(M:x=false->g' ρ=r):cU c g g' ρ=r:=by
 cases x with
 |true=>exact qK e (G rr)
 |false=>exact mN e (M rr)
def bC (e:c ρ=some true)(k:g ρ=some (.rt d b)):a0 (cU c g g') h ρ=some (.rt d b):=Pp (qK e k)
def a8 (e:c ρ=some false)(k:h ρ=r):a0 (cU c g aQ) h ρ=r:=cV (mN e rr) k
def ax (e:f ρ=some (d,b)):aE f ρ=some (.rt d b):=by simp[e]
def jY (e:ρ[i]? = some (some (d,b)))(hb:GJ d=false:=by rfl):io i ρ=some (.rt d b):=by simp only[io,e,hb];simp
def gp (e:f ρ=some (d,b))(n:bf d=true):aS i f ρ=some (.nx (ρ.set i (some (d,false)))):=by
 simp_all
def yr (e:f ρ=some (.lst ds,true))(n:bB ds=true):aS i f ρ=some (.nx (ρ.set i (some (.lst ds,true)))):=by
 simp_all
def p4 (e:ρ[i]? = some (some (.lst ds,true)))(G:f ρ=some (d,b))(n:bf d=true)(l:ds.length<sizeLine):ju i f ρ=some (.nx (ρ.set i (some (.lst (ds++[d]),true)))):=by
 simp[e,G,n,l]
def DK (e:ρ[i]? = some (some (.lst ds,true)))(G:f ρ=some (d,b))(n:bf d=true)(l:ds.length<sizeLine)(k:h (ρ.set i (some (.lst (ds++[d]),true)))=r):a0 (ju i f) h ρ=r:=cV (p4 e G n l) k
def nU (e:fi ρ=some ds)(k:gU tg g ds ρ=some (.nx ρ')):nv fi tg g ρ=some (.nx ρ'):=by unfold nv;rw[e];exact k
def jj (e:fi (j9 ρ)=some ds)(k:gU tg g ds ρ=some (.nx ρ')):nu fi tg g ρ=some (.nx ρ'):=by unfold nu;rw[e];exact k
def iE {f:FE}{j:Nat}(e:f ρ=some (.int j,b))(hj:j<=1000):ib f ρ=some (iM 0 j):=by
 simp_all<;>lia
def cH (e:f ρ=some (.bl x,b)):aR f ρ=some x:=by unfold aR;rw[e]
def aY (e:fa ρ=some ds)(k:F ds=x):fA F fa ρ=x:=by simp_all
def jJ {f1 g1:D->D->OB}{fa G M:FE}{x y z:D}{b1 b2 b3 b4 p q:Bool}(O:fa ρ=some (x,b1))(T:G ρ=some (y,b2))(U:M ρ=some (z,b3))(a:f1 x y=some (.bl p,b4))(e2:p=true->g1 y z=some (.bl q,false)):hV f1 g1 fa G M ρ=some (.bl (p && q),false):=by
 unfold hV;rw[O,T,U];simp  [vJ,a];cases p
 .rfl
 .exact e2 rr
def cL {f1 f2:FE}{p q b1:Bool}(G:f1 ρ=some (.bl p,b1))(e2:p=true->f2 ρ=some (.bl q,false)):gF f1 f2 ρ=some (.bl (p && q),false):=by
 unfold gF;rw[G];cases p
 .rfl
 .exact e2 rr
def qi {f1 f2:FE}{p q b1:Bool}(G:f1 ρ=some (.bl p,b1))(e2:p=false->f2 ρ=some (.bl q,false)):Gk f1 f2 ρ=some (.bl (p || q),false):=by
 unfold Gk;rw[G];cases p
 .exact e2 rr
 .rfl
def LG {f1:FE}{p b1:Bool}(G:f1 ρ=some (.bl p,b1)):GQ f1 ρ=some (.bl (!p),false):=by
 unfold GQ;rw[G]
def aN (G:f ρ=some (d,b))(e2:M ρ=some xs):af f M ρ=some (d::xs):=by
 simp_all
def fU (G:fa ρ=some (x,b1))(e2:O ρ=some (y,b2))(M:op x y=z):f2 op fa O ρ=z:=by
 simp_all
def cW (G:M ρ=some p)(e2:p=true->c2 ρ=some q):eE M c2 ρ=some (p && q):=by
 unfold eE;rw[G];cases p
 .rfl
 .exact e2 rr
def ci (G:M ρ=some p)(e2:p=false->c2 ρ=some q):dz M c2 ρ=some (p || q):=by
 unfold dz;rw[G];cases p
 .exact e2 rr
 .rfl
def bF (G:M ρ=some p):bS M ρ=some (!p):=by
 unfold bS;rw[G];rfl
end
theorem Gm (a c:Nat):decide ([a]<[c])=decide (a<c):=by
 simp_all[cons_lt_cons_iff]
@[simp] def DM (a c:Nat):qR (.str ⟨#[a]⟩) (.str ⟨#[c]⟩)=some (.bl (decide (a<=c)),false):=by
 grind[qR,Gm]
def cC (h:n<=100000):n<sizeLine:=lt_of_le_of_lt h Z9
def dX (h:n<=100000):n<=sizeLine:=le_of_lt (cC h)
def gb {α:Type}(l:List α)(g:α->D)(p:α->Bool)(h:α->D)(e:fi ρ=some (l.map g))(hl:l.length<=100000)
  (k:∀x∈l,∃G,tg (g x) (dL nT cap ρ)=some G/\c G=some (p x)/\(p x=true->∃b,fe G=some (h x,b))):bP fi nT cap tg c fe ρ=some (.lst ((l.filter p).map h),true):=by
 have O:∀M:List α,(∀x∈M,x∈l)->iq tg c fe (dL nT cap ρ) (M.map g)=some ((M.filter p).map h):=by
  intro M;induction M with
  |nil=>simp
  |cons x M T=>
   grind[mX,B9]
 unfold bP;rw[e,vJ,if_pos (dX (by simpa using hl)),O l λ_ h=>h,Option.map_some]
def jK {α:Type}(l:List α)(g:α->D)(h:α->D)(e:fi ρ=some (l.map g))(hl:l.length<=100000)
  (k:∀x∈l,∃G,tg (g x) (dL nT cap ρ)=some G/\∃b,fe G=some (h x,b)):bP fi nT cap tg gV fe ρ=some (.lst (l.map h),true):=by
 have:=gb (c:=gV)  l g _ h e hl λx hx=>by
  obtain⟨G,h1,h2⟩:=k x hx;exact⟨G,h1,rr,λ_=>h2⟩
 rw[List.filter_eq_self.mpr λ_ _=>rr]at this;exact this
@[simp] def IB {α:Type}(f:α->Bool)(l:List α):xR (l.map λx=>.bl (f x))=some (l.map f):=by
 induction l with
 |nil=>rfl
 |cons x l G=>simp[G]
def B2 (h0:0<=i)(h:i.toNat<z.cps.size)(hz:z.length<=100000):bv (.str z) (.int i)=some (.str ⟨#[z.cps.toList.getD i.toNat 0]⟩,false):=by
 simp_all[dX,yp]
def Pr (h0:0<=i)(h:i.toNat<ds.length):bv (.lst ds) (.int i)=some (ds.getD i.toNat .non,false):=by
 simp_all[yp]
def G6 (h0:0<=i)(h:i.toNat<ds.length):bv (.tup ds) (.int i)=some (ds.getD i.toNat .non,false):=by
 simp_all[yp]
def DN {xs:LI}{i:Int}(h0:0<=i)(h:i.toNat<xs.length):bv (.lst (xs.map .int)) (.int i)=some (.int (xs.getD i.toNat 0),false):=by
 rw[Pr h0 (by simpa using h)];simp[h]
def F7 (z:Str):z5 z=z.cps.toList.map λc=>.str ⟨#[c]⟩:=rfl
def mod_lt {x m:Int}(hm:0<m):0<=x % m/\x % m<m:=⟨Int.emod_nonneg _ N9,Int.emod_lt_of_pos _ hm⟩
def lV:cR [.lst ds]=some (.int ds.length,false):=rfl
def LH:dA (.int i) (.int j)=some (.bl (decide (i=j)),false):=X9
def bq (x y:D)(G:fa ρ=some (x,false))(e2:O ρ=some (y,false))(M:op x y=z):f2 op fa O ρ=z:=fU G e2 M
def dH (e:f ρ=some (.bl x,false)):aR f ρ=some x:=cH e
def bD (G:f ρ=some (d,false))(e2:M ρ=some xs):af f M ρ=some (d::xs):=aN G e2
def aG (ds:LD)(e:fa ρ=some ds)(k:F ds=x):fA F fa ρ=x:=aY e k
def hU (d:D)(e:f ρ=some (d,false))(n:bf d=true)(k:h (ρ.set i (some (d,false)))=r):a0 (aS i f) h ρ=r:=sJ e n k
@[simp] noncomputable abbrev rkE (aa:LD)(ae:Int)(t:Env):Env:=some (.tup aa,false)::some (.int ae,false)::t
@[simp] noncomputable abbrev eR (ns:LI)(zs:LS)(M:Int)(G:LS)(R:LD)(a b:OB)(t:Env):Env:=some (.lst (ns.map .int),false)::some (.lst (zs.map .str),false)::some (.int M,false)::a::some (.lst (G.map .str),true)::some (.lst R,true)::b::t
end DL
set_option backward.eqns.nonrecursive true
namespace Lw
open PySem DL
noncomputable def mw:D:=(.int 255)
noncomputable def sK:D:=(.int 9999)
noncomputable def lg:D:=(.int 9)
noncomputable def lh:D:=(.int 8)
noncomputable def my:D:=(.int 20)
noncomputable def gO:D:=(.int 8)
noncomputable def jk:D:=(.int 60)
noncomputable def Ap:D:=(.tup [(.str "paper"),(.str "like"),(.str "copy")])
noncomputable def cb:List (PySem.Str×D):=[(("root" : Str),(.tup [(.str "office"),(.str "matters"),(.str "further"),(.str "rule")])),(("named" : Str),(.tup [(.str "day"),(.str "office"),(.str "person")])),(("chosen" : Str),(.tup [(.str "day"),(.str "by"),(.str "office"),(.str "person"),(.str "since")])),(("heir" : Str),(.tup [(.str "day"),(.str "by"),(.str "office"),(.str "person")])),(("death" : Str),(.tup [(.str "day"),(.str "person")])),(("lost" : Str),(.tup [(.str "day"),(.str "person")])),(("found" : Str),(.tup [(.str "day"),(.str "person")])),(("leave" : Str),(.tup [(.str "day"),(.str "by"),(.str "person"),(.str "matters"),(.str "stretch"),(.str "further")])),(("paper" : Str),(.tup [(.str "day"),(.str "by"),(.str "matters"),(.str "stretch"),(.str "whom"),(.str "pieces")])),(("like" : Str),(.tup [(.str "day"),(.str "by"),(.str "matters"),(.str "stretch"),(.str "whom"),(.str "of"),(.str "changes")])),(("copy" : Str),(.tup [(.str "day"),(.str "by"),(.str "of")])),(("call" : Str),(.tup [(.str "day"),(.str "by"),(.str "of")]))]
noncomputable def iQ:D:=(.tup [(.str "by"),(.str "person"),(.str "whom")])
noncomputable def DO:D:=(.tup [(.str "open"),(.str "first"),(.str "last")])
noncomputable def iR:D:=(.tup [(.str "chosen"),(.str "heir"),(.str "leave"),(.str "paper"),(.str "like"),(.str "copy"),(.str "call")])
def sM:FS :=
  (aE (gF (fA bQ (fV 0 (af (fC (.ty "int")) ai))) (gF (GQ (fA bQ (fV 0 (af (fC (.ty "bool")) ai)))) (hV qR qR (aj 1) (aj 0) (aj 2)))))
def fW:=aB sM 3 0
def Aq:FS :=
  (aE (fA fW (fV 0 (af (fI 0) (af (fC sK) ai)))))
def jL:=aB Aq 1 0
def nV:FS :=
  (a0 (cU (dz (bS (aR (fA bQ (fV 0 (af (fC (.ty "tuple")) ai))))) (dz (aR (f2 mB (fA cR (fV 0 ai)) (fI 2))) (bS (aR (fA jL (af (cF 0 0) ai)))))) (aE (fC (.bl false))) aQ)
  (aE (Gk (f2 Bn (cF 0 1) (fC .non)) (gF (fA jL (af (cF 0 1) ai)) (f2 Dh (cF 0 0) (cF 0 1))))))
def nW:=aB nV 1 0
def nX:FS :=
  (aE (fA fW (fV 0 (af (fI 1) (af (fC mw) ai)))))
def nY:=aB nX 1 0
def wD:FS :=
  (a0 (cU (dz (bS (aR (fA bQ (fV 0 (af (fC (.ty "str")) ai))))) (bS (aR (hV qR qR (fI 1) (fA cR (fV 0 ai)) (fC lh))))) (aE (fC (.bl false))) aQ)
  (aE (fA BF (af (bP (bM (aj 0)) 1 [] (dh 0) gV (hV qR qR (fS "a") (aj 0) (fS "z"))) ai))))
def iF:=aB wD 1 0
def wF:FS :=
  (aE (gF (fA bQ (fV 0 (af (fC (.ty "str")) ai))) (f2 yM (aj 0) (fC DO))))
def wG:=aB wF 1 0
def sP:FS :=
  (aE (fA iF (fV 0 ai)))
def jZ:=aB sP 1 0
def qj:FS :=
  (a0 (cU (dz (bS (aR (fA bQ (fV 0 (af (fC (.ty "tuple")) ai))))) (bS (aR (hV qR qR (fI 1) (fA cR (fV 0 ai)) (fC gO))))) (aE (fC (.bl false))) aQ)
  (aE (fA BF (af (bP (bM (aj 0)) 1 [] (dh 0) gV (fA jZ (fV 0 ai))) ai))))
def jl:=aB qj 1 0
def qk:FS :=
  (a0 (cU (dz (bS (aR (fA bQ (fV 0 (af (fC (.ty "tuple")) ai))))) (aR (f2 mB (fA cR (fV 0 ai)) (fI 2)))) (aE (fC (.bl false))) aQ)
  (aE (gF (fA fW (af (cF 0 0) (af (fI 0) (af (f2 xL (fC gO) (fI 1)) ai)))) (fA jZ (af (cF 0 1) ai)))))
def jm:=aB qk 1 0
def nZ:FS :=
  (a0 (cU (dz (bS (aR (fA bQ (fV 0 (af (fC (.ty "tuple")) ai))))) (bS (aR (fA BF (af (bP (bM (aj 0)) 1 [] (dh 0) gV (fA jm (fV 0 ai))) ai))))) (aE (fC (.bl false))) aQ)
  (a0 (aS 1 (bP (bM (aj 0)) 1 [] (dh 0) gV (cF 0 0)))
  (aE (fA BF (af (bP (Fa (aj 1) (pV (aj 1) (eF (fI 1)) fz)) 2 [] (Dm [0,1]) gV (f2 Dh (aj 0) (aj 1))) ai)))))
def kg:=aB nZ 1 1
def wH:FS :=
  (a0 (cU (dz (aR (f2 dA (aj 0) (fS "day"))) (aR (f2 dA (aj 0) (fS "since")))) (aE (fA jL (fV 1 ai))) aQ)
  (a0 (cU (dz (aR (f2 dA (aj 0) (fS "office"))) (dz (aR (f2 dA (aj 0) (fS "by"))) (aR (f2 dA (aj 0) (fS "person"))))) (aE (fA iF (fV 1 ai))) aQ)
  (a0 (cU (aR (f2 dA (aj 0) (fS "whom"))) (aE (Gk (f2 Bn (aj 1) (fC .non)) (fA iF (fV 1 ai)))) aQ)
  (a0 (cU (aR (f2 dA (aj 0) (fS "matters"))) (aE (fA nY (fV 1 ai))) aQ)
  (a0 (cU (aR (f2 dA (aj 0) (fS "stretch"))) (aE (fA nW (fV 1 ai))) aQ)
  (a0 (cU (aR (f2 dA (aj 0) (fS "further"))) (aE (fA fW (fV 1 (af (fI 0) (af (fC lg) ai))))) aQ)
  (a0 (cU (aR (f2 dA (aj 0) (fS "rule"))) (aE (fA wG (fV 1 ai))) aQ)
  (a0 (cU (aR (f2 dA (aj 0) (fS "of"))) (aE (fA fW (fV 1 (af (fI 0) (af (f2 xL (fC jk) (fI 1)) ai))))) aQ)
  (a0 (cU (aR (f2 dA (aj 0) (fS "pieces"))) (aE (fA jl (fV 1 ai))) aQ)
  (aE (fA kg (fV 1 ai))))))))))))
def fj:=aB wH 2 0
def wI:FS :=
  (a0 (cU (dz (bS (aR (fA bQ (fV 0 (af (fC (.ty "tuple")) ai))))) (dz (aR (f2 dA (fA cR (fV 0 ai)) (fI 0))) (bS (aR (fA bQ (af (cF 0 0) (af (fC (.ty "str")) ai))))))) (aE (fC (.bl false))) aQ)
  (a0 (cU (dz (aR (f1 (BL cb) (cF 0 0))) (aR (f2 mB (fA cR (fV 0 ai)) (f2 dm (fI 1) (fA cR (af (f1 (uI cb) (cF 0 0)) ai)))))) (aE (fC (.bl false))) aQ)
  (aE (fA BF (af (bP (Fa (f1 (uI cb) (cF 0 0)) (pV (aj 0) (eF (fI 1)) fz)) 2 [] (Dm [0,1]) gV (fA fj (fV 0 (fV 1 ai)))) ai)))))
def p5:=aB wI 1 0
def wJ:FS :=
  (aE (f2 bv (cF 0 1) (fI 0)))
def a9:=aB wJ 1 0
def wK:FS :=
  (aE (f2 bv (cF 0 1) (f2 dm (fI 1) (f2 (mK cb) (fA a9 (fV 0 ai)) (aj 1)))))
def au:=aB wK 2 0
def Ar:FS :=
  (a0 (cU (aR (f2 dA (fA a9 (fV 0 ai)) (fS "root"))) (aE (fC .non)) aQ)
  (aE (fA au (fV 0 (af (fS "day") ai)))))
def aV:=aB Ar 1 0
def ql:FS :=
  (a0 (aS 1 (fA aV (fV 0 ai)))
  (a0 (cU (aR (f2 Bn (aj 1) (fC .non))) (aE (fC (.bl true))) aQ)
  (a0 (cU (eE (aR (f2 dA (fA a9 (fV 0 ai)) (fS "chosen"))) (aR (f2 Dh (fA au (fV 0 (af (fS "since") ai))) (aj 1)))) (aE (fC (.bl false))) aQ)
  (aE (f2 qR (aj 1) (cF 0 0))))))
def lm:=aB ql 1 1
def As:FS :=
  (a0 (cU (dz (bS (aR (fA bQ (fV 0 (af (fC (.ty "tuple")) ai))))) (aR (f2 mB (fA cR (fV 0 ai)) (fI 2)))) (aE (fC (.bl false))) aQ)
  (aE (gF (fA jL (af (cF 0 0) ai)) (gF (fA p5 (af (cF 0 1) ai)) (fA lm (fV 0 ai))))))
def sQ:=aB As 1 0
def ln:FS :=
  (aE (bP (bM (aj 0)) 1 [] (dh 0) (aR (f2 dA (fA a9 (fV 0 ai)) (fS "root"))) (fA au (fV 0 (af (fS "office") ai)))))
def iS:=aB ln 1 0
def jM:FS :=
  (aE (gF (f2 dA (fA a9 (fV 1 ai)) (fS "root")) (f2 yM (fA au (fV 1 (af (fS "office") ai))) (fA iS (fV 0 ai)))))
def gH:=aB jM 2 0
def sR:FS :=
  (aE (Wu (f1 (uI cb) (fA a9 (fV 0 ai))) (pV (cF 0 1) (eF (fI 1)) fz)))
def iT:=aB sR 1 0
def qm:FS :=
  (a0 (aS 1 (bP (bM (fA iT (fV 0 ai))) 2 [] (Dm [0,1]) (eE (aR (f2 yM (aj 0) (fC iQ))) (aR (f2 jT (aj 1) (fC .non)))) (aj 1)))
  (aE (f1 gZ (aj 1))))
def jn:=aB qm 1 1
def kH:FS :=
  (Ho 1 (fA jn (fV 2 ai)))
def lq:FS :=
  (a0 (aS 1 (fA cx ai))
  (a0 (nu (bM (aj 0)) (dh 2) kH)
  (aE (f1 Dx (aj 1)))))
def iU:=aB lq 1 2
def oe:FS :=
  (a0 (cU (dz (aR (f2 Qv (aj 1) (fC jk))) (bS (aR (fA sQ (af (f2 bv (aj 0) (aj 1)) ai))))) (aE (fC (.bl true))) aQ)
  (aE (Gk (fA gH (af (pV (aj 0) fz (eF (aj 1))) (af (f2 bv (aj 0) (aj 1)) ai))) (f2 BB (fA iU (af (pV (aj 0) fz (eF (f2 dm (aj 1) (fI 1)))) ai)) (fC my)))))
def kh:=aB oe 2 0
def lr:FS :=
  (cU (aR (fA kh (fV 1 (fV 2 ai)))) BK aQ)
def mz:FS :=
  (a0 (cU (bS (aR (fA yk (fV 0 (af (fA aO (af (fC (.ty "list")) (af (fC (.ty "tuple")) ai))) ai))))) BK aQ)
  (a0 (aS 1 (fA zF (fV 0 ai)))
  (a0 (nv (ib (fA cR (fV 1 ai))) (dh 2) lr)
  (io 1))))
def gP:=aB mz 1 2
def sU:FS :=
  (aE (gF (hV qR Dh (fI 0) (aj 2) (fA cR (fV 0 ai))) (f2 qR (f2 bv (f2 bv (aj 0) (aj 2)) (fI 0)) (aj 1))))
def cM:=aB sU 3 0
def sV:FS :=
  (aE (gF (fA cM (fV 0 (fV 1 (fV 2 ai)))) (f2 yM (fA a9 (af (f2 bv (aj 0) (aj 2)) ai)) (fC Ap))))
def cj:=aB sV 3 0
def wL:FS :=
  (aE (f2 D8 (f2 D8 (pV (aj 0) fz (eF (aj 1))) (fA aO (fV 2 ai))) (pV (aj 0) (eF (f2 dm (aj 1) (fI 1))) fz)))
def p6:=aB wL 3 0
def cS:FS :=
  (a0 (cU (aR (f2 BB (aj 4) (fA cR (fV 2 ai)))) (aE (fA aO (af (fS "beyond") (fV 3 ai)))) aQ)
  (aS 2 (fA p6 (fV 2 (fV 4 (fV 5 ai))))))
def bp:FS :=
  (a0 (cU (aR (f2 mB (fA a9 (af (f2 bv (aj 0) (aj 3)) ai)) (fS "like"))) Dr aQ)
  (RL [3] (nu (bM (fA au (af (f2 bv (aj 0) (aj 3)) (af (fS "changes") ai)))) (Dm [4,5]) cS)))
def ls:FS :=
  (a0 (aS 2 (fA au (af (f2 bv (aj 0) (f2 bv (aj 1) (f1 zr (fI 1)))) (af (fS "pieces") ai))))
  (a0 (nu (L8 (aj 1)) (dh 3) bp)
  (aE (fA aO (af (fS "words") (fV 2 ai))))))
def dD:=aB ls 2 4
def dE:FS :=
  (a0 (cU (bS (aR (fA cj (fV 0 (fV 1 (fV 4 ai)))))) (aE (fA aO (af (fS "lacks") (fV 4 ai)))) aQ)
  (a0 (ju 3 (aj 4))
  (a0 (cU (aR (f2 dA (fA a9 (af (f2 bv (aj 0) (aj 4)) ai)) (fS "paper"))) (aE (fA dD (fV 0 (fV 3 ai)))) aQ)
  (aS 4 (fA au (af (f2 bv (aj 0) (aj 4)) (af (fS "of") ai)))))))
def DP:FS :=
  (a0 (aS 3 (fA cx ai))
  (a0 (aS 4 (aj 2))
  (a0 (cJ (aR (f2 dZ (aj 4) (aj 3))) dE 1000)
  (aE (Iv (fS "ring") (fA gn (af (pV (aj 3) (eF (f2 mM (aj 3) (aj 4))) fz) ai)))))))
def gQ:=aB DP 3 2
def Au:FS :=
  (a0 (cU (aR (f2 Dh (aj 1) (fA cR (fV 0 ai)))) (aE (f2 bv (aj 0) (aj 1))) aQ)
  (a0 (aS 2 (f2 dm (f2 mC (fI 100003) (aj 1)) (fI 47)))
  (a0 (cU (aR (f2 BB (fA cR (fV 0 ai)) (fI 0))) (aS 2 (f2 dm (f2 dm (f2 mC (f2 bv (aj 0) (f2 cI (f2 mC (aj 1) (fI 41)) (fA cR (fV 0 ai)))) (fI 39373)) (f2 mC (f2 mC (aj 1) (aj 1)) (fI 1021))) (fI 29))) aQ)
  (aE (f2 cI (f2 Pm (aj 2) (aj 2)) (fI 2147483629))))))
def gt:=aB Au 2 1
def sW:FS :=
  (a0 (aS 6 (fA xV (fV 2 ai)))
  (a0 (Lc 6 (aj 3) (f2 bv (aj 1) (f2 cI (f2 dm (f2 dI (aj 0) (fI 64)) (f2 mC (fI 3) (aj 5))) (fI 26))))
  (ju 4 (f2 Dl (fS "") (aj 6)))))
def wM:FS :=
  (a0 (aS 1 (fS "abcdefghijklmnopqrstuvwxyz"))
  (a0 (aS 2 (bP (ib (f2 dm (fI 1) (f2 cI (aj 0) (fI 8)))) 1 [1,0] (dh 0) gV (f2 bv (aj 1) (f2 cI (f2 dI (aj 2) (f2 dm (fI 3) (f2 mC (fI 4) (aj 0)))) (fI 26)))))
  (a0 (aS 3 (f2 cI (f2 dI (aj 0) (fI 8)) (fA cR (fV 2 ai))))
  (a0 (aS 4 (fA cx ai))
  (a0 (nv (ib (fI 6)) (dh 5) sW)
  (io 4))))))
def p7:=aB wM 1 6
def wN:FS :=
  (a0 (aS 2 (f2 cI (fA gt (fV 0 (af (fI 1) ai))) (f2 KQ (fI 10) (fI 12))))
  (a0 (aS 3 (fA cx (af (fA aO (af (fI 0) (af (fA aO (af (fS "root") (af (cF 1 5) (af (fI 7) (af (fI 2) (af (fS "open") ai)))))) ai))) (af (fA aO (af (fI 0) (af (fA aO (af (fS "named") (af (fI 0) (af (cF 1 5) (af (cF 1 0) ai))))) ai))) ai))))
  (a0 (aS 4 (f2 bv (fA cx (af (fA aO (af (fI 0) (af (fC .non) ai))) (af (fA aO (af (fI 2) (af (fI 15) ai))) (af (fA aO (af (fI 0) (af (fI 9) ai))) ai)))) (f2 cI (aj 2) (fI 3))))
  (a0 (ju 3 (fA aO (af (fI 1) (af (fA aO (af (fS "leave") (af (fI 1) (af (cF 1 0) (af (cF 1 1) (af (f2 bv (fA cx (af (fI 7) (af (fI 3) ai))) (f2 cI (f2 dI (aj 2) (fI 3)) (fI 2))) (af (fA aO (af (fI 0) (af (fC .non) ai))) (af (f2 cI (f2 dI (aj 2) (fI 6)) (fI 2)) ai)))))))) ai))))
  (a0 (ju 3 (fA aO (af (fI 2) (af (fA aO (af (fS "paper") (af (fI 2) (af (cF 1 0) (af (fI 1) (fV 4 (af (f2 bv (fA cx (af (fC .non) (af (cF 1 2) ai))) (f2 cI (f2 dI (aj 2) (fI 12)) (fI 2))) (af (fA aO (af (cF 1 3) (af (cF 1 4) ai))) ai)))))))) ai))))
  (a0 (ju 3 (fA aO (af (fI 2) (af (fA aO (af (fS "paper") (af (fI 2) (af (cF 1 1) (af (f2 bv (fA cx (af (fI 2) (af (fI 4) ai))) (f2 cI (f2 dI (aj 2) (fI 24)) (fI 2))) (af (fA aO (af (fI 0) (af (fC .non) ai))) (af (fC .non) (af (fA aO (af (cF 1 1) ai)) ai)))))))) ai))))
  (a0 (ju 3 (fA aO (af (fI 3) (af (fA aO (af (fS "like") (af (fI 3) (af (f2 bv (aj 1) (f2 cI (f2 dI (aj 2) (fI 48)) (fI 2))) (af (fI 1) (af (fA aO (af (fI 0) (af (fI 12) ai))) (af (cF 1 1) (af (fI 3) (af (fA aO (af (fA aO (af (f2 cI (f2 dI (aj 2) (fI 96)) (fI 3)) (af (cF 1 0) ai))) ai)) ai))))))))) ai))))
  (io 3))))))))
def p8:=aB wN 2 3
def p9:FS :=
  (a0 (aS 4 (f2 cI (fA gt (fV 0 (af (f2 dm (fI 3) (aj 3)) ai))) (f2 KQ (fI 10) (fI 12))))
  (a0 (aS 5 (f2 dm (f2 dm (fI 3) (f2 dI (aj 3) (fI 2))) (f2 cI (f2 dI (aj 4) (fI 7)) (fI 2))))
  (a0 (aS 6 (f2 bv (aj 1) (f2 cI (f2 dI (aj 4) (fI 14)) (fI 5))))
  (a0 (aS 7 (f2 bv (fA cx (af (f2 dm (fI 3) (f2 cI (f2 dI (aj 4) (fI 70)) (fI 3))) (af (f2 xL (fA cR (fV 2 ai)) (fI 1)) (af (fA OD (af (fI 3) (af (f2 xL (fA cR (fV 2 ai)) (fI 2)) ai))) (af (f2 cI (f2 dI (aj 4) (fI 70)) (fI 24)) ai))))) (f2 cI (f2 dI (aj 4) (fI 1680)) (fI 4))))
  (a0 (aS 8 (fA aO (af (fS "copy") (fV 5 (fV 6 (fV 7 ai))))))
  (a0 (cU (aR (f2 dA (f2 cI (aj 4) (fI 7)) (fI 5))) (a0 (aS 9 (f2 bv (fA cx (af (fS "lost") (af (fS "found") (af (fS "death") (af (fS "lost") ai))))) (f2 cI (f2 dI (aj 4) (fI 70)) (fI 4))))
  (aS 8 (fA aO (fV 9 (af (f2 dm (aj 5) (f2 cI (f2 dI (aj 4) (fI 280)) (fI 4))) (fV 6 ai)))))) aQ)
  (a0 (cU (aR (f2 dA (f2 cI (aj 4) (fI 7)) (fI 6))) (a0 (aS 10 (f2 dm (fI 3) (f2 cI (f2 dI (aj 4) (fI 70)) (f2 xL (fA cR (fV 2 ai)) (fI 3)))))
  (cU (aR (f2 yM (f2 bv (f2 bv (f2 bv (aj 2) (aj 10)) (fI 1)) (fI 0)) (fA aO (af (fS "paper") (af (fS "like") (af (fS "copy") ai)))))) (aS 8 (fA aO (af (fS "call") (af (f2 dm (aj 5) (f2 cI (f2 dI (aj 4) (fI 4480)) (fI 5))) (af (f2 bv (f2 bv (f2 bv (aj 2) (aj 10)) (fI 1)) (fI 2)) (fV 10 ai)))))) aQ)) aQ)
  (ju 2 (fA aO (af (cF 8 1) (fV 8 ai)))))))))))
def Av:FS :=
  (a0 (aS 2 (fA p8 (fV 0 (fV 1 ai))))
  (a0 (nv (ib (f2 bv (fA cx (af (fA OE (af (fI 14) (af (f2 dm (fI 4) (f2 dI (fA cR (fV 0 ai)) (fI 4))) ai))) (af (fI 14) ai))) (f2 cI (f2 dI (fA gt (fV 0 (af (fI 1) ai))) (fI 288)) (fI 2)))) (dh 3) p9)
  (io 2)))
def sX:=aB Av 2 9
def DQ:FS :=
  (aE (bP (Hr (aj 0)) 2 [1] (Dm [0,1]) (aR (f2 qR (cF 1 0) (aj 2))) (aj 0)))
def dP:=aB DQ 2 0
def IC:FS :=
  (aE (fA aO (af (fA aV (af (f2 bv (aj 0) (aj 1)) ai)) (fV 1 ai))))
def fX:=aB IC 2 0
def sY:FS :=
  (a0 (aS 2 (bP (bM (fA dP (fV 0 (fV 1 ai)))) 1 [0] (dh 0) (aR (f2 jT (fA aV (af (f2 bv (aj 1) (aj 0)) ai)) (fC .non))) (aj 0)))
  (aE (sj (aj 2) (uQ [0] (fA fX (fV 1 (fV 0 ai)))))))
def eQ:=aB sY 2 1
def qo:FS :=
  (aE (fA aO (af (cF 0 0) (af (cF 0 2) (af (cF 0 4) ai)))))
def lu:=aB qo 1 0
def DR:FS :=
  (a0 (aS 2 (bP (bM (fA dP (fV 0 (fV 1 ai)))) 1 [0] (dh 0) gV (f2 bv (aj 1) (aj 0))))
  (aE (fA lS (af (bP (bM (aj 2)) 1 [] (dh 0) (aR (f2 dA (fA a9 (fV 0 ai)) (fS "root"))) (fA aO (af (fA au (fV 0 (af (fS "office") ai))) (fV 0 ai)))) ai))))
def gR:=aB DR 2 1
def DS:FS :=
  (aE (gF (f2 yM (fA a9 (fV 0 ai)) (aj 1)) (gF (f2 dA (fA au (fV 0 (af (fS "person") ai))) (aj 2)) (f2 qR (fA aV (fV 0 ai)) (aj 3)))))
def qX:=aB DS 4 0
def wO:FS :=
  (aE (bP (bM (fA dP (fV 0 (fV 1 ai)))) 1 [2,3,4,0] (dh 0) (aR (fA qX (af (f2 bv (aj 4) (aj 0)) (fV 1 (fV 2 (fV 3 ai)))))) (aj 0)))
def iG:=aB wO 5 0
def DT:FS :=
  (aE (f2 dA (fA cR (af (fA iG (fV 0 (fV 1 (af (fA aO (af (fS "death") ai)) (fV 2 (fV 3 ai)))))) ai)) (fI 0)))
def qY:=aB DT 4 0
def sZ:FS :=
  (a0 (aS 4 (fA iG (fV 0 (fV 1 (af (fA aO (af (fS "lost") (af (fS "found") ai))) (fV 2 (fV 3 ai)))))))
  (a0 (cU (aR (f2 dA (fA cR (fV 4 ai)) (fI 0))) (aE (fC (.bl true))) aQ)
  (aE (f2 dA (fA a9 (af (f2 bv (aj 0) (Ag (aj 4) (uQ [0] (fA fX (fV 1 (fV 0 ai)))))) ai)) (fS "found")))))
def mO:=aB sZ 4 1
def tj:FS :=
  (a0 (cU (dz (bS (aR (fA cM (fV 0 (fV 1 (fV 2 ai)))))) (aR (f2 dZ (fA a9 (af (f2 bv (aj 0) (aj 2)) ai)) (fC iR)))) (aE (fC (.bl false))) aQ)
  (a0 (aS 3 (fA au (af (f2 bv (aj 0) (aj 2)) (af (fS "by") ai))))
  (a0 (aS 4 (fA aV (af (f2 bv (aj 0) (aj 2)) ai)))
  (aE (gF (fA qY (fV 0 (fV 1 (fV 3 (fV 4 ai))))) (fA mO (fV 0 (fV 1 (fV 3 (fV 4 ai))))))))))
def eU:=aB tj 3 2
def wP:FS :=
  (aE (gF (f2 qR (cF 1 0) (aj 0)) (Gk (f2 Bn (cF 1 1) (fC .non)) (f2 Dh (aj 0) (cF 1 1)))))
def iH:=aB wP 2 0
def tm:FS :=
  (aE (fA iH (fV 1 (af (fA aO (af (cF 0 2) (af (cF 0 3) ai))) ai))))
def eV:=aB tm 2 0
def tq:FS :=
  (aE (fA aO (af (cF 0 2) (af (cF 0 4) ai))))
def fY:=aB tq 1 0
def tu:FS :=
  (a0 (cU (aR (f2 dA (aj 1) (fS "last"))) (aE (f2 bv (Ag (aj 0) (yi fY)) (fI 1))) aQ)
  (aE (f2 bv (wx (aj 0) (yi fY)) (fI 1))))
def mP:=aB tu 2 0
def qp:FS :=
  (a0 (aS 3 (bP (bM (aj 0)) 1 [2,1] (dh 0) (eE (aR (f2 dA (cF 0 0) (fA au (fV 2 (af (fS "office") ai))))) (aR (fA eV (fV 0 (fV 1 ai))))) (aj 0)))
  (a0 (aS 4 (f1 gZ (bP (bM (aj 3)) 1 [] (dh 0) gV (cF 0 1))))
  (a0 (cU (aR (f2 dA (fA cR (fV 4 ai)) (fI 0))) (aE (fA aO (af (fS "none") ai))) aQ)
  (a0 (cU (eE (aR (f2 BB (fA cR (fV 4 ai)) (fI 1))) (aR (f2 dA (fA au (fV 1 (af (fS "rule") ai))) (fS "open")))) (aE (fA aO (af (fS "parted") (fV 4 ai)))) aQ)
  (a0 (aS 5 (fA mP (fV 3 (af (fA au (fV 1 (af (fS "rule") ai))) ai))))
  (a0 (aS 6 (wx (bP (bM (aj 3)) 1 [5] (dh 0) (aR (f2 dA (cF 0 1) (aj 1))) (aj 0)) (yi fY)))
  (aE (fA aO (af (fS "one") (fV 5 (af (cF 6 4) ai)))))))))))
def jo:=aB qp 3 4
def oh:FS :=
  (aE (f2 dA (pV (fA jo (fV 0 (fV 1 (fV 3 ai)))) fz (eF (fI 2))) (fA aO (af (fS "one") (fV 2 ai)))))
def dQ:=aB oh 4 0
def jN:FS :=
  (a0 (aS 3 (f2 bv (aj 0) (aj 2)))
  (a0 (aS 4 (fA iG (fV 0 (fV 1 (af (fA aO (af (fS "death") ai)) (af (fA au (fV 3 (af (fS "person") ai))) (af (fA aV (fV 3 ai)) ai)))))))
  (aE (f2 dA (wx (aj 4) (uQ [0] (fA fX (fV 1 (fV 0 ai))))) (aj 2)))))
def gI:=aB jN 3 2
def Aw:FS :=
  (a0 (aS 4 (f2 bv (aj 0) (aj 3)))
  (a0 (cU (aR (f2 dA (fA a9 (fV 4 ai)) (fS "death"))) (aE (fA gI (fV 0 (fV 1 (fV 3 ai))))) aQ)
  (a0 (cU (aR (f2 dZ (fA a9 (fV 4 ai)) (fA aO (af (fS "named") (af (fS "chosen") (af (fS "heir") ai)))))) (aE (fC (.bl false))) aQ)
  (a0 (aS 5 (f2 OZ (fA gR (fV 0 (fV 1 ai))) (fA au (fV 4 (af (fS "office") ai)))))
  (a0 (cU (aR (f2 Bn (aj 5) (fC .non))) (aE (fC (.bl false))) aQ)
  (a0 (cU (aR (f2 dA (fA a9 (fV 4 ai)) (fS "named"))) (aE (fC (.bl true))) aQ)
  (aE (gF (fA eU (fV 0 (fV 1 (fV 3 ai)))) (fA dQ (fV 2 (fV 5 (af (fA au (fV 4 (af (fS "by") ai))) (af (fA aV (fV 4 ai)) ai)))))))))))))
def oi:=aB Aw 4 2
def qq:FS :=
  (aE (fA aO (af (fA au (fV 0 (af (fS "office") ai))) (af (fA au (fV 0 (af (fS "person") ai))) (fV 1 (af (fC .non) (fV 2 ai)))))))
def jp:=aB qq 3 0
def t0:FS :=
  (cU (dz (aR (f2 dZ (cF 5 0) (aj 1))) (dz (aR (f2 mB (cF 5 1) (aj 2))) (bS (dz (aR (fA eV (fV 5 (fV 3 ai)))) (aR (f2 BB (cF 5 2) (aj 3))))))) (ju 4 (aj 5)) (cU (aR (f2 Dh (cF 5 2) (aj 3))) (ju 4 (fA aO (af (cF 5 0) (fV 2 (af (cF 5 2) (fV 3 (af (cF 5 4) ai))))))) aQ))
def DU:FS :=
  (a0 (aS 4 (fA cx ai))
  (a0 (nu (bM (aj 0)) (dh 5) t0)
  (io 4)))
def yt:=aB DU 4 2
def oj:FS :=
  (a0 (aS 9 (Ig (aj 3) (fV 8 (fV 5 ai))))
  (cU (eE (aR (f2 jT (aj 9) (fC .non))) (aR (fA qY (fV 0 (fV 1 (fV 9 (fV 6 ai))))))) (ju 7 (fA aO (fV 8 (fV 9 (fV 6 (af (fC .non) (fV 4 ai))))))) aQ))
def qs:FS :=
  (a0 (aS 5 (fA au (af (f2 bv (aj 0) (aj 4)) (af (fS "person") ai))))
  (a0 (aS 6 (fA aV (af (f2 bv (aj 0) (aj 4)) ai)))
  (a0 (aS 7 (fA cx ai))
  (a0 (RL [5,6] (nu (bM (f1 gZ (bP (bM (aj 2)) 1 [5,6] (dh 0) (eE (aR (f2 dA (cF 0 1) (aj 1))) (aR (fA eV (fV 0 (fV 2 ai))))) (cF 0 0)))) (dh 8) oj))
  (io 7)))))
def lw:=aB qs 5 5
def m4:FS :=
  (a0 (aS 5 (bP (bM (aj 2)) 1 [] (dh 0) gV (cF 0 0)))
  (a0 (aS 6 (fA yt (fV 2 (fV 5 (af (fA au (af (f2 bv (aj 0) (aj 4)) (af (fS "person") ai))) (af (fA aV (af (f2 bv (aj 0) (aj 4)) ai)) ai))))))
  (aE (f2 dm (aj 6) (fA lw (fV 0 (fV 1 (fV 2 (fV 3 (fV 4 ai))))))))))
def jy:=aB m4 5 2
def lW:FS :=
  (a0 (aS 5 (f2 bv (aj 0) (aj 4)))
  (a0 (cU (bS (aR (fA oi (fV 0 (fV 1 (fV 2 (fV 4 ai))))))) Dr aQ)
  (cU (aR (f2 dA (fA a9 (fV 5 ai)) (fS "named"))) (aS 2 (f2 dm (aj 2) (fA cx (af (fA jp (fV 5 (af (fA aV (fV 5 ai)) (fV 4 ai)))) ai)))) (cU (aR (f2 dA (fA a9 (fV 5 ai)) (fS "chosen"))) (aS 2 Nk) (cU (aR (f2 dA (fA a9 (fV 5 ai)) (fS "heir"))) (DD 3 (af (fA au (fV 5 (af (fS "office") ai))) (af (fA au (fV 5 (af (fS "by") ai))) ai)) (fA au (fV 5 (af (fS "person") ai)))) (aS 2 (fA jy (fV 0 (fV 1 (fV 2 (fV 3 (fV 4 ai))))))))))))
def Ax:FS :=
  (a0 (aS 2 (fA cx ai))
  (a0 (HS 3)
  (a0 (nu (bM (fA eQ (fV 0 (fV 1 ai)))) (dh 4) lW)
  (aE (sj (aj 2) (yi lu))))))
def om:=aB Ax 2 4
def t6:FS :=
  (aE (gF (fA cM (fV 0 (fV 1 (fV 2 ai)))) (f2 dA (fA a9 (af (f2 bv (aj 0) (aj 2)) ai)) (fS "leave"))))
def gJ:=aB t6 3 0
def t7:FS :=
  (aE (Gk (fA gJ (fV 0 (fV 1 (fV 2 ai)))) (fA cj (fV 0 (fV 1 (fV 2 ai))))))
def eW:=aB t7 3 0
def t8:FS :=
  (aE (f2 dA (f2 R0 (aj 0) (aj 1)) (aj 1)))
def iV:=aB t8 2 0
def qt:FS :=
  (a0 (cU (bS (aR (fA iV (af (fA au (fV 1 (af (fS "matters") ai))) (af (fA au (fV 0 (af (fS "matters") ai))) ai))))) (aE (fS "matters")) aQ)
  (a0 (cU (eE (aR (f2 dA (fA a9 (fV 0 ai)) (fS "leave"))) (aR (f2 Qv (fA au (fV 0 (af (fS "further") ai))) (fA au (fV 1 (af (fS "further") ai)))))) (aE (fS "further")) aQ)
  (aE (fC .non))))
def jq:=aB qt 2 0
def oq:FS :=
  (a0 (cU (bS (aR (fA dQ (fV 0 (fV 2 (af (fA au (fV 1 (af (fS "by") ai))) (af (fA aV (fV 1 ai)) ai))))))) (aE (fS "holder")) aQ)
  (aE (fA jq (fV 1 (fV 2 ai)))))
def i7:=aB oq 3 0
def lx:FS :=
  (a0 (aS 4 (f2 bv (aj 0) (aj 3)))
  (a0 (aS 5 (bP (sx (fA gR (fV 0 (fV 1 ai)))) 1 [2,4] (dh 0) (aR (f2 Bn (fA i7 (fV 1 (fV 2 (fV 0 ai)))) (fC .non))) (aj 0)))
  (aE (bP (bM (aj 5)) 1 [2,4] (dh 0) gV (fA aO (af (fS "office") (af (fA au (fV 0 (af (fS "office") ai))) (af (f2 bv (fA jo (fV 1 (fV 0 (af (fA aV (fV 2 ai)) ai)))) (fI 2)) ai))))))))
def iW:=aB lx 4 2
def m5:FS :=
  (a0 (cU (aR (f2 Bn (aj 1) (fC .non))) (aE (fC (.bl true))) aQ)
  (aE (gF (f2 jT (aj 0) (fC .non)) (f2 qR (aj 0) (aj 1)))))
def jz:=aB m5 2 0
def qu:FS :=
  (aE (gF (f2 qR (cF 1 0) (cF 0 0)) (fA jz (af (cF 0 1) (af (cF 1 1) ai)))))
def jr:=aB qu 2 0
def t9:FS :=
  (aE (f2 QC (fA fX (fV 0 (fV 1 ai))) (fA fX (fV 0 (fV 2 ai)))))
def gK:=aB t9 3 0
def qw:FS :=
  (a0 (aS 3 (f2 bv (aj 0) (aj 1)))
  (a0 (aS 4 (fA au (af (f2 bv (aj 0) (aj 2)) (af (fS "stretch") ai))))
  (a0 (cU (bS (aR (fA gK (fV 0 (fV 2 (fV 1 ai)))))) (aE (fS "order")) aQ)
  (a0 (cU (dz (bS (aR (fA iH (af (fA aV (fV 3 ai)) (fV 4 ai))))) (bS (aR (fA jr (af (fA au (fV 3 (af (fS "stretch") ai))) (fV 4 ai)))))) (aE (fS "days")) aQ)
  (aE (fA jq (fV 3 (af (f2 bv (aj 0) (aj 2)) ai))))))))
def ly:=aB qw 3 2
def qx:FS :=
  (a0 (aS 3 (bP (bM (fA dP (fV 0 (fV 1 ai)))) 1 [0,1] (dh 0) (aR (fA gJ (fV 1 (fV 2 (fV 0 ai))))) (aj 0)))
  (aE (bP (bM (aj 3)) 1 [2,0] (dh 0) (aR (f2 dA (fA au (af (f2 bv (aj 2) (aj 0)) (af (fS "person") ai))) (aj 1))) (aj 0))))
def l5:=aB qx 3 1
def m6:FS :=
  (a0 (aS 3 (fA l5 (fV 0 (fV 1 (af (fA au (af (f2 bv (aj 0) (aj 2)) (af (fS "by") ai))) ai)))))
  (aE (bP (bM (aj 3)) 1 [0,2] (dh 0) (aR (f2 Bn (fA ly (fV 1 (fV 2 (fV 0 ai)))) (fC .non))) (fA aO (af (fS "leave") (fV 0 ai))))))
def j0:=aB m6 3 1
def ot:FS :=
  (a0 (aS 3 (fA au (af (f2 bv (aj 0) (aj 2)) (af (fS "of") ai))))
  (a0 (cU (eE (aR (fA cj (fV 0 (fV 1 (fV 3 ai))))) (aR (fA gK (fV 0 (fV 3 (fV 2 ai)))))) (aE (fA cx (af (fA aO (af (fS "copy") (fV 3 ai))) ai))) aQ)
  (aE (fA cx ai))))
def ki:=aB ot 3 1
def tF:FS :=
  (a0 (cU (bS (aR (fA eW (fV 0 (fV 1 (fV 3 ai)))))) (aE (fA cx ai)) aQ)
  (a0 (cU (aR (f2 dA (fA a9 (af (f2 bv (aj 0) (aj 3)) ai)) (fS "copy"))) (aE (fA ki (fV 0 (fV 1 (fV 3 ai))))) aQ)
  (a0 (aS 4 (f2 dm (fA iW (fV 0 (fV 1 (fV 2 (fV 3 ai))))) (fA j0 (fV 0 (fV 1 (fV 3 ai))))))
  (aE (Ch (aj 4) (uQ [] (fA aO (af (f2 bv (aj 0) (f1 zr (fI 1))) (fV 0 ai)))))))))
def fZ:=aB tF 4 1
def tG:FS :=
  (a0 (aS 5 (f2 bv (aj 0) (aj 4)))
  (a0 (aS 6 (fA au (af (f2 bv (aj 0) (aj 3)) (af (fS "by") ai))))
  (a0 (cU (aR (f2 dA (aj 6) (fA au (fV 5 (af (fS "by") ai))))) (aE (fC (.bl true))) aQ)
  (a0 (cU (aR (f2 dA (fA a9 (fV 5 ai)) (fS "copy"))) (aE (fC (.bl false))) aQ)
  (a0 (aS 7 (bP (sx (fA gR (fV 0 (fV 1 ai)))) 1 [5] (dh 0) (aR (fA iV (af (fA au (fV 0 (af (fS "matters") ai))) (af (fA au (fV 1 (af (fS "matters") ai))) ai)))) (aj 0)))
  (aE (fA Hf (af (bP (bM (aj 7)) 1 [2,6,0,3] (dh 0) gV (fA dQ (fV 1 (fV 0 (fV 2 (af (fA aV (af (f2 bv (aj 3) (aj 4)) ai)) ai)))))) ai))))))))
def mQ:=aB tG 5 3
def tH:FS :=
  (a0 (aS 6 (f2 bv (aj 0) (aj 3)))
  (a0 (cU (dz (aR (f2 mB (fA a9 (fV 6 ai)) (fS "call"))) (dz (aR (f2 mB (fA au (fV 6 (af (fS "of") ai))) (aj 4))) (aR (f2 BB (fA aV (fV 6 ai)) (aj 5))))) (aE (fC (.bl false))) aQ)
  (aE (gF (fA eU (fV 0 (fV 1 (fV 3 ai)))) (fA mQ (fV 0 (fV 1 (fV 2 (fV 3 (fV 4 ai))))))))))
def kj:=aB tH 6 1
def tI:FS :=
  (a0 (cU (bS (aR (fA eW (fV 0 (fV 1 (fV 3 ai)))))) (aE (fA cx ai)) aQ)
  (aE (bP (bM (fA dP (fV 0 (fV 1 ai)))) 1 [0,1,2,3,4] (dh 0) (aR (fA kj (fV 1 (fV 2 (fV 3 (fV 0 (fV 4 (fV 5 ai)))))))) (aj 0))))
def km:=aB tI 5 0
def Ay:FS :=
  (a0 (cU (dz (bS (aR (fA eU (fV 0 (fV 1 (fV 3 ai)))))) (aR (f2 BB (fA aV (af (f2 bv (aj 0) (aj 3)) ai)) (aj 4)))) (aE (fC (.bl false))) aQ)
  (aE (f2 dA (fA cR (af (fA km (fV 0 (fV 1 (fV 2 (fV 3 (fV 4 ai)))))) ai)) (fI 0))))
def ou:=aB Ay 5 0
def Az:FS :=
  (cU (eE (aR (fA eW (fV 0 (fV 1 (fV 5 ai))))) (aR (fA ou (fV 0 (fV 1 (fV 3 (fV 5 (fV 2 ai)))))))) (sC 4 (aj 5) (fA fZ (fV 0 (fV 1 (fV 3 (fV 5 ai)))))) aQ)
def DV:FS :=
  (a0 (CW 3 (fA om (fV 0 (fV 1 ai))))
  (a0 (DB 4)
  (a0 (nu (bM (fA eQ (fV 0 (fV 1 ai)))) (dh 5) Az)
  (io 4))))
def oy:=aB DV 3 3
def DW:FS :=
  (aE (Gk (f2 dA (cF 0 0) (fS "office")) (f2 Wt (cF 0 1) (aj 1))))
def o0:=aB DW 2 0
def A0:FS :=
  (cU (aR (fA Hf (af (bP (bM (aj 3)) 1 [1] (dh 0) gV (fA o0 (fV 0 (fV 1 ai)))) ai))) (Aj 1 (aj 2) (fC (.bl true))) aQ)
def DX:FS :=
  (a0 (DB 1)
  (a0 (nu (DH (aj 0)) (Dm [2,3]) A0)
  (io 1)))
def o3:=aB DX 1 3
def l7:FS :=
  (aE (f2 bv (bP (bM (aj 0)) 1 [1] (dh 0) (aR (fA o0 (fV 0 (fV 1 ai)))) (aj 0)) (fI 0)))
def eY:=aB l7 2 0
def tJ:FS :=
  (a0 (ju 6 (cF 7 1))
  (aS 7 (fA eY (af (f2 T3 (aj 4) (cF 7 1)) (fV 5 ai)))))
def DY:FS :=
  (a0 (aS 4 (fA oy (fV 0 (fV 1 (fV 2 ai)))))
  (a0 (aS 5 (fA o3 (fV 4 ai)))
  (a0 (cU (aR (f2 Cb (aj 3) (aj 5))) (aE (fC .non)) aQ)
  (a0 (aS 6 (fA cx (fV 3 ai)))
  (a0 (aS 7 (fA eY (af (f2 T3 (aj 4) (aj 3)) (fV 5 ai))))
  (a0 (cJ (aR (f2 mB (cF 7 0) (fS "office"))) tJ 1000)
  (a0 (ju 6 (cF 7 2))
  (aE (f1 Ph (aj 6))))))))))
def gS:=aB DY 4 4
def tK:FS :=
  (aE (fA Ao (af (fA o3 (af (fA oy (fV 0 (fV 1 (fV 2 ai)))) ai)) ai)))
def iX:=aB tK 3 0
def ie:FS :=
  (aS 2 (f2 bv (aj 0) (fA au (fV 2 (af (fS "of") ai)))))
def l8:FS :=
  (a0 (aS 2 (f2 bv (aj 0) (aj 1)))
  (a0 (cJ (aR (f2 dA (fA a9 (fV 2 ai)) (fS "copy"))) ie 1000)
  (io 2)))
def eZ:=aB l8 2 1
def wQ:FS :=
  (a0 (aS 3 (bP (bM (fA iX (fV 0 (fV 1 (fV 2 ai))))) 1 [0,1] (dh 0) (aR (fA cj (fV 1 (fV 2 (fV 0 ai))))) (aj 0)))
  (aE (bP (bM (aj 3)) 1 [2,0] (dh 0) (aR (fA iH (fV 1 (af (fA au (af (fA eZ (fV 2 (fV 0 ai))) (af (fS "stretch") ai))) ai)))) (aj 0))))
def pA:=aB wQ 3 1
def wR:FS :=
  (aE (fA au (af (fA eZ (fV 0 (fV 1 ai))) (af (fS "whom") ai))))
def pB:=aB wR 2 0
def DZ:FS :=
  (a0 (cU (aR (f2 dZ (aj 3) (fA pA (fV 0 (fV 1 (fV 2 ai)))))) (aE (fC (.bl false))) aQ)
  (aE (Gk (f2 Bn (aj 4) (fC .non)) (f2 yM (fA pB (fV 0 (fV 3 ai))) (fA aO (af (fC .non) (fV 4 ai)))))))
def gu:=aB DZ 5 0
def Ea:FS :=
  (aE (fA km (fV 0 (fV 1 (af (fA om (fV 0 (fV 1 ai))) (fV 2 (fV 3 ai)))))))
def o4:=aB Ea 4 0
def A1:FS :=
  (a0 (aS 3 (f2 bv (f2 bv (aj 0) (aj 1)) (fI 1)))
  (a0 (aS 4 (cF 3 3))
  (a0 (cU (dz (aR (f2 BB (cF 3 1) (aj 2))) (dz (bS (aR (fA eU (fV 0 (af (fI 9999) (fV 1 ai)))))) (aR (f2 mB (fA o4 (fV 0 (af (fI 9999) (fV 1 (fV 2 ai))))) (fA cx ai))))) (aE (fC (.bl false))) aQ)
  (a0 (cU (dz (aR (f2 Qv (aj 4) (fA cR (fV 0 ai)))) (aR (f2 dZ (f2 bv (f2 bv (f2 bv (aj 0) (aj 4)) (fI 1)) (fI 0)) (fA aO (af (fS "paper") (af (fS "like") (af (fS "copy") ai))))))) (aE (fC (.bl false))) aQ)
  (aE (f2 QC (fA aO (af (f2 bv (f2 bv (f2 bv (aj 0) (aj 4)) (fI 1)) (fI 1)) (fV 4 ai))) (fA aO (af (cF 3 1) (fV 1 ai)))))))))
def tL:=aB A1 3 2
def ID:FS :=
  (a0 (aS 4 (f2 bv (f2 bv (f2 bv (aj 0) (aj 1)) (fI 1)) (fI 3)))
  (a0 (aS 5 (fA tL (fV 0 (fV 1 (fV 2 ai)))))
  (a0 (cU (aR (f2 mB (Q1 gu (fV 0 (af (fI 9999) (fV 2 (fV 1 ai))))) (gF (aj 5) (Q1 gu (fV 0 (af (fI 9999) (fV 2 (fV 4 ai)))))))) (aE (fC (.bl false))) aQ)
  (a0 (aS 6 (f2 bv (aj 3) (f2 cI (f2 dm (aj 1) (aj 2)) (fI 3))))
  (a0 (cU (aR (f2 mB (fA gu (fV 0 (af (fI 9999) (fV 2 (fV 1 (fV 6 ai)))))) (gF (aj 5) (fA gu (fV 0 (af (fI 9999) (fV 2 (fV 4 (fV 6 ai))))))))) (aE (fC (.bl false))) aQ)
  (a0 (aS 7 (fA gS (fV 0 (af (fI 9999) (fV 2 (fV 1 ai))))))
  (a0 (aS 8 (fC .non))
  (a0 (cU (eE (aR (aj 5)) (aR (f2 jT (fA gS (fV 0 (af (fI 9999) (fV 2 (fV 4 ai))))) (fC .non)))) (aS 8 (f2 dm (fA gS (fV 0 (af (fI 9999) (fV 2 (fV 4 ai))))) (fA cx (fV 1 ai)))) aQ)
  (aE (f2 dA (aj 7) (aj 8)))))))))))
def Cn:=aB ID 4 5
def Co:FS :=
  (cU (bS (aR (fA Cn (fV 3 (fV 5 (af (f2 cI (fA gt (fV 0 (af (f2 dm (fI 20) (f2 cI (f2 dm (aj 5) (aj 7)) (fI 9))) ai))) (fI 20)) (fV 1 ai))))))) (aE (fC (.bl false))) aQ)
def Cp:FS :=
  (a0 (aS 6 (f2 bv (f2 bv (f2 bv (aj 2) (aj 5)) (fI 1)) (fI 3)))
  (a0 (cU (eE (aR (f2 Dh (aj 6) (fA cR (fV 2 ai)))) (aR (f2 yM (f2 bv (f2 bv (f2 bv (aj 2) (aj 6)) (fI 1)) (fI 0)) (fA aO (af (fS "paper") (af (fS "like") (af (fS "copy") ai))))))) (cU (eE (aR (f2 mB (fA gQ (fV 3 (af (fI 9999) (fV 5 ai)))) (fA gQ (fV 3 (af (fI 9999) (fV 6 ai)))))) (aR (f2 dA (f2 bv (fA gQ (fV 3 (af (fI 9999) (fV 6 ai)))) (fI 0)) (fS "words")))) (aE (fC (.bl false))) aQ) aQ)
  (nv (ib (fI 2)) (dh 7) Co)))
def Nm:FS :=
  (a0 (aS 1 (fA p7 (af (fA gt (fV 0 (af (fI 0) ai))) ai)))
  (a0 (aS 2 (fA sX (fV 0 (fV 1 ai))))
  (a0 (aS 3 (fA gP (af (fA xV (fV 2 ai)) ai)))
  (a0 (aS 4 (bP (ib (fA cR (fV 2 ai))) 1 [2] (dh 0) (aR (f2 dA (f2 bv (f2 bv (f2 bv (aj 1) (aj 0)) (fI 1)) (fI 0)) (fS "copy"))) (aj 0)))
  (a0 (RL [4] (nu (bM (f2 dm (pV (aj 4) fz (eF (fI 2))) (pV (aj 4) (eF (f1 zr (fI 4))) fz))) (dh 5) Cp))
  (aE (fC (.bl true))))))))
def F_law:=aB Nm 1 7
end Lw
namespace DL
open PySem L2
theorem iY:∀(n m:Nat)(d:D),n<=m->bc n d=true->bc m d=true
 |n,m,.non,_,_=>by simp
 |n,m,.bl _,_,_=>by simp
 |n,m,.int _,_,_=>by simp
 |n,m,.str _,_,_=>by simp
 |n,m,.ty _,_,h=>by cases n<;>simp  at h
 |n,m,.dk _ _,_,h=>by simp at h
 |n,m,.dt _ _,_,h=>by simp at h
 |0,m,.tup _,_,h=>by simp  at h
 |0,m,.lst _,_,h=>by simp  at h
 |n+1,0,_,h,_=>by lia
 |n+1,m+1,.tup ds,hl,h=>by
  simp  [bc,all_eq_true]at h |-;exact λd hd=>iY n m d N9 (h d hd)
 |n+1,m+1,.lst ds,hl,h=>by
  simp  [bc,all_eq_true]at h |-;exact λd hd=>iY n m d N9 (h d hd)
theorem pC:∀(ds:LD),(∀d∈ds,fy d d=true)->kM ds ds=true
 |[],_=>by simp  [kM]
 |d::ds,h=>by
  simp  [kM,h d mX];exact pC ds λe he=>h e (mZ _ he)
theorem o5:∀(n:Nat)(d:D),bc n d=true->fy d d=true
 |n,.non,_=>by simp
 |n,.bl _,_=>by simp
 |n,.int _,_=>by simp
 |n,.str _,_=>by simp
 |n,.ty _,h=>by cases n<;>simp  at h
 |n,.dk _ _,h=>by simp at h
 |n,.dt _ _,h=>by simp at h
 |0,.tup _,h=>by simp  at h
 |0,.lst _,h=>by simp  at h
 |n+1,.tup ds,h=>by
  simp  [bc,all_eq_true]at h;exact pC ds λd hd=>o5 n d (h d hd)
 |n+1,.lst ds,h=>by
  simp  [bc,all_eq_true]at h;exact pC ds λd hd=>o5 n d (h d hd)
end DL
namespace DL
@[simp] noncomputable abbrev sF (d:D):OB:=some (d,false)
@[simp] noncomputable abbrev lT (ds:LD):OB:=some (.lst ds,true)
@[simp] noncomputable abbrev sI (x:Int):OB:=some (.int x,false)
@[simp] noncomputable abbrev sS (x:PySem.Str):OB:=some (.str x,false)
@[simp] noncomputable abbrev sT (x:LD):OB:=some (.tup x,false)
@[simp] noncomputable abbrev sL (x:LD):OB:=some (.lst x,false)
@[simp] noncomputable abbrev sO (x:Bool):OB:=some (.bl x,false)
def cY {r:OB}{d:D}{b:Bool}(h:T4 r d b=true:=by decide +kernel):r=some (d,b):=yq h
def j5 {p q:Prop}[Decidable p](h:p)(n:decide p=false:=by decide +kernel):q:=absurd h (of_decide_eq_false n)
end DL
namespace Lw
open PySem DL L2
def A2 (d:D)(r:LD):oH (d::r) 0=some d:=by have:=lf (xs:=d::r) (j:=0) X9;simpa using this
def yN (d e:D)(r:LD):oH (d::e::r) 1=some e:=by have:=lf (xs:=d::e::r) (j:=1) X9;simpa using this
def UE (d e f:D)(r:LD):oH (d::e::f::r) 2=some f:=by have:=lf (xs:=d::e::f::r) (j:=2) X9;simpa using this
noncomputable def dw (k:Str):Bool:=decide (k = "death") || decide (k = "lost") || decide (k = "found")
noncomputable def fE (k:Str):Bool:=decide (k = "chosen") || decide (k = "heir") || decide (k = "leave") || decide (k = "paper") || decide (k = "like") || decide (k = "copy") || decide (k = "call")
structure DeedP (kind:Str)(rest:List D):Prop where
 flat:bB rest=true
 plain:rest.all (bc 5)=true
 three:dw kind=true->∃(day:Int)(p:Str),rest=[.int day,.str p]
 slg:fE kind=true->∃(day:Int)(p:Str)(r:List D),rest=.int day::.str p::r
noncomputable def row (h:Int)(kind:Str)(rest:LD):D:=.tup [.int h,.tup (.str kind::rest)]
def pD (r:D):Prop:=∃h kind rest,r=row h kind rest/\DeedP kind rest
def pD.flat (h:pD r):bf r=true:=by obtain⟨a,k,rest,rfl,dp⟩:=h;simp[row,dp.flat]
def pD.plain (h:pD r):bc 39 r=true:=by
 obtain⟨a,k,rest,rfl,dp⟩:=h;refine iY 7 39 _ Z9 ?_;have:=dp.plain;simp_all[row]
theorem cm (h:∀d∈ds,bf d=true):bB ds=true:=by
 induction ds with
 |nil=>rfl
 |cons d r G=>simp_all
def cz (zs:LS):bB (zs.map D.str)=true:=by
 induction zs with
 |nil=>rfl
 |cons a l G=>simp[G]
noncomputable def aZ:D->Int
 |.tup (.int h::_)=>h
 |_=>0
noncomputable def kindOf:D->Str
 |.tup [_,.tup (.str k::_)]=>k
 |_=>("" : Str)
noncomputable def b9:D->Int
 |.tup [_,.tup (_::.int d::_)]=>d
 |_=>0
noncomputable def Eb (p:Str)(day:Int):LD->Bool
 |[.int d,.str q]=>decide (q=p) && decide (d<=day)
 |_=>false
def told (G:LS)(p:Str)(day:Int):D->Bool
 |.tup [_,.tup (.str kind::rest)]=>decide (kind∈G) && Eb p day rest
 |_=>false
def bV (h:Int)(kind:Str)(rest:LD):a9 [row h kind rest]=sS kind:=aq rr (ax (by simp[row,yN,A2]))
def lA (h:dw k=true):k = "death" \/ k = "lost" \/ k = "found":=by
 unfold dw at h;lia
def mR (h:fE k=true):k = "chosen" \/ k = "heir" \/ k = "leave" \/ k = "paper" \/ k = "like" \/ k = "copy" \/ k = "call":=by
 unfold fE at h;lia
def LJ (h:dw k=true\/fE k=true):mK cb (.str k) (.str "day")=sI 0:=by
 rcases h with h|h
 .rcases lA h with rfl|rfl|rfl<;>exact cY
 .rcases mR h with rfl|rfl|rfl|rfl|rfl|rfl|rfl<;>exact cY
def Cq (h:dw k=true):mK cb (.str k) (.str "person")=sI 1:=by
 rcases lA h with rfl|rfl|rfl<;>exact cY
def IE (h:dw k=true\/fE k=true):dA (.str k) (.str "root")=sO false:=by
 rcases h with h|h
 .rcases lA h with rfl|rfl|rfl<;>exact cY
 .rcases mR h with rfl|rfl|rfl|rfl|rfl|rfl|rfl<;>exact cY
def b7 {h:Int}{k:Str}{rest:LD}{part:Str}{i:Nat}{d:D}(hi:mK cb (.str k) (.str part)=sI i)(hd:rest[i]? = some d):au [row h k rest,.str part]=some (d,false):=by
 refine aq rr (ax ?_);refine bq (.tup (.str k::rest)) (.int (1+i)) (by simp[row,yN]) (bq _ _ rr (bq _ _ (aG _ rr (bV _ _ _)) rr hi) X9) ?_;have G :=(vV hd).1;have:oH (.str k::rest) (1+(i:Int))=some d:=by
  have:=lf (xs:=(.str k:D)::rest) (j:=i+1) I9;grind
 simp[this]
def jO {h:Int}{k:Str}{rest:LD}{d:Int}{r:LD}(hk:dw k=true\/fE k=true)(G:rest=.int d::r):aV [row h k rest]=sI d:=by
 subst G;refine aq rr (a8 (dH (bq _ _ (aG _ rr (bV _ _ _)) rr (IE hk))) (ax (aG _ rr (b7  (LJ hk) rr))))
def o6 (k:Str)(G:LS):GX (.str k) (G.map .str)=decide (k∈G):=by
 induction G with
 |nil=>simp[GX]
 |cons w G M=>
  grind[GX,zk]
def lX (G:LS):(G.map D.str).all jB=true:=by
 simp
def jP (k:Str)(G:LS):yM (.str k) (.tup (G.map .str))=sO (decide (k∈G)):=by
 simp only[yM,iu,vJ,o6];rw[if_pos ⟨rr,lX G⟩]
def IF (O:pD r)(G:LS)(hw:∀w∈G,dw w=true)(p:Str)(day:Int):qX [r,.tup (G.map .str),.str p,.int day]=sO (told G p day r):=by
 obtain⟨h,kind,rest,rfl,dp⟩:=O;have M:f2 _ (fA _ (fV 0 ai)) (aj 1) [some (row h kind rest,false),sF _,sS p,sI day]=sF _ :=
  bq _ _ (aG _ rr (bV _ _ _)) rr (jP _ G)
 have T:told G p day (row h kind _)=(decide _ && Eb p _ rest):=rr;refine aq rr (ax (cL  M λhk=>?_));have h3:=hw _ (Vh hk);obtain⟨d,q,rfl⟩:=dp.three h3;refine cL (b1:=false) ?_ λ_=>?_
 .exact bq _ _ (aG _ rr (b7  (Cq h3) rr)) rr X9
 .exact bq _ _ (aG _ rr (jO (.inl h3) rr)) rr X9
def IG (ds:LD):wc ds=ds.zipIdx.map λx=>.tup [.int x.2,x.1]:=by
 unfold wc;apply ext_getElem?;intro i;simp;cases ds[i]?<;>simp
noncomputable def av (aa:LD)(ae:Int):List (D×Nat):=aa.zipIdx.filter λx=>decide (aZ x.1<=ae)
def lB (aa:LD)(G:∀r∈aa,pD r)(hl:aa.length<=1000)(ae:Int):dP [.tup aa,.int ae]=lT ((av aa ae).map λx=>.int x.2):=by
 have hc:=gb (fi:=Hr (aj 0)) (nT:=2) (cap:=[1]) (tg:=Dm [0,1]) (c:=aR (f2 qR (cF 1 0) (aj 2))) (fe:=aj 0) (ρ:=[sT aa,sI ae]) aa.zipIdx (λx=>.tup [.int x.2,x.1]) (λx=>decide (aZ x.1<=ae)) (λx=>.int x.2)
  (by simp[IG]) I9 λx hx=>by
   obtain⟨h,kind,rest,e,_⟩:=G _ (List.fst_mem_of_mem_zipIdx hx);refine⟨_,rr,dH ?_,λ_=>⟨false,by simp[dL]⟩⟩;simp[dL,e,row,A2,aZ]
 exact aq rr (ax hc)
def qL (aa:LD)(ae:Int)(G:LS)(p:Str)(day:Int):List (D×Nat):=(av aa ae).filter λx=>told G p day x.1
def Ec (h:x∈qL aa ae G p day):aa[x.2]? = some x.1/\told G p day x.1=true:=by
 obtain⟨h1,h2⟩:=vN h;exact⟨(List.mk_mem_zipIdx_iff_getElem?  ).mp (vN h1).1,h2⟩
def bx {aa:LD}{i:Nat}{r:D}(h:aa[i]? = some r):oH aa (i:Int)=some r:=by
 obtain⟨G,e⟩:=vV h;rw[lf G,e]
def LL (aa:LD)(ae:Int)(G:LS)(p:Str)(day:Int):(qL aa ae G p day).length<=aa.length:=by
 have h1:=vM (λx=>told G p day x.1) (av aa ae);have h2:=vM (λx=>decide (aZ x.1<=ae)) aa.zipIdx;rw[length_zipIdx]at h2;exact vR h1 h2
def yu (aa:LD)(M:∀r∈aa,pD r)(hl:aa.length<=1000)(ae:Int)(G:LS)(hw:∀w∈G,dw w=true)(p:Str)(day:Int):
  iG [.tup aa,.int ae,.tup (G.map .str),.str p,.int day]=lT ((qL aa ae G p day).map λx=>.int x.2):=by
 have hc:=gb (fi:=bM _) (nT:=1) (cap:=[2,3,4,0]) (tg:=dh 0) (c:=aR (fA qX (af (f2 bv (aj 4) (aj 0)) (fV 1 (fV 2 (fV 3 ai)))))) (fe:=aj 0)
  (ρ:=[sT aa,sF _,sT (G.map .str),sS p,sI day]) (av aa ae) _ _ (λx=>.int x.2)
  (by
   show(fA dP (fV 0 (fV 1 ai)) _).bind _=_;rw[aG _ rr (lB aa M hl ae)];rfl) (by have:=vM (λx:D×Nat=>decide (aZ x.1<=ae)) aa.zipIdx;rw[length_zipIdx]at this;exact vR this N9) λx hx=>by
   have O :=(List.mk_mem_zipIdx_iff_getElem? (x:=x.1) (i:=x.2)).mp (vN hx).1;refine⟨_,rr,dH (aG _ ?_ (IF (M _ (vL O)) G hw p day)),λ_=>⟨false,by simp[dL]⟩⟩;have ha:=bx O;simp[dL,ha]
 exact aq rr (ax hc)
def kA (x:D×Nat):List At:=[.i (b9 x.1),.i x.2]
def cZ (a b:D×Nat):Bool:=decide (b9 a.1<b9 b.1\/(b9 a.1=b9 b.1/\(a.2:Int)<b.2))
def iZ:D×Nat->List (D×Nat)->D×Nat
 |b,[]=>b
 |b,x::r=>if cZ b x=true then iZ x r else iZ b r
def RY:List (D×Nat)->Option (D×Nat)
 |[]=>none
 |x::r=>some (iZ x r)
def Ps (a b c d:Int):b8 [.i a,.i b] [.i c,.i d]=some (decide (a<c\/(a=c/\b<d))):=by
 rw[b8];by_cases h:a=c
 .simp_all[b8]
 simp_all
def Cr (a b:D×Nat):b8 (kA a) (kA b)=some (cZ a b):=Ps _ _ _ _
def yv (l:List (D×Nat)):dJ (l.map kA)=true:=by
 simp_all[dJ,Cr]
theorem pF:∀(r:List (D×Nat))(b:D×Nat),qc (kA b,.int b.2) (r.map λx=>(kA x,D.int x.2))=.int (iZ b r).2
 |[],b=>rr
 |x::r,b=>by
  rw[uX,qc,iZ];rw[Cr];by_cases h:cZ b x=true
  .rw[if_pos h,if_pos (by rw[h])];exact pF r x
  .rw[if_neg h,if_neg (by simpa using h)];exact pF r b
theorem tM:∀(r:List (D×Nat))(b:D×Nat),iZ b r∈b::r
 |[],b=>by simp[iZ]
 |x::r,b=>by
  rw[iZ];split
  .exact mZ _ (tM r x)
  .rcases vP (tM r b)with h|h
   .rw[h];exact mX
   simp_all
theorem ja {α:Type}{f:D->Option D}{g h:α->D}:∀(l:List α),(∀x∈l,f (g x)=some (h x))->kZ f (l.map g)=some (l.map h)
 |[],_=>rr
 |x::l,hx=>by
  rw[uX,kZ,hx x mX,ja l λy hy=>hx y (mZ _ hy)];rfl
theorem iI {α:Type}{g:α->D}{h:α->List At}:∀(l:List α),(∀x∈l,pq (g x)=some (h x))->fJ (l.map g)=some (l.map h)
 |[],_=>rr
 |x::l,hx=>by
  rw[uX,fJ,hx x mX,iI l λy hy=>hx y (mZ _ hy)];rfl
noncomputable def tN:LS:=[("lost" : Str),"found"]
def qy:∀w∈tN,dw w=true:=by
 intro w hw;rcases vP hw with rfl|hw
 .decide +kernel
 .rcases vP hw with rfl|hw
  .decide +kernel
  simp_all
def Ed (aa:LD)(ae:Int)(p:Str)(day:Int):Bool:=match RY (qL aa ae tN p day) with
 |none=>true
 |some b=>decide (kindOf b.1 = "found")
def tO (hw:∀w∈T,dw w=true)(M:pD r)(O:told T p day r=true):∃h k d,r=row h k [.int d,.str p]/\dw k=true/\k∈T/\d<=day:=by
 obtain⟨h,kind,rest,rfl,dp⟩:=M;have G:(decide _ && Eb p _ _)=true:=O;rw[vB]at G;have hm:=Vh G.1;obtain⟨d,q,rfl⟩:=dp.three (hw _ hm);have hq:(decide _ && decide _)=true:=G.2;rw[vB]at hq;have:=Vh hq.1;subst this;exact⟨h,kind,d,rr,hw _ hm,hm,Vh hq.2⟩
def Ee {aa:LD}{i:Nat}{h d:Int}{k p:Str}(G:aa[i]? = some (row h k [.int d,.str p]))(h3:dw k=true):fX [.tup aa,.int i]=sT [.int d,.int i]:=by
 have ha:=bx G;refine aq rr (ax (aG _ (aN   (aG [row h k [.int d,.str p]] (by simp[ha]) (jO (.inl h3) rr)) rr) s9))
def LM (aa:LD)(a:∀r∈aa,pD r)(hl:aa.length<=1000)(ae:Int)(p:Str)(day:Int):mO [.tup aa,.int ae,.str p,.int day]=sO (Ed aa ae p day):=by
 have c:=yu aa a hl ae tN qy p day;have U:=LL aa ae tN p day;have M:∀x∈qL aa ae tN p day,∃h k d,aa[x.2]? = some (row h k [.int d,.str p])/\x.1=row h k [.int d,.str p]/\dw k=true:=λx hx=>by
  obtain⟨O,g⟩:=Ec hx;obtain⟨h,k,d,e,h3,_⟩:=tO qy (a _ (vL O)) g;exact⟨h,k,d,by rw[O,e],e,h3⟩
 unfold Ed;generalize f:qL aa ae tN p day=sel at c M U |-;have G:fA iG (fV 0 (fV 1 (af (fA aO (af (fS "lost") (af (fS "found") ai))) (fV 2 (fV 3 ai))))) [sT aa,sI ae,sS p,sI day,none]=lT (sel.map λx=>.int x.2) :=
  aG _ (by simp[tN,sizeLine]) c
 have T:bB (sel.map λx=>D.int x.2)=true:=cm λd hd=>by obtain⟨x,_,rfl⟩:=vO hd;rfl
 cases sel with
 |nil=>exact aq rr (c8 G T (bC (dH X9) (ax rr)))
 |cons x r=>
  refine aq rr (c8 G T (a8 (dH I9) (ax ?_)));obtain⟨h,k,d,O,e,h3⟩:=M (iZ x r) (tM r x);have hb:kindOf (iZ x r).1=k:=by rw[e];rfl
  show _=some (D.bl (decide _),false);rw[hb];refine bq (.str k) (.str "found") (aG [row h k [.int d,.str p]] (aN (d:=row h k [.int d,.str p]) (b:=false) (bq (.tup aa) (.int (iZ x r).2) rr ?_ (by simp[bx O])) rr) (bV _ _ _)) rr X9;have hm:∀ρ:DL.Env,ρ[0]? = some (sT aa)->kZ (uQ [0] (fA fX (fV 1 (fV 0 ai))) ρ) ((x::r).map λx=>D.int x.2)=some ((x::r).map λx=>.tup [.int (b9 x.1),.int x.2]):=λρ h0=>
   ja (x::r) λy hy=>by
    obtain⟨h,k,d,O,e,h3⟩:=M y hy;have hd:b9 y.1=d:=by rw[e];rfl
    rw[hd];show(fA fX _ _).map _=_;rw[aG [.tup aa,.int y.2] (by simp[dL,h0]) (Ee O h3)];rfl
  have hk:fJ ((x::r).map λx=>D.tup [.int (b9 x.1),.int x.2])=some ((x::r).map kA):=iI (x::r) λy _=>rr;have hz:((x::r).map kA).zip ((x::r).map λx=>D.int x.2)=(kA x,.int x.2)::r.map λx=>(kA x,D.int x.2):=by
   rw[zip_map'];rfl
  unfold Ag OY;show((some _).bind _)=_;simp only[vJ];rw[hm _ rr];simp only[vJ];rw[hk];simp only[vJ];rw[if_pos (yv _),hz];simp only[pF]
noncomputable def jb:LS:=[("death" : Str)]
def ko:∀w∈jb,dw w=true:=by
 intro w hw;rcases vP hw with rfl|hw
 .decide +kernel
 simp_all
def yw (aa:LD)(ae:Int)(p:Str)(day:Int):Bool:=(qL aa ae jb p day).isEmpty
def IH (aa:LD)(M:∀r∈aa,pD r)(hl:aa.length<=1000)(ae:Int)(p:Str)(day:Int):qY [.tup aa,.int ae,.str p,.int day]=sO (yw aa ae p day):=by
 have G:=yu _ M hl ae _ ko p day;unfold yw;generalize qL _ _ _ p _=O at G |-;refine aq rr (ax (bq (.int ((O.map λx=>D.int x.2).length:Nat)) _ ?_ rr ?_))
 .exact aG _ (aN   (aG _ (by simp[sizeLine,jb]) G) rr) lV
 .cases O<;>simp
  lia
noncomputable def fL:D->Str
 |.tup [_,.tup (_::_::.str p::_)]=>p
 |_=>("" : Str)
noncomputable def A3:LS:=[("chosen" : Str),"heir","leave","paper","like","copy","call"]
theorem tP (k:Str):fE k=decide (k∈A3):=by
 simp_all[fE,A3,Bool.or_assoc]
def Cs:iR=.tup (A3.map .str):=rfl
def lC (k:Str)(G:LS):dZ (.str k) (.tup (G.map .str))=sO (!decide (k∈G)):=by
 simp only[dZ,iu,vJ,o6];rw[if_pos ⟨rr,lX G⟩]
def II (h:fE k=true):mK cb (.str k) (.str "by")=sI 1:=by
 rcases mR h with rfl|rfl|rfl|rfl|rfl|rfl|rfl<;>exact cY
def lD (aa:LD)(ae:Int)(r:D):Bool:=(decide (aZ r<=ae) && fE (kindOf r)) && (yw aa ae (fL r) (b9 r) && Ed aa ae (fL r) (b9 r))
def lE {aa:LD}{i:Nat}{h:Int}{kind:Str}{rest:LD}(G:aa[i]? = some (row h kind rest))(ae:Int):cM [.tup aa,.int ae,.int i]=sO (decide (h<=ae)):=by
 have M :=(vV G).1;have ha:=bx G;refine aq rr (ax ?_);have:=cL (f1:=hV qR Dh (fI 0) (aj 2) (fA cR (fV 0 ai))) (f2:=f2 qR (f2 bv (f2 bv (aj 0) (aj 2)) (fI 0)) (aj 1)) (ρ:=[sT aa,sI ae,sI i])  (q:=decide (h<=ae))
  (by
   refine(jJ   (z:=.int aa.length)   (b3:=false) (b4:=false) (p:=true) (q:=true) rr rr X9 X9 λ_=>?_).trans rr;simp;lia) λ_=>by simp[ha,row,A2]
 exact this
def tQ (aa:LD)(O:∀r∈aa,pD r)(hl:aa.length<=1000)(ae:Int){i:Nat}{r:D}(T:aa[i]? = some r):eU [.tup aa,.int ae,.int i]=sO (lD aa ae r):=by
 obtain⟨h,kind,rest,rfl,dp⟩:=O r (vL T);have hk:=lE T ae;have ha:=bx T;have M:∀(ρ:DL.Env),f2 bv (aj 0) (aj 2) ρ=some (row h kind rest,false)->fA a9 (af _ ai) ρ=sS kind:=λρ e=>aG [row h kind rest] (aN e rr) (bV _ _ _);have G:f2 bv (aj 0) (aj 2) [sT aa,sI ae,sI i,none,none]=some (row h kind rest,false):=by simp[ha]
 have hc:(dz (bS (aR (fA cM (fV 0 (fV 1 (fV 2 ai)))))) (aR (f2 dZ (fA a9 (af (f2 bv (aj 0) (aj 2)) ai)) (fC iR)))) [sT aa,sI ae,sI i,none,none]=some (!decide (h<=ae) || !fE kind):=by
  refine ci (bF (dH (aG _ rr hk))) λ_=>dH (bq (.str kind) iR (M _ G) rr ?_);rw[Cs,tP];exact lC kind A3
 have hs:lD aa ae (row h kind rest)=((decide (h<=ae) && fE kind) && (yw aa ae (fL (row h kind rest)) (b9 (row h kind rest)) && Ed aa ae (fL (row h kind rest)) (b9 (row h kind rest)))):=rr;cases hb:(decide (h<=ae) && fE kind) with
 |false=>
  rw[hs,hb];refine aq rr (bC (hc.trans ?_) (ax rr));rw[<-Bool.not_and,hb];rfl
 |true=>
  rw[hs,hb];rw[vB]at hb;obtain⟨day,p,U,rfl⟩:=dp.slg hb.2;rw[Bool.true_and];refine aq rr (a8 (hc.trans (by rw[hb.1,hb.2];rfl)) (hU (.str p) (aG _ (aN G rr) (b7 (i:=1) (II hb.2) rr)) rr (hU (.int day) (aG [row h kind (.int day::.str p::U)] (aN  (b:=false) (by simp[ha]) rr) (jO (.inr hb.2) rr)) rr (ax ?_))));exact cL (b1:=false) (aG _ X9 (IH aa O hl ae p day)) λ_=>aG _ X9 (LM aa O hl ae p day)
inductive Cd:Str->List D->Prop
 |root (o r:Str) (m f:Int):Cd ("root" : Str) [.str o,.int m,.int f,.str r]
 |named (d:Int) (o p:Str):Cd ("named" : Str) [.int d,.str o,.str p]
 |three (k:Str) (hk:k = "death" \/ k = "lost" \/ k = "found") (d:Int) (p:Str):Cd k [.int d,.str p]
 |other (k:Str) (hk:k = "leave" \/ k = "paper" \/ k = "like" \/ k = "copy" \/ k = "call") (d:Int) (b:Str) (r:List D) (hf:bB r=true) (hp:r.all (bc 5)=true):Cd k (.int d::.str b::r)
def Cd.deed (h:Cd k r):DeedP k r:=by
 cases h with
 |root o rl m f=>exact⟨rr,X9,λh=>j5 h,λh=>j5 h⟩
 |named d o p=>exact⟨rr,X9,λh=>j5 h,λh=>j5 h⟩
 |three k hk d p=>exact⟨rr,X9,λ_=>⟨d,p,rr⟩,λh=>by lia⟩
 |other k hk d b r hf hp=>exact⟨by simp[hf],by simp_all,λh=>by rcases hk with rfl|rfl|rfl|rfl|rfl<;>exact j5 h,λ_=>⟨d,b,r,rr⟩⟩
def yx (r:D):Prop:=∃h k rest,r=row h k rest/\Cd k rest
def yx.rp (h:yx r):pD r:=by obtain⟨a,k,rest,rfl,d⟩:=h;exact⟨a,k,rest,rr,d.deed⟩
def bj (r:D):Bool:=decide (kindOf r = "root")
def Cd.day (h:Cd k r)(hk:k ≠ "root"):∃d q,r=.int d::q:=by
 cases h with
 |root=>exact absurd rr hk
 |named d=>exact⟨d,_,rr⟩
 |three _ _ d=>exact⟨d,_,rr⟩
 |other _ _ d=>exact⟨d,_,rr⟩
def Cd.day_idx (h:Cd k r)(hk:k ≠ "root"):mK cb (.str k) (.str "day")=sI 0:=by
 cases h with
 |root=>exact absurd rr hk
 |named=>exact cY
 |three _ hh=>rcases hh with rfl|rfl|rfl<;>exact cY
 |other _ hh=>rcases hh with rfl|rfl|rfl|rfl|rfl<;>exact cY
def cn (e:f ρ=some (.str a,bb))(h:decide (a=b)=x):aR (f2 dA f (fS b)) ρ=some x:=by simp_all
def yy (r:D):D:=if bj r=true then .non else .int (b9 r)
def jc (g:yx r):a9 [r]=sS (kindOf r):=by
 obtain⟨h,k,rest,rfl,_⟩:=g;exact bV h k _
def wS (g:yx r):aV [r]=some (yy r,false):=by
 obtain⟨h,k,rest,rfl,d⟩:=g;unfold yy;by_cases hk:k = "root"
 .have:bj (row h k rest)=true:=pP hk;rw[if_pos this];exact aq rr (bC (cn   (aG _ rr (bV _ _ _)) (pP hk)) (ax rr))
 .have:bj (row h k rest)=false:=TK hk;rw[if_neg (by rw[this];decide)];obtain⟨dd,q,rfl⟩:=d.day hk;exact aq rr (a8 (cn   (aG _ rr (bV _ _ _)) (TK hk)) (ax (aG _ rr (b7  (d.day_idx hk) rr))))
def hG (aa:LD):Prop:=aa.length<=60/\∀r∈aa,yx r
def hG.rp (g:hG aa):∀r∈aa,pD r:=λr G=>(g.2 r G).rp
def hG.le (g:hG aa):aa.length<=1000:=vR g.1 Z9
def bd (h:x∈av aa ae):aa[x.2]? = some x.1:=by
 obtain⟨h1,_⟩:=vN h;exact List.mem_zipIdx_iff_getElem?.mp h1
theorem cD (aa:LD)(ae:Int):(av aa ae).length<=aa.length:=by
 have:=vM (λx=>decide (aZ x.1<=ae)) aa.zipIdx;rw[length_zipIdx]at this;exact this
def fm (aa:LD)(ae:Int):((av aa ae).map (·.2)).Nodup:=by
 have h1:(aa.zipIdx.map (·.2)).Nodup:=by simp_all[List.nodup_range']
 exact List.Nodup.sublist (List.Sublist.map _ (filter_sublist)) h1
def eA (aa:LD)(ae:Int):List (D×Nat):=(av aa ae).filter λx=>!bj x.1
def RZ (aa:LD)(ae:Int):List (D×Nat):=eO (λx=>cK (kA x)) (eA aa ae)
def IJ (h:cK (kA a)=cK (kA b)):a.2=b.2:=by
 injection h with _ h;injection h with h;lia
def Ef (ha:a∈av aa ae)(hb:b∈av aa ae)(h:a.2=b.2):a=b:=by
 have h1:=bd ha;have h2:=bd hb;rw[h,h2]at h1;exact Prod.ext (vK h1).symm h
def qz (g:hG aa)(ae:Int):eQ [.tup aa,.int ae]=lT ((RZ aa ae).map λx=>.int x.2):=by
 have hl:=g.1;have l:=cD aa ae;have M:∀x∈av aa ae,oH aa (x.2:Int)=some x.1/\yx x.1:=λx hx=>⟨bx (bd hx),g.2 _ (vL (bd hx))⟩;have hc:=gb (fi:=bM (fA dP (fV 0 (fV 1 ai)))) (nT:=1) (cap:=[0]) (tg:=dh 0) (c:=aR (f2 jT (fA aV (af (f2 bv (aj 1) (aj 0)) ai)) (fC .non))) (fe:=aj 0) (ρ:=[sT aa,sI ae,none]) (av aa ae) (λx=>.int x.2) (λx=>!bj x.1) (λx=>.int x.2)
  (by
   show(fA dP (fV 0 (fV 1 ai)) _).bind _=_;rw[aG [.tup aa,.int ae] rr (lB aa g.rp g.le ae)];rfl) N9 λx hx=>by
   obtain⟨ha,T⟩:=M x hx;refine⟨_,rr,dH (bq (yy x.1) .non (aG [x.1] (by simp[dL,ha]) (wS T)) rr ?_),λ_=>⟨false,by simp[dL]⟩⟩;unfold yy;cases bj x.1<;>simp[GW]
 have U :=hc;have i:bB ((eA aa ae).map λx=>D.int x.2)=true:=cm λd hd=>by obtain⟨x,_,rfl⟩:=vO hd;rfl
 have m:(eA aa ae).length<=60:=vR (vM _ _) N9;have G:∀x∈eA aa ae,x∈av aa ae/\bj x.1=false:=λx hx=>by
  obtain⟨h1,h2⟩:=vN hx;exact⟨h1,by simpa using h2⟩
 have hm:∀ρ:DL.Env,ρ[0]? = some (sT aa)->kZ (uQ [0] (fA fX (fV 1 (fV 0 ai))) ρ) ((eA aa ae).map λx=>.int x.2)=some _:=λρ h0=>
  ja (eA aa ae) λx hx=>by
   obtain⟨h1,h2⟩:=G x hx;obtain⟨ha,T⟩:=M x h1;have hd:=wS T;unfold yy at hd;rw[h2,if_neg Z9]at hd;have j:fX [.tup aa,.int x.2]=sT [.int (b9 x.1),.int x.2]:=aq rr (ax (aG [.int (b9 x.1),.int x.2] (aN (d:=.int (b9 x.1)) (b:=false) (aG [x.1] (by simp[ha]) hd) rr) s9));show(fA fX _ _).map _=_;rw[aG [.tup aa,.int x.2] (by simp[dL,h0]) j];rfl
 have hk:fJ ((eA aa ae).map λx=>D.tup [.int (b9 x.1),.int x.2])=some ((eA aa ae).map kA):=iI _ λx _=>rr;have hz:((eA aa ae).map kA).zip ((eA aa ae).map λx=>D.int x.2)=(eA aa ae).map λx=>(kA x,D.int x.2):=by rw[zip_map']
 have k:((eA aa ae).map (·.2)).Nodup:=List.Nodup.sublist (List.Sublist.map _ (filter_sublist)) (fm aa ae);have O:((eA aa ae).map kA).length<64/\dJ ((eA aa ae).map kA)=true/\dW ((eA aa ae).map kA)=true/\(((eA aa ae).map kA).map cK).Nodup:=by
  refine⟨by rw[vI];lia,yv _,?_,?_⟩
  .unfold dW;rw[Bool.or_eq_true];left;simp[all_eq_true,kA]
  .rw[uO];exact List.Pairwise.map _ (λa b h e=>h (IJ e)) (pairwise_map.mp k)
 refine aq rr (c8 U i (ax ?_));show(sj (aj 2) _ _)=_;unfold sj;show((some (D.lst ((eA aa ae).map λx=>D.int x.2),false)).bind _)=_;simp only[vJ];rw[hm _ rr];simp only[vJ];rw[hk];simp only[vJ];rw[if_pos O];unfold jI;rw[hz];have f:((RZ aa ae).map λx=>(kA x,D.int x.2))=eO (λp:List At×D=>cK p.1) ((eA aa ae).map λx=>(kA x,D.int x.2)):=by
  refine jG _ (λx hx y hy e=>?_) ((aW _ _).map _) ?_
  .obtain⟨a,ha,rfl⟩:=vO hx;obtain⟨b,hb,rfl⟩:=vO hy;rw[Ef (G a ha).1 (G b hb).1 (IJ e)]
  .exact pairwise_map.mpr (eP _ _)
 rw[<-f,uO];rfl
structure Cl where
 o:Str
 p:Str
 s:Int
 u:Option Int
 n:Nat
noncomputable def uD:OI->D
 |none=>.non
 |some x=>.int x
def bH (c:Cl):D:=.tup [.str c.o,.str c.p,.int c.s,uD c.u,.int c.n]
def Eg (u:OI):bf (uD u)=true:=by cases u<;>rfl
theorem o7 (c:Cl):bf (bH c)=true:=by simp[bH,Eg]
def o8 (cs:List Cl):bB (cs.map bH)=true:=by grind[cm,o7]
noncomputable def jd (c:Cl)(day:Int):Bool:=decide (c.s<=day) && (match c.u with|none=>true|some x=>decide (day<x))
def T5 (d e f g:D)(r:LD):oH (d::e::f::g::r) 3=some g:=by have:=lf (xs:=d::e::f::g::r) (j:=3) X9;simpa using this
def XZ (d e f g h:D)(r:LD):oH (d::e::f::g::h::r) 4=some h:=by have:=lf (xs:=d::e::f::g::h::r) (j:=4) X9;simpa using this
def T6 (c:Cl):bv (bH c) (.int 0)=sS c.o:=by simp[bH,A2]
def Q2 (c:Cl):bv (bH c) (.int 1)=sS c.p:=by simp[bH,yN]
def Ww (c:Cl):bv (bH c) (.int 2)=sI c.s:=by simp[bH,UE]
def Ya (c:Cl):bv (bH c) (.int 3)=some (uD c.u,false):=by simp[bH,T5]
def Wx (c:Cl):bv (bH c) (.int 4)=sI c.n:=by simp[bH,XZ]
def bW (ds:LD)(h:ds.length<=100):aO ds=sT ds:=if_pos (dX N9)
def fF (ds:LD)(h:ds.length<=100):cx ds=lT ds:=if_pos (dX N9)
def yz (s day:Int)(u:OI):iH [.int day,.tup [.int s,uD u]]=sO (decide (s<=day) && (match u with|none=>true|some x=>decide (day<x))):=by
 refine aq rr (ax (cL (b1:=false) (by simp[A2]) λ_=>?_));cases u with
 |none=>rfl
 |some x=>rfl
def tR (c:Cl)(day:Int):eV [bH c,.int day]=sO (jd c day) :=
 aq rr (ax (aG _ (bD rr (bD (aG _ (aN (bq _ _ rr rr (Ww c)) (aN (bq _ _ rr rr (Ya c)) rr)) (bW _ X9)) rr)) (yz _ _ _)))
noncomputable def kS (c:Cl):List At:=[.i c.s,.i c.n]
def pG:Cl->List Cl->Cl
 |b,[]=>b
 |b,x::r=>if b8 (kS x) (kS b)=some true then pG x r else pG b r
def y0:Cl->List Cl->Cl
 |b,[]=>b
 |b,x::r=>if b8 (kS b) (kS x)=some true then y0 x r else y0 b r
theorem tS:∀(r:List Cl)(b:Cl),nM (kS b,bH b) (r.map λx=>(kS x,bH x))=bH (pG b r)
 |[],b=>rr
 |x::r,b=>by
  rw[uX,nM,pG];split
  .exact tS r x
  .exact tS r b
theorem tT:∀(r:List Cl)(b:Cl),qc (kS b,bH b) (r.map λx=>(kS x,bH x))=bH (y0 b r)
 |[],b=>rr
 |x::r,b=>by
  rw[uX,qc,y0];split
  .exact tT r x
  .exact tT r b
def Eh (cs:List Cl):dJ (cs.map kS)=true:=by
 simp_all[dJ,kS,Ps]
def tU (ρ:DL.Env)(cs:List Cl):kZ (yi fY ρ) (cs.map bH)=some (cs.map λc=>.tup [.int c.s,.int c.n]):=ja cs λc _=>by
 rfl
def q8 (cs:List Cl):fJ (cs.map λc=>D.tup [.int c.s,.int c.n])=some (cs.map kS):=iI cs λc _=>rr
def IK (e:f ρ=some (.lst ((b::r).map bH),bb)):wx f (yi fY) ρ=some (bH (pG b r),false):=by
 unfold wx OY;rw[e,vJ];dsimp;rw[tU,vJ,q8,vJ,if_pos (Eh _)];have:((b::r).map kS).zip ((b::r).map bH)=(kS b,bH b)::r.map λx=>(kS x,bH x):=by rw[zip_map'];rfl
 rw[this];show some _=_;rw[tS]
def Pt (e:f ρ=some (.lst ((b::r).map bH),bb)):Ag f (yi fY) ρ=some (bH (y0 b r),false):=by
 unfold Ag OY;rw[e,vJ];dsimp;rw[tU,vJ,q8,vJ,if_pos (Eh _)];have:((b::r).map kS).zip ((b::r).map bH)=(kS b,bH b)::r.map λx=>(kS x,bH x):=by rw[zip_map'];rfl
 rw[this];show some _=_;rw[tT]
def kq (rl:Str)(b:Cl)(r:List Cl):Cl:=if rl = "last" then y0 b r else pG b r
def IL (rl:Str)(b:Cl)(r:List Cl):mP [.lst ((b::r).map bH),.str rl]=sS (kq rl b r).p:=by
 unfold kq;by_cases h:rl = "last"
 .rw[if_pos h];exact aq rr (bC (cn   rr (pP h)) (ax (bq _ _ (Pt  rr) rr (Q2 _))))
 .rw[if_neg h];exact aq rr (a8 (cn   rr (TK h)) (ax (bq _ _ (IK  rr) rr (Q2 _))))
theorem tV:∀(r:List Cl)(b:Cl),pG b r∈b::r
 |[],b=>by simp[pG]
 |x::r,b=>by
  rw[pG];split
  .exact mZ _ (tV r x)
  .rcases vP (tV r b)with h|h
   .rw[h];exact mX
   .simp_all
theorem tW:∀(r:List Cl)(b:Cl),y0 b r∈b::r
 |[],b=>by simp[y0]
 |x::r,b=>by
  rw[y0];split
  .exact mZ _ (tW r x)
  .rcases vP (tW r b)with h|h
   .rw[h];exact mX
   .simp_all
def F8 (rl:Str)(b:Cl)(r:List Cl):kq rl b r∈b::r:=by
 grind[kq,tW,tV]
noncomputable def Sa (cs:List Cl)(o:Str)(day:Int):List Cl:=cs.filter λc=>decide (c.o=o) && jd c day
def pH (cs:List Cl):LS:=mu (gY (cs.map (·.p)))
def Sb:List Cl->Nat
 |[]=>0
 |b::r=>(pG b r).n
def q9 (rl:Str):List Cl->D
 |[]=>.tup [.str "none"]
 |b::r=>if 1<(pH (b::r)).length/\rl = "open" then .tup [.str "parted",.lst ((pH (b::r)).map .str)]
  else .tup [.str "one",.str (kq rl b r).p,.int (Sb ((b::r).filter λc=>decide (c.p=(kq rl b r).p)))]
def kI (cs:List Cl)(o rl:Str)(day:Int):D:=q9 rl (Sa cs o day)
def LO {z:Str}:gY (z::zs)≠[]:=by
 have:∀(ss:List _)(G:List _),z∈G->z∈ss.foldl kX G:=λss=>by
  induction ss with
  |nil=>intro G h;exact h
  |cons a l M=>intro G h;exact M _ (rN.mpr (.inl h))
 have h:=this zs (kX [] z) (rN.mpr (.inr rr));intro e;unfold gY at e;rw[foldl_cons]at e;rw[e]at h;cases h
def lF:au [row h ("root" : Str) [.str o,.int m,.int f,.str rl],.str "office"]=sS o:=b7 (i:=0) cY rr
def F9:au [row h ("root" : Str) [.str o,.int m,.int f,.str rl],.str "rule"]=sS rl:=b7 (i:=3) cY rr
def tX (zs:LS):gX (zs.map .str)=some zs:=by
 simp
def o9 (cs:List Cl)(hl:cs.length<=60)(day:Int):jo [.lst (cs.map bH),row h ("root" : Str) [.str o,.int m,.int f,.str rl],.int day]=some (kI cs o rl day,false):=by
 let rt:D:=row h ("root" : Str) [.str o,.int m,.int f,.str rl];have h1:=gb (fi:=bM (aj 0)) (nT:=1) (cap:=[2,1]) (tg:=dh 0) (c:=eE (aR (f2 dA (cF 0 0) (fA au (fV 2 (af (fS "office") ai))))) (aR (fA eV (fV 0 (fV 1 ai))))) (fe:=aj 0)
  (ρ:=[sL (cs.map bH),some (rt,false),sI day,none,none,none,none]) cs bH (λc=>decide (c.o=o) && jd c day) bH X9 N9 λc hc=>by
   refine⟨_,rr,cW (dH (bq (.str c.o) (.str o) (bq (bH c) (.int 0) (by simp[dL]) rr (T6 c)) (aG [rt,.str "office"] (by simp[dL]) lF) X9)) λ_=>dH (aG [bH c,.int day] (by simp[dL]) (tR c day)),λ_=>⟨false,by simp[dL]⟩⟩
 have T:bP (bM (aj 0)) 1 [2,1] (dh 0) _ (aj 0) _=lT ((Sa cs o day).map bH):=h1;have a:(Sa cs o day).length<=60:=vR (vM _ _) hl;unfold kI;generalize Sa cs o day=al at T a;have h2:∀ρ:DL.Env,ρ[3]? = some (lT (al.map bH))->f1 gZ (bP (bM (aj 3)) 1 [] (dh 0) gV (cF 0 1)) ρ=lT ((pH al).map .str):=λρ h3=>by
  have hc:=jK (fi:=bM (aj 3)) (nT:=1) (cap:=[]) (tg:=dh 0) (fe:=cF 0 1) (ρ:=ρ) al bH (λc=>.str c.p) (by simp[h3]) N9 λc hc=>⟨_,rr,false,bq (bH c) (.int 1) (by simp[dL]) rr (Q2 c)⟩;have e2:al.map (λc=>D.str c.p)=(al.map (·.p)).map .str:=by rw[uO];rfl
  rw[e2]at hc;unfold f1;rw[hc,vJ];show(gX ((al.map (·.p)).map .str)).bind _=_;rw[tX,vJ,if_pos (by rw[vI];lia)];rfl
 have g:bB ((pH al).map D.str)=true:=cz _;refine aq rr (c8 (ds:=al.map bH) T (o8 al) (c8 (ds:=(pH al).map .str) (h2 _ rr) g ?_));cases al with
 |nil=>rfl
 |cons b r=>
  have i:(pH (b::r)).length≠0:=by
   unfold pH;rw[(fQ _).length_eq];intro e;exact LO (List.length_eq_zero_iff.mp e)
  refine a8 (dH (by simp[i])) ?_;have G:∀ρ:DL.Env,ρ[1]? = some (some (rt,false))->fA au (fV 1 (af (fS "rule") ai)) ρ=sS rl:=λρ j=>aG [rt,.str "rule"] (by simp[j]) F9;by_cases hp:1<(pH (b::r)).length/\rl = "open"
  .have:q9 rl (b::r)=.tup [.str "parted",.lst ((pH (b::r)).map .str)]:=by rw[q9,if_pos hp]
   rw[this];exact bC (cW (p:=true) (q:=true) (dH I9) λ_=>cn (bb:=false) (G _ rr) (pP hp.2)) (ax (aG [.str "parted",.lst ((pH (b::r)).map .str)] X9 (bW _ X9)))
  .have:q9 rl (b::r)=.tup [.str "one",.str (kq rl b r).p,.int (Sb ((b::r).filter λc=>decide (c.p=(kq rl b r).p)))]:=by rw[q9,if_neg hp]
   rw[this];have M:eE (aR (f2 BB (fA cR (fV 4 ai)) (fI 1))) (aR (f2 dA (fA au (fV 1 (af (fS "rule") ai))) (fS "open"))) [sL (cs.map bH),some (rt,false),sI day,lT ((b::r).map bH),lT ((pH (b::r)).map .str),none,none]=some false:=by
    by_cases h5:1<(pH (b::r)).length
    .exact cW (p:=true) (q:=false) (dH I9) λ_=>cn (bb:=false) (G _ rr) (TK λe=>hp ⟨h5,e⟩)
    .exact cW (p:=false) (q:=false) (dH I9) X9
   have U:=F8 rl b r;let ch:=kq rl b r;have d:=gb (fi:=bM (aj 3)) (nT:=1) (cap:=[5]) (tg:=dh 0) (c:=aR (f2 dA (cF 0 1) (aj 1))) (fe:=aj 0) (ρ:=[sL (cs.map bH),some (rt,false),sI day,lT ((b::r).map bH),lT ((pH (b::r)).map .str),sS ch.p,none]) (b::r) bH (λc=>decide (c.p=ch.p)) bH X9 N9 λc hc=>⟨_,rr,dH (bq (.str c.p) (.str ch.p) (bq (bH c) (.int 1) (by simp[dL]) rr (Q2 c)) (by simp[dL]) X9),λ_=>⟨false,by simp[dL]⟩⟩;obtain⟨b2,O,hf⟩:∃b2 O,(b::r).filter (λc=>decide (c.p=ch.p))=b2::O:=by
    cases hq:(b::r).filter (λc=>decide (c.p=ch.p)) with
    |nil=>
     have:=List.filter_eq_nil_iff.mp hq _ U;simp[ch]at this
    |cons b2 O=>exact⟨b2,O,rr⟩
   rw[hf]at d |-;refine a8 M (hU (.str ch.p) (aG [.lst ((b::r).map bH),.str rl] (bD X9 (aN (G _ rr) rr)) (IL rl b r)) rr (hU (bH (pG b2 O)) (IK (bb:=true) d) (o7 _) (ax (aG [.str "one",.str ch.p,.int (pG b2 O).n] (bD rr (bD rr (aN (bq (bH (pG b2 O)) (.int 4) rr rr (Wx _)) rr))) (bW _ X9)))))
def Nn:D->D
 |.tup ds=>.tup (ia ds none (some 2))
 |d=>d
def kJ (cs:List Cl)(o rl p:Str)(day:Int):Bool:=fy (Nn (kI cs o rl day)) (.tup [.str "one",.str p])
def FC (rl:Str)(G:List Cl):∃ds,q9 rl G=.tup ds/\ds.all (bc 5)=true:=by
 cases G with
 |nil=>exact⟨_,rr,X9⟩
 |cons b r=>
  rw[q9];split
  .simp
  .exact⟨_,rr,X9⟩
def IM (h:ds.all (bc 5)=true):(ia ds lo hi).all (bc 5)=true:=by
 rw[all_eq_true]at h |-;exact λd hd=>h d (List.mem_of_mem_drop (mem_of_mem_take hd))
def wT (h:ds.all (bc 5)=true):bc 40 (.tup ds)=true:=iY 6 40 _ Z9 (by simpa only[bc]using h)
def Ei (cs:List Cl)(hl:cs.length<=60)(p:Str)(day:Int):dQ [.lst (cs.map bH),row h ("root" : Str) [.str o,.int m,.int f,.str rl],.str p,.int day]=sO (kJ cs o rl p day):=by
 have hb:=o9 cs hl (h:=h) (o:=o) (rl:=rl) (m:=m) (f:=f) day;obtain⟨ds,e,hd⟩:=FC rl _;have G:kI cs o rl day=.tup ds:=e;refine aq rr (ax (bq (Nn (kI cs o rl day)) (.tup [.str "one",.str p]) ?_ s9 ?_))
 .have hc:=aY  (fa:=fV 0 (fV 1 (fV 3 ai))) (ρ:=[sF _,some (row h _ _,false),sS p,sF _])  rr hb;rw[G]at hc |-;unfold pV;rw[show(List.map _ _++List.replicate 0 _:DL.Env)=[sF _,some _,sF _,sF _]from rr,hc];rfl
 .unfold kJ dA;rw[if_pos];rw[G];exact⟨wT (IM hd),wT X9⟩
noncomputable def bg (j:Nat):D->Str
 |.tup [_,.tup (_::rest)]=>match rest[j]? with
  |some (.str s)=>s
  |_=>("" : Str)
 |_=>("" : Str)
noncomputable def je (j:Nat):D->Int
 |.tup [_,.tup (_::rest)]=>match rest[j]? with
  |some (.int s)=>s
  |_=>0
 |_=>0
def Cd.root_of (h:Cd ("root" : Str) r):∃o rl,∃m f:Int,r=[.str o,.int m,.int f,.str rl]:=by
 generalize hk:("root" : Str)=k at h;cases h with
 |root o rl m f=>exact⟨o,rl,m,f,rr⟩
 |named=>exact j5 hk
 |three _ hh=>rcases hh with rfl|rfl|rfl<;>exact j5 hk
 |other _ hh=>rcases hh with rfl|rfl|rfl|rfl|rfl<;>exact j5 hk
def FD {κ α:Type}[DecidableEq κ]{ks:List κ}{k:κ}{x y:α}:∀ {xs:List α},y∈fK ks xs k x->y=x\/y∈xs:=by
 intro xs h;unfold fK at h;split at h
 .rename_i G;clear G;induction ks generalizing xs with
  |nil=>simp at h
  |cons a ks M=>
   cases xs with
   |nil=>simp at h
   |cons b xs=>
    grind[List.zipWith_cons_cons]
 .grind
theorem wU:∀(l:List (fG×D))(a:LK×LD)(y:D),y∈(l.foldl sq a).2->y∈a.2\/∃p∈l,p.2=y
 |[],a,y,h=>.inl h
 |p::l,a,y,h=>by
  rcases wU l _ y h with h|⟨q,hq,e⟩
  .rcases FD (show y∈fK _ _ _ _ from h)with h|h
   .exact .inr ⟨p,mX,h.symm⟩
   .exact .inl h
  .exact .inr ⟨q,mZ _ hq,e⟩
theorem wV {α:Type}(f:α->Str)(g:α->D):∀(l:List α),iP (l.map λx=>D.tup [.str (f x),g x])=some (l.map λx=>(.inr (f x),g x))
 |[]=>rr
 |x::l=>by
  rw[uX,iP,wV f g l];rfl
theorem A4 {κ:Type}[DecidableEq κ]:∀ {ks:List κ}{vs:LD}{k:κ}{v:D},fB ks vs k=some v->v∈vs
 |k'::ks,d::ds,k,v,h=>by
  unfold fB at h;split at h
  .cases h;exact mX
  .exact mZ _ (A4 h)
 |[],_,_,_,h=>by simp[fB]at h
 |_::_,[],_,_,h=>by simp[fB]at h
noncomputable def tY (KL:List (D×Nat)):List (fG×D):=(KL.filter λx=>bj x.1).map λx=>(.inr (bg 0 x.1),x.1)
def A5 (KL:List (D×Nat))(o:Str):Option D:=fB (c7 (tY KL)).1 (c7 (tY KL)).2 (.inr o)
def tZ (g:yx r)(h:bj r=true):∃a o rl,∃m f:Int,r=row a ("root" : Str) [.str o,.int m,.int f,.str rl]:=by
 obtain⟨a,k,rest,rfl,d⟩:=g;have hk :=Vh h;subst hk;obtain⟨o,rl,m,f,rfl⟩:=d.root_of;exact⟨a,o,rl,m,f,rr⟩
def dY (g:hG aa)(hx:x∈av aa ae):oH aa (x.2:Int)=some x.1/\yx x.1:=⟨bx (bd hx),g.2 _ (vL (bd hx))⟩
def A6 (g:hG aa)(h:A5 (av aa ae) o=some v):∃a G rl,∃m f:Int,v=row a ("root" : Str) [.str G,.int m,.int f,.str rl]:=by
 have M:=A4 h;rcases wU _ _ v M with h|⟨p,hp,e⟩
 .cases h
 .obtain⟨x,hx,rfl⟩:=vO hp;obtain⟨h1,h2⟩:=vN hx;rw[<-e];exact tZ (dY g h1).2 h2
def ua (g:hG aa)(ae:Int):gR [.tup aa,.int ae]=sF (.dk (c7 (tY (av aa ae))).1 (c7 (tY (av aa ae))).2):=by
 have hl:=cD aa ae;have M:=g.1;have h1:=jK (fi:=bM _) (nT:=1) (cap:=[0]) (tg:=dh 0) (fe:=f2 bv (aj 1) (aj 0)) (ρ:=[sT aa,sI ae,none]) (av aa ae) (λx=>.int x.2) Prod.fst
  (by
   show(fA dP (fV 0 (fV 1 ai)) _).bind _=_;rw[aG [.tup aa,.int ae] rr (lB aa g.rp g.le ae)];rfl) N9 λx hx=>by
   have ha:=(dY g hx).1;exact⟨_,rr,false,by simp[dL,ha]⟩
 have hn:bB ((av aa ae).map Prod.fst)=true:=cm λd hd=>by
  obtain⟨x,hx,rfl⟩:=vO hd;exact(dY g hx).2.rp.flat
 have h2:=gb (fi:=bM (aj 2)) (nT:=1) (cap:=[]) (tg:=dh 0) (c:=aR (f2 dA (fA a9 (fV 0 ai)) (fS "root"))) (fe:=fA aO (af (fA au (fV 0 (af (fS "office") ai))) (fV 0 ai)))
  (ρ:=[sT aa,sI ae,lT ((av aa ae).map Prod.fst)]) (av aa ae) Prod.fst (λx=>bj x.1) _ X9 N9 λx hx=>by
   have G:=(dY g hx).2;refine⟨_,rr,cn (a:=kindOf x.1) (bb:=false) (aG [x.1] rr (jc G)) rr,λhp=>⟨false,?_⟩⟩;obtain⟨a,o,rl,m,f,e⟩:=tZ G hp;refine aG [.str (bg 0 x.1),x.1] (bD (aG [x.1,.str "office"] rr ?_) rr) (bW _ X9);rw[e];exact lF
 refine aq rr (c8  h1 hn (ax (aG _ (aN h2 rr) ?_)));show(iP _).map _=_;rw[wV _ Prod.fst];rfl
def Ct:D×Nat->List (D×Nat)->D×Nat
 |b,[]=>b
 |b,x::r=>if b8 (kA x) (kA b)=some true then Ct x r else Ct b r
theorem y4:∀(r:List (D×Nat))(b:D×Nat),nM (kA b,.int b.2) (r.map λx=>(kA x,D.int x.2))=.int (Ct b r).2
 |[],b=>rr
 |x::r,b=>by
  rw[uX,nM,Ct];split
  .exact y4 r x
  .exact y4 r b
def y6 (KL:List (D×Nat))(p:Str)(day:Int)(i:Nat):Bool:=match KL.filter (λx=>told jb p day x.1) with
 |[]=>false
 |b::r=>decide ((Ct b r).2=i)
def IN (g:hG aa)(ae:Int)(hx:x∈av aa ae)(e:x.1=row a ("death" : Str) [.int d,.str p]):gI [.tup aa,.int ae,.int x.2]=sO (y6 (av aa ae) p d x.2):=by
 have ha:=(dY g hx).1;have j:=(dY g hx).2;have f:=yu aa g.rp g.le ae jb ko p d;have M:au [x.1,.str "person"]=sS p:=by rw[e];exact b7 (i:=1) cY rr
 have O:aV [x.1]=sI d:=by rw[e];exact jO (.inl H9) rr
 have G:x∈qL aa ae jb p d:=mem_filter.mpr ⟨hx,by simp_all[told,row,jb,Eb]⟩;have c:y6 (av aa ae) p d x.2=match qL aa ae jb p d with|[]=>false|b::r=>decide ((Ct b r).2=x.2):=rr
 have T:∀y∈qL aa ae jb p d,∃h k dd,aa[y.2]? = some (row h k [.int dd,.str p])/\y.1=row h k [.int dd,.str p]/\dw k=true:=λy hy=>by
  obtain⟨U,l⟩:=Ec hy;obtain⟨h,k,dd,e2,h3,_⟩:=tO ko (g.rp _ (vL U)) l;exact⟨h,k,dd,by rw[U,e2],e2,h3⟩
 rw[c];cases hs:qL aa ae jb p d with
 |nil=>rw[hs]at G;cases G
 |cons b r=>
  rw[hs]at f T;have hm:∀ρ:DL.Env,ρ[0]? = some (sT aa)->kZ (uQ [0] (fA fX (fV 1 (fV 0 ai))) ρ) ((b::r).map λy=>.int y.2)=some ((b::r).map λy=>.tup [.int (b9 y.1),.int y.2]):=λρ h0=>
   ja (b::r) λy hy=>by
    obtain⟨h,k,dd,U,e2,h3⟩:=T y hy;show(fA fX _ _).map _=_;rw[aG [.tup aa,.int y.2] (by simp[dL,h0]) (Ee U h3),e2];rfl
  have hk:fJ ((b::r).map λy=>D.tup [.int (b9 y.1),.int y.2])=some ((b::r).map kA):=iI _ λy _=>rr;have hz:((b::r).map kA).zip ((b::r).map λy=>D.int y.2)=(kA b,D.int b.2)::r.map λy=>(kA y,D.int y.2):=by rw[zip_map'];rfl
  have m:bB ((b::r).map λy=>D.int y.2)=true:=cm λd hd=>by obtain⟨y,_,rfl⟩:=vO hd;rfl
  refine aq rr (hU x.1 (by simp[ha]) j.rp.flat (c8  (aG [.tup aa,.int ae,.tup (jb.map .str),.str p,.int d] (bD rr (bD rr (bD (aG [.str "death"] rr (bW _ X9)) (aN (aG [x.1,.str "person"] rr M) (aN (aG [x.1] rr O) rr))))) f) m (ax (bq (.int (Ct b r).2) (.int x.2) ?_ rr ?_))))
  .unfold wx OY;show((some _).bind _)=_;rw[vJ];dsimp only;rw[hm _ rr,vJ,hk,vJ,if_pos (yv _),hz];show some (nM _ _,false)=_;rw[y4]
  .rw[LH];congr 3;apply decide_eq_decide.mpr;lia
abbrev KL:=List (D×Nat)
noncomputable def FF:LS:=[("named" : Str),"chosen","heir"]
def gy (K:KL)(x:D×Nat):Bool :=
 if kindOf x.1 = "death" then y6 K (bg 1 x.1) (b9 x.1) x.2
 else if kindOf x.1 = "named" then (A5 K (bg 1 x.1)).isSome
 else false
def FH (g:hG aa)(ae:Int)(so:List Cl)(hx:x∈av aa ae)(M:bj x.1=false):oi [.tup aa,.int ae,.lst (so.map bH),.int x.2]=sO (gy (av aa ae) x):=by
 obtain⟨ha,O⟩:=dY g hx;have hf:bf x.1=true:=O.rp.flat;have hw:∀ρ:DL.Env,ρ[4]? = some (some (x.1,false))->fA a9 (fV 4 ai) ρ=sS (kindOf x.1):=λρ h4=>aG [x.1] (by simp[h4]) (jc O);have G:∀ρ:DL.Env,ρ[4]? = some (some (x.1,false))->aR (f2 dZ (fA a9 (fV 4 ai)) (fA aO (af (fS "named") (af (fS "chosen") (af (fS "heir") ai))))) ρ=some (!decide (kindOf x.1∈FF)):=λρ h4=>
  dH (bq (.str (kindOf x.1)) (.tup (FF.map .str)) (hw ρ h4) (by simp[sizeLine,FF]) (lC _ _))
 by_cases hd:kindOf x.1 = "death"
 .obtain⟨a,k,rest,e,d⟩:=O;have hk:k = "death":=by rw[e]at hd;exact hd
  subst hk;obtain⟨dd,p,rfl⟩:=d.deed.three H9;have hc:gy (av aa ae) x=y6 (av aa ae) p dd x.2:=by
   unfold gy;rw[if_pos hd,e];rfl
  rw[hc];exact aq rr (hU x.1 (by simp[ha]) hf (bC (cn (bb:=false) (hw _ rr) (pP hd)) (ax (aG [.tup aa,.int ae,.int x.2] rr (IN g ae hx e)))))
 .by_cases hn:kindOf x.1 = "named"
  .have h3:kindOf x.1∈FF:=by rw[hn];decide +kernel
   have T:au [x.1,.str "office"]=sS (bg 1 x.1):=by
    obtain⟨a,k,rest,e,d⟩:=O;rw[e]at hn |-;replace hn:k = "named":=hn;cases d with
    |named d o p=>exact b7 (i:=1) cY rr
    |root=>exact j5 hn
    |three _ hk=>rcases hk with rfl|rfl|rfl<;>exact j5 hn
    |other _ hk=>rcases hk with rfl|rfl|rfl|rfl|rfl<;>exact j5 hn
   have U:∀ρ:DL.Env,ρ[0]? = some (sT aa)->ρ[1]? = some (sI ae)->ρ[4]? = some (some (x.1,false))->f2 OZ (fA gR (fV 0 (fV 1 ai))) (fA au (fV 4 (af (fS "office") ai))) ρ=some ((A5 (av aa ae) (bg 1 x.1)).getD .non,false):=λρ j l m=>
    bq _ (.str (bg 1 x.1)) (aG [.tup aa,.int ae] (by simp[j,l]) (ua g ae)) (aG [x.1,.str "office"] (by simp[m]) T) rr
   have hc:gy (av aa ae) x=(A5 (av aa ae) (bg 1 x.1)).isSome:=by unfold gy;rw[if_neg hd,if_pos hn]
   rw[hc];cases b:A5 (av aa ae) (bg 1 x.1) with
   |none=>
    rw[b]at U;exact aq rr (hU x.1 (by simp[ha]) hf (a8 (cn (bb:=false) (hw _ rr) (TK hd)) (a8 (by rw[G _ rr,pP h3];rfl) (hU .non (U _ rr rr rr) rr (bC (dH (bq .non .non rr rr X9)) (ax rr))))))
   |some v=>
    rw[b]at U;obtain⟨q,r,n,s,t,h⟩:=A6 g b;have c:bf v=true:=by rw[h];rfl
    have f:Bn v .non=sO false:=by rw[h];simp[row]
    exact aq rr (hU x.1 (by simp[ha]) hf (a8 (cn (bb:=false) (hw _ rr) (TK hd)) (a8 (by rw[G _ rr,pP h3];rfl) (hU v (U _ rr rr rr) c (a8 (dH (bq v .non rr rr f)) (bC (cn (bb:=false) (hw _ rr) (pP hn)) (ax rr)))))))
  .have hc:gy (av aa ae) x=false:=by unfold gy;rw[if_neg hd,if_neg hn]
   have h3:kindOf x.1∉FF:=by
    obtain⟨a,k,rest,e,d⟩:=O;rw[e]at hn M |-;show k∉FF;cases d with
    |named d o p=>exact absurd rr hn
    |root=>cases M
    |three _ hk=>rcases hk with rfl|rfl|rfl<;>decide +kernel
    |other _ hk=>rcases hk with rfl|rfl|rfl|rfl|rfl<;>decide +kernel
   rw[hc];exact aq rr (hU x.1 (by simp[ha]) hf (a8 (cn (bb:=false) (hw _ rr) (TK hd)) (bC (by rw[G _ rr,TK h3];rfl) (ax rr))))
def gL (G:LS)(p:Str)(day:Int)(c:Cl):List Cl :=
 if(!decide (c.o∈G) || (!decide (c.p=p) || !(jd c day || decide (day<c.s))))=true then [c]else if c.s<day then [⟨c.o,p,c.s,some day,c.n⟩]else []
noncomputable def dR (so:List Cl)(G:LS)(p:Str)(day:Int):List Cl:=so.flatMap (gL G p day)
theorem kx (G:LS)(p:Str)(day:Int):∀so:List Cl,(dR so G p day).length<=so.length
 |[]=>vT _
 |c::so=>by
  unfold dR;rw[flatMap_cons,uY,vC];have h1:=kx G p day so;have h2:(gL G p day c).length<=1:=by
   unfold gL;split
   .simp
   .split<;>simp
  unfold dR at h1;lia
def Cu (k:Str)(G:LS):dZ (.str k) (.lst (G.map .str))=sO (!decide (k∈G)):=by
 simp only[dZ,iu,vJ,o6];rw[if_pos ⟨rr,lX G⟩]
def IP (so:List Cl)(m:so.length<=60)(G:LS)(p:Str)(day:Int):yt [.lst (so.map bH),.lst (G.map .str),.str p,.int day]=lT ((dR so G p day).map bH):=by
 obtain⟨ρ',e,U,rfl⟩:=h8 (tg:=dh 5) (g:=t0) (λj ρ=>∃U:OB,ρ=[sL (so.map bH),sL (G.map .str),sS p,sI day,lT ((dR (so.take j) G p day).map bH),U]) (so.map bH)
  [sL (so.map bH),sL (G.map .str),sS p,sI day,lT [],none] ⟨none,rr⟩ (by
   rintro j d ρ hd ⟨U,rfl⟩;rw[uZ]at hd;obtain⟨c,hc,rfl⟩:=oY hd;have f:dR (so.take (j+1)) G p day=dR (so.take j) G p day++gL G p day c:=by
    simp_all[dR,take_add_one]
   have q:(dR (so.take j) G p day).length<=60:=vR (kx G p day _) (by rw[length_take];lia);let O:DL.Env:=[sL (so.map bH),sL (G.map .str),sS p,sI day,lT ((dR (so.take j) G p day).map bH),some (bH c,false)];have h:cF 5 0 O=sS c.o:=bq (bH c) (.int 0) rr rr (T6 c);have i:cF 5 1 O=sS c.p:=bq (bH c) (.int 1) rr rr (Q2 c);have a:cF 5 2 O=sI c.s:=bq (bH c) (.int 2) rr rr (Ww c);have k:cF 5 4 O=sI c.n:=bq (bH c) (.int 4) rr rr (Wx c);have M:dz (aR (f2 dZ (cF 5 0) (aj 1))) (dz (aR (f2 mB (cF 5 1) (aj 2))) (bS (dz (aR (fA eV (fV 5 (fV 3 ai)))) (aR (f2 BB (cF 5 2) (aj 3)))))) O=some (!decide (c.o∈G) || (!decide (c.p=p) || !(jd c day || decide (day<c.s)))) :=
    ci (dH (bq (.str c.o) (.lst (G.map .str)) h rr (Cu _ _))) λ_=>ci (dH (bq (.str c.p) (.str p) i rr X9)) λ_=>bF (ci (dH (aG [bH c,.int day] rr (tR c day))) λ_=>dH (bq (.int c.s) (.int day) a rr X9))
   by_cases h1:(!decide (c.o∈G) || (!decide (c.p=p) || !(jd c day || decide (day<c.s))))=true
   .have T:gL G p day c=[c]:=by unfold gL;rw[if_pos h1]
    rw[h1]at M;refine⟨_,_,rr,.inl (qK M (p4 (ds:=(dR (so.take j) G p day).map bH) (d:=bH c) (b:=false) rr rr (o7 c) (cC I9))),some (bH c,false),?_⟩;rw[f,T,uV];rfl
   .rw[Bool.not_eq_true]at h1;rw[h1]at M;by_cases h2:c.s<day
    .have T:gL G p day c=[⟨c.o,p,c.s,some day,c.n⟩]:=by unfold gL;rw[if_neg (by rw[h1];decide),if_pos h2]
     refine⟨_,_,rr,.inl (mN M (qK (dH (bq (.int c.s) (.int day) a rr (by simp[h2]))) (p4 (ds:=(dR (so.take j) G p day).map bH) (d:=bH ⟨c.o,p,c.s,some day,c.n⟩) (b:=false) rr (aG [.str c.o,.str p,.int c.s,.int day,.int c.n] (aN h (bD rr (aN a (bD rr (aN k rr))))) (bW _ X9)) (o7 _) (cC I9)))),some (bH c,false),?_⟩;rw[f,T,uV];rfl
    .have T:gL G p day c=[]:=by unfold gL;rw[if_neg (by rw[h1];decide),if_neg h2]
     refine⟨_,_,rr,.inl (mN M (mN (dH (bq (.int c.s) (.int day) a rr I9)) rr)),some (bH c,false),?_⟩;rw[f,T,uP];rfl)
 have l:gU (dh 5) t0 (so.map bH) [sL (so.map bH),sL (G.map .str),sS p,sI day,lT [],none]=some (.nx [sL (so.map bH),sL (G.map .str),sS p,sI day,lT ((dR so G p day).map bH),U]):=by
  simp_all
 exact aq rr (c8 (ds:=[]) s9 rr (cV (jj (ds:=so.map bH) (by simp[j9]) l) (jY rr)))
def Sc (ho:au [r,.str "office"]=sS o)(hp:au [r,.str "person"]=sS p)(s:Int)(n:Nat):jp [r,.int s,.int n]=some (bH ⟨o,p,s,none,n⟩,false) :=
 aq rr (ax (aG _ (aN (aG _ rr ho) (aN (aG _ rr hp) rr)) (bW _ X9)))
def Ej (so:List Cl)(p:Str)(day:Int):LS:=mu (gY ((so.filter λc=>decide (c.p=p) && jd c day).map (·.o)))
def y7 (g:hG aa)(ae:Int)(so:List Cl)(n:so.length<=60)(hx:x∈av aa ae)(e:x.1=row a ("death" : Str) [.int d,.str p]):
  lw [.tup aa,.int ae,.lst (so.map bH),.dt [] [],.int x.2]=lT []:=by
 have ha:=(dY g hx).1;have G:au [x.1,.str "person"]=sS p:=by rw[e];exact b7 (i:=1) cY rr
 have M:aV [x.1]=sI d:=by rw[e];exact jO (.inl H9) rr
 obtain⟨ρ',f,U,O,rfl⟩:=h8 (tg:=dh 8) (g:=oj) (λj ρ=>∃U O:OB,ρ=[sT aa,sI ae,sL (so.map bH),sF (.dt [] []),sI x.2,sS p,sI d,lT [],U,O]) ((Ej so p d).map .str)
  _ ⟨none,none,rr⟩ (by
   rintro j dd ρ hd ⟨U,O,rfl⟩;rw[uZ]at hd;obtain⟨o,ho,rfl⟩:=oY hd;have h:Ig (aj 3) (fV 8 (fV 5 ai)) [sT aa,sI ae,sL (so.map bH),sF (.dt [] []),sI x.2,sS p,sI d,lT [],sS o,O]=sF .non:=by
    simp[lU,sizeLine,fB]
   exact⟨_,_,rr,.inl (hU .non h rr (mN (cW (p:=false) (q:=false) (dH X9) X9) rr)),_,_,rr⟩)
 have T:∀ρ:DL.Env,ρ[2]? = some (sL (so.map bH))->ρ[5]? = some (sS p)->ρ[6]? = some (sI d)->bM (f1 gZ (bP (bM (aj 2)) 1 [5,6] (dh 0) _ (cF 0 0))) ρ=some ((Ej so p d).map .str):=λρ k l m=>by
  have hc:=gb (fi:=bM (aj 2)) (nT:=1) (cap:=[5,6]) (tg:=dh 0) (c:=eE (aR (f2 dA (cF 0 1) (aj 1))) (aR (fA eV (fV 0 (fV 2 ai))))) (fe:=cF 0 0) (ρ:=ρ) so bH (λc=>decide (c.p=p) && jd c d) (λc=>.str c.o) (by simp[k]) N9 λc hc=>
   ⟨_,rr,cW (dH (bq (.str c.p) (.str p) (bq (bH c) (.int 1) (by simp[dL]) rr (Q2 c)) (by simp[dL,l]) X9)) λ_=>dH (aG [bH c,.int d] (by simp[dL,m]) (tR c d)),λ_=>⟨false,bq (bH c) (.int 0) (by simp[dL]) rr (T6 c)⟩⟩
  have e2:(so.filter λc=>decide (c.p=p) && jd c d).map (λc=>D.str c.o)=((so.filter λc=>decide (c.p=p) && jd c d).map (·.o)).map .str:=by rw[uO];rfl
  rw[e2]at hc;show(f1 gZ _ ρ).bind _=_;unfold f1;rw[hc,vJ];have b:((so.filter λc=>decide (c.p=p) && jd c d).map (·.o)).length<64:=by rw[vI];exact lt_of_le_of_lt (vM _ _) N9
  show((gX _).bind _).bind _=_;rw[tX,vJ,if_pos b];rfl
 refine aq rr (hU (.str p) (aG [x.1,.str "person"] (by simp[ha]) G) rr (hU (.int d) (aG [x.1] (by simp[ha]) M) rr (c8 (ds:=[]) s9 rr (cV (ρ':=[sT aa,sI ae,sL (so.map bH),sF (.dt [] []),sI x.2,sS p,sI d,lT [],U,O]) ?_ (jY rr)))));exact jj  (T _ rr rr rr) f
def IQ (g:hG aa)(ae:Int)(so:List Cl)(M:so.length<=60)(hx:x∈av aa ae)(e:x.1=row a ("death" : Str) [.int d,.str p]):
  jy [.tup aa,.int ae,.lst (so.map bH),.dt [] [],.int x.2]=lT ((dR so (so.map Cl.o) p d).map bH):=by
 have ha:=(dY g hx).1;have G:au [x.1,.str "person"]=sS p:=by rw[e];exact b7 (i:=1) cY rr
 have O:aV [x.1]=sI d:=by rw[e];exact jO (.inl H9) rr
 have h1:=jK (fi:=bM (aj 2)) (nT:=1) (cap:=[]) (tg:=dh 0) (fe:=cF 0 0) (ρ:=[sT aa,sI ae,sL (so.map bH),sF (.dt [] []),sI x.2,none,none]) so bH _ X9 N9 λc hc=>⟨_,rr,false,bq (bH c) (.int 0) (by simp[dL]) rr (T6 c)⟩;have e2:so.map (λc=>D.str c.o)=(so.map Cl.o).map .str:=by rw[uO];rfl
 rw[e2]at h1;have T:=kx (so.map Cl.o) p d so;refine aq rr (c8  h1 (cz _) (c8  (aG _ (bD rr (bD rr (bD (aG _ (by simp[ha]) G) (bD (aG [x.1] (by simp[ha]) O) rr)))) (IP so M _ p d)) (o8 _) (ax ?_)));refine fU     rr (aG _ rr (y7 g ae so M hx e)) ?_;show(if((dR so _ p d).map bH).length+([]:LD).length<=sizeLine then some _ else none)=_;rw[if_pos (dX (by grind)),uP]
def qA (K:KL)(so:List Cl)(x:D×Nat):List Cl :=
 if gy K x=true then
  if kindOf x.1 = "named" then so++[⟨bg 1 x.1,bg 2 x.1,b9 x.1,none,x.2⟩]
  else dR so (so.map Cl.o) (bg 1 x.1) (b9 x.1)
 else so
def cN (K:KL):KL:=eO (λx=>cK (kA x)) (K.filter λx=>!bj x.1)
noncomputable def qB (K:KL)(l:KL):List Cl:=l.foldl (qA K) []
noncomputable def kC (c:Cl):List At:=[.s c.o,.i c.s,.i c.n]
def bI (K:KL):List Cl:=eO (λc=>cK (kC c)) (qB K (cN K))
structure Gi (l:KL)(so:List Cl):Prop where
 len:so.length<=l.length
 nod:(so.map λc=>(c.o,c.n)).Nodup
 num:∀c∈so,c.n∈l.map (·.2)
theorem pJ (G:LS)(p:Str)(day:Int):∀so:List Cl,((dR so G p day).map λc=>(c.o,c.n)).Sublist (so.map λc=>(c.o,c.n))
 |[]=>List.Sublist.slnil
 |c::so=>by
  have M:=pJ G p day so;unfold dR at M |-;rw[flatMap_cons,uV];have:((gL G p day c).map λc=>(c.o,c.n))=[(c.o,c.n)]\/((gL G p day c).map λc=>(c.o,c.n))=[]:=by
   unfold gL;split
   .exact .inl rr
   .split
    .exact .inl rr
    .exact .inr rr
  rcases this with h|h
  .rw[h];exact M.cons₂ _
  .rw[h];exact M.cons _
def FI (h:c∈dR so M p day):∃G∈so,G.o=c.o/\G.n=c.n:=by
 have:=(pJ _ p _ so).subset (uR ⟨c,h,rr⟩);obtain⟨G,h1,h2⟩:=vO this;injection h2 with h3 h4;exact⟨G,h1,h3,h4⟩
def Gi.step {K l:KL}{so:List Cl}(h:Gi l so){x:D×Nat}(hx:x.2∉l.map (·.2)):Gi (l++[x]) (qA K so x):=by
 have G:∀ {n:Nat},n∈l.map (·.2)->n∈(l++[x]).map (·.2):=λh=>by grind
 have O:x.2∈(l++[x]).map (·.2):=X9
 have U:(l++[x]).length=l.length+1:=X9
 have M:=h.len;unfold qA;split
 .split
  .refine⟨I9,?_,λc hc=>?_⟩
   .rw[uV,nodup_append];refine⟨h.nod,X9,λa ha b hb e=>?_⟩;obtain⟨c,hc,rfl⟩:=vO ha;simp at hb;subst hb;injection e with _ e2;exact hx (e2 ▸ h.num c hc)
   .rcases mem_append.mp hc with hc|hc
    .exact G (h.num c hc)
    .rw[uS hc];exact O
  .have hl:=kx (so.map Cl.o) (bg 1 x.1) (b9 x.1) so;refine⟨N9,h.nod.sublist (pJ _ _ _ _),λc hc=>?_⟩;obtain⟨T,h1,_,h3⟩:=FI hc;rw[<-h3];exact G (h.num T h1)
 .exact⟨N9,h.nod,λc hc=>G (h.num c hc)⟩
def UF (a b:Cl):(b8 (kC a) (kC b)).isSome=true:=by
 unfold kC;rw[b8];split
 .rw[b8];split
  .rw[b8];split
   .rfl
   .rfl
  .rfl
 .rfl
def Ek (cs:List Cl):dJ (cs.map kC)=true:=by
 simp_all[dJ,UF]
theorem wW {α G:Type}(f:α->G):∀ {l:List α},(l.map f).Nodup->∀ {a b:α},a∈l->b∈l->f a=f b->a=b
 |[],_,_,_,ha,_,_=>by cases ha
 |c::l,h,a,b,ha,hb,e=>by
  rw[uX,nodup_cons]at h;rcases vP ha with M|ha1
  .grind
  .rcases vP hb with O|hb1
   .simp_all
   .exact wW f h.2 ha1 hb1 e
def Pu {cs:List Cl}{a b:Cl}(ha:a∈cs)(hb:b∈cs)(e:cK (kC a)=cK (kC b)):(a.o,a.n)=(b.o,b.n):=by
 have h:=lQ (Ek cs) (uR ⟨a,ha,rr⟩) (uR ⟨b,hb,rr⟩) e;injection h with h1 h2;injection h1 with h1;injection h2 with _ h3;rw[h1,show a.n=b.n by lia]
def LP (g:hG aa)(ae:Int)(so:List Cl)(U:so.length<=60)(hx:x∈av aa ae)(b:bj x.1=false)(c:OB):
  ∃f,(lW [sT aa,sI ae,lT (so.map bH),some (.dt [] [],true),sI x.2,c]=some (.nx [sT aa,sI ae,lT ((qA (av aa ae) so x).map bH),some (.dt [] [],true),sI x.2,f])
   \/ lW [sT aa,sI ae,lT (so.map bH),some (.dt [] [],true),sI x.2,c]=some (.ct [sT aa,sI ae,lT ((qA (av aa ae) so x).map bH),some (.dt [] [],true),sI x.2,f])):=by
 obtain⟨ha,T⟩:=dY g hx;have hf:bf x.1=true:=T.rp.flat;have j:=FH g ae so hx b;obtain⟨E,h⟩:∃E:DL.Env,E=[sT aa,sI ae,lT (so.map bH),some (.dt [] [],true),sI x.2,some (x.1,false)]:=⟨_,rr⟩;have G:bS (aR (fA oi (fV 0 (fV 1 (fV 2 (fV 4 ai)))))) E=some (!gy (av aa ae) x):=by
  simp_all
 have hw:fA a9 (fV 5 ai) E=sS (kindOf x.1):=by rw[h];exact aG [x.1] rr (jc T)
 refine⟨some (x.1,false),?_⟩;unfold qA;subst h;cases hc:gy (av aa ae) x with
 |false=>
  rw[hc]at G;exact .inr (hU x.1 (by simp[ha]) hf (UD (qK G rr)))
 |true=>
  rw[hc]at G;left;rw[if_pos rr];refine hU x.1 (by simp[ha]) hf (cV (mN G rr) ?_);by_cases hn:kindOf x.1 = "named"
  .rw[if_pos hn];refine qK (cn (bb:=false) hw (pP hn)) ?_;have M:au [x.1,.str "office"]=sS (bg 1 x.1)/\au [x.1,.str "person"]=sS (bg 2 x.1):=by
    obtain⟨a,k,rest,e,d⟩:=T;rw[e]at hn |-;replace hn:k = "named":=hn;cases d with
    |named d o p=>exact⟨b7 (i:=1) cY rr,b7 (i:=2) cY rr⟩
    |root=>exact j5 hn
    |three _ hk=>rcases hk with rfl|rfl|rfl<;>exact j5 hn
    |other _ hk=>rcases hk with rfl|rfl|rfl|rfl|rfl<;>exact j5 hn
   have O:aV [x.1]=sI (b9 x.1):=by simp_all[wS,yy]
   have e2:f2 dm (aj 2) (fA cx (af (fA jp (fV 5 (af (fA aV (fV 5 ai)) (fV 4 ai)))) ai)) [sT aa,sI ae,lT (so.map bH),some (.dt [] [],true),sI x.2,some (x.1,false)]=lT (so.map bH++[bH ⟨bg 1 x.1,bg 2 x.1,b9 x.1,none,x.2⟩]):=by
    refine fU (x:=.lst (so.map bH)) (y:=.lst _) (b1:=false) (b2:=true) rr ?_ (if_pos (dX (by rw[vI,length_singleton];lia)));exact aG _ (aN (aG [x.1,.int (b9 x.1),.int x.2] (bD rr (bD (aG [x.1] rr O) rr)) (Sc M.1 M.2 _ _)) rr) (fF _ X9)
   have:=yr (i:=2) e2 (by have hq:=o8 (so++[(⟨bg 1 x.1,bg 2 x.1,b9 x.1,none,x.2⟩:Cl)]);rwa [uV]at hq);rw[uV];exact this
  .rw[if_neg hn];have hd:kindOf x.1 = "death":=by
    unfold gy at hc;by_cases hd:kindOf x.1 = "death"
    .exact hd
    .rw[if_neg hd,if_neg hn]at hc;cases hc
   refine mN (cn (bb:=false) hw (TK hn)) (mN (cn (bb:=false) hw (TK (by rw[hd];decide +kernel))) (mN (cn (bb:=false) hw (TK (by rw[hd];decide +kernel))) (yr (i:=2) (aG [.tup aa,.int ae,.lst (so.map bH),.dt [] [],.int x.2] X9 ?_) (o8 _))));obtain⟨a,k,rest,e,d⟩:=T;have hk:k = "death":=by rw[e]at hd;exact hd
   subst hk;obtain⟨dd,p,rfl⟩:=d.deed.three H9;have:=IQ g ae so U hx e;rw[this,e];rfl
theorem El (K:KL):∀(l G:KL)(so:List Cl),Gi G so->((G++l).map (·.2)).Nodup->Gi (G++l) (l.foldl (qA K) so)
 |[],G,so,h,_=>by rw[uP];exact h
 |x::l,G,so,h,hn=>by
  have hx:x.2∉G.map (·.2):=λhm=>by
   grind
  have h':=h.step (K:=K) hx;have e:G++x::l=(G++[x])++l:=X9
  rw[e]at hn |-;exact El K l _ _ h' hn
def Em (K l:KL)(h:(l.map (·.2)).Nodup):Gi l (qB K l):=El K l [] [] ⟨uM _,X9,X9⟩ h
def lY (h:(K.map (·.2)).Nodup):((cN K).map (·.2)).Nodup:=((aW _ _).map _).nodup_iff.mpr (List.Nodup.sublist (List.Sublist.map _ filter_sublist) h)
def wZ {aa:LD}(g:hG aa)(ae:Int)(T:(cN (av aa ae)).length<=60):om [.tup aa,.int ae]=lT ((bI (av aa ae)).map bH)/\(bI (av aa ae)).length<=60:=by
 have m:eQ [.tup aa,.int ae]=lT ((cN (av aa ae)).map λx=>.int x.2):=qz g ae;generalize i:av aa ae=K at T m |-;have U:∀x∈cN K,x∈K/\bj x.1=false:=λx hx=>by
  obtain⟨h1,h2⟩:=vN ((aW _ _).mem_iff.mp hx);exact⟨h1,by simpa using h2⟩
 have q:((cN K).map (·.2)).Nodup:=lY (by rw[<-i];exact fm aa ae);obtain⟨ρ',e,k,f,rfl⟩:=h8 (tg:=dh 4) (g:=lW) (λj ρ=>∃k f:OB,ρ=[sT aa,sI ae,lT ((qB K ((cN K).take j)).map bH),some (.dt [] [],true),k,f]) ((cN K).map λx=>.int x.2)
  _ ⟨none,none,rr⟩ (by
   rintro j d ρ hd ⟨k,f,rfl⟩;rw[uZ]at hd;obtain⟨x,hx,rfl⟩:=oY hd;have E:(cN K).take (j+1)=(cN K).take j++[x]:=by rw[take_add_one,hx];rfl
   have t:qB K ((cN K).take (j+1))=qA K (qB K ((cN K).take j)) x:=by simp_all[qB]
   obtain⟨u,v⟩:=U x (vL hx);have h:=(Em K ((cN K).take j) (List.Nodup.sublist (List.Sublist.map _ (take_sublist _ _)) q)).len;rw[length_take]at h;have G:=LP g ae (qB K ((cN K).take j)) N9 (x:=x) (by rw[i];exact u) v f;rw[i]at G;obtain⟨w,G⟩:=G;exact⟨_,_,rr,G,sI x.2,w,by rw[t]⟩)
 have z:(cN K).take ((cN K).map λx=>D.int x.2).length=cN K:=X9
 rw[z]at e;have M:=Em K (cN K) q;generalize A:(qB K (cN K))=st at e M;have B:st.length<=60:=by have:=M.len;lia
 have r:bI K=eO (λc=>cK (kC c)) st:=by unfold bI;rw[A]
 have hm:∀ρ:DL.Env,kZ (yi lu ρ) (st.map bH)=some _:=λρ=>ja st λc _=>by
  rfl
 have hk:fJ (st.map λc=>D.tup [.str c.o,.int c.s,.int c.n])=some (st.map kC):=iI st λc _=>rr;have O:(st.map kC).length<64/\dJ (st.map kC)=true/\dW (st.map kC)=true/\((st.map kC).map cK).Nodup:=by
  refine⟨by rw[vI];lia,Ek _,?_,?_⟩
  .simp_all[dW,kC]
  .rw[uO];have h1:st.Pairwise λa b=>(a.o,a.n)≠(b.o,b.n):=pairwise_map.mp M.nod;have h2:st.Pairwise λa b=>cK (kC a)≠cK (kC b):=by
    refine List.Pairwise.imp_of_mem ?_ h1;intro a b ha hb C e;exact C (Pu ha hb e)
   exact pairwise_map.mpr h2
 have hz:(st.map kC).zip (st.map bH)=st.map λc=>(kC c,bH c):=by rw[zip_map']
 have l:((bI K).map λc=>(kC c,bH c))=eO (λp:List At×D=>cK p.1) (st.map λc=>(kC c,bH c)):=by
  rw[r];refine jG _ (λx hx y hy e=>?_) ((aW _ _).map _) ?_
  .grind[wW]
  .exact pairwise_map.mpr (eP _ _)
 refine⟨aq rr (c8 (ds:=[]) s9 rr (cV  rr (cV (jj (ds:=(cN K).map λx=>.int x.2) ?_ e) (ax ?_)))),by rw[r,(aW _ _).length_eq];exact B⟩
 .show(fA eQ (fV 0 (fV 1 ai)) _).bind _=_;rw[aG [.tup aa,.int ae] rr m];rfl
 .unfold sj;show((some (D.lst (st.map bH),false)).bind _)=_;simp only[vJ];rw[hm];simp only[vJ];rw[hk];simp only[vJ];rw[if_pos O];unfold jI;rw[hz,<-l,uO];rfl
end Lw
namespace Lw
open PySem PySem.Spec DL L2
def jg (x:Int×OI):D:=.tup [.int x.1,uD x.2]
def lG (x:Int×OI):bf (jg x)=true:=by simp[jg,Eg]
def xa (x:Int×OI):bc 5 (jg x)=true:=by obtain⟨s,u⟩:=x;cases u<;>simp[jg,uD]
noncomputable def MR:LN:=[7,255,3,15]
noncomputable def MS:LN:=[1,2,3,4,5,7,128,255]
inductive Dd:Str->List D->Prop
 |root (o r:Str) (m:Nat) (hm:m∈MR) (f:Int):Dd ("root" : Str) [.str o,.int m,.int f,.str r]
 |named (d:Int) (o p:Str):Dd ("named" : Str) [.int d,.str o,.str p]
 |three (k:Str) (hk:k = "death" \/ k = "lost" \/ k = "found") (d:Int) (p:Str):Dd k [.int d,.str p]
 |leave (d:Int) (b p:Str) (m:Nat) (hm:m∈MS) (x:Int×Option Int) (f:Int):Dd ("leave" : Str) [.int d,.str b,.str p,.int m,jg x,.int f]
 |paper (k:Str) (hk:k = "paper" \/ k = "like") (d:Int) (b:Str) (m:Nat) (hm:m∈MS) (x:Int×Option Int) (r:List D) (hf:bB r=true) (hp:r.all (bc 5)=true):Dd k (.int d::.str b::.int m::jg x::r)
 |copy (k:Str) (hk:k = "copy" \/ k = "call") (d:Int) (b:Str) (n:Nat):Dd k [.int d,.str b,.int n]
def Dd.cd (h:Dd k r):Cd k r:=by
 cases h with
 |root o r m hm f=>exact .root _ _ _ _
 |named d o p=>exact .named _ _ _
 |three k hk d p=>exact .three _ hk _ _
 |leave d b p m hm x f=>exact .other _ (.inl rr) _ _ _ (by simp[lG]) (by simp_all[xa])
 |paper k hk d b m hm x r hf hp=>exact .other _ (hk.elim (λh=>.inr (.inl h)) λh=>.inr (.inr (.inl h))) _ _ _ (by simp[hf,lG]) (by simp_all[xa])
 |copy k hk d b n=>exact .other _ (hk.elim (λh=>.inr (.inr (.inr (.inl h)))) λh=>.inr (.inr (.inr (.inr h)))) _ _ _ rr X9
def ce (r:D):Prop:=∃h k rest,r=row h k rest/\Dd k rest
def ce.c (g:ce r):yx r:=by obtain⟨h,k,rest,e,d⟩:=g;exact⟨h,k,rest,e,d.cd⟩
def ce.flat (g:ce r):bf r=true:=g.c.rp.flat
noncomputable def xc (aa:LD):LS:=(aa.filter bj).map (bg 0)
def FJ (aa:LD)(r:D):xc (aa++[r])=xc aa++if bj r=true then [bg 0 r]else []:=by
 grind[xc]
def xf (a b:Nat):iV [.int a,.int b]=sO (decide (a &&& b=b)):=by
 have:Builtin.bitAnd (a:Int) (b:Int)=((a &&& b:Nat):Int):=by simp[Builtin.bitAnd]
 simp[iV,t8,this];lia
def mf (r:D):Nat:=(if kindOf r = "root" then je 1 r else if kindOf r = "leave" then je 3 r else je 2 r).toNat
def lH (a:Int)(k:Str)(rest:LD):kindOf (row a k rest)=k:=rfl
noncomputable def gd:LS:=[("leave" : Str),"paper","like"]
def ub (g:ce r)(h:bj r=true):∃a o rl,∃m:Nat,∃f:Int,r=row a ("root" : Str) [.str o,.int m,.int f,.str rl]/\m∈MR/\mf r=m:=by
 obtain⟨a,k,rest,rfl,d⟩:=g;have hk:k = "root":=Vh h;clear h;cases d with
 |root o rl m hm f=>exact⟨a,o,rl,m,f,rr,hm,S9⟩
 |named=>exact j5 hk
 |three k G=>rcases G with rfl|rfl|rfl<;>exact j5 hk
 |leave=>exact j5 hk
 |paper k G=>rcases G with rfl|rfl<;>exact j5 hk
 |copy k G=>rcases G with rfl|rfl<;>exact j5 hk
def En (g:ce r)(h:bj r=true):au [r,.str "matters"]=sI (mf r):=by
 obtain⟨a,o,rl,m,f,rfl,_,e⟩:=ub g h;exact b7 (i:=1) cY rr
def Pw {a:Int}{k:Str}{rest:LD}(d:Dd k rest)(h:k∈gd):mf (row a k rest)∈MS/\(∃i:Nat,mK cb (.str k) (.str "matters")=sI i/\rest[i]? = some (.int (mf (row a k rest))))/\(D.str k::rest).getD (3+if k = "leave" then 1 else 0) .non=.int (mf (row a k rest))/\(3+if k = "leave" then 1 else 0)<(D.str k::rest).length:=by
 cases d with
 |leave d b p m hm x f=>
  have e:mf (row a ("leave" : Str) [.int d,.str b,.str p,.int m,jg x,.int f])=m:=S9
  refine⟨hm,⟨3,cY,rr⟩,?_,?_⟩
  .rfl
  .simp
 |paper k hk d b m hm x r hf hp=>
  have hl:k ≠ "leave":=by rcases hk with rfl|rfl<;>decide +kernel
  have M:k ≠ "root":=by rcases hk with rfl|rfl<;>decide +kernel
  have e:mf (row a k (.int d::.str b::.int m::jg x::r))=m:=by unfold mf;rw[lH,if_neg M,if_neg hl];rfl
  rw[e];refine⟨hm,⟨2,by rcases hk with rfl|rfl<;>exact cY,rr⟩,?_,?_⟩
  .rw[if_neg hl];rfl
  .rw[if_neg hl];simp
 |root=>exact j5 h
 |named=>exact j5 h
 |three k G=>rcases G with rfl|rfl|rfl<;>exact j5 h
 |copy k G=>rcases G with rfl|rfl<;>exact j5 h
def y8 (g:ce r)(h:kindOf r∈gd):au [r,.str "matters"]=sI (mf r):=by
 obtain⟨a,k,rest,rfl,d⟩:=g;obtain⟨_,⟨i,h1,h2⟩,_⟩:=Pw  d h;exact b7 h1 h2
noncomputable def bR:LS:=[("leave" : Str),"paper","like","copy"]
def ky (h:k∈bR\/k = "call"):fE k=true:=by
 grind[tP,bR,A3]
def LQ {k:Str}{rest:LD}(d:Dd k rest)(h:fE k=true):∃(dd:Int)(b:Str)(r:LD),rest=.int dd::.str b::r:=d.cd.deed.slg h
def Eo (g:ce r)(h:fE (kindOf r)=true):au [r,.str "by"]=sS (fL r):=by
 obtain⟨a,k,rest,rfl,d⟩:=g;obtain⟨dd,b,q,rfl⟩:=LQ d h;exact b7  (II h) rr
noncomputable def bX (K:KL):LD:=(K.filter λx=>bj x.1).map (·.1)
theorem A7:∀(l:List (fG×D))(a:LK×LD),(a.1++l.map (·.1)).Nodup->l.foldl sq a=(a.1++l.map (·.1),a.2++l.map (·.2))
 |[],a,_=>by simp
 |p::l,a,h=>by
  have hn:p.1∉a.1:=by
   grind
  have e:sq a p=(a.1++[p.1],a.2++[p.2]):=by simp_all[sq,iz,fK]
  rw[foldl_cons,e,A7 l _ (by rw[append_assoc];exact h)];simp
section
variable {K:KL}(hn:((bX K).map (bg 0)).Nodup)
include hn
theorem uc:c7 (tY K)=((bX K).map λv=>(.inr (bg 0 v):fG),bX K):=by
 have e:tY K=(bX K).map λv=>((.inr (bg 0 v):fG),v):=by unfold tY bX;rw[uO];rfl
 have G:((bX K).map λv=>(.inr (bg 0 v):fG)).Nodup:=by
  refine pairwise_map.mpr ((pairwise_map.mp hn).imp λh z=>h (Sum.inr.inj z))
 rw[e];unfold c7;rw[A7 _ _ (by rw[uO];exact G),uO,uO];congr 1;exact map_id _
end
noncomputable def LR (j:Nat):D->Int×OI
 |.tup [_,.tup (_::rest)]=>match rest[j]? with
  |some (.tup [.int s,.int u])=>(s,some u)
  |some (.tup [.int s,.non])=>(s,none)
  |_=>(0,none)
 |_=>(0,none)
def qZ {h:Int}{k:Str}{rest:LD}{j:Nat}{x:Int×OI}(e:rest[j]? = some (jg x)):LR j (row h k rest)=x:=by
 unfold LR row;simp  [e];obtain⟨s,u⟩:=x;cases u<;>rfl
def hJ (r:D):Int×OI:=if kindOf r = "leave" then LR 4 r else LR 3 r
def qC (r:D):Int:=if kindOf r = "root" then je 2 r else je 5 r
def oB (r:D):Bool:=decide (kindOf r = "leave")
def qD {r:D}(g:ce r)(h:kindOf r = "leave"):∃a d b p,∃m:Nat,∃x f,r=row a ("leave" : Str) [.int d,.str b,.str p,.int m,jg x,.int f]/\m∈MS/\mf r=m/\hJ r=x/\qC r=f:=by
 obtain⟨a,k,rest,rfl,d⟩:=g;have hk:k = "leave":=h;clear h;cases d with
 |leave d b p m hm x f=>exact⟨a,d,b,p,m,x,f,rr,hm,S9,by unfold hJ;rw[lH,if_pos rr];exact qZ rr,S9⟩
 |root=>exact j5 hk
 |named=>exact j5 hk
 |three k G=>rcases G with rfl|rfl|rfl<;>exact j5 hk
 |paper k G=>rcases G with rfl|rfl<;>exact j5 hk
 |copy k G=>rcases G with rfl|rfl<;>exact j5 hk
def LW {a:Int}{k:Str}{rest:LD}(d:Dd k rest)(h:k∈gd):(∃i:Nat,mK cb (.str k) (.str "stretch")=sI i/\rest[i]? = some (jg (hJ (row a k rest))))/\(D.str k::rest).getD (4+if k = "leave" then 1 else 0) .non=jg (hJ (row a k rest))/\(4+if k = "leave" then 1 else 0)<(D.str k::rest).length:=by
 cases d with
 |leave d b p m hm x f=>
  have e:hJ (row a ("leave" : Str) [.int d,.str b,.str p,.int m,jg x,.int f])=x:=by unfold hJ;rw[lH,if_pos rr];exact qZ rr
  rw[e];exact⟨⟨4,cY,rr⟩,rr,X9⟩
 |paper k hk d b m hm x r hf hp=>
  have hl:k ≠ "leave":=by rcases hk with rfl|rfl<;>decide +kernel
  have e:hJ (row a k (.int d::.str b::.int m::jg x::r))=x:=by unfold hJ;rw[lH,if_neg hl];exact qZ rr
  rw[e,if_neg hl];exact⟨⟨3,by rcases hk with rfl|rfl<;>exact cY,rr⟩,rr,X9⟩
 |root=>exact j5 h
 |named=>exact j5 h
 |three k G=>rcases G with rfl|rfl|rfl<;>exact j5 h
 |copy k G=>rcases G with rfl|rfl<;>exact j5 h
def Ep (g:ce r)(h:kindOf r∈gd):au [r,.str "stretch"]=some (jg (hJ r),false):=by
 obtain⟨a,k,rest,rfl,d⟩:=g;obtain⟨⟨i,h1,h2⟩,_⟩:=LW  d h;exact b7 h1 h2
def y9 (h:kindOf r = "leave"):kindOf r∈gd:=by rw[h];decide +kernel
def No (g:ce r)(h:bj r=true\/kindOf r = "leave"):au [r,.str "further"]=sI (qC r):=by
 rcases h with h|h
 .obtain⟨a,o,rl,m,f,rfl,_,_⟩:=ub g h;exact b7 (i:=2) cY rr
 .obtain⟨a,d,b,p,m,x,f,e,_,_,_,G⟩:=qD g h;rw[e];exact b7 (i:=5) cY rr
def ud (r v:D):Bool:=decide (mf v &&& mf r=mf r) && !(oB r && decide (qC v<=qC r))
def pK (r v:D):D:=if decide (mf v &&& mf r=mf r)=true then (if(oB r && decide (qC v<=qC r))=true then .str "further" else .non)else .str "matters"
def A8 (O:ce r)(T:ce v)(f:kindOf r∈gd)(kv:bj v=true\/kindOf v = "leave"):∃d,jq [r,v]=some (d,false)/\Bn d .non=sO (ud r v)/\d=pK r v:=by
 have U :=kv.elim (En T) λh=>y8 T (y9 h);have b:aR (fA iV (af (fA au (fV 1 (af (fS "matters") ai))) (af (fA au (fV 0 (af (fS "matters") ai))) ai))) [some (r,false),some (v,false)]=some _:=dH (aG _ (aN (aG _ rr U) (aN (aG _ rr (y8 O f)) rr)) (xf _ _));have g:aR (f2 dA (fA a9 (fV 0 ai)) (fS "leave")) [some (r,false),some (v,false)]=some (oB r):=cn (a:=kindOf r) (bb:=false) (aG [r] rr (jc O.c)) rr;have i:oB r=true->aR (f2 Qv (fA au (fV 0 (af (fS "further") ai))) (fA au (fV 1 (af (fS "further") ai)))) [some (r,false),some (v,false)]=some _:=λh=>dH (bq _ _ (aG _ rr (No O (.inr (Vh h)))) (aG _ rr (No T kv)) rr);have e:=cW g i;unfold ud;cases G:decide (mf v &&& mf r=mf r) with
 |false=>exact⟨.str "matters",aq rr (bC (bF (p:=false) (b.trans (by rw[G]))) (ax rr)),rr,by simp only[pK,G];rfl⟩
 |true=>
  cases M:(oB r && decide (qC v<=qC r)) with
  |true=>exact⟨.str "further",aq rr (a8 (bF (p:=true) (b.trans (by rw[G]))) (bC (e.trans (by rw[M])) (ax rr))),rr,by simp only[pK,G,M];rfl⟩
  |false=>exact⟨.non,aq rr (a8 (bF (p:=true) (b.trans (by rw[G]))) (a8 (e.trans (by rw[M])) (ax rr))),rr,by simp only[pK,G,M];rfl⟩
def ue (h:k∈gd):k∈bR:=by
 have:∀k∈gd,k∈bR:=H9
 exact this k h
def js (h:kindOf r∈gd):bj r=false:=by
 have:∀k∈gd,decide (k = "root")=false:=H9
 exact this _ h
def ug (g:ce r)(h:bj r=false):aV [r]=sI (b9 r):=by
 have:=wS g.c;unfold yy at this;rwa [h]at this
def Cv (cs:List Cl)(r v:D):Bool:=kJ cs (bg 0 v) (bg 3 v) (fL r) (b9 r) && ud r v
def IS (cs:List Cl)(r v:D):D:=if kJ cs (bg 0 v) (bg 3 v) (fL r) (b9 r)=true then pK r v else .str "holder"
def LX (cs:List Cl)(G:cs.length<=60)(M:ce r)(U:ce v)(O:kindOf r∈gd)(b:bj v=true):∃d,i7 [.lst (cs.map bH),r,v]=some (d,false)/\Bn d .non=sO (Cv cs r v)/\d=IS cs r v:=by
 obtain⟨d,e,e2,g⟩:=A8 M U O (.inl b);have c:aR (fA dQ (fV 0 (fV 2 (af (fA au (fV 1 (af (fS "by") ai))) (af (fA aV (fV 1 ai)) ai))))) [sL (cs.map bH),some (r,false),some (v,false)]=some (kJ cs (bg 0 v) (bg 3 v) (fL r) (b9 r)):=by
  refine dH (aG _ (bD rr (bD rr (aN (aG _ rr (Eo M (ky (.inl (ue O))))) (aN (aG [r] rr (ug M (js O))) rr)))) ?_);obtain⟨a,o,rl,m,f,rfl,_,_⟩:=ub U b;exact Ei cs G _ _
 unfold Cv;cases T:kJ cs _ _ _ _ with
 |false=>exact⟨.str _,aq rr (bC (bF (p:=false) (c.trans (by rw[T]))) (ax rr)),rr,by simp only[IS,T];rfl⟩
 |true=>exact⟨d,aq rr (a8 (bF (p:=true) (c.trans (by rw[T]))) (ax (aG [r,v] rr e))),e2,by grind[IS]⟩
def IT (cs:List Cl)(r v:D):Int:=match kI cs (bg 0 v) (bg 3 v) (b9 r) with
 |.tup [_,_,.int n]=>n
 |_=>0
def IU (h:kJ cs o rl p day=true):∃n:Int,kI cs o rl day=.tup [.str "one",.str p,.int n]:=by
 unfold kJ kI at h;unfold kI;generalize Sa cs o _=G at h |-;cases G with
 |nil=>
  have h:fy (.tup [.str _]) _=true:=h;simp  at h
 |cons b r=>
  rw[q9]at h |-;split at h
  .have h:fy (.tup [.str _,.lst _]) _=true:=h;simp  at h
  .rename_i hn;rw[if_neg hn];have h:fy (.tup [.str _,.str _]) _=true:=h;have h :=by simpa [kM]using h
   exact⟨_,by rw[h]⟩
def LY (h:kJ cs (bg 0 v) (bg 3 v) (fL r) (b9 r)=true):kI cs (bg 0 v) (bg 3 v) (b9 r)=.tup [.str "one",.str (fL r),.int (IT cs r v)]:=by
 obtain⟨n,e⟩:=IU h;unfold IT;rw[e]
def Sd (cs:List Cl)(r v:D):D:=.tup [.str "office",.str (bg 0 v),.int (IT cs r v)]
def uh (g:∀r∈aa,ce r)(G:v∈bX (av aa ae)):ce v/\bj v=true:=by
 obtain⟨x,hx,rfl⟩:=vO G;obtain⟨h1,h2⟩:=vN hx;exact⟨g _ (vL (bd h1)),h2⟩
def IV (hl:aa.length<=60)(ae:Int):(bX (av aa ae)).length<=60:=by
 unfold bX;rw[vI];exact vR (vM _ _) (vR (cD _ _) hl)
def FK {aa:LD}(g:∀r∈aa,ce r)(hl:aa.length<=60)(ae:Int)(hn:((bX (av aa ae)).map (bg 0)).Nodup)(cs:List Cl)(M:cs.length<=60){U:Nat}{r:D}(b:aa[U]? = some r)(j:kindOf r∈gd):
    iW [.tup aa,.int ae,.lst (cs.map bH),.int U]=lT (((bX (av aa ae)).filter (Cv cs r)).map (Sd cs r)):=by
  have k:hG aa:=⟨hl,λr b=>(g r b).c⟩;have e:=g r (vL b);have l:=IV hl ae;have h1:=gb (fi:=sx (fA gR (fV 0 (fV 1 ai)))) (nT:=1) (cap:=[2,4]) (tg:=dh 0) (c:=aR (f2 Bn (fA i7 (fV 1 (fV 2 (fV 0 ai)))) (fC .non))) (fe:=aj 0)
    (ρ:=[sT aa,sI ae,sL (cs.map bH),sI U,some (r,false),none]) (bX (av aa ae)) id (Cv cs r) id
    (by show(fA gR _ _).bind _=_;rw[aG [.tup aa,.int ae] rr (ua k ae),uc hn];simp) N9 λv O=>by
      obtain⟨h,G⟩:=uh g O;obtain⟨d,n,e2,_⟩:=LX cs M e h j G;exact⟨[some (v,false),sL (cs.map bH),some (r,false)],rr,dH (bq d .non (aG [.lst (cs.map bH),r,v] rr n) rr e2),λ_=>⟨false,rr⟩⟩
  rw[map_id]at h1;have p:bB ((bX (av aa ae)).filter (Cv cs r))=true:=cm λv O=>(uh g (vN O).1).1.flat;refine aq rr (hU r (bq (.tup aa) (.int U) rr rr (by simp[bx b])) e.flat (c8 h1 p (ax ?_)));refine jK (fi:=bM (aj 5)) (nT:=1) (cap:=[2,4]) (tg:=dh 0)
     _ id (Sd cs r) X9 (vR (vM _ _) N9) λv O=>?_
  obtain⟨q,i⟩:=vN O;obtain⟨h,G⟩:=uh g q;have T:(kJ cs (bg 0 v) (bg 3 v) (fL r) (b9 r) && ud r v)=true:=i;rw[vB]at T;have hh:=LY T.1;refine⟨[some (v,false),sL (cs.map bH),some (r,false)],rr,false,?_⟩;obtain⟨a,o,rl,m,f,rfl,_,_⟩:=ub h G;refine aG [.str "office",.str o,.int (IT cs r _)] (bD rr (aN (aG _ rr lF) (bD (bq (kI cs o rl (b9 r)) (.int 2) (aG _ (bD rr (bD rr (aN (aG [r] rr (ug e (js j))) rr))) (o9 cs M _)) rr ?_) rr))) (bW _ X9);have hh:kI cs o rl (b9 r)=_:=hh;rw[hh];simp[UE]
noncomputable def xg (day:Int)(x:Int×OI):Bool:=decide (x.1<=day) && (match x.2 with|none=>true|some u=>decide (day<u))
noncomputable def Se:OI->OI->Bool
 |_,none=>true
 |none,some _=>false
 |some x,some y=>decide (x<=y)
def LZ (a b:OI):jz [uD a,uD b]=sO (Se a b):=by
 cases b with
 |none=>rfl
 |some y=>
  cases a with
  |none=>rfl
  |some x=>rfl
def IW (a b:Int×OI):Bool:=decide (b.1<=a.1) && Se a.2 b.2
def Px (a b:Int×OI):jr [jg a,jg b]=sO (IW a b) :=
 aq rr (ax (cL (b1:=false) (by simp[jg,A2]) λ_=>aG _ (bD (by simp[jg,yN]) (bD (by simp[jg,yN]) rr)) (LZ _ _)))
def Np {aa:LD}{i:Nat}{r:D}(G:aa[i]? = some r)(g:ce r)(h:bj r=false):fX [.tup aa,.int i]=sT [.int (b9 r),.int i] :=
 aq rr (ax (aG _ (bD (aG _ (by simp[bx G]) (ug g h)) rr) s9))
def Sf (a b c d:Int):QC (.tup [.int a,.int b]) (.tup [.int c,.int d])=sO (decide (a<c\/(a=c/\b<d))):=by
 show(b8 _ _).map _=_;rw[Ps];rfl
def A9 {aa:LD}{i j:Nat}{x y:D}(hx:aa[i]? = some x)(hy:aa[j]? = some y)(G:ce x)(M:ce y)(nx:bj x=false)(O:bj y=false):gK [.tup aa,.int i,.int j]=sO (cZ (x,i) (y,j)) :=
 aq rr (ax (bq _ _ (aG _ rr (Np hx G nx)) (aG _ rr (Np hy M O)) (Sf _ _ _ _)))
def FL (r:D)(G:Nat)(x:D×Nat):Bool:=cZ x (r,G) && ((xg (b9 r) (hJ x.1) && IW (hJ r) (hJ x.1)) && ud r x.1)
def Er (r:D)(G:Nat)(x:D×Nat):D:=if cZ x (r,G)=true then (if(xg (b9 r) (hJ x.1) && IW (hJ r) (hJ x.1))=true then pK r x.1 else .str "days")else .str "order"
def Ma {aa:LD}{M G:Nat}{r l:D}(f:aa[M]? = some r)(hl:aa[G]? = some l)(T:ce r)(a:ce l)(b:kindOf r∈gd)(c:kindOf l = "leave"):∃d,ly [.tup aa,.int M,.int G]=some (d,false)/\Bn d .non=sO (FL r M (l,G))/\d=Er r M (l,G):=by
 have g:=js b;have m:=js (y9 c);obtain⟨d,n,e2,o⟩:=A8 T a b (.inr c);let E:DL.Env:=[sT aa,sI M,sI G,some (r,false),some (jg (hJ l),false)];have i:∀ρ:DL.Env,ρ[0]? = some (sT aa)->ρ[2]? = some (sI G)->f2 bv (aj 0) (aj 2) ρ=some (l,false):=λρ h0 h2=>bq (.tup aa) (.int G) (by simp[h0]) (by simp[h2]) (by simp[bx hl]);have e:aR (fA gK (fV 0 (fV 2 (fV 1 ai)))) E=some (cZ (l,G) (r,M)):=dH (aG _ rr (A9 hl f a T m g));have q:aR (fA iH (af (fA aV (fV 3 ai)) (fV 4 ai))) E=some (xg (b9 r) (hJ l)):=dH (aG _ (aN (aG [r] rr (ug T g)) (bD rr rr)) (yz _ _ _));have s:aR (fA jr (af (fA au (fV 3 (af (fS "stretch") ai))) (fV 4 ai))) E=some (IW (hJ r) (hJ l)):=dH (aG _ (aN (aG [r,.str "stretch"] rr (Ep T b)) (bD rr rr)) (Px _ _));have j:=ci (bF q) λ_=>bF s;have go:∀(h:FS)(res:Option Res),h E=res->a0 (aS 3 (f2 bv (aj 0) (aj 1))) (a0 (aS 4 (fA au (af (f2 bv (aj 0) (aj 2)) (af (fS "stretch") ai)))) h) [sT aa,sI M,sI G,none,none]=res:=λh res k=>
  hU r (bq (.tup aa) (.int M) rr rr (by simp[bx f])) T.flat (hU (jg (hJ l)) (aG [l,.str "stretch"] (aN (i _ rr rr) rr) (Ep a (y9 c))) (lG _) k)
 unfold FL;cases O:cZ (l,G) (r,M) with
 |false=>exact⟨.str "order",aq rr (go _ _ (bC (bF (p:=false) (e.trans (by rw[O]))) (ax rr))),rr,by simp only[Er,O];rfl⟩
 |true=>
  cases U:(xg (b9 r) (hJ l) && IW (hJ r) (hJ l)) with
  |false=>exact⟨.str "days",aq rr (go _ _ (a8 (bF (p:=true) (e.trans (by rw[O]))) (bC (j.trans (by rw[<-Bool.not_and,U];rfl)) (ax rr)))),rr,by simp only[Er,O,U];rfl⟩
  |true=>exact⟨d,aq rr (go _ _ (a8 (bF (p:=true) (e.trans (by rw[O]))) (a8 (j.trans (by rw[<-Bool.not_and,U];rfl)) (ax (aG [r,l] (bD rr (aN (i _ rr rr) rr)) n))))),e2,by rw[o];simp only[Er,O,U];rfl⟩
def mS {aa:LD}{ae:Int}{i:Nat}{r:D}(M:aa[i]? = some r)(g:ce r):gJ [.tup aa,.int ae,.int i]=sO (decide (aZ r<=ae) && oB r):=by
 have G:cM [.tup aa,.int ae,.int i]=sO (decide (aZ r<=ae)):=by
  obtain⟨a,k,rest,rfl,d⟩:=g;exact lE M _
 exact aq rr (ax (cL (aG _ rr G) λ_=>bq _ _ (aG _ (bD (bq _ _ rr rr (by simp[bx M])) rr) (jc g.c)) rr (by simp[oB])))
noncomputable def Cw (K:KL)(p:Str):KL:=(K.filter λx=>oB x.1).filter λx=>decide (bg 2 x.1=p)
def AA (g:∀r∈aa,ce r)(h:x∈Cw (av aa ae) p):aa[x.2]? = some x.1/\ce x.1/\kindOf x.1 = "leave":=by
 obtain⟨h1,_⟩:=vN h;obtain⟨h2,h3⟩:=vN h1;exact⟨bd h2,g _ (vL (bd h2)),Vh h3⟩
def FM {aa:LD}(g:∀r∈aa,ce r)(hl:aa.length<=60)(ae:Int)(p:Str):l5 [.tup aa,.int ae,.str p]=lT ((Cw (av aa ae) p).map λx=>.int x.2):=by
 have M:=cD aa ae;have h1:=gb (fi:=bM (fA dP (fV 0 (fV 1 ai)))) (nT:=1) (cap:=[0,1]) (tg:=dh 0) (c:=aR (fA gJ (fV 1 (fV 2 (fV 0 ai))))) (fe:=aj 0)
  (ρ:=[sT aa,sI ae,sS p,none]) (av aa ae) (λx=>.int x.2) (λx=>oB x.1) (λx=>.int x.2)
  (by show(fA dP _ _).bind _=_;rw[aG _ rr (lB aa (λr O=>(g r O).c.rp) N9 ae)];rfl) N9 λx hx=>by
   have hk :=(vN hx).2;have:=mS (ae:=ae) (bd hx) (g _ (vL (bd hx)));rw[hk,Bool.true_and]at this;exact⟨_,rr,dH (aG _ rr this),λ_=>⟨false,rr⟩⟩
 have G:bB (((av aa ae).filter λx=>oB x.1).map λx=>D.int x.2)=true:=cm λd hd=>by obtain⟨x,_,rfl⟩:=vO hd;rfl
 refine aq rr (c8 h1 G (ax ?_));refine gb (fi:=bM (aj 3)) (nT:=1) (cap:=[2,0]) (tg:=dh 0)  (fe:=aj 0)
  (ρ:=[sT aa,sI ae,sS p,lT (((av aa ae).filter λx=>oB x.1).map λx=>.int x.2)]) ((av aa ae).filter λx=>oB x.1) (λx=>.int x.2) _ (λx=>.int x.2) X9 (vR (vM _ _) N9) λx hx=>?_
 obtain⟨h2,h3⟩:=vN hx;obtain⟨a,d,b,q,m,st,f,e,_⟩:=qD (g _ (vL (bd h2))) (Vh h3);refine⟨[sI x.2,sS p,sT aa],rr,dH (bq (.str (bg 2 x.1)) (.str p) (aG [x.1,.str "person"] (bD (bq (.tup aa) (.int x.2) rr rr (by simp[bx (bd h2)])) rr) ?_) rr X9),λ_=>⟨false,rr⟩⟩;rw[e];exact b7 (i:=2) cY rr
def FN {aa:LD}(g:∀r∈aa,ce r)(hl:aa.length<=60)(ae:Int){G:Nat}{r:D}(M:aa[G]? = some r)(T:kindOf r∈gd):
    j0 [.tup aa,.int ae,.int G]=lT (((Cw (av aa ae) (fL r)).filter (FL r G)).map λx=>.tup [.str "leave",.int x.2]):=by
  have U:=g r (vL M);have c:=cD aa ae;have a:(Cw (av aa ae) (fL r)).length<=60:=vR (vM _ _) (vR (vM _ _) N9);have O:bB ((Cw (av aa ae) (fL r)).map λx=>D.int x.2)=true:=cm λd hd=>by obtain⟨x,_,rfl⟩:=vO hd;rfl
  refine aq rr (c8  (aG _ (bD rr (bD rr (aN (aG _ (bD (bq _ _ rr rr (by simp[bx M])) rr) (Eo U (ky (.inl (ue T))))) rr))) (FM g hl _ _)) O (ax ?_));refine gb
     _ (λx=>.int x.2) _ _ X9 N9 λx hx=>?_
  obtain⟨h1,h2,h3⟩:=AA g hx;obtain⟨d,b,e2,_⟩:=Ma M h1 U h2 T h3;exact⟨[sF _,sF _,sF _],rr,dH (bq d _ (aG _ rr b) rr e2),λ_=>⟨false,aG _ rr (bW _ X9)⟩⟩
abbrev Bs:=Option Str×Int
noncomputable def Mb:Bs->D
 | (some o,n)=>.tup [.str "office",.str o,.int n]
 | (none,n)=>.tup [.str "leave",.int n]
noncomputable def AB:Bs->List At
 | (some o,n)=>[.i n,.s ("office" : Str),.s o,.i n]
 | (none,n)=>[.i n,.s ("leave" : Str),.i n]
def IX (b:Bs):bf (Mb b)=true:=by rcases b with⟨_|o,n⟩<;>rfl
def Mc (b:Bs):bv (Mb b) (.int (-1))=sI b.2:=by rcases b with⟨_|o,n⟩<;>rfl
def IY (a b:Bs):(b8 (AB a) (AB b)).isSome=true:=by
 have M:("office" : Str) ≠ "leave":=H9
 rcases a with⟨_|o,n⟩<;>rcases b with⟨_|o',G⟩
 .show(b8 [.i n,.s _,.i n] [.i G,.s _,.i G]).isSome=true;rw[b8];split
  .simp_all[b8]
  .rfl
 .show(b8 [.i n,.s _,.i n] [.i G,.s _,.s o',.i G]).isSome=true;rw[b8];split
  .rfl
  .rfl
 .show(b8 [.i n,.s _,.s o,.i n] [.i G,.s _,.i G]).isSome=true;rw[b8];split
  .rfl
  .rfl
 .show(b8 [.i n,.s _,.s o,.i n] [.i G,.s _,.s o',.i G]).isSome=true;rw[b8];split
  .rw[b8,if_pos rr,b8];split
   .simp_all[b8]
   .rfl
  .rfl
def Md (h:AB a=AB b):a=b:=by
 rcases a with⟨_|o,n⟩<;>rcases b with⟨_|o',G⟩<;>simp[AB]at h
 .rw[h]
 .rw[h.1,h.2.1]
def Es (l:List Bs):dJ (l.map AB)=true:=by
 simp_all[dJ,IY]
theorem IZ (e:cK (AB a)=cK (AB b)):a=b:=Md (lQ (Es [a,b]) X9 X9 e)
def Yb (cs:List Cl)(r v:D):Bs:=(some (bg 0 v),IT cs r v)
def Cy (K:KL)(cs:List Cl)(r:D)(G:Nat):List Bs:=((bX K).filter (Cv cs r)).map (Yb cs r)++((Cw K (fL r)).filter (FL r G)).map λx=>(none,(x.2:Int))
def Py (K:KL)(cs:List Cl)(r:D)(G:Nat):List Bs:=eO (λb=>cK (AB b)) (Cy K cs r G)
def FP (hn:((bX (av aa ae)).map (bg 0)).Nodup)(cs:List Cl)(r:D)(G:Nat):(Cy (av aa ae) cs r G).Nodup:=by
 unfold Cy;rw[nodup_append];refine⟨?_,?_,?_⟩
 .exact pairwise_map.mpr ((List.Pairwise.sublist filter_sublist (pairwise_map.mp hn)).imp λh e=>h (vK (Prod.mk.inj e).1))
 .refine pairwise_map.mpr ((List.Pairwise.sublist (filter_sublist.trans (filter_sublist.trans filter_sublist)) (pairwise_map.mp (fm _ _))).imp λh e=>h ?_);lia
 .intro a ha b hb e;obtain⟨v,_,rfl⟩:=vO ha;obtain⟨x,_,rfl⟩:=vO hb;cases (Prod.mk.inj e).1
theorem xh {α:Type}{g:α->D}{h:α->List At}:∀(l:List α),(∀x∈l,Pf (g x)=some (h x))->mv (l.map g)=some (l.map h)
 |[],_=>rr
 |x::l,k=>by
  rw[uX,mv,k x mX,xh l λy hy=>k y (mZ _ hy)];rfl
def Et (hl:aa.length<=30)(ae:Int)(cs:List Cl)(r:D)(G:Nat):(Cy (av aa ae) cs r G).length<=60:=by
 have h1:((bX (av aa ae)).filter (Cv cs r)).length<=30:=by
  grind[bX,cD]
 have h2:((Cw _ (fL r)).filter (FL r G)).length<=30:=vR (vM _ _) (vR (vM _ _) (vR (vM _ _) (vR (cD _ ae) hl)));unfold Cy;rw[uY,vI,vI];lia
def Ja {f:FE}{ρ:DL.Env}{b:Bool}(l:List Bs)(hl:l.length<=60)(hn:l.Nodup)(e:f ρ=some (.lst (l.map Mb),b)):Ch f (uQ [] (fA aO (af (f2 bv (aj 0) (f1 zr (fI 1))) (fV 0 ai)))) ρ=lT ((eO (λb=>cK (AB b)) l).map Mb):=by
 have hm:kZ (uQ [] (fA aO (af (f2 bv (aj 0) (f1 zr (fI 1))) (fV 0 ai))) ρ) _=some _:=ja l λb _=>by
  show(fA aO _ _).map _=_;rw[aG _ (bD (bq _ _ rr rr (Mc b)) (bD rr rr)) (bW _ X9)];rfl
 have hk:mv (l.map λb=>D.tup [.int b.2,Mb b])=some (l.map AB):=xh l λb _=>by rcases b with⟨_|o,n⟩<;>rfl
 have G:(l.map AB).length<64/\dJ (l.map AB)=true/\True/\((l.map AB).map cK).Nodup:=by
  refine⟨by rw[vI];lia,Es l,trivial,?_⟩;rw[uO];exact pairwise_map.mpr (List.Pairwise.imp (λh e=>h (IZ e)) hn)
 unfold Ch yj;rw[e];simp only[vJ];rw[hm];simp only[vJ];rw[hk];simp only[vJ];rw[if_pos G];unfold jI;have M:((eO (λb=>cK (AB b)) l).map λb=>(AB b,Mb b))=eO (λp=>cK p.1) (l.map λb=>(AB b,Mb b)):=by
  refine jG _ (λx hx y hy e=>?_) ((aW _ _).map _) ?_
  .grind[IZ]
  .exact pairwise_map.mpr (eP _ _)
 rw[zip_map',<-M,uO];rfl
section
variable {aa:LD}(g:∀r∈aa,ce r) (hl:aa.length<=30) (ae:Int) (hn:((bX (av aa ae)).map (bg 0)).Nodup)
include g hl hn
theorem AD (cs:List Cl)(h:cs.length<=60){G:Nat}{r:D}(O:aa[G]? = some r)(U:kindOf r∈gd)(hk:aZ r<=ae):fZ [.tup aa,.int ae,.lst (cs.map bH),.int G]=lT ((Py (av aa ae) cs r G).map Mb):=by
 have e:=g r (vL O);have f:∀(ρ:DL.Env)(j:Nat),ρ[0]? = some (sT aa)->ρ[j]? = some (sI G)->fA a9 (af (f2 bv (aj 0) (aj j)) ai) ρ=sS (kindOf r):=λρ j h0 h2=>aG [r] (bD (bq (.tup aa) (.int G) (by simp[h0]) (by simp[h2]) (by simp[bx O])) rr) (jc e.c);have i:cM [.tup aa,.int ae,.int G]=sO true:=by
  obtain⟨a,k,rest,rfl,d⟩:=id e;rw[lE O ae,pP (show a<=ae from hk)]
 have l:cj [.tup aa,.int ae,.int G]=sO (decide _):=aq rr (ax (cL (p:=true) (aG [.tup aa,.int ae,.int G] rr i) λ_=>bq (.str (kindOf r)) (.tup ([("paper" : Str),"like","copy"].map .str)) (f _ 2 rr rr) rr (jP _ _)));have hb:eW [.tup aa,.int ae,.int G]=sO true:=by
  refine(aq rr (ax (qi (aG [.tup aa,.int ae,.int G] rr (mS O e)) λ_=>aG [.tup aa,.int ae,.int G] rr l))).trans ?_;rw[pP hk,Bool.true_and];have:∀k∈gd,(decide (k = "leave") || decide (k∈[("paper" : Str),"like","copy"]))=true:=H9
  unfold oB;rw[this _ U]
 have m:decide (kindOf r = "copy")=false:=by
  have:∀k∈gd,decide (k = "copy")=false:=H9
  exact this _ U
 have T:=Et hl ae cs r G;have n:bB ((Cy (av aa ae) cs r G).map Mb)=true:=cm λd hd=>by obtain⟨b,_,rfl⟩:=vO hd;exact IX b
 refine aq rr (a8 (bF (p:=true) (dH (aG [.tup aa,.int ae,.int G] rr hb))) (a8 (cn (a:=kindOf r) (bb:=false) (f _ 3 rr rr) m) (c8  ?_ n (ax (Ja (b:=false) _ T (FP hn cs r G) rr)))));have ho:=FK g N9 ae hn cs h O U;have o:=FN g N9 ae O U;refine fU   (b1:=true) (b2:=true) (aG _ rr ho) (aG [.tup aa,.int ae,.int G] rr o) ?_;have M:=T;unfold Cy at M |-;rw[uY,vI,vI]at M;refine(if_pos (dX (by grind))).trans ?_;rw[uV,uO,uO];rfl
end
def Pz (K:KL)(c r:D):Bool:=decide (fL c=fL r) || (!decide (kindOf r = "copy") && (bX K).any λv=>decide (mf v &&& mf r=mf r) && kJ (bI K) (bg 0 v) (bg 3 v) (fL c) (b9 c))
def Cz {α:Type}(l:List α)(p f:α->Bool):((l.filter p).map f).any id=l.any λx=>p x && f x:=by
 simp
def P0 {aa:LD}(g:∀r∈aa,ce r)(hl:aa.length<=60)(ae:Int)(t:(bI (av aa ae)).length<=60)(hn:((bX (av aa ae)).map (bg 0)).Nodup){M O:Nat}{c r:D}(hc:aa[M]? = some c)(d:aa[O]? = some r)(j:kindOf c = "call")(l:kindOf r∈bR):
  mQ [.tup aa,.int ae,.lst ((bI (av aa ae)).map bH),.int M,.int O]=sO (Pz (av aa ae) c r):=by
 have u:hG aa:=⟨hl,λr d=>(g r d).c⟩;have n:=g c (vL hc);have e:=g r (vL d);have p:=bx hc;have w:=bx d;have y:=Eo n (ky (.inr j));have z:=Eo e (ky (.inl l));have T:∀v∈bX (av aa ae),ce v/\bj v=true:=λv U=>by
  obtain⟨x,hx,rfl⟩:=vO U;obtain⟨h1,h2⟩:=vN hx;exact⟨g _ (vL (bd h1)),h2⟩
 have A:(bX (av aa ae)).length<=60:=by
  unfold bX;rw[vI];exact vR (vM _ _) (vR (cD aa ae) hl)
 have B:aV [c]=sI (b9 c):=by
  have:=wS n.c;unfold yy at this;rwa [if_neg (by unfold bj;rw[j];decide +kernel)]at this
 have q:∀(b:OB),aR (f2 dA (aj 6) (fA au (fV 5 (af (fS "by") ai)))) [sT aa,sI ae,sL ((bI (av aa ae)).map bH),sI M,sI O,some (r,false),sS (fL c),b]=some (decide (fL c=fL r)):=λb=>dH (bq (.str (fL c)) (.str (fL r)) rr (aG [r,.str "by"] rr z) X9);have s:∀(b:OB),aR (f2 dA (fA a9 (fV 5 ai)) (fS "copy")) [sT aa,sI ae,sL ((bI (av aa ae)).map bH),sI M,sI O,some (r,false),sS (fL c),b]=some (decide (kindOf r = "copy")):=λb=>cn (a:=kindOf r) (bb:=false) (aG [r] rr (jc e.c)) rr;refine aq rr (hU r (bq (.tup aa) (.int O) rr rr (by simp[w])) e.flat (hU (.str (fL c)) (aG [c,.str "by"] (bD (bq (.tup aa) (.int M) rr rr (by simp[p])) rr) y) rr ?_));unfold Pz;cases h1:decide (fL c=fL r) with
 |true=>exact bC ((q none).trans (by rw[h1])) (ax rr)
 |false=>
  refine a8 ((q none).trans (by rw[h1])) ?_;cases h2:decide (kindOf r = "copy") with
  |true=>exact bC ((s none).trans (by rw[h2])) (ax rr)
  |false=>
   have C:kindOf r∈gd:=by
    have E:=of_decide_eq_false h2;have:∀k∈bR,k ≠ "copy"->k∈gd:=H9
    exact this _ l E
   have pm:=y8 e C;refine a8 ((s none).trans (by rw[h2])) ?_;have G:=gb (fi:=sx (fA gR (fV 0 (fV 1 ai)))) (nT:=1) (cap:=[5]) (tg:=dh 0) (c:=aR (fA iV (af (fA au (fV 0 (af (fS "matters") ai))) (af (fA au (fV 1 (af (fS "matters") ai))) ai)))) (fe:=aj 0)
    (ρ:=[sT aa,sI ae,sL ((bI (av aa ae)).map bH),sI M,sI O,some (r,false),sS (fL c),none]) (bX (av aa ae)) id (λv=>decide (mf v &&& mf r=mf r)) id
    (by show(fA gR _ _).bind _=_;rw[aG [.tup aa,.int ae] rr (ua u ae),uc hn];simp) N9 λv U=>by
     obtain⟨h,i⟩:=T v U;exact⟨[some (v,false),some (r,false)],rr,dH (aG [.int (mf v),.int (mf r)] (aN (aG [v,.str "matters"] rr (En h i)) (aN (aG [r,.str "matters"] rr pm) rr)) (xf _ _)),λ_=>⟨false,rr⟩⟩
   rw[map_id]at G;refine c8  G (cm λv U=>(T v (vN U).1).1.flat) (ax ?_);have F:=jK (fi:=bM (aj 7)) (nT:=1) (cap:=[2,6,0,3]) (tg:=dh 0) (fe:=fA dQ (fV 1 (fV 0 (fV 2 (af (fA aV (af (f2 bv (aj 3) (aj 4)) ai)) ai)))))
    (ρ:=[sT aa,sI ae,sL ((bI (av aa ae)).map bH),sI M,sI O,some (r,false),sS (fL c),lT ((bX (av aa ae)).filter λv=>decide (mf v &&& mf r=mf r))]) ((bX (av aa ae)).filter λv=>decide (mf v &&& mf r=mf r)) id (λv=>.bl (kJ (bI (av aa ae)) (bg 0 v) (bg 3 v) (fL c) (b9 c)))
    X9 (vR (vM _ _) N9) λv U=>by
     obtain⟨h,i⟩:=T v (vN U).1;obtain⟨a,o,rl,m,f,rfl,_,_⟩:=ub h i;exact⟨[some (row a ("root" : Str) [.str o,.int m,.int f,.str rl],false),sL ((bI (av aa ae)).map bH),sS (fL c),sT aa,sI M],rr,false,aG _ (bD rr (bD rr (bD rr (aN (aG [c] (bD (bq (.tup aa) (.int M) rr rr (by simp[p])) rr) B) rr)))) (Ei _ t _ _)⟩
   refine(aG [_] (aN F rr) ?_);show(xR _).map _=_;rw[IB,Option.map_some,Cz];rfl
def C0 (g:ce r)(h:kindOf r = "call"):∃a d b,∃n:Nat,r=row a ("call" : Str) [.int d,.str b,.int n]:=by
 obtain⟨a,k,rest,rfl,d⟩:=g;have hk:k = "call":=h;clear h;cases d with
 |copy k G d b n=>subst hk;exact⟨a,d,b,n,rr⟩
 |root=>exact j5 hk
 |named=>exact j5 hk
 |three k G=>rcases G with rfl|rfl|rfl<;>exact j5 hk
 |leave=>exact j5 hk
 |paper k G=>rcases G with rfl|rfl<;>exact j5 hk
def Me (aa:LD)(ae:Int)(G:Nat)(r:D)(day:Int)(c:D):Bool:=decide (kindOf c = "call") && (decide (je 2 c=G) && (decide (b9 c<=day) && (lD aa ae c && Pz (av aa ae) c r)))
def ui (e:f ρ=some (.str a,bb)):aR (f2 mB f (fS b)) ρ=some (!decide (a=b)):=by simp_all
section
variable {aa:LD}(g:∀r∈aa,ce r) (hl:aa.length<=60) (ae:Int) (mm:(bI (av aa ae)).length<=60) (hn:((bX (av aa ae)).map (bg 0)).Nodup)
include g hl mm hn
theorem AE {M G:Nat}{c r:D}(hc:aa[M]? = some c)(U:aa[G]? = some r)(j:kindOf r∈bR)(day:Int):kj [.tup aa,.int ae,.lst ((bI (av aa ae)).map bH),.int M,.int G,.int day]=sO (Me aa ae G r day c):=by
 have T:=g c (vL hc);have k:=bx hc;have f:aR (f2 mB (fA a9 (fV 6 ai)) (fS "call")) [sT aa,sI ae,sL ((bI (av aa ae)).map bH),sI M,sI G,sI day,some (c,false)]=some (!decide (kindOf c = "call")):=ui (a:=kindOf c) (bb:=false) (aG [c] rr (jc T.c));refine aq rr (hU c (bq (.tup aa) (.int M) rr rr (by simp[k])) T.flat ?_);unfold Me;by_cases hk:kindOf c = "call"
 .obtain⟨a,d,b,n,e⟩:=C0 T hk;have l:je 2 c=(n:Int):=by rw[e];rfl
  have e2:b9 c=d:=by rw[e];rfl
  have po:au [c,.str "of"]=sI n:=by rw[e];exact b7 (i:=2) cY rr
  have m:aV [c]=sI d:=by
   have:=wS T.c;unfold yy at this;rwa [if_neg (by unfold bj;rw[hk];decide +kernel),e2]at this
  have o:aR (f2 mB (fA au (fV 6 (af (fS "of") ai))) (aj 4)) [sT aa,sI ae,sL ((bI (av aa ae)).map bH),sI M,sI G,sI day,some (c,false)]=some (!decide ((n:Int)=G)):=dH (bq (.int n) (.int G) (aG [c,.str "of"] rr po) rr X9);have s:aR (f2 BB (fA aV (fV 6 ai)) (aj 5)) [sT aa,sI ae,sL ((bI (av aa ae)).map bH),sI M,sI G,sI day,some (c,false)]=some (decide (day<d)):=dH (bq (.int d) (.int day) (aG [c] rr m) rr rr);have O:=ci f λ_=>ci o λ_=>s;rw[l,e2,pP hk,Bool.true_and];rw[pP hk]at O;by_cases h1:(n:Int)=G
  .by_cases h2:d<=day
   .rw[pP h1,pP h2,Bool.true_and,Bool.true_and];rw[pP h1,TK N9]at O;exact a8 O (ax (cL (aG [.tup aa,.int ae,.int M] rr (tQ aa (λr U=>(g r U).c.rp) N9 ae hc)) λ_=>aG _ rr (P0 g hl ae mm hn hc U hk j)))
   .rw[TK h2,Bool.false_and,Bool.and_false];rw[pP h1,pP (show day<d by lia)]at O;exact bC O (ax rr)
  .rw[TK h1,Bool.false_and];rw[TK h1]at O;exact bC O (ax rr)
 .rw[TK hk,Bool.false_and];refine bC (ci (p:=true) (q:=false) (f.trans (by rw[TK hk];rfl)) λh=>by cases h) (ax rr)
def pL (aa:LD)(ae:Int)(G:Nat)(r:D)(day:Int):LN:=if aZ r<=ae/\kindOf r∈bR then ((av aa ae).filter λx=>Me aa ae G r day x.1).map (·.2)else []
theorem qE {G:Nat}{r:D}(M:aa[G]? = some r)(day:Int):km [.tup aa,.int ae,.lst ((bI (av aa ae)).map bH),.int G,.int day]=lT ((pL aa ae G r day).map λn:Nat=>.int n):=by
 have f:=g r (vL M);have i:=bx M;have T:cM [.tup aa,.int ae,.int G]=sO (decide (aZ r<=ae)):=by
  obtain⟨a,k,rest,e,d⟩:=f;rw[e]at M;rw[show aZ r=a by rw[e];rfl];exact lE M ae
 have h:∀ρ:DL.Env,ρ[0]? = some (sT aa)->ρ[2]? = some (sI G)->fA a9 (af (f2 bv (aj 0) (aj 2)) ai) ρ=sS (kindOf r):=λρ h0 h2=>aG [r] (bD (bq (.tup aa) (.int G) (by simp[h0]) (by simp[h2]) (by simp[i])) rr) (jc f.c);have U:gJ [.tup aa,.int ae,.int G]=sO (decide (aZ r<=ae) && decide (kindOf r = "leave")):=aq rr (ax (cL (aG [.tup aa,.int ae,.int G] rr T) λ_=>bq (.str (kindOf r)) (.str "leave") (h _ rr rr) rr X9));have j:cj [.tup aa,.int ae,.int G]=sF _:=aq rr (ax (cL (aG [.tup aa,.int ae,.int G] rr T) λ_=>bq (.str (kindOf r)) (.tup ([("paper" : Str),"like","copy"].map .str)) (h _ rr rr) rr (jP _ _)));have hb:eW [.tup aa,.int ae,.int G]=sO (decide (aZ r<=ae/\kindOf r∈bR)):=by
  refine(aq rr (ax (qi (aG [.tup aa,.int ae,.int G] rr U) λ_=>aG [.tup aa,.int ae,.int G] rr j))).trans ?_;congr 3;simp only[bR,mem_cons,not_mem_nil,or_false];by_cases h1:aZ r<=ae
  .simp[h1]
  .simp[h1]
 unfold pL;by_cases hx:aZ r<=ae/\kindOf r∈bR
 .rw[if_pos hx];refine aq rr (a8 (bF (p:=true) (dH (aG [.tup aa,.int ae,.int G] rr (by rw[hb,pP hx])))) (ax ?_));have O:=gb (fi:=bM (fA dP (fV 0 (fV 1 ai)))) (nT:=1) (cap:=[0,1,2,3,4]) (tg:=dh 0) (c:=aR (fA kj (fV 1 (fV 2 (fV 3 (fV 0 (fV 4 (fV 5 ai)))))))) (fe:=aj 0)
   (ρ:=[sT aa,sI ae,sL ((bI (av aa ae)).map bH),sI G,sI day]) (av aa ae) (λx=>.int x.2) (λx=>Me aa ae G r day x.1) (λx=>.int x.2)
   (by show(fA dP _ _).bind _=_;rw[aG [.tup aa,.int ae] rr (lB aa (λr M=>(g r M).c.rp) N9 ae)];rfl) (vR (cD aa ae) N9) λx b=>by
    exact⟨_,rr,dH (aG _ rr (AE g hl ae mm hn (bd b) M hx.2 day)),λ_=>⟨false,rr⟩⟩
  rw[uO];exact O
 .rw[if_neg hx];exact aq rr (bC (bF (p:=false) (dH (aG [.tup aa,.int ae,.int G] rr (by rw[hb,TK hx])))) (ax (aG [] rr (fF _ X9))))
omit mm in
end
noncomputable def bL:LS:=[("paper" : Str),"like","copy"]
noncomputable def uB (w:Str):Bs->D
 | (some o,n)=>.tup [.str "office",.str o,.int n]
 | (none,n)=>.tup [.str w,.int n]
def JZ (r:D):Str:=if kindOf r = "copy" then ("copy" : Str)else ("leave" : Str)
def AF (w:Str)(b:Bs):bf (uB w b)=true:=by rcases b with⟨_|o,n⟩<;>rfl
def xi {aa:LD}{n:Nat}(h:aa.length<=n)(ae:Int):cM [.tup aa,.int ae,.int n]=sO false:=by
 refine aq rr (ax (cL (p:=false) (q:=false) (b1:=false) ?_ λz=>by cases z));have h1:¬(n:Int)<aa.length:=N9
 exact(jJ (p:=true)    (z:=.int aa.length)   (b3:=false) (b4:=false) rr rr X9 X9 λ_=>by simp[h1])
def Jb {aa:LD}{i:Nat}{r:D}(G:aa[i]? = some r)(g:ce r)(ae:Int):cM [.tup aa,.int ae,.int i]=sO (decide (aZ r<=ae)):=by
 obtain⟨a,k,rest,rfl,d⟩:=g;exact lE G _
def Eu {aa:LD}{i:Nat}{r:D}(G:aa[i]? = some r)(g:ce r){ρ:DL.Env}{j:Nat}(h0:ρ[0]? = some (sT aa))(hj:ρ[j]? = some (sI i)):fA a9 (af (f2 bv (aj 0) (aj j)) ai) ρ=sS (kindOf r) :=
 aG _ (bD (bq (.tup aa) (.int i) (by simp[h0]) (by simp[hj]) (by simp[bx G])) rr) (jc g.c)
def lI {aa:LD}{i:Nat}{r:D}(G:aa[i]? = some r)(g:ce r)(ae:Int):cj [.tup aa,.int ae,.int i]=sO (decide (aZ r<=ae) && decide (kindOf r∈bL)) :=
 aq rr (ax (cL (aG _ rr (Jb G g _)) λ_=>bq _ (.tup (bL.map _)) (Eu G g rr rr) rr (jP _ _)))
def AG {aa:LD}{i:Nat}{r:D}(G:aa[i]? = some r)(g:ce r)(ae:Int):eW [.tup aa,.int ae,.int i]=sO (decide (aZ r<=ae) && decide (kindOf r∈bR)):=by
 refine(aq rr (ax (qi (aG _ rr (mS G g)) λ_=>aG _ rr (lI G g _)))).trans ?_;unfold oB;simp only[bR,bL,or_false];by_cases h1:aZ r<=ae
 .simp[h1]
 .simp[h1]
def eG (aa:LD)(ae:Int)(r:D)(G n:Nat):Bool:=match aa[n]? with
 |none=>false
 |some q=>(decide (aZ q<=ae) && decide (kindOf q∈bL)) && cZ (q,n) (r,G)
def kB (g:ce r)(h:kindOf r = "copy"):∃a d b,∃n:Nat,r=row a ("copy" : Str) [.int d,.str b,.int n]:=by
 obtain⟨a,k,rest,rfl,d⟩:=g;have hk:k = "copy":=h;clear h;cases d with
 |copy k G d b n=>subst hk;exact⟨a,d,b,n,rr⟩
 |root=>exact j5 hk
 |named=>exact j5 hk
 |three k G=>rcases G with rfl|rfl|rfl<;>exact j5 hk
 |leave=>exact j5 hk
 |paper k G=>rcases G with rfl|rfl<;>exact j5 hk
def uj (h:kindOf r∈bL):bj r=false:=by
 have:∀k∈bL,decide (k = "root")=false:=H9
 exact this _ h
def FQ {aa:LD}(g:∀r∈aa,ce r)(ae:Int){G:Nat}{r:D}(O:aa[G]? = some r)(T:kindOf r = "copy"):∃n:Nat,je 2 r=n/\ki [.tup aa,.int ae,.int G]=lT ((if eG aa ae r G n=true then [((none,(n:Int)):Bs)]else []).map (uB ("copy" : Str))):=by
 have U:=g r (vL O);obtain⟨a,d,b,n,er⟩:=kB U T;have f:bj r=false:=uj (by rw[T];decide +kernel);have po:au [r,.str "of"]=sI n:=by rw[er];exact b7 (i:=2) cY rr
 refine⟨n,by rw[er];rfl,?_⟩;let E:DL.Env:=[sT aa,sI ae,sI G,sI n];refine aq rr (hU (.int n) (aG [r,.str "of"] (bD (bq (.tup aa) (.int G) rr rr (by simp[bx O])) rr) po) rr ?_);have M:eE (aR (fA cj (fV 0 (fV 1 (fV 3 ai))))) (aR (fA gK (fV 0 (fV 3 (fV 2 ai))))) E=some (eG aa ae r G n):=by
  unfold eG;cases hq:aa[n]? with
  |none=>
   have hn:aa.length<=n:=List.getElem?_eq_none_iff.mp hq;exact cW (p:=false) (q:=false) (dH (aG [.tup aa,.int ae,.int n] rr (aq rr (ax (cL (p:=false) (q:=false) (aG [.tup aa,.int ae,.int n] rr (xi hn ae)) λz=>by cases z))))) λz=>by cases z
  |some q=>
   have c:=g q (vL hq);exact cW (dH (aG [.tup aa,.int ae,.int n] rr (lI hq c ae))) λh=>by
    rw[vB]at h;exact dH (aG [.tup aa,.int n,.int G] rr (A9 hq O c U (uj (Vh h.2)) f))
 cases e:eG aa ae r G n with
 |true=>
  rw[e]at M;rw[if_pos rr];exact bC M (ax (aG [.tup [.str "copy",.int n]] (bD (aG [.str "copy",.int n] rr (bW _ X9)) rr) (fF _ X9)))
 |false=>
  rw[e]at M;rw[if_neg Z9];exact a8 M (ax (aG [] rr (fF _ X9)))
def m7 (aa:LD)(ae:Int)(cs:List Cl)(x:D×Nat):List Bs:=if kindOf x.1 = "copy" then (if eG aa ae x.1 x.2 (je 2 x.1).toNat=true then [(none,je 2 x.1)]else [])else Py (av aa ae) cs x.1 x.2
section
variable {aa:LD}(g:∀r∈aa,ce r) (hl:aa.length<=30) (ae:Int) (hn:((bX (av aa ae)).map (bg 0)).Nodup)
include g hl hn
theorem Mf (cs:List Cl)(O:cs.length<=60){T:Nat}{r:D}(M:aa[T]? = some r)(a:kindOf r∈bR)(hk:aZ r<=ae):fZ [.tup aa,.int ae,.lst (cs.map bH),.int T]=lT ((m7 aa ae cs (r,T)).map (uB (JZ r))):=by
 have U:=g r (vL M);unfold m7 JZ;by_cases G:kindOf r = "copy"
 .rw[if_pos G,if_pos G];obtain⟨n,b,e2⟩:=FQ g _ M G;rw[b];refine aq rr (a8 (bF (p:=true) (dH (aG _ rr ((AG M U _).trans (by simp_all))))) (bC (cn   (Eu M U rr rr) (pP G)) (ax (aG _ rr e2))))
 .rw[if_neg G,if_neg G];have c :=by
   have:∀k∈bR,k ≠ "copy"->k∈gd:=H9
   exact this _ a G
  exact AD g hl _ hn cs O M c hk
end
def P1 (e:f (j9 ρ)=some (d,b))(k:h (ρ.set i (some (d,false)))=r):a0 (CW i f) h ρ=r:=by simp_all
def Ev (e:ρ[i]? = some (some (.dk ks vs,b))):io i ρ=some (.rt (.dk ks vs) false):=by simp[io,e]
noncomputable def kN (x:D×Nat):fG:=.inl (x.2:Int)
def mh (aa:LD)(ae day:Int)(x:D×Nat):Bool:=(lD aa ae x.1 && decide (b9 x.1<=day)) && (pL aa ae x.2 x.1 day).isEmpty
def Mg {α:Type}(l:List α)(f:α->D):decide ((((l.map f).length:Nat):Int)=0)=l.isEmpty:=by
 cases l with
 |nil=>rfl
 |cons a l=>rfl
noncomputable def mi (aa:LD)(ae day:Int)(l:KL):KL:=l.filter λx=>decide (kindOf x.1∈bR) && mh aa ae day x
section
variable {aa:LD}(g:∀r∈aa,ce r) (hl:aa.length<=30) (ae:Int) (hn:((bX (av aa ae)).map (bg 0)).Nodup)
include g hl hn
theorem P2 (M:(bI (av aa ae)).length<=60){O:Nat}{r:D}(G:aa[O]? = some r)(a:kindOf r∈bR)(day:Int):ou [.tup aa,.int ae,.lst ((bI (av aa ae)).map bH),.int O,.int day]=sO (mh aa ae day (r,O)):=by
 have b:=g r (vL G);have d :=by
  have:∀k∈bR,decide (k = "root")=false:=H9
  exact this _ a
 let E:DL.Env:=[sT aa,sI ae,sL ((bI (av aa ae)).map bH),sI O,sI day];have f:aR (fA eU (fV 0 (fV 1 (fV 3 ai)))) E=some _:=dH (aG _ rr (tQ aa (λr G=>(g r G).c.rp) N9 ae G));have h:aR (f2 BB (fA aV (af (f2 bv (aj 0) (aj 3)) ai)) (aj 4)) E=some _:=dH (bq _ (.int day) (aG [r] (bD (bq (.tup aa) (.int O) rr rr (by simp[bx G])) rr) (ug b d)) rr rr);have T:=ci (bF f) λ_=>h;have e:(!lD aa ae r || decide (day<b9 r)) = !(lD aa ae r && decide (b9 r<=day)):=by
  rw[Bool.not_and];congr 1;rw[<-decide_not];congr 1;rw[Int.not_le]
 rw[e]at T;unfold mh;cases U:(lD aa ae r && decide (b9 r<=day)) with
 |false=>
  rw[U]at T;exact aq rr (bC T (ax rr))
 |true=>
  rw[U]at T;refine aq rr (a8 T (ax ?_));rw[Bool.true_and,<-Mg _ λn:Nat=>.int n];exact bq _ (.int 0) (aG _ (aN (aG _ rr (qE g N9 ae M hn G day)) rr) rr) rr X9
theorem AH (ho:(cN (av aa ae)).length<=60)(day:Int):oy [.tup aa,.int ae,.int day]=sF (.dk ((mi aa ae day (cN (av aa ae))).map kN) ((mi aa ae day (cN (av aa ae))).map λx=>.lst ((m7 aa ae (bI (av aa ae)) x).map (uB (JZ x.1))))):=by
 have m:hG aa:=⟨N9,λr T=>(g r T).c⟩;obtain⟨n,M⟩:=wZ (aa:=aa) m ae ho;have o:eQ [.tup aa,.int ae]=lT ((cN (av aa ae)).map λx=>.int x.2):=qz m ae;generalize U:bI (av aa ae)=cs at n M |-;have G:∀x∈cN (av aa ae),x∈av aa ae:=λx hx=>(vN ((aW _ _).mem_iff.mp hx)).1;have p:((cN (av aa ae)).map (·.2)).Nodup:=lY (fm aa ae);generalize cN (av aa ae)=O at ho o G p |-;let i:D×Nat->D:=λx=>.lst ((m7 aa ae cs x).map (uB (JZ x.1)));let E:KL->OB->DL.Env:=λL a=>[sT aa,sI ae,sI day,sL (cs.map bH),some (.dk (L.map kN) (L.map i),true),a];obtain⟨ρ',e,a,rfl⟩:=h8 (tg:=dh 5) (g:=Az) (λj ρ=>∃a,ρ=E (mi aa ae day (O.take j)) a) (O.map λx=>.int x.2) (E [] none) ⟨none,rr⟩ (by
  rintro j d ρ hd ⟨a,rfl⟩;rw[uZ]at hd;obtain⟨x,hx,rfl⟩:=oY hd;have q:=G x (vL hx);have T:=bd q;have u:aZ x.1<=ae:=Vh (vN q).2;have v:=g x.1 (vL T);have w:O.take (j+1)=O.take j++[x]:=by rw[take_add_one,hx];rfl
  have s:mi aa ae day (O.take (j+1))=mi aa ae day (O.take j)++if(decide (kindOf x.1∈bR) && mh aa ae day x)=true then [x]else []:=by
   simp_all[mi,List.filter_cons]
  have t:x.2∉(mi aa ae day (O.take j)).map (·.2):=by
   have h2:((O.take (j+1)).map (·.2)).Nodup:=List.Nodup.sublist (List.Sublist.map _ (take_sublist _ _)) p;rw[w,uV,nodup_append]at h2;intro hm;obtain⟨y,hy,k⟩:=vO hm;exact h2.2.2 _ (uR ⟨y,(vN hy).1,rr⟩) _ X9 k
  have l:(mi aa ae day (O.take j)).length<=60:=vR (vM _ _) (vR (List.length_take_le' _ _) ho);generalize mi aa ae day (O.take j)=L at s t l;let F:DL.Env:=E L (sI x.2);have z:aR (fA eW (fV 0 (fV 1 (fV 5 ai)))) F=some (decide (kindOf x.1∈bR)):=dH (aG [.tup aa,.int ae,.int x.2] rr ((AG T v ae).trans (by simp_all)));have A:=cW z λh=>dH (f:=fA ou (fV 0 (fV 1 (fV 3 (fV 5 (fV 2 ai)))))) (aG _ rr (by rw[<-U];exact P2 g hl ae hn (by rw[U];exact M) T (Vh h) day));refine⟨F,E _ (sI x.2),rr,.inl (Pq A (λh=>?_) λh=>?_),sI x.2,by rw[s]⟩
  .rw[if_pos h];have B:kindOf x.1∈bR:=N9
   have C:sC 4 (aj 5) (fA fZ (fV 0 (fV 1 (fV 3 (fV 5 ai))))) F=some (.nx (F.set 4 (some (.dk (iz (L.map kN) (kN x)) (fK (L.map kN) (L.map i) (kN x) (i x)),true)))):=by
    have H:fA fZ (fV 0 (fV 1 (fV 3 (fV 5 ai)))) (j9 F)=some (i x,true):=aG [.tup aa,.int ae,.lst (cs.map bH),.int x.2] rr (Mf g hl ae hn cs M T B u);show((fA fZ _ (j9 F)).bind _)=_;rw[H];simp only[vJ];exact if_pos (c:=(L.map kN).length<sizeLine) (cC (by rw[vI];lia))
   rw[C];have hk:kN x∉L.map kN:=λhm=>by
    obtain⟨y,hy,k⟩:=vO hm;exact t (uR ⟨y,hy,by have:=Sum.inl.inj (show(Sum.inl (y.2:Int):fG)=Sum.inl (x.2:Int)from k);lia⟩)
   unfold iz fK;rw[if_neg hk,if_neg hk];simp[F,E]
  .rw[h,if_neg Z9,uP];rfl)
 rw[vI,take_length]at e;exact aq rr (P1 (aG [.tup aa,.int ae] rr n) (cV (ρ':=E [] none) rr (cV (jj (ds:=O.map λx=>.int x.2) (by show(fA eQ _ _).bind _=_;rw[aG [.tup aa,.int ae] rr o];rfl) e) (Ev (b:=true) rr))))
end
noncomputable def nK (n:Nat):fG:=.inl (n:Int)
noncomputable def Ew:Nat->D:=λ_=>.bl true
noncomputable def da (S:LN)(b:Bs):Bool:=b.1.isSome || S.any λn=>decide ((n:Int)=b.2)
noncomputable def du (S:LN)(p:Nat×List Bs):LN:=if p.2.any (da S)=true then S++[p.1]else S
noncomputable def ig (l:List (Nat×List Bs)):LN:=l.foldl du []
theorem ul (n:Int):∀S:LN,(fB (S.map nK) (S.map Ew) (.inl n)).isSome=S.any λm=>decide ((m:Int)=n)
 |[]=>rr
 |m::S=>by
  rw[uX,uX,fB,any_cons];by_cases h:(m:Int)=n
  .simp_all[nK]
  .rw[if_neg (show ¬nK m=.inl n from λz=>h (Sum.inl.inj z)),TK h,ul n S];rfl
def AI (hw:decide (w=("office" : Str))=false)(S:LN)(b:Bs):o0 [uB w b,.dk (S.map nK) (S.map Ew)]=sO (da S b):=by
 rcases b with⟨_|o,n⟩
 .refine aq rr (ax (qi  (b1:=false) (bq _ _ rr rr (by simp[of_decide_eq_false hw])) λ_=>bq _ _ rr rr ?_));show some (D.bl _,false)=_;rw[ul]
 .rfl
def Mh {α:Type}(l:List α)(f:α->Bool):Hf [.lst (l.map λx=>.bl (f x))]=sO (l.any f):=by
 simp
theorem AJ (h:m∈du S p):m∈S\/m=p.1:=by
 unfold du at h;split at h
 .simpa using h
 .exact .inl h
theorem lZ:∀(l:List (Nat×List Bs))(S:LN)(m:Nat),m∈l.foldl du S->m∈S\/m∈l.map (·.1)
 |[],_,_,h=>.inl h
 |p::l,S,m,h=>by
  rcases lZ l _ m h with h|h
  .grind[AJ]
  .exact .inr (mZ _ h)
abbrev Rs:=Nat×Str×List Bs
noncomputable def AK (p:Rs):D:=.lst (p.2.2.map (uB p.2.1))
noncomputable def C1 (p:Rs):Nat×List Bs:=(p.1,p.2.2)
def AL (l:List Rs)(hl:l.length<=60)(hw:∀p∈l,decide (p.2.1 = "office")=false)(hb:∀p∈l,p.2.2.length<=100)(hn:(l.map (·.1)).Nodup):o3 [.dk (l.map λp=>nK p.1) (l.map AK)]=sF (.dk ((ig (l.map C1)).map nK) ((ig (l.map C1)).map Ew)):=by
 let E:LN->OB->OB->DL.Env:=λS G M=>[sF (.dk (l.map λp=>nK p.1) (l.map AK)),some (.dk (S.map nK) (S.map Ew),true),G,M];have uA:mL (l.map λp=>nK p.1) (l.map AK)=l.map λp=>.tup [.int (p.1:Int),AK p]:=by
  unfold mL;rw[zip_map',uO];rfl
 obtain⟨ρ',e,G,M,rfl⟩:=h8 (tg:=Dm [2,3]) (g:=A0) (λj ρ=>∃G M,ρ=E (ig ((l.take j).map C1)) G M) (l.map λp=>.tup [.int (p.1:Int),AK p]) (E [] none none) ⟨none,none,rr⟩ (by
  rintro j d ρ hd ⟨G,M,rfl⟩;rw[uZ]at hd;obtain⟨p,hp,rfl⟩:=oY hd;have O:=vL hp;have c:l.take (j+1)=l.take j++[p]:=by rw[take_add_one,hp];rfl
  have es:ig ((l.take (j+1)).map C1)=du (ig ((l.take j).map C1)) (C1 p):=by
   simp_all[ig]
  have T:p.1∉ig ((l.take j).map C1):=λhm=>by
   have h2:((l.take (j+1)).map (·.1)).Nodup:=List.Nodup.sublist (List.Sublist.map _ (take_sublist _ _)) hn;rw[c,uV,nodup_append]at h2;rcases lZ _ _ _ hm with h|h
   .cases h
   .rw[uO]at h;exact h2.2.2 _ h _ X9 rr
  have f:(ig ((l.take j).map C1)).length<=60:=by
   have:∀(q:List (Nat×List Bs))(S:LN),(q.foldl du S).length<=S.length+q.length:=λq=>by
    induction q with
    |nil=>intro S;exact vT _
    |cons a q i=>
     intro S;refine vR (i _) ?_;unfold du;split
     .rw[uY,vC,length_nil,vC];lia
     .rw[vC];lia
   have h3:=this ((l.take j).map C1) [];rw[vI,length_take,length_nil]at h3;exact vR h3 N9
  generalize ig ((l.take j).map C1)=S at es T f;let F:DL.Env:=E S (sI (p.1:Int)) (some (AK p,false));have hc:=jK (fi:=bM (aj 3)) (nT:=1) (cap:=[1]) (tg:=dh 0) (fe:=fA o0 (fV 0 (fV 1 ai))) (ρ:=F) p.2.2 (uB p.2.1) (λb=>.bl (da S b)) rr (by have:=hb p O;lia) λb _=>⟨[some (uB p.2.1 b,false),sF (.dk (S.map nK) (S.map Ew))],rr,false,aG [uB p.2.1 b,.dk (S.map nK) (S.map Ew)] rr (AI (hw p O) S b)⟩;have k:aR (fA Hf (af _ ai)) F=some (p.2.2.any (da S)):=dH (aG [.lst (p.2.2.map λb=>.bl (da S b))] (aN hc rr) (Mh _ _));refine⟨F,E (du S (C1 p)) (sI (p.1:Int)) (some (AK p,false)),rr,.inl (Pq k (λh=>?_) λh=>?_),_,_,by rw[es]⟩
  .have hk:nK p.1∉S.map nK:=λhm=>by
    obtain⟨y,hy,m⟩:=vO hm;have:=Sum.inl.inj (show(Sum.inl (y:Int):fG)=Sum.inl (p.1:Int)from m);exact T (by rw[show p.1=y by lia];exact hy)
   have U:Aj 1 (aj 2) (fC (.bl true)) F=some (.nx (F.set 1 (some (.dk (iz (S.map nK) (nK p.1)) (fK (S.map nK) (S.map Ew) (nK p.1) (.bl true)),true)))):=if_pos  ⟨rr,cC (by rw[vI];lia)⟩;rw[U];unfold iz fK du;rw[if_neg hk,if_neg hk,if_pos (show(C1 p).2.any (da S)=true from h)];simp[F,E,C1,Ew]
  .unfold du;rw[if_neg (show ¬(C1 p).2.any (da S)=true by show ¬p.2.2.any (da S)=true;rw[h];decide)];rfl)
 rw[vI,take_length]at e;exact aq rr (cV (ρ':=E [] none none) rr (cV (jj (ds:=l.map λp=>.tup [.int (p.1:Int),AK p]) (by show some (mL _ _)=_;rw[uA]) e) (Ev (b:=true) rr)))
theorem xj:∀S:LN,wA (S.map nK)=some (S.map λ(n:Nat)=>(n:Int))
 |[]=>rr
 |n::S=>by
  show(wA _).map _=_;rw[xj S];rfl
theorem AM {α G:Type}(g:α->G)(f:G->LI)(x:α):∀l:List α,pf f (g x) (l.map g)=(pf (λa=>f (g a)) x l).map g
 |[]=>rr
 |y::r=>by
  rw[uX,pf,pf];split
  .rw[uX,AM g f x r]
  .rfl
theorem xl {α G:Type}(g:α->G)(f:G->LI):∀l:List α,eO f (l.map g)=(eO (λa=>f (g a)) l).map g
 |[]=>rr
 |x::l=>by
  show pf f _ (eO f _)=(pf _ x (eO _ l)).map g;rw[xl g f l,AM]
def Jc (n:Int)(S:LN):GX (.int n) (S.map λ(m:Nat)=>D.int (m:Int))=S.any λm=>decide ((m:Int)=n):=by
 unfold GX;induction S with
 |nil=>rfl
 |cons m S G=>
  simp_all
def dF (aa:LD)(ae:Int)(x:D×Nat):List Bs:=m7 aa ae (bI (av aa ae)) x
def bA (aa:LD)(ae day:Int):LN:=ig ((mi aa ae day (cN (av aa ae))).map λx=>(x.2,dF aa ae x))
def kK (S:LN):LD:=(pZ (S.map λ(n:Nat)=>(n:Int))).map .int
def C2 (r:D):decide (JZ r = "office")=false:=by
 unfold JZ;split
 .decide +kernel
 .decide +kernel
def FR (S:LN)(h:S.length<=60):gn [.lst (S.map λ(n:Nat)=>.int (n:Int))]=lT (kK S):=by
 cases S with
 |nil=>rfl
 |cons n S=>
  have h1:gX ((n::S).map λ(n:Nat)=>D.int (n:Int))=none:=rr;have h2:∀l:List _,kF (l.map λ(n:Nat)=>D.int (n:Int))=some (l.map λ(n:Nat)=>(n:Int)):=λl=>by
   induction l with
   |nil=>rfl
   |cons a l G=>simp_all[kF]
  unfold gn;simp only[h1,h2 _];rw[if_pos (by rw[vI];lia)];rfl
def yA (h:kindOf r∈bR):bj r=false:=by
 have:∀k∈bR,decide (k = "root")=false:=H9
 exact this _ h
section
variable {aa:LD}(g:∀r∈aa,ce r) (hl:aa.length<=30) (ae:Int) (hn:((bX (av aa ae)).map (bg 0)).Nodup) (ho:(cN (av aa ae)).length<=60)
include hl
theorem um (x:D×Nat):(dF aa ae x).length<=60:=by
 unfold dF m7;split
 .split
  .exact(by decide:1<=60)
  .exact uM _
 .unfold Py;rw[(aW _ _).length_eq];exact Et hl _ _ _ _
theorem pM (day:Int):(bA aa ae day).length<=60:=by
 have:∀(q:List _)(S:List _),(q.foldl du S).length<=S.length+q.length:=λq=>by
  induction q with
  |nil=>intro S;exact vT _
  |cons a q G=>
   intro S;refine vR (G _) ?_;unfold du;split
   .rw[uY,vC,length_nil,vC];lia
   .rw[vC];lia
 have h3:=this ((mi aa ae day (cN (av aa ae))).map λx=>(x.2,dF aa ae x)) [];have h4:(cN (av aa ae)).length<=30:=by
  unfold cN;rw[(aW _ _).length_eq];exact vR (vM _ _) (vR (cD _ _) hl)
 have h5:(mi aa ae day _).length<=30:=vR (vM _ _) h4;rw[vI,length_nil]at h3;exact vR h3 N9
include g hn ho
theorem AN (day:Int):iX [.tup aa,.int ae,.int day]=lT (kK (bA aa ae day)):=by
 have G:=AH g hl ae hn ho day;have h4:(mi aa ae day _).length<=60:=vR (vM _ _) ho;have es:=AL ((mi aa ae day _).map λx=>(x.2,JZ x.1,dF aa ae x)) (by rw[vI];exact h4)
  (λp hp=>by obtain⟨x,_,rfl⟩:=vO hp;exact C2 _) (λp hp=>by obtain⟨x,_,rfl⟩:=vO hp;exact vR (um hl ae x) Z9)
  (by rw[uO];exact List.Nodup.sublist (List.Sublist.map _ filter_sublist) (lY (fm aa ae)))
 rw[uO,uO,uO]at es;refine aq rr (ax (aG [_] (aN (aG [_] (aN (aG _ rr G) rr) es) rr) ?_));show(wA ((bA aa ae day).map nK)).bind _=_;rw[xj,vJ,if_pos (by grind[pM])];rfl
end
def rb (n:Nat)(S:LN):(S.any λm=>decide ((m:Int)=(n:Int)))=decide (n∈S):=by
 grind
def AQ (n:Nat)(S:LN):(fB (S.map nK) (S.map Ew) (.inl (n:Int))).isSome=decide (n∈S):=by rw[ul,rb]
def Jd (h:bc 40 d=true):mB d d=sO false:=by
 unfold mB;rw[if_pos ⟨h,h⟩,o5 40 _ h];rfl
def Je (aa:LD)(ae:Int):bX (av aa ae)=aa.filter λv=>bj v && decide (aZ v<=ae):=by
 unfold bX av;rw[List.filter_filter];have:∀(l:List (D×Nat))(q:D->Bool),(l.filter λx=>q x.1).map _=(l.map _).filter q:=λl q=>by rw[List.filter_map];rfl
 refine(this _ λv=>bj v && decide (aZ v<=ae)).trans ?_;rw[List.zipIdx_map_fst]
def Jf (aa:LD)(ae:Int):((bX (av aa ae)).map (bg 0)).Sublist (xc aa):=by
 rw[Je];refine List.Sublist.map _ ?_;have:(aa.filter λv=>bj v && decide (aZ v<=ae))=(aa.filter bj).filter λv=>decide (aZ v<=ae):=by simp_all[Bool.and_comm]
 rw[this];exact filter_sublist
def qF (S:LN):LN:=eO (λn:Nat=>[(n:Int)]) S
def yB (S:LN):kK S=(qF S).map λ(n:Nat)=>.int (n:Int):=by
 simp_all[kK,pZ,qF,xl]
def iJ {m:Nat}{S:LN}:m∈qF S↔m∈S:=(aW _ _).mem_iff
def PW (q:D)(x:Int×OI)(w:D):Prop:=∃a k d b,∃m:Nat,∃rs,(k=("paper" : Str)\/k = "like")/\q=row a k (.int d::.str b::.int m::jg x::w::rs)/\(w=.non\/∃s,w=.str s)
def AR (r:D):Prop:=kindOf r=("paper" : Str)\/kindOf r = "like"->∃x w,PW r x w
inductive Pb (aa:List D):Nat->Nat->Nat->Prop
 |here (n:Nat) (r:D) (x:Int×Option Int) (w:D) (h:aa[n]? = some r) (p:PW r x w):Pb aa 0 n n
 |copy (k n m e:Nat) (a d:Int) (b:Str) (h:aa[n]? = some (row a ("copy" : Str) [.int d,.str b,.int m])) (p:Pb aa k m e):Pb aa (k+1) n e
def pend (aa:LD):Nat->Nat->Nat
 |0,n=>n
 |k+1,n=>match aa[n]? with
  |some r=>if kindOf r = "copy" then pend aa k (je 2 r).toNat else n
  |none=>n
def PW.nocopy (p:PW r x w):¬kindOf r = "copy":=by
 obtain⟨a,k,d,b,m,rs,hk,rfl,_⟩:=p;have:∀k:Str,k = "paper" \/ k = "like"->¬k = "copy":=by rintro k (rfl|rfl)<;>decide +kernel
 exact this k hk
def Pb.to (p:Pb aa k n e):∃r x w,aa[e]? = some r/\PW r x w:=by
 induction p with
 |here n r x w h p=>exact⟨r,x,w,h,p⟩
 |copy k n m e a d b h p G=>exact G
def Pb.pend (p:Pb aa k n e):∀f,k<=f->pend aa f n=e:=by
 induction p with
 |here n r x w h p=>
  intro f _;cases f with
  |zero=>rfl
  |succ f=>unfold Lw.pend;rw[h];exact if_neg p.nocopy
 |copy k n m e a d b h p G=>
  intro f hf;obtain⟨f,rfl⟩:∃j,f=j+1:=⟨f - 1,N9⟩;unfold Lw.pend;rw[h];exact(if_pos rr).trans (G f N9)
def SI (aa:LD)(ae:Int)(S:LN):Prop:=∀n∈S,∃r,aa[n]? = some r/\aZ r<=ae/\kindOf r∈bR/\(kindOf r∈bL->∃k e,k<=S.length/\Pb aa k n e)
section
variable {aa:LD}(g:∀r∈aa,ce r) (gw:∀r∈aa,AR r) (ae:Int)
include g gw
theorem Mi {S:LN}(s:SI aa ae S){x:D×Nat}(hx:aa[x.2]? = some x.1)(hk:aZ x.1<=ae)(hb:kindOf x.1∈bR):SI aa ae (du S (x.2,dF aa ae x)):=by
 unfold du;split
 .rename_i hs;intro n hn;rcases mem_append.mp hn with hn|hn
  .obtain⟨r,h1,h2,h3,h4⟩:=s n hn;exact⟨r,h1,h2,h3,λhp=>by obtain⟨k,e,h5,G⟩:=h4 hp;exact⟨k,e,by rw[uY];lia,G⟩⟩
  .cases uS hn
   refine⟨x.1,hx,hk,hb,λhp=>?_⟩;by_cases T:kindOf x.1 = "copy"
   .obtain⟨a,d,b,m,er⟩:=kB (g _ (vL hx)) T;have hm:je 2 x.1=m:=by rw[er];rfl
    unfold dF m7 at hs;rw[if_pos T,hm,Int.toNat_natCast]at hs;cases M:eG _ _ _ _ m with
    |false=>rw[M]at hs;cases hs
    |true=>
     rw[M]at hs;have O :=by
      have U:(S.any λn=>decide ((n:Int)=(m:Int)))=true:=by simpa [da]using hs
      rw[rb]at U;exact Vh U
     obtain⟨q,h1,h2,h3,h4⟩:=s m O;unfold eG at M;obtain⟨k,e,h5,G⟩:=h4 (by
      simp_all)
     exact⟨k+1,e,by simp_all,.copy k _ m e a d b (by rw[hx,<-er]) G⟩
   .obtain⟨y,w,p⟩:=gw _ (vL hx) (by
     simp_all[bL])
    exact⟨0,x.2,uM _,.here _ _ _ _ hx p⟩
 .exact s
theorem Ex:∀(l:KL)(S:LN),(∀x∈l,aa[x.2]? = some x.1/\aZ x.1<=ae/\kindOf x.1∈bR)->SI aa ae S->SI aa ae ((l.map λx=>(x.2,dF aa ae x)).foldl du S)
 |[],_,_,s=>s
 |x::l,S,h,s=>by
  obtain⟨h1,h2,h3⟩:=h x (mX ..);exact Ex l _ (λy hy=>h y (mZ _ hy)) (Mi g gw _ s h1 h2 h3)
theorem AS (day:Int):SI aa ae (bA aa ae day):=by
 refine Ex g gw _ _ [] (λx hx=>?_) (λn hn=>nomatch hn);obtain⟨h1,h2⟩:=vN hx;have h3 :=(vN ((aW _ _).mem_iff.mp h1)).1;exact⟨bd h3,Vh (vN h3).2,Vh (vB _ _ ▸ h2).1⟩
end
def Pb.at_ (p:Pb aa k n e):∃r,aa[n]? = some r:=by
 cases p with
 |here n r x w h p=>exact⟨_,h⟩
 |copy k n m e a d b h p=>exact⟨_,h⟩
def PW.word (p:PW r x w):a9 [r]=sS (kindOf r):=by
 obtain⟨a,k,d,b,m,rs,hk,rfl,_⟩:=p;exact bV _ _ _
def PW.str (p:PW r x w):au [r,.str "stretch"]=some (jg x,false):=by
 obtain⟨a,k,d,b,m,rs,hk,rfl,_⟩:=p;exact b7 (i:=3) (by rcases hk with rfl|rfl<;>exact cY) rr
def PW.whom (p:PW r x w):au [r,.str "whom"]=some (w,false):=by
 obtain⟨a,k,d,b,m,rs,hk,rfl,_⟩:=p;exact b7 (i:=4) (by rcases hk with rfl|rfl<;>exact cY) rr
def PW.box (p:PW r x w):GJ r=false:=by
 obtain⟨a,k,d,b,m,rs,hk,rfl,_⟩:=p;rfl
def PW.st (p:PW r x w):hJ r=x:=by
 obtain⟨a,k,d,b,m,rs,hk,rfl,_⟩:=p;unfold hJ;have:∀k:Str,k = "paper" \/ k = "like"->¬k = "leave":=by rintro k (rfl|rfl)<;>decide +kernel
 rw[lH,if_neg (this k hk)];exact qZ rr
noncomputable abbrev bE (aa:LD)(n0:Nat)(r:D):DL.Env:=[sT aa,sI n0,some (r,false)]
section
variable {aa:LD}(g:∀r∈aa,ce r)
include g
theorem P4 {k n e:Nat}(p:Pb aa k n e)(n0:Nat):∀(r:D)(fuel:Nat),aa[n]? = some r->k<fuel->∃q,aa[e]? = some q/\cJ (aR (f2 dA (fA a9 (fV 2 ai)) (fS "copy"))) ie fuel (bE aa n0 r)=some (.nx (bE aa n0 q)):=by
 induction p with
 |here n q x w h p=>
  intro r fuel G hf;obtain⟨fuel,rfl⟩:∃j,fuel=j+1:=⟨fuel - 1,N9⟩;cases h.symm.trans G
  refine⟨q,h,?_⟩;rw[cJ,cn    (aG [q] rr p.word) (TK p.nocopy)]
 |copy k n m e a d b h p O=>
  intro r fuel G hf;obtain⟨fuel,rfl⟩:∃j,fuel=j+1:=⟨fuel - 1,N9⟩;cases h.symm.trans G
  obtain⟨M,h2⟩:=p.at_;obtain⟨q,h3,h4⟩:=O M fuel h2 N9;refine⟨q,h3,?_⟩;have T:f2 bv (aj 0) (fA au (fV 2 (af (fS "of") ai))) (bE aa n0 (row a ("copy" : Str) [.int d,.str b,.int m]))=some (M,false):=bq _ (.int m) rr (aG _ rr (b7 (i:=2) cY rr)) (by simp[bx h2]);have U:ie _=some _:=gp T (g _ (vL h2)).flat;rw[cJ,cn    (aG _ rr (bV _ _ _)) (pP rr)];rw[U];exact h4
theorem FU {k n e:Nat}(p:Pb aa k n e)(hk:k<=60):∃q x w,aa[e]? = some q/\PW q x w/\eZ [.tup aa,.int n]=some (q,false):=by
 obtain⟨r,G⟩:=p.at_;obtain⟨q,hq,O⟩:=P4 g p n r 1000 G N9;obtain⟨T,x,w,h,M⟩:=p.to;cases h.symm.trans hq
 exact⟨q,x,w,hq,M,aq rr (hU r (bq _ _ rr rr (by simp[bx G])) (g _ (vL G)).flat (cV O (jY rr M.box)))⟩
end
def Jg (aa:LD)(n:Nat):Bool:=match aa[n]? with
 |some r=>decide (kindOf r∈bL)
 |none=>false
def P5 (aa:LD)(n:Nat):Int×OI:=hJ (aa.getD (pend aa 60 n) .non)
def jQ (aa:LD)(ae day:Int):LN:=((qF (bA aa ae day)).filter (Jg aa)).filter λn=>xg day (P5 aa n)
def uo (n:Nat)(S:LN):dZ (.int n) (.lst (S.map λ(m:Nat)=>.int (m:Int)))=sO (!decide (n∈S)):=by
 have G:(S.map λ(n:Nat)=>D.int (n:Int)).all jB=true:=by
  simp
 simp only[dZ,iu,vJ];rw[if_pos ⟨rr,G⟩,Jc,rb]
section
variable {aa:LD}(g:∀r∈aa,ce r) (gw:∀r∈aa,AR r) (hl:aa.length<=30) (ae:Int) (hn:((bX (av aa ae)).map (bg 0)).Nodup) (ho:(cN (av aa ae)).length<=60)
include g gw hl
theorem uq {day:Int}{n:Nat}(h:n∈bA aa ae day)(hp:Jg aa n=true):∃q x w e k,k<=60/\Pb aa k n e/\aa[e]? = some q/\PW q x w/\eZ [.tup aa,.int n]=some (q,false)/\P5 aa n=x:=by
 obtain⟨r,h1,h2,h3,h4⟩:=AS g gw _ _ n h;unfold Jg at hp;rw[h1]at hp;obtain⟨k,e,h5,G⟩:=h4 (Vh hp);have M:=pM hl ae day;obtain⟨q,x,w,hq,O,T⟩:=FU g G (vR h5 M);refine⟨q,x,w,e,k,vR h5 M,G,hq,O,T,?_⟩;unfold P5;rw[G.pend 60 (vR h5 M),vF,hq];exact O.st
include hn ho
theorem C3 (day:Int):pA [.tup aa,.int ae,.int day]=lT ((jQ aa ae day).map λ(n:Nat)=>.int (n:Int)):=by
  have G:=pM hl ae day;have hs:(qF (bA aa ae day)).length<=60:=by unfold qF;rw[(aW _ _).length_eq];exact G
  have h1:=gb (fi:=bM (fA iX (fV 0 (fV 1 (fV 2 ai))))) (nT:=1) (cap:=[0,1]) (tg:=dh 0) (c:=aR (fA cj (fV 1 (fV 2 (fV 0 ai))))) (fe:=aj 0)
    (ρ:=[sT aa,sI ae,sI day,none]) (qF (bA aa ae day)) (λ(n:Nat)=>.int (n:Int)) (Jg aa) (λ(n:Nat)=>.int (n:Int))
    (by show(fA iX _ _).bind _=_;rw[aG [.tup aa,.int ae,.int day] rr (AN g hl ae hn ho day),yB];rfl) N9 λx hx=>by
      obtain⟨r,h1,h2,h3,h4⟩:=AS g gw ae day x (iJ.mp hx);have:=lI h1 (g _ (vL h1)) ae;rw[pP h2,Bool.true_and]at this;have e:Jg aa x=decide (kindOf r∈bL):=by unfold Jg;rw[h1]
      rw[<-e]at this;exact⟨_,rr,dH (aG [.tup aa,.int ae,.int x] rr this),λ_=>⟨false,rr⟩⟩
  have M:bB (((qF (bA aa ae day)).filter (Jg aa)).map λ(n:Nat)=>D.int (n:Int))=true:=cm λd hd=>by obtain⟨x,_,rfl⟩:=vO hd;rfl
  refine aq rr (c8 h1 M (ax ?_));refine gb (fi:=bM (aj 3)) (nT:=1) (cap:=[2,0]) (tg:=dh 0)  (fe:=aj 0)
     _ (λ(n:Nat)=>.int (n:Int)) (λn=>xg day (P5 aa n)) (λ(n:Nat)=>.int (n:Int)) X9 (vR (vM _ _) N9) λn hn=>?_
  obtain⟨h2,h3⟩:=vN hn;obtain⟨q,x,w,e,k,hk,U,hq,O,T,e2⟩:=uq g gw hl ae (iJ.mp h2) h3;refine⟨[sI n,sI day,sT aa],rr,dH (aG [.int day,jg x] (bD rr (bD (aG [q,.str "stretch"] (bD (aG [.tup aa,.int n] rr T) rr) O.str) rr)) ?_),λ_=>⟨false,rr⟩⟩;rw[e2];exact yz _ _ _
end
def ml (aa:LD)(ae day:Int):List Rs:=(mi aa ae day (cN (av aa ae))).map λx=>(x.2,JZ x.1,dF aa ae x)
section
variable {aa:LD}(g:∀r∈aa,ce r) (hl:aa.length<=30) (ae:Int) (hn:((bX (av aa ae)).map (bg 0)).Nodup) (ho:(cN (av aa ae)).length<=60)
theorem xm (day:Int):((ml aa ae day).map (·.1)).Nodup:=by
 unfold ml;rw[uO];exact List.Nodup.sublist (List.Sublist.map _ filter_sublist) (lY (fm _ _))
theorem Sg (day:Int):∀p∈ml aa ae day,decide (p.2.1 = "office")=false:=λp hp=>by obtain⟨x,_,rfl⟩:=vO hp;exact C2 _
include ho in
theorem Mj (day:Int):(ml aa ae day).length<=60:=by unfold ml;rw[vI];exact vR (vM _ _) ho
include hl in
theorem Sh (day:Int):∀p∈ml aa ae day,p.2.2.length<=100:=λp hp=>by obtain⟨x,_,rfl⟩:=vO hp;exact vR (um hl ae x) Z9
include g hl hn ho
end
def Ka (aa:LD)(ae:Int)(n:Nat):List Bs:=match aa[n]? with
 |some r=>dF aa ae (r,n)
 |none=>[]
inductive Lk (S:List Nat)(rs:Nat->List Bs):List Nat->Int->Prop
 |one (n:Nat) (b:Bs) (l:List Bs) (hS:n∈S) (h:(rs n).filter (da S)=b::l) (ho:b.1.isSome=true):Lk S rs [n] b.2
 |more (n m:Nat) (ns:List Nat) (c:Int) (b:Bs) (l:List Bs) (hS:n∈S) (h:(rs n).filter (da S)=b::l) (ho:b.1=none) (hm:b.2=(m:Int)) (k:Lk S rs (m::ns) c):Lk S rs (n::m::ns) c
def Jh (K:KL){x y:D×Nat}(hy:y∈K)(h:cZ y x=true):(K.filter λz=>cZ z y).length<(K.filter λz=>cZ z x).length:=by
 have G:∀z∈K,cZ z y=true->cZ z x=true:=λz _ hz=>by
  unfold cZ at *;lia
 have e:K.filter (λz=>cZ z y)=(K.filter λz=>cZ z x).filter λz=>cZ z y:=by
  rw[List.filter_filter];refine List.filter_congr λz hz=>?_;cases k:cZ z y with
  |false=>rfl
  |true=>rw[G z hz k];rfl
 rw[e];refine Nat.lt_of_le_of_ne (vM _ _) λz=>?_;have hm:y∈(K.filter λz=>cZ z x):=mem_filter.mpr ⟨hy,h⟩;have:=List.length_filter_eq_length_iff.mp z y hm;simp_all[cZ]
section
variable {aa:LD}{ae:Int}
def Ji {day:Int}{n:Nat}(h:n∈bA aa ae day):∃r,aa[n]? = some r/\(r,n)∈av aa ae/\kindOf r∈bR/\(n,JZ r,dF aa ae (r,n))∈ml aa ae day:=by
 rcases lZ _ _ _ h with z|z
 .cases z
 .obtain⟨p,hp,rfl⟩:=vO z;obtain⟨x,hx,rfl⟩:=vO hp;obtain⟨h1,h2⟩:=vN hx;rw[vB]at h2;have hk:=(vN ((aW _ _).mem_iff.mp h1)).1;exact⟨x.1,bd hk,hk,Vh h2.1,uR ⟨x,hx,rr⟩⟩
theorem Jj {S T:LN}(h:∀m∈S,m∈T)(b:Bs)(k:da S b=true):da T b=true:=by
 unfold da at k |-;rw[Bool.or_eq_true]at k |-;grind
def Mk (h:m∈S):m∈du S p:=by
 grind[du]
theorem yC:∀(q:List (Nat×List Bs))(S:LN),m∈S->m∈q.foldl du S
 |[],_,h=>h
 |_::q,_,h=>yC q _ (Mk h)
theorem mT:∀(l:List (Nat×List Bs))(S:LN)(n:Nat),n∈l.foldl du S->n∈S\/∃p∈l,p.1=n/\p.2.any (da (l.foldl du S))=true
 |[],S,n,h=>.inl h
 |p::l,S,n,h=>by
  rcases mT l _ n h with z|⟨G,hp,e,k⟩
  .by_cases hs:n∈S
   .exact .inl hs
   grind[du,Jj,yC]
  .exact .inr ⟨G,mZ _ hp,e,k⟩
def C4 {r:D}{n:Nat}(g:∀r∈aa,ce r)(M:aa[n]? = some r){b:Bs}(hb:b∈dF aa ae (r,n))(e:b.1=none):∃(m:Nat)(q:D),b.2=(m:Int)/\aa[m]? = some q/\(q,m)∈av aa ae/\cZ (q,m) (r,n)=true:=by
 unfold dF m7 at hb;split at hb
 .rename_i O;obtain⟨a,d,T,m,er⟩:=kB (g _ (vL M)) O;have en:je 2 r=m:=by rw[er];rfl
  simp only[en]at hb;split at hb
  .rename_i G;rw[mem_singleton]at hb;subst hb;unfold eG at G;split at G
   .cases G
   .rename_i q hq;rw[vB,vB]at G;refine⟨m,q,rr,hq,mem_filter.mpr ⟨List.mk_mem_zipIdx_iff_getElem?.mpr hq,G.1.1⟩,G.2⟩
  simp_all
 .have hb:=(aW _ _).mem_iff.mp hb;rcases mem_append.mp hb with z|z
  .obtain⟨v,_,rfl⟩:=vO z;cases e
  .obtain⟨y,hy,rfl⟩:=vO z;obtain⟨h1,h2⟩:=vN hy;unfold FL at h2;rw[vB]at h2;exact⟨y.2,y.1,rr,(AA g h1).1,(vN (vN h1).1).1,h2.1⟩
def Jk {day:Int}{n:Nat}{r:D}(M:aa[n]? = some r)(hn:n∈bA aa ae day):∃b l,(dF aa ae (r,n)).filter (da (bA aa ae day))=b::l:=by
 rcases mT _ _ _ hn with z|⟨p,hp,e,hb⟩
 .cases z
 .obtain⟨x,hx,rfl⟩:=vO hp;have hx':=bd (vN ((aW _ _).mem_iff.mp (vN hx).1)).1;have G:x.2=n:=e;rw[G,M]at hx';have ex:x=(r,n):=by rw[<-G,vK hx']
  subst ex;obtain⟨b,h1,h2⟩:=any_eq_true.mp hb;have hm:b∈(dF _ _ _).filter (da (bA _ _ _)):=mem_filter.mpr ⟨h1,h2⟩;cases hq:(dF _ _ _).filter _ with
  |nil=>rw[hq]at hm;cases hm
  |cons b l=>exact⟨b,l,rr⟩
def Jl (g:∀r∈aa,ce r)(day:Int):∀(k n:Nat)(r:D),aa[n]? = some r->n∈bA aa ae day->((av aa ae).filter λz=>cZ z (r,n)).length<k->∃ns c,Lk (bA aa ae day) (Ka aa ae) (n::ns) c/\ns.length<k:=by
 intro k;induction k with
 |zero=>lia
 |succ k a=>
  intro n r M hn hk;obtain⟨b,l,hq⟩:=Jk M hn;have er:Ka aa ae n=dF aa ae (r,n):=by unfold Ka;rw[M]
  have hm:b∈(dF aa ae (r,n)).filter (da (bA aa ae day)):=by rw[hq];exact mX
  obtain⟨h1,h2⟩:=vN hm;cases G:b.1 with
  |some o=>exact⟨[],b.2,.one n b l hn (by rw[er];exact hq) (by rw[G];rfl),Nat.succ_pos _⟩
  |none=>
   obtain⟨m,q,d,e2,h3,h4⟩:=C4 g M h1 G;have O:m∈bA aa ae day:=by
    unfold da at h2;rw[G]at h2;obtain⟨e,T,f⟩:=any_eq_true.mp (by simpa using h2:(bA aa ae day).any (λn=>decide _)=true);have:=Vh f;rw[show m=e by lia];exact T
   have:=Jh _ h3 h4;obtain⟨ns,c,hl,U⟩:=a m q e2 O N9;exact⟨m::ns,c,.more n m ns c b l hn (by rw[er];exact hq) G d hl,by rw[vC];lia⟩
end
def Ml (w:Str)(b:Bs):bv (uB w b) (.int 0)=sS (if b.1.isSome=true then "office" else w):=by rcases b with⟨_|o,n⟩<;>simp[uB,A2]
def Jm (hw:decide (w=("office" : Str))=false)(R:List Bs)(hR:R.length<=100)(S:LN){b:Bs}{l:List Bs}(h:R.filter (da S)=b::l):eY [.lst (R.map (uB w)),.dk (S.map nK) (S.map Ew)]=sF (uB w b):=by
 have hc:=gb (fi:=bM (aj 0)) (nT:=1) (cap:=[1]) (tg:=dh 0) (c:=aR (fA _ (fV 0 (fV 1 ai)))) (fe:=aj 0) (ρ:=[sL _,sF _]) R (uB w) _ _ rr N9 λb _=>⟨[some _,sF _],rr,dH (aG _ rr (AI hw S b)),λ_=>⟨false,rr⟩⟩;rw[h]at hc;exact aq rr (ax (fU     hc rr (by simp[A2])))
theorem AT:∀(l:List Rs),(l.map (·.1)).Nodup->∀p∈l,fB (l.map λp=>nK p.1) (l.map AK) (nK p.1)=some (AK p)
 |q::l,h,p,hp=>by
  rw[uX,nodup_cons]at h;show(if nK _=nK _ then some _ else fB _ _ _)=_;rcases vP hp with rfl|hp
  .rw[if_pos rr]
  .rw[if_neg λe=>?_,AT l h.2 p hp];have z:q.1=p.1:=by
    have:=Sum.inl.inj (show(Sum.inl _:fG)=Sum.inl _ from e);lia
   exact h.1 (uR ⟨p,hp,z.symm⟩)
def Lk.first {S:LN}{rs:Nat->List Bs}(h:Lk S rs (n::ns) c):n∈S/\∃b l,(rs n).filter (da S)=b::l:=by
 cases h with
 |one _ b l hS h _=>exact⟨hS,b,l,h⟩
 |more _ _ _ _ b l hS h _ _ _=>exact⟨hS,b,l,h⟩
section
variable {aa:LD}{ae day:Int}{l:List Rs}{S:LN}{rs:Nat->List Bs}(n0:Nat)
abbrev cE (aa:LD)(ae day:Int)(l:List Rs)(S:LN)(n0:Nat)(told:LD)(b:D):DL.Env:=[sT aa,sI ae,sI day,sI n0,sF (.dk (l.map λp=>nK p.1) (l.map AK)),sF (.dk (S.map nK) (S.map Ew)),lT told,some (b,false)]
def UG (l:List Rs)(S:LN)(rs:Nat->List Bs):Prop:=∀n∈S,∃w,decide (w=("office" : Str))=false/\fB (l.map λp=>nK p.1) (l.map AK) (nK n)=some (.lst ((rs n).map (uB w)))/\(rs n).length<=100
theorem Ey (F:UG l S rs){m:Nat}(hm:m∈S){b:Bs}{tl:List Bs}(h:(rs m).filter (da S)=b::tl){ρ:DL.Env}{f:FE}(h4:ρ[4]? = some (sF (.dk (l.map λp=>nK p.1) (l.map AK))))(h5:ρ[5]? = some (sF (.dk (S.map nK) (S.map Ew))))(hf:f ρ=sI (m:Int)):
  ∃w,decide (w=("office" : Str))=false/\fA eY (af (f2 T3 (aj 4) f) (fV 5 ai)) ρ=sF (uB w b):=by
 obtain⟨w,hw,hl,hz⟩:=F m hm;refine⟨w,hw,aG _ (aN (b:=false) (bq (.dk (l.map λp=>nK p.1) (l.map AK)) _ (by simp[h4]) hf ?_) (by simp[h5])) (Jm hw _ hz S h)⟩;simp_all[nK]
theorem FV (F:UG l S rs){T:LN}{c:Int}(k:Lk S rs T c):∀(n:Nat)(ns:LN),T=n::ns->∀(pre:LD)(w:Str)(b:Bs)(tl:List Bs)(fuel:Nat),pre.length+ns.length<=1000->decide (w=("office" : Str))=false->(rs n).filter (da S)=b::tl->ns.length<fuel ->
  ∃M b',cJ (aR (f2 mB (cF 7 0) (fS "office"))) tJ fuel (cE aa ae day l S n0 (pre++[.int n]) (uB w b))=some (.nx (cE aa ae day l S n0 (pre++(n::ns).map λ(m:Nat)=>.int (m:Int)) (uB M b')))/\b'.1.isSome=true/\b'.2=c:=by
 have cond:∀(told:LD)(w:Str)(b:Bs),decide (w=("office" : Str))=false->aR (f2 mB (cF 7 0) (fS "office")) (cE aa ae day l S n0 told _)=some (!b.1.isSome):=λtold w b hw=>by
  refine(ui    (bq _ _ rr rr (Ml w b))).trans ?_;lia
 induction k with
 |one n G d hS h ho=>
  rintro e ns ⟨⟩ pre w b tl fuel hp hw hb hf;rw[h]at hb;obtain⟨rfl,rfl⟩:=List.cons.inj hb;obtain⟨fuel,rfl⟩:∃k,fuel=k+1:=⟨fuel - 1,N9⟩;refine⟨w,G,?_,ho,rr⟩;rw[cJ,cond _ _ _ hw,ho];rfl
 |more n m f c G d hS h ho hm k g=>
  rintro e ns ⟨⟩ pre w b tl fuel hp hw hb hf;rw[h]at hb;obtain⟨rfl,rfl⟩:=List.cons.inj hb;obtain⟨fuel,rfl⟩:∃k,fuel=k+1:=⟨fuel - 1,N9⟩;obtain⟨O,b2,l2,h2⟩:=k.first;rw[vC]at hp hf;have a:∀told,cF 7 1 (cE aa ae day l S n0 told (uB w G))=sF _:=λtold=>bq _ (.int 1) rr rr (by
   obtain⟨o,z⟩:=G;cases (show o=none from ho)
   cases (show z=(m:Int)from hm)
   rfl)
  obtain⟨i,U,e2⟩:=Ey F O h2   rr rr (a _);obtain⟨M,b',j,p,q⟩:=g m f rr (pre++[.int n]) i b2 l2 fuel (by rw[uY,length_singleton];lia) U h2 N9;refine⟨M,b',?_,p,q⟩;have r:tJ _=some (.nx (cE aa ae day l S n0 (pre++[.int n]++[.int _]) _)):=DK    rr (a _) rr (cC (by rw[uY,length_singleton];lia)) (gp e2 (AF _ _));rw[cJ,cond _ _ _ hw,ho];rw[r];dsimp only;rw[j];simp
end
section
variable {aa:LD}(g:∀r∈aa,ce r) (hl:aa.length<=30) (ae:Int) (hn:((bX (av aa ae)).map (bg 0)).Nodup) (ho:(cN (av aa ae)).length<=60)
include hl in
theorem Mm (day:Int):UG (ml aa ae day) (bA aa ae day) (Ka aa ae):=λn hm=>by
 obtain⟨r,G,_,_,hp⟩:=Ji hm;have e:Ka aa ae n=dF aa ae (r,n):=by unfold Ka;rw[G]
 rw[e];exact⟨JZ r,C2 r,AT _ (xm ae day) _ hp,vR (um hl ae (r,n)) Z9⟩
include g hl hn ho
theorem xn (day:Int)(n:Nat):oy [.tup aa,.int ae,.int day]=sF (.dk ((ml aa ae day).map λp=>nK p.1) ((ml aa ae day).map AK))/\o3 [.dk ((ml aa ae day).map λp=>nK p.1) ((ml aa ae day).map AK)]=sF (.dk ((bA aa ae day).map nK) ((bA aa ae day).map Ew)):=by
 constructor
 .rw[AH g hl _ hn ho _];unfold ml;rw[uO,uO];rfl
 .rw[AL _ (Mj _ ho _) (Sg _ _) (Sh hl _ _) (xm _ _)];have:ig ((ml aa ae day).map C1)=bA aa ae day:=by
   unfold ml bA;rw[uO];rfl
  rw[this]
theorem AU (day:Int){n:Nat}(h:n∉bA aa ae day):gS [.tup aa,.int ae,.int day,.int (n:Int)]=sF .non:=by
 obtain⟨G,e2⟩:=xn g hl _ hn ho _ n;refine aq rr (LF   (aG _ rr G) (by simp ) (.inl rr) (LF   (aG _ rr e2) (by simp ) (.inl rr) (bC (dH  (bq _ _ rr rr ?_)) (ax rr))));show some (D.bl _,false)=_;rw[AQ,TK h];rfl
theorem xo (day:Int){n:Nat}{ns:LN}{c:Int}(k:Lk (bA aa ae day) (Ka aa ae) (n::ns) c)(U:ns.length<=100):gS [.tup aa,.int ae,.int day,.int (n:Int)]=lT (((n::ns).map (λ(m:Nat)=>D.int (m:Int))++[D.int c]).reverse):=by
 obtain⟨a,e2⟩:=xn g hl ae hn ho day n;obtain⟨hS,b,tl,hf⟩:=k.first;have F:=Mm (aa:=aa) hl ae day;generalize ml aa ae day=l at *;generalize bA aa ae day=S at *;obtain⟨w,hw,e⟩:=Ey F hS hf (ρ:=[sT aa,sI ae,sI day,sI (n:Int),sF _,sF _,lT [.int (n:Int)],none]) (f:=aj 3) rr rr rr;obtain⟨T,b',h,G,hc⟩:=FV (aa:=aa) (ae:=ae) (day:=day) n F k n ns rr [] w b tl 1000 I9 hw hf N9;have M:cF 7 2 (cE aa ae day l S n ([]++(n::ns).map λ(m:Nat)=>D.int (m:Int)) (uB T b'))=sI c:=bq (uB T b') (.int 2) rr rr (by
  obtain⟨_|o,z⟩:=b'
  .cases G
  .cases (show z=c from hc)
   rfl)
 have O:f2 Cb (aj 3) (aj 5) [sT aa,sI ae,sI day,sI (n:Int),sF (.dk (l.map λp=>nK p.1) (l.map AK)),sF (.dk (S.map nK) (S.map Ew)),none,none]=sO false:=by
  show some (D.bl _,false)=_;rw[AQ,pP hS];rfl
 have i:(a0 _ (a0 (ju 6 (cF 7 2)) (aE (f1 Ph (aj 6))))) _=some _ :=
  cV h (DK  (d:=.int c) (b:=false) rr M rr (cC I9) (ax rr))
 have j:(a0 (aS 6 (fA cx (fV 3 ai))) (a0 (aS 7 _) _)) [sT aa,sI ae,sI day,sI (n:Int),sF _,sF _,none,none]=some _ :=
  c8  (aG [.int (n:Int)] rr (fF _ X9)) rr (sJ e (AF _ _) i)
 refine aq rr (LF  (b:=false) (aG _ rr a) (by simp[bf]) (.inl rr) ?_);refine(show a0 _ _ _=_ from LF  (b:=false) (aG [_] rr e2) (by simp[bf]) (.inl rr) ?_);exact a8  (dH (x:=false) O) j
end
section
variable {aa:LD}{ae:Int}
def Jn (K:KL):(cN K).Pairwise λa b=>cZ b a=false:=(eP _ _).imp λ{a b} h=>by
 have:=qS _ _ _ (Cr b a);rw[TK (show ¬cK _<cK _ from h)]at this;exact this
def Mn {day:Int}{n m:Nat}{r q:D}(d:(r,n)∈av aa ae)(c:kindOf r∈bR)(hf:mh aa ae day (r,n)=true)(hS:n∉bA aa ae day)(hb:((none,(m:Int)):Bs)∈dF aa ae (r,n))(hq:aa[m]? = some q)(T:cZ (q,m) (r,n)=true):m∉bA aa ae day:=λhm=>by
 have U:(r,n)∈cN (av aa ae):=(aW _ _).mem_iff.mpr (mem_filter.mpr ⟨d,by rw[yA c];rfl⟩);have a:(r,n)∈mi aa ae day (cN (av aa ae)):=mem_filter.mpr ⟨U,by rw[pP c,hf];rfl⟩;obtain⟨l1,l2,b⟩:=List.append_of_mem a;have G:=(Jn (av aa ae)).sublist (filter_sublist (l:=cN (av aa ae)) (p:=λx=>decide (kindOf x.1∈bR) && mh aa ae day x));rw[show(cN (av aa ae)).filter _=l1++(r,n)::l2 from b]at G;have M :=(pairwise_cons.mp (List.pairwise_append.mp G).2.1).1;let f:D×Nat->Nat×List Bs:=λx=>(x.2,dF aa ae x);have e:bA aa ae day=(l2.map f).foldl du (du ((l1.map f).foldl du []) (f (r,n))):=by
  unfold bA ig;rw[b,uV,List.foldl_append];rfl
 have O:∀x∈l1++(r,n)::l2,aa[x.2]? = some x.1:=λx hx=>by
  rw[<-b]at hx;exact bd (vN ((aW _ _).mem_iff.mp (vN hx).1)).1
 have g:m∈(l1.map f).foldl du []:=by
  rw[e]at hm;rcases lZ _ _ _ hm with z|z
  .rcases AJ z with z|z
   .exact z
   lia
  .obtain⟨p,hp,rfl⟩:=vO z;obtain⟨x,hx,rfl⟩:=vO hp;have h1:=O x (mY _ (mZ _ hx));have h2:aa[x.2]? = some q:=hq;rw[h1]at h2;have h3:=M x hx;rw[show x=(q,x.2) by rw[<-vK h2]]at h3;rw[show cZ (q,x.2) (r,n)=true from T]at h3;cases h3
 have h:n∈du ((l1.map f).foldl du []) (f (r,n)):=by
  unfold du;rw[if_pos (any_eq_true.mpr ⟨_,hb,by
   unfold da;rw[Bool.or_eq_true];exact .inr (any_eq_true.mpr ⟨m,g,pP rr⟩)⟩)]
  exact mY _ (mem_singleton.mpr rr)
 exact hS (e ▸ yC _ _ h)
def mU (day:Int){n m:Nat}{r:D}{a d:Int}{b:Str}(T:(r,n)∈av aa ae)(er:r=row a ("copy" : Str) [.int d,.str b,.int m]):n∈bA aa ae day↔mh aa ae day (r,n)=true/\eG aa ae r n m=true/\m∈bA aa ae day:=by
 have U:kindOf r = "copy":=by rw[er];rfl
 have f:kindOf r∈bR:=by rw[U];decide +kernel
 have hm:je 2 r=m:=by rw[er];rfl
 have M:dF aa ae (r,n)=if eG aa ae r n m=true then [(none,(m:Int))]else []:=by
  unfold dF m7;rw[if_pos U,hm,Int.toNat_natCast]
 constructor
 .intro h;rcases mT _ _ _ h with z|⟨p,hp,e,hb⟩
  .cases z
  obtain⟨x,hx,rfl⟩:=vO hp;obtain⟨h1,h2⟩:=vN hx;have h3 :=(vN ((aW _ _).mem_iff.mp h1)).1;have ex :=Ef h3 T e;subst ex;have hf:=(vB _ _ ▸ h2).2;have hb:(dF aa ae (r,n)).any (da (bA aa ae day))=true:=hb;rw[M]at hb;cases O:eG aa ae r n m with
  |false=>rw[O]at hb;cases hb
  |true=>
   rw[O,if_pos rr]at hb;have c:((bA aa ae day).any λn=>decide ((n:Int)=(m:Int)))=true:=by simpa [da]using hb
   rw[rb]at c;exact⟨hf,rr,Vh c⟩
 .rintro⟨hf,O,hS⟩;by_cases h:n∈bA aa ae day
  .exact h
  .have G:=O;unfold eG at G;cases hq:aa[m]? with
   |none=>rw[hq]at G;cases G
   |some q=>
    rw[hq]at G;exact absurd hS (Mn T f hf h (by rw[M,if_pos O];exact mem_singleton.mpr rr) hq (vB _ _ ▸ G).2)
end
def PN (w:D):Prop:=w=.non\/∃s,w=.str s
noncomputable def C5:D->D->Bool
 |.str s,.str t=>decide (s=t)
 |_,_=>true
def P6 {w p:D}(hw:PN w)(hp:PN p){f h:FE}{ρ:DL.Env}{b:Bool}(G:f ρ=some (p,b))(e2:h ρ=some (w,false)):Gk (f2 Bn f (fC .non)) (f2 yM h (fA aO (af (fC .non) (af f ai)))) ρ=sO (C5 w p):=by
 have M:fA _ (af (fC .non) (af f ai)) ρ=sF _:=aG _ (bD rr (aN G rr)) (bW _ X9);rcases hp with rfl|⟨s,rfl⟩
 .refine(qi (p:=true) (q:=true) (b1:=false) (fU G rr (by simp )) λz=>by cases z).trans ?_;rcases hw with rfl|⟨t,rfl⟩<;>rfl
 .refine(qi (p:=false) (q:=C5 w (.str s)) (b1:=false) (fU G rr (by simp )) λ_=>bq w _ e2 M ?_).trans ?_
  .rcases hw with rfl|⟨t,rfl⟩
   .rfl
   .have:GX (.str t) [.non,.str s]=decide (t=s):=by
     show(fy .non (.str t) || (fy _ _ || false))=_;simp<;>lia
    simp only[yM,iu,vJ];rw[this];rfl
  .rfl
noncomputable def Wy:D->D
 |.tup [_,.tup (_::rest)]=>rest.getD 4 .non
 |_=>.non
def Gn (aa:LD)(n:Nat):D:=Wy (aa.getD (pend aa 60 n) .non)
def PW.wh (p:PW r x w):Wy r=w:=by
 obtain⟨a,k,d,b,m,rs,hk,rfl,_⟩:=p;rfl
section
variable {aa:LD}(g:∀r∈aa,ce r) (gw:∀r∈aa,AR r) (hl:aa.length<=30) (ae:Int) (hn:((bX (av aa ae)).map (bg 0)).Nodup) (ho:(cN (av aa ae)).length<=60)
include g gw hl
theorem Mo {day:Int}{n:Nat}(h:n∈jQ aa ae day):PN (Gn aa n)/\pB [.tup aa,.int n]=some (Gn aa n,false):=by
 obtain⟨h1,h2⟩:=vN (vN h).1;obtain⟨q,x,w,e,k,hk,M,hq,G,O,e2⟩:=uq g gw hl _ (iJ.mp h1) h2;have T:Gn aa n=w:=by
  unfold Gn;rw[M.pend 60 hk,vF,hq];exact G.wh
 rw[T];refine⟨?_,aq rr (ax (aG _ (bD (aG _ rr O) rr) G.whom))⟩;obtain⟨_,_,_,_,_,_,_,_,hw⟩:=G;exact hw
include hn ho
theorem Jo (day:Int)(n:Nat){G:D}(hp:PN G):gu [.tup aa,.int ae,.int day,.int n,G]=sO (decide (n∈jQ aa ae day) && C5 (Gn aa n) G):=by
 have M:aR (f2 _ (aj 3) (fA _ (fV 0 (fV 1 (fV 2 ai))))) [sF _,sF _,sF _,sF _,some (G,false)]=some _:=cH  (fU    rr (aG _ rr (C3 g gw hl _ hn ho day)) (uo n _));by_cases O:n∈jQ aa ae day
 .rw[pP O]at M |-;obtain⟨h1,h2⟩:=Mo g gw hl _ O;exact aq rr (a8 M (ax (P6 h1 hp    rr (aG _ rr h2))))
 .rw[TK O]at M |-;exact aq rr (bC M (ax rr))
omit hn ho in
theorem FW (day:Int){n m:Nat}{r:D}{a d:Int}{b:Str}(c:(r,n)∈av aa ae)(er:r=row a ("copy" : Str) [.int d,.str b,.int m])(M:D):(decide (n∈jQ aa ae day) && C5 (Gn aa n) M)=(mh aa ae day (r,n) && (eG aa ae r n m && (decide (m∈jQ aa ae day) && C5 (Gn aa m) M))):=by
 have G:=bd c;have O:=mU day c er;have U:Jg aa n=true:=by
  unfold Jg;rw[G];show decide (kindOf r∈bL)=true;rw[er];rfl
 by_cases hS:n∈bA aa ae day
 .obtain⟨hf,T,hm⟩:=O.mp hS;obtain⟨q,x,w,e,k,hk,f,hq,o,s,e2⟩:=uq g gw hl ae hS U;have j:∃k',k=k'+1/\Pb aa k' m e:=by
   cases f with
   |here _ t u v h p=>
    cases h.symm.trans G
    exact absurd (by rw[er];rfl) p.nocopy
   |copy k' _ y _ A d' b' h p=>
    have:=h.symm.trans G;rw[er]at this;cases this
    exact⟨k',rr,p⟩
  obtain⟨k',rfl,pm⟩:=j;have en:pend aa 60 n=e:=f.pend 60 hk;have i:pend aa 60 m=e:=pm.pend 60 N9;have h1:P5 aa n=P5 aa m:=by unfold P5;rw[en,i]
  have h2:Gn aa n=Gn aa m:=by unfold Gn;rw[en,i]
  have l:Jg aa m=true:=by
   unfold eG at T;unfold Jg;split<;>simp_all
  have h3:decide (n∈jQ aa ae day)=decide (m∈jQ aa ae day):=by
   simp_all[jQ,iJ]
  rw[hf,T,h3,h2];rfl
 .have h0:n∉jQ aa ae day:=λz=>hS (iJ.mp (vN (vN z).1).1);rw[TK h0,Bool.false_and];cases hf:mh aa ae day (r,n) with
  |false=>rfl
  |true=>
   cases T:eG aa ae r n m with
   |false=>rfl
   |true=>
    have:m∉jQ aa ae day:=λz=>hS (O.mpr ⟨hf,T,iJ.mp (vN (vN z).1).1⟩);simp_all
end
theorem AW:∀xs:LI,kF (xs.map .int)=some xs
 |[]=>rr
 |x::xs=>by
  show(kF _).map _=_;rw[AW xs];rfl
def P7 (l:LN):mB (.lst (l.map λn:Nat=>.int n)) (.lst [])=sO (!l.isEmpty):=by
 cases l with
 |nil=>rfl
 |cons a l=>simp
def Mp {k:Str}{r:LD}(h:Dd k r)(hk:k∈bL):∃(d:Int)(l:LD),r=.int d::l:=by
 cases h with
 |root=>exact absurd hk H9
 |_=>exact⟨_,_,rr⟩
section
variable {aa:LD}(g:∀r∈aa,ce r) (gw:∀r∈aa,AR r) (hl:aa.length<=30) (ae:Int) (hn:((bX (av aa ae)).map (bg 0)).Nodup) (ho:(cN (av aa ae)).length<=60)
include g gw hl hn ho
theorem Jp {G:Nat}{r:D}(M:aa[G]? = some r)(day:Int):o4 [.tup aa,.int ae,.int G,.int day]=lT ((pL aa ae G r day).map λn:Nat=>.int n):=by
 obtain⟨T,O⟩:=wZ  ⟨N9,λr M=>(g r M).c⟩ _ ho;exact aq rr (ax (aG _ (bD rr (bD rr (aN (aG _ rr T) (bD rr (bD rr rr))))) (qE g N9 _ O hn M _)))
omit gw in
theorem Mq (day:Int){n m:Nat}{r:D}{a d:Int}{b:Str}(U:ae=9999)(x:∀r∈aa,aZ r<=ae)(hc:o4 [.tup aa,.int ae,.int n,.int day]=lT ((pL aa ae n r day).map λn:Nat=>.int n))(M:aa[n]? = some r)(er:r=row a ("copy" : Str) [.int d,.str b,.int m]):tL [.tup aa,.int n,.int day]=sO (mh aa ae day (r,n) && eG aa ae r n m):=by
 have hd:b9 r=d:=by rw[er];rfl
 obtain⟨dd,G⟩:∃dd:D,dd=.tup [.str "copy",.int d,.str b,.int m]:=⟨_,rr⟩;let E:DL.Env:=[sT aa,sI n,sI day,some (dd,false),sI (m:Int)];have y:f2 bv (f2 bv (aj 0) (aj 1)) (fI 1) [sT aa,sI n,sI day,none,none]=some (dd,false):=bq r (.int 1) (bq (.tup aa) (.int n) rr rr (by simp[bx M])) rr (by rw[er,G];simp[row,yN]);have A:cF 3 3 [sT aa,sI n,sI day,some (dd,false),none]=sI (m:Int):=bq dd (.int 3) rr rr (by rw[G];simp[T5]);have o:cF 3 1 E=sI d:=bq dd (.int 1) rr rr (by rw[G];simp[yN]);have pre:∀ {T:FS}{res:Option Res},T E=res->a0 (aS 3 (f2 bv (f2 bv (aj 0) (aj 1)) (fI 1))) (a0 (aS 4 (cF 3 3)) T) [sT aa,sI n,sI day,none,none]=res:=λ{T res} hT=>hU dd y (by rw[G];rfl) (hU (.int (m:Int)) A rr hT);have s:dz (aR (f2 BB (cF 3 1) (aj 2))) (dz (bS (aR (fA eU (fV 0 (af (fI 9999) (fV 1 ai)))))) (aR (f2 mB (fA o4 (fV 0 (af (fI 9999) (fV 1 (fV 2 ai))))) (fA cx ai)))) E=some (!mh aa ae day (r,n)):=by
  refine(ci (p:=decide (day<d)) (q:=!lD aa ae r || !(pL aa ae n r day).isEmpty) (dH (bq (.int d) (.int day) o rr rr)) λ_=>ci (bF (dH (aG [.tup aa,.int 9999,.int n] rr (by rw[<-U];exact tQ aa (λr B=>(g r B).c.rp) N9 ae M)))) λ_=>cH (b:=false) (fU (b1:=true) (b2:=true) (aG [.tup aa,.int 9999,.int n,.int day] rr (by rw[<-U];exact hc)) rr (P7 _))).trans ?_;unfold mh;simp<;>lia
 cases hf:mh aa ae day (r,n) with
 |false=>exact aq rr (pre (bC (s.trans (by rw[hf];rfl)) (ax rr)))
 |true=>
  rw[Bool.true_and];refine aq rr (pre (a8 (s.trans (by rw[hf];rfl)) ?_));have tl:aR (f2 Qv (aj 4) (fA cR (fV 0 ai))) E=some (decide ((aa.length:Int)<=m)):=dH (bq (.int (m:Int)) (.int (aa.length:Nat)) rr (aG [.tup aa] rr rr) rr);cases hq:aa[m]? with
  |none=>
   have hm:aa.length<=m:=List.getElem?_eq_none_iff.mp hq;have e:eG aa ae r n m=false:=by unfold eG;rw[hq]
   rw[e];exact bC ((ci (p:=true) (q:=true) (tl.trans (by rw[pP N9])) λz=>by cases z).trans rr) (ax rr)
  |some q=>
   have hm:m<aa.length:=(vV hq).1;have hk:decide (aZ q<=ae)=true:=pP (x q (vL hq));have j:eG aa ae r n m=(decide (kindOf q∈bL) && cZ (q,m) (r,n)):=by unfold eG;rw[hq];show((decide (aZ q<=ae) && _) && _)=_;rw[hk];rfl
   rw[j];obtain⟨H,O,i,eq,C⟩:=g q (vL hq);have t:f2 bv (f2 bv (aj 0) (aj 4)) (fI 1) E=sT (.str O::i):=bq q (.int 1) (bq (.tup aa) (.int (m:Int)) rr rr (by simp[bx hq])) rr (by rw[eq];simp[row,yN]);have u:kindOf q=O:=by rw[eq];rfl
   have F:aR (f2 dZ (f2 bv (f2 bv (f2 bv (aj 0) (aj 4)) (fI 1)) (fI 0)) (fA aO (af (fS "paper") (af (fS "like") (af (fS "copy") ai))))) E=some (!decide (kindOf q∈bL)):=by
    rw[u];exact dH (bq (.str O) (.tup (bL.map .str)) (bq (.tup (.str O::i)) (.int 0) t rr (by simp[A2])) (aG [.str "paper",.str "like",.str "copy"] rr (bW _ X9)) (lC _ _))
   have v:=ci (p:=false) (tl.trans (by rw[TK N9])) λ_=>F;cases e:decide (kindOf q∈bL) with
   |false=>exact bC (v.trans (by rw[e];rfl)) (ax rr)
   |true=>
    rw[Bool.true_and];refine a8 (v.trans (by rw[e];rfl)) (ax ?_);obtain⟨f,l,w⟩:∃(f:Int)(l:LD),i=.int f::l:=by
     have h:O∈bL:=u ▸ Vh e;exact Mp C h
    have k:b9 q=f:=by rw[eq,w];rfl
    refine bq (.tup [.int f,.int (m:Int)]) (.tup [.int d,.int (n:Int)]) (aG [.int f,.int (m:Int)] (bD (bq (.tup (.str O::i)) (.int 1) t rr (by rw[w];simp[yN])) rr) (bW _ X9)) (aG [.int d,.int (n:Int)] (bD o rr) (bW _ X9)) ?_;rw[Sf];unfold cZ;rw[hd,k]
end
def UH (l:LD)(a:Nat):ia l none (some (a:Int))=l.take a:=by
 show(l.drop 0).take (min _ _ - 0)=_;simp
def Si (l:LD)(a:Nat):ia l (some (a:Int)) none=l.drop a:=by
 show(l.drop (min a _)).take (l.length - min a _)=_;rw[List.take_of_length_le (by rw[length_drop];lia)];by_cases h:a<=l.length
 .rw[Nat.min_eq_left h]
 .simp
def C6 (ps:LS)(hp:ps.length<=900)(a:Nat)(z:Str):p6 [.tup (ps.map .str),.int (a:Int),.str z]=some (.tup ((ps.take a++z::ps.drop (a+1)).map .str),false):=by
 have G:pV (aj 0) fz (eF (aj 1)) [some (.tup (ps.map .str),false),some (.int (a:Int),false),some (.str z,false)]=some (.tup ((ps.take a).map .str),false):=by
  show some _=_;rw[UH,List.map_take]
 have e2:pV (aj 0) (eF (f2 dm (aj 1) (fI 1))) fz [some (.tup (ps.map .str),false),some (.int (a:Int),false),some (.str z,false)]=some (.tup ((ps.drop (a+1)).map .str),false):=by
  show some (D.tup (ia _ (some ((a+1:Nat):Int)) _),false)=_;rw[Si,map_drop]
 refine aq rr (ax (fU (x:=.tup ((ps.take a++[z]).map .str))  (b1:=false)  (fU     G (aY  rr (bW _ X9)) ?_) e2 ?_))
 .show(if((ps.take a).map _).length+[D.str z].length<=sizeLine then some _ else none)=_;rw[if_pos (dX I9),uV];rfl
 .show(if((ps.take a++[z]).map _).length+((ps.drop _).map _).length<=sizeLine then some _ else none)=_;rw[if_pos (dX I9),<-uV,append_assoc];rfl
def Mr (l:LD)(x:D):oH (l++[x]) (-1)=some x:=by
 unfold oH JX;rw[uY,length_singleton,if_neg Z9,if_pos N9,show(-1+((l.length+1:Nat):Int)).toNat=l.length by lia];simp
inductive Rq:D->Prop
 |non (r:D) (h:kindOf r∉bL):Rq r
 |paper (h:Int) (rest:List D) (ps:List Str) (e:rest[5]? = some (.tup (ps.map .str))) (l:ps.length<=3):Rq (row h "paper" rest)
 |like (h:Int) (rest:List D) (m c:Nat) (z:Str) (e:rest[5]? = some (.int m)) (e2:rest[6]? = some (.tup [.tup [.int (c:Int),.str z]])):Rq (row h "like" rest)
 |copy (h:Int) (rest:List D) (m:Nat) (e:rest[2]? = some (.int m)):Rq (row h "copy" rest)
def Gv (v:D):Prop:=bc 20 v=true
noncomputable abbrev pE (aa G:LD)(q:LS)(M O T:OB):DL.Env:=[sT aa,sL G,sT (q.map .str),M,O,T]
def C7 (z:Str)(n:Nat):Gv (.tup [.str z,.int (n:Int)]):=by simp[Gv,bc]
abbrev PO:=LS ⊕ D
def Sj (r:Option Res)(aa G:LD)(M:OB):PO->Prop
 |.inl q=>∃O T,r=some (.nx (pE aa G q M O T))\/r=some (.ct (pE aa G q M O T))
 |.inr v=>r=some (.rt v false)
def UI (n:Nat):PO->Prop
 |.inl q=>q.length<=n
 |.inr v=>Gv v
section
variable {aa:LD}(hq:∀r∈aa,Rq r) (g:∀r∈aa,ce r)
include hq g
theorem P8 (i:Nat)(hi:i<aa.length)(q:LS)(hl:q.length<=500):∃o:PO,UI (q.length+1) o/\∀(G:LD)(M O:OB),Sj (bp (pE aa G q (sI i) M O)) aa G (sI i) o:=by
 obtain⟨r,U⟩:∃r,aa[i]? = some r:=⟨_,vU hi⟩;have ei:∀ {ρ:DL.Env},ρ[0]? = some (sT aa)->ρ[3]? = some (sI i)->f2 bv (aj 0) (aj 3) ρ=some (r,false):=λ{ρ} h0 h3=>bq (.tup aa) (.int i) (by simp[h0]) (by simp[h3]) (by simp[bx U]);have skip:∀k:Str,a9 [r]=sS k->decide (k = "like")=false->∃o:PO,UI (q.length+1) o/\∀(G:LD)(M O:OB),Sj (bp (pE aa G q (sI i) M O)) aa G (sI i) o:=λk hw hk=>⟨.inl q,by show q.length<=_;lia,λG M O=>⟨M,O,.inr (by
  have t:aR (f2 mB (fA a9 (af (f2 bv (aj 0) (aj 3)) ai)) (fS "like")) (pE aa G q (sI i) M O)=some true:=(ui (a:=k) (bb:=false) (aG [r] (bD (ei rr rr) rr) hw)).trans (by rw[hk];rfl);show a0 (cU _ Dr aQ) _ _=_;unfold a0 cU;rw[t];rfl)⟩⟩
 have hR:=hq r (vL U);cases hR with
 |non r h=>exact skip (kindOf r) (jc (g r (vL U)).c) (TK λz=>h (by rw[z];decide +kernel))
 |paper h rest ps e l=>exact skip "paper" (bV _ _ _) H9
 |copy h rest m e=>exact skip "copy" (bV _ _ _) H9
 |like h rest m c z e e2=>
  have t:∀G M O,aR (f2 mB (fA a9 (af (f2 bv (aj 0) (aj 3)) ai)) (fS "like")) (pE aa G q (sI i) M O)=some false:=λG M O=>(ui (a:="like") (bb:=false) (aG [row h "like" rest] (bD (ei rr rr) rr) (bV _ _ _))).trans (by rw[pP rr];rfl);have d:∀G M O,bM (fA au _) _=some [.tup [.int (c:Int),.str z]]:=λG M O=>by
   have f:fA au (af (f2 bv (aj 0) (aj 3)) (af (fS "changes") ai)) (j9 (pE aa G q (sI i) M O))=some _:=aG [row h "like" rest,.str "changes"] (bD (bq (.tup aa) (.int i) rr rr (by simp[bx U])) rr) (b7 (i:=6) cY e2);unfold bM;rw[f];rfl
  have b:∀G,aR (f2 BB (aj 4) (fA cR (fV 2 ai))) (pE aa G q (sI i) (sI (c:Int)) (sS z))=some (decide ((q.length:Int)<c)):=λG=>dH (bq (.int (c:Int)) (.int (q.length:Int)) rr (aG [.tup (q.map .str)] rr X9) rr);have T:∀G M O,bp (pE aa G q (sI i) M O)=gU (Dm [4,5]) cS [.tup [.int (c:Int),.str z]] (pE aa G q (sI i) M O):=λG M O=>by
   refine a8 (t G M O) ?_;show(bM _ (j9 (pE aa G q (sI i) M O))).bind _=_;rw[d];rfl
  by_cases hc:(q.length:Int)<c
  .rw[pP hc]at b;refine⟨.inr (.tup [.str "beyond",.int (i:Int)]),C7 "beyond" i,λG M O=>?_⟩;have b1:cS _=some _:=bC (b G) (ax (aG [.str "beyond",.int (i:Int)] rr (bW _ X9)));show bp _=_;rw[T,vx];show(match cS (pE aa G q (sI i) (sI (c:Int)) (sS z)) with|some (.nx ρ')=>_|some (.ct ρ')=>_|some (.bk ρ')=>_|r=>r)=_;rw[b1]
  .rw[TK hc]at b;refine⟨.inl (q.take c++z::q.drop (c+1)),by show(q.take c++z::q.drop (c+1)).length<=_;simp<;>lia,λG M O=>⟨sI (c:Int),sS z,.inl ?_⟩⟩
   have b1:cS _=some _:=a8 (b G) (gp (aG _ rr (C6 q N9 c z)) (show bB _=true from cz _));rw[T,vx];show(match cS (pE aa G q (sI i) (sI (c:Int)) (sS z)) with|some (.nx ρ')=>_|some (.ct ρ')=>_|some (.bk ρ')=>_|r=>r)=_;rw[b1];exact rA ..
def Sk (r:Option Res)(aa G:LD):PO->Prop
 |.inl q=>∃M O T,r=some (.nx (pE aa G q M O T))
 |.inr v=>r=some (.rt v false)
def Tl (aa T:LD):Prop:=∀(G:LD)(q:LS)(M O U:OB),∃a b c,gU (dh 3) bp T (pE aa G q M O U)=some (.nx (pE aa G q a b c))
theorem Jq:∀(l:LN)(q:LS),(∀i∈l,i<aa.length)->q.length+l.length<=400->∃o:PO,UI 400 o/\∀T,Tl aa T->∀(G:LD)(U M O:OB),Sk (gU (dh 3) bp ((l.map λ(i:Nat)=>.int (i:Int))++T) (pE aa G q U M O)) aa G o
 |[],q,_,hl=>⟨.inl q,by show q.length<=400;simp_all,λT a G U M O=>a G q U M O⟩
 |i::l,q,hi,hl=>by
  rw[vC]at hl;have b:∀T G U M O,gU (dh 3) bp (((i::l).map _)++T) (pE aa G q U M O)=match bp (pE aa G q (sI i) M O) with
    |some (.nx ρ')=>gU (dh 3) bp _ ρ'
    |some (.ct ρ')=>gU (dh 3) bp _ ρ'
    |some (.bk ρ')=>some (.nx ρ')
    |r=>r:=λT G U M O=>by rfl
  obtain⟨o,ho,h⟩:=P8 hq g i (hi i (mX ..)) q N9;cases o with
  |inr v=>exact⟨.inr v,ho,λT a G U M O=>by
    have h1 :=h G M O;show gU _ _ _ _=_;rw[b,h1]⟩
  |inl c=>
   have ho:c.length<=q.length+1:=ho;obtain⟨d,e,h2⟩:=Jq l c (λj hj=>hi j (mZ _ hj)) N9;refine⟨d,e,λT a G U M O=>?_⟩;obtain⟨f,k,h1|h1⟩:=h G M O
   .rw[b,h1];exact h2 T a G _ _ _
   .rw[b,h1];exact h2 T a G _ _ _
theorem Ms {n:Nat}{a:Int}{rc:LD}(hc:aa[n]? = some (row a "copy" rc)):Tl aa [.int (n:Int)]:=λG q T M O=>by
 have t:aR (f2 _ (fA _ (af (f2 bv (aj 0) (aj 3)) ai)) (fS "like")) (pE aa G q (sF _) M O)=some _:=(ui   (aG [row a "copy" rc] (bD (bq _ (.int n) rr rr (by simp[bx hc])) rr) (bV _ _ _))).trans S9;refine⟨sI n,M,O,?_⟩;show(match bp (pE _ _ q _ M O) with|some (.nx _)=>_|some (.ct _)=>_|some (.bk _)=>_|r=>r)=_;have hb:bp (pE aa G q (sI n) M O)=some (.ct (pE aa G q (sI n) M O)):=by
  show a0 _ _ _=_;unfold a0 cU;rw[t];rfl
 rw[hb];exact rA ..
theorem Jr (p:LN)(m n:Nat)(hp:∀i∈p++[m],i<aa.length)(hl:p.length<=300){h:Int}{rest:LD}{ps:LS}(hm:aa[m]? = some (row h "paper" rest))(O:rest[5]? = some (.tup (ps.map .str)))(h3:ps.length<=3){a:Int}{rc:LD}(hc:aa[n]? = some (row a "copy" rc)):∃v,Gv v/\dD [.tup aa,.lst ((p++[m]).map λ(i:Nat)=>.int (i:Int))]=some (v,false)/\dD [.tup aa,.lst ((n::p++[m]).map λ(i:Nat)=>.int (i:Int))]=some (v,false):=by
 have G:∀init:LN,fA au (af (f2 bv (aj 0) (f2 bv (aj 1) (f1 zr (fI 1)))) (af (fS "pieces") ai)) [sT aa,sF _,none,none,none,none]=sT (ps.map .str):=λinit=>by
  refine aG [row h "paper" rest,.str "pieces"] (bD (bq (.tup aa) (.int (m:Int)) rr (bq (.lst ((init++[m]).map λ(i:Nat)=>D.int (i:Int))) (.int (-1)) rr rr ?_) (by simp[bx hm])) rr) (b7 (i:=5) cY O);show(oH _ (-1)).map _=_;rw[uV,show List.map (λ(n:Nat)=>D.int (n:Int)) [m]=[D.int (m:Int)]from rr,Mr];rfl
 have ei:∀l:LN,L8 (aj 1) (j9 (pE aa (l.map λ(i:Nat)=>D.int (i:Int)) ps none none none))=some (l.reverse.map λ(i:Nat)=>.int (i:Int)):=λl=>by
  show some (l.map λ(i:Nat)=>D.int (i:Int)).reverse=_;simp
 have ii:∀(init:LN)(o:PO),Sk _ aa ((init++[m]).map λ(i:Nat)=>D.int (i:Int)) o->dD [.tup aa,.lst ((init++[m]).map λ(i:Nat)=>.int (i:Int))]=some ((match o with|.inl q=>.tup [.str "words",.tup (q.map .str)]|.inr v=>v),false):=λinit o ho=>by
  cases o with
  |inl q=>
   obtain⟨c,d,f,e⟩:=ho;exact aq rr (hU (.tup (ps.map .str)) (G init) (show bB _=true from cz _) (cV (jj (ei _) e) (ax (aG [.str "words",.tup (q.map .str)] rr (bW _ X9)))))
  |inr v=>
   refine aq rr (hU (.tup (ps.map .str)) (G init) (show bB _=true from cz _) (Pp ?_));show(L8 (aj 1) (j9 (pE aa _ ps none none none))).bind _=_;rw[ei];exact ho
 obtain⟨o,ho,ha⟩:=Jq hq g (p++[m]).reverse ps (λi hi=>hp i (List.mem_reverse.mp hi)) (by rw[List.length_reverse,uY,length_singleton];lia);refine⟨_,?_,ii p o (by have:=ha [] (λM q T U b=>⟨T,U,b,rA ..⟩) ((p++[m]).map λ(i:Nat)=>D.int (i:Int)) none none none;rwa [uP]at this),ii (n::p) o ?_⟩
 .cases o with
  |inl q=>show bc 20 (.tup [.str "words",.tup (q.map .str)])=true;simp
  |inr v=>exact ho
 .have er:(n::p++[m]).reverse.map (λ(i:Nat)=>D.int (i:Int))=((p++[m]).reverse.map λ(i:Nat)=>D.int (i:Int))++[.int (n:Int)]:=by
   simp
  rw[er];exact ha _ (Ms hq g hc) _ _ _ _
end
theorem Ez {α:Type}(p q:α->Bool):∀(l:List α),(∀x∈l,p x=true->q x=true)->∀x∈l,q x=true->p x=false->(l.filter p).length<(l.filter q).length
 |[],_,x,hx,_,_=>nomatch hx
 |y::l,h,x,hx,hq,hp=>by
  have G:(l.filter p).length<=(l.filter q).length:=by
   rw[<-List.countP_eq_length_filter,<-List.countP_eq_length_filter];exact List.countP_mono_left λz hz=>h z (mZ _ hz)
  rcases vP hx with rfl|hx
  .grind
  .have M:=Ez p q l (λz hz=>h z (mZ _ hz)) x hx hq hp;grind
def FX {S T:LN}(h:S.Perm T):kK S=kK T:=by
 rw[yB,yB];congr 1;refine pi _ _ _ (λx _ y _ e=>by lia) ?_ (eP _ _) (eP _ _);exact(aW _ _).trans (h.trans (aW _ _).symm)
noncomputable abbrev wE (aa:LD)(ae:Int)(n0:Nat)(G:LN)(m:Nat):DL.Env:=[sT aa,sI ae,sI n0,lT (G.map λ(i:Nat)=>.int (i:Int)),sI m]
def Sl:FE:=Iv (fS "ring") (fA gn (af (pV (aj 3) (eF (f2 mM (aj 3) (aj 4))) fz) ai))
abbrev wC:FT:=aR (f2 dZ (aj 4) (aj 3))
abbrev WF (fuel:Nat):FS:=a0 (cJ wC dE fuel) (aE Sl)
section
variable {aa:LD}{ae:Int}{n0 a:Nat}{gM:LN}
def Js:wC (wE aa ae n0 gM a)=some (!decide (a∈gM)):=dH (bq _ _ rr rr (uo a _))
def Mt {v:D}{b:Bool}{fuel:Nat}(h:a∉gM)(e:dE (wE aa ae n0 gM a)=some (.rt v b)):WF (fuel+1) (wE aa ae n0 gM a)=some (.rt v b):=by
 refine Pp ?_;rw[cJ,Js,TK h];rw[Bool.not_false];rw[e]
def Jt {ρ:DL.Env}{fuel:Nat}(h:a∉gM)(e:dE (wE aa ae n0 gM a)=some (.nx ρ)):WF (fuel+1) (wE aa ae n0 gM a)=WF fuel ρ:=by
 have:cJ wC dE (fuel+1) (wE aa ae n0 gM a)=cJ wC dE fuel ρ:=by
  rw[cJ,Js,TK h];rw[Bool.not_false];rw[e]
 show a0 _ _ _=a0 _ _ _;unfold a0;rw[this]
def ur {fuel i:Nat}(h:a∈gM)(hl:gM.length<=60)(hi:(gM.map λ(n:Nat)=>(n:Int)).findIdx (· == (a:Int))=i):WF (fuel+1) (wE aa ae n0 gM a)=some (.rt (.tup [.str "ring",.lst (kK (gM.drop i))]) true):=by
 have M:cJ wC dE (fuel+1) (wE aa ae n0 gM a)=some (.nx (wE aa ae n0 gM a)):=by
  rw[cJ,Js,pP h];rfl
 have G :=hi ▸ List.findIdx_lt_length_of_exists ⟨(a:Int),uR ⟨a,h,rr⟩,X9⟩;have O:f2 mM (aj 3) (aj 4) (wE aa ae n0 gM a)=sI (i:Int):=by
  refine bq _ (.int (a:Int)) rr rr ?_;have T:(gM.map λ(n:Nat)=>D.int (n:Int))=(gM.map λ(n:Nat)=>(n:Int)).map .int:=by rw[uO];rfl
  rw[T];simp only[mM,AW,vJ];rw[hi,if_pos G]
 have e2:pV (aj 3) (eF (f2 mM (aj 3) (aj 4))) fz (wE aa ae n0 gM a)=lT ((gM.drop i).map λ(n:Nat)=>.int (n:Int)):=by
  have ho:eF (f2 mM (aj 3) (aj 4)) (wE aa ae n0 gM a)=some (some (i:Int)):=by unfold eF;rw[O]
  unfold pV;rw[show aj 3 _=some _ from rr,vJ,ho,vJ,show fz _=some none from rr,vJ];show some _=_;rw[Si,map_drop]
 refine cV M (ax ?_);have U:fA gn (af _ ai) _=lT (kK (gM.drop i)):=aG _ (aN e2 rr) (FR _ (by rw[length_drop];lia));show((fS "ring" (wE aa ae n0 gM a)).bind λx=>(fA gn _ (wE aa ae n0 gM a)).bind _)=_;rw[U];rfl
end
noncomputable def left (aa:LD)(p:LN):Nat:=((List.range aa.length).filter λi=>decide (i∉p)).length
def Mu {aa:LD}{p:LN}{a:Nat}(ha:a<aa.length)(h:a∉p):left aa (p++[a])<left aa p:=by
 refine Ez _ _ _ (λx _ hx=>?_) a (mem_range.mpr ha) (pP h) (TK X9);grind
def Mv {n a:Nat}(p:LN)(h:a≠n):((n::p).map λ(n:Nat)=>(n:Int)).findIdx (· == (a:Int))=(p.map λ(n:Nat)=>(n:Int)).findIdx (· == (a:Int))+1:=by
 grind
def yD (a:Nat)(p:LN):((a::p).map λ(n:Nat)=>(n:Int)).findIdx (· == (a:Int))=0:=by
 grind
def yE (S:LN):Gv (.tup [.str "ring",.lst (kK S)]):=by
 have:(kK S).all (bc 18)=true:=by
  rw[all_eq_true];intro d hd;obtain⟨z,_,rfl⟩:=vO hd;rfl
 show(true && (bc 19 _ && true))=true;simp_all
section
variable {aa:LD}(hq:∀r∈aa,Rq r) (g:∀r∈aa,ce r) (ae:Int)
include hq g
theorem P9 (a:Nat):(∃v,Gv v/\∀n0 G,dE (wE aa ae n0 G a)=some (.rt v false))\/(a<aa.length/\((∃h rest,∃ps:LS,aa[a]? = some (row h "paper" rest)/\rest[5]? = some (.tup (ps.map .str))/\ps.length<=3/\∀n0 G v,G.length<=100->dD [.tup aa,.lst ((G++[a]).map λ(i:Nat)=>.int (i:Int))]=some (v,false)->dE (wE aa ae n0 G a)=some (.rt v false))\/∃k,∀n0 G,G.length<=100->dE (wE aa ae n0 G a)=some (.nx (wE aa ae n0 (G++[a]) k)))):=by
 cases O:aa[a]? with
 |none=>
  have hn:aa.length<=a:=List.getElem?_eq_none_iff.mp O;refine .inl ⟨_,C7 "lacks" a,λn0 G=>bC (bF (p:=false) (dH (aG [.tup aa,.int ae,.int a] rr (aq rr (ax (cL (p:=false) (q:=false) (aG [.tup aa,.int ae,.int a] rr (xi hn ae)) λz=>by cases z)))))) (ax (aG [.str "lacks",.int (a:Int)] rr (bW _ X9)))⟩
 |some r=>
  have m:=g r (vL O);have ha:=(vV O).1;have ei:∀ {ρ:DL.Env},ρ[0]? = some (sT aa)->ρ[4]? = some (sI a)->f2 bv (aj 0) (aj 4) ρ=some (r,false):=λ{ρ} h0 h3=>bq (.tup aa) (.int a) (by simp[h0]) (by simp[h3]) (by simp[bx O]);have j:∀n0 G,bS (aR (fA cj (fV 0 (fV 1 (fV 4 ai))))) (wE aa ae n0 G a)=some (!(decide (aZ r<=ae) && decide (kindOf r∈bL))):=λn0 G=>bF (dH (aG [.tup aa,.int ae,.int a] rr (lI O m ae)));cases U:(decide (aZ r<=ae) && decide (kindOf r∈bL)) with
  |false=>exact .inl ⟨_,C7 "lacks" a,λn0 G=>bC ((j n0 G).trans (by rw[U];rfl)) (ax (aG [.str "lacks",.int (a:Int)] rr (bW _ X9)))⟩
  |true=>
   have hk:=Vh (vB _ _ ▸ U).2;have s1:∀n0 G,bS (aR (fA cj (fV 0 (fV 1 (fV 4 ai))))) (wE aa ae n0 G a)=some false:=λn0 G=>(j n0 G).trans (by rw[U];rfl);have M:∀n0 G,G.length<=100->∀ {T:FS}{res:Option Res},T (wE aa ae n0 (G++[a]) a)=res->a0 (ju 3 (aj 4)) T (wE aa ae n0 G a)=res:=λn0 G hl {T res} hT=>DK (ds:=G.map λ(i:Nat)=>.int (i:Int)) (d:=.int (a:Int)) (b:=false) rr rr rr (cC (by rw[vI];lia)) (by
    grind)
   refine .inr ⟨ha,?_⟩;have hR:=hq r (vL O);cases hR with
   |non r h=>exact absurd hk h
   |paper h rest ps e l=>exact .inl ⟨h,rest,ps,rr,e,l,λn0 G v hl n=>a8 (s1 n0 G) (M n0 G hl (bC (cn (a:="paper") (bb:=false) (aG [row h "paper" rest] (bD (ei rr rr) rr) (bV _ _ _)) (pP rr)) (ax (aG [.tup aa,.lst ((G++[a]).map λ(i:Nat)=>.int (i:Int))] rr n))))⟩
   |like h rest f c z e e2=>exact .inr ⟨f,λn0 G hl=>a8 (s1 n0 G) (M n0 G hl (a8 (cn (a:="like") (bb:=false) (aG [row h "like" rest] (bD (ei rr rr) rr) (bV _ _ _)) (TK H9)) (gp (aG [row h "like" rest,.str "of"] (bD (ei rr rr) rr) (b7 (i:=5) cY e)) rr)))⟩
   |copy h rest f e=>exact .inr ⟨f,λn0 G hl=>a8 (s1 n0 G) (M n0 G hl (a8 (cn (a:="copy") (bb:=false) (aG [row h "copy" rest] (bD (ei rr rr) rr) (bV _ _ _)) (TK H9)) (gp (aG [row h "copy" rest,.str "of"] (bD (ei rr rr) rr) (b7 (i:=2) cY e)) rr)))⟩
theorem AX (D:aa.length<=30){n m:Nat}(o:m≠n){u:Int}{rc:LD}(hc:aa[n]? = some (row u "copy" rc))(w:∀n0 M,M.length<=100->dE (wE aa ae n0 M n)=some (.nx (wE aa ae n0 (M++[n]) m)))(k:Nat)(p:LN)(a fA O:Nat)(hk:left aa p<=k)(hp:p.length+left aa p<=aa.length)(hi:∀i∈p,i<aa.length/\i≠n)(hs:p=[]/\a=m\/∃t,p=m::t)(E:k+3<=fA)(F:k+3<=O)
  (x:∀(b:LN)(f:Nat),left aa b<left aa p->b.length+left aa b<=aa.length->(∀i∈b,i<aa.length/\i≠n)->(b=[]/\f=m\/∃t,b=m::t)->∃v b1 b2,Gv v/\WF (fA - 1) (wE aa ae n (n::b) f)=some (.rt v b1)/\WF (O - 1) (wE aa ae m b f)=some (.rt v b2)):∃v b1 b2,Gv v/\WF fA (wE aa ae n (n::p) a)=some (.rt v b1)/\WF O (wE aa ae m p a)=some (.rt v b2):=by
 obtain⟨fA,rfl⟩:∃j,fA=j+1:=⟨fA - 1,N9⟩;obtain⟨O,rfl⟩:∃j,O=j+1:=⟨O - 1,N9⟩;by_cases U:a=n
 .subst U;rcases hs with⟨_,h⟩|⟨t,rfl⟩
  .exact absurd h.symm o
  have y:a∉m::t:=λz=>(hi a z).2 rr;obtain⟨O,rfl⟩:∃j,O=j+1:=⟨O - 1,N9⟩;refine⟨.tup [.str "ring",.lst (kK (a::m::t))],true,true,yE _,?_,?_⟩
  .exact ur (i:=0) (mX ..) (by rw[vC];lia) (yD _ _)
  .rw[Jt y (w m (m::t) N9),ur (i:=0) (mem_append.mpr (.inl (mX ..))) (by rw[uY,length_singleton];lia) (yD _ _)];rw[List.drop_zero,FX (S:=m::t++[a]) (T:=a::m::t) (List.perm_append_singleton a (m::t))]
 .have q:a∉p->a∉n::p:=λh z=>by
   rcases vP z with z|z
   .exact U z
   .exact h z
  by_cases G:a∈p
  .refine⟨_,true,true,yE _,ur (mZ _ G) (by rw[vC];lia) (Mv p U),?_⟩;rw[List.drop_succ_cons];exact ur G N9 rr
  .rcases P9 hq g ae a with⟨v,s,c⟩|⟨ha,⟨h,rest,ps,A,e,l,c⟩|⟨f,c⟩⟩
   .exact⟨v,false,false,s,Mt (q G) (c _ _),Mt G (c _ _)⟩
   .obtain⟨v,s,B,e2⟩:=Jr hq g p a n (λi d=>by
     rcases mem_append.mp d with z|z
     .exact(hi i z).1
     .cases uS z;exact ha) N9 A e l hc
    exact⟨v,false,false,s,Mt (q G) (c _ _ _ (by rw[vC];lia) e2),Mt G (c _ _ _ N9 B)⟩
   .rw[Jt (q G) (c _ _ (by rw[vC];lia)),Jt G (c _ _ N9)];have C:=Mu ha G;refine x (p++[a]) f C (by rw[uY,length_singleton];lia) (λi d=>?_) (.inr ?_)
    .rcases mem_append.mp d with z|z
     .exact hi i z
     .cases uS z;exact⟨ha,U⟩
    .rcases hs with⟨rfl,rfl⟩|⟨t,rfl⟩
     .exact⟨[],rr⟩
     .exact⟨t++[a],rr⟩
theorem Yc (c:aa.length<=30){n m:Nat}(O:m≠n){e:Int}{rc:LD}(hc:aa[n]? = some (row e "copy" rc))(T:∀n0 G,G.length<=100->dE (wE aa ae n0 G n)=some (.nx (wE aa ae n0 (G++[n]) m))):∀(k:Nat)(p:LN)(a fA M:Nat),left aa p<=k->p.length+left aa p<=aa.length->(∀i∈p,i<aa.length/\i≠n)->(p=[]/\a=m\/∃t,p=m::t)->k+3<=fA->k+3<=M->∃v b1 b2,Gv v/\WF fA (wE aa ae n (n::p) a)=some (.rt v b1)/\WF M (wE aa ae m p a)=some (.rt v b2):=by
 intro k;induction k with
 |zero=>
  intro p a fA M hk hp hi hs U b;exact AX hq g _ c O hc T 0 p a fA M hk hp hi hs U b λd _ h _=>by lia
 |succ k f=>
  intro p a fA M hk hp hi hs U b;exact AX hq g _ c O hc T _ p a fA M hk hp hi hs U b λd j h1 h2 h3 h4=>f d j _ _ N9 h2 h3 h4 N9 N9
theorem C8 (c:aa.length<=30){n m:Nat}{O d:Int}{b:Str}(hc:aa[n]? = some (row O "copy" [.int d,.str b,.int m]))(hk:O<=ae):∃v b1 b2,Gv v/\gQ [.tup aa,.int ae,.int n]=some (v,b1)/\gQ [.tup aa,.int ae,.int m]=some (v,b2):=by
 have f:=g _ (vL hc);have M:∀n0 G,G.length<=100->dE (wE aa ae n0 G n)=some (.nx (wE aa ae n0 (G++[n]) m)):=λn0 G hl=>by
  have ei:∀ {ρ:DL.Env},ρ[0]? = some (sT aa)->ρ[4]? = some (sI n)->f2 bv (aj 0) (aj 4) ρ=some (row O "copy" [.int d,.str b,.int m],false):=λ{ρ} h0 h3=>bq (.tup aa) (.int n) (by simp[h0]) (by simp[h3]) (by simp[bx hc]);have s1:bS (aR (fA cj (fV 0 (fV 1 (fV 4 ai))))) (wE aa ae n0 G n)=some false:=(bF (dH (aG [.tup aa,.int ae,.int n] rr (lI hc f ae)))).trans (by
   rw[pP (show aZ (row O "copy" [.int d,.str b,.int m])<=ae from hk)];rfl)
  refine a8 s1 (DK  (d:=.int (n:Int)) (b:=false) rr rr rr (cC (by rw[vI];lia)) ?_);have e:(G.map λ(i:Nat)=>D.int (i:Int))++[.int (n:Int)]=(G++[n]).map λ(i:Nat)=>D.int (i:Int):=by rw[uV];rfl
  rw[e];exact a8 (cn (a:="copy") (bb:=false) (aG [row O "copy" [.int d,.str b,.int m]] (bD (ei rr rr) rr) (bV _ _ _)) (TK H9)) (gp (aG _ (bD (ei rr rr) rr) (b7 (i:=2) cY rr)) rr)
 by_cases T:m=n
 .subst T;have U:WF 1000 (wE aa ae m [] m)=some (.rt (.tup [.str "ring",.lst (kK (([]++[m]:LN).drop 0))]) true):=by
   rw[Jt X9 (M m [] X9)];exact ur (fuel:=998) (i:=0) X9 X9 (yD m [])
  have e2:gQ [.tup aa,.int ae,.int m]=some _:=aq rr (c8 (ds:=[]) (aG [] rr (fF _ X9)) rr (hU (.int m) rr rr U));exact⟨_,_,_,yE _,e2,e2⟩
 have h0:left aa []<=aa.length:=by unfold left;exact vR (vM _ _) X9
 obtain⟨v,b1,b2,h,U,e2⟩:=Yc hq g ae c T hc M aa.length [] m 999 1000 h0 (by rw[length_nil];lia) X9 (.inl ⟨rr,rr⟩) N9 N9;have j:WF 1000 (wE aa ae n [] n)=some (.rt v b1):=by rw[Jt X9 (M n [] X9)];exact U
 exact⟨v,b1,b2,h,aq rr (c8 (ds:=[]) (aG [] rr (fF _ X9)) rr (hU (.int n) rr rr j)),aq rr (c8 (ds:=[]) (aG [] rr (fF _ X9)) rr (hU (.int m) rr rr e2))⟩
end
def Nq {F:LD->OB}{fa:FA}{ρ:DL.Env}{x:OB}(ds:LD)(e:fa ρ=some ds)(k:F (ds++[.non])=x):Q1 F fa ρ=x:=by simp_all
def Nr (p:Bool):mB (.bl p) (.bl p)=sO false:=X9
def yF (z:LI):dA (.lst (z.map .int)) (.lst (z.map .int))=sO true:=by
 have h:bc 40 (.lst (z.map .int))=true:=by
  simp
 simp only[dA];rw[if_pos ⟨h,h⟩,o5 40 _ h]
def Ju (z:LI)(n:Int)(h:z.length<=300):dm (.lst (z.map .int)) (.lst [.int n])=lT ((z++[n]).map .int):=by
 simp[sizeLine];lia
theorem Sm {zs:LS}{i:Int}(h1:0<=i)(h:i.toNat<zs.length):bv (.lst (zs.map .str)) (.int i)=sS (zs.getD i.toNat ""):=by
 obtain⟨k,rfl⟩:=Int.eq_ofNat_of_zero_le h1;have h:k<zs.length:=h;show(oH _ _).map _=_;rw[bx (r:=.str (zs.getD k "")) (by simp[h])];rfl
def FY {aa:LD}{ae:Int}{n m:Nat}{r:D}{a d:Int}{b:Str}(er:r=row a ("copy" : Str) [.int d,.str b,.int m]):dF aa ae (r,n)=if eG aa ae r n m=true then [(none,(m:Int))]else []:=by
 have G:kindOf r = "copy":=by rw[er];rfl
 have hm:je 2 r=m:=by rw[er];rfl
 unfold dF m7;rw[if_pos G,hm,Int.toNat_natCast]
section
variable {aa:LD}(g:∀r∈aa,ce r) (gw:∀r∈aa,AR r) (hl:aa.length<=30) (ae:Int) (hn:((bX (av aa ae)).map (bg 0)).Nodup) (ho:(cN (av aa ae)).length<=60)
include g hl hn ho
theorem C9 (day:Int){n m:Nat}{r:D}{a d:Int}{b:Str}(M:(r,n)∈av aa ae)(er:r=row a ("copy" : Str) [.int d,.str b,.int m]):(∃z:LI,gS [.tup aa,.int ae,.int day,.int n]=lT ((z++[(n:Int)]).map .int)/\gS [.tup aa,.int ae,.int day,.int m]=lT (z.map .int)/\z.length<=300/\(mh aa ae day (r,n) && eG aa ae r n m)=true)\/(gS [.tup aa,.int ae,.int day,.int n]=sF .non/\((mh aa ae day (r,n) && eG aa ae r n m)=true->gS [.tup aa,.int ae,.int day,.int m]=sF .non)):=by
 have G:=bd M;by_cases hS:n∈bA aa ae day
 .left;obtain⟨hf,U,hm⟩:=(mU day M er).mp hS;obtain⟨q,hq,_⟩:=Ji hm;obtain⟨ns,c,k,hk⟩:=Jl g day _ m q hq hm (lt_succ_self _);have h:ns.length<=40:=by
   have h1:((av aa ae).filter λz=>cZ z (q,m)).length<=(av aa ae).length:=vM _ _;have h2 :=cD aa ae;lia
  have O:(Ka aa ae n).filter (da (bA aa ae day))=[((none,(m:Int)):Bs)]:=by
   have e:Ka aa ae n=[((none,(m:Int)):Bs)]:=by
    unfold Ka;rw[G];show dF aa ae (r,n)=_;rw[FY er,if_pos U]
   rw[e];have:da (bA aa ae day) ((none,(m:Int)):Bs)=true:=by
    unfold da;simp<;>lia
   simp[this]
  have f :=Lk.more n m ns c _ [] hS O rr rr k;refine⟨(((m::ns).map λ(x:Nat)=>(x:Int))++[c]).reverse,(xo g hl ae hn ho day f I9).trans ?_,(xo g hl ae hn ho day k N9).trans ?_,I9,by rw[hf,U];rfl⟩
  .simp
  simp
 .right;refine⟨AU g hl ae hn ho day hS,λT=>AU g hl ae hn ho day λhm=>hS ?_⟩;rw[vB]at T;exact(mU day M er).mpr ⟨T.1,T.2,hm⟩
include gw
theorem Sn (e:ae=9999)(l:∀r∈aa,aZ r<=ae)(zs:LS)(hz:3<=zs.length)(day:Nat){n m:Nat}{r:D}{a d:Int}{b:Str}(f:(r,n)∈av aa ae)(er:r=row a ("copy" : Str) [.int d,.str b,.int m]):Cn [.tup aa,.int n,.int day,.lst (zs.map .str)]=sO true:=by
 subst e;have O:=bd f;obtain⟨dd,T⟩:∃dd:D,dd=.tup [.str "copy",.int d,.str b,.int m]:=⟨_,rr⟩;obtain⟨G,U⟩:∃G,G=(mh aa 9999 day (r,n) && eG aa 9999 r n m):=⟨_,rr⟩;have o :=U ▸ Mq g hl 9999 hn ho day rr l (Jp g gw hl 9999 hn ho O day) O er;have s:f2 bv (f2 bv (f2 bv (aj 0) (aj 1)) (fI 1)) (fI 3) [sT aa,sI n,sI day,sL (zs.map .str),none,none,none,none,none]=sI (m:Int):=bq dd (.int 3) (bq r (.int 1) (bq (.tup aa) (.int n) rr rr (by simp[bx O])) rr (by rw[er,T];simp[row,yN])) rr (by rw[T];simp[T5]);have hh:∀(M:D),PN M->∀k:Nat,gu [.tup aa,.int 9999,.int day,.int k,M]=sF _:=λM hp k=>Jo g gw hl 9999 hn ho day k hp;have hc:∀M:D,(G && (decide (m∈jQ aa 9999 day) && C5 (Gn aa m) M))=(decide (n∈jQ aa 9999 day) && C5 (Gn aa n) M):=λM=>by
  rw[U,FW g gw hl 9999 day f er M,Bool.and_assoc]
 let z:Str:=zs.getD (((n:Int)+day) % 3).toNat "";let j:DL.Env:=[sT aa,sI n,sI day,sL (zs.map .str),sI (m:Int),sO G,none,none,none];let t:DL.Env:=[sT aa,sI n,sI day,sL (zs.map .str),sI (m:Int),sO G,sS z,none,none];have u:aR (f2 mB (Q1 gu (fV 0 (af (fI 9999) (fV 2 (fV 1 ai))))) (gF (aj 5) (Q1 gu (fV 0 (af (fI 9999) (fV 2 (fV 4 ai))))))) j=some false :=
  dH (bq _ _ (Nq [.tup aa,.int 9999,.int day,.int n] rr (hh .non (.inl rr) n)) ((cL (p:=G) (b1:=false) rr λ_=>Nq [.tup aa,.int 9999,.int day,.int m] rr (hh .non (.inl rr) m)).trans (by rw[hc])) (Nr _))
 have v:f2 bv (aj 3) (f2 cI (f2 dm (aj 1) (aj 2)) (fI 3)) j=sS z:=bq (.lst (zs.map .str)) (.int (((n:Int)+day) % 3)) rr (bq (.int ((n:Int)+day)) (.int 3) (bq (.int n) (.int day) rr rr rr) rr rr) (by
  grind[Sm])
 have w:aR (f2 mB (fA gu (fV 0 (af (fI 9999) (fV 2 (fV 1 (fV 6 ai)))))) (gF (aj 5) (fA gu (fV 0 (af (fI 9999) (fV 2 (fV 4 (fV 6 ai)))))))) t=some false :=
  dH (bq _ _ (aG [.tup aa,.int 9999,.int day,.int n,.str z] rr (hh (.str z) (.inr ⟨z,rr⟩) n)) ((cL (p:=G) (b1:=false) rr λ_=>aG _ rr (hh (.str z) (.inr ⟨z,rr⟩) m)).trans (by rw[hc])) (Nr _))
 refine aq rr (hU (.int (m:Int)) s rr (hU (.bl G) (aG [.tup aa,.int n,.int day] rr o) rr (a8 u (hU (.str z) v rr (a8 w ?_)))));rcases C9 g hl 9999 hn ho day f er with⟨ys,en,c,hy,x⟩|⟨en,c⟩
 .have i:G=true:=U.trans x;subst i;refine c8 (aG [.tup aa,.int 9999,.int day,.int n] rr en) (qh _) (hU .non rr rr (cV (qK (cW (p:=true) (q:=true) rr λ_=>cH (fU (b1:=true) (b2:=false) (aG [.tup aa,.int 9999,.int day,.int m] rr c) rr rr)) (yr (fU (b1:=true) (b2:=true) (aG [.tup aa,.int 9999,.int day,.int m] rr c) (aG [.int n] rr rr) (Ju ys n hy)) (qh _))) (ax (bq _ _ rr rr (yF _)))))
 .refine sJ (aG [.tup aa,.int 9999,.int day,.int n] rr en) rr (hU .non rr rr (a8 ((cW (p:=G) (q:=false) S9 λh=>dH (fU (b1:=false) (b2:=false) (aG [.tup aa,.int 9999,.int day,.int m] rr (c (U ▸ h))) rr rr)).trans (by rw[Bool.and_false])) (ax rr)))
end
end Lw
namespace Lw
open PySem DL L2
def So (d:D)(r:LD):ia (d::r) (some 1) none=r:=by
 simp_all[ia,HT.fu]
def AY (aa:LD)(n:Nat):ia aa none (some (n:Int))=aa.take n:=by
 simp_all[ia,HT.G1,HT.Kq]
def E1 {op:D->OB}{fa:FE}{ρ:DL.Env}{x:D}{b:Bool}{z:OB}(G:fa ρ=some (x,b))(e2:op x=z):f1 op fa ρ=z:=by unfold f1;rw[G];exact e2
def AZ (parts:LS)(rest:LD):jF (parts.map .str) rest=(parts.zip rest).map λx=>.tup [.str x.1,x.2]:=by
 induction parts generalizing rest with
 |nil=>rfl
 |cons a l G=>
  cases rest with
  |nil=>rfl
  |cons d r=>simp_all[jF]
def oC {α:Type}(l:List α):BF [.lst (l.map λ_=>.bl true)]=some (.bl true,false):=by
 simp
noncomputable def ut (c:Nat):Bool:=decide (97<=c) && decide (c<=122)
def Ba (c:Nat)(ρ:DL.Env)(h:ρ[0]? = some (some (.str ⟨#[c]⟩,false))):hV qR qR (fC (.str "a")) (aj 0) (fC (.str "z")) ρ=some (.bl (ut c),false):=by
 refine jJ    (b1:=false) (b2:=false) (b3:=false)  ?_ ?_ ?_ (DM _ _) λ_=>DM _ _
 .rfl
 .simp[h]
 rfl
noncomputable def pN (z:Str):Bool:=(decide (1<=z.length) && decide (z.length<=8)) && z.cps.toList.all ut
def Bb (z:Str):z.cps.toList.length=z.length:=by simp[Str.length]
def lJ {z:Str}(h:pN z=true):iF [.str z]=some (.bl true,false):=by
 unfold pN at h;rw[vB,vB]at h;obtain⟨⟨h1,G⟩,ha⟩:=h;have hl:z.length<=sizeLine:=dX N9;refine aq rr (a8 (ci (p:=false)  X9 λ_=>bF (p:=true) (cH  ((jJ  (y:=.int z.length) (z:=.int 8)  (b2:=false)  (b4:=false) (p:=true)  rr (by simp[hl]) rr I9 λ_=>by simp;lia).trans rr))) (ax (aY (ds:=[.lst (z.cps.toList.map λc=>.bl (ut c))]) ?_ ?_)))
 .have:=jK (fi:=bM (aj 0)) (nT:=1) (cap:=[]) (tg:=dh 0)  (ρ:=[some (.str z,false)]) z.cps.toList (λc=>.str ⟨#[c]⟩) _ (by simp[F7]) (by rw[Bb];lia) λc _=>
   ⟨_,rr,false,Ba c _ (by simp[dL])⟩
  exact aN  this rr
 simp_all
def xp {d lo hi:Int}(h1:lo<=d)(h2:d<=hi):fW [.int d,.int lo,.int hi]=some (.bl true,false):=by
 refine aq rr (ax ((cL (p:=true)  (b1:=false) X9 λ_=>(cL    (LG (p:=false) (b1:=false) X9) λ_=>(jJ       (b4:=false) (p:=true)  rr rr rr I9 λ_=>by simp;lia).trans rr).trans rr).trans rr))
def Mw {d:Int}(h1:0<=d)(h2:d<=9999):jL [.int d]=some (.bl true,false):=aq rr (ax (aY  rr (xp h1 h2)))
def xq {z:Str}(h:pN z=true):jZ [.str z]=some (.bl true,false):=aq rr (ax (aY  rr (lJ h)))
def CA {ps:LS}(h1:1<=ps.length)(G:ps.length<=8)(h:∀p∈ps,pN p=true):jl [.tup (ps.map .str)]=some (.bl true,false):=by
 refine aq rr (a8 (ci (p:=false)  X9 λ_=>bF  (cH  ((jJ  (y:=.int ps.length) (z:=.int 8)  (b2:=false)  (b4:=false) (p:=true) (q:=true) rr X9 rr I9 λ_=>by simp;lia).trans rr))) (ax (aY  ?_ (oC ps))));have:=jK (fi:=bM (aj 0)) (nT:=1) (cap:=[]) (tg:=dh 0) (fe:=fA _ (af (aj 0) ai)) (ρ:=[some (.tup (ps.map .str),false)]) ps (λp=>.str p) _ X9 N9 λp hp=>
  ⟨_,rr,false,aY  (by simp[dL]) (xq (h p hp))⟩
 exact aN  this rr
def cq {p q:Str}{v:D}{b:Bool}(h:decide (p=q)=b):aR (f2 dA (aj 0) (fC (.str q))) [some (.str p,false),some (v,false)]=some b:=by simp_all
def c2 {p q r:Str}{v:D}(h:(decide (p=q) || decide (p=r))=false):dz (aR (f2 dA (aj 0) (fC (.str q)))) (aR (f2 dA (aj 0) (fC (.str r)))) [some (.str p,false),some (v,false)]=some false:=(ci (cq rr) λ_=>cq rr).trans (by rw[h])
def c3 {p q r t:Str}{v:D}(h:(decide (p=q) || (decide (p=r) || decide (p=t)))=false):dz (aR (f2 dA (aj 0) (fC (.str q)))) (dz (aR (f2 dA (aj 0) (fC (.str r)))) (aR (f2 dA (aj 0) (fC (.str t))))) [some (.str p,false),some (v,false)]=some false:=(ci (cq rr) λ_=>ci (cq rr) λ_=>cq rr).trans (by rw[h])
def Yd {p q r t:Str}{v:D}(h:(decide (p=q) || (decide (p=r) || decide (p=t)))=true):dz (aR (f2 dA (aj 0) (fC (.str q)))) (dz (aR (f2 dA (aj 0) (fC (.str r)))) (aR (f2 dA (aj 0) (fC (.str t))))) [some (.str p,false),some (v,false)]=some true:=(ci (cq rr) λ_=>ci (cq rr) λ_=>cq rr).trans (by rw[h])
def yG {p:Str}{v:D}(h0:(decide (p=("day" : Str)) || decide (p=("since" : Str)))=false)(hp:(decide (p=("office" : Str)) || (decide (p=("by" : Str)) || decide (p=("person" : Str))))=true)(h:iF [v]=some (.bl true,false)):fj [.str p,v]=some (.bl true,false):=aq rr (a8 (c2 h0) (bC (Yd hp) (ax (aY  rr h))))
def FZ {v:D}(h:jl [v]=some (.bl true,false)):fj [.str "pieces",v]=some (.bl true,false):=aq rr (a8 (c2 H9) (a8 (c3 H9) (a8 (cq H9) (a8 (cq H9) (a8 (cq H9) (a8 (cq H9) (a8 (cq H9) (a8 (cq H9) (bC (cq H9) (ax (aY  rr h)))))))))))
noncomputable def j4 (z:Str):Bool:=GX (.str z) [.str "by",.str "person",.str "whom"]
noncomputable def there:D->Bool
 |.non=>false
 |_=>true
@[simp] def UJ:there .non=false:=rfl
@[simp] def UK (z:Str):there (.str z)=true:=rfl
@[simp] def UL (z:Int):there (.int z)=true:=rfl
@[simp] def UM (z:LD):there (.tup z)=true:=rfl
def Bc (d:D)(h:BD d=false):jT d .non=some (.bl (there d),false):=by
 cases d<;>simp[there]at h |-
noncomputable def Ga (l:List (Str×D)):LD:=(l.filter λx=>j4 x.1 && there x.2).map (·.2)
structure Nm7 (zs:List Str):Prop where
 len:zs.length=6
 nd:zs.Nodup
 nm:∀z∈zs,pN z=true
noncomputable def off (zs:LS)(k:Nat):Str:=zs.getD (if k=0 then 5 else 4) ""
def PB {zs:LS}(g:Nm7 zs):¬off zs 0=off zs 2:=by
 obtain⟨l,nd,_⟩:=g;match zs,l with
 |[a,b,c,d,e,f],_=>
  intro h;have h:f=e:=h;simp_all
structure DeedG (zs:List Str)(k:Nat)(h:Int)(kind:Str)(rest:List D):Prop where
 parts:∃(parts:List Str)(ss:List Str),uI cb (.str kind)=some (.tup (parts.map .str),false)/\parts.length=rest.length/\(∀x∈parts.zip rest,fj [.str x.1,x.2]=some (.bl true,false))/\Ga (parts.zip rest)=ss.map .str/\ss.length<=2/\∀s∈ss,s∈zs
 len:rest.length<=10
 flat:∀d∈rest,bf d=true/\BD d=false
 day:(kind=("root" : Str)/\(k=0\/k=2)/\∃r,rest=.str (off zs k)::r)\/(kind≠("root" : Str)/\(∃(day:Int)(r:List D),rest=.int day::r/\day<=h/\0<=day/\(kind=("chosen" : Str)->∃a b c s,r=[a,b,c,.int s]/\day<=s))/\mK cb (.str kind) (.str "day")=some (.int 0,false))
def Bd (zs:LS)(k:Nat)(r:D):Prop:=∃h kind rest,r=row h kind rest/\0<=h/\h<=9999/\DeedG zs k h kind rest
def Sq (k q:Str):dA (.str k) (.str q)=some (.bl (decide (k=q)),false):=X9
noncomputable def PD:D->D
 |.tup [_,.tup (.str _::.int d::_)]=>.int d
 |_=>.non
def Mx {k:Nat}{h:Int}{kind:Str}{rest:LD}(g:DeedG zs k h kind rest):aV [row h kind rest]=some (PD (row h kind rest),false):=by
 rcases g.day with⟨e,_,r,rfl⟩|⟨e,⟨day,r,rfl,_⟩,hi⟩
 .exact aq rr (bC (cH  (fU     (aY  rr (bV _ _ _)) rr (by rw[Sq,pP e]))) (ax rr))
 .exact aq rr (a8 (cH  (fU     (aY  rr (bV _ _ _)) rr (by rw[Sq,TK e]))) (ax (aY  rr (b7  hi rr))))
def Jv {k:Nat}{h:Int}{kind:Str}{rest:LD}(g:DeedG zs k h kind rest):p5 [.tup (.str kind::rest)]=some (.bl true,false):=by
 obtain⟨parts,ss,hp,hl,ha,_⟩:=g.parts;have G:(cb.lookup kind).isSome=true:=by
  simp_all
 have hsz:=g.len;have M:f2 bv (aj 0) (fC (.int 0)) [some (.tup (.str kind::rest),false)]=some (.str kind,false):=by simp[A2]
 have O :=E1  (b:=false) M hp;refine aq rr (a8 (ci (p:=false) (q:=false) X9 λ_=>ci (p:=false) (q:=false) (cH (b:=false) I9) λ_=>bF (p:=true) (cH (b:=false) (aY  (aN M rr) X9))) (a8 (ci (p:=false) (q:=false) (cH (b:=false) (E1  (b:=false) M ?_)) λ_=>cH (b:=false) (fU (x:=.int ((rest.length+1:Nat):Int)) (y:=.int (1+(parts.length:Int))) (b1:=false) (b2:=false) X9 (fU (x:=.int 1) (y:=.int parts.length) (b1:=false) (b2:=false) rr (aY  (aN O rr) X9) X9) ?_)) (ax (aY (ds:=[.lst ((parts.zip rest).map _)]) ?_ (oC _)))))
 .simp only[BL,G];rfl
 .simp;lia
 .have:=jK (fi:=Fa (f1 (uI cb) _) (pV (aj 0) (eF (fC (.int 1))) fz)) (nT:=2) (cap:=[]) (tg:=Dm [0,1]) (fe:=fA fj (af (aj 0) (af (aj 1) ai)))  (parts.zip rest) (λx=>.tup [.str x.1,x.2]) _
   (by
    show(f1 (uI cb) _ _).bind _=_;rw[O];simp[So,AZ]) (by rw[length_zip];lia) λx hx=>by
    exact⟨_,rr,false,aY  (by simp[dL]) (ha x hx)⟩
  exact aN (b:=true) this rr
def Gb (r:D):bf (PD r)=true:=by
 unfold PD;split<;>rfl
def CB {k:Nat}{h:Int}{kind:Str}{rest:LD}(g:DeedG zs k h kind rest):lm [row h kind rest]=some (.bl true,false):=by
 have hd:=Mx g;have G:∀ {hh:FS}{r:Option Res},hh _=r->a0 (aS 1 (fA _ (af (aj 0) ai))) hh [some (row h _ _,false),none]=r:=λe=>sJ   (aY  rr hd) (Gb _) e;rcases g.day with⟨e,_,r,rfl⟩|⟨e,⟨day,r,rfl,O,T,M⟩,hi⟩
 .exact aq rr (G (bC (cH (b:=false) (fU (x:=.non)    rr rr (by simp ))) (ax rr)))
 .refine aq rr (G (a8 (cH (b:=false) (fU (x:=.int _)    rr rr (by simp ))) (a8 ((cW   (cH  (fU     (aY  rr (bV _ _ _)) rr (Sq _ _))) λhc=>?_).trans (by rw[Bool.and_false])) (ax ?_))))
  .have hc:=Vh hc;subst hc;obtain⟨a,b,c,s,rfl,hs⟩:=M rr;refine cH (b:=false) (fU  (y:=.int day)   (aY  rr (b7 (i:=4) (yq H9) rr)) rr ?_);simp;lia
  .refine fU (x:=.int day) (y:=.int h)  (b2:=false) rr (by simp[row,A2]) ?_;simp;lia
def My {k:Nat}{r:D}(g:Bd zs k r):sQ [r]=some (.bl true,false):=by
 obtain⟨h,kind,rest,rfl,h0,h1,g⟩:=g;refine aq rr (a8 (ci (p:=false)  (by simp[row]) λ_=>by simp[row]) (ax ((cL    (aY  (by simp[row,A2]) (Mw h0 h1)) λ_=>(cL    (aY  (by simp[row,yN]) (Jv g)) λ_=>aY  rr (CB g)).trans rr).trans rr)))
noncomputable def Jw:D->Str
 |.tup [_,.tup (_::.str o::_)]=>o
 |_=>("" : Str)
def Mz:mK cb (.str "root") (.str "office")=some (.int 0,false):=yq H9
def uu {k:Nat}{r:D}(g:Bd zs k r)(h:bj r=true):au [r,.str "office"]=some (.str (Jw r),false)/\Jw r=off zs k/\(k=0\/k=2):=by
 obtain⟨a,kind,rest,rfl,_,_,g⟩:=g;have h :=Vh h;subst h;rcases g.day with⟨_,hk,r,rfl⟩|⟨e,_⟩
 .exact⟨b7  Mz rr,rr,hk⟩
 simp_all
def uw {k:Nat}{r:D}(g:Bd zs k r):a9 [r]=some (.str (kindOf r),false):=by
 obtain⟨a,kind,rest,rfl,_⟩:=g;exact bV _ _ _
def M0 (k:Str)(G:LS):yM (.str k) (.lst (G.map .str))=some (.bl (decide (k∈G)),false):=by
 simp only[yM,iu,vJ,o6];rw[if_pos ⟨rr,lX G⟩]
def Be (zs:LS)(aa:LD):Prop:=(aa.length<=24/\Nm7 zs)/\∀(j:Nat) r,aa[j]? = some r->Bd zs j r
def Be.mem {aa:LD}(g:Be zs aa){r:D}(h:r∈aa):∃k,Bd zs k r:=by
 obtain⟨j,hj⟩:=mem_iff_getElem?.mp h;exact⟨j,g.2 j r hj⟩
def Gc {aa:LD}(g:Be zs aa){i:Nat}{r:D}(d:aa[i]? = some r):gH [.tup (aa.take i),r]=some (.bl false,false):=by
 have a:=g.2 i r d;refine aq rr (ax ((cL (p:=bj r) (q:=false) (b1:=false) (fU   (b1:=false) (b2:=false) (aY (ds:=[r]) rr (uw a)) rr (Sq _ _)) λM=>?_).trans (by rw[Bool.and_false])));obtain⟨ho,f,hk⟩:=uu a M;have G:∀x∈aa.take i,∃j,j<i/\Bd zs j x:=λx hx=>by
  obtain⟨j,hj⟩:=mem_iff_getElem?.mp hx;rw[List.getElem?_take]at hj;split at hj
  .rename_i T;exact⟨j,T,g.2 j x hj⟩
  simp_all
 have hc:=gb (fi:=bM (aj 0)) (nT:=1) (cap:=[]) (tg:=dh 0) (c:=aR (f2 dA (fA a9 (af (aj 0) ai)) (fC _))) (fe:=fA au (af (aj 0) (af (fC (.str "office")) ai))) (ρ:=[some (.tup (aa.take i),false)]) (aa.take i) (λx=>x) bj _ X9 I9 λx hx=>by
  obtain⟨j,hj,O⟩:=G x hx;exact⟨_,rr,cH (b:=false) (fU   (b1:=false) (b2:=false) (aY (ds:=[x]) (by simp[dL]) (uw O)) rr (Sq _ _)),λhx=>⟨false,aY  (by simp[dL]) (uu O hx).1⟩⟩
 have U:iS [.tup (aa.take i)]=some (.lst ((((aa.take i).filter bj).map Jw).map .str),true):=by
  rw[uO];exact aq rr (ax hc)
 refine fU   (b1:=false) (b2:=true) (aY  rr ho) (aY  rr U) ?_;rw[M0];congr 3;refine TK λh=>?_;obtain⟨x,hx,e⟩:=vO h;obtain⟨hx,k⟩:=vN hx;obtain⟨j,hj,O⟩:=G x hx;obtain⟨_,l,m⟩:=uu O k;have:=PB g.1.2;lia
theorem Bf:∀(ss G:LS){x:Str},x∈ss.foldl kX G->x∈G\/x∈ss
 |[],G,x,h=>.inl h
 |y::ss,G,x,h=>by
  rcases Bf ss _ h with h|h
  .rcases rN.mp h with h|h
   .exact .inl h
   simp_all
  simp_all
theorem ux:∀(ss G:LS),G.Nodup->(ss.foldl kX G).Nodup
 |[],G,h=>h
 |y::ss,G,h=>ux ss _ (BN h y)
theorem Bg {ss:LS}{x:Str}(h:x∈gY ss):x∈ss:=by
 rcases Bf ss [] h with h|h
 .cases h
 .exact h
theorem Bh:∀(l m:LS),l.Nodup->(∀x∈l,x∈m)->l.length<=m.length
 |[],m,_,_=>uM _
 |x::l,m,h,s=>by
  rw[nodup_cons]at h;have:=Bh l _ h.2 λy hy=>(List.mem_erase_of_ne  (b:=x) (λe=>h.1 (by rw[<-e];exact hy))).mpr (s y (mZ _ hy));grind
def Jx {h:Int}{kind:Str}{rest:LD}{parts:LS}(hp:uI cb (.str kind)=some (.tup (parts.map .str),false)):iT [row h kind rest]=some (.lst ((parts.zip rest).map λx=>.tup [.str x.1,x.2]),true):=by
 refine aq rr (ax ?_);have G:f1 _ (fA _ (af (aj 0) ai)) [some (row h _ rest,false)]=some _:=E1   (aY  rr (bV h _ _)) hp;have e2:pV (f2 bv (aj 0) (fC (.int 1))) (eF (fC (.int 1))) fz [some (row h kind rest,false)]=some (.tup rest,false):=by simp[row,yN,So]
 show(((f1 _ _ [some _]).bind λx=>(pV _ _ _ [some _]).bind _).map _)=_;rw[G,e2];simp[AZ]
def Gd {k:Nat}{r:D}(g:Bd zs k r):∃ss:LS,jn [r]=some (.lst (ss.map .str),true)/\ss.length<=2/\∀s∈ss,s∈zs:=by
 obtain⟨h,kind,rest,rfl,_,_,g⟩:=g;obtain⟨parts,ss,hp,hl,_,hk,M,T⟩:=g.parts;have G:=gb (fi:=bM (fA iT (af (aj 0) ai))) (nT:=2) (cap:=[]) (tg:=Dm [0,1]) (c:=eE (aR (f2 yM (aj 0) (fC iQ))) (aR (f2 jT (aj 1) (fC .non)))) (fe:=aj 1)
  (ρ:=[some (row h kind rest,false),none]) (parts.zip rest) (λx=>.tup [.str x.1,x.2]) (λx=>j4 x.1 && there x.2) (·.2) (by
   have U:fA iT (af (aj 0) ai) [some (row h kind rest,false),none]=_:=aY  rr (Jx hp);simp_all) (by
   have:=g.len;simp<;>lia) λx hx=>by
   have O:=(g.flat x.2 (of_mem_zip hx).2);refine⟨_,rr,cW (cH (b:=false) ?_) λ_=>cH (b:=false) ?_,λ_=>⟨false,?_⟩⟩
   .rfl
   .exact fU (x:=x.2) (y:=.non) (b1:=false) (b2:=false) (by simp[dL]) rr (Bc _ O.2)
   rfl
 refine⟨mu (gY ss),aq rr (c8  ?_ (cz ss) (ax ?_)),?_,?_⟩
 .exact hk ▸ G
 .simp<;>lia
 .rw[(fQ _).length_eq];exact vR (rO ss) M
 .grind[Bg,fQ]
def Ge {aa:LD}(g:∀r∈aa,∃k,Bd zs k r)(hl:aa.length<=60)(a:zs.length=6):∃n:Nat,iU [.tup aa]=some (.int n,false)/\n<=7:=by
 obtain⟨ρ',e,ys,v,rfl,hz,G⟩:=h8 (tg:=dh 2) (g:=kH) (λi ρ=>∃(ys:LS)(v:OB),ρ=[some (.tup aa,false),some (.lst (ys.map .str),true),v]/\ys.length<=2*i/\∀z∈ys,z∈zs) aa
  _ ⟨[],none,rr,X9,X9⟩ (by
   rintro i d ρ hd ⟨ys,v,rfl,hz,G⟩;have hi:=(vV hd).1;obtain⟨k,M⟩:=g d (vL hd);obtain⟨ss,hp,O,T⟩:=Gd M;have hsz:(ys.map D.str).length+(ss.map D.str).length<=sizeLine:=dX I9;refine⟨_,[some _,some _,some (d,false)],rr,.inl ?_,ys++ss,some (d,false),rr,I9,?_⟩
   .have U:fA jn (af (aj 2) ai) [some (.tup aa,false),some (.lst (ys.map .str),true),some (d,false)]=some _:=aY (ds:=[d]) rr hp;show Ho 1 _ [some _,some _,some (d,false)]=_;simp only[Ho,List.getElem?_cons_succ,List.getElem?_cons_zero,U,vJ];rw[if_pos ⟨trivial,cz ss,hsz⟩];simp
   grind)
 refine⟨(gY ys).length,aq rr (c8 (ds:=[]) s9 rr (cV (jj (ds:=aa) (by simp[j9]) e) (ax (E1  (b:=false) rr ?_)))),?_⟩
 .simp<;>lia
 .exact vR (Bh (gY ys) zs (ux ys [] nodup_nil) λz hz=>G z (Bg hz)) ((by lia:zs.length<=7))
def CC {aa:LD}(g:Be zs aa){i:Nat}(hi:i<aa.length):kh [.tup aa,.int i]=some (.bl false,false):=by
 obtain⟨r,M⟩:∃r,aa[i]? = some r:=⟨_,vU hi⟩;have ha:=bx M;have T:=g.1.1;have G:∀ρ:DL.Env,ρ[0]? = some (some (.tup aa,false))->ρ[1]? = some (some (.int i,false))->f2 bv (aj 0) (aj 1) ρ=some (r,false):=λρ h0 h1=>by simp[h0,h1,ha]
 obtain⟨n,hn,U⟩:=Ge  (λx hx=>g.mem (mem_of_mem_take hx)) I9 g.1.2.len;have O:=AY aa (i+1);refine aq rr (a8 (ci (p:=false) (q:=false) (cH (b:=false) (by simp[jk];lia)) λ_=>bF (p:=true) (cH (b:=false) (aY (ds:=[r]) (aN (G _ rr rr) rr) (My (g.2 i r M))))) (ax ((qi (p:=false)   (aY  (aN  (b:=false) (by simp[AY]) (aN (G _ rr rr) rr)) (Gc g M)) λ_=>fU  (y:=.int 20)   (aY  (aN  (b:=false) (by simp;exact O) rr) hn) rr I9).trans rr)))
def Bi {aa:LD}(g:Be zs aa)(hf:bB aa=true)(d:D)(hd:d=.lst aa\/d=.tup aa):gP [d]=some (.tup aa,false):=by
 have hl:=g.1.1;obtain⟨ρ',e,v,rfl⟩:=nQ (tg:=dh 2) (g:=lr) _ (λi ρ=>∃v:Option _,ρ=[some (d,false),some (.tup aa,false),v])
  _ ⟨none,rr⟩ (by
   rintro i ρ hi ⟨v,rfl⟩;exact⟨_,_,rr,.inl (mN (cH  (aY  rr (CC g hi))) rr),some _,rr⟩)
 refine aq rr (a8 (bF (p:=true) (cH (b:=false) (aY  (aN rr (aN (d:=.tup [.ty "list",.ty "tuple"]) (b:=false) s9 rr)) ?_))) (sJ  (b:=false) (aY  rr ?_) (by simp[hf]) (cV (nU (iE  (b:=false) X9 N9) e) (jY rr))))
 .rcases hd with rfl|rfl<;>simp
 .rcases hd with rfl|rfl<;>simp
end Lw
namespace Lw
open PySem PySem.Spec DL L2
def Gf (a:Int){m:Int}(h:0<m):cI (.int a) (.int m)=some (.int (a % m),false):=by simp[h]
def Sr (a:Int){m:Int}(h:0<m)(h2:m<1073741824):dI (.int a) (.int m)=some (.int (a / m),false):=by simp[h,h2]
def im {f:FE}{ρ:DL.Env}{a m:Int}(e:f ρ=sI a)(h:0<m):f2 cI f (fI m) ρ=sI (a % m):=bq _ _ e rr (Gf a h)
def yH {f:FE}{ρ:DL.Env}{a m:Int}(e:f ρ=sI a)(h:0<m)(h2:m<1073741824):f2 dI f (fI m) ρ=sI (a / m):=bq _ _ e rr (Sr a h h2)
def CD (a:Int){b:Int}(h : -1000000<=b/\b<=1000000):mC (.int a) (.int b)=some (.int (a*b),false):=by
 have : -18446744073709551616<b/\b<18446744073709551616:=N9
 simp[this]
def yI {k:Int}(h : -1000000000000<=k/\k<=1000000000000):Builtin.Int.intBits k<=64:=intBits_le_64 N9 N9
def oD {ns:LI}(hf:LA ns)(k:Nat)(hk:k<=100):∃c:Int,gt [.lst (ns.map .int),.int k]=sI c:=by
 have G:∀ρ:DL.Env,ρ[0]? = some (sL (ns.map .int))->fA cR (fV 0 ai) ρ=sI ns.length:=λρ h=>by
  simp_all
 have ii:∀v:Int,Builtin.Int.intBits v<=2097152->aE (f2 cI (f2 Pm (aj 2) (aj 2)) (fI 2147483629)) [sL (ns.map .int),sI k,sI v]=some (.rt (.int (v*v % 2147483629)) false):=λv f=>
  ax (im (bq (.int v) (.int v) rr rr (by simp[f])) Z9)
 by_cases h:k<ns.length
 .refine⟨ns.getD k 0,aq rr (bC (dH (bq (.int k) (.int ns.length) rr (G _ rr) I9)) (ax (bq (.lst (ns.map .int)) (.int k) rr rr ?_)))⟩;have:=DN (xs:=ns) (i:=k) N9 (by simpa using h);rw[Int.toNat_natCast]at this;exact this
 .have O:Builtin.Int.intBits (100003*(k:Int)+47)<=64:=yI N9;have b:f2 dm (f2 mC (fI 100003) (aj 1)) (fI 47) [sL (ns.map .int),sI k,none]=sI (100003*k+47):=bq (.int (100003*k)) (.int 47) (bq (.int 100003) (.int k) rr rr (CD _ N9)) rr rr;have d:aR (f2 Dh (aj 1) (fA cR (fV 0 ai))) [sL (ns.map .int),sI k,none]=some false:=dH (bq (.int k) (.int ns.length) rr (G _ rr) I9);by_cases hz:0<ns.length
  .have M:(0:Int)<ns.length:=N9
   have h5:=mod_lt (x:=(k:Int)*41) M;obtain⟨j,hj⟩:∃j:Nat,(k:Int)*41 % ns.length=j:=⟨((k:Int)*41 % ns.length).toNat,N9⟩;have T:j<ns.length:=N9
   have hb:Builtin.Int.intBits (ns.getD j 0)<=1048576:=hf _ (by grind);have ei:f2 bv (aj 0) (f2 cI (f2 mC (aj 1) (fI 41)) (fA cR (fV 0 ai))) [sL (ns.map .int),sI k,sI (100003*k+47)]=sI (ns.getD j 0):=by
    refine bq (.lst (ns.map .int)) (.int j) rr (hj ▸ bq (.int (k*41)) (.int ns.length) (bq (.int k) (.int 41) rr rr (CD _ Z9)) (G _ rr) (Gf _ M)) ?_;have:=DN (xs:=ns) (i:=j) N9 (by simpa using T);rw[Int.toNat_natCast]at this;exact this
   generalize ns.getD j 0=x at hb ei;have U:(k:Int)*k<=10000/\0<=(k:Int)*k:=by
    have h1:k*k<=100*100:=Nat.mul_le_mul hk hk;grind
   have e:f2 dm (f2 dm (f2 mC _ (fI 39373)) (f2 mC (f2 mC (aj 1) (aj 1)) (fI 1021))) (fI 29) [sL (ns.map .int),sI k,sI (100003*k+47)]=sI (x*39373+k*k*1021+29) :=
    bq (.int (x*39373+k*k*1021)) (.int 29) (bq (.int (x*39373)) (.int (k*k*1021)) (bq (.int x) (.int 39373) ei rr (CD _ Z9)) (bq (.int (k*k)) (.int 1021) (bq (.int k) (.int k) rr rr (CD _ N9)) rr (CD _ Z9)) rr) rr rr
   generalize (k:Int)*k=y at U e;have a:Builtin.Int.intBits (x*39373+y*1021+29)<=2097152:=by
    have h1:=intBits_mul_le hb (yI (k:=39373) Z9);have h2:=intBits_add_le h1 (yI (k:=y*1021) N9);have h3:=intBits_add_le h2 (yI (k:=29) Z9);exact vR h3 Z9
   exact⟨_,aq rr (a8 d (hU (.int (100003*k+47)) b rr (cV (qK (dH (bq (.int ns.length) (.int 0) (G _ rr) rr I9)) (gp e rr)) (ii _ a))))⟩
  .refine⟨_,aq rr (a8 d (hU (.int (100003*k+47)) b rr (cV (mN (dH (bq (.int ns.length) (.int 0) (G _ rr) rr (by rw[show(ns.length:Int)=0 by lia];rfl))) rr) (ii (100003*k+47) (vR O Z9)))))⟩
def PF {ρ:DL.Env}{i n:Nat}{ds:LD}{G M:FE}{d:D}{b b':Bool}(e:ρ[i]? = some (some (.lst ds,true)))(O:M ρ=some (d,b))(ek:G ρ=some (.int n,b'))(hn:n<ds.length)(hf:bf d=true):Lc i G M ρ=some (.nx (ρ.set i (some (.lst (ds.set n d),true)))):=by
 simp_all[JX]
def Nt (x:Int):0<=x % 26/\x % 26<26:=mod_lt Z9
noncomputable def uy:PySem.Str:="abcdefghijklmnopqrstuvwxyz"
def Gg:uy.cps.size=26:=H9
def M2 (x:Int):Nat:=uy.cps.toList.getD (x % 26).toNat 0
def Jy (x:Int):bv (.str uy) (.int (x % 26))=sS ⟨#[M2 x]⟩:=DL.B2 (Nt x).1 (by simp_all[Gg,Nt]) H9
def Jz:∀i:_root_.Fin 26,ut (uy.cps.toList.getD i.val 0)=true:=H9
def J0:∀i j:_root_.Fin 26,uy.cps.toList.getD i.val 0=uy.cps.toList.getD j.val 0->i=j:=H9
def E2 (x:Int):ut (M2 x)=true:=Jz ⟨(x % 26).toNat,N9⟩
def M3 {x y:Int}(h:M2 x=M2 y):x % 26=y % 26:=by
 have:=J0 ⟨(x % 26).toNat,N9⟩ ⟨(y % 26).toNat,N9⟩ h;grind
noncomputable def sg (cs:LN):LS:=cs.map λc=>⟨#[c]⟩
theorem J5:∀cs:LN,((sg cs).map (·.length)).sum=cs.length
 |[]=>rr
 |c::cs=>by
  show 1+((sg cs).map _).sum=cs.length+1;rw[J5 cs];lia
theorem Bj:∀(zs:LS)(y:Str),(Str.join ("" : Str) (y::zs)).cps.toList=(y::zs).flatMap λz=>z.cps.toList
 |[],y=>by rw[flatMap_cons,List.flatMap_nil,uP];rfl
 |z::r,y=>by
  have G:∀a b:Str,(a++b).cps.toList=a.cps.toList++b.cps.toList:=λa b=>by show(a.cps++b.cps).toList=_;simp
  show(y++("" : Str)++Str.join _ _).cps.toList=_;rw[G,G,Bj r z,show("" : Str).cps.toList=[]from rr,uP];rfl
def J6 {zs:LS}(h:zs≠[]):(Txt.join ("" : Str) zs).cps.toList=zs.flatMap λz=>z.cps.toList:=by
 cases zs with
 |nil=>exact absurd rr h
 |cons y zs=>
  simp_all[Txt.join,StrLaws.glued_eq_join,Bj]
def CF {cs:LN}(h:cs≠[]):(Txt.join ("" : Str) (sg cs)).cps.toList=cs:=by
 simp_all[J6,sg,List.flatMap_map]
def Ss {cs:LN}(h1:1<=cs.length)(G:cs.length<=8)(hl:∀c∈cs,ut c=true):pN (Txt.join ("" : Str) (sg cs))=true:=by
 have e:=CF (cs:=cs) (λz=>by rw[z]at h1;cases h1);unfold pN;rw[<-Bb];simp_all
def M4 (cs:LN)(h:cs.length<=1000):Dl (.str "") (.lst ((sg cs).map .str))=sS (Txt.join ("" : Str) (sg cs)):=by
 show(gX _).bind _=_;rw[tX];show(if _ then _ else _)=_;rw[J5,show("" : Str).length=0 from rr,if_pos N9]
def J7 (c:Int):∃zs:LS,p7 [.int c]=lT (zs.map .str)/\Nm7 zs:=by
 obtain⟨n,hn⟩:∃n:Nat,1+c % 8=n:=⟨(1+c % 8).toNat,N9⟩;let bs:LN:=(List.range n).map λ(k:Nat)=>M2 (c / (3+4*k));have M:bs.length=n:=by simp[bs]
 have T:∀x∈bs,ut x=true:=λx hx=>by obtain⟨k,_,rfl⟩:=vO hx;exact E2 _
 have hb:=jK (fi:=ib (f2 dm (fI 1) (f2 cI (aj 0) (fI 8)))) (nT:=1) (cap:=[1,0]) (tg:=dh 0) (fe:=f2 bv (aj 1) (f2 cI (f2 dI (aj 2) (f2 dm (fI 3) (f2 mC (fI 4) (aj 0)))) (fI 26)))
  (ρ:=[sI c,sS uy,none,none,none,none,none]) (List.range n) (λ(k:Nat)=>.int k) _
  (by rw[iE (j:=n) (b:=false) (hn ▸ bq (.int 1) (.int (c % 8)) rr (im rr Z9) rr) N9,wB,uO];rfl) I9 λk hk=>by
   have hk:=mem_range.mp hk;exact⟨_,rr,false,bq (.str uy) (.int (c / (3+4*k) % 26)) rr (im (bq (.int c) (.int (3+4*k)) rr (bq (.int 3) (.int (4*k)) rr (bq (.int 4) (.int k) rr rr (CD _ N9)) rr) (Sr _ N9 N9)) Z9) (Jy _)⟩
 have U:(List.range n).map (λ(k:Nat)=>D.str ⟨#[M2 (c / (3+4*k))]⟩)=(sg bs).map .str:=by simp[sg,bs]
 rw[U]at hb;have p:=mod_lt (x:=c / 8) (m:=n) N9;obtain⟨a,ha⟩:∃a:Nat,c / 8 % n=a:=⟨(c / 8 % n).toNat,N9⟩;have O:a<bs.length:=N9
 let nm:Nat->LN:=λi=>bs.set a (M2 (c / 64+3*i));have G:∀i,(nm i).length=n:=λi=>by simp[nm,M]
 obtain⟨ρ',e,f,o,rfl⟩:=nQ (tg:=dh 5) (g:=sW) 6 (λi ρ=>∃f o:OB,ρ=[sI c,sS uy,lT ((sg bs).map .str),sI a,lT (((List.range i).map λi=>Txt.join ("" : Str) (sg (nm i))).map .str),f,o])
  _ ⟨none,none,rr⟩ (by
   rintro i ρ hi ⟨f,o,rfl⟩;have es:((sg bs).map D.str).set a (.str ⟨#[M2 (c / 64+3*i)]⟩)=(sg (nm i)).map .str:=by simp only[sg,nm,uO,List.map_set,Function.comp]
   refine⟨_,_,rr,.inl (c8 (ds:=(sg bs).map .str) X9 (cz _) (cV (PF (n:=a) (ds:=(sg bs).map .str) (d:=.str ⟨#[M2 (c / 64+3*i)]⟩) (b:=false) (b':=false) rr ?_ rr (by simpa [sg]using O) rr) (p4 (d:=.str (Txt.join ("" : Str) (sg (nm i)))) (b:=false) rr ?_ rr (cC I9)))),some (.int i,false),some (.lst ((sg (nm i)).map .str),true),?_⟩
   .exact bq (.str uy) (.int ((c / 64+3*i) % 26)) rr (im (bq (.int (c / 64)) (.int (3*i)) (yH rr Z9 Z9) (bq (.int 3) (.int i) rr rr (CD _ N9)) rr) Z9) (Jy _)
   .rw[es];exact bq (.str "") (.lst ((sg (nm i)).map .str)) rr rr (M4 _ (by rw[G];lia))
   .rw[es,List.range_succ];simp)
 refine⟨(List.range 6).map _,aq rr (hU (.str uy) rr rr (c8 hb (cz _) (hU (.int a) ?_ rr (c8 (ds:=[]) s9 rr (cV (nU (iE (j:=6) (b:=false) rr Z9) e) (jY rr)))))),X9,?_,λz hz=>?_⟩
 .rw[<-ha];refine bq (.int (c / 8)) (.int n) (yH rr Z9 Z9) ?_ (Gf _ N9);refine aG [.lst ((sg bs).map .str)] (bD rr rr) ?_;rw[lV];simp[sg,M]
 .refine pairwise_map.mpr (List.Pairwise.imp_of_mem ?_ (List.nodup_range (n:=6)));intro i j hi hj q e;have e:=congrArg (λz:Str=>z.cps.toList) e;have e:nm i=nm j:=by
   have h1:∀i,nm i≠[]:=λi z=>by have:=G i;rw[z]at this;simp at this;lia
   simpa only[CF (h1 i),CF (h1 j)]using e
  have e:=congrArg (λl:LN=>l[a]?) e;simp only[nm,getElem?_set_self O,Option.some.injEq]at e;have:=M3 e;have hi:=mem_range.mp hi;have hj:=mem_range.mp hj;lia
 .obtain⟨i,_,rfl⟩:=vO hz;refine Ss (by rw[G];lia) (by rw[G];lia) λx hx=>?_;rcases List.mem_or_eq_of_mem_set hx with h|h
  .exact T x h
  .rw[h];exact E2 _
def PV (p:Str)(d:D):Bool:=T4 (fj [.str p,d]) (.bl true) false
def kE:LS->LD->Bool
 |p::ps,d::ds=>PV p d && kE ps ds
 |_,_=>true
theorem pO:∀ {ps:LS}{ds:LD},kE ps ds=true->∀x∈ps.zip ds,fj [.str x.1,x.2]=some (.bl true,false)
 |[],_,_,x,h=>by simp at h
 |_::_,[],_,x,h=>by simp at h
 |p::ps,d::ds,h1,x,h=>by
  have h1:=(vB _ _ ▸ h1:PV p d=true/\kE ps ds=true);rcases vP h with rfl|h
  .exact yq h1.1
  .exact pO h1.2 x h
def be {p:Str}{d:D}{ps:LS}{ds:LD}(h:PV p d=true)(r:kE ps ds=true):kE (p::ps) (d::ds)=true:=by unfold kE;rw[h,r];rfl
def mV:∀n:_root_.Fin 16,PV "day" (.int (n.val:Int))=true:=H9
def Nu:∀n:_root_.Fin 24,PV "of" (.int (n.val:Int))=true:=H9
def J8:∀n:_root_.Fin 4,PV "further" (.int (n.val:Int))=true:=H9
noncomputable def MK:LN:=[1,2,3,4,7]
def uz:∀m∈MK,PV "matters" (.int ((m:Nat):Int))=true:=H9
def CG:∀m∈MK,m∈MS:=Z9
noncomputable def Su:List (Int×OI):=[(0,none),(2,some 15),(0,some 9),(0,some 12)]
def yJ:∀x∈Su,PV "stretch" (jg x)=true:=H9
def xr {p:Str}{d:D}(h:fj [.str p,d]=some (.bl true,false)):PV p d=true:=by unfold PV;rw[h];rfl
def Bk {z:Str}(h:pN z=true):PV "by" (.str z)=true:=xr (yG H9 H9 (lJ h))
def J9 {z:Str}(h:pN z=true):PV "person" (.str z)=true:=xr (yG H9 H9 (lJ h))
def JB {z:Str}(h:pN z=true):PV "office" (.str z)=true:=xr (yG H9 H9 (lJ h))
def PH:PV "whom" .non=true:=H9
def Nv {z:Str}(h:pN z=true):PV "whom" (.str z)=true :=
 xr (aq rr (a8 (c2 H9) (a8 (c3 H9) (bC (cq H9) (ax ((qi (p:=false)  (b1:=false) (by simp ) λ_=>aG _ rr (lJ h)).trans rr))))))
def PJ {ps:LS}(h1:1<=ps.length)(G:ps.length<=8)(h:∀p∈ps,pN p=true):PV "pieces" (.tup (ps.map .str))=true:=xr (FZ (CA h1 G h))
def PK {c:Nat}{z:Str}(hc:c<3)(h:pN z=true):PV "changes" (.tup [.tup [.int (c:Int),.str z]])=true:=by
 have G:jm [.tup [.int (c:Int),.str z]]=some (.bl true,false):=aq rr (a8 (ci (p:=false) (q:=false) X9 λ_=>by simp) (ax ((cL (p:=true) (q:=true) (b1:=false) (aG [.int (c:Int),.int 0,.int 7] (by simp[A2,gO]) (xp N9 N9)) λ_=>aG [.str z] (by simp[yN]) (xq h)).trans rr)));have h1:=jK (fi:=bM (aj 0)) (nT:=1) (cap:=[]) (tg:=dh 0) (fe:=fA jm (fV 0 ai)) (ρ:=[sT _,none]) [()] _ (λ_=>.bl true) rr Z9 λ_ _=>⟨[sF _],rr,false,aG _ rr G⟩;have h2:=jK (fi:=bM (aj 0)) (nT:=1) (cap:=[]) (tg:=dh 0) (fe:=cF 0 0) (ρ:=[sT _,none]) [()] _ (λ_=>.int (c:Int)) rr Z9 λ_ _=>⟨[sT [.int (c:Int),.str z]],rr,false,by simp[A2]⟩;have h3:=jK (fi:=Fa (aj 1) (pV (aj 1) (eF (fI 1)) fz)) (nT:=2) (cap:=[]) (tg:=Dm [0,1]) (fe:=f2 Dh (aj 0) (aj 1)) (ρ:=[sT [.tup [.int (c:Int),.str z]],lT [.int (c:Int)]]) ([]:List Unit) (λ_=>.non) (λ_=>.bl true) S9 Z9 λ_ h=>nomatch h;have M:kg [.tup _]=some (.bl true,false):=aq rr (a8 (ci (p:=false) (q:=false) X9 λ_=>bF (p:=true) (cH (b:=false) (aY (ds:=[.lst [.bl true]]) (aN (b:=true) h1 rr) (oC [()])))) (c8 (ds:=[.int (c:Int)]) h2 rr (ax (aY (ds:=[.lst []]) (aN (b:=true) h3 rr) (oC ([]:List Unit))))));exact xr (aq rr (a8 (c2 H9) (a8 (c3 H9) (a8 (cq H9) (a8 (cq H9) (a8 (cq H9) (a8 (cq H9) (a8 (cq H9) (a8 (cq H9) (a8 (cq H9) (ax (aY  rr M))))))))))))
def Wz:j4 ("office" : Str)=false:=H9
def Ye:j4 ("matters" : Str)=false:=H9
def Yf:j4 ("further" : Str)=false:=H9
def UN:j4 ("day" : Str)=false:=H9
def W1:j4 ("person" : Str)=true:=H9
def Yg:j4 ("by" : Str)=true:=H9
def UO:j4 ("of" : Str)=false:=H9
def PL {zs:LS}{k day:Nat}{h:Int}{kind:Str}{r:LD}(parts ss:LS)(hc:uI cb (.str kind)=some (.tup (parts.map .str),false))(hl:parts.length=(D.int (day:Int)::r).length)(hp:kE parts (.int (day:Int)::r)=true)(hk:Ga (parts.zip (.int (day:Int)::r))=ss.map .str)(O:∀s∈ss,s∈zs)(hf:(r.all λd=>bf d && !BD d)=true)(hd:(day:Int)<=h)(h2:decide (ss.length<=2)=true:=by rfl)(M:decide (r.length<=9)=true:=by rfl)(G:(decide (kind = "root") || decide (kind = "chosen"))=false:=by decide +kernel)(hi:mK cb (.str kind) (.str "day")=sI 0:=by exact cY):DeedG zs k h kind (.int (day:Int)::r) :=
 have G:=Bool.or_eq_false_iff.mp G
 ⟨⟨parts,ss,hc,hl,pO hp,hk,Vh h2,O⟩,by grind,λd hd=>by
  rcases vP hd with rfl|hd
  .exact⟨rr,rr⟩
  grind,.inr ⟨of_decide_eq_false G.1,⟨day,_,rr,hd,N9,λe=>absurd e (of_decide_eq_false G.2)⟩,hi⟩⟩
def JD (x:Int×OI):(bf (jg x) && !BD (jg x))=true:=by rw[lG];rfl
structure Dw (zs:List Str)(k day:Nat)(kind:Str)(rest:List D):Prop where
 dd:Dd kind rest
 g:∀h:Int,(day:Int)<=h->DeedG zs k h kind rest
 w:∀h:Int,AR (row h kind rest)
 q:∀h:Int,Rq (row h kind rest)
 b:kind∈bL->∃(d:Int)(b:Str)(l:List D),rest=.int d::.str b::l/\b∈zs
def now {kind:Str}{rest:LD}(h:Int)(e:(decide (kind = "paper") || decide (kind = "like"))=false):AR (row h kind rest):=λz=>by
 have e:=Bool.or_eq_false_iff.mp e;rcases z with z|z
 .exact absurd z (of_decide_eq_false e.1)
 .exact absurd z (of_decide_eq_false e.2)
def Sv {kind:Str}{rest:LD}(h:Int)(e:decide (kind∈bL)=false):Rq (row h kind rest):=.non _ (of_decide_eq_false e)
section
variable {zs:LS}(z7:Nm7 zs) {k day n:Nat}{by_ CJ:Str}(hd:day<16) (hb:by_∈zs)
include z7 hd hb
theorem M5 (kind:Str)(hk:kind = "death" \/ kind = "lost" \/ kind = "found"):Dw zs k day kind [.int (day:Int),.str by_]:=by
 refine⟨.three _ hk _ _,λh hh=>?_,λh=>now h (by rcases hk with rfl|rfl|rfl<;>decide +kernel),λh=>Sv h (by rcases hk with rfl|rfl|rfl<;>decide +kernel),λhh=>absurd hh (by rcases hk with rfl|rfl|rfl<;>decide +kernel)⟩
 rcases hk with rfl|rfl|rfl<;>exact PL ["day","person"] [by_] cY rr (be (mV ⟨day,hd⟩) (be (J9 (z7.nm _ hb)) rr)) (by simp[Ga,UN,W1]) (by simpa using hb) rr hh
theorem JF (hn:n<24)(kind:Str)(hk:kind = "copy" \/ kind = "call"):Dw zs k day kind [.int (day:Int),.str by_,.int (n:Int)]:=by
 refine⟨.copy _ hk _ _ _,λh hh=>?_,λh=>now h (by rcases hk with rfl|rfl<;>decide +kernel),λh=>?_,λ_=>⟨_,_,_,rr,hb⟩⟩
 .rcases hk with rfl|rfl<;>exact PL ["day","by","of"] [by_] cY rr (be (mV ⟨day,hd⟩) (be (Bk (z7.nm _ hb)) (be (Nu ⟨n,hn⟩) rr))) (by simp[Ga,UN,Yg,UO]) (by simpa using hb) rr hh
 .rcases hk with rfl|rfl
  .exact .copy _ _ n rr
  .exact Sv h H9
theorem M6 (ho:CJ∈zs){m f:Nat}(hm:m∈MK){x:Int×OI}(hx:x∈Su)(hf:f<4):Dw zs k day "leave" [.int (day:Int),.str by_,.str CJ,.int (m:Int),jg x,.int (f:Int)] :=
 ⟨.leave _ _ _ m (CG m hm) x _,λh hh=>PL ["day","by","person","matters","stretch","further"] [by_,CJ] cY rr (be (mV ⟨day,hd⟩) (be (Bk (z7.nm _ hb)) (be (J9 (z7.nm _ ho)) (be (uz m hm) (be (yJ x hx) (be (J8 ⟨f,hf⟩) rr)))))) S9 (by simp[hb,ho]) (by simp only[all_cons,JD];rfl) hh,λh=>now h H9,λh=>Sv h H9,λhh=>absurd hh H9⟩
theorem E3 (ho:CJ∈zs){w:D}(hw:w=.non\/w=.str CJ){m:Nat}(hm:m∈MK){x:Int×OI}(hx:x∈Su){ps:LS}(h1:1<=ps.length)(h3:ps.length<=3)(hp:∀p∈ps,p∈zs):Dw zs k day "paper" [.int (day:Int),.str by_,.int (m:Int),jg x,w,.tup (ps.map .str)]:=by
 have G:=PJ (ps:=ps) h1 N9 λz hz=>z7.nm _ (hp z hz);have M:bf (.tup (ps.map .str))=true:=cz _;have O :=by
  show(bf w && (bf (.tup (ps.map .str)) && true))=true;rw[M];rcases hw with rfl|rfl<;>rfl
 have pp:[w,D.tup (ps.map .str)].all (bc 5)=true:=by
  grind[bc]
 have pt:([.str by_,.int (m:Int),jg x,w,.tup (ps.map .str)].all λd=>bf d && !BD d)=true:=by
  simp only[all_cons,JD];rw[M];rcases hw with rfl|rfl<;>rfl
 refine⟨.paper "paper" (.inl rr) _ _ m (CG m hm) x _ O pp,λh hh=>?_,λh _=>⟨x,w,_,_,_,_,m,_,.inl rr,rr,hw.imp id λe=>⟨_,e⟩⟩,λh=>.paper _ _ ps rr h3,λ_=>⟨_,_,_,rr,hb⟩⟩;rcases hw with rfl|rfl
 .exact PL ["day","by","matters","stretch","whom","pieces"] [by_] cY rr (be (mV ⟨day,hd⟩) (be (Bk (z7.nm _ hb)) (be (uz m hm) (be (yJ x hx) (be PH (be G rr)))))) S9 (by simpa using hb) pt hh
 .exact PL ["day","by","matters","stretch","whom","pieces"] [by_,CJ] cY rr (be (mV ⟨day,hd⟩) (be (Bk (z7.nm _ hb)) (be (uz m hm) (be (yJ x hx) (be (Nv (z7.nm _ ho)) (be G rr)))))) S9 (by simp[hb,ho]) pt hh
theorem PM (ho:CJ∈zs){m:Nat}(hm:m∈MK){x:Int×OI}(hx:x∈Su)(hn:n<24){c:Nat}(hc:c<3){p:Str}(hp:p∈zs):Dw zs k day "like" [.int (day:Int),.str by_,.int (m:Int),jg x,.str CJ,.int (n:Int),.tup [.tup [.int (c:Int),.str p]]] :=
 ⟨.paper _ (.inr rr) _ _ m (CG m hm) x _ rr rr,λh hh=>PL ["day","by","matters","stretch","whom","of","changes"] [by_,CJ] cY rr (be (mV ⟨day,hd⟩) (be (Bk (z7.nm _ hb)) (be (uz m hm) (be (yJ x hx) (be (Nv (z7.nm _ ho)) (be (Nu ⟨n,hn⟩) (be (PK hc (z7.nm _ hp)) rr))))))) S9 (by simp[hb,ho]) (by simp only[all_cons,JD];rfl) hh,λh _=>⟨x,.str CJ,_,_,_,_,m,_,.inr rr,rr,.inr ⟨_,rr⟩⟩,λh=>.like _ _ n c p rr rr,λ_=>⟨_,_,_,rr,hb⟩⟩
theorem M7 (ho:CJ∈zs):Dw zs k day "named" [.int (day:Int),.str CJ,.str by_] :=
 ⟨.named _ _ _,λh hh=>PL ["day","office","person"] [by_] cY rr (be (mV ⟨day,hd⟩) (be (JB (z7.nm _ ho)) (be (J9 (z7.nm _ hb)) rr))) (by simp[Ga,Wz,UN,W1]) (by simpa using hb) rr hh,λh=>now h H9,λh=>Sv h H9,λhh=>absurd hh H9⟩
end
def jt {α:Type}(l:List α)(F:α->D){ρ:DL.Env}{fl fx:FE}{b:Bool}{a m:Int}(G:fl ρ=some (.lst (l.map F),b))(ex:fx ρ=sI a)(h0:0<m)(hm:m<=l.length):∃x∈l.take m.toNat,f2 bv fl (f2 cI fx (fI m)) ρ=some (F x,false):=by
 have h:=mod_lt (x:=a) h0;obtain⟨j,hj⟩:∃j:Nat,a % m=j:=⟨(a % m).toNat,N9⟩;have hl:j<l.length:=N9
 refine⟨l[j],List.mem_take_iff_getElem.mpr ⟨j,N9,rr⟩,fU     G (hj ▸ im ex h0) ?_⟩;simp_all[bx]
def JG {zs:LS}(G:Nm7 zs)(j:Nat)(hj:j<6){ρ:DL.Env}{i:Nat}(h:ρ[i]? = some (sL (zs.map .str))\/ρ[i]? = some (lT (zs.map .str))):cF i (j:Int) ρ=sS (zs.getD j ""):=by
 have hl:j<zs.length:=by rw[G.len];exact hj
 have:(zs.map D.str)[j]? = some (.str (zs.getD j "")):=by simp_all
 rcases h with h|h<;>simp[h,bx this]
def JH {zs:LS}(G:Nm7 zs)(k:Nat):off zs k∈zs:=by
 have:(if k=0 then 5 else 4)<zs.length:=by rw[G.len];split<;>decide
 simp_all[off]
def Yh:j4 ("rule" : Str)=false:=H9
def Rg (zs:LS)(k:Nat)(r:D):Prop:=∃(h:Int)(kind:Str)(rest:LD)(day:Nat),r=row h kind rest/\(day:Int)<=h/\h<=9999/\Dw zs k day kind rest
structure GR (zs:List Str)(aa:List D):Prop where
 at_:∀(j:Nat) r,aa[j]? = some r->Rg zs j r
 off:(xc aa).Nodup
def GR.snoc {zs:LS}{aa:LD}(g:GR zs aa){r:D}(G:Rg zs aa.length r)(M:bj r=false):GR zs (aa++[r]):=by
 refine⟨λj q h=>?_,by rw[FJ,M,if_neg Z9,uP];exact g.off⟩;by_cases hj:j<aa.length
 .rw[getElem?_append_left hj]at h;exact g.at_ j q h
 .rw[getElem?_append_right N9]at h;obtain⟨h1,h2⟩:=vV h;have:j=aa.length:=by rw[length_singleton]at h1;lia
  subst this;simp  at h2;subst h2;exact G
def GR.mem {zs:LS}{aa:LD}(g:GR zs aa){r:D}(h:r∈aa):∃k,Rg zs k r:=by
 obtain⟨j,hj⟩:=mem_iff_getElem?.mp h;exact⟨j,g.at_ j r hj⟩
def Rg.k {zs:LS}{k:Nat}{r:D}(g:Rg zs k r):ce r:=by
 obtain⟨h,kind,rest,day,rfl,_,_,d⟩:=g;exact⟨h,kind,rest,rr,d.dd⟩
def Rg.w {zs:LS}{k:Nat}{r:D}(g:Rg zs k r):AR r:=by
 obtain⟨h,kind,rest,day,rfl,_,_,d⟩:=g;exact d.w h
def Rg.q {zs:LS}{k:Nat}{r:D}(g:Rg zs k r):Rq r:=by
 obtain⟨h,kind,rest,day,rfl,_,_,d⟩:=g;exact d.q h
def GR.flat {zs:LS}{aa:LD}(g:GR zs aa):bB aa=true:=cm λd hd=>by
 obtain⟨j,G⟩:=g.mem hd;exact G.k.flat
def PP {zs:LS}(G:Nm7 zs):Dw zs 0 0 "root" [.str (off zs 0),.int (7:Nat),.int (2:Nat),.str "open"] :=
 ⟨.root _ _ 7 Z9 _,λh _=>⟨⟨["office","matters","further","rule"],[],cY,rr,pO (be (JB (G.nm _ (JH G 0))) (be (uz 7 Z9) (be (J8 ⟨2,Z9⟩) (be H9 rr)))),by simp[Ga,Wz,Ye,Yf,Yh],Z9,X9⟩,X9,λd hd=>by
  simp  [mem_cons,not_mem_nil,or_false]at hd;rcases hd with rfl|rfl|rfl|rfl<;>exact⟨rr,rr⟩,.inl ⟨rr,.inl rr,_,rr⟩⟩,λh=>now h H9,λh=>Sv h H9,λhh=>absurd hh H9⟩
def zi {zs:LS}(G:Nm7 zs)(j:Nat)(hj:j<6):zs.getD j "" ∈ zs:=by
 have h:j<zs.length:=by rw[G.len];exact hj
 simp_all
def PQ:∀x∈([(0,none),(2,some 15),(0,some 9)]:List (Int×OI)),x∈Su:=Z9
def Sw (h:Int)(l:LD):bj (row h "root" l)=true:=pP rr
def Sx (h:Int)(l:LD):bj (row h "named" l)=false:=S9
def M8 {ρ:DL.Env}{i:Nat}{ds:LD}{fa:FA}{f0:FE}{h:Int}{kind:Str}{rest:LD}{T:FS}{res:Option Res}(e:ρ[i]? = some (lT ds))(hl:ds.length<=100)(G:f0 ρ=sI h)(M:fa ρ=some (.str kind::rest))(O:rest.length<=50)(hf:bf (row h kind rest)=true)(k:T (ρ.set i (lT (ds++[row h kind rest])))=res):a0 (ju i (fA aO (af f0 (af (fA aO fa) ai)))) T ρ=res :=
 cV (p4   e (aG _ (bD G (bD (aG _ M (bW _ I9)) rr)) (bW _ X9)) hf (cC N9)) k
def JJ {ns:LI}(hf:LA ns){zs:LS}(M:Nm7 zs):∃aa:LD,p8 [.lst (ns.map .int),.lst (zs.map .str)]=lT aa/\GR zs aa/\aa.length=6:=by
 obtain⟨H,S⟩:=oD hf 1 Z9;obtain⟨c,hc⟩:∃c,c=H % 1000000000000:=⟨_,rr⟩;let A:DL.Env:=[sL (ns.map .int),sL (zs.map .str),sI c];have nm:∀(j:Nat),j<6->∀ {ρ:DL.Env},ρ[1]? = some (sL (zs.map .str))->cF 1 (j:Int) ρ=sS (zs.getD j ""):=λj hj ρ h=>JG M j hj (.inl h);have G:∀(j:Nat),j<6->zs.getD j "" ∈ zs:=λj hj=>zi M j hj;have I:∀ {ρ:DL.Env},ρ[2]? = some (sI c)->∀(l:LN)(h2:l.length=2){fl:FE}(J:fl ρ=some (.lst (l.map λm:Nat=>D.int m),true))(q:Int)(h0:0<q)(hq:q<1073741824),∃m∈l,f2 bv fl (f2 cI (f2 dI (aj 2) (fI q)) (fI 2)) ρ=sI (m:Int):=λ{ρ} h l h2 {fl} J q h0 hq=>by
  obtain⟨m,hm,V⟩:=jt l (λm:Nat=>D.int m) (ρ:=ρ) (fl:=fl) (fx:=f2 dI (aj 2) (fI q)) (b:=true) (a:=c / q) (m:=2) J (yH (by simp[h]) h0 hq) Z9 (by rw[h2];decide);exact⟨m,mem_of_mem_take hm,V⟩
 obtain⟨st,O,d⟩:=jt ([(0,none),(2,some 15),(0,some 9)]:List (Int×OI)) jg (ρ:=[sL (ns.map .int),sL (zs.map .str),sI c,lT [row 0 "root" [.str (off zs 0),.int (7:Nat),.int (2:Nat),.str "open"],row 0 "named" [.int (0:Nat),.str (off zs 0),.str (zs.getD 0 "")]],none]) (fl:=fA cx (af (fA aO (af (fI 0) (af (fC .non) ai))) (af (fA aO (af (fI 2) (af (fI 15) ai))) (af (fA aO (af (fI 0) (af (fI 9) ai))) ai)))) (fx:=aj 2) (b:=true) (a:=c) (m:=3) (aG [jg (0,none),jg (2,some 15),jg (0,some 9)] rr (fF _ X9)) rr Z9 Z9;have O:=PQ _ (mem_of_mem_take O);obtain⟨f,e,W⟩:∃f:Nat,f<4/\c / 6 % 2=(f:Int):=⟨(c / 6 % 2).toNat,N9,N9⟩;obtain⟨g,X,i⟩:∃f:Nat,f<3/\c / 96 % 3=(f:Int):=⟨(c / 96 % 3).toNat,N9,N9⟩;obtain⟨T,h0⟩:∃R,R=row 0 "root" [.str (off zs 0),.int (7:Nat),.int (2:Nat),.str "open"]:=⟨_,rr⟩;obtain⟨U,h1⟩:∃R,R=row 0 "named" [.int (0:Nat),.str (off zs 0),.str (zs.getD 0 "")]:=⟨_,rr⟩;let E:LD->DL.Env:=λrs=>[sL (ns.map .int),sL (zs.map .str),sI c,lT rs,sF (jg st)];have g1:GR zs [T,U]:=by
  refine⟨λj r h=>?_,by subst h0;subst h1;simp[xc,Sw,Sx]⟩;match j,h with
  |0,h=>cases h;exact⟨0,_,_,0,h0,Z9,Z9,PP M⟩
  |1,h=>cases h;exact⟨0,_,_,0,h1,Z9,Z9,M7 M Z9 (G 0 Z9) (JH M 0)⟩
 obtain⟨m1,o,s⟩:=I (ρ:=E [T,U]) rr [7,3] rr (fl:=fA cx (af (fI 7) (af (fI 3) ai))) (aG [.int 7,.int 3] rr (fF _ X9)) 3 Z9 Z9;have o:m1∈MK:=by
  have:∀m∈([7,3]:LN),m∈MK:=Z9
  exact this _ o
 have d2:=M6 (k:=2) (day:=1) M Z9 (G 0 Z9) (G 1 Z9) o (x:=(0,none)) Z9 e;have K:=g1.snoc (r:=row 1 "leave" _) ⟨1,_,_,1,rr,Z9,Z9,d2⟩ rr;have t:=(K.mem (mY _ (mem_singleton.mpr rr))).choose_spec.k.flat;obtain⟨R2,h2⟩:∃R,R=row 1 "leave" [.int ((1:Nat):Int),.str (zs.getD 0 ""),.str (zs.getD 1 ""),.int (m1:Int),jg (0,none),.int (f:Int)]:=⟨_,rr⟩;obtain⟨w,hw,Y⟩:=jt ([.non,.str (zs.getD 2 "")]:LD) id (ρ:=E [T,U,R2]) (fl:=fA cx (af (fC .non) (af (cF 1 2) ai))) (fx:=f2 dI (aj 2) (fI 12)) (b:=true) (a:=c / 12) (m:=2) (aG [.non,.str (zs.getD 2 "")] (bD rr (bD (nm 2 Z9 rr) rr)) (fF _ X9)) (yH rr Z9 Z9) Z9 X9;have hw:w=.non\/w=.str (zs.getD 2 ""):=by simpa using mem_of_mem_take hw
 have d3:=E3 (k:=3) (day:=2) M Z9 (G 0 Z9) (G 2 Z9) hw (m:=1) Z9 O (ps:=[zs.getD 3 "",zs.getD 4 ""]) X9 X9 (λp hp=>by
  rcases vP hp with rfl|hp
  .exact G 3 Z9
  .cases uS hp;exact G 4 Z9)
 have L:=K.snoc (r:=row 2 "paper" _) ⟨2,_,_,2,rr,Z9,Z9,d3⟩ rr;have u:=(L.mem (mY _ (mem_singleton.mpr rr))).choose_spec.k.flat;obtain⟨N,h3⟩:∃R,R=row 2 "paper" [.int ((2:Nat):Int),.str (zs.getD 0 ""),.int ((1:Nat):Int),jg st,w,.tup ([zs.getD 3 "",zs.getD 4 ""].map .str)]:=⟨_,rr⟩;obtain⟨m2,v,y⟩:=I (ρ:=E [T,U,R2,N]) rr [2,4] rr (fl:=fA cx (af (fI 2) (af (fI 4) ai))) (aG [.int 2,.int 4] rr (fF _ X9)) 24 Z9 Z9;have v:m2∈MK:=by
  have:∀m∈([2,4]:LN),m∈MK:=Z9
  exact this _ v
 have d4:=E3 (k:=4) (day:=2) M Z9 (G 1 Z9) (G 1 Z9) (.inl rr) v (x:=(0,none)) Z9 (ps:=[zs.getD 1 ""]) X9 X9 (λp hp=>by grind);have P:=L.snoc (r:=row 2 "paper" _) ⟨2,_,_,2,rr,Z9,Z9,d4⟩ rr;have z:=(P.mem (mY _ (mem_singleton.mpr rr))).choose_spec.k.flat;obtain⟨Z,h4⟩:∃R,R=row 2 "paper" [.int ((2:Nat):Int),.str (zs.getD 1 ""),.int (m2:Int),jg (0,none),.non,.tup ([zs.getD 1 ""].map .str)]:=⟨_,rr⟩;obtain⟨zb,B,C⟩:=jt zs D.str (ρ:=E [T,U,R2,N,Z]) (fl:=aj 1) (fx:=f2 dI (aj 2) (fI 48)) (b:=false) (a:=c / 48) (m:=2) rr (yH rr Z9 Z9) Z9 (by rw[M.len];decide);have B:=mem_of_mem_take B;have d5:=PM (k:=5) (day:=3) (n:=3) M Z9 B (G 1 Z9) (m:=1) Z9 (x:=(0,some 12)) Z9 Z9 X (G 0 Z9);have Q:=P.snoc (r:=row 3 "like" _) ⟨3,_,_,3,rr,Z9,Z9,d5⟩ rr;have F:=(Q.mem (mY _ (mem_singleton.mpr rr))).choose_spec.k.flat;have n0:bf T=true:=by subst h0;rfl
 have n1:bf U=true:=by subst h1;rfl
 refine⟨_,aq rr (hU (.int c) ?_ rr (c8 (ds:=[T,U]) ?_ (by simp[n0,n1]) (hU (jg st) ?_ (lG st) (M8 (h:=1) (kind:="leave") (rest:=[.int ((1:Nat):Int),.str (zs.getD 0 ""),.str (zs.getD 1 ""),.int (m1:Int),jg (0,none),.int (f:Int)]) rr X9 rr ?_ X9 t (M8 (h:=2) (kind:="paper") (rest:=[.int ((2:Nat):Int),.str (zs.getD 0 ""),.int ((1:Nat):Int),jg st,w,.tup ([zs.getD 3 "",zs.getD 4 ""].map .str)]) rr X9 rr ?_ X9 u (M8 (h:=2) (kind:="paper") (rest:=[.int ((2:Nat):Int),.str (zs.getD 1 ""),.int (m2:Int),jg (0,none),.non,.tup ([zs.getD 1 ""].map .str)]) rr X9 rr ?_ X9 z (M8 (h:=3) (kind:="like") (rest:=[.int ((3:Nat):Int),.str zb,.int ((1:Nat):Int),jg (0,some 12),.str (zs.getD 1 ""),.int ((3:Nat):Int),.tup [.tup [.int (g:Int),.str (zs.getD 0 "")]]]) rr X9 rr ?_ X9 F (jY rr)))))))),Q,X9⟩
 .rw[hc];exact bq (.int H) (.int 1000000000000) (aG [.lst (ns.map .int),.int 1] rr S) (bq _ _ rr rr rr) (Gf _ Z9)
 .subst h0;subst h1;exact aG _ (bD (aG [.int 0,.tup [.str "root",.str (off zs 0),.int 7,.int 2,.str "open"]] (bD rr (bD (aG [.str "root",.str (off zs 0),.int 7,.int 2,.str "open"] (bD rr (bD (nm 5 Z9 rr) rr)) (bW _ X9)) rr)) (bW _ X9)) (bD (aG [.int 0,.tup [.str "named",.int 0,.str (off zs 0),.str (zs.getD 0 "")]] (bD rr (bD (aG [.str "named",.int 0,.str (off zs 0),.str (zs.getD 0 "")] (bD rr (bD rr (bD (nm 5 Z9 rr) (bD (nm 0 Z9 rr) rr)))) (bW _ X9)) rr)) (bW _ X9)) rr)) (fF _ X9)
 .subst h0;subst h1;exact d
 .exact bD rr (bD rr (bD (nm 0 Z9 rr) (bD (nm 1 Z9 rr) (bD s (bD (aG [.int 0,.non] rr (bW _ X9)) (bD (W ▸ im (yH rr Z9 Z9) Z9) rr))))))
 .subst h2;exact bD rr (bD rr (bD (nm 0 Z9 rr) (bD rr (bD rr (bD Y (bD (aG [.str (zs.getD 3 ""),.str (zs.getD 4 "")] (bD (nm 3 Z9 rr) (bD (nm 4 Z9 rr) rr)) (bW _ X9)) rr))))))
 .subst h2;subst h3;exact bD rr (bD rr (bD (nm 1 Z9 rr) (bD y (bD (aG [.int 0,.non] rr (bW _ X9)) (bD rr (bD (aG [.str (zs.getD 1 "")] (bD (nm 1 Z9 rr) rr) (bW _ X9)) rr))))))
 .subst h2;subst h3;subst h4;exact bD rr (bD rr (bD C (bD rr (bD (aG [.int 0,.int 12] rr (bW _ X9)) (bD (nm 1 Z9 rr) (bD rr (bD (aG [.tup [.int (g:Int),.str (zs.getD 0 "")]] (bD (aG [.int (g:Int),.str (zs.getD 0 "")] (bD (i ▸ im (yH rr Z9 Z9) Z9) (bD (nm 0 Z9 rr) rr)) (bW _ X9)) rr) (bW _ X9)) rr)))))))
noncomputable abbrev tE (ns:LI)(zs:LS)(aa:LD)(i:Nat)(x:Int)(d:Nat)(z:Str)(n:Nat)(deed:D)(u9 u10:OB):DL.Env:=[sL (ns.map .int),sL (zs.map .str),lT aa,sI i,sI x,sI (d:Int),sS z,sI (n:Int),sF deed,u9,u10]
def yK {ns:LI}{zs:LS}{aa:LD}(g:GR zs aa)(hl:aa.length<=50){i:Nat}{x:Int}{d:Nat}{z:Str}{n:Nat}{u9 u10:OB}{kind:Str}{dd:Nat}{tl:LD}(hd:dd<16)(w:Dw zs aa.length dd kind (.int (dd:Int)::tl))(M:bj (row (dd:Int) kind (.int (dd:Int)::tl))=false):∃r,ju 2 (fA aO (af (cF 8 1) (fV 8 ai))) (tE ns zs aa i x d z n (.tup (.str kind::.int (dd:Int)::tl)) u9 u10)=some (.nx (tE ns zs (aa++[r]) i x d z n (.tup (.str kind::.int (dd:Int)::tl)) u9 u10))/\GR zs (aa++[r]):=by
 have G:Rg zs _ _:=⟨dd,kind,_,dd,rr,Int.le_refl _,N9,w⟩;exact⟨_,p4   rr (aG _ (bD (bq _ _ rr rr (by simp[yN])) rr) (bW _ X9)) G.k.flat (cC N9),g.snoc G M⟩
def JL:∀w∈[("lost" : Str),"found","death","lost"],w = "death" \/ w = "lost" \/ w = "found":=H9
def M9 {ns:LI}(hf:LA ns){zs:LS}(f:Nm7 zs){aa:LD}(g:GR zs aa)(h6:6<=aa.length)(hl:aa.length<=19){i:Nat}(hi:i<=13)(B C v j o M G:OB):∃r Q R S V W u9 u10,p9 [sL (ns.map .int),sL (zs.map .str),lT aa,sI i,B,C,v,j,o,M,G]=some (.nx [sL (ns.map .int),sL (zs.map .str),lT (aa++[r]),sI i,Q,R,S,V,W,u9,u10])/\GR zs (aa++[r]):=by
 obtain⟨c,X⟩:=oD hf (3+i) N9;obtain⟨x,hx⟩:∃x,x=c % 1000000000000:=⟨_,rr⟩;have x0:0<=x:=N9
 obtain⟨d,hd⟩:∃d:Nat,3+(i:Int) / 2+x / 7 % 2=d:=⟨(3+(i:Int) / 2+x / 7 % 2).toNat,N9⟩;have Y:d<=10:=N9
 have O:∀ρ:DL.Env,ρ[2]? = some (lT aa)->fA cR (fV 2 ai) ρ=sI aa.length:=λρ h=>aG [.lst aa] (by simp[h]) (by rw[lV]);obtain⟨z,hz,Z⟩:=jt zs D.str (ρ:=[sL (ns.map .int),sL (zs.map .str),lT aa,sI i,sI x,sI (d:Int),v,j,o,M,G]) (fl:=aj 1) (fx:=f2 dI (aj 4) (fI 14)) (b:=false) (a:=x / 14) (m:=5) rr (yH rr Z9 Z9) Z9 (by rw[f.len];decide);have hz:=mem_of_mem_take hz;obtain⟨E,h1⟩:∃a:Nat,3+x / 70 % 3=a:=⟨(3+x / 70 % 3).toNat,N9⟩;obtain⟨F,h2⟩:∃a:Nat,(aa.length:Int) - 1=a:=⟨aa.length - 1,N9⟩;obtain⟨H,h3⟩:∃a:Nat,(if(3:Int)<(aa.length:Int) - 2 then (aa.length:Int) - 2 else 3)=a:=⟨(if(3:Int)<(aa.length:Int) - 2 then (aa.length:Int) - 2 else 3).toNat,by split<;>lia⟩
 obtain⟨I,h4⟩:∃a:Nat,x / 70 % 24=a:=⟨(x / 70 % 24).toNat,N9⟩;obtain⟨n,hn,en⟩:=jt ([E,F,H,I]:LN) (λm=>.int (m:Int)) (ρ:=[sL (ns.map .int),sL (zs.map .str),lT aa,sI i,sI x,sI (d:Int),sS z,j,o,M,G]) (fl:=fA cx (af (f2 dm (fI 3) (f2 cI (f2 dI (aj 4) (fI 70)) (fI 3))) (af (f2 xL (fA cR (fV 2 ai)) (fI 1)) (af (fA OD (af (fI 3) (af (f2 xL (fA cR (fV 2 ai)) (fI 2)) ai))) (af (f2 cI (f2 dI (aj 4) (fI 70)) (fI 24)) ai))))) (fx:=f2 dI (aj 4) (fI 1680)) (b:=true) (a:=x / 1680) (m:=4)
  (aG [.int E,.int F,.int H,.int I] (bD (h1 ▸ bq (.int 3) (.int (x / 70 % 3)) rr (im (yH rr Z9 Z9) Z9) rr) (bD (h2 ▸ bq (.int aa.length) (.int 1) (O _ rr) rr rr) (bD (aG [.int 3,.int ((aa.length:Int) - 2)] (bD rr (bD (bq (.int aa.length) (.int 2) (O _ rr) rr rr) rr)) (by rw[<-h3];rfl)) (bD (h4 ▸ im (yH rr Z9 Z9) Z9) rr)))) (fF _ X9)) (yH rr Z9 Z9) Z9 X9
 have Wb:n<24:=by
  grind
 have J:=JF (k:=aa.length) (day:=d) f N9 hz Wb "copy" (.inl rr);have p:∀ {u9 u10} {dd:D},aR (f2 dA (f2 cI (aj 4) (fI 7)) (fI 5)) (tE ns zs aa i x d z n dd u9 u10)=some (decide (x % 7=5)):=λ{_ _ _}=>dH (bq (.int (x % 7)) (.int 5) (im rr Z9) rr X9);have s:∀ {u9 u10} {dd:D},aR (f2 dA (f2 cI (aj 4) (fI 7)) (fI 6)) (tE ns zs aa i x d z n dd u9 u10)=some (decide (x % 7=6)):=λ{_ _ _}=>dH (bq (.int (x % 7)) (.int 6) (im rr Z9) rr X9);have pre:∀ {T:FS}{res:Option Res},T (tE ns zs aa i x d z n (.tup [.str "copy",.int (d:Int),.str z,.int (n:Int)]) M G)=res->a0 (aS 4 (f2 cI (fA gt (fV 0 (af (f2 dm (fI 3) (aj 3)) ai))) (f2 KQ (fI 10) (fI 12)))) (a0 (aS 5 (f2 dm (f2 dm (fI 3) (f2 dI (aj 3) (fI 2))) (f2 cI (f2 dI (aj 4) (fI 7)) (fI 2)))) (a0 (aS 6 (f2 bv (aj 1) (f2 cI (f2 dI (aj 4) (fI 14)) (fI 5)))) (a0 (aS 7 _) (a0 (aS 8 (fA aO (af (fS "copy") (fV 5 (fV 6 (fV 7 ai)))))) T)))) [sL (ns.map .int),sL (zs.map .str),lT aa,sI i,B,C,v,j,o,M,G]=res:=λ{T res} hT=>
  hU (.int x) (hx ▸ bq (.int c) (.int 1000000000000) (aG [.lst (ns.map .int),.int ((3+i:Nat):Int)] (bD rr (bD (bq (.int 3) (.int i) rr rr X9) rr)) X) (bq _ _ rr rr rr) (Gf _ Z9)) rr (hU (.int (d:Int)) (hd ▸ bq (.int (3+(i:Int) / 2)) (.int (x / 7 % 2)) (bq (.int 3) (.int ((i:Int) / 2)) rr (yH rr Z9 Z9) rr) (im (yH rr Z9 Z9) Z9) rr) rr (hU (.str z) Z rr (hU (.int (n:Int)) en rr (hU (.tup [.str "copy",.int (d:Int),.str z,.int (n:Int)]) (aG _ rr (bW _ X9)) rr hT))))
 by_cases u:x % 7=5
 .obtain⟨w,hw,ew⟩:=jt [("lost" : Str),"found","death","lost"] D.str (ρ:=tE ns zs aa i x d z n (.tup [.str "copy",.int (d:Int),.str z,.int (n:Int)]) M G) (fl:=fA cx (af (fS "lost") (af (fS "found") (af (fS "death") (af (fS "lost") ai))))) (fx:=f2 dI (aj 4) (fI 70)) (b:=true) (a:=x / 70) (m:=4) (aG [.str "lost",.str "found",.str "death",.str "lost"] rr (fF _ X9)) (yH rr Z9 Z9) Z9 Z9;have hw:=JL w (mem_of_mem_take hw);obtain⟨d2,VN⟩:∃a:Nat,(d:Int)+x / 280 % 4=a:=⟨((d:Int)+x / 280 % 4).toNat,N9⟩;have U:d2<16:=N9
  obtain⟨r,er,e⟩:=yK (ns:=ns) (i:=i) (x:=x) (d:=d) (z:=z) (n:=n) (u9:=sS w) (u10:=G) g N9 U (M5 (k:=aa.length) f U hz w hw) (by rcases hw with rfl|rfl|rfl<;>rfl)
  refine⟨r,_,_,_,_,_,_,_,pre (cV (qK (p.trans (by rw[pP u])) (hU (.str w) ew rr (gp (d:=.tup [.str w,.int (d2:Int),.str z]) (aG _ (bD rr (bD (VN ▸ bq (.int (d:Int)) (.int (x / 280 % 4)) rr (im (yH rr Z9 Z9) Z9) rr) rr)) (bW _ X9)) rr))) (a8 (s.trans (by rw[TK N9])) er)),e⟩
 .by_cases y:x % 7=6
  .have K:(0:Int)<(aa.length:Int) - 3:=N9
   have hm:=mod_lt (x:=x / 70) K;obtain⟨t,ht⟩:∃a:Nat,3+x / 70 % ((aa.length:Int) - 3)=a:=⟨(3+x / 70 % ((aa.length:Int) - 3)).toNat,N9⟩;have Tq:t<aa.length:=N9
   obtain⟨q,hq⟩:∃q,aa[t]? = some q:=⟨_,vU Tq⟩;obtain⟨h,kind,rest,dq,eq,_,_,wq⟩:=g.at_ t q hq;have L:f2 bv (f2 bv (aj 2) (aj 10)) (fI 1) (tE ns zs aa i x d z n (.tup [.str "copy",.int (d:Int),.str z,.int (n:Int)]) M (sI (t:Int)))=sT (.str kind::rest):=bq q (.int 1) (bq (.lst aa) (.int (t:Int)) rr rr (by simp[bx hq])) rr (by rw[eq];simp[row,yN]);have tk:aR (f2 yM (f2 bv (f2 bv (f2 bv (aj 2) (aj 10)) (fI 1)) (fI 0)) (fA aO (af (fS "paper") (af (fS "like") (af (fS "copy") ai))))) (tE ns zs aa i x d z n (.tup [.str "copy",.int (d:Int),.str z,.int (n:Int)]) M (sI (t:Int)))=some (decide (kind∈bL)):=dH (bq (.str kind) (.tup (bL.map .str)) (bq (.tup (.str kind::rest)) (.int 0) L rr (by simp[A2])) (aG [.str "paper",.str "like",.str "copy"] rr (bW _ X9)) (jP _ _));have N:f2 dm (fI 3) (f2 cI (f2 dI (aj 4) (fI 70)) (f2 xL (fA cR (fV 2 ai)) (fI 3))) (tE ns zs aa i x d z n (.tup [.str "copy",.int (d:Int),.str z,.int (n:Int)]) M G)=sI (t:Int):=ht ▸ bq (.int 3) (.int (x / 70 % ((aa.length:Int) - 3))) rr (bq (.int (x / 70)) (.int ((aa.length:Int) - 3)) (yH rr Z9 Z9) (bq (.int aa.length) (.int 3) (O _ rr) rr rr) (Gf _ K)) rr;by_cases hk:kind∈bL
   .obtain⟨dq',b,l,el,hb⟩:=wq.b hk;obtain⟨d3,A⟩:∃a:Nat,(d:Int)+x / 4480 % 5=a:=⟨((d:Int)+x / 4480 % 5).toNat,N9⟩;have P:d3<16:=N9
    have Wc:t<24:=N9
    obtain⟨r,er,e⟩:=yK (ns:=ns) (i:=i) (x:=x) (d:=d) (z:=z) (n:=n) (u9:=M) (u10:=sI (t:Int)) g N9 P (JF (k:=aa.length) f P hb Wc "call" (.inr rr)) rr;refine⟨r,_,_,_,_,_,_,_,pre (a8 (p.trans (by rw[TK u])) (cV (qK (s.trans (by rw[pP y])) (hU (.int (t:Int)) N rr (qK (tk.trans (by rw[pP hk])) (gp (d:=.tup [.str "call",.int (d3:Int),.str b,.int (t:Int)]) (aG _ (bD rr (bD (A ▸ bq (.int (d:Int)) (.int (x / 4480 % 5)) rr (im (yH rr Z9 Z9) Z9) rr) (bD (bq (.tup (.str kind::rest)) (.int 2) L rr (by rw[el];simp[UE])) rr))) (bW _ X9)) rr)))) er)),e⟩
   .obtain⟨r,er,e⟩:=yK (ns:=ns) (i:=i) (x:=x) (d:=d) (z:=z) (n:=n) (u9:=M) (u10:=sI (t:Int)) g N9 N9 J rr;exact⟨r,_,_,_,_,_,_,_,pre (a8 (p.trans (by rw[TK u])) (cV (qK (s.trans (by rw[pP y])) (hU (.int (t:Int)) N rr (mN (tk.trans (by rw[TK hk])) rr))) er)),e⟩
  .obtain⟨r,er,e⟩:=yK (ns:=ns) (i:=i) (x:=x) (d:=d) (z:=z) (n:=n) (u9:=M) (u10:=G) g N9 N9 J rr;exact⟨r,_,_,_,_,_,_,_,pre (a8 (p.trans (by rw[TK u])) (a8 (s.trans (by rw[TK y])) er)),e⟩
def PR {zs:LS}{aa:LD}(g:GR zs aa)(G:Nm7 zs)(hl:aa.length<=20)(d:D)(hd:d=.lst aa\/d=.tup aa):gP [d]=some (.tup aa,false):=by
 refine Bi ⟨⟨N9,G⟩,λj r h=>?_⟩ g.flat d hd;obtain⟨a,kind,rest,day,rfl,h1,h2,d⟩:=g.at_ j r h;exact⟨a,kind,rest,rr,N9,h2,d.g _ h1⟩
def MA {ns:LI}(v:ns.length<=63)(hf:LA ns){zs:LS}(p:Nm7 zs):∃aa:LD,sX [.lst (ns.map .int),.lst (zs.map .str)]=lT aa/\GR zs aa/\aa.length<=20:=by
 obtain⟨c,t⟩:=oD hf 1 Z9;obtain⟨k,u,g0,h0⟩:=JJ hf p;obtain⟨n,hn,en⟩:∃n:Nat,n<=14/\f2 bv _ _ _=sI n:=by
  obtain⟨q,hq⟩:∃q:Nat,(if 4+(ns.length:Int) / 4<14 then 4+(ns.length:Int) / 4 else 14)=q:=⟨(if 4+(ns.length:Int) / 4<14 then 4+(ns.length:Int) / 4 else 14).toNat,by split<;>lia⟩
  have M:q<=14:=by split at hq<;>lia
  obtain⟨x,hx,ex⟩:=jt ([q,14]:LN) (λm=>.int (m:Int)) (ρ:=[sL (ns.map .int),sL (zs.map .str),lT k,none,none,none,none,none,none,none,none]) (fl:=fA cx (af (fA OE (af (fI 14) (af (f2 dm (fI 4) (f2 dI (fA cR (fV 0 ai)) (fI 4))) ai))) (af (fI 14) ai))) (fx:=f2 dI (fA gt (fV 0 (af (fI 1) ai))) (fI 288)) (b:=true) (a:=c / 288) (m:=2)
   (aG [.int q,.int 14] (bD (aG [.int 14,.int (4+(ns.length:Int) / 4)] (bD rr (bD (bq (.int 4) (.int ((ns.length:Int) / 4)) rr (yH (aG [.lst (ns.map .int)] rr (by rw[lV,vI])) Z9 Z9) rr) rr)) (by rw[<-hq];rfl)) rr) (fF _ X9)) (yH (aG [.lst (ns.map .int),.int 1] rr t) Z9 Z9) Z9 X9
  refine⟨x,?_,ex⟩;rcases vP (mem_of_mem_take hx)with rfl|hx
  .exact M
  .grind
 obtain⟨ρ',e,rs,l,O,T,U,d,f,h,G,rfl,o,s,hs⟩:=nQ (tg:=dh 3) (g:=p9) n (λi ρ=>∃(rs:LD)(l O T U d f h G:OB),ρ=[sL (ns.map .int),sL (zs.map .str),lT rs,l,O,T,U,d,f,h,G]/\GR zs rs/\6<=rs.length/\rs.length<=6+i)
  _ ⟨k,none,none,none,none,none,none,none,none,rr,g0,N9,N9⟩ (by
   rintro i ρ hi ⟨rs,l,O,T,U,d,f,h,G,rfl,o,s,hs⟩;obtain⟨r,w,y,z,A,B,u9,u10,e,g'⟩:=M9 hf p o s N9 (i:=i) N9 O T U d f h G;exact⟨_,_,rr,.inl e,rs++[r],_,_,_,_,_,_,_,_,rr,g',by rw[uY];lia,by rw[uY,length_singleton];lia⟩)
 exact⟨rs,aq rr (c8 (ds:=k) (aG [.lst (ns.map .int),.lst (zs.map .str)] rr u) g0.flat (cV (nU (iE (j:=n) (b:=false) en N9) e) (jY rr))),o,N9⟩
def MB {aa:LD}(G:aa.length<=20)(ae:Int):(cN (av aa ae)).length<=60:=by
 unfold cN;rw[(aW _ _).length_eq];grind[cD]
def E4 {ds:LD}{lo hi:OI}{d:D}(h:d∈ia ds lo hi):d∈ds:=by
 grind[ia]
def JM (aa:LD):aa.zipIdx.map (λx=>D.int (x.2:Int))=(List.range' 0 aa.length).map λ(i:Nat)=>.int (i:Int):=by
 rw[<-List.zipIdx_map_snd 0 _,uO];rfl
def E7 (ds:LD)(lo hi:OI):(ia ds lo hi).length<=ds.length:=by
 unfold ia;simp;lia
noncomputable abbrev vE (ns:LI)(zs:LS)(aa cs:LD)(G M O:OB):DL.Env:=[sL (ns.map .int),lT (zs.map .str),lT aa,sT aa,sL cs,G,M,O]
section
variable {zs:LS}{aa:LD}(g:GR zs aa) (z7:Nm7 zs) (hl:aa.length<=20)
include g z7 hl
theorem xu {r:D}(h:r∈aa):aZ r<=9999:=by
 obtain⟨k,a,kind,rest,day,rfl,_,h2,_⟩:=g.mem h;exact h2
theorem Sy {ns:LI}(hf:LA ns)(cs:LD){n m:Nat}{r:D}{a d:Int}{b:Str}(G:aa[n]? = some r)(er:r=row a ("copy" : Str) [.int d,.str b,.int m])(M:OB)(j:Nat)(hj:j<2):Co (vE ns zs aa cs (sI n) M (sI j))=some (.nx (vE ns zs aa cs (sI n) M (sI j))):=by
 obtain⟨k,hk⟩:∃k:Nat,20+((n:Int)+j) % 9=k:=⟨(20+((n:Int)+j) % 9).toNat,N9⟩;obtain⟨c,T⟩:=oD hf k N9;obtain⟨day,hd⟩:∃k:Nat,c % 20=k:=⟨(c % 20).toNat,N9⟩;have O:∀r∈aa,aZ r<=9999:=λr h=>xu g z7 hl h;have hm:(r,n)∈av aa 9999:=mem_filter.mpr ⟨List.mk_mem_zipIdx_iff_getElem?.mpr G,pP (O r (vL G))⟩;have U:=Sn (λr h=>(g.mem h).choose_spec.k) (λr h=>(g.mem h).choose_spec.w) N9 9999 (g.off.sublist (Jf aa 9999)) (MB hl 9999) rr O zs (by rw[z7.len];decide) day hm er;refine mN (bF (p:=true) (dH (aG _ (bD rr (bD rr (bD (hd ▸ im (aG _ (bD rr (bD (hk ▸ bq (.int 20) _ rr (im (bq (.int n) (.int j) rr rr rr) Z9) rr) rr)) T) Z9) rr))) U))) rr
theorem Sz {ns:LI}(hf:LA ns)(cs:LD){n m:Nat}{r:D}{a d:Int}{b:Str}(G:aa[n]? = some r)(er:r=row a ("copy" : Str) [.int d,.str b,.int m])(c O:OB):∃f M,Cp (vE ns zs aa cs (sI n) c O)=some (.nx (vE ns zs aa cs (sI n) f M)):=by
 let E:DL.Env:=vE ns zs aa cs (sI n) (sI (m:Int)) O;have i:f2 bv (f2 bv (f2 bv (aj 2) (aj 5)) (fI 1)) (fI 3) (vE ns zs aa cs (sI n) c O)=sI (m:Int):=bq (.tup [.str "copy",.int d,.str b,.int m]) (.int 3) (bq r (.int 1) (bq (.lst aa) (.int n) rr rr (by simp[bx G])) rr (by rw[er];simp[row,yN])) rr (by simp[T5]);have T:a<=9999:=by
  have:=xu g z7 hl (vL G);rw[er]at this;exact this
 obtain⟨w,b1,b2,l,f1,U⟩:=C8 (λr h=>(g.mem h).choose_spec.q) (λr h=>(g.mem h).choose_spec.k) 9999 N9 (G.trans (by rw[er])) T;have o:cU (eE (aR (f2 mB (fA gQ (fV 3 (af (fI 9999) (fV 5 ai)))) (fA gQ (fV 3 (af (fI 9999) (fV 6 ai)))))) (aR (f2 dA (f2 bv (fA gQ (fV 3 (af (fI 9999) (fV 6 ai)))) (fI 0)) (fS "words")))) (aE (fC (.bl false))) aQ E=some (.nx E) :=
  mN (cW (p:=false) (q:=false) (dH (fU (aG _ rr f1) (aG _ rr U) (Jd (iY 20 40 _ Z9 l)))) λh=>by cases h) rr
 have tl:aR (f2 Dh (aj 6) (fA cR (fV 2 ai))) E=some (decide ((m:Int)<aa.length)):=dH (bq (.int (m:Int)) (.int aa.length) rr (aG [.lst aa] rr (by rw[lV])) X9);have hc:∃p,eE (aR (f2 Dh (aj 6) (fA cR (fV 2 ai)))) (aR (f2 yM (f2 bv (f2 bv (f2 bv (aj 2) (aj 6)) (fI 1)) (fI 0)) (fA aO (af (fS "paper") (af (fS "like") (af (fS "copy") ai)))))) E=some p:=by
  by_cases hm:m<aa.length
  .obtain⟨q,hq⟩:∃q,aa[m]? = some q:=⟨_,vU hm⟩;obtain⟨h,kind,rest,s,eq,_,_,wq⟩:=g.at_ m q hq;exact⟨_,cW tl λ_=>dH (bq (.str kind) (.tup (bL.map .str)) (bq (.tup (.str kind::rest)) (.int 0) (bq q (.int 1) (bq (.lst aa) (.int (m:Int)) rr rr (by simp[bx hq])) rr (by rw[eq];simp[row,yN])) rr (by simp[A2])) (aG _ rr (bW _ X9)) (jP _ _))⟩
  .exact⟨_,cW (p:=false) (q:=false) (tl.trans (by rw[TK N9])) λh=>by cases h⟩
 obtain⟨p,hp⟩:=hc;obtain⟨ρ',e,M,rfl⟩:=nQ (tg:=dh 7) (g:=Co) 2 (λ_ ρ=>∃M,ρ=vE ns zs aa cs (sI n) _ M) E ⟨O,rr⟩ (by
  rintro j ρ hj ⟨M,rfl⟩;exact⟨_,_,rr,.inl (Sy g z7 hl hf cs G er _ j hj),_,rr⟩)
 exact⟨_,_,hU (.int (m:Int)) i rr (cV (ρ':=E) (Pq hp (λ_=>o) λ_=>rr) (nU (iE (j:=2) (b:=false) rr Z9) e))⟩
end
def law_true (ns:LI)(U:ns.length<=63)(hf:LA ns):∃b,F_law [.lst (ns.map .int)]=some (.bl true,b):=by
 obtain⟨p,f⟩:=oD hf 0 Z9;obtain⟨zs,s,l⟩:=J7 p;obtain⟨aa,er,g,hl⟩:=MA U hf l;let P:DL.Env:=[sL (ns.map .int),lT (zs.map .str),lT aa,sT aa,none,none,none,none];have hc:=gb (fi:=ib (fA cR (fV 2 ai))) (nT:=1) (cap:=[2]) (tg:=dh 0) (c:=aR (f2 dA (f2 bv (f2 bv (f2 bv (aj 1) (aj 0)) (fI 1)) (fI 0)) (fS "copy"))) (fe:=aj 0)
  (ρ:=P) aa.zipIdx (λx=>.int x.2) _ (λx=>.int x.2)
  (by rw[iE (j:=aa.length) (b:=false) (aG [.lst aa] rr lV) N9,JM,wB,List.range_eq_range',uO];rfl) I9 λx hx=>by
   have ha:=bx (List.mem_zipIdx_iff_getElem?.mp hx);obtain⟨j,h,k,rest,dd,e,_⟩:=g.mem (List.fst_mem_of_mem_zipIdx hx);refine⟨[sI x.2,sL aa],rr,cn (a:=kindOf x.1) (bb:=false) ?_ rr,λ_=>⟨false,rr⟩⟩;exact bq (.tup (.str k::rest)) (.int 0) (bq x.1 (.int 1) (bq (.lst aa) (.int x.2) rr rr (by simp[ha])) rr (by rw[e];simp[row,yN])) rr (by rw[e];simp[A2];rfl)
 obtain⟨C,o⟩:∃C,C=aa.zipIdx.filter λx=>decide (kindOf x.1 = "copy"):=⟨_,rr⟩;rw[<-o]at hc;have t:C.length<=20:=by rw[o];exact vR (vM _ _) (by rw[length_zipIdx];exact hl)
 let cs:LD:=C.map λx=>.int x.2;have u:bB cs=true:=cm λd hd=>by obtain⟨x,_,rfl⟩:=vO hd;rfl
 let ds:LD:=ia cs none (some 2)++ia cs (some (-4)) none;have v:∀d∈ds,∃x∈C,d=.int x.2:=λd hd=>by
  have:d∈cs:=(mem_append.mp hd).elim E4 E4;grind
 obtain⟨ρ',e,T,M,O,rfl⟩:=h8 (tg:=dh 5) (g:=Cp) (λ_ ρ=>∃T M O,ρ=vE ns zs aa cs T M O) ds _ ⟨_,_,_,rr⟩ (by
  rintro i dd ρ hd ⟨T,M,O,rfl⟩;obtain⟨x,hx,rfl⟩:=v dd (vL hd);rw[o]at hx;obtain⟨h1,h2⟩:=vN hx;obtain⟨r,n⟩:=x;have G:aa[n]? = some r:=List.mk_mem_zipIdx_iff_getElem?.mp h1;obtain⟨a,d,b,m,er⟩:=kB (g.at_ n r G).k (Vh h2);obtain⟨A,B,w⟩:=Sz g l hl hf cs G er M O;exact⟨_,_,rr,.inl w,_,_,_,rr⟩)
 refine⟨false,aq rr (c8 (ds:=zs.map .str) (aG [.int p] (bD (aG _ rr f) rr) s) (cz _) (c8 (ds:=aa) (aG _ rr er) g.flat (hU (.tup aa) (aG [.lst aa] (aN (b:=true) (aG [.lst aa] rr ?_) rr) (PR g l hl _ (.inl rr))) (by simp[g.flat]) (c8 (ds:=cs) hc u (cV (ρ':=vE ns zs aa cs T M O) ?_ (ax rr))))))⟩
 .rfl
 .refine jj (ds:=ds) ?_ e;have z:∀ρ:DL.Env,ρ[4]? = some (sL cs)->f2 dm (pV (aj 4) fz (eF (fI 2))) (pV (aj 4) (eF (f1 zr (fI 4))) fz) ρ=lT ds:=λρ h=>by
   have q:aj 4 ρ=some (.lst cs,false):=by simp[h]
   have h1:(ia cs none (some 2)).length<=cs.length:=E7 _ _ _;have h2:(ia cs (some (-4)) none).length<=cs.length:=E7 _ _ _;have h3:cs.length=C.length:=vI _;refine fU (x:=.lst (ia cs none (some 2))) (y:=.lst (ia cs (some (-4)) none)) (b1:=true) (b2:=true) ?_ ?_ (if_pos (dX N9))
   .unfold pV;rw[q];rfl
   .unfold pV;rw[q];rfl
  unfold bM;rw[z _ rr];rfl
end Lw
namespace Lw
open PySem PySem.Spec PyProof.Rows L2 DL
def PU {a b:Expr}{G:Pos}:ng (.Subscript a b G):=by intro _ _;rfl
noncomputable def de (i:Nat):Stmt:=PySem.Challenge.pw_sealchain_k57_whole_copies_of_copies.main.body.getD i (.Pass ⟨0,0,0,0⟩)
structure Tx (w:World)(K:Frag)(mg:Str->Option Value):Prop where
 hX:∃h,K.In h/\h.Ns mainGlobals mg
 d0:cG K "is_whole" (de 6)
 d1:cG K "is_day" (de 7)
 d2:cG K "is_stretch" (de 8)
 d3:cG K "is_matters" (de 12)
 d4:cG K "is_name" (de 22)
 d5:cG K "is_rule" (de 24)
 d6:cG K "is_piece" (de 23)
 d7:cG K "is_pieces" (de 25)
 d8:cG K "is_change" (de 26)
 d9:cG K "is_changes" (de 27)
 d10:cG K "is_part" (de 28)
 d11:cG K "is_deed" (de 29)
 d12:cG K "word_of" (de 32)
 d13:cG K "part_of" (de 33)
 d14:cG K "day_of" (de 34)
 d15:cG K "is_timely" (de 30)
 d16:cG K "is_row" (de 31)
 d17:cG K "root_offices" (de 39)
 d18:cG K "is_second_root" (de 40)
 d19:cG K "parts_in" (de 35)
 d20:cG K "people_in" (de 36)
 d21:cG K "count_people" (de 41)
 d22:cG K "is_refused" (de 42)
 d23:cG K "register_of" (de 43)
 d24:cG K "is_known" (de 45)
 d25:cG K "is_paper" (de 74)
 d26:cG K "changed" (de 97)
 d27:cG K "put_together" (de 98)
 d28:cG K "words" (de 99)
 d29:cG K "_law_cell" (de 105)
 d30:cG K "_law_names" (de 106)
 d31:cG K "_law_begun" (de 107)
 d32:cG K "_law_rows" (de 108)
 d33:cG K "heard" (de 44)
 d34:cG K "rank" (de 46)
 d35:cG K "in_order" (de 48)
 d36:cG K "by_office" (de 60)
 d37:cG K "roots" (de 49)
 d38:cG K "tells" (de 52)
 d39:cG K "told_of" (de 53)
 d40:cG K "lives" (de 54)
 d41:cG K "has_seal" (de 55)
 d42:cG K "is_sound" (de 56)
 d43:cG K "lies_in" (de 9)
 d44:cG K "is_alive" (de 58)
 d45:cG K "by_since" (de 59)
 d46:cG K "chief_of" (de 61)
 d47:cG K "holder_by" (de 62)
 d48:cG K "is_held_by" (de 63)
 d49:cG K "is_first_death" (de 64)
 d50:cG K "counts" (de 65)
 d51:cG K "new_claim" (de 66)
 d52:cG K "ended" (de 67)
 d53:cG K "inherited" (de 69)
 d54:cG K "after_death" (de 70)
 d55:cG K "claims" (de 71)
 d56:cG K "is_leave" (de 75)
 d57:cG K "is_borne" (de 76)
 d58:cG K "covers" (de 13)
 d59:cG K "reach_bar" (de 81)
 d60:cG K "office_bar" (de 82)
 d61:cG K "office_bases" (de 85)
 d62:cG K "ends_within" (de 11)
 d63:cG K "is_within" (de 10)
 d64:cG K "is_ahead" (de 47)
 d65:cG K "leave_bar" (de 83)
 d66:cG K "leaves_to" (de 84)
 d67:cG K "leave_bases" (de 86)
 d68:cG K "copy_bases" (de 87)
 d69:cG K "bases_by" (de 88)
 d70:cG K "may_call" (de 77)
 d71:cG K "calls_in" (de 78)
 d72:cG K "calls_by" (de 79)
 d73:cG K "is_fit" (de 89)
 d74:cG K "links" (de 90)
 d75:cG K "bears" (de 91)
 d76:cG K "stood" (de 92)
 d77:cG K "first_bearer" (de 94)
 d78:cG K "chain" (de 95)
 d79:cG K "standing" (de 93)
 d80:cG K "paper_behind" (de 100)
 d81:cG K "holding" (de 101)
 d82:cG K "whom_of" (de 102)
 d83:L9 K "holds" (de 103)
 d84:cG K "calls" (de 80)
 d85:cG K "_law_good" (de 109)
 d86:cG K "_law_as" (de 110)
 d87:cG K "law" (de 111)
 n0:mg "all" = none
 n1:mg "any" = none
 n2:mg "bool" = none
 n3:mg "dict" = none
 n4:mg "enumerate" = none
 n5:mg "int" = none
 n6:mg "isinstance" = none
 n7:mg "len" = none
 n8:mg "list" = none
 n9:mg "max" = none
 n10:mg "min" = none
 n11:mg "range" = none
 n12:mg "reversed" = none
 n13:mg "set" = none
 n14:mg "sorted" = none
 n15:mg "str" = none
 n16:mg "tuple" = none
 n17:mg "zip" = none
 k0:KC K mg "ALL_MATTERS" mw
 k1:KC K mg "LAST_DAY" sK
 k2:KC K mg "MOST_FURTHER" lg
 k3:KC K mg "MOST_LETTERS" lh
 k4:KC K mg "MOST_PEOPLE" my
 k5:KC K mg "MOST_PIECES" gO
 k6:KC K mg "MOST_ROWS" jk
 k7:KC K mg "PAPERS" Ap
 k8:KD w K mg "PARTS" cb
 k9:KC K mg "PERSON_PARTS" iQ
 k10:KC K mg "RULES" DO
 k11:KC K mg "SEALINGS" iR
 l35:BW K "in_order"
 l41:BW K "has_seal"
 l49:BW K "is_first_death"
 l69:BW K "bases_by"
section
variable {P:Program}{w:World}{K:Frag}{mg:SV}{base:Heap}(T:Tx w K mg)
include T
theorem f0:Fn P w K mg base 1 "is_whole" fW:=T.d0.fq T.hX sM ["thing","least","most"] 3 λnd G hu=>
  (aM (di (aD bU T.n6 bO (aA 0 (ag (jA T.n5 RC) am))) (di (O7 (aD bU T.n6 bO (aA 0 (ag (jA T.n2 OC) am)))) (c9 (rE ir ir (ah 1) (ah 0) (ah 2))))))
theorem f1:Fn P w K mg base 2 "is_day" jL:=T.d1.fq T.hX Aq ["thing"] 1 λnd G hu=>
  (aM (aK (f0 T) G (aA 0 (c6 (ag (dC T.k1) am)))))
theorem f2:Fn P w K mg base 3 "is_stretch" nW:=T.d2.fq T.hX nV ["thing"] 1 λnd G hu=>
  (ao (bw (fO (dU (bZ (br (aD bU T.n6 bO (aA 0 (ag (jA T.n16 jh) am))))) (dU (a7 (oS hu) (aD dB T.n7 dr (aA 0 am)) aw) (dN (bZ (br (aK (f1 T) G (ag (aT 0) am)))))))) cO)
   (aM (rF (bK xP (aT 0) cw) (c9 (di (aK (f1 T) G (ag (aT 0) am)) (c9 (bK pT (aT 0) (aT 0))))))))
theorem f3:Fn P w K mg base 2 "is_matters" nY:=T.d3.fq T.hX nX ["thing"] 1 λnd G hu=>
  (aM (aK (f0 T) G (aA 0 (c6 (ag (dC T.k0) am)))))
theorem f4:Fn P w K mg base 1 "is_name" iF:=T.d4.fq T.hX wD ["thing"] 1 λnd G hu=>
  (ao (bw (fO (dU (bZ (br (aD bU T.n6 bO (aA 0 (ag (jA T.n15 GZ) am))))) (dN (bZ (zg ir ir aw (aD dB T.n7 dr (aA 0 am)) (dC T.k3)))))) cO)
   (aM (aD zx T.n0 zu (ag (ga ["sign"] (bN (ah 0)) gE (rE ir ir a5 (ah 0) a5)) am))))
theorem f5:Fn P w K mg base 1 "is_rule" wG:=T.d5.fq T.hX wF ["thing"] 1 λnd G hu=>
  (aM (di (aD bU T.n6 bO (aA 0 (ag (jA T.n15 GZ) am))) (c9 (bK pU (ah 0) (dC T.k10)))))
theorem f6:Fn P w K mg base 2 "is_piece" jZ:=T.d6.fq T.hX sP ["thing"] 1 λnd G hu=>
  (aM (ay (f4 T) G))
theorem f7:Fn P w K mg base 3 "is_pieces" jl:=T.d7.fq T.hX qj ["thing"] 1 λnd G hu=>
  (ao (bw (fO (dU (bZ (br (aD bU T.n6 bO (aA 0 (ag (jA T.n16 jh) am))))) (dN (bZ (zg ir ir aw (aD dB T.n7 dr (aA 0 am)) (dC T.k5)))))) cO)
   (aM (aD zx T.n0 zu (ag (ga ["piece"] (bN (ah 0)) gE (ay (f6 T) G)) am))))
theorem f8:Fn P w K mg base 3 "is_change" jm:=T.d8.fq T.hX qk ["thing"] 1 λnd G hu=>
  (ao (bw (fO (dU (bZ (br (aD bU T.n6 bO (aA 0 (ag (jA T.n16 jh) am))))) (dN (a7 (oS hu) (aD dB T.n7 dr (aA 0 am)) aw)))) cO)
   (aM (di (aK (f0 T) G (ag (aT 0) (c6 (ag (aF zh (dC T.k5) aw) am)))) (c9 (aK (f6 T) G (ag (aT 0) am))))))
theorem f9:Fn P w K mg base 4 "is_changes" kg:=T.d9.fq T.hX nZ ["thing","places"] 1 λnd G hu=>
  (ao (bw (fO (dU (bZ (br (aD bU T.n6 bO (aA 0 (ag (jA T.n16 jh) am))))) (dN (bZ (br (aD zx T.n0 zu (ag (ga ["change"] (bN (ah 0)) gE (ay (f8 T) G)) am))))))) cO)
   (ao (kG ["change"] nd (bN (ah 0)) gE (aT 0))
   (aM (aD zx T.n0 zu (ag (ga ["place","later"] (Hl T.n17 (ah 1) (eM (ah 1) (gk aw) gh)) gE (bK pT (ah 0) (ah 1))) am)))))
theorem f10:Fn P w K mg base 5 "is_part" fj:=T.d10.fq T.hX wH ["part","thing"] 2 λnd G hu=>
  (ao (bw (fO (dU (a7 (cA hu) (ah 0) a5) (dN (a7 (cA hu) (ah 0) a5)))) (ay (f1 T) G))
   (ao (bw (fO (dU (a7 (cA hu) (ah 0) a5) (dU (a7 (cA hu) (ah 0) a5) (dN (a7 (cA hu) (ah 0) a5))))) (ay (f4 T) G))
   (ao (bw (a7 (cA hu) (ah 0) a5) (rF (bK xP (ah 1) cw) (c9 (ay (f4 T) G))))
   (ao (bw (a7 (cA hu) (ah 0) a5) (ay (f3 T) G))
   (ao (bw (a7 (cA hu) (ah 0) a5) (ay (f2 T) G))
   (ao (bw (a7 (cA hu) (ah 0) a5) (aK (f0 T) G (aA 1 (c6 (ag (dC T.k2) am)))))
   (ao (bw (a7 (cA hu) (ah 0) a5) (ay (f5 T) G))
   (ao (bw (a7 (cA hu) (ah 0) a5) (aK (f0 T) G (aA 1 (c6 (ag (aF zh (dC T.k6) aw) am)))))
   (ao (bw (a7 (cA hu) (ah 0) a5) (ay (f7 T) G))
   (aM (ay (f9 T) G)))))))))))
theorem f11:Fn P w K mg base 6 "is_deed" p5:=T.d11.fq T.hX wI ["thing"] 1 λnd G hu=>
  (ao (bw (fO (dU (bZ (br (aD bU T.n6 bO (aA 0 (ag (jA T.n16 jh) am))))) (dU (a7 (cA hu) (aD dB T.n7 dr (aA 0 am)) aw) (dN (bZ (br (aD bU T.n6 bO (ag (aT 0) (ag (jA T.n15 GZ) am))))))))) cO)
   (ao (bw (fO (dU (Fo T.k8 (aT 0)) (dN (a7 (oS hu) (aD dB T.n7 dr (aA 0 am)) (aF cy aw (aD dB T.n7 dr (ag (xU T.k8 (aT 0)) am))))))) cO)
   (aM (aD zx T.n0 zu (ag (ga ["part","value"] (Hl T.n17 (xU T.k8 (aT 0)) (eM (ah 0) (gk aw) gh)) gE (ay (f10 T) G)) am)))))
theorem qM:Fn P w K mg base 1 "word_of" a9:=T.d12.fq T.hX wJ ["row"] 1 λnd G hu=>
  (aM (aI (aT 0) aw))
theorem j6:Fn P w K mg base 2 "part_of" au:=T.d13.fq T.hX wK ["row","part"] 2 λnd G hu=>
  (aM (aI (aT 0) (aF cy aw (Lj T.k8 (ay (qM T) G) (ah 1)))))
theorem Bq:Fn P w K mg base 3 "day_of" aV:=T.d14.fq T.hX Ar ["row"] 1 λnd G hu=>
  (ao (bw (a7 (cA hu) (ay (qM T) G) a5) cw)
   (aM (ay (j6 T) G)))
theorem Yi:Fn P w K mg base 4 "is_timely" lm:=T.d15.fq T.hX ql ["row","day"] 1 λnd G hu=>
  (ao (aC nd (ay (Bq T) G))
   (ao (bw (a7 xP (ah 1) cw) cO)
   (ao (bw (fO (hW (a7 (cA hu) (ay (qM T) G) a5) (fM (a7 pT (ay (j6 T) G) (ah 1))))) cO)
   (aM (bK ir (ah 1) (aT 0))))))
theorem Yj:Fn P w K mg base 7 "is_row" sQ:=T.d16.fq T.hX As ["thing"] 1 λnd G hu=>
  (ao (bw (fO (dU (bZ (br (aD bU T.n6 bO (aA 0 (ag (jA T.n16 jh) am))))) (dN (a7 (oS hu) (aD dB T.n7 dr (aA 0 am)) aw)))) cO)
   (aM (di (aK (f1 T) G (ag (aT 0) am)) (di (aK (f11 T) G (ag (aT 0) am)) (c9 (ay (Yi T) G))))))
theorem Yk:Fn P w K mg base 3 "root_offices" iS:=T.d17.fq T.hX ln ["rows"] 1 λnd G hu=>
  (aM (ga ["row"] (bN (ah 0)) (dM (a7 (cA hu) (ay (qM T) G) a5)) (ay (j6 T) G)))
theorem Yl:Fn P w K mg base 4 "is_second_root" gH:=T.d18.fq T.hX jM ["ahead","row"] 2 λnd G hu=>
  (aM (di (bK (cA hu) (ay (qM T) G) a5) (c9 (bK pU (ay (j6 T) G) (ay (Yk T) G)))))
theorem Ym:Fn P w K mg base 2 "parts_in" iT:=T.d19.fq T.hX sR ["row"] 1 λnd G hu=>
  (aM (Ce rr T.n8 T.n17 (xU T.k8 (ay (qM T) G)) (eM (aT 0) (gk aw) gh)))
theorem Yn:Fn P w K mg base 3 "people_in" jn:=T.d20.fq T.hX qm ["row","names"] 1 λnd G hu=>
  (ao (kG ["part","value"] nd (bN (ay (Ym T) G)) (dM (fO (hW (a7 pU (ah 0) (dC T.k9)) (fM (a7 nB (ah 1) cw))))) (ah 1))
   (aM (mH rr T.n14 T.n13 (ah 1))))
theorem Yo:Fn P w K mg base 4 "count_people" iU:=T.d21.fq T.hX lq ["rows","names","row"] 1 λnd G hu=>
  (ao (aC nd (cQ am))
   (ao (nO (bN (ah 0)) (Ci 2 nd) eK (ba (OR (i:=1) (ay (Yn T) G))))
   (aM (Fl rr T.n7 T.n13 (ah 1)))))
theorem Yp:Fn P w K mg base 8 "is_refused" kh:=T.d22.fq T.hX oe ["book","place"] 2 λnd G hu=>
  (ao (bw (fO (dU (a7 O8 (ah 1) (dC T.k6)) (dN (bZ (br (aK (Yj T) G (ag (aI (ah 0) (ah 1)) am))))))) cO)
   (aM (rF (aK (Yl T) G (ag (eM (ah 0) gh (gk (ah 1))) (ag (aI (ah 0) (ah 1)) am))) (c9 (bK zj (aK (Yo T) G (ag (eM (ah 0) gh (gk (aF cy (ah 1) aw))) am)) (dC T.k4))))))
theorem Yq:Fn P w K mg base 9 "register_of" gP:=T.d23.fq T.hX mz ["rows","book","place"] 1 λnd G hu=>
  (ao (gg (bZ (br (aD Fq T.n6 bO (aA 0 (ag (aP (ag (jA T.n8 rK) (ag (jA T.n16 jh) am))) am))))) (ba z9) fP)
   (ao (aC nd (lL Lb T.n16 jh (aA 0 am)))
   (ao (DG (kU T.n11 (aD dB T.n7 dr (aA 1 am))) (Ci 2 nd) eK (ba (gg (br (ay (Yp T) G)) (ba z9) fP)))
   (ba (i6 1)))))
theorem UP:Fn P w K mg base 1 "is_known" cM:=T.d24.fq T.hX sU ["book","known","number"] 3 λnd G hu=>
  (aM (di (rE ir pT aw (ah 2) (aD dB T.n7 dr (aA 0 am))) (c9 (bK ir (aI (aI (ah 0) (ah 2)) aw) (ah 1)))))
theorem T7:Fn P w K mg base 2 "is_paper" cj:=T.d25.fq T.hX sV ["book","known","number"] 3 λnd G hu=>
  (aM (di (ay (UP T) G) (c9 (bK pU (aK (qM T) G (ag (aI (ah 0) (ah 2)) am)) (dC T.k7)))))
theorem Yr:Fn P w K mg base 1 "changed" p6:=T.d26.fq T.hX wL ["pieces","place","piece"] 3 λnd G hu=>
  (aM (aF HN (aF HN (eM (ah 0) gh (gk (ah 1))) (aP (aA 2 am))) (eM (ah 0) (gk (aF cy (ah 1) aw)) gh)))
theorem Ys:Fn P w K mg base 3 "put_together" dD:=T.d27.fq T.hX ls ["book","path","pieces","number","place","piece"] 2 λnd G hu=>
  (ao (aC nd (aK (j6 T) G (ag (aI (hs:=PU) (ah 0) (aI (ah 1) (GP GV aw))) (ag a5 am))))
   (ao (nO (Pk T.n12 (ah 1)) (Ci 3 nd) eK (ao (gg (a7 (oS hu) (aK (qM T) G (ag (aI (ah 0) (ah 3)) am)) a5) (ba Ds) fP)
   (ba (Hm [3] (nO (bN (aK (j6 T) G (ag (aI (ah 0) (ah 3)) (ag a5 am)))) (xx rr (gT (Ci 4 nd) (gT (Ci 5 nd) qO))) Nc (ao (bw (a7 zj (ah 4) (aD dB T.n7 dr (aA 2 am))) (aP (ag a5 (aA 3 am))))
   (ba (aC nd (ay (Yr T) G)))))))))
   (aM (aP (ag a5 (aA 2 am))))))
theorem UQ:Fn P w K mg base 4 "words" gQ:=T.d28.fq T.hX DP ["book","known","number","path","at"] 3 λnd G hu=>
  (ao (aC nd (cQ am))
   (ao (aC nd (ah 2))
   (ao (rG 1000 PassesOwn.never (a7 jC (ah 4) (ah 3)) (ao (bw (bZ (br (ay (T7 T) G))) (aP (ag a5 (aA 4 am))))
   (ao (hZ (i:=3) (ah 4))
   (ao (bw (a7 (cA hu) (aK (qM T) G (ag (aI (ah 0) (ah 4)) am)) a5) (ay (Ys T) G))
   (ba (aC nd (aK (j6 T) G (ag (aI (ah 0) (ah 4)) (ag a5 am)))))))))
   (aM (L7 a5 (aD HB T.n14 rV (ag (eM (ah 3) (gk (Iy (ah 3) (ah 4))) gh) am)))))))
theorem S1:Fn P w K mg base 1 "_law_cell" gt:=T.d29.fq T.hX Au ["_law_script","_law_k","_law_number"] 2 λnd G hu=>
  (ao (bw (a7 pT (ah 1) (aD dB T.n7 dr (aA 0 am))) (aI (ah 0) (ah 1)))
   (ao (aC nd (aF cy (aF mD aw (ah 1)) aw))
   (ao (gg (a7 zj (aD dB T.n7 dr (aA 0 am)) aw) (ba (aC nd (aF cy (aF cy (aF mD (aI (ah 0) (aF cP (aF mD (ah 1) aw) (aD dB T.n7 dr (aA 0 am)))) aw) (aF mD (aF mD (ah 1) (ah 1)) aw)) aw))) fP)
   (aM (aF cP (aF Pn (ah 2) (ah 2)) aw)))))
theorem Yt:Fn P w K mg base 1 "_law_names" p7:=T.d30.fq T.hX wM ["_law_cell_here","_law_letters","_law_base","_law_at","_law_names_here","_law_k","_law_name"] 1 λnd G hu=>
  (ao (aC nd a5)
   (ao (kG ["_law_k","_law_letters","_law_cell_here"] nd (zw T.n11 (aF cy aw (aF cP (ah 0) aw))) gE (aI (ah 1) (aF cP (aF dj (ah 2) (aF cy aw (aF mD aw (ah 0)))) aw)))
   (ao (aC nd (aF cP (aF dj (ah 0) aw) (aD dB T.n7 dr (aA 2 am))))
   (ao (aC nd (cQ am))
   (ao (DG (kU T.n11 aw) (Ci 5 nd) eK (ao (aC nd (lL Hn T.n8 rK (aA 2 am)))
   (ao (OQ (i:=6) (aI (ah 1) (aF cP (aF cy (aF dj (ah 0) aw) (aF mD aw (ah 5))) aw)) (ah 3))
   (ba (hZ (i:=4) (OJ PySem.F.slot_str_join PySem.F.type_str_join OM Hi a5 (ah 6)))))))
   (ba (i6 4)))))))
theorem Yu:Fn P w K mg base 2 "_law_begun" p8:=T.d31.fq T.hX wN ["_law_script","_law_names_here","_law_cell_here","_law_rows_here","_law_stretch"] 2 λnd G hu=>
  (ao (aC nd (aF cP (aK (S1 T) G (aA 0 (c6 am))) (aF MY aw aw)))
   (ao (aC nd (cQ (ag (aP (c6 (ag (aP (ag a5 (ag (aT 1) (c6 (c6 (ag a5 am)))))) am))) (ag (aP (c6 (ag (aP (ag a5 (c6 (ag (aT 1) (ag (aT 1) am))))) am))) am))))
   (ao (aC nd (aI (cQ (ag (aP (c6 (ag cw am))) (ag (aP (c6 (c6 am))) (ag (aP (c6 (c6 am))) am)))) (aF cP (ah 2) aw)))
   (ao (hZ (i:=3) (aP (c6 (ag (aP (ag a5 (c6 (ag (aT 1) (ag (aT 1) (ag (aI (cQ (c6 (c6 am))) (aF cP (aF dj (ah 2) aw) aw)) (ag (aP (c6 (ag cw am))) (ag (aF cP (aF dj (ah 2) aw) aw) am)))))))) am))))
   (ao (hZ (i:=3) (aP (c6 (ag (aP (ag a5 (c6 (ag (aT 1) (c6 (aA 4 (ag (aI (cQ (ag cw (ag (aT 1) am))) (aF cP (aF dj (ah 2) aw) aw)) (ag (aP (ag (aT 1) (ag (aT 1) am))) am)))))))) am))))
   (ao (hZ (i:=3) (aP (c6 (ag (aP (ag a5 (c6 (ag (aT 1) (ag (aI (cQ (c6 (c6 am))) (aF cP (aF dj (ah 2) aw) aw)) (ag (aP (c6 (ag cw am))) (ag cw (ag (aP (ag (aT 1) am)) am)))))))) am))))
   (ao (hZ (i:=3) (aP (c6 (ag (aP (ag a5 (c6 (ag (aI (ah 1) (aF cP (aF dj (ah 2) aw) aw)) (c6 (ag (aP (c6 (c6 am))) (ag (aT 1) (c6 (ag (aP (ag (aP (ag (aF cP (aF dj (ah 2) aw) aw) (ag (aT 1) am))) am)) am))))))))) am))))
   (ba (i6 3)))))))))
theorem Yv:Fn P w K mg base 3 "_law_rows" sX:=T.d32.fq T.hX Av ["_law_script","_law_names_here","_law_rows_here","_law_k","_law_cell_here","_law_day","_law_by","_law_of","_law_deed","_law_word","_law_target"] 2 λnd G hu=>
  (ao (aC nd (ay (Yu T) G))
   (ao (DG (kU T.n11 (aI (cQ (ag (aD RE T.n10 RB (c6 (ag (aF cy aw (aF dj (aD dB T.n7 dr (aA 0 am)) aw)) am))) (c6 am))) (aF cP (aF dj (aK (S1 T) G (aA 0 (c6 am))) aw) aw))) (Ci 3 nd) eK (ao (aC nd (aF cP (aK (S1 T) G (aA 0 (ag (aF cy aw (ah 3)) am))) (aF MY aw aw)))
   (ao (aC nd (aF cy (aF cy aw (aF dj (ah 3) aw)) (aF cP (aF dj (ah 4) aw) aw)))
   (ao (aC nd (aI (ah 1) (aF cP (aF dj (ah 4) aw) aw)))
   (ao (aC nd (aI (cQ (ag (aF cy aw (aF cP (aF dj (ah 4) aw) aw)) (ag (aF zh (aD dB T.n7 dr (aA 2 am)) aw) (ag (aD RD T.n9 RA (c6 (ag (aF zh (aD dB T.n7 dr (aA 2 am)) aw) am))) (ag (aF cP (aF dj (ah 4) aw) aw) am))))) (aF cP (aF dj (ah 4) aw) aw)))
   (ao (aC nd (aP (ag a5 (aA 5 (aA 6 (aA 7 am))))))
   (ao (gg (a7 (cA hu) (aF cP (ah 4) aw) aw) (ao (aC nd (aI (cQ (ag a5 (ag a5 (ag a5 (ag a5 am))))) (aF cP (aF dj (ah 4) aw) aw)))
   (ba (aC nd (aP (aA 9 (ag (aF cy (ah 5) (aF cP (aF dj (ah 4) aw) aw)) (aA 6 am))))))) fP)
   (ao (gg (a7 (cA hu) (aF cP (ah 4) aw) aw) (ao (aC nd (aF cy aw (aF cP (aF dj (ah 4) aw) (aF zh (aD dB T.n7 dr (aA 2 am)) aw))))
   (ba (gg (a7 pU (aI (aI (aI (ah 2) (ah 10)) aw) aw) (aP (ag a5 (ag a5 (ag a5 am))))) (ba (aC nd (aP (ag a5 (ag (aF cy (ah 5) (aF cP (aF dj (ah 4) aw) aw)) (ag (aI (aI (aI (ah 2) (ah 10)) aw) aw) (aA 10 am))))))) fP))) fP)
   (ba (hZ (i:=2) (aP (ag (aT 8) (aA 8 am)))))))))))))
   (ba (i6 2))))
theorem S2:Fn P w K mg base 1 "heard" dP:=T.d33.fq T.hX DQ ["book","known"] 2 λnd G hu=>
  (aM (ga ["number","row","known"] (Le T.n4 (ah 0)) (dM (a7 ir (aT 1) (ah 2))) (ah 0)))
theorem S3:Fn P w K mg base 4 "rank" fX:=T.d34.fq T.hX IC ["book","number"] 2 λnd G hu=>
  (aM (aP (ag (aK (Bq T) G (ag (aI (ah 0) (ah 1)) am)) (aA 1 am))))
theorem W2:Fn P w K mg base 8 "in_order" eQ:=T.d35.fqL T.hX sY ["book","known","dated"] 2 λnd G hu M=>
  (ao (kG ["number","book"] nd (bN (ay (S2 T) G)) (dM (a7 nB (aK (Bq T) G (ag (aI (ah 1) (ah 0)) am)) cw)) (ah 0))
   (aM (HI HG T.n14 (ah 2) (yh (cap:=[0]) (N':=["number","book"]) H9 T.l35 M rr rr (D5 H9 rr rr rr rr rr) rr (.cons rr rr (Or.inl rr) rr (qQ H9 rr) (.nil rr)) rr G.in1.in1 (λ_ _ _ _=>rr) λ_ _ _ _ G=>have hu:=BC G;(ay (S3 T) G)))))
theorem Yw:Fn P w K mg base 1 "by_office" lu:=T.d36.fq T.hX qo ["claim"] 1 λnd G hu=>
  (aM (aP (ag (aT 0) (ag (aT 0) (ag (aT 0) am)))))
theorem UR:Fn P w K mg base 3 "roots" gR:=T.d37.fq T.hX DR ["book","known","known_rows"] 2 λnd G hu=>
  (ao (kG ["number","book"] nd (bN (ay (S2 T) G)) gE (aI (ah 1) (ah 0)))
   (aM (lL (Pc rr) T.n3 Pa (ag (ga ["row"] (bN (ah 2)) (dM (a7 (cA hu) (ay (qM T) G) a5)) (aP (ag (ay (j6 T) G) (aA 0 am)))) am))))
theorem Yx:Fn P w K mg base 4 "tells" qX:=T.d38.fq T.hX DS ["row","words","person","day"] 4 λnd G hu=>
  (aM (di (bK pU (ay (qM T) G) (ah 1)) (di (bK (cA hu) (ay (j6 T) G) (ah 2)) (c9 (bK ir (ay (Bq T) G) (ah 3))))))
theorem US:Fn P w K mg base 5 "told_of" iG:=T.d39.fq T.hX wO ["book","known","words","person","day"] 5 λnd G hu=>
  (aM (ga ["number","words","person","day","book"] (bN (ay (S2 T) G)) (dM (br (aK (Yx T) G (ag (aI (ah 4) (ah 0)) (aA 1 (aA 2 (aA 3 am))))))) (ah 0)))
theorem W3:Fn P w K mg base 6 "lives" qY:=T.d40.fq T.hX DT ["book","known","person","day"] 4 λnd G hu=>
  (aM (bK (cA hu) (aD dB T.n7 dr (ag (aK (US T) G (aA 0 (aA 1 (ag (aP (ag a5 am)) (aA 2 (aA 3 am)))))) am)) aw))
theorem Yy:Fn P w K mg base 8 "has_seal" mO:=T.d41.fqL T.hX sZ ["book","known","person","day","told"] 4 λnd G hu M=>
  (ao (aC nd (aK (US T) G (aA 0 (aA 1 (ag (aP (ag a5 (ag a5 am))) (aA 2 (aA 3 am)))))))
   (ao (bw (a7 (cA hu) (aD dB T.n7 dr (aA 4 am)) aw) cO)
   (aM (bK (cA hu) (aK (qM T) G (ag (aI (ah 0) (Ah Ws T.n9 (ah 4) (yh (cap:=[0]) (N':=["number","book"]) H9 T.l41 M rr rr (D5 H9 rr rr rr rr rr) rr (.cons rr rr (Or.inl rr) rr (qQ H9 rr) (.nil rr)) rr G.in1 (λ_ _ _ _=>rr) λ_ _ _ _ G=>have hu:=BC G;(ay (S3 T) G)) G)) am)) a5))))
theorem T8:Fn P w K mg base 9 "is_sound" eU:=T.d42.fq T.hX tj ["book","known","number","sealer","day"] 3 λnd G hu=>
  (ao (bw (fO (dU (bZ (br (ay (UP T) G))) (dN (a7 jC (aK (qM T) G (ag (aI (ah 0) (ah 2)) am)) (dC T.k11))))) cO)
   (ao (aC nd (aK (j6 T) G (ag (aI (ah 0) (ah 2)) (ag a5 am))))
   (ao (aC nd (aK (Bq T) G (ag (aI (ah 0) (ah 2)) am)))
   (aM (di (ay (W3 T) G) (c9 (ay (Yy T) G)))))))
theorem UT:Fn P w K mg base 1 "lies_in" iH:=T.d43.fq T.hX wP ["day","stretch"] 2 λnd G hu=>
  (aM (di (bK ir (aT 1) (ah 0)) (c9 (rF (bK xP (aT 1) cw) (c9 (bK pT (ah 0) (aT 1)))))))
theorem UU:Fn P w K mg base 2 "is_alive" eV:=T.d44.fq T.hX tm ["claim","day"] 2 λnd G hu=>
  (aM (aK (UT T) G (aA 1 (ag (aP (ag (aT 0) (ag (aT 0) am))) am))))
theorem UV:Fn P w K mg base 1 "by_since" fY:=T.d45.fq T.hX tq ["claim"] 1 λnd G hu=>
  (aM (aP (ag (aT 0) (ag (aT 0) am))))
theorem Yz:Fn P w K mg base 5 "chief_of" mP:=T.d46.fq T.hX tu ["alive","rule"] 2 λnd G hu=>
  (ao (bw (a7 (cA hu) (ah 1) a5) (aI (Ah Ws T.n9 (ah 0) (D7 (UV T) (G.in1.mono Z9) rr) G) aw))
   (aM (aI (Ah U8 T.n10 (ah 0) (D7 (UV T) (G.in1.mono Z9) rr) G) aw)))
theorem W4:Fn P w K mg base 6 "holder_by" jo:=T.d47.fq T.hX qp ["claimed","root","day","alive","people","person","oldest"] 3 λnd G hu=>
  (ao (kG ["claim","day","root"] nd (bN (ah 0)) (dM (fO (hW (a7 (cA hu) (aT 0) (ay (j6 T) G)) (fM (br (ay (UU T) G)))))) (ah 0))
   (ao (aC nd (mH rr T.n14 T.n13 (ga ["claim"] (bN (ah 3)) gE (aT 0))))
   (ao (bw (a7 (cA hu) (aD dB T.n7 dr (aA 4 am)) aw) (aP (ag a5 am)))
   (ao (bw (fO (hW (a7 zj (aD dB T.n7 dr (aA 4 am)) aw) (fM (a7 (cA hu) (ay (j6 T) G) a5)))) (aP (ag a5 (aA 4 am))))
   (ao (aC nd (aK (Yz T) G (aA 3 (ag (ay (j6 T) G) am))))
   (ao (aC nd (Ah U8 T.n10 (ga ["claim","person"] (bN (ah 3)) (dM (a7 (cA hu) (aT 0) (ah 1))) (ah 0)) (D7 (UV T) (G.in1.mono Z9) rr) G))
   (aM (aP (ag a5 (aA 5 (ag (aT 6) am)))))))))))
theorem UW:Fn P w K mg base 7 "is_held_by" dQ:=T.d48.fq T.hX oh ["claimed","root","person","day"] 4 λnd G hu=>
  (aM (bK (cA hu) (eM (ay (W4 T) G) gh (gk aw)) (aP (ag a5 (aA 2 am)))))
theorem Y0:Fn P w K mg base 8 "is_first_death" gI:=T.d49.fqL T.hX jN ["book","known","number","row","deaths"] 3 λnd G hu M=>
  (ao (aC nd (aI (ah 0) (ah 2)))
   (ao (aC nd (aK (US T) G (aA 0 (aA 1 (ag (aP (ag a5 am)) (ag (ay (j6 T) G) (ag (ay (Bq T) G) am)))))))
   (aM (bK (cA hu) (Ah U8 T.n10 (ah 4) (yh (cap:=[0]) (N':=["each","book"]) H9 T.l49 M rr rr (D5 H9 rr rr rr rr rr) rr (.cons rr rr (Or.inl rr) rr (qQ H9 rr) (.nil rr)) rr G.in1 (λ_ _ _ _=>rr) λ_ _ _ _ G=>have hu:=BC G;(ay (S3 T) G)) G) (ah 2)))))
theorem Y1:Fn P w K mg base 10 "counts" oi:=T.d50.fq T.hX Aw ["book","known","so_far","number","row","root"] 4 λnd G hu=>
  (ao (aC nd (aI (ah 0) (ah 3)))
   (ao (bw (a7 (cA hu) (ay (qM T) G) a5) (ay (Y0 T) G))
   (ao (bw (a7 jC (ay (qM T) G) (aP (ag a5 (ag a5 (ag a5 am))))) cO)
   (ao (aC nd (HQ (Lx hu) (ay (UR T) G) (ay (j6 T) G) ⟨rr,rr,rr,rr⟩))
   (ao (bw (a7 xP (ah 5) cw) cO)
   (ao (bw (a7 (cA hu) (ay (qM T) G) a5) cO)
   (aM (di (ay (T8 T) G) (c9 (aK (UW T) G (aA 2 (aA 5 (ag (ay (j6 T) G) (ag (ay (Bq T) G) am))))))))))))))
theorem Y2:Fn P w K mg base 3 "new_claim" jp:=T.d51.fq T.hX qq ["row","since","number"] 3 λnd G hu=>
  (aM (aP (ag (ay (j6 T) G) (ag (ay (j6 T) G) (aA 1 (ag cw (aA 2 am)))))))
theorem Y3:Fn P w K mg base 3 "ended" yt:=T.d52.fq T.hX DU ["so_far","offices","person","day","left","claim"] 4 λnd G hu=>
  (ao (aC nd (cQ am))
   (ao (nO (bN (ah 0)) (Ci 5 nd) eK (ba (gg (fO (dU (a7 jC (aT 5) (ah 1)) (dU (a7 (oS hu) (aT 5) (ah 2)) (dN (bZ (fO (dU (br (ay (UU T) G)) (dN (a7 zj (aT 5) (ah 3)))))))))) (ba (hZ (i:=4) (ah 5))) (ba (gg (a7 pT (aT 5) (ah 3)) (ba (hZ (i:=4) (aP (ag (aT 5) (aA 2 (ag (aT 5) (aA 3 (ag (aT 5) am)))))))) fP)))))
   (ba (i6 4))))
theorem Y4:Fn P w K mg base 7 "inherited" lw:=T.d53.fq T.hX qs ["book","known","so_far","heirs","number","person","day","told","office","heir"] 5 λnd G hu=>
  (ao (aC nd (aK (j6 T) G (ag (aI (ah 0) (ah 4)) (ag a5 am))))
   (ao (aC nd (aK (Bq T) G (ag (aI (ah 0) (ah 4)) am)))
   (ao (aC nd (cQ am))
   (ao (Hm [5,6] (nO (bN (mH rr T.n14 T.n13 (ga ["claim","person","day"] (bN (ah 2)) (dM (fO (hW (a7 (cA hu) (aT 0) (ah 1)) (fM (br (ay (UU T) G)))))) (aT 0)))) (Ci 8 nd) eK (ao (aC nd (Ih (Lx hu) (ah 3) (aA 8 (aA 5 am)) ⟨rr,rr,rr,rr⟩))
   (ba (gg (fO (hW (a7 nB (ah 9) cw) (fM (br (ay (W3 T) G))))) (ba (hZ (i:=7) (aP (aA 8 (aA 9 (aA 6 (ag cw (aA 4 am)))))))) fP)))))
   (ba (i6 7))))))
theorem Y5:Fn P w K mg base 8 "after_death" jy:=T.d54.fq T.hX m4 ["book","known","so_far","heirs","number","offices","left"] 5 λnd G hu=>
  (ao (kG ["claim"] nd (bN (ah 2)) gE (aT 0))
   (ao (aC nd (aK (Y3 T) G (aA 2 (aA 5 (ag (aK (j6 T) G (ag (aI (ah 0) (ah 4)) (ag a5 am))) (ag (aK (Bq T) G (ag (aI (ah 0) (ah 4)) am)) am))))))
   (aM (aF cy (ah 6) (ay (Y4 T) G)))))
theorem W5:Fn P w K mg base 11 "claims" om:=T.d55.fq T.hX Ax ["book","known","so_far","heirs","number","row"] 2 λnd G hu=>
  (ao (aC nd (cQ am))
   (ao (Lu (i:=3) nd)
   (ao (nO (bN (ay (W2 T) G)) (Ci 4 nd) eK (ao (aC nd (aI (ah 0) (ah 4)))
   (ao (gg (bZ (br (ay (Y1 T) G))) (ba Ds) fP)
   (ba (gg (a7 (cA hu) (ay (qM T) G) a5) (ba (aC nd (aF cy (ah 2) (cQ (ag (aK (Y2 T) G (aA 5 (ag (ay (Bq T) G) (aA 4 am)))) am))))) (ba (gg (a7 (cA hu) (ay (qM T) G) a5) (ba (aC nd Ly)) (ba (gg (a7 (cA hu) (ay (qM T) G) a5) (ba (Lz (i:=3) (Lx hu) (ay (j6 T) G) (ag (ay (j6 T) G) (ag (ay (j6 T) G) am)))) (ba (aC nd (ay (Y5 T) G))))))))))))
   (aM (HI HG T.n14 (ah 2) (D7 (Yw T) (G.in1.in1.mono Z9) rr))))))
theorem W6:Fn P w K mg base 2 "is_leave" gJ:=T.d56.fq T.hX t6 ["book","known","number"] 3 λnd G hu=>
  (aM (di (ay (UP T) G) (c9 (bK (cA hu) (aK (qM T) G (ag (aI (ah 0) (ah 2)) am)) a5))))
theorem UX:Fn P w K mg base 3 "is_borne" eW:=T.d57.fq T.hX t7 ["book","known","number"] 3 λnd G hu=>
  (aM (rF (ay (W6 T) G) (c9 (ay (T7 T) G))))
theorem W7:Fn P w K mg base 1 "covers" iV:=T.d58.fq T.hX t8 ["matters","some"] 2 λnd G hu=>
  (aM (bK (cA hu) (aF R6 (ah 0) (ah 1)) (ah 1)))
theorem W8:Fn P w K mg base 3 "reach_bar" jq:=T.d59.fq T.hX qt ["row","above"] 2 λnd G hu=>
  (ao (bw (bZ (br (aK (W7 T) G (ag (ay (j6 T) G) (ag (ay (j6 T) G) am))))) a5)
   (ao (bw (fO (hW (a7 (cA hu) (ay (qM T) G) a5) (fM (a7 O8 (ay (j6 T) G) (ay (j6 T) G))))) a5)
   (aM cw)))
theorem Y6:Fn P w K mg base 8 "office_bar" i7:=T.d60.fq T.hX oq ["claimed","row","root"] 3 λnd G hu=>
  (ao (bw (bZ (br (aK (UW T) G (aA 0 (aA 2 (ag (ay (j6 T) G) (ag (ay (Bq T) G) am))))))) a5)
   (aM (ay (W8 T) G)))
theorem Y7:Fn P w K mg base 9 "office_bases" iW:=T.d61.fq T.hX lx ["book","known","claimed","number","row","bearing"] 4 λnd G hu=>
  (ao (aC nd (aI (ah 0) (ah 3)))
   (ao (kG ["root","claimed","row"] nd (DE (ay (UR T) G)) (dM (a7 xP (ay (Y6 T) G) cw)) (ah 0))
   (aM (ga ["root","claimed","row"] (bN (ah 5)) gE (aP (ag a5 (ag (ay (j6 T) G) (ag (aI (aK (W4 T) G (aA 1 (aA 0 (ag (ay (Bq T) G) am)))) aw) am))))))))
theorem Y8:Fn P w K mg base 1 "ends_within" jz:=T.d62.fq T.hX m5 ["stop","bound"] 2 λnd G hu=>
  (ao (bw (a7 xP (ah 1) cw) cO)
   (aM (di (bK nB (ah 0) cw) (c9 (bK ir (ah 0) (ah 1))))))
theorem Y9:Fn P w K mg base 2 "is_within" jr:=T.d63.fq T.hX qu ["one","other"] 2 λnd G hu=>
  (aM (di (bK ir (aT 1) (aT 0)) (c9 (aK (Y8 T) G (ag (aT 0) (ag (aT 1) am))))))
theorem W9:Fn P w K mg base 5 "is_ahead" gK:=T.d64.fq T.hX t9 ["book","one","other"] 3 λnd G hu=>
  (aM (bK (Nj hu) (ay (S3 T) G) (ay (S3 T) G)))
theorem YA:Fn P w K mg base 6 "leave_bar" ly:=T.d65.fq T.hX qw ["book","number","leave","row","stretch"] 3 λnd G hu=>
  (ao (aC nd (aI (ah 0) (ah 1)))
   (ao (aC nd (aK (j6 T) G (ag (aI (ah 0) (ah 2)) (ag a5 am))))
   (ao (bw (bZ (br (ay (W9 T) G))) a5)
   (ao (bw (fO (dU (bZ (br (aK (UT T) G (ag (ay (Bq T) G) (aA 4 am))))) (dN (bZ (br (aK (Y9 T) G (ag (ay (j6 T) G) (aA 4 am)))))))) a5)
   (aM (aK (W8 T) G (aA 3 (ag (aI (ah 0) (ah 2)) am))))))))
theorem YB:Fn P w K mg base 3 "leaves_to" l5:=T.d66.fq T.hX qx ["book","known","person","leaves"] 3 λnd G hu=>
  (ao (kG ["number","book","known"] nd (bN (ay (S2 T) G)) (dM (br (ay (W6 T) G))) (ah 0))
   (aM (ga ["number","person","book"] (bN (ah 3)) (dM (a7 (cA hu) (aK (j6 T) G (ag (aI (ah 2) (ah 0)) (ag a5 am))) (ah 1))) (ah 0))))
theorem YC:Fn P w K mg base 7 "leave_bases" j0:=T.d67.fq T.hX m6 ["book","known","number","leaves"] 3 λnd G hu=>
  (ao (aC nd (aK (YB T) G (aA 0 (aA 1 (ag (aK (j6 T) G (ag (aI (ah 0) (ah 2)) (ag a5 am))) am)))))
   (aM (ga ["leave","book","number"] (bN (ah 3)) (dM (a7 xP (ay (YA T) G) cw)) (aP (ag a5 (aA 0 am))))))
theorem YD:Fn P w K mg base 6 "copy_bases" ki:=T.d68.fq T.hX ot ["book","known","number","of"] 3 λnd G hu=>
  (ao (aC nd (aK (j6 T) G (ag (aI (ah 0) (ah 2)) (ag a5 am))))
   (ao (bw (fO (hW (br (ay (T7 T) G)) (fM (br (ay (W9 T) G))))) (cQ (ag (aP (ag a5 (aA 3 am))) am)))
   (aM (cQ am))))
theorem YE:Fn P w K mg base 10 "bases_by" fZ:=T.d69.fqL T.hX tF ["book","known","claimed","number","found"] 4 λnd G hu M=>
  (ao (bw (bZ (br (ay (UX T) G))) (cQ am))
   (ao (bw (a7 (cA hu) (aK (qM T) G (ag (aI (ah 0) (ah 3)) am)) a5) (ay (YD T) G))
   (ao (aC nd (aF cy (ay (Y7 T) G) (ay (YC T) G)))
   (aM (HI (Il hu) T.n14 (ah 4) (yh (cap:=[]) (N':=["base"]) H9 T.l69 M rr rr (D5 H9 rr rr rr rr rr) rr (.nil rr) rr G.in1.in1 (λ_ _ _ _=>rr) λ_ _ _ _ G=>have hu:=BC G;(aP (ag (aI (ah 0) (GP GV aw)) (aA 0 am)))))))))
theorem YF:Fn P w K mg base 8 "may_call" mQ:=T.d70.fq T.hX tG ["book","known","claimed","call","number","row","caller","over"] 5 λnd G hu=>
  (ao (aC nd (aI (ah 0) (ah 4)))
   (ao (aC nd (aK (j6 T) G (ag (aI (ah 0) (ah 3)) (ag a5 am))))
   (ao (bw (a7 (cA hu) (ah 6) (ay (j6 T) G)) cO)
   (ao (bw (a7 (cA hu) (ay (qM T) G) a5) cO)
   (ao (kG ["root","row"] nd (DE (ay (UR T) G)) (dM (br (aK (W7 T) G (ag (ay (j6 T) G) (ag (ay (j6 T) G) am))))) (ah 0))
   (aM (aD Na T.n1 Nb (ag (ga ["root","claimed","caller","book","call"] (bN (ah 7)) gE (aK (UW T) G (aA 1 (aA 0 (aA 2 (ag (aK (Bq T) G (ag (aI (ah 3) (ah 4)) am)) am)))))) am))))))))
theorem YG:Fn P w K mg base 10 "calls_in" kj:=T.d71.fq T.hX tH ["book","known","claimed","call","number","day","row"] 6 λnd G hu=>
  (ao (aC nd (aI (ah 0) (ah 3)))
   (ao (bw (fO (dU (a7 (oS hu) (ay (qM T) G) a5) (dU (a7 (oS hu) (ay (j6 T) G) (ah 4)) (dN (a7 zj (ay (Bq T) G) (ah 5)))))) cO)
   (aM (di (ay (T8 T) G) (c9 (ay (YF T) G))))))
theorem WA:Fn P w K mg base 11 "calls_by" km:=T.d72.fq T.hX tI ["book","known","claimed","number","day"] 5 λnd G hu=>
  (ao (bw (bZ (br (ay (UX T) G))) (cQ am))
   (aM (ga ["call","book","known","claimed","number","day"] (bN (ay (S2 T) G)) (dM (br (ay (YG T) G))) (ah 0))))
theorem YH:Fn P w K mg base 12 "is_fit" ou:=T.d73.fq T.hX Ay ["book","known","claimed","number","day"] 5 λnd G hu=>
  (ao (bw (fO (dU (bZ (br (ay (T8 T) G))) (dN (a7 zj (aK (Bq T) G (ag (aI (ah 0) (ah 3)) am)) (ah 4))))) cO)
   (aM (bK (cA hu) (aD dB T.n7 dr (ag (ay (WA T) G) am)) aw)))
theorem WB:Fn P w K mg base 13 "links" oy:=T.d74.fq T.hX DV ["book","known","day","claimed","found","number"] 3 λnd G hu=>
  (ao (KR (i:=3) nd (ay (W5 T) G))
   (ao (DC (i:=4) nd)
   (ao (nO (bN (ay (W2 T) G)) (Ci 5 nd) eK (ba (gg (fO (hW (br (ay (UX T) G)) (fM (br (ay (YH T) G))))) (ba (Ir (i:=4) (Lx hu) (ay (YE T) G) (ah 5))) fP)))
   (ba (i6 4)))))
theorem WC:Fn P w K mg base 1 "bears" o0:=T.d75.fq T.hX DW ["base","among"] 2 λnd G hu=>
  (aM (rF (bK (cA hu) (aT 0) a5) (c9 (Pg (Lx hu) (aT 0) (ah 1)))))
theorem WD:Fn P w K mg base 2 "stood" o3:=T.d76.fq T.hX DX ["found","stands","number","resting"] 1 λnd G hu=>
  (ao (DC (i:=1) nd)
   (ao (nO (Iq (ah 0)) (xx rr (gT (Ci 2 nd) (gT (Ci 3 nd) qO))) Nc (ba (gg (br (aD Na T.n1 Nb (ag (ga ["base","stands"] (bN (ah 3)) gE (ay (WC T) G)) am))) (ba (Lv (i:=1) (Lx hu) cO (ah 2))) fP)))
   (ba (i6 1))))
theorem WE:Fn P w K mg base 2 "first_bearer" eY:=T.d77.fq T.hX l7 ["resting","stands"] 2 λnd G hu=>
  (aM (aI (ga ["base","stands"] (bN (ah 0)) (dM (br (ay (WC T) G))) (ah 0)) aw))
theorem UY:Fn P w K mg base 14 "chain" gS:=T.d78.fq T.hX DY ["book","known","day","number","found","stands","told","bearer"] 4 λnd G hu=>
  (ao (aC nd (ay (WB T) G))
   (ao (aC nd (ay (WD T) G))
   (ao (bw (Fs (Lx hu) (ah 3) (ah 5)) cw)
   (ao (aC nd (cQ (aA 3 am)))
   (ao (aC nd (aK (WE T) G (ag (HR (Lx hu) (ah 4) (ah 3) (by intro _ _;rfl)) (aA 5 am))))
   (ao (rG 1000 PassesOwn.never (a7 (oS hu) (aT 7) a5) (ao (hZ (i:=6) (aT 7))
   (ba (aC nd (aK (WE T) G (ag (HR (Lx hu) (ah 4) (aT 7) (by intro _ _;rfl)) (aA 5 am)))))))
   (ao (hZ (i:=6) (aT 7))
   (aM (Cm rr T.n8 T.n12 (ah 6))))))))))
theorem YI:Fn P w K mg base 14 "standing" iX:=T.d79.fq T.hX tK ["book","known","day"] 3 λnd G hu=>
  (aM (aD (F5 rr) T.n14 rV (ag (aK (WD T) G (ag (ay (WB T) G) am)) am)))
theorem WG:Fn P w K mg base 3 "paper_behind" eZ:=T.d80.fq T.hX l8 ["book","number","row"] 2 λnd G hu=>
  (ao (aC nd (aI (ah 0) (ah 1)))
   (ao (rG 1000 PassesOwn.never (a7 (cA hu) (ay (qM T) G) a5) (ba (aC nd (aI (ah 0) (ay (j6 T) G)))))
   (ba (i6 2))))
theorem YJ:Fn P w K mg base 15 "holding" pA:=T.d81.fq T.hX wQ ["book","known","day","stands"] 3 λnd G hu=>
  (ao (kG ["number","book","known"] nd (bN (ay (YI T) G)) (dM (br (ay (T7 T) G))) (ah 0))
   (aM (ga ["number","day","book"] (bN (ah 3)) (dM (br (aK (UT T) G (aA 1 (ag (aK (j6 T) G (ag (ay (WG T) G) (ag a5 am))) am))))) (ah 0))))
theorem YK:Fn P w K mg base 4 "whom_of" pB:=T.d82.fq T.hX wR ["book","number"] 2 λnd G hu=>
  (aM (aK (j6 T) G (ag (ay (WG T) G) (ag a5 am))))
theorem T9:FnD P w K mg base 16 "holds" gu:=T.d83.fqD T.hX DZ ["book","known","day","number","person"] 5 λnd G hu=>
  (ao (bw (a7 jC (ah 3) (ay (YJ T) G)) cO)
   (aM (rF (bK xP (ah 4) cw) (c9 (bK pU (ay (YK T) G) (aP (ag cw (aA 4 am))))))))
theorem YL:Fn P w K mg base 12 "calls" o4:=T.d84.fq T.hX Ea ["book","known","number","day"] 4 λnd G hu=>
  (aM (aK (WA T) G (aA 0 (aA 1 (ag (ay (W5 T) G) (aA 2 (aA 3 am)))))))
theorem YM:Fn P w K mg base 13 "_law_good" tL:=T.d85.fq T.hX A1 ["_law_book","_law_number","_law_day","_law_deed","_law_of"] 3 λnd G hu=>
  (ao (aC nd (aI (aI (ah 0) (ah 1)) aw))
   (ao (aC nd (aT 3))
   (ao (bw (fO (dU (a7 zj (aT 3) (ah 2)) (dU (bZ (br (aK (T8 T) G (aA 0 (c6 (aA 1 am)))))) (dN (a7 (oS hu) (aK (YL T) G (aA 0 (c6 (aA 1 (aA 2 am))))) (cQ am)))))) cO)
   (ao (bw (fO (dU (a7 O8 (ah 4) (aD dB T.n7 dr (aA 0 am))) (dN (a7 jC (aI (aI (aI (ah 0) (ah 4)) aw) aw) (aP (ag a5 (ag a5 (ag a5 am)))))))) cO)
   (aM (bK (Nj hu) (aP (ag (aI (aI (aI (ah 0) (ah 4)) aw) aw) (aA 4 am))) (aP (ag (aT 3) (aA 1 am)))))))))
theorem YN:Fn P w K mg base 17 "_law_as" Cn:=T.d86.fq T.hX ID ["_law_book","_law_number","_law_day","_law_names_here","_law_of","_law_good_here","_law_person","_law_found","_law_due"] 4 λnd G hu=>
  (ao (aC nd (aI (aI (aI (ah 0) (ah 1)) aw) aw))
   (ao (aC nd (ay (YM T) G))
   (ao (bw (a7 (oS hu) (Nl (T9 T) G (aA 0 (c6 (aA 2 (aA 1 am))))) (di (ah 5) (c9 (Nl (T9 T) G (aA 0 (c6 (aA 2 (aA 4 am)))))))) cO)
   (ao (aC nd (aI (ah 3) (aF cP (aF cy (ah 1) (ah 2)) aw)))
   (ao (bw (a7 (oS hu) (aK ((T9 T)).fn G (aA 0 (c6 (aA 2 (aA 1 (aA 6 am)))))) (di (ah 5) (c9 (aK ((T9 T)).fn G (aA 0 (c6 (aA 2 (aA 4 (aA 6 am))))))))) cO)
   (ao (aC nd (aK (UY T) G (aA 0 (c6 (aA 2 (aA 1 am))))))
   (ao (aC nd cw)
   (ao (gg (fO (hW (br (ah 5)) (fM (a7 nB (aK (UY T) G (aA 0 (c6 (aA 2 (aA 4 am))))) cw)))) (ba (aC nd (aF cy (aK (UY T) G (aA 0 (c6 (aA 2 (aA 4 am))))) (cQ (aA 1 am))))) fP)
   (aM (bK (cA hu) (ah 7) (ah 8)))))))))))
theorem head {fa:Addr}(O:mg "law" = some (.ref fa)):∃fd:FuncData,(∀(s:Shared)(u:Value),BindsTo s fd ⟨[u],[]⟩ [("_law_script",u)])/\∀base:Heap,K.In base->base.Ns mainGlobals mg->oE P w K mg base yL 18 fa fd ["_law_script"] (GU K F_law):=by
 have S:FnScope ["_law_script","_law_names_here","_law_rows_here","_law_book","_law_copies","_law_number","_law_of","_law_k"] ["_law_script"] (aJ (de 111)):=by refine⟨rr,rr,rr,?_,rr,?_,?_⟩<;>decide +kernel
 have ⟨h,X,G⟩:=T.hX;exact cG.law T.d87 X G O S (λ_ _ _ _ _ _ u=>rr) λbase U a f dG A outer s H E M=>have hu:=BC M;have nd:=S.nd;(show vy _ _ Nm from
  (ao (aC nd (aK (Yt T) M (ag (aK (S1 T) M (aA 0 (c6 am))) am)))
   (ao (aC nd (ay (Yv T) M))
   (ao (aC nd (aK (Yq T) M (ag (lL Hn T.n8 rK (aA 2 am)) am)))
   (ao (kG ["_law_k","_law_rows_here"] nd (zw T.n11 (aD dB T.n7 dr (aA 2 am))) (dM (a7 (cA hu) (aI (aI (aI (ah 1) (ah 0)) aw) aw) a5)) (ah 0))
   (ao (Hm [4] (nO (bN (aF cy (eM (ah 4) gh (gk aw)) (eM (ah 4) (gk (GP GV aw)) gh))) (Ci 5 nd) eK (ao (aC nd (aI (aI (aI (ah 2) (ah 5)) aw) aw))
   (ao (gg (fO (hW (a7 pT (ah 6) (aD dB T.n7 dr (aA 2 am))) (fM (a7 pU (aI (aI (aI (ah 2) (ah 6)) aw) aw) (aP (ag a5 (ag a5 (ag a5 am)))))))) (ba (bw (fO (hW (a7 (oS hu) (aK (UQ T) M (aA 3 (c6 (aA 5 am)))) (aK (UQ T) M (aA 3 (c6 (aA 6 am))))) (fM (a7 (cA hu) (aI (aK (UQ T) M (aA 3 (c6 (aA 6 am)))) aw) a5)))) cO)) fP)
   (ba (DG (kU T.n11 aw) (Ci 7 nd) eK (ba (bw (bZ (br (aK (YN T) M (aA 3 (aA 5 (ag (aF cP (aK (S1 T) M (aA 0 (ag (aF cy aw (aF cP (aF cy (ah 5) (ah 7)) aw)) am))) aw) (aA 1 am))))))) cO))))))))
   (aM cO)))))))
end
end Lw
end
set_option genInjectivity false in
set_option genSizeOfSpec false in
structure PySem.W.Fast:Prop where(tw12258197561460828489 tw1128097971134450922 tw6615228327689949017 tw7517070699365482161 tw13002117889363725585 tw5054114622279983471 tw11273175973832312034 tw12738080099575165894 tw15008200096610262965 tw10009247499043418706 tw6778457491239360564 tw2085991416667460603 tw7910111746437380085 tw4608111207167870468 tw3832164599756831757 tw11902782661441948702 tw3727170806414031396 tw2857730349166434239 tw12098323383908980473 tw1380548697205666117 tw783147152750697349 tw13313186769454994704 tw818747586431325070 tw15047618371195714873 tw3695609011425345920 tw15408961973910446849 tw3069651177655624528 tw9672845538106395283 tw9577113652876240580 tw9288472339829130923 tw1479620960970430927 tw15464262029758430283 tw14380247859063295342 tw9976132726553305499 tw5330948115787977721 tw11456571550179024143 tw3558352092167350293 tw966271165254465060 tw994353684476729544 tw1470695592055495988 tw2851961671939310623 tw1212410942346544494 tw2910657487355665524 tw8705013225980596826 tw5730241589759471652 tw17921862025108414418 tw8836754772892359429 tw14951801309773978138 tw16608305555655193697 tw1942661811774014026 tw11670548641593405287 tw3624808107851680165 tw8524132055813038729 tw1120066935082557742 tw1890328709161012424 tw12585069241353606544 tw14059192961121717133 tw8165161602937481188 tw13769858731682578905 tw7596976966719001580 tw14060668895087129923 tw1087545431323511088 tw8923832926550684598 tw13276957349537262907 tw5243395088984568907 tw3066003150118186810 tw3776811780818948980 tw8246855786091457961 tw12193138080334820538 tw8275351346793456403 tw14614262902237159368 tw54309769218634584 tw9614334752056765575 tw1753662698601159628 tw11348482670519779808 tw1542160807311581835 tw16555295135803460787 tw1128555866002211018 tw3323035589709213128 tw14526192156393478514 tw13843415074105714542 tw2869626657468194859 tw12703948354639163436 tw4643590682238432762 tw9010235298412400378 tw7899861725218610086 tw7259903105396022177 tw10465864709111853460 tw13403851523400406824 tw11286920842658381352 tw15515622188134003366 tw17488016941040142615 tw9418035928034371202 tw17700609625118976460 tw15198785055859970677 tw9496805898952282454 tw4418831858755661384 tw570660883645359908 tw478996597945088985 tw8756510656231216607 tw3807284635873493049 tw3980596880193606005 tw9333720349813369516 tw14468147662552573872 tw16569198264135785266 tw7726558183227942062 tw3130963081104886486 tw1218400309680545875 tw6147294377483794001 tw5431495455411200584 tw16117107237161030945 tw3307656747883732132 tw6631621157313403629 tw112085806375926378 tw3668472047275314840 tw8990445248302409171 tw486653165062887262 tw2152526685423953016 tw16181267285308143584 tw6236601211544283763 tw16598296455186997094 tw3619227329999648272 tw2501998558211150116 tw571807774437988805 tw6680168420095268441 tw5854374999285808787 tw2167530263890209863 tw7871264758548951593 tw1673785857924315818 tw8248656421506454631 tw13022738813038847162 tw4440851916565143845 tw234705791451798542 tw1573811008322169518 tw3432309672038610462 tw2195790044989896656 tw6711156480650607377 tw11027201512021670948 tw17142123817414657054 tw4714799216316857610 tw3852343780978351152 tw13890954815628084305 tw6543381834106090598 tw7591540950449889685 tw13898959653802533085 tw11243023629469855220 tw373309117412453939 tw15647854533330326230 tw13019163912343087850 tw9096626974693884429 tw9688203716305722001 tw15379492281309266072 tw3984332733391638872 tw9991507875826551743 tw4031319156913097324 tw15043389856293831579 tw6808417453683027210 tw13436174648300902586 tw7136406180216912654 tw7458119967196069494 tw18021593952376731920 tw16939621110551979445 tw12009027206042916444 tw12680093590405874167 tw13069087587263189554 tw4391052689162927974 tw10060956450739953496 tw10563018360295391554 tw5867226659001382504 tw7222045669855125762 tw6508972622900570244 tw11339095258859853922 tw3031930067334404312 tw1136137321929393988 tw2694324458257296673 tw14181032096646527582 tw13831864729661201048 tw2483287511803019099 tw3913456761382213631 tw12824122349878588323 tw12378569985547722839 tw8439772900399603212 tw15609172106499994494 tw1771061633128009843 tw17986451746432348380 tw8883184607347412537 tw16367584042844767550 tw12523449084599034247 tw3360972711101678369 tw2191002053613523373 tw16353369772296017654 tw18309344275063008692 tw13792297915166926932 tw16559908946851918741 tw18031702139691525855 tw17271601569062162586 tw3521344922424682751 tw881546104442045478 tw9226291790991445082 tw12267866798888993605 tw14156058207107660582 tw19572694011263436 tw14288555229178453782 tw12068678128815141141 tw4869259126880929669 tw7351563765267877477 tw13012337873621916263 tw9368973399699699252 tw1778523583615223275 tw8271806136560943038 tw17728264499593101129 tw9868298520645520161 tw2080862379534572967 tw2642372271562399164 tw11937173632574815543 tw1423786609038679783 tw12844961405426958315 tw3880010441601185403 tw2373721923378695549 tw9729326348739315347 tw561034809486470629 tw8648672303484250218 tw9214508153919158084 tw4303625734778527695 tw11140071874507465577 tw6219742888408489322 tw17187781338774225556 tw12143386400118445047 tw1700904115380953077 tw708299981995236746 tw1818356139469313815 tw5386905405926337471 tw4186646859702713792 tw9080287060558105509 tw8199094686370873369 tw10293457784085791832 tw10620007991232363449 tw10549444993275722958 tw7394942235638672618 tw17337254705989092351 tw15583613898466536915 tw1407716383481752976 tw15362675369745613935 tw5214193058798591935 tw5533849727421541880 tw16322295201302749793 tw4864536417310466087 tw4273812920317186202 tw16919332602216799711 tw7312223995404364336 tw2569898757996788062 tw16064854833502639995 tw9319003517422432742 tw6407346417841282248 tw16096132335407258949 tw2601790824518477384 tw8649477716788617608 tw16899839581491785981 tw13352529003829372265 tw12342240074205794954 tw6168314196872212170 tw5230794240052744057 tw2074635091945412441 tw3663682581929286915 tw2022530509579777385 tw17512109660281011999 tw12050739072767120459 tw7749421957143787300 tw3438171433831564145 tw8020441172987089342 tw6441085056644937910 tw2790019511808757920 tw17318220629793387790 tw17002308685393812954 tw14357440630527675888 tw14156010245462335200 tw12509438099272639300 tw10159739652526503308 tw84604419504751940 tw1452066566542984868 tw8207915048599763030 tw6143695978832039462 tw1821475902524775904 tw14327600248581603487 tw10201693945102560754 tw7890235565571070929 tw3578086904816175700 tw15740827165931363087 tw9038531041967461591 tw8470997262608157121 tw5935042480981705874 tw3827140365140227772 tw10472553491611556241 tw6414533097988212716 tw3616974561222143190 tw10982510191565937631 tw4530743454552474698 tw2757202011111542393 tw16657936840472918825 tw14718151114388443629 tw1371356181630325679 tw12908037060733390646 tw10346458955456455622 tw17279886209384662764 tw12142365829005995568 tw9842531669683723260 tw4773029574573394056 tw3716144167291712212 tw1786236479120365338 tw17778807582131996107 tw15532061436116241038 tw8986466503693950065 tw4100546666236026290 tw2958281103596448891 tw14143117847894348911 tw9832471327354915590 tw7854634050622844132 tw8768618371311633272 tw14030640194090585811 tw7358249495146401694 tw6958403330253806120 tw15004722210029368447 tw14924049385542530254 tw4650006844332224609 tw17105389324872750471 tw3467460790202092999 tw26365053237111739 tw14030498303131743533 tw13748617208927085450 tw12708424503655193195 tw12861189132761995971 tw4735268427953638621 tw17831020952833718662 tw6561282678174497833 tw11582822995355521714 tw9516371975401479535 tw2055344759326078040 tw15824775350969298502 tw15383509441735695727 tw1521430963674994304 tw4905536811049632590 tw16470480221698614240 tw13636573081407608972 tw5522116740540060465 tw15961098317978235245 tw5008604940515423252 tw331425565825887597 tw10144817627881402915 tw5233234410980794996 tw1021619106292766459 tw5923188924475280986 tw2072603497971197986 tw9332368495332524487 tw14840835823459788855 tw12509523217071515780 tw6360009975362899007 tw4278000305674763186 tw874374673637057249 tw4873841546388955674 tw17820612200491941620 tw17766373996524718663 tw16465419103790523565 tw1251356022364531546 tw9435762322397682071 tw2706241028428895409 tw15350249718765955023 tw1072535570873565179 tw12853475705618310749 tw8667037004530343842 tw16905068160140712420 tw12954934449787609175 tw7774856305335936183 tw6388047441179748429 tw10921075535919693352 tw5853941956558131240 tw3799649283769991714 tw13182399602622319207 tw16912711630549890431 tw1207541514482335410 tw8030330558683377969 tw6347627931079684098 tw4107423740566720949 tw3098752485224551368 tw11105100765130915321 tw6025261697507038762 tw5354414475754624599 tw3545176971792045598 tw12598181408870065977 tw1234038303276807853 tw15911058393068785490 tw5615551057666391572 tw9739323117087090744 tw1782460798142637347 tw2640309150324302524 tw12843600702743740138 tw13404193395553419424 tw8637481732801803001 tw8395300986709097428 tw796370739155480267 tw7703568813652236505 tw6141708278159493434 tw3371148558141584082 tw14415091502456137734 tw1341940205655574131 tw11821279506662879495 tw6342104810996671343 tw10540612502282979728 tw7661853967608115962 tw254248132865447340 tw2076684256839162493 tw5902125802264201355 tw11928211870466452060 tw16573095231776583228 tw11699976130577573199 tw5502767311762343971 tw11452013782849527120 tw7669584079027401266:True)
open PySem PySem.W PyProof.Rows
set_option maxRecDepth 100000 in
set_option maxHeartbeats 0 in
theorem PySem.Challenge.cw_sealchain_k57_whole_copies_of_copies_holds : PySem.Challenge.rw_sealchain_k57_whole_copies_of_copies.Holds := by
 w_on; o_law; k_head; (case hw => w_witness2)
 k_fill
 refine' DL.walkB (l := PySem.Challenge.rw_sealchain_k57_whole_copies_of_copies) (k := 18) (x := ("_law_script" : PySem.Str)) (f := Lw.F_law) (L := [(("in_order" : PySem.Str), ?t0), (("has_seal" : PySem.Str), ?t1), (("is_first_death" : PySem.Str), ?t2), (("bases_by" : PySem.Str), ?t3), (("as_heard" : PySem.Str), ?t4)]) rfl rfl ⟨rfl, by decide, by decide⟩ (fun w h Y => PySem.W.km_in_of Y) ?T ?D ?F Lw.law_true
 case T =>
  intro w
  refine' DL.tabs_fit ?h0 ?h1 ?h2 ?h3 ?h4 ?ap ?nt
  (case h0 => refine' DL.tab_yes ?a ?l ?c ?m ?v; (case a => k_is); (case l => k_is); (case c => exact rfl); (case m => k_is); (case v => exact rfl))
  (case h1 => refine' DL.tab_yes ?a ?l ?c ?m ?v; (case a => k_is); (case l => k_is); (case c => exact rfl); (case m => k_is); (case v => exact rfl))
  (case h2 => refine' DL.tab_yes ?a ?l ?c ?m ?v; (case a => k_is); (case l => k_is); (case c => exact rfl); (case m => k_is); (case v => exact rfl))
  (case h3 => refine' DL.tab_yes ?a ?l ?c ?m ?v; (case a => k_is); (case l => k_is); (case c => exact rfl); (case m => k_is); (case v => exact rfl))
  (case h4 => refine' DL.tab_no ?a; (case a => k_is))
  (case ap => decide)
  (case nt => kernel_rfl)
 case D => kernel_rfl
 case F =>
  intro w mg fa h KX G hmg
  refine' Lw.head ⟨⟨h, KX, G⟩, ?d0, ?d1, ?d2, ?d3, ?d4, ?d5, ?d6, ?d7, ?d8, ?d9, ?d10, ?d11, ?d12, ?d13, ?d14, ?d15, ?d16, ?d17, ?d18, ?d19, ?d20, ?d21, ?d22, ?d23, ?d24, ?d25, ?d26, ?d27, ?d28, ?d29, ?d30, ?d31, ?d32, ?d33, ?d34, ?d35, ?d36, ?d37, ?d38, ?d39, ?d40, ?d41, ?d42, ?d43, ?d44, ?d45, ?d46, ?d47, ?d48, ?d49, ?d50, ?d51, ?d52, ?d53, ?d54, ?d55, ?d56, ?d57, ?d58, ?d59, ?d60, ?d61, ?d62, ?d63, ?d64, ?d65, ?d66, ?d67, ?d68, ?d69, ?d70, ?d71, ?d72, ?d73, ?d74, ?d75, ?d76, ?d77, ?d78, ?d79, ?d80, ?d81, ?d82, ?d83, ?d84, ?d85, ?d86, ?d87, PySem.W.mg_none_of KX G ?z0, PySem.W.mg_none_of KX G ?z1, PySem.W.mg_none_of KX G ?z2, PySem.W.mg_none_of KX G ?z3, PySem.W.mg_none_of KX G ?z4, PySem.W.mg_none_of KX G ?z5, PySem.W.mg_none_of KX G ?z6, PySem.W.mg_none_of KX G ?z7, PySem.W.mg_none_of KX G ?z8, PySem.W.mg_none_of KX G ?z9, PySem.W.mg_none_of KX G ?z10, PySem.W.mg_none_of KX G ?z11, PySem.W.mg_none_of KX G ?z12, PySem.W.mg_none_of KX G ?z13, PySem.W.mg_none_of KX G ?z14, PySem.W.mg_none_of KX G ?z15, PySem.W.mg_none_of KX G ?z16, PySem.W.mg_none_of KX G ?z17, DL.kc_of KX G ?k0, DL.kc_of KX G ?k1, DL.kc_of KX G ?k2, DL.kc_of KX G ?k3, DL.kc_of KX G ?k4, DL.kc_of KX G ?k5, DL.kc_of KX G ?k6, DL.kc_of KX G ?k7, DL.kd_of KX G ?k8, DL.kc_of KX G ?k9, DL.kc_of KX G ?k10, DL.kc_of KX G ?k11, ?q0, ?q1, ?q2, ?q3⟩ hmg
  iterate 83 (refine' DL.def_mk ?a ?l ?c ?k; (case a => k_is); (case l => k_is); (case c => k_is); (case k => k_is))
  (case d83 => refine' DL.defD_mk ?a ?l ?c ?k ?t; (case a => k_is); (case l => k_is); (case c => k_is); (case k => k_is); (case t => k_is))
  iterate 4 (refine' DL.def_mk ?a ?l ?c ?k; (case a => k_is); (case l => k_is); (case c => k_is); (case k => k_is))
  (case z0 => k_is)
  (case z1 => k_is)
  (case z2 => k_is)
  (case z3 => k_is)
  (case z4 => k_is)
  (case z5 => k_is)
  (case z6 => k_is)
  (case z7 => k_is)
  (case z8 => k_is)
  (case z9 => k_is)
  (case z10 => k_is)
  (case z11 => k_is)
  (case z12 => k_is)
  (case z13 => k_is)
  (case z14 => k_is)
  (case z15 => k_is)
  (case z16 => k_is)
  (case z17 => k_is)
  (case k0 => refine' DL.const_int ?e; (case e => k_is))
  (case k1 => refine' DL.const_int ?e; (case e => k_is))
  (case k2 => refine' DL.const_int ?e; (case e => k_is))
  (case k3 => refine' DL.const_int ?e; (case e => k_is))
  (case k4 => refine' DL.const_int ?e; (case e => k_is))
  (case k5 => refine' DL.const_int ?e; (case e => k_is))
  (case k6 => refine' DL.const_int ?e; (case e => k_is))
  (case k7 => refine' DL.const_tup ?e ?l ?v; (case e => k_is); (case l => k_is); (case v => decide +kernel))
  (case k8 => refine' DL.const_dict ?e ?l ?r ?s; (case e => k_is); (case l => k_is); (case r => refine' (DL.CRows.tup rfl ?l0 ?f0 (DL.CRows.tup rfl ?l1 ?f1 (DL.CRows.tup rfl ?l2 ?f2 (DL.CRows.tup rfl ?l3 ?f3 (DL.CRows.tup rfl ?l4 ?f4 (DL.CRows.tup rfl ?l5 ?f5 (DL.CRows.tup rfl ?l6 ?f6 (DL.CRows.tup rfl ?l7 ?f7 (DL.CRows.tup rfl ?l8 ?f8 (DL.CRows.tup rfl ?l9 ?f9 (DL.CRows.tup rfl ?l10 ?f10 (DL.CRows.tup rfl ?l11 ?f11 DL.CRows.nil)))))))))))); (case l0 => k_is); (case f0 => decide +kernel); (case l1 => k_is); (case f1 => decide +kernel); (case l2 => k_is); (case f2 => decide +kernel); (case l3 => k_is); (case f3 => decide +kernel); (case l4 => k_is); (case f4 => decide +kernel); (case l5 => k_is); (case f5 => decide +kernel); (case l6 => k_is); (case f6 => decide +kernel); (case l7 => k_is); (case f7 => decide +kernel); (case l8 => k_is); (case f8 => decide +kernel); (case l9 => k_is); (case f9 => decide +kernel); (case l10 => k_is); (case f10 => decide +kernel); (case l11 => k_is); (case f11 => decide +kernel)); (case s => decide +kernel))
  (case k9 => refine' DL.const_tup ?e ?l ?v; (case e => k_is); (case l => k_is); (case v => decide +kernel))
  (case k10 => refine' DL.const_tup ?e ?l ?v; (case e => k_is); (case l => k_is); (case v => decide +kernel))
  (case k11 => refine' DL.const_tup ?e ?l ?v; (case e => k_is); (case l => k_is); (case v => decide +kernel))
  (case q0 => refine' DL.lam_mk ?a ?l ?c ?m ?v1 ?v2 ?v3 ?v4 ?v5 ?v6 ?v7; (case a => k_is); (case l => k_is); (case c => exact rfl); (case m => k_is); (case v1 => exact rfl); (case v2 => exact rfl); (case v3 => exact rfl); (case v4 => exact rfl); (case v5 => exact rfl); (case v6 => exact rfl); (case v7 => decide))
  (case q1 => refine' DL.lam_mk ?a ?l ?c ?m ?v1 ?v2 ?v3 ?v4 ?v5 ?v6 ?v7; (case a => k_is); (case l => k_is); (case c => exact rfl); (case m => k_is); (case v1 => exact rfl); (case v2 => exact rfl); (case v3 => exact rfl); (case v4 => exact rfl); (case v5 => exact rfl); (case v6 => exact rfl); (case v7 => decide))
  (case q2 => refine' DL.lam_mk ?a ?l ?c ?m ?v1 ?v2 ?v3 ?v4 ?v5 ?v6 ?v7; (case a => k_is); (case l => k_is); (case c => exact rfl); (case m => k_is); (case v1 => exact rfl); (case v2 => exact rfl); (case v3 => exact rfl); (case v4 => exact rfl); (case v5 => exact rfl); (case v6 => exact rfl); (case v7 => decide))
  (case q3 => refine' DL.lam_mk ?a ?l ?c ?m ?v1 ?v2 ?v3 ?v4 ?v5 ?v6 ?v7; (case a => k_is); (case l => k_is); (case c => exact rfl); (case m => k_is); (case v1 => exact rfl); (case v2 => exact rfl); (case v3 => exact rfl); (case v4 => exact rfl); (case v5 => exact rfl); (case v6 => exact rfl); (case v7 => decide))

